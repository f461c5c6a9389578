import PyProof.Rows.All
import Wide.All
import OpenK.AllK
import Wide.FinOn
import Lean
import PyProof.EqAt
import PyProof.EqKinds
import PyProof.TupleCall
import PyProof.StrWalks
import PyProof.Rows.SumAny
import PyProof.ConsumeWalk
import PyProof.Rows.StrJoin2
import PyProof.StrLaws
import PyProof.StrCalls
import PyProof.Rows.StrCountLaw
import Wide.Txt
import PyProof.EnumMake
import PyProof.Rows.EnumRows
import PyProof.Rows.StrRev
import PyProof.Rows.MinMaxN
import PyProof.Rows.Range3
import PyProof.MinMaxWalk
import PyProof.Rows.CallKwBuiltin
import PyProof.AutoSeq1
import PyProof.Draws
import PyProof.ToksMono
import PyProof.StrCalls6
import PyProof.Rows.StrStrike
import PyProof.ListMulRoad
import PyProof.FactsAll.tuple_2
import OpenK.KCls
import PyProof.ZipIter
import PyProof.Rows.StrPadWhole
import PyProof.StationsW
import PyProof.RulesAs
import PyProof.NsDelKeeps
import PyProof.ExcBaseAll.ValueError
import OpenK.KOwn
import KE.KIsAll
import PyProof.ExcArgs
import PyProof.StrLawsTight
import PyProof.StrLawsChain
import PyProof.StrCalls2
import PyProof.Rows.StrItems
import PyProof.Rows.RuleDivmod
import OpenK.ZGo
import PySem.Challenge.RW_inkform_k17_a_grid
set_option compiler.extract_closed false
noncomputable section
set_option genSizeOf false
set_option Elab.async false
set_option linter.all false
set_option maxRecDepth 100000
section
namespace L2
open PySem PySem.Spec PyProof.Rows
noncomputable abbrev Key:=Sum Int Str
noncomputable def keyIs:Key→Value→Bool
  | .inl k,v=>Value.isInt k v
  | .inr x,v=>Value.isStrOf x v
noncomputable def keyH (w:World):Key→Int
  | .inl k=>hashInt k
  | .inr x=>hashStr w x
theorem keyIs_shape : ∀ {k:Key} {v:Value},keyIs k v=true→(∃ i t,k=Sum.inl i∧v=Value.int i t)∨(∃ x t,k=Sum.inr x∧v=Value.str x t)
  | .inl i,v,h=>by
    obtain ⟨t,e⟩:=Value.isInt_shape (k:=i) (v:=v) h
    exact .inl ⟨i,t,rfl,e⟩
  | .inr x,v,h=>by
    obtain ⟨t,e⟩:=Value.isStrOf_shape (x:=x) (v:=v) h
    exact .inr ⟨x,t,rfl,e⟩
theorem key_ll (a b:Int):decide ((Sum.inl a:Key)=Sum.inl b)=(a == b):=by
  by_cases e:a=b
  · subst e; simp
  · have h : ¬ (Sum.inl a:Key)=Sum.inl b:=fun q=>e (Sum.inl.inj q)
    rw [decide_eq_false h]
    exact (beq_eq_false_iff_ne.mpr e).symm
theorem key_rr (a b:Str):decide ((Sum.inr a:Key)=Sum.inr b)=decide (a=b):=by
  by_cases e:a=b
  · subst e; simp
  · have h : ¬ (Sum.inr a:Key)=Sum.inr b:=fun q=>e (Sum.inr.inj q)
    rw [decide_eq_false h,decide_eq_false e]
theorem key_lr (a:Int)(b:Str):decide ((Sum.inl a:Key)=Sum.inr b)=false:=decide_eq_false (fun q=>nomatch q)
theorem key_rl (a:Str)(b:Int):decide ((Sum.inr a:Key)=Sum.inl b)=false:=decide_eq_false (fun q=>nomatch q)
noncomputable def mixKind (prog:Program)(w:World):PySem.KeyKind prog w Key where
  is:=keyIs
  hash:=keyH w
  inj:=fun v a b ha hb=>by
    rcases keyIs_shape ha with ⟨i,t,rfl,rfl⟩ | ⟨x,t,rfl,rfl⟩
    · rcases keyIs_shape hb with ⟨j,u,rfl,e⟩ | ⟨y,u,rfl,e⟩
      · injection e with e1 _; rw [e1]
      · exact nomatch e
    · rcases keyIs_shape hb with ⟨j,u,rfl,e⟩ | ⟨y,u,rfl,e⟩
      · exact nomatch e
      · injection e with e1 _; rw [e1]
  byValue:=fun k v h=>by
    rcases keyIs_shape h with ⟨i,t,rfl,rfl⟩ | ⟨x,t,rfl,rfl⟩ <;> rfl
  pyHash:=fun hv h=>by
    rcases keyIs_shape hv with ⟨i,t,rfl,rfl⟩ | ⟨x,t,rfl,rfl⟩
    · exact wpAny_pyHash_int h
    · exact wpAny_pyHash_str h
  eqBool:=fun hu hv h=>by
    rcases keyIs_shape hu with ⟨i,t,rfl,rfl⟩ | ⟨x,t,rfl,rfl⟩
    · rcases keyIs_shape hv with ⟨j,u,rfl,rfl⟩ | ⟨y,u,rfl,rfl⟩
      · rw [key_ll] at h; exact wpAny_eqBool_int h
      · rw [key_lr] at h; exact SeqAt.EqAt.int_str i t y u _ _ _ _ h
    · rcases keyIs_shape hv with ⟨j,u,rfl,rfl⟩ | ⟨y,u,rfl,rfl⟩
      · rw [key_rl] at h; exact SeqAt.EqAt.str_int x t j u _ _ _ _ h
      · rw [key_rr] at h; exact wpAny_eqBool_str h
  «strs»:=fun k x t v h=>by
    rcases keyIs_shape h with ⟨i,u,rfl,e⟩ | ⟨y,u,rfl,e⟩
    · exact nomatch e
    · injection e with e1 _
      subst e1
      cases v <;> rfl
end L2
namespace L2
open PySem PySem.Spec PyProof.Rows
inductive V where
  | non | bl (b:Bool) | int (i:Int) | str (x:Str) | byt (b:Array UInt8) | flt (b:UInt64) | ref (a:Addr) | ty (n:String)
  deriving DecidableEq
noncomputable def RelV:V→Value→Prop
  | .non,u=>u=Value.none
  | .bl b,u=>u=Value.bool b
  | .int i,u=>∃ t,u=Value.int i t
  | .str x,u=>∃ t,u=Value.str x t
  | .byt b,u=>∃ t,u=Value.bytes b t
  | .flt b,u=>∃ t,u=Value.float b t
  | .ref a,u=>u=Value.ref a
  | .ty n,u=>u=Value.type n
noncomputable abbrev Vals:List V→List Value→Prop:=Paired RelV
theorem Vals.length {xs:List V}{us:List Value}(r:Vals xs us):xs.length=us.length:=Paired.length r
theorem Vals.get : ∀ {xs:List V} {us:List Value} {i:Nat} {x:V},Vals xs us→xs[i]?=some x→∃ u,us[i]?=some u∧RelV x u
  | _,_,_,_,.nil,e=>by simp at e
  | _,_,0,_,.cons r _,e=>by simp at e; subst e; exact ⟨_,rfl,r⟩
  | _,_,i+1,x,.cons _ t,e=>by
    obtain ⟨u,h1,h2⟩:=Vals.get (i:=i) (x:=x) t (by simpa using e)
    exact ⟨u,by simpa using h1,h2⟩
theorem Vals.set {x:V}{u:Value}(r:RelV x u) : ∀ {xs:List V} {us:List Value} (i:Nat),Vals xs us→Vals (xs.set i x) (us.set i u)
  | _,_,_,.nil=>.nil
  | _,_,0,.cons _ t=>.cons r t
  | _,_,i+1,.cons q t=>.cons q (Vals.set r i t)
theorem Vals.append : ∀ {xs ys:List V} {us ws:List Value},Vals xs us→Vals ys ws→Vals (xs++ys) (us++ws)
  | _,_,_,_,.nil,s=>s
  | _,_,_,_,.cons r t,s=>.cons r (Vals.append t s)
theorem Vals.take : ∀ {xs:List V} {us:List Value} (n:Nat),Vals xs us→Vals (xs.take n) (us.take n)
  | _,_,0,_=>.nil
  | _,_,_+1,.nil=>.nil
  | _,_,n+1,.cons r t=>.cons r (Vals.take n t)
theorem Vals.drop : ∀ {xs:List V} {us:List Value} (n:Nat),Vals xs us→Vals (xs.drop n) (us.drop n)
  | _,_,0,r=>r
  | _,_,_+1,.nil=>.nil
  | _,_,n+1,.cons _ t=>Vals.drop n t
noncomputable def RelO:Option V→Option Value→Prop
  | some v,some u=>RelV v u
  | none,none=>True
  | _,_=>False
noncomputable def KV {κ:Type}:List (κ × V)→List (κ × Value)→Prop:=Paired fun (p : κ × V) (q : κ × Value)=>p.1=q.1∧RelV p.2 q.2
noncomputable def kV:Key→V
  | .inl i=>.int i
  | .inr x=>.str x
inductive HO where
    | lst (xs:List V)
    | tup (xs:List V)
    | dK (kvs:List (Key × V)) | dT (kvs:List (List Key × V))
    | set (S:Int→Bool) (n:Nat)
    | ins (C dx:Addr) (fs:List (Str × V))
    | own (x:Addr)
    | xd (fs:List (Str × V))
    | met (f x:Addr)
    | rng (lo hi:Int)
    | frz (o:Obj) (u:HO)
    | tbl (ps:Array Value)
    | ext (φ:Heap→Prop)
noncomputable abbrev Hp:=Addr→Option HO
noncomputable def upd (H:Hp)(a:Addr)(o:HO):Hp:=fun b=>if b=a then some o else H b
theorem upd_same {H:Hp}{a:Addr}{o:HO}:upd H a o a=some o:=by unfold upd; rw [if_pos rfl]
theorem upd_ne {H:Hp}{a b:Addr}{o:HO}(h:b≠a):upd H a o b=H b:=by unfold upd; rw [if_neg h]
theorem ne_of_none {H:Hp}{a b:Addr}{o:HO}(h:H a=some o)(h':H b=none):a≠b:=by
  intro e; subst e; rw [h] at h'; cases h'
section
variable (P:Program)(w:World)
noncomputable def ObjOk (H:Hp)(h:Heap)(a:Addr):HO→Prop
  | .lst xs=>xs.length≤sizeLine∧∃ (its:List Value) (n:Nat),Vals xs its∧h.get? a=some { cls:=.type "list",data:=.seq its.toArray n }
  | .tup xs=>xs.length≤sizeLine∧∃ its:List Value,Vals xs its∧IsTup h a its.toArray
  | .dK kvs=>kvs.length≤sizeLine∧(a == sysModules)=false∧∃ vs,KV kvs vs∧h.DictOf (mixKind P w) a vs
  | .dT kvs=>kvs.length≤sizeLine∧(a == sysModules)=false∧∃ xs:List (List Key × Addr × Value),
      Paired (fun (p:List Key × V) (q:List Key × Addr × Value)=>p.1=q.1∧H q.2.1=some (.tup (p.1.map kV))∧RelV p.2 q.2.2) kvs xs ∧
      ∃ o es ep,h.get? a=some o∧o.ExactDict∧o.data=.dict es ep∧es.toList=xs.map (entryOfKey (tupleKind (mixKind P w)))∧(xs.map (·.1)).Nodup
  | .set S n=>h.SetOf (intKind P w) a S n
  | .ins C dx fs=>H dx=some (.own a)∧fs.length≤1000∧dx≠a∧h.get? a=some (PySem.W.instObj C dx) ∧
      ∃ mA,h.Ns1 dx mA∧(∀ f,RelO (fs.lookup f) (mA f))∧PySem.Within mA (fs.map (·.1))
  | .own _=>∃ o,h.get? a=some o
  | .xd fs=>∃ mA,h.Ns1 a mA∧∀ f,RelO (fs.lookup f) (mA f)
  | .rng lo hi=>∃ t u v,h.get? a=some { cls:=.type "range",data:=.fields #[.int lo t,.int hi u,.int 1 v] }
  | .frz o u=>h.get? a=some o∧ObjOk H h a u
  | .tbl ps=>h.get? a=some { cls:=.none,data:=.fields ps }
  | .met f x=>h.get? a=some (PySem.W.methodObj (.ref f) (.ref x))
  | .ext φ=>φ h∧(∃ o,h.get? a=some o)∧∀ h1 h2:Heap, φ h1→(∀ o,h1.get? a=some o→h2.get? a=some o)→φ h2
noncomputable def HOk (H:Hp)(h:Heap):Prop:=∀ a o,H a=some o→ObjOk P w H h a o
end
section
variable {P:Program}{w:World}{H H':Hp}{h h':Heap}{a:Addr}{o:HO}
theorem ObjOk.lt (x:ObjOk P w H h a o):a<h.objs.size:=by
  cases o with
  | lst xs=>obtain ⟨_,_,_,_,e⟩:=x; exact Heap.lt_size e
  | tup xs=>obtain ⟨_,_,_,p⟩:=x; exact p.lt
  | dK kvs=>obtain ⟨_,_,_,_,o,_,_,e,_⟩:=x; exact Heap.lt_size e
  | dT kvs=>obtain ⟨_,_,_,_,o,_,_,e,_⟩:=x; exact Heap.lt_size e
  | set S n=>obtain ⟨o,_,_,_,e,_⟩:=x; exact Heap.lt_size e
  | ins C dx fs=>obtain ⟨_,_,_,e,_⟩:=x; exact Heap.lt_size e
  | own y=>obtain ⟨_,e⟩:=x; exact Heap.lt_size e
  | xd fs=>obtain ⟨_,⟨_,_,_,e,_⟩,_⟩:=x; exact Heap.lt_size e
  | rng lo hi=>obtain ⟨_,_,_,e⟩:=x; exact Heap.lt_size e
  | frz ob u=>obtain ⟨e,_⟩:=x; exact Heap.lt_size e
  | tbl ps=>exact Heap.lt_size (show h.get? a=some _ from x)
  | met f y=>exact Heap.lt_size (show h.get? a=some _ from x)
  | ext φ=>obtain ⟨_,⟨_,e⟩,_⟩:=x; exact Heap.lt_size e
theorem Paired.mapP {α β:Type}{F G : α→β→Prop} : ∀ {l₁:List α} {l₂:List β},Paired F l₁ l₂→(∀ a b,F a b→G a b)→Paired G l₁ l₂
  | _,_,.nil,_=>.nil
  | _,_,.cons r t,f=>.cons (f _ _ r) (Paired.mapP t f)
theorem ObjOk.stay (x:ObjOk P w H h a o)(k : ∀ b u,(b=a∨H b=some (.own a))→h.get? b=some u→h'.get? b=some u)
    (ho : ∀ b,H b=some (.own a)→H' b=some (.own a)) (ht : ∀ b xs,H b=some (.tup xs)→H' b=some (.tup xs)):ObjOk P w H' h' a o:=by
  induction o with
  | lst xs=>obtain ⟨z,its,n,r,e⟩:=x; exact ⟨z,its,n,r,k _ _ (.inl rfl) e⟩
  | tup xs=>obtain ⟨z,its,r,ob,e,c⟩:=x; exact ⟨z,its,r,ob,k _ _ (.inl rfl) e,c⟩
  | dK kvs=>obtain ⟨z,y,vs,r,ob,es,ep,e,c⟩:=x; exact ⟨z,y,vs,r,ob,es,ep,k _ _ (.inl rfl) e,c⟩
  | dT kvs =>
    obtain ⟨z,y,xs,r,ob,es,ep,e,c⟩:=x
    exact ⟨z,y,xs,Paired.mapP r fun p q z=>⟨z.1,ht _ _ z.2.1,z.2.2⟩,ob,es,ep,k _ _ (.inl rfl) e,c⟩
  | set S n=>obtain ⟨ob,es,ep,t,e,c⟩:=x; exact ⟨ob,es,ep,t,k _ _ (.inl rfl) e,c⟩
  | ins C dx fs =>
    obtain ⟨d,z,ne,e,mA,⟨od,es,ep,e2,c⟩,r⟩:=x
    exact ⟨ho _ d,z,ne,k _ _ (.inl rfl) e,mA,⟨od,es,ep,k _ _ (.inr d) e2,c⟩,r⟩
  | own y=>obtain ⟨ob,e⟩:=x; exact ⟨ob,k _ _ (.inl rfl) e⟩
  | xd fs=>obtain ⟨mA,⟨od,es,ep,e,c⟩,r⟩:=x; exact ⟨mA,⟨od,es,ep,k _ _ (.inl rfl) e,c⟩,r⟩
  | rng lo hi=>obtain ⟨t,u,v,e⟩:=x; exact ⟨t,u,v,k _ _ (.inl rfl) e⟩
  | frz ob u ih=>obtain ⟨e,q⟩:=x; exact ⟨k _ _ (.inl rfl) e,ih q⟩
  | tbl ps =>
    have e:h.get? a=some { cls:=.none,data:=.fields ps }:=x
    show h'.get? a=some { cls:=.none,data:=.fields ps }
    exact k a _ (.inl rfl) e
  | met f y =>
    have e:h.get? a=some (PySem.W.methodObj (.ref f) (.ref y)):=x
    show h'.get? a=some (PySem.W.methodObj (.ref f) (.ref y))
    exact k a _ (.inl rfl) e
  | ext φ=>obtain ⟨p,⟨o,e⟩,st⟩:=x; exact ⟨st _ _ p fun o q=>k _ _ (.inl rfl) q,⟨o,k _ _ (.inl rfl) e⟩,st⟩
theorem HOk.lt (x:HOk P w H h)(e:H a=some o):a<h.objs.size:=(x a o e).lt
theorem HOk.fresh (x:HOk P w H h)(e:h.objs.size≤a):H a=none:=by
  cases q:H a with
  | none=>rfl
  | some u=>exact absurd (Nat.lt_of_lt_of_le (x.lt q) e) (Nat.lt_irrefl _)
theorem HOk.kept (x:HOk P w H h)(k : ∀ b u,h.get? b=some u→h'.get? b=some u):HOk P w H h':=fun a o e =>
  (x a o e).stay (fun b u _ q=>k b u q) (fun _ q=>q) fun _ _ q=>q
theorem HOk.laid (x:HOk P w H h)(k : ∀ b u,h.get? b=some u→h'.get? b=some u)(hp:h.objs.size≤a)(new:ObjOk P w (upd H a o) h' a o):HOk P w (upd H a o) h':=fun b u e=>by
  have hn:=x.fresh hp
  by_cases hb:b=a
  · subst hb; rw [upd_same] at e; cases e; exact new
  · rw [upd_ne hb] at e
    exact (x b u e).stay (fun c v _ q=>k c v q) (fun c q=>by rw [upd_ne (ne_of_none q hn)]; exact q) fun c xs q=>by rw [upd_ne (ne_of_none q hn)]; exact q
end
noncomputable def Rd (H:Hp)(a:Addr)(u:HO):Prop:=H a=some u∨∃ o,H a=some (.frz o u)
theorem Rd.ok {P:Program}{w:World}{H:Hp}{h:Heap}{a:Addr}{u:HO}(r:Rd H a u)(x:HOk P w H h):ObjOk P w H h a u:=by
  rcases r with r | ⟨o,r⟩
  · exact x a u r
  · obtain ⟨_,q⟩:=x a _ r
    exact q
noncomputable def Mut:Option HO→Prop
  | some (.lst _)=>True
  | some (.dK _)=>True
  | some (.dT _)=>True
  | some (.set _ _)=>True
  | some (.ins _ _ _)=>True
  | some (.ext _)=>True
  | _=>False
section
variable {P:Program}{w:World}{H:Hp}{h h':Heap}{x e:Addr}{o':HO}
theorem HOk.write (ok:HOk P w H h)(mu:Mut (H x))(he:e=x∨H e=some (.own x))(k : ∀ b u,b≠e→h.get? b=some u→h'.get? b=some u)(heo : ∃ u,h'.get? e=some u)
    (new:ObjOk P w (upd H x o') h' x o'):HOk P w (upd H x o') h':=fun b u q=>by
  have nown : ∀ c y,H c=some (.own y)→c≠x:=fun c y r z=>by subst z; rw [r] at mu; exact mu
  have ntup : ∀ c xs,H c=some (.tup xs)→c≠x:=fun c xs r z=>by subst z; rw [r] at mu; exact mu
  by_cases hb:b=x
  · subst hb; rw [upd_same] at q; cases q; exact new
  · rw [upd_ne hb] at q
    by_cases hbe:b=e
    · have q':H b=some (.own x):=by
        rcases he with z | z
        · exact absurd (hbe.trans z) hb
        · rw [hbe]; exact z
      rw [q] at q'; cases q'
      obtain ⟨v,hv⟩:=heo
      exact ⟨v,by rw [hbe]; exact hv⟩
    · refine (ok b u q).stay (fun c v hc r=>k c v ?_ r) (fun c r=>by rw [upd_ne (nown c b r)]; exact r) fun c xs r=>by rw [upd_ne (ntup c xs r)]; exact r
      rcases hc with rfl | hc
      · exact hbe
      · rintro rfl
        rcases he with z | z
        · exact nown c b hc z
        · rw [hc] at z; cases z; exact hb rfl
end
structure Un (fs ex:List Addr)(H H':Hp)(h h':Heap):Prop where
  keep : ∀ b o,h.get? b=some o→H b=none→b ∉ fs→b ∉ ex→h'.get? b=some o
  slot : ∀ b o,h.get? b=some o→H b=none→b∈fs→b ∉ ex→∃ sl,h'.get? b=some { o with slots:=sl }
  free : ∀ b o,h.get? b=some o→H b=none→b ∉ ex→H' b=none
  there : ∀ b o,h.get? b=some o→b ∉ ex→∃ o',h'.get? b=some o'
  tups : ∀ b xs,H b=some (.tup xs)→H' b=some (.tup xs)
  frzs : ∀ b o u,H b=some (.frz o u)→H' b=some (.frz o u)
  tbls : ∀ b ps,H b=some (.tbl ps)→∃ more,H' b=some (.tbl (ps++more))
section
variable {fs fs' ex ex':List Addr}{H H1 H2:Hp}{h h1 h2 h':Heap}{a x e:Addr}{o:HO}
theorem Un.any (u:Un fs ex H H1 h h1){b:Addr}{ob:Obj}(q:h.get? b=some ob)(n:H b=none)(hx:b ∉ ex) : ∃ sl,h1.get? b=some { ob with slots:=sl }:=by
  by_cases hb:b∈fs
  · exact u.slot b ob q n hb hx
  · exact ⟨ob.slots,u.keep b ob q n hb hx⟩
theorem Un.kept (k : ∀ b u,h.get? b=some u→h'.get? b=some u):Un fs ex H H h h' :=
  ⟨fun b ob q _ _ _=>k b ob q,fun b ob q _ _ _=>⟨ob.slots,k b ob q⟩,fun _ _ _ n _=>n,fun b ob q _=>⟨ob,k b ob q⟩,fun _ _ q=>q,fun _ _ _ q=>q,fun _ ps q=>⟨#[],by rw [q]; simp⟩⟩
theorem Un.refl:Un fs ex H H h h:=Un.kept fun _ _ q=>q
theorem Un.laid (k : ∀ b u,h.get? b=some u→h'.get? b=some u)(hp:h.objs.size≤a)(hn:H a=none):Un fs ex H (upd H a o) h h' where
  keep:=fun b u q _ _ _=>k b u q
  slot:=fun b u q _ _ _=>⟨u.slots,k b u q⟩
  free:=fun b u q n _=>by rw [upd_ne (Nat.ne_of_lt (Nat.lt_of_lt_of_le (Heap.lt_size q) hp))]; exact n
  there:=fun b u q _=>⟨u,k b u q⟩
  tups:=fun b xs q=>by rw [upd_ne (ne_of_none q hn)]; exact q
  frzs:=fun b u xs q=>by rw [upd_ne (ne_of_none q hn)]; exact q
  tbls:=fun b ps q=>⟨#[],by rw [upd_ne (ne_of_none q hn),q]; simp⟩
theorem Un.write (mu:Mut (H x))(he:e=x∨H e=some (.own x))(k : ∀ b u,b≠e→h.get? b=some u→h'.get? b=some u)(heo : ∃ u,h'.get? e=some u):Un fs ex H (upd H x o) h h':=by
  have hx : ∀ b,H b=none→b≠x:=fun b n z=>by subst z; rw [n] at mu; exact mu
  have hb : ∀ b,H b=none→b≠e:=fun b n z=>by
    subst z
    rcases he with r | r
    · exact hx b n r
    · rw [n] at r; cases r
  have hm : ∀ b u,H b=some u→¬ Mut (some u)→b≠x:=fun b u q nm z=>by subst z; rw [q] at mu; exact nm mu
  refine ⟨fun b u q n _ _=>k b u (hb b n) q,fun b u q n _ _=>⟨u.slots,k b u (hb b n) q⟩,fun b u q n _=>by rw [upd_ne (hx b n)]; exact n,fun b u q _=>?_,
    fun b xs q=>by rw [upd_ne (hm b _ q fun z=>z)]; exact q,fun b u xs q=>by rw [upd_ne (hm b _ q fun z=>z)]; exact q,fun b ps q=>⟨#[],by rw [upd_ne (hm b _ q fun z=>z),q]; simp⟩⟩
  by_cases hbe:b=e
  · subst hbe; exact heo
  · exact ⟨u,k b u hbe q⟩
end
noncomputable def trk (h:Heap)(H:Hp):List Addr:=(List.range h.objs.size).filter fun a=>(H a).isSome
noncomputable def hidT (h:Heap)(H:Hp):Heap:=PySem.W.hideAll h (trk h H)
theorem hidT_size (h:Heap)(H:Hp):(hidT h H).objs.size=h.objs.size:=PySem.W.hideAll_size _ _
theorem hidT_get {h:Heap}{H:Hp}{b:Addr}{o:Obj}(e:h.get? b=some o)(n:H b=none):(hidT h H).get? b=some o :=
  PySem.W.hideAll_get _ e fun hm=>by
    have q:(H b).isSome=true:=(List.mem_filter.mp hm).2
    rw [n] at q; simp at q
theorem of_hidT {h:Heap}{H:Hp}{b:Addr}{o:Obj}(e:(hidT h H).get? b=some o):h.get? b=some o∧H b=none:=by
  have e':h.get? b=some o:=PySem.W.of_hideAll (trk h H) e
  refine ⟨e', ?_⟩
  cases q:H b with
  | none=>rfl
  | some x =>
    have hm:b∈trk h H:=List.mem_filter.mpr ⟨List.mem_range.mpr (Heap.lt_size e'),by simp [q]⟩
    have z:(hidT h H).get? b=none:=PySem.W.hideAll_none (trk h H) hm
    rw [z] at e; cases e
end L2
namespace L2
open PySem PySem.Spec PyProof.Rows
structure Mod (K:PySem.W.Frag)(mg:Str→Option Value)(base:Heap):Prop where
  kin:K.In base
  glob:base.Ns mainGlobals mg
  blt : ∃ mb,base.Ns builtinsNs mb∧∀ x:Str,x≠"__name__"→mb x=bootBuiltins x
  nolimit:base.NoLimit
structure Cx where
  prog:Program
  w:World
  K:PySem.W.Frag
  mg:Str→Option Value
  base:Heap
  A:Around
  N:List Str
  s₀:Shared
  H₀:Hp
  env:Env
  outer:List Env
  stack:List Env
  ex:List Addr
  fn:Str→Bool
  calm:Bool
  pn:List (Addr × Obj)
  xe:Value→Shared→Prop
noncomputable def frs (l:List Env):List Addr:=l.filterMap (·.frame)
noncomputable abbrev Cx.fs (X:Cx):List Addr:=frs X.outer
noncomputable def Vis (sc:Scope)(x:Str):Prop:=sc.names.lookup x=some .local∨sc.names.lookup x=some .cell∨sc.names.lookup x=some .free
noncomputable def Loc (sc:Scope)(x:Str):Prop:=sc.names.lookup x=some .local∨sc.names.lookup x=some .cell
noncomputable def Look (env:Env)(h:Heap)(m:Str→Option Value)(x:Str)(u:Value):Prop :=
  (env.kindOf x=some .local∧m x=some u)∨((env.kindOf x=some .cell∨env.kindOf x=some .free)∧∃ c,env.cells.lookup x=some c∧h.IsCell c (some u))
structure Cx.Ok (X:Cx):Prop where
  mod:Mod X.K X.mg X.base
  kind:X.env.scope.kind=.function
  glob:X.env.globals=mainGlobals
  blt:X.env.builtins=builtinsNs
  above:X.s₀.heap.objs.size≤X.env.locals
  inj : ∀ x y c,X.env.cells.lookup x=some c→X.env.cells.lookup y=some c→x=y
  has : ∀ x,(X.env.kindOf x=some .cell∨X.env.kindOf x=some .free)→∃ c,X.env.cells.lookup x=some c
  cab : ∀ x c,X.fn x=true→X.env.cells.lookup x=some c→X.s₀.heap.objs.size≤c
  hd:X.calm=true→X.A.handled=none
  frames:X.A.frames=some X.stack
  stk:X.stack=X.outer∨(X.stack=X.env::X.outer∧X.env.frame=some X.env.locals)
  exf : ∀ b∈X.ex,b≠X.env.locals∧∀ x c,X.env.cells.lookup x=some c→c≠b
  bs : ∀ b o,X.base.get? b=some o→X.s₀.heap.get? b=some o∧X.H₀ b=none
  bsz:X.base.objs.size≤X.s₀.heap.objs.size
  noex : ∀ b o,X.base.get? b=some o→b ∉ X.ex
  exfs : ∀ b∈X.ex,b ∉ X.fs
  funs:X.s₀.heap.FunFrames X.base X.outer
  frf : ∀ b∈X.fs,X.H₀ b=none
structure Inv (X:Cx)(pins:List (Addr × Obj))(σ:List (Option V))(H:Hp)(s:Shared):Prop where
  ok:X.Ok
  os:s.os=X.s₀.os
  bare:AllBare s.gens
  base:Un X.fs X.ex X.H₀ H X.s₀.heap s.heap
  loc : ∃ m,s.heap.Ns X.env.locals m∧∀ (i:Nat) (x:Str) (v:V),X.N[i]?=some x→σ[i]?=some (some v)→Vis X.env.scope x→∃ u,RelV v u∧Look X.env s.heap m x u
  cell : ∀ x c,X.env.cells.lookup x=some c→∃ v,s.heap.IsCell c v
  free:H X.env.locals=none
  freeC : ∀ x c,X.env.cells.lookup x=some c→H c=none
  pin : ∀ p∈X.pn++pins,s.heap.get? p.1=some p.2∧H p.1=none∧p.1≠X.env.locals∧p.1 ∉ X.fs∧∀ v,p.2.data≠.cell v
  hok:HOk X.prog X.w H s.heap
  len : σ.length=X.N.length
section
variable {X:Cx}{pins:List (Addr × Obj)}{σ:List (Option V)}{H H':Hp}{s:Shared}{h':Heap}
theorem Cx.Ok.nofr (ok:X.Ok){b:Addr}{o:Obj}(e:X.base.get? b=some o):b ∉ X.fs:=fun hb=>by
  have:=(ok.funs.mem hb).1
  rw [e] at this; cases this
theorem Inv.bs (I:Inv X pins σ H s) : ∀ b o,X.base.get? b=some o→s.heap.get? b=some o∧H b=none:=fun b o e =>
  ⟨I.base.keep b o (I.ok.bs b o e).1 (I.ok.bs b o e).2 (I.ok.nofr e) (I.ok.noex b o e),I.base.free b o (I.ok.bs b o e).1 (I.ok.bs b o e).2 (I.ok.noex b o e)⟩
theorem Inv.bk (I:Inv X pins σ H s) : ∀ b o,X.base.get? b=some o→s.heap.get? b=some o:=fun b o e=>(I.bs b o e).1
theorem Inv.mod (I:Inv X pins σ H s):Mod X.K X.mg X.base:=I.ok.mod
theorem Inv.kIn (I:Inv X pins σ H s):X.K.In s.heap:=I.ok.mod.kin.keeps I.bk
theorem Inv.lt (I:Inv X pins σ H s):X.env.locals<s.heap.objs.size:=let ⟨_,hn,_⟩:=I.loc; hn.lt
theorem Inv.sz (I:Inv X pins σ H s):X.s₀.heap.objs.size≤s.heap.objs.size:=Nat.le_trans I.ok.above (Nat.le_of_lt I.lt)
theorem Inv.nofs (I:Inv X pins σ H s){a:Addr}(h:s.heap.objs.size≤a):a ∉ X.fs:=fun hb=>by
  obtain ⟨_,o,ho,_⟩:=I.ok.funs.mem hb
  exact absurd (Nat.lt_of_lt_of_le (Heap.lt_size ho) (Nat.le_trans I.sz h)) (Nat.lt_irrefl _)
theorem Inv.cne (I:Inv X pins σ H s) : ∀ x c,X.env.cells.lookup x=some c→c≠X.env.locals:=fun x c e z=>by
  obtain ⟨v,o,ho,hd⟩:=I.cell x c e
  obtain ⟨m,⟨o',es,ep,ho',hd',_⟩,_⟩:=I.loc
  rw [z,ho'] at ho; cases ho; rw [hd'] at hd; cases hd
theorem Inv.funs (I:Inv X pins σ H s):s.heap.FunFrames X.base X.outer:=by
  have all : ∀ (l:List Env),(∀ b∈frs l,b∈X.fs)→X.s₀.heap.FunFrames X.base l→s.heap.FunFrames X.base l:=by
    intro l
    induction l with
    | nil=>intro _ _; trivial
    | cons env r ih =>
      intro hs hl
      obtain ⟨hk,⟨L,o,hf,hn,ho,hd⟩,hr⟩:=hl
      have hL:L∈X.fs:=hs L (by unfold frs; rw [List.filterMap_cons,hf]; exact List.mem_cons_self)
      obtain ⟨sl,e⟩:=I.base.slot L o ho (I.ok.frf L hL) hL fun z=>I.ok.exfs L z hL
      exact ⟨hk,⟨L,_,hf,hn,e,hd⟩,ih (fun b hb=>hs b (by unfold frs; rw [List.filterMap_cons,hf]; exact List.mem_cons_of_mem _ hb)) hr⟩
  exact all X.outer (fun _ hb=>hb) I.ok.funs
theorem Inv.stack (I:Inv X pins σ H s):s.heap.FunFrames X.base X.stack:=by
  rcases I.ok.stk with e | ⟨e,hf⟩
  · rw [e]; exact I.funs
  · rw [e]
    obtain ⟨m,hn,_⟩:=I.loc
    refine .cons (by rw [I.ok.kind]; decide) hf hn ?_ I.funs
    exact Heap.get?_none_of_le (Nat.le_trans I.ok.bsz I.ok.above)
theorem Inv.stkSub (I:Inv X pins σ H s) : ∀ b∈frs X.stack,b∈X.env.locals::X.fs:=fun b hb=>by
  rcases I.ok.stk with e | ⟨e,hf⟩
  · rw [e] at hb; exact List.mem_cons_of_mem _ hb
  · rw [e] at hb
    unfold frs at hb
    rw [List.filterMap_cons,hf] at hb
    exact hb
theorem Inv.stkFree (I:Inv X pins σ H s) : ∀ b∈frs X.stack,H b=none:=fun b hb=>by
  rcases List.mem_cons.mp (I.stkSub b hb) with e | hb
  · rw [e]; exact I.free
  · obtain ⟨_,o,ho,_⟩:=I.ok.funs.mem hb
    exact I.base.free b o ho (I.ok.frf b hb) fun z=>I.ok.exfs b z hb
theorem Inv.step {g':Array GenState}{t':Nat}{d':Drawn}{ch:List Addr}(I:Inv X pins σ H s)
    (hch : ∀ b∈ch,(b∈X.ex∨X.s₀.heap.objs.size≤b)∧b≠X.env.locals∧(∀ x c,X.env.cells.lookup x=some c→c≠b)∧∀ p∈X.pn++pins,p.1≠b)
    (keep : ∀ b o,b≠X.env.locals→b ∉ X.fs→b ∉ ch→s.heap.get? b=some o→H b=none→h'.get? b=some o)
    (slot : ∀ b o,b≠X.env.locals→b∈X.fs→b ∉ ch→s.heap.get? b=some o→H b=none→∃ sl,h'.get? b=some { o with slots:=sl }) (free : ∀ b o,b ∉ ch→s.heap.get? b=some o→H b=none→H' b=none)
    (there : ∀ b o,b ∉ ch→s.heap.get? b=some o→∃ o',h'.get? b=some o')
    (tups : ∀ b xs,H b=some (.tup xs)→H' b=some (.tup xs)) (frzs : ∀ b o u,H b=some (.frz o u)→H' b=some (.frz o u)) (tbls : ∀ b ps,H b=some (.tbl ps)→∃ more,H' b=some (.tbl (ps++more)))
    (ns : ∀ m,s.heap.Ns X.env.locals m→h'.Ns X.env.locals m) (hok:HOk X.prog X.w H' h') (hg:AllBare g') :
    Inv X pins σ H' { s with heap:=h',gens:=g',drawn:=d',toks:=t' }:=by
  have neL : ∀ b o,X.s₀.heap.get? b=some o→b≠X.env.locals:=fun b o e=>Nat.ne_of_lt (Nat.lt_of_lt_of_le (Heap.lt_size e) I.ok.above)
  have neC : ∀ b o,X.s₀.heap.get? b=some o→b ∉ X.ex→b ∉ ch:=fun b o e hx hb=>by
    rcases (hch b hb).1 with z | z
    · exact hx z
    · exact absurd (Nat.lt_of_lt_of_le (Heap.lt_size e) z) (Nat.lt_irrefl _)
  have cellK : ∀ x c,X.env.cells.lookup x=some c→∀ v,s.heap.IsCell c v→h'.IsCell c v:=fun x c e v ⟨o,ho,hd⟩=>by
    have nch:c ∉ ch:=fun z=>(hch c z).2.2.1 x c e rfl
    by_cases hc:c∈X.fs
    · obtain ⟨sl,q⟩:=slot c o (I.cne x c e) hc nch ho (I.freeC x c e)
      exact ⟨_,q,hd⟩
    · exact ⟨o,keep c o (I.cne x c e) hc nch ho (I.freeC x c e),hd⟩
  refine ⟨I.ok,I.os,hg,⟨fun b o e n hb hx=>?_,fun b o e n hb hx=>?_,fun b o e n hx=>?_,fun b o e hx=>?_,fun b xs e=>tups b xs (I.base.tups b xs e),fun b o xs e=>frzs b o xs (I.base.frzs b o xs e),fun b ps e=>?_⟩, ?_,fun x c e=>?_, ?_,fun x c e=>?_,fun p hp=>?_,hok,I.len⟩
  · exact keep b o (neL b o e) hb (neC b o e hx) (I.base.keep b o e n hb hx) (I.base.free b o e n hx)
  · obtain ⟨sl,e1⟩:=I.base.slot b o e n hb hx
    obtain ⟨sl',e2⟩:=slot b _ (neL b o e) hb (neC b o e hx) e1 (I.base.free b o e n hx)
    exact ⟨sl',e2⟩
  · obtain ⟨o',e1⟩:=I.base.there b o e hx
    exact free b o' (neC b o e hx) e1 (I.base.free b o e n hx)
  · obtain ⟨o',e1⟩:=I.base.there b o e hx
    exact there b o' (neC b o e hx) e1
  · obtain ⟨m1,e1⟩:=I.base.tbls b ps e
    obtain ⟨m2,e2⟩:=tbls b _ e1
    exact ⟨m1++m2,by rw [e2,Array.append_assoc]⟩
  · obtain ⟨m,hn,hl⟩:=I.loc
    refine ⟨m,ns m hn,fun i x v e1 e2 e3=>?_⟩
    obtain ⟨u,r,l⟩:=hl i x v e1 e2 e3
    refine ⟨u,r, ?_⟩
    rcases l with l | ⟨k,c,e,z⟩
    · exact .inl l
    · exact .inr ⟨k,c,e,cellK x c e _ z⟩
  · obtain ⟨v,z⟩:=I.cell x c e
    exact ⟨v,cellK x c e v z⟩
  · obtain ⟨m,⟨o,_,_,ho,_⟩,_⟩:=I.loc
    exact free _ o (fun z=>(hch _ z).2.1 rfl) ho I.free
  · obtain ⟨v,o,ho,hd⟩:=I.cell x c e
    exact free c o (fun z=>(hch c z).2.2.1 x c e rfl) ho (I.freeC x c e)
  · obtain ⟨e,n,ne,nf,d⟩:=I.pin p hp
    have nch:p.1 ∉ ch:=fun z=>(hch p.1 z).2.2.2 p hp rfl
    exact ⟨keep p.1 p.2 ne nf nch e n,free p.1 p.2 nch e n,ne,nf,d⟩
theorem Inv.un {t':Nat}(I:Inv X pins σ H s)(u:Un X.fs [] H H' s.heap h')(hok:HOk X.prog X.w H' h'):Inv X pins σ H' { s with heap:=h',toks:=t' }:=by
  obtain ⟨m,⟨o,es,ep,ho,r⟩,_⟩:=id I.loc
  obtain ⟨sl,hL⟩:=u.any ho I.free (by simp)
  exact I.step (g':=s.gens) (d':=s.drawn) (ch:=[]) (fun _ z=>nomatch z) (fun b o _ hb _ e n=>u.keep b o e n hb (by simp)) (fun b o _ hb _ e n=>u.slot b o e n hb (by simp)) (fun b o _ e n=>u.free b o e n (by simp)) (fun b o _ e=>u.there b o e (by simp)) u.tups u.frzs u.tbls (fun m' hm=>by
    obtain ⟨o',es',ep',ho',r'⟩:=hm
    rw [ho] at ho'; cases ho'
    exact ⟨_,es',ep',hL,r'⟩) hok I.bare
theorem Inv.call {g':Array GenState}{t':Nat}{d':Drawn}{ch:List Addr}(I:Inv X pins σ H s)(u:Un (frs X.stack) ch H H' s.heap h')(hok:HOk X.prog X.w H' h')(hg:AllBare g')
    (hch : ∀ b∈ch,(b∈X.ex∨X.s₀.heap.objs.size≤b)∧b≠X.env.locals∧(∀ x c,X.env.cells.lookup x=some c→c≠b)∧∀ p∈X.pn++pins,p.1≠b) :
    Inv X pins σ H' { s with heap:=h',gens:=g',drawn:=d',toks:=t' }:=by
  obtain ⟨m,⟨o,es,ep,ho,r⟩,_⟩:=id I.loc
  obtain ⟨sl,hL⟩:=u.any ho I.free fun z=>(hch _ z).2.1 rfl
  exact I.step (ch:=ch) hch (fun b o hL hb hc e n=>u.keep b o e n (fun z=>(List.mem_cons.mp (I.stkSub b z)).elim hL hb) hc) (fun b o _ _ hc e n=>u.any e n hc) (fun b o hc e n=>u.free b o e n hc) (fun b o hc e=>u.there b o e hc) u.tups u.frzs u.tbls (fun m' hm=>by
    obtain ⟨o',es',ep',ho',r'⟩:=hm
    rw [ho] at ho'; cases ho'
    exact ⟨_,es',ep',hL,r'⟩) hok hg
theorem Inv.turned {t':Nat}{it:Addr}(I:Inv X pins σ H s)(k : ∀ b o,b≠it→s.heap.get? b=some o→h'.get? b=some o)(hn:H it=none)(hL:it≠X.env.locals)
    (h1:it∈X.ex∨X.s₀.heap.objs.size≤it) (h2 : ∀ x c,X.env.cells.lookup x=some c→c≠it) (h3 : ∀ p∈X.pn++pins,p.1≠it):Inv X pins σ H { s with heap:=h',toks:=t' }:=by
  have nit : ∀ b u,H b=some u→b≠it:=fun b u e z=>by rw [z,hn] at e; cases e
  refine I.step (g':=s.gens) (d':=s.drawn) (ch:=[it]) (fun b hb=>?_) (fun b o _ _ hc e _=>k b o (fun z=>hc (by simp [z])) e) (fun b o _ _ hc e _=>⟨o.slots,k b o (fun z=>hc (by simp [z])) e⟩) (fun _ _ _ _ n=>n)
    (fun b o hc e=>⟨o,k b o (fun z=>hc (by simp [z])) e⟩) (fun _ _ e=>e) (fun _ _ _ e=>e) (fun b ps e=>⟨#[],by rw [e]; simp⟩) (fun m hm=>?_) (fun b u e=>?_) I.bare
  · have e:b=it:=by simpa using hb
    subst e
    exact ⟨h1,hL,h2,h3⟩
  · obtain ⟨o,es,ep,ho,r⟩:=hm
    exact ⟨o,es,ep,k _ o (Ne.symm hL) ho,r⟩
  · refine (I.hok b u e).stay (fun c v hc q=>k c v ?_ q) (fun _ q=>q) fun _ _ q=>q
    rcases hc with z | z
    · rw [z]; exact nit b u e
    · exact nit c _ z
theorem Inv.tok (I:Inv X pins σ H s)(t:Nat):Inv X pins σ H { s with toks:=t }:=I.un (h':=s.heap) (t':=t) Un.refl I.hok
theorem Inv.kept {t':Nat}(I:Inv X pins σ H s)(k : ∀ b u,s.heap.get? b=some u→h'.get? b=some u):Inv X pins σ H { s with heap:=h',toks:=t' }:=I.un (Un.kept k) (I.hok.kept k)
theorem Inv.laid {a:Addr}{o:HO}{t':Nat}(I:Inv X pins σ H s)(k : ∀ b u,s.heap.get? b=some u→h'.get? b=some u)(hp:s.heap.objs.size≤a)(new:ObjOk X.prog X.w (upd H a o) h' a o) :
    Inv X pins σ (upd H a o) { s with heap:=h',toks:=t' }:=I.un (Un.laid k hp (I.hok.fresh hp)) (I.hok.laid k hp new)
theorem Inv.write {x e:Addr}{o:HO}{t':Nat}(I:Inv X pins σ H s)(mu:Mut (H x))(he:e=x∨H e=some (.own x))(k : ∀ b u,b≠e→s.heap.get? b=some u→h'.get? b=some u)(heo : ∃ u,h'.get? e=some u)
    (new:ObjOk X.prog X.w (upd H x o) h' x o):Inv X pins σ (upd H x o) { s with heap:=h',toks:=t' }:=I.un (Un.write mu he k heo) (I.hok.write mu he k heo new)
theorem Inv.weak {σ':List (Option V)}(I:Inv X pins σ H s)(hl : σ'.length=σ.length)(w : ∀ (i:Nat) v, σ'[i]?=some (some v)→σ[i]?=some (some v)):Inv X pins σ' H s :=
  ⟨I.ok,I.os,I.bare,I.base,let ⟨m,hn,hl'⟩:=I.loc; ⟨m,hn,fun i x v e1 e2 e3=>hl' i x v e1 (w i v e2) e3⟩,I.cell,I.free,I.freeC,I.pin,I.hok,hl.trans I.len⟩
theorem Inv.pins_of {pins':List (Addr × Obj)}(I:Inv X pins σ H s)(h : ∀ p∈pins',s.heap.get? p.1=some p.2∧H p.1=none∧p.1≠X.env.locals∧p.1 ∉ X.fs∧∀ v,p.2.data≠.cell v):Inv X pins' σ H s :=
  ⟨I.ok,I.os,I.bare,I.base,I.loc,I.cell,I.free,I.freeC,fun p hp=>(List.mem_append.mp hp).elim (fun z=>I.pin p (List.mem_append_left _ z)) (h p),I.hok,I.len⟩
theorem nodup_ix {N:List Str}(hN:N.Nodup){i j:Nat}{x:Str}(a:N[i]?=some x)(b:N[j]?=some x):i=j:=by
  obtain ⟨h1,e1⟩:=List.getElem?_eq_some_iff.mp a
  obtain ⟨h2,e2⟩:=List.getElem?_eq_some_iff.mp b
  exact (List.getElem_inj hN).mp (e1.trans e2.symm)
theorem store_ok2 {M:Model}{A:Around}{E:Value→Shared→Prop}{i:Nat}{x:Str}{v:V}{u:Value}{Q:Unit→Shared→Prop}(I:Inv X pins σ H s)(hN:X.N.Nodup)(hi:X.N[i]?=some x)(hx:Loc X.env.scope x)(r:RelV v u)
    (h : ∀ s',Inv X pins (σ.set i (some v)) H s'→(∃ a,Heap.SameBut a s.heap s'.heap∧(a=X.env.locals∨X.env.cells.lookup x=some a))→Q () s') (hf:X.fn x=true∨X.env.scope.names.lookup x=some .local:=by first | exact .inl rfl | exact .inr rfl | assumption):wpAny M A (storeName X.env x u) Q E s:=by
  obtain ⟨m,hn,hl⟩:=id I.loc
  have hcls:(X.env.scope.kind == .class || (X.env.scope.kind == .module && X.env.locals != X.env.globals))=false:=by rw [I.ok.kind]; rfl
  have hiσ:i < σ.length:=by rw [I.len]; exact (List.getElem?_eq_some_iff.mp hi).1
  have cne:=I.cne
  have tracked : ∀ {a:Addr} {h':Heap},(∃ o,s.heap.get? a=some o∧H a=none)→Heap.SameBut a s.heap h'→HOk X.prog X.w H h':=fun {a h'} ha hs b ob e=>by
    obtain ⟨_,_,hfree⟩:=ha
    refine (I.hok b ob e).stay (fun c w' hc q=>(hs.2 c ?_).trans q) (fun _ q=>q) fun _ _ q=>q
    rintro rfl
    rcases hc with rfl | hc
    · rw [hfree] at e; cases e
    · rw [hfree] at hc; cases hc
  rcases hx with hk | hk
  · refine wpAny_storeName_local hk hn (fun h' hn' hs=>?_) hcls
    obtain ⟨oL,_,_,hoL,_⟩:=id hn
    refine h _ ⟨I.ok,I.os,I.bare,⟨fun b o e n hb hx=>?_,fun b o e n hb hx=>?_,I.base.free,fun b o e hx=>?_,I.base.tups,I.base.frzs,I.base.tbls⟩,⟨_,hn',fun j y v' e1 e2 e3=>?_⟩,fun y c e=>?_,I.free,I.freeC,fun p hp=>?_,tracked ⟨oL,hoL,I.free⟩ hs,by simpa using I.len⟩ ⟨_,hs,.inl rfl⟩
    · exact (hs.2 b (Nat.ne_of_lt (Nat.lt_of_lt_of_le (Heap.lt_size e) I.ok.above))).trans (I.base.keep b o e n hb hx)
    · obtain ⟨sl,e1⟩:=I.base.slot b o e n hb hx
      exact ⟨sl,(hs.2 b (Nat.ne_of_lt (Nat.lt_of_lt_of_le (Heap.lt_size e) I.ok.above))).trans e1⟩
    · obtain ⟨o',e1⟩:=I.base.there b o e hx
      exact ⟨o',(hs.2 b (Nat.ne_of_lt (Nat.lt_of_lt_of_le (Heap.lt_size e) I.ok.above))).trans e1⟩
    · by_cases hj:j=i
      · subst hj
        rw [hi] at e1; cases e1
        rw [List.getElem?_set_self hiσ] at e2
        cases e2
        exact ⟨u,r,.inl ⟨hk,by simp⟩⟩
      · rw [List.getElem?_set_ne (Ne.symm hj)] at e2
        obtain ⟨u',r',q⟩:=hl j y v' e1 e2 e3
        refine ⟨u',r', ?_⟩
        rcases q with ⟨k,e⟩ | ⟨k,c,e,z⟩
        · refine .inl ⟨k, ?_⟩
          have:y≠x:=fun e=>hj (nodup_ix hN e1 (e ▸ hi))
          simp [this,e]
        · exact .inr ⟨k,c,e,z.sameBut hs (cne y c e)⟩
    · obtain ⟨w',z⟩:=I.cell y c e
      exact ⟨w',z.sameBut hs (cne y c e)⟩
    · obtain ⟨e,n,ne,nf,d⟩:=I.pin p hp
      exact ⟨(hs.2 p.1 ne).trans e,n,ne,nf,d⟩
  · have hfn:X.fn x=true:=by
      rcases hf with z | z
      · exact z
      · rw [z] at hk; cases hk
    obtain ⟨c,hc⟩:=I.ok.has x (.inl hk)
    obtain ⟨w',z⟩:=I.cell x c hc
    refine wpAny_storeName_cell I.ok.kind hk hc z (fun h' hc' hs=>?_)
    obtain ⟨oc,hoc,hocd⟩:=id z
    refine h { s with heap:=h' } ⟨I.ok,I.os,I.bare,⟨fun b o e n hb hx=>?_,fun b o e n hb hx=>?_,I.base.free,fun b o e hx=>?_,I.base.tups,I.base.frzs,I.base.tbls⟩,⟨m,hn.sameBut hs (Ne.symm (cne x c hc)),fun j y v' e1 e2 e3=>?_⟩,fun y c' e=>?_,I.free,I.freeC,fun p hp=>?_,tracked ⟨oc,hoc,I.freeC x c hc⟩ hs,by simpa using I.len⟩ ⟨c,hs,.inr hc⟩
    · exact (hs.2 b (Nat.ne_of_lt (Nat.lt_of_lt_of_le (Heap.lt_size e) (I.ok.cab x c hfn hc)))).trans (I.base.keep b o e n hb hx)
    · obtain ⟨sl,e1⟩:=I.base.slot b o e n hb hx
      exact ⟨sl,(hs.2 b (Nat.ne_of_lt (Nat.lt_of_lt_of_le (Heap.lt_size e) (I.ok.cab x c hfn hc)))).trans e1⟩
    · obtain ⟨o',e1⟩:=I.base.there b o e hx
      exact ⟨o',(hs.2 b (Nat.ne_of_lt (Nat.lt_of_lt_of_le (Heap.lt_size e) (I.ok.cab x c hfn hc)))).trans e1⟩
    · by_cases hj:j=i
      · subst hj
        rw [hi] at e1; cases e1
        rw [List.getElem?_set_self hiσ] at e2
        cases e2
        exact ⟨u,r,.inr ⟨.inl hk,c,hc,hc'⟩⟩
      · rw [List.getElem?_set_ne (Ne.symm hj)] at e2
        obtain ⟨u',r',q⟩:=hl j y v' e1 e2 e3
        refine ⟨u',r', ?_⟩
        rcases q with q | ⟨k,c',e,z'⟩
        · exact .inl q
        · refine .inr ⟨k,c',e,z'.sameBut hs ?_⟩
          rintro rfl
          exact hj (nodup_ix hN e1 (I.ok.inj _ _ _ e hc ▸ hi))
    · by_cases hcc:c'=c
      · subst hcc; exact ⟨_,hc'⟩
      · obtain ⟨w2,z2⟩:=I.cell y c' e
        exact ⟨w2,z2.sameBut hs hcc⟩
    · obtain ⟨e,n,ne,nf,d⟩:=I.pin p hp
      refine ⟨(hs.2 p.1 ?_).trans e,n,ne,nf,d⟩
      intro q
      rw [q,hoc] at e
      have q':oc=p.2:=Option.some.inj e
      exact d w' (by rw [← q']; exact hocd)
theorem store_ok {M:Model}{A:Around}{E:Value→Shared→Prop}{i:Nat}{x:Str}{v:V}{u:Value}{Q:Unit→Shared→Prop}(I:Inv X pins σ H s)(hN:X.N.Nodup)(hi:X.N[i]?=some x)(hx:Loc X.env.scope x)(r:RelV v u)
    (h : ∀ s',Inv X pins (σ.set i (some v)) H s'→Q () s') (hf:X.fn x=true∨X.env.scope.names.lookup x=some .local:=by first | exact .inl rfl | exact .inr rfl | assumption):wpAny M A (storeName X.env x u) Q E s :=
  store_ok2 I hN hi hx r (fun s' I' _=>h s' I') hf
theorem Inv.call' {s':Shared}{ch:List Addr}(I:Inv X pins σ H s)(ho:s'.os=s.os)(u:Un (frs X.stack) ch H H' s.heap s'.heap)(hok:HOk X.prog X.w H' s'.heap)(hg:AllBare s'.gens)
    (hch : ∀ b∈ch,(b∈X.ex∨X.s₀.heap.objs.size≤b)∧b≠X.env.locals∧(∀ x c,X.env.cells.lookup x=some c→c≠b)∧∀ p∈X.pn++pins,p.1≠b):Inv X pins σ H' s':=by
  obtain ⟨h',g',d',t',o'⟩:=s'
  have e:o'=s.os:=ho
  subst e
  exact I.call (g':=g') (t':=t') (d':=d') u hok hg hch
end
noncomputable abbrev XK:=Value→Option Addr→Hp→Prop
noncomputable abbrev St:=List (Option V)
noncomputable abbrev VK:=V→Hp→Prop
noncomputable abbrev TE:=St→Hp→VK→Prop
noncomputable abbrev TT:=St→Hp→(Bool→Hp→Prop)→Prop
noncomputable abbrev TA:=St→Hp→(List V→Hp→Prop)→Prop
structure Ends where
  nx:St→Hp→Prop
  rt:VK
  bk:St→Hp→Prop:=fun _ _=>False
  ct:St→Hp→Prop:=fun _ _=>False
noncomputable abbrev TS:=Ends→St→Hp→Prop
noncomputable def EP (X:Cx)(pins:List (Addr × Obj))(σ:St)(Q:VK)(u:Value)(s':Shared):Prop:=∃ v H',Inv X pins σ H' s'∧RelV v u∧Q v H'
noncomputable def TP (X:Cx)(pins:List (Addr × Obj))(σ:St)(Q:Bool→Hp→Prop)(b:Bool)(s':Shared):Prop:=∃ H',Inv X pins σ H' s'∧Q b H'
noncomputable def AP (X:Cx)(pins:List (Addr × Obj))(σ:St)(Q:List V→Hp→Prop)(us:List Value)(s':Shared):Prop:=∃ vs H',Inv X pins σ H' s'∧Vals vs us∧Q vs H'
noncomputable def SP (X:Cx)(pins:List (Addr × Obj))(D:Ends)(f:Flow)(s':Shared):Prop :=
  match f with
  | .next=>∃ σ' H',Inv X pins σ' H' s'∧D.nx σ' H'
  | .brk=>∃ σ' H',Inv X pins σ' H' s'∧D.bk σ' H'
  | .cont=>∃ σ' H',Inv X pins σ' H' s'∧D.ct σ' H'
  | .ret u=>∃ v σ' H',Inv X pins σ' H' s'∧RelV v u∧D.rt v H'
noncomputable def PE (X:Cx)(e:Expr)(t:TE):Prop :=
  ∀ (pins:List (Addr × Obj)) (s:Shared) (σ:St) (H:Hp) (Q:VK),Inv X pins σ H s→t σ H Q→wpAny (model X.prog X.w) X.A (eval e X.env) (EP X pins σ Q) X.xe s
noncomputable def PT (X:Cx)(e:Expr)(t:TT):Prop :=
  ∀ (pins:List (Addr × Obj)) (s:Shared) (σ:St) (H:Hp) (Q:Bool→Hp→Prop),Inv X pins σ H s→t σ H Q→wpAny (model X.prog X.w) X.A (isTrue e X.env (eval e X.env)) (TP X pins σ Q) X.xe s
noncomputable def PW (X:Cx)(e:Expr)(t:TT):Prop :=
  ∀ (whole:Sem Value) (pins:List (Addr × Obj)) (s:Shared) (σ:St) (H:Hp) (Q:Bool→Hp→Prop),Inv X pins σ H s→t σ H Q→wpAny (model X.prog X.w) X.A (isTrue e X.env whole) (TP X pins σ Q) X.xe s
theorem PW.pt {X:Cx}{e:Expr}{t:TT}(h:PW X e t):PT X e t:=h _
noncomputable def PA (X:Cx)(es:List Expr)(t:TA):Prop :=
  ∀ (pos:Pos) (pins:List (Addr × Obj)) (s:Shared) (σ:St) (H:Hp) (Q:List V→Hp→Prop),Inv X pins σ H s→t σ H Q→wpAny (model X.prog X.w) X.A (spliced (backTo pos (starEach es X.env))) (AP X pins σ Q) X.xe s
noncomputable def PS (X:Cx)(st:Stmt)(t:TS):Prop :=
  ∀ (pins:List (Addr × Obj)) (s:Shared) (σ:St) (H:Hp) (D:Ends),Inv X pins σ H s→t D σ H→wpAny (model X.prog X.w) X.A (exec st X.env) (SP X pins D) X.xe s
noncomputable def PSs (X:Cx)(st:List Stmt)(t:TS):Prop :=
  ∀ (pins:List (Addr × Obj)) (s:Shared) (σ:St) (H:Hp) (D:Ends),Inv X pins σ H s→t D σ H→wpAny (model X.prog X.w) X.A (execs st X.env) (SP X pins D) X.xe s
theorem thn {α:Type}{t:Sem α}{Q Q' : α→Shared→Prop}{M:Model}{A:Around}{E:Value→Shared→Prop}{s:Shared}(h:wpAny M A t Q E s)(hQ : ∀ a s,Q a s→Q' a s):wpAny M A t Q' E s:=wpAny_mono h hQ fun _ _ x=>x
theorem thn5 {α β γ:Type}{t:Sem α}{P1 P2 P3 : α→Shared→β→γ→Prop}{Q' : α→Shared→Prop}{M:Model}{A:Around}{E:Value→Shared→Prop}{s:Shared}(h:wpAny M A t (fun a s=>∃ x y,P1 a s x y∧P2 a s x y∧P3 a s x y) E s)(hQ : ∀ a s x y,P1 a s x y→P2 a s x y→P3 a s x y→Q' a s):wpAny M A t Q' E s:=wpAny_mono h (fun a s h=>Exists.elim h fun x h=>Exists.elim h fun y h=>hQ a s x y h.1 h.2.1 h.2.2) fun _ _ x=>x
end L2
namespace L2
open PySem PySem.Spec PyProof.Rows
section
variable {X:Cx}
noncomputable def tVar (i:Nat):TE:=fun σ H Q=>∃ v, σ[i]?=some (some v)∧Q v H
noncomputable def tC (v:V):TE:=fun _ H Q=>Q v H
theorem pe_var {i:Nat}{x:Str}{pos:Pos}(hN:X.N[i]?=some x)(hv:Vis X.env.scope x)(hd:(x == ("__debug__":Str))=false:=by decide)(hcd:(x == ("__classdict__":Str))=false:=by decide):PE X (.Name x pos) (tVar i):=by
  intro pins s σ H Q I h
  obtain ⟨v,e,h⟩:=h
  obtain ⟨m,hn,hl⟩:=I.loc
  obtain ⟨u,r,l⟩:=hl i x v hN e hv
  have fin:EP X pins σ Q u s:=⟨v,H,I,r,h⟩
  rcases l with ⟨hk,hm⟩ | ⟨hk,c,hc,hcell⟩
  · exact wpAny_Name (wpAny_loadName_local I.ok.kind hk hn hm fin) hd
  · rcases hk with hk | hk
    · exact wpAny_Name (wpAny_loadName_cell I.ok.kind hk hc hcell fin) hd
    · exact wpAny_Name (wpAny_loadName_free I.ok.kind hk hc hcell fin hcd) hd
theorem pe_int {i j pos}:PE X (.Constant (.int i) j pos) (tC (.int i)):=fun _ _ _ H _ I h=>wpAny_Constant_int ⟨.int i,H,I.tok _,⟨_,rfl⟩,h⟩
theorem pe_bl {b j pos}:PE X (.Constant (.bool b) j pos) (tC (.bl b)):=fun _ _ _ H _ I h=>Constant_bool ⟨.bl b,H,I,rfl,h⟩
theorem pe_non {j pos}:PE X (.Constant .none j pos) (tC .non):=fun _ _ _ H _ I h=>Constant_none ⟨.non,H,I,rfl,h⟩
theorem pe_str {x j pos}:PE X (.Constant (.str x) j pos) (tC (.str x)):=fun _ _ _ H _ I h=>Calls.Constant_str ⟨.str x,H,I.tok _,⟨_,rfl⟩,h⟩
noncomputable def Gl (X:Cx)(x:Str):Prop:=X.env.kindOf x=some .globalImplicit
theorem ld_glob {E:Value→Shared→Prop}{pins:List (Addr × Obj)}{s:Shared}{σ:St}{H:Hp}{x:Str}{u:Value}{pos:Pos}{Q:Value→Shared→Prop}(I:Inv X pins σ H s)(hg:Gl X x)(hm:X.mg x=some u)(h:Q u s)
    (hd:(x == ("__debug__":Str))=false:=by decide):wpAny (model X.prog X.w) X.A (eval (.Name x pos) X.env) Q E s :=
  Calls.Name_function_global I.ok.kind hg (Calls.loadGlobal_global (by rw [I.ok.glob]; exact I.mod.glob.keeps I.bk) hm h) hd
theorem ld_blt {E:Value→Shared→Prop}{pins:List (Addr × Obj)}{s:Shared}{σ:St}{H:Hp}{x:Str}{u:Value}{pos:Pos}{Q:Value→Shared→Prop}(I:Inv X pins σ H s)(hg:Gl X x)(hm:X.mg x=none)(hv:bootBuiltins x=some u)(h:Q u s)
    (hn:x≠"__name__":=by decide) (hd:(x == ("__debug__":Str))=false:=by decide):wpAny (model X.prog X.w) X.A (eval (.Name x pos) X.env) Q E s:=by
  obtain ⟨mb,h1,h2⟩:=I.mod.blt
  exact Calls.Name_function_global I.ok.kind hg (Calls.loadGlobal_builtin (by rw [I.ok.glob]; exact I.mod.glob.keeps I.bk) hm (by rw [I.ok.blt]; exact h1.keeps I.bk) ((h2 x hn).trans hv) h) hd
theorem pe_glob {x:Str}{v:V}{u:Value}{pos:Pos}(hg:Gl X x)(hm:X.mg x=some u)(r:RelV v u)(hd:(x == ("__debug__":Str))=false:=by decide):PE X (.Name x pos) (tC v) :=
  fun _ _ _ H _ I h=>ld_glob I hg hm ⟨v,H,I,r,h⟩ hd
theorem pe_bltn {x:Str}{v:V}{u:Value}{pos:Pos}(hg:Gl X x)(hm:X.mg x=none)(hv:bootBuiltins x=some u)(r:RelV v u)(hn:x≠"__name__":=by decide)(hd:(x == ("__debug__":Str))=false:=by decide):PE X (.Name x pos) (tC v) :=
  fun _ _ _ H _ I h=>ld_blt I hg hm hv ⟨v,H,I,r,h⟩ hn hd
variable {a b:Expr}{ta tb:TE}{pos:Pos}
noncomputable def PC (X:Cx)(op:CmpOp)(a b:Expr)(t:TE):Prop :=
  ∀ (pins:List (Addr × Obj)) (s:Shared) (σ:St) (H:Hp) (Q:VK),Inv X pins σ H s→t σ H Q →
    wpAny (model X.prog X.w) X.A (eval a X.env) (fun v s₁=>wpAny (model X.prog X.w) X.A (eval b X.env) (fun u s₂=>wpAny (model X.prog X.w) X.A (compareOp op v u) (EP X pins σ Q) X.xe s₂) X.xe s₁) X.xe s
theorem nobehind (b:Expr){op:CmpOp}(h:op≠.In)(h2:op≠.NotIn):behindInMarks op b=false:=by
  have e1:(op == CmpOp.In)=false:=by cases op <;> first | rfl | exact absurd rfl h
  have e2:(op == CmpOp.NotIn)=false:=by cases op <;> first | rfl | exact absurd rfl h2
  cases b <;> simp [behindInMarks,e1,e2]
noncomputable def tIsN (ta:TE):TE:=fun σ H Q=>ta σ H fun x H1=>Q (.bl (decide (x=.non))) H1
theorem RelV.none_iff {x:V}{v:Value}(r:RelV x v):(v == Value.none)=decide (x=.non):=by
  cases x with
  | non=>cases r; rfl
  | bl _=>cases r; rfl
  | int _=>obtain ⟨t,rfl⟩:=r; rfl
  | str _=>obtain ⟨t,rfl⟩:=r; rfl
  | byt _=>obtain ⟨t,rfl⟩:=r; rfl
  | flt _=>obtain ⟨t,rfl⟩:=r; rfl
  | ref _=>cases r; rfl
  | ty _=>cases r; rfl
theorem pc_isN {j pos'}(ha:PE X a ta):PC X .Is a (.Constant .none j pos') (tIsN ta):=by
  intro pins s σ H Q I h
  refine thn5 (ha pins s σ H _ I h) fun v s1 x H1 I1 r1 q1=>?_
  exact Constant_none (is_none_gen ⟨.bl _,H1,I1,by rw [r1.none_iff]; rfl,q1⟩)
noncomputable def tB (t:TE):TT:=fun σ H Q=>t σ H fun x H1=>∃ c,x=.bl c∧Q c H1
theorem pt_cmp {op:CmpOp}{t:TE}(h:PC X op a b t)(h1:behindInMarks op b=false:=by first | exact nobehind _ (by decide) (by decide) | rfl):PT X (.Compare a [op] [b] pos) (tB t):=by
  intro pins s σ H Q I hw
  refine wpAny_isTrue_Compare1 (thn (h pins s σ H _ I hw) fun v s1 h1=>thn h1 fun u s2 h2=>thn5 h2 fun c s3 x H1 I1 r1 q1=>?_) h1
  obtain ⟨d,rfl,q⟩:=q1
  cases r1
  exact wpAny_truthy_bool ⟨H1,I1,q⟩
theorem pt_val {e:Expr}{t:TE}(h:PE X e t)(he : ∀ whole,isTrue e X.env whole=(do let v ← whole; standAt e.pos; holding [v] (truthy v)):=by intro _; rfl):PT X e (tB t):=by
  intro pins s σ H Q I hw
  refine isTrue_plain (thn5 (h pins s σ H _ I hw) fun v s1 x H1 I1 r1 q1=>?_) (he _)
  obtain ⟨d,rfl,q⟩:=q1
  cases r1
  exact wpAny_truthy_bool ⟨H1,I1,q⟩
variable {tA tB':TT}{rest:List Expr}
noncomputable def tOr (t u:TT):TT:=fun σ H Q=>t σ H fun c H1=>if c=true then Q true H1 else u σ H1 Q
noncomputable def tNot (t:TT):TT:=fun σ H Q=>t σ H fun c H1=>Q (!c) H1
theorem pw_or1 (ha:PT X a tA):PW X (.BoolOp .Or [a] pos) tA:=by
  intro wh pins s σ H Q I h
  refine isTrue_or (thn (ha pins s σ H Q I h) fun c s1 e=>?_)
  cases c with
  | false=>exact isTrue_or_nil e
  | true=>exact e
theorem pw_or (ha:PT X a tA)(hb:PW X (.BoolOp .Or (b::rest) pos) tB'):PW X (.BoolOp .Or (a::b::rest) pos) (tOr tA tB'):=by
  intro wh pins s σ H Q I h
  refine isTrue_or (thn (ha pins s σ H _ I h) fun c s1 zz_=>?_)
  obtain ⟨H1,I1,q1⟩:=zz_
  cases c with
  | true=>exact ⟨H1,I1,q1⟩
  | false=>exact hb wh pins s1 σ H1 Q I1 q1
theorem pt_not (ha:PT X a tA):PT X (.UnaryOp .Not a pos) (tNot tA):=by
  intro pins s σ H Q I h
  exact isTrue_not (ha pins s σ H (fun c H1=>Q (!c) H1) I h)
noncomputable def tAndV (ta tb:TE):TE:=fun σ H Q=>ta σ H fun x H1=>∃ c,x=.bl c∧if c=true then tb σ H1 Q else Q (.bl false) H1
noncomputable def tNotV (ta:TE):TE:=fun σ H Q=>ta σ H fun x H1=>∃ c,x=.bl c∧Q (.bl (!c)) H1
theorem pe_one {op}{t:TE}(h:PE X a t):PE X (.BoolOp op [a] pos) t:=fun pins s σ H Q I hw=>BoolOp_one (h pins s σ H Q I hw)
theorem pe_and (ha:PE X a ta)(hb:PE X (.BoolOp .And (b::rest) pos) tb):PE X (.BoolOp .And (a::b::rest) pos) (tAndV ta tb):=by
  intro pins s σ H Q I h
  refine BoolOp_and (thn5 (ha pins s σ H _ I h) fun v s1 x H1 I1 r1 q1=>?_)
  obtain ⟨c,rfl,q1⟩:=q1
  cases r1
  refine wpAny_truthy_bool ?_
  cases c with
  | true=>exact hb pins s1 σ H1 Q I1 q1
  | false=>exact ⟨.bl false,H1,I1,rfl,q1⟩
theorem pe_not (ha:PE X a ta):PE X (.UnaryOp .Not a pos) (tNotV ta):=by
  intro pins s σ H Q I h
  refine UnaryOp_ (thn5 (ha pins s σ H _ I h) fun v s1 x H1 I1 r1 q1=>?_)
  obtain ⟨c,rfl,q1⟩:=q1
  cases r1
  exact not_of (wpAny_truthy_bool ⟨.bl (!c),H1,I1,rfl,q1⟩)
noncomputable def tIf (t:TT)(ta tb:TE):TE:=fun σ H Q=>t σ H fun c H1=>if c=true then ta σ H1 Q else tb σ H1 Q
theorem pe_ifExp {c:Expr}(hc:PT X c tA)(ha:PE X a ta)(hb:PE X b tb):PE X (.IfExp c a b pos) (tIf tA ta tb):=by
  intro pins s σ H Q I h
  refine wpAny_IfExp (thn (hc pins s σ H _ I h) fun d s1 zz_=>?_)
  obtain ⟨H1,I1,q1⟩:=zz_
  cases d with
  | true=>exact ha pins s1 σ H1 Q I1 q1
  | false=>exact hb pins s1 σ H1 Q I1 q1
end
end L2
namespace L2
open PySem PySem.Spec PyProof.Rows
noncomputable def SqL (K:PySem.W.Frag)(H:Hp)(a:Addr)(xs:List V):Prop :=
  Rd H a (.lst xs) ∨
    ∃ (o:Obj) (its:Array Value) (n:Nat),K.lookup a=some o∧o.cls=.type "list"∧o.dict=none∧o.data=.seq its n∧its.size≤sizeLine∧Vals xs its.toList
noncomputable def SqT (K:PySem.W.Frag)(H:Hp)(a:Addr)(xs:List V):Prop :=
  Rd H a (.tup xs) ∨
    ∃ (o:Obj) (its:Array Value) (n:Nat),K.lookup a=some o∧o.cls=.type "tuple"∧o.data=.seq its n∧its.size≤sizeLine∧Vals xs its.toList
noncomputable def absV:Value→Option V
  | .none=>some .non
  | .bool b=>some (.bl b)
  | .int i _=>some (.int i)
  | .str x _=>some (.str x)
  | .bytes b _=>some (.byt b)
  | .float b _=>some (.flt b)
  | .ref a=>some (.ref a)
  | .type n=>some (.ty n)
  | _=>none
theorem RelV.abs {x:V}{u:Value}(r:RelV x u):absV u=some x:=by
  cases x with
  | non=>cases r; rfl
  | bl _=>cases r; rfl
  | int _=>obtain ⟨t,rfl⟩:=r; rfl
  | str _=>obtain ⟨t,rfl⟩:=r; rfl
  | byt _=>obtain ⟨t,rfl⟩:=r; rfl
  | flt _=>obtain ⟨t,rfl⟩:=r; rfl
  | ref _=>cases r; rfl
  | ty _=>cases r; rfl
theorem RelV.inj {x y:V}{u:Value}(r:RelV x u)(q:RelV y u):x=y:=Option.some.inj (r.abs.symm.trans q.abs)
theorem Vals.inj : ∀ {xs ys:List V} {us:List Value},Vals xs us→Vals ys us→xs=ys
  | _,_,_,.nil,.nil=>rfl
  | _,_,_,.cons r t,.cons r' t'=>by rw [r.inj r',Vals.inj t t']
section
variable {X:Cx}{pins:List (Addr × Obj)}{σ:St}{H:Hp}{s:Shared}{a:Addr}{xs ys:List V}
theorem SqL.of {K:PySem.W.Frag}(h:H a=some (.lst xs)):SqL K H a xs:=.inl (.inl h)
theorem SqT.of {K:PySem.W.Frag}(h:H a=some (.tup xs)):SqT K H a xs:=.inl (.inl h)
theorem Inv.list (I:Inv X pins σ H s)(h:SqL X.K H a xs) : ∃ its:List Value,Vals xs its∧PlainL s.heap a its.toArray∧xs.length≤sizeLine:=by
  rcases h with h | ⟨o,its,n,hk,hc,hd,hs,hz,r⟩
  · obtain ⟨z,its,n,r,e⟩:=h.ok I.hok
    exact ⟨its,r,⟨_,n,e,rfl,rfl,rfl⟩,z⟩
  · refine ⟨its.toList,r,⟨o,n,I.kIn a o hk,hc,hd,by simpa using hs⟩, ?_⟩
    have e:=r.length
    simp only [Array.length_toList] at e
    omega
theorem Inv.tuple (I:Inv X pins σ H s)(h:SqT X.K H a xs) : ∃ its:List Value,Vals xs its∧IsTup s.heap a its.toArray∧xs.length≤sizeLine:=by
  rcases h with h | ⟨o,its,n,hk,hc,hs,hz,r⟩
  · obtain ⟨z,its,r,p⟩:=h.ok I.hok
    exact ⟨its,r,p,z⟩
  · refine ⟨its.toList,r,⟨o,I.kIn a o hk,hc,n,by simpa using hs⟩, ?_⟩
    have e:=r.length
    simp only [Array.length_toList] at e
    omega
theorem Inv.list_inj (I:Inv X pins σ H s)(h:SqL X.K H a xs)(h':SqL X.K H a ys):xs=ys:=by
  obtain ⟨its,r,⟨o,n,e,_,_,d⟩,_⟩:=I.list h
  obtain ⟨its',r',⟨o',n',e',_,_,d'⟩,_⟩:=I.list h'
  rw [e] at e'; cases e'
  rw [d] at d'
  injection d' with d1 _
  have:its=its':=by simpa using congrArg Array.toList d1
  subst this
  exact r.inj r'
theorem Inv.tuple_inj (I:Inv X pins σ H s)(h:SqT X.K H a xs)(h':SqT X.K H a ys):xs=ys:=by
  obtain ⟨its,r,⟨o,e,_,n,d⟩,_⟩:=I.tuple h
  obtain ⟨its',r',⟨o',e',_,n',d'⟩,_⟩:=I.tuple h'
  rw [e] at e'; cases e'
  rw [d] at d'
  injection d' with d1 _
  have:its=its':=by simpa using congrArg Array.toList d1
  subst this
  exact r.inj r'
end
noncomputable abbrev Cx.wish (X:Cx)(E:Value→Shared→Prop):Cx:={ X with xe:=E }
noncomputable abbrev Cx.nox (X:Cx):Cx:=X.wish fun _ _=>False
theorem Cx.Ok.wish {X:Cx}(ok:X.Ok)(E:Value→Shared→Prop):(X.wish E).Ok :=
  ⟨ok.mod,ok.kind,ok.glob,ok.blt,ok.above,ok.inj,ok.has,ok.cab,ok.hd,ok.frames,ok.stk,ok.exf,ok.bs,ok.bsz,ok.noex,ok.exfs,ok.funs,ok.frf⟩
theorem Cx.Ok.unwish {X:Cx}{E:Value→Shared→Prop}(ok:(X.wish E).Ok):X.Ok :=
  ⟨ok.mod,ok.kind,ok.glob,ok.blt,ok.above,ok.inj,ok.has,ok.cab,ok.hd,ok.frames,ok.stk,ok.exf,ok.bs,ok.bsz,ok.noex,ok.exfs,ok.funs,ok.frf⟩
section
variable {X:Cx}{pins:List (Addr × Obj)}{σ:St}{H:Hp}{s:Shared}{E:Value→Shared→Prop}
theorem Inv.wish (I:Inv X pins σ H s)(E:Value→Shared→Prop):Inv (X.wish E) pins σ H s:=⟨I.ok.wish E,I.os,I.bare,I.base,I.loc,I.cell,I.free,I.freeC,I.pin,I.hok,I.len⟩
theorem Inv.unwish (I:Inv (X.wish E) pins σ H s):Inv X pins σ H s:=⟨I.ok.unwish,I.os,I.bare,I.base,I.loc,I.cell,I.free,I.freeC,I.pin,I.hok,I.len⟩
theorem SP.unwish {D:Ends}{f:Flow}{s':Shared}(h:SP (X.wish E) pins D f s'):SP X pins D f s':=by
  cases f with
  | next=>obtain ⟨σ',H',I,q⟩:=h; exact ⟨σ',H',I.unwish,q⟩
  | brk=>obtain ⟨σ',H',I,q⟩:=h; exact ⟨σ',H',I.unwish,q⟩
  | cont=>obtain ⟨σ',H',I,q⟩:=h; exact ⟨σ',H',I.unwish,q⟩
  | ret u=>obtain ⟨v, σ',H',I,r,q⟩:=h; exact ⟨v, σ',H',I.unwish,r,q⟩
theorem PSs.nox {st:List Stmt}{t:TS}(h:PSs X.nox st t):PSs X st t:=fun pins s σ H D I hw =>
  wpAny_mono (h pins s σ H D (I.wish _) hw) (fun _ _ q=>q.unwish) fun _ _ z=>False.elim z
end
section
variable {X:Cx}{st:Stmt}{rest:List Stmt}{t u:TS}{e:Expr}{te:TE}{pos:Pos}
noncomputable def tNext:TS:=fun D σ H=>D.nx σ H
noncomputable def tSeq (t u:TS):TS:=fun D σ H=>t { D with nx:=u D } σ H
theorem pss_nil:PSs X [] tNext:=fun _ _ σ H _ I h=>wpAny_execs_nil ⟨σ,H,I,h⟩
theorem pss_cons (h1:PS X st t)(h2:PSs X rest u):PSs X (st::rest) (tSeq t u):=by
  intro pins s σ H D I h
  refine wpAny_execs_cons (thn (h1 pins s σ H { D with nx:=u D } I h) fun f s1 q=>?_)
  cases f with
  | next =>
    obtain ⟨σ',H',I',q⟩:=q
    exact h2 pins s1 σ' H' D I' q
  | ret v=>exact q
  | brk=>exact q
  | cont=>exact q
theorem pss_one (h1:PS X st t):PSs X [st] t:=by
  intro pins s σ H D I h
  refine wpAny_execs_cons (thn (h1 pins s σ H D I h) fun f s1 q=>?_)
  cases f with
  | next=>exact wpAny_execs_nil q
  | ret v=>exact q
  | brk=>exact q
  | cont=>exact q
theorem Inv.quiet {pins:List (Addr × Obj)}{σ:St}{H:Hp}{s:Shared}(I:Inv X pins σ H s):interactive X.env=false:=by simp [interactive,I.ok.kind]
noncomputable def tDrop (te:TE):TS:=fun D σ H=>te σ H fun _ H1=>D.nx σ H1
theorem ps_expr (he:PE X e te)(hs:swapsWith e none pos.line X.env=pure false:=by rfl):PS X (.Expr e pos) (tDrop te):=by
  intro pins s σ H D I h
  exact wpAny_Expr_any (thn5 (he pins s σ H _ I h) fun v s1 x H1 I1 r1 q1=>⟨σ,H1,I1,q1⟩) I.quiet hs
noncomputable def tRet (te:TE):TS:=fun D σ H=>te σ H D.rt
theorem ps_ret (he:PE X e te):PS X (.Return (some e) pos) (tRet te):=by
  intro pins s σ H D I h
  exact wpAny_Return_some (thn5 (he pins s σ H _ I h) fun v s1 x H1 I1 r1 q1=>⟨x, σ,H1,I1,r1,q1⟩)
noncomputable def tIfS (c:TT)(t u:TS):TS:=fun D σ H=>c σ H fun b H1=>if b=true then t D σ H1 else u D σ H1
theorem ps_if {c:Expr}{a b:List Stmt}{tc:TT}(hc:PT X c tc)(ha:PSs X a t)(hb:PSs X b u):PS X (.If c a b pos) (tIfS tc t u):=by
  intro pins s σ H D I h
  refine wpAny_If (thn (hc pins s σ H _ I h) fun d s1 zz_=>?_)
  obtain ⟨H1,I1,q1⟩:=zz_
  cases d with
  | true=>exact ha pins s1 σ H1 D I1 q1
  | false=>exact hb pins s1 σ H1 D I1 q1
end
noncomputable abbrev TG:=V→St→Hp→(St→Hp→Prop)→Prop
noncomputable abbrev TGs:=List V→St→Hp→(St→Hp→Prop)→Prop
noncomputable def PG (X:Cx)(target:Expr)(t:TG):Prop :=
  ∀ (pins:List (Addr × Obj)) (s:Shared) (σ:St) (H:Hp) (v:V) (u:Value) (Q:St→Hp→Prop),Inv X pins σ H s→RelV v u→t v σ H Q →
    wpAny (model X.prog X.w) X.A (assign target X.env u) (fun _ s'=>∃ σ' H',Inv X pins σ' H' s'∧Q σ' H') X.xe s
noncomputable def PGs (X:Cx)(ts:List Expr)(t:TGs):Prop :=
  ∀ (pins:List (Addr × Obj)) (s:Shared) (σ:St) (H:Hp) (vs:List V) (us:List Value) (Q:St→Hp→Prop),Inv X pins σ H s→Vals vs us→t vs σ H Q →
    wpAny (model X.prog X.w) X.A (assignInOrder ((assignEach ts X.env).map (·.2)) us) (fun _ s'=>∃ σ' H',Inv X pins σ' H' s'∧Q σ' H') X.xe s
noncomputable abbrev TSet:=V→V→V→Hp→(Hp→Prop)→Prop
noncomputable def PSet (X:Cx)(t:TSet):Prop :=
  ∀ (pins:List (Addr × Obj)) (s:Shared) (σ:St) (H:Hp) (o i v:V) (ov iv u:Value) (Q:Hp→Prop),Inv X pins σ H s→RelV o ov→RelV i iv→RelV v u→t o i v H Q →
    wpAny (model X.prog X.w) X.A (setItem ov iv u) (fun _ s'=>∃ H',Inv X pins σ H' s'∧Q H') X.xe s
noncomputable abbrev TIp:=V→V→Hp→VK→Prop
noncomputable def PIp (X:Cx)(op:Operator)(t:TIp):Prop :=
  ∀ (pins:List (Addr × Obj)) (s:Shared) (σ:St) (H:Hp) (x y:V) (v u:Value) (Q:VK),Inv X pins σ H s→RelV x v→RelV y u→t x y H Q →
    wpAny (model X.prog X.w) X.A (inplaceOp op v u) (EP X pins σ Q) X.xe s
section
variable {X:Cx}{pos:Pos}
noncomputable def gName (i:Nat):TG:=fun v σ H Q=>Q (σ.set i (some v)) H
theorem pg_name {i:Nat}{x:Str}(hN:X.N.Nodup)(hi:X.N[i]?=some x)(hx:Loc X.env.scope x)(hf:X.fn x=true∨X.env.scope.names.lookup x=some .local:=by first | exact .inl rfl | exact .inr rfl | assumption):PG X (.Name x pos) (gName i):=by
  intro pins s σ H v u Q I r h
  exact wpAny_assign_Name (store_ok I hN hi hx r (fun s' I'=>⟨_,H,I',h⟩) hf)
noncomputable def gNil:TGs:=fun vs σ H Q=>vs=[]∧Q σ H
noncomputable def gCons (t:TG)(u:TGs):TGs:=fun vs σ H Q=>∃ v r,vs=v::r∧t v σ H fun σ' H'=>u r σ' H' Q
theorem pgs_nil:PGs X [] gNil:=by
  intro pins s σ H vs us Q I r h
  obtain ⟨e,h⟩:=h
  subst e
  cases r
  exact assignInOrder_nil ⟨σ,H,I,h⟩
theorem pgs_cons {e:Expr}{es:List Expr}{t:TG}{u:TGs}(h1:PG X e t)(h2:PGs X es u)
    (hs:(assignEach (e::es) X.env).map (·.2)=assign e X.env::(assignEach es X.env).map (·.2):=by rfl):PGs X (e::es) (gCons t u):=by
  intro pins s σ H vs us Q I r h
  obtain ⟨v,vr,e1,h⟩:=h
  subst e1
  cases r with
  | cons r rr =>
    rw [hs]
    refine assignInOrder_cons (thn (h1 pins s σ H _ _ _ I r h) fun _ s1 zz_=>?_)
    obtain ⟨σ1,H1,I1,q1⟩:=zz_
    exact h2 pins s1 σ1 H1 _ _ Q I1 rr q1
noncomputable def gTup (K:PySem.W.Frag)(n:Nat)(t:TGs):TG:=fun v σ H Q=>∃ a xs,v=.ref a∧SqT K H a xs∧xs.length=n∧t xs σ H Q
theorem pg_tup {es:List Expr}{k:Nat}{t:TGs}{n:Nat}(hc:X.calm=true)(h:PGs X es t)
    (hn:(assignEach es X.env).length=n:=by rfl) (hst:(assignEach es X.env).findIdx? (·.1)=none:=by rfl):PG X (.Tuple es k pos) (gTup X.K n t):=by
  intro pins s σ H v u Q I r hw
  obtain ⟨a,xs,e1,hq,hl,hw⟩:=hw
  subst e1
  cases r
  obtain ⟨its,rv,ht,hz⟩:=I.tuple hq
  refine assign_Tuple_tuple (I.ok.hd hc) ht (by simp [hn, ← hl,rv.length]) hst fun h' hx=>?_
  have I1:Inv X pins σ H { s with heap:=h' }:=I.kept (t':=s.toks) fun b o e=>hx b o (Nat.ne_of_lt (Heap.lt_size e)) e
  exact h pins _ σ H xs _ Q I1 (by simpa using rv) hw
noncomputable def gSub (to ti:TE)(t:TSet):TG:=fun v σ H Q=>to σ H fun o H1=>ti σ H1 fun i H2=>t o i v H2 fun H3=>Q σ H3
theorem pg_sub {o i:Expr}{to ti:TE}{t:TSet}(ho:PE X o to)(hi:PE X i ti)(hs:PSet X t)
    (ha : ∀ v,assign (.Subscript o i pos) X.env v=(do
      let ov ← holding [v] (eval o X.env)
      let iv ← holding [v,ov] (eval i X.env)
      standAt pos
      holding [v,ov,iv] (setItem ov iv v)
      release [v,ov,iv] []):=by intro _; rfl):PG X (.Subscript o i pos) (gSub to ti t):=by
  intro pins s σ H v u Q I r h
  rw [ha]
  refine wpAny_bind (wpAny_holding (thn5 (ho pins s σ H _ I h) fun ov s1 x H1 I1 r1 q1=>?_))
  refine wpAny_bind (wpAny_holding (thn5 (hi pins s1 σ H1 _ I1 q1) fun iv s2 y H2 I2 r2 q2=>?_))
  refine wpAny_bind (wpAny_standAt (wpAny_bind (wpAny_holding (thn (hs pins s2 σ H2 x y v ov iv u _ I2 r1 r2 r q2) fun _ s3 zz_=>?_))))
  obtain ⟨H3,I3,q3⟩:=zz_
  exact wpAny_release ⟨σ,H3,I3,q3⟩
noncomputable def tAsg (te:TE)(g:TG):TS:=fun D σ H=>te σ H fun x H1=>g x σ H1 D.nx
theorem ps_asg {tg e:Expr}{te:TE}{g:TG}(he:PE X e te)(hg:PG X tg g)(hs:swapsWithSole [tg] e pos.line X.env=pure false:=by rfl)(hw:swappedStores [tg] e X.env=pure none:=by rfl)
    (h1:(assignEach [tg] X.env).map (·.2)=[assign tg X.env]:=by rfl):PS X (.Assign [tg] e pos) (tAsg te g):=by
  intro pins s σ H D I h
  refine wpAny_Assign_stores (thn5 (he pins s σ H _ I h) fun v s1 x H1 I1 r1 q1=>?_) hs hw
  rw [h1]
  exact thn (hg pins s1 σ H1 x v _ I1 r1 q1) fun _ s2 q=>q
theorem ps_set {i:Nat}{x:Str}{e:Expr}{te:TE}{pos':Pos}(hN:X.N.Nodup)(hi:X.N[i]?=some x)(hx:Loc X.env.scope x)(he:PE X e te)(hs:swapsWith e (some (.Name x pos')) pos.line X.env=pure false:=by rfl)(hf:X.fn x=true∨X.env.scope.names.lookup x=some .local:=by first | exact .inl rfl | exact .inr rfl | assumption) :
    PS X (.Assign [.Name x pos'] e pos) (tAsg te (gName i)):=by
  intro pins s σ H D I h
  refine wpAny_Assign_Name (thn5 (he pins s σ H _ I h) fun v s1 y H1 I1 r1 q1=>?_) hs
  exact store_ok I1 hN hi hx r1 (fun s2 I2=>⟨_,H1,I2,q1⟩) hf
noncomputable def tAug (i:Nat)(te:TE)(ti:TIp):TS:=fun D σ H=>∃ x, σ[i]?=some (some x)∧te σ H fun y H1=>ti x y H1 fun z H2=>D.nx (σ.set i (some z)) H2
theorem ps_aug {i:Nat}{x:Str}{e:Expr}{te:TE}{op:Operator}{ti:TIp}{pos':Pos}(hN:X.N.Nodup)(hi:X.N[i]?=some x)(hx:Loc X.env.scope x)(he:PE X e te)(ho:PIp X op ti)(hf:X.fn x=true∨X.env.scope.names.lookup x=some .local:=by first | exact .inl rfl | exact .inr rfl | assumption) :
    PS X (.AugAssign (.Name x pos') op e pos) (tAug i te ti):=by
  intro pins s σ H D I h
  obtain ⟨v,e1,h⟩:=h
  obtain ⟨m,hn,hl⟩:=I.loc
  have vis:Vis X.env.scope x:=by rcases hx with k | k; exact .inl k; exact .inr (.inl k)
  obtain ⟨u,r,l⟩:=hl i x v hi e1 vis
  refine wpAny_AugAssign_Name ?_
  have go:wpAny (model X.prog X.w) X.A (eval e X.env) (fun w s₂=>wpAny (model X.prog X.w) X.A (inplaceOp op u w) (fun r s₃=>wpAny (model X.prog X.w) X.A (storeName X.env x r) (fun _=>SP X pins D .next) X.xe s₃) X.xe s₂) X.xe s:=by
    refine thn5 (he pins s σ H _ I h) fun w s1 y H1 I1 r1 q1=>?_
    refine thn5 (ho pins s1 σ H1 v y u w _ I1 r r1 q1) fun z s2 zv H2 I2 r2 q2=>?_
    exact store_ok I2 hN hi hx r2 (fun s3 I3=>⟨_,H2,I3,q2⟩) hf
  rcases l with ⟨hk,hm⟩ | ⟨hk,c,hc,hcell⟩
  · exact wpAny_loadName_local I.ok.kind hk hn hm go
  · rcases hk with hk | hk
    · exact wpAny_loadName_cell I.ok.kind hk hc hcell go
    · rcases hx with k | k
      · have:X.env.scope.names.lookup x=some .free:=hk
        rw [k] at this; cases this
      · have:X.env.scope.names.lookup x=some .free:=hk
        rw [k] at this; cases this
noncomputable def ipI (f:Int→Int→Int):TIp:=fun x y H Q=>∃ i j,x=.int i∧y=.int j∧Q (.int (f i j)) H
theorem ip_add:PIp X .Add (ipI fun i j=>i+j):=by
  intro pins s σ H x y v u Q I r1 r2 h
  obtain ⟨i,j,e1,e2,q⟩:=h
  subst e1; subst e2
  obtain ⟨t,rfl⟩:=r1
  obtain ⟨t',rfl⟩:=r2
  exact iadd_int ⟨.int _,H,I.tok _,⟨_,rfl⟩,q⟩
end
section
variable {X:Cx}{pos:Pos}
end
structure It where
  go:Nat→Hp→Prop
  yld:Nat→Hp→V→Hp→Prop
  stop:Nat→Hp→Prop
noncomputable def FpOk (X:Cx)(pins:List (Addr × Obj))(H:Hp)(b:Addr):Prop :=
  H b=none∧b≠X.env.locals∧b ∉ X.fs∧(b∈X.ex∨X.s₀.heap.objs.size≤b)∧(∀ x c,X.env.cells.lookup x=some c→c≠b)∧∀ p∈X.pn++pins,p.1≠b
theorem Inv.fpOk {X:Cx}{pins:List (Addr × Obj)}{σ:St}{H H':Hp}{s:Shared}{b:Addr}(I:Inv X pins σ H s)(hb:s.heap.objs.size≤b)(hn:H' b=none):FpOk X pins H' b:=by
  refine ⟨hn,Nat.ne_of_gt (Nat.lt_of_lt_of_le I.lt hb),I.nofs hb,.inr (Nat.le_trans I.sz hb),fun x c e z=>?_,fun p hp z=>?_⟩
  · obtain ⟨v,q⟩:=I.cell x c e
    exact absurd (Nat.lt_of_lt_of_le q.lt (by rw [z]; exact hb)) (Nat.lt_irrefl _)
  · exact absurd (Nat.lt_of_lt_of_le (Heap.lt_size (I.pin p hp).1) (by rw [z]; exact hb)) (Nat.lt_irrefl _)
structure Turn (P:Program)(w:World)(K:PySem.W.Frag)(tg:Expr)(J:It)(fp:List Addr)(it:Addr)(tn:Nat→Heap→Prop):Prop where
  mem:it∈fp
  obj : ∀ i h,tn i h→∀ b∈fp, ∃ o,h.get? b=some o∧∀ v,o.data≠.cell v
  keep : ∀ i h h',tn i h→(∀ b∈fp, ∀ o,h.get? b=some o→h'.get? b=some o)→tn i h'
  item : ∀ (X:Cx),X.prog=P→X.w=w→X.K=K→X.calm=true→∀ (i:Nat) (pins:List (Addr × Obj)) (s:Shared) (σ:St) (H:Hp) (E:Value→Shared→Prop),Inv X pins σ H s→(∀ b∈fp,FpOk X pins H b)→tn i s.heap→J.go i H →
    wpAny (model P w) X.A (pyNext (.ref it)) (fun r s1=>∃ u,r=some u ∧
      wpAny (model P w) X.A (letOwnedTupleGo tg (.ref it) u) (fun _ s2=>∃ x H',Inv X pins σ H' s2∧RelV x u∧J.yld i H x H'∧tn (i+1) s2.heap∧∀ b∈fp,H' b=none) E s1) E s
  done : ∀ (X:Cx),X.prog=P→X.w=w→X.K=K→X.calm=true→∀ (i:Nat) (pins:List (Addr × Obj)) (s:Shared) (σ:St) (H:Hp) (E:Value→Shared→Prop),Inv X pins σ H s→(∀ b∈fp,FpOk X pins H b)→tn i s.heap→J.stop i H →
    wpAny (model P w) X.A (pyNext (.ref it)) (fun r s1=>r=none∧Inv X pins σ H s1) E s
  self : ∀ (A:Around) (i:Nat) (s:Shared) (Q:Value→Shared→Prop) (E:Value→Shared→Prop),tn i s.heap→Q (.ref it) s→wpAny (model P w) A (pyIter (.ref it)) Q E s
noncomputable abbrev TI:=St→Hp→(It→Hp→Prop)→Prop
noncomputable def PIE (X:Cx)(pins:List (Addr × Obj))(σ:St)(tg:Expr)(R:It→Hp→Prop)(itv:Value)(s2:Shared):Prop :=
  ∃ (it:Addr) (fp:List Addr) (tn:Nat→Heap→Prop) (J:It) (H':Hp),itv=.ref it∧Inv X pins σ H' s2∧Turn X.prog X.w X.K tg J fp it tn∧tn 0 s2.heap∧(∀ b∈fp,FpOk X pins H' b)∧R J H'
noncomputable def PI (X:Cx)(tg iter:Expr)(wi:TI):Prop :=
  ∀ (pins:List (Addr × Obj)) (s:Shared) (σ:St) (H:Hp) (R:It→Hp→Prop),Inv X pins σ H s→wi σ H R →
    wpAny (model X.prog X.w) X.A (eval iter X.env) (fun v s1=>wpAny (model X.prog X.w) X.A (pyIter v) (PIE X pins σ tg R) X.xe s1) X.xe s
theorem go_of {M:Model}{A:Around}{E:Value→Shared→Prop}{s:Shared}{tg:Expr}{it:Addr}{u:Value}{o:Obj}{n:String}{vs:Array Value}{Q:Unit→Shared→Prop}(ho:s.heap.get? it=some o)(hc:o.cls=.type n)(hd:o.data=.fields vs)
    (hn : ["enumerate", "zip", "dict_itemiterator", "dict_reverseitemiterator", "odict_iterator", "itertools.zip_longest", "itertools.pairwise"].contains n=false) (hQ:Q () s):wpAny M A (letOwnedTupleGo tg (.ref it) u) Q E s:=by
  unfold letOwnedTupleGo
  cases tg <;> first
    | exact wpAny_pure hQ
    | (cases u <;> first
        | exact wpAny_pure hQ
        | (refine wpAny_bind (wpAny_load ho ?_)
           rw [hc,hd]
           show wpAny M A (if (["enumerate", "zip", "dict_itemiterator", "dict_reverseitemiterator", "odict_iterator", "itertools.zip_longest", "itertools.pairwise"].contains n && vs[0]? == some (rawInt _))=true then _ else _) Q E s
           rw [if_neg (by intro h; rw [hn,Bool.false_and] at h; cases h)]
           exact wpAny_pure hQ))
noncomputable def Itl (K:PySem.W.Frag)(a:Addr):It :=
  ⟨fun i H=>∃ xs x,SqL K H a xs∧xs[i]?=some x,fun i H x H'=>H'=H∧∀ xs,SqL K H a xs→xs[i]?=some x,fun i H=>∃ xs,SqL K H a xs∧xs.length≤i⟩
noncomputable def Itt (K:PySem.W.Frag)(a:Addr):It :=
  ⟨fun i H=>∃ xs x,SqT K H a xs∧xs[i]?=some x,fun i H x H'=>H'=H∧∀ xs,SqT K H a xs→xs[i]?=some x,fun i H=>∃ xs,SqT K H a xs∧xs.length≤i⟩
noncomputable def Itr (lo:Int)(n:Nat):It:=⟨fun i _=>i<n,fun i H x H'=>H'=H∧x=.int (lo+i),fun i _=>n≤i⟩
theorem turn_list {P:Program}{w:World}{K:PySem.W.Frag}{tg:Expr}(a it:Addr):Turn P w K tg (Itl K a) [it] it (fun i h=>h.IsListIter it a i) where
  mem:=by simp
  obj:=fun i h st b hb=>by
    have e:b=it:=by simpa using hb
    subst e
    obtain ⟨o,e,c,d⟩:=st
    exact ⟨o,e,fun v z=>by rw [d] at z; cases z⟩
  keep:=fun i h h' st k=>st.at fun o e=>k it (by simp) o e
  item:=by
    intro X hP hw hK hc i pins s σ H E I hf st hg
    subst hP hw hK
    obtain ⟨xs,x,hq,hx⟩:=hg
    obtain ⟨its,rv,p,hz⟩:=I.list hq
    obtain ⟨u,hu,ru⟩:=rv.get hx
    obtain ⟨f0,f1,f2,f3,f4,f5⟩:=hf it (by simp)
    refine wpAny_pyNext_list_item st p.isList (x:=u) (by simpa using hu) fun h' st' sb=>?_
    have I1:Inv X pins σ H { s with heap:=h' }:=I.turned (t':=s.toks) (fun b o hb e=>(sb.2 b hb).trans e) f0 f1 f3 f4 f5
    obtain ⟨o,e,c,d⟩:=id st'
    exact ⟨u,rfl,go_of (s:={ s with heap:=h' }) e c d (by decide) ⟨x,H,I1,ru,⟨rfl,fun ys hy=>by rw [I.list_inj hy hq]; exact hx⟩,st',fun b hb=>(hf b hb).1⟩⟩
  done:=by
    intro X hP hw hK hc i pins s σ H E I hf st hg
    subst hP hw hK
    obtain ⟨xs,hq,hx⟩:=hg
    obtain ⟨its,rv,p,hz⟩:=I.list hq
    obtain ⟨f0,f1,f2,f3,f4,f5⟩:=hf it (by simp)
    have hl:=rv.length
    exact wpAny_pyNext_list_end (I.ok.hd hc) st p.isList (by simp; omega) fun h' eb=>⟨rfl,I.turned (t':=s.toks) (fun b o hb e=>eb b o hb e) f0 f1 f3 f4 f5⟩
  self:=fun _ _ _ _ _ st h=>wpAny_pyIter_listiter st h
theorem turn_tuple {P:Program}{w:World}{K:PySem.W.Frag}{tg:Expr}(a it:Addr):Turn P w K tg (Itt K a) [it] it (fun i h=>h.IsTupleIter it a i) where
  mem:=by simp
  obj:=fun i h st b hb=>by
    have e:b=it:=by simpa using hb
    subst e
    obtain ⟨o,e,c,d⟩:=st
    exact ⟨o,e,fun v z=>by rw [d] at z; cases z⟩
  keep:=fun i h h' st k=>st.at fun o e=>k it (by simp) o e
  item:=by
    intro X hP hw hK hc i pins s σ H E I hf st hg
    subst hP hw hK
    obtain ⟨xs,x,hq,hx⟩:=hg
    obtain ⟨its,rv,p,hz⟩:=I.tuple hq
    obtain ⟨u,hu,ru⟩:=rv.get hx
    obtain ⟨f0,f1,f2,f3,f4,f5⟩:=hf it (by simp)
    refine wpAny_pyNext_tuple_item st (show s.heap.IsTuple a its.toArray from p) (x:=u) (by simpa using hu) fun h' st' sb=>?_
    have I1:Inv X pins σ H { s with heap:=h' }:=I.turned (t':=s.toks) (fun b o hb e=>(sb.2 b hb).trans e) f0 f1 f3 f4 f5
    obtain ⟨o,e,c,d⟩:=id st'
    exact ⟨u,rfl,go_of (s:={ s with heap:=h' }) e c d (by decide) ⟨x,H,I1,ru,⟨rfl,fun ys hy=>by rw [I.tuple_inj hy hq]; exact hx⟩,st',fun b hb=>(hf b hb).1⟩⟩
  done:=by
    intro X hP hw hK hc i pins s σ H E I hf st hg
    subst hP hw hK
    obtain ⟨xs,hq,hx⟩:=hg
    obtain ⟨its,rv,p,hz⟩:=I.tuple hq
    obtain ⟨f0,f1,f2,f3,f4,f5⟩:=hf it (by simp)
    have hl:=rv.length
    exact wpAny_pyNext_tuple_end (I.ok.hd hc) st (show s.heap.IsTuple a its.toArray from p) (by simp; omega) fun h' eb=>⟨rfl,I.turned (t':=s.toks) (fun b o hb e=>eb b o hb e) f0 f1 f3 f4 f5⟩
  self:=fun _ _ _ _ _ st h=>wpAny_pyIter_tupleiter st h
theorem turn_range {P:Program}{w:World}{K:PySem.W.Frag}{tg:Expr}(it:Addr)(lo:Int)(n:Nat):Turn P w K tg (Itr lo n) [it] it (fun i h=>IsRangeIter h it (lo+(i:Nat) * 1) ((n:Int) - (i:Nat)) 1) where
  mem:=by simp
  obj:=fun i h st b hb=>by
    have e:b=it:=by simpa using hb
    subst e
    exact ⟨_,st,fun v z=>by
      have z':Data.fields _=Data.cell v:=z
      cases z'⟩
  keep:=fun i h h' st k=>k it (by simp) _ st
  item:=by
    intro X hP hw hK hc i pins s σ H E I hf st hg
    subst hP hw hK
    obtain ⟨f0,f1,f2,f3,f4,f5⟩:=hf it (by simp)
    have W:=Walks.range (prog:=X.prog) (w:=X.w) (I.ok.hd hc) it lo 1 n
    refine W.item i s _ _ hg st fun v h' tk hv st' kk=>?_
    obtain ⟨t,rfl⟩:=hv
    have I1:Inv X pins σ H { s with heap:=h',toks:=tk }:=I.turned (fun b o hb e=>kk b o (by simpa using hb) e) f0 f1 f3 f4 f5
    refine ⟨_,rfl,go_of (s:={ s with heap:=h',toks:=tk }) (n:="range_iterator") st' rfl rfl (by decide) ⟨.int (lo+i),H,I1,⟨t, ?_⟩,⟨rfl,rfl⟩,st',fun b hb=>(hf b hb).1⟩⟩
    rw [Int.mul_one]
  done:=by
    intro X hP hw hK hc i pins s σ H E I hf st hg
    subst hP hw hK
    obtain ⟨f0,f1,f2,f3,f4,f5⟩:=hf it (by simp)
    exact wpAny_pyNext_range_end (I.ok.hd hc) st (by have:n≤i:=hg; omega) fun h' eb=>⟨rfl,I.turned (t':=s.toks) (fun b o hb e=>eb b o hb e) f0 f1 f3 f4 f5⟩
  self:=fun _ _ _ _ _ st h=>wpAny_pyIter_rangeiter st h
end L2
namespace L2
open PySem PySem.Spec PyProof.Rows
section
variable {X:Cx}{tg:Expr}
theorem range_it {pins:List (Addr × Obj)}{σ:St}{H:Hp}{s:Shared}{R:It→Hp→Prop}{E:Value→Shared→Prop}{lo hi:Int}{t u v:Tok}{tk:Nat}(I:Inv X pins σ H s)(h1 : -(2 ^ 62)≤lo)(h2:lo<2 ^ 62)(h3 : -(2 ^ 62)≤hi)(h4:hi<2 ^ 62)
    (q:R (Itr lo (hi - lo).toNat) H):wpAny (model X.prog X.w) X.A (pyIter (.ref s.heap.objs.size)) (PIE X pins σ tg R) E { s with heap:=s.heap.push { cls:=.type "range",data:=.fields #[.int lo t,.int hi u,.int 1 v] },toks:=tk }:=by
  refine wpAny_pyIter_range (IsRange.new ..) (small_one h1 h2 h3 h4) ?_
  have I1:Inv X pins σ H { s with heap:=s.heap.push { cls:=.type "range",data:=.fields #[.int lo t,.int hi u,.int 1 v] },toks:=tk }:=I.kept fun b o e=>Heap.get?_push_of_some _ e
  refine ⟨(s.heap.push { cls:=.type "range",data:=.fields #[.int lo t,.int hi u,.int 1 v] }).objs.size,[(s.heap.push { cls:=.type "range",data:=.fields #[.int lo t,.int hi u,.int 1 v] }).objs.size],_,_,H,rfl,
    I1.kept (t':=tk) fun b o e=>Heap.get?_push_of_some _ e,turn_range _ lo (hi - lo).toNat, ?_,fun b hb=>?_,q⟩
  · have e1:lo+((0:Nat):Int) * 1=lo:=by simp
    have e2:(((hi - lo).toNat:Nat):Int) - ((0:Nat):Int)=Builtin.Range.rangeSize lo hi 1:=by rw [rangeSize_one]; split <;> omega
    show IsRangeIter _ _ (lo+((0:Nat):Int) * 1) ((((hi - lo).toNat:Nat):Int) - ((0:Nat):Int)) 1
    rw [e1,e2]
    exact Heap.get?_push_size _ rfl
  · have e:b=(s.heap.push { cls:=.type "range",data:=.fields #[.int lo t,.int hi u,.int 1 v] }).objs.size:=by simpa using hb
    subst e
    exact I1.fpOk (Nat.le_refl _) (I1.hok.fresh (Nat.le_refl _))
noncomputable def iRng1 (ta:TA):TI:=fun σ H R=>ta σ H fun vs H1=>∃ j:Int,vs=[.int j]∧-(2 ^ 62)≤j∧j<2 ^ 62∧R (Itr 0 j.toNat) H1
noncomputable def iRng2 (ta:TA):TI:=fun σ H R=>ta σ H fun vs H1=>∃ i j:Int,vs=[.int i,.int j]∧(-(2 ^ 62)≤i∧i<2 ^ 62∧-(2 ^ 62)≤j∧j<2 ^ 62)∧R (Itr i (j - i).toNat) H1
theorem pi_range1 {a:Expr}{ta:TA}{p pos:Pos}(hg:Gl X "range")(hm:X.mg "range"=none)(ha:PA X [a] ta)(hs:starEach [a] X.env=[(false,eval a X.env)]:=by rfl):PI X tg (.Call (.Name "range" p) [a] [] pos) (iRng1 ta):=by
  intro pins s σ H R I h
  refine Call_ (ld_blt I hg hm boot_range (PyProof.Rows.callWith_type1 (thn5 (ha pos pins s σ H _ I h) fun us s1 vs H1 I1 r1 q1=>?_) hs rfl))
  obtain ⟨j,e,q1,q2,q⟩:=q1
  subst e
  cases r1 with
  | cons r rr =>
    cases rr
    obtain ⟨t,rfl⟩:=r
    exact call_range_1 (range_it I1 (by omega) (by omega) q1 q2 (by simpa using q))
theorem pi_range2 {a b:Expr}{ta:TA}{p pos:Pos}(hg:Gl X "range")(hm:X.mg "range"=none)(ha:PA X [a,b] ta)(hs:starEach [a,b] X.env=[(false,eval a X.env),(false,eval b X.env)]:=by rfl)(hs2:starEach [b] X.env=[(false,eval b X.env)]:=by rfl) :
    PI X tg (.Call (.Name "range" p) [a,b] [] pos) (iRng2 ta):=by
  intro pins s σ H R I h
  refine Call_ (ld_blt I hg hm boot_range (PyProof.Rows.callWith_type1 (thn5 (ha pos pins s σ H _ I h) fun us s1 vs H1 I1 r1 q1=>?_) (by rw [hs,hs2]) (by rw [hs2]; rfl)))
  obtain ⟨i,j,e,⟨q1,q2,q3,q4⟩,q⟩:=q1
  subst e
  cases r1 with
  | cons r rr =>
    cases rr with
    | cons r' rr =>
      cases rr
      obtain ⟨t,rfl⟩:=r
      obtain ⟨t',rfl⟩:=r'
      exact call_range_2 (range_it I1 q1 q2 q3 q4 q)
noncomputable def tFor (wi:TI)(g:TG)(tb:TS):TS:=fun D σ H=>wi σ H fun J H1=>∃ W:Nat→Nat→St→Hp→Prop,(∃ m,W 0 m σ H1)∧∀ i m σ H,W i m σ H →
  (J.stop i H∧D.nx σ H)∨(J.go i H∧∃ N:St→Hp→Prop,(∀ σ' H',N σ' H'→∃ m',m'<m∧W (i+1) m' σ' H')∧∀ x H',J.yld i H x H'→g x σ H' fun σ2 H2=>tb { D with nx:=N,ct:=N,bk:=D.nx } σ2 H2)
noncomputable def pinsAt (fp:List Addr)(h:Heap):List (Addr × Obj):=fp.filterMap fun b=>(h.get? b).map fun o=>(b,o)
theorem mem_pinsAt {fp:List Addr}{h:Heap}{b:Addr}{o:Obj}(hb:b∈fp)(e:h.get? b=some o):(b,o)∈pinsAt fp h:=List.mem_filterMap.mpr ⟨b,hb,by rw [e]; rfl⟩
theorem of_pinsAt {fp:List Addr}{h:Heap}{p:Addr × Obj}(hp:p∈pinsAt fp h):p.1∈fp∧h.get? p.1=some p.2:=by
  obtain ⟨b,hb,e⟩:=List.mem_filterMap.mp hp
  cases q:h.get? b with
  | none=>rw [q] at e; cases e
  | some o =>
    rw [q] at e
    have e':(b,o)=p:=Option.some.inj e
    subst e'
    exact ⟨hb,q⟩
theorem Inv.pinned {pins:List (Addr × Obj)}{σ:St}{H:Hp}{s:Shared}{fp:List Addr}(I:Inv X pins σ H s)(hf : ∀ b∈fp,FpOk X pins H b)(ho : ∀ b∈fp, ∃ o,s.heap.get? b=some o∧∀ v,o.data≠.cell v):Inv X (pins++pinsAt fp s.heap) σ H s :=
  I.pins_of fun p hp=>(List.mem_append.mp hp).elim (fun z=>I.pin p (List.mem_append_right _ z)) fun z=>by
    obtain ⟨hb,e⟩:=of_pinsAt z
    obtain ⟨f0,f1,f2,_⟩:=hf p.1 hb
    obtain ⟨o,e',d⟩:=ho p.1 hb
    rw [e] at e'; cases e'
    exact ⟨e,f0,f1,f2,d⟩
theorem Inv.unpinned {pins pl:List (Addr × Obj)}{σ:St}{H:Hp}{s:Shared}(I:Inv X (pins++pl) σ H s):Inv X pins σ H s:=I.pins_of fun p hp=>I.pin p (List.mem_append_right _ (List.mem_append_left _ hp))
theorem ps_for {iter:Expr}{body:List Stmt}{wi:TI}{g:TG}{tb:TS}{pos:Pos}(hp:PassesOwn (model X.prog X.w) X.A X.env X.xe)(hc:X.calm=true)(hi:PI X tg iter wi)(hg:PG X tg g)(hb:PSs X body tb)
    (hs : ∀ x,foldedSetIterable iter X.env x=pure x:=by intro _; rfl):PS X (.For tg iter body [] pos) (tFor wi g tb):=by
  intro pins s σ H D I h
  refine wpAny_For (thn (hi pins s σ H _ I h) fun v s1 h1=>thn h1 fun itv s2 h2=>?_) hs
  obtain ⟨it,fp,tn,J,H2,e,I2,T,st2,f2,W,⟨m0,w0⟩,turn⟩:=h2
  subst e
  have stat : ∀ {H':Hp},(∀ b∈fp,H' b=none)→∀ b∈fp,FpOk X pins H' b:=fun hn b hb=>⟨hn b hb,(f2 b hb).2⟩
  refine codeAny_forLoop_any (fun n s'=>∃ i σ' H',Inv X pins σ' H' s'∧tn i s'.heap∧(∀ b∈fp,H' b=none)∧W i n σ' H') ?_ m0 ⟨0, σ,H2,I2,st2,fun b hb=>(f2 b hb).1,w0⟩
  rintro n s3 ⟨i, σ3,H3,I3,st3,fr3,w3⟩
  rcases turn i n σ3 H3 w3 with ⟨stop,qn⟩ | ⟨go,N,hN,step⟩
  · refine wpAny_passesOwn hp (thn (T.done X rfl rfl rfl hc i pins s3 σ3 H3 X.xe I3 (stat fr3) st3 stop) fun r s4 zz_=>?_)
    obtain ⟨hr,I4⟩:=zz_
    subst hr
    exact wpAny_execs_nil ⟨σ3,H3,I4,qn⟩
  · refine wpAny_passesOwn hp (thn (T.item X rfl rfl rfl hc i pins s3 σ3 H3 X.xe I3 (stat fr3) st3 go) fun r s4 zz_=>?_)
    obtain ⟨u,hr,h4⟩:=zz_
    subst hr
    refine wpAny_passesOwn hp (thn5 h4 fun _ s5 x H5 I5 r5 zz_=>?_)
    obtain ⟨y5,st5,fr5⟩:=zz_
    have I5':=I5.pinned (stat fr5) (T.obj _ _ st5)
    refine wpAny_passesOwn hp (thn (hg _ s5 σ3 H5 x u _ I5' r5 (step x H5 y5)) fun _ s6 zz_=>?_)
    obtain ⟨σ6,H6,I6,q6⟩:=zz_
    refine wpAny_passesOwn hp (thn (hb _ s6 σ6 H6 _ I6 q6) fun f s7 q7=>?_)
    have again : ∀ {σ7:St} {H7:Hp},Inv X (pins++pinsAt fp s5.heap) σ7 H7 s7→N σ7 H7→∃ m,m<n∧∃ i σ' H',Inv X pins σ' H' s7∧tn i s7.heap∧(∀ b∈fp,H' b=none)∧W i m σ' H':=fun {σ7 H7} I7 n7=>by
      obtain ⟨m',hm,w7⟩:=hN σ7 H7 n7
      refine ⟨m',hm,i+1, σ7,H7,I7.unpinned,T.keep _ _ _ st5 fun b hb o e=>(I7.pin (b,o) (List.mem_append_right _ (List.mem_append_right _ (mem_pinsAt hb e)))).1,fun b hb=>?_,w7⟩
      obtain ⟨o,e,d⟩:=T.obj _ _ st5 b hb
      exact (I7.pin (b,o) (List.mem_append_right _ (List.mem_append_right _ (mem_pinsAt hb e)))).2.1
    cases f with
    | next=>obtain ⟨σ7,H7,I7,n7⟩:=q7; exact again I7 n7
    | cont=>obtain ⟨σ7,H7,I7,n7⟩:=q7; exact again I7 n7
    | brk=>obtain ⟨σ7,H7,I7,q7⟩:=q7; exact ⟨σ7,H7,I7.unpinned,q7⟩
    | ret v=>obtain ⟨x7, σ7,H7,I7,r7,q7⟩:=q7; exact ⟨x7, σ7,H7,I7.unpinned,r7,q7⟩
end
theorem for_list {K:PySem.W.Frag}{a:Addr}{xs:List V}{g:TG}{tb:TS}{D:Ends}{σ:St}{H:Hp}(Pv:Nat→St→Hp→Prop)(h0:Pv 0 σ H)(hl : ∀ i σ H,i≤xs.length→Pv i σ H→SqL K H a xs)
    (hs : ∀ i x σ H,xs[i]?=some x→Pv i σ H→g x σ H fun σ2 H2=>tb { D with nx:=Pv (i+1),ct:=Pv (i+1),bk:=D.nx } σ2 H2) (hd : ∀ σ H,Pv xs.length σ H→D.nx σ H) :
    ∃ W:Nat→Nat→St→Hp→Prop,(∃ m,W 0 m σ H)∧∀ i m σ H,W i m σ H →
      ((Itl K a).stop i H∧D.nx σ H)∨((Itl K a).go i H∧∃ N:St→Hp→Prop,(∀ σ' H',N σ' H'→∃ m',m'<m∧W (i+1) m' σ' H')∧∀ x H',(Itl K a).yld i H x H'→g x σ H' fun σ2 H2=>tb { D with nx:=N,ct:=N,bk:=D.nx } σ2 H2):=by
  refine ⟨fun i m σ H=>m=xs.length - i∧i≤xs.length∧Pv i σ H,⟨xs.length,by simp,Nat.zero_le _,h0⟩, ?_⟩
  rintro i m σ H ⟨rfl,hi,p⟩
  have q:=hl i σ H hi p
  by_cases hlt:i<xs.length
  · refine .inr ⟨⟨xs,xs[i],q,by simp [hlt]⟩,Pv (i+1),fun σ' H' p'=>⟨xs.length - (i+1),by omega,rfl,hlt,p'⟩,fun x H' y=>?_⟩
    obtain ⟨e,y⟩:=y
    subst e
    exact hs i x σ _ (y xs q) p
  · have e:i=xs.length:=by omega
    subst e
    exact .inl ⟨⟨xs,q,Nat.le_refl _⟩,hd σ H p⟩
theorem for_tup {K:PySem.W.Frag}{a:Addr}{xs:List V}{g:TG}{tb:TS}{D:Ends}{σ:St}{H:Hp}(Pv:Nat→St→Hp→Prop)(h0:Pv 0 σ H)(hl : ∀ i σ H,i≤xs.length→Pv i σ H→SqT K H a xs)
    (hs : ∀ i x σ H,xs[i]?=some x→Pv i σ H→g x σ H fun σ2 H2=>tb { D with nx:=Pv (i+1),ct:=Pv (i+1),bk:=D.nx } σ2 H2) (hd : ∀ σ H,Pv xs.length σ H→D.nx σ H) :
    ∃ W:Nat→Nat→St→Hp→Prop,(∃ m,W 0 m σ H)∧∀ i m σ H,W i m σ H →
      ((Itt K a).stop i H∧D.nx σ H)∨((Itt K a).go i H∧∃ N:St→Hp→Prop,(∀ σ' H',N σ' H'→∃ m',m'<m∧W (i+1) m' σ' H')∧∀ x H',(Itt K a).yld i H x H'→g x σ H' fun σ2 H2=>tb { D with nx:=N,ct:=N,bk:=D.nx } σ2 H2):=by
  refine ⟨fun i m σ H=>m=xs.length - i∧i≤xs.length∧Pv i σ H,⟨xs.length,by simp,Nat.zero_le _,h0⟩, ?_⟩
  rintro i m σ H ⟨rfl,hi,p⟩
  have q:=hl i σ H hi p
  by_cases hlt:i<xs.length
  · refine .inr ⟨⟨xs,xs[i],q,by simp [hlt]⟩,Pv (i+1),fun σ' H' p'=>⟨xs.length - (i+1),by omega,rfl,hlt,p'⟩,fun x H' y=>?_⟩
    obtain ⟨e,y⟩:=y
    subst e
    exact hs i x σ _ (y xs q) p
  · have e:i=xs.length:=by omega
    subst e
    exact .inl ⟨⟨xs,q,Nat.le_refl _⟩,hd σ H p⟩
end L2
namespace L2
open PySem PySem.Spec PyProof.Rows
noncomputable abbrev R2:=V→V→Hp→VK→Prop
noncomputable def OpR (X:Cx)(f:Value→Value→Sem Value)(r:R2):Prop :=
  ∀ (pins:List (Addr × Obj)) (s:Shared) (σ:St) (H:Hp) (x y:V) (v u:Value) (Q:VK),Inv X pins σ H s→RelV x v→RelV y u→r x y H Q →
    wpAny (model X.prog X.w) X.A (f v u) (EP X pins σ Q) X.xe s
noncomputable def UnR (X:Cx)(f:Value→Sem Value)(r:V→Hp→VK→Prop):Prop :=
  ∀ (pins:List (Addr × Obj)) (s:Shared) (σ:St) (H:Hp) (x:V) (v:Value) (Q:VK),Inv X pins σ H s→RelV x v→r x H Q →
    wpAny (model X.prog X.w) X.A (f v) (EP X pins σ Q) X.xe s
noncomputable def CallR (X:Cx)(f:Value)(r:List V→Hp→VK→Prop):Prop :=
  ∀ (pins:List (Addr × Obj)) (s:Shared) (σ:St) (H:Hp) (xs:List V) (us:List Value) (Q:VK),Inv X pins σ H s→Vals xs us→r xs H Q →
    wpAny (model X.prog X.w) X.A (call f us) (EP X pins σ Q) X.xe s
noncomputable def tOp (r:R2)(ta tb:TE):TE:=fun σ H Q=>ta σ H fun x H1=>tb σ H1 fun y H2=>r x y H2 Q
noncomputable def tUn (r:V→Hp→VK→Prop)(ta:TE):TE:=fun σ H Q=>ta σ H fun x H1=>r x H1 Q
noncomputable def rI (C:Int→Int→Prop)(g:Int→Int→V):R2:=fun x y H Q=>∃ i j,x=.int i∧y=.int j∧C i j∧Q (g i j) H
noncomputable def rI0 (g:Int→Int→V):R2:=fun x y H Q=>∃ i j,x=.int i∧y=.int j∧Q (g i j) H
noncomputable def rU (g:Int→V):V→Hp→VK→Prop:=fun x H Q=>∃ i,x=.int i∧Q (g i) H
section
variable {X:Cx}{a b c:Expr}{ta tb tc:TE}{pos:Pos}
theorem binT (ha:PE X a ta)(hb:PE X b tb){pins:List (Addr × Obj)}{s:Shared}{σ:St}{H:Hp}{R:V→V→Hp→Prop}(I:Inv X pins σ H s)
    (h:ta σ H fun x H1=>tb σ H1 fun y H2=>R x y H2) {Q:Value→Shared→Prop} {f:Value→Value→Sem Value}
    (hf : ∀ v u s2 x y H2,Inv X pins σ H2 s2→RelV x v→RelV y u→R x y H2→wpAny (model X.prog X.w) X.A (f v u) Q X.xe s2) :
    wpAny (model X.prog X.w) X.A (eval a X.env) (fun v s₁=>wpAny (model X.prog X.w) X.A (eval b X.env) (fun u s₂=>wpAny (model X.prog X.w) X.A (f v u) Q X.xe s₂) X.xe s₁) X.xe s:=by
  refine thn5 (ha pins s σ H _ I h) fun v s1 x H1 I1 r1 q1=>?_
  refine thn5 (hb pins s1 σ H1 _ I1 q1) fun u s2 y H2 I2 r2 q2=>?_
  exact hf v u s2 x y H2 I2 r1 r2 q2
theorem pe_op {op:Operator}{r:R2}(ho:OpR X (binaryOp op) r)(ha:PE X a ta)(hb:PE X b tb):PE X (.BinOp a op b pos) (tOp r ta tb):=by
  intro pins s σ H Q I h
  exact wpAny_BinOp (binT ha hb I h fun v u s2 x y H2 I2 rx ry q=>ho pins s2 σ H2 x y v u Q I2 rx ry q)
theorem pe_un {op:UnaryOp}{r:V→Hp→VK→Prop}(ho:UnR X (unaryOp op) r)(ha:PE X a ta):PE X (.UnaryOp op a pos) (tUn r ta):=by
  intro pins s σ H Q I h
  exact UnaryOp_ (thn5 (ha pins s σ H _ I h) fun v s1 x H1 I1 r1 q1=>ho pins s1 σ H1 x v Q I1 r1 q1)
theorem opI {f:Value→Value→Sem Value}{C:Int→Int→Prop}{g:Int→Int→Int}
    (rule : ∀ (i j:Int) (t u:Tok) (s:Shared) (Q:Value→Shared→Prop) (E:Value→Shared→Prop),C i j→Q (.int (g i j) s.toks) { s with toks:=s.toks+1 }→wpAny (model X.prog X.w) X.A (f (.int i t) (.int j u)) Q E s) :
    OpR X f (rI C fun i j=>.int (g i j)):=by
  intro pins s σ H x y v u Q I rx ry h
  obtain ⟨i,j,rfl,rfl,hc,q⟩:=h
  obtain ⟨t,rfl⟩:=rx
  obtain ⟨t',rfl⟩:=ry
  exact rule i j t t' s _ _ hc ⟨.int (g i j),H,I.tok _,⟨_,rfl⟩,q⟩
theorem opI0 {f:Value→Value→Sem Value}{g:Int→Int→Int}
    (rule : ∀ (i j:Int) (t u:Tok) (s:Shared) (Q:Value→Shared→Prop) (E:Value→Shared→Prop),Q (.int (g i j) s.toks) { s with toks:=s.toks+1 }→wpAny (model X.prog X.w) X.A (f (.int i t) (.int j u)) Q E s) :
    OpR X f (rI0 fun i j=>.int (g i j)):=by
  intro pins s σ H x y v u Q I rx ry h
  obtain ⟨i,j,rfl,rfl,q⟩:=h
  obtain ⟨t,rfl⟩:=rx
  obtain ⟨t',rfl⟩:=ry
  exact rule i j t t' s _ _ ⟨.int (g i j),H,I.tok _,⟨_,rfl⟩,q⟩
theorem opB0 {f:Value→Value→Sem Value}{g:Int→Int→Bool}
    (rule : ∀ (i j:Int) (t u:Tok) (s:Shared) (Q:Value→Shared→Prop) (E:Value→Shared→Prop),Q (.bool (g i j)) s→wpAny (model X.prog X.w) X.A (f (.int i t) (.int j u)) Q E s) :
    OpR X f (rI0 fun i j=>.bl (g i j)):=by
  intro pins s σ H x y v u Q I rx ry h
  obtain ⟨i,j,rfl,rfl,q⟩:=h
  obtain ⟨t,rfl⟩:=rx
  obtain ⟨t',rfl⟩:=ry
  exact rule i j t t' s _ _ ⟨.bl (g i j),H,I,rfl,q⟩
noncomputable def CDiv (i j:Int):Prop:=0<j∧j<1073741824
noncomputable def CPow (i j:Int):Prop:=0≤j∧j≤1000000∧i.natAbs<2 ^ 64
noncomputable def CMul (i j:Int):Prop:=(-(2 ^ 64)<i∧i<2 ^ 64)∨(-(2 ^ 64)<j∧j<2 ^ 64)
theorem CMul.ok {i j:Int}(h:CMul i j):IntMulOk i j:=by
  rcases h with ⟨h1,h2⟩ | ⟨h1,h2⟩
  · exact .of_left (intBits_le_64 h1 h2)
  · exact .of_right (intBits_le_64 h1 h2)
theorem op_add:OpR X (binaryOp .Add) (rI0 fun i j=>.int (i+j)):=opI0 fun _ _ _ _ _ _ _ q=>add_int q
theorem op_sub:OpR X (binaryOp .Sub) (rI0 fun i j=>.int (i - j)):=opI0 fun _ _ _ _ _ _ _ q=>sub_int q
theorem op_mul:OpR X (binaryOp .Mult) (rI CMul fun i j=>.int (i * j)):=opI fun _ _ _ _ _ _ _ hc q=>mul_int q hc.ok
theorem op_fdiv:OpR X (binaryOp .FloorDiv) (rI CDiv fun i j=>.int (i / j)):=opI fun i j _ _ _ _ _ hc q=>by
  have h1:(0:Int)<j:=hc.1
  have h2:j<1073741824:=hc.2
  exact floordiv_int (by omega) (by rw [Int.fdiv_eq_ediv_of_nonneg i (by omega)]; exact q) (.inl (PyProof.noPylong_small (by omega)))
theorem op_mod:OpR X (binaryOp .Mod) (rI (fun _ j=>0<j) fun i j=>.int (i % j)):=opI fun i j _ _ _ _ _ hc q=>by
  have h1:(0:Int)<j:=hc
  exact mod_int' (by omega) (by rw [Int.fmod_eq_emod_of_nonneg i (by omega)]; exact q)
theorem op_pow:OpR X (binaryOp .Pow) (rI CPow fun i j=>.int (i ^ j.toNat)):=opI fun _ _ _ _ _ _ _ hc q=>pow_int_small hc.1 hc.2.1 hc.2.2 q
theorem unI {f:Value→Sem Value}{g:Int→Int}
    (rule : ∀ (i:Int) (t:Tok) (s:Shared) (Q:Value→Shared→Prop) (E:Value→Shared→Prop),Q (.int (g i) s.toks) { s with toks:=s.toks+1 }→wpAny (model X.prog X.w) X.A (f (.int i t)) Q E s) :
    UnR X f (rU fun i=>.int (g i)):=by
  intro pins s σ H x v Q I rx h
  obtain ⟨i,rfl,q⟩:=h
  obtain ⟨t,rfl⟩:=rx
  exact rule i t s _ _ ⟨.int (g i),H,I.tok _,⟨_,rfl⟩,q⟩
theorem un_neg:UnR X (unaryOp .USub) (rU fun i=>.int (-i)):=unI fun _ _ _ _ _ q=>neg_int q
end
section
variable {X:Cx}{a b c:Expr}{ta tb tc:TE}{pos:Pos}
theorem op_lt:OpR X (compareOp .Lt) (rI0 fun i j=>.bl (decide (i<j))):=opB0 fun _ _ _ _ _ _ _ q=>lt_int q
theorem op_le:OpR X (compareOp .LtE) (rI0 fun i j=>.bl (decide (i≤j))):=opB0 fun _ _ _ _ _ _ _ q=>le_int q
theorem op_gt:OpR X (compareOp .Gt) (rI0 fun i j=>.bl (decide (j<i))):=opB0 fun _ _ _ _ _ _ _ q=>gt_int q
theorem op_ge:OpR X (compareOp .GtE) (rI0 fun i j=>.bl (decide (j≤i))):=opB0 fun _ _ _ _ _ _ _ q=>ge_int q
theorem OpR.or {f:Value→Value→Sem Value}{r r':R2}(h:OpR X f r)(h':OpR X f r'):OpR X f (fun x y H Q=>r x y H Q∨r' x y H Q):=by
  intro pins s σ H x y v u Q I rx ry q
  rcases q with q | q
  · exact h pins s σ H x y v u Q I rx ry q
  · exact h' pins s σ H x y v u Q I rx ry q
theorem nomark (b:Expr){op:CmpOp}(h:op≠.In:=by decide)(h2:op≠.NotIn:=by decide):behindInMarks op b=false:=by
  have e1:(op == CmpOp.In)=false:=by cases op <;> first | rfl | exact absurd rfl h
  have e2:(op == CmpOp.NotIn)=false:=by cases op <;> first | rfl | exact absurd rfl h2
  cases b <;> simp [behindInMarks,e1,e2]
theorem pe_cmpR {op:CmpOp}{r:R2}(ho:OpR X (compareOp op) r)(ha:PE X a ta)(hb:PE X b tb)(hm:behindInMarks op b=false):PE X (.Compare a [op] [b] pos) (tOp r ta tb):=by
  intro pins s σ H Q I h
  exact wpAny_Compare1 (binT ha hb I h fun v u s2 x y H2 I2 rx ry q=>ho pins s2 σ H2 x y v u Q I2 rx ry q) hm
noncomputable def tTest (t:TE):TT:=fun σ H Q=>t σ H fun x H'=>∃ k,x=.bl k∧Q k H'
theorem pt_cmpR {op:CmpOp}{r:R2}(ho:OpR X (compareOp op) r)(ha:PE X a ta)(hb:PE X b tb)(hm:behindInMarks op b=false):PT X (.Compare a [op] [b] pos) (tTest (tOp r ta tb)):=by
  intro pins s σ H Q I h
  refine wpAny_isTrue_Compare1 (thn5 (ha pins s σ H _ I h) fun v s1 x H1 I1 r1 q1=>thn5 (hb pins s1 σ H1 _ I1 q1) fun u s2 y H2 I2 r2 q2 =>
    thn5 (ho pins s2 σ H2 x y v u _ I2 r1 r2 q2) fun c s3 z H3 I3 r3 ⟨k,e,q3⟩=>?_) hm
  subst e
  cases r3
  exact wpAny_truthy_bool ⟨H3,I3,q3⟩
noncomputable def tChain (r r':R2)(ta tb tc:TE):TE:=fun σ H Q=>ta σ H fun x H1=>tb σ H1 fun y H2=>r x y H2 fun z H3=>∃ k,z=.bl k ∧
  (if k=true then tc σ H3 fun w' H4=>r' y w' H4 Q else Q (.bl false) H3)
theorem pt_chain {op op':CmpOp}{r r':R2}(ho:OpR X (compareOp op) r)(ho':OpR X (compareOp op') r')(ha:PE X a ta)(hb:PE X b tb)(hc:PE X c tc)
    (hm:lastMarks [op,op'] [b,c]=false:=by with_unfolding_all rfl):PT X (.Compare a [op,op'] [b,c] pos) (tTest (tChain r r' ta tb tc)):=by
  intro pins s σ H Q I h
  refine isTrue_chain (thn5 (ha pins s σ H _ I h) fun v s1 x H1 I1 r1 q1=>test_link (thn5 (hb pins s1 σ H1 _ I1 q1) fun u s2 y H2 I2 r2 q2 =>
    thn5 (ho pins s2 σ H2 x y v u _ I2 r1 r2 q2) fun d s3 z H3 I3 r3 ⟨k,e,q3⟩=>?_)) hm
  subst e
  cases r3
  refine wpAny_truthy_bool ?_
  cases k with
  | false =>
    obtain ⟨k',e',q'⟩:=q3
    cases e'
    exact ite_ff ⟨H3,I3,q'⟩
  | true =>
    refine ite_tt (test_last (thn5 (hc pins s3 σ H3 _ I3 q3) fun w' s4 z' H4 I4 r4 q4=>thn5 (ho' pins s4 σ H4 y z' u w' _ I4 r2 r4 q4) fun d' s5 z2 H5 I5 r5 zz_=>?_))
    obtain ⟨k2,e2,q5⟩:=zz_
    subst e2
    cases r5
    exact wpAny_truthy_bool ⟨H5,I5,q5⟩
theorem line63:(sizeLine:Nat)<2 ^ 63:=by rw [sizeLine_eq]; decide
theorem op_add_str:OpR X (binaryOp .Add) (fun x y H Q=>∃ i j,x=.str i∧y=.str j∧i.length+j.length≤sizeLine∧Q (.str (i++j)) H):=by
  intro pins s σ H x y v u Q I rx ry h
  obtain ⟨i,j,rfl,rfl,hz,q⟩:=h
  obtain ⟨t,rfl⟩:=rx
  obtain ⟨t',rfl⟩:=ry
  exact add_str (fun t' tk=>⟨.str (i++j),H,I.tok _,⟨_,rfl⟩,q⟩) hz
theorem vals1 {x:V}{us:List Value}(r:Vals [x] us) : ∃ u,us=[u]∧RelV x u:=by
  cases r with
  | cons r1 r2=>cases r2; exact ⟨_,rfl,r1⟩
noncomputable def LenV (K:PySem.W.Frag)(x:V)(H:Hp)(n:Nat):Prop :=
  match x with
  | .str y=>y.length≤sizeLine∧n=y.length
  | .byt y=>y.size≤sizeLine∧n=y.size
  | .ref p=>(∃ xs,SqL K H p xs∧n=xs.length)∨∃ xs,SqT K H p xs∧n=xs.length
  | _=>False
theorem call_len:CallR X (.builtin "len") (fun xs H Q=>∃ x n,xs=[x]∧LenV X.K x H n∧Q (.int n) H):=by
  intro pins s σ H xs us Q I r h
  obtain ⟨x,n,rfl,e,q⟩:=h
  obtain ⟨u,rfl,rx⟩:=vals1 r
  have hl:=line63
  have hs:sizeLine=16777216:=sizeLine_eq
  cases x with
  | str y =>
    obtain ⟨t,rfl⟩:=rx
    obtain ⟨hy,e'⟩:y.length≤sizeLine∧n=y.length:=e
    subst e'
    exact len_str (by omega) ⟨.int _,H,I.tok _,⟨_,rfl⟩,q⟩
  | byt y =>
    obtain ⟨t,rfl⟩:=rx
    obtain ⟨hy,e'⟩:y.size≤sizeLine∧n=y.size:=e
    subst e'
    exact PySem.W.len_bytes (by omega) ⟨.int _,H,I.tok _,⟨_,rfl⟩,q⟩
  | ref p =>
    cases rx
    have e':(∃ xs,SqL X.K H p xs∧n=xs.length)∨∃ xs,SqT X.K H p xs∧n=xs.length:=e
    rcases e' with ⟨xs,hx,e'⟩ | ⟨xs,hx,e'⟩
    · subst e'
      obtain ⟨its,r',pl,hz⟩:=I.list hx
      have hlen:=r'.length
      exact Calls.call_len_list pl.isList (by simp only [List.size_toArray]; omega) ⟨.int xs.length,H,I.tok _,⟨_,by simp only [List.size_toArray]; rw [hlen]⟩,q⟩
    · subst e'
      obtain ⟨its,r',pl,hz⟩:=I.tuple hx
      have hlen:=r'.length
      exact len_tuple pl (by simp only [List.size_toArray]; omega) ⟨.int xs.length,H,I.tok _,⟨_,by simp only [List.size_toArray]; rw [hlen]⟩,q⟩
  | _=>exact (show False from e).elim
end
end L2
namespace L2
open PySem PySem.Spec PyProof.Rows
structure ObjM (h:Heap)(x dx C:Addr)(mA:Str→Option Value):Prop where
  obj:h.get? x=some (PySem.W.instObj C dx)
  ns:h.Ns1 dx mA
  ne:dx≠x
theorem lookIn_ns {h:Heap}{dx:Addr}{mA:Str→Option Value}(n:h.Ns1 dx mA) : ∃ od,h.get? dx=some od∧∀ name,PySem.W.lookIn name od=some (mA name):=by
  obtain ⟨o,es,ep,ho,hd,hk,_,hm⟩:=n
  refine ⟨o,ho,fun name=>?_⟩
  have e:=hm name
  unfold nsFind findBy at e
  rw [← Array.find?_toList] at e
  unfold PySem.W.lookIn
  rw [hd]
  dsimp only
  split
  · rename_i y q
    rw [q] at e
    exact congrArg some e
  · rename_i q
    rw [q] at e
    have a:es.toList.any (·.refKey)=false:=by
      rw [List.any_eq_false]
      intro y hy
      obtain ⟨z,t,hkey⟩:=hk y (Array.mem_toList_iff.mp hy)
      simp [DictEntry.refKey,hkey]
    have a' : ¬ es.toList.any (·.refKey)=true:=by rw [a]; exact Bool.false_ne_true
    rw [if_neg a']
    exact congrArg some e
theorem ObjM.look {h:Heap}{x dx C:Addr}{mA:Str→Option Value}(I:ObjM h x dx C mA) : ∃ od,PySem.W.InstAt h x (PySem.W.instObj C dx) C (some od)∧∀ name,PySem.W.lookIn name od=some (mA name) :=
  let ⟨od,ho,hl⟩:=lookIn_ns I.ns
  ⟨od,⟨I.obj,rfl,rfl,ho⟩,hl⟩
section
variable {prog:Program}{w:World}{A:Around}{E:Value→Shared→Prop}{s:Shared}{K:PySem.W.Frag}{x dx C f:Addr}{mA:Str→Option Value}{name:Str}{v:Value}
theorem get_map {expr:Bool}{Q:Value→Shared→Prop}(X:K.In s.heap)(I:ObjM s.heap x dx C mA)(hg:PySem.W.plainGet K C name=true)(hh:PySem.W.hasDictIn K C=true)
    (ha:PySem.W.findIn K (.ref C) name=some none) (hv:mA name=some v) (hv':PySem.W.handedIn v=true) (h:Q v { s with toks:=s.toks+1 }) :
    wpAny (model prog w) A (getAttr (.ref x) name expr) Q E s:=by
  obtain ⟨od,J,hl⟩:=I.look
  exact PySem.W.get_value X J (PySem.W.plainGet_of hg).1 (PySem.W.findObj_own hh ha rfl (by rw [hl,hv])) hv' h
theorem get_meth {pl:Sem Bool}{Q:Value × List Value→Shared→Prop}(X:K.In s.heap)(I:ObjM s.heap x dx C mA)(hg:PySem.W.plainGet K C name=true)
    (hf:PySem.W.findIn K (.ref C) name=some (some (.ref f))) (ht:PySem.W.isFn K (.ref f)=true) (hv:mA name=none) (h:Q (.ref f,[.ref x]) s) :
    wpAny (model prog w) A (getMethod (.ref x) name pl) Q E s:=by
  obtain ⟨od,J,hl⟩:=I.look
  exact PySem.W.method_fn X J (PySem.W.plainGet_of hg).1 (PySem.W.plainGet_of hg).2 hf (beq_iff_eq.mp ht) (by show (PySem.W.lookIn name od).map (·.isSome)=some false; rw [hl,hv]; rfl) h
theorem set_map {ns:List Str}{Q:Unit→Shared→Prop}(X:K.In s.heap)(I:ObjM s.heap x dx C mA)
    (hs:PySem.W.findIn K (.ref C) "__setattr__"=some (some (.builtin "object.__setattr__"))) (hp:PySem.W.plainOver K C=true) (ht:PySem.W.takerIn K C name=some none) (hh:PySem.W.hasDictIn K C=true)
    (hw:PySem.Within mA ns) (hsz:ns.length≤sizeLine)
    (h : ∀ h',ObjM h' x dx C (fun y=>if y=name then some v else mA y)→Heap.SameBut dx s.heap h'→Q () { s with heap:=h',toks:=s.toks+2 }) :
    wpAny (model prog w) A (setAttr (.ref x) name v) Q E s:=by
  obtain ⟨od,J,hl⟩:=I.look
  refine PySem.W.set_plain X J hs (PySem.W.osa_open (s:={ s with toks:=s.toks+1 }) (r:=none) X J hp ht fun b=>?_)
  obtain ⟨cd,hc,hd'⟩:=PySem.W.any_some hh
  have hx:s.heap.get? x=some ⟨.ref C,some dx,.plain, #[]⟩:=I.obj
  refine wpAny_bind (wpAny_pure (wpAny_bind (wpAny_bind (wpAny_loadPart hx (wpAny_bind (PySem.W.Looks.here (s:={ s with toks:=s.toks+1 }) (PySem.W.looks_clsIn X hc) ?_))))))
  rw [hd']
  refine wpAny_pure (a:=some dx) (wpAny_bind (wpAny_pure (wpAny_bind ?_)))
  refine wpAny_nsSet1 (s:={ s with toks:=s.toks+1 }) I.ns fun h' hn2 hs2=>?_
  obtain ⟨oD,esD,epD,hoD,hdD,hcD⟩:=hn2.count (PySem.Within.cons name v hw)
  refine wpAny_bind (wpAny_lookBehind hoD (by rw [hdD]; exact pastItsLine_dict (Nat.le_trans hcD (by rw [List.length_cons]; omega))) ?_)
  exact wpAny_pure (h _ ⟨(hs2.2 _ (Ne.symm I.ne)).trans I.obj,hn2,I.ne⟩ hs2)
theorem make_map {R:Result→Shared→Prop}{vs:List Value}{kw:List (Str × Value)}(X:K.In s.heap)(hm:PySem.W.makesIn K C=true)
    (hi:PySem.W.findIn K (.ref C) "__init__"=some (some (.ref f))) (hf:PySem.W.typeIn K (.ref f)=some (.type "function"))
    (h:codeAny (model prog w) (A.under (.builtin "type.__call__" ⟨.ref C::vs,kw⟩)) (.call (.ref f) ⟨.ref (s.heap.objs.size+1)::vs,kw⟩) (PySem.W.InitBack (s.heap.objs.size+1) R)
      { s with heap:=(s.heap.push PySem.W.emptyDict).push (PySem.W.instObj C s.heap.objs.size) }) :
    codeAny (model prog w) A (.call (.ref C) ⟨vs,kw⟩) R s:=by
  obtain ⟨hh,g,d,t,os⟩:=s
  exact PySem.W.make_core (PySem.W.makes_of X hm) (PySem.W.looks_findIn X hi) (fun self=>PySem.W.bind_fn X self hf) (.inl rfl) h
end
noncomputable def putF (f:Str)(v:V):List (Str × V)→List (Str × V)
  | []=>[(f,v)]
  | (g,x)::r=>if g=f then (g,v)::r else (g,x)::putF f v r
theorem lookup_putF (f g:Str)(v:V) : ∀ fs:List (Str × V),(putF f v fs).lookup g=if g=f then some v else fs.lookup g
  | []=>by
    show List.lookup g [(f,v)]=_
    by_cases h:g=f
    · have hb:(g == f)=true:=beq_iff_eq.mpr h
      simp only [List.lookup,hb,if_pos h]
    · have hb:(g == f)=false:=beq_eq_false_iff_ne.mpr h
      simp only [List.lookup,hb,if_neg h]
  | (k,x)::r=>by
    have ih:=lookup_putF f g v r
    rw [show putF f v ((k,x)::r)=(if k=f then (k,v)::r else (k,x)::putF f v r) from rfl]
    by_cases hk:k=f
    · rw [if_pos hk]
      by_cases h:g=k
      · have hb:(g == k)=true:=beq_iff_eq.mpr h
        simp only [List.lookup,hb,if_pos (h.trans hk)]
      · have hb:(g == k)=false:=beq_eq_false_iff_ne.mpr h
        simp only [List.lookup,hb,if_neg (fun e:g=f=>h (e.trans hk.symm))]
    · rw [if_neg hk]
      by_cases h:g=k
      · have hb:(g == k)=true:=beq_iff_eq.mpr h
        simp only [List.lookup,hb,if_neg (fun e:g=f=>hk (h.symm.trans e))]
      · have hb:(g == k)=false:=beq_eq_false_iff_ne.mpr h
        simp only [List.lookup,hb]
        exact ih
theorem keys_putF (f:Str)(v:V) : ∀ fs:List (Str × V),f∈(putF f v fs).map (·.1)∧∀ g,g∈fs.map (·.1)→g∈(putF f v fs).map (·.1)
  | []=>⟨by simp [putF],fun g h=>by simp at h⟩
  | (k,x)::r=>by
    obtain ⟨i1,i2⟩:=keys_putF f v r
    rw [show putF f v ((k,x)::r)=(if k=f then (k,v)::r else (k,x)::putF f v r) from rfl]
    by_cases hk:k=f
    · rw [if_pos hk]
      subst hk
      exact ⟨by simp,fun g h=>by simpa using h⟩
    · rw [if_neg hk]
      refine ⟨?_,fun g h=>?_⟩
      · rw [List.map_cons]
        exact List.mem_cons_of_mem _ i1
      · rw [List.map_cons] at h ⊢
        rcases List.mem_cons.mp h with e | e
        · exact List.mem_cons.mpr (.inl e)
        · exact List.mem_cons_of_mem _ (i2 g e)
theorem length_putF (f:Str)(v:V) : ∀ fs:List (Str × V),(putF f v fs).length≤fs.length+1
  | []=>by simp [putF]
  | (k,x)::r=>by
    have ih:=length_putF f v r
    rw [show putF f v ((k,x)::r)=(if k=f then (k,v)::r else (k,x)::putF f v r) from rfl]
    by_cases hk:k=f
    · rw [if_pos hk,List.length_cons,List.length_cons]; omega
    · rw [if_neg hk,List.length_cons,List.length_cons]; omega
theorem RelO.some_of {v:V}{o:Option Value}(r:RelO (some v) o) : ∃ u,o=some u∧RelV v u:=by
  cases o with
  | none=>exact (show False from r).elim
  | some u=>exact ⟨u,rfl,r⟩
theorem RelO.none_of {o:Option Value}(r:RelO none o):o=none:=by
  cases o with
  | none=>rfl
  | some u=>exact (show False from r).elim
theorem handed_of {v:V}{u:Value}(r:RelV v u):PySem.W.handedIn u=true:=by
  cases v with
  | non=>cases (show u=Value.none from r); rfl
  | bl b=>cases (show u=Value.bool b from r); rfl
  | int i=>obtain ⟨t,e⟩:=(show ∃ t,u=Value.int i t from r); cases e; rfl
  | str x=>obtain ⟨t,e⟩:=(show ∃ t,u=Value.str x t from r); cases e; rfl
  | byt b=>obtain ⟨t,e⟩:=(show ∃ t,u=Value.bytes b t from r); cases e; rfl
  | flt b=>obtain ⟨t,e⟩:=(show ∃ t,u=Value.float b t from r); cases e; rfl
  | ref a=>cases (show u=Value.ref a from r); rfl
  | ty n=>cases (show u=Value.type n from r); rfl
section
variable {P:Program}{w:World}{H H':Hp}{h h':Heap}{a C dx:Addr}{fs fs':List (Str × V)}
theorem ins_get (hok:HOk P w H h)(e:H a=some (.ins C dx fs)) : ∃ mA,ObjM h a dx C mA∧(∀ f,RelO (fs.lookup f) (mA f))∧PySem.Within mA (fs.map (·.1))∧fs.length≤1000∧H dx=some (.own a):=by
  obtain ⟨d,z,ne,ob,mA,n,r,q⟩:=(show ObjOk P w H h a (.ins C dx fs) from hok a _ e)
  exact ⟨mA,⟨ob,n,ne⟩,r,q,z,d⟩
end
structure Cls (K:PySem.W.Frag)(C:Addr):Prop where
  pg:PySem.W.plainGet K C Str.empty=true
  hd:PySem.W.hasDictIn K C=true
  po:PySem.W.plainOver K C=true
  sa:PySem.W.findIn K (.ref C) "__setattr__"=some (some (.builtin "object.__setattr__"))
theorem Cls.get {K:PySem.W.Frag}{C:Addr}(c:Cls K C)(f:Str):PySem.W.plainGet K C f=true:=c.pg
noncomputable def NoAttr (K:PySem.W.Frag)(C:Addr)(f:Str):Prop:=PySem.W.findIn K (.ref C) f=some none
theorem NoAttr.taker {K:PySem.W.Frag}{C:Addr}{f:Str}(n:NoAttr K C f):PySem.W.takerIn K C f=some none:=by
  unfold PySem.W.takerIn
  rw [show PySem.W.findIn K (.ref C) f=some none from n]
  rfl
structure Meth (K:PySem.W.Frag)(C:Addr)(m:Str)(f:Addr):Prop where
  at_:PySem.W.findIn K (.ref C) m=some (some (.ref f))
  fn:PySem.W.isFn K (.ref f)=true
  kp:PySem.W.keepIn K (.ref f)=true
section
variable {X:Cx}{pins:List (Addr × Obj)}{σ:St}{H:Hp}{s:Shared}{a C dx:Addr}{fs:List (Str × V)}{f:Str}{v:V}{A:Around}{E:Value→Shared→Prop}
theorem getattr_ok {b:Bool}{Q:Value→Shared→Prop}(I:Inv X pins σ H s)(e:H a=some (.ins C dx fs))(c:Cls X.K C)(n:NoAttr X.K C f)(l:fs.lookup f=some v)
    (h : ∀ u s',Inv X pins σ H s'→RelV v u→Q u s'):wpAny (model X.prog X.w) A (getAttr (.ref a) f b) Q E s:=by
  obtain ⟨mA,O,r,_,_,_⟩:=ins_get I.hok e
  obtain ⟨u,hu,ru⟩:=RelO.some_of (v:=v) (o:=mA f) (by rw [← l]; exact r f)
  exact get_map I.kIn O (c.get f) c.hd n hu (handed_of ru) (h u _ (I.tok _) ru)
theorem getmeth_ok {m:Str}{g:Addr}{pl:Sem Bool}{Q:Value × List Value→Shared→Prop}(I:Inv X pins σ H s)(e:H a=some (.ins C dx fs))(c:Cls X.K C)(k:Meth X.K C m g)(l:fs.lookup m=none)
    (h:Q (.ref g,[.ref a]) s):wpAny (model X.prog X.w) A (getMethod (.ref a) m pl) Q E s:=by
  obtain ⟨mA,O,r,_,_,_⟩:=ins_get I.hok e
  have hn:mA m=none:=RelO.none_of (by rw [← l]; exact r m)
  exact get_meth I.kIn O (c.get m) k.at_ k.fn hn h
theorem setattr_ok {y:V}{u:Value}{Q:Unit→Shared→Prop}(I:Inv X pins σ H s)(e:H a=some (.ins C dx fs))(c:Cls X.K C)(n:NoAttr X.K C f)(hl:fs.length<1000)(ry:RelV y u)
    (h : ∀ s',Inv X pins σ (upd H a (.ins C dx (putF f y fs))) s'→Q () s'):wpAny (model X.prog X.w) A (setAttr (.ref a) f u) Q E s:=by
  obtain ⟨mA,O,r,wi,_,ho⟩:=ins_get I.hok e
  have hz:(fs.map (·.1)).length≤sizeLine:=by rw [List.length_map,sizeLine_eq]; omega
  refine set_map I.kIn O c.sa c.po n.taker c.hd wi hz fun h' O' sb=>h _ ?_
  have hd : ∃ o,h'.get? dx=some o:=let ⟨o,_,_,e',_⟩:=O'.ns; ⟨o,e'⟩
  refine I.write (x:=a) (e:=dx) (by rw [e]; exact True.intro) (.inr ho) (fun b q hb z=>(sb.2 b hb).trans z) hd ?_
  refine ⟨by rw [upd_ne O.ne]; exact ho, ?_,O.ne,O'.obj,_,O'.ns,fun g=>?_,fun g hg=>?_⟩
  · have:=length_putF f y fs; omega
  · show RelO ((putF f y fs).lookup g) (if g=f then some u else mA g)
    rw [lookup_putF]
    by_cases q:g=f
    · rw [if_pos q,if_pos q]; exact ry
    · rw [if_neg q,if_neg q]; exact r g
  · by_cases q:g=f
    · rw [q]; exact (keys_putF f y fs).1
    · refine (keys_putF f y fs).2 g (wi g fun z=>hg ?_)
      show (if g=f then some u else mA g)=none
      rw [if_neg q]; exact z
theorem Inv.made (I:Inv X pins σ H s):Inv X pins σ (upd (upd H s.heap.objs.size (.own (s.heap.objs.size+1))) (s.heap.objs.size+1) (.ins C s.heap.objs.size []))
    { s with heap:=(s.heap.push PySem.W.emptyDict).push (PySem.W.instObj C s.heap.objs.size) }:=by
  have e1:(s.heap.push PySem.W.emptyDict).get? s.heap.objs.size=some PySem.W.emptyDict:=Heap.get?_push_size s.heap rfl
  have e2:((s.heap.push PySem.W.emptyDict).push (PySem.W.instObj C s.heap.objs.size)).get? (s.heap.objs.size+1)=some (PySem.W.instObj C s.heap.objs.size):=by
    have:=Heap.get?_push_size (s.heap.push PySem.W.emptyDict) (o:=PySem.W.instObj C s.heap.objs.size) rfl
    rwa [Heap.size_push] at this
  have e3:(s.heap.push PySem.W.emptyDict).Ns s.heap.objs.size (fun _=>none):=⟨PySem.W.emptyDict, #[],_,e1,rfl,(fun e he=>absurd he (by simp)),fun _=>rfl⟩
  have I1:=I.laid (a:=s.heap.objs.size) (o:=.own (s.heap.objs.size+1)) (h':=s.heap.push PySem.W.emptyDict) (t':=s.toks) (fun b u q=>Heap.get?_push_of_some _ q) (Nat.le_refl _) ⟨_,e1⟩
  refine I1.laid (a:=s.heap.objs.size+1) (o:=.ins C s.heap.objs.size []) (t':=s.toks) (fun b u q=>Heap.get?_push_of_some _ q) (Nat.le_of_eq (Heap.size_push _ _)) ?_
  have ne:s.heap.objs.size≠s.heap.objs.size+1:=Nat.ne_of_lt (Nat.lt_succ_self _)
  refine ⟨by rw [upd_ne ne,upd_same],Nat.zero_le _,ne,e2,fun _=>none,(Heap.Ns1.of_empty e3).at fun o q=>Heap.get?_push_of_some _ q,fun _=>True.intro,fun y hy=>absurd rfl hy⟩
theorem attr_of {prog:Program}{w:World}{env:Env}{e:Expr}{f:Str}{pos:Pos}{s:Shared}{Q:Value→Shared→Prop}(hb:attributeBase e f env (eval e env)=eval e env)
    (h:wpAny (model prog w) A (eval e env) (fun o s₁=>wpAny (model prog w) A (getAttr o f true) Q E s₁) E s):wpAny (model prog w) A (eval (.Attribute e f pos) env) Q E s :=
  Attribute_any_ h (by rw [arm_eval_Attribute,hb])
end
noncomputable def tFld (K:PySem.W.Frag)(ta:TE)(f:Str):TE:=fun σ H Q=>ta σ H fun x H1=>∃ a C dx fs v,x=.ref a∧H1 a=some (.ins C dx fs)∧Cls K C∧NoAttr K C f∧fs.lookup f=some v∧Q v H1
noncomputable def sFld (K:PySem.W.Frag)(ta tv:TE)(f:Str):TS:=fun D σ H=>tv σ H fun y H1=>ta σ H1 fun x H2=>∃ a C dx fs,x=.ref a∧H2 a=some (.ins C dx fs)∧Cls K C∧NoAttr K C f∧fs.length<1000 ∧
  D.nx σ (upd H2 a (.ins C dx (putF f y fs)))
section
variable {X:Cx}{o e value:Expr}{f:Str}{pos pos' tpos:Pos}{ta tv:TE}
theorem pe_fld (he:PE X e ta)(hb:attributeBase e f X.env (eval e X.env)=eval e X.env):PE X (.Attribute e f pos) (tFld X.K ta f):=by
  intro pins s σ H Q I h
  refine attr_of hb (thn5 (he pins s σ H _ I h) fun u s1 x H1 I1 rx zz_=>?_)
  obtain ⟨a,C,dx,fs,v,ex,ea,c,n,l,q⟩:=zz_
  subst ex
  obtain rfl:u=Value.ref a:=rx
  exact getattr_ok I1 ea c n l fun u' s2 I2 ru=>⟨v,H1,I2,ru,q⟩
theorem ps_fld (ha:PE X o ta)(hv:PE X value tv)(hs:swapsWith value (some (.Attribute o f pos')) pos.line X.env=pure false):PS X (.Assign [.Attribute o f pos'] value pos) (sFld X.K ta tv f):=by
  intro pins s σ H D I h
  refine plainObj_wpAny_Assign_Attribute (thn5 (hv pins s σ H _ I h) fun u s1 y H1 I1 ry q=>thn5 (ha pins s1 σ H1 _ I1 q) fun ov s2 x H2 I2 rx zz_=>?_) hs
  obtain ⟨a,C,dx,fs,ex,ea,c,n,l,q2⟩:=zz_
  subst ex
  obtain rfl:ov=Value.ref a:=rx
  exact setattr_ok I2 ea c n l ry fun s3 I3=>⟨σ,_,I3,q2⟩
end
section
variable {X:Cx}{pins:List (Addr × Obj)}{σ:St}{H:Hp}{s:Shared}{A:Around}{E:Value→Shared→Prop}{Q:Value→Shared→Prop}{c:Value}{b:Bool}
inductive TyOf (K:PySem.W.Frag) (H:Hp):V→Value→Prop where
  | non:TyOf K H .non (.type "NoneType")
  | bl (x:Bool):TyOf K H (.bl x) (.type "bool")
  | int (i:Int):TyOf K H (.int i) (.type "int")
  | str (x:Str):TyOf K H (.str x) (.type "str")
  | flt (x:UInt64):TyOf K H (.flt x) (.type "float")
  | lst {a:Addr} {xs:List V} (e:H a=some (.lst xs)):TyOf K H (.ref a) (.type "list")
  | frz {a:Addr} {o:Obj} {xs:List V} (e:H a=some (.frz o (.lst xs))):TyOf K H (.ref a) (.type "list")
  | tup {a:Addr} {xs:List V} (e:H a=some (.tup xs)):TyOf K H (.ref a) (.type "tuple")
  | dK {a:Addr} {kvs:List (Key × V)} (e:H a=some (.dK kvs)):TyOf K H (.ref a) (.type "dict")
  | dT {a:Addr} {kvs:List (List Key × V)} (e:H a=some (.dT kvs)):TyOf K H (.ref a) (.type "dict")
  | ins {a C dx:Addr} {fs:List (Str × V)} (e:H a=some (.ins C dx fs)) (cl:Cls K C) (ha:PySem.W.findIn K (.ref C) "__class__"=some (some (.builtin "object.__class__")))
      (hn:PySem.W.specialIn K (.builtin "object.__class__") "__get__"=some (some (.builtin "getset_descriptor.__get__"))) (htk:PySem.W.takesIn K (.builtin "object.__class__")=some true)
      (hm:PySem.W.mroIn K C (.type "object")=some true):TyOf K H (.ref a) (.ref C)
theorem isinst_ok {x:V}{u t:Value}(I:Inv X pins σ H s)(rx:RelV x u)(ty:TyOf X.K H x t)(e:PySem.W.kitOne X.K t c=some b)(h : ∀ tk,Q (.bool b) { s with toks:=tk }) :
    wpAny (model X.prog X.w) A (call (.builtin "isinstance") [u,c]) Q E s:=by
  cases ty with
  | non=>cases (show u=Value.none from rx); exact PySem.W.kia_one PySem.W.kitx_none I.kIn True.intro e (fun z=>nomatch z) h
  | bl y=>cases (show u=Value.bool y from rx); exact PySem.W.kia_one PySem.W.kitx_bool I.kIn True.intro e (fun z=>nomatch z) h
  | int i=>obtain ⟨t,q⟩:=(show ∃ t,u=Value.int i t from rx); cases q; exact PySem.W.kia_one PySem.W.kitx_int I.kIn True.intro e (fun z=>nomatch z) h
  | str y=>obtain ⟨t,q⟩:=(show ∃ t,u=Value.str y t from rx); cases q; exact PySem.W.kia_one PySem.W.kitx_str I.kIn True.intro e (fun z=>nomatch z) h
  | flt y=>obtain ⟨t,q⟩:=(show ∃ t,u=Value.float y t from rx); cases q; exact PySem.W.kia_one PySem.W.kitx_float I.kIn True.intro e (fun z=>nomatch z) h
  | @lst a xs ea =>
    cases (show u=Value.ref a from rx)
    obtain ⟨_,_,n,_,h1⟩:=(show ObjOk X.prog X.w H s.heap a (.lst xs) from I.hok a _ ea)
    exact PySem.W.kia_one PySem.W.kitx_list I.kIn ⟨_,h1,rfl⟩ e (fun z=>nomatch z) h
  | @frz a ob xs ea =>
    cases (show u=Value.ref a from rx)
    obtain ⟨_,_,_,n,_,h1⟩:=(show ObjOk X.prog X.w H s.heap a (.frz ob (.lst xs)) from I.hok a _ ea)
    exact PySem.W.kia_one PySem.W.kitx_list I.kIn ⟨_,h1,rfl⟩ e (fun z=>nomatch z) h
  | @tup a xs ea =>
    cases (show u=Value.ref a from rx)
    obtain ⟨_,_,_,p⟩:=(show ObjOk X.prog X.w H s.heap a (.tup xs) from I.hok a _ ea)
    obtain ⟨o,h1,h2,_⟩:=p
    exact PySem.W.kia_one PySem.W.kitx_tuple I.kIn ⟨o,h1,h2⟩ e (fun z=>nomatch z) h
  | @dK a kvs ea =>
    cases (show u=Value.ref a from rx)
    obtain ⟨_,_,vs,_,p⟩:=(show ObjOk X.prog X.w H s.heap a (.dK kvs) from I.hok a _ ea)
    obtain ⟨o,es,ep,h1,h2,_⟩:=p
    exact PySem.W.kia_one PySem.W.kitx_dict I.kIn ⟨o,h1,h2.1⟩ e (fun z=>nomatch z) h
  | @dT a kvs ea =>
    cases (show u=Value.ref a from rx)
    obtain ⟨_,_,xs,_,o,es,ep,h1,h2,_⟩:=(show ObjOk X.prog X.w H s.heap a (.dT kvs) from I.hok a _ ea)
    exact PySem.W.kia_one PySem.W.kitx_dict I.kIn ⟨o,h1,h2.1⟩ e (fun z=>nomatch z) h
  | @ins a C dx fs ea cl ha hn htk hm =>
    cases (show u=Value.ref a from rx)
    obtain ⟨mA,O,_⟩:=ins_get I.hok ea
    obtain ⟨od,J,_⟩:=O.look
    exact PySem.W.kia_one (PySem.W.kitx_own (cl.get _) cl.hd ha hn htk hm) I.kIn J e (fun z=>nomatch z) h
end
end L2
namespace L2
open PySem PySem.Spec PyProof.Rows
structure Room (k:Nat)(A:Around):Prop where
  hd:A.handled=none
  dp:A.depth+3 * k+5<recursionLimit
  un:A.units+16 * k+200<cLine
theorem Room.mono {j k:Nat}{A:Around}(r:Room k A)(h:j≤k):Room j A:=⟨r.hd,by have:=r.dp; omega,by have:=r.un; omega⟩
theorem Room.deeper {k:Nat}{A:Around}(r:Room (k+1) A)(env:Env):Room k (A.deeper env) :=
  ⟨r.hd,by have:=r.dp; show A.depth+1+3 * k+5 < _; omega,by have:=r.un; show A.units+3+16 * k+200 < _; omega⟩
theorem make_depth {A:Around}{C:Addr}{us:List Value}{kw:List (Str × Value)}:(A.under (.builtin "type.__call__" ⟨.ref C::us,kw⟩)).depth=A.depth+1:=by
  first | rfl | simp [Around.under,Code.weight,Code.isCreation,Code.isGuard,Code.isCaller,Code.frames,Code.isFrame,guardIds]
theorem make_units {A:Around}{C:Addr}{us:List Value}{kw:List (Str × Value)}:(A.under (.builtin "type.__call__" ⟨.ref C::us,kw⟩)).units=A.units+1:=by
  first | rfl | simp [Around.under,Code.cUnits,Code.frames,Code.isFrame]
theorem Room.make {k:Nat}{A:Around}(r:Room (k+1) A)(C:Addr)(us:List Value)(kw:List (Str × Value)):Room k (A.under (.builtin "type.__call__" ⟨.ref C::us,kw⟩)) :=
  ⟨r.hd,by have:=r.dp; rw [make_depth]; omega,by have:=r.un; rw [make_units]; omega⟩
theorem Room.depth {k:Nat}{A:Around}(r:Room k A):A.depth<recursionLimit:=by have:=r.dp; omega
theorem Room.units {k:Nat}{A:Around}(r:Room k A):A.units+64<cLine:=by have:=r.un; omega
noncomputable def tNil:TA:=fun _ H Q=>Q [] H
noncomputable def tCons (ta:TE)(tr:TA):TA:=fun σ H Q=>ta σ H fun x H1=>tr σ H1 fun xs H2=>Q (x::xs) H2
section
variable {X:Cx}{e:Expr}{es:List Expr}{te:TE}{t:TA}{pos:Pos}
theorem pa_nil:PA X [] tNil:=fun _ _ _ _ H Q I h=>Calls.spliced_nil ⟨[],H,I,.nil,h⟩
theorem pa_cons (ha:PE X e te)(hr:PA X es t)(hs:starEach (e::es) X.env=(false,eval e X.env)::starEach es X.env:=by rfl):PA X (e::es) (tCons te t):=by
  intro pos pins s σ H Q I h
  rw [hs]
  show wpAny _ _ (spliced ((false,eval e X.env)::backTo pos (starEach es X.env))) _ _ s
  refine Calls.spliced_cons (thn5 (ha pins s σ H _ I h) fun u s1 x H1 I1 r1 q1=>?_)
  exact thn5 (hr pos pins s1 σ H1 _ I1 q1) fun us s2 xs H2 I2 r2 q2=>⟨x::xs,H2,I2,.cons r1 r2,q2⟩
noncomputable def tTup (t:TA):TE:=fun σ H Q=>t σ H fun xs H1=>xs.length≤sizeLine∧∀ p,H1 p=none→Q (.ref p) (upd H1 p (.tup xs))
noncomputable def tLst (t:TA):TE:=fun σ H Q=>t σ H fun xs H1=>xs.length≤sizeLine∧∀ p,H1 p=none→Q (.ref p) (upd H1 p (.lst xs))
theorem pe_tup {x1}(h:PA X es t):PE X (.Tuple es x1 pos) (tTup t):=by
  intro pins s σ H Q I hq
  refine wpAny_Tuple_spliced (thn5 (h pos pins s σ H _ I hq) fun us s1 xs H1 I1 r ⟨z,q⟩=>⟨by rw [← r.length]; exact z, ?_⟩)
  have hf:H1 s1.heap.objs.size=none:=I1.hok.fresh (Nat.le_refl _)
  refine ⟨.ref s1.heap.objs.size,upd H1 s1.heap.objs.size (.tup xs),I1.laid (t':=s1.toks) (fun b u e=>Heap.get?_push_of_some _ e) (Nat.le_refl _) ?_,rfl,q _ hf⟩
  exact ⟨z,us,r,⟨_,Heap.get?_push_size _ rfl,rfl,_,rfl⟩⟩
theorem pe_lst (h:PA X es t):PE X (.List es pos) (tLst t):=by
  intro pins s σ H Q I hq
  refine wpAny_List_spliced (thn5 (h pos pins s σ H _ I hq) fun us s1 xs H1 I1 r ⟨z,q⟩=>⟨by rw [← r.length]; exact z, ?_⟩)
  have hf:H1 s1.heap.objs.size=none:=I1.hok.fresh (Nat.le_refl _)
  refine ⟨.ref s1.heap.objs.size,upd H1 s1.heap.objs.size (.lst xs),I1.laid (t':=s1.toks) (fun b u e=>Heap.get?_push_of_some _ e) (Nat.le_refl _) ?_,rfl,q _ hf⟩
  exact ⟨z,us,0,r,Heap.get?_push_size _ rfl⟩
end
noncomputable abbrev Sp:=List V→Hp→VK→XK→Prop
noncomputable abbrev CXT:=List Env→Hp→Shared→XK→Value→Shared→Prop
structure Env0 (P:Program)(w:World)(K:PySem.W.Frag)(mg:Str→Option Value)(base:Heap)(A:Around)(outer:List Env)(s:Shared)(H:Hp):Prop where
  frames:A.frames=some outer
  mod:Mod K mg base
  bs : ∀ b o,base.get? b=some o→s.heap.get? b=some o∧H b=none
  bsz:base.objs.size≤s.heap.objs.size
  funs:s.heap.FunFrames base outer
  frf : ∀ b∈frs outer,H b=none
  hok:HOk P w H s.heap
  bare:AllBare s.gens
noncomputable def CE (outer:List Env)(P:Program)(w:World)(H:Hp)(s:Shared)(Q:VK)(u:Value)(s':Shared):Prop :=
  ∃ v H',s'.os=s.os∧AllBare s'.gens∧Un (frs outer) [] H H' s.heap s'.heap∧HOk P w H' s'.heap∧RelV v u∧Q v H'
noncomputable def CR (CX:CXT)(outer:List Env)(P:Program)(w:World)(H:Hp)(s:Shared)(Q:VK)(E:XK)(r:Result)(s':Shared):Prop :=
  match r with
  | .ok (.ret u)=>CE outer P w H s Q u s'
  | .ok _=>False
  | .error e=>CX outer H s E e s'
structure FnOk (P:Program)(w:World)(K:PySem.W.Frag)(mg:Str→Option Value)(base:Heap)(CX:CXT)(k:Nat)(f:Addr)(fd:FuncData)(ps:List Str)(sp:Sp):Prop where
  len : ∀ vs H Q E,sp vs H Q E→vs.length=ps.length
  run : ∀ (A:Around) (outer:List Env) (s:Shared) (H:Hp) (args:Args) (us:List Value) (vs:List V) (Q:VK) (E:XK),Room k A→Env0 P w K mg base A outer s H→BindsTo s fd args (ps.zip us)→Vals vs us→sp vs H Q E →
    codeAny (model P w) A (.call (.ref f) args) (CR CX outer P w H s Q E) s
theorem FnOk.mono {P:Program}{w:World}{K:PySem.W.Frag}{mg:Str→Option Value}{base:Heap}{CX:CXT}{j k:Nat}{f:Addr}{fd:FuncData}{ps:List Str}{sp:Sp}(F:FnOk P w K mg base CX j f fd ps sp)(h:j≤k) :
    FnOk P w K mg base CX k f fd ps sp:=⟨F.len,fun A outer s H args us vs Q E hr=>F.run A outer s H args us vs Q E (hr.mono h)⟩
theorem FnOk.imp {P:Program}{w:World}{K:PySem.W.Frag}{mg:Str→Option Value}{base:Heap}{CX:CXT}{k:Nat}{f:Addr}{fd:FuncData}{ps:List Str}{sp sp':Sp}(F:FnOk P w K mg base CX k f fd ps sp)
    (h : ∀ vs H Q E,sp' vs H Q E→sp vs H Q E):FnOk P w K mg base CX k f fd ps sp' :=
  ⟨fun vs H Q E q=>F.len vs H Q E (h _ _ _ _ q),fun A outer s H args us vs Q E hr he hb hv hs=>F.run A outer s H args us vs Q E hr he hb hv (h _ _ _ _ hs)⟩
theorem Env0.make {P:Program}{w:World}{K:PySem.W.Frag}{mg:Str→Option Value}{base:Heap}{A:Around}{outer:List Env}{s:Shared}{H:Hp}(e:Env0 P w K mg base A outer s H)(C:Addr)(us:List Value)(kw:List (Str × Value)) :
    Env0 P w K mg base (A.under (.builtin "type.__call__" ⟨.ref C::us,kw⟩)) outer s H:=⟨by first | exact e.frames | (simpa [Around.under,Code.envs,Code.isFrame,pushEnvs] using e.frames),e.mod,e.bs,e.bsz,e.funs,e.frf,e.hok,e.bare⟩
section
variable {X:Cx}{pins:List (Addr × Obj)}{σ:St}{H:Hp}{s s':Shared}
theorem Inv.env0 (I:Inv X pins σ H s):Env0 X.prog X.w X.K X.mg X.base X.A X.stack s H :=
  ⟨I.ok.frames,I.ok.mod,I.bs,Nat.le_trans I.ok.bsz I.sz,I.stack,I.stkFree,I.hok,I.bare⟩
theorem Inv.after {Q:VK}{u:Value}(I:Inv X pins σ H s)(h:CE X.stack X.prog X.w H s Q u s'):EP X pins σ Q u s':=by
  obtain ⟨v,H',os,bare,un,hok,r,q⟩:=h
  obtain ⟨hh,g,d,t,os'⟩:=s'
  obtain rfl:os'=s.os:=os
  exact ⟨v,H',I.call (h':=hh) (g':=g) (d':=d) (t':=t) (ch:=[]) un hok bare (fun b z=>absurd z (by simp)),r,q⟩
end
noncomputable def tCall (sp:Sp)(dvs:List V)(E:XK)(t:TA):TE:=fun σ H Q=>t σ H fun vs H1=>sp (vs++dvs) H1 Q E
noncomputable def tMeth (C:Addr)(m:Str)(sp:Sp)(dvs:List V)(E:XK)(ta:TE)(t:TA):TE:=fun σ H Q=>ta σ H fun x H1=>∃ a dx fs,x=.ref a∧H1 a=some (.ins C dx fs)∧fs.lookup m=none ∧
  t σ H1 fun vs H2=>sp (x::(vs++dvs)) H2 Q E
noncomputable def tMake (C:Addr)(sp:Sp)(dvs:List V)(E:XK)(t:TA):TE:=fun σ H Q=>t σ H fun vs H1=>∀ x dx,H1 x=none→H1 dx=none→dx≠x →
  sp (.ref x::(vs++dvs)) (upd (upd H1 dx (.own x)) x (.ins C dx [])) (fun v H2=>v=.non∧Q (.ref x) H2) E
noncomputable def Binds (K:PySem.W.Frag)(fd:FuncData)(ps:List Str)(ds:List Value):Prop :=
  ∀ (s:Shared) (us:List Value),K.In s.heap→(us++ds).length=ps.length→BindsTo s fd ⟨us,[]⟩ (ps.zip (us++ds))
theorem Binds.all {K:PySem.W.Frag}{fd:FuncData}{ps:List Str}(h : ∀ us:List Value,us.length=ps.length→bindArgs fd ⟨us,[]⟩=pure (ps.zip us)):Binds K fd ps []:=fun s us _ hl=>by
  rw [List.append_nil] at hl ⊢
  exact .of_eq (h us hl)
noncomputable def Passes (CX:CXT)(X:Cx)(E:XK):Prop:=∀ (pins:List (Addr × Obj)) (σ:St) (H:Hp) (s:Shared) (e:Value) (s':Shared),Inv X pins σ H s→CX X.stack H s E e s'→X.xe e s'
section
variable {X:Cx}{CX:CXT}{k:Nat}{f C:Addr}{fd:FuncData}{ps:List Str}{sp:Sp}{dvs:List V}{ds:List Value}{E:XK}{x m:Str}{p pos apos:Pos}{e o:Expr}{es:List Expr}{ta:TE}{t:TA}
theorem run_fn {pins:List (Addr × Obj)}{σ:St}{H:Hp}{s:Shared}{Q:VK}{us:List Value}{vs:List V}(F:FnOk X.prog X.w X.K X.mg X.base CX k f fd ps sp)(hr:Room k X.A)(hb:Binds X.K fd ps ds)(hd:Vals dvs ds)(hx:Passes CX X E)
    (I:Inv X pins σ H s) (r:Vals vs us) (h:sp (vs++dvs) H Q E):wpAny (model X.prog X.w) X.A (call (.ref f) us) (EP X pins σ Q) X.xe s:=by
  have r2:Vals (vs++dvs) (us++ds):=r.append hd
  have hl:(us++ds).length=ps.length:=by rw [← r2.length]; exact F.len _ _ _ _ h
  refine wpAny_call (codeAny_mono (F.run X.A X.stack s H ⟨us,[]⟩ (us++ds) (vs++dvs) Q E hr I.env0 (hb s us I.kIn hl) r2 h) fun r s' hq=>?_)
  cases r with
  | error e=>exact hx pins σ H s e s' I hq
  | ok fl =>
    cases fl with
    | ret u=>exact I.after hq
    | next=>exact False.elim hq
    | brk=>exact False.elim hq
    | cont=>exact False.elim hq
theorem pe_call (F:FnOk X.prog X.w X.K X.mg X.base CX k f fd ps sp)(hr:Room k X.A)(hg:Gl X x)(hm:X.mg x=some (.ref f))(hk:PySem.W.keepIn X.K (.ref f)=true)(hb:Binds X.K fd ps ds)(hd:Vals dvs ds)(hx:Passes CX X E)
    (ha:PA X (e::es) t) (hdb:(x == ("__debug__":Str))=false:=by decide) (he:starEach (e::es) X.env=(false,eval e X.env)::starEach es X.env:=by rfl) (hpl:(backTo pos (starEach es X.env)).any (·.1)=false:=by rfl) :
    PE X (.Call (.Name x p) (e::es) [] pos) (tCall sp dvs E t):=by
  intro pins s σ H Q I h
  refine wpAny_Call_Name_kw (ld_glob I hg hm ?_ hdb)
  refine PySem.W.callWith_K (h₀:=X.base) I.ok.mod.kin hk (thn5 (ha pos pins s σ H _ I h) fun us s1 vs H1 I1 r q=>⟨I1.kIn, ?_⟩) he hpl
  exact run_fn F hr hb hd hx I1 r q
theorem pe_meth {pl:Sem Bool}(he:PE X o ta)(c:Cls X.K C)(hm:Meth X.K C m f)(F:FnOk X.prog X.w X.K X.mg X.base CX k f fd ps sp)(hr:Room k X.A)(hb:Binds X.K fd ps ds)(hd:Vals dvs ds)(hx:Passes CX X E)(ha:PA X (e::es) t)
    (hst:starEach (e::es) X.env=(false,eval e X.env)::starEach es X.env:=by rfl) (hpl:(backTo pos (starEach es X.env)).any (·.1)=false:=by rfl)
    (ht:eval (.Call (.Attribute o m apos) (e::es) [] pos) X.env=(do
      let ov ← eval o X.env
      standAt apos.atName
      let (f,first) ← holding [ov] (getMethod ov m pl)
      callWith pos f first (backTo pos (starEach (e::es) X.env)) (backToKw pos (keywordEach [] X.env))):=by rfl) :
    PE X (.Call (.Attribute o m apos) (e::es) [] pos) (tMeth C m sp dvs E ta t):=by
  intro pins s σ H Q I h
  refine PySem.W.methodCall_KW (pl:=pl) (thn5 (he pins s σ H _ I h) fun u s1 x H1 I1 rx zz_=>?_) ht
  obtain ⟨a,dx,fs,ex,ea,l,q⟩:=zz_
  subst ex
  obtain rfl:u=Value.ref a:=rx
  refine getmeth_ok I1 ea c hm l ?_
  refine PySem.W.callWith_K (first:=[.ref a]) (h₀:=X.base) I.ok.mod.kin hm.kp (thn5 (ha pos pins s1 σ H1 _ I1 q) fun us s2 vs H2 I2 r q2=>⟨I2.kIn, ?_⟩) hst hpl
  exact run_fn (us:=.ref a::us) (vs:=.ref a::vs) F hr hb hd hx I2 (.cons rfl r) q2
theorem pe_meth0 {pl:Sem Bool}(he:PE X o ta)(c:Cls X.K C)(hm:Meth X.K C m f)(F:FnOk X.prog X.w X.K X.mg X.base CX k f fd ps sp)(hr:Room k X.A)(hb:Binds X.K fd ps ds)(hd:Vals dvs ds)(hx:Passes CX X E)
    (ht:eval (.Call (.Attribute o m apos) [] [] pos) X.env=(do
      let ov ← eval o X.env
      standAt apos.atName
      let (f,first) ← holding [ov] (getMethod ov m pl)
      callWith pos f first (backTo pos (starEach [] X.env)) (backToKw pos (keywordEach [] X.env))):=by rfl) :
    PE X (.Call (.Attribute o m apos) [] [] pos) (tMeth C m sp dvs E ta tNil):=by
  intro pins s σ H Q I h
  refine PySem.W.methodCall_KW (pl:=pl) (thn5 (he pins s σ H _ I h) fun u s1 x H1 I1 rx zz_=>?_) ht
  obtain ⟨a,dx,fs,ex,ea,l,q⟩:=zz_
  subst ex
  obtain rfl:u=Value.ref a:=rx
  refine getmeth_ok I1 ea c hm l ?_
  exact PySem.W.callWith_K0 (first:=[.ref a]) I1.kIn hm.kp (run_fn (us:=[.ref a]) (vs:=[.ref a]) F hr hb hd hx I1 (.cons rfl .nil) q)
structure Mk (K:PySem.W.Frag)(C f:Addr):Prop where
  makes:PySem.W.makesIn K C=true
  init:PySem.W.findIn K (.ref C) "__init__"=some (some (.ref f))
  fn:PySem.W.isFn K (.ref f)=true
  kp:PySem.W.keepIn K (.ref C)=true
theorem run_make {pins:List (Addr × Obj)}{σ:St}{H:Hp}{s:Shared}{Q:VK}{us:List Value}{vs:List V}(M:Mk X.K C f)(F:FnOk X.prog X.w X.K X.mg X.base CX k f fd ps sp)(hr:Room (k+1) X.A)(hb:Binds X.K fd ps ds)(hd:Vals dvs ds)
    (hx:Passes CX X E) (I:Inv X pins σ H s) (r:Vals vs us)
    (h : ∀ x dx,H x=none→H dx=none→dx≠x→sp (.ref x::(vs++dvs)) (upd (upd H dx (.own x)) x (.ins C dx [])) (fun v H2=>v=.non∧Q (.ref x) H2) E) :
    wpAny (model X.prog X.w) X.A (call (.ref C) us) (EP X pins σ Q) X.xe s:=by
  have hq:=h (s.heap.objs.size+1) s.heap.objs.size (I.hok.fresh (Nat.le_succ _)) (I.hok.fresh (Nat.le_refl _)) (Nat.ne_of_lt (Nat.lt_succ_self _))
  have I2:=Inv.made (C:=C) I
  have r2:Vals (V.ref (s.heap.objs.size+1)::(vs++dvs)) (Value.ref (s.heap.objs.size+1)::(us++ds)):=.cons rfl (r.append hd)
  have hl:(Value.ref (s.heap.objs.size+1)::us++ds).length=ps.length:=by
    have e:=r2.length
    rw [F.len _ _ _ _ hq] at e
    exact e.symm
  refine wpAny_call (make_map (f:=f) I.kIn M.makes M.init (beq_iff_eq.mp M.fn) (codeAny_mono (F.run _ X.stack _ _ ⟨Value.ref (s.heap.objs.size+1)::us,[]⟩ (Value.ref (s.heap.objs.size+1)::(us++ds)) _ _ E (hr.make C us [])
    (I2.env0.make C us []) (hb _ (Value.ref (s.heap.objs.size+1)::us) I2.kIn hl) r2 hq) fun r s' hq'=>?_))
  cases r with
  | error e=>exact hx pins σ _ _ e s' I2 hq'
  | ok fl =>
    cases fl with
    | ret u =>
      obtain ⟨v,H',I3,rv,ev,q3⟩:=I2.after hq'
      subst ev
      exact ⟨rv,⟨V.ref (s.heap.objs.size+1),H',I3,rfl,q3⟩⟩
    | next=>exact False.elim hq'
    | brk=>exact False.elim hq'
    | cont=>exact False.elim hq'
theorem pe_make (M:Mk X.K C f)(F:FnOk X.prog X.w X.K X.mg X.base CX k f fd ps sp)(hr:Room (k+1) X.A)(hg:Gl X x)(hm:X.mg x=some (.ref C))(hb:Binds X.K fd ps ds)(hd:Vals dvs ds)(hx:Passes CX X E)
    (ha:PA X (e::es) t) (hdb:(x == ("__debug__":Str))=false:=by decide) (he:starEach (e::es) X.env=(false,eval e X.env)::starEach es X.env:=by rfl) (hpl:(backTo pos (starEach es X.env)).any (·.1)=false:=by rfl) :
    PE X (.Call (.Name x p) (e::es) [] pos) (tMake C sp dvs E t):=by
  intro pins s σ H Q I h
  refine wpAny_Call_Name_kw (ld_glob I hg hm ?_ hdb)
  refine PySem.W.callWith_K (h₀:=X.base) I.ok.mod.kin M.kp (thn5 (ha pos pins s σ H _ I h) fun us s1 vs H1 I1 r q=>⟨I1.kIn, ?_⟩) he hpl
  exact run_make M F hr hb hd hx I1 r q
end
section
variable {X:Cx}{CX:CXT}{k:Nat}{f C:Addr}{fd:FuncData}{ps ks:List Str}{sp:Sp}{E:XK}{x m:Str}{p pos apos kpos:Pos}{e o:Expr}{es:List Expr}{kws:List Keyword}{te ta:TE}{t tk:TA}{nm:Option Str}
variable {g:List Value→List Value→List Value}{gV:List V→List V→List V}
end
structure FnScope (N P:List Str)(sc:Scope):Prop where
  kind:sc.kind=.function
  co:sc.isCoroutine=false
  gen:sc.isGenerator=false
  nd:N.Nodup
  pre:N.take P.length=P
  par : ∀ x∈P,sc.names.lookup x=some .local∨sc.names.lookup x=some .cell
  nofree : ∀ y∈sc.names,y.2≠.free
theorem bindL_out {kindOf:Str→Option NameKind}{x:Str} : ∀ {binds:List (Str × Value)} {m:Str→Option Value},(∀ v,(x,v) ∉ binds)→bindL kindOf binds m x=m x
  | [],_,_=>rfl
  | (n,v)::r,m,h=>by
    unfold bindL
    rw [bindL_out fun w hw=>h w (List.mem_cons_of_mem _ hw)]
    split
    · have:x≠n:=by rintro rfl; exact h v List.mem_cons_self
      simp [this]
    · rfl
theorem bindC_out {kindOf:Str→Option NameKind}{x:Str} : ∀ {binds:List (Str × Value)} {m:Str→Option Value},(∀ v,(x,v) ∉ binds)→bindC kindOf binds m x=m x
  | [],_,_=>rfl
  | (n,v)::r,m,h=>by
    unfold bindC
    rw [bindC_out fun w hw=>h w (List.mem_cons_of_mem _ hw)]
    split
    · rfl
    · have:x≠n:=by rintro rfl; exact h v List.mem_cons_self
      simp [this]
theorem bindL_get {kindOf:Str→Option NameKind}{x:Str}{v:Value} : ∀ {P:List Str} {vs:List Value} {i:Nat} {m:Str→Option Value},P.Nodup→P[i]?=some x→vs[i]?=some v→kindOf x=some .local →
    bindL kindOf (P.zip vs) m x=some v
  | [],_,_,_,_,h,_,_=>by simp at h
  | _::_,[],_,_,_,_,h,_=>by simp at h
  | p::P,w::vs,0,m,nd,h1,h2,hk=>by
    simp at h1 h2; subst h1; subst h2
    show bindL kindOf ((p,w)::P.zip vs) m p=_
    unfold bindL
    rw [bindL_out fun v hv=>(List.nodup_cons.mp nd).1 (List.of_mem_zip hv).1,if_pos hk]
    simp
  | p::P,w::vs,i+1,m,nd,h1,h2,hk=>by
    show bindL kindOf ((p,w)::P.zip vs) m x=_
    unfold bindL
    exact bindL_get (i:=i) (List.nodup_cons.mp nd).2 (by simpa using h1) (by simpa using h2) hk
theorem bindC_get {kindOf:Str→Option NameKind}{x:Str}{v:Value} : ∀ {P:List Str} {vs:List Value} {i:Nat} {m:Str→Option Value},P.Nodup→P[i]?=some x→vs[i]?=some v→kindOf x≠some .local →
    bindC kindOf (P.zip vs) m x=some v
  | [],_,_,_,_,h,_,_=>by simp at h
  | _::_,[],_,_,_,_,h,_=>by simp at h
  | p::P,w::vs,0,m,nd,h1,h2,hk=>by
    simp at h1 h2; subst h1; subst h2
    show bindC kindOf ((p,w)::P.zip vs) m p=_
    unfold bindC
    rw [bindC_out fun v hv=>(List.nodup_cons.mp nd).1 (List.of_mem_zip hv).1,if_neg hk]
    simp
  | p::P,w::vs,i+1,m,nd,h1,h2,hk=>by
    show bindC kindOf ((p,w)::P.zip vs) m x=_
    unfold bindC
    exact bindC_get (i:=i) (List.nodup_cons.mp nd).2 (by simpa using h1) (by simpa using h2) hk
noncomputable def start (N:List Str)(vs:List V):St:=vs.map some++List.replicate (N.length - vs.length) none
noncomputable def cxOf (CX:CXT)(P:Program)(w:World)(K:PySem.W.Frag)(mg:Str→Option Value)(base:Heap)(N:List Str)(qual:Str)(scope:Scope)(f:Addr)(cd:Value)(A:Around)(outer:List Env)(s:Shared)(H:Hp)(E:XK):Cx where
  prog:=P
  w:=w
  K:=K
  mg:=mg
  base:=base
  A:=A.deeper (envOfC qual scope s.heap.objs.size f cd)
  N:=N
  s₀:=s
  H₀:=H
  env:=envOfC qual scope s.heap.objs.size f cd
  outer:=outer
  stack:=envOfC qual scope s.heap.objs.size f cd::outer
  ex:=[]
  calm:=true
  fn:=fun _=>true
  pn:=[]
  xe:=fun e s'=>wpAny (model P w) (A.deeper (envOfC qual scope s.heap.objs.size f cd)) (leaving (envOfC qual scope s.heap.objs.size f cd) e) (fun _ s''=>CX outer H s E e s'') (fun e' s''=>CX outer H s E e' s'') s'
theorem cell_has {sc:Scope}{n:Nat}{x:Str}(h:sc.names.lookup x=some .cell) : ∃ c,(cellsFrom n sc.names []).lookup x=some c:=by
  have q:=PySem.W.cellsFrom_some sc.names n [] (.inl h)
  exact Option.isSome_iff_exists.mp q
theorem inv_start {CX:CXT}{P:Program}{w:World}{K:PySem.W.Frag}{mg:Str→Option Value}{base:Heap}{N ps:List Str}{qual:Str}{scope:Scope}{f:Addr}{cd:Value}{A:Around}{outer:List Env}{s s1:Shared}{H:Hp}{E:XK}{us:List Value}{vs:List V}
    (S:FnScope N ps scope) (hd:A.handled=none) (e0:Env0 P w K mg base A outer s H) (hl:vs.length=ps.length) (r:Vals vs us)
    (x:InCallC s s.heap.objs.size (bindL (envOfC qual scope s.heap.objs.size f cd).kindOf (ps.zip us) fun _=>none) (cellsFrom (s.heap.objs.size+1) scope.names []) (bindC (envOfC qual scope s.heap.objs.size f cd).kindOf (ps.zip us) fun _=>none) s1) :
    Inv (cxOf CX P w K mg base N qual scope f cd A outer s H E) [] (start N vs) H s1:=by
  have hpl:ps.length≤N.length:=by have:=congrArg List.length S.pre; rw [List.length_take] at this; omega
  obtain ⟨h1,tk,rfl,hk⟩:=x.done
  have noA : ∀ b:Addr,b ∉ (cxOf CX P w K mg base N qual scope f cd A outer s H E).ex:=fun b z=>absurd (show b∈([]:List Addr) from z) (by simp)
  refine ⟨⟨e0.mod,S.kind,rfl,rfl,Nat.le_refl _,fun y z c h1 h2=>?_,fun y hy=>?_,fun y c _ h=>?_,fun _=>hd,Around.frames_deeper e0.frames,.inr ⟨rfl,rfl⟩,fun b z=>absurd z (noA b),e0.bs,e0.bsz,fun b _ _=>noA b,fun b z=>absurd z (noA b),e0.funs,e0.frf⟩,
    rfl,e0.bare,Un.kept hk,⟨_,x.toInCall.ns,fun i y v h1 h2 h3=>?_⟩,fun y c h=>⟨_,x.cell y c h⟩,e0.hok.fresh (Nat.le_refl _),fun y c h=>?_,fun p hp=>absurd (show p∈([]:List (Addr × Obj)) from hp) (by simp),e0.hok.kept hk, ?_⟩
  · exact name_of_addr x.apart (PySem.mem_of_lookup h1) (PySem.mem_of_lookup h2)
  · have hy:scope.names.lookup y=some .cell∨scope.names.lookup y=some .free:=hy
    rcases hy with hy | hy
    · exact cell_has hy
    · exact absurd rfl (S.nofree _ (PySem.mem_of_lookup hy))
  · exact Nat.le_of_lt (x.above y c (PySem.mem_of_lookup h))
  · have hi:i<vs.length:=by
      unfold start at h2
      by_cases hi:i<vs.length
      · exact hi
      · rw [List.getElem?_append_right (by simpa using hi)] at h2
        rw [List.getElem?_replicate] at h2
        split at h2 <;> cases h2
    have ha:vs[i]?=some v:=by
      unfold start at h2
      rw [List.getElem?_append_left (by simpa using hi),List.getElem?_map] at h2
      cases e:vs[i]? with
      | none=>rw [e] at h2; cases h2
      | some a=>rw [e] at h2; cases h2; rfl
    obtain ⟨u,hu,rv⟩:=r.get ha
    have hp:ps[i]?=some y:=by
      rw [← S.pre,List.getElem?_take_of_lt (by omega)]; exact h1
    have ndP:ps.Nodup:=by rw [← S.pre]; exact S.nd.sublist (List.take_sublist _ _)
    refine ⟨u,rv, ?_⟩
    rcases S.par y (List.mem_of_getElem? hp) with k | k
    · exact .inl ⟨k,bindL_get ndP hp hu k⟩
    · obtain ⟨c,e⟩:=cell_has (n:=s.heap.objs.size+1) k
      refine .inr ⟨.inl k,c,e, ?_⟩
      have q:=x.cell y c e
      rw [bindC_get ndP hp hu (by show scope.names.lookup y≠_; rw [k]; decide)] at q
      exact q
  · exact e0.hok.fresh (Nat.le_of_lt (x.above y c (PySem.mem_of_lookup h)))
  · unfold start
    show _=N.length
    rw [List.length_append,List.length_map,List.length_replicate]
    omega
theorem fn_of {CX:CXT}{P:Program}{w:World}{K:PySem.W.Frag}{mg:Str→Option Value}{base:Heap}{k:Nat}{f:Addr}{name qual:Str}{params:Arguments}{body:List Stmt}{scope:Scope}{dV kV doc pm cdv ct oc:Value}{an od:Option Addr}
    {osl:Array (Option Value)} {N ps:List Str} {sp:Sp} (lk:K.lookup f=some ⟨oc,od,.func (PySem.W.fnOf name qual params body scope dV kV doc pm an cdv ct),osl⟩) (hcd:PySem.W.codeIn K cdv qual=true) (S:FnScope N ps scope)
    (len : ∀ vs H Q E,sp vs H Q E→vs.length=ps.length)
    (hbody : ∀ (A:Around) (outer:List Env) (s:Shared) (H:Hp) (vs:List V) (Q:VK) (E:XK),Room k (A.deeper (envOfC qual scope s.heap.objs.size f cdv))→sp vs H Q E →
      ∃ t,PSs (cxOf CX P w K mg base N qual scope f cdv A outer s H E) body t∧t { nx:=fun _ H'=>Q .non H',rt:=Q } (start N vs) H) :
    FnOk P w K mg base CX (k+1) f (PySem.W.fnOf name qual params body scope dV kV doc pm an cdv ct) ps sp:=by
  refine ⟨len,fun A outer s H args us vs Q E hr e0 hb r hsp=>?_⟩
  have hl:=len _ _ _ _ hsp
  have KX:K.In s.heap:=e0.mod.kin.keeps fun b o e=>(e0.bs b o e).1
  have lim:s.heap.NoLimit:=e0.mod.nolimit.keeps fun b o e=>(e0.bs b o e).1
  have hkind : ∀ y∈ps.zip us,scope.names.lookup y.1=some .local∨(scope.names.lookup y.1=some .cell∧((cellsFrom (s.heap.objs.size+1) scope.names []).lookup y.1).isSome=true):=fun ⟨n,v⟩ hy=>by
    rcases S.par n (List.of_mem_zip hy).1 with q | q
    · exact .inl q
    · exact .inr ⟨q,PySem.W.cellsFrom_some _ _ _ (.inl q)⟩
  refine codeAny_call_function hr.depth (KX _ _ lk) rfl S.co S.gen rfl (PySem.W.codeRec_of KX hcd) (hb _ _ _ _ ?_)
  refine wpAny_newFunctionEnv_cells S.kind hkind fun env he s1 x=>?_
  subst he
  refine ⟨lim.keeps x.toInCall.keep,codeAny_func ?_⟩
  obtain ⟨t,ht,hq⟩:=hbody A outer s H vs Q E (hr.deeper _) hsp
  have I:Inv (cxOf CX P w K mg base N qual scope f cdv A outer s H E) [] (start N vs) H s1:=inv_start S hr.hd e0 hl r x
  refine wpAny_mono (ht [] s1 (start N vs) H _ I hq) (fun fl s' hs=>?_) fun e s' hs=>hs
  have fin : ∀ {σ':St} {H':Hp} {v:V} {u:Value},Inv (cxOf CX P w K mg base N qual scope f cdv A outer s H E) [] σ' H' s'→RelV v u→Q v H'→CE outer P w H s Q u s' :=
    fun {σ' H' v u} J rv q=>⟨v,H',J.os,J.bare,J.base,J.hok,rv,q⟩
  cases fl with
  | ret u =>
    obtain ⟨v, σ',H',J,rv,q⟩:=hs
    exact fin J rv q
  | next =>
    obtain ⟨σ',H',J,q⟩:=hs
    exact fin (v:=V.non) (u:=Value.none) J rfl q
  | brk =>
    obtain ⟨_,_,_,q⟩:=hs
    exact False.elim q
  | cont =>
    obtain ⟨_,_,_,q⟩:=hs
    exact False.elim q
end L2
namespace L2
open PySem PySem.Spec PyProof.Rows
section
variable {X:Cx}{x:Str}{p pos:Pos}{e:Expr}{es:List Expr}{t:TA}{id T:String}{r:List V→Hp→VK→Prop}
noncomputable def tCB (r:List V→Hp→VK→Prop)(t:TA):TE:=fun σ H Q=>t σ H fun vs H1=>r vs H1 Q
theorem pe_callB (hc:CallR X (.builtin id) r)(hg:Gl X x)(hm:X.mg x=none)(hv:bootBuiltins x=some (.builtin id))(ha:PA X (e::es) t)(hn:x≠"__name__":=by decide)(hdb:(x == ("__debug__":Str))=false:=by decide)
    (he:starEach (e::es) X.env=(false,eval e X.env)::starEach es X.env:=by rfl) (hpl:(backTo pos (starEach es X.env)).any (·.1)=false:=by rfl):PE X (.Call (.Name x p) (e::es) [] pos) (tCB r t):=by
  intro pins s σ H Q I h
  refine wpAny_Call_Name_kw (ld_blt I hg hm hv ?_ hn hdb)
  exact PyProof.Rows.callWith_builtin1 (thn5 (ha pos pins s σ H _ I h) fun us s1 vs H1 I1 r1 q1=>hc pins s1 σ H1 vs us Q I1 r1 q1) he hpl
theorem pe_callTy (hc:CallR X (.type T) r)(hg:Gl X x)(hm:X.mg x=none)(hv:bootBuiltins x=some (.type T))(ha:PA X (e::es) t)(hn:x≠"__name__":=by decide)(hdb:(x == ("__debug__":Str))=false:=by decide)
    (he:starEach (e::es) X.env=(false,eval e X.env)::starEach es X.env:=by rfl) (hpl:(backTo pos (starEach es X.env)).any (·.1)=false:=by rfl):PE X (.Call (.Name x p) (e::es) [] pos) (tCB r t):=by
  intro pins s σ H Q I h
  refine wpAny_Call_Name_kw (ld_blt I hg hm hv ?_ hn hdb)
  exact PyProof.Rows.callWith_type1 (thn5 (ha pos pins s σ H _ I h) fun us s1 vs H1 I1 r1 q1=>hc pins s1 σ H1 vs us Q I1 r1 q1) he hpl
end
end L2
namespace HT
open PySem PyProof.Rows
section
open PySem.SeqAt
open PySem.AutoSeq1 (wpAny_loadPart')
open PySem.MeetsSeq PySem.MeetsSeq2 PySem.MeetsSeq3
end
section
variable {prog:Program}{w:World}{A:Around}{E:Value→Shared→Prop}{s:Shared}
theorem cat_tup {t b:Addr}{vs ws:List Value}{Q:Value→Shared→Prop}(ht:IsTup s.heap t vs.toArray)(hb:IsTup s.heap b ws.toArray)(hv:vs≠[])
    (h1:ws=[]→Q (.ref t) s) (h2:ws≠[]→Q (.ref s.heap.objs.size) { s with heap:=s.heap.push { cls:=.type "tuple",data:=.seq (vs++ws).toArray } })
    (hsz:vs.length+ws.length≤sizeLine):wpAny (model prog w) A (binaryOp .Add (.ref t) (.ref b)) Q E s:=by
  obtain ⟨⟨cls,dd,data,sl⟩,ho,hc,n,hd⟩:=id ht
  obtain ⟨⟨cls2,dd2,data2,sl2⟩,ho2,hc2,n2,hd2⟩:=id hb
  simp only at hc hd hc2 hd2
  subst hc hd hc2 hd2
  have e:vs.toArray++ws.toArray=(vs++ws).toArray:=by simp
  by_cases hw:ws=[]
  · exact concat_meets ⟨_,ho,rfl⟩ ⟨_,ho2,rfl⟩ noFill_tuple_add seq_tuple_add PySem.F.slot_tuple_add PySem.F.entry_tuple_add (PySem.F.args_tuple_add_2 _ _)
      (tuple_addW1 t b vs.toArray ws.toArray n n2 dd dd2 sl sl2 (by simpa using hv) (by simp [hw])) ⟨ho,ho2,h1 hw⟩
  · refine concat_meets ⟨_,ho,rfl⟩ ⟨_,ho2,rfl⟩ noFill_tuple_add seq_tuple_add PySem.F.slot_tuple_add PySem.F.entry_tuple_add (PySem.F.args_tuple_add_2 _ _)
      (tuple_addW2 t b vs.toArray ws.toArray n n2 dd dd2 sl sl2 (by simpa using hv) (by simpa using hw) (by rw [List.size_toArray,List.size_toArray]; exact hsz)) ⟨ho,ho2, ?_⟩
    rw [e]
    exact h2 hw
noncomputable def sIx (n d:Nat):Option Int→Nat
  | none=>d
  | some v=>if v<0 then (v+(n:Int)).toNat else min v.toNat n
theorem sIx_le (n d:Nat)(hd:d≤n)(o:Option Int):sIx n d o≤n:=by
  cases o with
  | none=>exact hd
  | some v =>
    show (if v<0 then (v+(n:Int)).toNat else min v.toNat n)≤n
    by_cases hv:v<0
    · rw [if_pos hv]; omega
    · rw [if_neg hv]; exact Nat.min_le_right _ _
theorem clip_eq (v:Int)(n d:Nat):(if v<0 then max (v+(n:Int)) 0 else min v (n:Int))=((sIx n d (some v):Nat):Int):=by
  show (if v<0 then max (v+(n:Int)) 0 else min v (n:Int))=(((if v<0 then (v+(n:Int)).toNat else min v.toNat n):Nat):Int)
  by_cases hv:v<0
  · simp only [if_pos hv]; omega
  · simp only [if_neg hv]; omega
theorem adjust_gen (lo hi:Option Int)(n:Nat):Builtin.Slice.sliceAdjust lo hi 1 (n:Int)=(((sIx n 0 lo:Nat):Int),((sIx n n hi:Nat):Int)):=by
  have h1 : ¬ ((1:Int)<0):=by omega
  unfold Builtin.Slice.sliceAdjust
  simp only [h1,if_false]
  refine Prod.ext ?_ ?_
  · cases lo with
    | none=>rfl
    | some v=>exact clip_eq v n 0
  · cases hi with
    | none=>rfl
    | some v=>exact clip_eq v n n
theorem places_gen (i j:Nat):Builtin.Slice.slicePlaces (i:Int) (j:Int) 1=j - i:=by
  unfold Builtin.Slice.slicePlaces
  have h1:(1:Int) > 0:=by omega
  simp only [h1,if_true,Int.ediv_one]
  split <;> omega
theorem slicePart_ {v:Value}{o:Option Int}{Q:Option Int→Shared→Prop}(p:IsPart v o)(h:Q o s):wpAny (model prog w) A (Builtin.Slice.slicePartIndex v) Q E s:=by
  cases p with
  | none=>exact slicePart_none h
  | int i t=>exact slicePart_int h
theorem sliceApplied_gen {sl:Addr}{vl vu:Value}{lo hi:Option Int}{n:Nat}{Q:Int × Int × Nat→Shared→Prop}(hs:s.heap.IsSliceOf sl vl vu .none)(pl:IsPart vl lo)(pu:IsPart vu hi)
    (h:Q (((sIx n 0 lo:Nat):Int),1,sIx n n hi - sIx n 0 lo) s):wpAny (model prog w) A (Builtin.Slice.sliceApplied (.ref sl) (pure (n:Int))) Q E s:=by
  obtain ⟨os,hos,hcs,hds⟩:=id hs
  unfold Builtin.Slice.sliceApplied Builtin.Slice.sliceFields
  refine wpAny_bind (wpAny_bind (wpAny_field hos hds (x:=vl) rfl (wpAny_bind (wpAny_field hos hds (x:=vu) rfl (wpAny_bind (wpAny_field hos hds (x:=.none) rfl (wpAny_pure ?_)))))))
  refine wpAny_bind (slicePart_none ?_)
  show wpAny _ _ (if ((1:Int) == 0)=true then _ else _) _ _ s
  rw [if_neg (by decide)]
  refine wpAny_bind (slicePart_ pl (wpAny_bind (slicePart_ pu (wpAny_bind (wpAny_pure ?_)))))
  show wpAny _ _ (match Builtin.Slice.sliceAdjust lo hi 1 (n:Int) with | (lo,hi)=>pure (lo,(1:Int),Builtin.Slice.slicePlaces lo hi 1)) _ _ s
  rw [adjust_gen lo hi n]
  show wpAny _ _ (pure (((sIx n 0 lo:Nat):Int),(1:Int),Builtin.Slice.slicePlaces ((sIx n 0 lo:Nat):Int) ((sIx n n hi:Nat):Int) 1)) _ _ s
  rw [places_gen]
  exact wpAny_pure h
theorem pick_gen (xs:Array Value)(i k:Nat):((List.range k).filterMap fun (m:Nat)=>xs[((i:Int)+(m:Int) * 1).toNat]?).toArray=((xs.toList.drop i).take k).toArray:=by
  have e:(fun (m:Nat)=>xs[((i:Int)+(m:Int) * 1).toNat]?)=fun m=>xs[i+m]?:=by
    funext m
    have:((i:Int)+(m:Int) * 1).toNat=i+m:=by omega
    rw [this]
  rw [e]
  have:=pick_run xs i k
  rw [List.filterMap_map] at this
  have e2:((fun x=>xs[x]?) ∘ fun x=>i+x)=fun m=>xs[i+m]?:=rfl
  rw [e2] at this
  rw [this]
theorem getItem_tuple_cut {t sl:Addr}{items:Array Value}{vl vu:Value}{lo hi:Option Int}{Q:Value→Shared→Prop}(ht:IsTup s.heap t items)(hs:s.heap.IsSliceOf sl vl vu .none)(pl:IsPart vl lo)(pu:IsPart vu hi)
    (hw : ¬ (sIx items.size 0 lo=0∧sIx items.size items.size hi=items.size))
    (h:Q (.ref s.heap.objs.size) { s with heap:=s.heap.push { cls:=.type "tuple",data:=.seq ((items.toList.drop (sIx items.size 0 lo)).take (sIx items.size items.size hi - sIx items.size 0 lo)).toArray } })
    (hsz:items.size≤sizeLine):wpAny (model prog w) A (getItem (.ref t) (.ref sl)) Q E s:=by
  have htake:sizeOk (.seq ((items.toList.drop (sIx items.size 0 lo)).take (sIx items.size items.size hi - sIx items.size 0 lo)).toArray):=by
    show ((items.toList.drop (sIx items.size 0 lo)).take (sIx items.size items.size hi - sIx items.size 0 lo)).toArray.size≤sizeLine
    rw [List.size_toArray,List.length_take,List.length_drop,Array.length_toList]
    omega
  have hj:sIx items.size items.size hi≤items.size:=sIx_le _ _ (Nat.le_refl _) hi
  obtain ⟨os,hos,hcs,hds⟩:=id hs
  have hTs:s.TypeIs (.ref sl) "slice":=⟨os,hos,hcs⟩
  unfold getItem
  try with_reducible refine wpAny_holding ?_
  first | refine wpAny_bind (wpAny_pure ?_) | skip
  refine wpAny_bind (wpAny_sequenceKey ht.typeIs (by decide) ?_)
  refine wpAny_bind (wpAny_callSpecial?_slot (name:=Str.ofString "__getitem__") ht.typeIs PyProof.Rows.slot_tuple_getitem
    (wpAny_call_entry PyProof.Rows.slot_tuple_getitem ht.typeIs entry_tuple_getitem ?_ (args_tuple_getitem _ _)))
  show wpAny _ _ (Builtin.Tuple.tupleItemsOf (.ref t) >>= _) _ _ s
  refine wpAny_bind (tupleItemsOf_ ht ?_)
  refine wpAny_bind (wpAny_typeOf hTs ?_)
  rw [if_pos (by decide)]
  refine wpAny_bind (sliceApplied_gen hs pl pu ?_)
  have hno : ¬ ((((sIx items.size 0 lo:Nat):Int) == 0 && (1:Int) == 1 && (sIx items.size items.size hi - sIx items.size 0 lo) == items.size)=true):=by
    intro q
    rw [Bool.and_eq_true,Bool.and_eq_true] at q
    have q1:((sIx items.size 0 lo:Nat):Int)=0:=eq_of_beq q.1.1
    have q2:sIx items.size items.size hi - sIx items.size 0 lo=items.size:=eq_of_beq q.2
    exact hw ⟨by omega,by omega⟩
  show wpAny _ _ (if (((sIx items.size 0 lo:Nat):Int) == 0 && (1:Int) == 1 && (sIx items.size items.size hi - sIx items.size 0 lo) == items.size)=true then _ else _) _ _ s
  rw [if_neg hno,pick_gen]
  first
    | exact wpAny_bind (m:=Builtin.Tuple.tupleExact _) (wpAny_newObj_type (wpAny_pure ⟨_,rfl,wpAny_pure h⟩) htake)
    | exact wpAny_bind (m:=Builtin.Tuple.tupleExact _) (wpAny_newObj_type (wpAny_bind (wpAny_pure (wpAny_pure ⟨_,rfl,wpAny_pure h⟩))) htake)
    | exact wpAny_bind (wpAny_bind (m:=Builtin.Tuple.tupleExact _) (wpAny_newObj_type (wpAny_pure (wpAny_pure ⟨_,rfl,wpAny_pure h⟩)) htake))
    | exact wpAny_bind (wpAny_bind (m:=Builtin.Tuple.tupleExact _) (wpAny_newObj_type (wpAny_pure ⟨_,rfl,wpAny_pure h⟩) htake))
end
end HT
namespace L2
open PySem PySem.Spec PyProof.Rows
noncomputable abbrev TO:=St→Hp→(Option Int→Hp→Prop)→Prop
noncomputable def PO (X:Cx)(e:Option Expr)(t:TO):Prop :=
  ∀ (pins:List (Addr × Obj)) (s:Shared) (σ:St) (H:Hp) (Q:Option Int→Hp→Prop),Inv X pins σ H s→t σ H Q →
    wpAny (model X.prog X.w) X.A (evalPart e X.env) (fun u s'=>∃ o H',Inv X pins σ H' s'∧IsPart u o∧Q o H') X.xe s
noncomputable def tNoPart:TO:=fun _ H Q=>Q none H
noncomputable def tPart (t:TE):TO:=fun σ H Q=>t σ H fun x H1=>∃ i,x=.int i∧Q (some i) H1
section
variable {X:Cx}{e:Expr}{te:TE}{lo hi:Option Expr}{tl th:TO}{pos p2:Pos}
theorem po_none:PO X none tNoPart:=by
  intro pins s σ H Q I h
  rw [evalPart_none]
  exact wpAny_pure ⟨none,H,I,.none,h⟩
theorem po_some (h:PE X e te):PO X (some e) (tPart te):=by
  intro pins s σ H Q I hw
  rw [evalPart_some]
  refine thn5 (h pins s σ H _ I hw) fun u s1 x H1 I1 r1 q1=>?_
  obtain ⟨i,rfl,q⟩:=q1
  obtain ⟨t,rfl⟩:=r1
  exact ⟨some i,H1,I1,.int i t,q⟩
noncomputable def SlR (X:Cx)(r:V→Option Int→Option Int→Hp→VK→Prop):Prop :=
  ∀ (pins:List (Addr × Obj)) (s:Shared) (σ:St) (H:Hp) (x:V) (v vl vu:Value) (lo hi:Option Int) (sl:Addr) (Q:VK),Inv X pins σ H s→RelV x v→s.heap.IsSliceOf sl vl vu .none→IsPart vl lo→IsPart vu hi→r x lo hi H Q →
    ∃ T id,typeLookup (.type T) "__getitem__"=pure (some (.builtin id))∧s.TypeIs v T∧wpAny (model X.prog X.w) X.A (getItem v (.ref sl)) (EP X pins σ Q) X.xe s
theorem SlR.or {r r':V→Option Int→Option Int→Hp→VK→Prop}(h:SlR X r)(h':SlR X r'):SlR X (fun x lo hi H Q=>r x lo hi H Q∨r' x lo hi H Q):=by
  intro pins s σ H x v vl vu lo hi sl Q I rx hs pl pu q
  rcases q with q | q
  · exact h pins s σ H x v vl vu lo hi sl Q I rx hs pl pu q
  · exact h' pins s σ H x v vl vu lo hi sl Q I rx hs pl pu q
noncomputable def tSl (r:V→Option Int→Option Int→Hp→VK→Prop)(te:TE)(tl th:TO):TE:=fun σ H Q=>te σ H fun x H1=>tl σ H1 fun l H2=>th σ H2 fun u H3=>r x l u H3 Q
theorem pe_slice {r:V→Option Int→Option Int→Hp→VK→Prop}(hr:SlR X r)(he:PE X e te)(hl:PO X lo tl)(hu:PO X hi th):PE X (.Subscript e (.Slice lo hi none p2) pos) (tSl r te tl th):=by
  intro pins s σ H Q I h
  refine Subscript_ (thn5 (he pins s σ H _ I h) fun v s1 x H1 I1 r1 q1=>?_)
  refine wpAny_Slice (thn5 (hl pins s1 σ H1 _ I1 q1) fun vl s2 l H2 I2 pl q2=>thn5 (hu pins s2 σ H2 _ I2 q2) fun vu s3 u H3 I3 pu q3=>?_)
  rw [evalPart_none]
  refine wpAny_pure ?_
  have I4:Inv X pins σ H3 { s3 with heap:=s3.heap.push { cls:=.type "slice",data:=.fields #[vl,vu,.none] } }:=I3.kept (t':=s3.toks) fun b ob q=>Heap.get?_push_of_some _ q
  obtain ⟨T,id,hT,ht,hg⟩:=hr pins { s3 with heap:=s3.heap.push { cls:=.type "slice",data:=.fields #[vl,vu,.none] } } σ H3 x v vl vu l u s3.heap.objs.size Q I4 r1 (Heap.IsSliceOf.new ..) pl pu q3
  show wpAny (model X.prog X.w) X.A (subscriptTail e (.Slice lo hi none p2) v (.ref s3.heap.objs.size)) (EP X pins σ Q) X.xe { s3 with heap:=s3.heap.push { cls:=.type "slice",data:=.fields #[vl,vu,.none] } }
  exact tail_any (ops:=[.ref s3.heap.objs.size,v]) ht hT hg (by with_unfolding_all rfl)
noncomputable def cutV (xs:List V)(lo hi:Option Int):List V:=(xs.drop (HT.sIx xs.length 0 lo)).take (HT.sIx xs.length xs.length hi - HT.sIx xs.length 0 lo)
theorem cutV_length (xs:List V)(lo hi:Option Int):(cutV xs lo hi).length≤xs.length:=by
  unfold cutV
  rw [List.length_take,List.length_drop]
  omega
noncomputable def rSlT (K:PySem.W.Frag):V→Option Int→Option Int→Hp→VK→Prop:=fun x lo hi H Q=>∃ a xs,x=.ref a∧SqT K H a xs ∧
  ¬ (HT.sIx xs.length 0 lo=0∧HT.sIx xs.length xs.length hi=xs.length)∧∀ p,H p=none→Q (.ref p) (upd H p (.tup (cutV xs lo hi)))
theorem sl_tup:SlR X (rSlT X.K):=by
  intro pins s σ H x v vl vu lo hi sl Q I rx hs pl pu h
  obtain ⟨a,xs,rfl,hx,hw,q⟩:=h
  cases rx
  obtain ⟨its,r,ht,hz⟩:=I.tuple hx
  have hlen:its.toArray.size=xs.length:=by rw [List.size_toArray]; exact r.length.symm
  refine ⟨"tuple",_,PyProof.Rows.slot_tuple_getitem.lookup,ht.typeIs, ?_⟩
  refine HT.getItem_tuple_cut ht hs pl pu (by rw [hlen]; exact hw) ?_ (by rw [hlen]; exact hz)
  rw [hlen]
  refine ⟨.ref s.heap.objs.size,_,I.laid (t':=s.toks) (o:=.tup (cutV xs lo hi)) (fun b ob q=>Heap.get?_push_of_some _ q) (Nat.le_refl _) ?_,rfl,q _ (I.hok.fresh (Nat.le_refl _))⟩
  exact ⟨Nat.le_trans (cutV_length xs lo hi) hz,_,(r.drop (HT.sIx xs.length 0 lo)).take (HT.sIx xs.length xs.length hi - HT.sIx xs.length 0 lo),IsTup.new _ _⟩
noncomputable def rCatT (K:PySem.W.Frag):R2:=fun x y H Q=>∃ a b xs ys,x=.ref a∧y=.ref b∧SqT K H a xs∧SqT K H b ys∧xs≠[]∧xs.length+ys.length≤sizeLine ∧
  (ys=[]→Q (.ref a) H)∧(ys≠[]→∀ p,H p=none→Q (.ref p) (upd H p (.tup (xs++ys))))
theorem Vals.nil_iff {xs:List V}{us:List Value}(r:Vals xs us):us=[]↔xs=[]:=by
  cases r with
  | nil=>simp
  | cons _ _=>simp
theorem op_catT:OpR X (binaryOp .Add) (rCatT X.K):=by
  intro pins s σ H x y v u Q I rx ry h
  obtain ⟨a,b,xs,ys,rfl,rfl,ha,hb,hx,hz,q1,q2⟩:=h
  cases rx
  cases ry
  obtain ⟨its,r1,p1,_⟩:=I.tuple ha
  obtain ⟨its2,r2,p2,_⟩:=I.tuple hb
  refine HT.cat_tup p1 p2 (fun z=>hx (r1.nil_iff.mp z)) (fun z=>⟨.ref a,H,I,rfl,q1 (r2.nil_iff.mp z)⟩) (fun z=>?_) (by rw [← r1.length, ← r2.length]; exact hz)
  refine ⟨.ref s.heap.objs.size,_,I.laid (t':=s.toks) (o:=.tup (xs++ys)) (fun b ob q=>Heap.get?_push_of_some _ q) (Nat.le_refl _) ?_,rfl,q2 (fun w=>z (r2.nil_iff.mpr w)) _ (I.hok.fresh (Nat.le_refl _))⟩
  exact ⟨by rw [List.length_append]; exact hz,_,r1.append r2,IsTup.new _ _⟩
end
end L2
namespace L2
open PySem PySem.Spec PyProof.Rows
noncomputable def ixN (n:Nat)(i:Int):Option Nat:=if 0≤i then (if i<n then some i.toNat else none) else if -(n:Int)≤i then some (i+n).toNat else none
noncomputable def atI {α:Type}(xs:List α)(i:Int):Option α:=(ixN xs.length i).bind fun j=>xs[j]?
theorem ixN_seq {n:Nat}{i:Int}{j:Nat}(h:ixN n i=some j):seqIndex? i n=some j∧j<n∧-(n:Int)≤i∧i<n:=by
  unfold ixN at h
  by_cases h0 : 0≤i
  · rw [if_pos h0] at h
    by_cases h1:i<n
    · rw [if_pos h1] at h
      have e:i.toNat=j:=Option.some.inj h
      exact ⟨by rw [seqIndex_of h0 h1,e],by omega,by omega,h1⟩
    · rw [if_neg h1] at h; cases h
  · rw [if_neg h0] at h
    by_cases h1 : -(n:Int)≤i
    · rw [if_pos h1] at h
      have e:(i+n).toNat=j:=Option.some.inj h
      exact ⟨by rw [seqIndex_neg (by omega) h1,e],by omega,h1,by omega⟩
    · rw [if_neg h1] at h; cases h
theorem atI_get {α:Type}{xs:List α}{i:Int}{v : α}(h:atI xs i=some v) : ∃ j,seqIndex? i xs.length=some j∧xs[j]?=some v∧j<xs.length∧-(xs.length:Int)≤i∧i<xs.length:=by
  unfold atI at h
  cases e:ixN xs.length i with
  | none=>rw [e] at h; cases h
  | some j =>
    rw [e] at h
    obtain ⟨h1,h2,h3,h4⟩:=ixN_seq e
    exact ⟨j,h1,h,h2,h3,h4⟩
noncomputable def PlainIx (b:Expr):Prop:=∀ o i,subscripted b false o i=operate [o,i] (getItem o i)
noncomputable def IxR (X:Cx)(r:R2):Prop :=
  ∀ (value slice:Expr) (pins:List (Addr × Obj)) (s:Shared) (σ:St) (H:Hp) (x y:V) (v u:Value) (Q:VK),Inv X pins σ H s→RelV x v→RelV y u→r x y H Q →
    subscripted slice false v u=operate [v,u] (getItem v u)→wpAny (model X.prog X.w) X.A (subscriptTail value slice v u) (EP X pins σ Q) X.xe s
noncomputable def MtR (X:Cx)(id:String)(r:V→List V→Hp→VK→Prop):Prop :=
  ∀ (pins:List (Addr × Obj)) (s:Shared) (σ:St) (H:Hp) (x:V) (xs:List V) (v:Value) (us:List Value) (Q:VK),Inv X pins σ H s→RelV x v→Vals xs us→r x xs H Q →
    wpAny (model X.prog X.w) X.A (call (.builtin id) (v::us)) (EP X pins σ Q) X.xe s
section
variable {X:Cx}{a b:Expr}{ta tb:TE}{pos:Pos}
theorem IxR.or {r r':R2}(h:IxR X r)(h':IxR X r'):IxR X (fun x y H Q=>r x y H Q∨r' x y H Q):=by
  intro value slice pins s σ H x y v u Q I rx ry q hs
  rcases q with q | q
  · exact h value slice pins s σ H x y v u Q I rx ry q hs
  · exact h' value slice pins s σ H x y v u Q I rx ry q hs
theorem pe_ix {r:R2}(hr:IxR X r)(ha:PE X a ta)(hb:PE X b tb)(hs:PlainIx b):PE X (.Subscript a b pos) (tOp r ta tb):=by
  intro pins s σ H Q I h
  exact Subscript_ (binT ha hb I h fun v u s2 x y H2 I2 rx ry q=>hr a b pins s2 σ H2 x y v u Q I2 rx ry q (hs _ _))
noncomputable def rIxL (K:PySem.W.Frag):R2:=fun x y H Q=>∃ p xs i v,x=.ref p∧y=.int i∧SqL K H p xs∧atI xs i=some v∧Q v H
noncomputable def rIxT (K:PySem.W.Frag):R2:=fun x y H Q=>∃ p xs i v,x=.ref p∧y=.int i∧SqT K H p xs∧atI xs i=some v∧Q v H
noncomputable def rIxS:R2:=fun x y H Q=>∃ z i c,x=.str z∧y=.int i∧z.length≤sizeLine∧atI z.cps.toList i=some c∧Q (.str ⟨#[c]⟩) H
theorem ix_list:IxR X (rIxL X.K):=by
  intro value slice pins s σ H x y v u Q I rx ry h hs
  obtain ⟨p,xs,i,z,rfl,rfl,hq,he,q⟩:=h
  cases rx
  obtain ⟨t,rfl⟩:=ry
  obtain ⟨its,r,pl,hz⟩:=I.list hq
  obtain ⟨j,h1,h2,h3,h4,h5⟩:=atI_get he
  obtain ⟨w,ew,rw'⟩:=r.get h2
  have hl:=r.length
  have hn:=line63
  have fin:EP X pins σ Q w s:=⟨z,H,I,rw',q⟩
  by_cases h0 : 0≤i
  · have hj:i.toNat=j:=by
      rw [seqIndex_of h0 h5] at h1
      exact Option.some.inj h1
    exact item_listR pl.isList h0 (by omega) (by rw [hj]; simpa using ew) fin hs
  · have hj:(i+(its.toArray.size:Int)).toNat=j:=by
      rw [seqIndex_neg (by omega) h4] at h1
      rw [List.size_toArray, ← hl]
      exact Option.some.inj h1
    exact subscriptTail_builtinR (x:=w) pl.isList.typeIs slot_list_getitem.lookup
      (wpAny_getItem_list_neg (Q:=fun r s'=>r=w∧EP X pins σ Q r s') pl.isList (by omega) (by rw [List.size_toArray] <;> omega) (by omega) (by rw [hj]; simpa using ew) ⟨rfl,fin⟩) hs
theorem ix_tup:IxR X (rIxT X.K):=by
  intro value slice pins s σ H x y v u Q I rx ry h hs
  obtain ⟨p,xs,i,z,rfl,rfl,hq,he,q⟩:=h
  cases rx
  obtain ⟨t,rfl⟩:=ry
  obtain ⟨its,r,pl,hz⟩:=I.tuple hq
  obtain ⟨j,h1,h2,h3,h4,h5⟩:=atI_get he
  obtain ⟨w,ew,rw'⟩:=r.get h2
  have hl:=r.length
  have hn:=line63
  have fin:EP X pins σ Q w s:=⟨z,H,I,rw',q⟩
  exact subscriptTail_builtinR (x:=w) pl.typeIs slot_tuple_getitem.lookup
    (getItem_tuple (j:=j) (Q:=fun r s'=>r=w∧EP X pins σ Q r s') pl (by omega) (by omega) (by rw [List.size_toArray, ← hl]; exact h1) (by simpa using ew) ⟨rfl,fin⟩) hs
theorem ix_str:IxR X rIxS:=by
  intro value slice pins s σ H x y v u Q I rx ry h hs
  obtain ⟨z,i,c,rfl,rfl,hz,he,q⟩:=h
  obtain ⟨t,rfl⟩:=rx
  obtain ⟨t',rfl⟩:=ry
  obtain ⟨j,h1,h2,h3,h4,h5⟩:=atI_get he
  have hl:z.cps.toList.length=z.length:=by simp [Str.length]
  rw [hl] at h1 h4 h5
  have hn:=line63
  exact tail_any (typeIs_str s z t) slot_str_getitem.lookup (getItem_str (c:=c) (by
    have e1:decide (i < -(2 ^ 63:Int))=false:=decide_eq_false (by omega)
    have e2:decide (i ≥ 2 ^ 63)=false:=decide_eq_false (by omega)
    rw [e1,e2,Bool.or_false]) (by rw [h1]; simpa using h2) ⟨.str ⟨#[c]⟩,H,I.tok _,⟨_,rfl⟩,q⟩) hs
noncomputable def rIx (K:PySem.W.Frag):R2:=fun x y H Q=>rIxL K x y H Q∨rIxT K x y H Q∨rIxS x y H Q
theorem ix_seq:IxR X (rIx X.K):=ix_list.or (ix_tup.or ix_str)
theorem mapSeq_set (its:List Value)(n j:Nat)(u:Value):Obj.mapSeq (·.setIfInBounds j u) { cls:=.type "list",data:=.seq its.toArray n }={ cls:=.type "list",data:=.seq (its.set j u).toArray n }:=by
  simp [Obj.mapSeq]
theorem Inv.lst {pins:List (Addr × Obj)}{σ:St}{H:Hp}{s:Shared}{p:Addr}{xs:List V}(I:Inv X pins σ H s)(h:H p=some (.lst xs)) :
    ∃ (its:List Value) (n:Nat),Vals xs its∧s.heap.get? p=some { cls:=.type "list",data:=.seq its.toArray n }∧xs.length≤sizeLine:=by
  obtain ⟨z,its,n,r,e⟩:=I.hok p _ h
  exact ⟨its,n,r,e,z⟩
theorem Inv.lstUpd {pins:List (Addr × Obj)}{σ:St}{H:Hp}{s:Shared}{p:Addr}{xs ys:List V}{its its':List Value}{n n':Nat}{f:Obj→Obj}(I:Inv X pins σ H s)(h:H p=some (.lst xs))
    (ho:s.heap.get? p=some { cls:=.type "list",data:=.seq its.toArray n }) (hf:f { cls:=.type "list",data:=.seq its.toArray n }={ cls:=.type "list",data:=.seq its'.toArray n' }) (r:Vals ys its') (hz:ys.length≤sizeLine) (t:Nat) :
    Inv X pins σ (upd H p (.lst ys)) { s with heap:=s.heap.update p f,toks:=t }:=by
  have e:(s.heap.update p f).get? p=some { cls:=.type "list",data:=.seq its'.toArray n' }:=by
    rw [Heap.get?_update_self f ho (by rw [hf] <;> rfl),hf]
  refine I.write (x:=p) (e:=p) (by rw [h]; trivial) (.inl rfl) (fun b u hb q=>(Heap.get?_update_other _ _ (Ne.symm hb)).trans q) ⟨_,e⟩ ?_
  exact ⟨hz,its',n',r,e⟩
noncomputable def rSetL:V→V→V→Hp→(Hp→Prop)→Prop:=fun o i v H Q=>∃ p xs k j,o=.ref p∧i=.int k∧H p=some (.lst xs)∧ixN xs.length k=some j∧Q (upd H p (.lst (xs.set j v)))
theorem set_list:PSet X rSetL:=by
  intro pins s σ H o i v ov iv u Q I ro ri rv h
  obtain ⟨p,xs,k,j,rfl,rfl,hp,hj,q⟩:=h
  cases ro
  obtain ⟨t,rfl⟩:=ri
  obtain ⟨its,n,r,ho,hz⟩:=I.lst hp
  obtain ⟨h1,h2,h3,h4⟩:=ixN_seq hj
  have hl:=r.length
  have hn:=line63
  have I':Inv X pins σ (upd H p (.lst (xs.set j v))) { s with heap:=s.heap.update p (Obj.mapSeq (·.setIfInBounds j u)) } :=
    I.lstUpd hp ho (mapSeq_set its n j u) (r.set rv j) (by rw [List.length_set]; exact hz) s.toks
  by_cases h0 : 0≤k
  · have hk:k.toNat=j:=by
      rw [seqIndex_of h0 h4] at h1
      exact Option.some.inj h1
    exact PySem.W.ki_setAt ho h0 (by omega) (by rw [List.size_toArray, ← hl]; exact h4) (by rw [hk]; exact ⟨_,I',q⟩)
  · have hk:(k+(its.toArray.size:Int)).toNat=j:=by
      rw [seqIndex_neg (by omega) h3] at h1
      rw [List.size_toArray, ← hl]
      exact Option.some.inj h1
    exact PySem.W.ki_setBack ho (by omega) (by rw [List.size_toArray, ← hl]; exact h3) (by omega) (by rw [hk]; exact ⟨_,I',q⟩)
theorem slice_bounds (lo hi:Option Int)(n:Nat):(sliceBounds lo hi none n).1=((HT.sIx n 0 lo:Nat):Int)∧(sliceBounds lo hi none n).2.1=((HT.sIx n n hi:Nat):Int)∧(sliceBounds lo hi none n).2.2=1:=by
  refine ⟨?_, ?_,rfl⟩
  · cases lo with
    | none=>simp [sliceBounds,HT.sIx]
    | some i =>
      simp only [sliceBounds,HT.sIx,Option.getD_none,show (1:Int) > 0 by decide,if_true]
      by_cases h:i<0
      · simp only [h,if_true] <;> omega
      · simp only [h,if_false] <;> omega
  · cases hi with
    | none=>simp [sliceBounds,HT.sIx]
    | some i =>
      simp only [sliceBounds,HT.sIx,Option.getD_none,show (1:Int) > 0 by decide,if_true]
      by_cases h:i<0
      · simp only [h,if_true] <;> omega
      · simp only [h,if_false] <;> omega
theorem slicePick_cut (its:List Value)(lo hi:Option Int):slicePick its.toArray lo hi none=((its.drop (HT.sIx its.length 0 lo)).take (HT.sIx its.length its.length hi - HT.sIx its.length 0 lo)).toArray:=by
  obtain ⟨h1,h2,h3⟩:=slice_bounds lo hi its.toArray.size
  unfold slicePick
  rw [h1,h2,h3]
  simp only [sliceRange_one,pick_run,List.size_toArray] <;> rfl
noncomputable def rSlL (K:PySem.W.Frag):V→Option Int→Option Int→Hp→VK→Prop:=fun x lo hi H Q=>∃ a xs,x=.ref a∧SqL K H a xs∧∀ p,H p=none→Q (.ref p) (upd H p (.lst (cutV xs lo hi)))
theorem sl_list:SlR X (rSlL X.K):=by
  intro pins s σ H x v vl vu lo hi sl Q I rx hs pl pu h
  obtain ⟨a,xs,rfl,hx,q⟩:=h
  cases rx
  obtain ⟨its,r,ht,hz⟩:=I.list hx
  have hlen:=r.length
  refine ⟨"list",_,slot_list_getitem.lookup,ht.isList.typeIs, ?_⟩
  refine wpAny_getItem_list_slice ht.isList hs pl pu .none (by simp) ?_ (by rw [List.size_toArray] <;> omega)
  rw [slicePick_cut, ← hlen]
  refine ⟨.ref s.heap.objs.size,_,I.laid (t':=s.toks) (o:=.lst (cutV xs lo hi)) (fun b ob q=>Heap.get?_push_of_some _ q) (Nat.le_refl _) ?_,rfl,q _ (I.hok.fresh (Nat.le_refl _))⟩
  exact ⟨Nat.le_trans (cutV_length xs lo hi) hz,_,0,(r.drop (HT.sIx xs.length 0 lo)).take (HT.sIx xs.length xs.length hi - HT.sIx xs.length 0 lo),Heap.get?_push_size _ rfl⟩
noncomputable def flatV:V→Bool
  | .non=>true
  | .bl _=>true
  | .int _=>true
  | .str _=>true
  | _=>false
theorem call_list_of:CallR X (.type "list") (fun xs H Q=>∃ p ys,xs=[.ref p]∧(SqL X.K H p ys∨SqT X.K H p ys)∧∀ l,H l=none→Q (.ref l) (upd H l (.lst ys))):=by
  intro pins s σ H xs us Q I r h
  obtain ⟨p,ys,rfl,hq,q⟩:=h
  obtain ⟨u,rfl,rx⟩:=vals1 r
  cases rx
  have fin : ∀ (its:List Value),Vals ys its→ys.length≤sizeLine→∀ (h':Heap) (c':Nat),(∀ b o',s.heap.get? b=some o'→h'.get? b=some o') →
      h'.get? s.heap.objs.size=some { cls:=.type "list",dict:=none,data:=.seq its.toArray c',slots:=#[] }→EP X pins σ Q (.ref s.heap.objs.size) { s with heap:=h' }:=fun its r' hz h' c' kp e =>
    ⟨.ref s.heap.objs.size,_,I.laid (t':=s.toks) kp (Nat.le_refl _) (show ObjOk X.prog X.w _ h' _ (.lst ys) from ⟨hz,its,c',r',e⟩),rfl,q _ (I.hok.fresh (Nat.le_refl _))⟩
  rcases hq with hq | hq
  · obtain ⟨its,r',pl,hz⟩:=I.list hq
    have hlen:=r'.length
    obtain ⟨o,ho,hc,n,hd⟩:=pl.isList
    exact call_list_seq p (.inl rfl) ho hc hd (fun h' c' kp e=>fin its r' hz h' c' kp e) (by simp only [List.size_toArray] <;> omega)
  · obtain ⟨its,r',pl,hz⟩:=I.tuple hq
    have hlen:=r'.length
    obtain ⟨o,ho,hc,n,hd⟩:=pl
    exact call_list_seq p (.inr rfl) ho hc hd (fun h' c' kp e=>fin its r' hz h' c' kp e) (by simp only [List.size_toArray] <;> omega)
noncomputable def tyV (K:PySem.W.Frag)(T:String)(x:V)(H:Hp):Prop:=match x with
  | .str _=>T="str"
  | .int _=>T="int"
  | .ref p=>(T="list"∧∃ xs,SqL K H p xs)∨(T="tuple"∧∃ o,K.lookup p=some o∧o.cls=.type "tuple"∧o.dict=none) ∨
      (T="dict"∧((∃ kvs,H p=some (.dK kvs))∨∃ kvs,H p=some (.dT kvs)))∨(T="set"∧∃ S n,H p=some (.set S n))
  | _=>False
theorem tyV_is {pins:List (Addr × Obj)}{σ:St}{H:Hp}{s:Shared}{T:String}{x:V}{v:Value}(I:Inv X pins σ H s)(r:RelV x v)(ty:tyV X.K T x H) :
    s.TypeIs v T∧∀ a,v=.ref a→∃ ob,s.heap.get? a=some ob∧ob.dict=none:=by
  cases x with
  | str z =>
    obtain ⟨t,rfl⟩:=r
    cases (show T="str" from ty)
    exact ⟨typeIs_str s z t,fun _ e=>nomatch e⟩
  | int i =>
    obtain ⟨t,rfl⟩:=r
    cases (show T="int" from ty)
    exact ⟨typeIs_int s i t,fun _ e=>nomatch e⟩
  | ref p =>
    cases r
    rcases ty with ⟨rfl,xs,hq⟩ | ⟨rfl,o,hk,hc,hd⟩ | ⟨rfl,hk⟩ | ⟨rfl,S,n,hk⟩
    · obtain ⟨its,_,pl,_⟩:=I.list hq
      refine ⟨pl.isList.typeIs,fun a e=>?_⟩
      cases e
      obtain ⟨o,n,e,c,hd,_⟩:=pl
      exact ⟨o,e,hd⟩
    · refine ⟨⟨o,I.kIn p o hk,hc⟩,fun a e=>?_⟩
      cases e
      exact ⟨o,I.kIn _ o hk,hd⟩
    · have z : ∃ o,s.heap.get? p=some o∧o.ExactDict:=by
        rcases hk with ⟨kvs,hk⟩ | ⟨kvs,hk⟩
        · obtain ⟨_,_,_,_,o,_,_,e,ex,_⟩:=I.hok p _ hk
          exact ⟨o,e,ex⟩
        · obtain ⟨_,_,_,_,o,_,_,e,ex,_⟩:=I.hok p _ hk
          exact ⟨o,e,ex⟩
      obtain ⟨o,e,ex⟩:=z
      refine ⟨⟨o,e,ex.1⟩,fun a e2=>?_⟩
      cases e2
      exact ⟨o,e,ex.2.1⟩
    · obtain ⟨o,_,_,_,e,ex,_⟩:=I.hok p _ hk
      refine ⟨⟨o,e,ex.1⟩,fun a e2=>?_⟩
      cases e2
      exact ⟨o,e,ex.2.1⟩
  | _=>exact False.elim ty
noncomputable def tBM0 (K:PySem.W.Frag)(T:String)(r:V→List V→Hp→VK→Prop)(to:TE):TE:=fun σ H Q=>to σ H fun x H1=>tyV K T x H1∧r x [] H1 Q
noncomputable def tBM (K:PySem.W.Frag)(T:String)(r:V→List V→Hp→VK→Prop)(to:TE)(t:TA):TE:=fun σ H Q=>to σ H fun x H1=>tyV K T x H1∧t σ H1 fun xs H2=>r x xs H2 Q
variable {o e:Expr}{es:List Expr}{to:TE}{t:TA}{name:Str}{apos cpos:Pos}{T id:String}{r:V→List V→Hp→VK→Prop}
theorem pe_bm0 (pa:PlainAttrs T)(slot:Slot T name id)(hty:typeOf (.builtin id)=pure (.type "method_descriptor"))(hm:MtR X id r)(ho:PE X o to)
    (hbase:attributeBase o name X.env (eval o X.env)=eval o X.env:=by rfl) (hline:(apos.endLine == cpos.line)=true:=by rfl):PE X (.Call (.Attribute o name apos) [] [] cpos) (tBM0 X.K T r to):=by
  intro pins s σ H Q I h
  refine wpAny_Call_method0_late hbase hline (thn5 (ho pins s σ H _ I h) fun v s1 x H1 I1 r1 zz_=>?_)
  obtain ⟨ty,q1⟩:=zz_
  obtain ⟨h1,h2⟩:=tyV_is I1 r1 ty
  exact ⟨T,id,pa,slot,hty,h1,h2,Calls.callWith_builtin rfl (PySem.evalArgs_none (hm pins s1 σ H1 x [] v [] Q I1 r1 .nil q1))⟩
theorem pe_bm (pa:PlainAttrs T)(slot:Slot T name id)(hty:typeOf (.builtin id)=pure (.type "method_descriptor"))(hm:MtR X id r)(ho:PE X o to)(ha:PA X (e::es) t)
    (hbase:attributeBase o name X.env (eval o X.env)=eval o X.env:=by rfl)
    (hfew:((backTo cpos (starEach (e::es) X.env)).all (fun x=>!x.1) && (backToKw cpos (keywordEach [] X.env)).all (fun x=>x.1.isSome)
      && decide ((e::es).length+([]:List Keyword).length+(if ([]:List Keyword).isEmpty then 0 else 1)<30))=true:=by rfl)
    (hline:(apos.endLine == cpos.line)=true:=by rfl) (hs:starEach (e::es) X.env=(false,eval e X.env)::starEach es X.env:=by rfl) (hplain:(backTo cpos (starEach es X.env)).any (·.1)=false:=by rfl) :
    PE X (.Call (.Attribute o name apos) (e::es) [] cpos) (tBM X.K T r to t):=by
  intro pins s σ H Q I h
  refine wpAny_Call_method_late hbase hfew hline rfl (thn5 (ho pins s σ H _ I h) fun v s1 x H1 I1 r1 zz_=>?_)
  obtain ⟨ty,q1⟩:=zz_
  obtain ⟨h1,h2⟩:=tyV_is I1 r1 ty
  refine ⟨T,id,pa,slot,hty,h1,h2, ?_⟩
  have hA:=ha cpos pins s1 σ H1 _ I1 q1
  rw [hs] at hA ⊢
  refine Calls.callWith_builtin (by show (false || (backTo cpos (starEach es X.env)).any (·.1))=false; rw [hplain] <;> rfl) (Calls.evalArgs_plain ?_)
  exact thn5 hA fun us s2 vs H2 I2 r2 q2=>hm pins s2 σ H2 x vs v us Q I2 r1 r2 q2
/- xs.append(e),list.index on a module's tuple .. are MtR facts of 06m -/
end
end L2
namespace L2
open PySem PySem.Spec PyProof.Rows
noncomputable def MtM (X:Cx)(id:String)(r:V→List V→Hp→VK→Prop):Prop :=
  ∀ (pins:List (Addr × Obj)) (s:Shared) (σ:St) (H:Hp) (x:V) (xs:List V) (v:Value) (us:List Value) (Q:VK),Inv X pins σ H s→RelV x v→Vals xs us→r x xs H Q →
    wpAny (model X.prog X.w) X.A (call (.builtin id) (v::us)) (EP X pins σ Q) X.xe s
theorem Vals.one : ∀ {x:V} {us:List Value},Vals [x] us→∃ u,us=[u]∧RelV x u
 :=by
  intro x us h
  cases h with
  | cons r h=>cases h; exact ⟨_,rfl,r⟩
theorem Vals.two : ∀ {x y:V} {us:List Value},Vals [x,y] us→∃ u v,us=[u,v]∧RelV x u∧RelV y v
 :=by
  intro x y us h
  cases h with
  | cons r h =>
    cases h with
    | cons q h=>cases h; exact ⟨_,_,rfl,r,q⟩
theorem Vals.zero : ∀ {us:List Value},Vals [] us→us=[]
  | _,.nil=>rfl
theorem Vals.rep {xs:List V}{us:List Value}(h:Vals xs us) : ∀ k:Nat,Vals (List.replicate k xs).flatten (List.replicate k us).flatten
  | 0=>.nil
  | k+1=>by
    rw [List.replicate_succ,List.replicate_succ,List.flatten_cons,List.flatten_cons]
    exact Vals.append h (Vals.rep h k)
theorem foldl_rep (its:List Value) : ∀ (k:Nat) (acc:List Value),
    List.foldl (fun x1 x2=>x1++x2) acc.toArray (List.replicate k its.toArray)=(acc++(List.replicate k its).flatten).toArray
  | 0,acc=>by simp
  | k+1,acc=>by
    have e:acc.toArray++its.toArray=(acc++its).toArray:=by simp
    have e2:(acc++its)++(List.replicate k its).flatten=acc++(List.replicate (k+1) its).flatten:=by
      rw [List.replicate_succ,List.flatten_cons,List.append_assoc]
    rw [← e2, ← foldl_rep its k (acc++its), ← e,List.replicate_succ,List.foldl_cons]
section
variable {X:Cx}{pins:List (Addr × Obj)}{σ:St}{H:Hp}{s:Shared}{l b:Addr}{xs ys zs:List V}
theorem Inv.lset {its its':List Value}{n:Nat}{f:Array Value→Array Value}{t':Nat}(I:Inv X pins σ H s)(hH:H l=some (.lst xs))
    (e:s.heap.get? l=some { cls:=.type "list",data:=.seq its.toArray n }) (hf:f its.toArray=its'.toArray) (hv:Vals ys its') (hz:ys.length≤sizeLine) :
    Inv X pins σ (upd H l (.lst ys)) { s with heap:=s.heap.update l (Obj.mapSeq f),toks:=t' }:=by
  have q:=PySem.IsL.update e f
  rw [hf] at q
  refine I.write (x:=l) (e:=l) (by rw [hH]; exact trivial) (.inl rfl) (fun b' u hb hu=>(Heap.get?_update_other s.heap (Obj.mapSeq f) (Ne.symm hb)).trans hu) ⟨_,q⟩ ?_
  exact ⟨hz,its',_,hv,q⟩
theorem Inv.lnew {its:List Value}{t':Nat}(I:Inv X pins σ H s)(hv:Vals ys its)(hz:ys.length≤sizeLine) :
    Inv X pins σ (upd H s.heap.objs.size (.lst ys)) { s with heap:=s.heap.push { cls:=.type "list",data:=.seq its.toArray },toks:=t' } :=
  I.laid (fun _ _ q=>Heap.get?_push_of_some _ q) (Nat.le_refl _) ⟨hz,its,0,hv,Heap.get?_push_size _ rfl⟩
theorem Inv.fresh (I:Inv X pins σ H s):H s.heap.objs.size=none:=I.hok.fresh (Nat.le_refl _)
theorem Inv.lstM (I:Inv X pins σ H s)(hH:H l=some (.lst xs)):xs.length≤sizeLine∧∃ (its:List Value) (n:Nat),Vals xs its∧xs.length=its.length∧s.heap.get? l=some { cls:=.type "list",data:=.seq its.toArray n }:=by
  obtain ⟨z,its,n,r,e⟩:=I.hok l _ hH
  exact ⟨z,its,n,r,r.length,e⟩
theorem notLongL {n:Nat}(h:n≤sizeLine):Builtin.List.listTooLong n=false:=by
  unfold Builtin.List.listTooLong
  exact decide_eq_false (by omega)
end
section
variable {X:Cx}
noncomputable def rAppend:V→List V→Hp→VK→Prop:=fun x vs H Q=>∃ l xs y,x=.ref l∧vs=[y]∧H l=some (.lst xs)∧xs.length<sizeLine∧Q .non (upd H l (.lst (xs++[y])))
theorem mt_append:MtM X "list.append" rAppend:=by
  intro pins s σ H x vs v us Q I rx rv h
  obtain ⟨l,xs,y,rfl,rfl,hH,hz,q⟩:=h
  cases rx
  obtain ⟨u,rfl,ru⟩:=rv.one
  obtain ⟨z,its,n,r,hl,e⟩:=I.lstM hH
  refine call_meets F.slot_list_append ⟨_,e,rfl⟩ F.entry_list_append (F.args_list_append_2 _ _) (PySem.list_append l its.toArray n u (by rw [List.size_toArray]; omega)) ⟨e, ?_⟩
  refine ⟨.non,_,I.lset (its':=its++[u]) hH e (by simp) (r.append (.cons ru .nil)) ?_,rfl,q⟩
  rw [List.length_append,List.length_singleton]
  omega
noncomputable def rExtend:V→List V→Hp→VK→Prop:=fun x vs H Q=>∃ l b xs zs,x=.ref l∧vs=[.ref b]∧H l=some (.lst xs)∧H b=some (.lst zs)∧xs.length+zs.length≤sizeLine∧Q .non (upd H l (.lst (xs++zs)))
theorem mt_extend:MtM X "list.extend" rExtend:=by
  intro pins s σ H x vs v us Q I rx rv h
  obtain ⟨l,b,xs,zs,rfl,rfl,hH,hB,hz,q⟩:=h
  cases rx
  obtain ⟨u,rfl,ru⟩:=rv.one
  cases ru
  obtain ⟨z,its,n,r,hl,e⟩:=I.lstM hH
  obtain ⟨z2,its2,n2,r2,hl2,e2⟩:=I.lstM hB
  have hsz:its.toArray.size+its2.toArray.size≤sizeLine:=by rw [List.size_toArray,List.size_toArray]; omega
  have hlong : ¬ (!its.toArray.isEmpty && Builtin.List.listTooLong (its.toArray.size+its2.toArray.size))=true:=by
    rw [notLongL hsz,Bool.and_false]
    exact Bool.false_ne_true
  refine call_meets F.slot_list_extend ⟨_,e,rfl⟩ F.entry_list_extend (F.args_list_extend_2 _ _)
    (AutoSeq1.list_extend_list_list_0 l its.toArray n b its2.toArray n2 hlong (by rw [List.size_toArray]; omega) (by omega)) ⟨e,e2, ?_⟩
  refine ⟨.non,_,I.lset (its':=its++its2) hH e (by simp) (r.append r2) ?_,rfl,q⟩
  rw [List.length_append]
  omega
noncomputable def rClear:V→List V→Hp→VK→Prop:=fun x vs H Q=>∃ l xs,x=.ref l∧vs=[]∧H l=some (.lst xs)∧Q .non (upd H l (.lst []))
theorem mt_clear:MtM X "list.clear" rClear:=by
  intro pins s σ H x vs v us Q I rx rv h
  obtain ⟨l,xs,rfl,rfl,hH,q⟩:=h
  cases rx
  have hus:=rv.zero
  subst hus
  obtain ⟨z,its,n,r,hl,e⟩:=I.lstM hH
  refine call_meets F.slot_list_clear ⟨_,e,rfl⟩ F.entry_list_clear (F.args_list_clear_1 _) (AutoSeq1.list_clear_list_0 l its.toArray n (by rw [List.size_toArray]; omega)) ⟨e, ?_⟩
  exact ⟨.non,_,I.lset (its':=[]) (ys:=[]) hH e rfl .nil (Nat.zero_le _),rfl,q⟩
noncomputable def rRep:R2:=fun x y H Q=>∃ l k xs,x=.ref l∧y=.int k∧H l=some (.lst xs)∧-(2 ^ 63)≤k∧k<2 ^ 63∧xs.length * k.toNat≤sizeLine ∧
  ∀ p,H p=none→Q (.ref p) (upd H p (.lst (List.replicate k.toNat xs).flatten))
theorem len_rep {α:Type}(xs:List α)(k:Nat):(List.replicate k xs).flatten.length=k * xs.length:=by
  induction k with
  | zero=>simp
  | succ k ih=>rw [List.replicate_succ,List.flatten_cons,List.length_append,ih,Nat.succ_mul,Nat.add_comm]
theorem op_rep:OpR X (binaryOp .Mult) rRep:=by
  intro pins s σ H x y v u Q I rx ry h
  obtain ⟨l,k,xs,rfl,rfl,hH,h1,h2,hz,q⟩:=h
  cases rx
  obtain ⟨t,rfl⟩:=ry
  obtain ⟨z,its,n,r,hl,e⟩:=I.lstM hH
  have hlen:its.toArray.size * k.toNat≤sizeLine:=by rw [List.size_toArray, ← hl]; exact hz
  have hcap : ¬ its.toArray.size * k.toNat > (2 ^ 63 - 1) / 8:=by
    have:(sizeLine:Nat)≤(2 ^ 63 - 1) / 8:=by decide
    omega
  have hfit : ¬ (!Builtin.List.listFitsIndex k)=true:=by
    rw [fitsIndex_both h1 h2]
    exact Bool.false_ne_true
  have hlong : ¬ Builtin.List.listTooLong (its.toArray.size * k.toNat)=true:=by
    rw [notLongL hlen]
    exact Bool.false_ne_true
  have hnew:List.foldl (fun x1 x2=>x1++x2) #[] (List.replicate (if its.toArray.isEmpty=true then 0 else k.toNat) its.toArray)=(List.replicate k.toNat its).flatten.toArray:=by
    have f0 : ∀ m:Nat,List.foldl (fun x1 x2=>x1++x2) #[] (List.replicate m its.toArray)=(List.replicate m its).flatten.toArray:=fun m=>by
      have:=foldl_rep its m []
      rw [List.nil_append] at this
      exact this
    rw [f0]
    cases its with
    | nil=>simp
    | cons a r'=>rw [if_neg (by simp)]
  refine wpAny_binaryOp_repeat_ref (T:="list") (U:="int") (by decide) ⟨_,e,rfl⟩ (fun s'=>typeIs_int s' k t) noFill_list_mul F.fills_int_mul F.slot_int_rmul repeat_list F.slot_int_index.lookup
    (call_meets F.slot_int_rmul (typeIs_int s k t) F.entry_int_rmul (F.args_int_rmul_2 _ _) (int___rmul___int_list k t l its.toArray n)
      ⟨e,rfl,⟨_,e,rfl⟩,call_meets F.slot_list_mul ⟨_,e,rfl⟩ F.entry_list_mul (F.args_list_mul_2 _ _) (AutoListH.list___mul___list_int_3 l its.toArray n k t hfit hcap hlong) ⟨e, ?_⟩⟩)
  rw [hnew]
  exact ⟨.ref _,_,I.lnew (t':=s.toks) (r.rep k.toNat) (by rw [len_rep,Nat.mul_comm]; exact hz),rfl,q _ I.fresh⟩
end
section
variable {prog:Program}{w:World}{A:Around}{E:Value→Shared→Prop}{s:Shared}
end
section
variable {X:Cx}
end
end L2
namespace Att
open PySem PySem.W PySem.Calls PyProof.Rows
theorem ints_of_wellAll {P:Params}{h:Heap} : ∀ (ns:List Int) (vs:List Value),WellAll P h vs (ns.map WData.int)→IntsAre vs ns:=by
  intro ns
  induction ns with
  | nil =>
    intro vs w
    rw [List.map_nil] at w
    cases w
    exact .nil
  | cons n ns ih =>
    intro vs w
    rw [List.map_cons] at w
    cases w with
    | cons a b =>
      cases a
      exact .cons _ _ (ih _ b)
theorem script_of {l:OpenLaw}{n:Nat}(hn:l.most=some n){P:Params}{h:Heap}{args:List WData}{vals:List Value}
    (hpre:l.row.toRowW.claim.pre args=true) (hwl:WellAll P h vals args) :
    ∃ a vs ns,vals=[Value.ref a]∧args=[WData.list (ns.map WData.int)]∧h.get? a=some { cls:=.type "list",data:=.seq vs.toArray }∧IntsAre vs ns∧ns.length≤n:=by
  have hsh:WShape.hasAll [] args [.list .int]=true:=(pre_splitW hpre).1
  have hc:l.pre.holds [] { args:=args }=true:=(pre_splitW hpre).2
  obtain ⟨d,r,rfl,h1,h2⟩:=hasAllW_cons hsh
  obtain rfl:=hasAllW_nil h2
  obtain ⟨xs,rfl,h3⟩:=hasW_list h1
  obtain ⟨ns,rfl⟩:=items_int h3
  have hlen:ns.length≤n:=by
    unfold OpenLaw.pre at hc
    have h4:(WTm.not (.lt (.lit (.int (n:Int))) (.len (.arg 0)))).holds [] { args:=[.list (ns.map .int)] }=true:=by
      have h4:=(holds_andW hc).1
      rw [hn] at h4
      exact h4
    have h5:=condW_of h4 (w_not (w_lt w_lit (w_len_list (w_arg rfl))))
    rw [List.length_map] at h5
    refine Nat.le_of_not_lt fun q=>?_
    have q':(n:Int)<((ns.length:Nat):Int):=by omega
    first
      | (rw [decide_eq_true q'] at h5; exact absurd h5 (by decide))
      | (simp at h5; omega)
  cases hwl with
  | cons w1 w2 =>
    cases w2
    cases w1 with
    | list ho hall=>exact ⟨_,_,ns,rfl,rfl,ho,ints_of_wellAll ns _ hall,hlen⟩
theorem post_true (l:OpenLaw)(args:List WData):l.row.toRowW.claim.post args (.bool true) args=true :=
  postW_of (r:=l.row.toRowW) (X:=(true == true))
    (show WShape.has [] (.bool true) .bool=true by first | rfl | decide | simp [WShape.has,WShape.arms,WShape.armsAll])
    (show (WTm.eq .res (.lit (.bool true))).value [] { args:=args,res:=some (.bool true),after:=args }=some (.bool (true == true)) from w_eq_bool (w_res rfl) w_lit) rfl
theorem attach_call {l:OpenLaw}{n:Nat}{q:Program}{loose:List Str}{XP:(Str→Option Value)→Heap→Prop}{YP:World→Heap→Prop}{d:DefRec}
    (hn:l.most=some n) (hdf:d.params.defaults=[])
    (call : ∀ (w:World) (s₀ s₁:Shared) (mg mb:Str→Option Value) (fa:Addr) (o:Obj) (pm cd doc:Value) (a:Addr) (vs:List Value) (ns:List Int),
      Ground q loose [] XP w s₀ mg mb s₁.heap→YP w s₁.heap →
      s₁.heap.get? fa=some o→o.data=.func (docDef d.name d.params d.body d.scope pm cd doc)→s₁.heap.CodeRec cd d.name→mg d.name=some (.ref fa) →
      s₁.heap.get? a=some { cls:=.type "list",data:=.seq vs.toArray }→IntsAre vs ns→ns.length≤n→s₁.gens=#[] →
      codeAny (model l.prog w) callerA (.call (.ref fa) ⟨[.ref a],[]⟩) (fun r s'=>r=.ok (.ret (.bool true))∧OldK s₁.heap s'.heap∧s'.os=s₁.os∧AllBare s'.gens) s₁) :
    WalkO q loose XP YP l.row.toRowW d [] (fun f vs=>PySem.call f vs):=by
  intro w s₀ s₁ mg mb G Y fa o pm cd doc dV kV ho hd hcd hD hmg hg args vals as hpre hlay hrd hwl hlo
  obtain rfl:dV=.none:=Dflts.none hD hdf
  obtain rfl:kV=.none:=Dflts.noKw hD
  obtain ⟨a,vs,ns,rfl,rfl,hobj,hints,hlen⟩:=script_of hn hpre hwl
  refine enter_call (codeAny_mono (call w s₀ s₁ mg mb fa o pm cd doc a vs ns G Y ho (fd_plain hd) hcd hmg hobj hints hlen hg) fun r s' hq=>?_)
  obtain ⟨rfl,h2,h3,h4⟩:=hq
  exact ⟨.inl ⟨.bool true,.bool true,[],rfl,fun _=>rfl,.bool true,post_true l _,fun _=>⟨List.Pairwise.nil,fun _ hm=>(nomatch hm)⟩⟩,h2,h3,h4⟩
section
variable {prog:Program}{w:World}{A:Around}{E:Value→Shared→Prop}{s:Shared}{K:Frag}
end
end Att
namespace L2
open PySem PySem.Spec PyProof.Rows
theorem vals_ints : ∀ {vs:List Value} {ns:List Int},IntsAre vs ns→Vals (ns.map V.int) vs
  | _,_,.nil=>.nil
  | _,_,.cons n t h=>.cons ⟨t,rfl⟩ (vals_ints h)
noncomputable def Only (H:Hp):Prop:=∀ b,H b=none∨∃ o xs,H b=some (.frz o (.lst xs))
theorem law_call {P:Program}{w:World}{K:PySem.W.Frag}{mg mb:Str→Option Value}{CX:CXT}{k:Nat}{fa a:Addr}{fd:FuncData}{x:Str}{sp:Sp}{s₁:Shared}{vs:List Value}{ns:List Int}
    (KX:K.In s₁.heap) (hns:s₁.heap.Ns mainGlobals mg) (hb:s₁.heap.Ns builtinsNs mb) (hbb : ∀ x:Str,x≠"__name__"→mb x=bootBuiltins x) (hlim:s₁.heap.NoLimit) (hg:s₁.gens=#[])
    (ha:s₁.heap.get? a=some { cls:=.type "list",data:=.seq vs.toArray }) (hi:IntsAre vs ns) (hl:ns.length≤sizeLine) (hr:Room k callerA)
    (F : ∀ base:Heap,K.In base→base.Ns mainGlobals mg→FnOk P w K mg base CX k fa fd [x] sp) (hbind : ∀ (s:Shared) (u:Value),BindsTo s fd ⟨[u],[]⟩ [(x,u)])
    (hsp : ∀ H:Hp,Only H→SqL K H a (ns.map V.int)→sp [.ref a] H (fun v _=>v=.bl true) fun _ _ _=>False)
    (hCX : ∀ H e s',CX [] H s₁ (fun _ _ _=>False) e s'→False) :
    codeAny (model P w) callerA (.call (.ref fa) ⟨[.ref a],[]⟩) (fun r s'=>r=.ok (.ret (.bool true))∧OldK s₁.heap s'.heap∧s'.os=s₁.os∧AllBare s'.gens) s₁:=by
  have rv:=vals_ints hi
  have lenV:=hi.length
  have core : ∀ H:Hp,Only H→SqL K H a (ns.map V.int)→HOk P w H s₁.heap→(∀ b,H b≠none→b=a)→(H a≠none→K.lookup a=none) →
      codeAny (model P w) callerA (.call (.ref fa) ⟨[.ref a],[]⟩) (fun r s'=>r=.ok (.ret (.bool true))∧OldK s₁.heap s'.heap∧s'.os=s₁.os∧AllBare s'.gens) s₁:=by
    intro H hO hS hok hA hK
    have base_of : ∀ {b:Addr} {o:Obj},s₁.heap.get? b=some o→H b=none→(hidT s₁.heap H).get? b=some o:=fun e n=>hidT_get e n
    have noA : ∀ {b:Addr} {o:Obj} {es:Array DictEntry} {ep:Nat},s₁.heap.get? b=some o→o.data=.dict es ep→H b=none:=fun {b o es ep} e d=>by
      cases q:H b with
      | none=>rfl
      | some u =>
        have e':b=a:=hA b (by rw [q]; simp)
        subst e'
        rw [ha] at e; cases e
        have d':Data.seq vs.toArray _=Data.dict es ep:=d
        cases d'
    have nsK : ∀ {b:Addr} {m:Str→Option Value},s₁.heap.Ns b m→(hidT s₁.heap H).Ns b m:=fun {b m} ⟨o,es,ep,e,d,r⟩=>⟨o,es,ep,base_of e (noA e d),d,r⟩
    have hKb:K.In (hidT s₁.heap H):=fun b o e=>base_of (KX b o e) (by
      cases q:H b with
      | none=>rfl
      | some u =>
        have e':b=a:=hA b (by rw [q]; simp)
        subst e'
        rw [hK (by rw [q]; simp)] at e; cases e)
    have hM:Mod K mg (hidT s₁.heap H):=⟨hKb,nsK hns,⟨mb,nsK hb,hbb⟩,let ⟨mc,h1,h2⟩:=hlim; ⟨mc,nsK h1,h2⟩⟩
    have e0:Env0 P w K mg (hidT s₁.heap H) callerA [] s₁ H:=⟨rfl,hM,fun b o e=>of_hidT e,Nat.le_of_eq (hidT_size _ _),trivial,fun b hb=>absurd (show b∈([]:List Addr) from hb) (by simp),hok,.of_eq hg⟩
    refine codeAny_mono ((F _ hKb (nsK hns)).run callerA [] s₁ H ⟨[.ref a],[]⟩ [.ref a] [.ref a] _ _ hr e0 (hbind s₁ (.ref a)) (.cons rfl .nil) (hsp H hO hS)) fun r s' h=>?_
    cases r with
    | error e=>exact (hCX H e s' h).elim
    | ok fl =>
      cases fl with
      | next=>exact False.elim h
      | brk=>exact False.elim h
      | cont=>exact False.elim h
      | ret u =>
        obtain ⟨v,H',os,bare,un,hok',r',q⟩:=h
        have q':v=.bl true:=q
        subst q'
        obtain rfl:u=Value.bool true:=r'
        refine ⟨rfl,OldK.of_keep fun b o e=>?_,os,bare⟩
        cases q:H b with
        | none=>exact un.keep b o e q (by intro z; exact absurd (show b∈([]:List Addr) from z) (by simp)) (by simp)
        | some u =>
          rcases hO b with z | ⟨ob,xs,z⟩
          · rw [q] at z; cases z
          · have z2:=un.frzs b ob _ z
            obtain ⟨e1,_⟩:=hok b _ z
            obtain ⟨e2,_⟩:=hok' b _ z2
            rw [e] at e1; cases e1
            exact e2
  cases hk:K.lookup a with
  | some o =>
    have e:=KX a o hk
    rw [ha] at e
    cases e
    refine core (fun _=>none) (fun _=>.inl rfl) (.inr ⟨_,vs.toArray,_,hk,rfl,rfl,rfl,by rw [List.size_toArray,lenV]; exact hl,by simpa using rv⟩) (fun b u z=>by have z':(none:Option HO)=some u:=z; cases z') (fun b z=>absurd rfl z) fun z=>absurd rfl z
  | none =>
    refine core (fun b=>if b=a then some (.frz { cls:=.type "list",data:=.seq vs.toArray } (.lst (ns.map V.int))) else none) (fun b=>?_) (.inl (.inr ⟨{ cls:=.type "list",data:=.seq vs.toArray },if_pos rfl⟩)) (fun b u z=>?_) (fun b z=>?_) fun _=>hk
    · by_cases hb:b=a
      · exact .inr ⟨_,_,if_pos hb⟩
      · exact .inl (if_neg hb)
    · by_cases hb:b=a
      · have z':=(if_pos hb).symm.trans z
        cases z'
        subst hb
        exact ⟨ha,by rw [List.length_map]; exact hl,vs,_,rv,ha⟩
      · have z':=(if_neg hb).symm.trans z
        cases z'
    · by_cases hb:b=a
      · exact hb
      · exact absurd (if_neg hb) z
end L2
namespace L2
open PySem PySem.Spec PyProof.Rows
theorem walk_of {l:PySem.W.OpenLaw}{n k:Nat}{q:Program}{loose:List Str}{XP:(Str→Option Value)→Heap→Prop}{YP:World→Heap→Prop}{d:DefRec}{K:Params→PySem.W.Frag}{CX:World→CXT}{sp:World→Sp}{x:Str}
    (hn:l.most=some n) (hn2:n≤sizeLine) (hdf:d.params.defaults=[]) (hr:Room k callerA)
    (hY : ∀ (w:World) (h:Heap),YP w h→(K w.params).In h)
    (F : ∀ (w:World) (mg:Str→Option Value) (fa:Addr) (h:Heap),(K w.params).In h→h.Ns mainGlobals mg→mg d.name=some (.ref fa) →
      ∃ fd:FuncData,(∀ (s:Shared) (u:Value),BindsTo s fd ⟨[u],[]⟩ [(x,u)]) ∧
        ∀ base:Heap,(K w.params).In base→base.Ns mainGlobals mg→FnOk l.prog w (K w.params) mg base (CX w) k fa fd [x] (sp w))
    (hsp : ∀ (w:World) (H:Hp) (a:Addr) (ns:List Int),ns.length≤n→Only H→SqL (K w.params) H a (ns.map V.int)→sp w [.ref a] H (fun v _=>v=.bl true) fun _ _ _=>False)
    (hCX : ∀ (w:World) (H:Hp) (s:Shared) (e:Value) (s':Shared),CX w [] H s (fun _ _ _=>False) e s'→False) :
    PySem.W.WalkO q loose XP YP l.row.toRowW d [] (fun f vs=>PySem.call f vs):=by
  refine Att.attach_call hn hdf fun w s₀ s₁ mg mb fa o pm cd doc a vs ns G Y ho hd hcd hmg hobj hints hlen hg=>?_
  have KX:=hY w _ Y
  obtain ⟨fd,hb,hF⟩:=F w mg fa _ KX G.T.g hmg
  exact law_call KX G.T.g G.T.b G.T.builtins G.T.nolimit hg hobj hints (Nat.le_trans hlen hn2) hr hF hb (fun H hO hS=>hsp w H a ns hlen hO hS) fun H e s'=>hCX w H s₁ e s'
end L2
/- THE LAST THEOREM (shape; LID,My.* are yours):
   My.Adr: a structure of the addresses that your layer names (classes,functions); My.Txt K t: a structure (Prop) of the equations over K;
   My.txt_mk : {K} {implicit addresses ..} (e1:nsIn K mainGlobals "law"=some (some (.ref f))) (e2:K.lookup f=some ⟨oc,od,.func (fnOf "law" "law" params body scope dV kV doc pm an cdv ct),sl⟩) (e3:codeIn K cdv "law"=true) .. : ∃ t,My.Txt K t
set_option maxRecDepth 100000 in
set_option maxHeartbeats 0 in
theorem PySem.Challenge.cw_LID_holds:PySem.Challenge.rw_LID.Holds:=by
  w_on; o_law; k_head; (case hw=>w_witness2)
  k_fill
  refine L2.walk_of (l:=PySem.Challenge.rw_LID) (n:=63) (k:=40) (x:="script") (CX:=fun w=>..) (sp:=fun _=>My.sp_law) rfl (by decide) rfl ⟨rfl,by decide,by decide⟩ (fun w h Y=>PySem.W.kIn_of Y) ?F ?S ?C
  case F =>
    intro w mg fa h KX G hmg
    have T : ∃ t,My.Txt (L2.KOf KX) t:=by
      dsimp only [L2.KOf]
      refine' My.txt_mk ?e1 ?e2 ?e3 ..
      (case e1=>PySem.W.k_is)
      (case e2=>PySem.W.k_is)
      ..
    obtain ⟨t,T⟩:=T
    have e0:=hmg.symm.trans (PySem.W.mg_of KX G T.law)
    cases e0
    exact ⟨_,fun s u=>.of_eq rfl,fun base kb nb=>My.law_fn T kb nb⟩
  case S=>exact fun w H a ns hl hO hS=>..
  case C=>exact ..
(the tactic k_is has no namespace: write k_is) -/
namespace L2
open PySem PySem.Spec PyProof.Rows
noncomputable def inClass (s:Stmt)(j:Nat):Stmt:=match s with
  | .ClassDef _ _ _ body _ _ _ _ _ _ _=>body.getD j (.Pass ⟨0,0,0,0⟩)
  | _=>.Pass ⟨0,0,0,0⟩
noncomputable def defArgs (s:Stmt):Arguments:=match s with
  | .FunctionDef _ a _ _ _ _ _ _ _ _=>a
  | _=>{ posonlyargs:=[],args:=[],vararg:=none,kwonlyargs:=[],kw_defaults:=[],kwarg:=none,defaults:=[] }
noncomputable def defBody (s:Stmt):List Stmt:=match s with
  | .FunctionDef _ _ b _ _ _ _ _ _ _=>b
  | _=>[]
noncomputable def defScope (s:Stmt):Scope:=match s with
  | .FunctionDef _ _ _ _ _ _ sc _ _ _=>sc
  | _=>{ kind:=.function,names:=[],isGenerator:=false,isCoroutine:=false }
noncomputable abbrev CX0:CXT:=fun _ _ _ _ _ _=>False
noncomputable abbrev E0:XK:=fun _ _ _=>False
theorem pass0 {X:Cx}:Passes CX0 X E0:=fun _ _ _ _ _ _ _ h=>h.elim
structure Fun (K:PySem.W.Frag)(x qual:Str)(st:Stmt)(f:Addr)(fd:FuncData):Prop where
  ex : ∃ (oc:Value) (od:Option Addr) (kV doc pm:Value) (an:Option Addr) (cdv ct:Value) (osl:Array (Option Value)),
    fd=PySem.W.fnOf x qual (defArgs st) (defBody st) (defScope st) .none kV doc pm an cdv ct∧K.lookup f=some ⟨oc,od,.func fd,osl⟩∧PySem.W.codeIn K cdv qual=true
  kp:PySem.W.keepIn K (.ref f)=true
section
variable {P:Program}{w:World}{K:PySem.W.Frag}{mg:Str→Option Value}{base:Heap}
theorem Fun.ok {x qual:Str}{st:Stmt}{f:Addr}{fd:FuncData}{N ps:List Str}{k:Nat}{sp:Sp}(F:Fun K x qual st f fd)(S:FnScope N ps (defScope st))(len : ∀ vs H Q E,sp vs H Q E→vs.length=ps.length)
    (hbody : ∀ (cdv:Value) (A:Around) (outer:List Env) (s:Shared) (H:Hp) (vs:List V) (Q:VK) (E:XK),Room k (A.deeper (envOfC qual (defScope st) s.heap.objs.size f cdv))→sp vs H Q E →
      ∃ t,PSs (cxOf CX0 P w K mg base N qual (defScope st) f cdv A outer s H E).nox (defBody st) t∧t { nx:=fun _ H'=>Q .non H',rt:=Q } (start N vs) H):FnOk P w K mg base CX0 (k+1) f fd ps sp:=by
  obtain ⟨oc,od,kV,doc,pm,an,cdv,ct,osl,rfl,lk,hcd⟩:=F.ex
  refine fn_of lk hcd S len fun A outer s H vs Q E hr hsp=>?_
  obtain ⟨t,h,q⟩:=hbody cdv A outer s H vs Q E hr hsp
  exact ⟨t,h.nox,q⟩
theorem Fun.binds {x qual:Str}{st:Stmt}{f:Addr}{fd:FuncData}{ps:List Str}(F:Fun K x qual st f fd)
    (h : ∀ (kV doc pm:Value) (an:Option Addr) (cdv ct:Value) (us:List Value),us.length=ps.length→bindArgs (PySem.W.fnOf x qual (defArgs st) (defBody st) (defScope st) .none kV doc pm an cdv ct) ⟨us,[]⟩=pure (ps.zip us)):Binds K fd ps []:=by
  obtain ⟨oc,od,kV,doc,pm,an,cdv,ct,osl,rfl,lk,hcd⟩:=F.ex
  exact .all (h kV doc pm an cdv ct)
theorem fun_mk {x qual:Str}{st:Stmt}{f:Addr}{oc:Value}{od an:Option Addr}{osl:Array (Option Value)}{kV doc pm cdv ct:Value}(l:K.lookup f=some ⟨oc,od,.func (PySem.W.fnOf x qual (defArgs st) (defBody st) (defScope st) .none kV doc pm an cdv ct),osl⟩)
    (c:PySem.W.codeIn K cdv qual=true) (k:PySem.W.keepIn K (.ref f)=true):Fun K x qual st f (PySem.W.fnOf x qual (defArgs st) (defBody st) (defScope st) .none kV doc pm an cdv ct):=⟨⟨oc,od,kV,doc,pm,an,cdv,ct,osl,rfl,l,c⟩,k⟩
end
theorem hu_of {A:Around}{k:Nat}(hr:Room k A):A.units+1<cLine:=Nat.lt_of_le_of_lt (Nat.add_le_add_left (by decide : 1≤64) _) hr.units
section
variable {X:Cx}
end
noncomputable def Same (H H':Hp):Prop:=∀ b o,H b=some o→H' b=some o
theorem Same.refl (H:Hp):Same H H:=fun _ _ h=>h
theorem Same.trans {H H1 H2:Hp}(a:Same H H1)(b:Same H1 H2):Same H H2:=fun c o h=>b c o (a c o h)
theorem Same.free {H H':Hp}(e:Same H H'){l:Addr}(h:H' l=Option.none):H l=Option.none:=by
  cases q:H l with
  | none=>rfl
  | some o =>
    rw [e l o q] at h
    cases h
theorem Same.seq {K:PySem.W.Frag}{H H':Hp}{a:Addr}{xs:List V}(e:Same H H')(h:SqL K H a xs):SqL K H' a xs:=by
  rcases h with (h | ⟨o,h⟩) | h
  · exact .inl (.inl (e _ _ h))
  · exact .inl (.inr ⟨o,e _ _ h⟩)
  · exact .inr h
end L2
end
section
namespace DL
open PySem L2
inductive D where
  | non
  | bl (b:Bool)
  | int (i:Int)
  | str (x:List Nat)
  | tup (ds:List D)
  | lst (ds:List D)
  | ob (c:Nat) (ks:List Nat) (ds:List D)
  | dct (ks:List (List Nat)) (ds:List D)
  | exc (c:Nat)
  deriving Inhabited
noncomputable abbrev mkS (x:List Nat):Str:=⟨x.toArray⟩
theorem mkS_inj {x y:List Nat}(h:mkS x=mkS y):x=y:=by
  have:=congrArg (fun s:Str=>s.cps.toList) h
  simpa using this
theorem mkS_len (x:List Nat):(mkS x).length=x.length:=by simp [Str.length]
structure Tx where
  K:PySem.W.Frag
  cl:Nat→Option Addr
  fld:Nat→Str
noncomputable def LsA (T:Tx)(A:Addr→Prop)(H:Hp)(a:Addr)(xs:List V):Prop :=
  (Rd H a (.lst xs)∧A a) ∨
    ∃ (o:Obj) (its:Array Value) (n:Nat),T.K.lookup a=some o∧o.cls=.type "list"∧o.dict=none∧o.data=.seq its n∧its.size≤sizeLine∧Vals xs its.toList
noncomputable def XO (a C:Addr):HO:=.ext fun h=>∃ o:Obj,h.get? a=some o∧o.cls=.ref C∧o.dict=none∧∃ vs,o.data=.fields vs
mutual
noncomputable def Rep (T:Tx)(A:Addr→Prop)(H:Hp):D→V→Prop
  | .non,v=>v=.non
  | .bl b,v=>v=.bl b
  | .int i,v=>v=.int i
  | .str x,v=>v=.str (mkS x)
  | .tup ds,v=>∃ a xs,v=.ref a∧SqT T.K H a xs∧RepL T A H ds xs
  | .lst ds,v=>∃ a xs,v=.ref a∧LsA T A H a xs∧RepL T A H ds xs
  | .ob c ks ds,v=>∃ a C dx fs,v=.ref a∧A a∧T.cl c=some C∧H a=some (.ins C dx fs)∧fs.map (·.1)=ks.map T.fld∧RepL T A H ds (fs.map (·.2))
  | .dct ks ds,v=>∃ a kvs,v=.ref a∧A a∧H a=some (.dK kvs)∧kvs.map (·.1)=ks.map (fun k=>(Sum.inr (mkS k):Key))∧RepL T A H ds (kvs.map (·.2))
  | .exc c,v=>∃ a C,v=.ref a∧T.cl c=some C∧H a=some (XO a C)
noncomputable def RepL (T:Tx)(A:Addr→Prop)(H:Hp):List D→List V→Prop
  | [],xs=>xs=[]
  | d::ds,xs=>∃ x r,xs=x::r∧Rep T A H d x∧RepL T A H ds r
end
noncomputable def Mu:Option HO→Prop
  | some (.lst _)=>True
  | some (.ins _ _ _)=>True
  | some (.dK _)=>True
  | _=>False
theorem LsA.sq {T:Tx}{A:Addr→Prop}{H:Hp}{a:Addr}{xs:List V}(h:LsA T A H a xs):SqL T.K H a xs:=by
  rcases h with h | h
  · exact .inl h.1
  · exact .inr h
section
variable {T:Tx}{A A' O:Addr→Prop}{H H':Hp}
structure Kp (A A' O:Addr→Prop)(H H':Hp):Prop where
  keep : ∀ b o,H b=some o→¬ O b→H' b=some o
  mu : ∀ b,O b→Mu (H b)
  cl : ∀ b o,A b→H b=some o→¬ O b
  to : ∀ b o,A b→H b=some o→A' b
theorem Kp.sqT (k:Kp A A' O H H'){a:Addr}{xs:List V}(h:SqT T.K H a xs):SqT T.K H' a xs:=by
  rcases h with (h | ⟨o,h⟩) | h
  · exact .inl (.inl (k.keep _ _ h fun z=>by have:=k.mu _ z; rw [h] at this; exact this))
  · exact .inl (.inr ⟨o,k.keep _ _ h fun z=>by have:=k.mu _ z; rw [h] at this; exact this⟩)
  · exact .inr h
theorem Kp.ls (k:Kp A A' O H H'){a:Addr}{xs:List V}(h:LsA T A H a xs):LsA T A' H' a xs:=by
  rcases h with ⟨h | ⟨o,h⟩,z⟩ | h
  · exact .inl ⟨.inl (k.keep _ _ h (k.cl _ _ z h)),k.to _ _ z h⟩
  · exact .inl ⟨.inr ⟨o,k.keep _ _ h (k.cl _ _ z h)⟩,k.to _ _ z h⟩
  · exact .inr h
mutual
theorem Rep.kp (k:Kp A A' O H H') : ∀ {d:D} {v:V},Rep T A H d v→Rep T A' H' d v
  | .non,_,h=>by simp only [Rep] at h ⊢; exact h
  | .bl _,_,h=>by simp only [Rep] at h ⊢; exact h
  | .int _,_,h=>by simp only [Rep] at h ⊢; exact h
  | .str _,_,h=>by simp only [Rep] at h ⊢; exact h
  | .tup ds,_,h=>by
    simp only [Rep] at h ⊢
    obtain ⟨a,xs,e,q,r⟩:=h
    exact ⟨a,xs,e,k.sqT q,RepL.kp k r⟩
  | .lst ds,_,h=>by
    simp only [Rep] at h ⊢
    obtain ⟨a,xs,e,q,r⟩:=h
    exact ⟨a,xs,e,k.ls q,RepL.kp k r⟩
  | .ob c ks ds,_,h=>by
    simp only [Rep] at h ⊢
    obtain ⟨a,C,dx,fs,e,z,c,q,n,r⟩:=h
    exact ⟨a,C,dx,fs,e,k.to _ _ z q,c,k.keep _ _ q (k.cl _ _ z q),n,RepL.kp k r⟩
  | .dct ks ds,_,h=>by
    simp only [Rep] at h ⊢
    obtain ⟨a,kvs,e,z,q,n,r⟩:=h
    exact ⟨a,kvs,e,k.to _ _ z q,k.keep _ _ q (k.cl _ _ z q),n,RepL.kp k r⟩
  | .exc c,_,h=>by
    simp only [Rep] at h ⊢
    obtain ⟨a,C,e,c,q⟩:=h
    exact ⟨a,C,e,c,k.keep _ _ q fun z=>by have:=k.mu _ z; rw [q] at this; exact this⟩
theorem RepL.kp (k:Kp A A' O H H') : ∀ {ds:List D} {vs:List V},RepL T A H ds vs→RepL T A' H' ds vs
  | [],_,h=>by simp only [RepL] at h ⊢; exact h
  | d::ds,_,h=>by
    simp only [RepL] at h ⊢
    obtain ⟨x,r,e,h1,h2⟩:=h
    exact ⟨x,r,e,Rep.kp k h1,RepL.kp k h2⟩
end
theorem Kp.same (s:Same H H')(hA : ∀ b o,A b→H b=some o→A' b):Kp A A' (fun _=>False) H H':=⟨fun b o h _=>s b o h,fun _ z=>z.elim,fun _ _ _ _ z=>z,hA⟩
theorem Rep.mono (s:Same H H')(hA : ∀ b,A b→A' b){d:D}{v:V}(h:Rep T A H d v):Rep T A' H' d v:=h.kp (Kp.same s fun b _ z _=>hA b z)
theorem RepL.mono (s:Same H H')(hA : ∀ b,A b→A' b){d:List D}{v:List V}(h:RepL T A H d v):RepL T A' H' d v:=h.kp (Kp.same s fun b _ z _=>hA b z)
theorem RepL.nil:RepL T A H [] []:=by simp only [RepL]
theorem RepL.cons {d:D}{v:V}{ds:List D}{vs:List V}(h:Rep T A H d v)(r:RepL T A H ds vs):RepL T A H (d::ds) (v::vs):=by
  simp only [RepL]; exact ⟨v,vs,rfl,h,r⟩
theorem RepL.nil_ {vs:List V}(h:RepL T A H [] vs):vs=[]:=by simpa only [RepL] using h
theorem RepL.cons_ {d:D}{ds:List D}{vs:List V}(h:RepL T A H (d::ds) vs) : ∃ x r,vs=x::r∧Rep T A H d x∧RepL T A H ds r:=by simpa only [RepL] using h
theorem RepL.length : ∀ {ds:List D} {vs:List V},RepL T A H ds vs→ds.length=vs.length
  | [],_,h=>by rw [h.nil_]; rfl
  | d::ds,_,h=>by
    obtain ⟨x,r,rfl,_,h2⟩:=h.cons_
    simp [RepL.length h2]
theorem RepL.get : ∀ {ds:List D} {vs:List V} {i:Nat} {d:D},RepL T A H ds vs→ds[i]?=some d→∃ v,vs[i]?=some v∧Rep T A H d v
  | [],_,_,_,h,e=>by simp at e
  | d::ds,_,0,_,h,e=>by
    obtain ⟨x,r,rfl,h1,_⟩:=h.cons_
    simp at e; subst e
    exact ⟨x,rfl,h1⟩
  | d::ds,_,i+1,c,h,e=>by
    obtain ⟨x,r,rfl,_,h2⟩:=h.cons_
    obtain ⟨v,e1,e2⟩:=RepL.get (i:=i) (d:=c) h2 (by simpa using e)
    exact ⟨v,by simpa using e1,e2⟩
theorem RepL.getV : ∀ {ds:List D} {vs:List V} {i:Nat} {v:V},RepL T A H ds vs→vs[i]?=some v→∃ d,ds[i]?=some d∧Rep T A H d v
  | [],_,_,_,h,e=>by rw [h.nil_] at e; simp at e
  | d::ds,_,0,_,h,e=>by
    obtain ⟨x,r,rfl,h1,_⟩:=h.cons_
    simp at e; subst e
    exact ⟨d,rfl,h1⟩
  | d::ds,_,i+1,c,h,e=>by
    obtain ⟨x,r,rfl,_,h2⟩:=h.cons_
    obtain ⟨v,e1,e2⟩:=RepL.getV (i:=i) (v:=c) h2 (by simpa using e)
    exact ⟨v,by simpa using e1,e2⟩
theorem RepL.append : ∀ {ds es:List D} {vs us:List V},RepL T A H ds vs→RepL T A H es us→RepL T A H (ds++es) (vs++us)
  | [],_,_,_,h,g=>by rw [h.nil_]; simpa using g
  | d::ds,_,_,_,h,g=>by
    obtain ⟨x,r,rfl,h1,h2⟩:=h.cons_
    exact .cons h1 (RepL.append h2 g)
theorem RepL.take : ∀ {ds:List D} {vs:List V} (n:Nat),RepL T A H ds vs→RepL T A H (ds.take n) (vs.take n)
  | _,_,0,_=>by simp only [List.take_zero]; exact .nil
  | [],_,n+1,h=>by rw [h.nil_]; simp only [List.take_nil]; exact .nil
  | d::ds,_,n+1,h=>by
    obtain ⟨x,r,rfl,h1,h2⟩:=h.cons_
    exact .cons h1 (RepL.take n h2)
theorem RepL.drop : ∀ {ds:List D} {vs:List V} (n:Nat),RepL T A H ds vs→RepL T A H (ds.drop n) (vs.drop n)
  | _,_,0,h=>by simpa using h
  | [],_,n+1,h=>by rw [h.nil_]; simp only [List.drop_nil]; exact .nil
  | d::ds,_,n+1,h=>by
    obtain ⟨x,r,rfl,h1,h2⟩:=h.cons_
    exact RepL.drop n h2
theorem RepL.set : ∀ {ds:List D} {vs:List V} (n:Nat) {d:D} {v:V},RepL T A H ds vs→Rep T A H d v→RepL T A H (ds.set n d) (vs.set n v)
  | [],_,_,_,_,h,_=>by rw [h.nil_]; exact .nil
  | d::ds,_,0,_,_,h,g=>by
    obtain ⟨x,r,rfl,h1,h2⟩:=h.cons_
    exact .cons g h2
  | d::ds,_,n+1,_,_,h,g=>by
    obtain ⟨x,r,rfl,h1,h2⟩:=h.cons_
    exact .cons h1 (RepL.set n h2 g)
theorem Rep.lst_ {ds:List D}{v:V}(h:Rep T A H (.lst ds) v) : ∃ a xs,v=.ref a∧LsA T A H a xs∧RepL T A H ds xs:=by simpa only [Rep] using h
theorem Rep.tup_ {ds:List D}{v:V}(h:Rep T A H (.tup ds) v) : ∃ a xs,v=.ref a∧SqT T.K H a xs∧RepL T A H ds xs:=by simpa only [Rep] using h
theorem Rep.ob_ {c:Nat}{ks:List Nat}{ds:List D}{v:V}(h:Rep T A H (.ob c ks ds) v) : ∃ a C dx fs,v=.ref a∧A a∧T.cl c=some C∧H a=some (.ins C dx fs)∧fs.map (·.1)=ks.map T.fld∧RepL T A H ds (fs.map (·.2)):=by simpa only [Rep] using h
theorem Rep.dct_ {ks:List (List Nat)}{ds:List D}{v:V}(h:Rep T A H (.dct ks ds) v) : ∃ a kvs,v=.ref a∧A a∧H a=some (.dK kvs)∧kvs.map (·.1)=ks.map (fun k=>(Sum.inr (mkS k):Key))∧RepL T A H ds (kvs.map (·.2)):=by simpa only [Rep] using h
theorem Rep.exc_ {c:Nat}{v:V}(h:Rep T A H (.exc c) v) : ∃ a C,v=.ref a∧T.cl c=some C∧H a=some (XO a C):=by simpa only [Rep] using h
theorem Rep.int_ {i:Int}{v:V}(h:Rep T A H (.int i) v):v=.int i:=by simpa only [Rep] using h
theorem Rep.str_ {i:List Nat}{v:V}(h:Rep T A H (.str i) v):v=.str (mkS i):=by simpa only [Rep] using h
theorem Rep.bl_ {i:Bool}{v:V}(h:Rep T A H (.bl i) v):v=.bl i:=by simpa only [Rep] using h
theorem Rep.non_ {v:V}(h:Rep T A H .non v):v=.non:=by simpa only [Rep] using h
theorem Rep.int (i:Int):Rep T A H (.int i) (.int i):=by simp only [Rep]
theorem Rep.str (i:List Nat):Rep T A H (.str i) (.str (mkS i)):=by simp only [Rep]
theorem Rep.bl (i:Bool):Rep T A H (.bl i) (.bl i):=by simp only [Rep]
theorem Rep.non:Rep T A H .non .non:=by simp only [Rep]
theorem Rep.lst {a:Addr}{xs:List V}{ds:List D}(h:LsA T A H a xs)(r:RepL T A H ds xs):Rep T A H (.lst ds) (.ref a):=by simp only [Rep]; exact ⟨a,xs,rfl,h,r⟩
theorem Rep.tup {a:Addr}{xs:List V}{ds:List D}(h:SqT T.K H a xs)(r:RepL T A H ds xs):Rep T A H (.tup ds) (.ref a):=by simp only [Rep]; exact ⟨a,xs,rfl,h,r⟩
theorem same_new {H:Hp}{p:Addr}(h:H p=none)(o:HO):Same H (upd H p o):=fun b u q=>by rw [upd_ne (ne_of_none q h)]; exact q
theorem Rep.newT {ds:List D}{vs:List V}(r:RepL T A H ds vs){p:Addr}(hp:H p=none):Rep T A (upd H p (.tup vs)) (.tup ds) (.ref p) :=
  .tup (SqT.of upd_same) (r.mono (same_new hp _) fun _ z=>z)
theorem Rep.newL {ds:List D}{vs:List V}(r:RepL T A H ds vs){p:Addr}(hp:H p=none)(a:A p):Rep T A (upd H p (.lst vs)) (.lst ds) (.ref p) :=
  .lst (.inl ⟨.inl upd_same,a⟩) (r.mono (same_new hp _) fun _ z=>z)
end
structure Fr (O:Addr→Prop)(H:Hp)(O':Addr→Prop)(H':Hp):Prop where
  keep : ∀ b o,H b=some o→¬ O b→H' b=some o
  more : ∀ b,O' b→O b∨H b=none
  dom : ∀ b,H' b=none→H b=none
theorem Fr.refl (O:Addr→Prop)(H:Hp):Fr O H O H:=⟨fun _ _ h _=>h,fun _ h=>.inl h,fun _ h=>h⟩
theorem Fr.same {O:Addr→Prop}{H H':Hp}(s:Same H H'):Fr O H O H':=⟨fun b o h _=>s b o h,fun _ h=>.inl h,fun _ h=>s.free h⟩
theorem Fr.trans {O O1 O2:Addr→Prop}{H H1 H2:Hp}(a:Fr O H O1 H1)(b:Fr O1 H1 O2 H2):Fr O H O2 H2 where
  keep:=fun c o h n=>b.keep c o (a.keep c o h n) fun z=>(a.more c z).elim n fun e=>by rw [h] at e; cases e
  more:=fun c z=>by
    rcases b.more c z with q | q
    · exact a.more c q
    · exact .inr (a.dom c q)
  dom:=fun c z=>a.dom c (b.dom c z)
inductive Slot where
  | no
  | val (d:D)
  | own (ds:List D)
  | obj (c:Nat) (ks:List Nat) (ds:List D)
  | red (ds:List D)
  | own2 (dss:List (List D))
  | red2 (dss:List (List D))
  | ownU (n:Nat)
  deriving Inhabited
noncomputable abbrev DEnv:=List Slot
noncomputable def Slot.isOwn:Slot→Bool
  | .own _=>true
  | .obj _ _ _=>true
  | .own2 _=>true
  | .ownU _=>true
  | _=>false
structure Wf where
  A:Addr→Prop
  H0:Hp
  O0:Addr→Prop
noncomputable abbrev Cl (W:Wf)(O:Addr→Prop):Addr→Prop:=fun b=>W.A b∧¬ O b
structure Inl (P:List D→Addr→Prop)(dss:List (List D))(bs:List Addr):Prop where
  len:dss.length=bs.length
  at_ : ∀ (k:Nat) (ds:List D) (b:Addr),dss[k]?=some ds→bs[k]?=some b→P ds b
theorem Inl.imp {P P':List D→Addr→Prop}{dss:List (List D)}{bs:List Addr}(h:Inl P dss bs)(g : ∀ ds b,b∈bs→P ds b→P' ds b):Inl P' dss bs :=
  ⟨h.len,fun k ds b e1 e2=>g ds b (List.mem_of_getElem? e2) (h.at_ k ds b e1 e2)⟩
theorem Inl.mem {P:List D→Addr→Prop}{dss:List (List D)}{bs:List Addr}(h:Inl P dss bs){b:Addr}(hb:b∈bs) : ∃ ds,P ds b:=by
  obtain ⟨k,hk,e⟩:=List.getElem_of_mem hb
  exact ⟨_,h.at_ k (dss[k]'(h.len ▸ hk)) b (List.getElem?_eq_getElem _) (by rw [List.getElem?_eq_getElem hk,e])⟩
noncomputable def SlotR (T:Tx)(W:Wf)(O:Addr→Prop)(H:Hp):Slot→Option V→Prop
  | .no,_=>True
  | .val d,v=>∃ u,v=some u∧Rep T (Cl W O) H d u
  | .own ds,v=>∃ a xs,v=some (.ref a)∧O a∧W.H0 a=none∧H a=some (.lst xs)∧RepL T (Cl W O) H ds xs
  | .obj c ks ds,v=>∃ a C dx fs,v=some (.ref a)∧O a∧W.H0 a≠none∧T.cl c=some C∧H a=some (.ins C dx fs)∧fs.map (·.1)=ks.map T.fld∧RepL T (Cl W O) H ds (fs.map (·.2))
  | .red ds,v=>∃ a xs,v=some (.ref a)∧¬ W.O0 a∧W.H0 a=some (.lst xs)∧RepL T (Cl W O) H ds xs
  | .own2 dss,v=>∃ a bs,v=some (.ref a)∧O a∧W.H0 a=none∧H a=some (.lst (bs.map V.ref))∧Inl (fun ds b=>O b∧W.H0 b=none∧∃ ys,H b=some (.lst ys)∧RepL T (Cl W O) H ds ys) dss bs
  | .red2 dss,v=>∃ a bs,v=some (.ref a)∧¬ W.O0 a∧W.H0 a=some (.lst (bs.map V.ref))∧Inl (fun ds b=>¬ W.O0 b∧∃ ys,W.H0 b=some (.lst ys)∧RepL T (Cl W O) H ds ys) dss bs
  | .ownU n,v=>∃ a xs,v=some (.ref a)∧O a∧W.H0 a=none∧H a=some (.lst xs)∧xs.length=n
structure EnvR (T:Tx)(W:Wf)(O:Addr→Prop)(H:Hp)(env:DEnv)(σ:St):Prop where
  fr:Fr W.O0 W.H0 O H
  new : ∀ a,W.H0 a=none→W.A a
  mu : ∀ a,O a→Mu (H a)
  slot : ∀ (i:Nat) (s:Slot),env[i]?=some s→SlotR T W O H s (σ[i]?).join
  inj : ∀ (i j:Nat) (s t:Slot) (a:Addr),env[i]?=some s→env[j]?=some t→s.isOwn=true→t.isOwn=true→σ[i]?=some (some (.ref a))→σ[j]?=some (some (.ref a))→i=j
  len:env.length=σ.length
  inj2 : ∀ (i j:Nat) (dss:List (List D)) (t:Slot) (a:Addr) (bs:List Addr) (b:Addr),env[i]?=some (.own2 dss)→σ[i]?=some (some (.ref a))→H a=some (.lst (bs.map V.ref))→b∈bs→env[j]?=some t→t.isOwn=true→σ[j]?≠some (some (.ref b))
section
variable {T:Tx}{W:Wf}{O O':Addr→Prop}{H H':Hp}{env:DEnv}{σ:St}
theorem EnvR.newA (E:EnvR T W O H env σ){a:Addr}(h:H a=none):Cl W O a :=
  ⟨E.new a (E.fr.dom a h),fun o=>by have:=E.mu a o; rw [h] at this; exact this⟩
theorem EnvR.kp (E:EnvR T W O H env σ)(f:Fr O H O' H'):Kp (Cl W O) (Cl W O') O H H' :=
  ⟨f.keep,E.mu,fun _ _ z _=>z.2,fun b o z e=>⟨z.1,fun q=>(f.more b q).elim z.2 fun w=>by rw [e] at w; cases w⟩⟩
theorem EnvR.keepD (E:EnvR T W O H env σ)(f:Fr O H O' H'){d:D}{v:V}(r:Rep T (Cl W O) H d v):Rep T (Cl W O') H' d v:=r.kp (E.kp f)
theorem SlotR.kp (k:Kp (Cl W O) (Cl W O') O H H')(hO : ∀ a,O a→O' a) : ∀ {s:Slot} {v:Option V},(∀ a,s.isOwn=true→v=some (.ref a)→H' a=H a)→(∀ (dss:List (List D)) (a:Addr) (bs:List Addr) (b:Addr),s=.own2 dss→v=some (.ref a)→H a=some (.lst (bs.map V.ref))→b∈bs→H' b=H b)→SlotR T W O H s v→SlotR T W O' H' s v
  | .no,_,_,_,_=>trivial
  | .val d,_,_,_,h=>by obtain ⟨u,e,r⟩:=h; exact ⟨u,e,r.kp k⟩
  | .own ds,_,g,_,h=>by
    obtain ⟨a,xs,e,o,n,q,r⟩:=h
    exact ⟨a,xs,e,hO a o,n,(g a rfl e).trans q,r.kp k⟩
  | .obj c ks ds,_,g,_,h=>by
    obtain ⟨a,C,dx,fs,e,o,nn,n,q,m,r⟩:=h
    exact ⟨a,C,dx,fs,e,hO a o,nn,n,(g a rfl e).trans q,m,r.kp k⟩
  | .red ds,_,_,_,h=>by obtain ⟨a,xs,e,o,n,r⟩:=h; exact ⟨a,xs,e,o,n,r.kp k⟩
  | .own2 dss,_,g,g2,h=>by
    obtain ⟨a,bs,e,o,n,q,r⟩:=h
    refine ⟨a,bs,e,hO a o,n,(g a rfl e).trans q,r.imp fun ds b hb z=>?_⟩
    obtain ⟨z1,z2,ys,z3,z4⟩:=z
    exact ⟨hO b z1,z2,ys,(g2 dss a bs b rfl e q hb).trans z3,z4.kp k⟩
  | .ownU n,_,g,_,h=>by obtain ⟨a,xs,e,o,m,q,l⟩:=h; exact ⟨a,xs,e,hO a o,m,(g a rfl e).trans q,l⟩
  | .red2 dss,_,_,_,h=>by
    obtain ⟨a,bs,e,o,n,r⟩:=h
    refine ⟨a,bs,e,o,n,r.imp fun ds b hb z=>?_⟩
    obtain ⟨z1,ys,z3,z4⟩:=z
    exact ⟨z1,ys,z3,z4.kp k⟩
theorem join_some {σ:St}{i:Nat}{v:V}(h:(σ[i]?).join=some v) : σ[i]?=some (some v):=by
  cases e : σ[i]? with
  | none=>rw [e] at h; cases h
  | some o=>rw [e] at h; cases o with
    | none=>cases h
    | some w=>cases h; rfl
theorem SlotR.at_own {s:Slot}{v:Option V}(h:SlotR T W O H s v)(hs:s.isOwn=true) : ∃ a,v=some (.ref a)∧O a:=by
  cases s with
  | no=>cases hs
  | val d=>cases hs
  | own ds=>obtain ⟨a,xs,e,o,_⟩:=h; exact ⟨a,e,o⟩
  | obj c ks ds=>obtain ⟨a,C,dx,fs,e,o,_⟩:=h; exact ⟨a,e,o⟩
  | red ds=>cases hs
  | own2 dss=>obtain ⟨a,bs,e,o,_⟩:=h; exact ⟨a,e,o⟩
  | red2 dss=>cases hs
  | ownU n=>obtain ⟨a,xs,e,o,_⟩:=h; exact ⟨a,e,o⟩
theorem SlotR.inner {dss:List (List D)}{v:Option V}(h:SlotR T W O H (.own2 dss) v){a:Addr}{bs:List Addr}{b:Addr}(e:v=some (.ref a))(q:H a=some (.lst (bs.map V.ref)))(hb:b∈bs):O b∧W.H0 b=none∧∃ ys,H b=some (.lst ys):=by
  obtain ⟨a',bs',e',o,n,q',r⟩:=h
  rw [e] at e'; cases e'
  rw [q] at q'
  have hm:V.ref b∈bs'.map V.ref:=by
    have:=HO.lst.inj (Option.some.inj q')
    rw [← this]; exact List.mem_map.mpr ⟨b,hb,rfl⟩
  obtain ⟨b',hb',eb⟩:=List.mem_map.mp hm
  cases eb
  obtain ⟨ds,z1,z2,ys,z3,_⟩:=r.mem hb'
  exact ⟨z1,z2,ys,z3⟩
theorem EnvR.mono (E:EnvR T W O H env σ)(s:Same H H'):EnvR T W O H' env σ where
  fr:=E.fr.trans (Fr.same s)
  new:=E.new
  mu:=fun a o=>by
    have:=E.mu a o
    cases e:H a with
    | none=>rw [e] at this; exact this.elim
    | some u=>rw [s a u e]; rw [e] at this; exact this
  slot:=fun i t e=>(E.slot i t e).kp (E.kp (Fr.same s)) (fun _ z=>z) (fun a hs ev=>by
    obtain ⟨b,eb,o⟩:=(E.slot i t e).at_own hs
    rw [ev] at eb; cases eb
    have:=E.mu a o
    cases e:H a with
    | none=>rw [e] at this; exact this.elim
    | some u=>exact s a u e) fun dss a bs b et ev q hb=>by
    subst et
    obtain ⟨_,_,ys,z⟩:=(E.slot i _ e).inner ev q hb
    rw [z]; exact s b _ z
  inj:=E.inj
  len:=E.len
  inj2:=fun i j dss t a bs b e1 e2 q hb e3 o3=>by
    obtain ⟨a',eb,o⟩:=(E.slot i _ e1).at_own rfl
    rw [e2] at eb; cases eb
    refine E.inj2 i j dss t a bs b e1 e2 ?_ hb e3 o3
    have:=E.mu a o
    cases e:H a with
    | none=>rw [e] at this; exact this.elim
    | some u=>rw [s a u e] at q; exact q
theorem EnvR.val (E:EnvR T W O H env σ){i:Nat}{d:D}(e:env[i]?=some (.val d)) : ∃ v, σ[i]?=some (some v)∧Rep T (Cl W O) H d v:=by
  obtain ⟨u,e1,r⟩:=E.slot i _ e
  exact ⟨u,join_some e1,r⟩
theorem EnvR.own (E:EnvR T W O H env σ){i:Nat}{ds:List D}(e:env[i]?=some (.own ds)) : ∃ a xs, σ[i]?=some (some (.ref a))∧O a∧W.H0 a=none∧H a=some (.lst xs)∧RepL T (Cl W O) H ds xs:=by
  obtain ⟨a,xs,e1,r⟩:=E.slot i _ e
  exact ⟨a,xs,join_some e1,r⟩
theorem EnvR.red (E:EnvR T W O H env σ){i:Nat}{ds:List D}(e:env[i]?=some (.red ds)) : ∃ a xs, σ[i]?=some (some (.ref a))∧H a=some (.lst xs)∧RepL T (Cl W O) H ds xs:=by
  obtain ⟨a,xs,e1,o,n,r⟩:=E.slot i _ e
  exact ⟨a,xs,join_some e1,E.fr.keep _ _ n o,r⟩
theorem EnvR.obj (E:EnvR T W O H env σ){i c:Nat}{ks:List Nat}{ds:List D}(e:env[i]?=some (.obj c ks ds)) : ∃ a C dx fs, σ[i]?=some (some (.ref a))∧O a∧W.H0 a≠none∧T.cl c=some C∧H a=some (.ins C dx fs)∧fs.map (·.1)=ks.map T.fld∧RepL T (Cl W O) H ds (fs.map (·.2)):=by
  obtain ⟨a,C,dx,fs,e1,r⟩:=E.slot i _ e
  exact ⟨a,C,dx,fs,join_some e1,r⟩
theorem set_slot {env:DEnv}{i j:Nat}{s t:Slot}(e:(env.set i s)[j]?=some t):(i=j∧t=s∧i<env.length)∨(i≠j∧env[j]?=some t):=by
  by_cases h:i=j
  · subst h
    by_cases hl:i<env.length
    · rw [List.getElem?_set_self hl] at e; cases e; exact .inl ⟨rfl,rfl,hl⟩
    · rw [List.getElem?_eq_none (by simp; omega)] at e; cases e
  · rw [List.getElem?_set_ne h] at e; exact .inr ⟨h,e⟩
theorem EnvR.setS (E:EnvR T W O H env σ)(i:Nat){s:Slot}{v:V}(r:SlotR T W O H s (some v))
    (hj:s.isOwn=true→∀ (j:Nat) (t:Slot) (a:Addr),i≠j→env[j]?=some t→t.isOwn=true→v=.ref a→σ[j]?≠some (some (.ref a)))
    (hk:s.isOwn=true→∀ (j:Nat) (dss:List (List D)) (a:Addr) (bs:List Addr) (b:Addr),env[j]?=some (.own2 dss)→σ[j]?=some (some (.ref a))→H a=some (.lst (bs.map V.ref))→b∈bs→v≠.ref b)
    (hn : ∀ dss,s≠.own2 dss):EnvR T W O H (env.set i s) (σ.set i (some v)) where
  fr:=E.fr
  new:=E.new
  mu:=E.mu
  slot:=fun j t e=>by
    rcases set_slot e with ⟨rfl,rfl,hl⟩ | ⟨h,e⟩
    · rw [List.getElem?_set_self (by rw [← E.len]; exact hl)]; exact r
    · rw [List.getElem?_set_ne h]; exact E.slot j t e
  inj:=fun j k t u a e1 e2 o1 o2 s1 s2=>by
    rcases set_slot e1 with ⟨h1,h2,hl⟩ | ⟨h,q1⟩
    · subst h1 h2
      rcases set_slot e2 with ⟨h3,h4,_⟩ | ⟨h',q2⟩
      · exact h3
      · rw [List.getElem?_set_self (by rw [← E.len]; exact hl)] at s1
        cases s1
        rw [List.getElem?_set_ne h'] at s2
        exact absurd s2 (hj o1 k u a h' q2 o2 rfl)
    · rw [List.getElem?_set_ne h] at s1
      rcases set_slot e2 with ⟨h3,h4,hl⟩ | ⟨h',q2⟩
      · subst h3 h4
        rw [List.getElem?_set_self (by rw [← E.len]; exact hl)] at s2
        cases s2
        exact absurd s1 (hj o2 j t a h q1 o1 rfl)
      · rw [List.getElem?_set_ne h'] at s2
        exact E.inj j k t u a q1 q2 o1 o2 s1 s2
  len:=by simp [E.len]
  inj2:=fun j k dss t a bs b e1 e2 q hb e3 o3=>by
    rcases set_slot e1 with ⟨h1,h2,hl⟩ | ⟨h,q1⟩
    · exact absurd h2.symm (hn dss)
    · rw [List.getElem?_set_ne h] at e2
      rcases set_slot e3 with ⟨h3,h4,hl⟩ | ⟨h',q2⟩
      · subst h3 h4
        rw [List.getElem?_set_self (by rw [← E.len]; exact hl)]
        intro z
        exact hk o3 j dss a bs b q1 e2 q hb (Option.some.inj (Option.some.inj z))
      · rw [List.getElem?_set_ne h']
        exact E.inj2 j k dss t a bs b q1 e2 q hb q2 o3
theorem EnvR.set (E:EnvR T W O H env σ)(i:Nat){d:D}{v:V}(r:Rep T (Cl W O) H d v):EnvR T W O H (env.set i (.val d)) (σ.set i (some v)) :=
  E.setS i ⟨v,rfl,r⟩ (fun z=>nomatch z) (fun z=>nomatch z) fun _ z=>nomatch z
theorem EnvR.claim (E:EnvR T W O H env σ){a:Addr}(n:H a=none){o:HO}(hm:Mu (some o)):EnvR T W (fun b=>O b∨b=a) (upd H a o) env σ:=by
  have s:Same H (upd H a o):=same_new n o
  have f:Fr O H (fun b=>O b∨b=a) (upd H a o):=⟨fun b u h _=>s b u h,fun b h=>h.elim .inl fun e=>.inr (e ▸ n),fun b h=>s.free h⟩
  refine ⟨E.fr.trans f,E.new,fun b z=>?_,fun i t e=>(E.slot i t e).kp (E.kp f) (fun _ z=>.inl z) (fun b hs ev=>?_) (fun dss c bs b et ev q hb=>?_),E.inj,E.len,(E.mono s).inj2⟩
  · rcases z with z | rfl
    · exact (E.mono s).mu b z
    · rw [upd_same]; exact hm
  · obtain ⟨c,eb,o⟩:=(E.slot i t e).at_own hs
    rw [ev] at eb; cases eb
    have hb:b≠a:=fun z=>by subst z; have:=E.mu b o; rw [n] at this; exact this
    exact upd_ne hb
  · subst et
    obtain ⟨_,_,ys,z⟩:=(E.slot i _ e).inner ev q hb
    exact upd_ne fun w=>by rw [w,n] at z; cases z
theorem EnvR.upd (E:EnvR T W O H env σ){i:Nat}{s t:Slot}{a:Addr}{o:HO}(e:env[i]?=some s)(hs:s.isOwn=true)(ev : σ[i]?=some (some (.ref a)))(hm:Mu (some o))(r:SlotR T W O (L2.upd H a o) t (some (.ref a)))(hn : ∀ dss,t≠.own2 dss:=by exact fun _ z=>nomatch z) :
    EnvR T W O (L2.upd H a o) (env.set i t) σ∧Fr O H O (L2.upd H a o):=by
  have oa:O a:=by
    obtain ⟨b,eb,o⟩:=(E.slot i s e).at_own hs
    rw [ev] at eb; cases eb; exact o
  have f:Fr O H O (L2.upd H a o):=⟨fun b u h n=>by rw [upd_ne (by rintro rfl; exact n oa)]; exact h,fun b h=>.inl h,fun b h=>by
    by_cases z:b=a
    · subst z; rw [upd_same] at h; cases h
    · rw [upd_ne z] at h; exact h⟩
  refine ⟨⟨E.fr.trans f,E.new,fun b z=>?_,fun j u e'=>?_,fun j k t' u b e1 e2 o1 o2 s1 s2=>?_,by simp [E.len],fun j k dss u c bs b e1 e2 q hb e3 o3=>?_⟩,f⟩
  · by_cases h:b=a
    · subst h; rw [upd_same]; exact hm
    · rw [upd_ne h]; exact E.mu b z
  · rcases set_slot e' with ⟨rfl,rfl,hl⟩ | ⟨h,e'⟩
    · rw [ev]; exact r
    · refine (E.slot j u e').kp (E.kp f) (fun _ z=>z) (fun b hs' ev'=>?_) fun dss c bs b eu ev' q hb=>?_
      · have hb:b≠a:=fun z=>by subst z; exact h (E.inj i j s u b e e' hs hs' ev (join_some ev'))
        exact upd_ne hb
      · subst eu
        exact upd_ne fun w=>E.inj2 j i dss s c bs b e' (join_some ev') q hb e hs (w ▸ ev)
  · have old : ∀ {j:Nat} {u:Slot},(env.set i t)[j]?=some u→u.isOwn=true→∃ u',env[j]?=some u'∧u'.isOwn=true:=fun {j u} e' o'=>by
      rcases set_slot e' with ⟨rfl,rfl,hl⟩ | ⟨h,e'⟩
      · exact ⟨s,e,hs⟩
      · exact ⟨u,e',o'⟩
    obtain ⟨t1,h1,h2⟩:=old e1 o1
    obtain ⟨t2,h3,h4⟩:=old e2 o2
    exact E.inj j k t1 t2 b h1 h3 h2 h4 s1 s2
  · rcases set_slot e1 with ⟨h1,h2,hl⟩ | ⟨h,q1⟩
    · exact absurd h2.symm (hn dss)
    · have hca:c≠a:=fun w=>by subst w; exact h (E.inj i j s _ c e q1 hs rfl ev e2)
      rw [upd_ne hca] at q
      rcases set_slot e3 with ⟨rfl,rfl,hl⟩ | ⟨h',q2⟩
      · exact E.inj2 j i dss s c bs b q1 e2 q hb e hs
      · exact E.inj2 j k dss u c bs b q1 e2 q hb q2 o3
end
end DL
end
section
namespace DL
open PySem L2
noncomputable abbrev FP (α:Type):=DEnv→Option α
noncomputable abbrev FE:=FP D
noncomputable abbrev RK (α γ:Type):=(Addr→Prop)→Hp→Hp→α→γ→Prop
class Kd {α γ:Type} (ρ:RK α γ):Prop where
  st : ∀ A H0 H H' x v,Same H H'→ρ A H0 H x v→ρ A H0 H' x v
  an : ∀ A H0 H1 H x v,Same H0 H1→ρ A H1 H x v→ρ A H0 H x v
noncomputable def kD (T:Tx):RK D V:=fun A _ H d v=>Rep T A H d v
noncomputable def RepR (T:Tx)(A:Addr→Prop)(H:Hp)(d:D)(v:V):Prop:=match d with
  | .lst ds=>∃ a xs,v=.ref a∧SqL T.K H a xs∧RepL T A H ds xs
  | d=>Rep T A H d v
noncomputable def kR (T:Tx):RK D V:=fun A _ H d v=>RepR T A H d v
noncomputable def kF (T:Tx):RK (List D) V:=fun A H0 H ds v=>∃ a xs,v=.ref a∧H0 a=none∧H a=some (.lst xs)∧RepL T (fun b=>A b∧b≠a) H ds xs
noncomputable def kB:RK Bool Bool:=fun _ _ _ b c=>b=c
noncomputable def kO:RK (Option Int) (Option Int):=fun _ _ _ b c=>b=c
noncomputable def kA (T:Tx):RK (List D) (List V):=fun A _ H ds vs=>RepL T A H ds vs
section
variable {T:Tx}{A:Addr→Prop}{H H':Hp}
theorem RepR.of {d:D}{v:V}(h:Rep T A H d v):RepR T A H d v:=by
  cases d with
  | lst ds=>obtain ⟨a,xs,e,q,r⟩:=h.lst_; exact ⟨a,xs,e,q.sq,r⟩
  | _=>exact h
theorem SqT.mono {K:PySem.W.Frag}(s:Same H H'){a:Addr}{xs:List V}(h:SqT K H a xs):SqT K H' a xs:=by
  rcases h with (h | ⟨o,h⟩) | h
  · exact .inl (.inl (s _ _ h))
  · exact .inl (.inr ⟨o,s _ _ h⟩)
  · exact .inr h
theorem RepR.mono (s:Same H H'){d:D}{v:V}(h:RepR T A H d v):RepR T A H' d v:=by
  cases d with
  | lst ds=>obtain ⟨a,xs,e,q,r⟩:=h; exact ⟨a,xs,e,s.seq q,r.mono s fun _ z=>z⟩
  | _=>exact Rep.mono s (fun _ z=>z) h
theorem RepR.lst_ {ds:List D}{v:V}(h:RepR T A H (.lst ds) v) : ∃ a xs,v=.ref a∧SqL T.K H a xs∧RepL T A H ds xs:=h
theorem RepR.tup_ {ds:List D}{v:V}(h:RepR T A H (.tup ds) v) : ∃ a xs,v=.ref a∧SqT T.K H a xs∧RepL T A H ds xs:=Rep.tup_ (show Rep T A H (.tup ds) v from h)
theorem RepR.int_ {i:Int}{v:V}(h:RepR T A H (.int i) v):v=.int i:=Rep.int_ (show Rep T A H (.int i) v from h)
theorem RepR.str_ {i:List Nat}{v:V}(h:RepR T A H (.str i) v):v=.str (mkS i):=Rep.str_ (show Rep T A H (.str i) v from h)
theorem RepR.bl_ {i:Bool}{v:V}(h:RepR T A H (.bl i) v):v=.bl i:=Rep.bl_ (show Rep T A H (.bl i) v from h)
theorem RepR.non_ {v:V}(h:RepR T A H .non v):v=.non:=Rep.non_ (show Rep T A H .non v from h)
noncomputable instance:Kd (kD T):=⟨fun _ _ _ _ _ _ s h=>Rep.mono s (fun _ z=>z) h,fun _ _ _ _ _ _ _ h=>h⟩
noncomputable instance:Kd (kR T):=⟨fun _ _ _ _ _ _ s h=>RepR.mono s h,fun _ _ _ _ _ _ _ h=>h⟩
noncomputable instance:Kd (kA T):=⟨fun _ _ _ _ _ _ s h=>RepL.mono s (fun _ z=>z) h,fun _ _ _ _ _ _ _ h=>h⟩
noncomputable instance:Kd kB:=⟨fun _ _ _ _ _ _ _ h=>h,fun _ _ _ _ _ _ _ h=>h⟩
noncomputable instance:Kd kO:=⟨fun _ _ _ _ _ _ _ h=>h,fun _ _ _ _ _ _ _ h=>h⟩
noncomputable instance:Kd (kF T):=⟨fun _ _ _ _ _ _ s ⟨a,xs,e,n,q,r⟩=>⟨a,xs,e,n,s _ _ q,r.mono s fun _ z=>z⟩,fun _ _ _ _ _ _ s ⟨a,xs,e,n,q,r⟩=>⟨a,xs,e,s.free n,q,r⟩⟩
end
noncomputable def tP {α γ:Type}(T:Tx)(ρ:RK α γ)(f:FP α):St→Hp→(γ→Hp→Prop)→Prop:=fun σ H Q =>
  ∃ W O env d,EnvR T W O H env σ∧f env=some d∧∀ v H',Same H H'→ρ (Cl W O) H H' d v→Q v H'
noncomputable abbrev Nw (A:Addr→Prop)(H:Hp):Prop:=∀ a,H a=none→A a
section
variable {α β δ γ γ2 γ3:Type}{T:Tx}{ρ ρ':RK α γ}{f:FP α}{σ:St}{H:Hp}{Q : γ→Hp→Prop}
theorem tP_weak (w : ∀ A H0 H x v, ρ A H0 H x v→ρ' A H0 H x v)(h:tP T ρ' f σ H Q):tP T ρ f σ H Q:=by
  obtain ⟨W,O,env,d,E,e,q⟩:=h
  exact ⟨W,O,env,d,E,e,fun v H' s r=>q v H' s (w _ _ _ _ _ r)⟩
noncomputable def fp1 (F : α→Option β)(f:FP α):FP β:=fun env=>(f env).bind F
noncomputable def fp2 (F : α→β→Option δ)(f:FP α)(g:FP β):FP δ:=fun env=>(f env).bind fun x=>(g env).bind fun y=>F x y
theorem tP_2 {ρ2:RK β γ2}{ρ3:RK δ V}[Kd ρ][Kd ρ2][Kd ρ3]{F : α→β→Option δ}{g:FP β}{Q3:VK}{r : γ→γ2→Hp→VK→Prop}
    (snd : ∀ (A:Addr→Prop) (H0 H:Hp) (x : α) (y : β) (v : γ) (u : γ2) (d : δ) (Q:VK),Nw A H→ρ A H0 H x v→ρ2 A H0 H y u→F x y=some d→(∀ w H',Same H H'→ρ3 A H H' d w→Q w H')→r v u H Q)
    (h:tP T ρ3 (fp2 F f g) σ H Q3):tP T ρ f σ H fun v H1=>tP T ρ2 g σ H1 fun u H2=>r v u H2 Q3:=by
  obtain ⟨W,O,env,d,E,e,q⟩:=h
  unfold fp2 at e
  cases e1:f env with
  | none=>rw [e1] at e; cases e
  | some x =>
    rw [e1] at e
    cases e2:g env with
    | none=>rw [e2] at e; cases e
    | some y =>
      rw [e2] at e
      refine ⟨W,O,env,x,E,e1,fun v H1 s1 r1=>⟨W,O,env,y,E.mono s1,e2,fun u H2 s2 r2=>?_⟩⟩
      have s:=s1.trans s2
      exact snd (Cl W O) H H2 x y v u d Q3 (fun a n=>(E.mono s).newA n) (Kd.st _ _ _ _ _ _ s2 r1) (Kd.an _ _ _ _ _ _ s1 r2) e fun w H' s3 r3=>q w H' (s.trans s3) (Kd.an _ _ _ _ _ _ s r3)
theorem tP_1 {ρ3:RK δ γ3}[Kd ρ3]{F : α→Option δ}{Q3 : γ3→Hp→Prop}{r : γ→Hp→(γ3→Hp→Prop)→Prop}
    (snd : ∀ (A:Addr→Prop) (H0 H:Hp) (x : α) (v : γ) (d : δ) (Q : γ3→Hp→Prop),Nw A H→ρ A H0 H x v→F x=some d→(∀ w H',Same H H'→ρ3 A H H' d w→Q w H')→r v H Q)
    (h:tP T ρ3 (fp1 F f) σ H Q3):tP T ρ f σ H fun v H1=>r v H1 Q3:=by
  obtain ⟨W,O,env,d,E,e,q⟩:=h
  unfold fp1 at e
  cases e1:f env with
  | none=>rw [e1] at e; cases e
  | some x =>
    rw [e1] at e
    refine ⟨W,O,env,x,E,e1,fun v H1 s1 r1=>?_⟩
    exact snd (Cl W O) H H1 x v d Q3 (fun a n=>(E.mono s1).newA n) r1 e fun w H' s3 r3=>q w H' (s1.trans s3) (Kd.an _ _ _ _ _ _ s1 r3)
end
noncomputable def feName (i:Nat):FE:=fun env=>match env[i]? with
  | some (.val d)=>some d
  | _=>none
noncomputable def feRead (i:Nat):FE:=fun env=>match env[i]? with
  | some (.val d)=>some d
  | some (.own ds)=>some (.lst ds)
  | some (.red ds)=>some (.lst ds)
  | _=>none
noncomputable def feC (d:D):FE:=fun _=>some d
section
variable {T:Tx}{f g:FE}{σ:St}{H:Hp}{Q:VK}
theorem tP_name {i:Nat}(h:tP T (kD T) (feName i) σ H Q):tVar i σ H Q:=by
  obtain ⟨W,O,env,d,E,e,q⟩:=h
  unfold feName at e
  split at e
  · rename_i d' es
    cases e
    obtain ⟨v,e1,r⟩:=E.val es
    exact ⟨v,e1,q v H (Same.refl _) r⟩
  · cases e
theorem tP_read {i:Nat}(h:tP T (kR T) (feRead i) σ H Q):tVar i σ H Q:=by
  obtain ⟨W,O,env,d,E,e,q⟩:=h
  unfold feRead at e
  split at e
  · rename_i d' es
    cases e
    obtain ⟨v,e1,r⟩:=E.val es
    exact ⟨v,e1,q v H (Same.refl _) (RepR.of r)⟩
  · rename_i ds es
    cases e
    obtain ⟨a,xs,e1,_,_,hl,r⟩:=E.own es
    exact ⟨.ref a,e1,q _ H (Same.refl _) ⟨a,xs,rfl,.inl (.inl hl),r⟩⟩
  · rename_i ds es
    cases e
    obtain ⟨a,xs,e1,hl,r⟩:=E.red es
    exact ⟨.ref a,e1,q _ H (Same.refl _) ⟨a,xs,rfl,.inl (.inl hl),r⟩⟩
  · cases e
theorem tP_c {d:D}{v:V}(hv : ∀ A H,Rep T A H d v)(h:tP T (kD T) (feC d) σ H Q):tC v σ H Q:=by
  obtain ⟨W,O,env,d',E,e,q⟩:=h
  cases e
  exact q v H (Same.refl _) (hv _ _)
noncomputable def feFr (f:FP (List D)):FE:=fun env=>(f env).map .lst
theorem tP_fr {f:FP (List D)}(h:tP T (kD T) (feFr f) σ H Q):tP T (kF T) f σ H Q:=by
  obtain ⟨W,O,env,d,E,e,q⟩:=h
  unfold feFr at e
  cases e1:f env with
  | none=>rw [e1] at e; cases e
  | some ds =>
    rw [e1] at e
    cases e
    refine ⟨W,O,env,ds,E,e1,fun v H' s ⟨a,xs,ev,n,hl,r⟩=>q v H' s ?_⟩
    subst ev
    exact Rep.lst (.inl ⟨.inl hl,E.newA n⟩) (r.mono (Same.refl _) fun _ z=>z.1)
noncomputable abbrev FA:=FP (List D)
noncomputable def faNil:FA:=fun _=>some []
noncomputable def faCons (f:FE)(g:FA):FA:=fun env=>(f env).bind fun x=>(g env).bind fun r=>some (x::r)
theorem tP_nil {Q:List V→Hp→Prop}(h:tP T (kA T) faNil σ H Q):tNil σ H Q:=by
  obtain ⟨W,O,env,ds,E,e,q⟩:=h
  cases e
  exact q [] H (Same.refl _) .nil
theorem tP_cons {g:FA}{Q:List V→Hp→Prop}(h:tP T (kA T) (faCons f g) σ H Q):tCons (tP T (kD T) f) (tP T (kA T) g) σ H Q:=by
  obtain ⟨W,O,env,ds,E,e,q⟩:=h
  unfold faCons at e
  cases e1:f env with
  | none=>rw [e1] at e; cases e
  | some x =>
    rw [e1] at e
    cases e2:g env with
    | none=>rw [e2] at e; cases e
    | some y =>
      rw [e2] at e
      cases e
      refine ⟨W,O,env,x,E,e1,fun v H1 s1 r1=>⟨W,O,env,y,E.mono s1,e2,fun vs H2 s2 r2=>?_⟩⟩
      exact q (v::vs) H2 (s1.trans s2) (.cons (Rep.mono s2 (fun _ z=>z) r1) r2)
theorem small {n:Nat}(h:n≤1000000):n≤sizeLine:=Nat.le_trans h (by decide)
noncomputable def feTup (f:FA):FE:=fp1 (fun ds=>if ds.length≤1000 then some (.tup ds) else none) f
noncomputable def ffLst (f:FA):FP (List D):=fp1 (fun ds=>if ds.length≤1000 then some ds else none) f
theorem tP_tup {f:FA}(h:tP T (kD T) (feTup f) σ H Q):tTup (tP T (kA T) f) σ H Q :=
  tP_1 (ρ:=kA T) (γ3:=V) (r:=fun xs H1 (Q:VK)=>xs.length≤sizeLine∧∀ p,H1 p=none→Q (.ref p) (upd H1 p (.tup xs))) (fun A H0 H x v d Q nw r e k=>by
    by_cases c:x.length≤1000
    · rw [if_pos c] at e; cases e
      have r:RepL T A H x v:=r
      exact ⟨small (by rw [← r.length]; omega),fun p hp=>k _ _ (same_new hp _) (Rep.newT r hp)⟩
    · rw [if_neg c] at e; cases e) h
theorem kF_new {A:Addr→Prop}{ds:List D}{xs:List V}(r:RepL T A H ds xs){p:Addr}(hp:H p=none):kF T A H (upd H p (.lst xs)) ds (.ref p):=by
  refine ⟨p,xs,rfl,hp,upd_same,r.kp (Kp.same (same_new hp _) fun b o z e=>⟨z,fun w=>?_⟩)⟩
  subst w; rw [hp] at e; cases e
theorem tP_lst {f:FA}(h:tP T (kF T) (ffLst f) σ H Q):tLst (tP T (kA T) f) σ H Q :=
  tP_1 (ρ:=kA T) (γ3:=V) (r:=fun xs H1 (Q:VK)=>xs.length≤sizeLine∧∀ p,H1 p=none→Q (.ref p) (upd H1 p (.lst xs))) (fun A H0 H x v d Q nw r e k=>by
    by_cases c:x.length≤1000
    · rw [if_pos c] at e; cases e
      have r:RepL T A H x v:=r
      exact ⟨small (by rw [← r.length]; omega),fun p hp=>k _ _ (same_new hp _) (kF_new r hp)⟩
    · rw [if_neg c] at e; cases e) h
end
noncomputable abbrev FT:=FP Bool
noncomputable def blD:D→Option Bool
  | .bl b=>some b
  | _=>none
noncomputable def ftB (f:FE):FT:=fp1 blD f
noncomputable def ftNot (c:FT):FT:=fun env=>(c env).bind fun b=>some (!b)
noncomputable def ftOr (c d:FT):FT:=fun env=>(c env).bind fun b=>if b=true then some true else d env
noncomputable def feNot (f:FE):FE:=fp1 (fun x=>(blD x).map fun b=>D.bl (!b)) f
noncomputable def feAnd (f g:FE):FE:=fun env=>(f env).bind fun x=>(blD x).bind fun b=>if b=true then g env else some (.bl false)
noncomputable def feIf {α:Type}(c:FT)(f g:FP α):FP α:=fun env=>(c env).bind fun b=>if b=true then f env else g env
theorem blD_some {d:D}{b:Bool}(h:blD d=some b):d=.bl b:=by
  cases d with
  | bl c=>cases h; rfl
  | _=>cases h
section
variable {T:Tx}{f g:FE}{c d:FT}{σ:St}{H:Hp}
theorem tP_test {Q:Bool→Hp→Prop}(h:tP T kB (ftB f) σ H Q):tTest (tP T (kD T) f) σ H Q :=
  tP_1 (ρ:=kD T) (r:=fun x H' Q=>∃ k,x=.bl k∧Q k H') (fun A H0 H x v d Q nw r e k=>by
    cases blD_some e
    exact ⟨d,Rep.bl_ r,k _ H (Same.refl _) rfl⟩) h
theorem tPT_not {Q:Bool→Hp→Prop}(h:tP T kB (ftNot c) σ H Q):tNot (tP T kB c) σ H Q:=by
  obtain ⟨W,O,env,b,E,e,q⟩:=h
  unfold ftNot at e
  cases e1:c env with
  | none=>rw [e1] at e; cases e
  | some x =>
    rw [e1] at e
    cases e
    exact ⟨W,O,env,x,E,e1,fun v H' s r=>by cases r; exact q _ H' s rfl⟩
theorem tPT_or {Q:Bool→Hp→Prop}(h:tP T kB (ftOr c d) σ H Q):tOr (tP T kB c) (tP T kB d) σ H Q:=by
  obtain ⟨W,O,env,b,E,e,q⟩:=h
  unfold ftOr at e
  cases e1:c env with
  | none=>rw [e1] at e; cases e
  | some x =>
    rw [e1] at e
    refine ⟨W,O,env,x,E,e1,fun v H' s r=>?_⟩
    cases r
    cases x with
    | false=>exact ⟨W,O,env,b,E.mono s,e,fun v2 H2 s2 r2=>q v2 H2 (s.trans s2) r2⟩
    | true=>cases e; exact q _ H' s rfl
theorem tP_not {Q:VK}(h:tP T (kD T) (feNot f) σ H Q):tNotV (tP T (kD T) f) σ H Q :=
  tP_1 (ρ:=kD T) (γ3:=V) (r:=fun x H1 (Q:VK)=>∃ c,x=.bl c∧Q (.bl (!c)) H1) (fun A H0 H x v d Q nw r e k=>by
    cases e1:blD x with
    | none=>rw [e1] at e; cases e
    | some b =>
      rw [e1] at e; cases e
      cases blD_some e1
      exact ⟨b,Rep.bl_ r,k _ H (Same.refl _) (Rep.bl _)⟩) h
theorem tP_and {Q:VK}(h:tP T (kD T) (feAnd f g) σ H Q):tAndV (tP T (kD T) f) (tP T (kD T) g) σ H Q:=by
  obtain ⟨W,O,env,d,E,e,q⟩:=h
  unfold feAnd at e
  cases e1:f env with
  | none=>rw [e1] at e; cases e
  | some x =>
    rw [e1] at e
    dsimp only [Option.bind_some] at e
    cases e2:blD x with
    | none=>rw [e2] at e; cases e
    | some b =>
      rw [e2] at e
      cases blD_some e2
      refine ⟨W,O,env,_,E,e1,fun v H' s r=>⟨b,Rep.bl_ r, ?_⟩⟩
      cases b with
      | true=>exact ⟨W,O,env,d,E.mono s,e,fun v2 H2 s2 r2=>q v2 H2 (s.trans s2) r2⟩
      | false=>cases e; exact q _ H' s (Rep.bl _)
theorem tP_if {α:Type}{ρ:RK α V}[Kd ρ]{f g:FP α}{Q:VK}(h:tP T ρ (feIf c f g) σ H Q):tIf (tP T kB c) (tP T ρ f) (tP T ρ g) σ H Q:=by
  obtain ⟨W,O,env,d,E,e,q⟩:=h
  unfold feIf at e
  cases e1:c env with
  | none=>rw [e1] at e; cases e
  | some b =>
    rw [e1] at e
    refine ⟨W,O,env,b,E,e1,fun v H' s r=>?_⟩
    cases r
    have q' : ∀ v2 H2,Same H' H2→ρ (Cl W O) H' H2 d v2→Q v2 H2:=fun v2 H2 s2 r2=>q v2 H2 (s.trans s2) (Kd.an _ _ _ _ _ _ s r2)
    cases b with
    | true=>exact ⟨W,O,env,d,E.mono s,e,q'⟩
    | false=>exact ⟨W,O,env,d,E.mono s,e,q'⟩
end
end DL
end
section
namespace DL
open PySem L2
section
variable {T:Tx}
noncomputable def rCatR (K:PySem.W.Frag):R2:=fun x y H Q=>∃ l b xs zs,x=.ref l∧y=.ref b∧SqL K H l xs∧SqL K H b zs∧xs.length+zs.length≤sizeLine∧∀ p,H p=none→Q (.ref p) (upd H p (.lst (xs++zs)))
noncomputable def rAddS:R2:=fun x y H Q=>∃ i j,x=.str i∧y=.str j∧i.length+j.length≤sizeLine∧Q (.str (i++j)) H
noncomputable def rAddD (K:PySem.W.Frag):R2:=fun x y H Q=>rI0 (fun i j=>.int (i+j)) x y H Q∨rAddS x y H Q∨rCatR K x y H Q∨rCatT K x y H Q
noncomputable def addD:D→D→Option D
  | .int i,.int j=>some (.int (i+j))
  | .str a,.str b=>if a.length+b.length≤1000000 then some (.str (a++b)) else none
  | .lst xs,.lst ys=>if xs.length+ys.length≤1000000 then some (.lst (xs++ys)) else none
  | .tup (x::xs),.tup ys=>if (x::xs).length+ys.length≤1000000 then some (.tup ((x::xs)++ys)) else none
  | _,_=>none
noncomputable def addF:D→D→Option (List D)
  | .lst xs,.lst ys=>if xs.length+ys.length≤1000000 then some (xs++ys) else none
  | _,_=>none
theorem mkS_app (a b:List Nat):mkS (a++b)=mkS a++mkS b:=by
  show (⟨(a++b).toArray⟩:Str)=⟨a.toArray++b.toArray⟩
  simp
theorem snd_add (A:Addr→Prop)(H0 H:Hp)(x y:D)(v u:V)(d:D)(Q:VK)(nw:Nw A H)(rx:kR T A H0 H x v)(ry:kR T A H0 H y u)(e:addD x y=some d)
    (k : ∀ w H',Same H H'→kD T A H H' d w→Q w H'):rAddD T.K v u H Q:=by
  unfold addD at e
  split at e
  · cases e; cases RepR.int_ rx; cases RepR.int_ ry
    exact .inl ⟨_,_,rfl,rfl,k _ H (Same.refl _) (Rep.int _)⟩
  · rename_i i j
    cases RepR.str_ rx; cases RepR.str_ ry
    by_cases c:i.length+j.length≤1000000
    · rw [if_pos c] at e; cases e
      exact .inr (.inl ⟨_,_,rfl,rfl,small (by rw [mkS_len,mkS_len]; exact c),k _ H (Same.refl _) (by rw [← mkS_app]; exact Rep.str _)⟩)
    · rw [if_neg c] at e; cases e
  · rename_i xs ys
    by_cases c:xs.length+ys.length≤1000000
    · rw [if_pos c] at e; cases e
      obtain ⟨l,vs,rfl,hl,rl⟩:=RepR.lst_ rx
      obtain ⟨b,us,rfl,hb,rb⟩:=RepR.lst_ ry
      exact .inr (.inr (.inl ⟨l,b,vs,us,rfl,rfl,hl,hb,small (by rw [← rl.length, ← rb.length]; exact c),fun p hp=>k _ _ (same_new hp _) (Rep.newL (rl.append rb) hp (nw p hp))⟩))
    · rw [if_neg c] at e; cases e
  · rename_i x0 xs ys
    by_cases c:(x0::xs).length+ys.length≤1000000
    · rw [if_pos c] at e; cases e
      obtain ⟨l,vs,rfl,hl,rl⟩:=RepR.tup_ rx
      obtain ⟨b,us,rfl,hb,rb⟩:=RepR.tup_ ry
      have ne:vs≠[]:=by
        have:=rl.length
        intro z; subst z; simp at this
      refine .inr (.inr (.inr ⟨l,b,vs,us,rfl,rfl,hl,hb,ne,small (by rw [← rl.length, ← rb.length]; exact c),fun e0=>k _ _ (Same.refl _) ?_,fun _ p hp=>k _ _ (same_new hp _) (Rep.newT (rl.append rb) hp)⟩))
      subst e0
      exact Rep.tup hl (by simpa using rl.append rb)
    · rw [if_neg c] at e; cases e
  · cases e
theorem snd_addF (A:Addr→Prop)(H0 H:Hp)(x y:D)(v u:V)(d:List D)(Q:VK)(nw:Nw A H)(rx:kR T A H0 H x v)(ry:kR T A H0 H y u)(e:addF x y=some d)
    (k : ∀ w H',Same H H'→kF T A H H' d w→Q w H'):rAddD T.K v u H Q:=by
  unfold addF at e
  split at e
  · rename_i xs ys
    by_cases c:xs.length+ys.length≤1000000
    · rw [if_pos c] at e; cases e
      obtain ⟨l,vs,rfl,hl,rl⟩:=RepR.lst_ rx
      obtain ⟨b,us,rfl,hb,rb⟩:=RepR.lst_ ry
      exact .inr (.inr (.inl ⟨l,b,vs,us,rfl,rfl,hl,hb,small (by rw [← rl.length, ← rb.length]; exact c),fun p hp=>k _ _ (same_new hp _) (kF_new (rl.append rb) hp)⟩))
    · rw [if_neg c] at e; cases e
  · cases e
noncomputable def intD (g:Int→Int→Option D):D→D→Option D
  | .int i,.int j=>g i j
  | _,_=>none
noncomputable def flat:D→Option V
  | .non=>some .non
  | .bl b=>some (.bl b)
  | .int i=>some (.int i)
  | .str x=>some (.str (mkS x))
  | _=>none
theorem flat_rep {A A':Addr→Prop}{H H':Hp}{d:D}{v w:V}(h:flat d=some v)(r:RepR T A H d w):w=v∧flatV v=true∧Rep T A' H' d v:=by
  cases d with
  | non=>cases h; exact ⟨RepR.non_ r,rfl,.non⟩
  | bl b=>cases h; exact ⟨RepR.bl_ r,rfl,.bl _⟩
  | int b=>cases h; exact ⟨RepR.int_ r,rfl,.int _⟩
  | str b=>cases h; exact ⟨RepR.str_ r,rfl,.str _⟩
  | _=>cases h
theorem flat_of {A:Addr→Prop}{H:Hp}{d:D}{v:V}(h:flat d=some v):Rep T A H d v:=by
  cases d with
  | non=>cases h; exact .non
  | bl b=>cases h; exact .bl _
  | int b=>cases h; exact .int _
  | str b=>cases h; exact .str _
  | _=>cases h
theorem snd_int {C:Int→Int→Prop}{gv:Int→Int→V}{g:Int→Int→Option D}(hg : ∀ i j d,g i j=some d→C i j∧flat d=some (gv i j))
    (A:Addr→Prop) (H0 H:Hp) (x y:D) (v u:V) (d:D) (Q:VK) (nw:Nw A H) (rx:kD T A H0 H x v) (ry:kD T A H0 H y u) (e:intD g x y=some d)
    (k : ∀ w H',Same H H'→kD T A H H' d w→Q w H'):rI C gv v u H Q:=by
  unfold intD at e
  split at e
  · rename_i i j
    cases Rep.int_ rx; cases Rep.int_ ry
    obtain ⟨h1,h2⟩:=hg i j d e
    exact ⟨i,j,rfl,rfl,h1,k _ H (Same.refl _) (flat_of h2)⟩
  · cases e
theorem snd_int0 {gv:Int→Int→V}{g:Int→Int→D}(hg : ∀ i j,flat (g i j)=some (gv i j))
    (A:Addr→Prop) (H0 H:Hp) (x y:D) (v u:V) (d:D) (Q:VK) (nw:Nw A H) (rx:kD T A H0 H x v) (ry:kD T A H0 H y u) (e:intD (fun i j=>some (g i j)) x y=some d)
    (k : ∀ w H',Same H H'→kD T A H H' d w→Q w H'):rI0 gv v u H Q:=by
  obtain ⟨i,j,h1,h2,_,h3⟩:=snd_int (T:=T) (C:=fun _ _=>True) (gv:=gv) (g:=fun i j=>some (g i j)) (fun i j d e=>by cases e; exact ⟨True.intro,hg i j⟩) A H0 H x y v u d Q nw rx ry e k
  exact ⟨i,j,h1,h2,h3⟩
noncomputable def ixD:D→D→Option D
  | .lst ds,.int i=>atI ds i
  | .tup ds,.int i=>atI ds i
  | .str z,.int i=>if z.length≤1000000 then (atI z i).map fun c=>.str [c] else none
  | _,_=>none
theorem RepL.at {A:Addr→Prop}{H:Hp}{ds:List D}{vs:List V}{i:Int}{d:D}(r:RepL T A H ds vs)(e:atI ds i=some d) : ∃ v,atI vs i=some v∧Rep T A H d v:=by
  unfold atI at e ⊢
  rw [← r.length]
  cases q:ixN ds.length i with
  | none=>rw [q] at e; cases e
  | some j =>
    rw [q] at e
    exact r.get e
theorem snd_ix (A:Addr→Prop)(H0 H:Hp)(x y:D)(v u:V)(d:D)(Q:VK)(nw:Nw A H)(rx:kR T A H0 H x v)(ry:kD T A H0 H y u)(e:ixD x y=some d)
    (k : ∀ w H',Same H H'→kD T A H H' d w→Q w H'):rIx T.K v u H Q:=by
  unfold ixD at e
  split at e
  · rename_i ds i
    cases Rep.int_ ry
    obtain ⟨l,vs,rfl,hl,rl⟩:=RepR.lst_ rx
    obtain ⟨w,e2,r2⟩:=rl.at e
    exact .inl ⟨l,vs,i,w,rfl,rfl,hl,e2,k _ H (Same.refl _) r2⟩
  · rename_i ds i
    cases Rep.int_ ry
    obtain ⟨l,vs,rfl,hl,rl⟩:=RepR.tup_ rx
    obtain ⟨w,e2,r2⟩:=rl.at e
    exact .inr (.inl ⟨l,vs,i,w,rfl,rfl,hl,e2,k _ H (Same.refl _) r2⟩)
  · rename_i z i
    cases RepR.str_ rx; cases Rep.int_ ry
    by_cases c:z.length≤1000000
    · rw [if_pos c] at e
      cases e1:atI z i with
      | none=>rw [e1] at e; cases e
      | some d' =>
        rw [e1] at e; cases e
        exact .inr (.inr ⟨_,i,d',rfl,rfl,small (by rw [mkS_len]; exact c),by simpa using e1,k _ H (Same.refl _) (Rep.str [d'])⟩)
    · rw [if_neg c] at e; cases e
  · cases e
noncomputable def kRA (T:Tx):RK (List D) (List V):=fun A _ H ds vs=>match ds with
  | [d]=>∃ v,vs=[v]∧RepR T A H d v
  | ds=>RepL T A H ds vs
noncomputable instance:Kd (kRA T):=⟨fun A _ H H' ds vs s h=>by
    unfold kRA at h ⊢
    split at h
    · obtain ⟨v,e,r⟩:=h; exact ⟨v,e,RepR.mono s r⟩
    · exact RepL.mono s (fun _ z=>z) h,fun _ _ _ _ _ _ _ h=>h⟩
noncomputable def lenD:D→Option D
  | .lst ds=>some (.int ds.length)
  | .tup ds=>some (.int ds.length)
  | .str z=>if z.length≤1000000 then some (.int z.length) else none
  | _=>none
noncomputable def faR (f:FE):FA:=fun env=>(f env).map fun d=>[d]
theorem tP_one {f:FE}{σ:St}{H:Hp}{Q:List V→Hp→Prop}(h:tP T (kRA T) (faR f) σ H Q):tCons (tP T (kR T) f) tNil σ H Q:=by
  obtain ⟨W,O,env,ds,E,e,q⟩:=h
  unfold faR at e
  cases e1:f env with
  | none=>rw [e1] at e; cases e
  | some x =>
    rw [e1] at e; cases e
    exact ⟨W,O,env,x,E,e1,fun v H1 s1 r1=>q [v] H1 s1 ⟨v,rfl,r1⟩⟩
noncomputable def of1 {α:Type}(F:D→Option α):List D→Option α
  | [d]=>F d
  | _=>none
theorem snd_one {α:Type}{ρ3:RK α V}{F:D→Option α}{r:List V→Hp→VK→Prop}
    (snd : ∀ (A:Addr→Prop) (H0 H:Hp) (x:D) (v:V) (d : α) (Q:VK),Nw A H→kR T A H0 H x v→F x=some d→(∀ w H',Same H H'→ρ3 A H H' d w→Q w H')→r [v] H Q)
    (A:Addr→Prop) (H0 H:Hp) (ds:List D) (vs:List V) (d : α) (Q:VK) (nw:Nw A H) (rr:kRA T A H0 H ds vs) (e:of1 F ds=some d) (k : ∀ w H',Same H H'→ρ3 A H H' d w→Q w H'):r vs H Q:=by
  unfold of1 at e
  split at e
  · obtain ⟨v,rfl,h⟩:=rr
    exact snd A H0 H _ v d Q nw h e k
  · cases e
noncomputable def rLen (K:PySem.W.Frag):List V→Hp→VK→Prop:=fun xs H Q=>∃ x n,xs=[x]∧LenV K x H n∧Q (.int n) H
theorem snd_len (A:Addr→Prop)(H0 H:Hp)(x:D)(v:V)(d:D)(Q:VK)(nw:Nw A H)(r:kR T A H0 H x v)(e:lenD x=some d)(k : ∀ w H',Same H H'→kD T A H H' d w→Q w H'):rLen T.K [v] H Q:=by
  unfold lenD at e
  split at e
  · cases e
    obtain ⟨l,xs,rfl,hl,rl⟩:=RepR.lst_ r
    exact ⟨_,xs.length,rfl,.inl ⟨xs,hl,rfl⟩,k _ H (Same.refl _) (by rw [rl.length]; exact Rep.int _)⟩
  · cases e
    obtain ⟨l,xs,rfl,hl,rl⟩:=RepR.tup_ r
    exact ⟨_,xs.length,rfl,.inr ⟨xs,hl,rfl⟩,k _ H (Same.refl _) (by rw [rl.length]; exact Rep.int _)⟩
  · rename_i z
    by_cases c:z.length≤1000000
    · rw [if_pos c] at e; cases e
      cases RepR.str_ r
      exact ⟨_,z.length,rfl,⟨small (by rw [mkS_len]; exact c),(mkS_len z).symm⟩,k _ H (Same.refl _) (Rep.int _)⟩
    · rw [if_neg c] at e; cases e
  · cases e
noncomputable def rToL (K:PySem.W.Frag):List V→Hp→VK→Prop:=fun xs H Q=>∃ p ys,xs=[.ref p]∧(SqL K H p ys∨SqT K H p ys)∧∀ l,H l=none→Q (.ref l) (upd H l (.lst ys))
noncomputable def seqD:D→Option (List D)
  | .lst ds=>some ds
  | .tup ds=>some ds
  | _=>none
theorem snd_toL (A:Addr→Prop)(H0 H:Hp)(x:D)(v:V)(d:List D)(Q:VK)(nw:Nw A H)(r:kR T A H0 H x v)(e:seqD x=some d)(k : ∀ w H',Same H H'→kF T A H H' d w→Q w H'):rToL T.K [v] H Q:=by
  unfold seqD at e
  split at e
  · cases e
    obtain ⟨l,xs,rfl,hl,rl⟩:=RepR.lst_ r
    exact ⟨l,xs,rfl,.inl hl,fun p hp=>k _ _ (same_new hp _) (kF_new rl hp)⟩
  · cases e
    obtain ⟨l,xs,rfl,hl,rl⟩:=RepR.tup_ r
    exact ⟨l,xs,rfl,.inr hl,fun p hp=>k _ _ (same_new hp _) (kF_new rl hp)⟩
  · cases e
noncomputable def cutD {α:Type}(xs:List α)(lo hi:Option Int):List α:=(xs.drop (HT.sIx xs.length 0 lo)).take (HT.sIx xs.length xs.length hi - HT.sIx xs.length 0 lo)
noncomputable abbrev FO:=FP (Option Int)
noncomputable def intO:D→Option (Option Int)
  | .int i=>some (some i)
  | _=>none
noncomputable def foNone:FO:=fun _=>some none
noncomputable def foSome (f:FE):FO:=fp1 intO f
noncomputable def slD (x:D)(lo hi:Option Int):Option D:=match x with
  | .lst ds=>some (.lst (cutD ds lo hi))
  | .tup ds=>if HT.sIx ds.length 0 lo=0∧HT.sIx ds.length ds.length hi=ds.length then none else some (.tup (cutD ds lo hi))
  | .str z=>if z.length≤1000000 then some (.str (cutD z lo hi)) else none
  | _=>none
noncomputable def feSl {α:Type}(F:D→Option Int→Option Int→Option α)(f:FE)(l h:FO):FP α:=fun env=>(f env).bind fun x=>(l env).bind fun lo=>(h env).bind fun hi=>F x lo hi
noncomputable def rSlS:V→Option Int→Option Int→Hp→VK→Prop:=fun x lo hi H Q=>∃ z:List Nat,x=.str (mkS z)∧z.length≤1000000∧Q (.str (mkS (cutD z lo hi))) H
noncomputable def rSlD (K:PySem.W.Frag):V→Option Int→Option Int→Hp→VK→Prop:=fun x lo hi H Q=>rSlL K x lo hi H Q∨rSlT K x lo hi H Q∨rSlS x lo hi H Q
variable {σ:St}{H:Hp}{f:FE}
theorem tPO_none {Q:Option Int→Hp→Prop}(h:tP T kO foNone σ H Q):tNoPart σ H Q:=by
  obtain ⟨W,O,env,i,E,e,q⟩:=h
  cases e
  exact q none H (Same.refl _) rfl
theorem tPO_some {Q:Option Int→Hp→Prop}(h:tP T kO (foSome f) σ H Q):tPart (tP T (kD T) f) σ H Q :=
  tP_1 (ρ:=kD T) (ρ3:=kO) (r:=fun x H1 Q=>∃ i,x=.int i∧Q (some i) H1) (fun A H0 H x v d Q nw r e k=>by
    cases x with
    | int j=>cases e; exact ⟨j,Rep.int_ r,k _ H (Same.refl _) rfl⟩
    | _=>cases e) h
theorem RepL.cut {A:Addr→Prop}{ds:List D}{vs:List V}(lo hi:Option Int)(r:RepL T A H ds vs):RepL T A H (cutD ds lo hi) (cutV vs lo hi):=by
  unfold cutD cutV
  rw [← r.length]
  exact (r.drop _).take _
theorem tP_slG {α:Type}{ρ3:RK α V}[Kd ρ3]{F:D→Option Int→Option Int→Option α}{l h:FO}{Q:VK}{r:V→Option Int→Option Int→Hp→VK→Prop}
    (snd : ∀ (A:Addr→Prop) (H0 H:Hp) (x:D) (v:V) (lo hi:Option Int) (d : α) (Q:VK),Nw A H→kR T A H0 H x v→F x lo hi=some d→(∀ w H',Same H H'→ρ3 A H H' d w→Q w H')→r v lo hi H Q)
    (hh:tP T ρ3 (feSl F f l h) σ H Q):tSl r (tP T (kR T) f) (tP T kO l) (tP T kO h) σ H Q:=by
  obtain ⟨W,O,env,d,E,e,q⟩:=hh
  unfold feSl at e
  cases e1:f env with
  | none=>rw [e1] at e; cases e
  | some x =>
    rw [e1] at e
    dsimp only [Option.bind_some] at e
    cases e2:l env with
    | none=>rw [e2] at e; cases e
    | some lo =>
      rw [e2] at e
      dsimp only [Option.bind_some] at e
      cases e3:h env with
      | none=>rw [e3] at e; cases e
      | some hi =>
        rw [e3] at e
        dsimp only [Option.bind_some] at e
        refine ⟨W,O,env,x,E,e1,fun v H1 s1 r1=>⟨W,O,env,lo,E.mono s1,e2,fun lo' H2 s2 c2=>⟨W,O,env,hi,E.mono (s1.trans s2),e3,fun hi' H3 s3 c3=>?_⟩⟩⟩
        cases c2; cases c3
        have s:=s1.trans (s2.trans s3)
        exact snd (Cl W O) H H3 x v lo hi d Q (fun a n=>(E.mono s).newA n) (RepR.mono (s2.trans s3) r1) e fun w H' s4 r4=>q w H' (s.trans s4) (Kd.an _ _ _ _ _ _ s r4)
theorem snd_sl (A:Addr→Prop)(H0 H:Hp)(x:D)(v:V)(lo hi:Option Int)(d:D)(Q:VK)(nw:Nw A H)(r:kR T A H0 H x v)(e:slD x lo hi=some d)(k : ∀ w H',Same H H'→kD T A H H' d w→Q w H'):rSlD T.K v lo hi H Q:=by
  unfold slD at e
  split at e
  · cases e
    obtain ⟨a,xs,rfl,hl,rl⟩:=RepR.lst_ r
    exact .inl ⟨a,xs,rfl,hl,fun p hp=>k _ _ (same_new hp _) (Rep.newL (rl.cut lo hi) hp (nw p hp))⟩
  · rename_i ds
    by_cases c:HT.sIx ds.length 0 lo=0∧HT.sIx ds.length ds.length hi=ds.length
    · rw [if_pos c] at e; cases e
    · rw [if_neg c] at e; cases e
      obtain ⟨a,xs,rfl,hl,rl⟩:=RepR.tup_ r
      exact .inr (.inl ⟨a,xs,rfl,hl,by rw [← rl.length]; exact c,fun p hp=>k _ _ (same_new hp _) (Rep.newT (rl.cut lo hi) hp)⟩)
  · rename_i z
    by_cases c:z.length≤1000000
    · rw [if_pos c] at e; cases e
      exact .inr (.inr ⟨z,RepR.str_ r,c,k _ H (Same.refl _) (Rep.str _)⟩)
    · rw [if_neg c] at e; cases e
  · cases e
end
end DL
end
section
namespace DL
open PySem L2
inductive DFl where
  | nx (env:DEnv)
  | bk (env:DEnv)
  | ct (env:DEnv)
  | rt (d:D) (env:DEnv)
  | rf (ds:List D) (env:DEnv)
  | ex (c:Nat) (env:DEnv)
noncomputable abbrev FS:=DEnv→Option DFl
noncomputable abbrev XQ:=Nat→St→Hp→Prop
noncomputable def EndsR (T:Tx)(X:XQ)(W:Wf)(O:Addr→Prop)(H:Hp)(De:Ends):DFl→Prop
  | .nx env'=>∀ σ' H' O',EnvR T W O' H' env' σ'→Fr O H O' H'→De.nx σ' H'
  | .bk env'=>∀ σ' H' O',EnvR T W O' H' env' σ'→Fr O H O' H'→De.bk σ' H'
  | .ct env'=>∀ σ' H' O',EnvR T W O' H' env' σ'→Fr O H O' H'→De.ct σ' H'
  | .rt d env'=>∀ v σ' H' O',EnvR T W O' H' env' σ'→Fr O H O' H'→Rep T (Cl W O') H' d v→De.rt v H'
  | .rf ds env'=>∀ a xs σ' H' O',EnvR T W O' H' env' σ'→Fr O H O' H'→W.H0 a=none→H' a=some (.lst xs)→RepL T (fun b=>W.A b∧b≠a) H' ds xs→De.rt (.ref a) H'
  | .ex c env'=>∀ σ' H' O',EnvR T W O' H' env' σ'→Fr O H O' H'→X c σ' H'
noncomputable def tDs (T:Tx)(X:XQ)(F:FS):TS:=fun De σ H=>∃ W O env fl,EnvR T W O H env σ∧F env=some fl∧EndsR T X W O H De fl
theorem EndsR.fr {T:Tx}{X:XQ}{W:Wf}{H H1:Hp}{O O1:Addr→Prop}{De:Ends}(f:Fr O H O1 H1) : ∀ {fl:DFl},EndsR T X W O H De fl→EndsR T X W O1 H1 De fl
  | .nx _,h=>fun σ' H' O' E g=>h σ' H' O' E (f.trans g)
  | .bk _,h=>fun σ' H' O' E g=>h σ' H' O' E (f.trans g)
  | .ct _,h=>fun σ' H' O' E g=>h σ' H' O' E (f.trans g)
  | .rt _ _,h=>fun v σ' H' O' E g r=>h v σ' H' O' E (f.trans g) r
  | .rf _ _,h=>fun a xs σ' H' O' E g n e r=>h a xs σ' H' O' E (f.trans g) n e r
  | .ex _ _,h=>fun σ' H' O' E g=>h σ' H' O' E (f.trans g)
noncomputable def fsSeq (F G:FS):FS:=fun env=>(F env).bind fun r=>match r with
  | .nx env'=>G env'
  | r=>some r
noncomputable def fsNext:FS:=fun env=>some (.nx env)
noncomputable def fsIf (c:FT)(F G:FS):FS:=fun env=>(c env).bind fun b=>if b=true then F env else G env
noncomputable def fsRet (f:FE):FS:=fun env=>(f env).map fun d=>.rt d env
noncomputable def fsRetF (f:FP (List D)):FS:=fun env=>(f env).map fun ds=>.rf ds env
noncomputable def fsRetO (i:Nat):FS:=fun env=>match env[i]? with
  | some (.own ds)=>some (.rf ds env)
  | _=>none
noncomputable def fsSet (i:Nat)(f:FE):FS:=fun env=>(f env).map fun d=>.nx (env.set i (.val d))
noncomputable def fsOwn (i:Nat)(f:FP (List D)):FS:=fun env=>(f env).map fun ds=>.nx (env.set i (.own ds))
noncomputable def fsFrz (i:Nat)(F:FS):FS:=fun env=>match env[i]? with
  | some (.own ds)=>F (env.set i (.val (.lst ds)))
  | _=>none
section
variable {T:Tx}{X:XQ}{F G:FS}{f:FE}{De:Ends}{σ:St}{H:Hp}
theorem tDs_seq (h:tDs T X (fsSeq F G) De σ H):tSeq (tDs T X F) (tDs T X G) De σ H:=by
  obtain ⟨W,O,env,fl,E,e,q⟩:=h
  unfold fsSeq at e
  cases e1:F env with
  | none=>rw [e1] at e; cases e
  | some r =>
    rw [e1] at e
    refine ⟨W,O,env,r,E,e1, ?_⟩
    cases r with
    | nx env'=>exact fun σ' H' O' E' g=>⟨W,O',env',fl,E',e,q.fr g⟩
    | bk env'=>cases e; exact q
    | ct env'=>cases e; exact q
    | rt d env'=>cases e; exact q
    | rf d env'=>cases e; exact q
    | ex d env'=>cases e; exact q
theorem tDs_next (h:tDs T X fsNext De σ H):tNext De σ H:=by
  obtain ⟨W,O,env,fl,E,e,q⟩:=h
  cases e
  exact q σ H O E (Fr.refl _ _)
theorem tDs_ret (h:tDs T X (fsRet f) De σ H):tRet (tP T (kD T) f) De σ H:=by
  obtain ⟨W,O,env,fl,E,e,q⟩:=h
  unfold fsRet at e
  cases e1:f env with
  | none=>rw [e1] at e; cases e
  | some x =>
    rw [e1] at e
    cases e
    exact ⟨W,O,env,x,E,e1,fun v H' s r=>q v σ H' O (E.mono s) (Fr.same s) r⟩
theorem tDs_retF {f:FP (List D)}(h:tDs T X (fsRetF f) De σ H):tRet (tP T (kF T) f) De σ H:=by
  obtain ⟨W,O,env,fl,E,e,q⟩:=h
  unfold fsRetF at e
  cases e1:f env with
  | none=>rw [e1] at e; cases e
  | some x =>
    rw [e1] at e
    cases e
    refine ⟨W,O,env,x,E,e1,fun v H' s r=>?_⟩
    obtain ⟨a,xs,rfl,n,hl,r⟩:=r
    exact q a xs σ H' O (E.mono s) (Fr.same s) (E.fr.dom a n) hl (r.mono (Same.refl _) fun b z=>⟨z.1.1,z.2⟩)
theorem tDs_retO {i:Nat}(h:tDs T X (fsRetO i) De σ H):tRet (tVar i) De σ H:=by
  obtain ⟨W,O,env,fl,E,e,q⟩:=h
  unfold fsRetO at e
  split at e
  · rename_i ds es
    cases e
    obtain ⟨a,xs,e1,o,n,hl,r⟩:=E.own es
    exact ⟨.ref a,e1,q a xs σ H O E (Fr.refl _ _) n hl (r.mono (Same.refl _) fun b z=>⟨z.1,fun w=>z.2 (w ▸ o)⟩)⟩
  · cases e
theorem tDs_if {c:FT}(h:tDs T X (fsIf c F G) De σ H):tIfS (tP T kB c) (tDs T X F) (tDs T X G) De σ H:=by
  obtain ⟨W,O,env,fl,E,e,q⟩:=h
  unfold fsIf at e
  cases e1:c env with
  | none=>rw [e1] at e; cases e
  | some b =>
    rw [e1] at e
    refine ⟨W,O,env,b,E,e1,fun v H' s r=>?_⟩
    cases r
    cases b with
    | true=>exact ⟨W,O,env,fl,E.mono s,e,q.fr (Fr.same s)⟩
    | false=>exact ⟨W,O,env,fl,E.mono s,e,q.fr (Fr.same s)⟩
theorem tDs_set {i:Nat}(h:tDs T X (fsSet i f) De σ H):tAsg (tP T (kD T) f) (gName i) De σ H:=by
  obtain ⟨W,O,env,fl,E,e,q⟩:=h
  unfold fsSet at e
  cases e1:f env with
  | none=>rw [e1] at e; cases e
  | some x =>
    rw [e1] at e
    cases e
    exact ⟨W,O,env,x,E,e1,fun v H' s r=>q (σ.set i (some v)) H' O ((E.mono s).set i r) (Fr.same s)⟩
theorem EnvR.take {W:Wf}{O:Addr→Prop}{env:DEnv}{H':Hp}(E:EnvR T W O H env σ)(s:Same H H'){a:Addr}{xs:List V}(n:H a=none)(hl:H' a=some (.lst xs)) :
    EnvR T W (fun b=>O b∨b=a) H' env σ:=by
  have E1:=E.claim n (o:=.lst xs) trivial
  have s1:Same (L2.upd H a (.lst xs)) H':=fun b u h=>by
    by_cases z:b=a
    · subst z; rw [upd_same] at h; cases h; exact hl
    · rw [upd_ne z] at h; exact s b u h
  exact E1.mono s1
theorem tDs_own {i:Nat}{f:FP (List D)}(h:tDs T X (fsOwn i f) De σ H):tAsg (tP T (kF T) f) (gName i) De σ H:=by
  obtain ⟨W,O,env,fl,E,e,q⟩:=h
  unfold fsOwn at e
  cases e1:f env with
  | none=>rw [e1] at e; cases e
  | some x =>
    rw [e1] at e
    cases e
    refine ⟨W,O,env,x,E,e1,fun v H' s r=>?_⟩
    obtain ⟨a,xs,rfl,n,hl,r⟩:=r
    have E':=E.take s n hl
    have hoa : ¬ O a:=fun z=>by have:=E.mu a z; rw [n] at this; exact this
    refine q (σ.set i (some (.ref a))) H' (fun b=>O b∨b=a) (E'.setS i ⟨a,xs,rfl,.inr rfl,E.fr.dom a n,hl,r.mono (Same.refl _) fun b z=>⟨z.1.1,fun w=>w.elim z.1.2 z.2⟩⟩ ?_ ?_ (fun _ z=>nomatch z)) ⟨fun b o h _=>s b o h,fun b z=>z.elim .inl fun w=>.inr (w ▸ n),fun b h=>s.free h⟩
    · intro _ j t b hij et ot eb ej
      cases eb
      obtain ⟨c,ec,oc⟩:=(E.slot j t et).at_own ot
      rw [ej] at ec
      cases ec
      exact hoa oc
    · intro _ j dss c bs b ej ev hq hb eb
      cases eb
      obtain ⟨c',ec,oc⟩:=(E.slot j _ ej).at_own rfl
      rw [ev] at ec; cases ec
      have hc:H c=some (.lst (bs.map V.ref)):=by
        have:=E.mu c oc
        cases e:H c with
        | none=>rw [e] at this; exact this.elim
        | some u=>rw [s c u e] at hq; exact hq
      obtain ⟨_,_,ys,z⟩:=(E.slot j _ ej).inner (by rw [ev]; rfl) hc hb
      rw [n] at z; cases z
theorem tDs_frz {i:Nat}(h:tDs T X (fsFrz i F) De σ H):tDs T X F De σ H:=by
  obtain ⟨W,O,env,fl,E,e,q⟩:=h
  unfold fsFrz at e
  split at e
  · rename_i ds es
    obtain ⟨a,xs,e1,o,n,hl,r⟩:=E.own es
    have hil:i<env.length:=(List.getElem?_eq_some_iff.mp es).1
    have f:Fr O H (fun b=>O b∧b≠a) H:=⟨fun b o h _=>h,fun b z=>.inl z.1,fun b h=>h⟩
    have k:Kp (Cl W O) (Cl W fun b=>O b∧b≠a) O H H:=E.kp f
    refine ⟨W,fun b=>O b∧b≠a,_,fl,⟨E.fr.trans f,E.new,fun b z=>E.mu b z.1,fun j t et=>?_,fun j l t u b e2 e3 o2 o3 s2 s3=>?_,by simp [E.len],fun j l dss u a' bs b e2 e3 q3 hb e4 o4=>?_⟩,e,q.fr f⟩
    · rcases set_slot et with ⟨rfl,rfl,_⟩ | ⟨hij,et⟩
      · refine ⟨.ref a,by rw [e1]; rfl,Rep.lst (.inl ⟨.inl hl,E.new a n,fun z=>z.2 rfl⟩) (r.kp k)⟩
      · have hs:=E.slot j t et
        cases t with
        | no=>trivial
        | val d=>obtain ⟨u,eu,ru⟩:=hs; exact ⟨u,eu,ru.kp k⟩
        | own es' =>
          obtain ⟨b,ys,eb,ob,nb,hb,rb⟩:=hs
          exact ⟨b,ys,eb,⟨ob,fun z=>by subst z; exact hij (E.inj i j _ _ b es et rfl rfl e1 (join_some eb))⟩,nb,hb,rb.kp k⟩
        | own2 dss =>
          obtain ⟨b,bs,eb,ob,nb,hb,rb⟩:=hs
          refine ⟨b,bs,eb,⟨ob,fun z=>by subst z; exact hij (E.inj i j _ _ b es et rfl rfl e1 (join_some eb))⟩,nb,hb,rb.imp fun ds c hc z=>?_⟩
          obtain ⟨z1,z2,ys,z3,z4⟩:=z
          exact ⟨⟨z1,fun w=>E.inj2 j i dss _ b bs c et (join_some eb) hb hc es rfl (w ▸ e1)⟩,z2,ys,z3,z4.kp k⟩
        | ownU m=>obtain ⟨b,ys,eb,ob,nb,hb,lb⟩:=hs; exact ⟨b,ys,eb,⟨ob,fun z=>by subst z; exact hij (E.inj i j _ _ b es et rfl rfl e1 (join_some eb))⟩,nb,hb,lb⟩
        | red2 dss =>
          obtain ⟨b,bs,eb,ob,nb,rb⟩:=hs
          refine ⟨b,bs,eb,ob,nb,rb.imp fun ds c hc z=>?_⟩
          obtain ⟨z1,ys,z3,z4⟩:=z
          exact ⟨z1,ys,z3,z4.kp k⟩
        | red es'=>obtain ⟨b,ys,eb,ob,nb,rb⟩:=hs; exact ⟨b,ys,eb,ob,nb,rb.kp k⟩
        | obj c ks es' =>
          obtain ⟨b,C,dx,fs,eb,ob,xb,cb,hb,nb,rb⟩:=hs
          exact ⟨b,C,dx,fs,eb,⟨ob,fun z=>by subst z; exact hij (E.inj i j _ _ b es et rfl rfl e1 (join_some eb))⟩,xb,cb,hb,nb,rb.kp k⟩
    · have old : ∀ {j:Nat} {u:Slot},(env.set i (Slot.val (.lst ds)))[j]?=some u→u.isOwn=true→env[j]?=some u:=fun {j u} e' o'=>by
        rcases set_slot e' with ⟨_,rfl,_⟩ | ⟨_,e'⟩
        · cases o'
        · exact e'
      exact E.inj j l t u b (old e2 o2) (old e3 o3) o2 o3 s2 s3
    · have old : ∀ {j:Nat} {u:Slot},(env.set i (Slot.val (.lst ds)))[j]?=some u→u.isOwn=true→env[j]?=some u:=fun {j u} e' o'=>by
        rcases set_slot e' with ⟨_,rfl,_⟩ | ⟨_,e'⟩
        · cases o'
        · exact e'
      exact E.inj2 j l dss u a' bs b (old e2 rfl) e3 q3 hb (old e4 o4) o4
  · cases e
noncomputable def fsAug (i:Nat)(F:D→D→Option D)(f:FE):FS:=fun env=>(feName i env).bind fun x=>(f env).bind fun y=>(F x y).map fun d=>.nx (env.set i (.val d))
theorem tDs_aug {i:Nat}{Fo:D→D→Option D}{ti:V→V→Hp→VK→Prop}
    (snd : ∀ (A:Addr→Prop) (H:Hp) (x y:D) (v u:V) (d:D) (Q:VK),Nw A H→Rep T A H x v→Rep T A H y u→Fo x y=some d→(∀ w H',Same H H'→Rep T A H' d w→Q w H')→ti v u H Q)
    (h:tDs T X (fsAug i Fo f) De σ H) : ∃ x, σ[i]?=some (some x)∧tP T (kD T) f σ H fun y H1=>ti x y H1 fun z H2=>De.nx (σ.set i (some z)) H2:=by
  obtain ⟨W,O,env,fl,E,e,q⟩:=h
  unfold fsAug feName at e
  split at e
  · rename_i d es
    obtain ⟨v,e1,r⟩:=E.val es
    dsimp only [Option.bind_some] at e
    cases e2:f env with
    | none=>rw [e2] at e; cases e
    | some y =>
      rw [e2] at e
      dsimp only [Option.bind_some] at e
      cases e3:Fo d y with
      | none=>rw [e3] at e; cases e
      | some z =>
        rw [e3] at e
        cases e
        refine ⟨v,e1,W,O,env,y,E,e2,fun u H1 s1 r1=>?_⟩
        refine snd (Cl W O) H1 d y v u z _ (fun a n=>(E.mono s1).newA n) (Rep.mono s1 (fun _ z=>z) r) r1 e3 fun w H' s2 r2=>?_
        exact q _ H' O ((E.mono (s1.trans s2)).set i r2) (Fr.same (s1.trans s2))
  · cases e
noncomputable def fsMutG {α:Type}(i:Nat)(G:List D→α→Option (List D))(f:FP α):FS:=fun env=>match env[i]? with
  | some (.own ds)=>(f env).bind fun x=>(G ds x).map fun ds'=>.nx (env.set i (.own ds'))
  | _=>none
theorem tDs_mut {α γ:Type}{ρ:RK α γ}[Kd ρ]{i:Nat}{Gf:List D→α→Option (List D)}{f:FP α}{tf:St→Hp→(γ→Hp→Prop)→Prop}{r:V→γ→Hp→VK→Prop}
    (ht : ∀ Q,tP T ρ f σ H Q→tf σ H Q)
    (snd : ∀ (A:Addr→Prop) (H:Hp) (a:Addr) (ds:List D) (xs:List V) (x : α) (y : γ) (ds':List D) (Q:VK),H a=some (.lst xs)→RepL T A H ds xs→(∀ b,A b→b≠a)→ρ A H H x y→Gf ds x=some ds' →
      (∀ ys,(∀ A' H',(∀ d v,Rep T A H d v→Rep T A' H' d v)→(∀ d v,RepL T A H d v→RepL T A' H' d v)→RepL T A' H' ds' ys)→∀ w,Q w (upd H a (.lst ys)))→r (.ref a) y H Q)
    (hh : ∀ A H0 H x y, ρ A H0 H x y→ρ A H H x y)
    (h:tDs T X (fsMutG i Gf f) De σ H) : ∃ v, σ[i]?=some (some v)∧(∃ xs,H=H∧∃ a,v=.ref a∧H a=some (.lst xs))∧tf σ H fun y H1=>(∃ a xs,v=.ref a∧H1 a=some (.lst xs))∧r v y H1 fun _ H2=>De.nx σ H2:=by
  obtain ⟨W,O,env,fl,E,e,q⟩:=h
  unfold fsMutG at e
  split at e
  · rename_i ds es
    cases e2:f env with
    | none=>rw [e2] at e; cases e
    | some x =>
      rw [e2] at e
      dsimp only [Option.bind_some] at e
      cases e3:Gf ds x with
      | none=>rw [e3] at e; cases e
      | some ds' =>
        rw [e3] at e
        cases e
        obtain ⟨a,xs,e1,o,n,hl,rl⟩:=E.own es
        refine ⟨.ref a,e1,⟨xs,rfl,a,rfl,hl⟩,ht _ ⟨W,O,env,x,E,e2,fun y H1 s1 r1=>⟨⟨a,xs,rfl,s1 _ _ hl⟩, ?_⟩⟩⟩
        have E1:=E.mono s1
        have hl1:=s1 _ _ hl
        refine snd (Cl W O) H1 a ds xs x y ds' _ hl1 (rl.mono s1 fun _ z=>z) (fun b z w=>z.2 (w ▸ o)) (hh _ _ _ _ _ r1) e3 fun ys hy _=>?_
        have f1:Fr O H1 O (L2.upd H1 a (.lst ys)):=⟨fun b u h nn=>by rw [upd_ne (by rintro rfl; exact nn o)]; exact h,fun b h=>.inl h,fun b h=>by
          by_cases z:b=a
          · subst z; rw [upd_same] at h; cases h
          · rw [upd_ne z] at h; exact h⟩
        have k:=E1.kp f1
        obtain ⟨E2,f2⟩:=E1.upd (t:=.own ds') (o:=.lst ys) es rfl e1 trivial ⟨a,ys,rfl,o,n,upd_same,hy _ _ (fun d v h=>h.kp k) (fun d v h=>h.kp k)⟩
        exact q σ _ O E2 ((Fr.same s1).trans f2)
  · cases e
end
end DL
end
section
namespace DL
open PySem L2
noncomputable abbrev FG:=D→DEnv→Option DEnv
noncomputable def tgName (i:Nat):FG:=fun d env=>some (env.set i (.val d))
noncomputable def tgSets:List Nat→List D→DEnv→Option DEnv
  | [],[],env=>some env
  | i::is,d::ds,env=>tgSets is ds (env.set i (.val d))
  | _,_,_=>none
noncomputable def tgTup (is:List Nat):FG:=fun d env=>match d with
  | .tup ds=>tgSets is ds env
  | _=>none
noncomputable def SndG (T:Tx)(tg:FG)(g:TG):Prop:=∀ (W:Wf) (O:Addr→Prop) (H:Hp) (env env':DEnv) (σ:St) (d:D) (v:V) (Q:St→Hp→Prop),EnvR T W O H env σ→Rep T (Cl W O) H d v→tg d env=some env'→(∀ σ',EnvR T W O H env' σ'→Q σ' H)→g v σ H Q
theorem sndG_name {T:Tx}(i:Nat):SndG T (tgName i) (gName i):=fun W O H env env' σ d v Q E r e q=>by
  cases e
  exact q _ (E.set i r)
noncomputable def SndGs (T:Tx)(is:List Nat)(g:TGs):Prop:=∀ (W:Wf) (O:Addr→Prop) (H:Hp) (env env':DEnv) (σ:St) (ds:List D) (vs:List V) (Q:St→Hp→Prop),EnvR T W O H env σ→RepL T (Cl W O) H ds vs→tgSets is ds env=some env'→(∀ σ',EnvR T W O H env' σ'→Q σ' H)→g vs σ H Q
theorem sndGs_nil {T:Tx}:SndGs T [] gNil:=fun W O H env env' σ ds vs Q E r e q=>by
  cases ds with
  | nil=>cases e; exact ⟨r.nil_,q _ E⟩
  | cons d ds=>cases e
theorem sndGs_cons {T:Tx}(i:Nat){is:List Nat}{g:TGs}(h:SndGs T is g):SndGs T (i::is) (gCons (gName i) g):=fun W O H env env' σ ds vs Q E r e q=>by
  cases ds with
  | nil=>cases e
  | cons d ds =>
    obtain ⟨x,xs,rfl,r1,r2⟩:=r.cons_
    exact ⟨x,xs,rfl,h W O H _ env' _ ds xs Q (E.set i r1) r2 e q⟩
theorem tgSets_len : ∀ {is:List Nat} {ds:List D} {env env':DEnv},tgSets is ds env=some env'→ds.length=is.length
  | [],[],_,_,_=>rfl
  | [],_::_,_,_,h=>by cases h
  | _::_,[],_,_,h=>by cases h
  | i::is,d::ds,env,env',h=>by simp [tgSets_len (is:=is) (ds:=ds) h]
theorem sndG_tup {T:Tx}{is:List Nat}{g:TGs}(h:SndGs T is g):SndG T (tgTup is) (gTup T.K is.length g):=fun W O H env env' σ d v Q E r e q=>by
  unfold tgTup at e
  split at e
  · obtain ⟨a,xs,rfl,hq,rl⟩:=r.tup_
    exact ⟨a,xs,rfl,hq,by rw [← rl.length]; exact tgSets_len e,h W O H env env' σ _ xs Q E rl e q⟩
  · cases e
noncomputable def iSeq (K:PySem.W.Frag)(tl:TE):TI:=fun σ H R=>tl σ H fun x H1=>∃ a,x=.ref a∧(((∃ xs,SqL K H1 a xs)∧R (Itl K a) H1)∨((∃ xs,SqT K H1 a xs)∧R (Itt K a) H1))
noncomputable def runFor (tg:FG)(body:FS):List D→FS
  | [],env=>some (.nx env)
  | d::ds,env=>(tg d env).bind fun env1=>(body env1).bind fun r=>match r with
    | .nx e=>runFor tg body ds e
    | .ct e=>runFor tg body ds e
    | .bk e=>some (.nx e)
    | r=>some r
noncomputable def fsFor (tg:FG)(fi:FE)(body:FS):FS:=fun env=>(fi env).bind fun x=>(seqD x).bind fun ds=>runFor tg body ds env
section
variable {T:Tx}{X:XQ}{F:FS}{fi:FE}{De:Ends}{σ:St}{H:Hp}{tg:FG}{g:TG}
theorem for_step (hg:SndG T tg g){W:Wf}{H1:Hp}{O:Addr→Prop}{fl:DFl}(q:EndsR T X W O H1 De fl)(Nx:St→Hp→Prop)(rest:List D)
    (hN : ∀ env' O' σ' H',EnvR T W O' H' env' σ'→Fr O H1 O' H'→runFor tg F rest env'=some fl→Nx σ' H')
    {d:D} {v:V} {env':DEnv} {O':Addr→Prop} {σ':St} {H':Hp} (E:EnvR T W O' H' env' σ') (f:Fr O H1 O' H') (e:runFor tg F (d::rest) env'=some fl)
    (r:Rep T (Cl W O') H' d v):g v σ' H' fun σ2 H2=>tDs T X F { De with nx:=Nx,ct:=Nx,bk:=De.nx } σ2 H2:=by
  unfold runFor at e
  cases e0:tg d env' with
  | none=>rw [e0] at e; cases e
  | some env1 =>
    rw [e0] at e
    dsimp only [Option.bind_some] at e
    cases e1:F env1 with
    | none=>rw [e1] at e; cases e
    | some fl' =>
      rw [e1] at e
      refine hg W O' H' env' env1 σ' d v _ E r e0 fun σ1 E1=>⟨W,O',env1,fl',E1,e1, ?_⟩
      cases fl' with
      | nx e'=>exact fun σ2 H2 O2 E2 g2=>hN e' O2 σ2 H2 E2 (f.trans g2) e
      | ct e'=>exact fun σ2 H2 O2 E2 g2=>hN e' O2 σ2 H2 E2 (f.trans g2) e
      | bk e'=>cases e; exact fun σ2 H2 O2 E2 g2=>q σ2 H2 O2 E2 (f.trans g2)
      | rt d' m'=>cases e; exact q.fr f
      | rf d' m'=>cases e; exact q.fr f
      | ex c m'=>cases e; exact q.fr f
theorem drop_cons {α:Type}{l:List α}{j:Nat}{d : α}(h:l[j]?=some d):l.drop j=d::l.drop (j+1):=by
  obtain ⟨hj,hdj⟩:=List.getElem?_eq_some_iff.mp h
  rw [← hdj]
  exact List.drop_eq_getElem_cons hj
theorem tDs_for (hg:SndG T tg g)(h:tDs T X (fsFor tg fi F) De σ H):tFor (iSeq T.K (tP T (kD T) fi)) g (tDs T X F) De σ H:=by
  obtain ⟨W,O,env,fl,E,e,q⟩:=h
  unfold fsFor at e
  cases e1:fi env with
  | none=>rw [e1] at e; cases e
  | some x =>
    rw [e1] at e
    dsimp only [Option.bind_some] at e
    refine ⟨W,O,env,x,E,e1,fun v H1 s1 r1=>?_⟩
    have E1:=E.mono s1
    have q1:EndsR T X W O H1 De fl:=q.fr (Fr.same s1)
    cases x with
    | lst ds =>
      simp only [seqD,Option.bind_some] at e
      obtain ⟨a,xs,rfl,hl,rl⟩:=Rep.lst_ r1
      refine ⟨a,rfl,.inl ⟨⟨xs,hl.sq⟩, ?_⟩⟩
      refine for_list (xs:=xs) (fun j σ' H'=>∃ env' O',EnvR T W O' H' env' σ'∧Fr O H1 O' H'∧runFor tg F (ds.drop j) env'=some fl) ⟨env,O,E1,Fr.refl _ _,e⟩ ?_ ?_ ?_
      · rintro j σ' H' _ ⟨env',O',E',f,_⟩
        exact ((E1.kp f).ls hl).sq
      · rintro j x σ' H' hx ⟨env',O',E',f,e'⟩
        obtain ⟨d,hd,rd⟩:=rl.getV hx
        rw [drop_cons hd] at e'
        exact for_step hg q1 _ (ds.drop (j+1)) (fun env2 O2 σ2 H2 E2 g2 e2=>⟨env2,O2,E2,g2,e2⟩) E' f e' (E1.keepD f rd)
      · rintro σ' H' ⟨env',O',E',f,e'⟩
        rw [← rl.length,List.drop_length] at e'
        cases e'
        exact q1 σ' H' O' E' f
    | tup ds =>
      simp only [seqD,Option.bind_some] at e
      obtain ⟨a,xs,rfl,hl,rl⟩:=Rep.tup_ r1
      refine ⟨a,rfl,.inr ⟨⟨xs,hl⟩, ?_⟩⟩
      refine for_tup (xs:=xs) (fun j σ' H'=>∃ env' O',EnvR T W O' H' env' σ'∧Fr O H1 O' H'∧runFor tg F (ds.drop j) env'=some fl) ⟨env,O,E1,Fr.refl _ _,e⟩ ?_ ?_ ?_
      · rintro j σ' H' _ ⟨env',O',E',f,_⟩
        exact (E1.kp f).sqT hl
      · rintro j x σ' H' hx ⟨env',O',E',f,e'⟩
        obtain ⟨d,hd,rd⟩:=rl.getV hx
        rw [drop_cons hd] at e'
        exact for_step hg q1 _ (ds.drop (j+1)) (fun env2 O2 σ2 H2 E2 g2 e2=>⟨env2,O2,E2,g2,e2⟩) E' f e' (E1.keepD f rd)
      · rintro σ' H' ⟨env',O',E',f,e'⟩
        rw [← rl.length,List.drop_length] at e'
        cases e'
        exact q1 σ' H' O' E' f
    | _=>cases e
noncomputable def rInts (lo:Int)(n:Nat):List D:=(List.range n).map fun k=>D.int (lo+(k:Nat))
noncomputable def rng1:List D→Option (List D)
  | [.int j]=>if -1000000000<j∧j<1000000000 then some (rInts 0 j.toNat) else none
  | _=>none
noncomputable def rng2:List D→Option (List D)
  | [.int lo,.int j]=>if (-1000000000<j∧j<1000000000)∧-1000000000<lo∧lo<1000000000 then some (rInts lo (j - lo).toNat) else none
  | _=>none
theorem rng1_some {ds:List D}{xs:List D}(h:rng1 ds=some xs) : ∃ j,ds=[.int j]∧(-1000000000<j∧j<1000000000)∧xs=rInts 0 j.toNat:=by
  unfold rng1 at h
  split at h
  · rename_i j
    by_cases c : -1000000000<j∧j<1000000000
    · rw [if_pos c] at h; cases h; exact ⟨j,rfl,c,rfl⟩
    · rw [if_neg c] at h; cases h
  · cases h
theorem rng2_some {ds:List D}{xs:List D}(h:rng2 ds=some xs) : ∃ lo j,ds=[.int lo,.int j]∧((-1000000000<j∧j<1000000000)∧-1000000000<lo∧lo<1000000000)∧xs=rInts lo (j - lo).toNat:=by
  unfold rng2 at h
  split at h
  · rename_i lo j
    by_cases c:(-1000000000<j∧j<1000000000)∧-1000000000<lo∧lo<1000000000
    · rw [if_pos c] at h; cases h; exact ⟨lo,j,rfl,c,rfl⟩
    · rw [if_neg c] at h; cases h
  · cases h
noncomputable def fsForR (R:List D→Option (List D))(tg:FG)(f:FA)(body:FS):FS:=fun env=>(f env).bind fun ds=>(R ds).bind fun xs=>runFor tg body xs env
theorem walk_ok (hg:SndG T tg g){J:It}{items:List D}{W:Wf}{H1:Hp}{O:Addr→Prop}{fl:DFl}{env:DEnv}(E1:EnvR T W O H1 env σ)(q1:EndsR T X W O H1 De fl)
    (hgo : ∀ j H',j<items.length→J.go j H') (hst : ∀ j H',items.length≤j→J.stop j H') (hy : ∀ j H' x H2 d,items[j]?=some d→J.yld j H' x H2→H2=H'∧∀ A,Rep T A H' d x)
    (e:runFor tg F items env=some fl) :
    ∃ W:Nat→Nat→St→Hp→Prop,(∃ m,W 0 m σ H1)∧∀ j m σ H,W j m σ H →
      (J.stop j H∧De.nx σ H)∨(J.go j H∧∃ N:St→Hp→Prop,(∀ σ' H',N σ' H'→∃ m',m'<m∧W (j+1) m' σ' H')∧∀ x H',J.yld j H x H'→g x σ H' fun σ2 H2=>tDs T X F { De with nx:=N,ct:=N,bk:=De.nx } σ2 H2):=by
  let Pv:Nat→St→Hp→Prop:=fun j σ' H'=>∃ env' O',EnvR T W O' H' env' σ'∧Fr O H1 O' H'∧runFor tg F (items.drop j) env'=some fl
  refine ⟨fun j m σ' H'=>m=items.length - j∧j≤items.length∧Pv j σ' H',⟨_,rfl,Nat.zero_le _,env,O,E1,Fr.refl _ _,by simpa using e⟩, ?_⟩
  rintro j m σ' H' ⟨rfl,hj,env',O',E',f,e'⟩
  by_cases hlt:j<items.length
  · refine .inr ⟨hgo j H' hlt,Pv (j+1),fun σ2 H2 p=>⟨items.length - (j+1),by omega,rfl,hlt,p⟩,fun x H2 y=>?_⟩
    have hd:items[j]?=some items[j]:=List.getElem?_eq_getElem hlt
    obtain ⟨rfl,r⟩:=hy j H' x H2 _ hd y
    rw [drop_cons hd] at e'
    exact for_step hg q1 _ _ (fun env2 O2 σ2 H2 E2 g2 e2=>⟨env2,O2,E2,g2,e2⟩) E' f e' (r _)
  · rw [List.drop_eq_nil_of_le (by omega)] at e'
    cases e'
    exact .inl ⟨hst j H' (by omega),q1 σ' H' O' E' f⟩
theorem rInts_get {lo:Int}{n j:Nat}{d:D}(h:(rInts lo n)[j]?=some d):d=.int (lo+(j:Nat)):=by
  unfold rInts at h
  rw [List.getElem?_map] at h
  cases e:(List.range n)[j]? with
  | none=>rw [e] at h; cases h
  | some k =>
    rw [e] at h
    obtain ⟨_,hk⟩:=List.getElem?_eq_some_iff.mp e
    simp at hk
    subst hk
    cases h; rfl
theorem rInts_len (lo:Int)(n:Nat):(rInts lo n).length=n:=by simp [rInts]
theorem range_ok (hg:SndG T tg g){lo:Int}{n:Nat}{W:Wf}{H1:Hp}{O:Addr→Prop}{fl:DFl}{env:DEnv}(E1:EnvR T W O H1 env σ)(q1:EndsR T X W O H1 De fl)(e:runFor tg F (rInts lo n) env=some fl) :
    ∃ W:Nat→Nat→St→Hp→Prop,(∃ m,W 0 m σ H1)∧∀ j m σ H,W j m σ H →
      ((Itr lo n).stop j H∧De.nx σ H)∨((Itr lo n).go j H∧∃ N:St→Hp→Prop,(∀ σ' H',N σ' H'→∃ m',m'<m∧W (j+1) m' σ' H')∧∀ x H',(Itr lo n).yld j H x H'→g x σ H' fun σ2 H2=>tDs T X F { De with nx:=N,ct:=N,bk:=De.nx } σ2 H2) :=
  walk_ok hg E1 q1 (fun j H' h=>by rw [rInts_len] at h; exact h) (fun j H' h=>by rw [rInts_len] at h; exact h) (fun j H' x H2 d hd y=>by
    obtain ⟨rfl,rfl⟩:=y
    rw [rInts_get hd]
    exact ⟨rfl,fun _=>Rep.int _⟩) e
theorem tDs_for1 (hg:SndG T tg g){f:FA}(h:tDs T X (fsForR rng1 tg f F) De σ H):tFor (iRng1 (tP T (kA T) f)) g (tDs T X F) De σ H:=by
  obtain ⟨W,O,env,fl,E,e,q⟩:=h
  unfold fsForR at e
  cases e1:f env with
  | none=>rw [e1] at e; cases e
  | some ds =>
    rw [e1] at e
    dsimp only [Option.bind_some] at e
    cases e2:rng1 ds with
    | none=>rw [e2] at e; cases e
    | some xs =>
      rw [e2] at e
      obtain ⟨j,rfl,c,rfl⟩:=rng1_some e2
      refine ⟨W,O,env,_,E,e1,fun vs H1 s1 r1=>?_⟩
      obtain ⟨v,r,rfl,h1,h2⟩:=RepL.cons_ r1
      cases h2.nil_
      cases h1.int_
      exact ⟨j,rfl,by omega,by omega,range_ok hg (E.mono s1) (q.fr (Fr.same s1)) e⟩
theorem tDs_for2 (hg:SndG T tg g){f:FA}(h:tDs T X (fsForR rng2 tg f F) De σ H):tFor (iRng2 (tP T (kA T) f)) g (tDs T X F) De σ H:=by
  obtain ⟨W,O,env,fl,E,e,q⟩:=h
  unfold fsForR at e
  cases e1:f env with
  | none=>rw [e1] at e; cases e
  | some ds =>
    rw [e1] at e
    dsimp only [Option.bind_some] at e
    cases e2:rng2 ds with
    | none=>rw [e2] at e; cases e
    | some xs =>
      rw [e2] at e
      obtain ⟨lo,j,rfl,c,rfl⟩:=rng2_some e2
      refine ⟨W,O,env,_,E,e1,fun vs H1 s1 r1=>?_⟩
      obtain ⟨v,r,rfl,h1,h2⟩:=RepL.cons_ r1
      obtain ⟨v2,r2,rfl,h3,h4⟩:=h2.cons_
      cases h4.nil_
      cases h1.int_
      cases h3.int_
      exact ⟨lo,j,rfl,⟨by omega,by omega,by omega,by omega⟩,range_ok hg (E.mono s1) (q.fr (Fr.same s1)) e⟩
end
noncomputable def capσ (nt:Nat)(cap:List Nat)(σ:St):St:=List.replicate nt none++cap.map fun i=>(σ[i]?).join
noncomputable def capE (nt:Nat)(cap:List Nat)(env:DEnv):DEnv:=List.replicate nt .no++cap.map fun i=>(env[i]?).getD .no
noncomputable def tComp (nt:Nat)(cap:List Nat)(wi:TI)(g:TG)(tt:TT)(te:TE):TE:=fun σ H Q=>wi σ H fun J H1=>∃ W:Nat→Nat→List V→Hp→Prop,(∃ m,W 0 m [] H1)∧∀ i m ys H,W i m ys H →
  (J.stop i H∧ys.length≤sizeLine∧∀ l,H l=none→Q (.ref l) (upd H l (.lst ys))) ∨
  (J.go i H∧∀ x H',J.yld i H x H'→g x (capσ nt cap σ) H' fun σ2 H2=>tt σ2 H2 fun b H3 =>
    if b=true then te σ2 H3 fun y H4=>ys.length<sizeLine∧∃ m',m'<m∧W (i+1) m' (ys++[y]) H4 else ∃ m',m'<m∧W (i+1) m' ys H3)
noncomputable def runComp (tg:FG)(ft:FT)(fe:FE)(env:DEnv):List D→Option (List D)
  | []=>some []
  | d::ds=>(tg d env).bind fun e=>(ft e).bind fun b=>if b=true then (fe e).bind fun y=>(runComp tg ft fe env ds).bind fun r=>some (y::r) else runComp tg ft fe env ds
noncomputable def ffComp (nt:Nat)(cap:List Nat)(tg:FG)(fi:FE)(ft:FT)(fe:FE):FP (List D):=fun env=>(fi env).bind fun x=>(seqD x).bind fun ds=>if ds.length≤1000000 then runComp tg ft fe (capE nt cap env) ds else none
noncomputable def ffCompR (R:List D→Option (List D))(nt:Nat)(cap:List Nat)(tg:FG)(f:FA)(ft:FT)(fe:FE):FP (List D):=fun env=>(f env).bind fun x=>(R x).bind fun ds=>if ds.length≤1000000 then runComp tg ft fe (capE nt cap env) ds else none
section
variable {T:Tx}{ft:FT}{fe fi:FE}{σ:St}{H:Hp}{Q:VK}{tg:FG}{g:TG}
theorem EnvR.cap {W:Wf}{O:Addr→Prop}{env:DEnv}(E:EnvR T W O H env σ){nt:Nat}{cap:List Nat}(hc:cap.Nodup):EnvR T W O H (capE nt cap env) (capσ nt cap σ):=by
  have gE : ∀ (j:Nat) (s:Slot),(capE nt cap env)[j]?=some s→s=.no∨∃ k i,j=nt+k∧cap[k]?=some i∧env[i]?=some s∧((capσ nt cap σ)[j]?).join=(σ[i]?).join:=fun j s h=>by
    unfold capE at h
    by_cases hj:j<nt
    · rw [List.getElem?_append_left (by simpa using hj),List.getElem?_replicate,if_pos hj] at h
      cases h; exact .inl rfl
    · rw [List.getElem?_append_right (by simpa using hj),List.length_replicate,List.getElem?_map] at h
      cases e:cap[j - nt]? with
      | none=>rw [e] at h; cases h
      | some i =>
        rw [e,Option.map_some] at h
        cases e2:env[i]? with
        | none=>rw [e2] at h; cases h; exact .inl rfl
        | some s' =>
          rw [e2] at h; cases h
          refine .inr ⟨j - nt,i,by omega,e,e2, ?_⟩
          unfold capσ
          rw [List.getElem?_append_right (by simpa using hj),List.length_replicate,List.getElem?_map,e]
          rfl
  refine ⟨E.fr,E.new,E.mu,fun j s e=>?_,fun j l s t a e1 e2 o1 o2 s1 s2=>?_,by simp [capE,capσ],fun j l dss t a bs b e1 e2 q hb e3 o3 z=>?_⟩
  · rcases gE j s e with rfl | ⟨k,i,_,_,h2,h3⟩
    · trivial
    · rw [h3]; exact E.slot i s h2
  · rcases gE j s e1 with rfl | ⟨k,i,hj,hk,h2,h3⟩
    · cases o1
    · rcases gE l t e2 with rfl | ⟨k',i',hj',hk',h2',h3'⟩
      · cases o2
      · rw [s1] at h3
        rw [s2] at h3'
        have:=E.inj i i' s t a h2 h2' o1 o2 (join_some h3.symm) (join_some h3'.symm)
        subst this
        have kk:k=k':=by
          obtain ⟨hk1,hk2⟩:=List.getElem?_eq_some_iff.mp hk
          obtain ⟨hk3,hk4⟩:=List.getElem?_eq_some_iff.mp hk'
          exact (List.getElem_inj hc).mp (hk2.trans hk4.symm)
        omega
  · rcases gE j _ e1 with w | ⟨k,i,hj,hk,h2,h3⟩
    · cases w
    · rcases gE l t e3 with rfl | ⟨k',i',hj',hk',h2',h3'⟩
      · cases o3
      · rw [e2] at h3
        rw [z] at h3'
        exact E.inj2 i i' dss t a bs b h2 (join_some h3.symm) q hb h2' o3 (join_some h3'.symm)
noncomputable def WC (T:Tx)(A:Addr→Prop)(tg:FG)(ft:FT)(fe:FE)(env:DEnv)(all':List D)(H1:Hp)(all:List D)(j k:Nat)(ys:List V)(H':Hp):Prop :=
  k=all'.length - j∧j≤all'.length∧Same H1 H'∧ys.length≤j∧∃ zs rest,RepL T A H' zs ys∧runComp tg ft fe env (all'.drop j)=some rest∧zs++rest=all
theorem comp_stepS {W:Wf}{H1:Hp}{O:Addr→Prop}{env:DEnv}{nt:Nat}{cap:List Nat}(hc:cap.Nodup)(E1:EnvR T W O H1 env σ){all' all:List D}{j k:Nat}{ys:List V}{H':Hp}{d:D}{x:V}(cn:all'.length≤1000000)
    (hlt:j<all'.length) (w:WC T (Cl W O) tg ft fe (capE nt cap env) all' H1 all j k ys H') (hd:all'[j]?=some d) (st : ∀ env1,tg d (capE nt cap env)=some env1→∀ Q,(∀ σ1,EnvR T W O H' env1 σ1→Q σ1 H')→g x (capσ nt cap σ) H' Q) :
    g x (capσ nt cap σ) H' fun σ2 H2=>tP T kB ft σ2 H2 fun b H3 =>
      if b=true then tP T (kD T) fe σ2 H3 fun y H4=>ys.length<sizeLine∧∃ m',m'<k∧WC T (Cl W O) tg ft fe (capE nt cap env) all' H1 all (j+1) m' (ys++[y]) H4 else ∃ m',m'<k∧WC T (Cl W O) tg ft fe (capE nt cap env) all' H1 all (j+1) m' ys H3:=by
  obtain ⟨rfl,hj,s,hyl,zs,rest,hz,e,ea⟩:=w
  rw [drop_cons hd] at e
  unfold runComp at e
  cases e0:tg d (capE nt cap env) with
  | none=>rw [e0] at e; cases e
  | some env1 =>
    rw [e0] at e
    dsimp only [Option.bind_some] at e
    refine st env1 e0 _ fun σ1 Ec=>?_
    cases e1:ft env1 with
    | none=>rw [e1] at e; cases e
    | some b =>
      rw [e1] at e
      dsimp only [Option.bind_some] at e
      refine ⟨W,O,env1,b,Ec,e1,fun b' H3 s3 c3=>?_⟩
      cases c3
      cases b with
      | false =>
        exact ⟨all'.length - (j+1),by omega,rfl,by omega,s.trans s3,by omega,zs,rest,hz.mono s3 (fun _ z=>z),e,ea⟩
      | true =>
        rw [if_pos rfl] at e ⊢
        cases e2:fe env1 with
        | none=>rw [e2] at e; cases e
        | some y =>
          rw [e2] at e
          dsimp only [Option.bind_some] at e
          cases e3:runComp tg ft fe (capE nt cap env) (all'.drop (j+1)) with
          | none=>rw [e3] at e; cases e
          | some rest' =>
            rw [e3] at e
            cases e
            refine ⟨W,O,env1,y,Ec.mono s3,e2,fun w H4 s4 r4=>⟨Nat.lt_of_lt_of_le (show ys.length<1000001 by omega) (by decide),all'.length - (j+1),by omega, ?_⟩⟩
            refine ⟨rfl,by omega,s.trans (s3.trans s4),by simp; omega,zs++[y],rest',(hz.mono (s3.trans s4) fun _ z=>z).append (.cons r4 .nil),e3, ?_⟩
            rw [List.append_assoc]
            exact ea
theorem comp_step (hg:SndG T tg g){W:Wf}{H1:Hp}{O:Addr→Prop}{env:DEnv}{nt:Nat}{cap:List Nat}(hc:cap.Nodup)(E1:EnvR T W O H1 env σ){all' all:List D}{j k:Nat}{ys:List V}{H':Hp}{d:D}{x:V}(cn:all'.length≤1000000)
    (hlt:j<all'.length) (w:WC T (Cl W O) tg ft fe (capE nt cap env) all' H1 all j k ys H') (hd:all'[j]?=some d) (r:Rep T (Cl W O) H' d x) :
    g x (capσ nt cap σ) H' fun σ2 H2=>tP T kB ft σ2 H2 fun b H3 =>
      if b=true then tP T (kD T) fe σ2 H3 fun y H4=>ys.length<sizeLine∧∃ m',m'<k∧WC T (Cl W O) tg ft fe (capE nt cap env) all' H1 all (j+1) m' (ys++[y]) H4 else ∃ m',m'<k∧WC T (Cl W O) tg ft fe (capE nt cap env) all' H1 all (j+1) m' ys H3 :=
  comp_stepS hc E1 cn hlt w hd fun env1 e0 _ q=>hg W O H' _ env1 _ d x _ ((E1.mono w.2.2.1).cap hc) r e0 q
theorem comp_end {A:Addr→Prop}{H1:Hp}{env':DEnv}{all' all:List D}{j k:Nat}{ys:List V}{H':Hp}(hj:all'.length≤j)(w:WC T A tg ft fe env' all' H1 all j k ys H')(hl:all'.length≤1000000)
    (q : ∀ v H',Same H1 H'→kF T A H1 H' all v→Q v H'):ys.length≤sizeLine∧∀ l,H' l=none→Q (.ref l) (upd H' l (.lst ys)):=by
  obtain ⟨hk,hj2,s,hyl,zs,rest,hz,e,ea⟩:=w
  rw [List.drop_eq_nil_of_le hj] at e
  cases e
  rw [List.append_nil] at ea
  subst ea
  exact ⟨small (by omega),fun l hl=>q _ _ (s.trans (same_new hl _)) (Kd.an _ _ _ _ _ _ s (kF_new hz hl))⟩
theorem tP_comp (hg:SndG T tg g){nt:Nat}{cap:List Nat}(hc:cap.Nodup)(h:tP T (kF T) (ffComp nt cap tg fi ft fe) σ H Q):tComp nt cap (iSeq T.K (tP T (kR T) fi)) g (tP T kB ft) (tP T (kD T) fe) σ H Q:=by
  obtain ⟨W,O,env,d,E,e,q⟩:=h
  unfold ffComp at e
  cases e1:fi env with
  | none=>rw [e1] at e; cases e
  | some x =>
    rw [e1] at e
    dsimp only [Option.bind_some] at e
    refine ⟨W,O,env,x,E,e1,fun v H1 s1 r1=>?_⟩
    have E1:=E.mono s1
    cases e2:seqD x with
    | none=>rw [e2] at e; cases e
    | some ds =>
      rw [e2] at e
      dsimp only [Option.bind_some] at e
      by_cases cn:ds.length≤1000000
      · rw [if_pos cn] at e
        have q' : ∀ v H',Same H1 H'→kF T (Cl W O) H1 H' d v→Q v H':=fun v H' s r=>q v H' (s1.trans s) (Kd.an _ _ _ _ _ _ s1 r)
        have w0:WC T (Cl W O) tg ft fe (capE nt cap env) ds H1 d 0 ds.length [] H1:=⟨by simp,Nat.zero_le _,Same.refl _,Nat.zero_le _,[],d,.nil,e,rfl⟩
        cases x with
        | lst es =>
          have ee:es=ds:=Option.some.inj e2
          subst ee
          obtain ⟨a,xs,rfl,hl,rl⟩:=RepR.lst_ r1
          have len:=rl.length
          refine ⟨a,rfl,.inl ⟨⟨xs,hl⟩,WC T (Cl W O) tg ft fe (capE nt cap env) es H1 d,⟨es.length,w0⟩, ?_⟩⟩
          intro j k ys H' w
          have s:Same H1 H':=w.2.2.1
          have hlH:SqL T.K H' a xs:=s.seq hl
          by_cases hlt:j<es.length
          · refine .inr ⟨⟨xs,xs[j]'(by omega),hlH,by simp [show j<xs.length by omega]⟩,fun x H2 y=>?_⟩
            obtain ⟨e5,y⟩:=y
            subst e5
            obtain ⟨d',hd,rd⟩:=rl.getV (y xs hlH)
            exact comp_step hg hc E1 cn hlt w hd (rd.mono s fun _ z=>z)
          · exact .inl ⟨⟨xs,hlH,by omega⟩,comp_end (by omega) w cn q'⟩
        | tup es =>
          have ee:es=ds:=Option.some.inj e2
          subst ee
          obtain ⟨a,xs,rfl,hl,rl⟩:=RepR.tup_ r1
          have len:=rl.length
          refine ⟨a,rfl,.inr ⟨⟨xs,hl⟩,WC T (Cl W O) tg ft fe (capE nt cap env) es H1 d,⟨es.length,w0⟩, ?_⟩⟩
          intro j k ys H' w
          have s:Same H1 H':=w.2.2.1
          have hlH:SqT T.K H' a xs:=SqT.mono s hl
          by_cases hlt:j<es.length
          · refine .inr ⟨⟨xs,xs[j]'(by omega),hlH,by simp [show j<xs.length by omega]⟩,fun x H2 y=>?_⟩
            obtain ⟨e5,y⟩:=y
            subst e5
            obtain ⟨d',hd,rd⟩:=rl.getV (y xs hlH)
            exact comp_step hg hc E1 cn hlt w hd (rd.mono s fun _ z=>z)
          · exact .inl ⟨⟨xs,hlH,by omega⟩,comp_end (by omega) w cn q'⟩
        | _=>cases e2
      · rw [if_neg cn] at e; cases e
theorem comp_walk (hg:SndG T tg g){J:It}{items:List D}{W:Wf}{H1:Hp}{O:Addr→Prop}{env:DEnv}{nt:Nat}{cap:List Nat}(hc:cap.Nodup)(E1:EnvR T W O H1 env σ){all:List D}(cn:items.length≤1000000)
    (hgo : ∀ j H',j<items.length→J.go j H') (hst : ∀ j H',items.length≤j→J.stop j H') (hy : ∀ j H' x H2 d,items[j]?=some d→J.yld j H' x H2→H2=H'∧∀ A,Rep T A H' d x)
    (e3:runComp tg ft fe (capE nt cap env) items=some all) (q : ∀ v H',Same H1 H'→kF T (Cl W O) H1 H' all v→Q v H') :
    ∃ W:Nat→Nat→List V→Hp→Prop,(∃ m,W 0 m [] H1)∧∀ i m ys H,W i m ys H →
      (J.stop i H∧ys.length≤sizeLine∧∀ l,H l=none→Q (.ref l) (upd H l (.lst ys))) ∨
      (J.go i H∧∀ x H',J.yld i H x H'→g x (capσ nt cap σ) H' fun σ2 H2=>tP T kB ft σ2 H2 fun b H3 =>
        if b=true then tP T (kD T) fe σ2 H3 fun y H4=>ys.length<sizeLine∧∃ m',m'<m∧W (i+1) m' (ys++[y]) H4 else ∃ m',m'<m∧W (i+1) m' ys H3):=by
  refine ⟨WC T (Cl W O) tg ft fe (capE nt cap env) items H1 all,⟨items.length,by simp,Nat.zero_le _,Same.refl _,Nat.zero_le _,[],all,.nil,e3,rfl⟩, ?_⟩
  intro j k ys H' w
  by_cases hlt:j<items.length
  · refine .inr ⟨hgo j H' hlt,fun x H2 y=>?_⟩
    have hd:items[j]?=some items[j]:=List.getElem?_eq_getElem hlt
    obtain ⟨rfl,r⟩:=hy j H' x H2 _ hd y
    exact comp_step hg hc E1 cn hlt w hd (r _)
  · exact .inl ⟨hst j H' (by omega),comp_end (by omega) w cn q⟩
theorem tP_comp1 (hg:SndG T tg g){nt:Nat}{cap:List Nat}{f:FA}(hc:cap.Nodup)(h:tP T (kF T) (ffCompR rng1 nt cap tg f ft fe) σ H Q):tComp nt cap (iRng1 (tP T (kA T) f)) g (tP T kB ft) (tP T (kD T) fe) σ H Q:=by
  obtain ⟨W,O,env,d,E,e,q⟩:=h
  unfold ffCompR at e
  cases e1:f env with
  | none=>rw [e1] at e; cases e
  | some x =>
    rw [e1] at e
    dsimp only [Option.bind_some] at e
    cases e2:rng1 x with
    | none=>rw [e2] at e; cases e
    | some ds =>
      rw [e2] at e
      dsimp only [Option.bind_some] at e
      obtain ⟨j,rfl,c,rfl⟩:=rng1_some e2
      by_cases cn:(rInts 0 j.toNat).length≤1000000
      · rw [if_pos cn] at e
        refine ⟨W,O,env,_,E,e1,fun vs H1 s1 r1=>?_⟩
        obtain ⟨v,r,rfl,h1,h2⟩:=RepL.cons_ r1
        cases h2.nil_
        cases h1.int_
        exact ⟨j,rfl,by omega,by omega,comp_walk hg hc (E.mono s1) cn (fun j H' h=>by rw [rInts_len] at h; exact h) (fun j H' h=>by rw [rInts_len] at h; exact h) (fun j H' x H2 d hd y=>by
          obtain ⟨rfl,rfl⟩:=y
          rw [rInts_get hd]
          exact ⟨rfl,fun _=>Rep.int _⟩) e fun v H' s r=>q v H' (s1.trans s) (Kd.an _ _ _ _ _ _ s1 r)⟩
      · rw [if_neg cn] at e; cases e
theorem tP_comp2 (hg:SndG T tg g){nt:Nat}{cap:List Nat}{f:FA}(hc:cap.Nodup)(h:tP T (kF T) (ffCompR rng2 nt cap tg f ft fe) σ H Q):tComp nt cap (iRng2 (tP T (kA T) f)) g (tP T kB ft) (tP T (kD T) fe) σ H Q:=by
  obtain ⟨W,O,env,d,E,e,q⟩:=h
  unfold ffCompR at e
  cases e1:f env with
  | none=>rw [e1] at e; cases e
  | some x =>
    rw [e1] at e
    dsimp only [Option.bind_some] at e
    cases e2:rng2 x with
    | none=>rw [e2] at e; cases e
    | some ds =>
      rw [e2] at e
      dsimp only [Option.bind_some] at e
      obtain ⟨lo,j,rfl,c,rfl⟩:=rng2_some e2
      by_cases cn:(rInts lo (j - lo).toNat).length≤1000000
      · rw [if_pos cn] at e
        refine ⟨W,O,env,_,E,e1,fun vs H1 s1 r1=>?_⟩
        obtain ⟨v,r,rfl,h1,h2⟩:=RepL.cons_ r1
        obtain ⟨v2,r2,rfl,h3,h4⟩:=h2.cons_
        cases h4.nil_
        cases h1.int_
        cases h3.int_
        exact ⟨lo,j,rfl,⟨by omega,by omega,by omega,by omega⟩,comp_walk hg hc (E.mono s1) cn (fun j H' h=>by rw [rInts_len] at h; exact h) (fun j H' h=>by rw [rInts_len] at h; exact h) (fun j H' x H2 d hd y=>by
          obtain ⟨rfl,rfl⟩:=y
          rw [rInts_get hd]
          exact ⟨rfl,fun _=>Rep.int _⟩) e fun v H' s r=>q v H' (s1.trans s) (Kd.an _ _ _ _ _ _ s1 r)⟩
      · rw [if_neg cn] at e; cases e
end
noncomputable def spD (T:Tx)(n:Nat)(F:List D→Option D):Sp:=fun vs H Q _=>vs.length=n∧∃ A ds d,Nw A H∧RepL T A H ds vs∧F ds=some d∧∀ v H',Same H H'→Rep T A H' d v→Q v H'
noncomputable def spF (T:Tx)(n:Nat)(F:List D→Option (List D)):Sp:=fun vs H Q _=>vs.length=n∧∃ A ds d,Nw A H∧RepL T A H ds vs∧F ds=some d∧∀ v H',Same H H'→kF T A H H' d v→Q v H'
noncomputable def feCall {α:Type}(n:Nat)(F:List D→Option α)(f:FA):FP α:=fun env=>(f env).bind fun ds=>if ds.length=n then F ds else none
section
variable {T:Tx}{σ:St}{H:Hp}{Q:VK}
theorem tP_call {n:Nat}{F:List D→Option D}{f:FA}{E0:XK}(h:tP T (kD T) (feCall n F f) σ H Q):tCall (spD T n F) [] E0 (tP T (kA T) f) σ H Q:=by
  obtain ⟨W,O,env,d,E,e,q⟩:=h
  unfold feCall at e
  cases e1:f env with
  | none=>rw [e1] at e; cases e
  | some ds =>
    rw [e1] at e
    dsimp only [Option.bind_some] at e
    by_cases c:ds.length=n
    · rw [if_pos c] at e
      refine ⟨W,O,env,ds,E,e1,fun vs H1 s1 r1=>?_⟩
      show spD T n F (vs++[]) H1 Q E0
      rw [List.append_nil]
      exact ⟨by rw [← RepL.length r1]; exact c,Cl W O,ds,d,fun a n=>(E.mono s1).newA n,r1,e,fun v H' s r=>q v H' (s1.trans s) r⟩
    · rw [if_neg c] at e; cases e
theorem tP_callF {n:Nat}{F:List D→Option (List D)}{f:FA}{E0:XK}(h:tP T (kF T) (feCall n F f) σ H Q):tCall (spF T n F) [] E0 (tP T (kA T) f) σ H Q:=by
  obtain ⟨W,O,env,d,E,e,q⟩:=h
  unfold feCall at e
  cases e1:f env with
  | none=>rw [e1] at e; cases e
  | some ds =>
    rw [e1] at e
    dsimp only [Option.bind_some] at e
    by_cases c:ds.length=n
    · rw [if_pos c] at e
      refine ⟨W,O,env,ds,E,e1,fun vs H1 s1 r1=>?_⟩
      show spF T n F (vs++[]) H1 Q E0
      rw [List.append_nil]
      exact ⟨by rw [← RepL.length r1]; exact c,Cl W O,ds,d,fun a n=>(E.mono s1).newA n,r1,e,fun v H' s r=>q v H' (s1.trans s) (Kd.an _ _ _ _ _ _ s1 r)⟩
    · rw [if_neg c] at e; cases e
noncomputable def envOf (n:Nat)(ds:List D):DEnv:=ds.map Slot.val++List.replicate (n - ds.length) .no
noncomputable def bodyF (N:Nat)(F:FS):List D→Option D:=fun ds=>(F (envOf N ds)).bind fun r=>match r with
  | .rt d _=>some d
  | .nx _=>some .non
  | _=>none
noncomputable def bodyFF (N:Nat)(F:FS):List D→Option (List D):=fun ds=>(F (envOf N ds)).bind fun r=>match r with
  | .rf ds _=>some ds
  | _=>none
theorem body_start {A:Addr→Prop}(nw:Nw A H){vs:List V}{ds:List D}{n:Nat}(h:RepL T A H ds vs):EnvR T ⟨A,H,fun _=>False⟩ (fun _=>False) H (envOf n ds) (vs.map some++List.replicate (n - vs.length) none):=by
  have len:=h.length
  have gE : ∀ (j:Nat) (s:Slot),(envOf n ds)[j]?=some s→s=.no∨∃ d,ds[j]?=some d∧s=.val d:=fun j s e=>by
    unfold envOf at e
    by_cases hj:j<ds.length
    · rw [List.getElem?_append_left (by simpa using hj),List.getElem?_map] at e
      cases e2:ds[j]? with
      | none=>rw [e2] at e; cases e
      | some d=>rw [e2] at e; cases e; exact .inr ⟨d,rfl,rfl⟩
    · rw [List.getElem?_append_right (by simpa using hj),List.getElem?_replicate] at e
      split at e
      · cases e; exact .inl rfl
      · cases e
  refine ⟨Fr.refl _ _,nw,fun _ z=>z.elim,fun j s e=>?_,fun j l s t a e1 _ o1 _ _ _=>?_, ?_,fun j l dss t a bs b e1 _ _ _ _ _=>?_⟩
  · rcases gE j s e with rfl | ⟨d,e1,rfl⟩
    · trivial
    · obtain ⟨v,e3,r⟩:=h.get e1
      refine ⟨v, ?_,r.mono (Same.refl _) fun _ z=>⟨z,fun w=>w⟩⟩
      have hj:j<vs.length:=(List.getElem?_eq_some_iff.mp e3).1
      rw [List.getElem?_append_left (by simpa using hj),List.getElem?_map,e3]
      rfl
  · rcases gE j s e1 with rfl | ⟨d,_,rfl⟩ <;> cases o1
  · simp [envOf,len]
  · rcases gE j _ e1 with w | ⟨d,_,w⟩ <;> cases w
theorem body_ok {N n:Nat}{F:FS}{vs:List V}{E0:XK}(h:spD T n (bodyF N F) vs H Q E0):tDs T (fun _ _ _=>False) F { nx:=fun _ H'=>Q .non H',rt:=Q } (vs.map some++List.replicate (N - vs.length) none) H:=by
  obtain ⟨hn,A,ds,d,nw,r,e,q⟩:=h
  unfold bodyF at e
  cases e1:F (envOf N ds) with
  | none=>rw [e1] at e; cases e
  | some fl =>
    rw [e1] at e
    refine ⟨⟨A,H,fun _=>False⟩,fun _=>False,envOf N ds,fl,body_start nw r,e1, ?_⟩
    have sm : ∀ {O':Addr→Prop} {H':Hp},Fr (fun _=>False) H O' H'→Same H H':=fun f b o h=>f.keep b o h fun z=>z
    cases fl with
    | nx env'=>cases e; exact fun σ' H' O' E' g=>q .non H' (sm g) Rep.non
    | rt d' m=>cases e; exact fun v σ' H' O' E' g r'=>q v H' (sm g) (r'.mono (Same.refl _) fun a z=>z.1)
    | rf _ _=>cases e
    | bk _=>cases e
    | ct _=>cases e
    | ex _ _=>cases e
theorem body_okF {N n:Nat}{F:FS}{vs:List V}{E0:XK}(h:spF T n (bodyFF N F) vs H Q E0):tDs T (fun _ _ _=>False) F { nx:=fun _ H'=>Q .non H',rt:=Q } (vs.map some++List.replicate (N - vs.length) none) H:=by
  obtain ⟨hn,A,ds,d,nw,r,e,q⟩:=h
  unfold bodyFF at e
  cases e1:F (envOf N ds) with
  | none=>rw [e1] at e; cases e
  | some fl =>
    rw [e1] at e
    refine ⟨⟨A,H,fun _=>False⟩,fun _=>False,envOf N ds,fl,body_start nw r,e1, ?_⟩
    have sm : ∀ {O':Addr→Prop} {H':Hp},Fr (fun _=>False) H O' H'→Same H H':=fun f b o h=>f.keep b o h fun z=>z
    cases fl with
    | rf d' m=>cases e; exact fun a xs σ' H' O' E' g n hl r'=>q _ H' (sm g) ⟨a,xs,rfl,n,hl,r'⟩
    | nx _=>cases e
    | rt _ _=>cases e
    | bk _=>cases e
    | ct _=>cases e
    | ex _ _=>cases e
end
end DL
end
section
namespace L2
open PySem PySem.Spec PyProof.Rows DL
section
variable {prog:Program}{w:World}{A:Around}{R:Result→Shared→Prop}{s:Shared}
theorem compLoop_any {elt target iter:Expr}{ifs:List Expr}{scope:Scope}{pos:Pos}{it acc:Value}{env:Env}(I:Nat→Shared→Prop)
    (turn : ∀ n s,I n s→wpAny (model prog w) A (pyNext it) (fun r s₁=>match r with
      | none=>R (.ok .next) s₁
      | some v=>wpAny (model prog w) A (letOwnedTupleGo target it v) (fun _ s₁'=>wpAny (model prog w) A (assign target env v) (fun _ s₂ =>
          wpAny (model prog w) A (forIn ifs true fun c r=>if r=true then do let ok ← isTrue c env (eval c env); pure (ForInStep.yield ok) else pure (ForInStep.yield r)) (fun ok s₃ =>
            if ok=true then wpAny (model prog w) A (eval elt env) (fun x s₄ =>
              wpAny (model prog w) A (call (.builtin "list.append") [acc,x]) (fun _ s₅=>∃ m,m<n∧I m s₅) (notedBy (model prog w) A env fun e s'=>R (.error e) s') s₄) (notedBy (model prog w) A env fun e s'=>R (.error e) s') s₃
            else ∃ m,m<n∧I m s₃) (notedBy (model prog w) A env fun e s'=>R (.error e) s') s₂) (notedBy (model prog w) A env fun e s'=>R (.error e) s') s₁') (notedBy (model prog w) A env fun e s'=>R (.error e) s') s₁) (notedBy (model prog w) A env fun e s'=>R (.error e) s') s)
    (n:Nat) (h:I n s):codeAny (model prog w) A (.compLoop (.ListComp elt [⟨target,iter,ifs,0⟩] scope pos) 0 it acc env) R s:=by
  refine codeAny_loop rfl I (fun n s hI=>?_) n h
  show wpAny _ A ((compTurn (.ListComp elt [⟨target,iter,ifs,0⟩] scope pos) 0 it acc env).onRaise (fun x=>do noteFrame x env; theTreesLotGoes x)) _ _ s
  refine wpAny_noted ?_
  rw [compTurn_list]
  refine wpAny_bind (wpAny_standAt (wpAny_bind (wpAny_mono (turn n s hI) (fun r s₁ h₁=>?_) fun _ _ h'=>h')))
  cases r with
  | none=>exact wpAny_pure h₁
  | some v =>
    refine wpAny_bind (wpAny_mono h₁ (fun _ s₁' h₁'=>?_) fun _ _ h'=>h')
    refine wpAny_bind (wpAny_mono h₁' (fun _ s₂ h₂=>wpAny_bind (wpAny_mono h₂ (fun ok s₃ h₃=>?_) fun _ _ h'=>h')) fun _ _ h'=>h')
    cases ok with
    | false=>exact wpAny_pure ⟨rfl,h₃⟩
    | true =>
      exact wpAny_bind (wpAny_bind (wpAny_mono h₃ (fun x s₄ h₄=>wpAny_bind (wpAny_mono h₄ (fun _ s₅ h₅=>wpAny_pure (wpAny_pure ⟨rfl,h₅⟩)) fun _ _ h'=>h')) fun _ _ h'=>h'))
end
noncomputable def closeL (cells:List (Str × Addr)):List (Str × NameKind)→List (Str × Addr)→List (Str × Addr)
  | [],acc=>acc
  | (n,k)::r,acc=>if (k == .free)=true then closeL cells r ((n,(cells.lookup n).getD 0)::acc) else closeL cells r acc
theorem closeL_sub (cells:List (Str × Addr)) : ∀ (l:List (Str × NameKind)) (acc:List (Str × Addr)),(∀ y∈l,y.2=.free→∃ c,cells.lookup y.1=some c)→(∀ x c,acc.lookup x=some c→cells.lookup x=some c) →
    ∀ x c,(closeL cells l acc).lookup x=some c→cells.lookup x=some c
  | [],acc,_,ha=>ha
  | (n,k)::r,acc,h,ha=>by
    unfold closeL
    split
    · rename_i hk
      have hk':k=.free:=by simpa using hk
      obtain ⟨c0,e0⟩:=h (n,k) List.mem_cons_self hk'
      refine closeL_sub cells r _ (fun y hy=>h y (List.mem_cons_of_mem _ hy)) fun x c e=>?_
      dsimp only at e0
      rw [e0,Option.getD_some] at e
      by_cases hx:x=n
      · subst hx
        rw [List.lookup_cons_self] at e
        rw [e0]; exact e
      · have hb:(x == n)=false:=by simpa using hx
        rw [List.lookup_cons,hb] at e
        exact ha x c e
    · exact closeL_sub cells r acc (fun y hy=>h y (List.mem_cons_of_mem _ hy)) ha
theorem closeL_acc (cells:List (Str × Addr)) : ∀ (l:List (Str × NameKind)) (acc:List (Str × Addr)) (x:Str),(∃ c,acc.lookup x=some c)→∃ c,(closeL cells l acc).lookup x=some c
  | [],acc,x,h=>h
  | (n,k)::r,acc,x,h=>by
    unfold closeL
    split
    · refine closeL_acc cells r _ x ?_
      cases hb:x == n with
      | true=>exact ⟨_,by rw [List.lookup_cons,hb]⟩
      | false=>obtain ⟨c,e⟩:=h; exact ⟨c,by rw [List.lookup_cons,hb]; exact e⟩
    · exact closeL_acc cells r acc x h
theorem closeL_has (cells:List (Str × Addr)) : ∀ (l:List (Str × NameKind)) (acc:List (Str × Addr)) (x:Str),(x,NameKind.free)∈l→∃ c,(closeL cells l acc).lookup x=some c
  | (n,k)::r,acc,x,h=>by
    unfold closeL
    rcases List.mem_cons.mp h with e | h
    · cases e
      rw [if_pos (by simp)]
      exact closeL_acc cells r ((n,(cells.lookup n).getD 0)::acc) n ⟨_,by rw [List.lookup_cons_self]⟩
    · split
      · exact closeL_has cells r _ x h
      · exact closeL_has cells r _ x h
theorem closureFor_eq {scope:Scope}{env:Env}(h : ∀ y∈scope.names,y.2=.free→∃ c,env.cells.lookup y.1=some c):closureFor scope env=pure (closeL env.cells scope.names []):=by
  unfold closureFor
  have go : ∀ (l:List (Str × NameKind)) (acc:List (Str × Addr)),(∀ y∈l,y.2=.free→∃ c,env.cells.lookup y.1=some c) →
      (forIn (m:=Sem) l acc fun x r=>match x with
        | (name,kind)=>if (kind == NameKind.free)=true then do let a ← cellOf env name; pure (ForInStep.yield ((name,a)::r)) else pure (ForInStep.yield r))=pure (closeL env.cells l acc):=by
    intro l
    induction l with
    | nil=>intro acc _; rfl
    | cons y r ih =>
      intro acc hl
      obtain ⟨n,k⟩:=y
      rw [List.forIn_cons]
      unfold closeL
      cases hk:(k == NameKind.free) with
      | true =>
        obtain ⟨c,e⟩:=hl (n,k) List.mem_cons_self (by simpa using hk)
        dsimp only at e
        have hc:cellOf env n=pure c:=by unfold cellOf; rw [e]
        simp only [hc,hk,if_true,e,Option.getD_some]
        exact ih _ fun y hy=>hl y (List.mem_cons_of_mem _ hy)
      | false =>
        simp only [hk,Bool.false_eq_true,if_false]
        exact ih _ fun y hy=>hl y (List.mem_cons_of_mem _ hy)
  exact (congrArg (fun m=>m >>= fun cs=>pure cs) (go scope.names [] h)).trans rfl
theorem relabel_free {env:Env} : ∀ {names:List (Str × NameKind)} {x:Str},names.lookup x=some .free →
    (names.map fun (n,k)=>if (k == NameKind.free && env.scope.kind == .function && env.kindOf n == some .cell) then (n,NameKind.cell) else (n,k)).lookup x=some .cell ∨
    (names.map fun (n,k)=>if (k == NameKind.free && env.scope.kind == .function && env.kindOf n == some .cell) then (n,NameKind.cell) else (n,k)).lookup x=some .free
  | [],_,h=>by simp at h
  | (n,k)::r,x,h=>by
    have ih:=@relabel_free env r x
    rw [List.map_cons]
    cases hx:x == n with
    | true =>
      rw [List.lookup_cons,hx] at h
      cases h
      dsimp only
      split <;> simp [List.lookup_cons,hx]
    | false =>
      rw [List.lookup_cons,hx] at h
      dsimp only
      split <;> simp only [List.lookup_cons,hx] <;> exact ih h
theorem of_relabel {env:Env} : ∀ {names:List (Str × NameKind)} {x:Str} {k0:NameKind},(∀ y∈names,y.2≠.cell) →
    (names.map fun (n,k)=>if (k == NameKind.free && env.scope.kind == .function && env.kindOf n == some .cell) then (n,NameKind.cell) else (n,k)).lookup x=some k0→(k0=.cell∨k0=.free)→names.lookup x=some .free
  | [],_,_,_,h,_=>by simp at h
  | (n,k)::r,x,k0,hn,h,hk=>by
    have ih:=@of_relabel env r x k0 (fun y hy=>hn y (List.mem_cons_of_mem _ hy))
    rw [List.map_cons] at h
    cases hx:x == n with
    | true =>
      rw [List.lookup_cons,hx]
      have h0:=hn (n,k) List.mem_cons_self
      dsimp only at h h0
      by_cases c:(k == NameKind.free && env.scope.kind == .function && env.kindOf n == some .cell)=true
      · have:k=.free:=by
          have:=(Bool.and_eq_true_iff.mp (Bool.and_eq_true_iff.mp c).1).1
          simpa using this
        rw [this]
      · rw [if_neg c,List.lookup_cons,hx] at h
        cases h
        rcases hk with rfl | rfl
        · exact absurd rfl h0
        · rfl
    | false =>
      rw [List.lookup_cons,hx]
      dsimp only at h
      by_cases c:(k == NameKind.free && env.scope.kind == .function && env.kindOf n == some .cell)=true
      · rw [if_pos c,List.lookup_cons,hx] at h; exact ih h hk
      · rw [if_neg c,List.lookup_cons,hx] at h; exact ih h hk
noncomputable def compCx (X:Cx)(scope:Scope)(cl:List (Str × Addr))(N':List Str)(C:Addr)(s2:Shared)(H2:Hp)(fp:List Addr):Cx :=
  { X with N:=N',s₀:=s2,H₀:=H2,env:=compEnvC scope cl C X.env,outer:=X.stack,stack:=X.stack,ex:=fp,fn:=fun _=>false,pn:=[],xe:=fun _ _=>False }
structure CompChk (sc scope:Scope)(N N':List Str)(nt:Nat)(cap:List Nat):Prop where
  kind:scope.kind=.function
  nocell : ∀ y∈scope.names,y.2≠.cell
  names : ∀ y∈scope.names,y.2=.local→scope.names.lookup y.1=some .local
  fr : ∀ y∈scope.names,y.2=.free→sc.names.lookup y.1=some .cell∨sc.names.lookup y.1=some .free
  len:N'.length=nt+cap.length
  cap : ∀ j∈List.range cap.length, ∀ x∈N'[nt+j]?, ∀ i∈cap[j]?,N[i]?=some x∧scope.names.lookup x=some .free
noncomputable def PIfs (X:Cx)(ifs:List Expr)(t:TT):Prop :=
  ∀ (pins:List (Addr × Obj)) (s:Shared) (σ:St) (H:Hp) (Q:Bool→Hp→Prop),Inv X pins σ H s→t σ H Q →
    wpAny (model X.prog X.w) X.A (forIn ifs true fun c r=>if r=true then do let ok ← isTrue c X.env (eval c X.env); pure (ForInStep.yield ok) else pure (ForInStep.yield r)) (TP X pins σ Q) X.xe s
noncomputable def tYes:TT:=fun _ H Q=>Q true H
theorem pifs_nil {X:Cx}:PIfs X [] tYes:=fun _ _ _ H _ I h=>wpAny_tests_nil ⟨H,I,h⟩
noncomputable def GExt (nt:Nat)(g:TG):Prop:=∀ x σ H Q,g x σ H Q→g x σ H fun σ2 H2=>((∀ j:Nat,nt≤j→σ2[j]?=σ[j]?)∧σ2.length=σ.length)∧Q σ2 H2
theorem gext_name {i nt:Nat}(h:i<nt):GExt nt (gName i):=fun x σ H Q q=>⟨⟨fun j hj=>by rw [List.getElem?_set_ne (by omega)],by simp⟩,q⟩
section
variable {X:Cx}{elt iter tg:Expr}{ifs:List Expr}{scope:Scope}{pos:Pos}{wi:TI}{g:TG}{tt:TT}{te:TE}{sc:Scope}{N N':List Str}{nt:Nat}{cap:List Nat}
theorem comp_ok {pins:List (Addr × Obj)}{σ:St}{H2:Hp}{s2:Shared}{fp:List Addr}{h1:Heap}{C D:Addr}{o:Obj}{tk:Nat}(hsc:X.env.scope=sc)(hN:X.N=N)(chk:CompChk sc scope N N' nt cap)
    (I2:Inv X pins σ H2 s2) (f2 : ∀ b∈fp,FpOk X pins H2 b) (hD:s2.heap.objs.size=D) (hC:s2.heap.objs.size<C) (hns:h1.Ns C fun _=>none) (old : ∀ b o,s2.heap.get? b=some o→h1.get? b=some o)
    (hfp : ∀ b∈fp,b<s2.heap.objs.size) (ho:h1.get? D=some o) (hod : ∀ v,o.data≠.cell v) :
    Inv (compCx X scope (closeL X.env.cells scope.names []) N' C s2 H2 fp) [(D,o)] (capσ nt cap σ) H2 { s2 with heap:=h1,toks:=tk }:=by
  have hcells : ∀ y∈scope.names,y.2=.free→∃ c,X.env.cells.lookup y.1=some c:=fun y hy hk=>I2.ok.has y.1 (by show X.env.scope.names.lookup y.1=_∨X.env.scope.names.lookup y.1=_; rw [hsc]; exact chk.fr y hy hk)
  have hsub : ∀ x c,(closeL X.env.cells scope.names []).lookup x=some c→X.env.cells.lookup x=some c:=closeL_sub X.env.cells scope.names [] hcells (fun x c e=>by simp at e)
  have hhas : ∀ x,scope.names.lookup x=some .free→∃ c,(closeL X.env.cells scope.names []).lookup x=some c:=fun x e=>closeL_has X.env.cells scope.names [] x (PySem.mem_of_lookup e)
  have nst : ∀ b,s2.heap.objs.size≤b→b ∉ frs X.stack:=fun b hb hm=>by
    rcases List.mem_cons.mp (I2.stkSub b hm) with e | e
    · rw [e] at hb; exact absurd (Nat.lt_of_lt_of_le I2.lt hb) (Nat.lt_irrefl _)
    · exact I2.nofs hb e
  have nC : ∀ x c,X.env.cells.lookup x=some c→c<s2.heap.objs.size:=fun x c e=>by
    obtain ⟨v,q⟩:=I2.cell x c e
    exact q.lt
  refine ⟨⟨I2.ok.mod,chk.kind,I2.ok.glob,I2.ok.blt,Nat.le_of_lt hC,fun x y c e1 e2=>I2.ok.inj x y c (hsub x c e1) (hsub y c e2),fun x hk=>?_,fun x c z _=>(nomatch z),fun hc=>I2.ok.hd hc,I2.ok.frames,.inl rfl,
    fun b hb=>⟨Nat.ne_of_lt (Nat.lt_trans (hfp b hb) hC),fun x c e=>(f2 b hb).2.2.2.2.1 x c (hsub x c e)⟩,I2.bs,Nat.le_trans I2.ok.bsz I2.sz,fun b ob e hb=>?_,fun b hb hm=>?_,I2.stack,I2.stkFree⟩,
    rfl,I2.bare,Un.kept old,⟨_,hns,fun j x v e1 e2 e3=>?_⟩,fun x c e=>?_,I2.hok.fresh (Nat.le_of_lt hC),fun x c e=>I2.freeC x c (hsub x c e),fun p hp=>?_,I2.hok.kept old, ?_⟩
  ·
    have hk':(relabel scope X.env).names.lookup x=some .cell∨(relabel scope X.env).names.lookup x=some .free:=hk
    rcases hk' with e | e
    · exact hhas x (of_relabel chk.nocell e (.inl rfl))
    · exact hhas x (of_relabel chk.nocell e (.inr rfl))
  ·
    rcases (f2 b hb).2.2.2.1 with z | z
    · exact I2.ok.noex b ob e z
    · exact absurd (Nat.lt_of_lt_of_le (Heap.lt_size e) (Nat.le_trans I2.ok.bsz z)) (Nat.lt_irrefl _)
  ·
    rcases List.mem_cons.mp (I2.stkSub b hm) with e | e
    · exact (f2 b hb).2.1 e
    · exact (f2 b hb).2.2.1 e
  ·
    have hj:nt≤j:=by
      apply Nat.le_of_not_lt
      intro hj
      unfold capσ at e2
      rw [List.getElem?_append_left (by simpa using hj),List.getElem?_replicate,if_pos hj] at e2
      cases e2
    obtain ⟨l,rfl⟩ : ∃ l,j=nt+l:=⟨j - nt,by omega⟩
    unfold capσ at e2
    rw [List.getElem?_append_right (by simp),List.length_replicate,Nat.add_sub_cancel_left,List.getElem?_map] at e2
    cases ec:cap[l]? with
    | none=>rw [ec] at e2; cases e2
    | some i =>
      rw [ec,Option.map_some] at e2
      have hl:l<cap.length:=(List.getElem?_eq_some_iff.mp ec).1
      have e1':N'[nt+l]?=some x:=e1
      obtain ⟨h3,h4⟩:=chk.cap l (List.mem_range.mpr hl) x (by rw [e1']; rfl) i (by rw [ec]; rfl)
      have e2' : σ[i]?=some (some v):=by
        cases es : σ[i]? with
        | none=>rw [es] at e2; cases e2
        | some ov =>
          rw [es] at e2
          cases ov with
          | none=>cases e2
          | some v'=>cases e2; rfl
      obtain ⟨m,hm,hl'⟩:=I2.loc
      have hkk:X.env.scope.names.lookup x=some .cell∨X.env.scope.names.lookup x=some .free:=by rw [hsc]; exact chk.fr (x,.free) (PySem.mem_of_lookup h4) rfl
      obtain ⟨u,ru,lk⟩:=hl' i x v (by rw [hN]; exact h3) e2' (.inr hkk)
      refine ⟨u,ru,.inr ⟨relabel_free h4, ?_⟩⟩
      rcases lk with ⟨hk,_⟩ | ⟨_,c,hc,hcell⟩
      · have hk':X.env.scope.names.lookup x=some .local:=hk
        rcases hkk with z | z <;> (rw [hk'] at z; cases z)
      · obtain ⟨c',e'⟩:=hhas x h4
        have:=hsub x c' e'
        rw [hc] at this; cases this
        obtain ⟨oc,h5,h6⟩:=hcell
        exact ⟨c,e',oc,old c oc h5,h6⟩
  ·
    obtain ⟨v,oc,h5,h6⟩:=I2.cell x c (hsub x c e)
    exact ⟨v,oc,old c oc h5,h6⟩
  ·
    have hp':p=(D,o):=by simpa [compCx] using hp
    subst hp'
    refine ⟨ho,I2.hok.fresh (Nat.le_of_eq hD), ?_,nst D (Nat.le_of_eq hD),hod⟩
    show D≠C
    exact Nat.ne_of_lt (by rw [← hD]; exact hC)
  · show (capσ nt cap σ).length=N'.length
    rw [chk.len]
    simp [capσ]
theorem comp_core (hsc:X.env.scope=sc)(hN:X.N=N)(chk:CompChk sc scope N N' nt cap)(hc:X.calm=true)(hi:PI X tg iter wi)
    (hg : ∀ cl C s2 H2 fp,PG (compCx X scope cl N' C s2 H2 fp) tg g) (hge:GExt nt g) (ht : ∀ cl C s2 H2 fp,PIfs (compCx X scope cl N' C s2 H2 fp) ifs tt) (he : ∀ cl C s2 H2 fp,PE (compCx X scope cl N' C s2 H2 fp) elt te)
    (hs : ∀ x,foldedSetIterable iter X.env x=pure x) {use:Option (Value→Sem Unit)} {QQ:Value→Shared→Prop} {pins:List (Addr × Obj)} {s:Shared} {σ:St} {H:Hp} {p0:Pos} (I:Inv X pins σ H s) (Q:VK)
    (fin : ∀ (s4:Shared) (D C:Addr) (H4:Hp),C≠D→H4 C=none→(∃ m,s4.heap.Ns C m)→(∀ h',Heap.SameBut C s4.heap h'→Inv X pins σ H4 { s4 with heap:=h' }) →
      ((C∈X.ex∨X.s₀.heap.objs.size≤C)∧C≠X.env.locals∧(∀ x c,X.env.cells.lookup x=some c→c≠C)∧∀ p∈X.pn++pins,p.1≠C)→Q (.ref D) H4→compPost (model X.prog X.w) X.A X.xe use QQ (.ref D) C (.ok .next) s4)
    (h:tComp nt cap wi g tt te σ H Q):wpAny (model X.prog X.w) X.A (comprehension (.ListComp elt [⟨tg,iter,ifs,0⟩] scope pos) scope X.env p0 (newList []) false (eval iter X.env) use) QQ X.xe s:=by
  have hcells : ∀ y∈scope.names,y.2=.free→∃ c,X.env.cells.lookup y.1=some c:=fun y hy hk=>I.ok.has y.1 (by show X.env.scope.names.lookup y.1=_∨X.env.scope.names.lookup y.1=_; rw [hsc]; exact chk.fr y hy hk)
  refine wpAny_comprehension_free (use:=use) rfl hs (closureFor_eq hcells) chk.kind chk.names ?_
  refine thn (hi pins s σ H _ I h) fun v s1 h1=>thn h1 fun itv s2 h2=>?_
  obtain ⟨it,fp,tn,J,H2,e,I2,T,st2,f2,W,⟨m0,w0⟩,turn⟩:=h2
  subst e
  refine wpAny_newObj_type (wpAny_newFunctionEnv chk.nocell (by intro y hy; simp at hy) (fun h₁ hns₁ hsb₁=>?_) chk.kind)
  dsimp only at hns₁ hsb₁ ⊢
  generalize hG:s2.heap.push { cls:=.type "list",dict:=none,data:=.seq ([]:List Value).toArray }=G at hns₁ hsb₁ ⊢
  have hCs:G.objs.size=s2.heap.objs.size+1:=by rw [← hG,Heap.size_push]
  have hDC:s2.heap.objs.size≠G.objs.size:=by rw [hCs]; exact Nat.ne_of_lt (Nat.lt_succ_self _)
  have below : ∀ b,b<s2.heap.objs.size→b≠G.objs.size:=fun b hb=>by rw [hCs]; exact Nat.ne_of_lt (Nat.lt_succ_of_lt hb)
  have old : ∀ b o,s2.heap.get? b=some o→h₁.get? b=some o:=fun b o e=>hsb₁.extBut b o (below b (Heap.lt_size e)) (Heap.get?_push_of_some _ (hG ▸ Heap.get?_push_of_some _ e))
  have hacc:h₁.get? s2.heap.objs.size=some { cls:=.type "list",dict:=none,data:=.seq ([]:List Value).toArray }:=hsb₁.extBut _ _ hDC (Heap.get?_push_of_some _ (hG ▸ Heap.get?_push_size _ rfl))
  have hfp : ∀ b∈fp,b<s2.heap.objs.size:=fun b hb=>by
    obtain ⟨o,e,_⟩:=T.obj 0 _ st2 b hb
    exact Heap.lt_size e
  generalize hD:s2.heap.objs.size=D at hacc hDC ⊢
  generalize hC:G.objs.size=C at hns₁ hsb₁ hDC ⊢
  have hDC':s2.heap.objs.size<C:=by rw [← hC,hCs]; exact Nat.lt_succ_self _
  have hns:h₁.Ns C fun _=>none:=by
    have:(fun x:Str=>([]:List (Str × Value)).reverse.lookup x)=fun _=>none:=by funext x; rfl
    rw [← this]
    exact hns₁
  let cl:=closeL X.env.cells scope.names []
  let X':=compCx X scope cl N' C s2 H2 fp
  let ob:List Value→Nat→Obj:=fun its n=>{ cls:=.type "list",dict:=none,data:=.seq its.toArray n }
  have I0:Inv X' [(D,ob [] 0)] (capσ nt cap σ) H2 { s2 with heap:=h₁,toks:=s2.toks+([]:List (Str × Value)).length }:=comp_ok hsc hN chk I2 f2 hD hDC' hns old hfp hacc (fun v z=>nomatch z)
  have fpD : ∀ b∈fp,b≠D:=fun b hb z=>by have:=hfp b hb; rw [z,hD] at this; exact Nat.lt_irrefl _ this
  have stat : ∀ {H':Hp} {its:List Value} {n:Nat},(∀ b∈fp,H' b=none)→∀ b∈fp,FpOk X' [(D,ob its n)] H' b:=fun {H' its n} hn b hb=>by
    obtain ⟨_,f1,f2',f3,f4,f5⟩:=f2 b hb
    refine ⟨hn b hb,Nat.ne_of_lt (Nat.lt_trans (hfp b hb) hDC'),I0.ok.exfs b hb,.inl hb,(I0.ok.exf b hb).2,fun p hp=>?_⟩
    have hp':p=(D,ob its n):=by simpa [X',compCx] using hp
    subst hp'
    exact Ne.symm (fpD b hb)
  have st0:tn 0 h₁:=T.keep 0 _ _ st2 fun b hb o e=>old b o e
  have loop:codeAny (model X.prog X.w) X.A (.compLoop (.ListComp elt [⟨tg,iter,ifs,0⟩] scope pos) 0 (.ref it) (.ref D) (compEnvC scope cl C X.env))
      (compPost (model X.prog X.w) X.A X.xe use QQ (.ref D) C) { s2 with heap:=h₁,toks:=s2.toks+([]:List (Str × Value)).length }:=by
    refine compLoop_any (fun k s'=>∃ i ys its n H',Inv X' [(D,ob its n)] (capσ nt cap σ) H' s'∧tn i s'.heap∧(∀ b∈fp,H' b=none)∧Vals ys its∧W i k ys H') ?_ m0 ⟨0,[],[],0,H2,I0,st0,fun b hb=>(f2 b hb).1,.nil,w0⟩
    rintro k s3 ⟨i,ys,its,n,H3,I3,st3,fr3,rv3,w3⟩
    have pD:=I3.pin (D,ob its n) (by simp)
    rcases turn i k ys H3 w3 with ⟨stop,hz,qn⟩ | ⟨go,step⟩
    · refine wpAny_mono (T.done X' rfl rfl rfl hc i _ s3 _ H3 (fun _ _=>False) I3 (stat fr3) st3 stop) (fun r s4 zz_=>?_) fun _ _ z=>False.elim z
      obtain ⟨hr,I4⟩:=zz_
      subst hr
      have pD4:=I4.pin (D,ob its n) (by simp)
      obtain ⟨mC,hnC,_⟩:=I4.loc
      have J : ∀ h',Heap.SameBut C s4.heap h'→Inv X pins σ (upd H3 D (.lst ys)) { s4 with heap:=h' }:=fun h' sb=>by
        have hfree:H3 D=none:=pD4.2.1
        have neC : ∀ b u,H3 b=some u→b≠C:=fun b u e z=>by
          have:H3 C=none:=I4.free
          rw [z,this] at e; cases e
        have neD : ∀ b u,H3 b=some u→b≠D:=fun b u e z=>by rw [z,hfree] at e; cases e
        have hltC : ∀ b,b<s2.heap.objs.size→b≠C:=fun b hb=>by omega
        have hltD : ∀ b,b<s2.heap.objs.size→b≠D:=fun b hb=>by omega
        have hgD:h'.get? D=some (ob its n):=sb.extBut D _ hDC pD4.1
        have un:Un (frs X.stack) fp H2 (upd H3 D (.lst ys)) s2.heap h':=by
          have bs:Un (frs X.stack) fp H2 H3 s2.heap s4.heap:=I4.base
          refine ⟨fun b o e n hb hx=>?_,fun b o e n hb hx=>?_,fun b o e n hx=>?_,fun b o e hx=>?_,fun b xs e=>?_,fun b o u e=>?_,fun b ps e=>?_⟩
          · exact sb.extBut b o (hltC b (Heap.lt_size e)) (bs.keep b o e n hb hx)
          · obtain ⟨sl,q⟩:=bs.slot b o e n hb hx
            exact ⟨sl,sb.extBut b _ (hltC b (Heap.lt_size e)) q⟩
          · rw [upd_ne (hltD b (Heap.lt_size e))]; exact bs.free b o e n hx
          · obtain ⟨o',q⟩:=bs.there b o e hx
            exact ⟨o',sb.extBut b _ (hltC b (Heap.lt_size e)) q⟩
          · have q:=bs.tups b xs e
            rw [upd_ne (neD b _ q)]; exact q
          · have q:=bs.frzs b o u e
            rw [upd_ne (neD b _ q)]; exact q
          · obtain ⟨more,q⟩:=bs.tbls b ps e
            exact ⟨more,by rw [upd_ne (neD b _ q)]; exact q⟩
        have hok:HOk X.prog X.w (upd H3 D (.lst ys)) h':=fun b u e=>by
          by_cases hb:b=D
          · subst hb
            rw [upd_same] at e; cases e
            exact ⟨hz,its,n,rv3,hgD⟩
          · rw [upd_ne hb] at e
            refine (I4.hok b u e).stay (fun c v hcc q=>sb.extBut c v ?_ q) (fun c q=>by rw [upd_ne (neD c _ q)]; exact q) fun c xs q=>by rw [upd_ne (neD c _ q)]; exact q
            rcases hcc with rfl | hcc
            · exact neC _ _ e
            · exact neC _ _ hcc
        have hch : ∀ b∈fp,(b∈X.ex∨X.s₀.heap.objs.size≤b)∧b≠X.env.locals∧(∀ x c,X.env.cells.lookup x=some c→c≠b)∧∀ p∈X.pn++pins,p.1≠b:=fun b hb=>by
          obtain ⟨_,f1,_,f3,f4,f5⟩:=f2 b hb
          exact ⟨f3,f1,f4,f5⟩
        have os4:s4.os=s2.os:=I4.os
        have I5:Inv X pins σ (upd H3 D (.lst ys)) { s4 with heap:=h' }:=I2.call' (s':={ s4 with heap:=h' }) os4 un hok I4.bare hch
        exact I5
      have hfree:H3 D=none:=pD4.2.1
      have hfC:H3 C=none:=I4.free
      exact fin s4 D C _ (Ne.symm hDC) (by rw [upd_ne (Ne.symm hDC)]; exact hfC) ⟨mC,hnC⟩ J
        ⟨.inr (Nat.le_trans I2.sz (Nat.le_of_lt hDC')),fun z=>Nat.lt_irrefl _ (Nat.lt_trans hDC' (z ▸ I2.lt)),fun x c e z=>(by
          obtain ⟨v',oc,h5,h6⟩:=I2.cell x c e
          exact Nat.lt_irrefl _ (Nat.lt_trans hDC' (z ▸ Heap.lt_size h5))),fun p hp z=>Nat.lt_irrefl _ (Nat.lt_trans hDC' (z ▸ Heap.lt_size (I2.pin p hp).1))⟩ (qn D hfree)
    · refine wpAny_mono (T.item X' rfl rfl rfl hc i _ s3 _ H3 (fun _ _=>False) I3 (stat fr3) st3 go) (fun r s4 zz_=>?_) fun _ _ z=>False.elim z
      obtain ⟨u,hr,h4⟩:=zz_
      subst hr
      refine wpAny_mono h4 (fun _ s5 zz_=>?_) fun _ _ z=>False.elim z
      obtain ⟨x,H5,I5,r5,y5,st5,fr5⟩:=zz_
      have I5':=I5.pinned (stat fr5) (T.obj _ _ st5)
      refine wpAny_mono (hg cl C s2 H2 fp _ s5 _ H5 x u _ I5' r5 (hge _ _ _ _ (step x H5 y5))) (fun _ s6 zz_=>?_) fun _ _ z=>False.elim z
      obtain ⟨σ6,H6,I6,⟨ext,exl⟩,q6⟩:=zz_
      refine wpAny_mono (ht cl C s2 H2 fp _ s6 σ6 H6 _ I6 q6) (fun b s7 zz_=>?_) fun _ _ z=>False.elim z
      obtain ⟨H7,I7,q7⟩:=zz_
      have back : ∀ {s':Shared} {H':Hp},Inv X' ([(D,ob its n)]++pinsAt fp s5.heap) σ6 H' s'→Inv X' [(D,ob its n)] (capσ nt cap σ) H' s'∧tn (i+1) s'.heap∧∀ b∈fp,H' b=none:=fun {s' H'} J=>by
        refine ⟨J.unpinned.weak (by rw [exl]) fun j w e=>?_,T.keep _ _ _ st5 fun b hb o e=>(J.pin (b,o) (List.mem_append_right _ (List.mem_append_right _ (mem_pinsAt hb e)))).1,fun b hb=>?_⟩
        · have hj:nt≤j:=by
            apply Nat.le_of_not_lt
            intro hj
            unfold capσ at e
            rw [List.getElem?_append_left (by simpa using hj),List.getElem?_replicate,if_pos hj] at e
            cases e
          rw [ext j hj]; exact e
        · obtain ⟨o,e,d⟩:=T.obj _ _ st5 b hb
          exact (J.pin (b,o) (List.mem_append_right _ (List.mem_append_right _ (mem_pinsAt hb e)))).2.1
      cases b with
      | false =>
        rw [if_neg Bool.false_ne_true] at q7 ⊢
        obtain ⟨m',hm,w7⟩:=q7
        obtain ⟨J,st7,fr7⟩:=back I7
        exact ⟨m',hm,i+1,ys,its,n,H7,J,st7,fr7,rv3,w7⟩
      | true =>
        rw [if_pos rfl] at q7 ⊢
        refine wpAny_mono (he cl C s2 H2 fp _ s7 σ6 H7 _ I7 q7) (fun y s8 zz_=>?_) fun _ _ z=>False.elim z
        obtain ⟨yv,H8,I8,r8,hz8,m',hm,w8⟩:=zz_
        obtain ⟨J,st8,fr8⟩:=back I8
        have pD8:=J.pin (D,ob its n) (by simp)
        have hsz:its.toArray.size≤sizeLine:=by
          have:=rv3.length
          rw [List.size_toArray]; omega
        refine wpAny_list_append_plain (l:=D) (items:=its.toArray) ⟨n,pD8.1⟩ (fun h9 pl sb9=>?_) hsz
        obtain ⟨n9,e9⟩:=pl
        refine ⟨m',hm,i+1,ys++[yv],its++[y],n9,H8, ?_,T.keep _ _ _ st8 fun b hb o e=>sb9.extBut b o (fpD b hb) e,fr8,rv3.append (.cons r8 .nil),w8⟩
        have J0:Inv X' [] (capσ nt cap σ) H8 s8:=J.pins_of fun p hp=>absurd hp (by simp)
        have cellsD : ∀ x c,X'.env.cells.lookup x=some c→c≠D:=fun x c e z=>by
          obtain ⟨v',oc,h5,h6⟩:=J.cell x c e
          rw [z,pD8.1] at h5; cases h5
          exact absurd h6 (fun z=>nomatch z)
        have J1:Inv X' [] (capσ nt cap σ) H8 { s8 with heap:=h9 }:=J0.turned (t':=s8.toks) (fun b o hb e=>sb9.extBut b o hb e) pD8.2.1 pD8.2.2.1 (.inr (Nat.le_of_eq hD)) cellsD (fun p hp=>absurd hp (by simp [X',compCx]))
        refine J1.pins_of fun p hp=>?_
        have hp':p=(D,ob (its++[y]) n9):=by simpa using hp
        subst hp'
        refine ⟨?_,pD8.2.1,pD8.2.2.1,pD8.2.2.2.1,fun v z=>nomatch z⟩
        show h9.get? D=some (ob (its++[y]) n9)
        rw [e9]
        simp [ob]
  refine codeAny_compStart_list loop ?_
  exact T.self X.A 0 _ _ _ st0 loop
theorem pe_comp (hsc:X.env.scope=sc)(hN:X.N=N)(chk:CompChk sc scope N N' nt cap)(hc:X.calm=true)(hi:PI X tg iter wi)
    (hg : ∀ cl C s2 H2 fp,PG (compCx X scope cl N' C s2 H2 fp) tg g) (hge:GExt nt g) (ht : ∀ cl C s2 H2 fp,PIfs (compCx X scope cl N' C s2 H2 fp) ifs tt) (he : ∀ cl C s2 H2 fp,PE (compCx X scope cl N' C s2 H2 fp) elt te)
    (hs : ∀ x,foldedSetIterable iter X.env x=pure x:=by intro _; rfl):PE X (.ListComp elt [⟨tg,iter,ifs,0⟩] scope pos) (tComp nt cap wi g tt te):=by
  intro pins s σ H Q I h
  rw [eval_ListComp]
  exact comp_core (use:=none) hsc hN chk hc hi hg hge ht he hs I Q (fun s4 D C H4 _ _ hn J _ q=>by
    obtain ⟨m,hm⟩:=hn
    exact ⟨m,hm,fun h' sb=>⟨.ref D,_,J h' sb,rfl,q⟩⟩) h
theorem ps_comp (hsc:X.env.scope=sc)(hN:X.N=N)(chk:CompChk sc scope N N' nt cap)(hc:X.calm=true)(hi:PI X tg iter wi)
    (hg : ∀ cl C s2 H2 fp,PG (compCx X scope cl N' C s2 H2 fp) tg g) (hge:GExt nt g) (ht : ∀ cl C s2 H2 fp,PIfs (compCx X scope cl N' C s2 H2 fp) ifs tt) (he : ∀ cl C s2 H2 fp,PE (compCx X scope cl N' C s2 H2 fp) elt te)
    {i:Nat} {x:Str} {pos' spos:Pos} (hNd:X.N.Nodup) (hi':X.N[i]?=some x) (hx:Loc X.env.scope x) (hf:X.fn x=true∨X.env.scope.names.lookup x=some .local)
    (hsw:swapsWith (.ListComp elt [⟨tg,iter,ifs,0⟩] scope pos) (some (.Name x pos')) spos.line X.env=pure true) (hs : ∀ x,foldedSetIterable iter X.env x=pure x:=by intro _; rfl) :
    PS X (.Assign [.Name x pos'] (.ListComp elt [⟨tg,iter,ifs,0⟩] scope pos) spos) (tAsg (tComp nt cap wi g tt te) (gName i)):=by
  intro pins s σ H D I h
  rw [exec_Assign_Name_used _ _ _ _ hsw]
  refine wpAny_bind (wpAny_standAt (wpAny_bind ?_))
  show wpAny _ X.A (do let _ ← comprehension (.ListComp elt [⟨tg,iter,ifs,0⟩] scope pos) scope X.env _ (newList []) false (eval iter X.env) (some (assign (.Name x pos') X.env))) _ _ s
  refine wpAny_bind (wpAny_mono (comp_core (use:=some (assign (.Name x pos') X.env)) (QQ:=fun _ s'=>∃ σ' H',Inv X pins σ' H' s'∧D.nx σ' H') hsc hN chk hc hi hg hge ht he hs I _ (fun s4 D' C H4 hne hf4 hn J hch q=>?_) h) (fun _ s' hq=>wpAny_pure (wpAny_pure hq)) fun _ _ e=>e)
  obtain ⟨m,hm⟩:=hn
  have I4:Inv X pins σ H4 s4:=J s4.heap (Heap.SameBut.refl C s4.heap)
  refine wpAny_assign_Name (store_ok2 I4 hNd hi' hx (v:=.ref D') rfl (fun s5 I5 sb5=>?_) hf)
  obtain ⟨a,sb,ha⟩:=sb5
  have haC:C≠a:=by
    rcases ha with rfl | ha
    · exact hch.2.1
    · exact fun z=>hch.2.2.1 _ _ ha z.symm
  refine ⟨m,hm.sameBut sb haC,fun h' sb'=>⟨_,H4, ?_,q⟩⟩
  refine I5.call' (s':={ s5 with heap:=h' }) (ch:=[C]) rfl ⟨fun b o e _ _ hb=>sb'.extBut b o (by simpa using hb) e,fun b o e _ _ hb=>⟨o.slots,sb'.extBut b o (by simpa using hb) e⟩,fun b o _ n _=>n,fun b o e hb=>⟨o,sb'.extBut b o (by simpa using hb) e⟩,fun _ _ e=>e,fun _ _ _ e=>e,fun _ ps e=>⟨#[],by simpa using e⟩⟩ (fun b u e=>?_) I5.bare (fun b hb=>?_)
  · refine (I5.hok b u e).stay (fun c v hcc q=>sb'.extBut c v ?_ q) (fun _ q=>q) fun _ _ q=>q
    intro z
    subst z
    rcases hcc with rfl | hcc
    · rw [hf4] at e; cases e
    · rw [hf4] at hcc; cases hcc
  · have hb':b=C:=by simpa using hb
    subst hb'
    exact hch
end
end L2
end
section
namespace DL
open PySem
noncomputable def isStar:Expr→Bool
  | .Starred _ _=>true
  | _=>false
noncomputable def noStars:List Expr→Bool
  | []=>true
  | e::es=>!isStar e && noStars es
theorem star_cons {e:Expr}{es:List Expr}{env:Env}(h:isStar e=false):starEach (e::es) env=(false,eval e env)::starEach es env:=by
  cases e <;> first | rfl | cases h
theorem star_none {pos:Pos}{env:Env} : ∀ {es:List Expr},noStars es=true→(backTo pos (starEach es env)).any (·.1)=false
  | [],_=>rfl
  | e::es,h=>by
    unfold noStars at h
    rw [Bool.and_eq_true,Bool.not_eq_true'] at h
    rw [star_cons h.1]
    show (false || (backTo pos (starEach es env)).any (·.1))=false
    rw [star_none h.2]
    rfl
theorem star_one {e:Expr}{env:Env}(h:isStar e=false):starEach [e] env=[(false,eval e env)]:=(star_cons h).trans rfl
theorem star_two {e e2:Expr}{env:Env}(h:isStar e=false)(h2:isStar e2=false):starEach [e,e2] env=[(false,eval e env),(false,eval e2 env)]:=by rw [star_cons h,star_one h2]
noncomputable def noComp:Expr→Bool
  | .ListComp _ _ _ _=>false
  | .SetComp _ _ _ _=>false
  | .DictComp _ _ _ _ _=>false
  | _=>true
theorem swaps_no {value:Expr}{t:Option Expr}{l:Nat}{env:Env}(h:noComp value=true):swapsWith value t l env=pure false:=by
  cases value <;> first | rfl | cases h
end DL
namespace DL
open PySem PySem.Spec PyProof.Rows L2
noncomputable def noSet:Expr→Bool
  | .Set _ _ _=>false
  | _=>true
theorem folded_no {e:Expr}{env:Env}(h:noSet e=true) : ∀ x,foldedSetIterable e env x=pure x:=fun x=>by
  cases e <;> first | rfl | cases h
noncomputable def plainT:Expr→Bool
  | .Call _ _ _ _=>true
  | .Name _ _=>true
  | .Subscript _ _ _=>true
  | .Attribute _ _ _=>true
  | .Constant _ _ _=>true
  | _=>false
theorem isTrue_no {e:Expr}{env:Env}(h:plainT e=true) : ∀ whole,isTrue e env whole=(do let v ← whole; standAt e.pos; holding [v] (truthy v)):=fun whole=>by
  cases e <;> first | rfl | cases h
noncomputable def plainI:Expr→Bool
  | .Slice _ _ _ _=>false
  | .Tuple _ _ _=>false
  | _=>true
theorem plainIx_no {b:Expr}(h:plainI b=true):PlainIx b:=fun o i=>by
  cases b <;> first | rfl | cases h
end DL
end
section
namespace DL
open PySem L2
noncomputable def subI (i j:Int):Option D:=some (.int (i - j))
noncomputable def fdivI (i j:Int):Option D:=if 0<j∧j<1073741824 then some (.int (i / j)) else none
noncomputable def modI (i j:Int):Option D:=if 0<j then some (.int (i % j)) else none
noncomputable def powI (i j:Int):Option D:=if 0≤j∧j≤1000000∧i.natAbs<18446744073709551616 then some (.int (i ^ j.toNat)) else none
noncomputable def ltI (i j:Int):Option D:=some (.bl (decide (i<j)))
noncomputable def gtI (i j:Int):Option D:=some (.bl (decide (j<i)))
noncomputable def mulD:D→D→Option D
  | .int i,.int j=>if (-18446744073709551616<i∧i<18446744073709551616)∨(-18446744073709551616<j∧j<18446744073709551616) then some (.int (i * j)) else none
  | .str z,.int k=>if z.length≤16∧-1000000000000000000≤k∧k≤1000000 then some (.str (List.replicate k.toNat z).flatten) else none
  | _,_=>none
noncomputable def mulF:List D→D→Option (List D)
  | ds,.int k=>if ds.length≤16∧-1000000000000000000≤k∧k≤60000 then some (List.replicate k.toNat ds).flatten else none
  | _,_=>none
noncomputable def negD:D→Option D
  | .int i=>some (.int (-i))
  | _=>none
noncomputable def eqZ (f:D→D→Option Bool):List D→List D→Option Bool
  | a::as,b::bs=>(f a b).bind fun x=>(eqZ f as bs).map fun y=>x && y
  | _,_=>some true
noncomputable def eqN:Nat→D→D→Option Bool
  | 0,_,_=>none
  | n+1,x,y=>match x,y with
    | .non,.non=>some true
    | .bl a,.bl b=>some (a == b)
    | .int a,.int b=>some (a == b)
    | .str a,.str b=>some (a == b)
    | .tup as,.tup bs=>(eqZ (eqN n) as bs).map fun r=>r && as.length == bs.length
    | .lst as,.lst bs=>if as.length=bs.length then eqZ (eqN n) as bs else some false
    | .bl a,.int b=>some ((if a then 1 else 0) == b)
    | .int a,.bl b=>some (a == (if b then 1 else 0))
    | .ob _ _ _,_=>none
    | _,.ob _ _ _=>none
    | .dct _ _,_=>none
    | _,.dct _ _=>none
    | .exc _,_=>none
    | _,.exc _=>none
    | _,_=>some false
noncomputable def eqF (neg:Bool)(x y:D):Option D:=(eqN 100 x y).map fun b=>.bl (if neg then !b else b)
noncomputable def isNon (neg:Bool)(x:D):Option D:=match x with
  | .non=>some (.bl (!neg))
  | _=>some (.bl neg)
inductive Ty where
  | int | str | bool | list | tuple | dict
  deriving DecidableEq
noncomputable def instD (t:Ty):D→Option D
  | .non=>some (.bl false)
  | .bl _=>some (.bl (t == .int || t == .bool))
  | .int _=>some (.bl (t == .int))
  | .str _=>some (.bl (t == .str))
  | .tup _=>some (.bl (t == .tuple))
  | .lst _=>some (.bl (t == .list))
  | _=>none
noncomputable def intsOf:List D→Option (List Int)
  | []=>some []
  | .int i::r=>(intsOf r).map (i::·)
  | _=>none
noncomputable def strsOf:List D→Option (List (List Nat))
  | []=>some []
  | .str i::r=>(strsOf r).map (i::·)
  | _=>none
noncomputable def sumD:D→Option D
  | .lst ds=>(intsOf ds).bind fun is=>if is.length≤100000∧is.all (fun i=>decide (-1000000000000000000<i∧i<1000000000000000000)) then some (.int is.sum) else none
  | _=>none
noncomputable def maxL:Int→List Int→Int
  | m,[]=>m
  | m,i::r=>maxL (if i > m then i else m) r
noncomputable def maxLD:D→Option D
  | .lst ds=>(intsOf ds).bind fun is=>match is with
    | []=>none
    | i::r=>some (.int (maxL i r))
  | _=>none
noncomputable def joinL (sep:List Nat):List (List Nat)→List Nat
  | []=>[]
  | [x]=>x
  | x::r=>x++sep++joinL sep r
end DL
end
section
namespace DL
open L2
structure Tag {α:Type}(a : α):Type where
  mk ::
noncomputable def obind {α β:Type}(a:Option α)(f : α→Option β)(_:Tag f:=Tag.mk):Option β:=a.bind f
@[simp] theorem obind_some {α β:Type}(a : α)(f : α→Option β):obind (some a) f=f a:=(Eq.refl _).trans (Eq.refl _)
noncomputable def omap {α β:Type}(f : α→β)(a:Option α)(_:Tag f:=Tag.mk):Option β:=a.map f
@[simp] theorem omap_some {α β:Type}(a : α)(f : α→β):omap f (some a)=some (f a):=(Eq.refl _).trans (Eq.refl _)
noncomputable def slotV:Option Slot→Option D
  | some (.val d)=>some d
  | _=>none
@[simp] theorem slotV_val (d:D):slotV (some (.val d))=some d:=(Eq.refl _).trans (Eq.refl _)
noncomputable def slotR:Option Slot→Option D
  | some (.val d)=>some d
  | some (.own ds)=>some (.lst ds)
  | some (.red ds)=>some (.lst ds)
  | _=>none
@[simp] theorem slotR_own (d:List D):slotR (some (.own d))=some (.lst d):=(Eq.refl _).trans (Eq.refl _)
@[simp] theorem slotR_red (d:List D):slotR (some (.red d))=some (.lst d):=(Eq.refl _).trans (Eq.refl _)
noncomputable def slotO:Option Slot→Option (List D)
  | some (.own ds)=>some ds
  | _=>none
@[simp] theorem slotO_own (d:List D):slotO (some (.own d))=some d:=(Eq.refl _).trans (Eq.refl _)
noncomputable def seqK (G:FS):DFl→Option DFl
  | .nx e=>G e
  | r=>some r
@[simp ↓] theorem seqK_nx (G:FS)(e:DEnv):seqK G (.nx e)=G e:=(Eq.refl _).trans (Eq.refl _)
@[simp ↓] theorem seqK_rt (G:FS)(d:D)(e:DEnv):seqK G (.rt d e)=some (.rt d e):=(Eq.refl _).trans (Eq.refl _)
noncomputable def retK:DFl→Option D
  | .rt d _=>some d
  | .nx _=>some .non
  | _=>none
@[simp] theorem retK_rt (d:D)(e:DEnv):retK (.rt d e)=some d:=(Eq.refl _).trans (Eq.refl _)
noncomputable def retFK:DFl→Option (List D)
  | .rf d _=>some d
  | _=>none
@[simp] theorem retFK_rf (d:List D)(e:DEnv):retFK (.rf d e)=some d:=(Eq.refl _).trans (Eq.refl _)
noncomputable def ifK {α:Type}(a b:Option α)(c:Bool)(_:Tag a:=Tag.mk)(_:Tag b:=Tag.mk):Option α:=if c=true then a else b
@[simp] theorem ifK_t {α:Type}(a b:Option α):ifK a b true=a:=(Eq.refl _).trans (Eq.refl _)
@[simp] theorem ifK_f {α:Type}(a b:Option α):ifK a b false=b:=(Eq.refl _).trans (Eq.refl _)
noncomputable def ftYes:FT:=fun _=>some true
section
variable {α β δ:Type}
@[simp] theorem ev_feC (d:D)(env:DEnv):feC d env=some d:=(Eq.refl _).trans (Eq.refl _)
@[simp] theorem ev_fp1 (F : α→Option β)(f:FP α)(env:DEnv):fp1 F f env=obind (f env) (F):=(Eq.refl _).trans (Eq.refl _)
@[simp] theorem ev_fp2 (F : α→β→Option δ)(f:FP α)(g:FP β)(env:DEnv):fp2 F f g env=obind (f env) (fun x=>obind (g env) (fun y=>F x y)):=(Eq.refl _).trans (Eq.refl _)
@[simp] theorem ev_feFr (f:FP (List D))(env:DEnv):feFr f env=omap (.lst) (f env):=(Eq.refl _).trans (Eq.refl _)
@[simp] theorem ev_faNil (env:DEnv):faNil env=some []:=(Eq.refl _).trans (Eq.refl _)
@[simp] theorem ev_faCons (f:FE)(g:FA)(env:DEnv):faCons f g env=obind (f env) (fun x=>obind (g env) (fun r=>some (x::r))):=(Eq.refl _).trans (Eq.refl _)
@[simp] theorem ev_feTup (f:FA)(env:DEnv):feTup f env=obind (f env) (fun ds=>if ds.length≤1000 then some (.tup ds) else none):=(Eq.refl _).trans (Eq.refl _)
@[simp] theorem ev_ffLst (f:FA)(env:DEnv):ffLst f env=obind (f env) (fun ds=>if ds.length≤1000 then some ds else none):=(Eq.refl _).trans (Eq.refl _)
@[simp] theorem ev_ftB (f:FE)(env:DEnv):ftB f env=obind (f env) (blD):=(Eq.refl _).trans (Eq.refl _)
@[simp] theorem ev_blD (b:Bool):blD (.bl b)=some b:=(Eq.refl _).trans (Eq.refl _)
@[simp] theorem ev_ftNot (c:FT)(env:DEnv):ftNot c env=obind (c env) (fun b=>some (!b)):=(Eq.refl _).trans (Eq.refl _)
@[simp] theorem ev_ftOr (c d:FT)(env:DEnv):ftOr c d env=obind (c env) (fun b=>ifK (some true) (d env) b):=(Eq.refl _).trans (Eq.refl _)
@[simp] theorem ev_feNot (f:FE)(env:DEnv):feNot f env=obind (f env) (fun x=>omap (fun b=>D.bl (!b)) (blD x)):=(Eq.refl _).trans (Eq.refl _)
@[simp] theorem ev_feAnd (f g:FE)(env:DEnv):feAnd f g env=obind (f env) (fun x=>obind (blD x) (fun b=>ifK (g env) (some (.bl false)) b)):=(Eq.refl _).trans (Eq.refl _)
@[simp] theorem ev_feIf (c:FT)(f g:FP α)(env:DEnv):feIf c f g env=obind (c env) (fun b=>ifK (f env) (g env) b):=(Eq.refl _).trans (Eq.refl _)
@[simp] theorem ev_feCall (n:Nat)(F:List D→Option α)(f:FA)(env:DEnv):feCall n F f env=obind (f env) (fun ds=>if ds.length=n then F ds else none):=(Eq.refl _).trans (Eq.refl _)
@[simp] theorem ev_foNone (env:DEnv):foNone env=some none:=(Eq.refl _).trans (Eq.refl _)
@[simp] theorem ev_foSome (f:FE)(env:DEnv):foSome f env=obind (f env) (intO):=(Eq.refl _).trans (Eq.refl _)
@[simp] theorem ev_intO (i:Int):intO (.int i)=some (some i):=(Eq.refl _).trans (Eq.refl _)
@[simp] theorem ev_feSl (F:D→Option Int→Option Int→Option α)(f:FE)(l h:FO)(env:DEnv):feSl F f l h env=obind (f env) (fun x=>obind (l env) (fun lo=>obind (h env) (fun hi=>F x lo hi))):=(Eq.refl _).trans (Eq.refl _)
@[simp] theorem ev_intD (g:Int→Int→Option D)(i j:Int):intD g (.int i) (.int j)=g i j:=(Eq.refl _).trans (Eq.refl _)
@[simp] theorem ev_ltI (i j:Int):ltI i j=some (.bl (decide (i<j))):=(Eq.refl _).trans (Eq.refl _)
@[simp] theorem ev_gtI (i j:Int):gtI i j=some (.bl (decide (j<i))):=(Eq.refl _).trans (Eq.refl _)
@[simp] theorem ev_subI (i j:Int):subI i j=some (.int (i - j)):=(Eq.refl _).trans (Eq.refl _)
@[simp] theorem ev_addD_int (i j:Int):addD (.int i) (.int j)=some (.int (i+j)):=(Eq.refl _).trans (Eq.refl _)
@[simp] theorem ev_addD_str (a b:List Nat):addD (.str a) (.str b)=if a.length+b.length≤1000000 then some (.str (a++b)) else none:=(Eq.refl _).trans (Eq.refl _)
@[simp] theorem ev_addF (a b:List D):addF (.lst a) (.lst b)=if a.length+b.length≤1000000 then some (a++b) else none:=(Eq.refl _).trans (Eq.refl _)
@[simp] theorem ev_negD (i:Int):negD (.int i)=some (.int (-i)):=(Eq.refl _).trans (Eq.refl _)
@[simp] theorem ev_lenD_lst (ds:List D):lenD (.lst ds)=some (.int ds.length):=(Eq.refl _).trans (Eq.refl _)
@[simp] theorem ev_lenD_tup (ds:List D):lenD (.tup ds)=some (.int ds.length):=(Eq.refl _).trans (Eq.refl _)
@[simp] theorem ev_lenD_str (z:List Nat):lenD (.str z)=if z.length≤1000000 then some (.int z.length) else none:=(Eq.refl _).trans (Eq.refl _)
@[simp] theorem ev_seqD_lst (ds:List D):seqD (.lst ds)=some ds:=(Eq.refl _).trans (Eq.refl _)
@[simp] theorem ev_ixD_lst (ds:List D)(i:Int):ixD (.lst ds) (.int i)=atI ds i:=(Eq.refl _).trans (Eq.refl _)
@[simp] theorem ev_ixD_tup (ds:List D)(i:Int):ixD (.tup ds) (.int i)=atI ds i:=(Eq.refl _).trans (Eq.refl _)
@[simp] theorem ev_ixD_str (z:List Nat)(i:Int):ixD (.str z) (.int i)=if z.length≤1000000 then omap (fun c=>.str [c]) (atI z i) else none:=(Eq.refl _).trans (Eq.refl _)
@[simp] theorem ev_slD_tup (ds:List D)(lo hi:Option Int):slD (.tup ds) lo hi=if HT.sIx ds.length 0 lo=0∧HT.sIx ds.length ds.length hi=ds.length then none else some (.tup (cutD ds lo hi)):=(Eq.refl _).trans (Eq.refl _)
@[simp] theorem ev_eqF (neg:Bool)(x y:D):eqF neg x y=omap (fun b=>.bl (if neg then !b else b)) (eqN 100 x y):=(Eq.refl _).trans (Eq.refl _)
@[simp] theorem ev_eqN_int (n:Nat)(i j:Int):eqN (n+1) (.int i) (.int j)=some (i == j):=(Eq.refl _).trans (Eq.refl _)
@[simp] theorem ev_eqN_str (n:Nat)(i j:List Nat):eqN (n+1) (.str i) (.str j)=some (i == j):=(Eq.refl _).trans (Eq.refl _)
@[simp] theorem ev_isNon_non (neg:Bool):isNon neg .non=some (.bl (!neg)):=(Eq.refl _).trans (Eq.refl _)
@[simp] theorem ev_isNon_int (neg:Bool)(i:Int):isNon neg (.int i)=some (.bl neg):=(Eq.refl _).trans (Eq.refl _)
@[simp] theorem ev_instD_int (t:Ty)(i:Int):instD t (.int i)=some (.bl (t == .int)):=(Eq.refl _).trans (Eq.refl _)
@[simp] theorem ev_instD_tup (t:Ty)(i:List D):instD t (.tup i)=some (.bl (t == .tuple)):=(Eq.refl _).trans (Eq.refl _)
@[simp] theorem ev_instD_lst (t:Ty)(i:List D):instD t (.lst i)=some (.bl (t == .list)):=(Eq.refl _).trans (Eq.refl _)
@[simp] theorem ev_feName (i:Nat)(env:DEnv):feName i env=slotV env[i]?:=(Eq.refl _).trans (Eq.refl _)
@[simp] theorem ev_feRead (i:Nat)(env:DEnv):feRead i env=slotR env[i]?:=(Eq.refl _).trans (Eq.refl _)
@[simp] theorem ev_fsSeq (F G:FS)(env:DEnv):fsSeq F G env=obind (F env) (seqK G):=(Eq.refl _).trans (Eq.refl _)
@[simp] theorem ev_fsNext (env:DEnv):fsNext env=some (.nx env):=(Eq.refl _).trans (Eq.refl _)
@[simp] theorem ev_fsIf (c:FT)(F G:FS)(env:DEnv):fsIf c F G env=obind (c env) (fun b=>ifK (F env) (G env) b):=(Eq.refl _).trans (Eq.refl _)
@[simp] theorem ev_fsRet (f:FE)(env:DEnv):fsRet f env=omap (fun d=>.rt d env) (f env):=(Eq.refl _).trans (Eq.refl _)
@[simp] theorem ev_fsRetF (f:FP (List D))(env:DEnv):fsRetF f env=omap (fun d=>.rf d env) (f env):=(Eq.refl _).trans (Eq.refl _)
@[simp] theorem ev_fsRetO (i:Nat)(env:DEnv):fsRetO i env=omap (fun ds=>.rf ds env) (slotO env[i]?):=by
  unfold fsRetO
  cases env[i]? with
  | none=>rfl
  | some s=>cases s <;> rfl
@[simp] theorem ev_fsSet (i:Nat)(f:FE)(env:DEnv):fsSet i f env=omap (fun d=>.nx (env.set i (.val d))) (f env):=(Eq.refl _).trans (Eq.refl _)
@[simp] theorem ev_fsOwn (i:Nat)(f:FP (List D))(env:DEnv):fsOwn i f env=omap (fun d=>.nx (env.set i (.own d))) (f env):=(Eq.refl _).trans (Eq.refl _)
@[simp] theorem ev_fsFrz (i:Nat)(F:FS)(env:DEnv):fsFrz i F env=obind (slotO env[i]?) fun ds=>F (env.set i (.val (.lst ds))):=by
  unfold fsFrz
  cases env[i]? with
  | none=>rfl
  | some s=>cases s <;> rfl
@[simp] theorem ev_fsAug (i:Nat)(F:D→D→Option D)(f:FE)(env:DEnv):fsAug i F f env=obind (feName i env) (fun x=>obind (f env) (fun y=>omap (fun d=>.nx (env.set i (.val d))) (F x y))):=(Eq.refl _).trans (Eq.refl _)
@[simp] theorem ev_fsFor (tg:FG)(fi:FE)(body:FS)(env:DEnv):fsFor tg fi body env=obind (fi env) (fun x=>obind (seqD x) (fun ds=>runFor tg body ds env)):=(Eq.refl _).trans (Eq.refl _)
@[simp] theorem ev_fsForR (R:List D→Option (List D))(tg:FG)(f:FA)(body:FS)(env:DEnv):fsForR R tg f body env=obind (f env) (fun ds=>obind (R ds) (fun xs=>runFor tg body xs env)):=(Eq.refl _).trans (Eq.refl _)
@[simp] theorem ev_ffComp (nt:Nat)(cap:List Nat)(tg:FG)(fi:FE)(ft:FT)(fe:FE)(env:DEnv):ffComp nt cap tg fi ft fe env=obind (fi env) (fun x=>obind (seqD x) (fun ds=>if ds.length≤1000000 then runComp tg ft fe (capE nt cap env) ds else none)):=(Eq.refl _).trans (Eq.refl _)
@[simp] theorem ev_ffCompR (R:List D→Option (List D))(nt:Nat)(cap:List Nat)(tg:FG)(f:FA)(ft:FT)(fe:FE)(env:DEnv):ffCompR R nt cap tg f ft fe env=obind (f env) (fun x=>obind (R x) (fun ds=>if ds.length≤1000000 then runComp tg ft fe (capE nt cap env) ds else none)):=(Eq.refl _).trans (Eq.refl _)
@[simp] theorem ev_tgName (i:Nat)(d:D)(env:DEnv):tgName i d env=some (env.set i (.val d)):=(Eq.refl _).trans (Eq.refl _)
@[simp] theorem ev_runFor_nil (tg:FG)(body:FS)(env:DEnv):runFor tg body [] env=some (.nx env):=(Eq.refl _).trans (Eq.refl _)
theorem ev_bodyF (N:Nat)(F:FS)(ds:List D):bodyF N F ds=obind (F (envOf N ds)) retK:=(Eq.refl _).trans (Eq.refl _)
theorem ev_bodyFF (N:Nat)(F:FS)(ds:List D):bodyFF N F ds=obind (F (envOf N ds)) retFK:=(Eq.refl _).trans (Eq.refl _)
end
theorem runComp_map {tg:FG}{fe:FE}{env:DEnv}(g:D→D) : ∀ (ds:List D),(∀ d∈ds, ∃ e,tg d env=some e∧fe e=some (g d))→runComp tg ftYes fe env ds=some (ds.map g)
  | [],_=>rfl
  | d::ds,h=>by
    obtain ⟨e,h1,h2⟩:=h d List.mem_cons_self
    unfold runComp
    rw [h1]; dsimp only [Option.bind_some,ftYes]
    rw [if_pos rfl,h2,runComp_map g ds fun d' hd=>h d' (List.mem_cons_of_mem _ hd)]
    rfl
theorem atI_k {α:Type}(xs:List α)(k:Nat):atI xs (k:Int)=xs[k]?:=by
  unfold atI ixN
  rw [if_pos (by omega)]
  by_cases h:k<xs.length
  · rw [if_pos (by omega)]; simp
  · rw [if_neg (by omega),List.getElem?_eq_none (by omega)]; rfl
@[simp] theorem atI_0 {α:Type}(xs:List α):atI xs 0=xs[0]?:=atI_k xs 0
@[simp] theorem atI_1 {α:Type}(xs:List α):atI xs 1=xs[1]?:=atI_k xs 1
@[simp] theorem atI_2 {α:Type}(xs:List α):atI xs 2=xs[2]?:=atI_k xs 2
theorem sIx_nat (n d k:Nat):HT.sIx n d (some (k:Int))=min k n:=by
  show (if (k:Int)<0 then ((k:Int)+(n:Int)).toNat else min (k:Int).toNat n)=min k n
  rw [if_neg (by omega)]; rfl
theorem cut_from {α:Type}(xs:List α)(i:Nat):cutD xs (some (i:Int)) none=xs.drop i:=by
  unfold cutD
  rw [sIx_nat,show HT.sIx xs.length xs.length none=xs.length from rfl]
  by_cases h:i≤xs.length
  · rw [Nat.min_eq_left h,List.take_of_length_le (by simp)]
  · rw [Nat.min_eq_right (by omega),List.drop_of_length_le (Nat.le_refl _),List.drop_of_length_le (by omega)]; simp
end DL
namespace DL
theorem mod_nat (a:Int)(m:Nat)(hm : 0<m) : ∃ k:Nat,a % (m:Int)=k∧k<m:=by
  have h1 : 0≤a % (m:Int):=Int.emod_nonneg _ (by omega)
  have h2:a % (m:Int)<m:=Int.emod_lt_of_pos _ (by omega)
  exact ⟨(a % (m:Int)).toNat,by omega,by omega⟩
end DL
namespace DL
open L2
theorem rng1_ok {i:Int}{n:Nat}(h:i=n)(hn:n<1000000000):rng1 [.int i]=some (rInts 0 n):=by
  subst h
  have c : -1000000000<(n:Int)∧(n:Int)<1000000000:=by omega
  have e:rng1 [.int (n:Int)]=if -1000000000<(n:Int)∧(n:Int)<1000000000 then some (rInts 0 (n:Int).toNat) else none:=rfl
  rw [e,if_pos c,Int.toNat_natCast]
theorem mulD_right (i j:Int)(h : -18446744073709551616<j∧j<18446744073709551616):mulD (.int i) (.int j)=some (.int (i * j)):=if_pos (Or.inr h)
theorem mulD_str (z:List Nat)(k:Int)(h:z.length≤16∧-1000000000000000000≤k∧k≤1000000):mulD (.str z) (.int k)=some (.str (List.replicate k.toNat z).flatten):=if_pos h
theorem modI_pos (i j:Int)(h : 0<j):modI i j=some (.int (i % j)):=if_pos h
theorem fdivI_pos (i j:Int)(h : 0<j∧j<1073741824):fdivI i j=some (.int (i / j)):=if_pos h
theorem powI_ok (i j:Int)(h : 0≤j∧j≤1000000∧i.natAbs<18446744073709551616):powI i j=some (.int (i ^ j.toNat)):=if_pos h
end DL
namespace DL
open L2
end DL
namespace DL
end DL
end
section
namespace DL
open PySem PySem.Spec PyProof.Rows L2
structure Ct where
  cl:Nat→Option Addr
  fld:Nat→Str
noncomputable abbrev tx (X:Cx)(c:Ct):Tx:=⟨X.K,c.cl,c.fld⟩
section
variable {X:Cx}
theorem PE.imp {e:Expr}{t t':TE}(h:PE X e t)(w : ∀ σ H Q,t' σ H Q→t σ H Q):PE X e t':=fun pins s σ H Q I q=>h pins s σ H Q I (w σ H Q q)
theorem PT.imp {e:Expr}{t t':TT}(h:PT X e t)(w : ∀ σ H Q,t' σ H Q→t σ H Q):PT X e t':=fun pins s σ H Q I q=>h pins s σ H Q I (w σ H Q q)
theorem PW.imp {e:Expr}{t t':TT}(h:PW X e t)(w : ∀ σ H Q,t' σ H Q→t σ H Q):PW X e t':=fun wh pins s σ H Q I q=>h wh pins s σ H Q I (w σ H Q q)
theorem PA.imp {es:List Expr}{t t':TA}(h:PA X es t)(w : ∀ σ H Q,t' σ H Q→t σ H Q):PA X es t':=fun po pins s σ H Q I q=>h po pins s σ H Q I (w σ H Q q)
theorem PS.imp {st:Stmt}{t t':TS}(h:PS X st t)(w : ∀ De σ H,t' De σ H→t De σ H):PS X st t':=fun pins s σ H De I q=>h pins s σ H De I (w De σ H q)
theorem PSs.imp {st:List Stmt}{t t':TS}(h:PSs X st t)(w : ∀ De σ H,t' De σ H→t De σ H):PSs X st t':=fun pins s σ H De I q=>h pins s σ H De I (w De σ H q)
theorem PO.imp {o:Option Expr}{t t':TO}(h:PO X o t)(w : ∀ σ H Q,t' σ H Q→t σ H Q):PO X o t':=fun pins s σ H Q I q=>h pins s σ H Q I (w σ H Q q)
theorem PIfs.imp {es:List Expr}{t t':TT}(h:PIfs X es t)(w : ∀ σ H Q,t' σ H Q→t σ H Q):PIfs X es t':=fun pins s σ H Q I q=>h pins s σ H Q I (w σ H Q q)
end
noncomputable abbrev PD (X:Cx)(c:Ct)(e:Expr)(f:FE):Prop:=PE X e (tP (tx X c) (kD (tx X c)) f)
noncomputable abbrev PR (X:Cx)(c:Ct)(e:Expr)(f:FE):Prop:=PE X e (tP (tx X c) (kR (tx X c)) f)
noncomputable abbrev PF (X:Cx)(c:Ct)(e:Expr)(f:FP (List D)):Prop:=PE X e (tP (tx X c) (kF (tx X c)) f)
noncomputable abbrev PDT (X:Cx)(c:Ct)(e:Expr)(f:FT):Prop:=PT X e (tP (tx X c) kB f)
noncomputable abbrev PDW (X:Cx)(c:Ct)(e:Expr)(f:FT):Prop:=PW X e (tP (tx X c) kB f)
noncomputable abbrev PDA (X:Cx)(c:Ct)(es:List Expr)(f:FA):Prop:=PA X es (tP (tx X c) (kA (tx X c)) f)
noncomputable abbrev PDO (X:Cx)(c:Ct)(o:Option Expr)(f:FO):Prop:=PO X o (tP (tx X c) kO f)
noncomputable abbrev PDS (X:Cx)(c:Ct)(x:XQ)(st:Stmt)(F:FS):Prop:=PS X st (tDs (tx X c) x F)
noncomputable abbrev PDSs (X:Cx)(c:Ct)(x:XQ)(st:List Stmt)(F:FS):Prop:=PSs X st (tDs (tx X c) x F)
structure Nm (X:Cx)(i:Nat)(x:Str):Prop where
  hN:X.N[i]?=some x
  hv:Vis X.env.scope x
  hd:(x == ("__debug__":Str))=false
  hc:(x == ("__classdict__":Str))=false
structure Nl (X:Cx)(i:Nat)(x:Str):Prop where
  nd:X.N.Nodup
  hN:X.N[i]?=some x
  hl:Loc X.env.scope x
  hf:X.fn x=true∨X.env.scope.names.lookup x=some .local
section
variable {X:Cx}{c:Ct}{xq:XQ}{a b e:Expr}{f g:FE}{pos:Pos}
theorem pd_name {i:Nat}{x:Str}(n:Nm X i x):PD X c (.Name x pos) (feName i):=PE.imp (pe_var n.hN n.hv n.hd n.hc) fun _ _ _ h=>tP_name h
theorem pr_name {i:Nat}{x:Str}(n:Nm X i x):PR X c (.Name x pos) (feRead i):=PE.imp (pe_var n.hN n.hv n.hd n.hc) fun _ _ _ h=>tP_read h
theorem pr_of (h:PD X c e f):PR X c e f:=PE.imp h fun _ _ _ h=>tP_weak (fun _ _ _ _ _ r=>RepR.of r) h
theorem pd_of {ff:FP (List D)}(h:PF X c e ff):PD X c e (feFr ff):=PE.imp h fun _ _ _ h=>tP_fr h
theorem pd_int {i:Int}{j}:PD X c (.Constant (.int i) j pos) (feC (.int i)):=PE.imp pe_int fun _ _ _ h=>tP_c (fun _ _=>.int _) h
theorem pd_str {x:Str}{z:List Nat}{j}(hx:x=mkS z):PD X c (.Constant (.str x) j pos) (feC (.str z)):=by
  subst hx
  exact PE.imp pe_str fun _ _ _ h=>tP_c (fun _ _=>.str _) h
theorem pd_bl {i:Bool}{j}:PD X c (.Constant (.bool i) j pos) (feC (.bl i)):=PE.imp pe_bl fun _ _ _ h=>tP_c (fun _ _=>.bl _) h
theorem pd_non {j}:PD X c (.Constant .none j pos) (feC .non):=PE.imp pe_non fun _ _ _ h=>tP_c (fun _ _=>.non) h
structure Gc (X:Cx)(c:Ct)(x:Str)(d:D):Prop where
  ex : ∃ v u,X.mg x=some u∧RelV v u∧∀ A H,Rep (tx X c) A H d v
theorem pd_glob {x:Str}{d:D}(G:Gc X c x d)(hg:Gl X x)(hd:(x == ("__debug__":Str))=false:=by decide):PD X c (.Name x pos) (feC d):=by
  obtain ⟨v,u,hm,hr,hv⟩:=G.ex
  exact PE.imp (pe_glob hg hm hr hd) fun _ _ _ h=>tP_c hv h
theorem op_catR:OpR X (binaryOp .Add) (rCatR X.K):=by
  intro pins s σ H x y v u Q I rx ry h
  obtain ⟨l,b,xs,zs,rfl,rfl,hH,hB,hz,q⟩:=h
  cases rx
  cases ry
  obtain ⟨its,r,p,z⟩:=I.list hH
  obtain ⟨its2,r2,p2,z2⟩:=I.list hB
  have hl:=r.length
  have hl2:=r2.length
  obtain ⟨⟨cls,dd,data,sl⟩,n,ho,hc,hdd,hd⟩:=p
  obtain ⟨⟨cls2,dd2,data2,sl2⟩,n2,ho2,hc2,hdd2,hd2⟩:=p2
  simp only at hc hd hc2 hd2
  subst hc hd hc2 hd2
  refine concat_meets ⟨_,ho,rfl⟩ ⟨_,ho2,rfl⟩ noFill_list_add seq_list_add PySem.F.slot_list_add PySem.F.entry_list_add (PySem.F.args_list_add_2 _ _) (list_addW l b its.toArray its2.toArray n n2 dd dd2 sl sl2 (by rw [List.size_toArray,List.size_toArray]; omega)) ⟨ho,ho2, ?_⟩
  have ea:its.toArray++its2.toArray=(its++its2).toArray:=by simp
  rw [ea]
  exact ⟨.ref _,_,I.lnew (t':=s.toks) (r.append r2) (by rw [List.length_append]; omega),rfl,q _ I.fresh⟩
theorem op_addD:OpR X (binaryOp .Add) (rAddD X.K):=op_add.or (op_add_str.or (op_catR.or op_catT))
theorem pd_add (ha:PR X c a f)(hb:PR X c b g):PD X c (.BinOp a .Add b pos) (fp2 addD f g):=PE.imp (pe_op op_addD ha hb) fun _ _ _ h=>tP_2 (ρ:=kR (tx X c)) (ρ2:=kR (tx X c)) snd_add h
theorem pf_add (ha:PR X c a f)(hb:PR X c b g):PF X c (.BinOp a .Add b pos) (fp2 addF f g):=PE.imp (pe_op op_addD ha hb) fun _ _ _ h=>tP_2 (ρ:=kR (tx X c)) (ρ2:=kR (tx X c)) snd_addF h
theorem pd_sub (ha:PD X c a f)(hb:PD X c b g):PD X c (.BinOp a .Sub b pos) (fp2 (intD subI) f g):=PE.imp (pe_op op_sub ha hb) fun _ _ _ h=>tP_2 (ρ:=kD (tx X c)) (ρ2:=kD (tx X c)) (snd_int0 (g:=fun i j=>.int (i - j)) fun _ _=>rfl) h
theorem pd_fdiv (ha:PD X c a f)(hb:PD X c b g):PD X c (.BinOp a .FloorDiv b pos) (fp2 (intD fdivI) f g) :=
  PE.imp (pe_op op_fdiv ha hb) fun _ _ _ h=>tP_2 (ρ:=kD (tx X c)) (ρ2:=kD (tx X c)) (snd_int (g:=fdivI) fun i j d e=>by
    unfold fdivI at e
    by_cases c : 0<j∧j<1073741824
    · rw [if_pos c] at e; cases e; exact ⟨c,rfl⟩
    · rw [if_neg c] at e; cases e) h
theorem pd_mod (ha:PD X c a f)(hb:PD X c b g):PD X c (.BinOp a .Mod b pos) (fp2 (intD modI) f g) :=
  PE.imp (pe_op op_mod ha hb) fun _ _ _ h=>tP_2 (ρ:=kD (tx X c)) (ρ2:=kD (tx X c)) (snd_int (g:=modI) fun i j d e=>by
    unfold modI at e
    by_cases c : 0<j
    · rw [if_pos c] at e; cases e; exact ⟨c,rfl⟩
    · rw [if_neg c] at e; cases e) h
theorem pd_pow (ha:PD X c a f)(hb:PD X c b g):PD X c (.BinOp a .Pow b pos) (fp2 (intD powI) f g) :=
  PE.imp (pe_op op_pow ha hb) fun _ _ _ h=>tP_2 (ρ:=kD (tx X c)) (ρ2:=kD (tx X c)) (snd_int (g:=powI) fun i j d e=>by
    unfold powI at e
    by_cases c : 0≤j∧j≤1000000∧i.natAbs<18446744073709551616
    · rw [if_pos c] at e; cases e; exact ⟨c,rfl⟩
    · rw [if_neg c] at e; cases e) h
noncomputable def rMulS:R2:=fun x y H Q=>∃ (z:List Nat) (k:Int),x=.str (mkS z)∧y=.int k∧z.length≤16∧-1000000000000000000≤k∧k≤1000000∧Q (.str (mkS (List.replicate k.toNat z).flatten)) H
theorem foldl_cps (z:List Nat) : ∀ (k:Nat) (acc:List Nat),List.foldl (fun x1 x2=>x1++x2) acc.toArray (List.replicate k z.toArray)=(acc++(List.replicate k z).flatten).toArray
  | 0,acc=>by simp
  | k+1,acc=>by
    have e:acc.toArray++z.toArray=(acc++z).toArray:=by simp
    have e2:(acc++z)++(List.replicate k z).flatten=acc++(List.replicate (k+1) z).flatten:=by rw [List.replicate_succ,List.flatten_cons,List.append_assoc]
    rw [← e2, ← foldl_cps z k (acc++z), ← e,List.replicate_succ,List.foldl_cons]
theorem mul_list (z:List Nat)(k:Int):Txt.mul (mkS z) k=mkS (List.replicate k.toNat z).flatten:=by
  unfold Txt.mul
  by_cases h:k<1
  · rw [if_pos h,show k.toNat=0 by omega]; rfl
  · rw [if_neg h]
    by_cases h2:(k == 1 || (mkS z).length == 0)=true
    · rw [if_pos h2]
      rw [Bool.or_eq_true] at h2
      rcases h2 with h2 | h2
      · have:k=1:=by simpa using h2
        subst this
        simp
      · have hz:z=[]:=by simpa [mkS_len] using h2
        subst hz
        simp
    · rw [if_neg h2]
      have:=foldl_cps z k.toNat []
      rw [List.nil_append] at this
      exact congrArg Str.mk this
theorem op_mulS:OpR X (binaryOp .Mult) rMulS:=by
  intro pins s σ H x y v u Q I rx ry h
  obtain ⟨z,k,rfl,rfl,h1,h2,h3,q⟩:=h
  obtain ⟨t,rfl⟩:=rx
  obtain ⟨t',rfl⟩:=ry
  rw [← mul_list] at q
  exact SB.mul (mulOk_of 16 1048576 (by rw [mkS_len]; exact h1) (by omega) (by omega) (by decide) (by decide)) fun t' k=>⟨.str _,H,I.tok _,⟨_,rfl⟩,q⟩
theorem snd_mul {T:Tx}(A:Addr→Prop)(H0 H:Hp)(x y:D)(v u:V)(d:D)(Q:VK)(nw:Nw A H)(rx:kR T A H0 H x v)(ry:kD T A H0 H y u)(e:mulD x y=some d)
    (k : ∀ w H',Same H H'→kD T A H H' d w→Q w H'):rI CMul (fun i j=>.int (i * j)) v u H Q∨rMulS v u H Q:=by
  unfold mulD at e
  split at e
  · rename_i i j
    cases RepR.int_ rx; cases Rep.int_ ry
    by_cases c:(-18446744073709551616<i∧i<18446744073709551616)∨(-18446744073709551616<j∧j<18446744073709551616)
    · rw [if_pos c] at e; cases e
      exact .inl ⟨i,j,rfl,rfl,by unfold CMul; omega,k _ H (Same.refl _) (Rep.int _)⟩
    · rw [if_neg c] at e; cases e
  · rename_i z n
    cases RepR.str_ rx; cases Rep.int_ ry
    by_cases c:z.length≤16∧-1000000000000000000≤n∧n≤1000000
    · rw [if_pos c] at e; cases e
      exact .inr ⟨z,n,rfl,rfl,c.1,c.2.1,c.2.2,k _ H (Same.refl _) (Rep.str _)⟩
    · rw [if_neg c] at e; cases e
  · cases e
theorem pd_mul (ha:PR X c a f)(hb:PD X c b g):PD X c (.BinOp a .Mult b pos) (fp2 mulD f g):=PE.imp (pe_op (op_mul.or op_mulS) ha hb) fun _ _ _ h=>tP_2 (ρ:=kR (tx X c)) (ρ2:=kD (tx X c)) snd_mul h
theorem RepL.rep {T:Tx}{A:Addr→Prop}{H:Hp}{ds:List D}{vs:List V}(r:RepL T A H ds vs) : ∀ k:Nat,RepL T A H (List.replicate k ds).flatten (List.replicate k vs).flatten
  | 0=>by simpa using RepL.nil
  | k+1=>by
    rw [List.replicate_succ,List.replicate_succ,List.flatten_cons,List.flatten_cons]
    exact r.append (RepL.rep r k)
theorem pf_mul {ff:FP (List D)}(ha:PF X c a ff)(hb:PD X c b g):PF X c (.BinOp a .Mult b pos) (fp2 mulF ff g):=PE.imp (pe_op op_rep ha hb) fun _ _ _ h=>tP_2 (ρ:=kF (tx X c)) (ρ2:=kD (tx X c)) (fun A H0 H x y v u d Q nw rx ry e k=>by
  unfold mulF at e
  split at e
  · rename_i n
    cases Rep.int_ ry
    by_cases c:x.length≤16∧-1000000000000000000≤n∧n≤60000
    · rw [if_pos c] at e; cases e
      obtain ⟨l,xs,rfl,_,hl,rl⟩:=rx
      refine ⟨l,n,xs,rfl,rfl,hl,by omega,by omega,small ?_,fun p hp=>k _ _ (same_new hp _) (kF_new (RepL.rep (rl.mono (Same.refl _) fun _ z=>z.1) _) hp)⟩
      have h1:xs.length≤16:=by rw [← rl.length]; exact c.1
      have h2:n.toNat≤60000:=by omega
      exact Nat.le_trans (Nat.mul_le_mul h1 h2) (by decide)
    · rw [if_neg c] at e; cases e
  · cases e) h
theorem pd_neg (ha:PD X c a f):PD X c (.UnaryOp .USub a pos) (fp1 negD f):=PE.imp (pe_un un_neg ha) fun _ _ _ h=>tP_1 (ρ:=kD (tx X c)) (fun A H0 H x v d Q nw rx e k=>by
  unfold negD at e
  split at e
  · cases e; cases Rep.int_ rx; exact ⟨_,rfl,k _ H (Same.refl _) (Rep.int _)⟩
  · cases e) h
theorem pd_cmp {ρ ρ2:RK D V}[Kd ρ][Kd ρ2]{op:CmpOp}{r:R2}{F:D→D→Option D}(ho:OpR X (compareOp op) r)
    (snd : ∀ (A:Addr→Prop) (H0 H:Hp) (x y:D) (v u:V) (d:D) (Q:VK),Nw A H→ρ A H0 H x v→ρ2 A H0 H y u→F x y=some d→(∀ w H',Same H H'→kD (tx X c) A H H' d w→Q w H')→r v u H Q)
    (ha:PE X a (tP (tx X c) ρ f)) (hb:PE X b (tP (tx X c) ρ2 g)) (hm:behindInMarks op b=false):PD X c (.Compare a [op] [b] pos) (fp2 F f g):=PE.imp (pe_cmpR ho ha hb hm) fun _ _ _ h=>tP_2 (ρ:=ρ) (ρ2:=ρ2) snd h
theorem pdt_cmp {ρ ρ2:RK D V}[Kd ρ][Kd ρ2]{op:CmpOp}{r:R2}{F:D→D→Option D}(ho:OpR X (compareOp op) r)
    (snd : ∀ (A:Addr→Prop) (H0 H:Hp) (x y:D) (v u:V) (d:D) (Q:VK),Nw A H→ρ A H0 H x v→ρ2 A H0 H y u→F x y=some d→(∀ w H',Same H H'→kD (tx X c) A H H' d w→Q w H')→r v u H Q)
    (ha:PE X a (tP (tx X c) ρ f)) (hb:PE X b (tP (tx X c) ρ2 g)) (hm:behindInMarks op b=false):PDT X c (.Compare a [op] [b] pos) (ftB (fp2 F f g)):=PT.imp (pt_cmpR ho ha hb hm) fun _ _ _ h=>tP_2 (ρ:=ρ) (ρ2:=ρ2) (ρ3:=kD (tx X c)) snd (tP_test h)
theorem pdt_lt (ha:PD X c a f)(hb:PD X c b g):PDT X c (.Compare a [.Lt] [b] pos) (ftB (fp2 (intD ltI) f g)):=pdt_cmp op_lt (snd_int0 (g:=fun i j=>.bl (decide (i<j))) fun _ _=>rfl) ha hb (nomark _)
theorem pdt_gt (ha:PD X c a f)(hb:PD X c b g):PDT X c (.Compare a [.Gt] [b] pos) (ftB (fp2 (intD gtI) f g)):=pdt_cmp op_gt (snd_int0 (g:=fun i j=>.bl (decide (j<i))) fun _ _=>rfl) ha hb (nomark _)
end
end DL
end
section
namespace DL
open PySem PySem.Spec PyProof.Rows L2
section
variable {X:Cx}{c:Ct}{xq:XQ}{a b e:Expr}{f g:FE}{pos:Pos}
theorem pd_ix (ha:PR X c a f)(hb:PD X c b g)(hs:plainI b=true:=by rfl):PD X c (.Subscript a b pos) (fp2 ixD f g):=PE.imp (pe_ix ix_seq ha hb (plainIx_no hs)) fun _ _ _ h=>tP_2 (ρ:=kR (tx X c)) (ρ2:=kD (tx X c)) snd_ix h
theorem pdo_none:PDO X c none foNone:=PO.imp po_none fun _ _ _ h=>tPO_none h
theorem pdo_some (h:PD X c e f):PDO X c (some e) (foSome f):=PO.imp (po_some h) fun _ _ _ h=>tPO_some h
theorem pda_nil:PDA X c [] faNil:=PA.imp pa_nil fun _ _ _ h=>tP_nil h
theorem pda_cons {es:List Expr}{fs:FA}(ha:PD X c e f)(hr:PDA X c es fs)(hs:isStar e=false:=by rfl):PDA X c (e::es) (faCons f fs):=PA.imp (pa_cons ha hr (star_cons hs)) fun _ _ _ h=>tP_cons h
theorem pd_tup {es:List Expr}{fs:FA}{x1}(h:PDA X c es fs):PD X c (.Tuple es x1 pos) (feTup fs):=PE.imp (pe_tup h) fun _ _ _ h=>tP_tup h
theorem pf_lst {es:List Expr}{fs:FA}(h:PDA X c es fs):PF X c (.List es pos) (ffLst fs):=PE.imp (pe_lst h) fun _ _ _ h=>tP_lst h
structure Def (P:Program)(w:World)(K:PySem.W.Frag)(mg:Str→Option Value)(base:Heap)(c:Ct)(x:Str)(ps:List Str)(k:Nat)(F:List D→Option D):Prop where
  ex : ∃ fa fd,FnOk P w K mg base CX0 k fa fd ps (spD ⟨K,c.cl,c.fld⟩ ps.length F)∧mg x=some (.ref fa)∧PySem.W.keepIn K (.ref fa)=true∧Binds K fd ps []
structure DefF (P:Program)(w:World)(K:PySem.W.Frag)(mg:Str→Option Value)(base:Heap)(c:Ct)(x:Str)(ps:List Str)(k:Nat)(F:List D→Option (List D)):Prop where
  ex : ∃ fa fd,FnOk P w K mg base CX0 k fa fd ps (spF ⟨K,c.cl,c.fld⟩ ps.length F)∧mg x=some (.ref fa)∧PySem.W.keepIn K (.ref fa)=true∧Binds K fd ps []
noncomputable abbrev DefAt (X:Cx)(c:Ct):=Def X.prog X.w X.K X.mg X.base c
noncomputable abbrev DefAtF (X:Cx)(c:Ct):=DefF X.prog X.w X.K X.mg X.base c
theorem pd_def {k j:Nat}{ps:List Str}{x:Str}{p:Pos}{es:List Expr}{fs:FA}{F:List D→Option D}(G:DefAt X c x ps k F)(hr:Room j X.A)(hkj:k≤j)(hg:Gl X x)
    (ha:PDA X c (e::es) fs) (hdb:(x == ("__debug__":Str))=false:=by decide) (he:isStar e=false:=by rfl) (hpl:noStars es=true:=by rfl) :
    PD X c (.Call (.Name x p) (e::es) [] pos) (feCall ps.length F fs):=by
  obtain ⟨fa,fd,h1,h2,h3,h4⟩:=G.ex
  exact PE.imp (pe_call (E:=E0) h1 (hr.mono hkj) hg h2 h3 h4 .nil pass0 ha hdb (star_cons he) (star_none hpl)) fun _ _ _ h=>tP_call h
theorem pf_def {k j:Nat}{ps:List Str}{x:Str}{p:Pos}{es:List Expr}{fs:FA}{F:List D→Option (List D)}(G:DefAtF X c x ps k F)(hr:Room j X.A)(hkj:k≤j)(hg:Gl X x)
    (ha:PDA X c (e::es) fs) (hdb:(x == ("__debug__":Str))=false:=by decide) (he:isStar e=false:=by rfl) (hpl:noStars es=true:=by rfl) :
    PF X c (.Call (.Name x p) (e::es) [] pos) (feCall ps.length F fs):=by
  obtain ⟨fa,fd,h1,h2,h3,h4⟩:=G.ex
  exact PE.imp (pe_call (E:=E0) h1 (hr.mono hkj) hg h2 h3 h4 .nil pass0 ha hdb (star_cons he) (star_none hpl)) fun _ _ _ h=>tP_callF h
theorem pa_one (ha:PR X c e f)(he:isStar e=false:=by rfl):PA X [e] (tP (tx X c) (kRA (tx X c)) (faR f)):=PA.imp (pa_cons ha pa_nil (star_cons he)) fun _ _ _ h=>tP_one h
theorem tP_of1 {α:Type}{ρ3:RK α V}[Kd ρ3]{T:Tx}{F:D→Option α}{r:List V→Hp→VK→Prop}{f:FE}{σ:L2.St}{H:Hp}{Q:VK}
    (snd : ∀ (A:Addr→Prop) (H0 H:Hp) (x:D) (v:V) (d : α) (Q:VK),Nw A H→kR T A H0 H x v→F x=some d→(∀ w H',Same H H'→ρ3 A H H' d w→Q w H')→r [v] H Q)
    (h:tP T ρ3 (fp1 F f) σ H Q):tCB r (tP T (kRA T) (faR f)) σ H Q:=by
  refine tP_1 (ρ:=kRA T) (F:=of1 F) (snd_one snd) ?_
  obtain ⟨W,O,env,d,E,e,q⟩:=h
  refine ⟨W,O,env,d,E, ?_,q⟩
  unfold fp1 faR at *
  cases e1:f env with
  | none=>rw [e1] at e; cases e
  | some x=>rw [e1] at e; exact e
theorem pd_b1 {α:Type}{ρ3:RK α V}[Kd ρ3]{id:String}{x:Str}{p:Pos}{r:List V→Hp→VK→Prop}{F:D→Option α}(hc:CallR X (.builtin id) r)
    (snd : ∀ (A:Addr→Prop) (H0 H:Hp) (x:D) (v:V) (d : α) (Q:VK),Nw A H→kR (tx X c) A H0 H x v→F x=some d→(∀ w H',Same H H'→ρ3 A H H' d w→Q w H')→r [v] H Q)
    (hg:Gl X x) (hm:X.mg x=none) (hv:bootBuiltins x=some (.builtin id)) (ha:PR X c e f) (he:isStar e=false) (hn:x≠"__name__":=by decide) (hdb:(x == ("__debug__":Str))=false:=by decide) :
    PE X (.Call (.Name x p) [e] [] pos) (tP (tx X c) ρ3 (fp1 F f)):=PE.imp (pe_callB hc hg hm hv (pa_one ha he) hn hdb (star_cons he)) fun _ _ _ h=>tP_of1 snd h
theorem pd_t1 {α:Type}{ρ3:RK α V}[Kd ρ3]{ty:String}{x:Str}{p:Pos}{r:List V→Hp→VK→Prop}{F:D→Option α}(hc:CallR X (.type ty) r)
    (snd : ∀ (A:Addr→Prop) (H0 H:Hp) (x:D) (v:V) (d : α) (Q:VK),Nw A H→kR (tx X c) A H0 H x v→F x=some d→(∀ w H',Same H H'→ρ3 A H H' d w→Q w H')→r [v] H Q)
    (hg:Gl X x) (hm:X.mg x=none) (hv:bootBuiltins x=some (.type ty)) (ha:PR X c e f) (he:isStar e=false) (hn:x≠"__name__":=by decide) (hdb:(x == ("__debug__":Str))=false:=by decide) :
    PE X (.Call (.Name x p) [e] [] pos) (tP (tx X c) ρ3 (fp1 F f)):=PE.imp (pe_callTy hc hg hm hv (pa_one ha he) hn hdb (star_cons he)) fun _ _ _ h=>tP_of1 snd h
theorem pd_len {p:Pos}(hg:Gl X "len")(hm:X.mg "len"=none)(ha:PR X c e f)(he:isStar e=false:=by rfl):PD X c (.Call (.Name "len" p) [e] [] pos) (fp1 lenD f):=pd_b1 call_len snd_len hg hm PySem.boot_len ha he
theorem pf_list {p:Pos}(hg:Gl X "list")(hm:X.mg "list"=none)(ha:PR X c e f)(he:isStar e=false:=by rfl):PF X c (.Call (.Name "list" p) [e] [] pos) (fp1 seqD f):=pd_t1 call_list_of snd_toL hg hm rfl ha he
noncomputable def tyS:Ty→String
  | .int=>"int" | .str=>"str" | .bool=>"bool" | .list=>"list" | .tuple=>"tuple" | .dict=>"dict"
theorem boot_ty (t:Ty):bootBuiltins (Str.ofString (tyS t))=some (.type (tyS t)):=by cases t <;> decide +kernel
noncomputable def tyOfD:D→Option String
  | .non=>some "NoneType"
  | .bl _=>some "bool"
  | .int _=>some "int"
  | .str _=>some "str"
  | .tup _=>some "tuple"
  | .lst _=>some "list"
  | _=>none
theorem inst_kit {K:PySem.W.Frag}{d:D}{t:Ty}{b:Bool}(h:instD t d=some (.bl b)) : ∃ s,tyOfD d=some s∧PySem.W.kitOne K (.type s) (.type (tyS t))=some b:=by
  cases d <;> cases h <;> refine ⟨_,rfl, ?_⟩ <;> cases t <;> rfl
theorem instD_bl {d r:D}{t:Ty}(h:instD t d=some r) : ∃ b,r=.bl b:=by
  cases d <;> cases h <;> exact ⟨_,rfl⟩
theorem isinst_D {pins:List (Addr × Obj)}{σ:L2.St}{H:Hp}{s:Shared}{A:Addr→Prop}{E:Value→Shared→Prop}{Ar:Around}{Q:Value→Shared→Prop}{d:D}{x:V}{u:Value}{t T:String}{b:Bool}(I:Inv X pins σ H s)(rx:RelV x u)(r:RepR (tx X c) A H d x)(e1:tyOfD d=some t)(e:PySem.W.kitOne X.K (.type t) (.type T)=some b)
    (h : ∀ tk,Q (.bool b) { s with toks:=tk }):wpAny (model X.prog X.w) Ar (call (.builtin "isinstance") [u,.type T]) Q E s:=by
  cases d with
  | non=>cases e1; cases RepR.non_ r; cases rx; exact PySem.W.kia_one PySem.W.kitx_none I.kIn True.intro e (fun z=>nomatch z) h
  | bl y=>cases e1; cases RepR.bl_ r; cases rx; exact PySem.W.kia_one PySem.W.kitx_bool I.kIn True.intro e (fun z=>nomatch z) h
  | int i=>cases e1; cases RepR.int_ r; obtain ⟨t,rfl⟩:=rx; exact PySem.W.kia_one PySem.W.kitx_int I.kIn True.intro e (fun z=>nomatch z) h
  | str y=>cases e1; cases RepR.str_ r; obtain ⟨t,rfl⟩:=rx; exact PySem.W.kia_one PySem.W.kitx_str I.kIn True.intro e (fun z=>nomatch z) h
  | tup ds =>
    cases e1
    obtain ⟨a,xs,rfl,hq,_⟩:=RepR.tup_ r
    cases rx
    obtain ⟨its,_,p,_⟩:=I.tuple hq
    obtain ⟨o,h1,h2,_⟩:=p
    exact PySem.W.kia_one PySem.W.kitx_tuple I.kIn ⟨o,h1,h2⟩ e (fun z=>nomatch z) h
  | lst ds =>
    cases e1
    obtain ⟨a,xs,rfl,hq,_⟩:=RepR.lst_ r
    cases rx
    obtain ⟨its,_,p,_⟩:=I.list hq
    obtain ⟨o,h1,h2,_⟩:=p.isList
    exact PySem.W.kia_one PySem.W.kitx_list I.kIn ⟨o,h1,h2⟩ e (fun z=>nomatch z) h
  | ob _ _ _=>cases e1
  | dct _ _=>cases e1
  | exc _=>cases e1
theorem vals2 {x y:V}{us:List Value}(r:Vals [x,y] us) : ∃ u v,us=[u,v]∧RelV x u∧RelV y v:=Vals.two r
theorem pd_isinst (t:Ty){p p2:Pos}(hg:Gl X "isinstance")(hm:X.mg "isinstance"=none)(hg2:Gl X (Str.ofString (tyS t)))(hm2:X.mg (Str.ofString (tyS t))=none)(ha:PR X c e f)
    (he:isStar e=false:=by rfl) :
    PD X c (.Call (.Name "isinstance" p) [e,.Name (Str.ofString (tyS t)) p2] [] pos) (fp1 (instD t) f):=by
  intro pins s σ H Q I h
  refine wpAny_Call_Name_kw (ld_blt I hg hm (show bootBuiltins "isinstance"=some (.builtin "isinstance") by decide +kernel) ?_ (by decide) (by decide))
  have hA:PA X [e,.Name (Str.ofString (tyS t)) p2] (tCons (tP (tx X c) (kR (tx X c)) f) (tCons (tC (.ty (tyS t))) tNil)):=pa_cons ha (pa_cons (pe_bltn hg2 hm2 (boot_ty t) rfl (by cases t <;> decide) (by cases t <;> decide)) pa_nil (star_cons rfl)) (star_cons he)
  obtain ⟨W,O,env,d,E,ee,q⟩:=h
  unfold fp1 at ee
  cases e1:f env with
  | none=>rw [e1] at ee; cases ee
  | some y =>
    rw [e1] at ee
    dsimp only [Option.bind_some] at ee
    obtain ⟨bb,rfl⟩:=instD_bl ee
    obtain ⟨st,e2,e3⟩:=inst_kit (K:=X.K) ee
    refine PyProof.Rows.callWith_builtin1 (thn5 (hA pos pins s σ H (fun vs H1=>∃ v,vs=[v,.ty (tyS t)]∧Same H H1∧RepR (tx X c) (Cl W O) H1 y v) I ⟨W,O,env,y,E,e1,fun v H1 s1 r1=>⟨v,rfl,s1,r1⟩⟩) fun us s1 vs H1 I1 r1 zz_=>?_) (star_cons he) (star_none rfl)
    obtain ⟨v,ev,s1',rv⟩:=zz_
    subst ev
    obtain ⟨u,u2,rfl,ru,ru2⟩:=vals2 r1
    cases ru2
    exact isinst_D I1 ru rv e2 e3 fun tk=>⟨.bl bb,H1,I1.tok _,rfl,q _ H1 s1' (Rep.bl _)⟩
theorem pd_not (ha:PD X c a f):PD X c (.UnaryOp .Not a pos) (feNot f):=PE.imp (pe_not ha) fun _ _ _ h=>tP_not h
theorem pd_one {op}(h:PD X c a f):PD X c (.BoolOp op [a] pos) f:=pe_one h
theorem pd_and {rest:List Expr}(ha:PD X c a f)(hb:PD X c (.BoolOp .And (b::rest) pos) g):PD X c (.BoolOp .And (a::b::rest) pos) (feAnd f g):=PE.imp (pe_and ha hb) fun _ _ _ h=>tP_and h
variable {t u:FT}
theorem pdt_val (h:PD X c e f)(he:plainT e=true:=by rfl):PDT X c e (ftB f):=PT.imp (pt_val h (isTrue_no he)) fun _ _ _ h=>tP_test h
theorem pdt_not (ha:PDT X c a t):PDT X c (.UnaryOp .Not a pos) (ftNot t):=PT.imp (pt_not ha) fun _ _ _ h=>tPT_not h
theorem pdw_or1 (ha:PDT X c a t):PDW X c (.BoolOp .Or [a] pos) t:=pw_or1 ha
theorem pdw_or {rest:List Expr}(ha:PDT X c a t)(hb:PDW X c (.BoolOp .Or (b::rest) pos) u):PDW X c (.BoolOp .Or (a::b::rest) pos) (ftOr t u):=PW.imp (pw_or ha hb) fun _ _ _ h=>tPT_or h
theorem PDW.pt (h:PDW X c e t):PDT X c e t:=PW.pt h
theorem pd_ifExp {te:Expr}(hc:PDT X c te t)(ha:PD X c a f)(hb:PD X c b g):PD X c (.IfExp te a b pos) (feIf t f g):=PE.imp (pe_ifExp hc ha hb) fun _ _ _ h=>tP_if h
variable {st:Stmt}{rest:List Stmt}{F G:FS}
theorem pdss_nil:PDSs X c xq [] fsNext:=PSs.imp pss_nil fun _ _ _ h=>tDs_next h
theorem pdss_cons (h1:PDS X c xq st F)(h2:PDSs X c xq rest G):PDSs X c xq (st::rest) (fsSeq F G):=PSs.imp (pss_cons h1 h2) fun _ _ _ h=>tDs_seq h
theorem pdss_one (h1:PDS X c xq st F):PDSs X c xq [st] F:=pss_one h1
theorem pdss_frz {i:Nat}{sts:List Stmt}(h:PDSs X c xq sts F):PDSs X c xq sts (fsFrz i F):=PSs.imp h fun _ _ _ h=>tDs_frz h
theorem pds_ret (h:PD X c e f):PDS X c xq (.Return (some e) pos) (fsRet f):=PS.imp (ps_ret h) fun _ _ _ h=>tDs_ret h
theorem pds_retF {f:FP (List D)}(h:PF X c e f):PDS X c xq (.Return (some e) pos) (fsRetF f):=PS.imp (ps_ret h) fun _ _ _ h=>tDs_retF h
theorem pds_retO {i:Nat}{x:Str}{p2:Pos}(n:Nm X i x):PDS X c xq (.Return (some (.Name x p2)) pos) (fsRetO i):=PS.imp (ps_ret (pe_var n.hN n.hv n.hd n.hc)) fun _ _ _ h=>tDs_retO h
theorem pds_if {te:Expr}{as bs:List Stmt}(hc:PDT X c te t)(ha:PDSs X c xq as F)(hb:PDSs X c xq bs G):PDS X c xq (.If te as bs pos) (fsIf t F G):=PS.imp (ps_if hc ha hb) fun _ _ _ h=>tDs_if h
theorem pds_set {i:Nat}{x:Str}{pos':Pos}(n:Nl X i x)(he:PD X c e f)(hs:noComp e=true:=by rfl) :
    PDS X c xq (.Assign [.Name x pos'] e pos) (fsSet i f):=PS.imp (ps_set n.nd n.hN n.hl he (swaps_no hs) n.hf) fun _ _ _ h=>tDs_set h
theorem pds_own {i:Nat}{x:Str}{pos':Pos}{f:FP (List D)}(n:Nl X i x)(he:PF X c e f)(hs:noComp e=true:=by rfl) :
    PDS X c xq (.Assign [.Name x pos'] e pos) (fsOwn i f):=PS.imp (ps_set n.nd n.hN n.hl he (swaps_no hs) n.hf) fun _ _ _ h=>tDs_own h
theorem pi_seq {tg l:Expr}{tl:TE}(hl:PE X l tl):PI X tg l (iSeq X.K tl):=by
  intro pins s σ H R I h
  refine thn5 (hl pins s σ H _ I h) fun v s1 x H1 I1 r1 q1=>?_
  obtain ⟨a,e,q1⟩:=q1
  subst e
  cases r1
  rcases q1 with ⟨⟨xs,hq⟩,q⟩ | ⟨⟨xs,hq⟩,q⟩
  · obtain ⟨its,rv,p,hz⟩:=I1.list hq
    refine wpAny_pyIter_list p.isList ?_
    refine ⟨s1.heap.objs.size,[s1.heap.objs.size],_,_,H1,rfl,I1.kept (t':=s1.toks) fun b o e=>Heap.get?_push_of_some _ e,turn_list a _,⟨_,Heap.get?_push_size _ rfl,rfl,rfl⟩,fun b hb=>?_,q⟩
    have e:b=s1.heap.objs.size:=by simpa using hb
    subst e
    exact I1.fpOk (Nat.le_refl _) (I1.hok.fresh (Nat.le_refl _))
  · obtain ⟨its,rv,p,hz⟩:=I1.tuple hq
    refine wpAny_pyIter_tuple (show s1.heap.IsTuple a its.toArray from p) ?_
    refine ⟨s1.heap.objs.size,[s1.heap.objs.size],_,_,H1,rfl,I1.kept (t':=s1.toks) fun b o e=>Heap.get?_push_of_some _ e,turn_tuple a _,⟨_,Heap.get?_push_size _ rfl,rfl,rfl⟩,fun b hb=>?_,q⟩
    have e:b=s1.heap.objs.size:=by simpa using hb
    subst e
    exact I1.fpOk (Nat.le_refl _) (I1.hok.fresh (Nat.le_refl _))
theorem pg_nm {i:Nat}{x:Str}(n:Nl X i x):PG X (.Name x pos) (gName i):=pg_name n.nd n.hN n.hl n.hf
theorem pds_for {tgE iter:Expr}{tg:FG}{gt:TG}{body:List Stmt}{fi:FE}(hp:PassesOwn (model X.prog X.w) X.A X.env X.xe)(hc:X.calm=true)(sg:SndG (tx X c) tg gt)(pg:PG X tgE gt)(hi:PD X c iter fi)(hb:PDSs X c xq body F)
    (hs:noSet iter=true:=by rfl):PDS X c xq (.For tgE iter body [] pos) (fsFor tg fi F) :=
  PS.imp (ps_for hp hc (pi_seq hi) pg hb (folded_no hs)) fun _ _ _ h=>tDs_for sg h
theorem pds_for1 {tgE:Expr}{tg:FG}{gt:TG}{p p2:Pos}{body:List Stmt}{fs:FA}(hp:PassesOwn (model X.prog X.w) X.A X.env X.xe)(hc:X.calm=true)(sg:SndG (tx X c) tg gt)(pg:PG X tgE gt)(hg:Gl X "range")(hm:X.mg "range"=none)(ha:PDA X c [a] fs)(hb:PDSs X c xq body F)(hst:isStar a=false:=by rfl)
   :PDS X c xq (.For tgE (.Call (.Name "range" p) [a] [] p2) body [] pos) (fsForR rng1 tg fs F) :=
  PS.imp (ps_for hp hc (pi_range1 hg hm ha (star_one hst)) pg hb (folded_no rfl)) fun _ _ _ h=>tDs_for1 sg h
theorem pds_for2 {tgE:Expr}{tg:FG}{gt:TG}{p p2:Pos}{body:List Stmt}{fs:FA}(hp:PassesOwn (model X.prog X.w) X.A X.env X.xe)(hc:X.calm=true)(sg:SndG (tx X c) tg gt)(pg:PG X tgE gt)(hg:Gl X "range")(hm:X.mg "range"=none)(ha:PDA X c [a,b] fs)(hb:PDSs X c xq body F)(hst:isStar a=false:=by rfl)(hst2:isStar b=false:=by rfl)
   :PDS X c xq (.For tgE (.Call (.Name "range" p) [a,b] [] p2) body [] pos) (fsForR rng2 tg fs F) :=
  PS.imp (ps_for hp hc (pi_range2 hg hm ha (star_two hst hst2) (star_one hst2)) pg hb (folded_no rfl)) fun _ _ _ h=>tDs_for2 sg h
end
end DL
end
section
namespace DL
open PySem PySem.Spec PyProof.Rows L2 PySem.SeqAt
theorem EqAt.of_rc {A:Around}{s:Shared}{a b:Value}{k:Bool}(hf : ∀ x t,a≠.float x t)(h:RcAt A s a b k)(hs:a=b→k=true):EqAt A s a b k:=fun prog w E Q hq=>by
  unfold eqBool
  refine wpAny_holding ?_
  refine wpAny_ite_split (fun hab=>?_) (fun _=>?_)
  · have:=hs (eq_of_beq hab)
    subst this
    exact wpAny_bind (wpAny_rule (wpAny_pure hq))
  · cases a with
    | float x t=>exact absurd rfl (hf x t)
    | _=>exact wpAny_bind (h prog w E _ (wpAny_truthy_bool hq))
theorem eqZ_get {f:D→D→Option Bool} : ∀ {as bs:List D} {r:Bool},eqZ f as bs=some r→∃ e:Nat→Bool,(∀ (j:Nat) x y,as[j]?=some x→bs[j]?=some y→f x y=some (e j))∧r=(List.range (min as.length bs.length)).all e
  | [],bs,r,h=>by
    unfold eqZ at h; cases h
    exact ⟨fun _=>true,fun j x y h=>by simp at h,by simp⟩
  | a::as,[],r,h=>by
    unfold eqZ at h; cases h
    exact ⟨fun _=>true,fun j x y _ h=>by simp at h,by simp⟩
  | a::as,b::bs,r,h=>by
    unfold eqZ at h
    cases e1:f a b with
    | none=>rw [e1] at h; cases h
    | some x0 =>
      rw [e1] at h
      dsimp only [Option.bind_some] at h
      cases e2:eqZ f as bs with
      | none=>rw [e2] at h; cases h
      | some y0 =>
        rw [e2] at h; cases h
        obtain ⟨e,h1,h2⟩:=eqZ_get e2
        refine ⟨fun j=>match j with | 0=>x0 | j+1=>e j,fun j x y hx hy=>?_, ?_⟩
        · cases j with
          | zero=>simp at hx hy; subst hx hy; exact e1
          | succ j=>exact h1 j x y (by simpa using hx) (by simpa using hy)
        · have hl:min (a::as).length (b::bs).length=min as.length bs.length+1:=by simp only [List.length_cons]; omega
          rw [hl,List.range_succ_eq_map,List.all_cons,List.all_map,h2]
          rfl
section
variable {X:Cx}{c:Ct}{pins:List (Addr × Obj)}{σ:L2.St}{H:Hp}{s:Shared}{A:Addr→Prop}
theorem rep_same (I:Inv X pins σ H s) : ∀ (n:Nat) {x y:D} {v:V} {b:Bool},RepR (tx X c) A H x v→RepR (tx X c) A H y v→eqN n x y=some b→b=true
  | 0,_,_,_,_,_,_,h=>by cases h
  | n+1,x,y,v,b,rx,ry,h=>by
    have go : ∀ {as bs:List D} {xs:List V} {r:Bool},RepL (tx X c) A H as xs→RepL (tx X c) A H bs xs→eqZ (eqN n) as bs=some r→r=true:=fun {as bs xs r} ra rb hz=>by
      obtain ⟨e,h1,h2⟩:=eqZ_get hz
      rw [h2,List.all_eq_true]
      intro j hj
      have hj':j<min as.length bs.length:=by simpa using hj
      have la:=ra.length
      have hx:as[j]?=some (as[j]'(by omega)):=List.getElem?_eq_getElem _
      have hy:bs[j]?=some (bs[j]'(by omega)):=List.getElem?_eq_getElem _
      obtain ⟨v1,g1,r1⟩:=ra.get hx
      obtain ⟨v2,g2,r2⟩:=rb.get hy
      rw [g1] at g2; cases g2
      exact rep_same I n (RepR.of r1) (RepR.of r2) (h1 j _ _ hx hy)
    cases x with
    | non=>cases y <;> first | (cases h; rfl) | (cases RepR.non_ rx; first | cases RepR.bl_ ry | cases RepR.int_ ry | cases RepR.str_ ry | (obtain ⟨_,_,z,_⟩:=RepR.tup_ ry; cases z) | (obtain ⟨_,_,z,_⟩:=RepR.lst_ ry; cases z) | cases h)
    | bl p =>
      cases RepR.bl_ rx
      cases y with
      | bl q=>cases h; cases RepR.bl_ ry; simp
      | int q=>cases RepR.int_ ry
      | non=>cases RepR.non_ ry
      | str q=>cases RepR.str_ ry
      | tup q=>obtain ⟨_,_,z,_⟩:=RepR.tup_ ry; cases z
      | lst q=>obtain ⟨_,_,z,_⟩:=RepR.lst_ ry; cases z
      | ob _ _ _=>cases h
      | dct _ _=>cases h
      | exc _=>cases h
    | int p =>
      cases RepR.int_ rx
      cases y with
      | int q=>cases h; cases RepR.int_ ry; simp
      | bl q=>cases RepR.bl_ ry
      | non=>cases RepR.non_ ry
      | str q=>cases RepR.str_ ry
      | tup q=>obtain ⟨_,_,z,_⟩:=RepR.tup_ ry; cases z
      | lst q=>obtain ⟨_,_,z,_⟩:=RepR.lst_ ry; cases z
      | ob _ _ _=>cases h
      | dct _ _=>cases h
      | exc _=>cases h
    | str p =>
      cases RepR.str_ rx
      cases y with
      | str q =>
        have hz:=RepR.str_ ry
        injection hz with hz
        have hz:=mkS_inj hz
        subst hz
        cases h; simp
      | bl q=>cases RepR.bl_ ry
      | non=>cases RepR.non_ ry
      | int q=>cases RepR.int_ ry
      | tup q=>obtain ⟨_,_,z,_⟩:=RepR.tup_ ry; cases z
      | lst q=>obtain ⟨_,_,z,_⟩:=RepR.lst_ ry; cases z
      | ob _ _ _=>cases h
      | dct _ _=>cases h
      | exc _=>cases h
    | tup p =>
      obtain ⟨a1,xs1,rfl,q1,r1⟩:=RepR.tup_ rx
      cases y with
      | tup q =>
        obtain ⟨a2,xs2,z,q2,r2⟩:=RepR.tup_ ry
        cases z
        have:=I.tuple_inj q1 q2
        subst this
        replace h:(eqZ (eqN n) p q).map (fun r=>r && p.length == q.length)=some b:=h
        cases e1:eqZ (eqN n) p q with
        | none=>rw [e1] at h; cases h
        | some r =>
          rw [e1] at h; cases h
          rw [go r1 r2 e1,r1.length,r2.length]; simp
      | lst q =>
        obtain ⟨a2,xs2,z,q2,r2⟩:=RepR.lst_ ry
        cases z
        obtain ⟨_,_,p1,_⟩:=I.tuple q1
        obtain ⟨_,_,p2,_⟩:=I.list q2
        obtain ⟨o,h1,h2,_⟩:=p1
        obtain ⟨o',n',h1',h2',_⟩:=p2
        rw [h1] at h1'; cases h1'
        rw [h2] at h2'
        injection h2' with z
        exact absurd z (by decide)
      | bl q=>cases RepR.bl_ ry
      | non=>cases RepR.non_ ry
      | int q=>cases RepR.int_ ry
      | str q=>cases RepR.str_ ry
      | ob _ _ _=>cases h
      | dct _ _=>cases h
      | exc _=>cases h
    | lst p =>
      obtain ⟨a1,xs1,rfl,q1,r1⟩:=RepR.lst_ rx
      cases y with
      | lst q =>
        obtain ⟨a2,xs2,z,q2,r2⟩:=RepR.lst_ ry
        cases z
        have:=I.list_inj q1 q2
        subst this
        replace h:(if p.length=q.length then eqZ (eqN n) p q else some false)=some b:=h
        rw [if_pos (by rw [r1.length,r2.length])] at h
        exact go r1 r2 h
      | tup q =>
        obtain ⟨a2,xs2,z,q2,r2⟩:=RepR.tup_ ry
        cases z
        obtain ⟨_,_,p1,_⟩:=I.tuple q2
        obtain ⟨_,_,p2,_⟩:=I.list q1
        obtain ⟨o,h1,h2,_⟩:=p1
        obtain ⟨o',n',h1',h2',_⟩:=p2
        rw [h1] at h1'; cases h1'
        rw [h2] at h2'
        injection h2' with z
        exact absurd z (by decide)
      | bl q=>cases RepR.bl_ ry
      | non=>cases RepR.non_ ry
      | int q=>cases RepR.int_ ry
      | str q=>cases RepR.str_ ry
      | ob _ _ _=>cases h
      | dct _ _=>cases h
      | exc _=>cases h
    | ob _ _ _=>cases y <;> cases h
    | dct _ _=>cases y <;> cases h
    | exc _=>cases y <;> cases h
theorem relV_nofloat {x:D}{v:V}{a:Value}(rx:RepR (tx X c) A H x v)(r:RelV v a) : ∀ z t,a≠.float z t:=fun z t e=>by
  subst e
  cases v with
  | flt b =>
    cases x with
    | non=>cases RepR.non_ rx
    | bl q=>cases RepR.bl_ rx
    | int q=>cases RepR.int_ rx
    | str q=>cases RepR.str_ rx
    | tup q=>obtain ⟨_,_,z,_⟩:=RepR.tup_ rx; cases z
    | lst q=>obtain ⟨_,_,z,_⟩:=RepR.lst_ rx; cases z
    | ob _ _ _=>obtain ⟨_,_,_,_,z,_⟩:=Rep.ob_ (show Rep (tx X c) A H (.ob _ _ _) _ from rx); cases z
    | dct _ _=>obtain ⟨_,_,z,_⟩:=Rep.dct_ (show Rep (tx X c) A H (.dct _ _) _ from rx); cases z
    | exc _=>obtain ⟨_,_,z,_⟩:=Rep.exc_ (show Rep (tx X c) A H (.exc _) _ from rx); cases z
  | non=>cases r
  | bl b=>cases r
  | int b=>obtain ⟨_,z⟩:=r; cases z
  | str b=>obtain ⟨_,z⟩:=r; cases z
  | byt b=>obtain ⟨_,z⟩:=r; cases z
  | ref b=>cases r
  | ty b=>cases r
noncomputable def Shp (T:Tx)(A:Addr→Prop)(H:Hp)(h:Heap):D→Value→Prop
  | .non,v=>v=.none
  | .bl q,v=>v=.bool q
  | .int q,v=>∃ t,v=.int q t
  | .str q,v=>∃ t,v=.str (mkS q) t
  | .tup ds,v=>∃ a xs us,v=.ref a∧RepL T A H ds xs∧Vals xs us∧IsTup h a us.toArray
  | .lst ds,v=>∃ a xs us,v=.ref a∧RepL T A H ds xs∧Vals xs us∧PlainL h a us.toArray
  | _,_=>True
theorem shp_of (I:Inv X pins σ H s) : ∀ {x:D} {v:V} {av:Value},RepR (tx X c) A H x v→RelV v av→Shp (tx X c) A H s.heap x av
  | .non,_,_,rx,rv=>by cases RepR.non_ rx; cases rv; rfl
  | .bl _,_,_,rx,rv=>by cases RepR.bl_ rx; cases rv; rfl
  | .int _,_,_,rx,rv=>by cases RepR.int_ rx; exact rv
  | .str _,_,_,rx,rv=>by cases RepR.str_ rx; exact rv
  | .tup _,_,_,rx,rv=>by
    obtain ⟨a,xs,rfl,q,r⟩:=RepR.tup_ rx
    cases rv
    obtain ⟨us,v,p,_⟩:=I.tuple q
    exact ⟨a,xs,us,rfl,r,v,p⟩
  | .lst _,_,_,rx,rv=>by
    obtain ⟨a,xs,rfl,q,r⟩:=RepR.lst_ rx
    cases rv
    obtain ⟨us,v,p,_⟩:=I.list q
    exact ⟨a,xs,us,rfl,r,v,p⟩
  | .ob _ _ _,_,_,_,_=>trivial
  | .dct _ _,_,_,_,_=>trivial
  | .exc _,_,_,_,_=>trivial
theorem beq_mkS (p q:List Nat):(p == q)=(mkS p == mkS q):=by
  by_cases hh:p=q
  · subst hh; simp
  · rw [beq_eq_false_iff_ne.mpr hh,beq_eq_false_iff_ne.mpr fun e=>hh (mkS_inj e)]
theorem len2 {T:Tx}{ds:List D}{xs:List V}{us:List Value}(r:RepL T A H ds xs)(v:Vals xs us):ds.length=us.toArray.size:=by
  rw [List.size_toArray]; exact r.length.trans v.length
theorem rc_go (I:Inv X pins σ H s){n:Nat}{Ar:Around}(ih : ∀ {x y:D} {v u:V} {av au:Value} {b:Bool} {Ar:Around},RepR (tx X c) A H x v→RepR (tx X c) A H y u→RelV v av→RelV u au→eqN n x y=some b→Ar.units+n<cLine→RcAt Ar s av au b)(hu:Ar.units+(n+1)<cLine)
    {as bs:List D} {xs ys:List V} {us ws:List Value} {r:Bool} (ra:RepL (tx X c) A H as xs) (rb:RepL (tx X c) A H bs ys) (va:Vals xs us) (vb:Vals ys ws) (hz:eqZ (eqN n) as bs=some r) :
    ∃ e:Nat→Bool,(∀ j (h1:j<us.toArray.size) (h2:j<ws.toArray.size),EqAt Ar.in1 s us.toArray[j] ws.toArray[j] (e j))∧r=(List.range (min us.toArray.size ws.toArray.size)).all e:=by
  obtain ⟨e,h1,h2⟩:=eqZ_get hz
  have l1:=ra.length
  have l2:=va.length
  have l3:=rb.length
  have l4:=vb.length
  refine ⟨e,fun j hj1 hj2=>?_,by rw [h2]; simp only [List.size_toArray]; rw [l1,l2,l3,l4]⟩
  simp only [List.size_toArray] at hj1 hj2
  have hx:as[j]?=some (as[j]'(by omega)):=List.getElem?_eq_getElem _
  have hy:bs[j]?=some (bs[j]'(by omega)):=List.getElem?_eq_getElem _
  obtain ⟨v1,g1,r1⟩:=ra.get hx
  obtain ⟨v2,g2,r2⟩:=rb.get hy
  obtain ⟨u1,k1,s1⟩:=va.get g1
  obtain ⟨u2,k2,s2⟩:=vb.get g2
  have e1:us.toArray[j]=u1:=by
    have:=List.getElem?_eq_some_iff.mp k1
    obtain ⟨_,z⟩:=this
    simpa using z
  have e2:ws.toArray[j]=u2:=by
    have:=List.getElem?_eq_some_iff.mp k2
    obtain ⟨_,z⟩:=this
    simpa using z
  rw [e1,e2]
  have hn:=h1 j _ _ hx hy
  have hue:Ar.in1.units+n<cLine:=by show Ar.units+1+n<cLine; omega
  refine EqAt.of_rc (relV_nofloat (c:=c) (A:=A) (RepR.of r1) s1) (ih (RepR.of r1) (RepR.of r2) s1 s2 hn hue) fun ee=>?_
  subst ee
  have:=s1.inj s2
  subst this
  exact rep_same I n (RepR.of r1) (RepR.of r2) hn
theorem rc_shp {n:Nat}{Ar:Around}(go : ∀ {as bs:List D} {xs ys:List V} {us ws:List Value} {r:Bool},RepL (tx X c) A H as xs→RepL (tx X c) A H bs ys→Vals xs us→Vals ys ws→eqZ (eqN n) as bs=some r→∃ e:Nat→Bool,(∀ j (h1:j<us.toArray.size) (h2:j<ws.toArray.size),EqAt Ar.in1 s us.toArray[j] ws.toArray[j] (e j))∧r=(List.range (min us.toArray.size ws.toArray.size)).all e)(hu0:Ar.units<cLine){x y:D}{av au:Value}{b:Bool}(sx:Shp (tx X c) A H s.heap x av)(sy:Shp (tx X c) A H s.heap y au)(h:eqN (n+1) x y=some b):RcAt Ar s av au b:=by
  cases x with
  | non =>
    cases sx
    cases y with
    | non=>cases h; cases sy; exact .none_none
    | bl q=>cases h; cases sy; exact .none_bool _
    | int q=>cases h; obtain ⟨t2,rfl⟩:=sy; exact .none_int _ _
    | str q=>cases h; obtain ⟨t2,rfl⟩:=sy; exact .none_str _ _
    | tup q=>cases h; obtain ⟨a2,xs2,us2,rfl,r2,v2,p2⟩:=sy; exact .none_tuple p2 hu0
    | lst q=>cases h; obtain ⟨a2,xs2,us2,rfl,r2,v2,p2⟩:=sy; exact .none_list p2.isList hu0
    | ob _ _ _=>cases h
    | dct _ _=>cases h
    | exc _=>cases h
  | bl p =>
    cases sx
    cases y with
    | non=>cases h; cases sy; exact .bool_none _
    | bl q=>cases h; cases sy; exact .bool_bool _ _
    | int q=>cases h; obtain ⟨t2,rfl⟩:=sy; exact .bool_int _ _ _
    | str q=>cases h; obtain ⟨t2,rfl⟩:=sy; exact .bool_str _ _ _
    | tup q=>cases h; obtain ⟨a2,xs2,us2,rfl,r2,v2,p2⟩:=sy; exact .bool_tuple _ p2 hu0
    | lst q=>cases h; obtain ⟨a2,xs2,us2,rfl,r2,v2,p2⟩:=sy; exact .bool_list _ p2.isList hu0
    | ob _ _ _=>cases h
    | dct _ _=>cases h
    | exc _=>cases h
  | int p =>
    obtain ⟨t1,rfl⟩:=sx
    cases y with
    | non=>cases h; cases sy; exact .int_none _ _
    | bl q=>cases h; cases sy; exact .int_bool _ _ _
    | int q=>cases h; obtain ⟨t2,rfl⟩:=sy; exact .int_int _ _ _ _
    | str q=>cases h; obtain ⟨t2,rfl⟩:=sy; exact .int_str _ _ _ _
    | tup q=>cases h; obtain ⟨a2,xs2,us2,rfl,r2,v2,p2⟩:=sy; exact .int_tuple _ _ p2 hu0
    | lst q=>cases h; obtain ⟨a2,xs2,us2,rfl,r2,v2,p2⟩:=sy; exact .int_list _ _ p2.isList hu0
    | ob _ _ _=>cases h
    | dct _ _=>cases h
    | exc _=>cases h
  | str p =>
    obtain ⟨t1,rfl⟩:=sx
    cases y with
    | non=>cases h; cases sy; exact .str_none _ _
    | bl q=>cases h; cases sy; exact .str_bool _ _ _
    | int q=>cases h; obtain ⟨t2,rfl⟩:=sy; exact .str_int _ _ _ _
    | str q =>
      cases h; obtain ⟨t2,rfl⟩:=sy
      rw [beq_mkS]
      exact .str_str _ _ _ _
    | tup q=>cases h; obtain ⟨a2,xs2,us2,rfl,r2,v2,p2⟩:=sy; exact .str_tuple _ _ p2 hu0
    | lst q=>cases h; obtain ⟨a2,xs2,us2,rfl,r2,v2,p2⟩:=sy; exact .str_list _ _ p2.isList hu0
    | ob _ _ _=>cases h
    | dct _ _=>cases h
    | exc _=>cases h
  | tup p =>
    obtain ⟨a1,xs1,us1,rfl,r1,v1,p1⟩:=sx
    cases y with
    | non=>cases h; cases sy; exact .tuple_none p1 hu0
    | bl q=>cases h; cases sy; exact .tuple_bool _ p1 hu0
    | int q=>cases h; obtain ⟨t2,rfl⟩:=sy; exact .tuple_int _ _ p1 hu0
    | str q=>cases h; obtain ⟨t2,rfl⟩:=sy; exact .tuple_str _ _ p1 hu0
    | tup q =>
      obtain ⟨a2,xs2,us2,rfl,r2,v2,p2⟩:=sy
      replace h:(eqZ (eqN n) p q).map (fun r=>r && p.length == q.length)=some b:=h
      cases e1:eqZ (eqN n) p q with
      | none=>rw [e1] at h; cases h
      | some r =>
        rw [e1] at h; cases h
        obtain ⟨e,g1,g2⟩:=go r1 r2 v1 v2 e1
        rw [g2,len2 r1 v1,len2 r2 v2]
        exact .tuples p1 p2 hu0 g1
    | lst q=>cases h; obtain ⟨a2,xs2,us2,rfl,r2,v2,p2⟩:=sy; exact .tuple_list p1 p2.isList hu0
    | ob _ _ _=>cases h
    | dct _ _=>cases h
    | exc _=>cases h
  | lst p =>
    obtain ⟨a1,xs1,us1,rfl,r1,v1,p1⟩:=sx
    cases y with
    | non=>cases h; cases sy; exact .list_none p1.isList hu0
    | bl q=>cases h; cases sy; exact .list_bool _ p1.isList hu0
    | int q=>cases h; obtain ⟨t2,rfl⟩:=sy; exact .list_int _ _ p1.isList hu0
    | str q=>cases h; obtain ⟨t2,rfl⟩:=sy; exact .list_str _ _ p1.isList hu0
    | tup q=>cases h; obtain ⟨a2,xs2,us2,rfl,r2,v2,p2⟩:=sy; exact .list_tuple p1.isList p2 hu0
    | lst q =>
      obtain ⟨a2,xs2,us2,rfl,r2,v2,p2⟩:=sy
      replace h:(if p.length=q.length then eqZ (eqN n) p q else some false)=some b:=h
      have hl1:=len2 r1 v1
      have hl2:=len2 r2 v2
      by_cases hl:p.length=q.length
      · rw [if_pos hl] at h
        obtain ⟨e,g1,g2⟩:=go r1 r2 v1 v2 h
        have hm:us1.toArray.size=us2.toArray.size:=hl1.symm.trans (hl.trans hl2)
        rw [g2, ← hm,Nat.min_self]
        exact .lists p1.isList p2.isList hm hu0 g1
      · rw [if_neg hl] at h; cases h
        exact .lists_lengths p1.isList p2.isList (by rw [← hl1, ← hl2]; exact bne_iff_ne.mpr hl) hu0
    | ob _ _ _=>cases h
    | dct _ _=>cases h
    | exc _=>cases h
  | ob _ _ _=>cases y <;> cases h
  | dct _ _=>cases y <;> cases h
  | exc _=>cases y <;> cases h
theorem rc_of (I:Inv X pins σ H s) : ∀ (n:Nat) {x y:D} {v u:V} {av au:Value} {b:Bool} {Ar:Around},RepR (tx X c) A H x v→RepR (tx X c) A H y u→RelV v av→RelV u au→eqN n x y=some b→Ar.units+n<cLine→RcAt Ar s av au b
  | 0,_,_,_,_,_,_,_,_,_,_,_,_,h,_=>by cases h
  | n+1,_,_,_,_,_,_,_,_,rx,ry,rv,ru,h,hu=>rc_shp (X:=X) (c:=c) (A:=A) (H:=H) (rc_go I (rc_of I n) hu) (Nat.lt_of_le_of_lt (Nat.le_add_right _ _) hu) (shp_of I rx rv) (shp_of I ry ru) h
theorem rcne_shp {n:Nat}{Ar:Around}(go : ∀ {as bs:List D} {xs ys:List V} {us ws:List Value} {r:Bool},RepL (tx X c) A H as xs→RepL (tx X c) A H bs ys→Vals xs us→Vals ys ws→eqZ (eqN n) as bs=some r→∃ e:Nat→Bool,(∀ j (h1:j<us.toArray.size) (h2:j<ws.toArray.size),EqAt Ar.in1 s us.toArray[j] ws.toArray[j] (e j))∧r=(List.range (min us.toArray.size ws.toArray.size)).all e)(hu0:Ar.units<cLine){x y:D}{av au:Value}{b:Bool}(sx:Shp (tx X c) A H s.heap x av)(sy:Shp (tx X c) A H s.heap y au)(h:eqN (n+1) x y=some b):RcNeAt Ar s av au (!b):=by
  cases x with
  | non =>
    cases sx
    cases y with
    | non=>cases h; cases sy; exact .none_none
    | bl q=>cases h; cases sy; exact .none_bool _
    | int q=>cases h; obtain ⟨t2,rfl⟩:=sy; exact .none_int _ _
    | str q=>cases h; obtain ⟨t2,rfl⟩:=sy; exact .none_str _ _
    | tup q=>cases h; obtain ⟨a2,xs2,us2,rfl,r2,v2,p2⟩:=sy; exact .none_tuple p2 hu0
    | lst q=>cases h; obtain ⟨a2,xs2,us2,rfl,r2,v2,p2⟩:=sy; exact .none_list p2.isList hu0
    | ob _ _ _=>cases h
    | dct _ _=>cases h
    | exc _=>cases h
  | bl p =>
    cases sx
    cases y with
    | non=>cases h; cases sy; exact .bool_none _
    | bl q=>cases h; cases sy; exact .bool_bool _ _
    | int q=>cases h; obtain ⟨t2,rfl⟩:=sy; exact .bool_int _ _ _
    | str q=>cases h; obtain ⟨t2,rfl⟩:=sy; exact .bool_str _ _ _
    | tup q=>cases h; obtain ⟨a2,xs2,us2,rfl,r2,v2,p2⟩:=sy; exact .bool_tuple _ p2 hu0
    | lst q=>cases h; obtain ⟨a2,xs2,us2,rfl,r2,v2,p2⟩:=sy; exact .bool_list _ p2.isList hu0
    | ob _ _ _=>cases h
    | dct _ _=>cases h
    | exc _=>cases h
  | int p =>
    obtain ⟨t1,rfl⟩:=sx
    cases y with
    | non=>cases h; cases sy; exact .int_none _ _
    | bl q=>cases h; cases sy; exact .int_bool _ _ _
    | int q=>cases h; obtain ⟨t2,rfl⟩:=sy; exact .int_int _ _ _ _
    | str q=>cases h; obtain ⟨t2,rfl⟩:=sy; exact .int_str _ _ _ _
    | tup q=>cases h; obtain ⟨a2,xs2,us2,rfl,r2,v2,p2⟩:=sy; exact .int_tuple _ _ p2 hu0
    | lst q=>cases h; obtain ⟨a2,xs2,us2,rfl,r2,v2,p2⟩:=sy; exact .int_list _ _ p2.isList hu0
    | ob _ _ _=>cases h
    | dct _ _=>cases h
    | exc _=>cases h
  | str p =>
    obtain ⟨t1,rfl⟩:=sx
    cases y with
    | non=>cases h; cases sy; exact .str_none _ _
    | bl q=>cases h; cases sy; exact .str_bool _ _ _
    | int q=>cases h; obtain ⟨t2,rfl⟩:=sy; exact .str_int _ _ _ _
    | str q =>
      cases h; obtain ⟨t2,rfl⟩:=sy
      rw [beq_mkS]
      exact .str_str _ _ _ _
    | tup q=>cases h; obtain ⟨a2,xs2,us2,rfl,r2,v2,p2⟩:=sy; exact .str_tuple _ _ p2 hu0
    | lst q=>cases h; obtain ⟨a2,xs2,us2,rfl,r2,v2,p2⟩:=sy; exact .str_list _ _ p2.isList hu0
    | ob _ _ _=>cases h
    | dct _ _=>cases h
    | exc _=>cases h
  | tup p =>
    obtain ⟨a1,xs1,us1,rfl,r1,v1,p1⟩:=sx
    cases y with
    | non=>cases h; cases sy; exact .tuple_none p1 hu0
    | bl q=>cases h; cases sy; exact .tuple_bool _ p1 hu0
    | int q=>cases h; obtain ⟨t2,rfl⟩:=sy; exact .tuple_int _ _ p1 hu0
    | str q=>cases h; obtain ⟨t2,rfl⟩:=sy; exact .tuple_str _ _ p1 hu0
    | tup q =>
      obtain ⟨a2,xs2,us2,rfl,r2,v2,p2⟩:=sy
      replace h:(eqZ (eqN n) p q).map (fun r=>r && p.length == q.length)=some b:=h
      cases e1:eqZ (eqN n) p q with
      | none=>rw [e1] at h; cases h
      | some r =>
        rw [e1] at h; cases h
        obtain ⟨e,g1,g2⟩:=go r1 r2 v1 v2 e1
        rw [g2,len2 r1 v1,len2 r2 v2]
        exact .tuples p1 p2 hu0 g1
    | lst q=>cases h; obtain ⟨a2,xs2,us2,rfl,r2,v2,p2⟩:=sy; exact .tuple_list p1 p2.isList hu0
    | ob _ _ _=>cases h
    | dct _ _=>cases h
    | exc _=>cases h
  | lst p =>
    obtain ⟨a1,xs1,us1,rfl,r1,v1,p1⟩:=sx
    cases y with
    | non=>cases h; cases sy; exact .list_none p1.isList hu0
    | bl q=>cases h; cases sy; exact .list_bool _ p1.isList hu0
    | int q=>cases h; obtain ⟨t2,rfl⟩:=sy; exact .list_int _ _ p1.isList hu0
    | str q=>cases h; obtain ⟨t2,rfl⟩:=sy; exact .list_str _ _ p1.isList hu0
    | tup q=>cases h; obtain ⟨a2,xs2,us2,rfl,r2,v2,p2⟩:=sy; exact .list_tuple p1.isList p2 hu0
    | lst q =>
      obtain ⟨a2,xs2,us2,rfl,r2,v2,p2⟩:=sy
      replace h:(if p.length=q.length then eqZ (eqN n) p q else some false)=some b:=h
      have hl1:=len2 r1 v1
      have hl2:=len2 r2 v2
      by_cases hl:p.length=q.length
      · rw [if_pos hl] at h
        obtain ⟨e,g1,g2⟩:=go r1 r2 v1 v2 h
        have hm:us1.toArray.size=us2.toArray.size:=hl1.symm.trans (hl.trans hl2)
        rw [g2, ← hm,Nat.min_self]
        exact .lists p1.isList p2.isList hm hu0 g1
      · rw [if_neg hl] at h; cases h
        exact .lists_lengths p1.isList p2.isList (by rw [← hl1, ← hl2]; exact bne_iff_ne.mpr hl) hu0
    | ob _ _ _=>cases h
    | dct _ _=>cases h
    | exc _=>cases h
  | ob _ _ _=>cases y <;> cases h
  | dct _ _=>cases y <;> cases h
  | exc _=>cases y <;> cases h
theorem rcne_of (I:Inv X pins σ H s) : ∀ (n:Nat) {x y:D} {v u:V} {av au:Value} {b:Bool} {Ar:Around},RepR (tx X c) A H x v→RepR (tx X c) A H y u→RelV v av→RelV u au→eqN n x y=some b→Ar.units+n<cLine→RcNeAt Ar s av au (!b)
  | 0,_,_,_,_,_,_,_,_,_,_,_,_,h,_=>by cases h
  | n+1,_,_,_,_,_,_,_,_,rx,ry,rv,ru,h,hu=>rcne_shp (X:=X) (c:=c) (A:=A) (H:=H) (rc_go I (rc_of I n) hu) (Nat.lt_of_le_of_lt (Nat.le_add_right _ _) hu) (shp_of I rx rv) (shp_of I ry ru) h
noncomputable def rEqD (T:Tx)(neg:Bool):R2:=fun v u H Q=>∃ A x y b,RepR T A H x v∧RepR T A H y u∧eqN 100 x y=some b∧Q (.bl (if neg then !b else b)) H
theorem op_eqD {k:Nat}(hr:Room k X.A):OpR X (compareOp .Eq) (rEqD (tx X c) false):=by
  intro pins s σ H x y v u Q I rx ry h
  obtain ⟨A,dx,dy,b,r1,r2,e,q⟩:=h
  exact rc_of I 100 r1 r2 rx ry e (by have:=hr.un; omega) _ _ _ _ ⟨.bl b,H,I,rfl,q⟩
theorem op_neD {k:Nat}(hr:Room k X.A):OpR X (compareOp .NotEq) (rEqD (tx X c) true):=by
  intro pins s σ H x y v u Q I rx ry h
  obtain ⟨A,dx,dy,b,r1,r2,e,q⟩:=h
  exact rcne_of I 100 r1 r2 rx ry e (by have:=hr.un; omega) _ _ _ _ ⟨.bl (!b),H,I,rfl,q⟩
theorem snd_eq {T:Tx}(neg:Bool)(A:Addr→Prop)(H0 H:Hp)(x y:D)(v u:V)(d:D)(Q:VK)(nw:Nw A H)(rx:kR T A H0 H x v)(ry:kR T A H0 H y u)(e:eqF neg x y=some d)
    (k : ∀ w H',Same H H'→kD T A H H' d w→Q w H'):rEqD T neg v u H Q:=by
  unfold eqF at e
  cases e1:eqN 100 x y with
  | none=>rw [e1] at e; cases e
  | some b=>rw [e1] at e; cases e; exact ⟨A,x,y,b,rx,ry,e1,k _ H (Same.refl _) (Rep.bl _)⟩
variable {a b e:Expr}{f g:FE}{pos:Pos}
theorem pd_eq {k:Nat}(hr:Room k X.A)(ha:PR X c a f)(hb:PR X c b g):PD X c (.Compare a [.Eq] [b] pos) (fp2 (eqF false) f g):=pd_cmp (op_eqD hr) (snd_eq false) ha hb (nomark _)
theorem pdt_eq {k:Nat}(hr:Room k X.A)(ha:PR X c a f)(hb:PR X c b g):PDT X c (.Compare a [.Eq] [b] pos) (ftB (fp2 (eqF false) f g)):=pdt_cmp (op_eqD hr) (snd_eq false) ha hb (nomark _)
theorem pdt_ne {k:Nat}(hr:Room k X.A)(ha:PR X c a f)(hb:PR X c b g):PDT X c (.Compare a [.NotEq] [b] pos) (ftB (fp2 (eqF true) f g)):=pdt_cmp (op_neD hr) (snd_eq true) ha hb (nomark _)
theorem snd_isN {T:Tx}(neg:Bool)(A:Addr→Prop)(H0 H:Hp)(x:D)(v:V)(d:D)(Q:VK)(nw:Nw A H)(rx:kR T A H0 H x v)(e:isNon neg x=some d)(k : ∀ w H',Same H H'→kD T A H H' d w→Q w H') :
    Q (.bl (if neg then !decide (v=.non) else decide (v=.non))) H:=by
  have hv : ∃ b,(if neg then !decide (v=V.non) else decide (v=V.non))=b∧d=.bl b:=by
    cases x with
    | non=>cases e; cases RepR.non_ rx; cases neg <;> exact ⟨_,rfl,by simp⟩
    | bl q=>cases e; cases RepR.bl_ rx; cases neg <;> exact ⟨_,rfl,by simp⟩
    | int q=>cases e; cases RepR.int_ rx; cases neg <;> exact ⟨_,rfl,by simp⟩
    | str q=>cases e; cases RepR.str_ rx; cases neg <;> exact ⟨_,rfl,by simp⟩
    | tup q=>cases e; obtain ⟨_,_,rfl,_⟩:=RepR.tup_ rx; cases neg <;> exact ⟨_,rfl,by simp⟩
    | lst q=>cases e; obtain ⟨_,_,rfl,_⟩:=RepR.lst_ rx; cases neg <;> exact ⟨_,rfl,by simp⟩
    | ob _ _ _=>cases e; obtain ⟨_,_,_,_,rfl,_⟩:=Rep.ob_ (show Rep T A H (.ob _ _ _) _ from rx); cases neg <;> exact ⟨_,rfl,by simp⟩
    | dct _ _=>cases e; obtain ⟨_,_,rfl,_⟩:=Rep.dct_ (show Rep T A H (.dct _ _) _ from rx); cases neg <;> exact ⟨_,rfl,by simp⟩
    | exc _=>cases e; obtain ⟨_,_,rfl,_⟩:=Rep.exc_ (show Rep T A H (.exc _) _ from rx); cases neg <;> exact ⟨_,rfl,by simp⟩
  obtain ⟨b,h1,rfl⟩:=hv
  rw [h1]
  exact k _ H (Same.refl _) (Rep.bl _)
variable {j:Nat}{p2:Pos}
theorem tB_of {t:TE}{T:Tx}{f:FE}(h : ∀ σ H Q,tP T (kD T) f σ H Q→t σ H Q){σ:L2.St}{H:Hp}{Q:Bool→Hp→Prop}(q:tP T kB (ftB f) σ H Q):tB t σ H Q:=h _ _ _ (tP_test q)
theorem tP_isN {T:Tx}{neg:Bool}{σ:L2.St}{H:Hp}{Q:VK}(h:tP T (kD T) (fp1 (isNon neg) f) σ H Q):tP T (kR T) f σ H fun x H1=>Q (.bl (if neg then !decide (x=.non) else decide (x=.non))) H1 :=
  tP_1 (ρ:=kR T) (γ3:=V) (r:=fun x H1 (Q:VK)=>Q (.bl (if neg then !decide (x=.non) else decide (x=.non))) H1) (snd_isN neg) h
theorem pdt_isN (ha:PR X c a f):PDT X c (.Compare a [.Is] [.Constant .none j p2] pos) (ftB (fp1 (isNon false) f)):=PT.imp (pt_cmp (pc_isN ha)) fun _ _ _ h=>tB_of (fun _ _ _ h=>tP_isN (neg:=false) h) h
end
end DL
end
section
namespace DL
open PySem PySem.Spec PyProof.Rows L2
theorem clip_some (i:Int)(n:Nat):max 0 (min (if i<0 then i+(n:Int) else i) n)=(((if i<0 then (i+(n:Int)).toNat else min i.toNat n):Nat):Int):=by
  by_cases h:i<0
  · simp only [if_pos h]; omega
  · simp only [if_neg h]; omega
theorem indices_eq (lo hi:Option Int)(n:Nat):Builtin.Str.strSliceIndices lo hi 1 n=(List.range (HT.sIx n n hi - HT.sIx n 0 lo)).map fun k=>HT.sIx n 0 lo+k:=by
  unfold Builtin.Str.strSliceIndices
  have hlo:((match lo with | none=>(0:Int) | some i=>max 0 (min (if i<0 then i+(n:Int) else i) n)):Int)=((HT.sIx n 0 lo:Nat):Int):=by
    cases lo with
    | none=>rfl
    | some i=>exact clip_some i n
  have hhi:((match hi with | none=>(n:Int) | some i=>max 0 (min (if i<0 then i+(n:Int) else i) n)):Int)=((HT.sIx n n hi:Nat):Int):=by
    cases hi with
    | none=>rfl
    | some i=>exact clip_some i n
  have h1:(1:Int) > 0:=by decide
  simp only [h1,if_true]
  have go : ∀ {a b a' b':Int},a=a'→b=b'→sliceRange a b 1=sliceRange a' b' 1:=fun h1 h2=>by rw [h1,h2]
  refine Eq.trans (go hlo hhi) ?_
  unfold sliceRange
  simp only [h1,if_true,Int.ediv_one,Int.one_mul]
  have hc:(if ((HT.sIx n 0 lo:Nat):Int)<((HT.sIx n n hi:Nat):Int) then ((HT.sIx n n hi:Nat):Int) - ((HT.sIx n 0 lo:Nat):Int)+1 - 1 else 0).toNat=HT.sIx n n hi - HT.sIx n 0 lo:=by
    split <;> omega
  rw [hc]
  apply List.map_congr_left
  intro k _
  omega
theorem pick_list (z:List Nat)(i k:Nat):((List.range k).map fun j=>i+j).filterMap (fun x=>z.toArray[x]?)=(z.drop i).take k:=by
  induction k with
  | zero=>simp
  | succ k ih =>
    rw [List.range_succ,List.map_append,List.filterMap_append,ih,List.take_add_one]
    congr 1
    rw [List.getElem?_drop]
    cases h:z[i+k]? with
    | none=>simp [h]
    | some v=>simp [h]
theorem slice_cut (z:List Nat)(lo hi:Option Int):Txt.slice (mkS z) lo hi=mkS (cutD z lo hi):=by
  unfold Txt.slice cutD
  rw [mkS_len,indices_eq]
  have e:(List.map (fun k=>HT.sIx z.length 0 lo+k) (List.range (HT.sIx z.length z.length hi - HT.sIx z.length 0 lo))).filterMap (fun x=>(mkS z).cps[x]?)=(z.drop (HT.sIx z.length 0 lo)).take (HT.sIx z.length z.length hi - HT.sIx z.length 0 lo):=pick_list z _ _
  by_cases c:((1:Int) == 1 && (List.map (fun k=>HT.sIx z.length 0 lo+k) (List.range (HT.sIx z.length z.length hi - HT.sIx z.length 0 lo))).length == z.length)=true
  · rw [if_pos c]
    have h:HT.sIx z.length z.length hi - HT.sIx z.length 0 lo=z.length:=by simpa using c
    have hle:=HT.sIx_le z.length z.length (Nat.le_refl _) hi
    have h0:HT.sIx z.length 0 lo=0∨z=[]:=by
      by_cases hz:z.length=0
      · exact .inr (List.length_eq_zero_iff.mp hz)
      · exact .inl (by omega)
    rcases h0 with h0 | h0
    · rw [h0] at h ⊢
      rw [h,List.drop_zero,List.take_of_length_le (Nat.le_refl _)]
    · subst h0; simp
  · rw [if_neg c,e]
section
variable {X:Cx}{c:Ct}{xq:XQ}{a b e:Expr}{f g:FE}{pos:Pos}
theorem sl_str:SlR X rSlS:=by
  intro pins s σ H x v vl vu lo hi sl Q I rx hs pl pu h
  obtain ⟨z,rfl,hz,q⟩:=h
  obtain ⟨t,rfl⟩:=rx
  have hz':(mkS z).length≤sizeLine:=small (by rw [mkS_len]; exact hz)
  refine ⟨"str",_,PySem.F.slot_str_getitem.lookup,typeIs_str _ _ _, ?_⟩
  rw [← slice_cut] at q
  cases pl with
  | none =>
    cases pu with
    | none=>exact wpAny_getItem_str_slice (l:=none) (u:=none) (st:=none) hs rfl (post_val_or_str ⟨Nat.le_trans (Txt.slice_le _ _ _) hz',fun t' k=>⟨.str _,H,I.tok _,⟨_,rfl⟩,q⟩⟩)
    | int j uj=>exact wpAny_getItem_str_slice (l:=none) (u:=some (j,uj)) (st:=none) hs rfl (post_val_or_str ⟨Nat.le_trans (Txt.slice_le _ _ _) hz',fun t' k=>⟨.str _,H,I.tok _,⟨_,rfl⟩,q⟩⟩)
  | int i ui =>
    cases pu with
    | none=>exact wpAny_getItem_str_slice (l:=some (i,ui)) (u:=none) (st:=none) hs rfl (post_val_or_str ⟨Nat.le_trans (Txt.slice_le _ _ _) hz',fun t' k=>⟨.str _,H,I.tok _,⟨_,rfl⟩,q⟩⟩)
    | int j uj=>exact wpAny_getItem_str_slice (l:=some (i,ui)) (u:=some (j,uj)) (st:=none) hs rfl (post_val_or_str ⟨Nat.le_trans (Txt.slice_le _ _ _) hz',fun t' k=>⟨.str _,H,I.tok _,⟨_,rfl⟩,q⟩⟩)
theorem sl_D:SlR X (rSlD X.K):=sl_list.or (sl_tup.or sl_str)
theorem pd_sl {lo hi:Option Expr}{fl fh:FO}{p2:Pos}(ha:PR X c a f)(hl:PDO X c lo fl)(hh:PDO X c hi fh):PD X c (.Subscript a (.Slice lo hi none p2) pos) (feSl slD f fl fh):=PE.imp (pe_slice sl_D ha hl hh) fun _ _ _ h=>tP_slG snd_sl h
structure DefX (X:Cx)(N:List Str)(sc:Scope):Prop where
  hN:X.N=N
  hsc:X.env.scope=sc
  calm:X.calm=true
  nd:N.Nodup
structure DefY (X:Cx)(N:List Str)(sc:Scope):Prop extends DefX X N sc where
  fn : ∀ x,X.fn x=true
  never:PassesOwn (model X.prog X.w) X.A X.env X.xe
section
variable {N:List Str}{sc:Scope}
theorem DefX.nm (d:DefX X N sc){i:Nat}{x:Str}(h:N[i]?=some x)(hv:Vis sc x)(hd:(x == ("__debug__":Str))=false:=by decide +kernel)(hc:(x == ("__classdict__":Str))=false:=by decide +kernel):Nm X i x:=⟨by rw [d.hN]; exact h,by rw [d.hsc]; exact hv,hd,hc⟩
theorem DefX.gl (d:DefX X N sc){x:Str}(h:sc.names.lookup x=some .globalImplicit):Gl X x:=by
  show X.env.scope.names.lookup x=_
  rw [d.hsc]; exact h
theorem DefX.nlc (d:DefX X N sc){i:Nat}{x:Str}(h:N[i]?=some x)(hl:sc.names.lookup x=some .local):Nl X i x:=⟨by rw [d.hN]; exact d.nd,by rw [d.hN]; exact h,by rw [d.hsc]; exact .inl hl,by rw [d.hsc]; exact .inr hl⟩
theorem DefY.nl (d:DefY X N sc){i:Nat}{x:Str}(h:N[i]?=some x)(hl:Loc sc x):Nl X i x:=⟨by rw [d.hN]; exact d.nd,by rw [d.hN]; exact h,by rw [d.hsc]; exact hl,.inl (d.fn x)⟩
end
noncomputable def relS (scope sc:Scope):Scope:={ scope with names:=scope.names.map fun (n,k)=>if (k == NameKind.free && sc.kind == .function && sc.names.lookup n == some .cell) then (n,NameKind.cell) else (n,k) }
theorem DefX.comp {N:List Str}{sc scope:Scope}{N':List Str}{cl:List (Str × Addr)}{C:Addr}{s2:Shared}{H2:Hp}{fp:List Addr}(d:DefX X N sc)(hN':N'.Nodup):DefX (compCx X scope cl N' C s2 H2 fp) N' (relS scope sc):=by
  refine ⟨rfl, ?_,d.calm,hN'⟩
  show (compEnvC scope cl C X.env).scope=_
  rw [← d.hsc]
  rfl
theorem pdi_nil:PIfs X [] (tP (tx X c) kB ftYes):=PIfs.imp pifs_nil fun σ H Q h=>by
  obtain ⟨W,O,env,b,E,e,q⟩:=h
  cases e
  exact q _ H (Same.refl _) rfl
theorem gext_tup {K:PySem.W.Frag}{nt n:Nat}{t:TGs}(h : ∀ vs σ H Q,t vs σ H Q→t vs σ H fun σ2 H2=>((∀ j:Nat,nt≤j→σ2[j]?=σ[j]?)∧σ2.length=σ.length)∧Q σ2 H2):GExt nt (gTup K n t):=fun x σ H Q q=>by
  obtain ⟨a,xs,e1,e2,e3,e4⟩:=q
  exact ⟨a,xs,e1,e2,e3,h _ _ _ _ e4⟩
theorem gexts_nil {nt:Nat} : ∀ vs σ H Q,gNil vs σ H Q→gNil vs σ H fun σ2 H2=>((∀ j:Nat,nt≤j→σ2[j]?=σ[j]?)∧σ2.length=σ.length)∧Q σ2 H2:=fun vs σ H Q h=>⟨h.1,⟨fun _ _=>rfl,rfl⟩,h.2⟩
theorem gexts_cons {nt i:Nat}{t:TGs}(hi:i<nt)(h : ∀ vs σ H Q,t vs σ H Q→t vs σ H fun σ2 H2=>((∀ j:Nat,nt≤j→σ2[j]?=σ[j]?)∧σ2.length=σ.length)∧Q σ2 H2)(mono : ∀ vs σ H (Q Q':L2.St→Hp→Prop),(∀ σ H,Q σ H→Q' σ H)→t vs σ H Q→t vs σ H Q') :
    ∀ vs σ H Q,gCons (gName i) t vs σ H Q→gCons (gName i) t vs σ H fun σ2 H2=>((∀ j:Nat,nt≤j→σ2[j]?=σ[j]?)∧σ2.length=σ.length)∧Q σ2 H2:=fun vs σ H Q q=>by
  obtain ⟨v,r,e,q⟩:=q
  refine ⟨v,r,e,mono _ _ _ _ _ (fun σ2 H2 z=>?_) (h _ _ _ _ q)⟩
  exact ⟨⟨fun j hj=>(z.1.1 j hj).trans (List.getElem?_set_ne (by omega)),z.1.2.trans (by simp)⟩,z.2⟩
theorem gmono_nil : ∀ vs σ H (Q Q':L2.St→Hp→Prop),(∀ σ H,Q σ H→Q' σ H)→gNil vs σ H Q→gNil vs σ H Q':=fun _ _ _ _ _ w h=>⟨h.1,w _ _ h.2⟩
theorem gmono_cons {i:Nat}{t:TGs}(mono : ∀ vs σ H (Q Q':L2.St→Hp→Prop),(∀ σ H,Q σ H→Q' σ H)→t vs σ H Q→t vs σ H Q') : ∀ vs σ H (Q Q':L2.St→Hp→Prop),(∀ σ H,Q σ H→Q' σ H)→gCons (gName i) t vs σ H Q→gCons (gName i) t vs σ H Q':=fun vs σ H Q Q' w h=>by
  obtain ⟨v,r,e,q⟩:=h
  exact ⟨v,r,e,mono _ _ _ _ _ w q⟩
theorem gext_two {K:PySem.W.Frag}{nt n i j:Nat}(hi:i<nt)(hj:j<nt):GExt nt (gTup K n (gCons (gName i) (gCons (gName j) gNil))):=gext_tup (gexts_cons hi (gexts_cons hj gexts_nil gmono_nil) (gmono_cons gmono_nil))
variable {x:Str}{px:Pos}{iter elt tg:Expr}{ifs:List Expr}{scope sc:Scope}{N N':List Str}{nt:Nat}{cap:List Nat}{fi fe:FE}{ft:FT}{tgf:FG}{gt:TG}
theorem pf_comp (d:DefX X N sc)(chk:CompChk sc scope N N' nt cap)(hcap:cap.Nodup)(hN':N'.Nodup)(hi:PR X c iter fi)
    (hg : ∀ cl C s2 H2 fp,DefX (compCx X scope cl N' C s2 H2 fp) N' (relS scope sc)→PG (compCx X scope cl N' C s2 H2 fp) tg gt) (hge:GExt nt gt) (sg:SndG (tx X c) tgf gt)
    (ht : ∀ cl C s2 H2 fp,DefX (compCx X scope cl N' C s2 H2 fp) N' (relS scope sc)→PIfs (compCx X scope cl N' C s2 H2 fp) ifs (tP (tx X c) kB ft))
    (he : ∀ cl C s2 H2 fp,DefX (compCx X scope cl N' C s2 H2 fp) N' (relS scope sc)→PE (compCx X scope cl N' C s2 H2 fp) elt (tP (tx X c) (kD (tx X c)) fe))
    (hs:noSet iter=true:=by rfl):PF X c (.ListComp elt [⟨tg,iter,ifs,0⟩] scope pos) (ffComp nt cap tgf fi ft fe) :=
  PE.imp (pe_comp (tt:=tP (tx X c) kB ft) (te:=tP (tx X c) (kD (tx X c)) fe) d.hsc d.hN chk d.calm (pi_seq hi) (fun cl C s2 H2 fp=>hg cl C s2 H2 fp (d.comp hN')) hge (fun cl C s2 H2 fp=>ht cl C s2 H2 fp (d.comp hN')) (fun cl C s2 H2 fp=>he cl C s2 H2 fp (d.comp hN')) (folded_no hs)) fun _ _ _ h=>tP_comp sg hcap h
theorem pf_comp1 {p p2:Pos}{fs:FA}(d:DefX X N sc)(chk:CompChk sc scope N N' nt cap)(hcap:cap.Nodup)(hN':N'.Nodup)(hgr:Gl X "range")(hm:X.mg "range"=none)(ha:PDA X c [a] fs)
    (hg : ∀ cl C s2 H2 fp,DefX (compCx X scope cl N' C s2 H2 fp) N' (relS scope sc)→PG (compCx X scope cl N' C s2 H2 fp) tg gt) (hge:GExt nt gt) (sg:SndG (tx X c) tgf gt)
    (ht : ∀ cl C s2 H2 fp,DefX (compCx X scope cl N' C s2 H2 fp) N' (relS scope sc)→PIfs (compCx X scope cl N' C s2 H2 fp) ifs (tP (tx X c) kB ft))
    (he : ∀ cl C s2 H2 fp,DefX (compCx X scope cl N' C s2 H2 fp) N' (relS scope sc)→PE (compCx X scope cl N' C s2 H2 fp) elt (tP (tx X c) (kD (tx X c)) fe)) (hst:isStar a=false:=by rfl)
   :PF X c (.ListComp elt [⟨tg,.Call (.Name "range" p) [a] [] p2,ifs,0⟩] scope pos) (ffCompR rng1 nt cap tgf fs ft fe) :=
  PE.imp (pe_comp (tt:=tP (tx X c) kB ft) (te:=tP (tx X c) (kD (tx X c)) fe) d.hsc d.hN chk d.calm (pi_range1 hgr hm ha (star_one hst)) (fun cl C s2 H2 fp=>hg cl C s2 H2 fp (d.comp hN')) hge (fun cl C s2 H2 fp=>ht cl C s2 H2 fp (d.comp hN')) (fun cl C s2 H2 fp=>he cl C s2 H2 fp (d.comp hN')) (folded_no rfl)) fun _ _ _ h=>tP_comp1 sg hcap h
theorem pf_comp2 {p p2:Pos}{fs:FA}(d:DefX X N sc)(chk:CompChk sc scope N N' nt cap)(hcap:cap.Nodup)(hN':N'.Nodup)(hgr:Gl X "range")(hm:X.mg "range"=none)(ha:PDA X c [a,b] fs)
    (hg : ∀ cl C s2 H2 fp,DefX (compCx X scope cl N' C s2 H2 fp) N' (relS scope sc)→PG (compCx X scope cl N' C s2 H2 fp) tg gt) (hge:GExt nt gt) (sg:SndG (tx X c) tgf gt)
    (ht : ∀ cl C s2 H2 fp,DefX (compCx X scope cl N' C s2 H2 fp) N' (relS scope sc)→PIfs (compCx X scope cl N' C s2 H2 fp) ifs (tP (tx X c) kB ft))
    (he : ∀ cl C s2 H2 fp,DefX (compCx X scope cl N' C s2 H2 fp) N' (relS scope sc)→PE (compCx X scope cl N' C s2 H2 fp) elt (tP (tx X c) (kD (tx X c)) fe)) (hst:isStar a=false:=by rfl) (hst2:isStar b=false:=by rfl)
   :PF X c (.ListComp elt [⟨tg,.Call (.Name "range" p) [a,b] [] p2,ifs,0⟩] scope pos) (ffCompR rng2 nt cap tgf fs ft fe) :=
  PE.imp (pe_comp (tt:=tP (tx X c) kB ft) (te:=tP (tx X c) (kD (tx X c)) fe) d.hsc d.hN chk d.calm (pi_range2 hgr hm ha (star_two hst hst2) (star_one hst2)) (fun cl C s2 H2 fp=>hg cl C s2 H2 fp (d.comp hN')) hge (fun cl C s2 H2 fp=>ht cl C s2 H2 fp (d.comp hN')) (fun cl C s2 H2 fp=>he cl C s2 H2 fp (d.comp hN')) (folded_no rfl)) fun _ _ _ h=>tP_comp2 sg hcap h
end
section
variable {P:Program}{w:World}{K:PySem.W.Frag}{mg:Str→Option Value}{base:Heap}{c:Ct}
structure BodyOk (P:Program)(w:World)(K:PySem.W.Frag)(mg:Str→Option Value)(base:Heap)(c:Ct)(N:List Str)(st:Stmt)(k:Nat)(F:FS):Prop where
  ok : ∀ X:Cx,X.prog=P→X.w=w→X.K=K→X.mg=mg→X.base=base→DefY X N (defScope st)→Room k X.A→PDSs X c (fun _ _ _=>False) (defBody st) F
theorem def_of {x qual:Str}{st:Stmt}{fa:Addr}{fd:FuncData}{N ps:List Str}{k:Nat}{F:FS}(Fn:Fun K x qual st fa fd)(S:FnScope N ps (defScope st))(hm:mg x=some (.ref fa))(hb:Binds K fd ps [])
    (body:BodyOk P w K mg base c N st k F):Def P w K mg base c x ps (k+1) (bodyF N.length F):=by
  refine ⟨fa,fd, ?_,hm,Fn.kp,hb⟩
  refine Fn.ok S (fun vs H Q E h=>h.1) fun cdv A outer s H vs Q E hr h=>⟨_,body.ok _ rfl rfl rfl rfl rfl ⟨⟨rfl,rfl,rfl,S.nd⟩,fun _=>rfl,PassesOwn.never⟩ hr, ?_⟩
  exact body_ok (E0:=E) h
theorem def_ofF {x qual:Str}{st:Stmt}{fa:Addr}{fd:FuncData}{N ps:List Str}{k:Nat}{F:FS}(Fn:Fun K x qual st fa fd)(S:FnScope N ps (defScope st))(hm:mg x=some (.ref fa))(hb:Binds K fd ps [])
    (body:BodyOk P w K mg base c N st k F):DefF P w K mg base c x ps (k+1) (bodyFF N.length F):=by
  refine ⟨fa,fd, ?_,hm,Fn.kp,hb⟩
  refine Fn.ok S (fun vs H Q E h=>h.1) fun cdv A outer s H vs Q E hr h=>⟨_,body.ok _ rfl rfl rfl rfl rfl ⟨⟨rfl,rfl,rfl,S.nd⟩,fun _=>rfl,PassesOwn.never⟩ hr, ?_⟩
  exact body_okF (E0:=E) h
end
end DL
end
section
namespace DL
open PySem PySem.Spec PyProof.Rows L2
section
variable {P:Program}{w:World}{K:PySem.W.Frag}{mg:Str→Option Value}{base:Heap}{c:Ct}
theorem fn_of {x qual:Str}{st:Stmt}{fa:Addr}{fd:FuncData}{N ps:List Str}{k:Nat}{F:FS}(Fn:Fun K x qual st fa fd)(S:FnScope N ps (defScope st))
    (body:BodyOk P w K mg base c N st k F):FnOk P w K mg base CX0 (k+1) fa fd ps (spD ⟨K,c.cl,c.fld⟩ ps.length (bodyF N.length F)):=by
  refine Fn.ok S (fun vs H Q E h=>h.1) fun cdv A outer s H vs Q E hr h=>⟨_,body.ok _ rfl rfl rfl rfl rfl ⟨⟨rfl,rfl,rfl,S.nd⟩,fun _=>rfl,PassesOwn.never⟩ hr, ?_⟩
  exact body_ok (E0:=E) h
noncomputable def cOk:D→Value→Bool
  | .str x,.str y _=>mkS x == y
  | .int i,.int j _=>i == j
  | _,_=>false
theorem cOk_rep {T:Tx}{d:D}{u:Value}(h:cOk d u=true) : ∃ v,RelV v u∧∀ A H,Rep T A H d v:=by
  unfold cOk at h
  split at h
  · next x y t=>exact ⟨.str y,⟨t,rfl⟩,fun A H=>by rw [← eq_of_beq h]; exact .str _⟩
  · next i j t=>exact ⟨.int j,⟨t,rfl⟩,fun A H=>by rw [← eq_of_beq h]; exact .int _⟩
  · cases h
theorem const_flat {x:Str}{u:Value}{d:D}(hm:mg x=some u)(hc:cOk d u=true) : ∃ v u,mg x=some u∧RelV v u∧∀ A H,Rep ⟨K,c.cl,c.fld⟩ A H d v:=by
  obtain ⟨v,r,e⟩:=cOk_rep (T:=⟨K,c.cl,c.fld⟩) hc
  exact ⟨v,u,hm,r,e⟩
end
theorem ints_rep {T:Tx}{A:Addr→Prop}{H:Hp} : ∀ ns:List Int,RepL T A H (ns.map D.int) (ns.map V.int)
  | []=>.nil
  | n::ns=>.cons (.int n) (ints_rep ns)
end DL
end
section
namespace DL
open PySem PySem.Spec PyProof.Rows L2
noncomputable def appG (ds:List D):List D→Option (List D)
  | [x]=>if ds.length<1000000 then some (ds++[x]) else none
  | _=>none
noncomputable def fsAppend (i:Nat)(f:FE):FS:=fsMutG i appG (faCons f faNil)
section
variable {X:Cx}{c:Ct}{xq:XQ}{e:Expr}{f:FE}{pos:Pos}
theorem snd_append {T:Tx}(A:Addr→Prop)(H:Hp)(a:Addr)(ds:List D)(xs:List V)(x:List D)(y:List V)(ds':List D)(Q:VK)(hl:H a=some (.lst xs))(r:RepL T A H ds xs)(_ : ∀ b,A b→b≠a)(ra:kA T A H H x y)(e:appG ds x=some ds')
    (k : ∀ ys,(∀ A' H',(∀ d v,Rep T A H d v→Rep T A' H' d v)→(∀ d v,RepL T A H d v→RepL T A' H' d v)→RepL T A' H' ds' ys)→∀ w,Q w (upd H a (.lst ys))):rAppend (.ref a) y H Q:=by
  unfold appG at e
  split at e
  · next d =>
    split at e
    · next hz =>
      cases e
      obtain ⟨v,r1,rfl,h1,h2⟩:=RepL.cons_ ra
      have h3:=h2.nil_
      subst h3
      refine ⟨a,xs,v,rfl,rfl,hl, ?_,k _ (fun A' H' g gl=>?_) _⟩
      · rw [← r.length]; exact Nat.lt_of_lt_of_le hz (by decide)
      · exact (gl _ _ r).append (.cons (g _ _ h1) .nil)
    · cases e
  · cases e
theorem pds_append {i:Nat}{x:Str}{p1 p2 p3:Pos}(n:Nm X i x)(he:PD X c e f)(hs:isStar e=false:=by rfl)(hl:(p2.endLine == p3.line)=true:=by rfl) :
    PDS X c xq (.Expr (.Call (.Attribute (.Name x p1) "append" p2) [e] [] p3) pos) (fsAppend i f):=by
  refine PS.imp (ps_expr (pe_bm PySem.F.plainAttrs_list PySem.F.slot_list_append PySem.F.type_list_append mt_append (pe_var n.hN n.hv n.hd n.hc) (pda_cons he pda_nil hs) rfl (by rw [star_one hs]; rfl) hl (star_cons hs) rfl) (swaps_no rfl)) fun De σ H h=>?_
  obtain ⟨v,h1,⟨xs,_,a,rfl,ha⟩,h3⟩:=tDs_mut (tf:=tP (tx X c) (kA (tx X c)) (faCons f faNil)) (fun Q h=>h) snd_append (fun _ _ _ _ _ h=>h) h
  obtain ⟨W,O,env,x,E,e1,q⟩:=h3
  exact ⟨.ref a,h1,.inl ⟨rfl,xs,SqL.of ha⟩,W,O,env,x,E,e1,fun v H' s r=>(q v H' s r).2⟩
end
end DL
end
section
namespace DL
open PySem PySem.Spec PyProof.Rows L2
section
variable {X:Cx}{c:Ct}{xq:XQ}{e elt a b iter tg:Expr}{pos:Pos}{gens:List Comprehension}{ifs:List Expr}{scope sc:Scope}{N N':List Str}{nt:Nat}{cap:List Nat}{fi fe:FE}{ft:FT}{tgf:FG}{gt:TG}
noncomputable def PFc (X:Cx)(c:Ct)(e:Expr)(ff:FP (List D)):Prop:=PF X c e ff∧∀ (i:Nat) (x:Str) (pos' spos:Pos),Nl X i x→swapsWith e (some (.Name x pos')) spos.line X.env=pure true→PS X (.Assign [.Name x pos'] e spos) (tAsg (tP (tx X c) (kF (tx X c)) ff) (gName i))
theorem swaps_yes {x:Str}{pos':Pos}{l:Nat}(d:DefX X N sc)(h:(sc.kind == .function && sc.names.lookup x == some .local && pos'.line == pos.line && !(scope.names.any fun (n,k)=>n == x && (k == .local || k == .cell)))=true) :
    swapsWith (.ListComp elt gens scope pos) (some (.Name x pos')) l X.env=pure true:=by
  rw [← d.hsc] at h
  have hk:X.env.scope.kind=.function:=by
    simp only [Bool.and_eq_true] at h
    exact eq_of_beq h.1.1.1
  have hb:X.env.blockKind=X.env.scope.kind:=by
    unfold Env.blockKind
    rw [hk]
    rfl
  show (pure (X.env.blockKind == .function && X.env.kindOf x == some .local && pos'.line == pos.line && !(scope.names.any fun (n,k)=>n == x && (k == .local || k == .cell))):Sem Bool)=pure true
  rw [hb]
  exact congrArg pure h
theorem pds_setc {i:Nat}{x:Str}{pos' spos:Pos}{ff:FP (List D)}(d:DefX X N sc)(n:Nl X i x)(h:PFc X c (.ListComp elt gens scope pos) ff)(hs:(sc.kind == .function && sc.names.lookup x == some .local && pos'.line == pos.line && !(scope.names.any fun (n,k)=>n == x && (k == .local || k == .cell)))=true) :
    PDS X c xq (.Assign [.Name x pos'] (.ListComp elt gens scope pos) spos) (fsSet i (feFr ff)):=PS.imp (h.2 i x pos' spos n (swaps_yes d hs)) fun _ _ _ h=>tP_fr (tDs_set h)
theorem pds_ownc {i:Nat}{x:Str}{pos' spos:Pos}{ff:FP (List D)}(d:DefX X N sc)(n:Nl X i x)(h:PFc X c (.ListComp elt gens scope pos) ff)(hs:(sc.kind == .function && sc.names.lookup x == some .local && pos'.line == pos.line && !(scope.names.any fun (n,k)=>n == x && (k == .local || k == .cell)))=true) :
    PDS X c xq (.Assign [.Name x pos'] (.ListComp elt gens scope pos) spos) (fsOwn i ff):=PS.imp (h.2 i x pos' spos n (swaps_yes d hs)) fun _ _ _ h=>tDs_own h
theorem pfc_comp (d:DefX X N sc)(chk:CompChk sc scope N N' nt cap)(hcap:cap.Nodup)(hN':N'.Nodup)(hi:PR X c iter fi)
    (hg : ∀ cl C s2 H2 fp,DefX (compCx X scope cl N' C s2 H2 fp) N' (relS scope sc)→PG (compCx X scope cl N' C s2 H2 fp) tg gt) (hge:GExt nt gt) (sg:SndG (tx X c) tgf gt)
    (ht : ∀ cl C s2 H2 fp,DefX (compCx X scope cl N' C s2 H2 fp) N' (relS scope sc)→PIfs (compCx X scope cl N' C s2 H2 fp) ifs (tP (tx X c) kB ft))
    (he : ∀ cl C s2 H2 fp,DefX (compCx X scope cl N' C s2 H2 fp) N' (relS scope sc)→PE (compCx X scope cl N' C s2 H2 fp) elt (tP (tx X c) (kD (tx X c)) fe))
    (hs:noSet iter=true:=by rfl):PFc X c (.ListComp elt [⟨tg,iter,ifs,0⟩] scope pos) (ffComp nt cap tgf fi ft fe) :=
  ⟨pf_comp d chk hcap hN' hi hg hge sg ht he hs,fun i x pos' spos n hsw=>PS.imp (ps_comp (tt:=tP (tx X c) kB ft) (te:=tP (tx X c) (kD (tx X c)) fe) d.hsc d.hN chk d.calm (pi_seq hi) (fun cl C s2 H2 fp=>hg cl C s2 H2 fp (d.comp hN')) hge (fun cl C s2 H2 fp=>ht cl C s2 H2 fp (d.comp hN')) (fun cl C s2 H2 fp=>he cl C s2 H2 fp (d.comp hN')) n.nd n.hN n.hl n.hf hsw (folded_no hs)) fun _ _ _ h=>tP_comp sg hcap h⟩
theorem pfc_comp1 {p p2:Pos}{fs:FA}(d:DefX X N sc)(chk:CompChk sc scope N N' nt cap)(hcap:cap.Nodup)(hN':N'.Nodup)(hgr:Gl X "range")(hm:X.mg "range"=none)(ha:PDA X c [a] fs)
    (hg : ∀ cl C s2 H2 fp,DefX (compCx X scope cl N' C s2 H2 fp) N' (relS scope sc)→PG (compCx X scope cl N' C s2 H2 fp) tg gt) (hge:GExt nt gt) (sg:SndG (tx X c) tgf gt)
    (ht : ∀ cl C s2 H2 fp,DefX (compCx X scope cl N' C s2 H2 fp) N' (relS scope sc)→PIfs (compCx X scope cl N' C s2 H2 fp) ifs (tP (tx X c) kB ft))
    (he : ∀ cl C s2 H2 fp,DefX (compCx X scope cl N' C s2 H2 fp) N' (relS scope sc)→PE (compCx X scope cl N' C s2 H2 fp) elt (tP (tx X c) (kD (tx X c)) fe)) (hst:isStar a=false:=by rfl)
   :PFc X c (.ListComp elt [⟨tg,.Call (.Name "range" p) [a] [] p2,ifs,0⟩] scope pos) (ffCompR rng1 nt cap tgf fs ft fe) :=
  ⟨pf_comp1 d chk hcap hN' hgr hm ha hg hge sg ht he hst,fun i x pos' spos n hsw=>PS.imp (ps_comp (tt:=tP (tx X c) kB ft) (te:=tP (tx X c) (kD (tx X c)) fe) d.hsc d.hN chk d.calm (pi_range1 hgr hm ha (star_one hst)) (fun cl C s2 H2 fp=>hg cl C s2 H2 fp (d.comp hN')) hge (fun cl C s2 H2 fp=>ht cl C s2 H2 fp (d.comp hN')) (fun cl C s2 H2 fp=>he cl C s2 H2 fp (d.comp hN')) n.nd n.hN n.hl n.hf hsw (folded_no rfl)) fun _ _ _ h=>tP_comp1 sg hcap h⟩
end
end DL
end
section
namespace DL
open PySem PySem.Spec PyProof.Rows L2
section
variable {X:Cx}{c:Ct}{xq:XQ}{tg:Expr}
variable {elt iter:Expr}{pos:Pos}{ifs:List Expr}{scope sc:Scope}{N N':List Str}{nt:Nat}{cap:List Nat}{fi fe:FE}{ft:FT}{tgf:FG}{gt:TG}{F:FS}
end
end DL
end
section
namespace DL
open PySem PySem.Spec PyProof.Rows L2
noncomputable def addA:D→D→Option D:=intD fun i j=>some (.int (i+j))
section
variable {X:Cx}{c:Ct}{xq:XQ}{e:Expr}{f:FE}{pos:Pos}
theorem snd_aug {T:Tx}{g:Int→Int→Int}(A:Addr→Prop)(H:Hp)(x y:D)(v u:V)(d:D)(Q:VK)(_:Nw A H)(rx:Rep T A H x v)(ry:Rep T A H y u)(e:intD (fun i j=>some (.int (g i j))) x y=some d)
    (k : ∀ w H',Same H H'→Rep T A H' d w→Q w H'):ipI g v u H Q:=by
  unfold intD at e
  split at e
  · next i j =>
    cases e
    cases rx.int_
    cases ry.int_
    exact ⟨i,j,rfl,rfl,k _ _ (Same.refl H) (.int _)⟩
  · cases e
theorem pds_aug_add {i:Nat}{x:Str}{p:Pos}(n:Nl X i x)(he:PD X c e f):PDS X c xq (.AugAssign (.Name x p) .Add e pos) (fsAug i addA f) :=
  PS.imp (ps_aug n.nd n.hN n.hl he ip_add n.hf) fun _ _ _ h=>tDs_aug (snd_aug (g:=fun i j=>i+j)) h
end
end DL
end
section
namespace DL
open PySem PySem.Spec PyProof.Rows L2
noncomputable def intV:D→Option Int
  | .int i=>some i
  | _=>none
theorem intV_some {d:D}{i:Int}(h:intV d=some i):d=.int i:=by
  unfold intV at h
  split at h
  · cases h; rfl
  · cases h
noncomputable def ltB (i j:Int):Bool:=decide (i<j)
noncomputable def leB (i j:Int):Bool:=decide (i≤j)
noncomputable def gtB (i j:Int):Bool:=decide (j<i)
noncomputable def geB (i j:Int):Bool:=decide (j≤i)
noncomputable def feChain (r r':Int→Int→Bool)(f g k:FE):FE:=fun env=>(f env).bind fun x=>(intV x).bind fun i=>(g env).bind fun y=>(intV y).bind fun j=>if r i j=true then (k env).bind fun z=>(intV z).bind fun l=>some (.bl (r' j l)) else some (.bl false)
@[simp] theorem ev_intV (i:Int):intV (.int i)=some i:=(Eq.refl _).trans (Eq.refl _)
@[simp] theorem ev_feChain (r r':Int→Int→Bool)(f g k:FE)(env:DEnv):feChain r r' f g k env=obind (f env) fun x=>obind (intV x) fun i=>obind (g env) fun y=>obind (intV y) fun j=>ifK (obind (k env) fun z=>obind (intV z) fun l=>some (.bl (r' j l))) (some (.bl false)) (r i j):=(Eq.refl _).trans (Eq.refl _)
@[simp] theorem ev_ltB (i j:Int):ltB i j=decide (i<j):=(Eq.refl _).trans (Eq.refl _)
@[simp] theorem ev_leB (i j:Int):leB i j=decide (i≤j):=(Eq.refl _).trans (Eq.refl _)
theorem tP_chain {T:Tx}{r r':Int→Int→Bool}{f g k:FE}{σ:L2.St}{H:Hp}{Q:VK}(h:tP T (kD T) (feChain r r' f g k) σ H Q) :
    tChain (rI0 fun i j=>.bl (r i j)) (rI0 fun i j=>.bl (r' i j)) (tP T (kD T) f) (tP T (kD T) g) (tP T (kD T) k) σ H Q:=by
  obtain ⟨W,O,env,d,E,e,q⟩:=h
  unfold feChain at e
  cases e1:f env with
  | none=>rw [e1] at e; cases e
  | some x =>
    rw [e1] at e
    dsimp only [Option.bind_some] at e
    cases e2:intV x with
    | none=>rw [e2] at e; cases e
    | some i =>
      rw [e2] at e
      dsimp only [Option.bind_some] at e
      cases intV_some e2
      cases e3:g env with
      | none=>rw [e3] at e; cases e
      | some y =>
        rw [e3] at e
        dsimp only [Option.bind_some] at e
        cases e4:intV y with
        | none=>rw [e4] at e; cases e
        | some j =>
          rw [e4] at e
          dsimp only [Option.bind_some] at e
          cases intV_some e4
          refine ⟨W,O,env,_,E,e1,fun v1 H1 s1 r1=>⟨W,O,env,_,E.mono s1,e3,fun v2 H2 s2 r2=>?_⟩⟩
          cases Rep.int_ r1
          cases Rep.int_ r2
          refine ⟨i,j,rfl,rfl,r i j,rfl, ?_⟩
          by_cases hb:r i j=true
          · rw [if_pos hb] at e ⊢
            cases e5:k env with
            | none=>rw [e5] at e; cases e
            | some z =>
              rw [e5] at e
              dsimp only [Option.bind_some] at e
              cases e6:intV z with
              | none=>rw [e6] at e; cases e
              | some l =>
                rw [e6] at e
                cases e
                cases intV_some e6
                refine ⟨W,O,env,_,E.mono (s1.trans s2),e5,fun v3 H3 s3 r3=>?_⟩
                cases Rep.int_ r3
                exact ⟨j,l,rfl,rfl,q _ _ ((s1.trans s2).trans s3) (.bl _)⟩
          · rw [if_neg hb] at e ⊢
            cases e
            exact q _ _ (s1.trans s2) (.bl _)
inductive Od where
  | lt | le | gt | ge
noncomputable def Od.op:Od→CmpOp
  | .lt=>.Lt | .le=>.LtE | .gt=>.Gt | .ge=>.GtE
noncomputable def Od.b:Od→Int→Int→Bool
  | .lt=>ltB | .le=>leB | .gt=>gtB | .ge=>geB
section
variable {X:Cx}{c:Ct}{a b k:Expr}{f g h:FE}{pos:Pos}
theorem Od.ok (o:Od):OpR X (compareOp o.op) (rI0 fun i j=>.bl (o.b i j)):=by
  cases o
  · exact op_lt
  · exact op_le
  · exact op_gt
  · exact op_ge
theorem pdt_chain (o o':Od)(ha:PD X c a f)(hb:PD X c b g)(hk:PD X c k h){q q':CmpOp}(e:q=o.op:=by rfl)(e':q'=o'.op:=by rfl)(hm:lastMarks [q,q'] [b,k]=false:=by with_unfolding_all rfl) :
    PDT X c (.Compare a [q,q'] [b,k] pos) (ftB (feChain o.b o'.b f g h)):=by
  subst e e'
  exact PT.imp (pt_chain o.ok o'.ok ha hb hk hm) fun _ _ _ h=>tP_chain (tP_test h)
end
@[simp] theorem ev_fsAppend (i:Nat)(f:FE)(env:DEnv):fsAppend i f env=obind (slotO env[i]?) fun ds=>obind (f env) fun x=>if ds.length<1000000 then some (.nx (env.set i (.own (ds++[x])))) else none:=by
  unfold fsAppend fsMutG
  cases h:env[i]? with
  | none=>rfl
  | some s =>
    cases s with
    | own ds =>
      show ((faCons f faNil env).bind fun x=>(appG ds x).map fun ds'=>DFl.nx (env.set i (.own ds')))=obind (some ds) _
      rw [obind_some,ev_faCons]
      cases f env with
      | none=>rfl
      | some x =>
        rw [obind_some,obind_some,ev_faNil,obind_some]
        show (appG ds [x]).map _=_
        unfold appG
        dsimp only
        split <;> rfl
    | _=>rfl
end DL
end
section
namespace DL
open PySem PySem.Spec PyProof.Rows L2
theorem vals_ints : ∀ {ns:List Int} {us:List Value},Vals (ns.map V.int) us→IntsAre us ns
  | [],_,.nil=>.nil
  | n::ns,_,.cons r t=>by
    obtain ⟨k,rfl⟩:=r
    exact .cons n k (vals_ints t)
section
variable {X:Cx}{c:Ct}{e:Expr}{f:FE}{pos:Pos}
theorem call_sumL (hc:X.calm=true):CallR X (.builtin "sum") (fun xs H Q=>∃ (a:Addr) (ns:List Int),xs=[.ref a]∧SqL X.K H a (ns.map V.int)∧Q (.int ns.sum) H):=by
  intro pins s σ H xs us Q I r h
  obtain ⟨a,ns,rfl,hS,q⟩:=h
  obtain ⟨u,rfl,ru⟩:=vals1 r
  cases ru
  obtain ⟨its,rv,p,hz⟩:=I.list hS
  have hi:=vals_ints rv
  obtain ⟨ys,hy⟩:=hi.allInts.items
  have hl:s.heap.IsList a (intItems ys):=hy ▸ p.isList
  refine sum_intListG (I.ok.hd hc) hl fun h' tk t' hk=>⟨.int ns.sum,H,I.kept hk,⟨t', ?_⟩,q⟩
  have e1:ns=ys.toList.map (·.1):=by
    rw [← nums_intItems, ← hy]
    exact hi.numsOf.symm
  rw [preSum_eq,List.take_of_length_le (by simp), ← e1]
theorem intsOf_rep {T:Tx}{A:Addr→Prop}{H:Hp} : ∀ {ds:List D} {is:List Int} {vs:List V},intsOf ds=some is→RepL T A H ds vs→vs=is.map V.int
  | [],_,_,h,r=>by
    unfold intsOf at h
    cases h
    exact r.nil_
  | d::ds,_,_,h,r=>by
    unfold intsOf at h
    obtain ⟨x,t,rfl,h1,h2⟩:=r.cons_
    split at h
    · next heq=>cases heq
    · next i r' heq =>
      cases heq
      cases e:intsOf ds with
      | none=>rw [e] at h; cases h
      | some js =>
        rw [e] at h
        cases h
        cases h1.int_
        rw [intsOf_rep e h2]
        rfl
    · cases h
theorem snd_sum {T:Tx}(A:Addr→Prop)(H0 H:Hp)(x:D)(v:V)(d:D)(Q:VK)(_:Nw A H)(rx:kR T A H0 H x v)(e:sumD x=some d)(k : ∀ w H',Same H H'→kD T A H H' d w→Q w H') : ∃ (a:Addr) (ns:List Int),[v]=[.ref a]∧SqL T.K H a (ns.map V.int)∧Q (.int ns.sum) H:=by
  unfold sumD at e
  split at e
  · next ds =>
    cases e1:intsOf ds with
    | none=>rw [e1] at e; cases e
    | some is =>
      rw [e1] at e
      dsimp only [Option.bind_some] at e
      split at e
      · cases e
        obtain ⟨a,xs,rfl,hS,hr⟩:=RepR.lst_ rx
        cases intsOf_rep e1 hr
        exact ⟨a,is,rfl,hS,k _ _ (Same.refl H) (.int _)⟩
      · cases e
  · cases e
theorem pd_sum {p:Pos}(hg:Gl X "sum")(hm:X.mg "sum"=none)(hc:X.calm=true)(ha:PR X c e f)(he:isStar e=false:=by rfl):PD X c (.Call (.Name "sum" p) [e] [] pos) (fp1 sumD f):=pd_b1 (call_sumL hc) snd_sum hg hm boot_sum ha he
end
end DL
end
section
namespace DL
open PySem PySem.Spec PyProof.Rows L2
section
variable {X:Cx}{c:Ct}{e:Expr}{f:FE}{pos:Pos}
end
end DL
end
section
namespace DL
open PySem PySem.Spec PyProof.Rows L2
noncomputable def fsUnp (tg:FG)(f:FE):FS:=fun env=>(f env).bind fun d=>(tg d env).map .nx
@[simp] theorem ev_fsUnp (tg:FG)(f:FE)(env:DEnv):fsUnp tg f env=obind (f env) fun d=>omap .nx (tg d env):=(Eq.refl _).trans (Eq.refl _)
theorem tDs_unp {T:Tx}{xq:XQ}{De:Ends}{σ:L2.St}{H:Hp}{tg:FG}{g:TG}{f:FE}(sg:SndG T tg g)(h:tDs T xq (fsUnp tg f) De σ H):tAsg (tP T (kD T) f) g De σ H:=by
  obtain ⟨W,O,env,fl,E,e,q⟩:=h
  unfold fsUnp at e
  cases e1:f env with
  | none=>rw [e1] at e; cases e
  | some x =>
    rw [e1] at e
    dsimp only [Option.bind_some] at e
    cases e2:tg x env with
    | none=>rw [e2] at e; cases e
    | some env' =>
      rw [e2] at e
      cases e
      exact ⟨W,O,env,x,E,e1,fun v H' s r=>sg W O H' env env' σ x v _ (E.mono s) r e2 fun σ' E'=>q σ' H' O E' (Fr.same s)⟩
noncomputable def noTup:Expr→Bool
  | .Tuple _ _ _=>false
  | e=>noComp e
theorem stores_no {ts:List Expr}{k : _}{p:Pos}{e:Expr}{env:Env}(h:noTup e=true):swappedStores [.Tuple ts k p] e env=pure none:=by
  cases e <;> first | rfl | cases h
section
variable {X:Cx}{c:Ct}{xq:XQ}{e:Expr}{f:FE}{pos:Pos}
theorem pds_unp {ts:List Expr}{k : _}{p:Pos}{tg:FG}{g:TG}(sg:SndG (tx X c) tg g)(pg:PG X (.Tuple ts k p) g)(he:PD X c e f)(hs:noComp e=true:=by rfl)(hw:noTup e=true:=by rfl) :
    PDS X c xq (.Assign [.Tuple ts k p] e pos) (fsUnp tg f):=PS.imp (ps_asg he pg (show swapsWithSole [.Tuple ts k p] e pos.line X.env=pure false from swaps_no (t:=some (.Tuple ts k p)) (l:=pos.line) (env:=X.env) hs) (stores_no hw) rfl) fun _ _ _ h=>tDs_unp sg h
end
end DL
end
section
namespace DL
open PySem PySem.Spec PyProof.Rows L2
noncomputable def joinE:D→D→Option D
  | .str sep,.lst ds=>(strsOf ds).bind fun xs=>if (xs.map List.length).sum+xs.length * sep.length≤1000000 then some (.str (joinL sep xs)) else none
  | _,_=>none
theorem join_mk (sep:List Nat) : ∀ xs:List (List Nat),Str.join (mkS sep) (xs.map mkS)=mkS (joinL sep xs)
  | []=>rfl
  | [x]=>rfl
  | x::y::r=>by
    have ih:=join_mk sep (y::r)
    show mkS x++mkS sep++Str.join (mkS sep) ((y::r).map mkS)=mkS (x++sep++joinL sep (y::r))
    rw [ih]
    show (⟨(x.toArray++sep.toArray)++(joinL sep (y::r)).toArray⟩:Str)=_
    simp [mkS]
theorem vals_strs : ∀ {xs:List (List Nat)} {us:List Value},Vals (xs.map fun x=>V.str (mkS x)) us→StrsAre us (xs.map mkS)
  | [],_,.nil=>.nil
  | x::xs,_,.cons r t=>by
    obtain ⟨k,rfl⟩:=r
    exact .cons _ k (vals_strs t)
theorem strsOf_rep {T:Tx}{A:Addr→Prop}{H:Hp} : ∀ {ds:List D} {is:List (List Nat)} {vs:List V},strsOf ds=some is→RepL T A H ds vs→vs=is.map fun x=>V.str (mkS x)
  | [],_,_,h,r=>by
    unfold strsOf at h
    cases h
    exact r.nil_
  | d::ds,_,_,h,r=>by
    unfold strsOf at h
    obtain ⟨x,t,rfl,h1,h2⟩:=r.cons_
    split at h
    · next heq=>cases heq
    · next i r' heq =>
      cases heq
      cases e:strsOf ds with
      | none=>rw [e] at h; cases h
      | some js =>
        rw [e] at h
        cases h
        cases h1.str_
        rw [strsOf_rep e h2]
        rfl
    · cases h
noncomputable def rJoin (K:PySem.W.Frag):V→List V→Hp→VK→Prop:=fun x vs H Q=>∃ (sep:List Nat) (a:Addr) (xs:List (List Nat)),x=.str (mkS sep)∧vs=[.ref a]∧SqL K H a (xs.map fun x=>V.str (mkS x))∧(xs.map List.length).sum+xs.length * sep.length≤1000000∧Q (.str (mkS (joinL sep xs))) H
section
variable {X:Cx}{c:Ct}{e o:Expr}{f g:FE}{pos:Pos}
theorem mt_join:MtR X "str.join" (rJoin X.K):=by
  intro pins s σ H x vs v us Q I rx rv h
  obtain ⟨sep,a,xs,rfl,rfl,hS,hz,q⟩:=h
  obtain ⟨t,rfl⟩:=rx
  obtain ⟨u,rfl,ru⟩:=vals1 rv
  cases ru
  obtain ⟨its,r,p,_⟩:=I.list hS
  refine join_list (ys:=xs.map mkS) p.isList (by simpa using vals_strs r) ?_ fun t' k=>⟨.str (mkS (joinL sep xs)),H,I.tok _,⟨t', ?_⟩,q⟩
  · have e1:((xs.map mkS).map (·.length))=xs.map List.length:=by
      rw [List.map_map]
      exact List.map_congr_left fun x _=>mkS_len x
    rw [e1,List.length_map,mkS_len]
    omega
  · show Value.str (Txt.join (mkS sep) (xs.map mkS)) t'=_
    have:Txt.join (mkS sep) (xs.map mkS)=mkS (joinL sep xs):=(StrLaws.glued_eq_join _ _).trans (join_mk sep xs)
    rw [this]
theorem tP_join {T:Tx}{σ:L2.St}{H:Hp}{Q:VK}(h:tP T (kD T) (fp2 joinE f g) σ H Q):tBM T.K "str" (rJoin T.K) (tP T (kD T) f) (tP T (kRA T) (faR g)) σ H Q:=by
  obtain ⟨W,O,env,d,E,e,q⟩:=h
  unfold fp2 at e
  cases e1:f env with
  | none=>rw [e1] at e; cases e
  | some x =>
    rw [e1] at e
    dsimp only [Option.bind_some] at e
    cases e2:g env with
    | none=>rw [e2] at e; cases e
    | some y =>
      rw [e2] at e
      dsimp only [Option.bind_some] at e
      unfold joinE at e
      split at e
      · next sep ds =>
        cases e3:strsOf ds with
        | none=>rw [e3] at e; cases e
        | some xs =>
          rw [e3] at e
          dsimp only [Option.bind_some] at e
          split at e
          · next hz =>
            cases e
            refine ⟨W,O,env,_,E,e1,fun v1 H1 s1 r1=>?_⟩
            cases Rep.str_ r1
            refine ⟨rfl,W,O,env,[.lst ds],E.mono s1,by unfold faR; rw [e2]; rfl,fun vs H2 s2 r2=>?_⟩
            obtain ⟨v,rfl,rv⟩:=r2
            obtain ⟨a,us,rfl,hS,hr⟩:=RepR.lst_ rv
            cases strsOf_rep e3 hr
            exact ⟨sep,a,xs,rfl,rfl,hS,hz,q _ _ (s1.trans s2) (.str _)⟩
          · cases e
      · cases e
theorem pd_join {p2 p3:Pos}(ho:PD X c o f)(ha:PR X c e g)(hb:attributeBase o "join" X.env (eval o X.env)=eval o X.env:=by rfl)(hs:isStar e=false:=by rfl)(hl:(p2.endLine == p3.line)=true:=by rfl) :
    PD X c (.Call (.Attribute o "join" p2) [e] [] p3) (fp2 joinE f g) :=
  PE.imp (pe_bm PySem.F.plainAttrs_str PySem.F.slot_str_join PySem.F.type_str_join mt_join ho (pa_one ha hs) hb (by rw [star_one hs]; rfl) hl (star_cons hs) rfl) fun _ _ _ h=>tP_join h
end
end DL
end
section
namespace DL
open L2
noncomputable def strM1 (F:List Nat→D→Option D):D→D→Option D
  | .str z,y=>F z y
  | _,_=>none
noncomputable def rjustF (z:List Nat):D→Option D
  | .int i=>if -1000000≤i∧i≤1000000 then some (.str (List.replicate (i.toNat - z.length) 32++z)) else none
  | _=>none
@[simp] theorem ev_strM1 (F:List Nat→D→Option D)(z:List Nat)(y:D):strM1 F (.str z) y=F z y:=(Eq.refl _).trans (Eq.refl _)
@[simp] theorem ev_rjustF (z:List Nat)(i:Int):rjustF z (.int i)=if -1000000≤i∧i≤1000000 then some (.str (List.replicate (i.toNat - z.length) 32++z)) else none:=(Eq.refl _).trans (Eq.refl _)
@[simp] theorem ev_joinE (sep:List Nat)(ds:List D):joinE (.str sep) (.lst ds)=obind (strsOf ds) fun xs=>if (xs.map List.length).sum+xs.length * sep.length≤1000000 then some (.str (joinL sep xs)) else none:=(Eq.refl _).trans (Eq.refl _)
theorem strsOf_map (xs:List (List Nat)):strsOf (xs.map D.str)=some xs:=by
  induction xs with
  | nil=>rfl
  | cons x r ih=>show (strsOf (r.map D.str)).map (x::·)=_; rw [ih]; rfl
@[simp] theorem ev_addA (i j:Int):addA (.int i) (.int j)=some (.int (i+j)):=(Eq.refl _).trans (Eq.refl _)
theorem rInts_zero (a:Int):rInts a 0=[]:=rfl
theorem ev_runFor_cons (tg:FG)(body:FS)(d:D)(ds:List D)(env:DEnv):runFor tg body (d::ds) env=obind (tg d env) fun env1=>obind (body env1) fun r=>match r with
    | .nx e=>runFor tg body ds e
    | .ct e=>runFor tg body ds e
    | .bk e=>some (.nx e)
    | r=>some r:=rfl
theorem runFor_nx {tg:FG}{body:FS}{d:D}{ds:List D}{env e1 e2:DEnv}(h1:tg d env=some e1)(h2:body e1=some (.nx e2)):runFor tg body (d::ds) env=runFor tg body ds e2:=by
  rw [ev_runFor_cons,h1,obind_some,h2,obind_some]
noncomputable def seqL:D→Option (List D)
  | .lst ds=>some ds
  | _=>none
noncomputable def enumL (ds:List D):List D:=ds.zipIdx.map fun p=>.tup [.int (p.2:Nat),p.1]
noncomputable def fsForE (tg:FG)(fi:FE)(body:FS):FS:=fun env=>(fi env).bind fun x=>(seqL x).bind fun ds=>runFor tg body (enumL ds) env
@[simp] theorem ev_seqL (ds:List D):seqL (.lst ds)=some ds:=(Eq.refl _).trans (Eq.refl _)
@[simp] theorem ev_fsForE (tg:FG)(fi:FE)(body:FS)(env:DEnv):fsForE tg fi body env=obind (fi env) (fun x=>obind (seqL x) (fun ds=>runFor tg body (enumL ds) env)):=(Eq.refl _).trans (Eq.refl _)
noncomputable def setI (ds:List D)(k:Int)(v:D):Option (List D):=(ixN ds.length k).map fun j=>ds.set j v
noncomputable def fsItem (i:Nat)(fk fv:FE):FS:=fun env=>match env[i]? with
  | some (.own ds)=>(fv env).bind fun v=>(fk env).bind fun k=>(intV k).bind fun k=>(setI ds k v).map fun ds'=>.nx (env.set i (.own ds'))
  | _=>none
@[simp] theorem ev_fsItem (i:Nat)(fk fv:FE)(env:DEnv):fsItem i fk fv env=obind (slotO env[i]?) fun ds=>obind (fv env) fun v=>obind (fk env) fun k=>obind (intV k) fun k=>omap (fun ds'=>.nx (env.set i (.own ds'))) (setI ds k v):=by
  unfold fsItem
  cases env[i]? with
  | none=>rfl
  | some s=>cases s <;> rfl
theorem setI_k (ds:List D)(k:Nat)(v:D)(h:k<ds.length):setI ds (k:Int) v=some (ds.set k v):=by
  unfold setI ixN
  rw [if_pos (by omega),if_pos (by omega)]; simp
theorem enumL_nil:enumL []=[]:=rfl
theorem enumL_len (ds:List D):(enumL ds).length=ds.length:=by simp [enumL]
noncomputable def enumF (i:Nat)(ds:List D):List D:=(ds.zipIdx i).map fun p=>.tup [.int (p.2:Nat),p.1]
theorem enumL_F (ds:List D):enumL ds=enumF 0 ds:=rfl
theorem enumF_cons (i:Nat)(d:D)(ds:List D):enumF i (d::ds)=.tup [.int (i:Nat),d]::enumF (i+1) ds:=rfl
theorem enumF_nil (i:Nat):enumF i []=[]:=rfl
@[simp] theorem ev_tgTup2 (i j:Nat)(a b:D)(env:DEnv):tgTup [i,j] (.tup [a,b]) env=some ((env.set i (.val a)).set j (.val b)):=(Eq.refl _).trans (Eq.refl _)
theorem eqZ_strs (n:Nat) : ∀ a b:List (List Nat),a.length=b.length→eqZ (eqN (n+1)) (a.map D.str) (b.map D.str)=some (a == b)
  | [],[],_=>rfl
  | x::a,y::b,h=>by
    have ih:=eqZ_strs n a b (by simpa using h)
    show ((eqN (n+1) (.str x) (.str y)).bind fun p=>(eqZ (eqN (n+1)) (a.map D.str) (b.map D.str)).map fun q=>p && q)=_
    rw [ih,ev_eqN_str]; rfl
  | [],y::b,h=>absurd h (by simp)
  | x::a,[],h=>absurd h (by simp)
theorem eq_strs (a b:List (List Nat)):eqN 100 (.lst (a.map D.str)) (.lst (b.map D.str))=some (a == b):=by
  show (if (a.map D.str).length=(b.map D.str).length then eqZ (eqN 99) (a.map D.str) (b.map D.str) else some false)=_
  by_cases h:a.length=b.length
  · rw [if_pos (by simpa using h)]; exact eqZ_strs 98 a b h
  · rw [if_neg (by simpa using h)]
    have:(a == b)=false:=by
      rw [beq_eq_false_iff_ne]; intro e; exact h (by rw [e])
    rw [this]
theorem eq_nil_strs (a:List (List Nat)):eqN 100 (.lst (a.map D.str)) (.lst [])=some (a == []):=eq_strs a []
theorem ix_mod (z:List Nat)(c:Int)(hz : 0<z.length) : ∃ (k:Nat) (x:Nat),c % (z.length:Int)=k∧z[k]?=some x∧x∈z:=by
  obtain ⟨k,hk,hl⟩:=mod_nat c z.length hz
  exact ⟨k,z[k],hk,List.getElem?_eq_getElem hl,List.getElem_mem hl⟩
theorem ix_modn (z:List Nat)(m:Nat)(c:Int)(hm:z.length=m)(hz : 0<m) : ∃ (k:Nat) (x:Nat),c % (m:Int)=k∧z[k]?=some x∧x∈z:=by
  subst hm; exact ix_mod z c hz
theorem runComp_nil {tg:FG}{ft:FT}{fe:FE}{env:DEnv}:runComp tg ft fe env []=some []:=rfl
theorem runComp_t {tg:FG}{ft:FT}{fe:FE}{env e:DEnv}{d y:D}{ds ys:List D}(h1:tg d env=some e)(h2:ft e=some true)(h3:fe e=some y)(h4:runComp tg ft fe env ds=some ys):runComp tg ft fe env (d::ds)=some (y::ys):=by
  rw [runComp,h1]; dsimp only [Option.bind_some]; rw [h2]; dsimp only [Option.bind_some]; rw [if_pos rfl,h3,h4]; rfl
theorem eq_nil_nil:eqN 100 (.lst []) (.lst [])=some true:=rfl
end DL
end
section
namespace DL
open PySem PySem.Spec PyProof.Rows L2
noncomputable def rSM (F:List Nat→D→Option D):V→List V→Hp→VK→Prop:=fun x vs H Q=>∃ (z:List Nat) (y d:D) (u w:V),x=.str (mkS z)∧vs=[u]∧flat y=some u∧F z y=some d∧flat d=some w∧Q w H
structure SmK (X:Cx)(name:Str)(F:List Nat→D→Option D):Prop where
  fl : ∀ z y d,F z y=some d→(∃ u,flat y=some u)∧∃ w,flat d=some w
  mt : ∃ id:String,PySem.Slot "str" name id∧typeOf (.builtin id)=pure (.type "method_descriptor")∧MtR X id (rSM F)
section
variable {X:Cx}{c:Ct}{e o:Expr}{f g:FE}{pos:Pos}
theorem tP_sm1 {T:Tx}{F:List Nat→D→Option D}{σ:L2.St}{H:Hp}{Q:VK}(fl : ∀ z y d,F z y=some d→(∃ u,flat y=some u)∧∃ w,flat d=some w)(h:tP T (kD T) (fp2 (strM1 F) f g) σ H Q) :
    tBM T.K "str" (rSM F) (tP T (kD T) f) (tP T (kA T) (faCons g faNil)) σ H Q:=by
  obtain ⟨W,O,env,d,E,e,q⟩:=h
  unfold fp2 at e
  cases e1:f env with
  | none=>rw [e1] at e; cases e
  | some x =>
    rw [e1] at e
    dsimp only [Option.bind_some] at e
    cases e2:g env with
    | none=>rw [e2] at e; cases e
    | some y =>
      rw [e2] at e
      dsimp only [Option.bind_some] at e
      cases x with
      | str z =>
        have e:F z y=some d:=e
        obtain ⟨⟨u,hu⟩,⟨w,hw⟩⟩:=fl _ _ _ e
        refine ⟨W,O,env,_,E,e1,fun v1 H1 s1 r1=>?_⟩
        cases Rep.str_ r1
        refine ⟨rfl,W,O,env,[y],E.mono s1,by unfold faCons faNil; rw [e2]; rfl,fun vs H2 s2 r2=>?_⟩
        obtain ⟨v,r,rfl,rv,rr⟩:=RepL.cons_ r2
        cases rr.nil_
        have:=(flat_rep (A':=Cl W O) (H':=H2) hu (RepR.of rv)).1
        subst this
        exact ⟨z,y,d,_,w,rfl,rfl,hu,e,hw,q _ _ (s1.trans s2) (flat_of hw)⟩
      | _=>cases e
theorem pd_sm1 {name:Str}{F:List Nat→D→Option D}{p2 p3:Pos}(K:SmK X name F)(ho:PD X c o f)(ha:PD X c e g)(hb:attributeBase o name X.env (eval o X.env)=eval o X.env:=by rfl)(hs:isStar e=false:=by rfl)(hl:(p2.endLine == p3.line)=true:=by rfl) :
    PD X c (.Call (.Attribute o name p2) [e] [] p3) (fp2 (strM1 F) f g):=by
  obtain ⟨fl,id,s1,s2,m⟩:=K
  exact PE.imp (pe_bm PySem.F.plainAttrs_str s1 s2 m ho (pda_cons ha pda_nil hs) hb (by rw [star_one hs]; rfl) hl (star_cons hs) rfl) fun _ _ _ h=>tP_sm1 fl h
end
end DL
end
section
namespace DL
open PySem PySem.Spec PyProof.Rows L2
section
variable {X:Cx}{c:Ct}{xq:XQ}{e k:Expr}{f g:FE}{pos:Pos}
theorem tDs_item {T:Tx}{De:Ends}{σ:L2.St}{H:Hp}{i:Nat}{fk fv:FE}(h:tDs T xq (fsItem i fk fv) De σ H):tAsg (tP T (kD T) fv) (gSub (tVar i) (tP T (kD T) fk) rSetL) De σ H:=by
  obtain ⟨W,O,env,fl,E,e,q⟩:=h
  unfold fsItem at e
  split at e
  · rename_i ds es
    cases e1:fv env with
    | none=>rw [e1] at e; cases e
    | some v =>
      rw [e1] at e
      dsimp only [Option.bind_some] at e
      cases e2:fk env with
      | none=>rw [e2] at e; cases e
      | some kd =>
        rw [e2] at e
        dsimp only [Option.bind_some] at e
        cases e3:intV kd with
        | none=>rw [e3] at e; cases e
        | some kk =>
          rw [e3] at e
          dsimp only [Option.bind_some] at e
          cases intV_some e3
          unfold setI at e
          cases e4:ixN ds.length kk with
          | none=>rw [e4] at e; cases e
          | some j =>
            rw [e4] at e
            cases e
            obtain ⟨a,xs,ea,o,n,hl,rl⟩:=E.own es
            refine ⟨W,O,env,v,E,e1,fun u H1 s1 r1=>?_⟩
            have E1:=E.mono s1
            refine ⟨.ref a,ea,W,O,env,.int kk,E1,e2,fun w H2 s2 r2=>?_⟩
            cases r2.int_
            have E2:=E1.mono s2
            have hl2:=s2 _ _ (s1 _ _ hl)
            refine ⟨a,xs,kk,j,rfl,rfl,hl2,by rw [← rl.length]; exact e4, ?_⟩
            have f1:Fr O H2 O (L2.upd H2 a (.lst (xs.set j u))):=⟨fun b z h nn=>by rw [upd_ne (by rintro rfl; exact nn o)]; exact h,fun b h=>.inl h,fun b h=>by
              by_cases z:b=a
              · subst z; rw [upd_same] at h; cases h
              · rw [upd_ne z] at h; exact h⟩
            have kp:=E2.kp f1
            have rl2:RepL T (Cl W O) H2 (ds.set j v) (xs.set j u):=(rl.mono (s1.trans s2) fun _ z=>z).set j (r1.mono s2 fun _ z=>z)
            obtain ⟨E3,f3⟩:=E2.upd (t:=.own (ds.set j v)) (o:=.lst (xs.set j u)) es rfl ea trivial ⟨a,_,rfl,o,n,upd_same,rl2.kp kp⟩
            exact q _ _ O E3 ((Fr.same (s1.trans s2)).trans f3)
  · cases e
theorem pds_item {i:Nat}{x:Str}{p1 p2:Pos}(m:Nm X i x)(hk:PD X c k f)(hv:PD X c e g)(hs:noComp e=true:=by rfl)
    (ha : ∀ v,assign (.Subscript (.Name x p1) k p2) X.env v=(do
      let ov ← holding [v] (eval (.Name x p1) X.env)
      let iv ← holding [v,ov] (eval k X.env)
      standAt p2
      holding [v,ov,iv] (setItem ov iv v)
      release [v,ov,iv] []):=by intro _; rfl) :
    PDS X c xq (.Assign [.Subscript (.Name x p1) k p2] e pos) (fsItem i f g) :=
  PS.imp (ps_asg hv (pg_sub (pe_var m.hN m.hv m.hd m.hc) hk set_list ha) (swaps_no (t:=some (.Subscript (.Name x p1) k p2)) (l:=pos.line) (env:=X.env) hs) (by rfl) rfl) fun _ _ _ h=>tDs_item h
end
end DL
end
section
namespace L2
open PySem PySem.Spec PyProof.Rows
section
variable {X:Cx}{pins:List (Addr × Obj)}{σ:List (Option V)}{H H':Hp}{s:Shared}{h':Heap}
theorem Inv.turnedT {t':Nat}{e it p:Addr}{vs:List V}(I:Inv X pins σ H s)(k : ∀ b o,b≠e→b≠it→s.heap.get? b=some o→h'.get? b=some o)(fe:FpOk X pins H e)(fi:FpOk X pins H it)(fp:FpOk X pins H p)
    (hp:s.heap.get? p=none) (new:ObjOk X.prog X.w (upd H p (.tup vs)) h' p (.tup vs)):Inv X pins σ (upd H p (.tup vs)) { s with heap:=h',toks:=t' }:=by
  have ne : ∀ b u,H b=some u→b≠e:=fun b u q z=>by rw [z,fe.1] at q; cases q
  have ni : ∀ b u,H b=some u→b≠it:=fun b u q z=>by rw [z,fi.1] at q; cases q
  have np : ∀ b u,H b=some u→b≠p:=fun b u q z=>by rw [z,fp.1] at q; cases q
  have kk : ∀ b o,b ∉ [e,it,p]→s.heap.get? b=some o→h'.get? b=some o:=fun b o hb q=>k b o (fun z=>hb (by simp [z])) (fun z=>hb (by simp [z])) q
  refine I.step (g':=s.gens) (d':=s.drawn) (ch:=[e,it,p]) (fun b hb=>?_) (fun b o _ _ hc q _=>kk b o hc q) (fun b o _ _ hc q _=>⟨o.slots,kk b o hc q⟩) (fun b _ hc _ n=>by rw [upd_ne (fun z=>hc (by simp [z]))]; exact n)
    (fun b o hc q=>⟨o,kk b o hc q⟩) (fun b xs q=>by rw [upd_ne (np b _ q)]; exact q) (fun b _ _ q=>by rw [upd_ne (np b _ q)]; exact q) (fun b ps q=>⟨#[],by rw [upd_ne (np b _ q),q]; simp⟩) (fun m hm=>?_) (fun b u q=>?_) I.bare
  · have:b=e∨b=it∨b=p:=by simpa using hb
    rcases this with rfl | rfl | rfl
    · exact ⟨fe.2.2.2.1,fe.2.1,fe.2.2.2.2.1,fe.2.2.2.2.2⟩
    · exact ⟨fi.2.2.2.1,fi.2.1,fi.2.2.2.2.1,fi.2.2.2.2.2⟩
    · exact ⟨fp.2.2.2.1,fp.2.1,fp.2.2.2.2.1,fp.2.2.2.2.2⟩
  · obtain ⟨o,es,ep,ho,r⟩:=hm
    exact ⟨o,es,ep,k _ o (Ne.symm fe.2.1) (Ne.symm fi.2.1) ho,r⟩
  · by_cases hb:b=p
    · subst hb; rw [upd_same] at q; cases q; exact new
    · rw [upd_ne hb] at q
      refine (I.hok b u q).stay (fun c v hc z=>k c v ?_ ?_ z) (fun c z=>by rw [upd_ne (np c _ z)]; exact z) fun c xs z=>by rw [upd_ne (np c _ z)]; exact z
      · rcases hc with z | z
        · rw [z]; exact ne b u q
        · exact ne c _ z
      · rcases hc with z | z
        · rw [z]; exact ni b u q
        · exact ni c _ z
end
noncomputable def Ite (K:PySem.W.Frag)(a:Addr):It :=
  ⟨fun i H=>∃ xs x,SqL K H a xs∧xs[i]?=some x,fun i H v H'=>∃ p y,H p=none∧v=.ref p∧H'=upd H p (.tup [.int (i:Nat),y])∧∀ xs,SqL K H a xs→xs[i]?=some y,fun i H=>∃ xs,SqL K H a xs∧xs.length≤i⟩
theorem turn_enum {P:Program}{w:World}{K:PySem.W.Frag}{ts:List Expr}{tk:Nat}{tp:Pos}(a e it:Addr)(hne:e≠it):Turn P w K (.Tuple ts tk tp) (Ite K a) [e,it] e (fun i h=>(∃ old,IsEnum h e it (i:Nat) old)∧h.IsListIter it a i) where
  mem:=by simp
  obj:=fun i h st b hb=>by
    obtain ⟨⟨old,he⟩,o,ho,c,d⟩:=st
    have:b=e∨b=it:=by simpa using hb
    rcases this with rfl | rfl
    · exact ⟨_,he,fun v z=>by cases z⟩
    · exact ⟨o,ho,fun v z=>by rw [d] at z; cases z⟩
  keep:=fun i h h' st k=>⟨let ⟨old,he⟩:=st.1; ⟨old,k e (by simp) _ he⟩,st.2.at fun o q=>k it (by simp) o q⟩
  item:=by
    intro X hP hw hK hc i pins s σ H E I hf st hg
    subst hP hw hK
    obtain ⟨⟨old,he⟩,hit⟩:=st
    obtain ⟨xs,x,hq,hx⟩:=hg
    obtain ⟨its,rv,p,hz⟩:=I.list hq
    obtain ⟨u,hu,ru⟩:=rv.get hx
    have fe:=hf e (by simp)
    have fi:=hf it (by simp)
    refine wpAny_pyNext_enum_item he hit p.isList (x:=u) (by simpa using hu) hne fun h₁ heo hit₁ ht₁ hz₁ hk₁=>?_
    refine ⟨_,rfl,wpAny_letOwnedTupleGo_enum heo fun h₂ he₂ hs₂=>?_⟩
    have helt:e<s.heap.objs.size:=Heap.lt_size he
    have hilt:it<s.heap.objs.size:=by obtain ⟨o,ho,_⟩:=hit; exact Heap.lt_size ho
    have keep : ∀ b o,b≠e→b≠it→s.heap.get? b=some o→h₂.get? b=some o:=fun b o h1 h2 q=>(hs₂.2 b h1).trans (hk₁ b o h1 h2 q)
    have htup:IsTup h₂ s.heap.objs.size #[.int (i:Nat) s.toks,u]:=⟨_,(hs₂.2 _ (Nat.ne_of_gt helt)).trans ht₁,rfl,_,rfl⟩
    have hit₂:h₂.IsListIter it a (i+1):=hit₁.at fun o q=>(hs₂.2 it (Ne.symm hne)).trans q
    have fp:=I.fpOk (Nat.le_refl _) (I.hok.fresh (Nat.le_refl _))
    refine ⟨.ref s.heap.objs.size,upd H s.heap.objs.size (.tup [.int (i:Nat),x]), ?_,rfl,⟨_,x,I.hok.fresh (Nat.le_refl _),rfl,rfl,fun ys hy=>by rw [I.list_inj hy hq]; exact hx⟩,⟨⟨_,by simpa using he₂⟩,hit₂⟩,fun b hb=>?_⟩
    · exact I.turnedT (t':=s.toks+1) keep fe fi fp (Heap.get?_none_of_le (Nat.le_refl _)) ⟨(show (2:Nat)≤sizeLine by decide),[.int (i:Nat) s.toks,u],.cons ⟨_,rfl⟩ (.cons ru .nil),htup⟩
    · have:b=e∨b=it:=by simpa using hb
      rcases this with rfl | rfl
      · rw [upd_ne (Nat.ne_of_lt helt)]; exact fe.1
      · rw [upd_ne (Nat.ne_of_lt hilt)]; exact fi.1
  done:=by
    intro X hP hw hK hc i pins s σ H E I hf st hg
    subst hP hw hK
    obtain ⟨⟨old,he⟩,hit⟩:=st
    obtain ⟨xs,hq,hx⟩:=hg
    obtain ⟨its,rv,p,hz⟩:=I.list hq
    obtain ⟨f0,f1,f2,f3,f4,f5⟩:=hf it (by simp)
    have hl:=rv.length
    exact wpAny_pyNext_enum_end (I.ok.hd hc) he hit p.isList (by simp; omega) fun h' eb=>⟨rfl,I.turned (t':=s.toks) (fun b o hb q=>eb b o hb q) f0 f1 f3 f4 f5⟩
  self:=fun _ _ _ _ _ st h=>by
    obtain ⟨⟨old,he⟩,_⟩:=st
    exact wpAny_pyIter_enum he h
noncomputable def iEnum (K:PySem.W.Frag)(ta:TA):TI:=fun σ H R=>ta σ H fun vs H1=>∃ a,vs=[.ref a]∧(∃ xs,SqL K H1 a xs)∧R (Ite K a) H1
theorem pi_enum {X:Cx}{a:Expr}{ta:TA}{p pos:Pos}{ts:List Expr}{tk:Nat}{tp:Pos}(hg:Gl X "enumerate")(hm:X.mg "enumerate"=none)(ha:PA X [a] ta)(hs:starEach [a] X.env=[(false,eval a X.env)]:=by rfl) :
    PI X (.Tuple ts tk tp) (.Call (.Name "enumerate" p) [a] [] pos) (iEnum X.K ta):=by
  intro pins s σ H R I h
  refine Call_ (ld_blt I hg hm boot_enumerate (PyProof.Rows.callWith_type1 (thn5 (ha pos pins s σ H _ I h) fun us s1 vs H1 I1 r1 q1=>?_) hs rfl))
  obtain ⟨l,e,⟨xs,hq⟩,q⟩:=q1
  subst e
  cases r1 with
  | cons r rr =>
    cases rr
    cases r
    obtain ⟨its,rv,pl,hz⟩:=I1.list hq
    refine call_enumerate_list pl.isList fun h' he hit hsz hk=>?_
    refine wpAny_pyIter_enum he ?_
    refine ⟨s1.heap.objs.size+1,[s1.heap.objs.size+1,s1.heap.objs.size],_,_,H1,rfl,I1.kept (t':=s1.toks) hk,turn_enum l _ _ (Nat.succ_ne_self _),⟨⟨_,by simpa using he⟩,hit⟩,fun b hb=>?_,q⟩
    have:b=s1.heap.objs.size+1∨b=s1.heap.objs.size:=by simpa using hb
    rcases this with rfl | rfl
    · exact I1.fpOk (Nat.le_succ _) (I1.hok.fresh (Nat.le_succ _))
    · exact I1.fpOk (Nat.le_refl _) (I1.hok.fresh (Nat.le_refl _))
end L2
end
section
namespace DL
open PySem PySem.Spec PyProof.Rows L2
theorem seqL_some {x:D}{ds:List D}(h:seqL x=some ds):x=.lst ds:=by
  unfold seqL at h
  split at h
  · cases h; rfl
  · cases h
theorem enumL_get {ds:List D}{j:Nat}{d:D}(h:ds[j]?=some d):(enumL ds)[j]?=some (.tup [.int (j:Nat),d]):=by
  unfold enumL
  rw [List.getElem?_map,List.getElem?_zipIdx,h]
  simp
section
variable {T:Tx}{X:XQ}{F:FS}{fi fe:FE}{ft:FT}{De:Ends}{σ:L2.St}{H:Hp}{tg:FG}{g:TG}
theorem tDs_forE (hg:SndG T tg g)(h:tDs T X (fsForE tg fi F) De σ H):tFor (iEnum T.K (tP T (kA T) (faCons fi faNil))) g (tDs T X F) De σ H:=by
  obtain ⟨W,O,env,fl,E,e,q⟩:=h
  unfold fsForE at e
  cases e1:fi env with
  | none=>rw [e1] at e; cases e
  | some x =>
    rw [e1] at e
    dsimp only [Option.bind_some] at e
    cases e2:seqL x with
    | none=>rw [e2] at e; cases e
    | some ds =>
      rw [e2] at e
      dsimp only [Option.bind_some] at e
      cases seqL_some e2
      refine ⟨W,O,env,[.lst ds],E,by unfold faCons faNil; rw [e1]; rfl,fun vs H1 s1 r1=>?_⟩
      obtain ⟨v,r,rfl,rv,rr⟩:=RepL.cons_ r1
      cases rr.nil_
      have E1:=E.mono s1
      have q1:EndsR T X W O H1 De fl:=q.fr (Fr.same s1)
      obtain ⟨a,xs,rfl,hl,rl⟩:=Rep.lst_ rv
      have hlen:=rl.length
      refine ⟨a,rfl,⟨xs,hl.sq⟩,fun j m σ' H'=>m=ds.length - j∧j≤ds.length∧∃ env' O',EnvR T W O' H' env' σ'∧Fr O H1 O' H'∧runFor tg F ((enumL ds).drop j) env'=some fl,⟨ds.length,by simp,Nat.zero_le _,env,O,E1,Fr.refl _ _,e⟩, ?_⟩
      rintro j m σ' H' ⟨rfl,hj,env',O',E',f,e'⟩
      have hlH:=((E1.kp f).ls hl).sq
      by_cases hlt:j<ds.length
      · refine .inr ⟨⟨xs,xs[j]'(by omega),hlH,by simp [show j<xs.length by omega]⟩,fun σ2 H2=>∃ env' O',EnvR T W O' H2 env' σ2∧Fr O H1 O' H2∧runFor tg F ((enumL ds).drop (j+1)) env'=some fl,fun σ2 H2 p=>⟨ds.length - (j+1),by omega,rfl,hlt,p⟩,fun x H2 y=>?_⟩
        obtain ⟨p,y,hp,rfl,rfl,hy⟩:=y
        obtain ⟨d,hd,rd⟩:=rl.getV (hy xs hlH)
        have s2:Same H' (L2.upd H' p (.tup [.int (j:Nat),y])):=same_new hp _
        rw [drop_cons (enumL_get hd)] at e'
        have rd':Rep T (Cl W O') H' d y:=E1.keepD f rd
        exact for_step hg q1 _ ((enumL ds).drop (j+1)) (fun env2 O2 σ2 H2 E2 g2 e2=>⟨env2,O2,E2,g2,e2⟩) (E'.mono s2) (f.trans (Fr.same s2)) e' (Rep.newT (.cons (.int _) (.cons rd' .nil)) hp)
      · refine .inl ⟨⟨xs,hlH,by omega⟩, ?_⟩
        rw [List.drop_eq_nil_of_le (by rw [enumL_len]; omega)] at e'
        cases e'
        exact q1 σ' H' O' E' f
end
section
variable {X:Cx}{c:Ct}{xq:XQ}{ts:List Expr}{tk:Nat}{tp p ip pos:Pos}{elt iter:Expr}{ifs:List Expr}{scope sc:Scope}{N N':List Str}{nt:Nat}{cap:List Nat}{fi fe:FE}{ft:FT}{tgf:FG}{gt:TG}{F:FS}
theorem pds_forE {body:List Stmt}(hp:PassesOwn (model X.prog X.w) X.A X.env X.xe)(hc:X.calm=true)(sg:SndG (tx X c) tgf gt)(pg:PG X (.Tuple ts tk tp) gt)(hgl:Gl X "enumerate")(hm:X.mg "enumerate"=none)(hi:PD X c iter fi)(hb:PDSs X c xq body F)(hst:isStar iter=false:=by rfl) :
    PDS X c xq (.For (.Tuple ts tk tp) (.Call (.Name "enumerate" p) [iter] [] ip) body [] pos) (fsForE tgf fi F) :=
  PS.imp (ps_for hp hc (pi_enum hgl hm (pda_cons hi pda_nil hst) (star_one hst)) pg hb (folded_no rfl)) fun _ _ _ h=>tDs_forE sg h
end
end DL
end
section
namespace L2
open PySem PySem.Spec PyProof.Rows
end L2
namespace DL
open PySem PySem.Spec PyProof.Rows L2
section
variable {X:Cx}{c:Ct}{e a b:Expr}{f g h:FE}{pos p2:Pos}
end
end DL
end
section
namespace DL
open PySem PySem.Spec PyProof.Rows L2
theorem str_ext {a:Str}{z:List Nat}(h:a.cps.toList=z):a=mkS z:=by
  obtain ⟨⟨l⟩⟩:=a
  cases h; rfl
section
variable {X:Cx}
end
end DL
end
section
namespace DL
open L2
theorem maxL_ge : ∀ (r:List Int) (m:Int),m≤maxL m r∧∀ i∈r,i≤maxL m r
  | [],m=>⟨Int.le_refl _,by simp⟩
  | i::r,m=>by
    have ih:=maxL_ge r (if i > m then i else m)
    unfold maxL
    refine ⟨Int.le_trans ?_ ih.1,fun j hj=>?_⟩
    · split <;> omega
    · rcases List.mem_cons.mp hj with rfl | hj
      · exact Int.le_trans (by split <;> omega) ih.1
      · exact ih.2 j hj
theorem maxL_mem : ∀ (r:List Int) (m:Int),maxL m r∈m::r
  | [],m=>by simp [maxL]
  | i::r,m=>by
    have ih:=maxL_mem r (if i > m then i else m)
    unfold maxL
    rcases List.mem_cons.mp ih with e | e
    · rw [e]
      split
      · exact List.mem_cons_of_mem _ List.mem_cons_self
      · exact List.mem_cons_self
    · exact List.mem_cons_of_mem _ (List.mem_cons_of_mem _ e)
theorem intsOf_map (is:List Int):intsOf (is.map D.int)=some is:=by
  induction is with
  | nil=>rfl
  | cons x r ih=>show (intsOf (r.map D.int)).map (x::·)=_; rw [ih]; rfl
theorem maxLD_of (is:List Int)(M:Int)(hm:M∈is)(hM : ∀ i∈is,i≤M):maxLD (.lst (is.map D.int))=some (.int M):=by
  show (intsOf (is.map D.int)).bind _=_
  rw [intsOf_map]
  cases is with
  | nil=>cases hm
  | cons i r =>
    have h1:=maxL_mem r i
    have h2:=maxL_ge r i
    have h3:=hM _ h1
    have h4:M≤maxL i r:=by
      rcases List.mem_cons.mp hm with rfl | hm
      · exact h2.1
      · exact h2.2 M hm
    show some (D.int (maxL i r))=_
    rw [Int.le_antisymm h3 h4]
end DL
namespace DL
open L2
noncomputable def rInts3 (lo st:Int)(n:Nat):List D:=(List.range n).map fun k=>D.int (lo+st * (k:Nat))
noncomputable def rng3:List D→Option (List D)
  | [.int lo,.int hi,.int st]=>if (-1000000000<lo∧lo<1000000000)∧(-1000000000<hi∧hi<1000000000)∧0<st∧st<1000000000 then some (rInts3 lo st ((hi - lo+st - 1) / st).toNat) else none
  | _=>none
theorem ev_rng3 (lo hi st:Int):rng3 [.int lo,.int hi,.int st]=if (-1000000000<lo∧lo<1000000000)∧(-1000000000<hi∧hi<1000000000)∧0<st∧st<1000000000 then some (rInts3 lo st ((hi - lo+st - 1) / st).toNat) else none:=rfl
end DL
end
section
namespace DL
open PySem PySem.Spec PyProof.Rows L2
section
variable {X:Cx}{c:Ct}{e:Expr}{f:FE}{pos:Pos}
theorem call_maxL (hc:X.calm=true):CallR X (.builtin "max") (fun xs H Q=>∃ (a:Addr) (i:Int) (ns:List Int),xs=[.ref a]∧SqL X.K H a ((i::ns).map V.int)∧Q (.int (maxL i ns)) H):=by
  intro pins s σ H xs us Q I r h
  obtain ⟨a,i,ns,rfl,hS,q⟩:=h
  obtain ⟨u,rfl,ru⟩:=vals1 r
  cases ru
  obtain ⟨its,rv,p,hz⟩:=I.list hS
  have hi:=vals_ints rv
  obtain ⟨ys,hy⟩:=hi.allInts.items
  have hl:s.heap.IsList a (intItems ys):=hy ▸ p.isList
  have e1:(i::ns)=ys.toList.map (·.1):=by
    rw [← nums_intItems, ← hy]
    exact hi.numsOf.symm
  have hsz : 0<ys.size:=by
    have:=congrArg List.length e1
    simp at this; omega
  refine max_intList (I.ok.hd hc) hl hsz fun v h' tk hv hk=>?_
  obtain ⟨t,rfl⟩:=intItems_at hv
  obtain ⟨h1,h2⟩:=argBest_gt (numAt ys) (ys.size - 1)
  generalize argBest (fun i j=>decide (numAt ys i > numAt ys j)) (ys.size - 1)=k at h1 h2
  have hm:numAt ys k=maxL i ns:=by
    have m1:numAt ys k∈i::ns:=by rw [e1,numAt_eq]; exact getD_mem (by rw [List.length_map,Array.length_toList]; omega)
    have m2 : ∀ j∈i::ns,j≤numAt ys k:=fun j hj=>by
      rw [e1] at hj
      obtain ⟨q,hq,rfl⟩:=mem_getD hj
      rw [List.length_map,Array.length_toList] at hq
      rw [← numAt_eq]; exact h2 q (by omega)
    have m3:=maxL_ge ns i
    refine Int.le_antisymm ?_ (m2 _ (maxL_mem ns i))
    rcases List.mem_cons.mp m1 with e | e
    · rw [e]; exact m3.1
    · exact m3.2 _ e
  exact ⟨.int (maxL i ns),H,I.kept hk,⟨t,by rw [hm]⟩,q⟩
theorem snd_maxL {T:Tx}(A:Addr→Prop)(H0 H:Hp)(x:D)(v:V)(d:D)(Q:VK)(_:Nw A H)(rx:kR T A H0 H x v)(e:maxLD x=some d)(k : ∀ w H',Same H H'→kD T A H H' d w→Q w H') : ∃ (a:Addr) (i:Int) (ns:List Int),[v]=[.ref a]∧SqL T.K H a ((i::ns).map V.int)∧Q (.int (maxL i ns)) H:=by
  unfold maxLD at e
  split at e
  · next ds =>
    cases e1:intsOf ds with
    | none=>rw [e1] at e; cases e
    | some is =>
      rw [e1] at e
      dsimp only [Option.bind_some] at e
      split at e
      · cases e
      · next i ns =>
        cases e
        obtain ⟨a,xs,rfl,hS,hr⟩:=RepR.lst_ rx
        cases intsOf_rep e1 hr
        exact ⟨a,i,ns,rfl,hS,k _ _ (Same.refl H) (.int _)⟩
  · cases e
theorem pd_max {p:Pos}(hg:Gl X "max")(hm:X.mg "max"=none)(hc:X.calm=true)(ha:PR X c e f)(he:isStar e=false:=by rfl):PD X c (.Call (.Name "max" p) [e] [] pos) (fp1 maxLD f):=pd_b1 (call_maxL hc) snd_maxL hg hm boot_max ha he
end
end DL
end
section
namespace L2
open PySem PySem.Spec PyProof.Rows
section
variable {κ:Type}[DecidableEq κ]
end
section
variable {P:Program}{w:World}{H:Hp}{h:Heap}{a:Addr}
end
section
variable {X:Cx}{pins:List (Addr × Obj)}{σ:St}{H:Hp}{s:Shared}{a:Addr}{y v:V}{u r:Value}{o:Option V}{A:Around}{E:Value→Shared→Prop}
end
section
variable {X:Cx}{pins:List (Addr × Obj)}{σ:St}{H:Hp}{s:Shared}{a:Addr}{kvs:List (Key × V)}{k:Key}{u:Value}{A:Around}{E:Value→Shared→Prop}
end
section
variable {X:Cx}{o i e value:Expr}{pos pos' tpos:Pos}{td ty tv:TE}
end
section
variable {X:Cx}{pos:Pos}
end
section
variable {X:Cx}{pins:List (Addr × Obj)}{σ:St}{H:Hp}{s:Shared}{a:Addr}{y d:V}{u r:Value}{o:Option V}{A:Around}{E:Value→Shared→Prop}
end
section
variable {X:Cx}{o e f:Expr}{apos cpos:Pos}{td ty tx:TE}
end
end L2
end
section
namespace DL
open PySem PySem.Spec PyProof.Rows L2
section
variable {X:Cx}{c:Ct}{a b e o:Expr}{f g h:FE}{pos:Pos}
end
end DL
end
section
namespace L2
open PySem PySem.Spec PyProof.Rows
end L2
namespace DL
open PySem PySem.Spec PyProof.Rows L2
section
variable {T:Tx}{ft:FT}{fe:FE}{σ:L2.St}{H:Hp}{Q:VK}{tg:FG}{g:TG}
end
section
variable {X:Cx}{c:Ct}{pos:Pos}{elt tg a b e3:Expr}{ifs:List Expr}{scope sc:Scope}{N N':List Str}{nt:Nat}{cap:List Nat}{fe:FE}{ft:FT}{tgf:FG}{gt:TG}
end
end DL
end
section
namespace L2
open PySem PySem.Spec PyProof.Rows
section
variable {pr:Program}{wd:World}{Ar:Around}{Rs:Result→Shared→Prop}{it:Addr}{fs ws:List Addr}{m:Nat}{Pv:Nat→Value→Prop}{Sv:Nat→Heap→Prop}{kw:List (Str × Value)}
end
section
variable {pr:Program}{wd:World}{Ar:Around}{Er:Value→Shared→Prop}{sh:Shared}
end
section
variable {X:Cx}{a b:Expr}{ta tb:TE}{p pos kp:Pos}
end
end L2
namespace DL
open PySem PySem.Spec PyProof.Rows L2
section
variable {X:Cx}{c:Ct}{a b:Expr}{f g:FE}{p pos kp:Pos}
end
end DL
end
section
namespace DL
open L2
end DL
end
section
namespace L2
open PySem PySem.Spec PyProof.Rows
section
variable {X:Cx}
end
end L2
namespace DL
open PySem PySem.Spec PyProof.Rows L2
section
variable {X:Cx}{c:Ct}{xq:XQ}{e:Expr}{f:FE}{pos:Pos}
end
end DL
end
section
namespace L2
open PySem PySem.Spec PyProof.Rows DL
noncomputable def compCxC (X:Cx)(scope:Scope)(x0:Str)(cl:List (Str × Addr))(N':List Str)(C:Addr)(s2:Shared)(H2:Hp)(fp:List Addr):Cx:={ compCx X scope cl N' C s2 H2 fp with fn:=fun y=>y == x0 }
structure CompChkC (sc scope:Scope)(N N':List Str)(nt:Nat)(cap:List Nat)(x0:Str):Prop where
  kind:scope.kind=.function
  one:(scope.names.filter fun y=>y.2 == .cell)=[(x0,.cell)]
  lookc:scope.names.lookup x0=some .cell
  names : ∀ y∈scope.names,y.2=.local→scope.names.lookup y.1=some .local
  fr : ∀ y∈scope.names,y.2=.free→sc.names.lookup y.1=some .cell∨sc.names.lookup y.1=some .free
  len:N'.length=nt+cap.length
  cap : ∀ j∈List.range cap.length, ∀ x∈N'[nt+j]?, ∀ i∈cap[j]?,N[i]?=some x∧scope.names.lookup x=some .free
theorem of_relabelC {env:Env} : ∀ {names:List (Str × NameKind)} {x:Str} {k0:NameKind},
    (names.map fun (n,k)=>if (k == NameKind.free && env.scope.kind == .function && env.kindOf n == some .cell) then (n,NameKind.cell) else (n,k)).lookup x=some k0→(k0=.cell∨k0=.free)→names.lookup x=some .free∨names.lookup x=some .cell
  | [],_,_,h,_=>by simp at h
  | (n,k)::r,x,k0,h,hk=>by
    have ih:=@of_relabelC env r x k0
    rw [List.map_cons] at h
    cases hx:x == n with
    | true =>
      rw [List.lookup_cons,hx]
      dsimp only at h
      by_cases c:(k == NameKind.free && env.scope.kind == .function && env.kindOf n == some .cell)=true
      · have:k=.free:=by
          have:=(Bool.and_eq_true_iff.mp (Bool.and_eq_true_iff.mp c).1).1
          simpa using this
        rw [this]; exact .inl rfl
      · rw [if_neg c,List.lookup_cons,hx] at h
        cases h
        rcases hk with rfl | rfl
        · exact .inr rfl
        · exact .inl rfl
    | false =>
      rw [List.lookup_cons,hx]
      dsimp only at h
      by_cases c:(k == NameKind.free && env.scope.kind == .function && env.kindOf n == some .cell)=true
      · rw [if_pos c,List.lookup_cons,hx] at h; exact ih h hk
      · rw [if_neg c,List.lookup_cons,hx] at h; exact ih h hk
theorem cells_none : ∀ (l:List (Str × NameKind)) (a:Addr) (acc:List (Str × Addr)) (h:Heap),(l.filter fun y=>y.2 == .cell)=[]→cellsFrom a l acc=acc∧pushCells h l=h
  | [],a,acc,h,_=>⟨rfl,rfl⟩
  | (n,k)::r,a,acc,h,e=>by
    cases hk:(k == NameKind.cell) with
    | true=>simp [hk] at e
    | false =>
      have e':(r.filter fun y=>y.2 == .cell)=[]:=by simpa [hk] using e
      unfold cellsFrom pushCells
      simp only [hk,Bool.false_eq_true,if_false]
      exact cells_none r a acc h e'
theorem cells_one : ∀ (l:List (Str × NameKind)) (x0:Str) (a:Addr) (acc:List (Str × Addr)) (h:Heap),(l.filter fun y=>y.2 == .cell)=[(x0,.cell)]→cellsFrom a l acc=(x0,a)::acc∧pushCells h l=h.push { cls:=.type "cell",data:=.cell none }
  | [],_,a,acc,h,e=>by simp at e
  | (n,k)::r,x0,a,acc,h,e=>by
    cases hk:(k == NameKind.cell) with
    | true =>
      have e':n=x0∧(r.filter fun y=>y.2 == .cell)=[]:=by
        rw [List.filter_cons,if_pos (by simpa using hk)] at e
        injection e with e1 e2
        exact ⟨(Prod.mk.inj e1).1,e2⟩
      unfold cellsFrom pushCells
      simp only [hk,if_true]
      rw [e'.1]
      exact cells_none r _ _ _ e'.2
    | false =>
      have e':(r.filter fun y=>y.2 == .cell)=[(x0,.cell)]:=by simpa [hk] using e
      unfold cellsFrom pushCells
      simp only [hk,Bool.false_eq_true,if_false]
      exact cells_one r x0 a acc h e'
theorem newFunctionEnv_one {M:Model}{A:Around}{E:Value→Shared→Prop}{s:Shared}{scope:Scope}{globals:Addr}{cl:List (Str × Addr)}{qual:Str}{env:Env}{x0:Str}{Q:Env→Shared→Prop}
    (hc:(scope.names.filter fun y=>y.2 == .cell)=[(x0,.cell)])
    (hQ : ∀ h':Heap,h'.Ns s.heap.objs.size (fun _=>none)→h'.IsCell (s.heap.objs.size+1) none→(∀ b o,s.heap.get? b=some o→h'.get? b=some o) →
      Q (newEnv scope s.heap.objs.size globals ((x0,s.heap.objs.size+1)::cl) qual none .none (some env) builtinsNs) { s with heap:=h' }) :
    wpAny M A (newFunctionEnv scope globals cl [] qual none .none (some env)) Q E s:=by
  simp only [newFunctionEnv,Option.isSome_some,if_true]
  refine wpAny_bind (wpAny_alloc ?_)
  refine wpAny_bind (wpAny_layCells _ (fun name kind cells=>by cases hkc:kind == NameKind.cell <;> simp [hkc]) _ _ _ _ ?_)
  obtain ⟨e1,e2⟩:=cells_one scope.names x0 (s.heap.push { cls:=.type "dict",data:=.dict #[] }).objs.size cl (s.heap.push { cls:=.type "dict",data:=.dict #[] }) hc
  dsimp only
  rw [e1,e2,Heap.size_push]
  rw [List.forIn_nil]
  refine wpAny_bind (wpAny_pure (wpAny_pure ?_))
  refine hQ _ ((Heap.Ns.new s.heap (.type "dict")).keeps fun b o e=>Heap.get?_push_of_some _ e) ⟨{ cls:=.type "cell",data:=.cell none }, ?_,rfl⟩ fun b o e=>Heap.get?_push_of_some _ (Heap.get?_push_of_some _ e)
  rw [show s.heap.objs.size+1=(s.heap.push { cls:=.type "dict",data:=.dict #[] }).objs.size from (Heap.size_push ..).symm]
  exact Heap.get?_push_size _ rfl
section
variable {X:Cx}{elt iter tg:Expr}{ifs:List Expr}{scope:Scope}{pos:Pos}{wi:TI}{g:TG}{tt:TT}{te:TE}{sc:Scope}{N N':List Str}{nt:Nat}{cap:List Nat}{x0:Str}
theorem comp_okC {pins:List (Addr × Obj)}{σ:St}{H2:Hp}{s2:Shared}{fp:List Addr}{h1:Heap}{C D:Addr}{o:Obj}{tk:Nat}(hsc:X.env.scope=sc)(hN:X.N=N)(chk:CompChkC sc scope N N' nt cap x0)
    (I2:Inv X pins σ H2 s2) (f2 : ∀ b∈fp,FpOk X pins H2 b) (hD:s2.heap.objs.size=D) (hC:s2.heap.objs.size<C) (hns:h1.Ns C fun _=>none) (old : ∀ b o,s2.heap.get? b=some o→h1.get? b=some o)
    (hfp : ∀ b∈fp,b<s2.heap.objs.size) (ho:h1.get? D=some o) (hod : ∀ v,o.data≠.cell v) {c0:Addr} (hc0:h1.IsCell c0 none) (hCc:C<c0) :
    Inv (compCxC X scope x0 ((x0,c0)::closeL X.env.cells scope.names []) N' C s2 H2 fp) [(D,o)] (capσ nt cap σ) H2 { s2 with heap:=h1,toks:=tk }:=by
  have hcells : ∀ y∈scope.names,y.2=.free→∃ c,X.env.cells.lookup y.1=some c:=fun y hy hk=>I2.ok.has y.1 (by show X.env.scope.names.lookup y.1=_∨X.env.scope.names.lookup y.1=_; rw [hsc]; exact chk.fr y hy hk)
  have hsub : ∀ x c,(closeL X.env.cells scope.names []).lookup x=some c→X.env.cells.lookup x=some c:=closeL_sub X.env.cells scope.names [] hcells (fun x c e=>by simp at e)
  have hhas : ∀ x,scope.names.lookup x=some .free→∃ c,(closeL X.env.cells scope.names []).lookup x=some c:=fun x e=>closeL_has X.env.cells scope.names [] x (PySem.mem_of_lookup e)
  have nst : ∀ b,s2.heap.objs.size≤b→b ∉ frs X.stack:=fun b hb hm=>by
    rcases List.mem_cons.mp (I2.stkSub b hm) with e | e
    · rw [e] at hb; exact absurd (Nat.lt_of_lt_of_le I2.lt hb) (Nat.lt_irrefl _)
    · exact I2.nofs hb e
  have nC : ∀ x c,X.env.cells.lookup x=some c→c<s2.heap.objs.size:=fun x c e=>by
    obtain ⟨v,q⟩:=I2.cell x c e
    exact q.lt
  have hsp : ∀ x c,((x0,c0)::closeL X.env.cells scope.names []).lookup x=some c→(x=x0∧c=c0)∨X.env.cells.lookup x=some c:=fun x c e=>by
    cases hx:x == x0 with
    | true =>
      rw [List.lookup_cons,hx] at e
      cases e
      exact .inl ⟨eq_of_beq hx,rfl⟩
    | false =>
      rw [List.lookup_cons,hx] at e
      exact .inr (hsub x c e)
  have hbig:s2.heap.objs.size<c0:=Nat.lt_trans hC hCc
  have nC0 : ∀ x,X.env.cells.lookup x≠some c0:=fun x e=>Nat.lt_irrefl _ (Nat.lt_trans (nC x c0 e) hbig)
  have hcons : ∀ x c,(closeL X.env.cells scope.names []).lookup x=some c→∃ c',((x0,c0)::closeL X.env.cells scope.names []).lookup x=some c':=fun x c e=>by
    cases hx:x == x0 with
    | true=>exact ⟨c0,by rw [List.lookup_cons,hx]⟩
    | false=>exact ⟨c,by rw [List.lookup_cons,hx]; exact e⟩
  have hinj : ∀ x y c,((x0,c0)::closeL X.env.cells scope.names []).lookup x=some c→((x0,c0)::closeL X.env.cells scope.names []).lookup y=some c→x=y:=fun x y c e1 e2=>by
    rcases hsp x c e1 with ⟨rfl,rfl⟩ | f1
    · rcases hsp y _ e2 with ⟨rfl,_⟩ | f2
      · rfl
      · exact absurd f2 (nC0 y)
    · rcases hsp y c e2 with ⟨rfl,rfl⟩ | f2
      · exact absurd f1 (nC0 x)
      · exact I2.ok.inj x y c f1 f2
  refine ⟨⟨I2.ok.mod,chk.kind,I2.ok.glob,I2.ok.blt,Nat.le_of_lt hC,hinj,fun x hk=>?_,fun x c z e=>?_,fun hc=>I2.ok.hd hc,I2.ok.frames,.inl rfl,
    fun b hb=>⟨Nat.ne_of_lt (Nat.lt_trans (hfp b hb) hC),fun x c e=>(by
      rcases hsp x c e with ⟨_,rfl⟩ | f
      · exact fun z=>Nat.lt_irrefl _ (Nat.lt_trans hbig (z ▸ hfp b hb))
      · exact (f2 b hb).2.2.2.2.1 x c f)⟩,I2.bs,Nat.le_trans I2.ok.bsz I2.sz,fun b ob e hb=>?_,fun b hb hm=>?_,I2.stack,I2.stkFree⟩,
    rfl,I2.bare,Un.kept old,⟨_,hns,fun j x v e1 e2 e3=>?_⟩,fun x c e=>?_,I2.hok.fresh (Nat.le_of_lt hC),fun x c e=>(by
      rcases hsp x c e with ⟨_,rfl⟩ | f
      · exact I2.hok.fresh (Nat.le_of_lt hbig)
      · exact I2.freeC x c f),fun p hp=>?_,I2.hok.kept old, ?_⟩
  ·
    have hk':(relabel scope X.env).names.lookup x=some .cell∨(relabel scope X.env).names.lookup x=some .free:=hk
    have ff:scope.names.lookup x=some .free∨scope.names.lookup x=some .cell:=by
      rcases hk' with e | e
      · exact of_relabelC e (.inl rfl)
      · exact of_relabelC e (.inr rfl)
    rcases ff with e | e
    · obtain ⟨c,q⟩:=hhas x e
      exact hcons x c q
    · have:(x,NameKind.cell)∈scope.names.filter fun y=>y.2 == .cell:=List.mem_filter.mpr ⟨PySem.mem_of_lookup e,rfl⟩
      rw [chk.one,List.mem_singleton] at this
      cases this
      exact ⟨c0,List.lookup_cons_self⟩
  ·
    rcases hsp x c e with ⟨_,rfl⟩ | f
    · exact Nat.le_of_lt hbig
    · have zx:x=x0:=eq_of_beq z
      subst zx
      have e':((x,c0)::closeL X.env.cells scope.names []).lookup x=some c:=e
      rw [List.lookup_cons_self] at e'
      cases e'
      exact absurd f (nC0 x)
  ·
    rcases (f2 b hb).2.2.2.1 with z | z
    · exact I2.ok.noex b ob e z
    · exact absurd (Nat.lt_of_lt_of_le (Heap.lt_size e) (Nat.le_trans I2.ok.bsz z)) (Nat.lt_irrefl _)
  ·
    rcases List.mem_cons.mp (I2.stkSub b hm) with e | e
    · exact (f2 b hb).2.1 e
    · exact (f2 b hb).2.2.1 e
  ·
    have hj:nt≤j:=by
      apply Nat.le_of_not_lt
      intro hj
      unfold capσ at e2
      rw [List.getElem?_append_left (by simpa using hj),List.getElem?_replicate,if_pos hj] at e2
      cases e2
    obtain ⟨l,rfl⟩ : ∃ l,j=nt+l:=⟨j - nt,by omega⟩
    unfold capσ at e2
    rw [List.getElem?_append_right (by simp),List.length_replicate,Nat.add_sub_cancel_left,List.getElem?_map] at e2
    cases ec:cap[l]? with
    | none=>rw [ec] at e2; cases e2
    | some i =>
      rw [ec,Option.map_some] at e2
      have hl:l<cap.length:=(List.getElem?_eq_some_iff.mp ec).1
      have e1':N'[nt+l]?=some x:=e1
      obtain ⟨h3,h4⟩:=chk.cap l (List.mem_range.mpr hl) x (by rw [e1']; rfl) i (by rw [ec]; rfl)
      have e2' : σ[i]?=some (some v):=by
        cases es : σ[i]? with
        | none=>rw [es] at e2; cases e2
        | some ov =>
          rw [es] at e2
          cases ov with
          | none=>cases e2
          | some v'=>cases e2; rfl
      obtain ⟨m,hm,hl'⟩:=I2.loc
      have hkk:X.env.scope.names.lookup x=some .cell∨X.env.scope.names.lookup x=some .free:=by rw [hsc]; exact chk.fr (x,.free) (PySem.mem_of_lookup h4) rfl
      obtain ⟨u,ru,lk⟩:=hl' i x v (by rw [hN]; exact h3) e2' (.inr hkk)
      refine ⟨u,ru,.inr ⟨relabel_free h4, ?_⟩⟩
      rcases lk with ⟨hk,_⟩ | ⟨_,c,hc,hcell⟩
      · have hk':X.env.scope.names.lookup x=some .local:=hk
        rcases hkk with z | z <;> (rw [hk'] at z; cases z)
      · obtain ⟨c',e'⟩:=hhas x h4
        have:=hsub x c' e'
        rw [hc] at this; cases this
        obtain ⟨oc,h5,h6⟩:=hcell
        have hx0:(x == x0)=false:=by
          cases hx:x == x0 with
          | false=>rfl
          | true =>
            rw [eq_of_beq hx,chk.lookc] at h4
            cases h4
        exact ⟨c,(by show ((x0,c0)::closeL X.env.cells scope.names []).lookup x=_; rw [List.lookup_cons,hx0]; exact e'),oc,old c oc h5,h6⟩
  ·
    rcases hsp x c e with ⟨_,rfl⟩ | f
    · exact ⟨none,hc0⟩
    · obtain ⟨v,oc,h5,h6⟩:=I2.cell x c f
      exact ⟨v,oc,old c oc h5,h6⟩
  ·
    have hp':p=(D,o):=by simpa [compCxC,compCx] using hp
    subst hp'
    refine ⟨ho,I2.hok.fresh (Nat.le_of_eq hD), ?_,nst D (Nat.le_of_eq hD),hod⟩
    show D≠C
    exact Nat.ne_of_lt (by rw [← hD]; exact hC)
  · show (capσ nt cap σ).length=N'.length
    rw [chk.len]
    simp [capσ]
theorem comp_coreC (hsc:X.env.scope=sc)(hN:X.N=N)(chk:CompChkC sc scope N N' nt cap x0)(hc:X.calm=true)(hi:PI X tg iter wi)
    (hg : ∀ cl C s2 H2 fp,PG (compCxC X scope x0 cl N' C s2 H2 fp) tg g) (hge:GExt nt g) (ht : ∀ cl C s2 H2 fp,PIfs (compCxC X scope x0 cl N' C s2 H2 fp) ifs tt) (he : ∀ cl C s2 H2 fp,PE (compCxC X scope x0 cl N' C s2 H2 fp) elt te)
    (hs : ∀ x,foldedSetIterable iter X.env x=pure x) {use:Option (Value→Sem Unit)} {QQ:Value→Shared→Prop} {pins:List (Addr × Obj)} {s:Shared} {σ:St} {H:Hp} {p0:Pos} (I:Inv X pins σ H s) (Q:VK)
    (fin : ∀ (s4:Shared) (D C:Addr) (H4:Hp),C≠D→H4 C=none→(∃ m,s4.heap.Ns C m)→(∀ h',Heap.SameBut C s4.heap h'→Inv X pins σ H4 { s4 with heap:=h' }) →
      ((C∈X.ex∨X.s₀.heap.objs.size≤C)∧C≠X.env.locals∧(∀ x c,X.env.cells.lookup x=some c→c≠C)∧∀ p∈X.pn++pins,p.1≠C)→Q (.ref D) H4→compPost (model X.prog X.w) X.A X.xe use QQ (.ref D) C (.ok .next) s4)
    (h:tComp nt cap wi g tt te σ H Q):wpAny (model X.prog X.w) X.A (comprehension (.ListComp elt [⟨tg,iter,ifs,0⟩] scope pos) scope X.env p0 (newList []) false (eval iter X.env) use) QQ X.xe s:=by
  have hcells : ∀ y∈scope.names,y.2=.free→∃ c,X.env.cells.lookup y.1=some c:=fun y hy hk=>I.ok.has y.1 (by show X.env.scope.names.lookup y.1=_∨X.env.scope.names.lookup y.1=_; rw [hsc]; exact chk.fr y hy hk)
  refine wpAny_comprehension_free (use:=use) rfl hs (closureFor_eq hcells) chk.kind chk.names ?_
  refine thn (hi pins s σ H _ I h) fun v s1 h1=>thn h1 fun itv s2 h2=>?_
  obtain ⟨it,fp,tn,J,H2,e,I2,T,st2,f2,W,⟨m0,w0⟩,turn⟩:=h2
  subst e
  refine wpAny_newObj_type (newFunctionEnv_one chk.one fun h₁ hns hcell old₁=>?_)
  dsimp only at hns hcell old₁ ⊢
  generalize hG:s2.heap.push { cls:=.type "list",dict:=none,data:=.seq ([]:List Value).toArray }=G at hns hcell old₁ ⊢
  have hCs:G.objs.size=s2.heap.objs.size+1:=by rw [← hG,Heap.size_push]
  have hDC:s2.heap.objs.size≠G.objs.size:=by rw [hCs]; exact Nat.ne_of_lt (Nat.lt_succ_self _)
  have old : ∀ b o,s2.heap.get? b=some o→h₁.get? b=some o:=fun b o e=>old₁ b o (hG ▸ Heap.get?_push_of_some _ e)
  have hacc:h₁.get? s2.heap.objs.size=some { cls:=.type "list",dict:=none,data:=.seq ([]:List Value).toArray }:=old₁ _ _ (hG ▸ Heap.get?_push_size _ rfl)
  have hfp : ∀ b∈fp,b<s2.heap.objs.size:=fun b hb=>by
    obtain ⟨o,e,_⟩:=T.obj 0 _ st2 b hb
    exact Heap.lt_size e
  generalize hD:s2.heap.objs.size=D at hacc hDC ⊢
  generalize hC:G.objs.size=C at hns hcell hDC ⊢
  have hDC':s2.heap.objs.size<C:=by rw [← hC,hCs]; exact Nat.lt_succ_self _
  let cl:=(x0,C+1)::closeL X.env.cells scope.names []
  let X':=compCxC X scope x0 cl N' C s2 H2 fp
  let ob:List Value→Nat→Obj:=fun its n=>{ cls:=.type "list",dict:=none,data:=.seq its.toArray n }
  have I0:Inv X' [(D,ob [] 0)] (capσ nt cap σ) H2 { s2 with heap:=h₁ }:=comp_okC hsc hN chk I2 f2 hD hDC' hns old hfp hacc (fun v z=>nomatch z) hcell (Nat.lt_succ_self C)
  have fpD : ∀ b∈fp,b≠D:=fun b hb z=>by have:=hfp b hb; rw [z,hD] at this; exact Nat.lt_irrefl _ this
  have stat : ∀ {H':Hp} {its:List Value} {n:Nat},(∀ b∈fp,H' b=none)→∀ b∈fp,FpOk X' [(D,ob its n)] H' b:=fun {H' its n} hn b hb=>by
    obtain ⟨_,f1,f2',f3,f4,f5⟩:=f2 b hb
    refine ⟨hn b hb,Nat.ne_of_lt (Nat.lt_trans (hfp b hb) hDC'),I0.ok.exfs b hb,.inl hb,(I0.ok.exf b hb).2,fun p hp=>?_⟩
    have hp':p=(D,ob its n):=by simpa [X',compCxC,compCx] using hp
    subst hp'
    exact Ne.symm (fpD b hb)
  have st0:tn 0 h₁:=T.keep 0 _ _ st2 fun b hb o e=>old b o e
  have loop:codeAny (model X.prog X.w) X.A (.compLoop (.ListComp elt [⟨tg,iter,ifs,0⟩] scope pos) 0 (.ref it) (.ref D) (compEnvC scope cl C X.env))
      (compPost (model X.prog X.w) X.A X.xe use QQ (.ref D) C) { s2 with heap:=h₁ }:=by
    refine compLoop_any (fun k s'=>∃ i ys its n H',Inv X' [(D,ob its n)] (capσ nt cap σ) H' s'∧tn i s'.heap∧(∀ b∈fp,H' b=none)∧Vals ys its∧W i k ys H') ?_ m0 ⟨0,[],[],0,H2,I0,st0,fun b hb=>(f2 b hb).1,.nil,w0⟩
    rintro k s3 ⟨i,ys,its,n,H3,I3,st3,fr3,rv3,w3⟩
    have pD:=I3.pin (D,ob its n) (by simp)
    rcases turn i k ys H3 w3 with ⟨stop,hz,qn⟩ | ⟨go,step⟩
    · refine wpAny_mono (T.done X' rfl rfl rfl hc i _ s3 _ H3 (fun _ _=>False) I3 (stat fr3) st3 stop) (fun r s4 zz_=>?_) fun _ _ z=>False.elim z
      obtain ⟨hr,I4⟩:=zz_
      subst hr
      have pD4:=I4.pin (D,ob its n) (by simp)
      obtain ⟨mC,hnC,_⟩:=I4.loc
      have J : ∀ h',Heap.SameBut C s4.heap h'→Inv X pins σ (upd H3 D (.lst ys)) { s4 with heap:=h' }:=fun h' sb=>by
        have hfree:H3 D=none:=pD4.2.1
        have neC : ∀ b u,H3 b=some u→b≠C:=fun b u e z=>by
          have:H3 C=none:=I4.free
          rw [z,this] at e; cases e
        have neD : ∀ b u,H3 b=some u→b≠D:=fun b u e z=>by rw [z,hfree] at e; cases e
        have hltC : ∀ b,b<s2.heap.objs.size→b≠C:=fun b hb=>by omega
        have hltD : ∀ b,b<s2.heap.objs.size→b≠D:=fun b hb=>by omega
        have hgD:h'.get? D=some (ob its n):=sb.extBut D _ hDC pD4.1
        have un:Un (frs X.stack) fp H2 (upd H3 D (.lst ys)) s2.heap h':=by
          have bs:Un (frs X.stack) fp H2 H3 s2.heap s4.heap:=I4.base
          refine ⟨fun b o e n hb hx=>?_,fun b o e n hb hx=>?_,fun b o e n hx=>?_,fun b o e hx=>?_,fun b xs e=>?_,fun b o u e=>?_,fun b ps e=>?_⟩
          · exact sb.extBut b o (hltC b (Heap.lt_size e)) (bs.keep b o e n hb hx)
          · obtain ⟨sl,q⟩:=bs.slot b o e n hb hx
            exact ⟨sl,sb.extBut b _ (hltC b (Heap.lt_size e)) q⟩
          · rw [upd_ne (hltD b (Heap.lt_size e))]; exact bs.free b o e n hx
          · obtain ⟨o',q⟩:=bs.there b o e hx
            exact ⟨o',sb.extBut b _ (hltC b (Heap.lt_size e)) q⟩
          · have q:=bs.tups b xs e
            rw [upd_ne (neD b _ q)]; exact q
          · have q:=bs.frzs b o u e
            rw [upd_ne (neD b _ q)]; exact q
          · obtain ⟨more,q⟩:=bs.tbls b ps e
            exact ⟨more,by rw [upd_ne (neD b _ q)]; exact q⟩
        have hok:HOk X.prog X.w (upd H3 D (.lst ys)) h':=fun b u e=>by
          by_cases hb:b=D
          · subst hb
            rw [upd_same] at e; cases e
            exact ⟨hz,its,n,rv3,hgD⟩
          · rw [upd_ne hb] at e
            refine (I4.hok b u e).stay (fun c v hcc q=>sb.extBut c v ?_ q) (fun c q=>by rw [upd_ne (neD c _ q)]; exact q) fun c xs q=>by rw [upd_ne (neD c _ q)]; exact q
            rcases hcc with rfl | hcc
            · exact neC _ _ e
            · exact neC _ _ hcc
        have hch : ∀ b∈fp,(b∈X.ex∨X.s₀.heap.objs.size≤b)∧b≠X.env.locals∧(∀ x c,X.env.cells.lookup x=some c→c≠b)∧∀ p∈X.pn++pins,p.1≠b:=fun b hb=>by
          obtain ⟨_,f1,_,f3,f4,f5⟩:=f2 b hb
          exact ⟨f3,f1,f4,f5⟩
        have os4:s4.os=s2.os:=I4.os
        have I5:Inv X pins σ (upd H3 D (.lst ys)) { s4 with heap:=h' }:=I2.call' (s':={ s4 with heap:=h' }) os4 un hok I4.bare hch
        exact I5
      have hfree:H3 D=none:=pD4.2.1
      have hfC:H3 C=none:=I4.free
      exact fin s4 D C _ (Ne.symm hDC) (by rw [upd_ne (Ne.symm hDC)]; exact hfC) ⟨mC,hnC⟩ J
        ⟨.inr (Nat.le_trans I2.sz (Nat.le_of_lt hDC')),fun z=>Nat.lt_irrefl _ (Nat.lt_trans hDC' (z ▸ I2.lt)),fun x c e z=>(by
          obtain ⟨v',oc,h5,h6⟩:=I2.cell x c e
          exact Nat.lt_irrefl _ (Nat.lt_trans hDC' (z ▸ Heap.lt_size h5))),fun p hp z=>Nat.lt_irrefl _ (Nat.lt_trans hDC' (z ▸ Heap.lt_size (I2.pin p hp).1))⟩ (qn D hfree)
    · refine wpAny_mono (T.item X' rfl rfl rfl hc i _ s3 _ H3 (fun _ _=>False) I3 (stat fr3) st3 go) (fun r s4 zz_=>?_) fun _ _ z=>False.elim z
      obtain ⟨u,hr,h4⟩:=zz_
      subst hr
      refine wpAny_mono h4 (fun _ s5 zz_=>?_) fun _ _ z=>False.elim z
      obtain ⟨x,H5,I5,r5,y5,st5,fr5⟩:=zz_
      have I5':=I5.pinned (stat fr5) (T.obj _ _ st5)
      refine wpAny_mono (hg cl C s2 H2 fp _ s5 _ H5 x u _ I5' r5 (hge _ _ _ _ (step x H5 y5))) (fun _ s6 zz_=>?_) fun _ _ z=>False.elim z
      obtain ⟨σ6,H6,I6,⟨ext,exl⟩,q6⟩:=zz_
      refine wpAny_mono (ht cl C s2 H2 fp _ s6 σ6 H6 _ I6 q6) (fun b s7 zz_=>?_) fun _ _ z=>False.elim z
      obtain ⟨H7,I7,q7⟩:=zz_
      have back : ∀ {s':Shared} {H':Hp},Inv X' ([(D,ob its n)]++pinsAt fp s5.heap) σ6 H' s'→Inv X' [(D,ob its n)] (capσ nt cap σ) H' s'∧tn (i+1) s'.heap∧∀ b∈fp,H' b=none:=fun {s' H'} J=>by
        refine ⟨J.unpinned.weak (by rw [exl]) fun j w e=>?_,T.keep _ _ _ st5 fun b hb o e=>(J.pin (b,o) (List.mem_append_right _ (List.mem_append_right _ (mem_pinsAt hb e)))).1,fun b hb=>?_⟩
        · have hj:nt≤j:=by
            apply Nat.le_of_not_lt
            intro hj
            unfold capσ at e
            rw [List.getElem?_append_left (by simpa using hj),List.getElem?_replicate,if_pos hj] at e
            cases e
          rw [ext j hj]; exact e
        · obtain ⟨o,e,d⟩:=T.obj _ _ st5 b hb
          exact (J.pin (b,o) (List.mem_append_right _ (List.mem_append_right _ (mem_pinsAt hb e)))).2.1
      cases b with
      | false =>
        rw [if_neg Bool.false_ne_true] at q7 ⊢
        obtain ⟨m',hm,w7⟩:=q7
        obtain ⟨J,st7,fr7⟩:=back I7
        exact ⟨m',hm,i+1,ys,its,n,H7,J,st7,fr7,rv3,w7⟩
      | true =>
        rw [if_pos rfl] at q7 ⊢
        refine wpAny_mono (he cl C s2 H2 fp _ s7 σ6 H7 _ I7 q7) (fun y s8 zz_=>?_) fun _ _ z=>False.elim z
        obtain ⟨yv,H8,I8,r8,hz8,m',hm,w8⟩:=zz_
        obtain ⟨J,st8,fr8⟩:=back I8
        have pD8:=J.pin (D,ob its n) (by simp)
        have hsz:its.toArray.size≤sizeLine:=by
          have:=rv3.length
          rw [List.size_toArray]; omega
        refine wpAny_list_append_plain (l:=D) (items:=its.toArray) ⟨n,pD8.1⟩ (fun h9 pl sb9=>?_) hsz
        obtain ⟨n9,e9⟩:=pl
        refine ⟨m',hm,i+1,ys++[yv],its++[y],n9,H8, ?_,T.keep _ _ _ st8 fun b hb o e=>sb9.extBut b o (fpD b hb) e,fr8,rv3.append (.cons r8 .nil),w8⟩
        have J0:Inv X' [] (capσ nt cap σ) H8 s8:=J.pins_of fun p hp=>absurd hp (by simp)
        have cellsD : ∀ x c,X'.env.cells.lookup x=some c→c≠D:=fun x c e z=>by
          obtain ⟨v',oc,h5,h6⟩:=J.cell x c e
          rw [z,pD8.1] at h5; cases h5
          exact absurd h6 (fun z=>nomatch z)
        have J1:Inv X' [] (capσ nt cap σ) H8 { s8 with heap:=h9 }:=J0.turned (t':=s8.toks) (fun b o hb e=>sb9.extBut b o hb e) pD8.2.1 pD8.2.2.1 (.inr (Nat.le_of_eq hD)) cellsD (fun p hp=>absurd hp (by simp [X',compCxC,compCx]))
        refine J1.pins_of fun p hp=>?_
        have hp':p=(D,ob (its++[y]) n9):=by simpa using hp
        subst hp'
        refine ⟨?_,pD8.2.1,pD8.2.2.1,pD8.2.2.2.1,fun v z=>nomatch z⟩
        show h9.get? D=some (ob (its++[y]) n9)
        rw [e9]
        simp [ob]
  refine codeAny_compStart_list loop ?_
  exact T.self X.A 0 _ _ _ st0 loop
theorem pe_compC (hsc:X.env.scope=sc)(hN:X.N=N)(chk:CompChkC sc scope N N' nt cap x0)(hc:X.calm=true)(hi:PI X tg iter wi)
    (hg : ∀ cl C s2 H2 fp,PG (compCxC X scope x0 cl N' C s2 H2 fp) tg g) (hge:GExt nt g) (ht : ∀ cl C s2 H2 fp,PIfs (compCxC X scope x0 cl N' C s2 H2 fp) ifs tt) (he : ∀ cl C s2 H2 fp,PE (compCxC X scope x0 cl N' C s2 H2 fp) elt te)
    (hs : ∀ x,foldedSetIterable iter X.env x=pure x:=by intro _; rfl):PE X (.ListComp elt [⟨tg,iter,ifs,0⟩] scope pos) (tComp nt cap wi g tt te):=by
  intro pins s σ H Q I h
  rw [eval_ListComp]
  exact comp_coreC (use:=none) hsc hN chk hc hi hg hge ht he hs I Q (fun s4 D C H4 _ _ hn J _ q=>by
    obtain ⟨m,hm⟩:=hn
    exact ⟨m,hm,fun h' sb=>⟨.ref D,_,J h' sb,rfl,q⟩⟩) h
end
end L2
end
section
namespace DL
open PySem PySem.Spec PyProof.Rows L2
section
variable {X:Cx}{c:Ct}{pos:Pos}{a b:Expr}{x0:Str}{iter elt tg:Expr}{ifs:List Expr}{scope sc:Scope}{N N':List Str}{nt:Nat}{cap:List Nat}{fi fe:FE}{ft:FT}{tgf:FG}{gt:TG}
theorem DefX.compC {cl:List (Str × Addr)}{C:Addr}{s2:Shared}{H2:Hp}{fp:List Addr}(d:DefX X N sc)(hN':N'.Nodup):DefX (compCxC X scope x0 cl N' C s2 H2 fp) N' (relS scope sc):=by
  refine ⟨rfl, ?_,d.calm,hN'⟩
  show (compEnvC scope cl C X.env).scope=_
  rw [← d.hsc]
  rfl
theorem DefX.nlk {cl:List (Str × Addr)}{C:Addr}{s2:Shared}{H2:Hp}{fp:List Addr}{sc2:Scope}(d:DefX (compCxC X scope x0 cl N' C s2 H2 fp) N' sc2){i:Nat}(h:N'[i]?=some x0)(hl:sc2.names.lookup x0=some .cell):Nl (compCxC X scope x0 cl N' C s2 H2 fp) i x0 :=
  ⟨by rw [d.hN]; exact d.nd,by rw [d.hN]; exact h,by rw [d.hsc]; exact .inr hl,.inl (beq_self_eq_true x0)⟩
theorem pf_comp1C {p p2:Pos}{fs:FA}(d:DefX X N sc)(chk:CompChkC sc scope N N' nt cap x0)(hcap:cap.Nodup)(hN':N'.Nodup)(hgr:Gl X "range")(hm:X.mg "range"=none)(ha:PDA X c [a] fs)
    (hg : ∀ cl C s2 H2 fp,DefX (compCxC X scope x0 cl N' C s2 H2 fp) N' (relS scope sc)→PG (compCxC X scope x0 cl N' C s2 H2 fp) tg gt) (hge:GExt nt gt) (sg:SndG (tx X c) tgf gt)
    (ht : ∀ cl C s2 H2 fp,DefX (compCxC X scope x0 cl N' C s2 H2 fp) N' (relS scope sc)→PIfs (compCxC X scope x0 cl N' C s2 H2 fp) ifs (tP (tx X c) kB ft))
    (he : ∀ cl C s2 H2 fp,DefX (compCxC X scope x0 cl N' C s2 H2 fp) N' (relS scope sc)→PE (compCxC X scope x0 cl N' C s2 H2 fp) elt (tP (tx X c) (kD (tx X c)) fe)) (hst:isStar a=false:=by rfl)
   :PF X c (.ListComp elt [⟨tg,.Call (.Name "range" p) [a] [] p2,ifs,0⟩] scope pos) (ffCompR rng1 nt cap tgf fs ft fe) :=
  PE.imp (pe_compC (tt:=tP (tx X c) kB ft) (te:=tP (tx X c) (kD (tx X c)) fe) d.hsc d.hN chk d.calm (pi_range1 hgr hm ha (star_one hst)) (fun cl C s2 H2 fp=>hg cl C s2 H2 fp (d.compC hN')) hge (fun cl C s2 H2 fp=>ht cl C s2 H2 fp (d.compC hN')) (fun cl C s2 H2 fp=>he cl C s2 H2 fp (d.compC hN')) (folded_no rfl)) fun _ _ _ h=>tP_comp1 sg hcap h
end
end DL
end
section
namespace DL
open L2
end DL
end
section
namespace DL
open PySem PySem.Spec PyProof.Rows L2
section
variable {T:Tx}{X:XQ}{F:FS}{fi fe:FE}{ft:FT}{De:Ends}{σ:L2.St}{H:Hp}{tg:FG}{g:TG}
end
section
variable {X:Cx}{c:Ct}{xq:XQ}{ts:List Expr}{tk:Nat}{tp p ip pos:Pos}{iter:Expr}{fi:FE}{tgf:FG}{gt:TG}{F:FS}
end
end DL
end
section
namespace DL
open L2
end DL
end
section
namespace DL
open PySem PySem.Spec PyProof.Rows L2
section
variable {X:Cx}{c:Ct}{a:Expr}{ta:TE}{f:FE}{pos p2:Pos}{j:Nat}{q:Bool}
end
end DL
end
section
namespace DL
open PySem PySem.Spec PyProof.Rows L2
section
variable {X:Cx}{c:Ct}{a:Expr}{ta:TE}{f:FE}{pos p:Pos}{x:Str}{tb:List (List Nat × Int)}
end
end DL
end
section
namespace DL
open L2
end DL
end
section
namespace L2
open PySem PySem.Spec PyProof.Rows DL
section
variable {X:Cx}{st:Stmt}{rest:List Stmt}{t u:TS}{pos:Pos}
end
end L2
namespace DL
open PySem PySem.Spec PyProof.Rows L2
section
variable {X:Cx}{c:Ct}{xq:XQ}{st:Stmt}{rest:List Stmt}{a b o:Expr}{f g fe:FE}{F G:FS}{t:FT}{pos:Pos}
end
end DL
end
section
namespace DL
open L2
end DL
end
section
namespace L2
open PySem PySem.Spec PyProof.Rows DL Builtin
section
variable {X:Cx}
end
end L2
namespace DL
open PySem PySem.Spec PyProof.Rows L2
section
variable {X:Cx}{c:Ct}{a b:Expr}{f g:FE}{pos:Pos}
end
end DL
end
section
namespace DL
open L2
noncomputable def fldL (k:Nat):List Nat→List D→Option D
  | k'::ks,d::ds=>if k'=k then some d else fldL k ks ds
  | _,_=>none
noncomputable def fldD (k:Nat):D→Option D
  | .ob _ ks ds=>fldL k ks ds
  | _=>none
noncomputable abbrev MTab (α:Type):=Nat→Option (List Nat × (List D→Option α))
noncomputable def methD {α:Type}(n:Nat)(tab:MTab α):D→List D→Option α
  | .ob c ks ds,as=>(tab c).bind fun p=>if ks=p.1∧as.length=n then p.2 (.ob c ks ds::as) else none
  | _,_=>none
noncomputable def fpMeth {α:Type}(n:Nat)(tab:MTab α)(fo:FE)(fa:FA):FP α:=fun env=>(fo env).bind fun d=>(fa env).bind fun as=>methD n tab d as
noncomputable abbrev IFn:=Nat→List D→Option (List Nat × List D)
noncomputable def fpMake (k n:Nat)(I:IFn)(fa:FA):FE:=fun env=>(fa env).bind fun as=>if as.length=n then (I k as).map fun p=>.ob k p.1 p.2 else none
noncomputable def fsFld (i k:Nat)(f:FE):FS:=fun env=>match env[i]? with
  | some (.obj c ks ds)=>if k∈ks∨100≤ks.length then none else (f env).map fun d=>.nx (env.set i (.obj c (ks++[k]) (ds++[d])))
  | _=>none
noncomputable def fsBase (i n:Nat)(I:IFn)(fa:FA):FS:=fun env=>match env[i]? with
  | some (.obj c [] [])=>(fa env).bind fun as=>if as.length=n then (I c as).map fun p=>.nx (env.set i (.obj c p.1 p.2)) else none
  | _=>none
noncomputable def bodyI (N:Nat)(F:FS):IFn:=fun k ds=>(F (.obj k [] []::envOf N ds)).bind fun r=>match r with
  | .nx env'=>match (env'[0]?:Option Slot) with
    | some (.obj k' ks es)=>if k'=k then some (ks,es) else none
    | _=>none
  | _=>none
end DL
end
section
namespace DL
open PySem PySem.Spec PyProof.Rows L2
noncomputable def noSuper:Expr→Bool
  | .Call _ _ _ _=>false
  | _=>true
theorem base_no {e:Expr}{f:Str}{env:Env}(h:noSuper e=true):attributeBase e f env (eval e env)=eval e env:=by
  cases e <;> first | rfl | cases h
structure FldOk (K:PySem.W.Frag)(c:Ct)(k:Nat):Prop where
  cls : ∀ n C,c.cl n=some C→Cls K C∧NoAttr K C (c.fld k)
  inj : ∀ k',c.fld k'=c.fld k→k'=k
theorem fld_look {T:Tx}{A:Addr→Prop}{H:Hp}{k:Nat}(inj : ∀ k',T.fld k'=T.fld k→k'=k) : ∀ {ks:List Nat} {ds:List D} {fs:List (Str × V)} {d:D},fs.map (·.1)=ks.map T.fld→RepL T A H ds (fs.map (·.2))→fldL k ks ds=some d →
    ∃ v,fs.lookup (T.fld k)=some v∧Rep T A H d v
  | [],_,_,_,_,_,e=>by simp [fldL] at e
  | k'::ks,[],_,_,_,_,e=>by simp [fldL] at e
  | k'::ks,d'::ds,[],_,h,_,e=>by simp at h
  | k'::ks,d'::ds,(x,u)::fs,d,h,r,e=>by
    simp only [List.map_cons,List.cons.injEq] at h
    obtain ⟨v,r1,e2,h1,h2⟩:=r.cons_
    simp only [List.map_cons,List.cons.injEq] at e2
    obtain ⟨rfl,rfl⟩:=e2
    unfold fldL at e
    by_cases hk:k'=k
    · rw [if_pos hk] at e; cases e
      subst hk
      refine ⟨u, ?_,h1⟩
      rw [List.lookup,h.1]; simp
    · rw [if_neg hk] at e
      obtain ⟨v,l,q⟩:=fld_look inj h.2 h2 e
      refine ⟨v, ?_,q⟩
      have hb:(T.fld k == x)=false:=by
        rw [beq_eq_false_iff_ne,h.1]
        intro z; exact hk (inj _ z.symm)
      rw [List.lookup,hb]; exact l
theorem putF_new {f:Str}{v:V} : ∀ {fs:List (Str × V)},f ∉ fs.map (·.1)→putF f v fs=fs++[(f,v)]
  | [],_=>rfl
  | (g,x)::r,h=>by
    simp only [List.map_cons,List.mem_cons,not_or] at h
    show (if g=f then _ else _)=_
    rw [if_neg (fun z=>h.1 z.symm),putF_new h.2]; rfl
section
variable {X:Cx}{c:Ct}{xq:XQ}{o e:Expr}{es:List Expr}{f fo:FE}{fa:FA}{pos apos:Pos}{m:Str}
theorem pd_fld {k:Nat}{nm:Str}(F:FldOk X.K c k)(hn:nm=c.fld k)(ho:PD X c o f)(hb:noSuper o=true:=by rfl):PD X c (.Attribute o nm pos) (fp1 (fldD k) f):=by
  subst hn
  refine PE.imp (pe_fld ho (base_no hb)) fun σ H Q h=>?_
  obtain ⟨W,O,env,d,E,e1,q⟩:=h
  unfold fp1 at e1
  cases e2:f env with
  | none=>rw [e2] at e1; cases e1
  | some x =>
    rw [e2] at e1
    dsimp only [Option.bind_some] at e1
    refine ⟨W,O,env,x,E,e2,fun v H1 s1 r1=>?_⟩
    unfold fldD at e1
    split at e1
    · next n ks ds =>
      have r2:Rep (tx X c) (Cl W O) H1 (.ob n ks ds) v:=r1
      simp only [Rep] at r2
      obtain ⟨a,C,dx,fs,rfl,ha,hC,hH,hk,hr⟩:=r2
      obtain ⟨u,l,ru⟩:=fld_look F.inj hk hr e1
      obtain ⟨h1,h2⟩:=F.cls n C hC
      exact ⟨a,C,dx,fs,u,rfl,hH,h1,h2,l,q u H1 s1 ru⟩
    · cases e1
theorem pds_fldS {i k:Nat}{x nm:Str}{p1 p2:Pos}(F:FldOk X.K c k)(hn:nm=c.fld k)(n:Nm X i x)(hv:PD X c e f)(hs:swapsWith e (some (.Attribute (.Name x p1) nm p2)) pos.line X.env=pure false:=by rfl) :
    PDS X c xq (.Assign [.Attribute (.Name x p1) nm p2] e pos) (fsFld i k f):=by
  subst hn
  refine PS.imp (ps_fld (pe_var n.hN n.hv n.hd n.hc) hv hs) fun De σ H h=>?_
  obtain ⟨W,O,env,fl,E,e1,q⟩:=h
  unfold fsFld at e1
  split at e1
  · next n ks ds hi =>
    by_cases hc:k∈ks∨100≤ks.length
    · rw [if_pos hc] at e1; cases e1
    · rw [if_neg hc] at e1
      rw [not_or] at hc
      cases e2:f env with
      | none=>rw [e2] at e1; cases e1
      | some d =>
        rw [e2] at e1; cases e1
        refine ⟨W,O,env,d,E,e2,fun v H1 s1 r1=>?_⟩
        have E1:=E.mono s1
        obtain ⟨a,C,dx,fs,h1,h2,h3,h4,h5,h6,h7⟩:=E1.obj hi
        obtain ⟨g1,g2⟩:=F.cls n C h4
        have hlen:fs.length=ks.length:=by have:=congrArg List.length h6; simpa using this
        have hnew:c.fld k ∉ fs.map (·.1):=by
          rw [h6]
          intro z
          obtain ⟨k',hk',ek⟩:=List.mem_map.mp z
          exact hc.1 (F.inj k' ek ▸ hk')
        refine ⟨.ref a,h1,a,C,dx,fs,rfl,h5,g1,g2,by rw [hlen]; omega, ?_⟩
        rw [putF_new hnew]
        have fr:Fr O H1 O (L2.upd H1 a (.ins C dx (fs++[(c.fld k,v)]))):=⟨fun b u h n=>by rw [upd_ne (by rintro rfl; exact n h2)]; exact h,fun b h=>.inl h,fun b h=>by
          by_cases z:b=a
          · subst z; rw [upd_same] at h; cases h
          · rw [upd_ne z] at h; exact h⟩
        have up:=E1.upd (o:=.ins C dx (fs++[(c.fld k,v)])) (t:=.obj n (ks++[k]) (ds++[d])) hi rfl h1 trivial ⟨a,C,dx,fs++[(c.fld k,v)],rfl,h2,h3,h4,upd_same,by
          rw [List.map_append,List.map_append,h6]; rfl,by
          rw [List.map_append]
          exact (RepL.kp (E1.kp fr) h7).append (.cons (Rep.kp (E1.kp fr) r1) .nil)⟩
        exact q σ _ O up.1 ((Fr.same s1).trans up.2)
  · cases e1
end
theorem pds_fld {i k:Nat}{x nm:Str}{p1 p2:Pos}(F:FldOk X.K c k)(hn:nm=c.fld k)(n:Nm X i x)(hv:PD X c e f)(hs:noComp e=true:=by rfl) :
    PDS X c xq (.Assign [.Attribute (.Name x p1) nm p2] e pos) (fsFld i k f):=pds_fldS F hn n hv (swaps_no hs)
structure MethG (P:Program)(w:World)(K:PySem.W.Frag)(mg:Str→Option Value)(base:Heap)(c:Ct)(m:Str)(n k:Nat)(tab:MTab D):Prop where
  ex : ∀ j lay F,tab j=some (lay,F)→∃ C f fd ps,c.cl j=some C∧Cls K C∧Meth K C m f∧FnOk P w K mg base CX0 k f fd ps (spD ⟨K,c.cl,c.fld⟩ (n+1) F)∧Binds K fd ps []∧∀ i∈lay,c.fld i≠m
structure MethGF (P:Program)(w:World)(K:PySem.W.Frag)(mg:Str→Option Value)(base:Heap)(c:Ct)(m:Str)(n k:Nat)(tab:MTab (List D)):Prop where
  ex : ∀ j lay F,tab j=some (lay,F)→∃ C f fd ps,c.cl j=some C∧Cls K C∧Meth K C m f∧FnOk P w K mg base CX0 k f fd ps (spF ⟨K,c.cl,c.fld⟩ (n+1) F)∧Binds K fd ps []∧∀ i∈lay,c.fld i≠m
theorem look_none {m:Str} : ∀ {fs:List (Str × V)},m ∉ fs.map (·.1)→fs.lookup m=none
  | [],_=>rfl
  | (g,x)::r,h=>by
    simp only [List.map_cons,List.mem_cons,not_or] at h
    have hb:(m == g)=false:=beq_eq_false_iff_ne.mpr h.1
    rw [List.lookup,hb]; exact look_none h.2
theorem methD_some {α:Type}{n:Nat}{tab:MTab α}{x:D}{as:List D}{d : α}(h:methD n tab x as=some d) : ∃ cn ks ds F,x=.ob cn ks ds∧tab cn=some (ks,F)∧as.length=n∧F (x::as)=some d:=by
  cases x with
  | ob cn ks ds =>
    simp only [methD] at h
    cases e4:tab cn with
    | none=>rw [e4] at h; cases h
    | some p =>
      rw [e4] at h
      dsimp only [Option.bind_some] at h
      by_cases hc:ks=p.1∧as.length=n
      · rw [if_pos hc] at h
        exact ⟨cn,ks,ds,p.2,rfl,by rw [e4,hc.1],hc.2,h⟩
      · rw [if_neg hc] at h; cases h
  | _=>simp [methD] at h
theorem fpMeth_some {α:Type}{n:Nat}{tab:MTab α}{fo:FE}{fa:FA}{env:DEnv}{d : α}(h:fpMeth n tab fo fa env=some d) : ∃ x as,fo env=some x∧fa env=some as∧methD n tab x as=some d:=by
  unfold fpMeth at h
  cases e2:fo env with
  | none=>rw [e2] at h; cases h
  | some x =>
    rw [e2] at h
    dsimp only [Option.bind_some] at h
    cases e3:fa env with
    | none=>rw [e3] at h; cases h
    | some as=>rw [e3] at h; exact ⟨x,as,rfl,rfl,h⟩
section
variable {X:Cx}{c:Ct}{xq:XQ}{o e:Expr}{es:List Expr}{f fo:FE}{fa:FA}{pos apos:Pos}{m:Str}
theorem pd_meth {n k j:Nat}{tab:MTab D}{pl:Sem Bool}(G:MethG X.prog X.w X.K X.mg X.base c m n k tab)(hr:Room j X.A)(hkj:k≤j)(ho:PD X c o fo)(ha:PDA X c (e::es) fa)(he:isStar e=false:=by rfl)(hpl:noStars es=true:=by rfl)
    (ht:eval (.Call (.Attribute o m apos) (e::es) [] pos) X.env=(do
      let ov ← eval o X.env
      standAt apos.atName
      let (f,first) ← holding [ov] (getMethod ov m pl)
      callWith pos f first (backTo pos (starEach (e::es) X.env)) (backToKw pos (keywordEach [] X.env))):=by rfl) :
    PD X c (.Call (.Attribute o m apos) (e::es) [] pos) (fpMeth n tab fo fa):=by
  intro pins s σ H Q I h
  obtain ⟨W,O,env,d,E,e1,q⟩:=h
  obtain ⟨x,as,e2,e3,e4⟩:=fpMeth_some e1
  obtain ⟨cn,ks,ds,F,rfl,e5,hl,e6⟩:=methD_some e4
  obtain ⟨C,f,fd,ps,h1,h2,h3,h4,h5,h6⟩:=G.ex cn ks F e5
  refine pe_meth (E:=E0) ho h2 h3 h4 (hr.mono hkj) h5 .nil pass0 ha (star_cons he) (star_none hpl) ht pins s σ H Q I ?_
  refine ⟨W,O,env,.ob cn ks ds,E,e2,fun v H1 s1 r1=>?_⟩
  have r2:Rep (tx X c) (Cl W O) H1 (.ob cn ks ds) v:=r1
  have r3:=r2
  simp only [Rep] at r3
  obtain ⟨a,C',dx,fs,rfl,ha',hC,hH,hk,hrr⟩:=r3
  have hC2:c.cl cn=some C':=hC
  rw [h1] at hC2
  cases hC2
  refine ⟨a,dx,fs,rfl,hH,look_none ?_,W,O,env,as,E.mono s1,e3,fun vs H2 s2 r4=>?_⟩
  · rw [hk]
    intro z
    obtain ⟨i,hi,ei⟩:=List.mem_map.mp z
    exact h6 i hi ei
  · show spD _ _ _ (.ref a::(vs++[])) H2 Q E0
    rw [List.append_nil]
    exact ⟨by rw [List.length_cons, ← RepL.length r4,hl],Cl W O,.ob cn ks ds::as,d,fun b nb=>((E.mono s1).mono s2).newA nb,.cons (r2.mono s2 fun _ z=>z) r4,e6,fun w H' s3 r5=>q w H' (s1.trans (s2.trans s3)) r5⟩
theorem pf_meth0 {k j:Nat}{tab:MTab (List D)}{pl:Sem Bool}(G:MethGF X.prog X.w X.K X.mg X.base c m 0 k tab)(hr:Room j X.A)(hkj:k≤j)(ho:PD X c o fo)
    (ht:eval (.Call (.Attribute o m apos) [] [] pos) X.env=(do
      let ov ← eval o X.env
      standAt apos.atName
      let (f,first) ← holding [ov] (getMethod ov m pl)
      callWith pos f first (backTo pos (starEach [] X.env)) (backToKw pos (keywordEach [] X.env))):=by rfl) :
    PF X c (.Call (.Attribute o m apos) [] [] pos) (fpMeth 0 tab fo faNil):=by
  intro pins s σ H Q I h
  obtain ⟨W,O,env,d,E,e1,q⟩:=h
  obtain ⟨x,as,e2,e3,e4⟩:=fpMeth_some e1
  obtain ⟨cn,ks,ds,F,rfl,e5,hl,e6⟩:=methD_some e4
  obtain ⟨C,f,fd,ps,h1,h2,h3,h4,h5,h6⟩:=G.ex cn ks F e5
  cases e3
  refine pe_meth0 (E:=E0) ho h2 h3 h4 (hr.mono hkj) h5 .nil pass0 ht pins s σ H Q I ?_
  refine ⟨W,O,env,.ob cn ks ds,E,e2,fun v H1 s1 r1=>?_⟩
  have r2:Rep (tx X c) (Cl W O) H1 (.ob cn ks ds) v:=r1
  have r3:=r2
  simp only [Rep] at r3
  obtain ⟨a,C',dx,fs,rfl,ha',hC,hH,hk,hrr⟩:=r3
  have hC2:c.cl cn=some C':=hC
  rw [h1] at hC2
  cases hC2
  refine ⟨a,dx,fs,rfl,hH,look_none ?_, ?_⟩
  · rw [hk]
    intro z
    obtain ⟨i,hi,ei⟩:=List.mem_map.mp z
    exact h6 i hi ei
  · show spF _ _ _ (.ref a::[]) H1 Q E0
    exact ⟨rfl,Cl W O,[.ob cn ks ds],d,fun b nb=>(E.mono s1).newA nb,.cons r2 .nil,e6,fun w H' s3 r5=>q w H' (s1.trans s3) (Kd.an (ρ:=kF (tx X c)) _ _ _ _ _ _ s1 r5)⟩
end
noncomputable def spI (T:Tx)(n:Nat)(I:IFn):Sp:=fun vs H Q _=>vs.length=n+1∧∃ (A:Addr→Prop) (x:Addr) (us:List V) (C dx:Addr) (k:Nat) (ds:List D) (p:List Nat × List D),vs=.ref x::us∧T.cl k=some C∧H x=some (.ins C dx [])∧¬ A x∧Nw A H∧RepL T A H ds us∧I k ds=some p ∧
  ∀ (H':Hp) (dx':Addr) (fs:List (Str × V)),(∀ b o,H b=some o→b≠x→H' b=some o)→(∀ b,H' b=none→H b=none)→H' x=some (.ins C dx' fs)→fs.map (·.1)=p.1.map T.fld→RepL T A H' p.2 (fs.map (·.2))→Q .non H'
structure InitG (P:Program)(w:World)(K:PySem.W.Frag)(mg:Str→Option Value)(base:Heap)(c:Ct)(x:Str)(n k kc:Nat)(I:IFn):Prop where
  ex : ∃ C f fd ps,mg x=some (.ref C)∧c.cl kc=some C∧Mk K C f∧FnOk P w K mg base CX0 k f fd ps (spI ⟨K,c.cl,c.fld⟩ n I)∧Binds K fd ps []
theorem EnvR.updF {T:Tx}{W:Wf}{O:Addr→Prop}{H H':Hp}{env:DEnv}{σ:L2.St}(E:EnvR T W O H env σ){i:Nat}{s t:Slot}{a:Addr}(e:env[i]?=some s)(hs:s.isOwn=true)(ev : σ[i]?=some (some (.ref a)))
    (keep : ∀ b o,H b=some o→b≠a→H' b=some o) (dom : ∀ b,H' b=none→H b=none) (hm:Mu (H' a)) (r:SlotR T W O H' t (some (.ref a))) (hn : ∀ dss,t≠.own2 dss:=by exact fun _ z=>nomatch z):EnvR T W O H' (env.set i t) σ∧Fr O H O H':=by
  have oa:O a:=by
    obtain ⟨b,eb,o⟩:=(E.slot i s e).at_own hs
    rw [ev] at eb; cases eb; exact o
  have f:Fr O H O H':=⟨fun b u h n=>keep b u h (by rintro rfl; exact n oa),fun b h=>.inl h,dom⟩
  have same : ∀ b,O b→b≠a→H' b=H b:=fun b ob hb=>by
    have:=E.mu b ob
    cases eb:H b with
    | none=>rw [eb] at this; exact this.elim
    | some u=>exact keep b u eb hb
  refine ⟨⟨E.fr.trans f,E.new,fun b z=>?_,fun j u e'=>?_,fun j k t' u b e1 e2 o1 o2 s1 s2=>?_,by simp [E.len],fun j k dss u c bs b e1 e2 q hb e3 o3=>?_⟩,f⟩
  · by_cases h:b=a
    · subst h; exact hm
    · rw [same b z h]; exact E.mu b z
  · rcases set_slot e' with ⟨rfl,rfl,hl⟩ | ⟨h,e'⟩
    · rw [ev]; exact r
    · refine (E.slot j u e').kp (E.kp f) (fun _ z=>z) (fun b hs' ev'=>?_) fun dss c bs b eu ev' q hb=>?_
      · have hb:b≠a:=fun z=>by subst z; exact h (E.inj i j s u b e e' hs hs' ev (join_some ev'))
        obtain ⟨b',eb',ob'⟩:=(E.slot j u e').at_own hs'
        rw [ev'] at eb'; cases eb'
        exact same b ob' hb
      · subst eu
        obtain ⟨ob,_,_⟩:=(E.slot j _ e').inner ev' q hb
        exact same b ob fun w=>E.inj2 j i dss s c bs b e' (join_some ev') q hb e hs (w ▸ ev)
  · have old : ∀ {j:Nat} {u:Slot},(env.set i t)[j]?=some u→u.isOwn=true→∃ u',env[j]?=some u'∧u'.isOwn=true:=fun {j u} e' o'=>by
      rcases set_slot e' with ⟨rfl,rfl,hl⟩ | ⟨h,e'⟩
      · exact ⟨s,e,hs⟩
      · exact ⟨u,e',o'⟩
    obtain ⟨t1,h1,h2⟩:=old e1 o1
    obtain ⟨t2,h3,h4⟩:=old e2 o2
    exact E.inj j k t1 t2 b h1 h3 h2 h4 s1 s2
  · rcases set_slot e1 with ⟨h1,h2,hl⟩ | ⟨h,q1⟩
    · exact absurd h2.symm (hn dss)
    · have hca:c≠a:=fun w=>by subst w; exact h (E.inj i j s _ c e q1 hs rfl ev e2)
      obtain ⟨c',ec,oc⟩:=(E.slot j _ q1).at_own rfl
      rw [e2] at ec; cases ec
      rw [same c oc hca] at q
      rcases set_slot e3 with ⟨rfl,rfl,hl⟩ | ⟨h',q2⟩
      · exact E.inj2 j i dss s c bs b q1 e2 q hb e hs
      · exact E.inj2 j k dss u c bs b q1 e2 q hb q2 o3
section
variable {X:Cx}{c:Ct}{xq:XQ}{o e:Expr}{es:List Expr}{f fo:FE}{fa:FA}{pos apos:Pos}{m:Str}
theorem tP_make {T:Tx}{C:Addr}{n kc:Nat}{I:IFn}{σ:L2.St}{H:Hp}{Q:VK}(hC:T.cl kc=some C)(h:tP T (kD T) (fpMake kc n I fa) σ H Q):tMake C (spI T n I) [] E0 (tP T (kA T) fa) σ H Q:=by
  obtain ⟨W,O,env,d,E,e1,q⟩:=h
  unfold fpMake at e1
  cases e2:fa env with
  | none=>rw [e2] at e1; cases e1
  | some as =>
    rw [e2] at e1
    dsimp only [Option.bind_some] at e1
    by_cases hl:as.length=n
    · rw [if_pos hl] at e1
      cases e3:I kc as with
      | none=>rw [e3] at e1; cases e1
      | some p =>
        rw [e3] at e1; cases e1
        refine ⟨W,O,env,as,E,e2,fun vs H1 s1 r1=>?_⟩
        intro x dx hx hdx hne
        have hsame:Same H1 (upd (upd H1 dx (.own x)) x (.ins C dx [])):=fun b u hb=>by
          rw [upd_ne (ne_of_none hb hx),upd_ne (ne_of_none hb hdx)]; exact hb
        have E1:=E.mono s1
        refine ⟨?_,fun b=>Cl W O b∧b≠x,x,vs,C,dx,kc,as,p, ?_,hC,upd_same,fun z=>z.2 rfl,fun b hb=>?_, ?_,e3, ?_⟩
        · rw [List.length_cons,List.length_append,List.length_nil, ← RepL.length r1,hl]
        · rw [List.append_nil]
        · have hbx:b≠x:=fun z=>by subst z; rw [upd_same] at hb; cases hb
          rw [upd_ne hbx] at hb
          have hbd:b≠dx:=fun z=>by subst z; rw [upd_same] at hb; cases hb
          rw [upd_ne hbd] at hb
          exact ⟨E1.newA hb,hbx⟩
        · exact RepL.kp (Kp.same hsame fun b u z hb=>⟨z,ne_of_none hb hx⟩) r1
        · intro H' dx' fs kp dm hx' hn hr
          refine ⟨rfl,q (.ref x) H' (fun b u hb=>?_) ?_⟩
          · have hb1:=s1 b u hb
            exact kp b u (hsame b u hb1) (ne_of_none hb1 hx)
          · show Rep T (Cl W O) H' (.ob kc p.1 p.2) (.ref x)
            simp only [Rep]
            exact ⟨x,C,dx',fs,rfl,E1.newA hx,hC,hx',hn,hr.mono (Same.refl _) fun _ z=>z.1⟩
    · rw [if_neg hl] at e1; cases e1
theorem pd_make {n k j kc:Nat}{I:IFn}{x:Str}{p:Pos}(G:InitG X.prog X.w X.K X.mg X.base c x n k kc I)(hr:Room j X.A)(hkj:k+1≤j)(hg:Gl X x)(ha:PDA X c (e::es) fa)
    (hdb:(x == ("__debug__":Str))=false:=by decide) (he:isStar e=false:=by rfl) (hpl:noStars es=true:=by rfl):PD X c (.Call (.Name x p) (e::es) [] pos) (fpMake kc n I fa):=by
  obtain ⟨C,f,fd,ps,h1,h2,h3,h4,h5⟩:=G.ex
  exact PE.imp (pe_make (E:=E0) h3 h4 (hr.mono hkj) hg h1 h5 .nil pass0 ha hdb (star_cons he) (star_none hpl)) fun _ _ _ h=>tP_make (T:=tx X c) h2 h
structure ClsFn (K:PySem.W.Frag)(C:Addr)(m:Str)(f:Addr):Prop where
  sp:PySem.W.specialIn K (.ref C) "__getattribute__"=some (some (.builtin "type.__getattribute__"))
  ex : ∃ mc,PySem.W.readsIn K C mc=true∧PySem.W.findCls K (.ref C) mc m=some (.val (.ref f))
  hd:PySem.W.handedIn (.ref f)=true
  kp:PySem.W.keepIn K (.ref f)=true
structure BaseG (P:Program)(w:World)(K:PySem.W.Frag)(mg:Str→Option Value)(base:Heap)(c:Ct)(x:Str)(n k:Nat)(I:IFn):Prop where
  ex : ∃ C f fd ps,mg x=some (.ref C)∧ClsFn K C "__init__" f∧FnOk P w K mg base CX0 k f fd ps (spI ⟨K,c.cl,c.fld⟩ n I)∧Binds K fd ps []
theorem pe_clsCall {C f:Addr}{fd:FuncData}{ps:List Str}{sp:Sp}{k:Nat}{x:Str}{p:Pos}{pl:Sem Bool}{t:TA}(cf:ClsFn X.K C m f)(F:FnOk X.prog X.w X.K X.mg X.base CX0 k f fd ps sp)(hr:Room k X.A)(hg:Gl X x)(hm:X.mg x=some (.ref C))(hb:Binds X.K fd ps [])
    (ha:PA X (e::es) t) (hst:starEach (e::es) X.env=(false,eval e X.env)::starEach es X.env) (hpl:(backTo pos (starEach es X.env)).any (·.1)=false) (hdb:(x == ("__debug__":Str))=false:=by decide)
    (ht:eval (.Call (.Attribute (.Name x p) m apos) (e::es) [] pos) X.env=(do
      let ov ← eval (.Name x p) X.env
      standAt apos.atName
      let (f,first) ← holding [ov] (getMethod ov m pl)
      callWith pos f first (backTo pos (starEach (e::es) X.env)) (backToKw pos (keywordEach [] X.env))):=by rfl) :
    PE X (.Call (.Attribute (.Name x p) m apos) (e::es) [] pos) (tCall sp [] E0 t):=by
  intro pins s σ H Q I h
  obtain ⟨mc,h1,h2⟩:=cf.ex
  refine PySem.W.methodCall_KW (pl:=pl) (ld_glob I hg hm ?_ hdb) ht
  refine PySem.W.method_cls I.kIn cf.sp (PySem.W.cls_value I.kIn h1 h2 cf.hd ?_)
  have I1:=I.tok (s.toks+1)
  refine PySem.W.callWith_K (first:=[]) (h₀:=X.base) I.ok.mod.kin cf.kp (thn5 (ha pos pins _ σ H _ I1 h) fun us s2 vs H2 I2 r q2=>⟨I2.kIn, ?_⟩) hst hpl
  exact run_fn F hr hb .nil pass0 I2 r q2
end
end DL
end
section
namespace DL
open L2
noncomputable def zipL (as bs:List D):List D:=(as.zip bs).map fun p=>.tup [p.1,p.2]
noncomputable def zipF:List D→Option (List D)
  | [.lst xs,.lst ys]=>some (zipL xs ys)
  | _=>none
noncomputable def fsForZ (zf:List D→Option (List D))(tg:FG)(fa:FA)(body:FS):FS:=fun env=>(fa env).bind fun as=>(zf as).bind fun ds=>runFor tg body ds env
noncomputable def instC (cs:List Nat):D→Option D
  | .ob c _ _=>some (.bl (cs.contains c))
  | _=>none
theorem zipL_nil (bs:List D):zipL [] bs=[]:=rfl
theorem zipL_nil2 (as:List D):zipL as []=[]:=by unfold zipL; rw [List.zip_nil_right]; rfl
theorem zipL_cons (a b:D)(as bs:List D):zipL (a::as) (b::bs)=.tup [a,b]::zipL as bs:=rfl
theorem zipL_len (as bs:List D):(zipL as bs).length=min as.length bs.length:=by unfold zipL; simp
theorem zipL_get {as bs:List D}{j:Nat}{a b:D}(h1:as[j]?=some a)(h2:bs[j]?=some b):(zipL as bs)[j]?=some (.tup [a,b]):=by
  unfold zipL
  rw [List.getElem?_map,List.getElem?_zip_eq_some.mpr (show as[j]?=some (a,b).1∧bs[j]?=some (a,b).2 from ⟨h1,h2⟩)]; rfl
@[simp] theorem ev_zipF (xs ys:List D):zipF [.lst xs,.lst ys]=some (zipL xs ys):=(Eq.refl _).trans (Eq.refl _)
@[simp] theorem ev_fsForZ (zf:List D→Option (List D))(tg:FG)(fa:FA)(body:FS)(env:DEnv):fsForZ zf tg fa body env=obind (fa env) (fun as=>obind (zf as) fun ds=>runFor tg body ds env):=(Eq.refl _).trans (Eq.refl _)
@[simp] theorem ev_instC (cs:List Nat)(c:Nat)(ks:List Nat)(ds:List D):instC cs (.ob c ks ds)=some (.bl (cs.contains c)):=(Eq.refl _).trans (Eq.refl _)
@[simp] theorem ev_fldD (k c:Nat)(ks:List Nat)(ds:List D):fldD k (.ob c ks ds)=fldL k ks ds:=(Eq.refl _).trans (Eq.refl _)
@[simp] theorem ev_fldL (k k':Nat)(ks:List Nat)(d:D)(ds:List D):fldL k (k'::ks) (d::ds)=if k'=k then some d else fldL k ks ds:=(Eq.refl _).trans (Eq.refl _)
@[simp] theorem ev_methD {α:Type}(n:Nat)(tab:MTab α)(c:Nat)(ks:List Nat)(ds as:List D):methD n tab (.ob c ks ds) as=obind (tab c) fun p=>if ks=p.1∧as.length=n then p.2 (.ob c ks ds::as) else none:=(Eq.refl _).trans (Eq.refl _)
@[simp] theorem ev_fpMeth {α:Type}(n:Nat)(tab:MTab α)(fo:FE)(fa:FA)(env:DEnv):fpMeth n tab fo fa env=obind (fo env) fun d=>obind (fa env) fun as=>methD n tab d as:=(Eq.refl _).trans (Eq.refl _)
@[simp] theorem ev_fpMake (k n:Nat)(I:IFn)(fa:FA)(env:DEnv):fpMake k n I fa env=obind (fa env) fun as=>if as.length=n then omap (fun p:List Nat × List D=>.ob k p.1 p.2) (I k as) else none:=(Eq.refl _).trans (Eq.refl _)
noncomputable def slotJ:Option Slot→Option (Nat × List Nat × List D)
  | some (.obj c ks ds)=>some (c,ks,ds)
  | _=>none
@[simp] theorem slotJ_obj (c:Nat)(ks:List Nat)(ds:List D):slotJ (some (.obj c ks ds))=some (c,ks,ds):=(Eq.refl _).trans (Eq.refl _)
@[simp] theorem ev_fsFld (i k:Nat)(f:FE)(env:DEnv):fsFld i k f env=obind (slotJ env[i]?) fun p=>if k∈p.2.1∨100≤p.2.1.length then none else omap (fun d=>.nx (env.set i (.obj p.1 (p.2.1++[k]) (p.2.2++[d])))) (f env):=by
  unfold fsFld slotJ
  cases h:env[i]? with
  | none=>rfl
  | some s=>cases s <;> rfl
@[simp] theorem ev_fsBase (i n:Nat)(I:IFn)(fa:FA)(env:DEnv):fsBase i n I fa env=obind (slotJ env[i]?) fun p=>if p.2.1=[]∧p.2.2=[] then obind (fa env) fun as=>if as.length=n then omap (fun r:List Nat × List D=>.nx (env.set i (.obj p.1 r.1 r.2))) (I p.1 as) else none else none:=by
  unfold fsBase slotJ
  cases h:env[i]? with
  | none=>rfl
  | some s =>
    cases s with
    | obj c ks ds =>
      cases ks with
      | nil=>cases ds <;> rfl
      | cons a b=>rfl
    | no=>rfl
    | val d=>rfl
    | own d=>rfl
    | red d=>rfl
    | own2 d=>rfl
    | red2 d=>rfl
    | ownU d=>rfl
noncomputable def objK (k:Nat):DFl→Option (List Nat × List D)
  | .nx env'=>obind (slotJ env'[0]?) fun p=>if p.1=k then some (p.2.1,p.2.2) else none
  | _=>none
@[simp] theorem objK_nx (k:Nat)(env':DEnv):objK k (.nx env')=obind (slotJ env'[0]?) fun p=>if p.1=k then some (p.2.1,p.2.2) else none:=(Eq.refl _).trans (Eq.refl _)
theorem ev_bodyI (N:Nat)(F:FS)(k:Nat)(ds:List D):bodyI N F k ds=obind (F (.obj k [] []::envOf N ds)) (objK k):=by
  unfold bodyI objK
  cases h:F (.obj k [] []::envOf N ds) with
  | none=>rfl
  | some r =>
    cases r with
    | nx env' =>
      show (match (env'[0]?:Option Slot) with
        | some (.obj k' ks es)=>if k'=k then some (ks,es) else none
        | _=>none)=_
      cases h2:env'[0]? with
      | none=>show none=obind (slotJ env'[0]?) _; rw [h2]; rfl
      | some s =>
        cases s with
        | obj c ks es=>show _=obind (slotJ env'[0]?) _; rw [h2]; rfl
        | no=>show none=obind (slotJ env'[0]?) _; rw [h2]; rfl
        | val d=>show none=obind (slotJ env'[0]?) _; rw [h2]; rfl
        | own d=>show none=obind (slotJ env'[0]?) _; rw [h2]; rfl
        | red d=>show none=obind (slotJ env'[0]?) _; rw [h2]; rfl
        | own2 d=>show none=obind (slotJ env'[0]?) _; rw [h2]; rfl
        | red2 d=>show none=obind (slotJ env'[0]?) _; rw [h2]; rfl
        | ownU d=>show none=obind (slotJ env'[0]?) _; rw [h2]; rfl
    | _=>rfl
end DL
end
section
namespace L2
open PySem PySem.Spec PyProof.Rows
section
variable {X:Cx}{pins:List (Addr × Obj)}{σ:List (Option V)}{H H':Hp}{s:Shared}{h':Heap}
theorem Inv.turnedN {t':Nat}{fp:List Addr}{p:Addr}{vs:List V}(I:Inv X pins σ H s)(k : ∀ b o,b ∉ fp→s.heap.get? b=some o→h'.get? b=some o)(hf : ∀ b∈fp,FpOk X pins H b)(fq:FpOk X pins H p)
    (hp:s.heap.get? p=none) (new:ObjOk X.prog X.w (upd H p (.tup vs)) h' p (.tup vs)):Inv X pins σ (upd H p (.tup vs)) { s with heap:=h',toks:=t' }:=by
  have ne : ∀ b u,H b=some u→b ∉ fp:=fun b u q z=>by rw [(hf b z).1] at q; cases q
  have np : ∀ b u,H b=some u→b≠p:=fun b u q z=>by rw [z,fq.1] at q; cases q
  have kk : ∀ b o,b ∉ p::fp→s.heap.get? b=some o→h'.get? b=some o:=fun b o hb q=>k b o (fun z=>hb (List.mem_cons_of_mem _ z)) q
  refine I.step (g':=s.gens) (d':=s.drawn) (ch:=p::fp) (fun b hb=>?_) (fun b o _ _ hc q _=>kk b o hc q) (fun b o _ _ hc q _=>⟨o.slots,kk b o hc q⟩) (fun b _ hc _ n=>by rw [upd_ne (fun z=>hc (by simp [z]))]; exact n)
    (fun b o hc q=>⟨o,kk b o hc q⟩) (fun b xs q=>by rw [upd_ne (np b _ q)]; exact q) (fun b _ _ q=>by rw [upd_ne (np b _ q)]; exact q) (fun b ps q=>⟨#[],by rw [upd_ne (np b _ q),q]; simp⟩) (fun m hm=>?_) (fun b u q=>?_) I.bare
  · rcases List.mem_cons.mp hb with rfl | hb
    · exact ⟨fq.2.2.2.1,fq.2.1,fq.2.2.2.2.1,fq.2.2.2.2.2⟩
    · have fe:=hf b hb; exact ⟨fe.2.2.2.1,fe.2.1,fe.2.2.2.2.1,fe.2.2.2.2.2⟩
  · obtain ⟨o,es,ep,ho,r⟩:=hm
    exact ⟨o,es,ep,k _ o (fun z=>(hf _ z).2.1 rfl) ho,r⟩
  · by_cases hb:b=p
    · subst hb; rw [upd_same] at q; cases q; exact new
    · rw [upd_ne hb] at q
      refine (I.hok b u q).stay (fun c v hc z=>k c v ?_ z) (fun c z=>by rw [upd_ne (np c _ z)]; exact z) fun c xs z=>by rw [upd_ne (np c _ z)]; exact z
      rcases hc with z | z
      · rw [z]; exact ne b u q
      · exact ne c _ z
theorem Inv.turnedM {t':Nat}{fp:List Addr}(I:Inv X pins σ H s)(k : ∀ b o,b ∉ fp→s.heap.get? b=some o→h'.get? b=some o)(hf : ∀ b∈fp,FpOk X pins H b):Inv X pins σ H { s with heap:=h',toks:=t' }:=by
  have ne : ∀ b u,H b=some u→b ∉ fp:=fun b u q z=>by rw [(hf b z).1] at q; cases q
  refine I.step (g':=s.gens) (d':=s.drawn) (ch:=fp) (fun b hb=>?_) (fun b o _ _ hc e _=>k b o hc e) (fun b o _ _ hc e _=>⟨o.slots,k b o hc e⟩) (fun _ _ _ _ n=>n)
    (fun b o hc e=>⟨o,k b o hc e⟩) (fun _ _ e=>e) (fun _ _ _ e=>e) (fun b ps e=>⟨#[],by rw [e]; simp⟩) (fun m hm=>?_) (fun b u e=>?_) I.bare
  · have fe:=hf b hb; exact ⟨fe.2.2.2.1,fe.2.1,fe.2.2.2.2.1,fe.2.2.2.2.2⟩
  · obtain ⟨o,es,ep,ho,r⟩:=hm
    exact ⟨o,es,ep,k _ o (fun z=>(hf _ z).2.1 rfl) ho,r⟩
  · refine (I.hok b u e).stay (fun c v hc q=>k c v ?_ q) (fun _ q=>q) fun _ _ q=>q
    rcases hc with z | z
    · rw [z]; exact ne b u e
    · exact ne c _ z
end
noncomputable def Itz (K:PySem.W.Frag)(l1 l2:Addr):It :=
  ⟨fun i H=>∃ xs ys x y,SqL K H l1 xs∧SqL K H l2 ys∧xs[i]?=some x∧ys[i]?=some y,
   fun i H v H'=>∃ p x y,H p=none∧v=.ref p∧H'=upd H p (.tup [x,y])∧(∀ xs,SqL K H l1 xs→xs[i]?=some x)∧∀ ys,SqL K H l2 ys→ys[i]?=some y,
   fun i H=>∃ xs ys,SqL K H l1 xs∧SqL K H l2 ys∧(xs.length≤i∨ys.length≤i)⟩
structure ZApart (z TI TO i1 i2:Addr):Prop where
  TIz:TI≠z
  TOz:TO≠z
  i1z:i1≠z
  i2z:i2≠z
  TITO:TI≠TO
  TIi1:TI≠i1
  TIi2:TI≠i2
  TOi1:TO≠i1
  TOi2:TO≠i2
  i12:i1≠i2
theorem ZApart.all {h:Heap}{z TI TO i1 i2 l1 l2:Addr}{xs ys:Array Value}{a b:Value}{k1 k2:Nat}{f0:Value}(D:ZApart z TI TO i1 i2)(hz:IsZip h z TI TO f0)(hTO:IsPair h TO a b)(h1:h.IsListIter i1 l1 k1)(h2:h.IsListIter i2 l2 k2)(p1:h.IsList l1 xs)(p2:h.IsList l2 ys):ZipApart z TI TO i1 i2 l1 l2:=by
  obtain ⟨o1,e1,c1,_⟩:=p1
  obtain ⟨o2,e2,c2,_⟩:=p2
  obtain ⟨q1,f1,d1,_⟩:=h1
  obtain ⟨q2,f2,d2,_⟩:=h2
  refine ⟨D.TIz,D.TOz,D.i1z,D.i2z,D.TITO,D.TIi1,D.TIi2,D.TOi1,D.TOi2,D.i12, ?_, ?_, ?_, ?_, ?_, ?_, ?_, ?_⟩
  · rintro rfl; have:=e1.symm.trans hz; cases this; simp at c1
  · rintro rfl; have:=e1.symm.trans hTO; cases this; simp at c1
  · rintro rfl; rw [e1] at f1; cases f1; rw [c1] at d1; simp at d1
  · rintro rfl; rw [e1] at f2; cases f2; rw [c1] at d2; simp at d2
  · rintro rfl; have:=e2.symm.trans hz; cases this; simp at c2
  · rintro rfl; have:=e2.symm.trans hTO; cases this; simp at c2
  · rintro rfl; rw [e2] at f1; cases f1; rw [c2] at d1; simp at d1
  · rintro rfl; rw [e2] at f2; cases f2; rw [c2] at d2; simp at d2
theorem turn_zip {P:Program}{w:World}{K:PySem.W.Frag}{ts:List Expr}{tk:Nat}{tp:Pos}(l1 l2 z TI TO i1 i2:Addr)(D:ZApart z TI TO i1 i2):Turn P w K (.Tuple ts tk tp) (Itz K l1 l2) [z,TI,TO,i1,i2] z
    (fun i h=>IsZip h z TI TO .none∧IsPair h TI (.ref i1) (.ref i2)∧(∃ a b,IsPair h TO a b)∧h.IsListIter i1 l1 i∧h.IsListIter i2 l2 i) where
  mem:=by simp
  obj:=fun i h st b hb=>by
    obtain ⟨hz,hTI,⟨a,c,hTO⟩,⟨o1,e1,c1,d1⟩,⟨o2,e2,c2,d2⟩⟩:=st
    have:b=z∨b=TI∨b=TO∨b=i1∨b=i2:=by simpa using hb
    rcases this with rfl | rfl | rfl | rfl | rfl
    · exact ⟨_,hz,fun v q=>by cases q⟩
    · exact ⟨_,hTI,fun v q=>by cases q⟩
    · exact ⟨_,hTO,fun v q=>by cases q⟩
    · exact ⟨o1,e1,fun v q=>by rw [d1] at q; cases q⟩
    · exact ⟨o2,e2,fun v q=>by rw [d2] at q; cases q⟩
  keep:=fun i h h' st k=>by
    obtain ⟨hz,hTI,⟨a,c,hTO⟩,h1,h2⟩:=st
    exact ⟨k z (by simp) _ hz,k TI (by simp) _ hTI,⟨a,c,k TO (by simp) _ hTO⟩,h1.at fun o q=>k i1 (by simp) o q,h2.at fun o q=>k i2 (by simp) o q⟩
  item:=by
    intro X hP hw hK hc i pins s σ H E I hf st hg
    subst hP hw hK
    obtain ⟨hz,hTI,⟨a,c,hTO⟩,h1,h2⟩:=st
    obtain ⟨xs,ys,x,y,hq1,hq2,hx,hy⟩:=hg
    obtain ⟨its1,rv1,p1,hz1⟩:=I.list hq1
    obtain ⟨its2,rv2,p2,hz2⟩:=I.list hq2
    obtain ⟨u,hu,ru⟩:=rv1.get hx
    obtain ⟨v,hv,rv⟩:=rv2.get hy
    have DD:=D.all hz hTO h1 h2 p1.isList p2.isList
    refine wpAny_pyNext_zip_item DD hz hTI hTO h1 h2 p1.isList p2.isList (x:=u) (y:=v) (by simpa using hu) (by simpa using hv) fun h₁ hzo hTO₁ h1₁ h2₁ hT₁ hsz₁ hk₁=>?_
    refine ⟨_,rfl,wpAny_letOwnedTupleGo_zip hzo fun h₂ hz₂ hs₂=>?_⟩
    have hzlt:z<s.heap.objs.size:=Heap.lt_size hz
    have keep : ∀ b o,b ∉ [z,TI,TO,i1,i2]→s.heap.get? b=some o→h₂.get? b=some o:=fun b o hb q=>by
      have n1:b≠z:=fun e=>hb (by simp [e])
      have n2:b≠TO:=fun e=>hb (by simp [e])
      have n3:b≠i1:=fun e=>hb (by simp [e])
      have n4:b≠i2:=fun e=>hb (by simp [e])
      exact (hs₂.2 b n1).trans (hk₁ b o n1 n2 n3 n4 q)
    have htup:IsTup h₂ s.heap.objs.size #[u,v]:=⟨_,(hs₂.2 _ (Nat.ne_of_gt hzlt)).trans hT₁,rfl,_,rfl⟩
    have fp:=I.fpOk (Nat.le_refl _) (I.hok.fresh (Nat.le_refl _))
    have lt : ∀ b∈[z,TI,TO,i1,i2],b<s.heap.objs.size:=fun b hb=>by
      have:b=z∨b=TI∨b=TO∨b=i1∨b=i2:=by simpa using hb
      rcases this with rfl | rfl | rfl | rfl | rfl
      · exact hzlt
      · exact Heap.lt_size hTI
      · exact Heap.lt_size hTO
      · obtain ⟨o,ho,_⟩:=h1; exact Heap.lt_size ho
      · obtain ⟨o,ho,_⟩:=h2; exact Heap.lt_size ho
    refine ⟨.ref s.heap.objs.size,upd H s.heap.objs.size (.tup [x,y]), ?_,rfl,⟨_,x,y,I.hok.fresh (Nat.le_refl _),rfl,rfl,fun zs hzs=>by rw [I.list_inj hzs hq1]; exact hx,fun zs hzs=>by rw [I.list_inj hzs hq2]; exact hy⟩, ?_,fun b hb=>?_⟩
    · exact I.turnedN (t':=s.toks) keep hf fp (Heap.get?_none_of_le (Nat.le_refl _)) ⟨(show (2:Nat)≤sizeLine by decide),[u,v],.cons ru (.cons rv .nil),htup⟩
    · refine ⟨hz₂,(hs₂.2 TI D.TIz).trans (hk₁ TI _ D.TIz D.TITO D.TIi1 D.TIi2 hTI),⟨u,v,(hs₂.2 TO D.TOz).trans hTO₁⟩,h1₁.at fun o q=>(hs₂.2 i1 D.i1z).trans q,h2₁.at fun o q=>(hs₂.2 i2 D.i2z).trans q⟩
    · rw [upd_ne (Nat.ne_of_lt (lt b hb))]; exact (hf b hb).1
  done:=by
    intro X hP hw hK hc i pins s σ H E I hf st hg
    subst hP hw hK
    obtain ⟨hz,hTI,⟨a,c,hTO⟩,h1,h2⟩:=st
    obtain ⟨xs,ys,hq1,hq2,hx⟩:=hg
    obtain ⟨its1,rv1,p1,hz1⟩:=I.list hq1
    obtain ⟨its2,rv2,p2,hz2⟩:=I.list hq2
    have hl1:=rv1.length
    have hl2:=rv2.length
    have DD:=D.all hz hTO h1 h2 p1.isList p2.isList
    refine wpAny_pyNext_zip_end (I.ok.hd hc) DD hz hTI hTO h1 h2 p1.isList p2.isList ?_ fun h' hk=>⟨rfl,I.turnedM (t':=s.toks) (fun b o hb q=>?_) hf⟩
    · rcases hx with hx | hx
      · exact .inl (by simp; omega)
      · exact .inr (by simp; omega)
    · exact hk b o (fun e=>hb (by simp [e])) (fun e=>hb (by simp [e])) (fun e=>hb (by simp [e])) (fun e=>hb (by simp [e])) q
  self:=fun _ _ _ _ _ st h=>wpAny_pyIter_zip st.1 h
noncomputable def iZip (K:PySem.W.Frag)(ta:TA):TI:=fun σ H R=>ta σ H fun vs H1=>∃ a b,vs=[.ref a,.ref b]∧(∃ xs,SqL K H1 a xs)∧(∃ xs,SqL K H1 b xs)∧R (Itz K a b) H1
theorem pi_zip {X:Cx}{a b:Expr}{ta:TA}{p pos:Pos}{ts:List Expr}{tk:Nat}{tp:Pos}(hg:Gl X "zip")(hm:X.mg "zip"=none)(ha:PA X [a,b] ta)(hs:DL.isStar a=false)(hs2:DL.noStars [b]=true) :
    PI X (.Tuple ts tk tp) (.Call (.Name "zip" p) [a,b] [] pos) (iZip X.K ta):=by
  intro pins s σ H R I h
  refine Call_ (ld_blt I hg hm boot_zip (PyProof.Rows.callWith_type1 (thn5 (ha pos pins s σ H _ I h) fun us s1 vs H1 I1 r1 q1=>?_) (DL.star_cons hs) (DL.star_none hs2)))
  obtain ⟨l1,l2,e,⟨xs,hq1⟩,⟨ys,hq2⟩,q⟩:=q1
  subst e
  cases r1 with
  | cons r rr =>
    cases rr with
    | cons r2 rr2 =>
    cases rr2
    cases r
    cases r2
    obtain ⟨its1,rv1,p1,hz1⟩:=I1.list hq1
    obtain ⟨its2,rv2,p2,hz2⟩:=I1.list hq2
    refine call_zip_2 p1.isList p2.isList fun h' hz hTI hTO h1 h2 hsz hk=>?_
    refine wpAny_pyIter_zip hz ?_
    refine ⟨s1.heap.objs.size+4,[s1.heap.objs.size+4,s1.heap.objs.size+2,s1.heap.objs.size+3,s1.heap.objs.size,s1.heap.objs.size+1],_,_,H1,rfl,I1.kept (t':=s1.toks) hk,turn_zip l1 l2 (s1.heap.objs.size+4) (s1.heap.objs.size+2) (s1.heap.objs.size+3) s1.heap.objs.size (s1.heap.objs.size+1) ⟨Nat.ne_of_lt (by omega),Nat.ne_of_lt (by omega),Nat.ne_of_lt (by omega),Nat.ne_of_lt (by omega),Nat.ne_of_lt (by omega),Nat.ne_of_gt (by omega),Nat.ne_of_gt (by omega),Nat.ne_of_gt (by omega),Nat.ne_of_gt (by omega),Nat.ne_of_lt (by omega)⟩,⟨hz,hTI,⟨_,_,hTO⟩,h1,h2⟩,fun b hb=>?_,q⟩
    have hb':b=s1.heap.objs.size+4∨b=s1.heap.objs.size+2∨b=s1.heap.objs.size+3∨b=s1.heap.objs.size∨b=s1.heap.objs.size+1:=by simpa using hb
    have:s1.heap.objs.size≤b:=by rcases hb' with rfl | rfl | rfl | rfl | rfl <;> first | exact Nat.le_add_right _ _ | exact Nat.le_refl _
    exact I1.fpOk this (I1.hok.fresh this)
end L2
namespace DL
open PySem PySem.Spec PyProof.Rows L2
theorem zipF_some {as:List D}{ds:List D}(h:zipF as=some ds) : ∃ xs ys,as=[.lst xs,.lst ys]∧ds=zipL xs ys:=by
  unfold zipF at h
  split at h
  · cases h; exact ⟨_,_,rfl,rfl⟩
  · cases h
section
variable {T:Tx}{X:XQ}{F:FS}{fa:FA}{De:Ends}{σ:L2.St}{H:Hp}{tg:FG}{g:TG}
theorem tDs_forZ (hg:SndG T tg g)(h:tDs T X (fsForZ zipF tg fa F) De σ H):tFor (iZip T.K (tP T (kA T) fa)) g (tDs T X F) De σ H:=by
  obtain ⟨W,O,env,fl,E,e,q⟩:=h
  unfold fsForZ at e
  cases e1:fa env with
  | none=>rw [e1] at e; cases e
  | some as =>
    rw [e1] at e
    dsimp only [Option.bind_some] at e
    cases e2:zipF as with
    | none=>rw [e2] at e; cases e
    | some zs =>
      rw [e2] at e
      dsimp only [Option.bind_some] at e
      obtain ⟨ds,es,rfl,rfl⟩:=zipF_some e2
      refine ⟨W,O,env,[.lst ds,.lst es],E,e1,fun vs H1 s1 r1=>?_⟩
      obtain ⟨v,r,rfl,rv,rr⟩:=RepL.cons_ r1
      obtain ⟨v2,r2,rfl,rv2,rr2⟩:=RepL.cons_ rr
      cases rr2.nil_
      have E1:=E.mono s1
      have q1:EndsR T X W O H1 De fl:=q.fr (Fr.same s1)
      obtain ⟨a,xs,rfl,hl,rl⟩:=Rep.lst_ rv
      obtain ⟨b,ys,rfl,hl2,rl2⟩:=Rep.lst_ rv2
      have hlen:=rl.length
      have hlen2:=rl2.length
      have hzl:=zipL_len ds es
      refine ⟨a,b,rfl,⟨xs,hl.sq⟩,⟨ys,hl2.sq⟩,fun j m σ' H'=>m=(zipL ds es).length - j∧j≤(zipL ds es).length∧∃ env' O',EnvR T W O' H' env' σ'∧Fr O H1 O' H'∧runFor tg F ((zipL ds es).drop j) env'=some fl,⟨(zipL ds es).length,by simp,Nat.zero_le _,env,O,E1,Fr.refl _ _,e⟩, ?_⟩
      rintro j m σ' H' ⟨rfl,hj,env',O',E',f,e'⟩
      have hlH:=((E1.kp f).ls hl).sq
      have hlH2:=((E1.kp f).ls hl2).sq
      by_cases hlt:j<(zipL ds es).length
      · have j1:j<xs.length:=by omega
        have j2:j<ys.length:=by omega
        refine .inr ⟨⟨xs,ys,xs[j],ys[j],hlH,hlH2,by simp [j1],by simp [j2]⟩,fun σ2 H2=>∃ env' O',EnvR T W O' H2 env' σ2∧Fr O H1 O' H2∧runFor tg F ((zipL ds es).drop (j+1)) env'=some fl,fun σ2 H2 p=>⟨(zipL ds es).length - (j+1),by omega,rfl,hlt,p⟩,fun x H2 y=>?_⟩
        obtain ⟨p,x,y,hp,rfl,rfl,hx,hy⟩:=y
        obtain ⟨d,hd,rd⟩:=rl.getV (hx xs hlH)
        obtain ⟨d2,hd2,rd2⟩:=rl2.getV (hy ys hlH2)
        have s2:Same H' (L2.upd H' p (.tup [x,y])):=same_new hp _
        rw [drop_cons (zipL_get hd hd2)] at e'
        have rd':Rep T (Cl W O') H' d x:=E1.keepD f rd
        have rd2':Rep T (Cl W O') H' d2 y:=E1.keepD f rd2
        exact for_step hg q1 _ ((zipL ds es).drop (j+1)) (fun env2 O2 σ2 H2 E2 g2 e2=>⟨env2,O2,E2,g2,e2⟩) (E'.mono s2) (f.trans (Fr.same s2)) e' (Rep.newT (.cons rd' (.cons rd2' .nil)) hp)
      · refine .inl ⟨⟨xs,ys,hlH,hlH2,by omega⟩, ?_⟩
        rw [List.drop_eq_nil_of_le (by omega)] at e'
        cases e'
        exact q1 σ' H' O' E' f
end
section
variable {X:Cx}{c:Ct}{xq:XQ}{ts:List Expr}{tk:Nat}{tp p ip pos:Pos}{a b:Expr}{fa:FA}{tgf:FG}{gt:TG}{F:FS}{f:FE}{e:Expr}
theorem pds_forZ {body:List Stmt}(hp:PassesOwn (model X.prog X.w) X.A X.env X.xe)(hc:X.calm=true)(sg:SndG (tx X c) tgf gt)(pg:PG X (.Tuple ts tk tp) gt)(hgl:Gl X "zip")(hm:X.mg "zip"=none)(hi:PDA X c [a,b] fa)(hb:PDSs X c xq body F)(hst:isStar a=false:=by rfl)(hst2:noStars [b]=true:=by rfl) :
    PDS X c xq (.For (.Tuple ts tk tp) (.Call (.Name "zip" p) [a,b] [] ip) body [] pos) (fsForZ zipF tgf fa F) :=
  PS.imp (ps_for hp hc (pi_zip hgl hm hi hst hst2) pg hb (folded_no rfl)) fun _ _ _ h=>tDs_forZ sg h
end
end DL
end
section
namespace DL
open PySem PySem.Spec PyProof.Rows L2
structure InstG (K:PySem.W.Frag)(mg:Str→Option Value)(c:Ct)(x:Str)(cs:List Nat):Prop where
  ex : ∃ C,mg x=some (.ref C)∧∀ n Cn,c.cl n=some Cn→Cls K Cn∧PySem.W.findIn K (.ref Cn) "__class__"=some (some (.builtin "object.__class__"))∧PySem.W.specialIn K (.builtin "object.__class__") "__get__"=some (some (.builtin "getset_descriptor.__get__")) ∧
    PySem.W.takesIn K (.builtin "object.__class__")=some true∧PySem.W.mroIn K Cn (.type "object")=some true∧PySem.W.kitOne K (.ref Cn) (.ref C)=some (cs.contains n)
section
variable {X:Cx}{c:Ct}{e:Expr}{f:FE}{pos:Pos}
theorem pd_isinstC {x:Str}{cs:List Nat}{p p2:Pos}(G:InstG X.K X.mg c x cs)(hg:Gl X "isinstance")(hm:X.mg "isinstance"=none)(hg2:Gl X x)(ha:PD X c e f)(he:isStar e=false:=by rfl)(hdb:(x == ("__debug__":Str))=false:=by decide) :
    PD X c (.Call (.Name "isinstance" p) [e,.Name x p2] [] pos) (fp1 (instC cs) f):=by
  obtain ⟨C,hC,hall⟩:=G.ex
  intro pins s σ H Q I h
  refine wpAny_Call_Name_kw (ld_blt I hg hm (show bootBuiltins "isinstance"=some (.builtin "isinstance") by decide +kernel) ?_ (by decide) (by decide))
  have hN:PE X (.Name x p2) (tC (.ref C)):=fun pins s σ H Q I h=>ld_glob I hg2 hC ⟨.ref C,H,I,rfl,h⟩ hdb
  have hA:PA X [e,.Name x p2] (tCons (tP (tx X c) (kD (tx X c)) f) (tCons (tC (.ref C)) tNil)):=pa_cons ha (pa_cons hN pa_nil (star_cons rfl)) (star_cons he)
  obtain ⟨W,O,env,d,E,ee,q⟩:=h
  unfold fp1 at ee
  cases e1:f env with
  | none=>rw [e1] at ee; cases ee
  | some y =>
    rw [e1] at ee
    dsimp only [Option.bind_some] at ee
    cases y with
    | ob n ks ds =>
      cases ee
      refine PyProof.Rows.callWith_builtin1 (thn5 (hA pos pins s σ H (fun vs H1=>∃ v,vs=[v,.ref C]∧Same H H1∧Rep (tx X c) (Cl W O) H1 (.ob n ks ds) v) I ⟨W,O,env,.ob n ks ds,E,e1,fun v H1 s1 r1=>⟨v,rfl,s1,r1⟩⟩) fun us s1 vs H1 I1 r1 zz_=>?_) (star_cons he) (star_none rfl)
      obtain ⟨v,ev,s1',rv⟩:=zz_
      subst ev
      obtain ⟨u,u2,rfl,ru,ru2⟩:=vals2 r1
      cases ru2
      simp only [Rep] at rv
      obtain ⟨a,Cn,dx,fs,rfl,ha',hCn,hH,hk,hrr⟩:=rv
      obtain ⟨g1,g2,g3,g4,g5,g6⟩:=hall n Cn hCn
      exact isinst_ok I1 ru (.ins hH g1 g2 g3 g4 g5) g6 fun tk=>⟨.bl _,H1,I1.tok _,rfl,q _ H1 s1' (Rep.bl _)⟩
    | non=>cases ee
    | bl _=>cases ee
    | int _=>cases ee
    | str _=>cases ee
    | tup _=>cases ee
    | lst _=>cases ee
    | dct _ _=>cases ee
    | exc _=>cases ee
theorem fld_ok {K:PySem.W.Frag}{cs:List Addr}{nms:List Str}{k:Nat}{nm:Str}(hk:nms[k]?=some nm)(hne:nm≠"!")(hd:nms.Nodup)(h : ∀ C∈cs,Cls K C∧NoAttr K C nm):FldOk K ⟨fun n=>cs[n]?,fun i=>nms.getD i "!"⟩ k:=by
  have e:nms.getD k "!"=nm:=by rw [List.getD_eq_getElem?_getD,hk]; rfl
  refine ⟨fun n C hn=>?_,fun k' hk'=>?_⟩
  · have:=h C (List.mem_of_getElem? hn)
    show Cls K C∧NoAttr K C (nms.getD k "!")
    rw [e]; exact this
  · have hk2:nms.getD k' "!"=nm:=by rw [← e]; exact hk'
    rw [List.getD_eq_getElem?_getD] at hk2
    cases h2:nms[k']? with
    | none=>rw [h2] at hk2; exact absurd hk2.symm hne
    | some y =>
      rw [h2] at hk2
      have hy:y=nm:=hk2
      subst hy
      obtain ⟨l1,g1⟩:=List.getElem?_eq_some_iff.mp h2
      obtain ⟨l2,g2⟩:=List.getElem?_eq_some_iff.mp hk
      have pw:=List.pairwise_iff_getElem.mp hd
      rcases Nat.lt_trichotomy k' k with lt | eq | gt
      · exact absurd (g1.trans g2.symm) (pw k' k l1 l2 lt)
      · exact eq
      · exact absurd (g2.trans g1.symm) (pw k k' l2 l1 gt)
noncomputable def spL (K:PySem.W.Frag)(F:List D→Option D):Sp:=fun vs H Q _=>∃ (a:Addr) (ns:List Int),vs=[.ref a]∧SqL K H a (ns.map V.int)∧F [.lst (ns.map .int)]=some (.bl true)∧∀ H',Same H H'→Q (.bl true) H'
theorem spL_D {T:Tx}{F:List D→Option D}{vs:List V}{H:Hp}{Q:VK}{E:XK}(h:spL T.K F vs H Q E):spD T 1 F vs H Q E:=by
  obtain ⟨a,ns,rfl,hS,hF,q⟩:=h
  exact ⟨rfl,fun _=>True,[.lst (ns.map .int)],.bl true,fun _ _=>trivial,.cons (.lst (hS.imp (fun h=>⟨h,trivial⟩) id) (ints_rep ns)) .nil,hF,fun v H' s r=>by rw [r.bl_]; exact q H' s⟩
end
end DL
end
section
namespace DL
open PySem PySem.Spec PyProof.Rows L2
structure UnD (P:Program)(w:World)(K:PySem.W.Frag)(mg:Str→Option Value)(base:Heap)(c:Ct)(f:Addr)(ps:List Str)(k:Nat)(F:List D→Option D):Prop where
  ex : ∃ fd,FnOk P w K mg base CX0 k f fd ps (spD ⟨K,c.cl,c.fld⟩ ps.length F)∧Binds K fd ps []
structure UnF (P:Program)(w:World)(K:PySem.W.Frag)(mg:Str→Option Value)(base:Heap)(c:Ct)(f:Addr)(ps:List Str)(k:Nat)(F:List D→Option (List D)):Prop where
  ex : ∃ fd,FnOk P w K mg base CX0 k f fd ps (spF ⟨K,c.cl,c.fld⟩ ps.length F)∧Binds K fd ps []
section
variable {P:Program}{w:World}{K:PySem.W.Frag}{mg:Str→Option Value}{base:Heap}{c:Ct}
theorem un_of {x qual:Str}{st:Stmt}{fa:Addr}{fd:FuncData}{N ps:List Str}{k:Nat}{F:FS}(Fn:Fun K x qual st fa fd)(S:FnScope N ps (defScope st))(hb:Binds K fd ps [])
    (body:BodyOk P w K mg base c N st k F):UnD P w K mg base c fa ps (k+1) (bodyF N.length F):=⟨fd,fn_of Fn S body,hb⟩
theorem un_ofF {x qual:Str}{st:Stmt}{fa:Addr}{fd:FuncData}{N ps:List Str}{k:Nat}{F:FS}(Fn:Fun K x qual st fa fd)(S:FnScope N ps (defScope st))(hb:Binds K fd ps [])
    (body:BodyOk P w K mg base c N st k F):UnF P w K mg base c fa ps (k+1) (bodyFF N.length F):=by
  refine ⟨fd, ?_,hb⟩
  refine Fn.ok S (fun vs H Q E h=>h.1) fun cdv A outer s H vs Q E hr h=>⟨_,body.ok _ rfl rfl rfl rfl rfl ⟨⟨rfl,rfl,rfl,S.nd⟩,fun _=>rfl,PassesOwn.never⟩ hr, ?_⟩
  exact body_okF (E0:=E) h
theorem un_none {fa:Addr}{fd:FuncData}{ps:List Str}{k:Nat}(hb:Binds K fd ps []):UnD P w K mg base c fa ps k (fun _=>none) :=
  ⟨fd,⟨fun vs H Q E h=>(by obtain ⟨_,_,_,_,_,_,h,_⟩:=h; cases h),fun A outer s H args us vs Q E _ _ _ _ h=>(by obtain ⟨_,_,_,_,_,_,h,_⟩:=h; cases h)⟩,hb⟩
theorem UnD.meth {C f:Addr}{m:Str}{ps:List Str}{n k j i:Nat}{F:List D→Option D}{lay:List Nat}(G:UnD P w K mg base c f ps k F)(hl:ps.length=n+1)(hC:c.cl i=some C)(h1:Cls K C)(h2:Meth K C m f)(hk:k≤j)(hf : ∀ i∈lay,c.fld i≠m) :
    ∃ C f fd ps,c.cl i=some C∧Cls K C∧Meth K C m f∧FnOk P w K mg base CX0 j f fd ps (spD ⟨K,c.cl,c.fld⟩ (n+1) F)∧Binds K fd ps []∧∀ i∈lay,c.fld i≠m:=by
  obtain ⟨fd,g1,g2⟩:=G.ex
  rw [hl] at g1
  exact ⟨C,f,fd,ps,hC,h1,h2,g1.mono hk,g2,hf⟩
theorem UnF.meth {C f:Addr}{m:Str}{ps:List Str}{n k j i:Nat}{F:List D→Option (List D)}{lay:List Nat}(G:UnF P w K mg base c f ps k F)(hl:ps.length=n+1)(hC:c.cl i=some C)(h1:Cls K C)(h2:Meth K C m f)(hk:k≤j)(hf : ∀ i∈lay,c.fld i≠m) :
    ∃ C f fd ps,c.cl i=some C∧Cls K C∧Meth K C m f∧FnOk P w K mg base CX0 j f fd ps (spF ⟨K,c.cl,c.fld⟩ (n+1) F)∧Binds K fd ps []∧∀ i∈lay,c.fld i≠m:=by
  obtain ⟨fd,g1,g2⟩:=G.ex
  rw [hl] at g1
  exact ⟨C,f,fd,ps,hC,h1,h2,g1.mono hk,g2,hf⟩
end
end DL
end
section
namespace DL
open L2
noncomputable def fsClear (j:Nat):FS:=fun env=>match env[j]? with
  | some (.own _)=>some (.nx (env.set j (.own [])))
  | _=>none
@[simp] theorem ev_fsClear (j:Nat)(env:DEnv):fsClear j env=obind (slotO env[j]?) fun _=>some (.nx (env.set j (.own []))):=by
  unfold fsClear slotO
  cases h:env[j]? with
  | none=>rfl
  | some s=>cases s <;> rfl
end DL
end
section
namespace DL
open PySem PySem.Spec PyProof.Rows L2
section
variable {X:Cx}{c:Ct}{xq:XQ}{e:Expr}{f:FE}{pos:Pos}
theorem tDs_clear {T:Tx}{De:Ends}{σ:L2.St}{H:Hp}{j:Nat}(h:tDs T xq (fsClear j) De σ H):tDrop (tBM0 T.K "list" rClear (tVar j)) De σ H:=by
  obtain ⟨W,O,env,fl,E,e,q⟩:=h
  unfold fsClear at e
  split at e
  · rename_i ds es
    cases e
    obtain ⟨a,xs,e1,o,n,hl,rl⟩:=E.own es
    refine ⟨.ref a,e1,.inl ⟨rfl,xs,SqL.of hl⟩,a,xs,rfl,rfl,hl, ?_⟩
    obtain ⟨E2,f2⟩:=E.upd (t:=.own []) (o:=.lst []) es rfl e1 trivial ⟨a,_,rfl,o,n,upd_same,.nil⟩
    exact q _ _ O E2 f2
  · cases e
theorem pds_clear {j:Nat}{y:Str}{p1 p2 p3:Pos}(m:Nm X j y)(hl:(p2.endLine == p3.line)=true:=by rfl) :
    PDS X c xq (.Expr (.Call (.Attribute (.Name y p1) "clear" p2) [] [] p3) pos) (fsClear j) :=
  PS.imp (ps_expr (pe_bm0 PySem.F.plainAttrs_list PySem.F.slot_list_clear PySem.F.type_list_clear mt_clear (pe_var m.hN m.hv m.hd m.hc) rfl hl) (swaps_no rfl)) fun _ _ _ h=>tDs_clear h
end
end DL
end
section
namespace L2
open PySem PySem.Spec PyProof.Rows
section
variable {prog:Program}{w:World}{A:Around}{E:Value→Shared→Prop}{s:Shared}
end
section
variable {prog:Program}{w:World}{A:Around}{E:Value→Shared→Prop}{s:Shared}
end
end L2
namespace DL
open PySem PySem.Spec PyProof.Rows L2
section
variable {T:Tx}{X:XQ}{F:FS}{fa:FA}{De:Ends}{σ:L2.St}{H:Hp}{tg:FG}{g:TG}
end
section
variable {X:Cx}{c:Ct}{xq:XQ}{ts:List Expr}{tk:Nat}{tp p ip pos:Pos}{a b:Expr}{fa:FA}{tgf:FG}{gt:TG}{F:FS}
end
end DL
end
section
namespace DL
open PySem PySem.Spec PyProof.Rows L2
theorem rjust_mk (z:List Nat)(i:Int):Txt.rjust (mkS z) i=mkS (List.replicate (i.toNat - z.length) 32++z):=by
  apply str_ext
  have e:Txt.rjust (mkS z) i=Txt.rjustF (mkS z) i 32:=rfl
  rw [e,rjustF_list,mkS_len]
theorem pad_ok (i:Int)(h1 : -1000000≤i)(h2:i≤1000000):PadOk i=true:=by
  unfold PadOk fitsSsize
  have e1:(decide (i < -(2 ^ 63:Int)) || decide (i ≥ 2 ^ 63))=false:=by simp; omega
  have e2:Builtin.Str.tooLong i.toNat=false:=by
    unfold Builtin.Str.tooLong
    have:(1000000:Nat)≤sizeLine:=by decide
    simp; omega
  rw [e2]
  simp only [Bool.not_false,Bool.and_true]
  rw [e1]; rfl
section
variable {X:Cx}
theorem rjustK:SmK X "rjust" rjustF where
  fl:=fun z y d e=>by
    unfold rjustF at e
    split at e
    · split at e
      · cases e; exact ⟨⟨_,rfl⟩,⟨_,rfl⟩⟩
      · cases e
    · cases e
  mt:=⟨"str.rjust",PySem.F.slot_str_rjust,PySem.F.type_str_rjust,by
    intro pins s σ H x vs v us Q I rx rv h
    obtain ⟨z,y,d,u,w,rfl,rfl,hy,hF,hd,q⟩:=h
    obtain ⟨t,rfl⟩:=rx
    obtain ⟨u',rfl,ru⟩:=vals1 rv
    unfold rjustF at hF
    split at hF
    · next ii =>
      split at hF
      · next hz =>
        cases hF; cases hy; cases hd
        obtain ⟨k,rfl⟩:=ru
        refine SC.rjust (pad_ok _ hz.1 hz.2) (fun t' k'=>?_)
        rw [rjust_mk]
        exact ⟨.str _,H,I.tok _,⟨_,rfl⟩,q⟩
      · cases hF
    · cases hF⟩
end
end DL
end
section
namespace DL
open L2
noncomputable def feSelf (i k:Nat):FE:=fun env=>match env[i]? with
  | some (.obj _ ks ds)=>fldL k ks ds
  | _=>none
@[simp] theorem ev_feSelf (i k:Nat)(env:DEnv):feSelf i k env=obind (slotJ env[i]?) fun p=>fldL k p.2.1 p.2.2:=by
  unfold feSelf slotJ
  cases h:env[i]? with
  | none=>rfl
  | some s=>cases s <;> rfl
end DL
end
section
namespace DL
open PySem PySem.Spec PyProof.Rows L2
section
variable {X:Cx}{c:Ct}{xq:XQ}{pos:Pos}
theorem pd_self {i k:Nat}{x nm:Str}{p1:Pos}(F:FldOk X.K c k)(hn:nm=c.fld k)(n:Nm X i x):PD X c (.Attribute (.Name x p1) nm pos) (feSelf i k):=by
  subst hn
  refine PE.imp (pe_fld (pe_var n.hN n.hv n.hd n.hc) (base_no rfl)) fun σ H Q h=>?_
  obtain ⟨W,O,env,d,E,e1,q⟩:=h
  unfold feSelf at e1
  split at e1
  · next n ks ds hi =>
    obtain ⟨a,C,dx,fs,h1,h2,h3,h4,h5,h6,h7⟩:=E.obj hi
    obtain ⟨u,l,ru⟩:=fld_look F.inj h6 h7 e1
    obtain ⟨g1,g2⟩:=F.cls n C h4
    exact ⟨.ref a,h1,a,C,dx,fs,u,rfl,h5,g1,g2,l,q u H (Same.refl _) ru⟩
  · cases e1
end
end DL
end
section
namespace DL
open L2
noncomputable def raisK:DFl→Option Nat
  | .ex c _=>some c
  | _=>none
noncomputable def bodyX (N:Nat)(F:FS):List D→Option Nat:=fun ds=>(F (envOf N ds)).bind raisK
theorem ev_bodyX (N:Nat)(F:FS)(ds:List D):bodyX N F ds=obind (F (envOf N ds)) raisK:=rfl
noncomputable def xK (env:DEnv)(ok:Option DFl)(x:Option Nat):Option DFl:=match ok with
  | some r=>some r
  | none=>x.map fun c=>.ex c env
noncomputable def fsCallX {α:Type}(k : α→DEnv→DFl)(n:Nat)(F:List D→Option α)(Xf:List D→Option Nat)(f:FA):FS:=fun env=>(f env).bind fun ds=>if ds.length=n then xK env ((F ds).map fun d=>k d env) (Xf ds) else none
theorem ev_fsCallX {α:Type}(k : α→DEnv→DFl)(n:Nat)(F:List D→Option α)(Xf:List D→Option Nat)(f:FA)(env:DEnv):fsCallX k n F Xf f env=obind (f env) (fun ds=>if ds.length=n then xK env (omap (fun d=>k d env) (F ds)) (Xf ds) else none):=rfl
end DL
end
section
namespace DL
open PySem PySem.Spec PyProof.Rows L2
section
variable {M:Model}{A:Around}{E:Value→Shared→Prop}{s:Shared}{Q:Unit→Shared→Prop}{base:Heap}{env:Env}{outer:List Env}{L e t C:Addr}{fl:Value}
end
section
variable {P:Program}{w:World}{K:PySem.W.Frag}{mg:Str→Option Value}{base:Heap}{c:Ct}
end
end DL
end
section
namespace DL
open PySem PySem.Spec PyProof.Rows L2
section
variable {X:Cx}{c:Ct}{xq:XQ}{a b e:Expr}{f g:FE}{pos:Pos}
end
section
variable {K:PySem.W.Frag}{prog:Program}{w:World}{A:Around}{E:Value→Shared→Prop}{s:Shared}{x Cn:Addr}{ox:Obj}
  (hga:PySem.W.findIn K (.ref Cn) "__getattribute__"=some (some (.builtin "BaseException.__getattribute__"))) (hgt:PySem.W.findIn K (.ref Cn) "__getattr__"=some none)
  (hm:PySem.W.mroIn K Cn (.type "object")=some true) (hmB:PySem.W.mroIn K Cn (.type "BaseException")=some true)
  (hf:PySem.W.findObj K Cn none "__class__"=some (.bind (.builtin "getset_descriptor.__get__") (.builtin "object.__class__"))) (X:K.In s.heap) (I:PySem.W.InstAt s.heap x ox Cn none)
include hga hgt hm hmB hf X I
end
section
variable {X:Cx}{c:Ct}{xq:XQ}{a b e:Expr}{f g:FE}{pos:Pos}
end
end DL
end
section
namespace L2
open PySem PySem.Spec PyProof.Rows
section
variable {prog:Program}{w:World}{A:Around}{E:Value→Shared→Prop}{s:Shared}{Q:Value→Shared→Prop}
end
section
variable {X:Cx}
end
section
variable {X:Cx}
end
end L2
namespace DL
open PySem PySem.Spec PyProof.Rows L2
section
variable {X:Cx}{c:Ct}{xq:XQ}{a b e o:Expr}{f g:FE}{pos:Pos}
section
variable {prog:Program}{w:World}{A:Around}{E:Value→Shared→Prop}{s:Shared}{Q:Value→Shared→Prop}
end
end
end DL
end
section
namespace DL
open PySem PySem.Spec PyProof.Rows L2
section
variable {X:Cx}{c:Ct}{xq:XQ}{e:Expr}{pos:Pos}{α:Type}{ρ:RK α V}{k kk:Nat}{x:Str}{ps:List Str}{F:List D→Option α}{Xf:List D→Option Nat}{es:List Expr}{fs:FA}{p1 p2:Pos}
end
section
variable {X:Cx}{c:Ct}{xq:XQ}{e:Expr}{pos:Pos}{k kk:Nat}{x:Str}{ps:List Str}{Xf:List D→Option Nat}{es:List Expr}{fs:FA}{p1 p2:Pos}
end
end DL
end
section
namespace DL
open PySem PySem.Spec PyProof.Rows L2
section
variable {X:Cx}{c:Ct}{xq:XQ}{a b e:Expr}{f g:FE}{pos:Pos}
end
end DL
end
section
namespace DL
open L2
end DL
end
section
namespace DL
open PySem PySem.Spec PyProof.Rows L2
section
variable {X:Cx}{c:Ct}{xq:XQ}{e:Expr}{es:List Expr}{fa:FA}{pos:Pos}
end
theorem envOf_slot {N:Nat}{ds:List D}{j:Nat}{s:Slot}(ej:(envOf N ds)[j]?=some s):s=.no∨∃ d,s=.val d:=by
  unfold envOf at ej
  by_cases hj:j<ds.length
  · rw [List.getElem?_append_left (by simpa using hj),List.getElem?_map] at ej
    cases e2:ds[j]? with
    | none=>rw [e2] at ej; cases ej
    | some d=>rw [e2] at ej; cases ej; exact .inr ⟨d,rfl⟩
  · rw [List.getElem?_append_right (by simpa using hj),List.getElem?_replicate] at ej
    split at ej
    · cases ej; exact .inl rfl
    · cases ej
section
variable {P:Program}{w:World}{K:PySem.W.Frag}{mg:Str→Option Value}{base:Heap}{c:Ct}
end
end DL
end
section
namespace DL
open L2
noncomputable def runComp2 (tg:FG)(fe:FP (List D))(env:DEnv):List D→Option (List (List D))
  | []=>some []
  | d::ds=>(tg d env).bind fun e=>(fe e).bind fun y=>(runComp2 tg fe env ds).bind fun r=>some (y::r)
noncomputable def ffComp2 (nt:Nat)(cap:List Nat)(tg:FG)(fi:FE)(fe:FP (List D)):FP (List (List D)):=fun env=>(fi env).bind fun x=>(seqD x).bind fun ds=>if ds.length≤1000000 then runComp2 tg fe (capE nt cap env) ds else none
noncomputable def fsOwn2 (i:Nat)(f:FP (List (List D))):FS:=fun env=>(f env).map fun dss=>.nx (env.set i (.own2 dss))
noncomputable def Slot.is2:Slot→Bool
  | .own2 _=>true
  | _=>false
noncomputable def no2 (i:Nat)(env:DEnv):Bool:=(env.set i .no).all fun s=>!s.is2
noncomputable def ftLend2 (i:Nat)(ft:FT):FT:=fun env=>match env[i]? with
  | some (.own2 dss)=>if no2 i env=true then ft (env.set i (.val (.lst (dss.map .lst)))) else none
  | _=>none
noncomputable def fsTake (i j:Nat):FS:=fun env=>match env[j]? with
  | some (.own2 (ds::r))=>if no2 j env=true then some (.nx ((env.set j (.ownU (r.length+1))).set i (.own ds))) else none
  | _=>none
noncomputable def fsItemU (i:Nat)(fk fv:FE):FS:=fun env=>match env[i]? with
  | some (.ownU n)=>(fv env).bind fun _=>(fk env).bind fun k=>(intV k).bind fun k=>(ixN n k).map fun _=>.nx (env.set i (.ownU n))
  | _=>none
noncomputable def fpMakeR2 (k n:Nat)(I:IFn)(j:Nat)(fa:FA):FE:=fun env=>match env[j]? with
  | some (.own2 dss)=>(fa env).bind fun as=>if as.length=n then (I k (.lst (dss.map .lst)::as)).map fun p=>.ob k p.1 p.2 else none
  | _=>none
noncomputable def listsD:List D→Option (List (List D))
  | []=>some []
  | .lst ds::r=>(listsD r).map (ds::·)
  | _=>none
theorem listsD_map (dss:List (List D)):listsD (dss.map .lst)=some dss:=by
  induction dss with
  | nil=>rfl
  | cons d r ih=>show (listsD (r.map .lst)).map _=_; rw [ih]; rfl
noncomputable def bodyIR2 (N:Nat)(F:FS):IFn:=fun k as=>match as with
  | .lst ds::r=>(listsD ds).bind fun dss=>(F (.obj k [] []::.red2 dss::envOf N r)).bind (objK k)
  | _=>none
theorem ev_bodyIR2 (N:Nat)(F:FS)(k:Nat)(dss:List (List D))(r:List D):bodyIR2 N F k (.lst (dss.map .lst)::r)=obind (F (.obj k [] []::.red2 dss::envOf N r)) (objK k):=by
  unfold bodyIR2
  dsimp only
  rw [listsD_map,Option.bind_some]
  cases F (.obj k [] []::.red2 dss::envOf N r) <;> rfl
noncomputable def tgRed (i:Nat):FG:=fun d env=>match d with
  | .lst ds=>some (env.set i (.red ds))
  | _=>none
noncomputable def ffCompI (nt:Nat)(cap:List Nat)(j:Nat)(fe:FE):FP (List D):=fun env=>match env[j]? with
  | some (.red2 dss)=>if dss.length≤1000000 then runComp (tgRed 0) ftYes fe (capE nt cap env) (dss.map .lst) else none
  | _=>none
noncomputable def slot2:Option Slot→Option (List (List D))
  | some (.own2 dss)=>some dss
  | _=>none
@[simp] theorem slot2_own (dss:List (List D)):slot2 (some (.own2 dss))=some dss:=(Eq.refl _).trans (Eq.refl _)
noncomputable def slot2r:Option Slot→Option (List (List D))
  | some (.red2 dss)=>some dss
  | _=>none
@[simp] theorem slot2r_red (dss:List (List D)):slot2r (some (.red2 dss))=some dss:=(Eq.refl _).trans (Eq.refl _)
@[simp] theorem ev_ffComp2 (nt:Nat)(cap:List Nat)(tg:FG)(fi:FE)(fe:FP (List D))(env:DEnv):ffComp2 nt cap tg fi fe env=obind (fi env) (fun x=>obind (seqD x) (fun ds=>if ds.length≤1000000 then runComp2 tg fe (capE nt cap env) ds else none)):=(Eq.refl _).trans (Eq.refl _)
@[simp] theorem ev_fsOwn2 (i:Nat)(f:FP (List (List D)))(env:DEnv):fsOwn2 i f env=omap (fun dss=>.nx (env.set i (.own2 dss))) (f env):=(Eq.refl _).trans (Eq.refl _)
@[simp] theorem ev_ftLend2 (i:Nat)(ft:FT)(env:DEnv):ftLend2 i ft env=obind (slot2 env[i]?) fun dss=>if no2 i env=true then ft (env.set i (.val (.lst (dss.map .lst)))) else none:=by
  unfold ftLend2
  cases env[i]? with
  | none=>rfl
  | some s=>cases s <;> rfl
@[simp] theorem ev_fsTake (i j:Nat)(env:DEnv)(ds:List D)(r:List (List D))(h:env[j]?=some (.own2 (ds::r)))(h2:no2 j env=true):fsTake i j env=some (.nx ((env.set j (.ownU (r.length+1))).set i (.own ds))):=by
  unfold fsTake; rw [h]; exact if_pos h2
noncomputable def slotU:Option Slot→Option Nat
  | some (.ownU n)=>some n
  | _=>none
@[simp] theorem slotU_own (n:Nat):slotU (some (.ownU n))=some n:=(Eq.refl _).trans (Eq.refl _)
@[simp] theorem ev_fsItemU (i:Nat)(fk fv:FE)(env:DEnv):fsItemU i fk fv env=obind (slotU env[i]?) fun n=>obind (fv env) fun _=>obind (fk env) fun k=>obind (intV k) fun k=>omap (fun _=>.nx (env.set i (.ownU n))) (ixN n k):=by
  unfold fsItemU
  cases env[i]? with
  | none=>rfl
  | some s =>
    cases s with
    | ownU n =>
      show (fv env).bind _=obind (some n) _
      rw [obind_some]
      cases fv env with
      | none=>rfl
      | some v=>cases fk env <;> rfl
    | _=>rfl
@[simp] theorem ev_fpMakeR2 (k n:Nat)(I:IFn)(j:Nat)(fa:FA)(env:DEnv):fpMakeR2 k n I j fa env=obind (slot2 env[j]?) fun dss=>obind (fa env) fun as=>if as.length=n then omap (fun p:List Nat × List D=>.ob k p.1 p.2) (I k (.lst (dss.map .lst)::as)) else none:=by
  unfold fpMakeR2
  cases h:env[j]? with
  | none=>rfl
  | some s =>
    cases s with
    | own2 dss =>
      show (fa env).bind _=obind (some dss) _
      rw [obind_some]
      cases fa env <;> rfl
    | _=>rfl
@[simp] theorem ev_ffCompI (nt:Nat)(cap:List Nat)(j:Nat)(fe:FE)(env:DEnv):ffCompI nt cap j fe env=obind (slot2r env[j]?) fun dss=>if dss.length≤1000000 then runComp (tgRed 0) ftYes fe (capE nt cap env) (dss.map .lst) else none:=by
  unfold ffCompI
  cases env[j]? with
  | none=>rfl
  | some s=>cases s <;> rfl
noncomputable abbrev JFn:=Nat→List Nat→List D→List D→Option (List Nat × List D)
noncomputable def fsBaseJ (i n:Nat)(J:JFn)(fa:FA):FS:=fun env=>match env[i]? with
  | some (.obj c ks ds)=>(fa env).bind fun as=>if as.length=n then (J c ks ds as).map fun p=>.nx (env.set i (.obj c p.1 p.2)) else none
  | _=>none
noncomputable def bodyJ (N:Nat)(F:FS):JFn:=fun k ks ds as=>(F (.obj k ks ds::envOf N as)).bind (objK k)
theorem ev_bodyJ (N:Nat)(F:FS)(k:Nat)(ks:List Nat)(ds as:List D):bodyJ N F k ks ds as=obind (F (.obj k ks ds::envOf N as)) (objK k):=(Eq.refl _).trans (Eq.refl _)
@[simp] theorem ev_fsBaseJ (i n:Nat)(J:JFn)(fa:FA)(env:DEnv):fsBaseJ i n J fa env=obind (slotJ env[i]?) fun p=>obind (fa env) fun as=>if as.length=n then omap (fun r:List Nat × List D=>.nx (env.set i (.obj p.1 r.1 r.2))) (J p.1 p.2.1 p.2.2 as) else none:=by
  unfold fsBaseJ
  cases env[i]? with
  | none=>rfl
  | some s =>
    cases s with
    | obj c ks ds =>
      show (fa env).bind _=obind (some _) _
      rw [obind_some]
      cases fa env <;> rfl
    | _=>rfl
noncomputable def ffCompZ (zf:List D→Option (List D))(nt:Nat)(cap:List Nat)(tg:FG)(fa:FA)(fe:FE):FP (List D):=fun env=>(fa env).bind fun as=>(zf as).bind fun ds=>if ds.length≤1000000 then runComp tg ftYes fe (capE nt cap env) ds else none
@[simp] theorem ev_ffCompZ (zf:List D→Option (List D))(nt:Nat)(cap:List Nat)(tg:FG)(fa:FA)(fe:FE)(env:DEnv):ffCompZ zf nt cap tg fa fe env=obind (fa env) (fun as=>obind (zf as) (fun ds=>if ds.length≤1000000 then runComp tg ftYes fe (capE nt cap env) ds else none)):=(Eq.refl _).trans (Eq.refl _)
noncomputable def extL2 (ds es:List D):Option (List D):=if ds.length+es.length≤1000000 then some (ds++es) else none
noncomputable def fsExtL (i:Nat)(f:FP (List D)):FS:=fsMutG i extL2 f
@[simp] theorem ev_fsExtL (i:Nat)(f:FP (List D))(env:DEnv):fsExtL i f env=obind (slotO env[i]?) fun ds=>obind (f env) fun es=>if ds.length+es.length≤1000000 then some (.nx (env.set i (.own (ds++es)))) else none:=by
  unfold fsExtL fsMutG
  cases env[i]? with
  | none=>rfl
  | some s =>
    cases s with
    | own ds =>
      show (f env).bind _=obind (some ds) _
      rw [obind_some]
      cases f env with
      | none=>rfl
      | some es =>
        show (extL2 ds es).map _=_
        unfold extL2
        rw [obind_some]
        split <;> rfl
    | _=>rfl
end DL
end
section
namespace DL
open PySem PySem.Spec PyProof.Rows L2
noncomputable def kF2 (T:Tx):RK (List (List D)) V:=fun A H0 H dss v=>∃ a bs,v=.ref a∧H0 a=none∧H a=some (.lst (bs.map V.ref))∧a ∉ bs∧Inl (fun ds b=>H0 b=none∧∃ ys,H b=some (.lst ys)∧RepL T (fun c=>A c∧c≠a∧c ∉ bs) H ds ys) dss bs
section
variable {T:Tx}{W:Wf}{O O':Addr→Prop}{H H':Hp}{env:DEnv}{σ:L2.St}
theorem Inl.nil {P:List D→Addr→Prop}:Inl P [] []:=⟨rfl,fun k ds b e=>by simp at e⟩
theorem Inl.snoc {P:List D→Addr→Prop}{dss:List (List D)}{bs:List Addr}(h:Inl P dss bs){ds:List D}{b:Addr}(p:P ds b):Inl P (dss++[ds]) (bs++[b]):=by
  refine ⟨by simp [h.len],fun k es c e1 e2=>?_⟩
  by_cases hk:k<dss.length
  · rw [List.getElem?_append_left hk] at e1
    rw [List.getElem?_append_left (h.len ▸ hk)] at e2
    exact h.at_ k es c e1 e2
  · rw [List.getElem?_append_right (by omega)] at e1
    rw [List.getElem?_append_right (by rw [← h.len]; omega), ← h.len] at e2
    cases hz:k - dss.length with
    | zero=>rw [hz] at e1 e2; cases e1; cases e2; exact p
    | succ m=>rw [hz] at e1; simp at e1
theorem EnvR.claims (E:EnvR T W O H env σ)(s:Same H H'){P:Addr→Prop}(hn : ∀ b,P b→H b=none)(hm : ∀ b,P b→Mu (H' b)):EnvR T W (fun b=>O b∨P b) H' env σ:=by
  have f:Fr O H (fun b=>O b∨P b) H':=⟨fun b u h _=>s b u h,fun b h=>h.elim .inl fun e=>.inr (hn b e),fun b h=>s.free h⟩
  have E1:=E.mono s
  refine ⟨E.fr.trans f,E.new,fun b z=>z.elim (E1.mu b) (hm b),fun i t e=>(E.slot i t e).kp (E.kp f) (fun _ z=>.inl z) (fun b hs ev=>?_) (fun dss c bs b et ev q hb=>?_),E.inj,E.len,E1.inj2⟩
  · obtain ⟨c,eb,o⟩:=(E.slot i t e).at_own hs
    rw [ev] at eb; cases eb
    have:=E.mu b o
    cases e:H b with
    | none=>rw [e] at this; exact this.elim
    | some u=>exact s b u e
  · subst et
    obtain ⟨_,_,ys,z⟩:=(E.slot i _ e).inner ev q hb
    rw [z]; exact s b _ z
theorem EnvR.some_ (E:EnvR T W O H env σ){a:Addr}(o:O a):H a≠none:=fun z=>by have:=E.mu a o; rw [z] at this; exact this
theorem tDs_own2 {X:XQ}{De:Ends}{i:Nat}{f:FP (List (List D))}(h:tDs T X (fsOwn2 i f) De σ H):tAsg (tP T (kF2 T) f) (gName i) De σ H:=by
  obtain ⟨W,O,env,fl,E,e,q⟩:=h
  unfold fsOwn2 at e
  cases e1:f env with
  | none=>rw [e1] at e; cases e
  | some dss =>
    rw [e1] at e
    cases e
    refine ⟨W,O,env,dss,E,e1,fun v H' s r=>?_⟩
    obtain ⟨a,bs,rfl,n,hl,nin,r⟩:=r
    have hbn : ∀ b,b∈bs→H b=none:=fun b hb=>by obtain ⟨_,z,_⟩:=r.mem hb; exact z
    have hbm : ∀ b,b∈bs→∃ ys,H' b=some (.lst ys):=fun b hb=>by obtain ⟨_,_,ys,z,_⟩:=r.mem hb; exact ⟨ys,z⟩
    have E':=E.claims (P:=fun b=>b=a∨b∈bs) s (fun b z=>z.elim (fun w=>w ▸ n) (hbn b)) (fun b z=>z.elim (fun w=>by rw [w,hl]; trivial) fun w=>by obtain ⟨ys,z⟩:=hbm b w; rw [z]; trivial)
    have f:Fr O H (fun b=>O b∨b=a∨b∈bs) H':=⟨fun b o h _=>s b o h,fun b z=>z.elim .inl fun w=>.inr (w.elim (fun w=>w ▸ n) (hbn b)),fun b h=>s.free h⟩
    refine q (σ.set i (some (.ref a))) H' (fun b=>O b∨b=a∨b∈bs) ⟨E'.fr,E'.new,E'.mu,fun j t et=>?_,fun j l t u b e2 e3 o2 o3 s2 s3=>?_,by simp [E.len],fun j l dss' t c bs' b e2 e3 q3 hb e4 o4=>?_⟩ f
    · rcases set_slot et with ⟨rfl,rfl,hil⟩ | ⟨hij,et⟩
      · rw [List.getElem?_set_self (by rw [← E.len]; exact hil)]
        refine ⟨a,bs,rfl,.inr (.inl rfl),E.fr.dom a n,hl,r.imp fun ds b hb z=>?_⟩
        obtain ⟨z1,ys,z2,z3⟩:=z
        exact ⟨.inr (.inr hb),E.fr.dom b z1,ys,z2,z3.mono (Same.refl _) fun c w=>⟨w.1.1,fun z=>z.elim w.1.2 fun z=>z.elim w.2.1 w.2.2⟩⟩
      · rw [List.getElem?_set_ne hij]; exact E'.slot j t et
    · have key : ∀ {k:Nat} {v:Slot},env[k]?=some v→v.isOwn=true→σ[k]?≠some (some (.ref a)):=fun {k v} ek ov z=>by
        obtain ⟨c,ec,oc⟩:=(E.slot k v ek).at_own ov
        rw [z] at ec; cases ec
        exact E.some_ oc n
      rcases set_slot e2 with ⟨h1,h2,hil⟩ | ⟨hij,e2⟩
      · rcases set_slot e3 with ⟨h3,h4,_⟩ | ⟨hil',e3⟩
        · exact h1.symm.trans h3
        · subst h1
          rw [List.getElem?_set_self (by rw [← E.len]; exact hil)] at s2; cases s2
          rw [List.getElem?_set_ne hil'] at s3
          exact absurd s3 (key e3 o3)
      · rw [List.getElem?_set_ne hij] at s2
        rcases set_slot e3 with ⟨h3,h4,hil⟩ | ⟨hil',e3⟩
        · subst h3
          rw [List.getElem?_set_self (by rw [← E.len]; exact hil)] at s3; cases s3
          exact absurd s2 (key e2 o2)
        · rw [List.getElem?_set_ne hil'] at s3
          exact E.inj j l t u b e2 e3 o2 o3 s2 s3
    · have key : ∀ {k:Nat} {v:Slot} {b:Addr},env[k]?=some v→v.isOwn=true→H b=none→σ[k]?≠some (some (.ref b)):=fun {k v b} ek ov hb z=>by
        obtain ⟨c,ec,oc⟩:=(E.slot k v ek).at_own ov
        rw [z] at ec; cases ec
        exact E.some_ oc hb
      rcases set_slot e2 with ⟨h1,h2,hil⟩ | ⟨hij,e2⟩
      · subst h1
        rw [List.getElem?_set_self (by rw [← E.len]; exact hil)] at e3; cases e3
        rw [hl] at q3
        have hbb:b∈bs:=by
          have:=HO.lst.inj (Option.some.inj q3)
          have hm:V.ref b∈bs.map V.ref:=by rw [this]; exact List.mem_map.mpr ⟨b,hb,rfl⟩
          obtain ⟨b',hb',eb⟩:=List.mem_map.mp hm
          cases eb; exact hb'
        rcases set_slot e4 with ⟨h3,h4,hil'⟩ | ⟨hil',e4⟩
        · subst h3
          rw [List.getElem?_set_self (by rw [← E.len]; exact hil')]
          intro z; cases z; exact nin hbb
        · rw [List.getElem?_set_ne hil']
          exact key e4 o4 (hbn b hbb)
      · rw [List.getElem?_set_ne hij] at e3
        rcases set_slot e4 with ⟨h3,h4,hil'⟩ | ⟨hil',e4⟩
        · subst h3
          rw [List.getElem?_set_self (by rw [← E.len]; exact hil')]
          intro z; cases z
          obtain ⟨c',ec,oc⟩:=(E.slot j _ e2).at_own rfl
          rw [e3] at ec; cases ec
          have hc:H c=some (.lst (bs'.map V.ref)):=by
            cases e:H c with
            | none=>exact absurd e (E.some_ oc)
            | some u=>rw [s c u e] at q3; exact q3
          obtain ⟨_,_,ys,z⟩:=(E.slot j _ e2).inner (by rw [e3]; rfl) hc hb
          rw [n] at z; cases z
        · rw [List.getElem?_set_ne hil']
          exact E'.inj2 j l dss' t c bs' b e2 e3 q3 hb e4 o4
theorem EnvR.freeze2 (E:EnvR T W O H env σ){i:Nat}{dss:List (List D)}(es:env[i]?=some (.own2 dss))(h2:no2 i env=true) : ∃ O',EnvR T W O' H (env.set i (.val (.lst (dss.map .lst)))) σ:=by
  obtain ⟨a,bs,e1,o,n,hl,r⟩:=E.slot i _ es
  have e1':=join_some e1
  have f:Fr O H (fun b=>O b∧b≠a∧b ∉ bs) H:=⟨fun b o h _=>h,fun b z=>.inl z.1,fun b h=>h⟩
  have k:Kp (Cl W O) (Cl W fun b=>O b∧b≠a∧b ∉ bs) O H H:=E.kp f
  have old : ∀ {j:Nat} {u:Slot},(env.set i (Slot.val (.lst (dss.map .lst))))[j]?=some u→u.isOwn=true→i≠j∧env[j]?=some u:=fun {j u} e' o'=>by
    rcases set_slot e' with ⟨_,rfl,_⟩ | ⟨h,e'⟩
    · cases o'
    · exact ⟨h,e'⟩
  have oOk : ∀ {j:Nat} {u:Slot} {b:Addr},i≠j→env[j]?=some u→u.isOwn=true→(σ[j]?).join=some (.ref b)→O b→O b∧b≠a∧b ∉ bs:=fun {j u b} hij ej ou eb ob =>
    ⟨ob,fun z=>by subst z; exact hij (E.inj i j _ _ b es ej rfl ou e1' (join_some eb)),fun z=>E.inj2 i j dss u a bs b es e1' hl z ej ou (join_some eb)⟩
  refine ⟨fun b=>O b∧b≠a∧b ∉ bs,⟨E.fr.trans f,E.new,fun b z=>E.mu b z.1,fun j t et=>?_,fun j l t u b e2 e3 o2 o3 s2 s3=>E.inj j l t u b (old e2 o2).2 (old e3 o3).2 o2 o3 s2 s3,by simp [E.len],fun j l dss' u a' bs' b e2 e3 q3 hb e4 o4=>E.inj2 j l dss' u a' bs' b (old e2 rfl).2 e3 q3 hb (old e4 o4).2 o4⟩⟩
  rcases set_slot et with ⟨rfl,rfl,_⟩ | ⟨hij,et⟩
  · refine ⟨.ref a,e1,Rep.lst (.inl ⟨.inl hl,E.new a n,fun z=>z.2.1 rfl⟩) ?_⟩
    have go : ∀ (dss:List (List D)) (bs':List Addr),(∀ b∈bs',b∈bs)→Inl (fun ds b=>O b∧W.H0 b=none∧∃ ys,H b=some (.lst ys)∧RepL T (Cl W O) H ds ys) dss bs'→RepL T (Cl W fun b=>O b∧b≠a∧b ∉ bs) H (dss.map .lst) (bs'.map V.ref):=by
      intro dss
      induction dss with
      | nil =>
        intro bs' _ h
        have:bs'=[]:=List.length_eq_zero_iff.mp h.len.symm
        subst this; exact .nil
      | cons ds r ih =>
        intro bs' hs h
        cases bs' with
        | nil=>have:=h.len; simp at this
        | cons b bs' =>
          obtain ⟨z1,z2,ys,z3,z4⟩:=h.at_ 0 ds b rfl rfl
          refine .cons (Rep.lst (.inl ⟨.inl z3,E.new b z2,fun z=>z.2.2 (hs b List.mem_cons_self)⟩) (z4.kp k)) (ih bs' (fun c hc=>hs c (List.mem_cons_of_mem _ hc)) ⟨by have:=h.len; simpa using this,fun m es c h1 h2=>h.at_ (m+1) es c (by simpa using h1) (by simpa using h2)⟩)
    exact go dss bs (fun _ z=>z) r
  · have hs:=E.slot j t et
    cases t with
    | no=>trivial
    | val d=>obtain ⟨u,eu,ru⟩:=hs; exact ⟨u,eu,ru.kp k⟩
    | own es'=>obtain ⟨b,ys,eb,ob,nb,hb,rb⟩:=hs; exact ⟨b,ys,eb,oOk hij et rfl eb ob,nb,hb,rb.kp k⟩
    | ownU m=>obtain ⟨b,ys,eb,ob,nb,hb,lb⟩:=hs; exact ⟨b,ys,eb,oOk hij et rfl eb ob,nb,hb,lb⟩
    | red es'=>obtain ⟨b,ys,eb,ob,nb,rb⟩:=hs; exact ⟨b,ys,eb,ob,nb,rb.kp k⟩
    | obj c ks es'=>obtain ⟨b,C,dx,fs,eb,ob,xb,cb,hb,nb,rb⟩:=hs; exact ⟨b,C,dx,fs,eb,oOk hij et rfl eb ob,xb,cb,hb,nb,rb.kp k⟩
    | red2 dss' =>
      obtain ⟨b,bs',eb,ob,nb,rb⟩:=hs
      refine ⟨b,bs',eb,ob,nb,rb.imp fun ds c hc z=>?_⟩
      obtain ⟨z1,ys,z3,z4⟩:=z
      exact ⟨z1,ys,z3,z4.kp k⟩
    | own2 dss' =>
      have:=List.all_eq_true.mp h2 (.own2 dss') (List.mem_of_getElem? (i:=j) (by rw [List.getElem?_set_ne hij]; exact et))
      cases this
end
end DL
end
section
namespace DL
open PySem PySem.Spec PyProof.Rows L2
section
variable {X:Cx}{c:Ct}{xq:XQ}{e k:Expr}{f g:FE}{pos:Pos}
theorem pdt_lend2 {i:Nat}{ft:FT}(h:PDT X c e ft):PDT X c e (ftLend2 i ft):=PT.imp h fun σ H Q h=>by
  obtain ⟨W,O,env,d,E,e,q⟩:=h
  unfold ftLend2 at e
  split at e
  · rename_i ds es
    by_cases h2:no2 i env=true
    · rw [if_pos h2] at e
      obtain ⟨O',E'⟩:=E.freeze2 es h2
      exact ⟨W,O',_,d,E',e,fun v H' s r=>q v H' s r⟩
    · rw [if_neg h2] at e; cases e
  · cases e
end
section
variable {T:Tx}{fi:FE}{fe:FP (List D)}{σ:L2.St}{H:Hp}{Q:VK}{tg:FG}{g:TG}
noncomputable def WC2 (T:Tx)(W:Wf)(O:Addr→Prop)(tg:FG)(fe:FP (List D))(nt:Nat)(cap:List Nat)(env:DEnv)(σ:L2.St)(all':List D)(H1:Hp)(all:List (List D))(j k:Nat)(ys:List V)(H':Hp):Prop :=
  k=all'.length - j∧j≤all'.length∧Same H1 H'∧∃ bs zs rest,ys=bs.map V.ref∧bs.length≤j∧runComp2 tg fe (capE nt cap env) (all'.drop j)=some rest∧zs++rest=all∧EnvR T W (fun b=>O b∨b∈bs) H' env σ ∧
    Inl (fun ds b=>H1 b=none∧∃ xs,H' b=some (.lst xs)∧RepL T (fun c=>Cl W O c∧c ∉ bs) H' ds xs) zs bs
theorem comp2_step (hg:SndG T tg g){W:Wf}{H1:Hp}{O:Addr→Prop}{env:DEnv}{nt:Nat}{cap:List Nat}(hc:cap.Nodup){all':List D}{all:List (List D)}{j k:Nat}{ys:List V}{H':Hp}{d:D}{x:V}(cn:all'.length≤1000000)
    (hlt:j<all'.length) (w:WC2 T W O tg fe nt cap env σ all' H1 all j k ys H') (hd:all'[j]?=some d) (r:Rep T (Cl W O) H1 d x) :
    g x (capσ nt cap σ) H' fun σ2 H2=>tP T kB ftYes σ2 H2 fun b H3 =>
      if b=true then tP T (kF T) fe σ2 H3 fun y H4=>ys.length<sizeLine∧∃ m',m'<k∧WC2 T W O tg fe nt cap env σ all' H1 all (j+1) m' (ys++[y]) H4 else ∃ m',m'<k∧WC2 T W O tg fe nt cap env σ all' H1 all (j+1) m' ys H3:=by
  obtain ⟨rfl,hj,s,bs,zs,rest,rfl,hbl,e,ea,Ej,il⟩:=w
  rw [drop_cons hd] at e
  unfold runComp2 at e
  have hb1 : ∀ b,b∈bs→H1 b=none:=fun b hb=>by obtain ⟨_,z,_⟩:=il.mem hb; exact z
  cases e0:tg d (capE nt cap env) with
  | none=>rw [e0] at e; cases e
  | some env1 =>
    rw [e0] at e
    dsimp only [Option.bind_some] at e
    have r':Rep T (Cl W fun b=>O b∨b∈bs) H' d x:=r.kp (Kp.same s fun b o z h=>⟨z.1,fun w=>w.elim z.2 fun w=>by rw [hb1 b w] at h; cases h⟩)
    refine hg W (fun b=>O b∨b∈bs) H' _ env1 _ d x _ (Ej.cap hc) r' e0 fun σ1 Ec=>?_
    refine ⟨W,_,env1,true,Ec,rfl,fun b' H3 s3 c3=>?_⟩
    cases c3
    rw [if_pos rfl]
    cases e2:fe env1 with
    | none=>rw [e2] at e; cases e
    | some y =>
      rw [e2] at e
      dsimp only [Option.bind_some] at e
      cases e3:runComp2 tg fe (capE nt cap env) (all'.drop (j+1)) with
      | none=>rw [e3] at e; cases e
      | some rest' =>
        rw [e3] at e
        cases e
        refine ⟨W,_,env1,y,Ec.mono s3,e2,fun w H4 s4 r4=>⟨Nat.lt_of_lt_of_le (show (bs.map V.ref).length<1000001 by rw [List.length_map]; omega) (by decide),all'.length - (j+1),by omega, ?_⟩⟩
        obtain ⟨b,xs,rfl,n,hl,rx⟩:=r4
        have n':H' b=none:=s3.free n
        have n1:H1 b=none:=s.free n'
        refine ⟨rfl,by omega,s.trans (s3.trans s4),bs++[b],zs++[y],rest',by simp,by simp; omega,e3,by rw [List.append_assoc]; exact ea, ?_, ?_⟩
        · have E4:=(Ej.mono s3).take s4 n hl
          have hO:(fun c=>(O c∨c∈bs)∨c=b)=fun c=>O c∨c∈bs++[b]:=by
            funext c
            rw [List.mem_append,List.mem_singleton,or_assoc]
          rw [← hO]; exact E4
        · refine (il.imp fun ds c hcb z=>?_).snoc ⟨n1,xs,hl,rx.mono (Same.refl _) fun c z=>⟨⟨z.1.1,fun w=>z.1.2 (.inl w)⟩,fun w=>?_⟩⟩
          · obtain ⟨z1,xs',z2,z3⟩:=z
            refine ⟨z1,xs',s4 _ _ (s3 _ _ z2),z3.kp (Kp.same (s3.trans s4) fun c' o w h=>⟨w.1,fun q=>?_⟩)⟩
            rcases List.mem_append.mp q with q | q
            · exact w.2 q
            · rw [List.mem_singleton.mp q,n'] at h; cases h
          · rcases List.mem_append.mp w with q | q
            · exact z.1.2 (.inr q)
            · exact z.2 (List.mem_singleton.mp q)
theorem comp2_end {W:Wf}{O:Addr→Prop}{H1:Hp}{env:DEnv}{nt:Nat}{cap:List Nat}{all':List D}{all:List (List D)}{j k:Nat}{ys:List V}{H':Hp}(hj:all'.length≤j)(w:WC2 T W O tg fe nt cap env σ all' H1 all j k ys H')(hl:all'.length≤1000000)
    (q : ∀ v H',Same H1 H'→kF2 T (Cl W O) H1 H' all v→Q v H'):ys.length≤sizeLine∧∀ l,H' l=none→Q (.ref l) (upd H' l (.lst ys)):=by
  obtain ⟨hk,hj2,s,bs,zs,rest,rfl,hbl,e,ea,Ej,il⟩:=w
  rw [List.drop_eq_nil_of_le hj] at e
  cases e
  rw [List.append_nil] at ea
  subst ea
  refine ⟨small (by rw [List.length_map]; omega),fun l hln=>q _ _ (s.trans (same_new hln _)) ?_⟩
  have nin:l ∉ bs:=fun z=>by obtain ⟨_,_,xs,z2,_⟩:=il.mem z; rw [hln] at z2; cases z2
  refine ⟨l,bs,rfl,s.free hln,upd_same,nin,il.imp fun ds b hb z=>?_⟩
  obtain ⟨z1,xs,z2,z3⟩:=z
  refine ⟨z1,xs,by rw [upd_ne (ne_of_none z2 hln)]; exact z2,z3.kp (Kp.same (same_new hln _) fun c o w h=>⟨w.1,ne_of_none h hln,w.2⟩)⟩
theorem tP_compL2 (hg:SndG T tg g){nt:Nat}{cap:List Nat}(hc:cap.Nodup)(h:tP T (kF2 T) (ffComp2 nt cap tg fi fe) σ H Q):tComp nt cap (iSeq T.K (tP T (kR T) fi)) g (tP T kB ftYes) (tP T (kF T) fe) σ H Q:=by
  obtain ⟨W,O,env,d,E,e,q⟩:=h
  unfold ffComp2 at e
  cases e1:fi env with
  | none=>rw [e1] at e; cases e
  | some x =>
    rw [e1] at e
    dsimp only [Option.bind_some] at e
    refine ⟨W,O,env,x,E,e1,fun v H1 s1 r1=>?_⟩
    have E1:=E.mono s1
    cases e2:seqD x with
    | none=>rw [e2] at e; cases e
    | some ds =>
      rw [e2] at e
      dsimp only [Option.bind_some] at e
      by_cases cn:ds.length≤1000000
      · rw [if_pos cn] at e
        have q' : ∀ v H',Same H1 H'→kF2 T (Cl W O) H1 H' d v→Q v H':=fun v H' s r=>q v H' (s1.trans s) (by
          obtain ⟨a,bs,z1,z2,z3,z4,z5⟩:=r
          refine ⟨a,bs,z1,s1.free z2,z3,z4,z5.imp fun ds b _ z=>?_⟩
          exact ⟨s1.free z.1,z.2⟩)
        have hO:O=fun b=>O b∨b∈([]:List Addr):=by funext b; simp
        have w0:WC2 T W O tg fe nt cap env σ ds H1 d 0 ds.length [] H1:=⟨by simp,Nat.zero_le _,Same.refl _,[],[],d,rfl,Nat.zero_le _,e,rfl,hO ▸ E1,.nil⟩
        cases x with
        | lst es =>
          have ee:es=ds:=Option.some.inj e2
          subst ee
          obtain ⟨a,xs,rfl,hl,rl⟩:=RepR.lst_ r1
          have len:=rl.length
          refine ⟨a,rfl,.inl ⟨⟨xs,hl⟩,WC2 T W O tg fe nt cap env σ es H1 d,⟨es.length,w0⟩, ?_⟩⟩
          intro j k ys H' w
          have s:Same H1 H':=w.2.2.1
          have hlH:SqL T.K H' a xs:=s.seq hl
          by_cases hlt:j<es.length
          · refine .inr ⟨⟨xs,xs[j]'(by omega),hlH,by simp [show j<xs.length by omega]⟩,fun x H2 y=>?_⟩
            obtain ⟨e5,y⟩:=y
            subst e5
            obtain ⟨d',hd,rd⟩:=rl.getV (y xs hlH)
            exact comp2_step hg hc cn hlt w hd rd
          · exact .inl ⟨⟨xs,hlH,by omega⟩,comp2_end (by omega) w cn q'⟩
        | tup es =>
          have ee:es=ds:=Option.some.inj e2
          subst ee
          obtain ⟨a,xs,rfl,hl,rl⟩:=RepR.tup_ r1
          have len:=rl.length
          refine ⟨a,rfl,.inr ⟨⟨xs,hl⟩,WC2 T W O tg fe nt cap env σ es H1 d,⟨es.length,w0⟩, ?_⟩⟩
          intro j k ys H' w
          have s:Same H1 H':=w.2.2.1
          have hlH:SqT T.K H' a xs:=SqT.mono s hl
          by_cases hlt:j<es.length
          · refine .inr ⟨⟨xs,xs[j]'(by omega),hlH,by simp [show j<xs.length by omega]⟩,fun x H2 y=>?_⟩
            obtain ⟨e5,y⟩:=y
            subst e5
            obtain ⟨d',hd,rd⟩:=rl.getV (y xs hlH)
            exact comp2_step hg hc cn hlt w hd rd
          · exact .inl ⟨⟨xs,hlH,by omega⟩,comp2_end (by omega) w cn q'⟩
        | _=>cases e2
      · rw [if_neg cn] at e; cases e
theorem SndRed (i:Nat){W:Wf}{O:Addr→Prop}{H:Hp}{env env':DEnv}{σ:L2.St}{ds:List D}{a:Addr}{ys:List V}{Q:L2.St→Hp→Prop}(E:EnvR T W O H env σ)(no : ¬ W.O0 a)(h0:W.H0 a=some (.lst ys))(r:RepL T (Cl W O) H ds ys)(e:tgRed i (.lst ds) env=some env')(q : ∀ σ',EnvR T W O H env' σ'→Q σ' H):gName i (.ref a) σ H Q:=by
  cases e
  exact q _ (E.setS i ⟨a,ys,rfl,no,h0,r⟩ (fun z=>nomatch z) (fun z=>nomatch z) fun _ z=>nomatch z)
theorem tP_compI {fe:FE}{nt j:Nat}{cap:List Nat}(hc:cap.Nodup)(h:tP T (kF T) (ffCompI nt cap j fe) σ H Q):tComp nt cap (iSeq T.K (tVar j)) (gName 0) (tP T kB ftYes) (tP T (kD T) fe) σ H Q:=by
  obtain ⟨W,O,env,all,E,e,q⟩:=h
  unfold ffCompI at e
  split at e
  · next dss hj =>
    by_cases cn:dss.length≤1000000
    · rw [if_pos cn] at e
      obtain ⟨a,bs,e1,no,h0,il⟩:=E.slot j _ hj
      have hl:H a=some (.lst (bs.map V.ref)):=E.fr.keep _ _ h0 no
      have len:=il.len
      refine ⟨.ref a,join_some e1,a,rfl,.inl ⟨⟨bs.map V.ref,.inl (.inl hl)⟩,WC T (Cl W O) (tgRed 0) ftYes fe (capE nt cap env) (dss.map .lst) H all,⟨(dss.map D.lst).length,by simp,Nat.zero_le _,Same.refl _,Nat.zero_le _,[],all,.nil,e,rfl⟩, ?_⟩⟩
      intro i k ys H' w
      have s:Same H H':=w.2.2.1
      have hlH:SqL T.K H' a (bs.map V.ref):=.inl (.inl (s _ _ hl))
      by_cases hlt:i<dss.length
      · refine .inr ⟨⟨_,.ref (bs[i]'(by omega)),hlH,by simp [show i<bs.length by omega]⟩,fun x H2 y=>?_⟩
        obtain ⟨e5,y⟩:=y
        subst e5
        have hx:(bs.map V.ref)[i]?=some x:=y _ hlH
        have hb:bs[i]?=some (bs[i]'(by omega)):=List.getElem?_eq_getElem _
        rw [List.getElem?_map,hb] at hx
        cases hx
        have hd:dss[i]?=some (dss[i]'hlt):=List.getElem?_eq_getElem _
        obtain ⟨z1,zs',z2,z3⟩:=il.at_ i _ _ hd hb
        exact comp_stepS (g:=gName 0) hc E (by rw [List.length_map]; exact cn) (by rw [List.length_map]; exact hlt) w (show (dss.map D.lst)[i]?=some (.lst (dss[i]'hlt)) by rw [List.getElem?_map,hd]; rfl) fun env1 e0 _ q=>SndRed 0 ((E.mono s).cap hc) z1 z2 (z3.mono s fun _ z=>z) e0 q
      · exact .inl ⟨⟨_,hlH,by rw [List.length_map]; omega⟩,comp_end (by rw [List.length_map]; omega) w (by rw [List.length_map]; exact cn) q⟩
    · rw [if_neg cn] at e; cases e
  · cases e
end
section
variable {X:Cx}{c:Ct}{xq:XQ}{e elt a b iter tg:Expr}{pos:Pos}{gens:List Comprehension}{scope sc:Scope}{N N':List Str}{nt:Nat}{cap:List Nat}{fi fe:FE}{fe2:FP (List D)}{tgf:FG}{gt:TG}
noncomputable def PF2c (X:Cx)(c:Ct)(e:Expr)(ff:FP (List (List D))):Prop:=∀ (i:Nat) (x:Str) (pos' spos:Pos),Nl X i x→swapsWith e (some (.Name x pos')) spos.line X.env=pure true→PS X (.Assign [.Name x pos'] e spos) (tAsg (tP (tx X c) (kF2 (tx X c)) ff) (gName i))
theorem pds_own2 {i:Nat}{x:Str}{pos' spos:Pos}{ff:FP (List (List D))}(d:DefX X N sc)(n:Nl X i x)(h:PF2c X c (.ListComp elt gens scope pos) ff)(hs:(sc.kind == .function && sc.names.lookup x == some .local && pos'.line == pos.line && !(scope.names.any fun (n,k)=>n == x && (k == .local || k == .cell)))=true) :
    PDS X c xq (.Assign [.Name x pos'] (.ListComp elt gens scope pos) spos) (fsOwn2 i ff):=PS.imp (h i x pos' spos n (swaps_yes d hs)) fun _ _ _ h=>tDs_own2 h
theorem pf2_comp (d:DefX X N sc)(chk:CompChk sc scope N N' nt cap)(hcap:cap.Nodup)(hN':N'.Nodup)(hi:PR X c iter fi)
    (hg : ∀ cl C s2 H2 fp,DefX (compCx X scope cl N' C s2 H2 fp) N' (relS scope sc)→PG (compCx X scope cl N' C s2 H2 fp) tg gt) (hge:GExt nt gt) (sg:SndG (tx X c) tgf gt)
    (ht : ∀ cl C s2 H2 fp,DefX (compCx X scope cl N' C s2 H2 fp) N' (relS scope sc)→PIfs (compCx X scope cl N' C s2 H2 fp) [] (tP (tx X c) kB ftYes))
    (he : ∀ cl C s2 H2 fp,DefX (compCx X scope cl N' C s2 H2 fp) N' (relS scope sc)→PE (compCx X scope cl N' C s2 H2 fp) elt (tP (tx X c) (kF (tx X c)) fe2))
    (hs:noSet iter=true:=by rfl):PF2c X c (.ListComp elt [⟨tg,iter,[],0⟩] scope pos) (ffComp2 nt cap tgf fi fe2) :=
  fun i x pos' spos n hsw=>PS.imp (ps_comp (tt:=tP (tx X c) kB ftYes) (te:=tP (tx X c) (kF (tx X c)) fe2) d.hsc d.hN chk d.calm (pi_seq hi) (fun cl C s2 H2 fp=>hg cl C s2 H2 fp (d.comp hN')) hge (fun cl C s2 H2 fp=>ht cl C s2 H2 fp (d.comp hN')) (fun cl C s2 H2 fp=>he cl C s2 H2 fp (d.comp hN')) n.nd n.hN n.hl n.hf hsw (folded_no hs)) fun _ _ _ h=>tP_compL2 sg hcap h
theorem pf_compI {j:Nat}{x:Str}{p1:Pos}(d:DefX X N sc)(chk:CompChk sc scope N N' nt cap)(hcap:cap.Nodup)(hN':N'.Nodup)(n:Nm X j x)
    (hg : ∀ cl C s2 H2 fp,DefX (compCx X scope cl N' C s2 H2 fp) N' (relS scope sc)→PG (compCx X scope cl N' C s2 H2 fp) tg (gName 0)) (hge:GExt nt (gName 0))
    (ht : ∀ cl C s2 H2 fp,DefX (compCx X scope cl N' C s2 H2 fp) N' (relS scope sc)→PIfs (compCx X scope cl N' C s2 H2 fp) [] (tP (tx X c) kB ftYes))
    (he : ∀ cl C s2 H2 fp,DefX (compCx X scope cl N' C s2 H2 fp) N' (relS scope sc)→PE (compCx X scope cl N' C s2 H2 fp) elt (tP (tx X c) (kD (tx X c)) fe))
    (hs:noSet (.Name x p1)=true:=by rfl):PF X c (.ListComp elt [⟨tg,.Name x p1,[],0⟩] scope pos) (ffCompI nt cap j fe) :=
  PE.imp (pe_comp (tt:=tP (tx X c) kB ftYes) (te:=tP (tx X c) (kD (tx X c)) fe) d.hsc d.hN chk d.calm (pi_seq (pe_var n.hN n.hv n.hd n.hc)) (fun cl C s2 H2 fp=>hg cl C s2 H2 fp (d.comp hN')) hge (fun cl C s2 H2 fp=>ht cl C s2 H2 fp (d.comp hN')) (fun cl C s2 H2 fp=>he cl C s2 H2 fp (d.comp hN')) (folded_no hs)) fun _ _ _ h=>tP_compI hcap h
end
end DL
end
section
namespace DL
open PySem PySem.Spec PyProof.Rows L2
noncomputable def kL (T:Tx):RK (List D) (List V):=fun A _ H es vs=>∃ b zs,vs=[.ref b]∧H b=some (.lst zs)∧RepL T A H es zs
noncomputable instance {T:Tx}:Kd (kL T):=⟨fun _ _ _ _ _ _ s ⟨b,zs,e,q,r⟩=>⟨b,zs,e,s _ _ q,r.mono s fun _ z=>z⟩,fun _ _ _ _ _ _ _ h=>h⟩
section
variable {X:Cx}{c:Ct}{xq:XQ}{e:Expr}{f:FP (List D)}{pos:Pos}
theorem snd_extL {T:Tx}(A:Addr→Prop)(H:Hp)(a:Addr)(ds:List D)(xs:List V)(x:List D)(y:List V)(ds':List D)(Q:VK)(hl:H a=some (.lst xs))(r:RepL T A H ds xs)(_ : ∀ b,A b→b≠a)(ra:kL T A H H x y)(e:extL2 ds x=some ds')
    (k : ∀ ys,(∀ A' H',(∀ d v,Rep T A H d v→Rep T A' H' d v)→(∀ d v,RepL T A H d v→RepL T A' H' d v)→RepL T A' H' ds' ys)→∀ w,Q w (upd H a (.lst ys))):rExtend (.ref a) y H Q:=by
  unfold extL2 at e
  split at e
  · next hz =>
    cases e
    obtain ⟨b,zs,rfl,hb,rb⟩:=ra
    refine ⟨a,b,xs,zs,rfl,rfl,hl,hb, ?_,k _ (fun A' H' g gl=>(gl _ _ r).append (gl _ _ rb)) _⟩
    rw [← r.length, ← rb.length]; exact Nat.le_trans hz (by decide)
  · cases e
theorem tP_kL {T:Tx}{σ:L2.St}{H:Hp}{Q:List V→Hp→Prop}(h:tP T (kL T) f σ H Q):tCons (tP T (kF T) f) tNil σ H Q:=by
  obtain ⟨W,O,env,d,E,e,q⟩:=h
  refine ⟨W,O,env,d,E,e,fun v H' s r=>?_⟩
  obtain ⟨a,xs,rfl,n,hl,r⟩:=r
  exact q _ H' s ⟨a,xs,rfl,hl,r.mono (Same.refl _) fun _ z=>z.1⟩
theorem pds_extL {i:Nat}{x:Str}{p1 p2 p3:Pos}(n:Nm X i x)(he:PF X c e f)(hs:isStar e=false:=by rfl)(hl:(p2.endLine == p3.line)=true:=by rfl) :
    PDS X c xq (.Expr (.Call (.Attribute (.Name x p1) "extend" p2) [e] [] p3) pos) (fsExtL i f):=by
  refine PS.imp (ps_expr (pe_bm PySem.F.plainAttrs_list PySem.F.slot_list_extend PySem.F.type_list_extend mt_extend (pe_var n.hN n.hv n.hd n.hc) (pa_cons he pa_nil (star_cons hs)) rfl (by rw [star_one hs]; rfl) hl (star_cons hs) rfl) (swaps_no rfl)) fun De σ H h=>?_
  obtain ⟨v,h1,⟨xs,_,a,rfl,ha⟩,h3⟩:=tDs_mut (ρ:=kL (tx X c)) (tf:=tP (tx X c) (kL (tx X c)) f) (fun Q h=>h) snd_extL (fun _ _ _ _ _ h=>h) h
  obtain ⟨W,O,env,x,E,e1,q⟩:=h3
  exact ⟨.ref a,h1,.inl ⟨rfl,xs,SqL.of ha⟩,tP_kL ⟨W,O,env,x,E,e1,fun v H' s r=>(q v H' s r).2⟩⟩
end
section
variable {T:Tx}{fe:FE}{fa:FA}{σ:L2.St}{H:Hp}{Q:VK}{tg:FG}{g:TG}
theorem tP_compZ (hg:SndG T tg g){nt:Nat}{cap:List Nat}(hc:cap.Nodup)(h:tP T (kF T) (ffCompZ zipF nt cap tg fa fe) σ H Q):tComp nt cap (iZip T.K (tP T (kA T) fa)) g (tP T kB ftYes) (tP T (kD T) fe) σ H Q:=by
  obtain ⟨W,O,env,d,E,e,q⟩:=h
  unfold ffCompZ at e
  cases e1:fa env with
  | none=>rw [e1] at e; cases e
  | some as =>
    rw [e1] at e
    dsimp only [Option.bind_some] at e
    cases e2:zipF as with
    | none=>rw [e2] at e; cases e
    | some zs =>
      rw [e2] at e
      dsimp only [Option.bind_some] at e
      obtain ⟨ds,es,rfl,rfl⟩:=zipF_some e2
      by_cases cn:(zipL ds es).length≤1000000
      · rw [if_pos cn] at e
        refine ⟨W,O,env,[.lst ds,.lst es],E,e1,fun vs H1 s1 r1=>?_⟩
        obtain ⟨v,r,rfl,rv,rr⟩:=RepL.cons_ r1
        obtain ⟨v2,r2,rfl,rv2,rr2⟩:=RepL.cons_ rr
        cases rr2.nil_
        have E1:=E.mono s1
        obtain ⟨a,xs,rfl,hl,rl⟩:=Rep.lst_ rv
        obtain ⟨b,ys,rfl,hl2,rl2⟩:=Rep.lst_ rv2
        have hlen:=rl.length
        have hlen2:=rl2.length
        have hzl:=zipL_len ds es
        have q' : ∀ v H',Same H1 H'→kF T (Cl W O) H1 H' d v→Q v H':=fun v H' s r=>q v H' (s1.trans s) (Kd.an (ρ:=kF T) _ _ _ _ _ _ s1 r)
        refine ⟨a,b,rfl,⟨xs,hl.sq⟩,⟨ys,hl2.sq⟩,WC T (Cl W O) tg ftYes fe (capE nt cap env) (zipL ds es) H1 d,⟨(zipL ds es).length,by simp,Nat.zero_le _,Same.refl _,Nat.zero_le _,[],d,.nil,e,rfl⟩, ?_⟩
        intro j k zs H' w
        have s:Same H1 H':=w.2.2.1
        have hlH:SqL T.K H' a xs:=s.seq hl.sq
        have hlH2:SqL T.K H' b ys:=s.seq hl2.sq
        by_cases hlt:j<(zipL ds es).length
        · have j1:j<xs.length:=by omega
          have j2:j<ys.length:=by omega
          refine .inr ⟨⟨xs,ys,xs[j],ys[j],hlH,hlH2,by simp [j1],by simp [j2]⟩,fun x H2 y=>?_⟩
          obtain ⟨p,x',y',hp,rfl,rfl,hx,hy⟩:=y
          obtain ⟨d1,hd,rd⟩:=rl.getV (hx xs hlH)
          obtain ⟨d2,hd2,rd2⟩:=rl2.getV (hy ys hlH2)
          have s2:Same H' (L2.upd H' p (.tup [x',y'])):=same_new hp _
          have w2:WC T (Cl W O) tg ftYes fe (capE nt cap env) (zipL ds es) H1 d j k zs (L2.upd H' p (.tup [x',y'])):=by
            obtain ⟨w1,w2,w3,w4,zz,rest,w5,w6,w7⟩:=w
            exact ⟨w1,w2,w3.trans s2,w4,zz,rest,w5.mono s2 fun _ z=>z,w6,w7⟩
          exact comp_step hg hc E1 cn hlt w2 (zipL_get hd hd2) (Rep.newT (.cons (rd.mono s fun _ z=>z) (.cons (rd2.mono s fun _ z=>z) .nil)) hp)
        · exact .inl ⟨⟨xs,ys,hlH,hlH2,by omega⟩,comp_end (by omega) w cn q'⟩
      · rw [if_neg cn] at e; cases e
end
section
variable {X:Cx}{c:Ct}{xq:XQ}{elt a b:Expr}{ts:List Expr}{tk:Nat}{tp p ip pos:Pos}{scope sc:Scope}{N N':List Str}{nt:Nat}{cap:List Nat}{fa:FA}{fe:FE}{tgf:FG}{gt:TG}
theorem pf_compZ (d:DefX X N sc)(chk:CompChk sc scope N N' nt cap)(hcap:cap.Nodup)(hN':N'.Nodup)(hgl:Gl X "zip")(hm:X.mg "zip"=none)(hi:PDA X c [a,b] fa)
    (hg : ∀ cl C s2 H2 fp,DefX (compCx X scope cl N' C s2 H2 fp) N' (relS scope sc)→PG (compCx X scope cl N' C s2 H2 fp) (.Tuple ts tk tp) gt) (hge:GExt nt gt) (sg:SndG (tx X c) tgf gt)
    (ht : ∀ cl C s2 H2 fp,DefX (compCx X scope cl N' C s2 H2 fp) N' (relS scope sc)→PIfs (compCx X scope cl N' C s2 H2 fp) [] (tP (tx X c) kB ftYes))
    (he : ∀ cl C s2 H2 fp,DefX (compCx X scope cl N' C s2 H2 fp) N' (relS scope sc)→PE (compCx X scope cl N' C s2 H2 fp) elt (tP (tx X c) (kD (tx X c)) fe)) (hst:isStar a=false:=by rfl) (hst2:noStars [b]=true:=by rfl) :
    PF X c (.ListComp elt [⟨.Tuple ts tk tp,.Call (.Name "zip" p) [a,b] [] ip,[],0⟩] scope pos) (ffCompZ zipF nt cap tgf fa fe) :=
  PE.imp (pe_comp (tt:=tP (tx X c) kB ftYes) (te:=tP (tx X c) (kD (tx X c)) fe) d.hsc d.hN chk d.calm (pi_zip hgl hm hi hst hst2) (fun cl C s2 H2 fp=>hg cl C s2 H2 fp (d.comp hN')) hge (fun cl C s2 H2 fp=>ht cl C s2 H2 fp (d.comp hN')) (fun cl C s2 H2 fp=>he cl C s2 H2 fp (d.comp hN')) (folded_no rfl)) fun _ _ _ h=>tP_compZ sg hcap h
end
end DL
end
section
namespace DL
open PySem PySem.Spec PyProof.Rows L2
section
variable {X:Cx}{c:Ct}{xq:XQ}{e k:Expr}{f g:FE}{pos:Pos}
theorem tDs_take {T:Tx}{De:Ends}{σ:L2.St}{H:Hp}{i j:Nat}(h:tDs T xq (fsTake i j) De σ H):tAsg (tOp (rIx T.K) (tVar j) (tC (.int 0))) (gName i) De σ H:=by
  obtain ⟨W,O,env,fl,E,e,q⟩:=h
  unfold fsTake at e
  split at e
  · next ds r hj =>
    by_cases h2:no2 j env=true
    case neg=>rw [if_neg h2] at e; cases e
    rw [if_pos h2] at e
    cases e
    obtain ⟨a,bs,e1,o,n,hl,il⟩:=E.slot j _ hj
    have e1':=join_some e1
    cases bs with
    | nil=>have:=il.len; simp at this
    | cons b bs =>
      obtain ⟨z1,z2,ys,z3,z4⟩:=il.at_ 0 ds b rfl rfl
      refine ⟨.ref a,e1',.inl ⟨a,(b::bs).map V.ref,0,.ref b,rfl,rfl,.inl (.inl hl),(by show atI _ ((0:Nat):Int)=_; rw [atI_k]; rfl), ?_⟩⟩
      have hjl:j<env.length:=(List.getElem?_eq_some_iff.mp hj).1
      have E1:EnvR T W O H (env.set j (.ownU (r.length+1))) σ:=by
        have old : ∀ {m:Nat} {u:Slot},(env.set j (Slot.ownU (r.length+1)))[m]?=some u→u.isOwn=true→∃ u',env[m]?=some u'∧u'.isOwn=true:=fun {m u} e' o'=>by
          rcases set_slot e' with ⟨rfl,rfl,hl⟩ | ⟨h,e'⟩
          · exact ⟨_,hj,rfl⟩
          · exact ⟨u,e',o'⟩
        refine ⟨E.fr,E.new,E.mu,fun m t et=>?_,fun m l t u b' e2 e3 o2 o3 s2 s3=>?_,by simp [E.len],fun m l dss u a' bs' b' e2 e3 q3 hb e4 o4=>?_⟩
        · rcases set_slot et with ⟨rfl,rfl,_⟩ | ⟨hij,et⟩
          · refine ⟨a,_,e1,o,n,hl, ?_⟩
            have:=il.len
            simp at this ⊢
            exact this.symm
          · exact E.slot m t et
        · obtain ⟨t1,h1,h2⟩:=old e2 o2
          obtain ⟨t2,h3,h4⟩:=old e3 o3
          exact E.inj m l t1 t2 b' h1 h3 h2 h4 s2 s3
        · rcases set_slot e2 with ⟨_,w,_⟩ | ⟨_,e2⟩
          · cases w
          · obtain ⟨t2,h3,h4⟩:=old e4 o4
            exact E.inj2 m l dss t2 a' bs' b' e2 e3 q3 hb h3 h4
      have nt2 : ∀ {m:Nat} {dss:List (List D)},(env.set j (Slot.ownU (r.length+1)))[m]?≠some (.own2 dss):=fun {m dss} z=>by
        rcases set_slot z with ⟨_,w,_⟩ | ⟨hjm,w⟩
        · cases w
        · have:=List.all_eq_true.mp h2 (.own2 dss) (List.mem_of_getElem? (i:=m) (by rw [List.getElem?_set_ne hjm]; exact w))
          cases this
      refine q _ H O (E1.setS i ⟨b,ys,rfl,z1,z2,z3,z4⟩ (fun _ m t b' him et ot eb z=>?_) (fun _ m dss a' bs' b' em _ _ _=>absurd em nt2) (fun _ z=>nomatch z)) (Fr.refl _ _)
      cases eb
      rcases set_slot et with ⟨rfl,rfl,_⟩ | ⟨hjm,et⟩
      · exact E.inj2 j j _ _ a (b::bs) b hj e1' hl List.mem_cons_self hj rfl z
      · exact E.inj2 j m _ t a (b::bs) b hj e1' hl List.mem_cons_self et ot z
  · cases e
theorem pds_take {i j:Nat}{x y:Str}{pos' p1 p2 p3:Pos}{m:Nat}(n:Nl X i x)(ny:Nm X j y):PDS X c xq (.Assign [.Name x pos'] (.Subscript (.Name y p1) (.Constant (.int 0) m p2) p3) pos) (fsTake i j) :=
  PS.imp (ps_set n.nd n.hN n.hl (pe_ix ix_seq (pe_var ny.hN ny.hv ny.hd ny.hc) pe_int (plainIx_no rfl)) (swaps_no rfl) n.hf) fun _ _ _ h=>tDs_take h
theorem tDs_itemU {T:Tx}{De:Ends}{σ:L2.St}{H:Hp}{i:Nat}{fk fv:FE}(h:tDs T xq (fsItemU i fk fv) De σ H):tAsg (tP T (kD T) fv) (gSub (tVar i) (tP T (kD T) fk) rSetL) De σ H:=by
  obtain ⟨W,O,env,fl,E,e,q⟩:=h
  unfold fsItemU at e
  split at e
  · rename_i n es
    cases e1:fv env with
    | none=>rw [e1] at e; cases e
    | some v =>
      rw [e1] at e
      dsimp only [Option.bind_some] at e
      cases e2:fk env with
      | none=>rw [e2] at e; cases e
      | some kd =>
        rw [e2] at e
        dsimp only [Option.bind_some] at e
        cases e3:intV kd with
        | none=>rw [e3] at e; cases e
        | some kk =>
          rw [e3] at e
          dsimp only [Option.bind_some] at e
          cases intV_some e3
          cases e4:ixN n kk with
          | none=>rw [e4] at e; cases e
          | some j =>
            rw [e4] at e
            cases e
            obtain ⟨a,xs,ea,o,nn,hl,ll⟩:=E.slot i _ es
            have ea:=join_some ea
            refine ⟨W,O,env,v,E,e1,fun u H1 s1 r1=>?_⟩
            have E1:=E.mono s1
            refine ⟨.ref a,ea,W,O,env,.int kk,E1,e2,fun w H2 s2 r2=>?_⟩
            cases r2.int_
            have E2:=E1.mono s2
            have hl2:=s2 _ _ (s1 _ _ hl)
            refine ⟨a,xs,kk,j,rfl,rfl,hl2,by rw [ll]; exact e4, ?_⟩
            obtain ⟨E3,f3⟩:=E2.upd (t:=.ownU n) (o:=.lst (xs.set j u)) es rfl ea trivial ⟨a,_,rfl,o,nn,upd_same,by simpa using ll⟩
            exact q _ _ O E3 ((Fr.same (s1.trans s2)).trans f3)
  · cases e
theorem pds_itemU {i:Nat}{x:Str}{p1 p2:Pos}(m:Nm X i x)(hk:PD X c k f)(hv:PD X c e g)
    (ha : ∀ v,assign (.Subscript (.Name x p1) k p2) X.env v=(do
      let ov ← holding [v] (eval (.Name x p1) X.env)
      let iv ← holding [v,ov] (eval k X.env)
      standAt p2
      holding [v,ov,iv] (setItem ov iv v)
      release [v,ov,iv] []):=by intro _; rfl) (hs:swapsWith e (some (.Subscript (.Name x p1) k p2)) pos.line X.env=pure false:=by rfl) :
    PDS X c xq (.Assign [.Subscript (.Name x p1) k p2] e pos) (fsItemU i f g) :=
  PS.imp (ps_asg hv (pg_sub (pe_var m.hN m.hv m.hd m.hc) hk set_list ha) hs (by rfl) rfl) fun _ _ _ h=>tDs_itemU h
end
end DL
end
section
namespace DL
open PySem PySem.Spec PyProof.Rows L2
noncomputable def spIR2 (T:Tx)(n:Nat)(I:IFn):Sp:=fun vs H Q _=>vs.length=n+2∧∃ (A:Addr→Prop) (x y:Addr) (us:List V) (bs:List Addr) (C dx:Addr) (k:Nat) (dss:List (List D)) (ds:List D) (p:List Nat × List D),vs=.ref x::.ref y::us∧T.cl k=some C∧H x=some (.ins C dx [])∧H y=some (.lst (bs.map V.ref))∧¬ A x∧Nw A H∧Inl (fun ds b=>∃ ys,H b=some (.lst ys)∧RepL T A H ds ys) dss bs∧RepL T A H ds us∧I k (.lst (dss.map .lst)::ds)=some p ∧
  ∀ (H':Hp) (dx':Addr) (fs:List (Str × V)),(∀ b o,H b=some o→b≠x→H' b=some o)→(∀ b,H' b=none→H b=none)→H' x=some (.ins C dx' fs)→fs.map (·.1)=p.1.map T.fld→RepL T A H' p.2 (fs.map (·.2))→Q .non H'
structure InitGR2 (P:Program)(w:World)(K:PySem.W.Frag)(mg:Str→Option Value)(base:Heap)(c:Ct)(x:Str)(n k kc:Nat)(I:IFn):Prop where
  ex : ∃ C f fd ps,mg x=some (.ref C)∧c.cl kc=some C∧Mk K C f∧FnOk P w K mg base CX0 k f fd ps (spIR2 ⟨K,c.cl,c.fld⟩ n I)∧Binds K fd ps []
section
variable {X:Cx}{c:Ct}{xq:XQ}{e:Expr}{es:List Expr}{fa:FA}{pos apos:Pos}
theorem tP_makeR2 {T:Tx}{C:Addr}{n kc i:Nat}{I:IFn}{σ:L2.St}{H:Hp}{Q:VK}(hC:T.cl kc=some C)(h:tP T (kD T) (fpMakeR2 kc n I i fa) σ H Q):tMake C (spIR2 T n I) [] E0 (tCons (tVar i) (tP T (kA T) fa)) σ H Q:=by
  obtain ⟨W,O,env,d,E,e1,q⟩:=h
  unfold fpMakeR2 at e1
  split at e1
  · next dss hi =>
    cases e2:fa env with
    | none=>rw [e2] at e1; cases e1
    | some as =>
      rw [e2] at e1
      dsimp only [Option.bind_some] at e1
      by_cases hl:as.length=n
      · rw [if_pos hl] at e1
        cases e3:I kc (.lst (dss.map .lst)::as) with
        | none=>rw [e3] at e1; cases e1
        | some p =>
          rw [e3] at e1; cases e1
          obtain ⟨a,bs,g1,g2,g3,g4,g5⟩:=E.slot i _ hi
          refine ⟨.ref a,join_some g1,W,O,env,as,E,e2,fun vs H1 s1 r1=>?_⟩
          intro x dx hx hdx hne
          have hsame:Same H1 (upd (upd H1 dx (.own x)) x (.ins C dx [])):=fun b u hb=>by
            rw [upd_ne (ne_of_none hb hx),upd_ne (ne_of_none hb hdx)]; exact hb
          have E1:=E.mono s1
          refine ⟨?_,fun b=>Cl W O b∧b≠x,x,a,vs,bs,C,dx,kc,dss,as,p, ?_,hC,upd_same,hsame a _ (s1 a _ g4),fun z=>z.2 rfl,fun b hb=>?_,g5.imp fun ds b _ z=>?_, ?_,e3, ?_⟩
          · rw [List.length_cons,List.length_append,List.length_nil,List.length_cons, ← RepL.length r1,hl]
          · rw [List.append_nil]
          · have hbx:b≠x:=fun z=>by subst z; rw [upd_same] at hb; cases hb
            rw [upd_ne hbx] at hb
            have hbd:b≠dx:=fun z=>by subst z; rw [upd_same] at hb; cases hb
            rw [upd_ne hbd] at hb
            exact ⟨E1.newA hb,hbx⟩
          · obtain ⟨_,_,ys,z3,z4⟩:=z
            exact ⟨ys,hsame b _ (s1 b _ z3),RepL.kp (Kp.same hsame fun b u z hb=>⟨z,ne_of_none hb hx⟩) (z4.mono s1 fun _ z=>z)⟩
          · exact RepL.kp (Kp.same hsame fun b u z hb=>⟨z,ne_of_none hb hx⟩) r1
          · intro H' dx' fs kp dm hx' hn hr
            refine ⟨rfl,q (.ref x) H' (fun b u hb=>?_) ?_⟩
            · have hb1:=s1 b u hb
              exact kp b u (hsame b u hb1) (ne_of_none hb1 hx)
            · show Rep T (Cl W O) H' (.ob kc p.1 p.2) (.ref x)
              simp only [Rep]
              exact ⟨x,C,dx',fs,rfl,E1.newA hx,hC,hx',hn,hr.mono (Same.refl _) fun _ z=>z.1⟩
      · rw [if_neg hl] at e1; cases e1
  · cases e1
theorem pd_makeR2 {n k j kc i:Nat}{I:IFn}{x y:Str}{p p2:Pos}(G:InitGR2 X.prog X.w X.K X.mg X.base c x n k kc I)(hr:Room j X.A)(hkj:k+1≤j)(hg:Gl X x)(nm:Nm X i y)(ha:PDA X c es fa)
    (hdb:(x == ("__debug__":Str))=false:=by decide) (hpl:noStars es=true:=by rfl):PD X c (.Call (.Name x p) (.Name y p2::es) [] pos) (fpMakeR2 kc n I i fa):=by
  obtain ⟨C,f,fd,ps,h1,h2,h3,h4,h5⟩:=G.ex
  exact PE.imp (pe_make (E:=E0) h3 h4 (hr.mono hkj) hg h1 h5 .nil pass0 (pa_cons (pe_var nm.hN nm.hv nm.hd nm.hc) ha (star_cons rfl)) hdb (star_cons rfl) (star_none hpl)) fun _ _ _ h=>tP_makeR2 (T:=tx X c) h2 h
end
theorem init_end {T:Tx}{A:Addr→Prop}{H:Hp}{x C:Addr}{k:Nat}{p:List Nat × List D}{fl:DFl}{Q:VK}(hC:T.cl k=some C)(e:objK k fl=some p)
    (q : ∀ (H':Hp) (dx':Addr) (fs:List (Str × V)),(∀ b o,H b=some o→b≠x→H' b=some o)→(∀ b,H' b=none→H b=none)→H' x=some (.ins C dx' fs)→fs.map (·.1)=p.1.map T.fld→RepL T A H' p.2 (fs.map (·.2))→Q .non H') :
    EndsR T (fun _ _ _=>False) ⟨A,H,fun b=>b=x⟩ (fun b=>b=x) H { nx:=fun _ H'=>Q .non H',rt:=Q } fl:=by
  cases fl with
  | nx env' =>
    intro σ' H' O' E' g
    rw [objK_nx] at e
    cases h0:env'[0]? with
    | none=>rw [h0] at e; cases e
    | some s =>
      cases s with
      | obj k' ks es' =>
        rw [h0,slotJ_obj,obind_some] at e
        by_cases hk:k'=k
        · rw [if_pos hk] at e; cases e
          subst hk
          obtain ⟨a,C',dx',fs,g1,g2,g3,g4,g5,g6,g7⟩:=E'.obj h0
          have ha:a=x:=by
            rcases g.more a g2 with z | z
            · exact z
            · exact absurd z g3
          subst ha
          rw [hC] at g4; cases g4
          exact q H' dx' fs (fun b o hb hne=>g.keep b o hb hne) g.dom g5 g6 (g7.mono (Same.refl _) fun _ z=>z.1)
        · rw [if_neg hk] at e; cases e
      | _=>rw [h0] at e; cases e
  | rt _ _=>cases e
  | rf _ _=>cases e
  | bk _=>cases e
  | ct _=>cases e
  | ex _ _=>cases e
theorem body_initR2 {T:Tx}{N n:Nat}{F:FS}{vs:List V}{H:Hp}{Q:VK}{E0:XK}(h:spIR2 T n (bodyIR2 N F) vs H Q E0):tDs T (fun _ _ _=>False) F { nx:=fun _ H'=>Q .non H',rt:=Q } (vs.map some++List.replicate (N+2 - vs.length) none) H:=by
  obtain ⟨hn,A,x,y,us,bs,C,dx,k,dss,ds,p,rfl,hC,hx,hy,hA,nw,il,r,e,q⟩:=h
  rw [ev_bodyIR2] at e
  cases e1:F (.obj k [] []::.red2 dss::envOf N ds) with
  | none=>rw [e1] at e; cases e
  | some fl =>
    rw [e1,obind_some] at e
    have B:=body_start (n:=N) nw r
    have es:(V.ref x::V.ref y::us).map some++List.replicate (N+2 - (V.ref x::V.ref y::us).length) none=some (.ref x)::some (.ref y)::(us.map some++List.replicate (N - us.length) none):=by
      rw [List.map_cons,List.map_cons,List.cons_append,List.cons_append,List.length_cons,List.length_cons,Nat.add_sub_add_right]
    rw [es]
    have hyx : ¬ y=x:=fun z=>by rw [z,hx] at hy; cases hy
    have own0 : ∀ (j:Nat) (s:Slot),(.obj k [] []::.red2 dss::envOf N ds:DEnv)[j]?=some s→s.isOwn=true→j=0:=fun j s ej o=>by
      match j,ej with
      | 0,_=>rfl
      | 1,ej=>cases ej; cases o
      | j+2,ej =>
        have ej':(envOf N ds)[j]?=some s:=by simpa using ej
        rcases envOf_slot ej' with rfl | ⟨d,rfl⟩ <;> cases o
    have start:EnvR T ⟨A,H,fun b=>b=x⟩ (fun b=>b=x) H (.obj k [] []::.red2 dss::envOf N ds) (some (.ref x)::some (.ref y)::(us.map some++List.replicate (N - us.length) none)):=by
      refine ⟨Fr.refl _ _,nw,fun a z=>by rw [z,hx]; trivial,fun j s ej=>?_,fun j l s t a e1 e2 o1 o2 _ _=>(own0 j s e1 o1).trans (own0 l t e2 o2).symm, ?_,fun j l dss t a bs b e1 _ _ _ _ _=>(by have:=own0 j _ e1 rfl; subst this; cases e1)⟩
      · match j,ej with
        | 0,ej =>
          cases ej
          exact ⟨x,C,dx,[],rfl,rfl,(by show H x≠none; rw [hx]; simp),hC,hx,rfl,.nil⟩
        | 1,ej =>
          cases ej
          refine ⟨y,bs,rfl,hyx,hy,il.imp fun ds b _ z=>?_⟩
          obtain ⟨ys,z1,z2⟩:=z
          exact ⟨fun w=>(by rw [show b=x from w,hx] at z1; cases z1),ys,z1,z2.mono (Same.refl _) fun b z=>⟨z,fun w=>hA (w ▸ z)⟩⟩
        | j+2,ej =>
          have ej':(envOf N ds)[j]?=some s:=by simpa using ej
          have hs:=B.slot j s ej'
          rw [List.getElem?_cons_succ,List.getElem?_cons_succ]
          rcases envOf_slot ej' with rfl | ⟨d,rfl⟩
          · trivial
          · obtain ⟨u,eu,ru⟩:=hs; exact ⟨u,eu,ru.mono (Same.refl _) fun b z=>⟨z.1,fun w=>hA (w ▸ z.1)⟩⟩
      · rw [List.length_cons,List.length_cons,List.length_cons,List.length_cons,B.len]
    refine ⟨⟨A,H,fun b=>b=x⟩,fun b=>b=x,.obj k [] []::.red2 dss::envOf N ds,fl,start,e1, ?_⟩
    exact init_end hC e q
noncomputable def spJ (T:Tx)(n:Nat)(J:JFn):Sp:=fun vs H Q _=>vs.length=n+1∧∃ (A:Addr→Prop) (x:Addr) (us:List V) (C dx:Addr) (fs0:List (Str × V)) (k:Nat) (ks:List Nat) (ds0 ds:List D) (p:List Nat × List D),vs=.ref x::us∧T.cl k=some C∧H x=some (.ins C dx fs0)∧fs0.map (·.1)=ks.map T.fld∧RepL T A H ds0 (fs0.map (·.2))∧¬ A x∧Nw A H∧RepL T A H ds us∧J k ks ds0 ds=some p ∧
  ∀ (H':Hp) (dx':Addr) (fs:List (Str × V)),(∀ b o,H b=some o→b≠x→H' b=some o)→(∀ b,H' b=none→H b=none)→H' x=some (.ins C dx' fs)→fs.map (·.1)=p.1.map T.fld→RepL T A H' p.2 (fs.map (·.2))→Q .non H'
structure BaseGJ (P:Program)(w:World)(K:PySem.W.Frag)(mg:Str→Option Value)(base:Heap)(c:Ct)(x:Str)(n k:Nat)(J:JFn):Prop where
  ex : ∃ C f fd ps,mg x=some (.ref C)∧ClsFn K C "__init__" f∧FnOk P w K mg base CX0 k f fd ps (spJ ⟨K,c.cl,c.fld⟩ n J)∧Binds K fd ps []
section
variable {X:Cx}{c:Ct}{xq:XQ}{e:Expr}{es:List Expr}{fa:FA}{pos apos:Pos}
theorem pds_baseJ {n k j i:Nat}{J:JFn}{x y:Str}{p p2 p3:Pos}{pl:Sem Bool}(G:BaseGJ X.prog X.w X.K X.mg X.base c x n k J)(hr:Room j X.A)(hkj:k≤j)(hg:Gl X x)(nm:Nm X i y)(ha:PDA X c es fa)
    (hpl:noStars es=true:=by rfl) (hdb:(x == ("__debug__":Str))=false:=by decide)
    (ht:eval (.Call (.Attribute (.Name x p) "__init__" apos) (.Name y p2::es) [] p3) X.env=(do
      let ov ← eval (.Name x p) X.env
      standAt apos.atName
      let (f,first) ← holding [ov] (getMethod ov "__init__" pl)
      callWith p3 f first (backTo p3 (starEach (.Name y p2::es) X.env)) (backToKw p3 (keywordEach [] X.env))):=by rfl) :
    PDS X c xq (.Expr (.Call (.Attribute (.Name x p) "__init__" apos) (.Name y p2::es) [] p3) pos) (fsBaseJ i n J fa):=by
  obtain ⟨C,f,fd,ps,h1,h2,h4,h5⟩:=G.ex
  refine PS.imp (ps_expr (pe_clsCall h2 h4 (hr.mono hkj) hg h1 h5 (pa_cons (pe_var nm.hN nm.hv nm.hd nm.hc) ha (star_cons rfl)) (star_cons rfl) (star_none hpl) hdb ht) (swaps_no rfl)) fun De σ H h=>?_
  obtain ⟨W,O,env,fl,E,e1,q⟩:=h
  unfold fsBaseJ at e1
  split at e1
  · next cn ks ds0 hi =>
    cases e2:fa env with
    | none=>rw [e2] at e1; cases e1
    | some as =>
      rw [e2] at e1
      dsimp only [Option.bind_some] at e1
      by_cases hl:as.length=n
      · rw [if_pos hl] at e1
        cases e3:J cn ks ds0 as with
        | none=>rw [e3] at e1; cases e1
        | some pr =>
          rw [e3] at e1; cases e1
          obtain ⟨a,C',dx,fs,g1,g2,g3,g4,g5,g6,g7⟩:=E.obj hi
          refine ⟨.ref a,g1,W,O,env,as,E,e2,fun vs H1 s1 r1=>?_⟩
          have E1:=E.mono s1
          refine ⟨?_,Cl W O,a,vs,C',dx,fs,cn,ks,ds0,as,pr, ?_,g4,s1 a _ g5,g6,g7.mono s1 fun _ z=>z,fun z=>z.2 g2,fun b hb=>E1.newA hb,r1,e3, ?_⟩
          · rw [List.length_append,List.length_cons,List.length_nil, ← RepL.length r1,hl]
          · rw [List.append_nil]
          · intro H' dx' fs' kp dm hx' hn hr'
            have up:=E1.updF (t:=.obj cn pr.1 pr.2) hi rfl g1 kp dm (by rw [hx']; trivial) ⟨a,C',dx',fs',rfl,g2,g3,g4,hx',hn,hr'⟩
            exact q σ H' O up.1 ((Fr.same s1).trans up.2)
      · rw [if_neg hl] at e1; cases e1
  · cases e1
noncomputable def jOf (I:IFn):JFn:=fun k ks ds as=>match ks,ds with
  | [],[]=>I k as
  | _,_=>none
theorem pds_base {n k j i:Nat}{I:IFn}{x y:Str}{p p2 p3:Pos}{pl:Sem Bool}(G:BaseG X.prog X.w X.K X.mg X.base c x n k I)(hr:Room j X.A)(hkj:k≤j)(hg:Gl X x)(nm:Nm X i y)(ha:PDA X c es fa)
    (hpl:noStars es=true:=by rfl) (hdb:(x == ("__debug__":Str))=false:=by decide)
    (ht:eval (.Call (.Attribute (.Name x p) "__init__" apos) (.Name y p2::es) [] p3) X.env=(do
      let ov ← eval (.Name x p) X.env
      standAt apos.atName
      let (f,first) ← holding [ov] (getMethod ov "__init__" pl)
      callWith p3 f first (backTo p3 (starEach (.Name y p2::es) X.env)) (backToKw p3 (keywordEach [] X.env))):=by rfl) :
    PDS X c xq (.Expr (.Call (.Attribute (.Name x p) "__init__" apos) (.Name y p2::es) [] p3) pos) (fsBase i n I fa):=by
  obtain ⟨C,f,fd,ps,h1,h2,h4,h5⟩:=G.ex
  refine PS.imp (pds_baseJ (c:=c) (xq:=xq) (n:=n) (J:=jOf I) ⟨C,f,fd,ps,h1,h2,h4.imp fun vs H Q E h=>?_,h5⟩ hr hkj hg nm ha hpl hdb ht) fun De σ H h=>?_
  · obtain ⟨hn,A,x,us,C,dx,fs0,k,ks,ds0,ds,p,rfl,hC,hx,hks,r0,hA,nw,r,e,q⟩:=h
    cases ks with
    | cons a b=>cases e
    | nil =>
      cases ds0 with
      | cons a b=>cases e
      | nil =>
        have:fs0=[]:=by simpa using hks
        subst this
        exact ⟨hn,A,x,us,C,dx,k,ds,p,rfl,hC,hx,hA,nw,r,e,q⟩
  · obtain ⟨W,O,env,fl,E,e1,q⟩:=h
    refine ⟨W,O,env,fl,E, ?_,q⟩
    unfold fsBase at e1
    split at e1
    · next cn hi=>unfold fsBaseJ; rw [hi]; exact e1
    · cases e1
end
theorem body_initJ {T:Tx}{N n:Nat}{F:FS}{vs:List V}{H:Hp}{Q:VK}{E0:XK}(h:spJ T n (bodyJ N F) vs H Q E0):tDs T (fun _ _ _=>False) F { nx:=fun _ H'=>Q .non H',rt:=Q } (vs.map some++List.replicate (N+1 - vs.length) none) H:=by
  obtain ⟨hn,A,x,us,C,dx,fs0,k,ks,ds0,ds,p,rfl,hC,hx,hks,r0,hA,nw,r,e,q⟩:=h
  rw [ev_bodyJ] at e
  cases e1:F (.obj k ks ds0::envOf N ds) with
  | none=>rw [e1] at e; cases e
  | some fl =>
    rw [e1,obind_some] at e
    have B:=body_start (n:=N) nw r
    have es:(V.ref x::us).map some++List.replicate (N+1 - (V.ref x::us).length) none=some (.ref x)::(us.map some++List.replicate (N - us.length) none):=by
      rw [List.map_cons,List.cons_append,List.length_cons,Nat.add_sub_add_right]
    rw [es]
    have own0 : ∀ (j:Nat) (s:Slot),(.obj k ks ds0::envOf N ds:DEnv)[j]?=some s→s.isOwn=true→j=0:=fun j s ej o=>by
      match j,ej with
      | 0,_=>rfl
      | j+1,ej =>
        have ej':(envOf N ds)[j]?=some s:=by simpa using ej
        rcases envOf_slot ej' with rfl | ⟨d,rfl⟩ <;> cases o
    have start:EnvR T ⟨A,H,fun b=>b=x⟩ (fun b=>b=x) H (.obj k ks ds0::envOf N ds) (some (.ref x)::(us.map some++List.replicate (N - us.length) none)):=by
      refine ⟨Fr.refl _ _,nw,fun a z=>by rw [z,hx]; trivial,fun j s ej=>?_,fun j l s t a e1 e2 o1 o2 _ _=>(own0 j s e1 o1).trans (own0 l t e2 o2).symm, ?_,fun j l dss t a bs b e1 _ _ _ _ _=>(by have:=own0 j _ e1 rfl; subst this; cases e1)⟩
      · match j,ej with
        | 0,ej =>
          cases ej
          exact ⟨x,C,dx,fs0,rfl,rfl,(by show H x≠none; rw [hx]; simp),hC,hx,hks,r0.mono (Same.refl _) fun b z=>⟨z,fun w=>hA (w ▸ z)⟩⟩
        | j+1,ej =>
          have ej':(envOf N ds)[j]?=some s:=by simpa using ej
          have hs:=B.slot j s ej'
          rw [List.getElem?_cons_succ]
          rcases envOf_slot ej' with rfl | ⟨d,rfl⟩
          · trivial
          · obtain ⟨u,eu,ru⟩:=hs; exact ⟨u,eu,ru.mono (Same.refl _) fun b z=>⟨z.1,fun w=>hA (w ▸ z.1)⟩⟩
      · rw [List.length_cons,List.length_cons,B.len]
    refine ⟨⟨A,H,fun b=>b=x⟩,fun b=>b=x,.obj k ks ds0::envOf N ds,fl,start,e1, ?_⟩
    exact init_end hC e q
theorem body_init {T:Tx}{N n:Nat}{F:FS}{vs:List V}{H:Hp}{Q:VK}{E0:XK}(h:spI T n (bodyI N F) vs H Q E0):tDs T (fun _ _ _=>False) F { nx:=fun _ H'=>Q .non H',rt:=Q } (vs.map some++List.replicate (N+1 - vs.length) none) H:=by
  obtain ⟨hn,A,x,us,C,dx,k,ds,p,rfl,hC,hx,hA,nw,r,e,q⟩:=h
  exact body_initJ (E0:=E0) ⟨hn,A,x,us,C,dx,[],k,[],[],ds,p,rfl,hC,hx,rfl,.nil,hA,nw,r,(by rw [ev_bodyJ, ← ev_bodyI]; exact e),q⟩
section
variable {P:Program}{w:World}{K:PySem.W.Frag}{mg:Str→Option Value}{base:Heap}{c:Ct}
theorem init_ofR2 {z x qual:Str}{st:Stmt}{C fa:Addr}{fd:FuncData}{y y2:Str}{N ps:List Str}{k kc:Nat}{F:FS}(Fn:Fun K x qual st fa fd)(S:FnScope (y::y2::N) (y::y2::ps) (defScope st))(hb:Binds K fd (y::y2::ps) [])
    (body:BodyOk P w K mg base c (y::y2::N) st k F) (hm:mg z=some (.ref C)) (hC:c.cl kc=some C) (M:Mk K C fa):InitGR2 P w K mg base c z ps.length (k+1) kc (bodyIR2 N.length F):=by
  refine ⟨C,fa,fd,_,hm,hC,M, ?_,hb⟩
  refine Fn.ok S (fun vs H Q E h=>h.1) fun cdv A outer s H vs Q E hr h=>⟨_,body.ok _ rfl rfl rfl rfl rfl ⟨⟨rfl,rfl,rfl,S.nd⟩,fun _=>rfl,PassesOwn.never⟩ hr, ?_⟩
  exact body_initR2 (E0:=E) h
theorem base_ofJ {z x qual:Str}{st:Stmt}{C fa:Addr}{fd:FuncData}{y:Str}{N ps:List Str}{k:Nat}{F:FS}(Fn:Fun K x qual st fa fd)(S:FnScope (y::N) (y::ps) (defScope st))(hb:Binds K fd (y::ps) [])
    (body:BodyOk P w K mg base c (y::N) st k F) (hm:mg z=some (.ref C)) (M:ClsFn K C "__init__" fa):BaseGJ P w K mg base c z ps.length (k+1) (bodyJ N.length F):=by
  refine ⟨C,fa,fd,_,hm,M, ?_,hb⟩
  refine Fn.ok S (fun vs H Q E h=>h.1) fun cdv A outer s H vs Q E hr h=>⟨_,body.ok _ rfl rfl rfl rfl rfl ⟨⟨rfl,rfl,rfl,S.nd⟩,fun _=>rfl,PassesOwn.never⟩ hr, ?_⟩
  exact body_initJ (E0:=E) h
theorem fn_init {x qual:Str}{st:Stmt}{fa:Addr}{fd:FuncData}{y:Str}{N ps:List Str}{k:Nat}{F:FS}(Fn:Fun K x qual st fa fd)(S:FnScope (y::N) (y::ps) (defScope st))
    (body:BodyOk P w K mg base c (y::N) st k F):FnOk P w K mg base CX0 (k+1) fa fd (y::ps) (spI ⟨K,c.cl,c.fld⟩ ps.length (bodyI N.length F)):=by
  refine Fn.ok S (fun vs H Q E h=>h.1) fun cdv A outer s H vs Q E hr h=>⟨_,body.ok _ rfl rfl rfl rfl rfl ⟨⟨rfl,rfl,rfl,S.nd⟩,fun _=>rfl,PassesOwn.never⟩ hr, ?_⟩
  exact body_init (E0:=E) h
theorem init_of {z x qual:Str}{st:Stmt}{C fa:Addr}{fd:FuncData}{y:Str}{N ps:List Str}{k kc:Nat}{F:FS}(Fn:Fun K x qual st fa fd)(S:FnScope (y::N) (y::ps) (defScope st))(hb:Binds K fd (y::ps) [])
    (body:BodyOk P w K mg base c (y::N) st k F) (hm:mg z=some (.ref C)) (hC:c.cl kc=some C) (M:Mk K C fa):InitG P w K mg base c z ps.length (k+1) kc (bodyI N.length F):=⟨C,fa,fd,_,hm,hC,M,fn_init Fn S body,hb⟩
theorem base_of {z x qual:Str}{st:Stmt}{C fa:Addr}{fd:FuncData}{y:Str}{N ps:List Str}{k:Nat}{F:FS}(Fn:Fun K x qual st fa fd)(S:FnScope (y::N) (y::ps) (defScope st))(hb:Binds K fd (y::ps) [])
    (body:BodyOk P w K mg base c (y::N) st k F) (hm:mg z=some (.ref C)) (M:ClsFn K C "__init__" fa):BaseG P w K mg base c z ps.length (k+1) (bodyI N.length F):=⟨C,fa,fd,_,hm,M,fn_init Fn S body,hb⟩
end
end DL
end
section
set_option maxHeartbeats 4000000
namespace K17
open DL L2
noncomputable def c_BLANK:D:=.str [32]
def CE_column_widths_1:FE:=(fp1 (fldD 0) (fp2 ixD (feName 0) (feName 1)))
def CE_column_widths_2:FE:=(fp1 maxLD (feFr (ffComp 1 [0] (tgName 0) (feName 1) ftYes CE_column_widths_1)))
def F_column_widths:FS:=(fsRetF (ffCompR rng1 1 [0] (tgName 0) (faCons (fp1 lenD (fp2 ixD (feName 0) (feC (.int 0)))) faNil) ftYes CE_column_widths_2))
def D_column_widths:List D→Option (List D):=bodyFF 1 F_column_widths
def CE_greatest_up_1:FE:=(fp1 (fldD 1) (feName 0))
def F_greatest_up:FS:=(fsRet (fp1 maxLD (feFr (ffComp 1 [] (tgName 0) (feName 0) ftYes CE_greatest_up_1))))
def D_greatest_up:List D→Option (D):=bodyF 1 F_greatest_up
def CE_band_height_1:FE:=(fp1 (fldD 2) (feName 0))
def F_band_height:FS:=(fsRet (fp2 addD (fp2 addD (feCall 1 D_greatest_up (faCons (feName 0) faNil)) (feC (.int 1))) (fp1 maxLD (feFr (ffComp 1 [] (tgName 0) (feName 0) ftYes CE_band_height_1)))))
def D_band_height:List D→Option (D):=bodyF 1 F_band_height
def LB_numbers_by_row_1:FS:=(fsSeq (fsIf (ftB (fp2 (intD gtI) (feName 2) (feC (.int 0)))) (fsAppend 1 (feC .non)) fsNext) (fsExtL 1 (fp2 mulF (ffLst (faCons (feName 2) faNil)) (feCall 1 D_band_height (faCons (feName 3) faNil)))))
def F_numbers_by_row:FS:=(fsSeq (fsOwn 1 (ffLst faNil)) (fsSeq (fsForE (tgTup [2,3]) (feName 0) LB_numbers_by_row_1) (fsRetO 1)))
def D_numbers_by_row:List D→Option (List D):=bodyFF 4 F_numbers_by_row
def F_Sketch_init:FS:=(fsSeq (fsFld 0 0 (feName 1)) (fsSeq (fsFld 0 1 (feName 2)) (fsFld 0 2 (feName 3))))
def I_Sketch:IFn:=bodyI 3 F_Sketch_init
def J_Sketch:JFn:=bodyJ 3 F_Sketch_init
def LB_band_lows_1:FS:=(fsSeq (fsAppend 2 (fp2 addD (feName 3) (feCall 1 D_greatest_up (faCons (feName 4) faNil)))) (fsAug 3 addA (fp2 addD (feCall 1 D_band_height (faCons (feName 4) faNil)) (feC (.int 1)))))
def F_band_lows:FS:=(fsSeq (fsOwn 2 (ffLst faNil)) (fsSeq (fsSet 3 (fp1 negD (feName 1))) (fsSeq (fsFor (tgName 4) (feName 0) LB_band_lows_1) (fsRetO 2))))
def D_band_lows:List D→Option (List D):=bodyFF 5 F_band_lows
def CE_Grid_init_1:FE:=(feFr (fp1 seqD (feRead 0)))
def F_Grid_init:FS:=(fsSeq (fsFld 0 5 (feFr (ffCompI 1 [] 1 CE_Grid_init_1))) (fsSeq (fsFld 0 6 (feFr (feCall 1 D_column_widths (faCons (feSelf 0 5) faNil)))) (fsSeq (fsFld 0 7 (feFr (feCall 1 D_numbers_by_row (faCons (feSelf 0 5) faNil)))) (fsSeq (fsSet 2 (fp1 lenD (feSelf 0 7))) (fsSeq (fsSet 3 (fp2 (intD fdivI) (fp2 (intD subI) (feName 2) (feC (.int 1))) (feC (.int 2)))) (fsSeq (fsBaseJ 0 3 J_Sketch (faCons (fp2 addD (fp1 sumD (feSelf 0 6)) (fp2 mulD (feC (.int 2)) (fp1 lenD (feSelf 0 6)))) (faCons (feName 3) (faCons (fp2 (intD subI) (fp2 (intD subI) (feName 2) (feC (.int 1))) (feName 3)) faNil)))) (fsFld 0 8 (feFr (feCall 2 D_band_lows (faCons (feSelf 0 5) (faCons (feName 3) faNil)))))))))))
def I_Grid:IFn:=bodyIR2 2 F_Grid_init
def CE_law_wides_1:FE:=(fp1 lenD (fp2 ixD (fp2 ixD (fp2 ixD (feName 0) (feName 1)) (feC (.int 1))) (feC (.int 0))))
def CE_law_wides_2:FE:=(fp1 maxLD (feFr (ffComp 1 [0] (tgName 0) (feName 1) ftYes CE_law_wides_1)))
def F_law_wides:FS:=(fsRetF (ffCompR rng1 1 [0] (tgName 0) (faCons (fp1 lenD (fp2 ixD (feName 0) (feC (.int 0)))) faNil) ftYes CE_law_wides_2))
def D_law_wides:List D→Option (List D):=bodyFF 1 F_law_wides
def F_law_row:FS:=(fsSeq (fsIf (ftB (feChain leB ltB (feC (.int 0)) (fp2 addD (feName 1) (fp2 ixD (feName 0) (feC (.int 2)))) (fp1 lenD (fp2 ixD (feName 0) (feC (.int 1)))))) (fsRet (fp2 ixD (fp2 ixD (feName 0) (feC (.int 1))) (fp2 addD (feName 1) (fp2 ixD (feName 0) (feC (.int 2)))))) fsNext) (fsRet (fp2 mulD (feC (.str [32])) (fp1 lenD (fp2 ixD (fp2 ixD (feName 0) (feC (.int 1))) (feC (.int 0)))))))
def D_law_row:List D→Option (D):=bodyF 2 F_law_row
def CE_law_band_1:FE:=(fp2 ixD (feName 0) (feC (.int 2)))
def CE_law_band_2:FE:=(fp2 (intD subI) (fp2 (intD subI) (fp1 lenD (fp2 ixD (feName 0) (feC (.int 1)))) (feC (.int 1))) (fp2 ixD (feName 0) (feC (.int 2))))
def CE_law_band_3:FE:=(feCall 2 D_law_row (faCons (feName 0) (faCons (feName 1) faNil)))
def CE_law_band_4:FE:=(fp2 addD (fp2 mulD (feC (.str [32])) (fp2 (intD subI) (feName 1) (fp1 lenD (feName 0)))) (feName 0))
def LB_law_band_5:FS:=(fsSeq (fsSet 6 (feFr (ffComp 1 [5] (tgName 0) (feName 0) ftYes CE_law_band_3))) (fsAppend 4 (fp2 joinE (feC (.str [32,32])) (feFr (ffCompZ zipF 2 [] (tgTup [0,1]) (faCons (feName 6) (faCons (feName 1) faNil)) CE_law_band_4)))))
def F_law_band:FS:=(fsSeq (fsSet 2 (fp1 maxLD (feFr (ffComp 1 [] (tgName 0) (feName 0) ftYes CE_law_band_1)))) (fsSeq (fsSet 3 (fp1 maxLD (feFr (ffComp 1 [] (tgName 0) (feName 0) ftYes CE_law_band_2)))) (fsSeq (fsOwn 4 (ffLst faNil)) (fsSeq (fsForR rng2 (tgName 5) (faCons (fp1 negD (feName 2)) (faCons (fp2 addD (feName 3) (feC (.int 1))) faNil)) LB_law_band_5) (fsFrz 4 (fsRet (feTup (faCons (feName 4) (faCons (feName 2) faNil)))))))))
def D_law_band:List D→Option (D):=bodyF 7 F_law_band
def LB_law_inner_1:FS:=(fsSeq (fsIf (ftB (fp2 (eqF true) (feRead 2) (feFr (ffLst faNil)))) (fsAppend 2 (fp2 mulD (feC (.str [32])) (fp2 (intD subI) (fp2 addD (fp1 sumD (feName 1)) (fp2 mulD (feC (.int 2)) (fp1 lenD (feName 1)))) (feC (.int 2))))) fsNext) (fsSeq (fsUnp (tgTup [5,6]) (feCall 2 D_law_band (faCons (feName 4) (faCons (feName 1) faNil)))) (fsSeq (fsAppend 3 (fp2 addD (fp1 lenD (feRead 2)) (feName 6))) (fsOwn 2 (fp2 addF (feRead 2) (feName 5))))))
def F_law_inner:FS:=(fsSeq (fsSet 1 (feFr (feCall 1 D_law_wides (faCons (feName 0) faNil)))) (fsSeq (fsOwn 2 (ffLst faNil)) (fsSeq (fsOwn 3 (ffLst faNil)) (fsSeq (fsFor (tgName 4) (feName 0) LB_law_inner_1) (fsFrz 2 (fsFrz 3 (fsRet (feTup (faCons (feName 2) (faCons (feName 3) faNil))))))))))
def D_law_inner:List D→Option (D):=bodyF 7 F_law_inner
def CE_law_sided_1:FE:=(fp2 addD (fp2 addD (feC (.str [124])) (feName 0)) (feC (.str [124])))
def F_law_sided:FS:=(fsSeq (fsSet 1 (fp2 (intD fdivI) (fp2 (intD subI) (fp1 lenD (feName 0)) (feC (.int 1))) (feC (.int 2)))) (fsSeq (fsOwn 2 (ffComp 1 [] (tgName 0) (feName 0) ftYes CE_law_sided_1)) (fsSeq (fsItem 2 (feName 1) (fp2 addD (fp2 addD (feC (.str [91])) (fp2 ixD (feName 0) (feName 1))) (feC (.str [93])))) (fsFrz 2 (fsRet (feTup (faCons (feName 2) (faCons (feName 1) faNil))))))))
def D_law_sided:List D→Option (D):=bodyF 3 F_law_sided
def LB_law_due_spots_1:FS:=(fsSeq (fsAppend 3 (feTup (faCons (feName 8) (faCons (fp2 (intD subI) (feName 6) (feName 2)) (faCons (fp2 (intD subI) (fp2 addD (feName 7) (feName 9)) (fp1 lenD (fp2 ixD (fp2 ixD (feName 8) (feC (.int 1))) (feC (.int 0))))) faNil))))) (fsSet 7 (fp2 addD (fp2 addD (feName 7) (feName 9)) (feC (.int 2)))))
def LB_law_due_spots_2:FS:=(fsSeq (fsSet 7 (feC (.int 1))) (fsForZ zipF (tgTup [8,9]) (faCons (feName 5) (faCons (feName 4) faNil)) LB_law_due_spots_1))
def F_law_due_spots:FS:=(fsSeq (fsOwn 3 (ffLst faNil)) (fsSeq (fsSet 4 (feFr (feCall 1 D_law_wides (faCons (feName 0) faNil)))) (fsSeq (fsForZ zipF (tgTup [5,6]) (faCons (feName 0) (faCons (feName 1) faNil)) LB_law_due_spots_2) (fsRetO 3))))
def D_law_due_spots:List D→Option (List D):=bodyFF 10 F_law_due_spots
def F_Word_init:FS:=(fsSeq (fsBase 0 3 I_Sketch (faCons (fp1 lenD (feName 1)) (faCons (feC (.int 0)) (faCons (feC (.int 0)) faNil)))) (fsFld 0 3 (feName 1)))
def I_Word:IFn:=bodyI 1 F_Word_init
def F_Sketch_spots:FS:=(fsRetF (ffLst faNil))
def D_Sketch_spots:List D→Option (List D):=bodyFF 1 F_Sketch_spots
def F_Root_spots:FS:=(fsRetF (ffLst (faCons (feTup (faCons (fp1 (fldD 4) (feName 0)) (faCons (feC (.int 0)) (faCons (feC (.int 2)) faNil)))) faNil)))
def D_Root_spots:List D→Option (List D):=bodyFF 1 F_Root_spots
def LB_Grid_spots_1:FS:=(fsSeq (fsAppend 1 (feTup (faCons (feName 5) (faCons (feName 3) (faCons (fp2 (intD subI) (fp2 addD (feName 4) (feName 6)) (fp1 (fldD 0) (feName 5))) faNil))))) (fsAug 4 addA (fp2 addD (feName 6) (feC (.int 2)))))
def LB_Grid_spots_2:FS:=(fsSeq (fsSet 4 (feC (.int 1))) (fsForZ zipF (tgTup [5,6]) (faCons (feName 2) (faCons (fp1 (fldD 6) (feName 0)) faNil)) LB_Grid_spots_1))
def F_Grid_spots:FS:=(fsSeq (fsOwn 1 (ffLst faNil)) (fsSeq (fsForZ zipF (tgTup [2,3]) (faCons (fp1 (fldD 5) (feName 0)) (faCons (fp1 (fldD 8) (feName 0)) faNil)) LB_Grid_spots_2) (fsRetO 1)))
def D_Grid_spots:List D→Option (List D):=bodyFF 7 F_Grid_spots
def MT_spots:MTab (List D):=fun c=>match c with
  | 0=>some ([0,1,2],D_Sketch_spots)
  | 1=>some ([0,1,2,3],D_Sketch_spots)
  | 2=>some ([0,1,2,4],D_Root_spots)
  | 3=>some ([5,6,7,0,1,2,8],D_Grid_spots)
  | _=>none
def F_law_cell_at:FS:=(fsSeq (fsIf (ftB (fp2 (intD ltI) (feName 1) (fp1 lenD (feName 0)))) (fsRet (fp2 ixD (feName 0) (feName 1))) fsNext) (fsRet (feC (.int 0))))
def D_law_cell_at:List D→Option (D):=bodyF 2 F_law_cell_at
def F_Sketch_row_within:FS:=(fsRet (fp2 mulD (feC c_BLANK) (fp1 (fldD 0) (feName 0))))
def D_Sketch_row_within:List D→Option (D):=bodyF 2 F_Sketch_row_within
def F_Word_row_within:FS:=(fsRet (fp1 (fldD 3) (feName 0)))
def D_Word_row_within:List D→Option (D):=bodyF 2 F_Word_row_within
structure Rec0 where
  Sketch_row:List D→Option (D)
  Root_row_within:List D→Option (D)
  Grid_row_within:List D→Option (D)
  Grid_band_row:List D→Option (D)
def MT_row (R:Rec0):MTab (D):=fun c=>match c with
  | 0=>some ([0,1,2],R.Sketch_row)
  | 1=>some ([0,1,2,3],R.Sketch_row)
  | 2=>some ([0,1,2,4],R.Sketch_row)
  | 3=>some ([5,6,7,0,1,2,8],R.Sketch_row)
  | _=>none
def MT_row_within (R:Rec0):MTab (D):=fun c=>match c with
  | 0=>some ([0,1,2],D_Sketch_row_within)
  | 1=>some ([0,1,2,3],D_Word_row_within)
  | 2=>some ([0,1,2,4],R.Root_row_within)
  | 3=>some ([5,6,7,0,1,2,8],R.Grid_row_within)
  | _=>none
def MT_band_row (R:Rec0):MTab (D):=fun c=>match c with
  | 3=>some ([5,6,7,0,1,2,8],R.Grid_band_row)
  | _=>none
def F_Sketch_row (R:Rec0):FS:=(fsSeq (fsIf (ftOr (ftB (fp2 (intD ltI) (feName 1) (fp1 negD (fp1 (fldD 1) (feName 0))))) (ftB (fp2 (intD gtI) (feName 1) (fp1 (fldD 2) (feName 0))))) (fsRet (fp2 mulD (feC c_BLANK) (fp1 (fldD 0) (feName 0)))) fsNext) (fsRet (fpMeth 1 (MT_row_within R) (feName 0) (faCons (feName 1) faNil))))
def F_Root_row_within (R:Rec0):FS:=(fsSeq (fsIf (ftB (fp2 (eqF false) (feName 1) (fp1 negD (fp1 (fldD 1) (feName 0))))) (fsRet (fp2 addD (fp2 mulD (feC c_BLANK) (feC (.int 2))) (fp2 mulD (feC (.str [95])) (fp1 (fldD 0) (fp1 (fldD 4) (feName 0)))))) fsNext) (fsRet (fp2 addD (feIf (ftB (fp2 (eqF false) (feName 1) (feC (.int 0)))) (feC (.str [86,124])) (fp2 addD (feC c_BLANK) (feC (.str [124])))) (fpMeth 1 (MT_row R) (fp1 (fldD 4) (feName 0)) (faCons (feName 1) faNil)))))
def F_Grid_row_within (R:Rec0):FS:=(fsSeq (fsSet 2 (fp2 ixD (fp1 (fldD 7) (feName 0)) (fp2 addD (feName 1) (fp1 (fldD 1) (feName 0))))) (fsSeq (fsSet 3 (feIf (ftB (fp1 (isNon false) (feName 2))) (fp2 mulD (feC c_BLANK) (fp2 (intD subI) (fp1 (fldD 0) (feName 0)) (feC (.int 2)))) (fpMeth 2 (MT_band_row R) (feName 0) (faCons (feName 2) (faCons (feName 1) faNil))))) (fsRet (feIf (ftB (fp2 (eqF false) (feName 1) (feC (.int 0)))) (fp2 addD (fp2 addD (feC (.str [91])) (feName 3)) (feC (.str [93]))) (fp2 addD (fp2 addD (feC (.str [124])) (feName 3)) (feC (.str [124])))))))
def F_Grid_band_row (R:Rec0):FS:=(fsSeq (fsSet 3 (fp2 (intD subI) (feName 2) (fp2 ixD (fp1 (fldD 8) (feName 0)) (feName 1)))) (fsRet (fp2 joinE (feC (.str [32,32])) (feFr (ffCompZ zipF 2 [3] (tgTup [0,1]) (faCons (fp2 ixD (fp1 (fldD 5) (feName 0)) (feName 1)) (faCons (fp1 (fldD 6) (feName 0)) faNil)) (fp2 (strM1 rjustF) (fpMeth 1 (MT_row R) (feName 0) (faCons (feName 2) faNil)) (feName 1)))))))
def DN0:Nat→Rec0
  | 0=>⟨fun _=>none,fun _=>none,fun _=>none,fun _=>none⟩
  | n+1=>⟨bodyF 2 (F_Sketch_row (DN0 n)),bodyF 2 (F_Root_row_within (DN0 n)),bodyF 4 (F_Grid_row_within (DN0 n)),bodyF 4 (F_Grid_band_row (DN0 n))⟩
abbrev fuel0:Nat:=40
abbrev D_Sketch_row:List D→Option (D):=(DN0 fuel0).Sketch_row
abbrev D_Root_row_within:List D→Option (D):=(DN0 fuel0).Root_row_within
abbrev D_Grid_row_within:List D→Option (D):=(DN0 fuel0).Grid_row_within
abbrev D_Grid_band_row:List D→Option (D):=(DN0 fuel0).Grid_band_row
abbrev MTT_row:MTab (D):=MT_row (DN0 fuel0)
abbrev MTT_row_within:MTab (D):=MT_row_within (DN0 fuel0)
abbrev MTT_band_row:MTab (D):=MT_band_row (DN0 fuel0)
def CE_Sketch_rows_1:FE:=(fpMeth 1 MTT_row (feName 1) (faCons (feName 0) faNil))
def F_Sketch_rows:FS:=(fsRetF (ffCompR rng2 1 [0] (tgName 0) (faCons (fp1 negD (fp1 (fldD 1) (feName 0))) (faCons (fp2 addD (fp1 (fldD 2) (feName 0)) (feC (.int 1))) faNil)) ftYes CE_Sketch_rows_1))
def D_Sketch_rows:List D→Option (List D):=bodyFF 1 F_Sketch_rows
def MT_rows:MTab (List D):=fun c=>match c with
  | 0=>some ([0,1,2],D_Sketch_rows)
  | 1=>some ([0,1,2,3],D_Sketch_rows)
  | 2=>some ([0,1,2,4],D_Sketch_rows)
  | 3=>some ([5,6,7,0,1,2,8],D_Sketch_rows)
  | _=>none
def F_law_whole:FS:=(fsRet (feAnd (fp1 (instD .int) (feName 0)) (feNot (fp1 (instD .bool) (feName 0)))))
def D_law_whole:List D→Option (D):=bodyF 1 F_law_whole
def LB_law_box_1:FS:=(fsIf (ftOr (ftNot (ftB (feCall 1 D_law_whole (faCons (feName 3) faNil)))) (ftB (fp2 (eqF true) (feName 3) (feName 4)))) (fsRet (feC (.bl false))) fsNext)
def F_law_box:FS:=(fsSeq (fsIf (ftNot (ftB (fp1 (instC [0,1,2,3]) (feName 0)))) (fsRet (feC (.bl false))) fsNext) (fsSeq (fsForZ zipF (tgTup [3,4]) (faCons (feFr (ffLst (faCons (fp1 (fldD 0) (feName 0)) (faCons (fp1 (fldD 1) (feName 0)) (faCons (fp1 (fldD 2) (feName 0)) faNil))))) (faCons (feFr (ffLst (faCons (fp1 lenD (fp2 ixD (feName 1) (feC (.int 0)))) (faCons (feName 2) (faCons (fp2 (intD subI) (fp2 (intD subI) (fp1 lenD (feName 1)) (feC (.int 1))) (feName 2)) faNil))))) faNil)) LB_law_box_1) (fsSeq (fsSet 5 (feFr (fpMeth 0 MT_rows (feName 0) faNil))) (fsRet (feAnd (fp1 (instD .list) (feName 5)) (fp2 (eqF false) (feName 5) (feName 1)))))))
def D_law_box:List D→Option (D):=bodyF 6 F_law_box
def LB_law_spots_1:FS:=(fsSeq (fsIf (ftOr (ftNot (ftB (fp1 (instD .tuple) (feName 2)))) (ftOr (ftB (fp2 (eqF true) (fp1 lenD (feName 2)) (feC (.int 3)))) (ftOr (ftNot (ftB (feCall 1 D_law_whole (faCons (fp2 ixD (feName 2) (feC (.int 1))) faNil)))) (ftNot (ftB (feCall 1 D_law_whole (faCons (fp2 ixD (feName 2) (feC (.int 2))) faNil))))))) (fsRet (feC (.bl false))) fsNext) (fsIf (ftOr (ftB (fp2 (eqF true) (feSl slD (feName 2) (foSome (feC (.int 1))) foNone) (feSl slD (feName 3) (foSome (feC (.int 1))) foNone))) (ftNot (ftB (feCall 3 D_law_box (faCons (fp2 ixD (feName 2) (feC (.int 0))) (faCons (fp2 ixD (fp2 ixD (feName 3) (feC (.int 0))) (feC (.int 1))) (faCons (fp2 ixD (fp2 ixD (feName 3) (feC (.int 0))) (feC (.int 2))) faNil))))))) (fsRet (feC (.bl false))) fsNext))
def F_law_spots:FS:=(fsSeq (fsIf (ftOr (ftNot (ftB (fp1 (instD .list) (feName 0)))) (ftB (fp2 (eqF true) (fp1 lenD (feName 0)) (fp1 lenD (feName 1))))) (fsRet (feC (.bl false))) fsNext) (fsSeq (fsForZ zipF (tgTup [2,3]) (faCons (feName 0) (faCons (feName 1) faNil)) LB_law_spots_1) (fsRet (feC (.bl true)))))
def D_law_spots:List D→Option (D):=bodyF 4 F_law_spots
def F_Root_init:FS:=(fsSeq (fsBase 0 3 I_Sketch (faCons (fp2 addD (fp1 (fldD 0) (feName 1)) (feC (.int 2))) (faCons (fp2 addD (fp1 (fldD 1) (feName 1)) (feC (.int 1))) (faCons (fp1 (fldD 2) (feName 1)) faNil)))) (fsFld 0 4 (feName 1)))
def I_Root:IFn:=bodyI 1 F_Root_init
def F_law_sign:FS:=(fsSeq (fsSet 1 (feC (.str [33,34,35,36,38,39,40,41,42,43,44,45,46,47,48,49,50,51,52,53,54,55,56,57,58,59,60,61,62,63,64,65,66,67,68,69,70,71,72,73,74,75,76,77,78,79,80,81,82,83,84,85,86,87,88,89,90,91,92,93,94,95,96]))) (fsSeq (fsSet 1 (fp2 addD (feName 1) (feC (.str [97,98,99,100,101,102,103,104,105,106,107,108,109,110,111,112,113,114,115,116,117,118,119,120,121,122,123,124,125,126])))) (fsRet (fp2 ixD (feName 1) (fp2 (intD modI) (fp2 (intD modI) (fp2 mulD (feName 0) (feC (.int 48271))) (feC (.int 2147483647))) (feC (.int 93)))))))
def D_law_sign:List D→Option (D):=bodyF 2 F_law_sign
def CE_law_piece_1:FE:=(feCall 1 D_law_sign (faCons (fp2 addD (fp2 (intD fdivI) (feName 1) (feC (.int 448))) (fp2 mulD (fp2 mulD (feC (.int 37)) (feName 0)) (feName 0))) faNil))
def CE_law_piece_2:FE:=(fp2 addD (feC (.str [32,124])) (feName 0))
def F_law_piece:FS:=(fsSeq (fsSet 1 (fp2 (intD modI) (fp2 mulD (feName 0) (feC (.int 1099087573))) (feC (.int 10000000000037)))) (fsSeq (fsSet 2 (fp2 (intD modI) (fp2 (intD fdivI) (feName 1) (feC (.int 4))) (feC (.int 7)))) (fsSeq (fsSet 3 (fp2 (intD modI) (fp2 (intD fdivI) (feName 1) (feC (.int 28))) (feC (.int 4)))) (fsSeq (fsSet 4 (fp2 (intD modI) (fp2 (intD fdivI) (feName 1) (feC (.int 112))) (feC (.int 4)))) (fsSeq (fsIf (ftB (fp2 (intD ltI) (fp2 (intD modI) (feName 1) (feC (.int 4))) (feC (.int 2)))) (fsSeq (fsSet 5 (fp2 joinE (feC (.str [])) (feFr (ffCompR rng1 1 [1] (tgName 0) (faCons (fp2 addD (feName 2) (feC (.int 1))) faNil) ftYes CE_law_piece_1)))) (fsRet (feTup (faCons (fpMake 1 1 I_Word (faCons (feName 5) faNil)) (faCons (feFr (ffLst (faCons (feName 5) faNil))) (faCons (feC (.int 0)) faNil)))))) fsNext) (fsSeq (fsSet 6 (feFr (fp2 mulF (ffLst (faCons (fp2 mulD (feC (.str [32])) (feName 2)) faNil)) (fp2 addD (fp2 addD (feName 3) (feName 4)) (feC (.int 1)))))) (fsSeq (fsIf (ftB (fp2 (eqF false) (fp2 (intD modI) (feName 1) (feC (.int 4))) (feC (.int 2)))) (fsRet (feTup (faCons (fpMake 0 3 I_Sketch (faCons (feName 2) (faCons (feName 3) (faCons (feName 4) faNil)))) (faCons (feName 6) (faCons (feName 3) faNil))))) fsNext) (fsSeq (fsOwn 7 (ffComp 1 [] (tgName 0) (feName 6) ftYes CE_law_piece_2)) (fsSeq (fsItem 7 (feName 3) (fp2 addD (feC (.str [86,124])) (fp2 ixD (feName 6) (feName 3)))) (fsRet (feTup (faCons (fpMake 2 1 I_Root (faCons (fpMake 0 3 I_Sketch (faCons (feName 2) (faCons (feName 3) (faCons (feName 4) faNil)))) faNil)) (faCons (feFr (fp2 addF (feFr (ffLst (faCons (fp2 addD (feC (.str [32,32])) (fp2 mulD (feC (.str [95])) (feName 2))) faNil))) (feRead 7))) (faCons (fp2 addD (feName 3) (feC (.int 1))) faNil))))))))))))))
def D_law_piece:List D→Option (D):=bodyF 8 F_law_piece
def CE_law_1:FE:=(fp2 addD (feCall 2 D_law_cell_at (faCons (feName 1) (faCons (fp2 addD (fp2 addD (feC (.int 2)) (fp2 mulD (feName 2) (feName 3))) (feName 0)) faNil))) (fp2 mulD (fp2 mulD (feC (.int 7919)) (fp2 addD (feName 2) (feC (.int 1)))) (fp2 addD (feName 0) (feC (.int 2)))))
def CE_law_2:FE:=(feCall 1 D_law_piece (faCons (feName 0) faNil))
def LB_law_3:FS:=(fsSeq (fsSet 5 (feFr (ffCompR rng1 1 [0,4,2] (tgName 0) (faCons (feName 2) faNil) ftYes CE_law_1))) (fsAppend 3 (feFr (ffComp 1 [] (tgName 0) (feName 5) ftYes CE_law_2))))
def CE_law_4:FE:=(fp2 ixD (feName 0) (feC (.int 0)))
def CF_law_5:FP (List D):=(ffComp 1 [] (tgName 0) (feName 0) ftYes CE_law_4)
def CE_law_6:FE:=(feFr (fpMeth 0 MT_rows (feName 0) faNil))
def CE_law_7:FE:=(feFr (ffComp 1 [] (tgName 0) (feName 0) ftYes CE_law_6))
def CE_law_8:FE:=(fp2 ixD (feName 0) (feC (.int 1)))
def CE_law_9:FE:=(feFr (ffComp 1 [] (tgName 0) (feName 0) ftYes CE_law_8))
def CE_law_10:FE:=(fpMake 1 1 I_Word (faCons (fp2 mulD (feC (.str [121])) (feC (.int 12))) faNil))
def LB_law_11:FS:=(fsIf (ftB (fp2 (eqF true) (fpMeth 1 MTT_row (feName 7) (faCons (feName 16) faNil)) (feCall 2 D_law_row (faCons (feTup (faCons (feName 7) (faCons (feName 10) (faCons (feName 11) faNil)))) (faCons (feName 16) faNil))))) (fsRet (feC (.bl false))) fsNext)
def F_law:FS:=(fsSeq (fsSet 1 (fp2 addD (feC (.int 1)) (fp2 (intD modI) (feCall 2 D_law_cell_at (faCons (feName 0) (faCons (feC (.int 0)) faNil))) (feC (.int 9))))) (fsSeq (fsSet 2 (fp2 addD (feC (.int 1)) (fp2 (intD modI) (feCall 2 D_law_cell_at (faCons (feName 0) (faCons (feC (.int 1)) faNil))) (feC (.int 9))))) (fsSeq (fsOwn 3 (ffLst faNil)) (fsSeq (fsForR rng1 (tgName 4) (faCons (feName 1) faNil) LB_law_3) (fsSeq (fsOwn2 6 (ffComp2 1 [] (tgName 0) (feRead 3) CF_law_5)) (fsSeq (fsSet 7 (fpMakeR2 3 0 I_Grid 6 faNil)) (fsFrz 3 (fsSeq (fsUnp (tgTup [8,9]) (feCall 1 D_law_inner (faCons (feName 3) faNil))) (fsSeq (fsUnp (tgTup [10,11]) (feCall 1 D_law_sided (faCons (feName 8) faNil))) (fsSeq (fsSet 12 (feFr (feCall 3 D_law_due_spots (faCons (feName 3) (faCons (feName 9) (faCons (feName 11) faNil)))))) (fsSeq (fsIf (ftLend2 6 (ftB (fp2 (eqF true) (feFr (ffComp 1 [] (tgName 0) (feName 6) ftYes CE_law_7)) (feFr (ffComp 1 [] (tgName 0) (feName 3) ftYes CE_law_9))))) (fsRet (feC (.bl false))) fsNext) (fsSeq (fsIf (ftOr (ftNot (ftB (feCall 3 D_law_box (faCons (feName 7) (faCons (feName 10) (faCons (feName 11) faNil)))))) (ftNot (ftB (feCall 2 D_law_spots (faCons (feFr (fpMeth 0 MT_spots (feName 7) faNil)) (faCons (feName 12) faNil)))))) (fsRet (feC (.bl false))) fsNext) (fsSeq (fsTake 13 6) (fsSeq (fsItemU 6 (feC (.int 0)) (feFr (ffCompR rng1 1 [] (tgName 0) (faCons (feName 2) faNil) ftYes CE_law_10))) (fsSeq (fsItem 13 (feC (.int 0)) (fpMake 1 1 I_Word (faCons (fp2 mulD (feC (.str [122])) (feC (.int 12))) faNil))) (fsSeq (fsOwn 14 (fpMeth 0 MT_spots (feName 7) faNil)) (fsSeq (fsClear 14) (fsSeq (fsIf (ftOr (ftNot (ftB (feCall 3 D_law_box (faCons (feName 7) (faCons (feName 10) (faCons (feName 11) faNil)))))) (ftNot (ftB (feCall 2 D_law_spots (faCons (feFr (fpMeth 0 MT_spots (feName 7) faNil)) (faCons (feName 12) faNil)))))) (fsRet (feC (.bl false))) fsNext) (fsSeq (fsSet 15 (fp2 (intD modI) (feCall 2 D_law_cell_at (faCons (feName 0) (faCons (feC (.int 0)) faNil))) (fp2 (intD powI) (feC (.int 10)) (feC (.int 9))))) (fsSeq (fsFor (tgName 16) (feFr (ffLst (faCons (feName 15) (faCons (fp1 negD (feName 15)) (faCons (feName 11) (faCons (fp1 negD (feName 11)) (faCons (fp2 (intD subI) (fp1 negD (feName 11)) (feC (.int 1))) (faCons (fp2 (intD subI) (fp1 lenD (feName 10)) (feName 11)) faNil)))))))) LB_law_11) (fsRet (feC (.bl true)))))))))))))))))))))))
def D_law:List D→Option (D):=bodyF 17 F_law
def blank (w:Nat):List Nat:=List.replicate w 32
def rowAt (rs:List (List Nat))(u w:Nat)(k:Int):List Nat:=if 0≤k+u then (rs[(k+u).toNat]?).getD (blank w) else blank w
theorem mul_bl (w:Nat)(hw:w≤100000):mulD (.str [32]) (.int (w:Int))=some (.str (blank w)):=by
  rw [mulD_str _ _ ⟨by decide,by omega,by omega⟩]; simp [blank]
theorem mul_un (x w:Nat)(hw:w≤100000):mulD (.str [x]) (.int (w:Int))=some (.str (List.replicate w x)):=by
  rw [mulD_str _ _ ⟨by simp,by omega,by omega⟩]; simp
structure Sk (n:Nat)(o:D)(rs:List (List Nat))(u w:Nat):Prop where
  f0:fldD 0 o=some (.int (w:Nat))
  f1:fldD 1 o=some (.int (u:Nat))
  fd : ∃ d:Nat,fldD 2 o=some (.int (d:Nat))∧u+d+1=rs.length
  mr : ∀ (R:Rec0) (k:Int),methD 1 (MT_row R) o [.int k]=R.Sketch_row [o,.int k]
  ms:methD 0 MT_rows o []=D_Sketch_rows [o]
  inst:instC [0,1,2,3] o=some (.bl true)
  row : ∀ m,n≤m→∀ k:Int,(DN0 m).Sketch_row [o,.int k]=some (.str (rowAt rs u w k))
  wid : ∀ r∈rs,r.length=w
  hw:w≤10000
  hl:rs.length≤10000
theorem Sk.mono {n m:Nat}{o:D}{rs:List (List Nat)}{u w:Nat}(h:Sk n o rs u w)(hm:n≤m):Sk m o rs u w:=⟨h.f0,h.f1,h.fd,h.mr,h.ms,h.inst,fun j hj k=>h.row j (by omega) k,h.wid,h.hw,h.hl⟩
theorem Sk.f2 {n:Nat}{o:D}{rs:List (List Nat)}{u w d:Nat}(h:Sk n o rs u w)(hd:u+d+1=rs.length):fldD 2 o=some (.int (d:Nat)):=by
  obtain ⟨d',e,hd'⟩:=h.fd
  have:d'=d:=by omega
  subst this
  exact e
theorem Sk.lt {n:Nat}{o:D}{rs:List (List Nat)}{u w:Nat}(h:Sk n o rs u w):u<rs.length:=by
  obtain ⟨d,_,e⟩:=h.fd
  omega
theorem rowAt_in {rs:List (List Nat)}{u w:Nat}{k:Int}{r:List Nat}(h0 : 0≤k+u)(h:rs[(k+u).toNat]?=some r):rowAt rs u w k=r:=by
  unfold rowAt
  rw [if_pos h0,h]; rfl
theorem rowAt_out {rs:List (List Nat)}{u w:Nat}{k:Int}(h:k+u<0∨(rs.length:Int)≤k+u):rowAt rs u w k=blank w:=by
  unfold rowAt
  by_cases h0 : 0≤k+u
  · rw [if_pos h0,List.getElem?_eq_none (by omega)]; rfl
  · rw [if_neg h0]
theorem rowAt_len {rs:List (List Nat)}{u w:Nat}(h : ∀ r∈rs,r.length=w)(k:Int):(rowAt rs u w k).length=w:=by
  unfold rowAt
  split
  · cases e:rs[(k+u).toNat]? with
    | none=>simp [blank]
    | some r=>exact h r (List.mem_of_getElem? e)
  · simp [blank]
theorem meth_row {n m:Nat}{o:D}{rs:List (List Nat)}{u w:Nat}(h:Sk n o rs u w)(hm:n≤m)(k:Int):methD 1 (MT_row (DN0 m)) o [.int k]=some (.str (rowAt rs u w k)):=by
  rw [h.mr,h.row m hm k]
theorem sk_row {o:D}{w u d:Nat}{rs:List (List Nat)}{m:Nat}(f0:fldD 0 o=some (.int (w:Nat)))(f1:fldD 1 o=some (.int (u:Nat)))(f2:fldD 2 o=some (.int (d:Nat)))(hd:u+d+1=rs.length)(hw:w≤10000)
    (h : ∀ (k:Int) (r:List Nat),0≤k+u→rs[(k+u).toNat]?=some r→methD 1 (MT_row_within (DN0 m)) o [.int k]=some (.str r)) (k:Int) :
    (DN0 (m+1)).Sketch_row [o,.int k]=some (.str (rowAt rs u w k)):=by
  have mb:=mul_bl w (by omega)
  show bodyF 2 (F_Sketch_row (DN0 m)) _=_
  simp only [ev_bodyF,F_Sketch_row,envOf,c_BLANK]
  by_cases h1:k < -(u:Int)
  · rw [rowAt_out (by omega)]
    simp [f0,f1,f2,h1,mb]
  · by_cases h2:(d:Int)<k
    · rw [rowAt_out (by omega)]
      simp [f0,f1,f2,h1,h2,mb]
    · obtain ⟨r,hr⟩ : ∃ r,rs[(k+u).toNat]?=some r:=⟨_,List.getElem?_eq_getElem (by omega)⟩
      have e:=h k r (by omega) hr
      rw [rowAt_in (by omega) hr]
      simp [f0,f1,f2,h1,h2,e]
theorem rng_neg (u d:Nat)(hu:u+d≤1000000):rng2 [.int (-(u:Int)),.int ((d:Int)+1)]=some (rInts (-(u:Int)) (u+d+1)):=by
  have e:((d:Int)+1 - -(u:Int)).toNat=u+d+1:=by omega
  have h:(-1000000000 < -(u:Int)∧-(u:Int)<1000000000)∧(-1000000000<(d:Int)+1∧(d:Int)+1<1000000000):=by omega
  simp only [rng2]
  rw [if_pos ⟨h.2,h.1⟩,e]
theorem Sk.rows {n:Nat}{o:D}{rs:List (List Nat)}{u w:Nat}(h:Sk n o rs u w)(hn:n≤fuel0):D_Sketch_rows [o]=some (rs.map .str):=by
  obtain ⟨d,f2,e⟩:=h.fd
  have hl':=h.hl
  have hr:=rng_neg u d (by omega)
  rw [e] at hr
  have hcm:=runComp_map (tg:=tgName 0) (fe:=CE_Sketch_rows_1) (env:=[.no,.val o]) (fun x=>match x with | .int k=>.str (rowAt rs u w k) | _=>.non) (rInts (-(u:Int)) rs.length) (by
    intro d' hd'
    obtain ⟨i,hi,rfl⟩:=List.mem_map.mp hd'
    have:=meth_row h hn (-(u:Int)+(i:Nat))
    exact ⟨_,rfl,by simp [CE_Sketch_rows_1,this]⟩)
  have hm:(rInts (-(u:Int)) rs.length).map (fun x=>match x with | .int k=>D.str (rowAt rs u w k) | _=>.non)=rs.map .str:=by
    unfold rInts
    rw [List.map_map]
    apply List.ext_getElem
    · simp
    · intro i g1 g2
      have hi:i<rs.length:=by simpa using g2
      simp only [List.getElem_map,List.getElem_range,Function.comp]
      have e1:(-(u:Int)+(i:Nat)+u).toNat=i:=by omega
      rw [rowAt_in (r:=rs[i]) (by omega) (by rw [e1]; exact List.getElem?_eq_getElem hi)]
  rw [hm] at hcm
  have hlr:(rInts (-(u:Int)) rs.length).length≤1000000:=by unfold rInts; simp; omega
  have hcap : ∀ a:Slot,capE 1 [0] [a]=[.no,a]:=fun _=>rfl
  have f1:=h.f1
  generalize rs.map D.str=RR at hcm ⊢
  simp only [D_Sketch_rows,ev_bodyFF,F_Sketch_rows,envOf]
  simp [f1,f2,hr,hlr,hcap,hcm]
theorem Sk.mrows {n:Nat}{o:D}{rs:List (List Nat)}{u w:Nat}(h:Sk n o rs u w)(hn:n≤fuel0):methD 0 MT_rows o []=some (rs.map .str):=h.ms.trans (h.rows hn)
def dec (u:Nat)(A B:List Nat):Nat→List (List Nat)→List (List Nat)
  | _,[]=>[]
  | i,r::rs=>((if i=u then A else B)++r)::dec u A B (i+1) rs
theorem dec_len (u:Nat)(A B:List Nat) : ∀ (rs:List (List Nat)) (i:Nat),(dec u A B i rs).length=rs.length
  | [],i=>rfl
  | r::rs,i=>by simp [dec,dec_len u A B rs]
theorem dec_get (u:Nat)(A B:List Nat) : ∀ (rs:List (List Nat)) (i j:Nat),(dec u A B i rs)[j]?=(rs[j]?).map fun r=>(if i+j=u then A else B)++r
  | [],i,j=>by simp [dec]
  | r::rs,i,0=>by simp [dec]
  | r::rs,i,j+1=>by
    rw [dec,List.getElem?_cons_succ,List.getElem?_cons_succ,dec_get u A B rs (i+1) j,show i+1+j=i+(j+1) by omega]
theorem dec_wid {u w a:Nat}{A B:List Nat}(hA:A.length=a)(hB:B.length=a){rs:List (List Nat)}(h : ∀ r∈rs,r.length=w) : ∀ r∈dec u A B 0 rs,r.length=a+w:=by
  intro r hr
  obtain ⟨j,hj,e⟩:=List.getElem_of_mem hr
  have:=dec_get u A B rs 0 j
  rw [List.getElem?_eq_getElem hj,e] at this
  cases e2:rs[j]? with
  | none=>rw [e2] at this; cases this
  | some q =>
    rw [e2] at this
    have hq:=h q (List.mem_of_getElem? e2)
    have:r=(if 0+j=u then A else B)++q:=Option.some.inj this
    rw [this,List.length_append]
    split <;> omega
theorem dec_set (u:Nat)(A B:List Nat)(rs:List (List Nat))(r:List Nat)(h:rs[u]?=some r):(rs.map fun q=>B++q).set u (A++r)=dec u A B 0 rs:=by
  apply List.ext_getElem?
  intro j
  rw [dec_get,Nat.zero_add]
  by_cases e:u=j
  · subst e
    have:u<rs.length:=(List.getElem?_eq_some_iff.mp h).1
    rw [List.getElem?_set_self (by simpa using this),h]; simp
  · rw [List.getElem?_set_ne e,List.getElem?_map]
    cases rs[j]? with
    | none=>rfl
    | some q=>simp [show ¬ j=u from fun z=>e z.symm]
def oSk (w u d:Nat):D:=.ob 0 [0,1,2] [.int (w:Nat),.int (u:Nat),.int (d:Nat)]
def oWd (z:List Nat):D:=.ob 1 [0,1,2,3] [.int (z.length:Nat),.int ((0:Nat):Int),.int ((0:Nat):Int),.str z]
theorem mk_sk (c:Nat)(w u d:Int):I_Sketch c [.int w,.int u,.int d]=some ([0,1,2],[.int w,.int u,.int d]):=by
  simp [I_Sketch,ev_bodyI,F_Sketch_init,envOf]
theorem mk_wd (z:List Nat)(hz:z.length≤1000000):I_Word 1 [.str z]=some ([0,1,2,3],[.int (z.length:Nat),.int 0,.int 0,.str z]):=by
  simp [I_Word,ev_bodyI,F_Word_init,envOf,mk_sk,hz]
theorem sk_plain (w u d:Nat)(hw:w≤10000)(hl:u+d+1≤10000):Sk 1 (oSk w u d) (List.replicate (u+d+1) (blank w)) u w:=by
  refine ⟨by simp [oSk],by simp [oSk],⟨d,by simp [oSk],by simp⟩,fun R k=>by simp [oSk,MT_row],by simp [oSk,MT_rows],by simp [oSk],fun m hm k=>?_,fun r hr=>by rw [List.eq_of_mem_replicate hr]; simp [blank],hw,by simpa using hl⟩
  obtain ⟨m,rfl⟩ : ∃ j,m=j+1:=⟨m - 1,by omega⟩
  have mb:=mul_bl w (by omega)
  refine sk_row (d:=d) (by simp [oSk]) (by simp [oSk]) (by simp [oSk]) (by simp) hw (fun k r h0 hr=>?_) k
  have e:r=blank w:=by
    have:=List.mem_of_getElem? hr
    exact List.eq_of_mem_replicate this
  rw [e]
  simp [oSk,MT_row_within,D_Sketch_row_within,ev_bodyF,F_Sketch_row_within,envOf,c_BLANK,mb]
theorem sk_word (z:List Nat)(hz:z.length≤10000):Sk 1 (oWd z) [z] 0 z.length:=by
  refine ⟨by simp [oWd],by simp [oWd],⟨0,by simp [oWd],rfl⟩,fun R k=>by simp [oWd,MT_row],by simp [oWd,MT_rows],by simp [oWd],fun m hm k=>?_,fun r hr=>by rw [List.mem_singleton.mp hr],hz,by simp⟩
  obtain ⟨m,rfl⟩ : ∃ j,m=j+1:=⟨m - 1,by omega⟩
  refine sk_row (d:=0) (by simp [oWd]) (by simp [oWd]) (by simp [oWd]) rfl hz (fun k r h0 hr=>?_) k
  have e:r=z:=by
    have:=List.mem_of_getElem? hr
    exact List.mem_singleton.mp this
  rw [e]
  simp [oWd,MT_row_within,D_Word_row_within,ev_bodyF,F_Word_row_within,envOf]
def oRt (w u d:Nat)(o:D):D:=.ob 2 [0,1,2,4] [.int (w:Nat),.int (u:Nat),.int (d:Nat),o]
def rtRows (rs:List (List Nat))(u w:Nat):List (List Nat):=([32,32]++List.replicate w 95)::dec u [86,124] [32,124] 0 rs
theorem mk_rt {n:Nat}{o:D}{rs:List (List Nat)}{u w d:Nat}(h:Sk n o rs u w)(hd:u+d+1=rs.length):I_Root 2 [o]=some ([0,1,2,4],[.int ((w+2:Nat):Int),.int ((u+1:Nat):Int),.int (d:Nat),o]):=by
  have f0:=h.f0
  have f1:=h.f1
  have f2:=h.f2 hd
  simp [I_Root,ev_bodyI,F_Root_init,envOf,f0,f1,f2,mk_sk]
theorem sk_root {n:Nat}{o:D}{rs:List (List Nat)}{u w d:Nat}(h:Sk n o rs u w)(hd:u+d+1=rs.length)(hw:w+2≤10000)(hl:rs.length+1≤10000):Sk (n+2) (oRt (w+2) (u+1) d o) (rtRows rs u w) (u+1) (w+2):=by
  have hlen:(rtRows rs u w).length=rs.length+1:=by unfold rtRows; simp [dec_len]
  refine ⟨by simp [oRt],by simp [oRt],⟨d,by simp [oRt],by rw [hlen]; omega⟩,fun R k=>by simp [oRt,MT_row],by simp [oRt,MT_rows],by simp [oRt],fun m hm k=>?_,fun r hr=>?_,hw,by rw [hlen]; exact hl⟩
  · obtain ⟨m,rfl⟩ : ∃ j,m=j+1+1:=⟨m - 2,by omega⟩
    refine sk_row (d:=d) (by simp [oRt]) (by simp [oRt]) (by simp [oRt]) (by rw [hlen]; omega) hw (fun k r h0 hr=>?_) k
    have f0:=h.f0
    have mu:=mul_un 95 w (by omega)
    have m2:mulD (.str [32]) (.int 2)=some (.str [32,32]):=rfl
    have mr:=meth_row h (show n≤m by omega) k
    have hwr:=rowAt_len h.wid (u:=u) k
    have hwi:=h.hw
    have hme:methD 1 (MT_row_within (DN0 (m+1))) (oRt (w+2) (u+1) d o) [.int k]=(DN0 (m+1)).Root_row_within [oRt (w+2) (u+1) d o,.int k]:=by simp [oRt,MT_row_within]
    rw [hme]
    show bodyF 2 (F_Root_row_within (DN0 m)) [.ob 2 [0,1,2,4] [.int ((w+2:Nat):Int),.int ((u+1:Nat):Int),.int (d:Nat),o],.int k]=_
    simp only [ev_bodyF,F_Root_row_within,envOf,c_BLANK]
    by_cases hk:k=-((u+1:Nat):Int)
    · have e1:(k+(u+1:Nat)).toNat=0:=by omega
      rw [e1] at hr
      have:r=[32,32]++List.replicate w 95:=(Option.some.inj hr).symm
      rw [this]
      have kb:(k == -((u:Int)+1))=true:=by simp; omega
      have lw : 2+w≤1000000:=by omega
      simp [kb,f0,mu,m2,lw]
    · have kb:(k == -((u:Int)+1))=false:=by simp; omega
      have hj:(k+(u+1:Nat)).toNat=(k+u).toNat+1:=by omega
      rw [hj] at hr
      unfold rtRows at hr
      rw [List.getElem?_cons_succ,dec_get,Nat.zero_add] at hr
      cases e2:rs[(k+u).toNat]? with
      | none=>rw [e2] at hr; cases hr
      | some q =>
        rw [e2] at hr
        have hr':r=(if (k+u).toNat=u then [86,124] else [32,124])++q:=(Option.some.inj hr).symm
        have hq:rowAt rs u w k=q:=rowAt_in (by omega) e2
        rw [hq] at mr hwr
        have lw:q.length≤100000:=by omega
        have l2 : 2+q.length≤1000000:=by omega
        by_cases k0:k=0
        · subst k0
          have e3:((0:Int)+u).toNat=u:=by omega
          rw [if_pos e3] at hr'
          rw [hr']
          simp [kb,mr,l2]
        · have e3 : ¬ (k+u).toNat=u:=by omega
          have kz:(k == 0)=false:=by simpa using k0
          rw [if_neg e3] at hr'
          rw [hr']
          simp [kb,kz,mr,l2]
  · unfold rtRows at hr
    rcases List.mem_cons.mp hr with rfl | hr
    · simp
    · have:=dec_wid (a:=2) rfl rfl h.wid r hr
      omega
def pcd (o:D)(rs:List (List Nat))(u:Nat):D:=.tup [o,.lst (rs.map .str),.int (u:Nat)]
theorem cell_ok (ns:List Int)(k:Nat) : ∃ c,D_law_cell_at [.lst (ns.map .int),.int k]=some (.int c):=by
  by_cases h:k<ns.length
  · have h':(k:Int)<(ns.length:Int):=by omega
    refine ⟨ns[k], ?_⟩
    simp [D_law_cell_at,ev_bodyF,F_law_cell_at,envOf,h',atI_k,h]
  · have h' : ¬ (k:Int)<(ns.length:Int):=by omega
    exact ⟨0,by simp [D_law_cell_at,ev_bodyF,F_law_cell_at,envOf,h']⟩
theorem whole_ok (i:Int):D_law_whole [.int i]=some (.bl true):=by
  have ei:(Ty.bool == Ty.int)=false:=rfl
  have ej:(Ty.int == Ty.bool)=false:=rfl
  simp [D_law_whole,ev_bodyF,F_law_whole,envOf,ei,ej]
def signsL:List Nat:=[33,34,35,36,38,39,40,41,42,43,44,45,46,47,48,49,50,51,52,53,54,55,56,57,58,59,60,61,62,63,64,65,66,67,68,69,70,71,72,73,74,75,76,77,78,79,80,81,82,83,84,85,86,87,88,89,90,91,92,93,94,95,96]++[97,98,99,100,101,102,103,104,105,106,107,108,109,110,111,112,113,114,115,116,117,118,119,120,121,122,123,124,125,126]
theorem sign_ok (c:Int) : ∃ x:Nat,D_law_sign [.int c]=some (.str [x]):=by
  have m1:=mulD_right c 48271 (by decide)
  have m2:=modI_pos (c * 48271) 2147483647 (by decide)
  have m3:=modI_pos (c * 48271 % 2147483647) 93 (by decide)
  obtain ⟨k,x,hk,hx, -⟩:=ix_modn signsL 93 (c * 48271 % 2147483647) (by decide) (by decide)
  simp only [Int.cast_ofNat_Int] at hk
  rw [hk] at m3
  generalize c * 48271 % 2147483647=N at m2 m3
  generalize c * 48271=N' at m1 m2
  have ax:=(atI_k signsL k).trans hx
  refine ⟨x, ?_⟩
  have ha:addD (.str [33,34,35,36,38,39,40,41,42,43,44,45,46,47,48,49,50,51,52,53,54,55,56,57,58,59,60,61,62,63,64,65,66,67,68,69,70,71,72,73,74,75,76,77,78,79,80,81,82,83,84,85,86,87,88,89,90,91,92,93,94,95,96]) (.str [97,98,99,100,101,102,103,104,105,106,107,108,109,110,111,112,113,114,115,116,117,118,119,120,121,122,123,124,125,126])=some (.str signsL):=rfl
  have hl:signsL.length≤1000000:=by decide
  generalize signsL=SS at ha ax hl
  simp only [D_law_sign,ev_bodyF,F_law_sign,envOf]
  simp [-ev_addD_str,ha,m1,m2,m3,ax,hl]
theorem box_loop (o rr u s5:Slot) : ∀ (is:List Int) (s3 s4:Slot), ∃ t3 t4,runFor (tgTup [3,4]) LB_law_box_1 (zipL (is.map .int) (is.map .int)) [o,rr,u,s3,s4,s5]=some (.nx [o,rr,u,t3,t4,s5])
  | [],s3,s4=>⟨s3,s4,rfl⟩
  | i::is,s3,s4=>by
    have hw:=whole_ok i
    rw [List.map_cons,zipL_cons,runFor_nx (e1:=[o,rr,u,.val (.int i),.val (.int i),s5]) (e2:=[o,rr,u,.val (.int i),.val (.int i),s5]) (by simp) (by simp [LB_law_box_1,hw])]
    exact box_loop o rr u s5 is _ _
theorem head_of {rs:List (List Nat)}{w:Nat}(h : 0<rs.length)(hw : ∀ r∈rs,r.length=w) : ∃ r0,rs[0]?=some r0∧(rs.map D.str)[0]?=some (.str r0)∧r0.length=w:=by
  cases rs with
  | nil=>simp at h
  | cons r0 rs=>exact ⟨r0,rfl,rfl,hw r0 (by simp)⟩
theorem box_ok {n:Nat}{o:D}{rs:List (List Nat)}{u w:Nat}(h:Sk n o rs u w)(hn:n≤fuel0):D_law_box [o,.lst (rs.map .str),.int (u:Nat)]=some (.bl true):=by
  obtain ⟨d,hd⟩ : ∃ d,u+d+1=rs.length:=⟨rs.length - u - 1,by have:=h.lt; omega⟩
  have f0:=h.f0
  have f1:=h.f1
  have f2:=h.f2 hd
  have hm:=h.mrows hn
  have hi:=h.inst
  have hw:=h.hw
  obtain ⟨r0, -,hr0,hl0⟩:=head_of (by omega) h.wid
  have hl:((rs.map D.str).length:Int) - 1 - (u:Int)=(d:Int):=by rw [List.length_map]; omega
  have he:=eq_strs rs rs
  obtain ⟨t3,t4,lp⟩:=box_loop (.val o) (.val (.lst (rs.map .str))) (.val (.int (u:Nat))) .no [(w:Int),(u:Int),(d:Int)] .no .no
  simp only [List.map_cons,List.map_nil] at lp
  have hz:w≤1000000:=by omega
  generalize rs.map D.str=RR at *
  simp only [D_law_box,ev_bodyF,F_law_box,envOf]
  simp [hi,f0,f1,f2,hr0,hz,hl0,hl,lp,hm,he]
theorem row_ok (o:D){rs:List (List Nat)}{u w:Nat}(h0 : 0<rs.length)(wid : ∀ r∈rs,r.length=w)(hw:w≤10000)(k:Int):D_law_row [pcd o rs u,.int k]=some (.str (rowAt rs u w k)):=by
  obtain ⟨r0, -,hr0,hl0⟩:=head_of h0 wid
  have mb:=mul_bl w (by omega)
  have hz:w≤1000000:=by omega
  have hl:(rs.map D.str).length=rs.length:=by simp
  by_cases h1 : 0≤k+u
  · by_cases h2:k+u<(rs.length:Int)
    · obtain ⟨j,hj⟩ : ∃ j:Nat,k+u=j:=⟨(k+u).toNat,by omega⟩
      obtain ⟨r,hr⟩ : ∃ r,rs[j]?=some r:=⟨_,List.getElem?_eq_getElem (by omega)⟩
      have e1:(k+u).toNat=j:=by omega
      rw [rowAt_in h1 (by rw [e1]; exact hr)]
      have ha:atI (rs.map D.str) (k+u)=some (.str r):=by rw [hj,atI_k,List.getElem?_map,hr]; rfl
      unfold pcd
      generalize rs.map D.str=RR at *
      simp only [D_law_row,ev_bodyF,F_law_row,envOf]
      simp [h1,h2,hl,ha]
    · rw [rowAt_out (.inr (by omega))]
      unfold pcd
      generalize rs.map D.str=RR at *
      simp only [D_law_row,ev_bodyF,F_law_row,envOf]
      simp [h1,h2,hl,hr0,hz,hl0,mb]
  · rw [rowAt_out (.inl (by omega))]
    unfold pcd
    generalize rs.map D.str=RR at *
    simp only [D_law_row,ev_bodyF,F_law_row,envOf]
    simp [h1,hr0,hz,hl0,mb]
theorem signs_ok (n:Int) : ∀ ks:List Nat,(∀ k∈ks,k<100)→∃ zs:List Nat,runComp (tgName 0) ftYes CE_law_piece_1 [.no,.val (.int n)] (ks.map fun k=>.int (k:Nat))=some ((zs.map fun x=>[x]).map .str)∧zs.length=ks.length
  | [],_=>⟨[],rfl,rfl⟩
  | k::ks,h=>by
    obtain ⟨zs,h1,h2⟩:=signs_ok n ks fun j hj=>h j (List.mem_cons_of_mem _ hj)
    have hk:=h k List.mem_cons_self
    obtain ⟨x,hx⟩:=sign_ok (n / 448+37 * (k:Int) * (k:Int))
    have f1:=fdivI_pos n 448 (by decide)
    have m1:=mulD_right 37 (k:Int) (by omega)
    have m2:=mulD_right (37 * (k:Int)) (k:Int) (by omega)
    exact ⟨x::zs,by
      rw [List.map_cons]
      exact runComp_t (e:=[.val (.int (k:Nat)),.val (.int n)]) (by simp) rfl (by simp [CE_law_piece_1,f1,m1,m2,hx]) h1,by simp [h2]⟩
theorem join_one : ∀ zs:List Nat,joinL [] (zs.map fun x=>[x])=zs
  | []=>rfl
  | [x]=>rfl
  | x::y::zs=>by
    have:=join_one (y::zs)
    show [x]++[]++joinL [] ((y::zs).map fun x=>[x])=_
    rw [this]; rfl
theorem word_of (n:Int)(w:Nat)(hw:w<7) : ∃ (z:List Nat) (L:List D),z.length=w+1∧rng1 [.int ((w:Int)+1)]=some L∧L.length≤1000000∧runComp (tgName 0) ftYes CE_law_piece_1 [.no,.val (.int n)] L=some ((z.map fun x=>[x]).map .str)∧joinE (.str []) (.lst ((z.map fun x=>[x]).map .str))=some (.str z):=by
  have hr:rng1 [.int ((w:Int)+1)]=some (rInts 0 (w+1)):=rng1_ok (by omega) (by omega)
  obtain ⟨zs,h1,h2⟩:=signs_ok n (List.range (w+1)) (fun k hk=>by have:=List.mem_range.mp hk; omega)
  have e:rInts 0 (w+1)=(List.range (w+1)).map fun k=>D.int (k:Nat):=by unfold rInts; simp
  have hl:(rInts 0 (w+1)).length≤1000000:=by unfold rInts; simp; omega
  have h2':zs.length=w+1:=by simpa using h2
  refine ⟨zs,_,h2',hr,hl,by rw [e]; exact h1, ?_⟩
  have hs:((zs.map fun x=>[x]).map List.length).sum=zs.length:=by
    rw [List.map_map]
    have:(List.length ∘ fun x:Nat=>[x])=fun _=>1:=rfl
    rw [this,List.map_const',List.sum_replicate_nat]; simp
  rw [ev_joinE,strsOf_map,obind_some,hs,if_pos (by simp; omega),join_one]
theorem mulF_one (d:D)(t:Nat)(ht:t≤60000):mulF [d] (.int (t:Int))=some (List.replicate t d):=by
  show (if _ then _ else _)=_
  rw [if_pos ⟨by simp,by omega,by omega⟩]
  simp
theorem comp_pre {fe:FE}{env:DEnv}(B:List Nat)(hB:B.length≤100)(h : ∀ r:List Nat,r.length≤10000→∃ e,tgName 0 (.str r) env=some e∧fe e=some (.str (B++r)))(rs:List (List Nat))(hr : ∀ r∈rs,r.length≤10000):runComp (tgName 0) ftYes fe env (rs.map .str)=some ((rs.map fun q=>B++q).map .str):=by
  have:=runComp_map (tg:=tgName 0) (fe:=fe) (env:=env) (fun x=>match x with | .str r=>.str (B++r) | _=>.non) (rs.map .str) (by
    intro d hd
    obtain ⟨r,hr',rfl⟩:=List.mem_map.mp hd
    obtain ⟨e,h1,h2⟩:=h r (hr r hr')
    exact ⟨e,h1,h2⟩)
  rw [this,List.map_map,List.map_map]; rfl
theorem dec_rep (u t:Nat)(A B r:List Nat)(hu:u<t):dec u A B 0 (List.replicate t r)=((List.replicate t r).map fun q=>B++q).set u (A++r):=by
  rw [dec_set]
  rw [List.getElem?_replicate,if_pos hu]
theorem piece_ok (c:Int) : ∃ (o:D) (rs:List (List Nat)) (u w:Nat),D_law_piece [.int c]=some (pcd o rs u)∧Sk 3 o rs u w∧rs.length≤8∧w≤8:=by
  have m1:=mulD_right c 1099087573 (by decide)
  have m2:=modI_pos (c * 1099087573) 10000000000037 (by decide)
  generalize c * 1099087573=N' at m1 m2
  generalize N' % 10000000000037=n at m2
  obtain ⟨w,hw,hw7⟩:=mod_nat (n / 4) 7 (by decide)
  obtain ⟨u,hu,hu4⟩:=mod_nat (n / 28) 4 (by decide)
  obtain ⟨d,hd,hd4⟩:=mod_nat (n / 112) 4 (by decide)
  obtain ⟨q,hq,hq4⟩:=mod_nat n 4 (by decide)
  simp only [Int.cast_ofNat_Int] at hw hu hd hq
  have a1:=fdivI_pos n 4 (by decide)
  have a2:=fdivI_pos n 28 (by decide)
  have a3:=fdivI_pos n 112 (by decide)
  have b1:=modI_pos (n / 4) 7 (by decide)
  have b2:=modI_pos (n / 28) 4 (by decide)
  have b3:=modI_pos (n / 112) 4 (by decide)
  have b4:=modI_pos n 4 (by decide)
  rw [hw] at b1; rw [hu] at b2; rw [hd] at b3; rw [hq] at b4
  clear hw hu hd hq
  have hcap : ∀ a b:Slot, ∀ l,capE 1 [1] (a::b::l)=[.no,b]:=fun _ _ _=>rfl
  by_cases h2:q<2
  · have h2':(q:Int)<2:=by omega
    obtain ⟨z,L,hz,hrl,hll,hc,hj⟩:=word_of n w hw7
    have mk:=mk_wd z (by omega)
    refine ⟨oWd z,[z],0,z.length, ?_,(sk_word z (by omega)).mono (by omega),by simp,by omega⟩
    generalize (z.map fun x=>[x]).map D.str=ZZ at hc hj
    simp only [D_law_piece,ev_bodyF,F_law_piece,envOf]
    simp [-ev_joinE,m1,m2,a1,a2,a3,b1,b2,b3,b4,h2',hrl,hll,hcap,hc,hj,mk]
    rfl
  · have h2' : ¬ (q:Int)<2:=by omega
    have mb:=mul_bl w (by omega)
    obtain ⟨t,ht⟩ : ∃ t:Nat,t=u+d+1:=⟨_,rfl⟩
    have hti:(u:Int)+(d:Int)+1=(t:Int):=by omega
    have mf:=mulF_one (.str (blank w)) t (by omega)
    have mk:=mk_sk 0 w u d
    have sk:=sk_plain w u d (by omega) (by omega)
    rw [← ht] at sk
    by_cases h3:q=2
    · have h3':((q:Int) == 2)=true:=by simp; omega
      refine ⟨oSk w u d,List.replicate t (blank w),u,w, ?_,sk.mono (by omega),by simp; omega,by omega⟩
      have hm:(List.replicate t (blank w)).map D.str=List.replicate t (.str (blank w)):=by simp
      unfold pcd
      rw [hm]
      generalize List.replicate t (D.str (blank w))=RR at mf ⊢
      simp only [D_law_piece,ev_bodyF,F_law_piece,envOf]
      simp [m1,m2,a1,a2,a3,b1,b2,b3,b4,h2',hti,mb,mf,h3',mk]
      rfl
    · have h3':((q:Int) == 2)=false:=by simp; omega
      have hut:u<t:=by omega
      have hd':u+d+1=(List.replicate t (blank w)).length:=by simp; omega
      have rt:=sk_root sk hd' (by omega) (by simp; omega)
      have mr:=mk_rt sk hd'
      refine ⟨oRt (w+2) (u+1) d (oSk w u d),rtRows (List.replicate t (blank w)) u w,u+1,w+2, ?_,rt.mono (by omega),by simp [rtRows,dec_len]; omega,by omega⟩
      have cp:=comp_pre (fe:=CE_law_piece_2) (env:=[.no]) [32,124] (by simp) (fun r hr=>⟨[.val (.str r)],rfl,by
        have : 2+r.length≤1000000:=by omega
        simp [CE_law_piece_2,this]⟩) (List.replicate t (blank w)) (fun r hr=>by rw [List.eq_of_mem_replicate hr]; simp [blank]; omega)
      have hcap0 : ∀ l,capE 1 [] l=[.no]:=fun _=>rfl
      have hm:(List.replicate t (blank w)).map D.str=List.replicate t (.str (blank w)):=by simp
      have hl:(List.replicate t (D.str (blank w))).length=t:=by simp
      have ha:atI (List.replicate t (D.str (blank w))) (u:Int)=some (.str (blank w)):=by rw [atI_k,List.getElem?_replicate,if_pos hut]
      have hb:(blank w).length=w:=by simp [blank]
      have hb2 : 2+(blank w).length≤1000000:=by omega
      have hs:=setI_k (((List.replicate t (blank w)).map fun q=>[32,124]++q).map D.str) u (.str ([86,124]++blank w)) (by simpa using hut)
      have hse:((((List.replicate t (blank w)).map fun q=>[32,124]++q).map D.str).set u (.str ([86,124]++blank w)))=(dec u [86,124] [32,124] 0 (List.replicate t (blank w))).map .str:=by
        rw [dec_rep u t _ _ _ hut,List.map_set]
      rw [hse] at hs
      have mu:=mul_un 95 w (by omega)
      have hdl:((dec u [86,124] [32,124] 0 (List.replicate t (blank w))).map D.str).length=t:=by simp [dec_len]
      have hdl2 : 1+((dec u [86,124] [32,124] 0 (List.replicate t (blank w))).map D.str).length≤1000000:=by omega
      have ht6:t≤1000000:=by omega
      have hw6 : 2+w≤1000000:=by omega
      unfold pcd rtRows
      rw [List.map_cons]
      rw [hm] at cp
      generalize (dec u [86,124] [32,124] 0 (List.replicate t (blank w))).map D.str=DD at *
      generalize ((List.replicate t (blank w)).map fun q=>[32,124]++q).map D.str=CC at *
      generalize List.replicate t (D.str (blank w))=RR at *
      simp only [D_law_piece,ev_bodyF,F_law_piece,envOf]
      have eM:(D.ob 0 [0,1,2] [.int (w:Int),.int (u:Int),.int (d:Int)])=oSk w u d:=rfl
      simp at hs
      simp [m1,m2,a1,a2,a3,b1,b2,b3,b4,h2',hti,mb,mf,h3',mk,hcap0,hl,ht6,cp,ha,hb2,hs,eM,mr,mu,hw6,hdl2]
      rfl
structure SpQ where
  o:D
  rs:List (List Nat)
  u:Nat
  a:Int
  b:Int
def SpQ.told (q:SpQ):D:=.tup [q.o,.int q.a,.int q.b]
def SpQ.due (q:SpQ):D:=.tup [pcd q.o q.rs q.u,.int q.a,.int q.b]
theorem eq_two (a b:Int):eqN 100 (.tup [.int a,.int b]) (.tup [.int a,.int b])=some true:=by
  show some ((a == a && (b == b && true)) && (2 == 2))=some true
  simp
theorem sl_two (x:D)(a b:Int):slD (.tup [x,.int a,.int b]) (some 1) none=some (.tup [.int a,.int b]):=by
  have e : ¬ (HT.sIx [x,D.int a,D.int b].length 0 (some 1)=0∧HT.sIx [x,D.int a,D.int b].length [x,D.int a,D.int b].length none=[x,D.int a,D.int b].length):=by
    show ¬ (HT.sIx 3 0 (some 1)=0∧HT.sIx 3 3 none=3)
    decide
  rw [ev_slD_tup,if_neg e]
  exact congrArg (fun l=>some (D.tup l)) (cut_from [x,.int a,.int b] 1)
def SpOk (q:SpQ):Prop:=D_law_box [q.o,.lst (q.rs.map .str),.int (q.u:Nat)]=some (.bl true)
theorem spots_loop (t d:Slot) : ∀ (L:List SpQ) (s2 s3:Slot),(∀ q∈L,SpOk q)→∃ t2 t3,runFor (tgTup [2,3]) LB_law_spots_1 (zipL (L.map SpQ.told) (L.map SpQ.due)) [t,d,s2,s3]=some (.nx [t,d,t2,t3])
  | [],s2,s3,_=>⟨s2,s3,rfl⟩
  | q::L,s2,s3,h=>by
    have hb:D_law_box [q.o,.lst (q.rs.map .str),.int (q.u:Nat)]=some (.bl true):=h q List.mem_cons_self
    have w1:=whole_ok q.a
    have w2:=whole_ok q.b
    have l1:=sl_two q.o q.a q.b
    have l2:=sl_two (pcd q.o q.rs q.u) q.a q.b
    have e2:=eq_two q.a q.b
    rw [List.map_cons,List.map_cons,zipL_cons,runFor_nx (e1:=[t,d,.val q.told,.val q.due]) (e2:=[t,d,.val q.told,.val q.due]) (by simp) (by
      unfold SpQ.told SpQ.due
      unfold pcd at l2 ⊢
      generalize q.rs.map D.str=RR at *
      simp [-ev_slD_tup,LB_law_spots_1,w1,w2,l1,l2,e2,hb])]
    exact spots_loop t d L _ _ fun q' hq'=>h q' (List.mem_cons_of_mem _ hq')
theorem spots_ok (L:List SpQ)(h : ∀ q∈L,SpOk q):D_law_spots [.lst (L.map SpQ.told),.lst (L.map SpQ.due)]=some (.bl true):=by
  obtain ⟨t2,t3,lp⟩:=spots_loop (.val (.lst (L.map SpQ.told))) (.val (.lst (L.map SpQ.due))) L .no .no h
  have hl:(L.map SpQ.told).length=(L.map SpQ.due).length:=by simp
  generalize L.map SpQ.told=TT at *
  generalize L.map SpQ.due=DD at *
  simp only [D_law_spots,ev_bodyF,F_law_spots,envOf]
  simp [hl,lp]
structure Dn (o:D)(L:List SpQ):Prop where
  sp:methD 0 MT_spots o []=some (L.map SpQ.told)
  bx : ∀ q∈L,SpOk q
structure Pz where
  o:D
  rs:List (List Nat)
  u:Nat
  w:Nat
  d:Nat
def Pz.dat (p:Pz):D:=pcd p.o p.rs p.u
structure Pz.Ok (p:Pz):Prop where
  sk:Sk 3 p.o p.rs p.u p.w
  hd:p.u+p.d+1=p.rs.length
  hl:p.rs.length≤8
  hw:p.w≤8
def Pz.row (p:Pz)(k:Int):List Nat:=rowAt p.rs p.u p.w k
def maxN:List Nat→Nat
  | []=>0
  | a::r=>max a (maxN r)
theorem maxN_ge : ∀ (l:List Nat) (a:Nat),a∈l→a≤maxN l
  | b::r,a,h=>by
    rcases List.mem_cons.mp h with rfl | h
    · simp only [maxN]; omega
    · have:=maxN_ge r a h; simp only [maxN]; omega
theorem maxN_mem : ∀ (a:Nat) (r:List Nat),maxN (a::r)∈a::r
  | a,[]=>by simp [maxN]
  | a,b::r=>by
    have:=maxN_mem b r
    show max a (maxN (b::r))∈_
    by_cases h:a≤maxN (b::r)
    · rw [Nat.max_eq_right h]; exact List.mem_cons_of_mem _ this
    · rw [Nat.max_eq_left (by omega)]; exact List.mem_cons_self
theorem maxN_le (l:List Nat)(m:Nat)(h : ∀ a∈l,a≤m):maxN l≤m:=by
  cases l with
  | nil=>exact Nat.zero_le _
  | cons a r=>exact h _ (maxN_mem a r)
theorem maxLD_nat (a:Nat)(r:List Nat):maxLD (.lst ((a::r).map fun i=>.int (i:Nat)))=some (.int (maxN (a::r):Nat)):=by
  have:=maxLD_of ((a::r).map fun i:Nat=>(i:Int)) (maxN (a::r):Nat) (List.mem_map.mpr ⟨_,maxN_mem a r,rfl⟩) (fun i hi=>by
    obtain ⟨j,hj,rfl⟩:=List.mem_map.mp hi
    have:=maxN_ge _ j hj
    omega)
  rw [List.map_map] at this
  exact this
def upOf (ps:List Pz):Nat:=maxN (ps.map Pz.u)
def dnOf (ps:List Pz):Nat:=maxN (ps.map Pz.d)
theorem Pz.Ok.rl {p:Pz}(h:p.Ok)(k:Int):(p.row k).length=p.w:=rowAt_len h.sk.wid k
theorem Pz.Ok.row_ {p:Pz}(h:p.Ok)(k:Int):D_law_row [p.dat,.int k]=some (.str (p.row k)) :=
  row_ok p.o (by have:=h.sk.lt; omega) h.sk.wid h.sk.hw k
theorem comp_f {fe:FE}{env:DEnv}(g:Pz→D)(h : ∀ p:Pz,p.Ok→∃ e,tgName 0 p.dat env=some e∧fe e=some (g p)) : ∀ ps:List Pz,(∀ p∈ps,p.Ok)→runComp (tgName 0) ftYes fe env (ps.map Pz.dat)=some (ps.map g)
  | [],_=>rfl
  | p::ps,ok=>by
    obtain ⟨e,h1,h2⟩:=h p (ok p List.mem_cons_self)
    exact runComp_t h1 rfl h2 (comp_f g h ps fun q hq=>ok q (List.mem_cons_of_mem _ hq))
theorem up_le (p:Pz)(ps:List Pz)(ok : ∀ q∈p::ps,q.Ok):upOf (p::ps)≤8:=maxN_le _ _ fun a ha=>by
  obtain ⟨q,hq,rfl⟩:=List.mem_map.mp ha
  have:=ok q hq; have:=this.hd; have:=(ok q hq).hl; omega
theorem dn_le (p:Pz)(ps:List Pz)(ok : ∀ q∈p::ps,q.Ok):dnOf (p::ps)≤8:=maxN_le _ _ fun a ha=>by
  obtain ⟨q,hq,rfl⟩:=List.mem_map.mp ha
  have:=ok q hq; have:=this.hd; have:=(ok q hq).hl; omega
theorem comp_o {fe:FE}{env:DEnv}(g:Pz→D)(h : ∀ p:Pz,p.Ok→∃ e,tgName 0 p.o env=some e∧fe e=some (g p)) : ∀ ps:List Pz,(∀ p∈ps,p.Ok)→runComp (tgName 0) ftYes fe env (ps.map Pz.o)=some (ps.map g)
  | [],_=>rfl
  | p::ps,ok=>by
    obtain ⟨e,h1,h2⟩:=h p (ok p List.mem_cons_self)
    exact runComp_t h1 rfl h2 (comp_o g h ps fun q hq=>ok q (List.mem_cons_of_mem _ hq))
theorem sumD_nat (l:List Nat)(h : ∀ a∈l,a≤1000)(hl:l.length≤1000):sumD (.lst (l.map fun i=>.int (i:Nat)))=some (.int (l.sum:Nat)):=by
  have e:(l.map fun i:Nat=>D.int (i:Nat))=(l.map fun i:Nat=>(i:Int)).map D.int:=by rw [List.map_map]; rfl
  rw [e]
  show (intsOf _).bind _=_
  rw [intsOf_map]
  show (if _ then _ else _)=_
  rw [if_pos]
  · congr 2
    clear h hl e
    induction l with
    | nil=>rfl
    | cons a r ih=>rw [List.map_cons,List.sum_cons,List.sum_cons,ih]; omega
  · refine ⟨by simp; omega, ?_⟩
    rw [List.all_eq_true]
    intro i hi
    obtain ⟨j,hj,rfl⟩:=List.mem_map.mp hi
    have:=h j hj
    exact decide_eq_true (by omega)
theorem piece_z (c:Int) : ∃ p:Pz,p.Ok∧D_law_piece [.int c]=some p.dat:=by
  obtain ⟨o,rs,u,w,h1,h2,h3,h4⟩:=piece_ok c
  have hlt:=h2.lt
  exact ⟨⟨o,rs,u,w,rs.length - u - 1⟩,⟨h2,by show u+(rs.length - u - 1)+1=rs.length; omega,h3,h4⟩,h1⟩
theorem pieces_z : ∀ cs:List Int, ∃ ps:List Pz,ps.length=cs.length∧(∀ p∈ps,p.Ok)∧runComp (tgName 0) ftYes CE_law_2 [.no] (cs.map .int)=some (ps.map Pz.dat)
  | []=>⟨[],rfl,fun p hp=>(by cases hp),rfl⟩
  | c::cs=>by
    obtain ⟨p,hp,e⟩:=piece_z c
    obtain ⟨ps,h1,h2,h3⟩:=pieces_z cs
    refine ⟨p::ps,by simp [h1],fun q hq=>?_, ?_⟩
    · rcases List.mem_cons.mp hq with rfl | hq
      · exact hp
      · exact h2 q hq
    · rw [List.map_cons]
      exact runComp_t (e:=[.val (.int c)]) rfl rfl (by simp [CE_law_2,e]) h3
def hgt (b:List Pz):Nat:=upOf b+1+dnOf b
theorem gup_ok (p:Pz)(ps:List Pz)(ok : ∀ q∈p::ps,q.Ok)(hl:ps.length≤100):D_greatest_up [.lst ((p::ps).map Pz.o)]=some (.int (upOf (p::ps):Nat)):=by
  have c1:=comp_o (fe:=CE_greatest_up_1) (env:=[.no]) (fun p=>.int (p.u:Nat)) (fun p hp=>⟨[.val p.o],rfl,by simp [CE_greatest_up_1,hp.sk.f1]⟩) (p::ps) ok
  have m1:=maxLD_nat p.u (ps.map Pz.u)
  have e1:((p.u::ps.map Pz.u).map fun i:Nat=>D.int (i:Nat))=(p::ps).map fun p=>.int (p.u:Nat):=by simp
  rw [e1] at m1
  change maxLD _=some (.int (upOf (p::ps):Nat)) at m1
  have hcap0 : ∀ l,capE 1 [] l=[.no]:=fun _=>rfl
  have hlen:((p::ps).map Pz.o).length≤1000000:=by simp; omega
  clear e1
  generalize ((p::ps).map fun p:Pz=>D.int (p.u:Nat))=L1 at *
  generalize (p::ps).map Pz.o=PS at *
  simp only [D_greatest_up,ev_bodyF,F_greatest_up,envOf]
  simp [hlen,hcap0,c1,m1]
theorem hgt_ok (p:Pz)(ps:List Pz)(ok : ∀ q∈p::ps,q.Ok)(hl:ps.length≤100):D_band_height [.lst ((p::ps).map Pz.o)]=some (.int (hgt (p::ps):Nat)):=by
  have g:=gup_ok p ps ok hl
  have c1:=comp_o (fe:=CE_band_height_1) (env:=[.no]) (fun p=>.int (p.d:Nat)) (fun p hp=>⟨[.val p.o],rfl,by simp [CE_band_height_1,hp.sk.f2 hp.hd]⟩) (p::ps) ok
  have m1:=maxLD_nat p.d (ps.map Pz.d)
  have e1:((p.d::ps.map Pz.d).map fun i:Nat=>D.int (i:Nat))=(p::ps).map fun p=>.int (p.d:Nat):=by simp
  rw [e1] at m1
  change maxLD _=some (.int (dnOf (p::ps):Nat)) at m1
  have hcap0 : ∀ l,capE 1 [] l=[.no]:=fun _=>rfl
  have hlen:((p::ps).map Pz.o).length≤1000000:=by simp; omega
  have hh:(upOf (p::ps):Int)+1+(dnOf (p::ps):Int)=(hgt (p::ps):Nat):=by unfold hgt; omega
  clear e1
  generalize ((p::ps).map fun p:Pz=>D.int (p.d:Nat))=L1 at *
  generalize (p::ps).map Pz.o=PS at *
  generalize upOf (p::ps)=U at *
  generalize dnOf (p::ps)=DD at *
  generalize hgt (p::ps)=HH at *
  simp only [D_band_height,ev_bodyF,F_band_height,envOf]
  simp [hlen,hcap0,g,c1,m1,hh]
structure Bd (n:Nat)(b:List Pz):Prop where
  len:b.length=n
  ok : ∀ q∈b,q.Ok
theorem Bd.cons {n:Nat}{b:List Pz}(h:Bd n b)(hn : 1≤n) : ∃ p ps,b=p::ps:=by
  cases b with
  | nil=>have:=h.len; simp at this; omega
  | cons p ps=>exact ⟨p,ps,rfl⟩
theorem Bd.gup {n:Nat}{b:List Pz}(h:Bd n b)(hn : 1≤n)(h9:n≤9):D_greatest_up [.lst (b.map Pz.o)]=some (.int (upOf b:Nat)):=by
  obtain ⟨p,ps,rfl⟩:=h.cons hn
  have:=h.len
  exact gup_ok p ps h.ok (by simp at this; omega)
theorem Bd.hgt {n:Nat}{b:List Pz}(h:Bd n b)(hn : 1≤n)(h9:n≤9):D_band_height [.lst (b.map Pz.o)]=some (.int (K17.hgt b:Nat)):=by
  obtain ⟨p,ps,rfl⟩:=h.cons hn
  have:=h.len
  exact hgt_ok p ps h.ok (by simp at this; omega)
theorem Bd.hle {n:Nat}{b:List Pz}(h:Bd n b)(hn : 1≤n):K17.hgt b≤17∧1≤K17.hgt b∧upOf b≤8:=by
  obtain ⟨p,ps,rfl⟩:=h.cons hn
  have h1:=up_le p ps h.ok
  have h2:=dn_le p ps h.ok
  unfold K17.hgt
  omega
def NBx (n:Nat):List (List Pz)→List D
  | []=>[]
  | [b]=>List.replicate (hgt b) (.int (n:Nat))
  | b::b'::r=>List.replicate (hgt b) (.int (n:Nat))++.non::NBx (n+1) (b'::r)
def preN (n:Nat)(bs:List (List Pz)):List D:=match bs with
  | []=>[]
  | b::r=>if n=0 then NBx n (b::r) else .non::NBx n (b::r)
theorem nb_len {m:Nat}(hm : 1≤m) : ∀ (bs:List (List Pz)) (n:Nat),(∀ b∈bs,Bd m b)→(NBx n bs).length≤18 * bs.length
  | [],n,_=>by simp [NBx]
  | [b],n,h=>by
    have:=(h b List.mem_cons_self).hle hm
    simp [NBx]; omega
  | b::b'::r,n,h=>by
    have h1:=(h b List.mem_cons_self).hle hm
    have h2:=nb_len hm (b'::r) (n+1) fun q hq=>h q (List.mem_cons_of_mem _ hq)
    simp [NBx] at h2 ⊢; omega
theorem nb_loop {m:Nat}(hm : 1≤m)(h9:m≤9)(s0:Slot) : ∀ (bs:List (List Pz)) (n:Nat) (acc:List D) (s2 s3:Slot),(∀ b∈bs,Bd m b)→acc.length+20 * bs.length≤10000→∃ t2 t3,runFor (tgTup [2,3]) LB_numbers_by_row_1 (enumF n (bs.map fun b=>.lst (b.map Pz.o))) [s0,.own acc,s2,s3]=some (.nx [s0,.own (acc++preN n bs),t2,t3])
  | [],n,acc,s2,s3,_,_=>⟨s2,s3,by simp [preN,enumF_nil,runFor]⟩
  | b::r,n,acc,s2,s3,h,hl=>by
    have hb:=(h b List.mem_cons_self)
    have hh:=hb.hgt hm h9
    have hle:=hb.hle hm
    have hl':acc.length+20 * r.length+20≤10000:=by simp only [List.length_cons] at hl; omega
    have mf:=mulF_one (.int (n:Nat)) (hgt b) (by omega)
    obtain ⟨t2,t3,ih⟩:=nb_loop hm h9 s0 r (n+1) (acc++((if n=0 then [] else [D.non])++List.replicate (hgt b) (.int (n:Nat)))) (.val (.int (n:Nat))) (.val (.lst (b.map Pz.o))) (fun q hq=>h q (List.mem_cons_of_mem _ hq)) (by
      simp only [List.length_append,List.length_replicate]
      split <;> simp <;> omega)
    refine ⟨t2,t3, ?_⟩
    have e:acc++preN n (b::r)=acc++((if n=0 then [] else [D.non])++List.replicate (hgt b) (.int (n:Nat)))++preN (n+1) r:=by
      cases r with
      | nil=>by_cases h0:n=0 <;> simp [preN,NBx,h0]
      | cons b' r=>by_cases h0:n=0 <;> simp [preN,NBx,h0]
    rw [e, ← ih,List.map_cons,enumF_cons]
    refine runFor_nx (e1:=[s0,.own acc,.val (.int (n:Nat)),.val (.lst (b.map Pz.o))]) (by simp) ?_
    generalize b.map Pz.o=PB at *
    have l1:acc.length<1000000:=by omega
    have l2:acc.length+hgt b≤1000000:=by omega
    have l3:acc.length+1+hgt b≤1000000:=by omega
    have lr:(List.replicate (hgt b) (D.int (n:Nat))).length=hgt b:=by simp
    generalize List.replicate (hgt b) (D.int (n:Nat))=RR at *
    by_cases h0:n=0
    · subst h0
      have mf':mulF [.int 0] (.int (hgt b:Nat))=some RR:=mf
      simp [LB_numbers_by_row_1,hh,mf',lr,l2]
    · have h0' : 0<n:=by omega
      simp [LB_numbers_by_row_1,hh,mf,lr,l1,l3,h0,h0']
theorem nb_ok {m:Nat}(hm : 1≤m)(h9:m≤9)(bs:List (List Pz))(h : ∀ b∈bs,Bd m b)(hl:bs.length≤9):D_numbers_by_row [.lst (bs.map fun b=>.lst (b.map Pz.o))]=some (NBx 0 bs):=by
  obtain ⟨t2,t3,lp⟩:=nb_loop hm h9 (.val (.lst (bs.map fun b=>.lst (b.map Pz.o)))) bs 0 [] .no .no h (by simp; omega)
  have e:preN 0 bs=NBx 0 bs:=by cases bs <;> simp [preN,NBx]
  rw [List.nil_append,e] at lp
  have he:enumL (bs.map fun b=>D.lst (b.map Pz.o))=enumF 0 (bs.map fun b=>D.lst (b.map Pz.o)):=rfl
  generalize NBx 0 bs=NN at *
  generalize (bs.map fun b=>D.lst (b.map Pz.o))=BB at *
  simp only [D_numbers_by_row,ev_bodyFF,F_numbers_by_row,envOf]
  simp [he,lp]
def LW (top:Int):List (List Pz)→List Int
  | []=>[]
  | b::r=>(top+(upOf b:Nat))::LW (top+(hgt b:Nat)+1) r
theorem lw_loop {m:Nat}(hm : 1≤m)(h9:m≤9)(s0 s1:Slot) : ∀ (bs:List (List Pz)) (top:Int) (acc:List D) (s4:Slot),(∀ b∈bs,Bd m b)→acc.length+bs.length≤10000→∃ t3 t4,runFor (tgName 4) LB_band_lows_1 (bs.map fun b=>.lst (b.map Pz.o)) [s0,s1,.own acc,.val (.int top),s4]=some (.nx [s0,s1,.own (acc++(LW top bs).map .int),t3,t4])
  | [],top,acc,s4,_,_=>⟨_,s4,by simp [LW,runFor]; rfl⟩
  | b::r,top,acc,s4,h,hl=>by
    have hb:=(h b List.mem_cons_self)
    have hh:=hb.hgt hm h9
    have hg:=hb.gup hm h9
    simp only [List.length_cons] at hl
    obtain ⟨t3,t4,ih⟩:=lw_loop hm h9 s0 s1 r (top+(hgt b:Nat)+1) (acc++[.int (top+(upOf b:Nat))]) (.val (.lst (b.map Pz.o))) (fun q hq=>h q (List.mem_cons_of_mem _ hq)) (by simp; omega)
    refine ⟨t3,t4, ?_⟩
    have e:acc++(LW top (b::r)).map D.int=acc++[.int (top+(upOf b:Nat))]++(LW (top+(hgt b:Nat)+1) r).map .int:=by simp [LW]
    rw [e, ← ih,List.map_cons]
    refine runFor_nx (e1:=[s0,s1,.own acc,.val (.int top),.val (.lst (b.map Pz.o))]) (by simp) ?_
    generalize b.map Pz.o=PB at *
    have l1:acc.length<1000000:=by omega
    have e2:top+((hgt b:Int)+1)=top+(hgt b:Int)+1:=by omega
    simp [LB_band_lows_1,hh,hg,l1,e2]
theorem lw_ok {m:Nat}(hm : 1≤m)(h9:m≤9)(bs:List (List Pz))(h : ∀ b∈bs,Bd m b)(hl:bs.length≤9)(up:Int):D_band_lows [.lst (bs.map fun b=>.lst (b.map Pz.o)),.int up]=some ((LW (-up) bs).map .int):=by
  obtain ⟨t3,t4,lp⟩:=lw_loop hm h9 (.val (.lst (bs.map fun b=>.lst (b.map Pz.o)))) (.val (.int up)) bs (-up) [] .no h (by simp; omega)
  rw [List.nil_append] at lp
  generalize (LW (-up) bs).map D.int=NN at *
  generalize (bs.map fun b=>D.lst (b.map Pz.o))=BB at *
  simp only [D_band_lows,ev_bodyFF,F_band_lows,envOf]
  simp [lp]
theorem rng_n (n:Nat)(h:n≤9):rng1 [.int (n:Nat)]=some (rInts 0 n):=rng1_ok (by omega) (by omega)
theorem rIn_len (n:Nat)(h:n≤9):(rInts 0 n).length≤1000000:=by unfold rInts; simp; omega
def wAt (i:Nat)(b:List Pz):Nat:=((b[i]?).map Pz.w).getD 0
def wsOf (n:Nat)(bs:List (List Pz)):List Nat:=(List.range n).map fun i=>maxN (bs.map (wAt i))
theorem comp_b {n:Nat}{fe:FE}{env:DEnv}(pr g:List Pz→D)(h : ∀ b,Bd n b→∃ e,tgName 0 (pr b) env=some e∧fe e=some (g b)) : ∀ bs:List (List Pz),(∀ b∈bs,Bd n b)→runComp (tgName 0) ftYes fe env (bs.map pr)=some (bs.map g)
  | [],_=>rfl
  | b::bs,ok=>by
    obtain ⟨e,h1,h2⟩:=h b (ok b List.mem_cons_self)
    exact runComp_t h1 rfl h2 (comp_b pr g h bs fun q hq=>ok q (List.mem_cons_of_mem _ hq))
theorem Bd.at {n:Nat}{b:List Pz}(h:Bd n b){i:Nat}(hi:i<n) : ∃ p,b[i]?=some p∧p.Ok∧wAt i b=p.w:=by
  have hl:=h.len
  have e:b[i]?=some (b[i]'(by omega)):=List.getElem?_eq_getElem _
  exact ⟨_,e,h.ok _ (List.mem_of_getElem? e),by unfold wAt; rw [e]; rfl⟩
theorem maxLD_ws (i:Nat)(b:List Pz)(r:List (List Pz)):maxLD (.lst ((b::r).map fun b=>.int (wAt i b:Nat)))=some (.int (maxN ((b::r).map (wAt i)):Nat)):=by
  have:=maxLD_nat (wAt i b) (r.map (wAt i))
  have e1:((wAt i b::r.map (wAt i)).map fun i:Nat=>D.int (i:Nat))=(b::r).map fun b=>.int (wAt i b:Nat):=by simp
  rw [e1] at this
  exact this
theorem ws_comp {n:Nat}{fe:FE}{env:DEnv}(b:List Pz)(r:List (List Pz))(h : ∀ i,i<n→∃ e,tgName 0 (.int (i:Nat)) env=some e∧fe e=some (.int (maxN ((b::r).map (wAt i)):Nat))):runComp (tgName 0) ftYes fe env (rInts 0 n)=some ((wsOf n (b::r)).map fun i=>.int (i:Nat)):=by
  have:=runComp_map (tg:=tgName 0) (fe:=fe) (env:=env) (fun x=>match x with | .int k=>.int (maxN ((b::r).map (wAt k.toNat)):Nat) | _=>.non) (rInts 0 n) (by
    intro d hd
    unfold rInts at hd
    obtain ⟨i,hi,rfl⟩:=List.mem_map.mp hd
    obtain ⟨e,h1,h2⟩:=h i (List.mem_range.mp hi)
    refine ⟨e, ?_, ?_⟩
    · rw [show (0:Int)+((i:Nat):Int)=(i:Nat) by omega]; exact h1
    · rw [h2]
      show _=some (D.int (maxN ((b::r).map (wAt ((0:Int)+((i:Nat):Int)).toNat)):Nat))
      rw [show ((0:Int)+((i:Nat):Int)).toNat=i by omega])
  rw [this]
  unfold rInts wsOf
  rw [List.map_map,List.map_map]
  congr 1
  apply List.map_congr_left
  intro i _
  show D.int (maxN ((b::r).map (wAt ((0:Int)+((i:Nat):Int)).toNat)):Nat)=_
  rw [show ((0:Int)+((i:Nat):Int)).toNat=i by omega]; rfl
theorem cw_ok {n:Nat}(hn : 1≤n)(h9:n≤9)(b:List Pz)(r:List (List Pz))(h : ∀ q∈b::r,Bd n q)(hl:r.length≤8):D_column_widths [.lst ((b::r).map fun b=>.lst (b.map Pz.o))]=some ((wsOf n (b::r)).map fun i=>.int (i:Nat)):=by
  have hlen:((b::r).map fun b=>D.lst (b.map Pz.o)).length≤1000000:=by simp; omega
  have hr:=rng_n n h9
  have hc:=ws_comp (n:=n) (fe:=CE_column_widths_2) (env:=[.no,.val (.lst ((b::r).map fun b=>.lst (b.map Pz.o)))]) b r (by
    intro i hi
    refine ⟨_,rfl, ?_⟩
    have c1:=comp_b (n:=n) (fe:=CE_column_widths_1) (env:=[.no,.val (.int (i:Nat))]) (fun b=>.lst (b.map Pz.o)) (fun b=>.int (wAt i b:Nat)) (by
      intro q hq
      obtain ⟨p,e1,e2,e3⟩:=hq.at hi
      have ha:atI (q.map Pz.o) (i:Int)=some p.o:=by rw [atI_k,List.getElem?_map,e1]; rfl
      refine ⟨[.val (.lst (q.map Pz.o)),.val (.int (i:Nat))],rfl, ?_⟩
      rw [e3]
      generalize q.map Pz.o=QQ at *
      simp [CE_column_widths_1,ha,e2.sk.f0]) (b::r) h
    have mx:=maxLD_ws i b r
    have hcap : ∀ a c:Slot,capE 1 [0] [a,c]=[.no,a]:=fun _ _=>rfl
    generalize ((b::r).map fun b=>D.int (wAt i b:Nat))=W1 at *
    generalize ((b::r).map fun b=>D.lst (b.map Pz.o))=BB at *
    simp [CE_column_widths_2,hlen,hcap,c1,mx])
  have h0:((b::r).map fun b=>D.lst (b.map Pz.o))[0]?=some (.lst (b.map Pz.o)):=rfl
  have hbl:(b.map Pz.o).length=n:=by rw [List.length_map]; exact (h b List.mem_cons_self).len
  have hcap : ∀ a:Slot,capE 1 [0] [a]=[.no,a]:=fun _=>rfl
  have hlr:=rIn_len n h9
  generalize ((wsOf n (b::r)).map fun i=>D.int (i:Nat))=WW at *
  generalize ((b::r).map fun b=>D.lst (b.map Pz.o))=BB at *
  generalize b.map Pz.o=B0 at *
  simp only [D_column_widths,ev_bodyFF,F_column_widths,envOf]
  simp [h0,hbl,hr,hlr,hcap,hc]
theorem lw_wides {n:Nat}(hn : 1≤n)(h9:n≤9)(b:List Pz)(r:List (List Pz))(h : ∀ q∈b::r,Bd n q)(hl:r.length≤8):D_law_wides [.lst ((b::r).map fun b=>.lst (b.map Pz.dat))]=some ((wsOf n (b::r)).map fun i=>.int (i:Nat)):=by
  have hlen:((b::r).map fun b=>D.lst (b.map Pz.dat)).length≤1000000:=by simp; omega
  have hr:=rng_n n h9
  have hc:=ws_comp (n:=n) (fe:=CE_law_wides_2) (env:=[.no,.val (.lst ((b::r).map fun b=>.lst (b.map Pz.dat)))]) b r (by
    intro i hi
    refine ⟨_,rfl, ?_⟩
    have c1:=comp_b (n:=n) (fe:=CE_law_wides_1) (env:=[.no,.val (.int (i:Nat))]) (fun b=>.lst (b.map Pz.dat)) (fun b=>.int (wAt i b:Nat)) (by
      intro q hq
      obtain ⟨p,e1,e2,e3⟩:=hq.at hi
      have ha:atI (q.map Pz.dat) (i:Int)=some p.dat:=by rw [atI_k,List.getElem?_map,e1]; rfl
      obtain ⟨r0, -,hr0,hl0⟩:=head_of (by have:=e2.sk.lt; omega) e2.sk.wid
      have hz:p.w≤1000000:=by have:=e2.hw; omega
      refine ⟨[.val (.lst (q.map Pz.dat)),.val (.int (i:Nat))],rfl, ?_⟩
      rw [e3]
      have ha':atI (q.map Pz.dat) (i:Int)=some (.tup [p.o,.lst (p.rs.map .str),.int (p.u:Nat)]):=ha
      clear ha
      generalize p.rs.map D.str=RS at *
      generalize q.map Pz.dat=QQ at *
      simp [CE_law_wides_1,ha',hr0,hl0,hz]) (b::r) h
    have mx:=maxLD_ws i b r
    have hcap : ∀ a c:Slot,capE 1 [0] [a,c]=[.no,a]:=fun _ _=>rfl
    generalize ((b::r).map fun b=>D.int (wAt i b:Nat))=W1 at *
    generalize ((b::r).map fun b=>D.lst (b.map Pz.dat))=BB at *
    simp [CE_law_wides_2,hlen,hcap,c1,mx])
  have h0:((b::r).map fun b=>D.lst (b.map Pz.dat))[0]?=some (.lst (b.map Pz.dat)):=rfl
  have hbl:(b.map Pz.dat).length=n:=by rw [List.length_map]; exact (h b List.mem_cons_self).len
  have hcap : ∀ a:Slot,capE 1 [0] [a]=[.no,a]:=fun _=>rfl
  have hlr:=rIn_len n h9
  generalize ((wsOf n (b::r)).map fun i=>D.int (i:Nat))=WW at *
  generalize ((b::r).map fun b=>D.lst (b.map Pz.dat))=BB at *
  generalize b.map Pz.dat=B0 at *
  simp only [D_law_wides,ev_bodyFF,F_law_wides,envOf]
  simp [h0,hbl,hr,hlr,hcap,hc]
def Fit:List Pz→List Nat→Prop
  | [],[]=>True
  | p::ps,w::ws=>p.Ok∧p.w≤w∧w≤8∧Fit ps ws
  | _,_=>False
theorem fit_of : ∀ (ps:List Pz) (ws:List Nat),ps.length=ws.length→(∀ (i:Nat) (p:Pz) (w:Nat),ps[i]?=some p→ws[i]?=some w→p.Ok∧p.w≤w∧w≤8)→Fit ps ws
  | [],[],_,_=>trivial
  | p::ps,w::ws,h,g=>by
    obtain ⟨h1,h2,h3⟩:=g 0 p w rfl rfl
    exact ⟨h1,h2,h3,fit_of ps ws (by simpa using h) fun i q v e1 e2=>g (i+1) q v (by simpa using e1) (by simpa using e2)⟩
  | [],_::_,h,_=>by simp at h
  | _::_,[],h,_=>by simp at h
theorem ws_len (n:Nat)(bs:List (List Pz)):(wsOf n bs).length=n:=by simp [wsOf]
theorem Bd.fit {n:Nat}{b:List Pz}{bs:List (List Pz)}(h : ∀ q∈bs,Bd n q)(hb:b∈bs):Fit b (wsOf n bs):=by
  have hl:=(h b hb).len
  refine fit_of b _ (by rw [ws_len,hl]) fun i p w e1 e2=>?_
  have hi:i<n:=by have:=(List.getElem?_eq_some_iff.mp e1).1; omega
  obtain ⟨q,e3,e4,e5⟩:=(h b hb).at hi
  rw [e1] at e3; cases e3
  unfold wsOf at e2
  rw [List.getElem?_map,List.getElem?_range hi] at e2
  have ew:w=maxN (bs.map (wAt i)):=(Option.some.inj e2).symm
  refine ⟨e4, ?_, ?_⟩
  · rw [ew, ← e5]; exact maxN_ge _ _ (List.mem_map.mpr ⟨b,hb,rfl⟩)
  · rw [ew]
    refine maxN_le _ _ fun a ha=>?_
    obtain ⟨c,hc,rfl⟩:=List.mem_map.mp ha
    obtain ⟨q',e6,e7,e8⟩:=(h c hc).at hi
    rw [e8]; exact e7.hw
def cellsR (k:Int):List Pz→List Nat→List (List Nat)
  | p::ps,w::ws=>(blank (w - p.w)++p.row k)::cellsR k ps ws
  | _,_=>[]
def bandRow (b:List Pz)(ws:List Nat)(k:Int):List Nat:=joinL [32,32] (cellsR k b ws)
theorem cells_len (k:Int) : ∀ (ps:List Pz) (ws:List Nat),Fit ps ws→(cellsR k ps ws).map List.length=ws
  | [],[],_=>rfl
  | p::ps,w::ws,h=>by
    obtain ⟨h1,h2,h3,h4⟩:=h
    have hr:=h1.rl k
    rw [cellsR,List.map_cons,cells_len k ps ws h4,List.length_append,hr]
    congr 1
    simp [blank]; omega
theorem fit_ws : ∀ (ps:List Pz) (ws:List Nat),Fit ps ws→ps.length=ws.length∧∀ w∈ws,w≤8
  | [],[],_=>⟨rfl,fun w hw=>nomatch hw⟩
  | p::ps,w::ws,h=>by
    obtain ⟨h1,h2,h3,h4⟩:=h
    obtain ⟨g1,g2⟩:=fit_ws ps ws h4
    refine ⟨by simp [g1],fun v hv=>?_⟩
    rcases List.mem_cons.mp hv with rfl | hv
    · exact h3
    · exact g2 v hv
theorem joinL_len (sep:List Nat) : ∀ (x:List Nat) (L:List (List Nat)),(joinL sep (x::L)).length=((x::L).map List.length).sum+L.length * sep.length
  | x,[]=>by simp [joinL]
  | x,y::L=>by
    have:=joinL_len sep y L
    show (x++sep++joinL sep (y::L)).length=_
    rw [List.length_append,List.length_append,this]
    simp [Nat.add_mul]; omega
theorem sum_le (m:Nat) : ∀ l:List Nat,(∀ a∈l,a≤m)→l.sum≤m * l.length
  | [],_=>by simp
  | a::l,h=>by
    have:=sum_le m l fun b hb=>h b (List.mem_cons_of_mem _ hb)
    have:=h a List.mem_cons_self
    rw [List.sum_cons,List.length_cons,Nat.mul_succ]; omega
theorem bandRow_len {b:List Pz}{ws:List Nat}(h:Fit b ws)(hn : 1≤ws.length)(k:Int):(bandRow b ws k).length+2=ws.sum+2 * ws.length:=by
  have hc:=cells_len k b ws h
  unfold bandRow
  cases e:cellsR k b ws with
  | nil=>rw [e] at hc; rw [← hc] at hn; simp at hn
  | cons x L =>
    rw [e] at hc
    have hl:(x::L).length=ws.length:=by rw [← hc,List.length_map]
    rw [joinL_len,hc]
    simp at hl ⊢; omega
theorem band_join {b:List Pz}{ws:List Nat}(h:Fit b ws)(h9:ws.length≤9)(k:Int):joinE (.str [32,32]) (.lst ((cellsR k b ws).map .str))=some (.str (bandRow b ws k)):=by
  have hc:=cells_len k b ws h
  have hs:=sum_le 8 ws (fit_ws b ws h).2
  have hl:(cellsR k b ws).length=ws.length:=by rw [← List.length_map (f:=List.length),hc]
  rw [ev_joinE,strsOf_map,obind_some,hc,if_pos (by rw [hl]; simp; omega)]
  rfl
theorem lband_comp (k:Int) : ∀ (ps:List Pz) (ws:List Nat),Fit ps ws→runComp (tgTup [0,1]) ftYes CE_law_band_4 [.no,.no] (zipL (ps.map fun p=>.str (p.row k)) (ws.map fun i=>.int (i:Nat)))=some ((cellsR k ps ws).map .str)
  | [],[],_=>rfl
  | p::ps,w::ws,h=>by
    obtain ⟨h1,h2,h3,h4⟩:=h
    have hr:=h1.rl k
    have hw:=h1.hw
    rw [List.map_cons,List.map_cons,zipL_cons]
    refine runComp_t (e:=[.val (.str (p.row k)),.val (.int (w:Nat))]) (by simp) rfl ?_ (lband_comp k ps ws h4)
    have mb:=mul_bl (w - p.w) (by omega)
    have e1:(w:Int) - (p.w:Int)=((w - p.w:Nat):Int):=by omega
    have l1:(blank (w - p.w)).length+p.w≤1000000:=by simp [blank]; omega
    have l2:p.w≤1000000:=by omega
    generalize blank (w - p.w)=BL at *
    generalize p.row k=PR at *
    simp [CE_law_band_4,hr,l2,e1,mb,l1]
def bandRows (b:List Pz)(ws:List Nat):List (List Nat):=(List.range (hgt b)).map fun i=>bandRow b ws (-(upOf b:Int)+(i:Nat))
theorem lband_loop {b:List Pz}{ws:List Nat}(h:Fit b ws)(ok : ∀ q∈b,q.Ok)(h9:ws.length≤9)(s2 s3:Slot) : ∀ (ks:List Int) (acc:List D) (s5 s6:Slot),acc.length+ks.length≤10000→∃ t5 t6,runFor (tgName 5) LB_law_band_5 (ks.map .int) [.val (.lst (b.map Pz.dat)),.val (.lst (ws.map fun i=>.int (i:Nat))),s2,s3,.own acc,s5,s6]=some (.nx [.val (.lst (b.map Pz.dat)),.val (.lst (ws.map fun i=>.int (i:Nat))),s2,s3,.own (acc++(ks.map fun k=>bandRow b ws k).map .str),t5,t6])
  | [],acc,s5,s6,_=>⟨s5,s6,by simp [runFor]⟩
  | k::ks,acc,s5,s6,hl=>by
    simp only [List.length_cons] at hl
    obtain ⟨t5,t6,ih⟩:=lband_loop h ok h9 s2 s3 ks (acc++[.str (bandRow b ws k)]) (.val (.int k)) (.val (.lst (b.map fun p=>.str (p.row k)))) (by simp; omega)
    refine ⟨t5,t6, ?_⟩
    have e:acc++((k::ks).map fun k=>bandRow b ws k).map D.str=acc++[.str (bandRow b ws k)]++(ks.map fun k=>bandRow b ws k).map D.str:=by simp
    rw [e, ← ih,List.map_cons]
    refine runFor_nx (e1:=[.val (.lst (b.map Pz.dat)),.val (.lst (ws.map fun i=>.int (i:Nat))),s2,s3,.own acc,.val (.int k),s6]) (by simp) ?_
    have c1:=comp_f (fe:=CE_law_band_3) (env:=[.no,.val (.int k)]) (fun p=>.str (p.row k)) (fun p hp=>⟨[.val p.dat,.val (.int k)],rfl,by simp [CE_law_band_3,hp.row_ k]⟩) b ok
    have c2:=lband_comp k b ws h
    have j:=band_join h h9 k
    have hbl:(b.map Pz.dat).length≤1000000:=by rw [List.length_map,(fit_ws b ws h).1]; omega
    have hzl:(zipL (b.map fun p=>D.str (p.row k)) (ws.map fun i=>D.int (i:Nat))).length≤1000000:=by rw [zipL_len]; simp; omega
    have hcap1 : ∀ a b c d e f g:Slot,capE 1 [5] [a,b,c,d,e,f,g]=[.no,f]:=fun _ _ _ _ _ _ _=>rfl
    have hcap2 : ∀ l,capE 2 [] l=[.no,.no]:=fun _=>rfl
    have hac:acc.length<1000000:=by omega
    generalize (cellsR k b ws).map D.str=CC at *
    generalize b.map Pz.dat=BD at *
    generalize (b.map fun p=>D.str (p.row k))=BR at *
    generalize (ws.map fun i=>D.int (i:Nat))=WW at *
    simp [-ev_joinE,LB_law_band_5,hbl,hcap1,c1,hzl,hcap2,c2,j,hac]
theorem lband_ok {n:Nat}{b:List Pz}{ws:List Nat}(hn : 1≤n)(hb:Bd n b)(h:Fit b ws)(h9:ws.length≤9):D_law_band [.lst (b.map Pz.dat),.lst (ws.map fun i=>.int (i:Nat))]=some (.tup [.lst ((bandRows b ws).map .str),.int (upOf b:Nat)]):=by
  obtain ⟨p,ps,rfl⟩:=hb.cons hn
  have ok:=hb.ok
  have c1:=comp_f (fe:=CE_law_band_1) (env:=[.no]) (fun p=>.int (p.u:Nat)) (fun p hp=>⟨[.val p.dat],rfl,by simp [CE_law_band_1,Pz.dat,pcd]⟩) (p::ps) ok
  have c2:=comp_f (fe:=CE_law_band_2) (env:=[.no]) (fun p=>.int (p.d:Nat)) (fun p hp=>⟨[.val p.dat],rfl,by
    have:(p.rs.length:Int) - 1 - (p.u:Int)=(p.d:Int):=by have:=hp.hd; omega
    simp [CE_law_band_2,Pz.dat,pcd,this]⟩) (p::ps) ok
  have m1:=maxLD_nat p.u (ps.map Pz.u)
  have m2:=maxLD_nat p.d (ps.map Pz.d)
  have e1:((p.u::ps.map Pz.u).map fun i:Nat=>D.int (i:Nat))=(p::ps).map fun p=>.int (p.u:Nat):=by simp
  have e2:((p.d::ps.map Pz.d).map fun i:Nat=>D.int (i:Nat))=(p::ps).map fun p=>.int (p.d:Nat):=by simp
  rw [e1] at m1
  rw [e2] at m2
  have hu:=up_le p ps ok
  have hd:=dn_le p ps ok
  change maxLD _=some (.int (upOf (p::ps):Nat)) at m1
  change maxLD _=some (.int (dnOf (p::ps):Nat)) at m2
  have hr:=rng_neg (upOf (p::ps)) (dnOf (p::ps)) (by omega)
  have hhg:upOf (p::ps)+dnOf (p::ps)+1=hgt (p::ps):=by unfold hgt; omega
  rw [hhg] at hr
  have hhl:hgt (p::ps)≤17:=by unfold hgt; omega
  obtain ⟨t5,t6,lp⟩:=lband_loop h ok h9 (.val (.int (upOf (p::ps):Nat))) (.val (.int (dnOf (p::ps):Nat))) ((List.range (hgt (p::ps))).map fun i:Nat=>-(upOf (p::ps):Int)+(i:Nat)) [] .no .no (by simp; omega)
  have e3:((List.range (hgt (p::ps))).map fun i:Nat=>-(upOf (p::ps):Int)+(i:Nat)).map D.int=rInts (-(upOf (p::ps):Int)) (hgt (p::ps)):=by unfold rInts; rw [List.map_map]; rfl
  have e4:(((List.range (hgt (p::ps))).map fun i:Nat=>-(upOf (p::ps):Int)+(i:Nat)).map fun k=>bandRow (p::ps) ws k)=bandRows (p::ps) ws:=by unfold bandRows; rw [List.map_map]; rfl
  rw [e3,e4,List.nil_append] at lp
  have hcap0 : ∀ l,capE 1 [] l=[.no]:=fun _=>rfl
  have hlen:((p::ps).map Pz.dat).length≤1000000:=by rw [List.length_map,(fit_ws _ ws h).1]; omega
  clear e1 e2 e3 e4
  generalize (bandRows (p::ps) ws).map D.str=CR at *
  generalize ((p::ps).map fun p:Pz=>D.int (p.u:Nat))=L1 at *
  generalize ((p::ps).map fun p:Pz=>D.int (p.d:Nat))=L2 at *
  generalize (ws.map fun i=>D.int (i:Nat))=WW at *
  generalize hgt (p::ps)=HG at *
  generalize upOf (p::ps)=U at *
  generalize dnOf (p::ps)=DD at *
  generalize (p::ps).map Pz.dat=PS at *
  generalize rInts (-(U:Int)) HG=RR at *
  simp only [D_law_band,ev_bodyF,F_law_band,envOf]
  simp [hlen,hcap0,c1,c2,m1,m2,hr,lp]
def twOf (ws:List Nat):Nat:=ws.sum+2 * ws.length - 2
def IRx (ws:List Nat):List (List Pz)→List (List Nat)
  | []=>[]
  | [b]=>bandRows b ws
  | b::b'::r=>bandRows b ws++blank (twOf ws)::IRx ws (b'::r)
theorem br_len (b:List Pz)(ws:List Nat):(bandRows b ws).length=hgt b:=by simp [bandRows]
theorem ir_len (ws:List Nat) : ∀ (bs:List (List Pz)) (n:Nat),(IRx ws bs).length=(NBx n bs).length
  | [],n=>rfl
  | [b],n=>by simp [IRx,NBx,br_len]
  | b::b'::r,n=>by simp [IRx,NBx,br_len,ir_len ws (b'::r) (n+1)]
theorem br_get (b:List Pz)(ws:List Nat)(i:Nat)(hi:i<hgt b):(bandRows b ws)[i]?=some (bandRow b ws (-(upOf b:Int)+(i:Nat))):=by
  unfold bandRows
  rw [List.getElem?_map,List.getElem?_range hi]; rfl
theorem grid_at (ws:List Nat) : ∀ (bs:List (List Pz)) (n:Nat) (top:Int) (i:Nat),i<(IRx ws bs).length →
    ((NBx n bs)[i]?=some .non∧(IRx ws bs)[i]?=some (blank (twOf ws)))∨∃ (m:Nat) (b:List Pz) (low:Int),bs[m]?=some b∧(NBx n bs)[i]?=some (.int ((n+m:Nat):Int))∧(LW top bs)[m]?=some low∧(IRx ws bs)[i]?=some (bandRow b ws (top+(i:Nat) - low))
  | [],n,top,i,h=>by simp [IRx] at h
  | [b],n,top,i,h=>by
    have hi:i<hgt b:=by simpa [IRx,br_len] using h
    refine .inr ⟨0,b,top+(upOf b:Nat),rfl, ?_,rfl, ?_⟩
    · rw [NBx,List.getElem?_replicate,if_pos hi]; rfl
    · rw [IRx,br_get b ws i hi,show top+((i:Nat):Int) - (top+((upOf b:Nat):Int))=-((upOf b:Nat):Int)+((i:Nat):Int) by omega]
  | b::b'::r,n,top,i,h=>by
    by_cases hi:i<hgt b
    · refine .inr ⟨0,b,top+(upOf b:Nat),rfl, ?_,rfl, ?_⟩
      · rw [NBx,List.getElem?_append_left (by simpa using hi),List.getElem?_replicate,if_pos hi]; rfl
      · rw [IRx,List.getElem?_append_left (by rw [br_len]; exact hi),br_get b ws i hi,show top+((i:Nat):Int) - (top+((upOf b:Nat):Int))=-((upOf b:Nat):Int)+((i:Nat):Int) by omega]
    · by_cases he:i=hgt b
      · refine .inl ⟨?_, ?_⟩
        · rw [NBx,List.getElem?_append_right (by simp; omega),List.length_replicate,he,Nat.sub_self]; rfl
        · rw [IRx,List.getElem?_append_right (by rw [br_len]; omega),br_len,he,Nat.sub_self]; rfl
      · obtain ⟨j,hj⟩ : ∃ j,i=hgt b+1+j:=⟨i - hgt b - 1,by omega⟩
        have e1:i - hgt b=j+1:=by omega
        have a1:(NBx n (b::b'::r))[i]?=(NBx (n+1) (b'::r))[j]?:=by
          rw [NBx,List.getElem?_append_right (by simp; omega),List.length_replicate,e1,List.getElem?_cons_succ]
        have a2:(IRx ws (b::b'::r))[i]?=(IRx ws (b'::r))[j]?:=by
          rw [IRx,List.getElem?_append_right (by rw [br_len]; omega),br_len,e1,List.getElem?_cons_succ]
        have hj':j<(IRx ws (b'::r)).length:=by
          simp only [IRx,List.length_append,List.length_cons,br_len] at h
          omega
        rcases grid_at ws (b'::r) (n+1) (top+(hgt b:Nat)+1) j hj' with ⟨h1,h2⟩ | ⟨m,c,low,h1,h2,h3,h4⟩
        · exact .inl ⟨a1.trans h1,a2.trans h2⟩
        · refine .inr ⟨m+1,c,low,by simpa using h1, ?_, ?_, ?_⟩
          · rw [a1,h2,show n+1+m=n+(m+1) by omega]
          · rw [LW,List.getElem?_cons_succ]; exact h3
          · rw [a2,h4,show top+((hgt b:Nat):Int)+1+((j:Nat):Int) - low=top+((i:Nat):Int) - low by omega]
def BSx (s:Nat):List (List Pz)→List Nat
  | []=>[]
  | b::r=>(s+upOf b)::BSx (s+hgt b+1) r
theorem bs_lw (up:Nat) : ∀ (bs:List (List Pz)) (s:Nat),(BSx s bs).map (fun x=>((x:Nat):Int) - (up:Nat))=LW (((s:Nat):Int) - (up:Nat)) bs
  | [],s=>rfl
  | b::r,s=>by
    have:=bs_lw up r (s+hgt b+1)
    rw [BSx,LW,List.map_cons,this]
    congr 1
    · omega
    · congr 1; omega
def preI (ws:List Nat)(A:List (List Nat))(bs:List (List Pz)):List (List Nat):=match bs with
  | []=>[]
  | b::r=>if A=[] then IRx ws (b::r) else blank (twOf ws)::IRx ws (b::r)
theorem eqn_nil (A:List (List Nat)):eqN 100 (.lst (A.map D.str)) (.lst [])=some (A == []):=eq_nil_strs A
theorem in_loop {n:Nat}(hn : 1≤n){ws:List Nat}(hw1 : 1≤ws.length)(h9:ws.length≤9)(hw8 : ∀ w∈ws,w≤8)(s0:Slot) : ∀ (bs:List (List Pz)) (A:List (List Nat)) (Bb:List D) (s4 s5 s6:Slot),(∀ b∈bs,Bd n b∧Fit b ws)→A.length+20 * bs.length≤1000→Bb.length+bs.length≤1000→∃ t4 t5 t6,runFor (tgName 4) LB_law_inner_1 (bs.map fun b=>.lst (b.map Pz.dat)) [s0,.val (.lst (ws.map fun i=>.int (i:Nat))),.own (A.map .str),.own Bb,s4,s5,s6]=some (.nx [s0,.val (.lst (ws.map fun i=>.int (i:Nat))),.own ((A++preI ws A bs).map .str),.own (Bb++(BSx (A.length+if A=[] then 0 else 1) bs).map fun x=>.int (x:Nat)),t4,t5,t6])
  | [],A,Bb,s4,s5,s6,_,_,_=>⟨s4,s5,s6,by simp [preI,BSx,runFor]⟩
  | b::r,A,Bb,s4,s5,s6,h,hl,hl2=>by
    obtain ⟨hb,hf⟩:=h b List.mem_cons_self
    have lb:=lband_ok hn hb hf h9
    have hle:=hb.hle hn
    simp only [List.length_cons] at hl hl2
    have hne:bandRows b ws≠[]:=fun z=>by have:=br_len b ws; rw [z] at this; simp at this; omega
    obtain ⟨t4,t5,t6,ih⟩:=in_loop hn hw1 h9 hw8 s0 r (A++((if A=[] then [] else [blank (twOf ws)])++bandRows b ws)) (Bb++[.int ((A.length+(if A=[] then 0 else 1)+upOf b:Nat):Int)]) (.val (.lst (b.map Pz.dat))) (.val (.lst ((bandRows b ws).map .str))) (.val (.int (upOf b:Nat))) (fun q hq=>h q (List.mem_cons_of_mem _ hq)) (by
      simp only [List.length_append,br_len]
      split <;> simp <;> omega) (by simp; omega)
    refine ⟨t4,t5,t6, ?_⟩
    have hA' : ¬ (A++((if A=[] then [] else [blank (twOf ws)])++bandRows b ws))=[]:=by
      intro z
      have:=(List.append_eq_nil_iff.mp z).2
      exact hne (List.append_eq_nil_iff.mp this).2
    have e1:A++preI ws A (b::r)=A++((if A=[] then [] else [blank (twOf ws)])++bandRows b ws)++preI ws (A++((if A=[] then [] else [blank (twOf ws)])++bandRows b ws)) r:=by
      cases r with
      | nil=>by_cases hA:A=[] <;> simp [preI,IRx,hA]
      | cons b' r =>
        rw [preI,preI,if_neg hA']
        by_cases hA:A=[] <;> simp [IRx,hA]
    have e2:(BSx (A.length+if A=[] then 0 else 1) (b::r))=(A.length+(if A=[] then 0 else 1)+upOf b)::BSx ((A++((if A=[] then [] else [blank (twOf ws)])++bandRows b ws)).length+if (A++((if A=[] then [] else [blank (twOf ws)])++bandRows b ws))=[] then 0 else 1) r:=by
      rw [BSx,if_neg hA',List.length_append,List.length_append,br_len]
      congr 2
      by_cases hA:A=[] <;> simp [hA] <;> omega
    have e3:Bb++(BSx (A.length+if A=[] then 0 else 1) (b::r)).map (fun x=>D.int ((x:Nat):Int))=Bb++[.int ((A.length+(if A=[] then 0 else 1)+upOf b:Nat):Int)]++(BSx ((A++((if A=[] then [] else [blank (twOf ws)])++bandRows b ws)).length+if (A++((if A=[] then [] else [blank (twOf ws)])++bandRows b ws))=[] then 0 else 1) r).map (fun x=>D.int ((x:Nat):Int)):=by
      rw [e2]; simp
    rw [e1,e3, ← ih,List.map_cons]
    refine runFor_nx (e1:=[s0,.val (.lst (ws.map fun i=>.int (i:Nat))),.own (A.map .str),.own Bb,.val (.lst (b.map Pz.dat)),s5,s6]) (by simp) ?_
    clear ih e1 e2 e3
    have en:=eqn_nil A
    have sm:=sumD_nat ws (fun a ha=>by have:=hw8 a ha; omega) (by omega)
    have hs:=sum_le 8 ws hw8
    have lw:(ws.map fun i=>D.int (i:Nat)).length=ws.length:=by simp
    have m2:=mulD_right 2 (ws.length:Int) (by omega)
    have tw:(ws.sum:Int)+2 * (ws.length:Int) - 2=(twOf ws:Nat):=by unfold twOf; omega
    have mb:=mul_bl (twOf ws) (by unfold twOf; omega)
    have l1:(A.map D.str).length=A.length:=by simp
    have l2:((bandRows b ws).map D.str).length=hgt b:=by simp [br_len]
    have lB:Bb.length<1000000:=by omega
    have lA:A.length<1000000:=by omega
    have lA2:A.length+hgt b≤1000000:=by omega
    have lA3:A.length+1+hgt b≤1000000:=by omega
    generalize hWW:(ws.map fun i=>D.int (i:Nat))=WW at *
    generalize b.map Pz.dat=BD at *
    generalize blank (twOf ws)=BT at *
    by_cases hA:A=[]
    · subst hA
      simp only [List.map_append,if_pos]
      generalize (bandRows b ws).map D.str=BR at *
      have en':eqN 100 (.lst []) (.lst [])=some true:=eq_nil_nil
      have l0:hgt b≤1000000:=by omega
      simp [LB_law_inner_1,en',lb,lB,l2,l0]
    · have hAb:(A == [])=false:=by simpa using hA
      simp only [List.map_append,if_neg hA,List.map_cons,List.map_nil]
      generalize (bandRows b ws).map D.str=BR at *
      generalize A.map D.str=AA at *
      simp [LB_law_inner_1,en,hAb,sm,lw,m2,tw,mb,l1,l2,lb,lB,lA,lA3]
theorem in_ok {n:Nat}(hn : 1≤n)(h9:n≤9)(b:List Pz)(r:List (List Pz))(h : ∀ q∈b::r,Bd n q)(hl:r.length≤8):D_law_inner [.lst ((b::r).map fun b=>.lst (b.map Pz.dat))]=some (.tup [.lst ((IRx (wsOf n (b::r)) (b::r)).map .str),.lst ((BSx 0 (b::r)).map fun x=>.int (x:Nat))]):=by
  have hw:=lw_wides hn h9 b r h hl
  have hwl:=ws_len n (b::r)
  have hw8:=(fit_ws b _ (Bd.fit h List.mem_cons_self)).2
  obtain ⟨t4,t5,t6,lp⟩:=in_loop hn (ws:=wsOf n (b::r)) (by omega) (by omega) hw8 (.val (.lst ((b::r).map fun b=>.lst (b.map Pz.dat)))) (b::r) [] [] .no .no .no (fun q hq=>⟨h q hq,Bd.fit h hq⟩) (by simp; omega) (by simp; omega)
  rw [List.nil_append,List.nil_append,show preI (wsOf n (b::r)) [] (b::r)=IRx (wsOf n (b::r)) (b::r) by simp [preI],List.map_nil] at lp
  change runFor _ _ _ _=some (.nx [_,_,_,.own ((BSx 0 (b::r)).map fun x=>.int (x:Nat)),_,_,_]) at lp
  generalize (IRx (wsOf n (b::r)) (b::r)).map D.str=II at *
  generalize ((BSx 0 (b::r)).map fun x=>D.int ((x:Nat):Int))=BB at *
  generalize ((wsOf n (b::r)).map fun i=>D.int (i:Nat))=WW at *
  generalize ((b::r).map fun b=>D.lst (b.map Pz.dat))=BD at *
  simp only [D_law_inner,ev_bodyF,F_law_inner,envOf]
  simp [hw,lp]
def sdRows (m:Nat)(L:List (List Nat)):List (List Nat):=(List.range L.length).map fun i=>if i=m then [91]++(L[i]?).getD []++[93] else [124]++(L[i]?).getD []++[124]
theorem sd_len (m:Nat)(L:List (List Nat)):(sdRows m L).length=L.length:=by simp [sdRows]
theorem sd_get (m:Nat)(L:List (List Nat))(i:Nat)(r:List Nat)(h:L[i]?=some r):(sdRows m L)[i]?=some (if i=m then [91]++r++[93] else [124]++r++[124]):=by
  have hi:i<L.length:=(List.getElem?_eq_some_iff.mp h).1
  unfold sdRows
  rw [List.getElem?_map,List.getElem?_range hi,Option.map_some,h]; rfl
theorem sd_set (m:Nat)(L:List (List Nat))(r:List Nat)(h:L[m]?=some r):(L.map fun q=>[124]++q++[124]).set m ([91]++r++[93])=sdRows m L:=by
  apply List.ext_getElem?
  intro j
  by_cases hj:j<L.length
  · have e:L[j]?=some (L[j]'hj):=List.getElem?_eq_getElem _
    rw [sd_get m L j _ e]
    by_cases hm:m=j
    · subst hm
      rw [List.getElem?_set_self (by simpa using hj)]
      rw [h] at e; cases e
      simp
    · rw [List.getElem?_set_ne hm,List.getElem?_map,e]
      simp [show ¬ j=m from fun z=>hm z.symm]
  · rw [List.getElem?_eq_none (by simp; omega),List.getElem?_eq_none (by rw [sd_len]; omega)]
theorem sided_ok (L:List (List Nat))(hl : 1≤L.length)(hl2:L.length≤1000)(hw : ∀ r∈L,r.length≤1000):D_law_sided [.lst (L.map .str)]=some (.tup [.lst ((sdRows ((L.length - 1) / 2) L).map .str),.int (((L.length - 1) / 2:Nat):Int)]):=by
  obtain ⟨m,hm⟩ : ∃ m,m=(L.length - 1) / 2:=⟨_,rfl⟩
  rw [← hm]
  have hml:m<L.length:=by omega
  have f:=fdivI_pos ((L.length:Int) - 1) 2 (by decide)
  rw [show ((L.length:Int) - 1) / 2=(m:Nat) by omega] at f
  obtain ⟨r,hr⟩ : ∃ r,L[m]?=some r:=⟨_,List.getElem?_eq_getElem hml⟩
  have hrw:=hw r (List.mem_of_getElem? hr)
  have cp:=runComp_map (tg:=tgName 0) (fe:=CE_law_sided_1) (env:=[.no]) (fun x=>match x with | .str r=>.str ([124]++r++[124]) | _=>.non) (L.map .str) (by
    intro d hd
    obtain ⟨q,hq,rfl⟩:=List.mem_map.mp hd
    have:=hw q hq
    have l1 : 1+q.length≤1000000:=by omega
    have l2:q.length+1+1≤1000000:=by omega
    exact ⟨[.val (.str q)],rfl,by simp [CE_law_sided_1,l1,l2]⟩)
  rw [List.map_map] at cp
  have ce:L.map ((fun x=>match x with | .str r=>D.str ([124]++r++[124]) | _=>.non) ∘ D.str)=(L.map fun q=>[124]++q++[124]).map .str:=by rw [List.map_map]; rfl
  rw [ce] at cp
  have ha:atI (L.map D.str) (m:Int)=some (.str r):=by rw [atI_k,List.getElem?_map,hr]; rfl
  have st:=setI_k ((L.map fun q=>[124]++q++[124]).map D.str) m (.str ([91]++r++[93])) (by simpa using hml)
  rw [← List.map_set,sd_set m L r hr] at st
  have st':setI ((L.map fun q=>[124]++q++[124]).map D.str) (m:Int) (.str (91::(r++[93])))=some ((sdRows m L).map .str):=st
  have hcap0 : ∀ l,capE 1 [] l=[.no]:=fun _=>rfl
  have lL:(L.map D.str).length=L.length:=by simp
  have lL6:L.length≤1000000:=by omega
  have l1 : 1+r.length≤1000000:=by omega
  have l2:r.length+1+1≤1000000:=by omega
  clear ce st
  generalize (sdRows m L).map D.str=SS at *
  generalize (L.map fun q=>[124]++q++[124]).map D.str=CC at *
  generalize L.map D.str=LL at *
  simp only [D_law_sided,ev_bodyF,F_law_sided,envOf]
  simp [lL,f,lL6,hcap0,cp,ha,l1,l2,st']
def oGr (bO wD nD lD:List D)(w u d:Nat):D:=.ob 3 [5,6,7,0,1,2,8] [.lst bO,.lst wD,.lst nD,.int (w:Nat),.int (u:Nat),.int (d:Nat),.lst lD]
theorem mk_skJ (c:Nat)(ks:List Nat)(ds:List D)(w u d:Int)(h0 : 0 ∉ ks)(h1 : 1 ∉ ks)(h2 : 2 ∉ ks)(hl:ks.length≤10):J_Sketch c ks ds [.int w,.int u,.int d]=some (ks++[0,1,2],ds++[.int w,.int u,.int d]):=by
  have l1 : ¬ 100≤ks.length:=by omega
  have l2 : ¬ 100≤ks.length+1:=by omega
  have l3 : ¬ 100≤ks.length+1+1:=by omega
  simp [J_Sketch,ev_bodyJ,F_Sketch_init,envOf,h0,h1,h2,l1,l2,l3]
theorem copy_comp : ∀ dss:List (List D),(∀ ds∈dss,ds.length≤1000)→runComp (tgRed 0) ftYes CE_Grid_init_1 [.no] (dss.map .lst)=some (dss.map .lst)
  | [],_=>rfl
  | ds::r,h=>by
    have:=h ds List.mem_cons_self
    rw [List.map_cons]
    refine runComp_t (e:=[.red ds]) rfl rfl ?_ (copy_comp r fun q hq=>h q (List.mem_cons_of_mem _ hq))
    simp [CE_Grid_init_1]
theorem mk_gr {n:Nat}(hn : 1≤n)(h9:n≤9)(b:List Pz)(r:List (List Pz))(h : ∀ q∈b::r,Bd n q)(hl:r.length≤8)(H:Nat)(hH:(NBx 0 (b::r)).length=H)(hH1 : 1≤H)(hH2:H≤1000) :
    I_Grid 3 [.lst (((b::r).map fun b=>b.map Pz.o).map .lst)]=some ([5,6,7,0,1,2,8],[.lst ((b::r).map fun b=>.lst (b.map Pz.o)),.lst ((wsOf n (b::r)).map fun i=>.int (i:Nat)),.lst (NBx 0 (b::r)),.int (((wsOf n (b::r)).sum+2 * n:Nat):Int),.int (((H - 1) / 2:Nat):Int),.int ((H - 1 - (H - 1) / 2:Nat):Int),.lst ((LW (-(((H - 1) / 2:Nat):Int)) (b::r)).map .int)]):=by
  have hcw:=cw_ok hn h9 b r h hl
  have hnb:=nb_ok hn h9 (b::r) h (by simp; omega)
  have hlw:=lw_ok hn h9 (b::r) h (by simp; omega) (((H - 1) / 2:Nat):Int)
  have hws:=ws_len n (b::r)
  have hw8:=(fit_ws b _ (Bd.fit h List.mem_cons_self)).2
  have sm:=sumD_nat (wsOf n (b::r)) (fun a ha=>by have:=hw8 a ha; omega) (by omega)
  have cc:=copy_comp ((b::r).map fun b=>b.map Pz.o) (by
    intro ds hd
    obtain ⟨q,hq,rfl⟩:=List.mem_map.mp hd
    rw [List.length_map,(h q hq).len]; omega)
  have ce:((b::r).map fun b=>b.map Pz.o).map D.lst=(b::r).map fun b=>.lst (b.map Pz.o):=by rw [List.map_map]; rfl
  have ld:((b::r).map fun b=>b.map Pz.o).length≤1000000:=by simp; omega
  have lw1:((wsOf n (b::r)).map fun i=>D.int (i:Nat)).length=n:=by rw [List.length_map,hws]
  have m2:=mulD_right 2 (n:Int) (by omega)
  have f:=fdivI_pos ((H:Int) - 1) 2 (by decide)
  obtain ⟨U,hU⟩ : ∃ U,U=(H - 1) / 2:=⟨_,rfl⟩
  rw [← hU] at hlw ⊢
  rw [show ((H:Int) - 1) / 2=(U:Nat) by omega] at f
  have hUl:U<H:=by omega
  clear hU
  have hd:(H:Int) - 1 - (U:Nat)=((H - 1 - U:Nat):Int):=by omega
  have hW:((wsOf n (b::r)).sum:Int)+2 * (n:Int)=(((wsOf n (b::r)).sum+2 * n:Nat):Int):=by omega
  have hcap0 : ∀ l,capE 1 [] l=[.no]:=fun _=>rfl
  have mj:=mk_skJ 3 [5,6,7] [.lst ((b::r).map fun b=>.lst (b.map Pz.o)),.lst ((wsOf n (b::r)).map fun i=>.int (i:Nat)),.lst (NBx 0 (b::r))] (((wsOf n (b::r)).sum+2 * n:Nat):Int) (U:Nat) ((H - 1 - U:Nat):Int) (by decide) (by decide) (by decide) (by decide)
  have hN6:(NBx 0 (b::r)).length≤1000000:=by omega
  have cc':runComp (tgRed 0) ftYes CE_Grid_init_1 [.no] (((b::r).map fun b=>b.map Pz.o).map .lst)=some ((b::r).map fun b=>.lst (b.map Pz.o)):=by rw [cc,ce]
  simp only [I_Grid,ev_bodyIR2,F_Grid_init,envOf]
  clear ce cc
  generalize (LW (-((U:Nat):Int)) (b::r)).map D.int=LL at *
  generalize ((b::r).map fun b=>D.lst (b.map Pz.o))=BO at *
  generalize ((b::r).map fun b=>b.map Pz.o)=DS at *
  generalize hWW:((wsOf n (b::r)).map fun i=>D.int (i:Nat))=WW at *
  generalize NBx 0 (b::r)=NN at *
  generalize (wsOf n (b::r)).sum=SS at *
  generalize hTT:SS+2 * n=TT at *
  simp [ld,hcap0,cc',hcw,hnb,hH,f,sm,lw1,m2,hW,hd,mj,hlw]
theorem brow_comp (m:Nat)(hm : 3≤m)(k:Int) : ∀ (ps:List Pz) (ws:List Nat),Fit ps ws→runComp (tgTup [0,1]) ftYes (fp2 (strM1 rjustF) (fpMeth 1 (MT_row (DN0 m)) (feName 0) (faCons (feName 2) faNil)) (feName 1)) [.no,.no,.val (.int k)] (zipL (ps.map Pz.o) (ws.map fun i=>.int (i:Nat)))=some ((cellsR k ps ws).map .str)
  | [],[],_=>rfl
  | p::ps,w::ws,h=>by
    obtain ⟨h1,h2,h3,h4⟩:=h
    have hr:=h1.rl k
    have mr:=meth_row h1.sk hm k
    change methD 1 (MT_row (DN0 m)) p.o [.int k]=some (.str (p.row k)) at mr
    rw [List.map_cons,List.map_cons,zipL_cons]
    refine runComp_t (e:=[.val p.o,.val (.int (w:Nat)),.val (.int k)]) (by simp) rfl ?_ (brow_comp m hm k ps ws h4)
    have hb : -1000000≤(w:Int)∧(w:Int)≤1000000:=by omega
    unfold blank
    generalize p.row k=PR at *
    simp [mr,hb,hr]
theorem lows_at (top:Int) : ∀ (bs:List (List Pz)) (m:Nat) (low:Int),(LW top bs)[m]?=some low→atI ((LW top bs).map D.int) (m:Int)=some (.int low):=fun bs m low h=>by
  rw [atI_k,List.getElem?_map,h]; rfl
theorem band_row_ok {n:Nat}{bs:List (List Pz)}{b:List Pz}{ws:List Nat}(hf:Fit b ws)(h9:ws.length≤9)(m:Nat)(hm : 3≤m)(i:Nat)(low:Int)(top:Int)(hb:bs[i]?=some b)(hlo:(LW top bs)[i]?=some low)(nD:List D)(w u d:Nat)(k:Int) :
    methD 2 (MT_band_row (DN0 (m+1))) (oGr (bs.map fun b=>.lst (b.map Pz.o)) (ws.map fun i=>.int (i:Nat)) nD ((LW top bs).map .int) w u d) [.int (i:Nat),.int k]=some (.str (bandRow b ws (k - low))):=by
  have e:methD 2 (MT_band_row (DN0 (m+1))) (oGr (bs.map fun b=>.lst (b.map Pz.o)) (ws.map fun i=>.int (i:Nat)) nD ((LW top bs).map .int) w u d) [.int (i:Nat),.int k]=(DN0 (m+1)).Grid_band_row [oGr (bs.map fun b=>.lst (b.map Pz.o)) (ws.map fun i=>.int (i:Nat)) nD ((LW top bs).map .int) w u d,.int (i:Nat),.int k]:=by simp [oGr,MT_band_row]
  rw [e]
  have ha:atI (bs.map fun b=>D.lst (b.map Pz.o)) (i:Int)=some (.lst (b.map Pz.o)):=by rw [atI_k,List.getElem?_map,hb]; rfl
  have hlw:=lows_at top bs i low hlo
  have bc:=brow_comp m hm (k - low) b ws hf
  have bj:=band_join hf h9 (k - low)
  have hzl:(zipL (b.map Pz.o) (ws.map fun i=>D.int (i:Nat))).length≤1000000:=by rw [zipL_len]; simp; omega
  have hcap : ∀ a b c d:Slot,capE 2 [3] [a,b,c,d]=[.no,.no,d]:=fun _ _ _ _=>rfl
  show bodyF 4 (F_Grid_band_row (DN0 m)) _=_
  unfold oGr
  generalize (LW top bs).map D.int=LL at *
  generalize (bs.map fun b=>D.lst (b.map Pz.o))=BO at *
  generalize (cellsR (k - low) b ws).map D.str=CC at *
  generalize b.map Pz.o=BB at *
  generalize (ws.map fun i=>D.int (i:Nat))=WW at *
  simp only [ev_bodyF,F_Grid_band_row,envOf]
  simp only [ev_fsSeq,ev_fsSet,ev_fsRet]
  simp [-ev_joinE,hlw,ha,hzl,hcap,bc,bj]
theorem sk_grid {n:Nat}(hn : 1≤n)(h9:n≤9)(b:List Pz)(r:List (List Pz))(h : ∀ q∈b::r,Bd n q)(hl:r.length≤8)(H:Nat)(hH:(NBx 0 (b::r)).length=H)(hH1 : 1≤H)(hH2:H≤1000)(ws:List Nat)(hws:ws=wsOf n (b::r))(U:Nat)(hU:U=(H - 1) / 2) :
    Sk 6 (oGr ((b::r).map fun b=>.lst (b.map Pz.o)) (ws.map fun i=>.int (i:Nat)) (NBx 0 (b::r)) ((LW (-((U:Nat):Int)) (b::r)).map .int) (ws.sum+2 * n) U (H - 1 - U)) (sdRows U (IRx ws (b::r))) U (ws.sum+2 * n):=by
  have hUl:U<H:=by omega
  clear hU
  have hwl:ws.length=n:=by rw [hws]; exact ws_len n _
  have fit : ∀ q∈b::r,Fit q ws:=fun q hq=>by rw [hws]; exact Bd.fit h hq
  have hw8:=(fit_ws b ws (fit b List.mem_cons_self)).2
  have hsum:=sum_le 8 ws hw8
  have hI:(IRx ws (b::r)).length=H:=by rw [ir_len ws _ 0]; exact hH
  have wid : ∀ q∈IRx ws (b::r),q.length+2=ws.sum+2 * n:=by
    intro q hq
    obtain ⟨i,hi,e⟩:=List.getElem_of_mem hq
    have e':(IRx ws (b::r))[i]?=some q:=by rw [List.getElem?_eq_getElem hi,e]
    rcases grid_at ws (b::r) 0 0 i hi with ⟨_,h2⟩ | ⟨m,c,low,h1,_,_,h4⟩
    · rw [e'] at h2; cases h2
      simp [blank,twOf]; omega
    · rw [e'] at h4; cases h4
      have:=bandRow_len (fit c (List.mem_of_getElem? h1)) (by omega) (0+((i:Nat):Int) - low)
      omega
  refine ⟨by simp [oGr],by simp [oGr],⟨H - 1 - U,by simp [oGr],by rw [sd_len,hI]; omega⟩,fun R k=>by simp [oGr,MT_row],by simp [oGr,MT_rows],by simp [oGr],fun m hm k=>?_,fun q hq=>?_,by omega,by rw [sd_len,hI]; omega⟩
  · obtain ⟨m,rfl⟩ : ∃ j,m=j+1+1+1:=⟨m - 3,by omega⟩
    refine sk_row (d:=H - 1 - U) (by simp [oGr]) (by simp [oGr]) (by simp [oGr]) (by rw [sd_len,hI]; omega) (by omega) (fun k q h0 hq=>?_) k
    have hi:(k+(U:Nat)).toNat<(IRx ws (b::r)).length:=by
      rw [← sd_len U]; exact (List.getElem?_eq_some_iff.mp hq).1
    obtain ⟨i,hi'⟩ : ∃ i:Nat,k+(U:Nat)=i:=⟨(k+(U:Nat)).toNat,by omega⟩
    have ei:(k+(U:Nat)).toNat=i:=by omega
    rw [ei] at hq hi
    have hme:methD 1 (MT_row_within (DN0 (m+1+1))) (oGr ((b::r).map fun b=>.lst (b.map Pz.o)) (ws.map fun i=>.int (i:Nat)) (NBx 0 (b::r)) ((LW (-((U:Nat):Int)) (b::r)).map .int) (ws.sum+2 * n) U (H - 1 - U)) [.int k]=(DN0 (m+1+1)).Grid_row_within [oGr ((b::r).map fun b=>.lst (b.map Pz.o)) (ws.map fun i=>.int (i:Nat)) (NBx 0 (b::r)) ((LW (-((U:Nat):Int)) (b::r)).map .int) (ws.sum+2 * n) U (H - 1 - U),.int k]:=by simp [oGr,MT_row_within]
    rw [hme]
    show bodyF 4 (F_Grid_row_within (DN0 (m+1))) _=_
    have eT:((ws.sum+2 * n:Nat):Int) - 2=(twOf ws:Nat):=by unfold twOf; omega
    have k0:(k=0)↔(i=U):=by omega
    rcases grid_at ws (b::r) 0 (-((U:Nat):Int)) i hi with ⟨h1,h2⟩ | ⟨m',c,low,h1,h2,h3,h4⟩
    · rw [sd_get U _ i _ h2] at hq
      have hq':=(Option.some.inj hq).symm
      have ha:atI (NBx 0 (b::r)) (i:Int)=some .non:=by rw [atI_k]; exact h1
      have mb:=mul_bl (twOf ws) (by unfold twOf; omega)
      have lt:(blank (twOf ws)).length=twOf ws:=by simp [blank]
      have tl:twOf ws≤1000:=by unfold twOf; omega
      have l1 : 1+twOf ws≤1000000:=by omega
      have l2 : 1+twOf ws+1≤1000000:=by omega
      have l3:twOf ws+1+1≤1000000:=by omega
      unfold oGr
      generalize (LW (-((U:Nat):Int)) (b::r)).map D.int=LL at *
      generalize ((b::r).map fun b=>D.lst (b.map Pz.o))=BO at *
      generalize (ws.map fun i=>D.int (i:Nat))=WW at *
      generalize NBx 0 (b::r)=NN at *
      generalize blank (twOf ws)=BT at *
      generalize ws.sum+2 * n=W at *
      simp only [ev_bodyF,F_Grid_row_within,envOf,c_BLANK]
      by_cases kz:k=0
      · rw [hq',if_pos (k0.mp kz)]
        have kb:(k == 0)=true:=by simpa using kz
        simp [hi',ha,eT,mb,kb,lt,l1,l2,l3]
      · rw [hq',if_neg (fun z=>kz (k0.mpr z))]
        have kb:(k == 0)=false:=by simpa using kz
        simp [hi',ha,eT,mb,kb,lt,l1,l2,l3]
    · rw [sd_get U _ i _ h4] at hq
      have hq':=(Option.some.inj hq).symm
      have hfc:=fit c (List.mem_of_getElem? h1)
      have ha:atI (NBx 0 (b::r)) (i:Int)=some (.int (m':Nat)):=by rw [atI_k,h2,Nat.zero_add]
      have br:=band_row_ok (n:=n) (bs:=b::r) hfc (by omega) m (by omega) m' low (-((U:Nat):Int)) h1 h3 (NBx 0 (b::r)) (ws.sum+2 * n) U (H - 1 - U) k
      have ek : -((U:Nat):Int)+((i:Nat):Int) - low=k - low:=by omega
      rw [ek] at hq'
      have lb:=bandRow_len hfc (by omega) (k - low)
      have l1 : 1+(bandRow c ws (k - low)).length≤1000000:=by omega
      have l2 : 1+(bandRow c ws (k - low)).length+1≤1000000:=by omega
      have l3:(bandRow c ws (k - low)).length+1+1≤1000000:=by omega
      unfold oGr at br ⊢
      generalize (LW (-((U:Nat):Int)) (b::r)).map D.int=LL at *
      generalize ((b::r).map fun b=>D.lst (b.map Pz.o))=BO at *
      generalize (ws.map fun i=>D.int (i:Nat))=WW at *
      generalize NBx 0 (b::r)=NN at *
      generalize bandRow c ws (k - low)=BT at *
      generalize ws.sum+2 * n=W at *
      simp only [ev_bodyF,F_Grid_row_within,envOf,c_BLANK]
      by_cases kz:k=0
      · rw [hq',if_pos (k0.mp kz)]
        have kb:(k == 0)=true:=by simpa using kz
        simp [-ev_methD, -ev_fpMeth,fpMeth,hi',ha,kb,br,l1,l2,l3]
      · rw [hq',if_neg (fun z=>kz (k0.mpr z))]
        have kb:(k == 0)=false:=by simpa using kz
        simp [-ev_methD, -ev_fpMeth,fpMeth,hi',ha,kb,br,l1,l2,l3]
  · obtain ⟨i,hi,e⟩:=List.getElem_of_mem hq
    have hi':i<(IRx ws (b::r)).length:=by rw [← sd_len U]; exact hi
    have e0:(IRx ws (b::r))[i]?=some ((IRx ws (b::r))[i]'hi'):=List.getElem?_eq_getElem _
    have:=sd_get U _ i _ e0
    rw [List.getElem?_eq_getElem hi,e] at this
    have hw:=wid _ (List.mem_of_getElem? e0)
    have hq':=Option.some.inj this
    rw [hq']
    split <;> simp <;> omega
def SpB (low:Int):Nat→List Pz→List Nat→List SpQ
  | r,p::ps,w::ws=>⟨p.o,p.rs,p.u,low,((r+w - p.w:Nat):Int)⟩::SpB low (r+w+2) ps ws
  | _,_,_=>[]
def SpG (ws:List Nat):List (List Pz)→List Int→List SpQ
  | b::bs,l::ls=>SpB l 1 b ws++SpG ws bs ls
  | _,_=>[]
theorem spB_len (low:Int) : ∀ (ps:List Pz) (ws:List Nat) (r:Nat),(SpB low r ps ws).length≤ps.length
  | [],_,_=>by simp [SpB]
  | p::ps,[],_=>by simp [SpB]
  | p::ps,w::ws,r=>by have:=spB_len low ps ws (r+w+2); simp [SpB]; omega
theorem spB_ok (low:Int) : ∀ (ps:List Pz) (ws:List Nat) (r:Nat),Fit ps ws→∀ q∈SpB low r ps ws,SpOk q
  | [],[],_,_,q,hq=>by simp [SpB] at hq
  | p::ps,w::ws,r,h,q,hq=>by
    obtain ⟨h1,h2,h3,h4⟩:=h
    rw [SpB] at hq
    rcases List.mem_cons.mp hq with rfl | hq
    · exact box_ok h1.sk (by decide)
    · exact spB_ok low ps ws _ h4 q hq
theorem spG_ok (ws:List Nat) : ∀ (bs:List (List Pz)) (ls:List Int),(∀ b∈bs,Fit b ws)→∀ q∈SpG ws bs ls,SpOk q
  | [],_,_,q,hq=>by simp [SpG] at hq
  | b::bs,[],_,q,hq=>by simp [SpG] at hq
  | b::bs,l::ls,h,q,hq=>by
    rw [SpG] at hq
    rcases List.mem_append.mp hq with hq | hq
    · exact spB_ok l b ws 1 (h b List.mem_cons_self) q hq
    · exact spG_ok ws bs ls (fun c hc=>h c (List.mem_cons_of_mem _ hc)) q hq
theorem gs_in (s0 s2:Slot)(low:Int) : ∀ (ps:List Pz) (ws:List Nat) (r:Nat) (acc:List D) (s5 s6:Slot),Fit ps ws→acc.length+ps.length≤10000→∃ t4 t5 t6,runFor (tgTup [5,6]) LB_Grid_spots_1 (zipL (ps.map Pz.o) (ws.map fun i=>.int (i:Nat))) [s0,.own acc,s2,.val (.int low),.val (.int (r:Nat)),s5,s6]=some (.nx [s0,.own (acc++(SpB low r ps ws).map SpQ.told),s2,.val (.int low),t4,t5,t6])
  | [],[],r,acc,s5,s6,_,_=>⟨_,s5,s6,by simp [SpB,zipL_nil,runFor]; rfl⟩
  | p::ps,w::ws,r,acc,s5,s6,h,hl=>by
    obtain ⟨h1,h2,h3,h4⟩:=h
    have f0:=h1.sk.f0
    simp only [List.length_cons] at hl
    obtain ⟨t4,t5,t6,ih⟩:=gs_in s0 s2 low ps ws (r+w+2) (acc++[.tup [p.o,.int low,.int ((r+w - p.w:Nat):Int)]]) (.val p.o) (.val (.int (w:Nat))) h4 (by simp; omega)
    refine ⟨t4,t5,t6, ?_⟩
    have e:acc++(SpB low r (p::ps) (w::ws)).map SpQ.told=acc++[.tup [p.o,.int low,.int ((r+w - p.w:Nat):Int)]]++(SpB low (r+w+2) ps ws).map SpQ.told:=by simp [SpB,SpQ.told]
    rw [e, ← ih,List.map_cons,List.map_cons,zipL_cons]
    refine runFor_nx (e1:=[s0,.own acc,s2,.val (.int low),.val (.int (r:Nat)),.val p.o,.val (.int (w:Nat))]) (by simp) ?_
    have l1:acc.length<1000000:=by omega
    have e1:(r:Int)+(w:Int) - (p.w:Int)=((r+w - p.w:Nat):Int):=by omega
    have e2:(r:Int)+((w:Int)+2)=((r+w+2:Nat):Int):=by omega
    generalize r+w - p.w=X1 at *
    generalize r+w+2=X2 at *
    simp [LB_Grid_spots_1,f0,l1,e1,e2]
theorem gs_out {ws:List Nat}(bO nD lD:List D)(w u d:Nat)(h9:ws.length≤9) : ∀ (bs:List (List Pz)) (ls:List Int) (acc:List D) (s2 s3 s4 s5 s6:Slot),(∀ b∈bs,Fit b ws)→acc.length+10 * bs.length≤10000→∃ t2 t3 t4 t5 t6,runFor (tgTup [2,3]) LB_Grid_spots_2 (zipL (bs.map fun b=>.lst (b.map Pz.o)) (ls.map .int)) [.val (oGr bO (ws.map fun i=>.int (i:Nat)) nD lD w u d),.own acc,s2,s3,s4,s5,s6]=some (.nx [.val (oGr bO (ws.map fun i=>.int (i:Nat)) nD lD w u d),.own (acc++(SpG ws bs ls).map SpQ.told),t2,t3,t4,t5,t6])
  | [],ls,acc,s2,s3,s4,s5,s6,_,_=>⟨s2,s3,s4,s5,s6,by simp [SpG,zipL_nil,runFor]⟩
  | b::bs,[],acc,s2,s3,s4,s5,s6,_,_=>⟨s2,s3,s4,s5,s6,by simp [SpG,zipL_nil2,runFor]⟩
  | b::bs,l::ls,acc,s2,s3,s4,s5,s6,h,hl=>by
    have hf:=h b List.mem_cons_self
    have hfl:=(fit_ws b ws hf).1
    simp only [List.length_cons] at hl
    obtain ⟨u4,u5,u6,li⟩:=gs_in (.val (oGr bO (ws.map fun i=>.int (i:Nat)) nD lD w u d)) (.val (.lst (b.map Pz.o))) l b ws 1 acc s5 s6 hf (by omega)
    have sl:=spB_len l b ws 1
    obtain ⟨t2,t3,t4,t5,t6,ih⟩:=gs_out bO nD lD w u d h9 bs ls (acc++(SpB l 1 b ws).map SpQ.told) (.val (.lst (b.map Pz.o))) (.val (.int l)) u4 u5 u6 (fun c hc=>h c (List.mem_cons_of_mem _ hc)) (by simp; omega)
    refine ⟨t2,t3,t4,t5,t6, ?_⟩
    have e:acc++(SpG ws (b::bs) (l::ls)).map SpQ.told=acc++(SpB l 1 b ws).map SpQ.told++(SpG ws bs ls).map SpQ.told:=by simp [SpG]
    rw [e, ← ih,List.map_cons,List.map_cons,zipL_cons]
    refine runFor_nx (e1:=[.val (oGr bO (ws.map fun i=>.int (i:Nat)) nD lD w u d),.own acc,.val (.lst (b.map Pz.o)),.val (.int l),s4,s5,s6]) (by simp) ?_
    rw [show ((1:Nat):Int)=1 from rfl] at li
    generalize (SpB l 1 b ws).map SpQ.told=ST at *
    generalize b.map Pz.o=BB at *
    unfold oGr at *
    generalize (ws.map fun i=>D.int (i:Nat))=WW at *
    simp only [LB_Grid_spots_2]
    simp [li]
theorem sp_gr {ws:List Nat}(bs:List (List Pz))(ls:List Int)(nD:List D)(w u d:Nat)(h9:ws.length≤9)(h : ∀ b∈bs,Fit b ws)(hl:bs.length≤9):methD 0 MT_spots (oGr (bs.map fun b=>.lst (b.map Pz.o)) (ws.map fun i=>.int (i:Nat)) nD (ls.map .int) w u d) []=some ((SpG ws bs ls).map SpQ.told):=by
  obtain ⟨t2,t3,t4,t5,t6,lp⟩:=gs_out (bs.map fun b=>.lst (b.map Pz.o)) nD (ls.map .int) w u d h9 bs ls [] .no .no .no .no .no h (by simp; omega)
  rw [List.nil_append] at lp
  have:D_Grid_spots [oGr (bs.map fun b=>.lst (b.map Pz.o)) (ws.map fun i=>.int (i:Nat)) nD (ls.map .int) w u d]=some ((SpG ws bs ls).map SpQ.told):=by
    generalize (SpG ws bs ls).map SpQ.told=ST at *
    generalize (bs.map fun b=>D.lst (b.map Pz.o))=BO at *
    generalize (ws.map fun i=>D.int (i:Nat))=WW at *
    generalize ls.map D.int=LL at *
    unfold oGr at *
    simp only [D_Grid_spots,ev_bodyFF,F_Grid_spots,envOf]
    simp [lp]
  unfold oGr at this ⊢
  simp [MT_spots,this]
theorem du_in (s0 s1 s4 s5:Slot)(base:Int)(up:Int)(low:Int)(hlow:base - up=low) : ∀ (ps:List Pz) (ws:List Nat) (r:Nat) (acc:List D) (s8 s9:Slot),Fit ps ws→acc.length+ps.length≤10000→∃ t7 t8 t9,runFor (tgTup [8,9]) LB_law_due_spots_1 (zipL (ps.map Pz.dat) (ws.map fun i=>.int (i:Nat))) [s0,s1,.val (.int up),.own acc,s4,s5,.val (.int base),.val (.int (r:Nat)),s8,s9]=some (.nx [s0,s1,.val (.int up),.own (acc++(SpB low r ps ws).map SpQ.due),s4,s5,.val (.int base),t7,t8,t9])
  | [],[],r,acc,s8,s9,_,_=>⟨_,s8,s9,by simp [SpB,zipL_nil,runFor]; rfl⟩
  | p::ps,w::ws,r,acc,s8,s9,h,hl=>by
    obtain ⟨h1,h2,h3,h4⟩:=h
    obtain ⟨r0, -,hr0,hl0⟩:=head_of (by have:=h1.sk.lt; omega) h1.sk.wid
    have hz:p.w≤1000000:=by have:=h1.hw; omega
    simp only [List.length_cons] at hl
    obtain ⟨t7,t8,t9,ih⟩:=du_in s0 s1 s4 s5 base up low hlow ps ws (r+w+2) (acc++[.tup [p.dat,.int low,.int ((r+w - p.w:Nat):Int)]]) (.val p.dat) (.val (.int (w:Nat))) h4 (by simp; omega)
    refine ⟨t7,t8,t9, ?_⟩
    have e:acc++(SpB low r (p::ps) (w::ws)).map SpQ.due=acc++[.tup [p.dat,.int low,.int ((r+w - p.w:Nat):Int)]]++(SpB low (r+w+2) ps ws).map SpQ.due:=by simp [SpB,SpQ.due,Pz.dat]
    rw [e, ← ih,List.map_cons,List.map_cons,zipL_cons]
    refine runFor_nx (e1:=[s0,s1,.val (.int up),.own acc,s4,s5,.val (.int base),.val (.int (r:Nat)),.val p.dat,.val (.int (w:Nat))]) (by simp) ?_
    have l1:acc.length<1000000:=by omega
    have e1:(r:Int)+(w:Int) - (p.w:Int)=((r+w - p.w:Nat):Int):=by omega
    have e2:(r:Int)+(w:Int)+2=((r+w+2:Nat):Int):=by omega
    generalize r+w - p.w=X1 at *
    generalize r+w+2=X2 at *
    unfold Pz.dat pcd
    generalize p.rs.map D.str=RS at *
    simp [LB_law_due_spots_1,hr0,hl0,hz,hlow,l1,e1,e2]
theorem du_out {ws:List Nat}(s0 s1:Slot)(up:Nat)(h9:ws.length≤9) : ∀ (bs:List (List Pz)) (bb:List Nat) (acc:List D) (s5 s6 s7 s8 s9:Slot),(∀ b∈bs,Fit b ws)→acc.length+10 * bs.length≤10000→∃ t5 t6 t7 t8 t9,runFor (tgTup [5,6]) LB_law_due_spots_2 (zipL (bs.map fun b=>.lst (b.map Pz.dat)) (bb.map fun x=>.int (x:Nat))) [s0,s1,.val (.int (up:Nat)),.own acc,.val (.lst (ws.map fun i=>.int (i:Nat))),s5,s6,s7,s8,s9]=some (.nx [s0,s1,.val (.int (up:Nat)),.own (acc++(SpG ws bs (bb.map fun x=>((x:Nat):Int) - (up:Nat))).map SpQ.due),.val (.lst (ws.map fun i=>.int (i:Nat))),t5,t6,t7,t8,t9])
  | [],bb,acc,s5,s6,s7,s8,s9,_,_=>⟨s5,s6,s7,s8,s9,by simp [SpG,zipL_nil,runFor]⟩
  | b::bs,[],acc,s5,s6,s7,s8,s9,_,_=>⟨s5,s6,s7,s8,s9,by simp [SpG,zipL_nil2,runFor]⟩
  | b::bs,l::bb,acc,s5,s6,s7,s8,s9,h,hl=>by
    have hf:=h b List.mem_cons_self
    have hfl:=(fit_ws b ws hf).1
    simp only [List.length_cons] at hl
    obtain ⟨u7,u8,u9,li⟩:=du_in s0 s1 (.val (.lst (ws.map fun i=>.int (i:Nat)))) (.val (.lst (b.map Pz.dat))) (l:Nat) (up:Nat) _ rfl b ws 1 acc s8 s9 hf (by omega)
    have sl:=spB_len (((l:Nat):Int) - (up:Nat)) b ws 1
    obtain ⟨t5,t6,t7,t8,t9,ih⟩:=du_out s0 s1 up h9 bs bb (acc++(SpB (((l:Nat):Int) - (up:Nat)) 1 b ws).map SpQ.due) (.val (.lst (b.map Pz.dat))) (.val (.int (l:Nat))) u7 u8 u9 (fun c hc=>h c (List.mem_cons_of_mem _ hc)) (by simp; omega)
    refine ⟨t5,t6,t7,t8,t9, ?_⟩
    have e:acc++(SpG ws (b::bs) ((l::bb).map fun x=>((x:Nat):Int) - (up:Nat))).map SpQ.due=acc++(SpB (((l:Nat):Int) - (up:Nat)) 1 b ws).map SpQ.due++(SpG ws bs (bb.map fun x=>((x:Nat):Int) - (up:Nat))).map SpQ.due:=by simp [SpG]
    rw [e, ← ih,List.map_cons,List.map_cons,zipL_cons]
    refine runFor_nx (e1:=[s0,s1,.val (.int (up:Nat)),.own acc,.val (.lst (ws.map fun i=>.int (i:Nat))),.val (.lst (b.map Pz.dat)),.val (.int (l:Nat)),s7,s8,s9]) (by simp) ?_
    rw [show ((1:Nat):Int)=1 from rfl] at li
    generalize (SpB (((l:Nat):Int) - (up:Nat)) 1 b ws).map SpQ.due=ST at *
    generalize b.map Pz.dat=BB at *
    generalize (ws.map fun i=>D.int (i:Nat))=WW at *
    simp only [LB_law_due_spots_2]
    simp [li]
theorem du_ok {n:Nat}(hn : 1≤n)(h9:n≤9)(b:List Pz)(r:List (List Pz))(h : ∀ q∈b::r,Bd n q)(hl:r.length≤8)(up:Nat):D_law_due_spots [.lst ((b::r).map fun b=>.lst (b.map Pz.dat)),.lst ((BSx 0 (b::r)).map fun x=>.int (x:Nat)),.int (up:Nat)]=some ((SpG (wsOf n (b::r)) (b::r) (LW (-((up:Nat):Int)) (b::r))).map SpQ.due):=by
  have hw:=lw_wides hn h9 b r h hl
  have hwl:=ws_len n (b::r)
  obtain ⟨t5,t6,t7,t8,t9,lp⟩:=du_out (ws:=wsOf n (b::r)) (.val (.lst ((b::r).map fun b=>.lst (b.map Pz.dat)))) (.val (.lst ((BSx 0 (b::r)).map fun x=>.int (x:Nat)))) up (by omega) (b::r) (BSx 0 (b::r)) [] .no .no .no .no .no (fun q hq=>Bd.fit h hq) (by simp; omega)
  rw [List.nil_append,bs_lw up (b::r) 0,show ((0:Nat):Int) - ((up:Nat):Int)=-((up:Nat):Int) by omega] at lp
  generalize (SpG (wsOf n (b::r)) (b::r) (LW (-((up:Nat):Int)) (b::r))).map SpQ.due=SD at *
  generalize ((BSx 0 (b::r)).map fun x=>D.int ((x:Nat):Int))=BB at *
  generalize ((wsOf n (b::r)).map fun i=>D.int (i:Nat))=WW at *
  generalize ((b::r).map fun b=>D.lst (b.map Pz.dat))=BD at *
  simp only [D_law_due_spots,ev_bodyFF,F_law_due_spots,envOf]
  simp [hw,lp]
theorem cells_z (ns:List Int)(a w:Int) : ∀ ks:List Nat,(∀ k∈ks,k<9)→(0≤a∧a<9)→(1≤w∧w≤9)→∃ cs:List Int,cs.length=ks.length∧runComp (tgName 0) ftYes CE_law_1 [.no,.val (.lst (ns.map .int)),.val (.int a),.val (.int w)] (ks.map fun k=>.int (k:Nat))=some (cs.map .int)
  | [],_,_,_=>⟨[],rfl,rfl⟩
  | k::ks,h,ha,hw=>by
    obtain ⟨cs,h1,h2⟩:=cells_z ns a w ks (fun j hj=>h j (List.mem_cons_of_mem _ hj)) ha hw
    have hk:=h k List.mem_cons_self
    have m1:=mulD_right a w (by omega)
    have hnn : 0≤a * w:=Int.mul_nonneg ha.1 (by omega)
    obtain ⟨j,hj⟩ : ∃ j:Nat,2+a * w+(k:Int)=j:=⟨(2+a * w+(k:Int)).toNat,by omega⟩
    obtain ⟨c,hc⟩:=cell_ok ns j
    have m2:=mulD_right 7919 (a+1) (by omega)
    have m3:=mulD_right (7919 * (a+1)) ((k:Int)+2) (by omega)
    refine ⟨(c+7919 * (a+1) * ((k:Int)+2))::cs,by simp [h1], ?_⟩
    rw [List.map_cons,List.map_cons]
    refine runComp_t (e:=[.val (.int (k:Nat)),.val (.lst (ns.map .int)),.val (.int a),.val (.int w)]) (by simp) rfl ?_ h2
    generalize ns.map D.int=NS at *
    simp [CE_law_1,m1,hj,hc,m2,m3]
theorem bands_z (ns:List Int)(n:Nat)(hn : 1≤n)(h9:n≤9)(s1:Slot) : ∀ (as:List Nat) (acc:List (List Pz)) (s4 s5:Slot),(∀ a∈as,a<9)→(∀ b∈acc,Bd n b)→acc.length+as.length≤9→s4.is2=false→s5.is2=false→∃ (bs:List (List Pz)) (t4 t5:Slot),bs.length=acc.length+as.length∧(∀ b∈bs,Bd n b)∧t4.is2=false∧t5.is2=false∧∀ l,l=[Slot.no,.no,.no,.no,.no,.no,.no,.no,.no,.no,.no]→runFor (tgName 4) LB_law_3 (as.map fun a=>.int (a:Nat)) ([.val (.lst (ns.map .int)),s1,.val (.int (n:Nat)),.own (acc.map fun b=>.lst (b.map Pz.dat)),s4,s5]++l)=some (.nx ([.val (.lst (ns.map .int)),s1,.val (.int (n:Nat)),.own (bs.map fun b=>.lst (b.map Pz.dat)),t4,t5]++l))
  | [],acc,s4,s5,_,h,_,h4,h5=>⟨acc,s4,s5,by simp,h,h4,h5,fun l _=>rfl⟩
  | a::as,acc,s4,s5,ha,h,hl,h4,h5=>by
    have ha9:=ha a List.mem_cons_self
    simp only [List.length_cons] at hl
    obtain ⟨cs,hc1,hc2⟩:=cells_z ns (a:Nat) (n:Nat) (List.range n) (fun k hk=>by have:=List.mem_range.mp hk; omega) (by omega) (by omega)
    have er:rInts 0 n=(List.range n).map fun k=>D.int (k:Nat):=by unfold rInts; simp
    rw [← er] at hc2
    have hr:=rng_n n h9
    have hlr:=rIn_len n h9
    obtain ⟨ps,hp1,hp2,hp3⟩:=pieces_z cs
    have hcl:(cs.map D.int).length≤1000000:=by rw [List.length_map,hc1]; simp; omega
    have hbd:Bd n ps:=⟨by rw [hp1,hc1]; simp,hp2⟩
    obtain ⟨bs,t4,t5,g1,g2,g3,g4,g5⟩:=bands_z ns n hn h9 s1 as (acc++[ps]) (.val (.int (a:Nat))) (.val (.lst (cs.map .int))) (fun x hx=>ha x (List.mem_cons_of_mem _ hx)) (fun b hb=>by
      rcases List.mem_append.mp hb with hb | hb
      · exact h b hb
      · rw [List.mem_singleton.mp hb]; exact hbd) (by simp; omega) rfl rfl
    refine ⟨bs,t4,t5,by rw [g1]; simp; omega,g2,g3,g4,fun l hll=>?_⟩
    rw [← g5 l hll,List.map_cons]
    subst hll
    refine runFor_nx (e1:=[.val (.lst (ns.map .int)),s1,.val (.int (n:Nat)),.own (acc.map fun b=>.lst (b.map Pz.dat)),.val (.int (a:Nat)),s5]++[Slot.no,.no,.no,.no,.no,.no,.no,.no,.no,.no,.no]) (by simp) ?_
    have hcap1 : ∀ (x0 x1 x2 x3 x4:Slot) (l:DEnv),capE 1 [0,4,2] (x0::x1::x2::x3::x4::l)=[.no,x0,x4,x2]:=fun _ _ _ _ _ _=>rfl
    have hcap0 : ∀ l,capE 1 [] l=[.no]:=fun _=>rfl
    have l1:(acc.map fun b=>D.lst (b.map Pz.dat)).length<1000000:=by simp; omega
    rw [List.map_append,List.map_cons,List.map_nil]
    generalize (acc.map fun b=>D.lst (b.map Pz.dat))=AC at *
    generalize ps.map Pz.dat=PD at *
    generalize cs.map D.int=CS at *
    generalize ns.map D.int=NS at *
    generalize rInts 0 n=RR at *
    simp [LB_law_3,hr,hlr,hcap1,hc2,hcl,hcap0,hp3,l1]
theorem comp2_z : ∀ bs:List (List Pz),(∀ b∈bs,(∀ q∈b,q.Ok)∧b.length≤1000)→runComp2 (tgName 0) CF_law_5 [.no] (bs.map fun b=>.lst (b.map Pz.dat))=some (bs.map fun b=>b.map Pz.o)
  | [],_=>rfl
  | b::bs,h=>by
    obtain ⟨h1,h2⟩:=h b List.mem_cons_self
    have ih:=comp2_z bs fun q hq=>h q (List.mem_cons_of_mem _ hq)
    have c:=comp_f (fe:=CE_law_4) (env:=[.no]) (fun p=>p.o) (fun p hp=>⟨[.val p.dat],rfl,by simp [CE_law_4,Pz.dat,pcd]⟩) b h1
    have hb:(b.map Pz.dat).length≤1000000:=by simp; omega
    have hcap0 : ∀ l,capE 1 [] l=[.no]:=fun _=>rfl
    have e:CF_law_5 [.val (.lst (b.map Pz.dat))]=some (b.map Pz.o):=by
      generalize b.map Pz.dat=BD at *
      generalize b.map Pz.o=BO at *
      simp [CF_law_5,hb,hcap0,c]
    show (tgName 0 (.lst (b.map Pz.dat)) [.no]).bind (fun e=>(CF_law_5 e).bind fun y=>(runComp2 (tgName 0) CF_law_5 [.no] (bs.map fun b=>.lst (b.map Pz.dat))).bind fun r=>some (y::r))=_
    rw [show tgName 0 (.lst (b.map Pz.dat)) [.no]=some [.val (.lst (b.map Pz.dat))] from rfl,Option.bind_some,e,Option.bind_some,ih]
    rfl
theorem rr_comp {n:Nat} : ∀ bs:List (List Pz),(∀ b∈bs,Bd n b)→(n≤9)→runComp (tgName 0) ftYes CE_law_7 [.no] (bs.map fun b=>.lst (b.map Pz.o))=some (bs.map fun b=>.lst (b.map fun p=>.lst (p.rs.map .str))):=fun bs h h9 =>
  comp_b (fun b=>.lst (b.map Pz.o)) (fun b=>.lst (b.map fun p=>.lst (p.rs.map .str))) (fun b hb=>by
    have c:=comp_o (fe:=CE_law_6) (env:=[.no]) (fun p=>.lst (p.rs.map .str)) (fun p hp=>⟨[.val p.o],rfl,by
      have:=hp.sk.mrows (by decide)
      generalize p.rs.map D.str=RR at *
      simp [CE_law_6,this]⟩) b hb.ok
    have hl:(b.map Pz.o).length≤1000000:=by rw [List.length_map,hb.len]; omega
    have hcap0 : ∀ l,capE 1 [] l=[.no]:=fun _=>rfl
    refine ⟨[.val (.lst (b.map Pz.o))],rfl, ?_⟩
    generalize (b.map fun p:Pz=>D.lst (p.rs.map .str))=X1 at *
    generalize b.map Pz.o=X2 at *
    simp [CE_law_7,hl,hcap0,c]) bs h
theorem rd_comp {n:Nat} : ∀ bs:List (List Pz),(∀ b∈bs,Bd n b)→(n≤9)→runComp (tgName 0) ftYes CE_law_9 [.no] (bs.map fun b=>.lst (b.map Pz.dat))=some (bs.map fun b=>.lst (b.map fun p=>.lst (p.rs.map .str))):=fun bs h h9 =>
  comp_b (fun b=>.lst (b.map Pz.dat)) (fun b=>.lst (b.map fun p=>.lst (p.rs.map .str))) (fun b hb=>by
    have c:=comp_f (fe:=CE_law_8) (env:=[.no]) (fun p=>.lst (p.rs.map .str)) (fun p hp=>⟨[.val p.dat],rfl,by simp [CE_law_8,Pz.dat,pcd]⟩) b hb.ok
    have hl:(b.map Pz.dat).length≤1000000:=by rw [List.length_map,hb.len]; omega
    have hcap0 : ∀ l,capE 1 [] l=[.no]:=fun _=>rfl
    refine ⟨[.val (.lst (b.map Pz.dat))],rfl, ?_⟩
    generalize (b.map fun p:Pz=>D.lst (p.rs.map .str))=X1 at *
    generalize b.map Pz.dat=X2 at *
    simp [CE_law_9,hl,hcap0,c]) bs h
theorem eqn_strs (k:Nat)(rs:List (List Nat)):eqN (k+2) (.lst (rs.map D.str)) (.lst (rs.map D.str))=some true:=by
  show (if _ then _ else _)=_
  rw [if_pos rfl]
  induction rs with
  | nil=>rfl
  | cons r rs ih =>
    show ((eqN (k+1) (.str r) (.str r)).bind _)=_
    show ((some (r == r)).bind _)=_
    rw [beq_self_eq_true,ih]; rfl
theorem eqn_lst (k:Nat)(g:Pz→D)(hg : ∀ p,eqN k (g p) (g p)=some true)(b:List Pz):eqN (k+1) (.lst (b.map g)) (.lst (b.map g))=some true:=by
  show (if _ then _ else _)=_
  rw [if_pos rfl]
  induction b with
  | nil=>rfl
  | cons p b ih =>
    rw [List.map_cons]
    show ((eqN k (g p) (g p)).bind _)=_
    rw [hg p,ih]; rfl
theorem eq_rows (bs:List (List Pz)):eqN 100 (.lst (bs.map fun b=>.lst (b.map fun p=>.lst (p.rs.map .str)))) (.lst (bs.map fun b=>.lst (b.map fun p=>.lst (p.rs.map .str))))=some true:=by
  have hb : ∀ b:List Pz,eqN 99 (.lst (b.map fun p=>.lst (p.rs.map .str))) (.lst (b.map fun p=>.lst (p.rs.map .str)))=some true:=fun b=>eqn_lst 98 (fun p=>.lst (p.rs.map .str)) (fun p=>eqn_strs 96 p.rs) b
  show (if _ then _ else _)=_
  rw [if_pos rfl]
  induction bs with
  | nil=>rfl
  | cons b bs ih =>
    rw [List.map_cons]
    show ((eqN 99 _ _).bind _)=_
    rw [hb b,ih]; rfl
theorem k_loop (s0 s1 s2 s3 s4 s5 s6 s8 s9 s12 s13 s14 s15:Slot){n:Nat}{o:D}{rs:List (List Nat)}{u w:Nat}(h:Sk n o rs u w)(hn:n≤fuel0) : ∀ (ks:List Int) (s16:Slot), ∃ t16,runFor (tgName 16) LB_law_11 (ks.map .int) [s0,s1,s2,s3,s4,s5,s6,.val o,s8,s9,.val (.lst (rs.map .str)),.val (.int (u:Nat)),s12,s13,s14,s15,s16]=some (.nx [s0,s1,s2,s3,s4,s5,s6,.val o,s8,s9,.val (.lst (rs.map .str)),.val (.int (u:Nat)),s12,s13,s14,s15,t16])
  | [],s16=>⟨s16,rfl⟩
  | k::ks,s16=>by
    have mr:=meth_row h hn k
    have ro:=row_ok o (by have:=h.lt; omega) h.wid h.hw (u:=u) k
    obtain ⟨t16,ih⟩:=k_loop s0 s1 s2 s3 s4 s5 s6 s8 s9 s12 s13 s14 s15 h hn ks (.val (.int k))
    refine ⟨t16, ?_⟩
    rw [← ih,List.map_cons]
    refine runFor_nx (e1:=[s0,s1,s2,s3,s4,s5,s6,.val o,s8,s9,.val (.lst (rs.map .str)),.val (.int (u:Nat)),s12,s13,s14,s15,.val (.int k)]) (by simp) ?_
    unfold pcd at ro
    generalize rs.map D.str=RR at *
    simp [LB_law_11,mr,ro]
theorem yy_comp : ∀ ks:List Nat, ∃ L:List D,runComp (tgName 0) ftYes CE_law_10 [.no] (ks.map fun k=>.int (k:Nat))=some L
  | []=>⟨[],rfl⟩
  | k::ks=>by
    obtain ⟨L,h⟩:=yy_comp ks
    have mk:=mk_wd (List.replicate 12 121) (by decide)
    have mz:mulD (.str [121]) (.int 12)=some (.str (List.replicate 12 121)):=rfl
    refine ⟨.ob 1 [0,1,2,3] [.int ((List.replicate 12 121).length:Nat),.int 0,.int 0,.str (List.replicate 12 121)]::L, ?_⟩
    rw [List.map_cons]
    refine runComp_t (e:=[.val (.int (k:Nat))]) rfl rfl ?_ h
    generalize List.replicate 12 121=ZZ at *
    simp [CE_law_10,mz,mk]
theorem law_ok (ns:List Int):D_law [.lst (ns.map .int)]=some (.bl true):=by
  obtain ⟨c0,h0⟩:=cell_ok ns 0
  obtain ⟨c1,h1⟩:=cell_ok ns 1
  simp only [show ((0:Nat):Int)=0 from rfl,show ((1:Nat):Int)=1 from rfl] at h0 h1
  have m0:=modI_pos c0 9 (by decide)
  have m1:=modI_pos c1 9 (by decide)
  obtain ⟨a,ha,ha9⟩:=mod_nat c0 9 (by decide)
  obtain ⟨w,hw,hw9⟩:=mod_nat c1 9 (by decide)
  simp only [Int.cast_ofNat_Int] at ha hw
  rw [ha] at m0
  rw [hw] at m1
  clear ha hw
  obtain ⟨n,hn⟩ : ∃ n:Nat,n=1+w:=⟨_,rfl⟩
  have en:(1:Int)+(w:Nat)=(n:Nat):=by omega
  have em:(1:Int)+(a:Nat)=((1+a:Nat):Int):=by omega
  have hr1:=rng_n (1+a) (by omega)
  obtain ⟨bs,t4,t5,g1,g2,g3,g4,g5⟩:=bands_z ns n (by omega) (by omega) (.val (.int ((1+a:Nat):Int))) (List.range (1+a)) [] .no .no (fun x hx=>by have:=List.mem_range.mp hx; omega) (fun b hb=>by cases hb) (by simp; omega) rfl rfl
  replace g5:=g5 _ rfl
  have er:(List.range (1+a)).map (fun k=>D.int ((k:Nat):Int))=rInts 0 (1+a):=by unfold rInts; simp
  rw [er,List.map_nil] at g5
  have gl:bs.length=1+a:=by simpa using g1
  cases bs with
  | nil=>simp at gl; omega
  | cons b r =>
  have hl:r.length≤8:=by simp at gl; omega
  have hn1 : 1≤n:=by omega
  have hn9:n≤9:=by omega
  have hb:=g2 b List.mem_cons_self
  have hNB:=nb_len hn1 (b::r) 0 g2
  obtain ⟨H,hH⟩ : ∃ H,(NBx 0 (b::r)).length=H:=⟨_,rfl⟩
  have hH1 : 1≤H:=by
    have:=(hb.hle hn1).2.1
    rw [← hH]
    cases r with
    | nil=>simp [NBx]; omega
    | cons b' r=>simp [NBx]; omega
  have hH2:H≤1000:=by rw [← hH]; simp at hNB; omega
  obtain ⟨ws,hws⟩ : ∃ ws,ws=wsOf n (b::r):=⟨_,rfl⟩
  obtain ⟨U,hU⟩ : ∃ U,U=(H - 1) / 2:=⟨_,rfl⟩
  have mk:=mk_gr hn1 hn9 b r g2 hl H hH hH1 hH2
  have sk:=sk_grid hn1 hn9 b r g2 hl H hH hH1 hH2 ws hws U hU
  have inn:=in_ok hn1 hn9 b r g2 hl
  have hI:(IRx ws (b::r)).length=H:=by rw [ir_len ws _ 0]; exact hH
  have fit : ∀ q∈b::r,Fit q ws:=fun q hq=>by rw [hws]; exact Bd.fit g2 hq
  have hwl:ws.length=n:=by rw [hws]; exact ws_len n _
  have hiw : ∀ q∈IRx ws (b::r),q.length≤1000:=by
    intro q hq
    have hw8:=(fit_ws b ws (fit b List.mem_cons_self)).2
    have hsum:=sum_le 8 ws hw8
    obtain ⟨i,hi,e⟩:=List.getElem_of_mem hq
    have e':(IRx ws (b::r))[i]?=some q:=by rw [List.getElem?_eq_getElem hi,e]
    rcases grid_at ws (b::r) 0 0 i hi with ⟨_,h2⟩ | ⟨m,c,low,h1,_,_,h4⟩
    · rw [e'] at h2; cases h2
      simp [blank,twOf]; omega
    · rw [e'] at h4; cases h4
      have:=bandRow_len (fit c (List.mem_of_getElem? h1)) (by omega) (0+((i:Nat):Int) - low)
      omega
  have sd:=sided_ok (IRx ws (b::r)) (by omega) (by omega) hiw
  rw [hI, ← hU] at sd
  rw [← hws] at inn mk
  rw [← hU] at mk
  have du:=du_ok hn1 hn9 b r g2 hl U
  rw [← hws] at du
  have hUl:U<H:=by omega
  clear hU hiw
  have bx:=box_ok sk (by decide)
  have ms:=sp_gr (b::r) (LW (-((U:Nat):Int)) (b::r)) (NBx 0 (b::r)) (ws.sum+2 * n) U (H - 1 - U) (by omega) fit (by simp; omega)
  have sp:=spots_ok (SpG ws (b::r) (LW (-((U:Nat):Int)) (b::r))) (spG_ok ws (b::r) _ fit)
  have c2:=comp2_z (b::r) fun q hq=>⟨(g2 q hq).ok,by rw [(g2 q hq).len]; omega⟩
  have rr:=rr_comp (b::r) g2 hn9
  have rd:=rd_comp (b::r) g2 hn9
  have er2:=eq_rows (b::r)
  have ho:D.ob 3 [5,6,7,0,1,2,8] [.lst ((b::r).map fun b=>.lst (b.map Pz.o)),.lst (ws.map fun i=>.int (i:Nat)),.lst (NBx 0 (b::r)),.int ((ws.sum+2 * n:Nat):Int),.int (U:Nat),.int ((H - 1 - U:Nat):Int),.lst ((LW (-((U:Nat):Int)) (b::r)).map .int)]=oGr ((b::r).map fun b=>.lst (b.map Pz.o)) (ws.map fun i=>.int (i:Nat)) (NBx 0 (b::r)) ((LW (-((U:Nat):Int)) (b::r)).map .int) (ws.sum+2 * n) U (H - 1 - U):=rfl
  obtain ⟨B0,hB0⟩ : ∃ B0,B0=b.map Pz.o:=⟨_,rfl⟩
  obtain ⟨RS,hRS⟩ : ∃ RS,RS=r.map fun b=>b.map Pz.o:=⟨_,rfl⟩
  have eDS:((b::r).map fun b=>b.map Pz.o)=B0::RS:=by rw [hB0,hRS]; rfl
  have eBO:((b::r).map fun b=>D.lst (b.map Pz.o))=.lst B0::RS.map .lst:=by rw [hB0,hRS,List.map_map]; rfl
  rw [eDS,eBO] at mk
  rw [eDS] at c2
  rw [eBO] at rr ho ms bx sk
  have mk':I_Grid 3 [.lst (.lst B0::RS.map .lst)]=some ([5,6,7,0,1,2,8],[.lst (.lst B0::RS.map .lst),.lst (ws.map fun i=>.int (i:Nat)),.lst (NBx 0 (b::r)),.int ((ws.sum+2 * n:Nat):Int),.int (U:Nat),.int ((H - 1 - U:Nat):Int),.lst ((LW (-((U:Nat):Int)) (b::r)).map .int)]):=mk
  obtain ⟨YL,hyl⟩:=yy_comp (List.range n)
  have eyr:(List.range n).map (fun k=>D.int ((k:Nat):Int))=rInts 0 n:=by unfold rInts; simp
  rw [eyr] at hyl
  have hrn:=rng_n n hn9
  have hlrn:=rIn_len n hn9
  have hwk:I_Word 1 [.str (List.replicate 12 122)]=some ([0,1,2,3],[.int 12,.int 0,.int 0,.str (List.replicate 12 122)]):=mk_wd (List.replicate 12 122) (by decide)
  have mz:mulD (.str [122]) (.int 12)=some (.str (List.replicate 12 122)):=rfl
  have ow:(D.ob 1 [0,1,2,3] [.int 12,.int 0,.int 0,.str (List.replicate 12 122)])=oWd (List.replicate 12 122):=rfl
  have hbl:B0.length=n:=by rw [hB0,List.length_map]; exact hb.len
  have st:=setI_k B0 0 (oWd (List.replicate 12 122)) (by rw [hbl]; omega)
  rw [show ((0:Nat):Int)=0 from rfl] at st
  have ix0:ixN (RS.length+1) 0=some 0:=by unfold ixN; simp
  have m9:=modI_pos c0 1000000000 (by decide)
  have p9:=powI_ok 10 9 (by decide)
  generalize c0 % 1000000000=far at m9
  have hsl:((sdRows U (IRx ws (b::r))).map D.str).length=H:=by simp [sd_len,hI]
  have hbl2:((b::r).map fun b=>D.lst (b.map Pz.dat)).length≤1000000:=by simp; omega
  have hbl3:(RS.map D.lst).length+1≤1000000:=by rw [hRS]; simp; omega
  have hbl4:RS.length+1≤1000000:=by rw [hRS]; simp; omega
  have hcap0 : ∀ l,capE 1 [] l=[.no]:=fun _=>rfl
  obtain ⟨t16,kl⟩:=k_loop (.val (.lst (ns.map .int))) (.val (.int ((1+a:Nat):Int))) (.val (.int (n:Nat))) (.val (.lst ((b::r).map fun b=>.lst (b.map Pz.dat)))) t4 t5 (.ownU (RS.length+1)) (.val (.lst ((IRx ws (b::r)).map .str))) (.val (.lst ((BSx 0 (b::r)).map fun x=>.int (x:Nat)))) (.val (.lst ((SpG ws (b::r) (LW (-((U:Nat):Int)) (b::r))).map SpQ.due))) (.own (B0.set 0 (oWd (List.replicate 12 122)))) (.own []) (.val (.int far)) sk (by decide) [far, -far,(U:Int), -(U:Int), -(U:Int) - 1,(H:Int) - (U:Int)] .no
  rw [show ([far, -far,(U:Int), -(U:Int), -(U:Int) - 1,(H:Int) - (U:Int)]:List Int).map D.int=[.int far,.int (-far),.int (U:Int),.int (-(U:Int)),.int (-(U:Int) - 1),.int ((H:Int) - (U:Int))] from rfl] at kl
  have iv : ∀ d,(Slot.val d).is2=false:=fun _=>rfl
  have ino:Slot.no.is2=false:=rfl
  have n2 : ∀ (x0 x1 x2 x3 x7 x8 x9 x10 x11 x12:D) (z:List (List D)),no2 6 [.val x0,.val x1,.val x2,.val x3,t4,t5,.own2 z,.val x7,.val x8,.val x9,.val x10,.val x11,.val x12,.no,.no,.no,.no]=true:=fun _ _ _ _ _ _ _ _ _ _ _=>by
    simp [no2,g3,g4,iv,ino]
  have tk : ∀ (x0 x1 x2 x3 x7 x8 x9 x10 x11 x12:D),fsTake 13 6 [.val x0,.val x1,.val x2,.val x3,t4,t5,.own2 (B0::RS),.val x7,.val x8,.val x9,.val x10,.val x11,.val x12,.no,.no,.no,.no]=some (.nx [.val x0,.val x1,.val x2,.val x3,t4,t5,.ownU (RS.length+1),.val x7,.val x8,.val x9,.val x10,.val x11,.val x12,.own B0,.no,.no,.no]):=fun _ _ _ _ _ _ _ _ _ _=>by
    rw [ev_fsTake 13 6 _ B0 RS rfl (n2 _ _ _ _ _ _ _ _ _ _ _)]; rfl
  simp only [List.cons_append,List.nil_append] at g5
  clear mk eDS eBO
  generalize List.replicate 12 122=ZZ at *
  generalize oWd ZZ=OW at *
  generalize B0.set 0 OW=BS' at *
  generalize (SpG ws (b::r) (LW (-((U:Nat):Int)) (b::r))).map SpQ.due=SD at *
  generalize (SpG ws (b::r) (LW (-((U:Nat):Int)) (b::r))).map SpQ.told=ST at *
  generalize hOG:oGr (.lst B0::RS.map .lst) (ws.map fun i=>.int (i:Nat)) (NBx 0 (b::r)) ((LW (-((U:Nat):Int)) (b::r)).map .int) (ws.sum+2 * n) U (H - 1 - U)=OG at *
  generalize (sdRows U (IRx ws (b::r))).map D.str=SR at *
  generalize (IRx ws (b::r)).map D.str=II at *
  generalize ((BSx 0 (b::r)).map fun x=>D.int ((x:Nat):Int))=BX at *
  generalize ((b::r).map fun b=>D.lst (b.map fun p=>D.lst (p.rs.map D.str)))=EQ at *
  generalize ((b::r).map fun b=>D.lst (b.map Pz.dat))=BD at *
  generalize (LW (-((U:Nat):Int)) (b::r)).map D.int=LL at *
  generalize NBx 0 (b::r)=NN at *
  generalize (ws.map fun i=>D.int ((i:Nat):Int))=WW at *
  generalize ws.sum+2 * n=TW at *
  generalize H - 1 - U=DU at *
  generalize hM : 1+a=M at *
  generalize ns.map D.int=NS at *
  generalize rInts 0 n=RN at *
  generalize rInts 0 M=RM at *
  simp only [D_law,ev_bodyF,F_law,envOf]
  simp [h0,h1,m0,m1,en,em,hr1,g5,hbl2,hcap0,c2,mk',ho,inn,sd,du,n2,hbl4,rr,rd,er2,bx,ms,sp,tk,hrn,hlrn,hyl,ix0,mz,hwk,ow,st,m9,p9,hsl,kl]
end K17
end
section
set_option maxHeartbeats 4000000
namespace K17
open PySem PySem.Spec PyProof.Rows L2 DL
theorem ex0 {us:List Value}(h:us.length=0):us=[]:=List.length_eq_zero_iff.mp h
theorem exS {n:Nat}{us:List Value}(h:us.length=n+1) : ∃ a t,us=a::t∧t.length=n:=by cases us with | nil=>cases h | cons a t=>exact ⟨a,t,rfl,Nat.succ.inj h⟩
theorem ex1 {us:List Value}(h:us.length=1) : ∃ a,us=[a]:=by obtain ⟨a,t,rfl,k⟩:=exS h; cases ex0 k; exact ⟨a,rfl⟩
theorem ex2 {us:List Value}(h:us.length=2) : ∃ a0 a1,us=[a0,a1]:=by obtain ⟨a0,t,rfl,k⟩:=exS h; obtain ⟨a1,rfl⟩:=ex1 k; exact ⟨a0,a1,rfl⟩
theorem ex3 {us:List Value}(h:us.length=3) : ∃ a0 a1 a2,us=[a0,a1,a2]:=by obtain ⟨a0,t,rfl,k⟩:=exS h; obtain ⟨a1,a2,rfl⟩:=ex2 k; exact ⟨a0,a1,a2,rfl⟩
theorem ex4 {us:List Value}(h:us.length=4) : ∃ a0 a1 a2 a3,us=[a0,a1,a2,a3]:=by obtain ⟨a0,t,rfl,k⟩:=exS h; obtain ⟨a1,a2,a3,rfl⟩:=ex3 k; exact ⟨a0,a1,a2,a3,rfl⟩
noncomputable def top (i:Nat):Stmt:=PySem.Challenge.pw_inkform_k17_a_grid.main.body.getD i (.Pass ⟨0,0,0,0⟩)
abbrev s_column_widths:Stmt:=top 7
abbrev s_greatest_up:Stmt:=top 11
abbrev s_band_height:Stmt:=top 10
abbrev s_numbers_by_row:Stmt:=top 8
abbrev s_Sketch_init:Stmt:=inClass (top 2) 0
abbrev s_band_lows:Stmt:=top 9
abbrev s_Grid_init:Stmt:=inClass (top 6) 0
abbrev s_law_wides:Stmt:=top 18
abbrev s_law_row:Stmt:=top 16
abbrev s_law_band:Stmt:=top 17
abbrev s_law_inner:Stmt:=top 19
abbrev s_law_sided:Stmt:=top 20
abbrev s_law_due_spots:Stmt:=top 24
abbrev s_Word_init:Stmt:=inClass (top 3) 0
abbrev s_Sketch_spots:Stmt:=inClass (top 2) 4
abbrev s_Root_spots:Stmt:=inClass (top 4) 2
abbrev s_Grid_spots:Stmt:=inClass (top 6) 3
abbrev s_law_cell_at:Stmt:=top 13
abbrev s_Sketch_row_within:Stmt:=inClass (top 2) 2
abbrev s_Word_row_within:Stmt:=inClass (top 3) 1
abbrev s_Sketch_row:Stmt:=inClass (top 2) 1
abbrev s_Root_row_within:Stmt:=inClass (top 4) 1
abbrev s_Grid_row_within:Stmt:=inClass (top 6) 1
abbrev s_Grid_band_row:Stmt:=inClass (top 6) 2
abbrev s_Sketch_rows:Stmt:=inClass (top 2) 3
abbrev s_law_whole:Stmt:=top 21
abbrev s_law_box:Stmt:=top 22
abbrev s_law_spots:Stmt:=top 23
abbrev s_Root_init:Stmt:=inClass (top 4) 0
abbrev s_law_sign:Stmt:=top 14
abbrev s_law_piece:Stmt:=top 15
abbrev s_law:Stmt:=top 25
theorem S_column_widths:FnScope ["bands"] ["bands"] (defScope s_column_widths):=⟨rfl,rfl,rfl,by decide +kernel,rfl,by decide +kernel,by decide +kernel⟩
theorem S_greatest_up:FnScope ["band"] ["band"] (defScope s_greatest_up):=⟨rfl,rfl,rfl,by decide +kernel,rfl,by decide +kernel,by decide +kernel⟩
theorem S_band_height:FnScope ["band"] ["band"] (defScope s_band_height):=⟨rfl,rfl,rfl,by decide +kernel,rfl,by decide +kernel,by decide +kernel⟩
theorem S_numbers_by_row:FnScope ["bands", "numbers", "n", "band"] ["bands"] (defScope s_numbers_by_row):=⟨rfl,rfl,rfl,by decide +kernel,rfl,by decide +kernel,by decide +kernel⟩
theorem S_Sketch_init:FnScope ["self", "wide", "up", "down"] ["self", "wide", "up", "down"] (defScope s_Sketch_init):=⟨rfl,rfl,rfl,by decide +kernel,rfl,by decide +kernel,by decide +kernel⟩
theorem S_band_lows:FnScope ["bands", "up", "lows", "top", "band"] ["bands", "up"] (defScope s_band_lows):=⟨rfl,rfl,rfl,by decide +kernel,rfl,by decide +kernel,by decide +kernel⟩
theorem S_Grid_init:FnScope ["self", "bands", "high", "up"] ["self", "bands"] (defScope s_Grid_init):=⟨rfl,rfl,rfl,by decide +kernel,rfl,by decide +kernel,by decide +kernel⟩
theorem S_law_wides:FnScope ["bands"] ["bands"] (defScope s_law_wides):=⟨rfl,rfl,rfl,by decide +kernel,rfl,by decide +kernel,by decide +kernel⟩
theorem S_law_row:FnScope ["piece", "k"] ["piece", "k"] (defScope s_law_row):=⟨rfl,rfl,rfl,by decide +kernel,rfl,by decide +kernel,by decide +kernel⟩
theorem S_law_band:FnScope ["band", "wides", "up", "down", "rows", "k", "some"] ["band", "wides"] (defScope s_law_band):=⟨rfl,rfl,rfl,by decide +kernel,rfl,by decide +kernel,by decide +kernel⟩
theorem S_law_inner:FnScope ["bands", "wides", "rows", "bases", "band", "some", "up"] ["bands"] (defScope s_law_inner):=⟨rfl,rfl,rfl,by decide +kernel,rfl,by decide +kernel,by decide +kernel⟩
theorem S_law_sided:FnScope ["inner", "middle", "rows"] ["inner"] (defScope s_law_sided):=⟨rfl,rfl,rfl,by decide +kernel,rfl,by decide +kernel,by decide +kernel⟩
theorem S_law_due_spots:FnScope ["bands", "bases", "up", "due", "wides", "band", "base", "right", "piece", "wide"] ["bands", "bases", "up"] (defScope s_law_due_spots):=⟨rfl,rfl,rfl,by decide +kernel,rfl,by decide +kernel,by decide +kernel⟩
theorem S_Word_init:FnScope ["self", "word"] ["self", "word"] (defScope s_Word_init):=⟨rfl,rfl,rfl,by decide +kernel,rfl,by decide +kernel,by decide +kernel⟩
theorem S_Sketch_spots:FnScope ["self"] ["self"] (defScope s_Sketch_spots):=⟨rfl,rfl,rfl,by decide +kernel,rfl,by decide +kernel,by decide +kernel⟩
theorem S_Root_spots:FnScope ["self"] ["self"] (defScope s_Root_spots):=⟨rfl,rfl,rfl,by decide +kernel,rfl,by decide +kernel,by decide +kernel⟩
theorem S_Grid_spots:FnScope ["self", "spots", "band", "low", "right", "sketch", "wide"] ["self"] (defScope s_Grid_spots):=⟨rfl,rfl,rfl,by decide +kernel,rfl,by decide +kernel,by decide +kernel⟩
theorem S_law_cell_at:FnScope ["script", "k"] ["script", "k"] (defScope s_law_cell_at):=⟨rfl,rfl,rfl,by decide +kernel,rfl,by decide +kernel,by decide +kernel⟩
theorem S_Sketch_row_within:FnScope ["self", "k"] ["self", "k"] (defScope s_Sketch_row_within):=⟨rfl,rfl,rfl,by decide +kernel,rfl,by decide +kernel,by decide +kernel⟩
theorem S_Word_row_within:FnScope ["self", "k"] ["self", "k"] (defScope s_Word_row_within):=⟨rfl,rfl,rfl,by decide +kernel,rfl,by decide +kernel,by decide +kernel⟩
theorem S_Sketch_row:FnScope ["self", "k"] ["self", "k"] (defScope s_Sketch_row):=⟨rfl,rfl,rfl,by decide +kernel,rfl,by decide +kernel,by decide +kernel⟩
theorem S_Root_row_within:FnScope ["self", "k"] ["self", "k"] (defScope s_Root_row_within):=⟨rfl,rfl,rfl,by decide +kernel,rfl,by decide +kernel,by decide +kernel⟩
theorem S_Grid_row_within:FnScope ["self", "k", "number", "inside"] ["self", "k"] (defScope s_Grid_row_within):=⟨rfl,rfl,rfl,by decide +kernel,rfl,by decide +kernel,by decide +kernel⟩
theorem S_Grid_band_row:FnScope ["self", "number", "k", "own"] ["self", "number", "k"] (defScope s_Grid_band_row):=⟨rfl,rfl,rfl,by decide +kernel,rfl,by decide +kernel,by decide +kernel⟩
theorem S_Sketch_rows:FnScope ["self"] ["self"] (defScope s_Sketch_rows):=⟨rfl,rfl,rfl,by decide +kernel,rfl,by decide +kernel,by decide +kernel⟩
theorem S_law_whole:FnScope ["found"] ["found"] (defScope s_law_whole):=⟨rfl,rfl,rfl,by decide +kernel,rfl,by decide +kernel,by decide +kernel⟩
theorem S_law_box:FnScope ["found", "rows", "up", "number", "size", "told"] ["found", "rows", "up"] (defScope s_law_box):=⟨rfl,rfl,rfl,by decide +kernel,rfl,by decide +kernel,by decide +kernel⟩
theorem S_law_spots:FnScope ["told", "due", "found", "one"] ["told", "due"] (defScope s_law_spots):=⟨rfl,rfl,rfl,by decide +kernel,rfl,by decide +kernel,by decide +kernel⟩
theorem S_Root_init:FnScope ["self", "inner"] ["self", "inner"] (defScope s_Root_init):=⟨rfl,rfl,rfl,by decide +kernel,rfl,by decide +kernel,by decide +kernel⟩
theorem S_law_sign:FnScope ["cell", "some"] ["cell"] (defScope s_law_sign):=⟨rfl,rfl,rfl,by decide +kernel,rfl,by decide +kernel,by decide +kernel⟩
theorem S_law_piece:FnScope ["cell", "n", "wide", "up", "down", "signs", "blank", "rows"] ["cell"] (defScope s_law_piece):=⟨rfl,rfl,rfl,by decide +kernel,rfl,by decide +kernel,by decide +kernel⟩
theorem S_law:FnScope ["script", "many", "wide", "bands", "at", "cells", "handed", "found", "inner", "bases", "rows", "up", "due", "first", "told", "far", "k"] ["script"] (defScope s_law):=⟨rfl,rfl,rfl,by decide +kernel,rfl,by decide +kernel,by decide +kernel⟩
abbrev ct (C0 C1 C2 C3:Addr):Ct:=⟨fun n=>[C0,C1,C2,C3][n]?,fun i=>(["wide", "up", "down", "word", "inner", "bands", "widths", "band_numbers", "lows"]:List Str).getD i "!"⟩
structure Txt (P:Program)(w:World)(K:PySem.W.Frag)(mg:Str→Option Value)(C0 C1 C2 C3 m_Sketch_init m_Grid_init m_Word_init m_Sketch_spots m_Root_spots m_Grid_spots m_Sketch_row_within m_Word_row_within m_Sketch_row m_Root_row_within m_Grid_row_within m_Grid_band_row m_Sketch_rows m_Root_init:Addr):Prop where
  b_max:mg "max"=none
  b_range:mg "range"=none
  b_len:mg "len"=none
  b_enumerate:mg "enumerate"=none
  b_list:mg "list"=none
  b_sum:mg "sum"=none
  b_zip:mg "zip"=none
  b_isinstance:mg "isinstance"=none
  b_int:mg "int"=none
  b_bool:mg "bool"=none
  b_tuple:mg "tuple"=none
  c_BLANK : ∃ v u,mg "BLANK"=some u∧RelV v u∧∀ A H,Rep ⟨K,(ct C0 C1 C2 C3).cl,(ct C0 C1 C2 C3).fld⟩ A H c_BLANK v
  cl_Sketch:Cls K C0
  mg_Sketch:mg "Sketch"=some (.ref C0)
  me_Sketch_row:Meth K C0 "row" m_Sketch_row
  me_Sketch_row_within:Meth K C0 "row_within" m_Sketch_row_within
  me_Sketch_rows:Meth K C0 "rows" m_Sketch_rows
  me_Sketch_spots:Meth K C0 "spots" m_Sketch_spots
  cl_Word:Cls K C1
  mg_Word:mg "Word"=some (.ref C1)
  me_Word_row:Meth K C1 "row" m_Sketch_row
  me_Word_row_within:Meth K C1 "row_within" m_Word_row_within
  me_Word_rows:Meth K C1 "rows" m_Sketch_rows
  me_Word_spots:Meth K C1 "spots" m_Sketch_spots
  cl_Root:Cls K C2
  mg_Root:mg "Root"=some (.ref C2)
  me_Root_row:Meth K C2 "row" m_Sketch_row
  me_Root_row_within:Meth K C2 "row_within" m_Root_row_within
  me_Root_rows:Meth K C2 "rows" m_Sketch_rows
  me_Root_spots:Meth K C2 "spots" m_Root_spots
  cl_Grid:Cls K C3
  mg_Grid:mg "Grid"=some (.ref C3)
  me_Grid_row:Meth K C3 "row" m_Sketch_row
  me_Grid_row_within:Meth K C3 "row_within" m_Grid_row_within
  me_Grid_rows:Meth K C3 "rows" m_Sketch_rows
  me_Grid_spots:Meth K C3 "spots" m_Grid_spots
  me_Grid_band_row:Meth K C3 "band_row" m_Grid_band_row
  mk_Sketch:Mk K C0 m_Sketch_init
  mk_Word:Mk K C1 m_Word_init
  mk_Root:Mk K C2 m_Root_init
  mk_Grid:Mk K C3 m_Grid_init
  cf_Sketch:ClsFn K C0 "__init__" m_Sketch_init
  fo_0:FldOk K (ct C0 C1 C2 C3) 0
  fo_1:FldOk K (ct C0 C1 C2 C3) 1
  fo_2:FldOk K (ct C0 C1 C2 C3) 2
  fo_3:FldOk K (ct C0 C1 C2 C3) 3
  fo_4:FldOk K (ct C0 C1 C2 C3) 4
  fo_5:FldOk K (ct C0 C1 C2 C3) 5
  fo_6:FldOk K (ct C0 C1 C2 C3) 6
  fo_7:FldOk K (ct C0 C1 C2 C3) 7
  fo_8:FldOk K (ct C0 C1 C2 C3) 8
  ins_Sketch:InstG K mg (ct C0 C1 C2 C3) "Sketch" [0,1,2,3]
theorem all_n {P:Addr→Prop} : ∀ C∈([]:List Addr),P C:=fun C h=>nomatch h
theorem all_c {P:Addr→Prop}{a:Addr}{l:List Addr}(h:P a)(r : ∀ C∈l,P C) : ∀ C∈a::l,P C:=fun C hC=>(List.mem_cons.mp hC).elim (fun e=>e ▸ h) (r C)
def ClAll (P:Nat→Addr→Prop):Nat→List Addr→Prop
  | _,[]=>True
  | n,a::l=>P n a∧ClAll P (n+1) l
theorem cl_n {P:Nat→Addr→Prop}{n:Nat}:ClAll P n []:=trivial
theorem cl_c {P:Nat→Addr→Prop}{n:Nat}{a:Addr}{l:List Addr}(h:P n a)(r:ClAll P (n+1) l):ClAll P n (a::l):=⟨h,r⟩
theorem cl_at {P:Nat→Addr→Prop} : ∀ {l:List Addr} {m:Nat},ClAll P m l→∀ n C,l[n]?=some C→P (m+n) C
  | [],_,_,n,C,h=>by simp at h
  | a::l,m,⟨h1,h2⟩,0,C,h=>by simp at h; subst h; exact h1
  | a::l,m,⟨h1,h2⟩,n+1,C,h=>by
    have:=cl_at h2 n C (by simpa using h)
    rwa [show m+1+n=m+(n+1) by omega] at this
theorem cl_all {P:Nat→Addr→Prop}{l:List Addr}(h:ClAll P 0 l) : ∀ n C,l[n]?=some C→P n C:=fun n C e=>by
  have:=cl_at h n C e
  rwa [Nat.zero_add] at this
section
variable {P:Program}{w:World}{K:PySem.W.Frag}{mg:Str→Option Value}{base:Heap}{C0 C1 C2 C3 m_Sketch_init m_Grid_init m_Word_init m_Sketch_spots m_Root_spots m_Grid_spots m_Sketch_row_within m_Word_row_within m_Sketch_row m_Root_row_within m_Grid_row_within m_Grid_band_row m_Sketch_rows m_Root_init:Addr}
structure RecG0 (P:Program)(w:World)(K:PySem.W.Frag)(mg:Str→Option Value)(base:Heap)(C0 C1 C2 C3 m_Sketch_init m_Grid_init m_Word_init m_Sketch_spots m_Root_spots m_Grid_spots m_Sketch_row_within m_Word_row_within m_Sketch_row m_Root_row_within m_Grid_row_within m_Grid_band_row m_Sketch_rows m_Root_init:Addr)  (k:Nat) (R:Rec0):Prop where
  Sketch_row:UnD P w K mg base (ct C0 C1 C2 C3) m_Sketch_row ["self", "k"] k R.Sketch_row
  Root_row_within:UnD P w K mg base (ct C0 C1 C2 C3) m_Root_row_within ["self", "k"] k R.Root_row_within
  Grid_row_within:UnD P w K mg base (ct C0 C1 C2 C3) m_Grid_row_within ["self", "k"] k R.Grid_row_within
  Grid_band_row:UnD P w K mg base (ct C0 C1 C2 C3) m_Grid_band_row ["self", "number", "k"] k R.Grid_band_row
theorem mt_row (T:Txt P w K mg C0 C1 C2 C3 m_Sketch_init m_Grid_init m_Word_init m_Sketch_spots m_Root_spots m_Grid_spots m_Sketch_row_within m_Word_row_within m_Sketch_row m_Root_row_within m_Grid_row_within m_Grid_band_row m_Sketch_rows m_Root_init)  {kr:Nat} (hk : 1≤kr) {R:Rec0} (GR:RecG0 P w K mg base C0 C1 C2 C3 m_Sketch_init m_Grid_init m_Word_init m_Sketch_spots m_Root_spots m_Grid_spots m_Sketch_row_within m_Word_row_within m_Sketch_row m_Root_row_within m_Grid_row_within m_Grid_band_row m_Sketch_rows m_Root_init kr R):MethG P w K mg base (ct C0 C1 C2 C3) "row" 1 kr (MT_row R):=by
  refine ⟨fun j lay F h=>?_⟩
  rcases j with _ | _ | _ | _ | j
  · cases h
    exact GR.Sketch_row.meth rfl rfl T.cl_Sketch T.me_Sketch_row (by first | decide | omega) (show ∀ i∈[0,1,2],(["wide", "up", "down", "word", "inner", "bands", "widths", "band_numbers", "lows"]:List Str).getD i "!"≠"row" by decide +kernel)
  · cases h
    exact GR.Sketch_row.meth rfl rfl T.cl_Word T.me_Word_row (by first | decide | omega) (show ∀ i∈[0,1,2,3],(["wide", "up", "down", "word", "inner", "bands", "widths", "band_numbers", "lows"]:List Str).getD i "!"≠"row" by decide +kernel)
  · cases h
    exact GR.Sketch_row.meth rfl rfl T.cl_Root T.me_Root_row (by first | decide | omega) (show ∀ i∈[0,1,2,4],(["wide", "up", "down", "word", "inner", "bands", "widths", "band_numbers", "lows"]:List Str).getD i "!"≠"row" by decide +kernel)
  · cases h
    exact GR.Sketch_row.meth rfl rfl T.cl_Grid T.me_Grid_row (by first | decide | omega) (show ∀ i∈[5,6,7,0,1,2,8],(["wide", "up", "down", "word", "inner", "bands", "widths", "band_numbers", "lows"]:List Str).getD i "!"≠"row" by decide +kernel)
  · cases h
theorem mt_row_within (T:Txt P w K mg C0 C1 C2 C3 m_Sketch_init m_Grid_init m_Word_init m_Sketch_spots m_Root_spots m_Grid_spots m_Sketch_row_within m_Word_row_within m_Sketch_row m_Root_row_within m_Grid_row_within m_Grid_band_row m_Sketch_rows m_Root_init)(G_Sketch_row_within:UnD P w K mg base (ct C0 C1 C2 C3) m_Sketch_row_within ["self", "k"] 1 D_Sketch_row_within)(G_Word_row_within:UnD P w K mg base (ct C0 C1 C2 C3) m_Word_row_within ["self", "k"] 1 D_Word_row_within){kr:Nat}(hk : 1≤kr){R:Rec0}(GR:RecG0 P w K mg base C0 C1 C2 C3 m_Sketch_init m_Grid_init m_Word_init m_Sketch_spots m_Root_spots m_Grid_spots m_Sketch_row_within m_Word_row_within m_Sketch_row m_Root_row_within m_Grid_row_within m_Grid_band_row m_Sketch_rows m_Root_init kr R):MethG P w K mg base (ct C0 C1 C2 C3) "row_within" 1 kr (MT_row_within R):=by
  refine ⟨fun j lay F h=>?_⟩
  rcases j with _ | _ | _ | _ | j
  · cases h
    exact G_Sketch_row_within.meth rfl rfl T.cl_Sketch T.me_Sketch_row_within (by first | decide | omega) (show ∀ i∈[0,1,2],(["wide", "up", "down", "word", "inner", "bands", "widths", "band_numbers", "lows"]:List Str).getD i "!"≠"row_within" by decide +kernel)
  · cases h
    exact G_Word_row_within.meth rfl rfl T.cl_Word T.me_Word_row_within (by first | decide | omega) (show ∀ i∈[0,1,2,3],(["wide", "up", "down", "word", "inner", "bands", "widths", "band_numbers", "lows"]:List Str).getD i "!"≠"row_within" by decide +kernel)
  · cases h
    exact GR.Root_row_within.meth rfl rfl T.cl_Root T.me_Root_row_within (by first | decide | omega) (show ∀ i∈[0,1,2,4],(["wide", "up", "down", "word", "inner", "bands", "widths", "band_numbers", "lows"]:List Str).getD i "!"≠"row_within" by decide +kernel)
  · cases h
    exact GR.Grid_row_within.meth rfl rfl T.cl_Grid T.me_Grid_row_within (by first | decide | omega) (show ∀ i∈[5,6,7,0,1,2,8],(["wide", "up", "down", "word", "inner", "bands", "widths", "band_numbers", "lows"]:List Str).getD i "!"≠"row_within" by decide +kernel)
  · cases h
theorem mt_rows (T:Txt P w K mg C0 C1 C2 C3 m_Sketch_init m_Grid_init m_Word_init m_Sketch_spots m_Root_spots m_Grid_spots m_Sketch_row_within m_Word_row_within m_Sketch_row m_Root_row_within m_Grid_row_within m_Grid_band_row m_Sketch_rows m_Root_init)(G_Sketch_rows:UnF P w K mg base (ct C0 C1 C2 C3) m_Sketch_rows ["self"] 42 D_Sketch_rows):MethGF P w K mg base (ct C0 C1 C2 C3) "rows" 0 42 MT_rows:=by
  refine ⟨fun j lay F h=>?_⟩
  rcases j with _ | _ | _ | _ | j
  · cases h
    exact G_Sketch_rows.meth rfl rfl T.cl_Sketch T.me_Sketch_rows (by first | decide | omega) (show ∀ i∈[0,1,2],(["wide", "up", "down", "word", "inner", "bands", "widths", "band_numbers", "lows"]:List Str).getD i "!"≠"rows" by decide +kernel)
  · cases h
    exact G_Sketch_rows.meth rfl rfl T.cl_Word T.me_Word_rows (by first | decide | omega) (show ∀ i∈[0,1,2,3],(["wide", "up", "down", "word", "inner", "bands", "widths", "band_numbers", "lows"]:List Str).getD i "!"≠"rows" by decide +kernel)
  · cases h
    exact G_Sketch_rows.meth rfl rfl T.cl_Root T.me_Root_rows (by first | decide | omega) (show ∀ i∈[0,1,2,4],(["wide", "up", "down", "word", "inner", "bands", "widths", "band_numbers", "lows"]:List Str).getD i "!"≠"rows" by decide +kernel)
  · cases h
    exact G_Sketch_rows.meth rfl rfl T.cl_Grid T.me_Grid_rows (by first | decide | omega) (show ∀ i∈[5,6,7,0,1,2,8],(["wide", "up", "down", "word", "inner", "bands", "widths", "band_numbers", "lows"]:List Str).getD i "!"≠"rows" by decide +kernel)
  · cases h
theorem mt_spots (T:Txt P w K mg C0 C1 C2 C3 m_Sketch_init m_Grid_init m_Word_init m_Sketch_spots m_Root_spots m_Grid_spots m_Sketch_row_within m_Word_row_within m_Sketch_row m_Root_row_within m_Grid_row_within m_Grid_band_row m_Sketch_rows m_Root_init)(G_Sketch_spots:UnF P w K mg base (ct C0 C1 C2 C3) m_Sketch_spots ["self"] 1 D_Sketch_spots)(G_Root_spots:UnF P w K mg base (ct C0 C1 C2 C3) m_Root_spots ["self"] 1 D_Root_spots)(G_Grid_spots:UnF P w K mg base (ct C0 C1 C2 C3) m_Grid_spots ["self"] 1 D_Grid_spots):MethGF P w K mg base (ct C0 C1 C2 C3) "spots" 0 1 MT_spots:=by
  refine ⟨fun j lay F h=>?_⟩
  rcases j with _ | _ | _ | _ | j
  · cases h
    exact G_Sketch_spots.meth rfl rfl T.cl_Sketch T.me_Sketch_spots (by first | decide | omega) (show ∀ i∈[0,1,2],(["wide", "up", "down", "word", "inner", "bands", "widths", "band_numbers", "lows"]:List Str).getD i "!"≠"spots" by decide +kernel)
  · cases h
    exact G_Sketch_spots.meth rfl rfl T.cl_Word T.me_Word_spots (by first | decide | omega) (show ∀ i∈[0,1,2,3],(["wide", "up", "down", "word", "inner", "bands", "widths", "band_numbers", "lows"]:List Str).getD i "!"≠"spots" by decide +kernel)
  · cases h
    exact G_Root_spots.meth rfl rfl T.cl_Root T.me_Root_spots (by first | decide | omega) (show ∀ i∈[0,1,2,4],(["wide", "up", "down", "word", "inner", "bands", "widths", "band_numbers", "lows"]:List Str).getD i "!"≠"spots" by decide +kernel)
  · cases h
    exact G_Grid_spots.meth rfl rfl T.cl_Grid T.me_Grid_spots (by first | decide | omega) (show ∀ i∈[5,6,7,0,1,2,8],(["wide", "up", "down", "word", "inner", "bands", "widths", "band_numbers", "lows"]:List Str).getD i "!"≠"spots" by decide +kernel)
  · cases h
theorem mt_band_row (T:Txt P w K mg C0 C1 C2 C3 m_Sketch_init m_Grid_init m_Word_init m_Sketch_spots m_Root_spots m_Grid_spots m_Sketch_row_within m_Word_row_within m_Sketch_row m_Root_row_within m_Grid_row_within m_Grid_band_row m_Sketch_rows m_Root_init)  {kr:Nat} (hk : 1≤kr) {R:Rec0} (GR:RecG0 P w K mg base C0 C1 C2 C3 m_Sketch_init m_Grid_init m_Word_init m_Sketch_spots m_Root_spots m_Grid_spots m_Sketch_row_within m_Word_row_within m_Sketch_row m_Root_row_within m_Grid_row_within m_Grid_band_row m_Sketch_rows m_Root_init kr R):MethG P w K mg base (ct C0 C1 C2 C3) "band_row" 2 kr (MT_band_row R):=by
  refine ⟨fun j lay F h=>?_⟩
  rcases j with _ | _ | _ | _ | j
  · cases h
  · cases h
  · cases h
  · cases h
    exact GR.Grid_band_row.meth rfl rfl T.cl_Grid T.me_Grid_band_row (by first | decide | omega) (show ∀ i∈[5,6,7,0,1,2,8],(["wide", "up", "down", "word", "inner", "bands", "widths", "band_numbers", "lows"]:List Str).getD i "!"≠"band_row" by decide +kernel)
  · cases h
theorem body_column_widths (T:Txt P w K mg C0 C1 C2 C3 m_Sketch_init m_Grid_init m_Word_init m_Sketch_spots m_Root_spots m_Grid_spots m_Sketch_row_within m_Word_row_within m_Sketch_row m_Root_row_within m_Grid_row_within m_Grid_band_row m_Sketch_rows m_Root_init) :BodyOk P w K mg base (ct C0 C1 C2 C3) ["bands"] s_column_widths 0 F_column_widths:=by
  refine ⟨fun X hP hw hK hmg hb d hr=>?_⟩
  subst hP hw hK hmg hb
  have hS:defScope s_column_widths=_:=(by (conv=>lhs; whnf))
  rw [hS] at d
  have hB:defBody s_column_widths=_:=(by (conv=>lhs; whnf))
  rw [hB]
  have n_0:Nm X 0 "bands":=d.nm rfl (by first | exact .inl rfl | exact .inr (.inl rfl))
  have g_len:Gl X "len":=d.gl rfl
  have g_range:Gl X "range":=d.gl rfl
  have hu:=hu_of hr
  delta F_column_widths CE_column_widths_2 CE_column_widths_1
  refine pdss_one ?_
  refine pds_retF ?_
  refine pf_comp1C (x0:="n") (N':=["n", "bands"]) (nt:=1) (cap:=[0]) d.toDefX ?s1 ?s2 ?s3 ?_ ?_ ?_ ?_ (gext_name (by decide)) (sndG_name 0) ?_ ?_
  case s1=>exact ⟨by rfl,by first | rfl | decide +kernel,by rfl,by decide +kernel,by decide +kernel,by rfl,by decide +kernel⟩
  case s2=>decide
  case s3=>decide +kernel
  exact g_range
  exact T.b_range
  refine pda_cons ?_ ?_
  refine pd_len ?_ ?_ ?_
  exact g_len
  exact T.b_len
  refine pr_of ?_
  refine pd_ix ?_ ?_
  refine pr_of ?_
  refine pd_name ?_
  exact n_0
  exact pd_int
  exact pda_nil
  intro cl C s2 H2 fp d1
  exact pg_nm (d1.nlk (i:=0) rfl rfl)
  intro cl C s2 H2 fp d1
  exact pdi_nil
  intro cl C s2 H2 fp d1
  refine pd_max (d1.gl rfl) ?_ d1.calm ?_
  exact T.b_max
  refine pr_of ?_
  refine pd_of ?_
  refine pf_comp (N':=["band", "n"]) (nt:=1) (cap:=[0]) d1 ?s1 ?s2 ?s3 ?_ ?_ (gext_name (by decide)) (sndG_name 0) ?_ ?_
  case s1=>exact ⟨by rfl,by decide +kernel,by decide +kernel,by decide +kernel,by rfl,by decide +kernel⟩
  case s2=>decide
  case s3=>decide +kernel
  refine pr_of ?_
  exact pd_name (d1.nm (i:=1) rfl (by first | exact .inl rfl | exact .inr (.inl rfl) | exact .inr (.inr rfl)))
  intro cl C s2 H2 fp d2
  exact pg_nm (d2.nlc (i:=0) rfl rfl)
  intro cl C s2 H2 fp d2
  exact pdi_nil
  intro cl C s2 H2 fp d2
  refine pd_fld T.fo_0 rfl ?_
  refine pd_ix ?_ ?_
  refine pr_of ?_
  exact pd_name (d2.nm (i:=0) rfl (by first | exact .inl rfl | exact .inr (.inl rfl) | exact .inr (.inr rfl)))
  exact pd_name (d2.nm (i:=1) rfl (by first | exact .inl rfl | exact .inr (.inl rfl) | exact .inr (.inr rfl)))
theorem body_greatest_up (T:Txt P w K mg C0 C1 C2 C3 m_Sketch_init m_Grid_init m_Word_init m_Sketch_spots m_Root_spots m_Grid_spots m_Sketch_row_within m_Word_row_within m_Sketch_row m_Root_row_within m_Grid_row_within m_Grid_band_row m_Sketch_rows m_Root_init) :BodyOk P w K mg base (ct C0 C1 C2 C3) ["band"] s_greatest_up 0 F_greatest_up:=by
  refine ⟨fun X hP hw hK hmg hb d hr=>?_⟩
  subst hP hw hK hmg hb
  have hS:defScope s_greatest_up=_:=(by (conv=>lhs; whnf))
  rw [hS] at d
  have hB:defBody s_greatest_up=_:=(by (conv=>lhs; whnf))
  rw [hB]
  have n_0:Nm X 0 "band":=d.nm rfl (by first | exact .inl rfl | exact .inr (.inl rfl))
  have g_max:Gl X "max":=d.gl rfl
  have hu:=hu_of hr
  delta F_greatest_up CE_greatest_up_1
  refine pdss_one ?_
  refine pds_ret ?_
  refine pd_max ?_ ?_ d.calm ?_
  exact g_max
  exact T.b_max
  refine pr_of ?_
  refine pd_of ?_
  refine pf_comp (N':=["sketch"]) (nt:=1) (cap:=[]) d.toDefX ?s1 ?s2 ?s3 ?_ ?_ (gext_name (by decide)) (sndG_name 0) ?_ ?_
  case s1=>exact ⟨by rfl,by decide +kernel,by decide +kernel,by decide +kernel,by rfl,by decide +kernel⟩
  case s2=>decide
  case s3=>decide +kernel
  refine pr_of ?_
  refine pd_name ?_
  exact n_0
  intro cl C s2 H2 fp d1
  exact pg_nm (d1.nlc (i:=0) rfl rfl)
  intro cl C s2 H2 fp d1
  exact pdi_nil
  intro cl C s2 H2 fp d1
  refine pd_fld T.fo_1 rfl ?_
  exact pd_name (d1.nm (i:=0) rfl (by first | exact .inl rfl | exact .inr (.inl rfl) | exact .inr (.inr rfl)))
theorem body_band_height (T:Txt P w K mg C0 C1 C2 C3 m_Sketch_init m_Grid_init m_Word_init m_Sketch_spots m_Root_spots m_Grid_spots m_Sketch_row_within m_Word_row_within m_Sketch_row m_Root_row_within m_Grid_row_within m_Grid_band_row m_Sketch_rows m_Root_init)(G_greatest_up:Def P w K mg base (ct C0 C1 C2 C3) "greatest_up" ["band"] 1 D_greatest_up):BodyOk P w K mg base (ct C0 C1 C2 C3) ["band"] s_band_height 1 F_band_height:=by
  refine ⟨fun X hP hw hK hmg hb d hr=>?_⟩
  subst hP hw hK hmg hb
  have hS:defScope s_band_height=_:=(by (conv=>lhs; whnf))
  rw [hS] at d
  have hB:defBody s_band_height=_:=(by (conv=>lhs; whnf))
  rw [hB]
  have n_0:Nm X 0 "band":=d.nm rfl (by first | exact .inl rfl | exact .inr (.inl rfl))
  have g_greatest_up:Gl X "greatest_up":=d.gl rfl
  have g_max:Gl X "max":=d.gl rfl
  have hu:=hu_of hr
  delta F_band_height CE_band_height_1
  refine pdss_one ?_
  refine pds_ret ?_
  refine pd_add ?_ ?_
  refine pr_of ?_
  refine pd_add ?_ ?_
  refine pr_of ?_
  refine pd_def G_greatest_up hr ?s1 ?_ ?_
  case s1=>decide
  exact g_greatest_up
  refine pda_cons ?_ ?_
  refine pd_name ?_
  exact n_0
  exact pda_nil
  refine pr_of ?_
  exact pd_int
  refine pr_of ?_
  refine pd_max ?_ ?_ d.calm ?_
  exact g_max
  exact T.b_max
  refine pr_of ?_
  refine pd_of ?_
  refine pf_comp (N':=["sketch"]) (nt:=1) (cap:=[]) d.toDefX ?s1 ?s2 ?s3 ?_ ?_ (gext_name (by decide)) (sndG_name 0) ?_ ?_
  case s1=>exact ⟨by rfl,by decide +kernel,by decide +kernel,by decide +kernel,by rfl,by decide +kernel⟩
  case s2=>decide
  case s3=>decide +kernel
  refine pr_of ?_
  refine pd_name ?_
  exact n_0
  intro cl C s2 H2 fp d1
  exact pg_nm (d1.nlc (i:=0) rfl rfl)
  intro cl C s2 H2 fp d1
  exact pdi_nil
  intro cl C s2 H2 fp d1
  refine pd_fld T.fo_2 rfl ?_
  exact pd_name (d1.nm (i:=0) rfl (by first | exact .inl rfl | exact .inr (.inl rfl) | exact .inr (.inr rfl)))
theorem body_numbers_by_row (T:Txt P w K mg C0 C1 C2 C3 m_Sketch_init m_Grid_init m_Word_init m_Sketch_spots m_Root_spots m_Grid_spots m_Sketch_row_within m_Word_row_within m_Sketch_row m_Root_row_within m_Grid_row_within m_Grid_band_row m_Sketch_rows m_Root_init)(G_band_height:Def P w K mg base (ct C0 C1 C2 C3) "band_height" ["band"] 2 D_band_height):BodyOk P w K mg base (ct C0 C1 C2 C3) ["bands", "numbers", "n", "band"] s_numbers_by_row 2 F_numbers_by_row:=by
  refine ⟨fun X hP hw hK hmg hb d hr=>?_⟩
  subst hP hw hK hmg hb
  have hS:defScope s_numbers_by_row=_:=(by (conv=>lhs; whnf))
  rw [hS] at d
  have hB:defBody s_numbers_by_row=_:=(by (conv=>lhs; whnf))
  rw [hB]
  have n_0:Nm X 0 "bands":=d.nm rfl (by first | exact .inl rfl | exact .inr (.inl rfl))
  have n_1:Nm X 1 "numbers":=d.nm rfl (by first | exact .inl rfl | exact .inr (.inl rfl))
  have n_2:Nm X 2 "n":=d.nm rfl (by first | exact .inl rfl | exact .inr (.inl rfl))
  have n_3:Nm X 3 "band":=d.nm rfl (by first | exact .inl rfl | exact .inr (.inl rfl))
  have l_1:Nl X 1 "numbers":=d.nl rfl (by first | exact .inl rfl | exact .inr rfl)
  have l_2:Nl X 2 "n":=d.nl rfl (by first | exact .inl rfl | exact .inr rfl)
  have l_3:Nl X 3 "band":=d.nl rfl (by first | exact .inl rfl | exact .inr rfl)
  have g_band_height:Gl X "band_height":=d.gl rfl
  have g_enumerate:Gl X "enumerate":=d.gl rfl
  have hu:=hu_of hr
  delta F_numbers_by_row LB_numbers_by_row_1
  refine pdss_cons ?_ ?_
  refine pds_own ?_ ?_
  exact l_1
  refine pf_lst ?_
  exact pda_nil
  refine pdss_cons ?_ ?_
  refine pds_forE d.never d.calm (sndG_tup (sndGs_cons 2 (sndGs_cons 3 sndGs_nil))) ?_ ?_ ?_ ?_ ?_
  refine pg_tup d.calm ?_
  refine pgs_cons ?_ ?_
  refine pg_nm ?_
  exact l_2
  refine pgs_cons ?_ ?_
  refine pg_nm ?_
  exact l_3
  exact pgs_nil
  exact g_enumerate
  exact T.b_enumerate
  refine pd_name ?_
  exact n_0
  refine pdss_cons ?_ ?_
  refine pds_if ?_ ?_ ?_
  refine pdt_gt ?_ ?_
  refine pd_name ?_
  exact n_2
  exact pd_int
  refine pdss_one ?_
  refine pds_append ?_ ?_
  exact n_1
  exact pd_non
  exact pdss_nil
  refine pdss_one ?_
  refine pds_extL ?_ ?_
  exact n_1
  refine pf_mul ?_ ?_
  refine pf_lst ?_
  refine pda_cons ?_ ?_
  refine pd_name ?_
  exact n_2
  exact pda_nil
  refine pd_def G_band_height hr ?s1 ?_ ?_
  case s1=>decide
  exact g_band_height
  refine pda_cons ?_ ?_
  refine pd_name ?_
  exact n_3
  exact pda_nil
  refine pdss_one ?_
  refine pds_retO ?_
  exact n_1
theorem body_Sketch_init (T:Txt P w K mg C0 C1 C2 C3 m_Sketch_init m_Grid_init m_Word_init m_Sketch_spots m_Root_spots m_Grid_spots m_Sketch_row_within m_Word_row_within m_Sketch_row m_Root_row_within m_Grid_row_within m_Grid_band_row m_Sketch_rows m_Root_init) :BodyOk P w K mg base (ct C0 C1 C2 C3) ["self", "wide", "up", "down"] s_Sketch_init 0 F_Sketch_init:=by
  refine ⟨fun X hP hw hK hmg hb d hr=>?_⟩
  subst hP hw hK hmg hb
  have hS:defScope s_Sketch_init=_:=(by (conv=>lhs; whnf))
  rw [hS] at d
  have hB:defBody s_Sketch_init=_:=(by (conv=>lhs; whnf))
  rw [hB]
  have n_0:Nm X 0 "self":=d.nm rfl (by first | exact .inl rfl | exact .inr (.inl rfl))
  have n_1:Nm X 1 "wide":=d.nm rfl (by first | exact .inl rfl | exact .inr (.inl rfl))
  have n_2:Nm X 2 "up":=d.nm rfl (by first | exact .inl rfl | exact .inr (.inl rfl))
  have n_3:Nm X 3 "down":=d.nm rfl (by first | exact .inl rfl | exact .inr (.inl rfl))
  have hu:=hu_of hr
  delta F_Sketch_init
  refine pdss_cons ?_ ?_
  refine pds_fld T.fo_0 rfl ?_ ?_
  exact n_0
  refine pd_name ?_
  exact n_1
  refine pdss_cons ?_ ?_
  refine pds_fld T.fo_1 rfl ?_ ?_
  exact n_0
  refine pd_name ?_
  exact n_2
  refine pdss_one ?_
  refine pds_fld T.fo_2 rfl ?_ ?_
  exact n_0
  refine pd_name ?_
  exact n_3
theorem body_band_lows (T:Txt P w K mg C0 C1 C2 C3 m_Sketch_init m_Grid_init m_Word_init m_Sketch_spots m_Root_spots m_Grid_spots m_Sketch_row_within m_Word_row_within m_Sketch_row m_Root_row_within m_Grid_row_within m_Grid_band_row m_Sketch_rows m_Root_init)(G_band_height:Def P w K mg base (ct C0 C1 C2 C3) "band_height" ["band"] 2 D_band_height)(G_greatest_up:Def P w K mg base (ct C0 C1 C2 C3) "greatest_up" ["band"] 1 D_greatest_up):BodyOk P w K mg base (ct C0 C1 C2 C3) ["bands", "up", "lows", "top", "band"] s_band_lows 2 F_band_lows:=by
  refine ⟨fun X hP hw hK hmg hb d hr=>?_⟩
  subst hP hw hK hmg hb
  have hS:defScope s_band_lows=_:=(by (conv=>lhs; whnf))
  rw [hS] at d
  have hB:defBody s_band_lows=_:=(by (conv=>lhs; whnf))
  rw [hB]
  have n_0:Nm X 0 "bands":=d.nm rfl (by first | exact .inl rfl | exact .inr (.inl rfl))
  have n_1:Nm X 1 "up":=d.nm rfl (by first | exact .inl rfl | exact .inr (.inl rfl))
  have n_2:Nm X 2 "lows":=d.nm rfl (by first | exact .inl rfl | exact .inr (.inl rfl))
  have n_3:Nm X 3 "top":=d.nm rfl (by first | exact .inl rfl | exact .inr (.inl rfl))
  have n_4:Nm X 4 "band":=d.nm rfl (by first | exact .inl rfl | exact .inr (.inl rfl))
  have l_2:Nl X 2 "lows":=d.nl rfl (by first | exact .inl rfl | exact .inr rfl)
  have l_3:Nl X 3 "top":=d.nl rfl (by first | exact .inl rfl | exact .inr rfl)
  have l_4:Nl X 4 "band":=d.nl rfl (by first | exact .inl rfl | exact .inr rfl)
  have g_band_height:Gl X "band_height":=d.gl rfl
  have g_greatest_up:Gl X "greatest_up":=d.gl rfl
  have hu:=hu_of hr
  delta F_band_lows LB_band_lows_1
  refine pdss_cons ?_ ?_
  refine pds_own ?_ ?_
  exact l_2
  refine pf_lst ?_
  exact pda_nil
  refine pdss_cons ?_ ?_
  refine pds_set ?_ ?_
  exact l_3
  refine pd_neg ?_
  refine pd_name ?_
  exact n_1
  refine pdss_cons ?_ ?_
  refine pds_for d.never d.calm (sndG_name 4) ?_ ?_ ?_
  refine pg_nm ?_
  exact l_4
  refine pd_name ?_
  exact n_0
  refine pdss_cons ?_ ?_
  refine pds_append ?_ ?_
  exact n_2
  refine pd_add ?_ ?_
  refine pr_of ?_
  refine pd_name ?_
  exact n_3
  refine pr_of ?_
  refine pd_def G_greatest_up hr ?s1 ?_ ?_
  case s1=>decide
  exact g_greatest_up
  refine pda_cons ?_ ?_
  refine pd_name ?_
  exact n_4
  exact pda_nil
  refine pdss_one ?_
  refine pds_aug_add ?_ ?_
  exact l_3
  refine pd_add ?_ ?_
  refine pr_of ?_
  refine pd_def G_band_height hr ?s1 ?_ ?_
  case s1=>decide
  exact g_band_height
  refine pda_cons ?_ ?_
  refine pd_name ?_
  exact n_4
  exact pda_nil
  refine pr_of ?_
  exact pd_int
  refine pdss_one ?_
  refine pds_retO ?_
  exact n_2
theorem body_Grid_init (T:Txt P w K mg C0 C1 C2 C3 m_Sketch_init m_Grid_init m_Word_init m_Sketch_spots m_Root_spots m_Grid_spots m_Sketch_row_within m_Word_row_within m_Sketch_row m_Root_row_within m_Grid_row_within m_Grid_band_row m_Sketch_rows m_Root_init)(G_column_widths:DefF P w K mg base (ct C0 C1 C2 C3) "column_widths" ["bands"] 1 D_column_widths)(G_numbers_by_row:DefF P w K mg base (ct C0 C1 C2 C3) "numbers_by_row" ["bands"] 3 D_numbers_by_row)(G_band_lows:DefF P w K mg base (ct C0 C1 C2 C3) "band_lows" ["bands", "up"] 3 D_band_lows)(BJ_Sketch:BaseGJ P w K mg base (ct C0 C1 C2 C3) "Sketch" 3 1 J_Sketch):BodyOk P w K mg base (ct C0 C1 C2 C3) ["self", "bands", "high", "up"] s_Grid_init 3 F_Grid_init:=by
  refine ⟨fun X hP hw hK hmg hb d hr=>?_⟩
  subst hP hw hK hmg hb
  have hS:defScope s_Grid_init=_:=(by (conv=>lhs; whnf))
  rw [hS] at d
  have hB:defBody s_Grid_init=_:=(by (conv=>lhs; whnf))
  rw [hB]
  have n_0:Nm X 0 "self":=d.nm rfl (by first | exact .inl rfl | exact .inr (.inl rfl))
  have n_1:Nm X 1 "bands":=d.nm rfl (by first | exact .inl rfl | exact .inr (.inl rfl))
  have n_2:Nm X 2 "high":=d.nm rfl (by first | exact .inl rfl | exact .inr (.inl rfl))
  have n_3:Nm X 3 "up":=d.nm rfl (by first | exact .inl rfl | exact .inr (.inl rfl))
  have l_2:Nl X 2 "high":=d.nl rfl (by first | exact .inl rfl | exact .inr rfl)
  have l_3:Nl X 3 "up":=d.nl rfl (by first | exact .inl rfl | exact .inr rfl)
  have g_Sketch:Gl X "Sketch":=d.gl rfl
  have g_band_lows:Gl X "band_lows":=d.gl rfl
  have g_column_widths:Gl X "column_widths":=d.gl rfl
  have g_len:Gl X "len":=d.gl rfl
  have g_numbers_by_row:Gl X "numbers_by_row":=d.gl rfl
  have g_sum:Gl X "sum":=d.gl rfl
  have hu:=hu_of hr
  delta F_Grid_init CE_Grid_init_1
  refine pdss_cons ?_ ?_
  refine pds_fldS T.fo_5 rfl ?_ ?_
  exact n_0
  refine pd_of ?_
  refine pf_compI (N':=["band"]) (nt:=1) (cap:=[]) d.toDefX ?s1 ?s2 ?s3 ?_ ?_ (gext_name (by decide)) ?_ ?_
  case s1=>exact ⟨by rfl,by decide +kernel,by decide +kernel,by decide +kernel,by rfl,by decide +kernel⟩
  case s2=>decide
  case s3=>decide +kernel
  exact n_1
  intro cl C s2 H2 fp d1
  exact pg_nm (d1.nlc (i:=0) rfl rfl)
  intro cl C s2 H2 fp d1
  exact pdi_nil
  intro cl C s2 H2 fp d1
  refine pd_of ?_
  refine pf_list (d1.gl rfl) ?_ ?_
  exact T.b_list
  exact pr_name (d1.nm (i:=0) rfl (by first | exact .inl rfl | exact .inr (.inl rfl) | exact .inr (.inr rfl)))
  refine pdss_cons ?_ ?_
  refine pds_fld T.fo_6 rfl ?_ ?_
  exact n_0
  refine pd_of ?_
  refine pf_def G_column_widths hr ?s1 ?_ ?_
  case s1=>decide
  exact g_column_widths
  refine pda_cons ?_ ?_
  refine pd_self T.fo_5 rfl ?_
  exact n_0
  exact pda_nil
  refine pdss_cons ?_ ?_
  refine pds_fld T.fo_7 rfl ?_ ?_
  exact n_0
  refine pd_of ?_
  refine pf_def G_numbers_by_row hr ?s1 ?_ ?_
  case s1=>decide
  exact g_numbers_by_row
  refine pda_cons ?_ ?_
  refine pd_self T.fo_5 rfl ?_
  exact n_0
  exact pda_nil
  refine pdss_cons ?_ ?_
  refine pds_set ?_ ?_
  exact l_2
  refine pd_len ?_ ?_ ?_
  exact g_len
  exact T.b_len
  refine pr_of ?_
  refine pd_self T.fo_7 rfl ?_
  exact n_0
  refine pdss_cons ?_ ?_
  refine pds_set ?_ ?_
  exact l_3
  refine pd_fdiv ?_ ?_
  refine pd_sub ?_ ?_
  refine pd_name ?_
  exact n_2
  exact pd_int
  exact pd_int
  refine pdss_cons ?_ ?_
  refine pds_baseJ BJ_Sketch hr ?s1 ?_ ?_ ?_
  case s1=>decide
  exact g_Sketch
  exact n_0
  refine pda_cons ?_ ?_
  refine pd_add ?_ ?_
  refine pr_of ?_
  refine pd_sum ?_ ?_ d.calm ?_
  exact g_sum
  exact T.b_sum
  refine pr_of ?_
  refine pd_self T.fo_6 rfl ?_
  exact n_0
  refine pr_of ?_
  refine pd_mul ?_ ?_
  refine pr_of ?_
  exact pd_int
  refine pd_len ?_ ?_ ?_
  exact g_len
  exact T.b_len
  refine pr_of ?_
  refine pd_self T.fo_6 rfl ?_
  exact n_0
  refine pda_cons ?_ ?_
  refine pd_name ?_
  exact n_3
  refine pda_cons ?_ ?_
  refine pd_sub ?_ ?_
  refine pd_sub ?_ ?_
  refine pd_name ?_
  exact n_2
  exact pd_int
  refine pd_name ?_
  exact n_3
  exact pda_nil
  refine pdss_one ?_
  refine pds_fld T.fo_8 rfl ?_ ?_
  exact n_0
  refine pd_of ?_
  refine pf_def G_band_lows hr ?s1 ?_ ?_
  case s1=>decide
  exact g_band_lows
  refine pda_cons ?_ ?_
  refine pd_self T.fo_5 rfl ?_
  exact n_0
  refine pda_cons ?_ ?_
  refine pd_name ?_
  exact n_3
  exact pda_nil
theorem body_law_wides (T:Txt P w K mg C0 C1 C2 C3 m_Sketch_init m_Grid_init m_Word_init m_Sketch_spots m_Root_spots m_Grid_spots m_Sketch_row_within m_Word_row_within m_Sketch_row m_Root_row_within m_Grid_row_within m_Grid_band_row m_Sketch_rows m_Root_init) :BodyOk P w K mg base (ct C0 C1 C2 C3) ["bands"] s_law_wides 0 F_law_wides:=by
  refine ⟨fun X hP hw hK hmg hb d hr=>?_⟩
  subst hP hw hK hmg hb
  have hS:defScope s_law_wides=_:=(by (conv=>lhs; whnf))
  rw [hS] at d
  have hB:defBody s_law_wides=_:=(by (conv=>lhs; whnf))
  rw [hB]
  have n_0:Nm X 0 "bands":=d.nm rfl (by first | exact .inl rfl | exact .inr (.inl rfl))
  have g_len:Gl X "len":=d.gl rfl
  have g_range:Gl X "range":=d.gl rfl
  have hu:=hu_of hr
  delta F_law_wides CE_law_wides_2 CE_law_wides_1
  refine pdss_one ?_
  refine pds_retF ?_
  refine pf_comp1C (x0:="at") (N':=["at", "bands"]) (nt:=1) (cap:=[0]) d.toDefX ?s1 ?s2 ?s3 ?_ ?_ ?_ ?_ (gext_name (by decide)) (sndG_name 0) ?_ ?_
  case s1=>exact ⟨by rfl,by first | rfl | decide +kernel,by rfl,by decide +kernel,by decide +kernel,by rfl,by decide +kernel⟩
  case s2=>decide
  case s3=>decide +kernel
  exact g_range
  exact T.b_range
  refine pda_cons ?_ ?_
  refine pd_len ?_ ?_ ?_
  exact g_len
  exact T.b_len
  refine pr_of ?_
  refine pd_ix ?_ ?_
  refine pr_of ?_
  refine pd_name ?_
  exact n_0
  exact pd_int
  exact pda_nil
  intro cl C s2 H2 fp d1
  exact pg_nm (d1.nlk (i:=0) rfl rfl)
  intro cl C s2 H2 fp d1
  exact pdi_nil
  intro cl C s2 H2 fp d1
  refine pd_max (d1.gl rfl) ?_ d1.calm ?_
  exact T.b_max
  refine pr_of ?_
  refine pd_of ?_
  refine pf_comp (N':=["band", "at"]) (nt:=1) (cap:=[0]) d1 ?s1 ?s2 ?s3 ?_ ?_ (gext_name (by decide)) (sndG_name 0) ?_ ?_
  case s1=>exact ⟨by rfl,by decide +kernel,by decide +kernel,by decide +kernel,by rfl,by decide +kernel⟩
  case s2=>decide
  case s3=>decide +kernel
  refine pr_of ?_
  exact pd_name (d1.nm (i:=1) rfl (by first | exact .inl rfl | exact .inr (.inl rfl) | exact .inr (.inr rfl)))
  intro cl C s2 H2 fp d2
  exact pg_nm (d2.nlc (i:=0) rfl rfl)
  intro cl C s2 H2 fp d2
  exact pdi_nil
  intro cl C s2 H2 fp d2
  refine pd_len (d2.gl rfl) ?_ ?_
  exact T.b_len
  refine pr_of ?_
  refine pd_ix ?_ ?_
  refine pr_of ?_
  refine pd_ix ?_ ?_
  refine pr_of ?_
  refine pd_ix ?_ ?_
  refine pr_of ?_
  exact pd_name (d2.nm (i:=0) rfl (by first | exact .inl rfl | exact .inr (.inl rfl) | exact .inr (.inr rfl)))
  exact pd_name (d2.nm (i:=1) rfl (by first | exact .inl rfl | exact .inr (.inl rfl) | exact .inr (.inr rfl)))
  exact pd_int
  exact pd_int
theorem body_law_row (T:Txt P w K mg C0 C1 C2 C3 m_Sketch_init m_Grid_init m_Word_init m_Sketch_spots m_Root_spots m_Grid_spots m_Sketch_row_within m_Word_row_within m_Sketch_row m_Root_row_within m_Grid_row_within m_Grid_band_row m_Sketch_rows m_Root_init) :BodyOk P w K mg base (ct C0 C1 C2 C3) ["piece", "k"] s_law_row 0 F_law_row:=by
  refine ⟨fun X hP hw hK hmg hb d hr=>?_⟩
  subst hP hw hK hmg hb
  have hS:defScope s_law_row=_:=(by (conv=>lhs; whnf))
  rw [hS] at d
  have hB:defBody s_law_row=_:=(by (conv=>lhs; whnf))
  rw [hB]
  have n_0:Nm X 0 "piece":=d.nm rfl (by first | exact .inl rfl | exact .inr (.inl rfl))
  have n_1:Nm X 1 "k":=d.nm rfl (by first | exact .inl rfl | exact .inr (.inl rfl))
  have g_len:Gl X "len":=d.gl rfl
  have hu:=hu_of hr
  delta F_law_row
  refine pdss_cons ?_ ?_
  refine pds_if ?_ ?_ ?_
  refine pdt_chain .le .lt ?_ ?_ ?_
  exact pd_int
  refine pd_add ?_ ?_
  refine pr_of ?_
  refine pd_name ?_
  exact n_1
  refine pr_of ?_
  refine pd_ix ?_ ?_
  refine pr_of ?_
  refine pd_name ?_
  exact n_0
  exact pd_int
  refine pd_len ?_ ?_ ?_
  exact g_len
  exact T.b_len
  refine pr_of ?_
  refine pd_ix ?_ ?_
  refine pr_of ?_
  refine pd_name ?_
  exact n_0
  exact pd_int
  refine pdss_one ?_
  refine pds_ret ?_
  refine pd_ix ?_ ?_
  refine pr_of ?_
  refine pd_ix ?_ ?_
  refine pr_of ?_
  refine pd_name ?_
  exact n_0
  exact pd_int
  refine pd_add ?_ ?_
  refine pr_of ?_
  refine pd_name ?_
  exact n_1
  refine pr_of ?_
  refine pd_ix ?_ ?_
  refine pr_of ?_
  refine pd_name ?_
  exact n_0
  exact pd_int
  exact pdss_nil
  refine pdss_one ?_
  refine pds_ret ?_
  refine pd_mul ?_ ?_
  refine pr_of ?_
  exact pd_str (by decide +kernel)
  refine pd_len ?_ ?_ ?_
  exact g_len
  exact T.b_len
  refine pr_of ?_
  refine pd_ix ?_ ?_
  refine pr_of ?_
  refine pd_ix ?_ ?_
  refine pr_of ?_
  refine pd_name ?_
  exact n_0
  exact pd_int
  exact pd_int
theorem body_law_band (T:Txt P w K mg C0 C1 C2 C3 m_Sketch_init m_Grid_init m_Word_init m_Sketch_spots m_Root_spots m_Grid_spots m_Sketch_row_within m_Word_row_within m_Sketch_row m_Root_row_within m_Grid_row_within m_Grid_band_row m_Sketch_rows m_Root_init)(G_law_row:Def P w K mg base (ct C0 C1 C2 C3) "_law_row" ["piece", "k"] 1 D_law_row):BodyOk P w K mg base (ct C0 C1 C2 C3) ["band", "wides", "up", "down", "rows", "k", "some"] s_law_band 1 F_law_band:=by
  refine ⟨fun X hP hw hK hmg hb d hr=>?_⟩
  subst hP hw hK hmg hb
  have hS:defScope s_law_band=_:=(by (conv=>lhs; whnf))
  rw [hS] at d
  have hB:defBody s_law_band=_:=(by (conv=>lhs; whnf))
  rw [hB]
  have n_0:Nm X 0 "band":=d.nm rfl (by first | exact .inl rfl | exact .inr (.inl rfl))
  have n_1:Nm X 1 "wides":=d.nm rfl (by first | exact .inl rfl | exact .inr (.inl rfl))
  have n_2:Nm X 2 "up":=d.nm rfl (by first | exact .inl rfl | exact .inr (.inl rfl))
  have n_3:Nm X 3 "down":=d.nm rfl (by first | exact .inl rfl | exact .inr (.inl rfl))
  have n_4:Nm X 4 "rows":=d.nm rfl (by first | exact .inl rfl | exact .inr (.inl rfl))
  have n_6:Nm X 6 "some":=d.nm rfl (by first | exact .inl rfl | exact .inr (.inl rfl))
  have l_2:Nl X 2 "up":=d.nl rfl (by first | exact .inl rfl | exact .inr rfl)
  have l_3:Nl X 3 "down":=d.nl rfl (by first | exact .inl rfl | exact .inr rfl)
  have l_4:Nl X 4 "rows":=d.nl rfl (by first | exact .inl rfl | exact .inr rfl)
  have l_5:Nl X 5 "k":=d.nl rfl (by first | exact .inl rfl | exact .inr rfl)
  have l_6:Nl X 6 "some":=d.nl rfl (by first | exact .inl rfl | exact .inr rfl)
  have g_max:Gl X "max":=d.gl rfl
  have g_range:Gl X "range":=d.gl rfl
  have g_zip:Gl X "zip":=d.gl rfl
  have hu:=hu_of hr
  delta F_law_band LB_law_band_5 CE_law_band_4 CE_law_band_3 CE_law_band_2 CE_law_band_1
  refine pdss_cons ?_ ?_
  refine pds_set ?_ ?_
  exact l_2
  refine pd_max ?_ ?_ d.calm ?_
  exact g_max
  exact T.b_max
  refine pr_of ?_
  refine pd_of ?_
  refine pf_comp (N':=["piece"]) (nt:=1) (cap:=[]) d.toDefX ?s1 ?s2 ?s3 ?_ ?_ (gext_name (by decide)) (sndG_name 0) ?_ ?_
  case s1=>exact ⟨by rfl,by decide +kernel,by decide +kernel,by decide +kernel,by rfl,by decide +kernel⟩
  case s2=>decide
  case s3=>decide +kernel
  refine pr_of ?_
  refine pd_name ?_
  exact n_0
  intro cl C s2 H2 fp d1
  exact pg_nm (d1.nlc (i:=0) rfl rfl)
  intro cl C s2 H2 fp d1
  exact pdi_nil
  intro cl C s2 H2 fp d1
  refine pd_ix ?_ ?_
  refine pr_of ?_
  exact pd_name (d1.nm (i:=0) rfl (by first | exact .inl rfl | exact .inr (.inl rfl) | exact .inr (.inr rfl)))
  exact pd_int
  refine pdss_cons ?_ ?_
  refine pds_set ?_ ?_
  exact l_3
  refine pd_max ?_ ?_ d.calm ?_
  exact g_max
  exact T.b_max
  refine pr_of ?_
  refine pd_of ?_
  refine pf_comp (N':=["piece"]) (nt:=1) (cap:=[]) d.toDefX ?s1 ?s2 ?s3 ?_ ?_ (gext_name (by decide)) (sndG_name 0) ?_ ?_
  case s1=>exact ⟨by rfl,by decide +kernel,by decide +kernel,by decide +kernel,by rfl,by decide +kernel⟩
  case s2=>decide
  case s3=>decide +kernel
  refine pr_of ?_
  refine pd_name ?_
  exact n_0
  intro cl C s2 H2 fp d1
  exact pg_nm (d1.nlc (i:=0) rfl rfl)
  intro cl C s2 H2 fp d1
  exact pdi_nil
  intro cl C s2 H2 fp d1
  refine pd_sub ?_ ?_
  refine pd_sub ?_ ?_
  refine pd_len (d1.gl rfl) ?_ ?_
  exact T.b_len
  refine pr_of ?_
  refine pd_ix ?_ ?_
  refine pr_of ?_
  exact pd_name (d1.nm (i:=0) rfl (by first | exact .inl rfl | exact .inr (.inl rfl) | exact .inr (.inr rfl)))
  exact pd_int
  exact pd_int
  refine pd_ix ?_ ?_
  refine pr_of ?_
  exact pd_name (d1.nm (i:=0) rfl (by first | exact .inl rfl | exact .inr (.inl rfl) | exact .inr (.inr rfl)))
  exact pd_int
  refine pdss_cons ?_ ?_
  refine pds_own ?_ ?_
  exact l_4
  refine pf_lst ?_
  exact pda_nil
  refine pdss_cons ?_ ?_
  refine pds_for2 d.never d.calm (sndG_name 5) ?_ ?_ ?_ ?_ ?_
  refine pg_nm ?_
  exact l_5
  exact g_range
  exact T.b_range
  refine pda_cons ?_ ?_
  refine pd_neg ?_
  refine pd_name ?_
  exact n_2
  refine pda_cons ?_ ?_
  refine pd_add ?_ ?_
  refine pr_of ?_
  refine pd_name ?_
  exact n_3
  refine pr_of ?_
  exact pd_int
  exact pda_nil
  refine pdss_cons ?_ ?_
  refine pds_setc d.toDefX ?_ ?_ ?s1
  case s1=>decide +kernel
  exact l_6
  refine pfc_comp (N':=["piece", "k"]) (nt:=1) (cap:=[5]) d.toDefX ?s1 ?s2 ?s3 ?_ ?_ (gext_name (by decide)) (sndG_name 0) ?_ ?_
  case s1=>exact ⟨by rfl,by decide +kernel,by decide +kernel,by decide +kernel,by rfl,by decide +kernel⟩
  case s2=>decide
  case s3=>decide +kernel
  refine pr_of ?_
  refine pd_name ?_
  exact n_0
  intro cl C s2 H2 fp d1
  exact pg_nm (d1.nlc (i:=0) rfl rfl)
  intro cl C s2 H2 fp d1
  exact pdi_nil
  intro cl C s2 H2 fp d1
  refine pd_def (X:=compCx _ _ _ _ _ _ _ _) G_law_row hr ?s1 (d1.gl rfl) ?_
  case s1=>decide
  refine pda_cons ?_ ?_
  exact pd_name (d1.nm (i:=0) rfl (by first | exact .inl rfl | exact .inr (.inl rfl) | exact .inr (.inr rfl)))
  refine pda_cons ?_ ?_
  exact pd_name (d1.nm (i:=1) rfl (by first | exact .inl rfl | exact .inr (.inl rfl) | exact .inr (.inr rfl)))
  exact pda_nil
  refine pdss_one ?_
  refine pds_append ?_ ?_
  exact n_4
  refine pd_join ?_ ?_
  exact pd_str (by decide +kernel)
  refine pr_of ?_
  refine pd_of ?_
  refine pf_compZ (N':=["row", "wide"]) (nt:=2) (cap:=[]) d.toDefX ?s1 ?s2 ?s3 ?_ ?_ ?_ ?_ (gext_two (by decide) (by decide)) (sndG_tup (sndGs_cons 0 (sndGs_cons 1 sndGs_nil))) ?_ ?_
  case s1=>exact ⟨by rfl,by decide +kernel,by decide +kernel,by decide +kernel,by rfl,by decide +kernel⟩
  case s2=>decide
  case s3=>decide +kernel
  exact g_zip
  exact T.b_zip
  refine pda_cons ?_ ?_
  refine pd_name ?_
  exact n_6
  refine pda_cons ?_ ?_
  refine pd_name ?_
  exact n_1
  exact pda_nil
  intro cl C s2 H2 fp d1
  refine pg_tup d1.calm ?_
  refine pgs_cons ?_ ?_
  exact pg_nm (d1.nlc (i:=0) rfl rfl)
  refine pgs_cons ?_ ?_
  exact pg_nm (d1.nlc (i:=1) rfl rfl)
  exact pgs_nil
  intro cl C s2 H2 fp d1
  exact pdi_nil
  intro cl C s2 H2 fp d1
  refine pd_add ?_ ?_
  refine pr_of ?_
  refine pd_mul ?_ ?_
  refine pr_of ?_
  exact pd_str (by decide +kernel)
  refine pd_sub ?_ ?_
  exact pd_name (d1.nm (i:=1) rfl (by first | exact .inl rfl | exact .inr (.inl rfl) | exact .inr (.inr rfl)))
  refine pd_len (d1.gl rfl) ?_ ?_
  exact T.b_len
  refine pr_of ?_
  exact pd_name (d1.nm (i:=0) rfl (by first | exact .inl rfl | exact .inr (.inl rfl) | exact .inr (.inr rfl)))
  refine pr_of ?_
  exact pd_name (d1.nm (i:=0) rfl (by first | exact .inl rfl | exact .inr (.inl rfl) | exact .inr (.inr rfl)))
  refine pdss_frz ?_
  refine pdss_one ?_
  refine pds_ret ?_
  refine pd_tup ?_
  refine pda_cons ?_ ?_
  refine pd_name ?_
  exact n_4
  refine pda_cons ?_ ?_
  refine pd_name ?_
  exact n_2
  exact pda_nil
theorem body_law_inner (T:Txt P w K mg C0 C1 C2 C3 m_Sketch_init m_Grid_init m_Word_init m_Sketch_spots m_Root_spots m_Grid_spots m_Sketch_row_within m_Word_row_within m_Sketch_row m_Root_row_within m_Grid_row_within m_Grid_band_row m_Sketch_rows m_Root_init)(G_law_wides:DefF P w K mg base (ct C0 C1 C2 C3) "_law_wides" ["bands"] 1 D_law_wides)(G_law_band:Def P w K mg base (ct C0 C1 C2 C3) "_law_band" ["band", "wides"] 2 D_law_band):BodyOk P w K mg base (ct C0 C1 C2 C3) ["bands", "wides", "rows", "bases", "band", "some", "up"] s_law_inner 2 F_law_inner:=by
  refine ⟨fun X hP hw hK hmg hb d hr=>?_⟩
  subst hP hw hK hmg hb
  have hS:defScope s_law_inner=_:=(by (conv=>lhs; whnf))
  rw [hS] at d
  have hB:defBody s_law_inner=_:=(by (conv=>lhs; whnf))
  rw [hB]
  have n_0:Nm X 0 "bands":=d.nm rfl (by first | exact .inl rfl | exact .inr (.inl rfl))
  have n_1:Nm X 1 "wides":=d.nm rfl (by first | exact .inl rfl | exact .inr (.inl rfl))
  have n_2:Nm X 2 "rows":=d.nm rfl (by first | exact .inl rfl | exact .inr (.inl rfl))
  have n_3:Nm X 3 "bases":=d.nm rfl (by first | exact .inl rfl | exact .inr (.inl rfl))
  have n_4:Nm X 4 "band":=d.nm rfl (by first | exact .inl rfl | exact .inr (.inl rfl))
  have n_5:Nm X 5 "some":=d.nm rfl (by first | exact .inl rfl | exact .inr (.inl rfl))
  have n_6:Nm X 6 "up":=d.nm rfl (by first | exact .inl rfl | exact .inr (.inl rfl))
  have l_1:Nl X 1 "wides":=d.nl rfl (by first | exact .inl rfl | exact .inr rfl)
  have l_2:Nl X 2 "rows":=d.nl rfl (by first | exact .inl rfl | exact .inr rfl)
  have l_3:Nl X 3 "bases":=d.nl rfl (by first | exact .inl rfl | exact .inr rfl)
  have l_4:Nl X 4 "band":=d.nl rfl (by first | exact .inl rfl | exact .inr rfl)
  have l_5:Nl X 5 "some":=d.nl rfl (by first | exact .inl rfl | exact .inr rfl)
  have l_6:Nl X 6 "up":=d.nl rfl (by first | exact .inl rfl | exact .inr rfl)
  have g_law_band:Gl X "_law_band":=d.gl rfl
  have g_law_wides:Gl X "_law_wides":=d.gl rfl
  have g_len:Gl X "len":=d.gl rfl
  have g_sum:Gl X "sum":=d.gl rfl
  have hu:=hu_of hr
  delta F_law_inner LB_law_inner_1
  refine pdss_cons ?_ ?_
  refine pds_set ?_ ?_
  exact l_1
  refine pd_of ?_
  refine pf_def G_law_wides hr ?s1 ?_ ?_
  case s1=>decide
  exact g_law_wides
  refine pda_cons ?_ ?_
  refine pd_name ?_
  exact n_0
  exact pda_nil
  refine pdss_cons ?_ ?_
  refine pds_own ?_ ?_
  exact l_2
  refine pf_lst ?_
  exact pda_nil
  refine pdss_cons ?_ ?_
  refine pds_own ?_ ?_
  exact l_3
  refine pf_lst ?_
  exact pda_nil
  refine pdss_cons ?_ ?_
  refine pds_for d.never d.calm (sndG_name 4) ?_ ?_ ?_
  refine pg_nm ?_
  exact l_4
  refine pd_name ?_
  exact n_0
  refine pdss_cons ?_ ?_
  refine pds_if ?_ ?_ ?_
  refine pdt_ne hr ?_ ?_
  refine pr_name ?_
  exact n_2
  refine pr_of ?_
  refine pd_of ?_
  refine pf_lst ?_
  exact pda_nil
  refine pdss_one ?_
  refine pds_append ?_ ?_
  exact n_2
  refine pd_mul ?_ ?_
  refine pr_of ?_
  exact pd_str (by decide +kernel)
  refine pd_sub ?_ ?_
  refine pd_add ?_ ?_
  refine pr_of ?_
  refine pd_sum ?_ ?_ d.calm ?_
  exact g_sum
  exact T.b_sum
  refine pr_of ?_
  refine pd_name ?_
  exact n_1
  refine pr_of ?_
  refine pd_mul ?_ ?_
  refine pr_of ?_
  exact pd_int
  refine pd_len ?_ ?_ ?_
  exact g_len
  exact T.b_len
  refine pr_of ?_
  refine pd_name ?_
  exact n_1
  exact pd_int
  exact pdss_nil
  refine pdss_cons ?_ ?_
  refine pds_unp (sndG_tup (sndGs_cons 5 (sndGs_cons 6 sndGs_nil))) ?_ ?_
  refine pg_tup d.calm ?_
  refine pgs_cons ?_ ?_
  refine pg_nm ?_
  exact l_5
  refine pgs_cons ?_ ?_
  refine pg_nm ?_
  exact l_6
  exact pgs_nil
  refine pd_def G_law_band hr ?s1 ?_ ?_
  case s1=>decide
  exact g_law_band
  refine pda_cons ?_ ?_
  refine pd_name ?_
  exact n_4
  refine pda_cons ?_ ?_
  refine pd_name ?_
  exact n_1
  exact pda_nil
  refine pdss_cons ?_ ?_
  refine pds_append ?_ ?_
  exact n_3
  refine pd_add ?_ ?_
  refine pr_of ?_
  refine pd_len ?_ ?_ ?_
  exact g_len
  exact T.b_len
  refine pr_name ?_
  exact n_2
  refine pr_of ?_
  refine pd_name ?_
  exact n_6
  refine pdss_one ?_
  refine pds_own ?_ ?_
  exact l_2
  refine pf_add ?_ ?_
  refine pr_name ?_
  exact n_2
  refine pr_of ?_
  refine pd_name ?_
  exact n_5
  refine pdss_frz ?_
  refine pdss_frz ?_
  refine pdss_one ?_
  refine pds_ret ?_
  refine pd_tup ?_
  refine pda_cons ?_ ?_
  refine pd_name ?_
  exact n_2
  refine pda_cons ?_ ?_
  refine pd_name ?_
  exact n_3
  exact pda_nil
theorem body_law_sided (T:Txt P w K mg C0 C1 C2 C3 m_Sketch_init m_Grid_init m_Word_init m_Sketch_spots m_Root_spots m_Grid_spots m_Sketch_row_within m_Word_row_within m_Sketch_row m_Root_row_within m_Grid_row_within m_Grid_band_row m_Sketch_rows m_Root_init) :BodyOk P w K mg base (ct C0 C1 C2 C3) ["inner", "middle", "rows"] s_law_sided 0 F_law_sided:=by
  refine ⟨fun X hP hw hK hmg hb d hr=>?_⟩
  subst hP hw hK hmg hb
  have hS:defScope s_law_sided=_:=(by (conv=>lhs; whnf))
  rw [hS] at d
  have hB:defBody s_law_sided=_:=(by (conv=>lhs; whnf))
  rw [hB]
  have n_0:Nm X 0 "inner":=d.nm rfl (by first | exact .inl rfl | exact .inr (.inl rfl))
  have n_1:Nm X 1 "middle":=d.nm rfl (by first | exact .inl rfl | exact .inr (.inl rfl))
  have n_2:Nm X 2 "rows":=d.nm rfl (by first | exact .inl rfl | exact .inr (.inl rfl))
  have l_1:Nl X 1 "middle":=d.nl rfl (by first | exact .inl rfl | exact .inr rfl)
  have l_2:Nl X 2 "rows":=d.nl rfl (by first | exact .inl rfl | exact .inr rfl)
  have g_len:Gl X "len":=d.gl rfl
  have hu:=hu_of hr
  delta F_law_sided CE_law_sided_1
  refine pdss_cons ?_ ?_
  refine pds_set ?_ ?_
  exact l_1
  refine pd_fdiv ?_ ?_
  refine pd_sub ?_ ?_
  refine pd_len ?_ ?_ ?_
  exact g_len
  exact T.b_len
  refine pr_of ?_
  refine pd_name ?_
  exact n_0
  exact pd_int
  exact pd_int
  refine pdss_cons ?_ ?_
  refine pds_ownc d.toDefX ?_ ?_ ?s1
  case s1=>decide +kernel
  exact l_2
  refine pfc_comp (N':=["row"]) (nt:=1) (cap:=[]) d.toDefX ?s1 ?s2 ?s3 ?_ ?_ (gext_name (by decide)) (sndG_name 0) ?_ ?_
  case s1=>exact ⟨by rfl,by decide +kernel,by decide +kernel,by decide +kernel,by rfl,by decide +kernel⟩
  case s2=>decide
  case s3=>decide +kernel
  refine pr_of ?_
  refine pd_name ?_
  exact n_0
  intro cl C s2 H2 fp d1
  exact pg_nm (d1.nlc (i:=0) rfl rfl)
  intro cl C s2 H2 fp d1
  exact pdi_nil
  intro cl C s2 H2 fp d1
  refine pd_add ?_ ?_
  refine pr_of ?_
  refine pd_add ?_ ?_
  refine pr_of ?_
  exact pd_str (by decide +kernel)
  refine pr_of ?_
  exact pd_name (d1.nm (i:=0) rfl (by first | exact .inl rfl | exact .inr (.inl rfl) | exact .inr (.inr rfl)))
  refine pr_of ?_
  exact pd_str (by decide +kernel)
  refine pdss_cons ?_ ?_
  refine pds_item ?_ ?_ ?_
  exact n_2
  refine pd_name ?_
  exact n_1
  refine pd_add ?_ ?_
  refine pr_of ?_
  refine pd_add ?_ ?_
  refine pr_of ?_
  exact pd_str (by decide +kernel)
  refine pr_of ?_
  refine pd_ix ?_ ?_
  refine pr_of ?_
  refine pd_name ?_
  exact n_0
  refine pd_name ?_
  exact n_1
  refine pr_of ?_
  exact pd_str (by decide +kernel)
  refine pdss_frz ?_
  refine pdss_one ?_
  refine pds_ret ?_
  refine pd_tup ?_
  refine pda_cons ?_ ?_
  refine pd_name ?_
  exact n_2
  refine pda_cons ?_ ?_
  refine pd_name ?_
  exact n_1
  exact pda_nil
theorem body_law_due_spots (T:Txt P w K mg C0 C1 C2 C3 m_Sketch_init m_Grid_init m_Word_init m_Sketch_spots m_Root_spots m_Grid_spots m_Sketch_row_within m_Word_row_within m_Sketch_row m_Root_row_within m_Grid_row_within m_Grid_band_row m_Sketch_rows m_Root_init)(G_law_wides:DefF P w K mg base (ct C0 C1 C2 C3) "_law_wides" ["bands"] 1 D_law_wides):BodyOk P w K mg base (ct C0 C1 C2 C3) ["bands", "bases", "up", "due", "wides", "band", "base", "right", "piece", "wide"] s_law_due_spots 1 F_law_due_spots:=by
  refine ⟨fun X hP hw hK hmg hb d hr=>?_⟩
  subst hP hw hK hmg hb
  have hS:defScope s_law_due_spots=_:=(by (conv=>lhs; whnf))
  rw [hS] at d
  have hB:defBody s_law_due_spots=_:=(by (conv=>lhs; whnf))
  rw [hB]
  have n_0:Nm X 0 "bands":=d.nm rfl (by first | exact .inl rfl | exact .inr (.inl rfl))
  have n_1:Nm X 1 "bases":=d.nm rfl (by first | exact .inl rfl | exact .inr (.inl rfl))
  have n_2:Nm X 2 "up":=d.nm rfl (by first | exact .inl rfl | exact .inr (.inl rfl))
  have n_3:Nm X 3 "due":=d.nm rfl (by first | exact .inl rfl | exact .inr (.inl rfl))
  have n_4:Nm X 4 "wides":=d.nm rfl (by first | exact .inl rfl | exact .inr (.inl rfl))
  have n_5:Nm X 5 "band":=d.nm rfl (by first | exact .inl rfl | exact .inr (.inl rfl))
  have n_6:Nm X 6 "base":=d.nm rfl (by first | exact .inl rfl | exact .inr (.inl rfl))
  have n_7:Nm X 7 "right":=d.nm rfl (by first | exact .inl rfl | exact .inr (.inl rfl))
  have n_8:Nm X 8 "piece":=d.nm rfl (by first | exact .inl rfl | exact .inr (.inl rfl))
  have n_9:Nm X 9 "wide":=d.nm rfl (by first | exact .inl rfl | exact .inr (.inl rfl))
  have l_3:Nl X 3 "due":=d.nl rfl (by first | exact .inl rfl | exact .inr rfl)
  have l_4:Nl X 4 "wides":=d.nl rfl (by first | exact .inl rfl | exact .inr rfl)
  have l_5:Nl X 5 "band":=d.nl rfl (by first | exact .inl rfl | exact .inr rfl)
  have l_6:Nl X 6 "base":=d.nl rfl (by first | exact .inl rfl | exact .inr rfl)
  have l_7:Nl X 7 "right":=d.nl rfl (by first | exact .inl rfl | exact .inr rfl)
  have l_8:Nl X 8 "piece":=d.nl rfl (by first | exact .inl rfl | exact .inr rfl)
  have l_9:Nl X 9 "wide":=d.nl rfl (by first | exact .inl rfl | exact .inr rfl)
  have g_law_wides:Gl X "_law_wides":=d.gl rfl
  have g_len:Gl X "len":=d.gl rfl
  have g_zip:Gl X "zip":=d.gl rfl
  have hu:=hu_of hr
  delta F_law_due_spots LB_law_due_spots_2 LB_law_due_spots_1
  refine pdss_cons ?_ ?_
  refine pds_own ?_ ?_
  exact l_3
  refine pf_lst ?_
  exact pda_nil
  refine pdss_cons ?_ ?_
  refine pds_set ?_ ?_
  exact l_4
  refine pd_of ?_
  refine pf_def G_law_wides hr ?s1 ?_ ?_
  case s1=>decide
  exact g_law_wides
  refine pda_cons ?_ ?_
  refine pd_name ?_
  exact n_0
  exact pda_nil
  refine pdss_cons ?_ ?_
  refine pds_forZ d.never d.calm (sndG_tup (sndGs_cons 5 (sndGs_cons 6 sndGs_nil))) ?_ ?_ ?_ ?_ ?_
  refine pg_tup d.calm ?_
  refine pgs_cons ?_ ?_
  refine pg_nm ?_
  exact l_5
  refine pgs_cons ?_ ?_
  refine pg_nm ?_
  exact l_6
  exact pgs_nil
  exact g_zip
  exact T.b_zip
  refine pda_cons ?_ ?_
  refine pd_name ?_
  exact n_0
  refine pda_cons ?_ ?_
  refine pd_name ?_
  exact n_1
  exact pda_nil
  refine pdss_cons ?_ ?_
  refine pds_set ?_ ?_
  exact l_7
  exact pd_int
  refine pdss_one ?_
  refine pds_forZ d.never d.calm (sndG_tup (sndGs_cons 8 (sndGs_cons 9 sndGs_nil))) ?_ ?_ ?_ ?_ ?_
  refine pg_tup d.calm ?_
  refine pgs_cons ?_ ?_
  refine pg_nm ?_
  exact l_8
  refine pgs_cons ?_ ?_
  refine pg_nm ?_
  exact l_9
  exact pgs_nil
  exact g_zip
  exact T.b_zip
  refine pda_cons ?_ ?_
  refine pd_name ?_
  exact n_5
  refine pda_cons ?_ ?_
  refine pd_name ?_
  exact n_4
  exact pda_nil
  refine pdss_cons ?_ ?_
  refine pds_append ?_ ?_
  exact n_3
  refine pd_tup ?_
  refine pda_cons ?_ ?_
  refine pd_name ?_
  exact n_8
  refine pda_cons ?_ ?_
  refine pd_sub ?_ ?_
  refine pd_name ?_
  exact n_6
  refine pd_name ?_
  exact n_2
  refine pda_cons ?_ ?_
  refine pd_sub ?_ ?_
  refine pd_add ?_ ?_
  refine pr_of ?_
  refine pd_name ?_
  exact n_7
  refine pr_of ?_
  refine pd_name ?_
  exact n_9
  refine pd_len ?_ ?_ ?_
  exact g_len
  exact T.b_len
  refine pr_of ?_
  refine pd_ix ?_ ?_
  refine pr_of ?_
  refine pd_ix ?_ ?_
  refine pr_of ?_
  refine pd_name ?_
  exact n_8
  exact pd_int
  exact pd_int
  exact pda_nil
  refine pdss_one ?_
  refine pds_set ?_ ?_
  exact l_7
  refine pd_add ?_ ?_
  refine pr_of ?_
  refine pd_add ?_ ?_
  refine pr_of ?_
  refine pd_name ?_
  exact n_7
  refine pr_of ?_
  refine pd_name ?_
  exact n_9
  refine pr_of ?_
  exact pd_int
  refine pdss_one ?_
  refine pds_retO ?_
  exact n_3
theorem body_Word_init (T:Txt P w K mg C0 C1 C2 C3 m_Sketch_init m_Grid_init m_Word_init m_Sketch_spots m_Root_spots m_Grid_spots m_Sketch_row_within m_Word_row_within m_Sketch_row m_Root_row_within m_Grid_row_within m_Grid_band_row m_Sketch_rows m_Root_init)  (B_Sketch:BaseG P w K mg base (ct C0 C1 C2 C3) "Sketch" 3 1 I_Sketch):BodyOk P w K mg base (ct C0 C1 C2 C3) ["self", "word"] s_Word_init 2 F_Word_init:=by
  refine ⟨fun X hP hw hK hmg hb d hr=>?_⟩
  subst hP hw hK hmg hb
  have hS:defScope s_Word_init=_:=(by (conv=>lhs; whnf))
  rw [hS] at d
  have hB:defBody s_Word_init=_:=(by (conv=>lhs; whnf))
  rw [hB]
  have n_0:Nm X 0 "self":=d.nm rfl (by first | exact .inl rfl | exact .inr (.inl rfl))
  have n_1:Nm X 1 "word":=d.nm rfl (by first | exact .inl rfl | exact .inr (.inl rfl))
  have g_Sketch:Gl X "Sketch":=d.gl rfl
  have g_len:Gl X "len":=d.gl rfl
  have hu:=hu_of hr
  delta F_Word_init
  refine pdss_cons ?_ ?_
  refine pds_base B_Sketch hr ?s1 ?_ ?_ ?_
  case s1=>decide
  exact g_Sketch
  exact n_0
  refine pda_cons ?_ ?_
  refine pd_len ?_ ?_ ?_
  exact g_len
  exact T.b_len
  refine pr_of ?_
  refine pd_name ?_
  exact n_1
  refine pda_cons ?_ ?_
  exact pd_int
  refine pda_cons ?_ ?_
  exact pd_int
  exact pda_nil
  refine pdss_one ?_
  refine pds_fld T.fo_3 rfl ?_ ?_
  exact n_0
  refine pd_name ?_
  exact n_1
theorem body_Sketch_spots (T:Txt P w K mg C0 C1 C2 C3 m_Sketch_init m_Grid_init m_Word_init m_Sketch_spots m_Root_spots m_Grid_spots m_Sketch_row_within m_Word_row_within m_Sketch_row m_Root_row_within m_Grid_row_within m_Grid_band_row m_Sketch_rows m_Root_init) :BodyOk P w K mg base (ct C0 C1 C2 C3) ["self"] s_Sketch_spots 0 F_Sketch_spots:=by
  refine ⟨fun X hP hw hK hmg hb d hr=>?_⟩
  subst hP hw hK hmg hb
  have hS:defScope s_Sketch_spots=_:=(by (conv=>lhs; whnf))
  rw [hS] at d
  have hB:defBody s_Sketch_spots=_:=(by (conv=>lhs; whnf))
  rw [hB]
  have hu:=hu_of hr
  delta F_Sketch_spots
  refine pdss_one ?_
  refine pds_retF ?_
  refine pf_lst ?_
  exact pda_nil
theorem body_Root_spots (T:Txt P w K mg C0 C1 C2 C3 m_Sketch_init m_Grid_init m_Word_init m_Sketch_spots m_Root_spots m_Grid_spots m_Sketch_row_within m_Word_row_within m_Sketch_row m_Root_row_within m_Grid_row_within m_Grid_band_row m_Sketch_rows m_Root_init) :BodyOk P w K mg base (ct C0 C1 C2 C3) ["self"] s_Root_spots 0 F_Root_spots:=by
  refine ⟨fun X hP hw hK hmg hb d hr=>?_⟩
  subst hP hw hK hmg hb
  have hS:defScope s_Root_spots=_:=(by (conv=>lhs; whnf))
  rw [hS] at d
  have hB:defBody s_Root_spots=_:=(by (conv=>lhs; whnf))
  rw [hB]
  have n_0:Nm X 0 "self":=d.nm rfl (by first | exact .inl rfl | exact .inr (.inl rfl))
  have hu:=hu_of hr
  delta F_Root_spots
  refine pdss_one ?_
  refine pds_retF ?_
  refine pf_lst ?_
  refine pda_cons ?_ ?_
  refine pd_tup ?_
  refine pda_cons ?_ ?_
  refine pd_fld T.fo_4 rfl ?_
  refine pd_name ?_
  exact n_0
  refine pda_cons ?_ ?_
  exact pd_int
  refine pda_cons ?_ ?_
  exact pd_int
  exact pda_nil
  exact pda_nil
theorem body_Grid_spots (T:Txt P w K mg C0 C1 C2 C3 m_Sketch_init m_Grid_init m_Word_init m_Sketch_spots m_Root_spots m_Grid_spots m_Sketch_row_within m_Word_row_within m_Sketch_row m_Root_row_within m_Grid_row_within m_Grid_band_row m_Sketch_rows m_Root_init) :BodyOk P w K mg base (ct C0 C1 C2 C3) ["self", "spots", "band", "low", "right", "sketch", "wide"] s_Grid_spots 0 F_Grid_spots:=by
  refine ⟨fun X hP hw hK hmg hb d hr=>?_⟩
  subst hP hw hK hmg hb
  have hS:defScope s_Grid_spots=_:=(by (conv=>lhs; whnf))
  rw [hS] at d
  have hB:defBody s_Grid_spots=_:=(by (conv=>lhs; whnf))
  rw [hB]
  have n_0:Nm X 0 "self":=d.nm rfl (by first | exact .inl rfl | exact .inr (.inl rfl))
  have n_1:Nm X 1 "spots":=d.nm rfl (by first | exact .inl rfl | exact .inr (.inl rfl))
  have n_2:Nm X 2 "band":=d.nm rfl (by first | exact .inl rfl | exact .inr (.inl rfl))
  have n_3:Nm X 3 "low":=d.nm rfl (by first | exact .inl rfl | exact .inr (.inl rfl))
  have n_4:Nm X 4 "right":=d.nm rfl (by first | exact .inl rfl | exact .inr (.inl rfl))
  have n_5:Nm X 5 "sketch":=d.nm rfl (by first | exact .inl rfl | exact .inr (.inl rfl))
  have n_6:Nm X 6 "wide":=d.nm rfl (by first | exact .inl rfl | exact .inr (.inl rfl))
  have l_1:Nl X 1 "spots":=d.nl rfl (by first | exact .inl rfl | exact .inr rfl)
  have l_2:Nl X 2 "band":=d.nl rfl (by first | exact .inl rfl | exact .inr rfl)
  have l_3:Nl X 3 "low":=d.nl rfl (by first | exact .inl rfl | exact .inr rfl)
  have l_4:Nl X 4 "right":=d.nl rfl (by first | exact .inl rfl | exact .inr rfl)
  have l_5:Nl X 5 "sketch":=d.nl rfl (by first | exact .inl rfl | exact .inr rfl)
  have l_6:Nl X 6 "wide":=d.nl rfl (by first | exact .inl rfl | exact .inr rfl)
  have g_zip:Gl X "zip":=d.gl rfl
  have hu:=hu_of hr
  delta F_Grid_spots LB_Grid_spots_2 LB_Grid_spots_1
  refine pdss_cons ?_ ?_
  refine pds_own ?_ ?_
  exact l_1
  refine pf_lst ?_
  exact pda_nil
  refine pdss_cons ?_ ?_
  refine pds_forZ d.never d.calm (sndG_tup (sndGs_cons 2 (sndGs_cons 3 sndGs_nil))) ?_ ?_ ?_ ?_ ?_
  refine pg_tup d.calm ?_
  refine pgs_cons ?_ ?_
  refine pg_nm ?_
  exact l_2
  refine pgs_cons ?_ ?_
  refine pg_nm ?_
  exact l_3
  exact pgs_nil
  exact g_zip
  exact T.b_zip
  refine pda_cons ?_ ?_
  refine pd_fld T.fo_5 rfl ?_
  refine pd_name ?_
  exact n_0
  refine pda_cons ?_ ?_
  refine pd_fld T.fo_8 rfl ?_
  refine pd_name ?_
  exact n_0
  exact pda_nil
  refine pdss_cons ?_ ?_
  refine pds_set ?_ ?_
  exact l_4
  exact pd_int
  refine pdss_one ?_
  refine pds_forZ d.never d.calm (sndG_tup (sndGs_cons 5 (sndGs_cons 6 sndGs_nil))) ?_ ?_ ?_ ?_ ?_
  refine pg_tup d.calm ?_
  refine pgs_cons ?_ ?_
  refine pg_nm ?_
  exact l_5
  refine pgs_cons ?_ ?_
  refine pg_nm ?_
  exact l_6
  exact pgs_nil
  exact g_zip
  exact T.b_zip
  refine pda_cons ?_ ?_
  refine pd_name ?_
  exact n_2
  refine pda_cons ?_ ?_
  refine pd_fld T.fo_6 rfl ?_
  refine pd_name ?_
  exact n_0
  exact pda_nil
  refine pdss_cons ?_ ?_
  refine pds_append ?_ ?_
  exact n_1
  refine pd_tup ?_
  refine pda_cons ?_ ?_
  refine pd_name ?_
  exact n_5
  refine pda_cons ?_ ?_
  refine pd_name ?_
  exact n_3
  refine pda_cons ?_ ?_
  refine pd_sub ?_ ?_
  refine pd_add ?_ ?_
  refine pr_of ?_
  refine pd_name ?_
  exact n_4
  refine pr_of ?_
  refine pd_name ?_
  exact n_6
  refine pd_fld T.fo_0 rfl ?_
  refine pd_name ?_
  exact n_5
  exact pda_nil
  refine pdss_one ?_
  refine pds_aug_add ?_ ?_
  exact l_4
  refine pd_add ?_ ?_
  refine pr_of ?_
  refine pd_name ?_
  exact n_6
  refine pr_of ?_
  exact pd_int
  refine pdss_one ?_
  refine pds_retO ?_
  exact n_1
theorem body_law_cell_at (T:Txt P w K mg C0 C1 C2 C3 m_Sketch_init m_Grid_init m_Word_init m_Sketch_spots m_Root_spots m_Grid_spots m_Sketch_row_within m_Word_row_within m_Sketch_row m_Root_row_within m_Grid_row_within m_Grid_band_row m_Sketch_rows m_Root_init) :BodyOk P w K mg base (ct C0 C1 C2 C3) ["script", "k"] s_law_cell_at 0 F_law_cell_at:=by
  refine ⟨fun X hP hw hK hmg hb d hr=>?_⟩
  subst hP hw hK hmg hb
  have hS:defScope s_law_cell_at=_:=(by (conv=>lhs; whnf))
  rw [hS] at d
  have hB:defBody s_law_cell_at=_:=(by (conv=>lhs; whnf))
  rw [hB]
  have n_0:Nm X 0 "script":=d.nm rfl (by first | exact .inl rfl | exact .inr (.inl rfl))
  have n_1:Nm X 1 "k":=d.nm rfl (by first | exact .inl rfl | exact .inr (.inl rfl))
  have g_len:Gl X "len":=d.gl rfl
  have hu:=hu_of hr
  delta F_law_cell_at
  refine pdss_cons ?_ ?_
  refine pds_if ?_ ?_ ?_
  refine pdt_lt ?_ ?_
  refine pd_name ?_
  exact n_1
  refine pd_len ?_ ?_ ?_
  exact g_len
  exact T.b_len
  refine pr_of ?_
  refine pd_name ?_
  exact n_0
  refine pdss_one ?_
  refine pds_ret ?_
  refine pd_ix ?_ ?_
  refine pr_of ?_
  refine pd_name ?_
  exact n_0
  refine pd_name ?_
  exact n_1
  exact pdss_nil
  refine pdss_one ?_
  refine pds_ret ?_
  exact pd_int
theorem body_Sketch_row_within (T:Txt P w K mg C0 C1 C2 C3 m_Sketch_init m_Grid_init m_Word_init m_Sketch_spots m_Root_spots m_Grid_spots m_Sketch_row_within m_Word_row_within m_Sketch_row m_Root_row_within m_Grid_row_within m_Grid_band_row m_Sketch_rows m_Root_init) :BodyOk P w K mg base (ct C0 C1 C2 C3) ["self", "k"] s_Sketch_row_within 0 F_Sketch_row_within:=by
  refine ⟨fun X hP hw hK hmg hb d hr=>?_⟩
  subst hP hw hK hmg hb
  have hS:defScope s_Sketch_row_within=_:=(by (conv=>lhs; whnf))
  rw [hS] at d
  have hB:defBody s_Sketch_row_within=_:=(by (conv=>lhs; whnf))
  rw [hB]
  have n_0:Nm X 0 "self":=d.nm rfl (by first | exact .inl rfl | exact .inr (.inl rfl))
  have g_BLANK:Gl X "BLANK":=d.gl rfl
  have hu:=hu_of hr
  delta F_Sketch_row_within
  refine pdss_one ?_
  refine pds_ret ?_
  refine pd_mul ?_ ?_
  refine pr_of ?_
  refine pd_glob ⟨T.c_BLANK⟩ ?_
  exact g_BLANK
  refine pd_fld T.fo_0 rfl ?_
  refine pd_name ?_
  exact n_0
theorem body_Word_row_within (T:Txt P w K mg C0 C1 C2 C3 m_Sketch_init m_Grid_init m_Word_init m_Sketch_spots m_Root_spots m_Grid_spots m_Sketch_row_within m_Word_row_within m_Sketch_row m_Root_row_within m_Grid_row_within m_Grid_band_row m_Sketch_rows m_Root_init) :BodyOk P w K mg base (ct C0 C1 C2 C3) ["self", "k"] s_Word_row_within 0 F_Word_row_within:=by
  refine ⟨fun X hP hw hK hmg hb d hr=>?_⟩
  subst hP hw hK hmg hb
  have hS:defScope s_Word_row_within=_:=(by (conv=>lhs; whnf))
  rw [hS] at d
  have hB:defBody s_Word_row_within=_:=(by (conv=>lhs; whnf))
  rw [hB]
  have n_0:Nm X 0 "self":=d.nm rfl (by first | exact .inl rfl | exact .inr (.inl rfl))
  have hu:=hu_of hr
  delta F_Word_row_within
  refine pdss_one ?_
  refine pds_ret ?_
  refine pd_fld T.fo_3 rfl ?_
  refine pd_name ?_
  exact n_0
theorem body_Sketch_row (T:Txt P w K mg C0 C1 C2 C3 m_Sketch_init m_Grid_init m_Word_init m_Sketch_spots m_Root_spots m_Grid_spots m_Sketch_row_within m_Word_row_within m_Sketch_row m_Root_row_within m_Grid_row_within m_Grid_band_row m_Sketch_rows m_Root_init)  {kr:Nat} (hk : 1≤kr) {R:Rec0} (GR:RecG0 P w K mg base C0 C1 C2 C3 m_Sketch_init m_Grid_init m_Word_init m_Sketch_spots m_Root_spots m_Grid_spots m_Sketch_row_within m_Word_row_within m_Sketch_row m_Root_row_within m_Grid_row_within m_Grid_band_row m_Sketch_rows m_Root_init kr R) (G_Sketch_row_within:UnD P w K mg base (ct C0 C1 C2 C3) m_Sketch_row_within ["self", "k"] 1 D_Sketch_row_within) (G_Word_row_within:UnD P w K mg base (ct C0 C1 C2 C3) m_Word_row_within ["self", "k"] 1 D_Word_row_within):BodyOk P w K mg base (ct C0 C1 C2 C3) ["self", "k"] s_Sketch_row kr (F_Sketch_row R):=by
  have Q_row_within:=mt_row_within T G_Sketch_row_within G_Word_row_within hk GR
  refine ⟨fun X hP hw hK hmg hb d hr=>?_⟩
  subst hP hw hK hmg hb
  have hS:defScope s_Sketch_row=_:=(by (conv=>lhs; whnf))
  rw [hS] at d
  have hB:defBody s_Sketch_row=_:=(by (conv=>lhs; whnf))
  rw [hB]
  have n_0:Nm X 0 "self":=d.nm rfl (by first | exact .inl rfl | exact .inr (.inl rfl))
  have n_1:Nm X 1 "k":=d.nm rfl (by first | exact .inl rfl | exact .inr (.inl rfl))
  have g_BLANK:Gl X "BLANK":=d.gl rfl
  have hu:=hu_of hr
  delta F_Sketch_row
  refine pdss_cons ?_ ?_
  refine pds_if ?_ ?_ ?_
  refine PDW.pt ?_
  refine pdw_or ?_ ?_
  refine pdt_lt ?_ ?_
  refine pd_name ?_
  exact n_1
  refine pd_neg ?_
  refine pd_fld T.fo_1 rfl ?_
  refine pd_name ?_
  exact n_0
  refine pdw_or1 ?_
  refine pdt_gt ?_ ?_
  refine pd_name ?_
  exact n_1
  refine pd_fld T.fo_2 rfl ?_
  refine pd_name ?_
  exact n_0
  refine pdss_one ?_
  refine pds_ret ?_
  refine pd_mul ?_ ?_
  refine pr_of ?_
  refine pd_glob ⟨T.c_BLANK⟩ ?_
  exact g_BLANK
  refine pd_fld T.fo_0 rfl ?_
  refine pd_name ?_
  exact n_0
  exact pdss_nil
  refine pdss_one ?_
  refine pds_ret ?_
  refine pd_meth Q_row_within hr ?s1 ?_ ?_
  case s1=>first | decide | omega
  refine pd_name ?_
  exact n_0
  refine pda_cons ?_ ?_
  refine pd_name ?_
  exact n_1
  exact pda_nil
theorem body_Root_row_within (T:Txt P w K mg C0 C1 C2 C3 m_Sketch_init m_Grid_init m_Word_init m_Sketch_spots m_Root_spots m_Grid_spots m_Sketch_row_within m_Word_row_within m_Sketch_row m_Root_row_within m_Grid_row_within m_Grid_band_row m_Sketch_rows m_Root_init)  {kr:Nat} (hk : 1≤kr) {R:Rec0} (GR:RecG0 P w K mg base C0 C1 C2 C3 m_Sketch_init m_Grid_init m_Word_init m_Sketch_spots m_Root_spots m_Grid_spots m_Sketch_row_within m_Word_row_within m_Sketch_row m_Root_row_within m_Grid_row_within m_Grid_band_row m_Sketch_rows m_Root_init kr R):BodyOk P w K mg base (ct C0 C1 C2 C3) ["self", "k"] s_Root_row_within kr (F_Root_row_within R):=by
  have Q_row:=mt_row T  hk GR
  refine ⟨fun X hP hw hK hmg hb d hr=>?_⟩
  subst hP hw hK hmg hb
  have hS:defScope s_Root_row_within=_:=(by (conv=>lhs; whnf))
  rw [hS] at d
  have hB:defBody s_Root_row_within=_:=(by (conv=>lhs; whnf))
  rw [hB]
  have n_0:Nm X 0 "self":=d.nm rfl (by first | exact .inl rfl | exact .inr (.inl rfl))
  have n_1:Nm X 1 "k":=d.nm rfl (by first | exact .inl rfl | exact .inr (.inl rfl))
  have g_BLANK:Gl X "BLANK":=d.gl rfl
  have hu:=hu_of hr
  delta F_Root_row_within
  refine pdss_cons ?_ ?_
  refine pds_if ?_ ?_ ?_
  refine pdt_eq hr ?_ ?_
  refine pr_of ?_
  refine pd_name ?_
  exact n_1
  refine pr_of ?_
  refine pd_neg ?_
  refine pd_fld T.fo_1 rfl ?_
  refine pd_name ?_
  exact n_0
  refine pdss_one ?_
  refine pds_ret ?_
  refine pd_add ?_ ?_
  refine pr_of ?_
  refine pd_mul ?_ ?_
  refine pr_of ?_
  refine pd_glob ⟨T.c_BLANK⟩ ?_
  exact g_BLANK
  exact pd_int
  refine pr_of ?_
  refine pd_mul ?_ ?_
  refine pr_of ?_
  exact pd_str (by decide +kernel)
  refine pd_fld T.fo_0 rfl ?_
  refine pd_fld T.fo_4 rfl ?_
  refine pd_name ?_
  exact n_0
  exact pdss_nil
  refine pdss_one ?_
  refine pds_ret ?_
  refine pd_add ?_ ?_
  refine pr_of ?_
  refine pd_ifExp ?_ ?_ ?_
  refine pdt_eq hr ?_ ?_
  refine pr_of ?_
  refine pd_name ?_
  exact n_1
  refine pr_of ?_
  exact pd_int
  exact pd_str (by decide +kernel)
  refine pd_add ?_ ?_
  refine pr_of ?_
  refine pd_glob ⟨T.c_BLANK⟩ ?_
  exact g_BLANK
  refine pr_of ?_
  exact pd_str (by decide +kernel)
  refine pr_of ?_
  refine pd_meth Q_row hr ?s1 ?_ ?_
  case s1=>first | decide | omega
  refine pd_fld T.fo_4 rfl ?_
  refine pd_name ?_
  exact n_0
  refine pda_cons ?_ ?_
  refine pd_name ?_
  exact n_1
  exact pda_nil
theorem body_Grid_row_within (T:Txt P w K mg C0 C1 C2 C3 m_Sketch_init m_Grid_init m_Word_init m_Sketch_spots m_Root_spots m_Grid_spots m_Sketch_row_within m_Word_row_within m_Sketch_row m_Root_row_within m_Grid_row_within m_Grid_band_row m_Sketch_rows m_Root_init)  {kr:Nat} (hk : 1≤kr) {R:Rec0} (GR:RecG0 P w K mg base C0 C1 C2 C3 m_Sketch_init m_Grid_init m_Word_init m_Sketch_spots m_Root_spots m_Grid_spots m_Sketch_row_within m_Word_row_within m_Sketch_row m_Root_row_within m_Grid_row_within m_Grid_band_row m_Sketch_rows m_Root_init kr R):BodyOk P w K mg base (ct C0 C1 C2 C3) ["self", "k", "number", "inside"] s_Grid_row_within kr (F_Grid_row_within R):=by
  have Q_band_row:=mt_band_row T  hk GR
  refine ⟨fun X hP hw hK hmg hb d hr=>?_⟩
  subst hP hw hK hmg hb
  have hS:defScope s_Grid_row_within=_:=(by (conv=>lhs; whnf))
  rw [hS] at d
  have hB:defBody s_Grid_row_within=_:=(by (conv=>lhs; whnf))
  rw [hB]
  have n_0:Nm X 0 "self":=d.nm rfl (by first | exact .inl rfl | exact .inr (.inl rfl))
  have n_1:Nm X 1 "k":=d.nm rfl (by first | exact .inl rfl | exact .inr (.inl rfl))
  have n_2:Nm X 2 "number":=d.nm rfl (by first | exact .inl rfl | exact .inr (.inl rfl))
  have n_3:Nm X 3 "inside":=d.nm rfl (by first | exact .inl rfl | exact .inr (.inl rfl))
  have l_2:Nl X 2 "number":=d.nl rfl (by first | exact .inl rfl | exact .inr rfl)
  have l_3:Nl X 3 "inside":=d.nl rfl (by first | exact .inl rfl | exact .inr rfl)
  have g_BLANK:Gl X "BLANK":=d.gl rfl
  have hu:=hu_of hr
  delta F_Grid_row_within
  refine pdss_cons ?_ ?_
  refine pds_set ?_ ?_
  exact l_2
  refine pd_ix ?_ ?_
  refine pr_of ?_
  refine pd_fld T.fo_7 rfl ?_
  refine pd_name ?_
  exact n_0
  refine pd_add ?_ ?_
  refine pr_of ?_
  refine pd_name ?_
  exact n_1
  refine pr_of ?_
  refine pd_fld T.fo_1 rfl ?_
  refine pd_name ?_
  exact n_0
  refine pdss_cons ?_ ?_
  refine pds_set ?_ ?_
  exact l_3
  refine pd_ifExp ?_ ?_ ?_
  refine pdt_isN ?_
  refine pr_of ?_
  refine pd_name ?_
  exact n_2
  refine pd_mul ?_ ?_
  refine pr_of ?_
  refine pd_glob ⟨T.c_BLANK⟩ ?_
  exact g_BLANK
  refine pd_sub ?_ ?_
  refine pd_fld T.fo_0 rfl ?_
  refine pd_name ?_
  exact n_0
  exact pd_int
  refine pd_meth Q_band_row hr ?s1 ?_ ?_
  case s1=>first | decide | omega
  refine pd_name ?_
  exact n_0
  refine pda_cons ?_ ?_
  refine pd_name ?_
  exact n_2
  refine pda_cons ?_ ?_
  refine pd_name ?_
  exact n_1
  exact pda_nil
  refine pdss_one ?_
  refine pds_ret ?_
  refine pd_ifExp ?_ ?_ ?_
  refine pdt_eq hr ?_ ?_
  refine pr_of ?_
  refine pd_name ?_
  exact n_1
  refine pr_of ?_
  exact pd_int
  refine pd_add ?_ ?_
  refine pr_of ?_
  refine pd_add ?_ ?_
  refine pr_of ?_
  exact pd_str (by decide +kernel)
  refine pr_of ?_
  refine pd_name ?_
  exact n_3
  refine pr_of ?_
  exact pd_str (by decide +kernel)
  refine pd_add ?_ ?_
  refine pr_of ?_
  refine pd_add ?_ ?_
  refine pr_of ?_
  exact pd_str (by decide +kernel)
  refine pr_of ?_
  refine pd_name ?_
  exact n_3
  refine pr_of ?_
  exact pd_str (by decide +kernel)
theorem body_Grid_band_row (T:Txt P w K mg C0 C1 C2 C3 m_Sketch_init m_Grid_init m_Word_init m_Sketch_spots m_Root_spots m_Grid_spots m_Sketch_row_within m_Word_row_within m_Sketch_row m_Root_row_within m_Grid_row_within m_Grid_band_row m_Sketch_rows m_Root_init)  {kr:Nat} (hk : 1≤kr) {R:Rec0} (GR:RecG0 P w K mg base C0 C1 C2 C3 m_Sketch_init m_Grid_init m_Word_init m_Sketch_spots m_Root_spots m_Grid_spots m_Sketch_row_within m_Word_row_within m_Sketch_row m_Root_row_within m_Grid_row_within m_Grid_band_row m_Sketch_rows m_Root_init kr R):BodyOk P w K mg base (ct C0 C1 C2 C3) ["self", "number", "k", "own"] s_Grid_band_row kr (F_Grid_band_row R):=by
  have Q_row:=mt_row T  hk GR
  refine ⟨fun X hP hw hK hmg hb d hr=>?_⟩
  subst hP hw hK hmg hb
  have hS:defScope s_Grid_band_row=_:=(by (conv=>lhs; whnf))
  rw [hS] at d
  have hB:defBody s_Grid_band_row=_:=(by (conv=>lhs; whnf))
  rw [hB]
  have n_0:Nm X 0 "self":=d.nm rfl (by first | exact .inl rfl | exact .inr (.inl rfl))
  have n_1:Nm X 1 "number":=d.nm rfl (by first | exact .inl rfl | exact .inr (.inl rfl))
  have n_2:Nm X 2 "k":=d.nm rfl (by first | exact .inl rfl | exact .inr (.inl rfl))
  have l_3:Nl X 3 "own":=d.nl rfl (by first | exact .inl rfl | exact .inr rfl)
  have g_zip:Gl X "zip":=d.gl rfl
  have hu:=hu_of hr
  delta F_Grid_band_row
  refine pdss_cons ?_ ?_
  refine pds_set ?_ ?_
  exact l_3
  refine pd_sub ?_ ?_
  refine pd_name ?_
  exact n_2
  refine pd_ix ?_ ?_
  refine pr_of ?_
  refine pd_fld T.fo_8 rfl ?_
  refine pd_name ?_
  exact n_0
  refine pd_name ?_
  exact n_1
  refine pdss_one ?_
  refine pds_ret ?_
  refine pd_join ?_ ?_
  exact pd_str (by decide +kernel)
  refine pr_of ?_
  refine pd_of ?_
  refine pf_compZ (N':=["sketch", "wide", "own"]) (nt:=2) (cap:=[3]) d.toDefX ?s1 ?s2 ?s3 ?_ ?_ ?_ ?_ (gext_two (by first | decide | omega) (by decide)) (sndG_tup (sndGs_cons 0 (sndGs_cons 1 sndGs_nil))) ?_ ?_
  case s1=>exact ⟨by rfl,by decide +kernel,by decide +kernel,by decide +kernel,by rfl,by decide +kernel⟩
  case s2=>first | decide | omega
  case s3=>decide +kernel
  exact g_zip
  exact T.b_zip
  refine pda_cons ?_ ?_
  refine pd_ix ?_ ?_
  refine pr_of ?_
  refine pd_fld T.fo_5 rfl ?_
  refine pd_name ?_
  exact n_0
  refine pd_name ?_
  exact n_1
  refine pda_cons ?_ ?_
  refine pd_fld T.fo_6 rfl ?_
  refine pd_name ?_
  exact n_0
  exact pda_nil
  intro cl C s2 H2 fp d1
  refine pg_tup d1.calm ?_
  refine pgs_cons ?_ ?_
  exact pg_nm (d1.nlc (i:=0) rfl rfl)
  refine pgs_cons ?_ ?_
  exact pg_nm (d1.nlc (i:=1) rfl rfl)
  exact pgs_nil
  intro cl C s2 H2 fp d1
  exact pdi_nil
  intro cl C s2 H2 fp d1
  refine pd_sm1 rjustK ?_ ?_
  refine pd_meth (X:=compCx _ _ _ _ _ _ _ _) Q_row hr ?s1 ?_ ?_
  case s1=>first | decide | omega
  exact pd_name (d1.nm (i:=0) rfl (by first | exact .inl rfl | exact .inr (.inl rfl) | exact .inr (.inr rfl)))
  refine pda_cons ?_ ?_
  exact pd_name (d1.nm (i:=2) rfl (by first | exact .inl rfl | exact .inr (.inl rfl) | exact .inr (.inr rfl)))
  exact pda_nil
  exact pd_name (d1.nm (i:=1) rfl (by first | exact .inl rfl | exact .inr (.inl rfl) | exact .inr (.inr rfl)))
theorem body_Sketch_rows (T:Txt P w K mg C0 C1 C2 C3 m_Sketch_init m_Grid_init m_Word_init m_Sketch_spots m_Root_spots m_Grid_spots m_Sketch_row_within m_Word_row_within m_Sketch_row m_Root_row_within m_Grid_row_within m_Grid_band_row m_Sketch_rows m_Root_init)  (Q_row:MethG P w K mg base (ct C0 C1 C2 C3) "row" 1 41 MTT_row):BodyOk P w K mg base (ct C0 C1 C2 C3) ["self"] s_Sketch_rows 41 F_Sketch_rows:=by
  refine ⟨fun X hP hw hK hmg hb d hr=>?_⟩
  subst hP hw hK hmg hb
  have hS:defScope s_Sketch_rows=_:=(by (conv=>lhs; whnf))
  rw [hS] at d
  have hB:defBody s_Sketch_rows=_:=(by (conv=>lhs; whnf))
  rw [hB]
  have n_0:Nm X 0 "self":=d.nm rfl (by first | exact .inl rfl | exact .inr (.inl rfl))
  have g_range:Gl X "range":=d.gl rfl
  have hu:=hu_of hr
  delta F_Sketch_rows CE_Sketch_rows_1
  refine pdss_one ?_
  refine pds_retF ?_
  refine pf_comp2 (N':=["k", "self"]) (nt:=1) (cap:=[0]) d.toDefX ?s1 ?s2 ?s3 ?_ ?_ ?_ ?_ (gext_name (by decide)) (sndG_name 0) ?_ ?_
  case s1=>exact ⟨by rfl,by decide +kernel,by decide +kernel,by decide +kernel,by rfl,by decide +kernel⟩
  case s2=>decide
  case s3=>decide +kernel
  exact g_range
  exact T.b_range
  refine pda_cons ?_ ?_
  refine pd_neg ?_
  refine pd_fld T.fo_1 rfl ?_
  refine pd_name ?_
  exact n_0
  refine pda_cons ?_ ?_
  refine pd_add ?_ ?_
  refine pr_of ?_
  refine pd_fld T.fo_2 rfl ?_
  refine pd_name ?_
  exact n_0
  refine pr_of ?_
  exact pd_int
  exact pda_nil
  intro cl C s2 H2 fp d1
  exact pg_nm (d1.nlc (i:=0) rfl rfl)
  intro cl C s2 H2 fp d1
  exact pdi_nil
  intro cl C s2 H2 fp d1
  refine pd_meth (X:=compCx _ _ _ _ _ _ _ _) Q_row hr ?s1 ?_ ?_
  case s1=>decide
  exact pd_name (d1.nm (i:=1) rfl (by first | exact .inl rfl | exact .inr (.inl rfl) | exact .inr (.inr rfl)))
  refine pda_cons ?_ ?_
  exact pd_name (d1.nm (i:=0) rfl (by first | exact .inl rfl | exact .inr (.inl rfl) | exact .inr (.inr rfl)))
  exact pda_nil
theorem body_law_whole (T:Txt P w K mg C0 C1 C2 C3 m_Sketch_init m_Grid_init m_Word_init m_Sketch_spots m_Root_spots m_Grid_spots m_Sketch_row_within m_Word_row_within m_Sketch_row m_Root_row_within m_Grid_row_within m_Grid_band_row m_Sketch_rows m_Root_init) :BodyOk P w K mg base (ct C0 C1 C2 C3) ["found"] s_law_whole 0 F_law_whole:=by
  refine ⟨fun X hP hw hK hmg hb d hr=>?_⟩
  subst hP hw hK hmg hb
  have hS:defScope s_law_whole=_:=(by (conv=>lhs; whnf))
  rw [hS] at d
  have hB:defBody s_law_whole=_:=(by (conv=>lhs; whnf))
  rw [hB]
  have n_0:Nm X 0 "found":=d.nm rfl (by first | exact .inl rfl | exact .inr (.inl rfl))
  have g_bool:Gl X "bool":=d.gl rfl
  have g_int:Gl X "int":=d.gl rfl
  have g_isinstance:Gl X "isinstance":=d.gl rfl
  have hu:=hu_of hr
  delta F_law_whole
  refine pdss_one ?_
  refine pds_ret ?_
  refine pd_and ?_ ?_
  refine pd_isinst .int ?_ ?_ ?_ ?_ ?_
  exact g_isinstance
  exact T.b_isinstance
  exact g_int
  exact T.b_int
  refine pr_of ?_
  refine pd_name ?_
  exact n_0
  refine pd_one ?_
  refine pd_not ?_
  refine pd_isinst .bool ?_ ?_ ?_ ?_ ?_
  exact g_isinstance
  exact T.b_isinstance
  exact g_bool
  exact T.b_bool
  refine pr_of ?_
  refine pd_name ?_
  exact n_0
theorem body_law_box (T:Txt P w K mg C0 C1 C2 C3 m_Sketch_init m_Grid_init m_Word_init m_Sketch_spots m_Root_spots m_Grid_spots m_Sketch_row_within m_Word_row_within m_Sketch_row m_Root_row_within m_Grid_row_within m_Grid_band_row m_Sketch_rows m_Root_init)(G_law_whole:Def P w K mg base (ct C0 C1 C2 C3) "_law_whole" ["found"] 1 D_law_whole)(Q_rows:MethGF P w K mg base (ct C0 C1 C2 C3) "rows" 0 42 MT_rows):BodyOk P w K mg base (ct C0 C1 C2 C3) ["found", "rows", "up", "number", "size", "told"] s_law_box 42 F_law_box:=by
  refine ⟨fun X hP hw hK hmg hb d hr=>?_⟩
  subst hP hw hK hmg hb
  have hS:defScope s_law_box=_:=(by (conv=>lhs; whnf))
  rw [hS] at d
  have hB:defBody s_law_box=_:=(by (conv=>lhs; whnf))
  rw [hB]
  have n_0:Nm X 0 "found":=d.nm rfl (by first | exact .inl rfl | exact .inr (.inl rfl))
  have n_1:Nm X 1 "rows":=d.nm rfl (by first | exact .inl rfl | exact .inr (.inl rfl))
  have n_2:Nm X 2 "up":=d.nm rfl (by first | exact .inl rfl | exact .inr (.inl rfl))
  have n_3:Nm X 3 "number":=d.nm rfl (by first | exact .inl rfl | exact .inr (.inl rfl))
  have n_4:Nm X 4 "size":=d.nm rfl (by first | exact .inl rfl | exact .inr (.inl rfl))
  have n_5:Nm X 5 "told":=d.nm rfl (by first | exact .inl rfl | exact .inr (.inl rfl))
  have l_3:Nl X 3 "number":=d.nl rfl (by first | exact .inl rfl | exact .inr rfl)
  have l_4:Nl X 4 "size":=d.nl rfl (by first | exact .inl rfl | exact .inr rfl)
  have l_5:Nl X 5 "told":=d.nl rfl (by first | exact .inl rfl | exact .inr rfl)
  have g_Sketch:Gl X "Sketch":=d.gl rfl
  have g_law_whole:Gl X "_law_whole":=d.gl rfl
  have g_isinstance:Gl X "isinstance":=d.gl rfl
  have g_len:Gl X "len":=d.gl rfl
  have g_list:Gl X "list":=d.gl rfl
  have g_zip:Gl X "zip":=d.gl rfl
  have hu:=hu_of hr
  delta F_law_box LB_law_box_1
  refine pdss_cons ?_ ?_
  refine pds_if ?_ ?_ ?_
  refine pdt_not ?_
  refine pdt_val ?_
  refine pd_isinstC T.ins_Sketch ?_ ?_ ?_ ?_
  exact g_isinstance
  exact T.b_isinstance
  exact g_Sketch
  refine pd_name ?_
  exact n_0
  refine pdss_one ?_
  refine pds_ret ?_
  exact pd_bl
  exact pdss_nil
  refine pdss_cons ?_ ?_
  refine pds_forZ d.never d.calm (sndG_tup (sndGs_cons 3 (sndGs_cons 4 sndGs_nil))) ?_ ?_ ?_ ?_ ?_
  refine pg_tup d.calm ?_
  refine pgs_cons ?_ ?_
  refine pg_nm ?_
  exact l_3
  refine pgs_cons ?_ ?_
  refine pg_nm ?_
  exact l_4
  exact pgs_nil
  exact g_zip
  exact T.b_zip
  refine pda_cons ?_ ?_
  refine pd_of ?_
  refine pf_lst ?_
  refine pda_cons ?_ ?_
  refine pd_fld T.fo_0 rfl ?_
  refine pd_name ?_
  exact n_0
  refine pda_cons ?_ ?_
  refine pd_fld T.fo_1 rfl ?_
  refine pd_name ?_
  exact n_0
  refine pda_cons ?_ ?_
  refine pd_fld T.fo_2 rfl ?_
  refine pd_name ?_
  exact n_0
  exact pda_nil
  refine pda_cons ?_ ?_
  refine pd_of ?_
  refine pf_lst ?_
  refine pda_cons ?_ ?_
  refine pd_len ?_ ?_ ?_
  exact g_len
  exact T.b_len
  refine pr_of ?_
  refine pd_ix ?_ ?_
  refine pr_of ?_
  refine pd_name ?_
  exact n_1
  exact pd_int
  refine pda_cons ?_ ?_
  refine pd_name ?_
  exact n_2
  refine pda_cons ?_ ?_
  refine pd_sub ?_ ?_
  refine pd_sub ?_ ?_
  refine pd_len ?_ ?_ ?_
  exact g_len
  exact T.b_len
  refine pr_of ?_
  refine pd_name ?_
  exact n_1
  exact pd_int
  refine pd_name ?_
  exact n_2
  exact pda_nil
  exact pda_nil
  refine pdss_one ?_
  refine pds_if ?_ ?_ ?_
  refine PDW.pt ?_
  refine pdw_or ?_ ?_
  refine pdt_not ?_
  refine pdt_val ?_
  refine pd_def G_law_whole hr ?s1 ?_ ?_
  case s1=>decide
  exact g_law_whole
  refine pda_cons ?_ ?_
  refine pd_name ?_
  exact n_3
  exact pda_nil
  refine pdw_or1 ?_
  refine pdt_ne hr ?_ ?_
  refine pr_of ?_
  refine pd_name ?_
  exact n_3
  refine pr_of ?_
  refine pd_name ?_
  exact n_4
  refine pdss_one ?_
  refine pds_ret ?_
  exact pd_bl
  exact pdss_nil
  refine pdss_cons ?_ ?_
  refine pds_set ?_ ?_
  exact l_5
  refine pd_of ?_
  refine pf_meth0 Q_rows hr ?s1 ?_
  case s1=>decide
  refine pd_name ?_
  exact n_0
  refine pdss_one ?_
  refine pds_ret ?_
  refine pd_and ?_ ?_
  refine pd_isinst .list ?_ ?_ ?_ ?_ ?_
  exact g_isinstance
  exact T.b_isinstance
  exact g_list
  exact T.b_list
  refine pr_of ?_
  refine pd_name ?_
  exact n_5
  refine pd_one ?_
  refine pd_eq hr ?_ ?_
  refine pr_of ?_
  refine pd_name ?_
  exact n_5
  refine pr_of ?_
  refine pd_name ?_
  exact n_1
theorem body_law_spots (T:Txt P w K mg C0 C1 C2 C3 m_Sketch_init m_Grid_init m_Word_init m_Sketch_spots m_Root_spots m_Grid_spots m_Sketch_row_within m_Word_row_within m_Sketch_row m_Root_row_within m_Grid_row_within m_Grid_band_row m_Sketch_rows m_Root_init)(G_law_whole:Def P w K mg base (ct C0 C1 C2 C3) "_law_whole" ["found"] 1 D_law_whole)(G_law_box:Def P w K mg base (ct C0 C1 C2 C3) "_law_box" ["found", "rows", "up"] 43 D_law_box):BodyOk P w K mg base (ct C0 C1 C2 C3) ["told", "due", "found", "one"] s_law_spots 43 F_law_spots:=by
  refine ⟨fun X hP hw hK hmg hb d hr=>?_⟩
  subst hP hw hK hmg hb
  have hS:defScope s_law_spots=_:=(by (conv=>lhs; whnf))
  rw [hS] at d
  have hB:defBody s_law_spots=_:=(by (conv=>lhs; whnf))
  rw [hB]
  have n_0:Nm X 0 "told":=d.nm rfl (by first | exact .inl rfl | exact .inr (.inl rfl))
  have n_1:Nm X 1 "due":=d.nm rfl (by first | exact .inl rfl | exact .inr (.inl rfl))
  have n_2:Nm X 2 "found":=d.nm rfl (by first | exact .inl rfl | exact .inr (.inl rfl))
  have n_3:Nm X 3 "one":=d.nm rfl (by first | exact .inl rfl | exact .inr (.inl rfl))
  have l_2:Nl X 2 "found":=d.nl rfl (by first | exact .inl rfl | exact .inr rfl)
  have l_3:Nl X 3 "one":=d.nl rfl (by first | exact .inl rfl | exact .inr rfl)
  have g_law_box:Gl X "_law_box":=d.gl rfl
  have g_law_whole:Gl X "_law_whole":=d.gl rfl
  have g_isinstance:Gl X "isinstance":=d.gl rfl
  have g_len:Gl X "len":=d.gl rfl
  have g_list:Gl X "list":=d.gl rfl
  have g_tuple:Gl X "tuple":=d.gl rfl
  have g_zip:Gl X "zip":=d.gl rfl
  have hu:=hu_of hr
  delta F_law_spots LB_law_spots_1
  refine pdss_cons ?_ ?_
  refine pds_if ?_ ?_ ?_
  refine PDW.pt ?_
  refine pdw_or ?_ ?_
  refine pdt_not ?_
  refine pdt_val ?_
  refine pd_isinst .list ?_ ?_ ?_ ?_ ?_
  exact g_isinstance
  exact T.b_isinstance
  exact g_list
  exact T.b_list
  refine pr_of ?_
  refine pd_name ?_
  exact n_0
  refine pdw_or1 ?_
  refine pdt_ne hr ?_ ?_
  refine pr_of ?_
  refine pd_len ?_ ?_ ?_
  exact g_len
  exact T.b_len
  refine pr_of ?_
  refine pd_name ?_
  exact n_0
  refine pr_of ?_
  refine pd_len ?_ ?_ ?_
  exact g_len
  exact T.b_len
  refine pr_of ?_
  refine pd_name ?_
  exact n_1
  refine pdss_one ?_
  refine pds_ret ?_
  exact pd_bl
  exact pdss_nil
  refine pdss_cons ?_ ?_
  refine pds_forZ d.never d.calm (sndG_tup (sndGs_cons 2 (sndGs_cons 3 sndGs_nil))) ?_ ?_ ?_ ?_ ?_
  refine pg_tup d.calm ?_
  refine pgs_cons ?_ ?_
  refine pg_nm ?_
  exact l_2
  refine pgs_cons ?_ ?_
  refine pg_nm ?_
  exact l_3
  exact pgs_nil
  exact g_zip
  exact T.b_zip
  refine pda_cons ?_ ?_
  refine pd_name ?_
  exact n_0
  refine pda_cons ?_ ?_
  refine pd_name ?_
  exact n_1
  exact pda_nil
  refine pdss_cons ?_ ?_
  refine pds_if ?_ ?_ ?_
  refine PDW.pt ?_
  refine pdw_or ?_ ?_
  refine pdt_not ?_
  refine pdt_val ?_
  refine pd_isinst .tuple ?_ ?_ ?_ ?_ ?_
  exact g_isinstance
  exact T.b_isinstance
  exact g_tuple
  exact T.b_tuple
  refine pr_of ?_
  refine pd_name ?_
  exact n_2
  refine pdw_or ?_ ?_
  refine pdt_ne hr ?_ ?_
  refine pr_of ?_
  refine pd_len ?_ ?_ ?_
  exact g_len
  exact T.b_len
  refine pr_of ?_
  refine pd_name ?_
  exact n_2
  refine pr_of ?_
  exact pd_int
  refine pdw_or ?_ ?_
  refine pdt_not ?_
  refine pdt_val ?_
  refine pd_def G_law_whole hr ?s1 ?_ ?_
  case s1=>decide
  exact g_law_whole
  refine pda_cons ?_ ?_
  refine pd_ix ?_ ?_
  refine pr_of ?_
  refine pd_name ?_
  exact n_2
  exact pd_int
  exact pda_nil
  refine pdw_or1 ?_
  refine pdt_not ?_
  refine pdt_val ?_
  refine pd_def G_law_whole hr ?s1 ?_ ?_
  case s1=>decide
  exact g_law_whole
  refine pda_cons ?_ ?_
  refine pd_ix ?_ ?_
  refine pr_of ?_
  refine pd_name ?_
  exact n_2
  exact pd_int
  exact pda_nil
  refine pdss_one ?_
  refine pds_ret ?_
  exact pd_bl
  exact pdss_nil
  refine pdss_one ?_
  refine pds_if ?_ ?_ ?_
  refine PDW.pt ?_
  refine pdw_or ?_ ?_
  refine pdt_ne hr ?_ ?_
  refine pr_of ?_
  refine pd_sl ?_ ?_ ?_
  refine pr_of ?_
  refine pd_name ?_
  exact n_2
  refine pdo_some ?_
  exact pd_int
  exact pdo_none
  refine pr_of ?_
  refine pd_sl ?_ ?_ ?_
  refine pr_of ?_
  refine pd_name ?_
  exact n_3
  refine pdo_some ?_
  exact pd_int
  exact pdo_none
  refine pdw_or1 ?_
  refine pdt_not ?_
  refine pdt_val ?_
  refine pd_def G_law_box hr ?s1 ?_ ?_
  case s1=>decide
  exact g_law_box
  refine pda_cons ?_ ?_
  refine pd_ix ?_ ?_
  refine pr_of ?_
  refine pd_name ?_
  exact n_2
  exact pd_int
  refine pda_cons ?_ ?_
  refine pd_ix ?_ ?_
  refine pr_of ?_
  refine pd_ix ?_ ?_
  refine pr_of ?_
  refine pd_name ?_
  exact n_3
  exact pd_int
  exact pd_int
  refine pda_cons ?_ ?_
  refine pd_ix ?_ ?_
  refine pr_of ?_
  refine pd_ix ?_ ?_
  refine pr_of ?_
  refine pd_name ?_
  exact n_3
  exact pd_int
  exact pd_int
  exact pda_nil
  refine pdss_one ?_
  refine pds_ret ?_
  exact pd_bl
  exact pdss_nil
  refine pdss_one ?_
  refine pds_ret ?_
  exact pd_bl
theorem body_Root_init (T:Txt P w K mg C0 C1 C2 C3 m_Sketch_init m_Grid_init m_Word_init m_Sketch_spots m_Root_spots m_Grid_spots m_Sketch_row_within m_Word_row_within m_Sketch_row m_Root_row_within m_Grid_row_within m_Grid_band_row m_Sketch_rows m_Root_init)  (B_Sketch:BaseG P w K mg base (ct C0 C1 C2 C3) "Sketch" 3 1 I_Sketch):BodyOk P w K mg base (ct C0 C1 C2 C3) ["self", "inner"] s_Root_init 2 F_Root_init:=by
  refine ⟨fun X hP hw hK hmg hb d hr=>?_⟩
  subst hP hw hK hmg hb
  have hS:defScope s_Root_init=_:=(by (conv=>lhs; whnf))
  rw [hS] at d
  have hB:defBody s_Root_init=_:=(by (conv=>lhs; whnf))
  rw [hB]
  have n_0:Nm X 0 "self":=d.nm rfl (by first | exact .inl rfl | exact .inr (.inl rfl))
  have n_1:Nm X 1 "inner":=d.nm rfl (by first | exact .inl rfl | exact .inr (.inl rfl))
  have g_Sketch:Gl X "Sketch":=d.gl rfl
  have hu:=hu_of hr
  delta F_Root_init
  refine pdss_cons ?_ ?_
  refine pds_base B_Sketch hr ?s1 ?_ ?_ ?_
  case s1=>decide
  exact g_Sketch
  exact n_0
  refine pda_cons ?_ ?_
  refine pd_add ?_ ?_
  refine pr_of ?_
  refine pd_fld T.fo_0 rfl ?_
  refine pd_name ?_
  exact n_1
  refine pr_of ?_
  exact pd_int
  refine pda_cons ?_ ?_
  refine pd_add ?_ ?_
  refine pr_of ?_
  refine pd_fld T.fo_1 rfl ?_
  refine pd_name ?_
  exact n_1
  refine pr_of ?_
  exact pd_int
  refine pda_cons ?_ ?_
  refine pd_fld T.fo_2 rfl ?_
  refine pd_name ?_
  exact n_1
  exact pda_nil
  refine pdss_one ?_
  refine pds_fld T.fo_4 rfl ?_ ?_
  exact n_0
  refine pd_name ?_
  exact n_1
theorem body_law_sign (T:Txt P w K mg C0 C1 C2 C3 m_Sketch_init m_Grid_init m_Word_init m_Sketch_spots m_Root_spots m_Grid_spots m_Sketch_row_within m_Word_row_within m_Sketch_row m_Root_row_within m_Grid_row_within m_Grid_band_row m_Sketch_rows m_Root_init) :BodyOk P w K mg base (ct C0 C1 C2 C3) ["cell", "some"] s_law_sign 0 F_law_sign:=by
  refine ⟨fun X hP hw hK hmg hb d hr=>?_⟩
  subst hP hw hK hmg hb
  have hS:defScope s_law_sign=_:=(by (conv=>lhs; whnf))
  rw [hS] at d
  have hB:defBody s_law_sign=_:=(by (conv=>lhs; whnf))
  rw [hB]
  have n_0:Nm X 0 "cell":=d.nm rfl (by first | exact .inl rfl | exact .inr (.inl rfl))
  have n_1:Nm X 1 "some":=d.nm rfl (by first | exact .inl rfl | exact .inr (.inl rfl))
  have l_1:Nl X 1 "some":=d.nl rfl (by first | exact .inl rfl | exact .inr rfl)
  have hu:=hu_of hr
  delta F_law_sign
  refine pdss_cons ?_ ?_
  refine pds_set ?_ ?_
  exact l_1
  exact pd_str (by decide +kernel)
  refine pdss_cons ?_ ?_
  refine pds_set ?_ ?_
  exact l_1
  refine pd_add ?_ ?_
  refine pr_of ?_
  refine pd_name ?_
  exact n_1
  refine pr_of ?_
  exact pd_str (by decide +kernel)
  refine pdss_one ?_
  refine pds_ret ?_
  refine pd_ix ?_ ?_
  refine pr_of ?_
  refine pd_name ?_
  exact n_1
  refine pd_mod ?_ ?_
  refine pd_mod ?_ ?_
  refine pd_mul ?_ ?_
  refine pr_of ?_
  refine pd_name ?_
  exact n_0
  exact pd_int
  exact pd_int
  exact pd_int
theorem body_law_piece (T:Txt P w K mg C0 C1 C2 C3 m_Sketch_init m_Grid_init m_Word_init m_Sketch_spots m_Root_spots m_Grid_spots m_Sketch_row_within m_Word_row_within m_Sketch_row m_Root_row_within m_Grid_row_within m_Grid_band_row m_Sketch_rows m_Root_init)(G_law_sign:Def P w K mg base (ct C0 C1 C2 C3) "_law_sign" ["cell"] 1 D_law_sign)(M_Word:InitG P w K mg base (ct C0 C1 C2 C3) "Word" 1 3 1 I_Word)(M_Sketch:InitG P w K mg base (ct C0 C1 C2 C3) "Sketch" 3 1 0 I_Sketch)(M_Root:InitG P w K mg base (ct C0 C1 C2 C3) "Root" 1 3 2 I_Root):BodyOk P w K mg base (ct C0 C1 C2 C3) ["cell", "n", "wide", "up", "down", "signs", "blank", "rows"] s_law_piece 4 F_law_piece:=by
  refine ⟨fun X hP hw hK hmg hb d hr=>?_⟩
  subst hP hw hK hmg hb
  have hS:defScope s_law_piece=_:=(by (conv=>lhs; whnf))
  rw [hS] at d
  have hB:defBody s_law_piece=_:=(by (conv=>lhs; whnf))
  rw [hB]
  have n_0:Nm X 0 "cell":=d.nm rfl (by first | exact .inl rfl | exact .inr (.inl rfl))
  have n_1:Nm X 1 "n":=d.nm rfl (by first | exact .inl rfl | exact .inr (.inl rfl))
  have n_2:Nm X 2 "wide":=d.nm rfl (by first | exact .inl rfl | exact .inr (.inl rfl))
  have n_3:Nm X 3 "up":=d.nm rfl (by first | exact .inl rfl | exact .inr (.inl rfl))
  have n_4:Nm X 4 "down":=d.nm rfl (by first | exact .inl rfl | exact .inr (.inl rfl))
  have n_5:Nm X 5 "signs":=d.nm rfl (by first | exact .inl rfl | exact .inr (.inl rfl))
  have n_6:Nm X 6 "blank":=d.nm rfl (by first | exact .inl rfl | exact .inr (.inl rfl))
  have n_7:Nm X 7 "rows":=d.nm rfl (by first | exact .inl rfl | exact .inr (.inl rfl))
  have l_1:Nl X 1 "n":=d.nl rfl (by first | exact .inl rfl | exact .inr rfl)
  have l_2:Nl X 2 "wide":=d.nl rfl (by first | exact .inl rfl | exact .inr rfl)
  have l_3:Nl X 3 "up":=d.nl rfl (by first | exact .inl rfl | exact .inr rfl)
  have l_4:Nl X 4 "down":=d.nl rfl (by first | exact .inl rfl | exact .inr rfl)
  have l_5:Nl X 5 "signs":=d.nl rfl (by first | exact .inl rfl | exact .inr rfl)
  have l_6:Nl X 6 "blank":=d.nl rfl (by first | exact .inl rfl | exact .inr rfl)
  have l_7:Nl X 7 "rows":=d.nl rfl (by first | exact .inl rfl | exact .inr rfl)
  have g_Root:Gl X "Root":=d.gl rfl
  have g_Sketch:Gl X "Sketch":=d.gl rfl
  have g_Word:Gl X "Word":=d.gl rfl
  have g_range:Gl X "range":=d.gl rfl
  have hu:=hu_of hr
  delta F_law_piece CE_law_piece_2 CE_law_piece_1
  refine pdss_cons ?_ ?_
  refine pds_set ?_ ?_
  exact l_1
  refine pd_mod ?_ ?_
  refine pd_mul ?_ ?_
  refine pr_of ?_
  refine pd_name ?_
  exact n_0
  exact pd_int
  exact pd_int
  refine pdss_cons ?_ ?_
  refine pds_set ?_ ?_
  exact l_2
  refine pd_mod ?_ ?_
  refine pd_fdiv ?_ ?_
  refine pd_name ?_
  exact n_1
  exact pd_int
  exact pd_int
  refine pdss_cons ?_ ?_
  refine pds_set ?_ ?_
  exact l_3
  refine pd_mod ?_ ?_
  refine pd_fdiv ?_ ?_
  refine pd_name ?_
  exact n_1
  exact pd_int
  exact pd_int
  refine pdss_cons ?_ ?_
  refine pds_set ?_ ?_
  exact l_4
  refine pd_mod ?_ ?_
  refine pd_fdiv ?_ ?_
  refine pd_name ?_
  exact n_1
  exact pd_int
  exact pd_int
  refine pdss_cons ?_ ?_
  refine pds_if ?_ ?_ ?_
  refine pdt_lt ?_ ?_
  refine pd_mod ?_ ?_
  refine pd_name ?_
  exact n_1
  exact pd_int
  exact pd_int
  refine pdss_cons ?_ ?_
  refine pds_set ?_ ?_
  exact l_5
  refine pd_join ?_ ?_
  exact pd_str (by decide +kernel)
  refine pr_of ?_
  refine pd_of ?_
  refine pf_comp1 (N':=["k", "n"]) (nt:=1) (cap:=[1]) d.toDefX ?s1 ?s2 ?s3 ?_ ?_ ?_ ?_ (gext_name (by decide)) (sndG_name 0) ?_ ?_
  case s1=>exact ⟨by rfl,by decide +kernel,by decide +kernel,by decide +kernel,by rfl,by decide +kernel⟩
  case s2=>decide
  case s3=>decide +kernel
  exact g_range
  exact T.b_range
  refine pda_cons ?_ ?_
  refine pd_add ?_ ?_
  refine pr_of ?_
  refine pd_name ?_
  exact n_2
  refine pr_of ?_
  exact pd_int
  exact pda_nil
  intro cl C s2 H2 fp d1
  exact pg_nm (d1.nlc (i:=0) rfl rfl)
  intro cl C s2 H2 fp d1
  exact pdi_nil
  intro cl C s2 H2 fp d1
  refine pd_def (X:=compCx _ _ _ _ _ _ _ _) G_law_sign hr ?s1 (d1.gl rfl) ?_
  case s1=>decide
  refine pda_cons ?_ ?_
  refine pd_add ?_ ?_
  refine pr_of ?_
  refine pd_fdiv ?_ ?_
  exact pd_name (d1.nm (i:=1) rfl (by first | exact .inl rfl | exact .inr (.inl rfl) | exact .inr (.inr rfl)))
  exact pd_int
  refine pr_of ?_
  refine pd_mul ?_ ?_
  refine pr_of ?_
  refine pd_mul ?_ ?_
  refine pr_of ?_
  exact pd_int
  exact pd_name (d1.nm (i:=0) rfl (by first | exact .inl rfl | exact .inr (.inl rfl) | exact .inr (.inr rfl)))
  exact pd_name (d1.nm (i:=0) rfl (by first | exact .inl rfl | exact .inr (.inl rfl) | exact .inr (.inr rfl)))
  exact pda_nil
  refine pdss_one ?_
  refine pds_ret ?_
  refine pd_tup ?_
  refine pda_cons ?_ ?_
  refine pd_make M_Word hr ?s1 ?_ ?_
  case s1=>decide
  exact g_Word
  refine pda_cons ?_ ?_
  refine pd_name ?_
  exact n_5
  exact pda_nil
  refine pda_cons ?_ ?_
  refine pd_of ?_
  refine pf_lst ?_
  refine pda_cons ?_ ?_
  refine pd_name ?_
  exact n_5
  exact pda_nil
  refine pda_cons ?_ ?_
  exact pd_int
  exact pda_nil
  exact pdss_nil
  refine pdss_cons ?_ ?_
  refine pds_set ?_ ?_
  exact l_6
  refine pd_of ?_
  refine pf_mul ?_ ?_
  refine pf_lst ?_
  refine pda_cons ?_ ?_
  refine pd_mul ?_ ?_
  refine pr_of ?_
  exact pd_str (by decide +kernel)
  refine pd_name ?_
  exact n_2
  exact pda_nil
  refine pd_add ?_ ?_
  refine pr_of ?_
  refine pd_add ?_ ?_
  refine pr_of ?_
  refine pd_name ?_
  exact n_3
  refine pr_of ?_
  refine pd_name ?_
  exact n_4
  refine pr_of ?_
  exact pd_int
  refine pdss_cons ?_ ?_
  refine pds_if ?_ ?_ ?_
  refine pdt_eq hr ?_ ?_
  refine pr_of ?_
  refine pd_mod ?_ ?_
  refine pd_name ?_
  exact n_1
  exact pd_int
  refine pr_of ?_
  exact pd_int
  refine pdss_one ?_
  refine pds_ret ?_
  refine pd_tup ?_
  refine pda_cons ?_ ?_
  refine pd_make M_Sketch hr ?s1 ?_ ?_
  case s1=>decide
  exact g_Sketch
  refine pda_cons ?_ ?_
  refine pd_name ?_
  exact n_2
  refine pda_cons ?_ ?_
  refine pd_name ?_
  exact n_3
  refine pda_cons ?_ ?_
  refine pd_name ?_
  exact n_4
  exact pda_nil
  refine pda_cons ?_ ?_
  refine pd_name ?_
  exact n_6
  refine pda_cons ?_ ?_
  refine pd_name ?_
  exact n_3
  exact pda_nil
  exact pdss_nil
  refine pdss_cons ?_ ?_
  refine pds_ownc d.toDefX ?_ ?_ ?s1
  case s1=>decide +kernel
  exact l_7
  refine pfc_comp (N':=["row"]) (nt:=1) (cap:=[]) d.toDefX ?s1 ?s2 ?s3 ?_ ?_ (gext_name (by decide)) (sndG_name 0) ?_ ?_
  case s1=>exact ⟨by rfl,by decide +kernel,by decide +kernel,by decide +kernel,by rfl,by decide +kernel⟩
  case s2=>decide
  case s3=>decide +kernel
  refine pr_of ?_
  refine pd_name ?_
  exact n_6
  intro cl C s2 H2 fp d1
  exact pg_nm (d1.nlc (i:=0) rfl rfl)
  intro cl C s2 H2 fp d1
  exact pdi_nil
  intro cl C s2 H2 fp d1
  refine pd_add ?_ ?_
  refine pr_of ?_
  exact pd_str (by decide +kernel)
  refine pr_of ?_
  exact pd_name (d1.nm (i:=0) rfl (by first | exact .inl rfl | exact .inr (.inl rfl) | exact .inr (.inr rfl)))
  refine pdss_cons ?_ ?_
  refine pds_item ?_ ?_ ?_
  exact n_7
  refine pd_name ?_
  exact n_3
  refine pd_add ?_ ?_
  refine pr_of ?_
  exact pd_str (by decide +kernel)
  refine pr_of ?_
  refine pd_ix ?_ ?_
  refine pr_of ?_
  refine pd_name ?_
  exact n_6
  refine pd_name ?_
  exact n_3
  refine pdss_one ?_
  refine pds_ret ?_
  refine pd_tup ?_
  refine pda_cons ?_ ?_
  refine pd_make M_Root hr ?s1 ?_ ?_
  case s1=>decide
  exact g_Root
  refine pda_cons ?_ ?_
  refine pd_make M_Sketch hr ?s1 ?_ ?_
  case s1=>decide
  exact g_Sketch
  refine pda_cons ?_ ?_
  refine pd_name ?_
  exact n_2
  refine pda_cons ?_ ?_
  refine pd_name ?_
  exact n_3
  refine pda_cons ?_ ?_
  refine pd_name ?_
  exact n_4
  exact pda_nil
  exact pda_nil
  refine pda_cons ?_ ?_
  refine pd_of ?_
  refine pf_add ?_ ?_
  refine pr_of ?_
  refine pd_of ?_
  refine pf_lst ?_
  refine pda_cons ?_ ?_
  refine pd_add ?_ ?_
  refine pr_of ?_
  exact pd_str (by decide +kernel)
  refine pr_of ?_
  refine pd_mul ?_ ?_
  refine pr_of ?_
  exact pd_str (by decide +kernel)
  refine pd_name ?_
  exact n_2
  exact pda_nil
  refine pr_name ?_
  exact n_7
  refine pda_cons ?_ ?_
  refine pd_add ?_ ?_
  refine pr_of ?_
  refine pd_name ?_
  exact n_3
  refine pr_of ?_
  exact pd_int
  exact pda_nil
theorem body_law (T:Txt P w K mg C0 C1 C2 C3 m_Sketch_init m_Grid_init m_Word_init m_Sketch_spots m_Root_spots m_Grid_spots m_Sketch_row_within m_Word_row_within m_Sketch_row m_Root_row_within m_Grid_row_within m_Grid_band_row m_Sketch_rows m_Root_init)(G_law_inner:Def P w K mg base (ct C0 C1 C2 C3) "_law_inner" ["bands"] 3 D_law_inner)(G_law_sided:Def P w K mg base (ct C0 C1 C2 C3) "_law_sided" ["inner"] 1 D_law_sided)(G_law_due_spots:DefF P w K mg base (ct C0 C1 C2 C3) "_law_due_spots" ["bands", "bases", "up"] 2 D_law_due_spots)(G_law_cell_at:Def P w K mg base (ct C0 C1 C2 C3) "_law_cell_at" ["script", "k"] 1 D_law_cell_at)(G_law_box:Def P w K mg base (ct C0 C1 C2 C3) "_law_box" ["found", "rows", "up"] 43 D_law_box)(G_law_spots:Def P w K mg base (ct C0 C1 C2 C3) "_law_spots" ["told", "due"] 44 D_law_spots)(G_law_row:Def P w K mg base (ct C0 C1 C2 C3) "_law_row" ["piece", "k"] 1 D_law_row)(G_law_piece:Def P w K mg base (ct C0 C1 C2 C3) "_law_piece" ["cell"] 5 D_law_piece)(M_Grid:InitGR2 P w K mg base (ct C0 C1 C2 C3) "Grid" 0 4 3 I_Grid)(M_Word:InitG P w K mg base (ct C0 C1 C2 C3) "Word" 1 3 1 I_Word)(Q_rows:MethGF P w K mg base (ct C0 C1 C2 C3) "rows" 0 42 MT_rows)(Q_spots:MethGF P w K mg base (ct C0 C1 C2 C3) "spots" 0 1 MT_spots)(Q_row:MethG P w K mg base (ct C0 C1 C2 C3) "row" 1 41 MTT_row):BodyOk P w K mg base (ct C0 C1 C2 C3) ["script", "many", "wide", "bands", "at", "cells", "handed", "found", "inner", "bases", "rows", "up", "due", "first", "told", "far", "k"] s_law 44 F_law:=by
  refine ⟨fun X hP hw hK hmg hb d hr=>?_⟩
  subst hP hw hK hmg hb
  have hS:defScope s_law=_:=(by (conv=>lhs; whnf))
  rw [hS] at d
  have hB:defBody s_law=_:=(by (conv=>lhs; whnf))
  rw [hB]
  have n_0:Nm X 0 "script":=d.nm rfl (by first | exact .inl rfl | exact .inr (.inl rfl))
  have n_1:Nm X 1 "many":=d.nm rfl (by first | exact .inl rfl | exact .inr (.inl rfl))
  have n_2:Nm X 2 "wide":=d.nm rfl (by first | exact .inl rfl | exact .inr (.inl rfl))
  have n_3:Nm X 3 "bands":=d.nm rfl (by first | exact .inl rfl | exact .inr (.inl rfl))
  have n_5:Nm X 5 "cells":=d.nm rfl (by first | exact .inl rfl | exact .inr (.inl rfl))
  have n_6:Nm X 6 "handed":=d.nm rfl (by first | exact .inl rfl | exact .inr (.inl rfl))
  have n_7:Nm X 7 "found":=d.nm rfl (by first | exact .inl rfl | exact .inr (.inl rfl))
  have n_8:Nm X 8 "inner":=d.nm rfl (by first | exact .inl rfl | exact .inr (.inl rfl))
  have n_9:Nm X 9 "bases":=d.nm rfl (by first | exact .inl rfl | exact .inr (.inl rfl))
  have n_10:Nm X 10 "rows":=d.nm rfl (by first | exact .inl rfl | exact .inr (.inl rfl))
  have n_11:Nm X 11 "up":=d.nm rfl (by first | exact .inl rfl | exact .inr (.inl rfl))
  have n_12:Nm X 12 "due":=d.nm rfl (by first | exact .inl rfl | exact .inr (.inl rfl))
  have n_13:Nm X 13 "first":=d.nm rfl (by first | exact .inl rfl | exact .inr (.inl rfl))
  have n_14:Nm X 14 "told":=d.nm rfl (by first | exact .inl rfl | exact .inr (.inl rfl))
  have n_15:Nm X 15 "far":=d.nm rfl (by first | exact .inl rfl | exact .inr (.inl rfl))
  have n_16:Nm X 16 "k":=d.nm rfl (by first | exact .inl rfl | exact .inr (.inl rfl))
  have l_1:Nl X 1 "many":=d.nl rfl (by first | exact .inl rfl | exact .inr rfl)
  have l_2:Nl X 2 "wide":=d.nl rfl (by first | exact .inl rfl | exact .inr rfl)
  have l_3:Nl X 3 "bands":=d.nl rfl (by first | exact .inl rfl | exact .inr rfl)
  have l_4:Nl X 4 "at":=d.nl rfl (by first | exact .inl rfl | exact .inr rfl)
  have l_5:Nl X 5 "cells":=d.nl rfl (by first | exact .inl rfl | exact .inr rfl)
  have l_6:Nl X 6 "handed":=d.nl rfl (by first | exact .inl rfl | exact .inr rfl)
  have l_7:Nl X 7 "found":=d.nl rfl (by first | exact .inl rfl | exact .inr rfl)
  have l_8:Nl X 8 "inner":=d.nl rfl (by first | exact .inl rfl | exact .inr rfl)
  have l_9:Nl X 9 "bases":=d.nl rfl (by first | exact .inl rfl | exact .inr rfl)
  have l_10:Nl X 10 "rows":=d.nl rfl (by first | exact .inl rfl | exact .inr rfl)
  have l_11:Nl X 11 "up":=d.nl rfl (by first | exact .inl rfl | exact .inr rfl)
  have l_12:Nl X 12 "due":=d.nl rfl (by first | exact .inl rfl | exact .inr rfl)
  have l_13:Nl X 13 "first":=d.nl rfl (by first | exact .inl rfl | exact .inr rfl)
  have l_14:Nl X 14 "told":=d.nl rfl (by first | exact .inl rfl | exact .inr rfl)
  have l_15:Nl X 15 "far":=d.nl rfl (by first | exact .inl rfl | exact .inr rfl)
  have l_16:Nl X 16 "k":=d.nl rfl (by first | exact .inl rfl | exact .inr rfl)
  have g_Grid:Gl X "Grid":=d.gl rfl
  have g_Word:Gl X "Word":=d.gl rfl
  have g_law_box:Gl X "_law_box":=d.gl rfl
  have g_law_cell_at:Gl X "_law_cell_at":=d.gl rfl
  have g_law_due_spots:Gl X "_law_due_spots":=d.gl rfl
  have g_law_inner:Gl X "_law_inner":=d.gl rfl
  have g_law_row:Gl X "_law_row":=d.gl rfl
  have g_law_sided:Gl X "_law_sided":=d.gl rfl
  have g_law_spots:Gl X "_law_spots":=d.gl rfl
  have g_len:Gl X "len":=d.gl rfl
  have g_range:Gl X "range":=d.gl rfl
  have hu:=hu_of hr
  delta F_law LB_law_11 CE_law_10 CE_law_9 CE_law_8 CE_law_7 CE_law_6 CF_law_5 CE_law_4 LB_law_3 CE_law_2 CE_law_1
  refine pdss_cons ?_ ?_
  refine pds_set ?_ ?_
  exact l_1
  refine pd_add ?_ ?_
  refine pr_of ?_
  exact pd_int
  refine pr_of ?_
  refine pd_mod ?_ ?_
  refine pd_def G_law_cell_at hr ?s1 ?_ ?_
  case s1=>decide
  exact g_law_cell_at
  refine pda_cons ?_ ?_
  refine pd_name ?_
  exact n_0
  refine pda_cons ?_ ?_
  exact pd_int
  exact pda_nil
  exact pd_int
  refine pdss_cons ?_ ?_
  refine pds_set ?_ ?_
  exact l_2
  refine pd_add ?_ ?_
  refine pr_of ?_
  exact pd_int
  refine pr_of ?_
  refine pd_mod ?_ ?_
  refine pd_def G_law_cell_at hr ?s1 ?_ ?_
  case s1=>decide
  exact g_law_cell_at
  refine pda_cons ?_ ?_
  refine pd_name ?_
  exact n_0
  refine pda_cons ?_ ?_
  exact pd_int
  exact pda_nil
  exact pd_int
  refine pdss_cons ?_ ?_
  refine pds_own ?_ ?_
  exact l_3
  refine pf_lst ?_
  exact pda_nil
  refine pdss_cons ?_ ?_
  refine pds_for1 d.never d.calm (sndG_name 4) ?_ ?_ ?_ ?_ ?_
  refine pg_nm ?_
  exact l_4
  exact g_range
  exact T.b_range
  refine pda_cons ?_ ?_
  refine pd_name ?_
  exact n_1
  exact pda_nil
  refine pdss_cons ?_ ?_
  refine pds_setc d.toDefX ?_ ?_ ?s1
  case s1=>decide +kernel
  exact l_5
  refine pfc_comp1 (N':=["k", "script", "at", "wide"]) (nt:=1) (cap:=[0,4,2]) d.toDefX ?s1 ?s2 ?s3 ?_ ?_ ?_ ?_ (gext_name (by decide)) (sndG_name 0) ?_ ?_
  case s1=>exact ⟨by rfl,by decide +kernel,by decide +kernel,by decide +kernel,by rfl,by decide +kernel⟩
  case s2=>decide
  case s3=>decide +kernel
  exact g_range
  exact T.b_range
  refine pda_cons ?_ ?_
  refine pd_name ?_
  exact n_2
  exact pda_nil
  intro cl C s2 H2 fp d1
  exact pg_nm (d1.nlc (i:=0) rfl rfl)
  intro cl C s2 H2 fp d1
  exact pdi_nil
  intro cl C s2 H2 fp d1
  refine pd_add ?_ ?_
  refine pr_of ?_
  refine pd_def (X:=compCx _ _ _ _ _ _ _ _) G_law_cell_at hr ?s1 (d1.gl rfl) ?_
  case s1=>decide
  refine pda_cons ?_ ?_
  exact pd_name (d1.nm (i:=1) rfl (by first | exact .inl rfl | exact .inr (.inl rfl) | exact .inr (.inr rfl)))
  refine pda_cons ?_ ?_
  refine pd_add ?_ ?_
  refine pr_of ?_
  refine pd_add ?_ ?_
  refine pr_of ?_
  exact pd_int
  refine pr_of ?_
  refine pd_mul ?_ ?_
  refine pr_of ?_
  exact pd_name (d1.nm (i:=2) rfl (by first | exact .inl rfl | exact .inr (.inl rfl) | exact .inr (.inr rfl)))
  exact pd_name (d1.nm (i:=3) rfl (by first | exact .inl rfl | exact .inr (.inl rfl) | exact .inr (.inr rfl)))
  refine pr_of ?_
  exact pd_name (d1.nm (i:=0) rfl (by first | exact .inl rfl | exact .inr (.inl rfl) | exact .inr (.inr rfl)))
  exact pda_nil
  refine pr_of ?_
  refine pd_mul ?_ ?_
  refine pr_of ?_
  refine pd_mul ?_ ?_
  refine pr_of ?_
  exact pd_int
  refine pd_add ?_ ?_
  refine pr_of ?_
  exact pd_name (d1.nm (i:=2) rfl (by first | exact .inl rfl | exact .inr (.inl rfl) | exact .inr (.inr rfl)))
  refine pr_of ?_
  exact pd_int
  refine pd_add ?_ ?_
  refine pr_of ?_
  exact pd_name (d1.nm (i:=0) rfl (by first | exact .inl rfl | exact .inr (.inl rfl) | exact .inr (.inr rfl)))
  refine pr_of ?_
  exact pd_int
  refine pdss_one ?_
  refine pds_append ?_ ?_
  exact n_3
  refine pd_of ?_
  refine pf_comp (N':=["cell"]) (nt:=1) (cap:=[]) d.toDefX ?s1 ?s2 ?s3 ?_ ?_ (gext_name (by decide)) (sndG_name 0) ?_ ?_
  case s1=>exact ⟨by rfl,by decide +kernel,by decide +kernel,by decide +kernel,by rfl,by decide +kernel⟩
  case s2=>decide
  case s3=>decide +kernel
  refine pr_of ?_
  refine pd_name ?_
  exact n_5
  intro cl C s2 H2 fp d1
  exact pg_nm (d1.nlc (i:=0) rfl rfl)
  intro cl C s2 H2 fp d1
  exact pdi_nil
  intro cl C s2 H2 fp d1
  refine pd_def (X:=compCx _ _ _ _ _ _ _ _) G_law_piece hr ?s1 (d1.gl rfl) ?_
  case s1=>decide
  refine pda_cons ?_ ?_
  exact pd_name (d1.nm (i:=0) rfl (by first | exact .inl rfl | exact .inr (.inl rfl) | exact .inr (.inr rfl)))
  exact pda_nil
  refine pdss_cons ?_ ?_
  refine pds_own2 d.toDefX ?_ (pf2_comp (N':=["band"]) (nt:=1) (cap:=[]) d.toDefX ⟨by rfl,by decide +kernel,by decide +kernel,by decide +kernel,by rfl,by decide +kernel⟩ (by decide) (by decide +kernel) (pr_name n_3) (fun cl C s2 H2 fp d1=>(pg_nm (d1.nlc (i:=0) rfl rfl))) (gext_name (by decide)) (sndG_name 0) (fun cl C s2 H2 fp d1=>pdi_nil) (fun cl C s2 H2 fp d1=>(pf_comp (N':=["piece"]) (nt:=1) (cap:=[]) d1 ⟨by rfl,by decide +kernel,by decide +kernel,by decide +kernel,by rfl,by decide +kernel⟩ (by decide) (by decide +kernel) (pr_of (pd_name (d1.nm (i:=0) rfl (by first | exact .inl rfl | exact .inr (.inl rfl) | exact .inr (.inr rfl))))) (fun cl C s2 H2 fp d2=>(pg_nm (d2.nlc (i:=0) rfl rfl))) (gext_name (by decide)) (sndG_name 0) (fun cl C s2 H2 fp d2=>pdi_nil) (fun cl C s2 H2 fp d2=>(pd_ix (pr_of (pd_name (d2.nm (i:=0) rfl (by first | exact .inl rfl | exact .inr (.inl rfl) | exact .inr (.inr rfl))))) pd_int))))) ?s1
  case s1=>decide +kernel
  exact l_6
  refine pdss_cons ?_ ?_
  refine pds_set ?_ ?_
  exact l_7
  refine pd_makeR2 M_Grid hr ?s1 ?_ ?_ ?_
  case s1=>decide
  exact g_Grid
  exact n_6
  exact pda_nil
  refine pdss_frz ?_
  refine pdss_cons ?_ ?_
  refine pds_unp (sndG_tup (sndGs_cons 8 (sndGs_cons 9 sndGs_nil))) ?_ ?_
  refine pg_tup d.calm ?_
  refine pgs_cons ?_ ?_
  refine pg_nm ?_
  exact l_8
  refine pgs_cons ?_ ?_
  refine pg_nm ?_
  exact l_9
  exact pgs_nil
  refine pd_def G_law_inner hr ?s1 ?_ ?_
  case s1=>decide
  exact g_law_inner
  refine pda_cons ?_ ?_
  refine pd_name ?_
  exact n_3
  exact pda_nil
  refine pdss_cons ?_ ?_
  refine pds_unp (sndG_tup (sndGs_cons 10 (sndGs_cons 11 sndGs_nil))) ?_ ?_
  refine pg_tup d.calm ?_
  refine pgs_cons ?_ ?_
  refine pg_nm ?_
  exact l_10
  refine pgs_cons ?_ ?_
  refine pg_nm ?_
  exact l_11
  exact pgs_nil
  refine pd_def G_law_sided hr ?s1 ?_ ?_
  case s1=>decide
  exact g_law_sided
  refine pda_cons ?_ ?_
  refine pd_name ?_
  exact n_8
  exact pda_nil
  refine pdss_cons ?_ ?_
  refine pds_set ?_ ?_
  exact l_12
  refine pd_of ?_
  refine pf_def G_law_due_spots hr ?s1 ?_ ?_
  case s1=>decide
  exact g_law_due_spots
  refine pda_cons ?_ ?_
  refine pd_name ?_
  exact n_3
  refine pda_cons ?_ ?_
  refine pd_name ?_
  exact n_9
  refine pda_cons ?_ ?_
  refine pd_name ?_
  exact n_11
  exact pda_nil
  refine pdss_cons ?_ ?_
  refine pds_if ?_ ?_ ?_
  refine pdt_lend2 ?_
  refine pdt_ne hr ?_ ?_
  refine pr_of ?_
  refine pd_of ?_
  refine pf_comp (N':=["band"]) (nt:=1) (cap:=[]) d.toDefX ?s1 ?s2 ?s3 ?_ ?_ (gext_name (by decide)) (sndG_name 0) ?_ ?_
  case s1=>exact ⟨by rfl,by decide +kernel,by decide +kernel,by decide +kernel,by rfl,by decide +kernel⟩
  case s2=>decide
  case s3=>decide +kernel
  refine pr_of ?_
  refine pd_name ?_
  exact n_6
  intro cl C s2 H2 fp d1
  exact pg_nm (d1.nlc (i:=0) rfl rfl)
  intro cl C s2 H2 fp d1
  exact pdi_nil
  intro cl C s2 H2 fp d1
  refine pd_of ?_
  refine pf_comp (N':=["one"]) (nt:=1) (cap:=[]) d1 ?s1 ?s2 ?s3 ?_ ?_ (gext_name (by decide)) (sndG_name 0) ?_ ?_
  case s1=>exact ⟨by rfl,by decide +kernel,by decide +kernel,by decide +kernel,by rfl,by decide +kernel⟩
  case s2=>decide
  case s3=>decide +kernel
  refine pr_of ?_
  exact pd_name (d1.nm (i:=0) rfl (by first | exact .inl rfl | exact .inr (.inl rfl) | exact .inr (.inr rfl)))
  intro cl C s2 H2 fp d2
  exact pg_nm (d2.nlc (i:=0) rfl rfl)
  intro cl C s2 H2 fp d2
  exact pdi_nil
  intro cl C s2 H2 fp d2
  refine pd_of ?_
  refine pf_meth0 (X:=compCx _ _ _ _ _ _ _ _) Q_rows hr ?s1 ?_
  case s1=>decide
  exact pd_name (d2.nm (i:=0) rfl (by first | exact .inl rfl | exact .inr (.inl rfl) | exact .inr (.inr rfl)))
  refine pr_of ?_
  refine pd_of ?_
  refine pf_comp (N':=["band"]) (nt:=1) (cap:=[]) d.toDefX ?s1 ?s2 ?s3 ?_ ?_ (gext_name (by decide)) (sndG_name 0) ?_ ?_
  case s1=>exact ⟨by rfl,by decide +kernel,by decide +kernel,by decide +kernel,by rfl,by decide +kernel⟩
  case s2=>decide
  case s3=>decide +kernel
  refine pr_of ?_
  refine pd_name ?_
  exact n_3
  intro cl C s2 H2 fp d1
  exact pg_nm (d1.nlc (i:=0) rfl rfl)
  intro cl C s2 H2 fp d1
  exact pdi_nil
  intro cl C s2 H2 fp d1
  refine pd_of ?_
  refine pf_comp (N':=["piece"]) (nt:=1) (cap:=[]) d1 ?s1 ?s2 ?s3 ?_ ?_ (gext_name (by decide)) (sndG_name 0) ?_ ?_
  case s1=>exact ⟨by rfl,by decide +kernel,by decide +kernel,by decide +kernel,by rfl,by decide +kernel⟩
  case s2=>decide
  case s3=>decide +kernel
  refine pr_of ?_
  exact pd_name (d1.nm (i:=0) rfl (by first | exact .inl rfl | exact .inr (.inl rfl) | exact .inr (.inr rfl)))
  intro cl C s2 H2 fp d2
  exact pg_nm (d2.nlc (i:=0) rfl rfl)
  intro cl C s2 H2 fp d2
  exact pdi_nil
  intro cl C s2 H2 fp d2
  refine pd_ix ?_ ?_
  refine pr_of ?_
  exact pd_name (d2.nm (i:=0) rfl (by first | exact .inl rfl | exact .inr (.inl rfl) | exact .inr (.inr rfl)))
  exact pd_int
  refine pdss_one ?_
  refine pds_ret ?_
  exact pd_bl
  exact pdss_nil
  refine pdss_cons ?_ ?_
  refine pds_if ?_ ?_ ?_
  refine PDW.pt ?_
  refine pdw_or ?_ ?_
  refine pdt_not ?_
  refine pdt_val ?_
  refine pd_def G_law_box hr ?s1 ?_ ?_
  case s1=>decide
  exact g_law_box
  refine pda_cons ?_ ?_
  refine pd_name ?_
  exact n_7
  refine pda_cons ?_ ?_
  refine pd_name ?_
  exact n_10
  refine pda_cons ?_ ?_
  refine pd_name ?_
  exact n_11
  exact pda_nil
  refine pdw_or1 ?_
  refine pdt_not ?_
  refine pdt_val ?_
  refine pd_def G_law_spots hr ?s1 ?_ ?_
  case s1=>decide
  exact g_law_spots
  refine pda_cons ?_ ?_
  refine pd_of ?_
  refine pf_meth0 Q_spots hr ?s1 ?_
  case s1=>decide
  refine pd_name ?_
  exact n_7
  refine pda_cons ?_ ?_
  refine pd_name ?_
  exact n_12
  exact pda_nil
  refine pdss_one ?_
  refine pds_ret ?_
  exact pd_bl
  exact pdss_nil
  refine pdss_cons ?_ ?_
  refine pds_take ?_ ?_
  exact l_13
  exact n_6
  refine pdss_cons ?_ ?_
  refine pds_itemU ?_ ?_ ?_
  exact n_6
  exact pd_int
  refine pd_of ?_
  refine pf_comp1 (N':=["k"]) (nt:=1) (cap:=[]) d.toDefX ?s1 ?s2 ?s3 ?_ ?_ ?_ ?_ (gext_name (by decide)) (sndG_name 0) ?_ ?_
  case s1=>exact ⟨by rfl,by decide +kernel,by decide +kernel,by decide +kernel,by rfl,by decide +kernel⟩
  case s2=>decide
  case s3=>decide +kernel
  exact g_range
  exact T.b_range
  refine pda_cons ?_ ?_
  refine pd_name ?_
  exact n_2
  exact pda_nil
  intro cl C s2 H2 fp d1
  exact pg_nm (d1.nlc (i:=0) rfl rfl)
  intro cl C s2 H2 fp d1
  exact pdi_nil
  intro cl C s2 H2 fp d1
  refine pd_make (X:=compCx _ _ _ _ _ _ _ _) M_Word hr ?s1 (d1.gl rfl) ?_
  case s1=>decide
  refine pda_cons ?_ ?_
  refine pd_mul ?_ ?_
  refine pr_of ?_
  exact pd_str (by decide +kernel)
  exact pd_int
  exact pda_nil
  refine pdss_cons ?_ ?_
  refine pds_item ?_ ?_ ?_
  exact n_13
  exact pd_int
  refine pd_make M_Word hr ?s1 ?_ ?_
  case s1=>decide
  exact g_Word
  refine pda_cons ?_ ?_
  refine pd_mul ?_ ?_
  refine pr_of ?_
  exact pd_str (by decide +kernel)
  exact pd_int
  exact pda_nil
  refine pdss_cons ?_ ?_
  refine pds_own ?_ ?_
  exact l_14
  refine pf_meth0 Q_spots hr ?s1 ?_
  case s1=>decide
  refine pd_name ?_
  exact n_7
  refine pdss_cons ?_ ?_
  refine pds_clear ?_
  exact n_14
  refine pdss_cons ?_ ?_
  refine pds_if ?_ ?_ ?_
  refine PDW.pt ?_
  refine pdw_or ?_ ?_
  refine pdt_not ?_
  refine pdt_val ?_
  refine pd_def G_law_box hr ?s1 ?_ ?_
  case s1=>decide
  exact g_law_box
  refine pda_cons ?_ ?_
  refine pd_name ?_
  exact n_7
  refine pda_cons ?_ ?_
  refine pd_name ?_
  exact n_10
  refine pda_cons ?_ ?_
  refine pd_name ?_
  exact n_11
  exact pda_nil
  refine pdw_or1 ?_
  refine pdt_not ?_
  refine pdt_val ?_
  refine pd_def G_law_spots hr ?s1 ?_ ?_
  case s1=>decide
  exact g_law_spots
  refine pda_cons ?_ ?_
  refine pd_of ?_
  refine pf_meth0 Q_spots hr ?s1 ?_
  case s1=>decide
  refine pd_name ?_
  exact n_7
  refine pda_cons ?_ ?_
  refine pd_name ?_
  exact n_12
  exact pda_nil
  refine pdss_one ?_
  refine pds_ret ?_
  exact pd_bl
  exact pdss_nil
  refine pdss_cons ?_ ?_
  refine pds_set ?_ ?_
  exact l_15
  refine pd_mod ?_ ?_
  refine pd_def G_law_cell_at hr ?s1 ?_ ?_
  case s1=>decide
  exact g_law_cell_at
  refine pda_cons ?_ ?_
  refine pd_name ?_
  exact n_0
  refine pda_cons ?_ ?_
  exact pd_int
  exact pda_nil
  refine pd_pow ?_ ?_
  exact pd_int
  exact pd_int
  refine pdss_cons ?_ ?_
  refine pds_for d.never d.calm (sndG_name 16) ?_ ?_ ?_
  refine pg_nm ?_
  exact l_16
  refine pd_of ?_
  refine pf_lst ?_
  refine pda_cons ?_ ?_
  refine pd_name ?_
  exact n_15
  refine pda_cons ?_ ?_
  refine pd_neg ?_
  refine pd_name ?_
  exact n_15
  refine pda_cons ?_ ?_
  refine pd_name ?_
  exact n_11
  refine pda_cons ?_ ?_
  refine pd_neg ?_
  refine pd_name ?_
  exact n_11
  refine pda_cons ?_ ?_
  refine pd_sub ?_ ?_
  refine pd_neg ?_
  refine pd_name ?_
  exact n_11
  exact pd_int
  refine pda_cons ?_ ?_
  refine pd_sub ?_ ?_
  refine pd_len ?_ ?_ ?_
  exact g_len
  exact T.b_len
  refine pr_of ?_
  refine pd_name ?_
  exact n_10
  refine pd_name ?_
  exact n_11
  exact pda_nil
  refine pdss_one ?_
  refine pds_if ?_ ?_ ?_
  refine pdt_ne hr ?_ ?_
  refine pr_of ?_
  refine pd_meth Q_row hr ?s1 ?_ ?_
  case s1=>decide
  refine pd_name ?_
  exact n_7
  refine pda_cons ?_ ?_
  refine pd_name ?_
  exact n_16
  exact pda_nil
  refine pr_of ?_
  refine pd_def G_law_row hr ?s1 ?_ ?_
  case s1=>decide
  exact g_law_row
  refine pda_cons ?_ ?_
  refine pd_tup ?_
  refine pda_cons ?_ ?_
  refine pd_name ?_
  exact n_7
  refine pda_cons ?_ ?_
  refine pd_name ?_
  exact n_10
  refine pda_cons ?_ ?_
  refine pd_name ?_
  exact n_11
  exact pda_nil
  refine pda_cons ?_ ?_
  refine pd_name ?_
  exact n_16
  exact pda_nil
  refine pdss_one ?_
  refine pds_ret ?_
  exact pd_bl
  exact pdss_nil
  refine pdss_one ?_
  refine pds_ret ?_
  exact pd_bl
end
theorem all_mk {l:PySem.W.OpenLaw}{w:World}{K:PySem.W.Frag}{h:Heap}{mg:Str→Option Value}{fa f1 f2 f3 f4 f6 f8 f9 f10 f11 f12 f13 f18 f26 f27 f28 f30 f31 f32 C0 C1 C2 C3 m_Sketch_init m_Grid_init m_Word_init m_Sketch_spots m_Root_spots m_Grid_spots m_Sketch_row_within m_Word_row_within m_Sketch_row m_Root_row_within m_Grid_row_within m_Grid_band_row m_Sketch_rows m_Root_init:Addr}(X:K.In h)(G:h.Ns mainGlobals mg)(hfa:mg "law"=some (.ref fa))
    (aC0:PySem.W.nsIn K mainGlobals "Sketch"=some (some (.ref C0)))
    (aC1:PySem.W.nsIn K mainGlobals "Word"=some (some (.ref C1)))
    (aC2:PySem.W.nsIn K mainGlobals "Root"=some (some (.ref C2)))
    (aC3:PySem.W.nsIn K mainGlobals "Grid"=some (some (.ref C3)))
    {oc1 kV1 dc1 pm1 cd1 ct1:Value} {od1 an1:Option Addr} {sl1:Array (Option Value)}
    (a1:PySem.W.nsIn K mainGlobals "column_widths"=some (some (.ref f1)))
    (l1:K.lookup f1=some ⟨oc1,od1,.func (PySem.W.fnOf "column_widths" "column_widths" (defArgs s_column_widths) (defBody s_column_widths) (defScope s_column_widths) .none kV1 dc1 pm1 an1 cd1 ct1),sl1⟩)
    (c1:PySem.W.codeIn K cd1 "column_widths"=true)
    (k1:PySem.W.keepIn K (.ref f1)=true)
    {oc2 kV2 dc2 pm2 cd2 ct2:Value} {od2 an2:Option Addr} {sl2:Array (Option Value)}
    (a2:PySem.W.nsIn K mainGlobals "greatest_up"=some (some (.ref f2)))
    (l2:K.lookup f2=some ⟨oc2,od2,.func (PySem.W.fnOf "greatest_up" "greatest_up" (defArgs s_greatest_up) (defBody s_greatest_up) (defScope s_greatest_up) .none kV2 dc2 pm2 an2 cd2 ct2),sl2⟩)
    (c2:PySem.W.codeIn K cd2 "greatest_up"=true)
    (k2:PySem.W.keepIn K (.ref f2)=true)
    {oc3 kV3 dc3 pm3 cd3 ct3:Value} {od3 an3:Option Addr} {sl3:Array (Option Value)}
    (a3:PySem.W.nsIn K mainGlobals "band_height"=some (some (.ref f3)))
    (l3:K.lookup f3=some ⟨oc3,od3,.func (PySem.W.fnOf "band_height" "band_height" (defArgs s_band_height) (defBody s_band_height) (defScope s_band_height) .none kV3 dc3 pm3 an3 cd3 ct3),sl3⟩)
    (c3:PySem.W.codeIn K cd3 "band_height"=true)
    (k3:PySem.W.keepIn K (.ref f3)=true)
    {oc4 kV4 dc4 pm4 cd4 ct4:Value} {od4 an4:Option Addr} {sl4:Array (Option Value)}
    (a4:PySem.W.nsIn K mainGlobals "numbers_by_row"=some (some (.ref f4)))
    (l4:K.lookup f4=some ⟨oc4,od4,.func (PySem.W.fnOf "numbers_by_row" "numbers_by_row" (defArgs s_numbers_by_row) (defBody s_numbers_by_row) (defScope s_numbers_by_row) .none kV4 dc4 pm4 an4 cd4 ct4),sl4⟩)
    (c4:PySem.W.codeIn K cd4 "numbers_by_row"=true)
    (k4:PySem.W.keepIn K (.ref f4)=true)
    {oc5 kV5 dc5 pm5 cd5 ct5:Value} {od5 an5:Option Addr} {sl5:Array (Option Value)}
    (a5:PySem.W.findIn K (.ref C0) "__init__"=some (some (.ref m_Sketch_init)))
    (i_Sketch_init:PySem.W.isFn K (.ref m_Sketch_init)=true)
    (k_Sketch_init:PySem.W.keepIn K (.ref m_Sketch_init)=true)
    (l5:K.lookup m_Sketch_init=some ⟨oc5,od5,.func (PySem.W.fnOf "__init__" "Sketch.__init__" (defArgs s_Sketch_init) (defBody s_Sketch_init) (defScope s_Sketch_init) .none kV5 dc5 pm5 an5 cd5 ct5),sl5⟩)
    (c5:PySem.W.codeIn K cd5 "Sketch.__init__"=true)
    {oc6 kV6 dc6 pm6 cd6 ct6:Value} {od6 an6:Option Addr} {sl6:Array (Option Value)}
    (a6:PySem.W.nsIn K mainGlobals "band_lows"=some (some (.ref f6)))
    (l6:K.lookup f6=some ⟨oc6,od6,.func (PySem.W.fnOf "band_lows" "band_lows" (defArgs s_band_lows) (defBody s_band_lows) (defScope s_band_lows) .none kV6 dc6 pm6 an6 cd6 ct6),sl6⟩)
    (c6:PySem.W.codeIn K cd6 "band_lows"=true)
    (k6:PySem.W.keepIn K (.ref f6)=true)
    {oc7 kV7 dc7 pm7 cd7 ct7:Value} {od7 an7:Option Addr} {sl7:Array (Option Value)}
    (a7:PySem.W.findIn K (.ref C3) "__init__"=some (some (.ref m_Grid_init)))
    (i_Grid_init:PySem.W.isFn K (.ref m_Grid_init)=true)
    (k_Grid_init:PySem.W.keepIn K (.ref m_Grid_init)=true)
    (l7:K.lookup m_Grid_init=some ⟨oc7,od7,.func (PySem.W.fnOf "__init__" "Grid.__init__" (defArgs s_Grid_init) (defBody s_Grid_init) (defScope s_Grid_init) .none kV7 dc7 pm7 an7 cd7 ct7),sl7⟩)
    (c7:PySem.W.codeIn K cd7 "Grid.__init__"=true)
    {oc8 kV8 dc8 pm8 cd8 ct8:Value} {od8 an8:Option Addr} {sl8:Array (Option Value)}
    (a8:PySem.W.nsIn K mainGlobals "_law_wides"=some (some (.ref f8)))
    (l8:K.lookup f8=some ⟨oc8,od8,.func (PySem.W.fnOf "_law_wides" "_law_wides" (defArgs s_law_wides) (defBody s_law_wides) (defScope s_law_wides) .none kV8 dc8 pm8 an8 cd8 ct8),sl8⟩)
    (c8:PySem.W.codeIn K cd8 "_law_wides"=true)
    (k8:PySem.W.keepIn K (.ref f8)=true)
    {oc9 kV9 dc9 pm9 cd9 ct9:Value} {od9 an9:Option Addr} {sl9:Array (Option Value)}
    (a9:PySem.W.nsIn K mainGlobals "_law_row"=some (some (.ref f9)))
    (l9:K.lookup f9=some ⟨oc9,od9,.func (PySem.W.fnOf "_law_row" "_law_row" (defArgs s_law_row) (defBody s_law_row) (defScope s_law_row) .none kV9 dc9 pm9 an9 cd9 ct9),sl9⟩)
    (c9:PySem.W.codeIn K cd9 "_law_row"=true)
    (k9:PySem.W.keepIn K (.ref f9)=true)
    {oc10 kV10 dc10 pm10 cd10 ct10:Value} {od10 an10:Option Addr} {sl10:Array (Option Value)}
    (a10:PySem.W.nsIn K mainGlobals "_law_band"=some (some (.ref f10)))
    (l10:K.lookup f10=some ⟨oc10,od10,.func (PySem.W.fnOf "_law_band" "_law_band" (defArgs s_law_band) (defBody s_law_band) (defScope s_law_band) .none kV10 dc10 pm10 an10 cd10 ct10),sl10⟩)
    (c10:PySem.W.codeIn K cd10 "_law_band"=true)
    (k10:PySem.W.keepIn K (.ref f10)=true)
    {oc11 kV11 dc11 pm11 cd11 ct11:Value} {od11 an11:Option Addr} {sl11:Array (Option Value)}
    (a11:PySem.W.nsIn K mainGlobals "_law_inner"=some (some (.ref f11)))
    (l11:K.lookup f11=some ⟨oc11,od11,.func (PySem.W.fnOf "_law_inner" "_law_inner" (defArgs s_law_inner) (defBody s_law_inner) (defScope s_law_inner) .none kV11 dc11 pm11 an11 cd11 ct11),sl11⟩)
    (c11:PySem.W.codeIn K cd11 "_law_inner"=true)
    (k11:PySem.W.keepIn K (.ref f11)=true)
    {oc12 kV12 dc12 pm12 cd12 ct12:Value} {od12 an12:Option Addr} {sl12:Array (Option Value)}
    (a12:PySem.W.nsIn K mainGlobals "_law_sided"=some (some (.ref f12)))
    (l12:K.lookup f12=some ⟨oc12,od12,.func (PySem.W.fnOf "_law_sided" "_law_sided" (defArgs s_law_sided) (defBody s_law_sided) (defScope s_law_sided) .none kV12 dc12 pm12 an12 cd12 ct12),sl12⟩)
    (c12:PySem.W.codeIn K cd12 "_law_sided"=true)
    (k12:PySem.W.keepIn K (.ref f12)=true)
    {oc13 kV13 dc13 pm13 cd13 ct13:Value} {od13 an13:Option Addr} {sl13:Array (Option Value)}
    (a13:PySem.W.nsIn K mainGlobals "_law_due_spots"=some (some (.ref f13)))
    (l13:K.lookup f13=some ⟨oc13,od13,.func (PySem.W.fnOf "_law_due_spots" "_law_due_spots" (defArgs s_law_due_spots) (defBody s_law_due_spots) (defScope s_law_due_spots) .none kV13 dc13 pm13 an13 cd13 ct13),sl13⟩)
    (c13:PySem.W.codeIn K cd13 "_law_due_spots"=true)
    (k13:PySem.W.keepIn K (.ref f13)=true)
    {oc14 kV14 dc14 pm14 cd14 ct14:Value} {od14 an14:Option Addr} {sl14:Array (Option Value)}
    (a14:PySem.W.findIn K (.ref C1) "__init__"=some (some (.ref m_Word_init)))
    (i_Word_init:PySem.W.isFn K (.ref m_Word_init)=true)
    (k_Word_init:PySem.W.keepIn K (.ref m_Word_init)=true)
    (l14:K.lookup m_Word_init=some ⟨oc14,od14,.func (PySem.W.fnOf "__init__" "Word.__init__" (defArgs s_Word_init) (defBody s_Word_init) (defScope s_Word_init) .none kV14 dc14 pm14 an14 cd14 ct14),sl14⟩)
    (c14:PySem.W.codeIn K cd14 "Word.__init__"=true)
    {oc15 kV15 dc15 pm15 cd15 ct15:Value} {od15 an15:Option Addr} {sl15:Array (Option Value)}
    (a15:PySem.W.findIn K (.ref C0) "spots"=some (some (.ref m_Sketch_spots)))
    (i_Sketch_spots:PySem.W.isFn K (.ref m_Sketch_spots)=true)
    (k_Sketch_spots:PySem.W.keepIn K (.ref m_Sketch_spots)=true)
    (l15:K.lookup m_Sketch_spots=some ⟨oc15,od15,.func (PySem.W.fnOf "spots" "Sketch.spots" (defArgs s_Sketch_spots) (defBody s_Sketch_spots) (defScope s_Sketch_spots) .none kV15 dc15 pm15 an15 cd15 ct15),sl15⟩)
    (c15:PySem.W.codeIn K cd15 "Sketch.spots"=true)
    {oc16 kV16 dc16 pm16 cd16 ct16:Value} {od16 an16:Option Addr} {sl16:Array (Option Value)}
    (a16:PySem.W.findIn K (.ref C2) "spots"=some (some (.ref m_Root_spots)))
    (i_Root_spots:PySem.W.isFn K (.ref m_Root_spots)=true)
    (k_Root_spots:PySem.W.keepIn K (.ref m_Root_spots)=true)
    (l16:K.lookup m_Root_spots=some ⟨oc16,od16,.func (PySem.W.fnOf "spots" "Root.spots" (defArgs s_Root_spots) (defBody s_Root_spots) (defScope s_Root_spots) .none kV16 dc16 pm16 an16 cd16 ct16),sl16⟩)
    (c16:PySem.W.codeIn K cd16 "Root.spots"=true)
    {oc17 kV17 dc17 pm17 cd17 ct17:Value} {od17 an17:Option Addr} {sl17:Array (Option Value)}
    (a17:PySem.W.findIn K (.ref C3) "spots"=some (some (.ref m_Grid_spots)))
    (i_Grid_spots:PySem.W.isFn K (.ref m_Grid_spots)=true)
    (k_Grid_spots:PySem.W.keepIn K (.ref m_Grid_spots)=true)
    (l17:K.lookup m_Grid_spots=some ⟨oc17,od17,.func (PySem.W.fnOf "spots" "Grid.spots" (defArgs s_Grid_spots) (defBody s_Grid_spots) (defScope s_Grid_spots) .none kV17 dc17 pm17 an17 cd17 ct17),sl17⟩)
    (c17:PySem.W.codeIn K cd17 "Grid.spots"=true)
    {oc18 kV18 dc18 pm18 cd18 ct18:Value} {od18 an18:Option Addr} {sl18:Array (Option Value)}
    (a18:PySem.W.nsIn K mainGlobals "_law_cell_at"=some (some (.ref f18)))
    (l18:K.lookup f18=some ⟨oc18,od18,.func (PySem.W.fnOf "_law_cell_at" "_law_cell_at" (defArgs s_law_cell_at) (defBody s_law_cell_at) (defScope s_law_cell_at) .none kV18 dc18 pm18 an18 cd18 ct18),sl18⟩)
    (c18:PySem.W.codeIn K cd18 "_law_cell_at"=true)
    (k18:PySem.W.keepIn K (.ref f18)=true)
    {oc19 kV19 dc19 pm19 cd19 ct19:Value} {od19 an19:Option Addr} {sl19:Array (Option Value)}
    (a19:PySem.W.findIn K (.ref C0) "row_within"=some (some (.ref m_Sketch_row_within)))
    (i_Sketch_row_within:PySem.W.isFn K (.ref m_Sketch_row_within)=true)
    (k_Sketch_row_within:PySem.W.keepIn K (.ref m_Sketch_row_within)=true)
    (l19:K.lookup m_Sketch_row_within=some ⟨oc19,od19,.func (PySem.W.fnOf "row_within" "Sketch.row_within" (defArgs s_Sketch_row_within) (defBody s_Sketch_row_within) (defScope s_Sketch_row_within) .none kV19 dc19 pm19 an19 cd19 ct19),sl19⟩)
    (c19:PySem.W.codeIn K cd19 "Sketch.row_within"=true)
    {oc20 kV20 dc20 pm20 cd20 ct20:Value} {od20 an20:Option Addr} {sl20:Array (Option Value)}
    (a20:PySem.W.findIn K (.ref C1) "row_within"=some (some (.ref m_Word_row_within)))
    (i_Word_row_within:PySem.W.isFn K (.ref m_Word_row_within)=true)
    (k_Word_row_within:PySem.W.keepIn K (.ref m_Word_row_within)=true)
    (l20:K.lookup m_Word_row_within=some ⟨oc20,od20,.func (PySem.W.fnOf "row_within" "Word.row_within" (defArgs s_Word_row_within) (defBody s_Word_row_within) (defScope s_Word_row_within) .none kV20 dc20 pm20 an20 cd20 ct20),sl20⟩)
    (c20:PySem.W.codeIn K cd20 "Word.row_within"=true)
    {oc21 kV21 dc21 pm21 cd21 ct21:Value} {od21 an21:Option Addr} {sl21:Array (Option Value)}
    (a21:PySem.W.findIn K (.ref C0) "row"=some (some (.ref m_Sketch_row)))
    (i_Sketch_row:PySem.W.isFn K (.ref m_Sketch_row)=true)
    (k_Sketch_row:PySem.W.keepIn K (.ref m_Sketch_row)=true)
    (l21:K.lookup m_Sketch_row=some ⟨oc21,od21,.func (PySem.W.fnOf "row" "Sketch.row" (defArgs s_Sketch_row) (defBody s_Sketch_row) (defScope s_Sketch_row) .none kV21 dc21 pm21 an21 cd21 ct21),sl21⟩)
    (c21:PySem.W.codeIn K cd21 "Sketch.row"=true)
    {oc22 kV22 dc22 pm22 cd22 ct22:Value} {od22 an22:Option Addr} {sl22:Array (Option Value)}
    (a22:PySem.W.findIn K (.ref C2) "row_within"=some (some (.ref m_Root_row_within)))
    (i_Root_row_within:PySem.W.isFn K (.ref m_Root_row_within)=true)
    (k_Root_row_within:PySem.W.keepIn K (.ref m_Root_row_within)=true)
    (l22:K.lookup m_Root_row_within=some ⟨oc22,od22,.func (PySem.W.fnOf "row_within" "Root.row_within" (defArgs s_Root_row_within) (defBody s_Root_row_within) (defScope s_Root_row_within) .none kV22 dc22 pm22 an22 cd22 ct22),sl22⟩)
    (c22:PySem.W.codeIn K cd22 "Root.row_within"=true)
    {oc23 kV23 dc23 pm23 cd23 ct23:Value} {od23 an23:Option Addr} {sl23:Array (Option Value)}
    (a23:PySem.W.findIn K (.ref C3) "row_within"=some (some (.ref m_Grid_row_within)))
    (i_Grid_row_within:PySem.W.isFn K (.ref m_Grid_row_within)=true)
    (k_Grid_row_within:PySem.W.keepIn K (.ref m_Grid_row_within)=true)
    (l23:K.lookup m_Grid_row_within=some ⟨oc23,od23,.func (PySem.W.fnOf "row_within" "Grid.row_within" (defArgs s_Grid_row_within) (defBody s_Grid_row_within) (defScope s_Grid_row_within) .none kV23 dc23 pm23 an23 cd23 ct23),sl23⟩)
    (c23:PySem.W.codeIn K cd23 "Grid.row_within"=true)
    {oc24 kV24 dc24 pm24 cd24 ct24:Value} {od24 an24:Option Addr} {sl24:Array (Option Value)}
    (a24:PySem.W.findIn K (.ref C3) "band_row"=some (some (.ref m_Grid_band_row)))
    (i_Grid_band_row:PySem.W.isFn K (.ref m_Grid_band_row)=true)
    (k_Grid_band_row:PySem.W.keepIn K (.ref m_Grid_band_row)=true)
    (l24:K.lookup m_Grid_band_row=some ⟨oc24,od24,.func (PySem.W.fnOf "band_row" "Grid.band_row" (defArgs s_Grid_band_row) (defBody s_Grid_band_row) (defScope s_Grid_band_row) .none kV24 dc24 pm24 an24 cd24 ct24),sl24⟩)
    (c24:PySem.W.codeIn K cd24 "Grid.band_row"=true)
    {oc25 kV25 dc25 pm25 cd25 ct25:Value} {od25 an25:Option Addr} {sl25:Array (Option Value)}
    (a25:PySem.W.findIn K (.ref C0) "rows"=some (some (.ref m_Sketch_rows)))
    (i_Sketch_rows:PySem.W.isFn K (.ref m_Sketch_rows)=true)
    (k_Sketch_rows:PySem.W.keepIn K (.ref m_Sketch_rows)=true)
    (l25:K.lookup m_Sketch_rows=some ⟨oc25,od25,.func (PySem.W.fnOf "rows" "Sketch.rows" (defArgs s_Sketch_rows) (defBody s_Sketch_rows) (defScope s_Sketch_rows) .none kV25 dc25 pm25 an25 cd25 ct25),sl25⟩)
    (c25:PySem.W.codeIn K cd25 "Sketch.rows"=true)
    {oc26 kV26 dc26 pm26 cd26 ct26:Value} {od26 an26:Option Addr} {sl26:Array (Option Value)}
    (a26:PySem.W.nsIn K mainGlobals "_law_whole"=some (some (.ref f26)))
    (l26:K.lookup f26=some ⟨oc26,od26,.func (PySem.W.fnOf "_law_whole" "_law_whole" (defArgs s_law_whole) (defBody s_law_whole) (defScope s_law_whole) .none kV26 dc26 pm26 an26 cd26 ct26),sl26⟩)
    (c26:PySem.W.codeIn K cd26 "_law_whole"=true)
    (k26:PySem.W.keepIn K (.ref f26)=true)
    {oc27 kV27 dc27 pm27 cd27 ct27:Value} {od27 an27:Option Addr} {sl27:Array (Option Value)}
    (a27:PySem.W.nsIn K mainGlobals "_law_box"=some (some (.ref f27)))
    (l27:K.lookup f27=some ⟨oc27,od27,.func (PySem.W.fnOf "_law_box" "_law_box" (defArgs s_law_box) (defBody s_law_box) (defScope s_law_box) .none kV27 dc27 pm27 an27 cd27 ct27),sl27⟩)
    (c27:PySem.W.codeIn K cd27 "_law_box"=true)
    (k27:PySem.W.keepIn K (.ref f27)=true)
    {oc28 kV28 dc28 pm28 cd28 ct28:Value} {od28 an28:Option Addr} {sl28:Array (Option Value)}
    (a28:PySem.W.nsIn K mainGlobals "_law_spots"=some (some (.ref f28)))
    (l28:K.lookup f28=some ⟨oc28,od28,.func (PySem.W.fnOf "_law_spots" "_law_spots" (defArgs s_law_spots) (defBody s_law_spots) (defScope s_law_spots) .none kV28 dc28 pm28 an28 cd28 ct28),sl28⟩)
    (c28:PySem.W.codeIn K cd28 "_law_spots"=true)
    (k28:PySem.W.keepIn K (.ref f28)=true)
    {oc29 kV29 dc29 pm29 cd29 ct29:Value} {od29 an29:Option Addr} {sl29:Array (Option Value)}
    (a29:PySem.W.findIn K (.ref C2) "__init__"=some (some (.ref m_Root_init)))
    (i_Root_init:PySem.W.isFn K (.ref m_Root_init)=true)
    (k_Root_init:PySem.W.keepIn K (.ref m_Root_init)=true)
    (l29:K.lookup m_Root_init=some ⟨oc29,od29,.func (PySem.W.fnOf "__init__" "Root.__init__" (defArgs s_Root_init) (defBody s_Root_init) (defScope s_Root_init) .none kV29 dc29 pm29 an29 cd29 ct29),sl29⟩)
    (c29:PySem.W.codeIn K cd29 "Root.__init__"=true)
    {oc30 kV30 dc30 pm30 cd30 ct30:Value} {od30 an30:Option Addr} {sl30:Array (Option Value)}
    (a30:PySem.W.nsIn K mainGlobals "_law_sign"=some (some (.ref f30)))
    (l30:K.lookup f30=some ⟨oc30,od30,.func (PySem.W.fnOf "_law_sign" "_law_sign" (defArgs s_law_sign) (defBody s_law_sign) (defScope s_law_sign) .none kV30 dc30 pm30 an30 cd30 ct30),sl30⟩)
    (c30:PySem.W.codeIn K cd30 "_law_sign"=true)
    (k30:PySem.W.keepIn K (.ref f30)=true)
    {oc31 kV31 dc31 pm31 cd31 ct31:Value} {od31 an31:Option Addr} {sl31:Array (Option Value)}
    (a31:PySem.W.nsIn K mainGlobals "_law_piece"=some (some (.ref f31)))
    (l31:K.lookup f31=some ⟨oc31,od31,.func (PySem.W.fnOf "_law_piece" "_law_piece" (defArgs s_law_piece) (defBody s_law_piece) (defScope s_law_piece) .none kV31 dc31 pm31 an31 cd31 ct31),sl31⟩)
    (c31:PySem.W.codeIn K cd31 "_law_piece"=true)
    (k31:PySem.W.keepIn K (.ref f31)=true)
    {oc32 kV32 dc32 pm32 cd32 ct32:Value} {od32 an32:Option Addr} {sl32:Array (Option Value)}
    (a32:PySem.W.nsIn K mainGlobals "law"=some (some (.ref f32)))
    (l32:K.lookup f32=some ⟨oc32,od32,.func (PySem.W.fnOf "law" "law" (defArgs s_law) (defBody s_law) (defScope s_law) .none kV32 dc32 pm32 an32 cd32 ct32),sl32⟩)
    (c32:PySem.W.codeIn K cd32 "law"=true)
    (k32:PySem.W.keepIn K (.ref f32)=true)
    (z1:PySem.W.nsIn K mainGlobals "max"=some none)
    (z2:PySem.W.nsIn K mainGlobals "range"=some none)
    (z3:PySem.W.nsIn K mainGlobals "len"=some none)
    (z4:PySem.W.nsIn K mainGlobals "enumerate"=some none)
    (z5:PySem.W.nsIn K mainGlobals "list"=some none)
    (z6:PySem.W.nsIn K mainGlobals "sum"=some none)
    (z7:PySem.W.nsIn K mainGlobals "zip"=some none)
    (z8:PySem.W.nsIn K mainGlobals "isinstance"=some none)
    (z9:PySem.W.nsIn K mainGlobals "int"=some none)
    (z10:PySem.W.nsIn K mainGlobals "bool"=some none)
    (z11:PySem.W.nsIn K mainGlobals "tuple"=some none)
    {u1:Value}
    (ua1:PySem.W.nsIn K mainGlobals "BLANK"=some (some u1))
    (ue1:cOk c_BLANK u1=true)
    (pg0:PySem.W.plainGet K C0 Str.empty=true)
    (hd0:PySem.W.hasDictIn K C0=true)
    (po0:PySem.W.plainOver K C0=true)
    (sa0:PySem.W.findIn K (.ref C0) "__setattr__"=some (some (.builtin "object.__setattr__")))
    (fm0_row:PySem.W.findIn K (.ref C0) "row"=some (some (.ref m_Sketch_row)))
    (fm0_row_within:PySem.W.findIn K (.ref C0) "row_within"=some (some (.ref m_Sketch_row_within)))
    (fm0_rows:PySem.W.findIn K (.ref C0) "rows"=some (some (.ref m_Sketch_rows)))
    (fm0_spots:PySem.W.findIn K (.ref C0) "spots"=some (some (.ref m_Sketch_spots)))
    (nf0_0:PySem.W.findIn K (.ref C0) "wide"=some none)
    (nf0_1:PySem.W.findIn K (.ref C0) "up"=some none)
    (nf0_2:PySem.W.findIn K (.ref C0) "down"=some none)
    (nf0_3:PySem.W.findIn K (.ref C0) "word"=some none)
    (nf0_4:PySem.W.findIn K (.ref C0) "inner"=some none)
    (nf0_5:PySem.W.findIn K (.ref C0) "bands"=some none)
    (nf0_6:PySem.W.findIn K (.ref C0) "widths"=some none)
    (nf0_7:PySem.W.findIn K (.ref C0) "band_numbers"=some none)
    (nf0_8:PySem.W.findIn K (.ref C0) "lows"=some none)
    (pg1:PySem.W.plainGet K C1 Str.empty=true)
    (hd1:PySem.W.hasDictIn K C1=true)
    (po1:PySem.W.plainOver K C1=true)
    (sa1:PySem.W.findIn K (.ref C1) "__setattr__"=some (some (.builtin "object.__setattr__")))
    (fm1_row:PySem.W.findIn K (.ref C1) "row"=some (some (.ref m_Sketch_row)))
    (fm1_row_within:PySem.W.findIn K (.ref C1) "row_within"=some (some (.ref m_Word_row_within)))
    (fm1_rows:PySem.W.findIn K (.ref C1) "rows"=some (some (.ref m_Sketch_rows)))
    (fm1_spots:PySem.W.findIn K (.ref C1) "spots"=some (some (.ref m_Sketch_spots)))
    (nf1_0:PySem.W.findIn K (.ref C1) "wide"=some none)
    (nf1_1:PySem.W.findIn K (.ref C1) "up"=some none)
    (nf1_2:PySem.W.findIn K (.ref C1) "down"=some none)
    (nf1_3:PySem.W.findIn K (.ref C1) "word"=some none)
    (nf1_4:PySem.W.findIn K (.ref C1) "inner"=some none)
    (nf1_5:PySem.W.findIn K (.ref C1) "bands"=some none)
    (nf1_6:PySem.W.findIn K (.ref C1) "widths"=some none)
    (nf1_7:PySem.W.findIn K (.ref C1) "band_numbers"=some none)
    (nf1_8:PySem.W.findIn K (.ref C1) "lows"=some none)
    (pg2:PySem.W.plainGet K C2 Str.empty=true)
    (hd2:PySem.W.hasDictIn K C2=true)
    (po2:PySem.W.plainOver K C2=true)
    (sa2:PySem.W.findIn K (.ref C2) "__setattr__"=some (some (.builtin "object.__setattr__")))
    (fm2_row:PySem.W.findIn K (.ref C2) "row"=some (some (.ref m_Sketch_row)))
    (fm2_row_within:PySem.W.findIn K (.ref C2) "row_within"=some (some (.ref m_Root_row_within)))
    (fm2_rows:PySem.W.findIn K (.ref C2) "rows"=some (some (.ref m_Sketch_rows)))
    (fm2_spots:PySem.W.findIn K (.ref C2) "spots"=some (some (.ref m_Root_spots)))
    (nf2_0:PySem.W.findIn K (.ref C2) "wide"=some none)
    (nf2_1:PySem.W.findIn K (.ref C2) "up"=some none)
    (nf2_2:PySem.W.findIn K (.ref C2) "down"=some none)
    (nf2_3:PySem.W.findIn K (.ref C2) "word"=some none)
    (nf2_4:PySem.W.findIn K (.ref C2) "inner"=some none)
    (nf2_5:PySem.W.findIn K (.ref C2) "bands"=some none)
    (nf2_6:PySem.W.findIn K (.ref C2) "widths"=some none)
    (nf2_7:PySem.W.findIn K (.ref C2) "band_numbers"=some none)
    (nf2_8:PySem.W.findIn K (.ref C2) "lows"=some none)
    (pg3:PySem.W.plainGet K C3 Str.empty=true)
    (hd3:PySem.W.hasDictIn K C3=true)
    (po3:PySem.W.plainOver K C3=true)
    (sa3:PySem.W.findIn K (.ref C3) "__setattr__"=some (some (.builtin "object.__setattr__")))
    (fm3_row:PySem.W.findIn K (.ref C3) "row"=some (some (.ref m_Sketch_row)))
    (fm3_row_within:PySem.W.findIn K (.ref C3) "row_within"=some (some (.ref m_Grid_row_within)))
    (fm3_rows:PySem.W.findIn K (.ref C3) "rows"=some (some (.ref m_Sketch_rows)))
    (fm3_spots:PySem.W.findIn K (.ref C3) "spots"=some (some (.ref m_Grid_spots)))
    (fm3_band_row:PySem.W.findIn K (.ref C3) "band_row"=some (some (.ref m_Grid_band_row)))
    (nf3_0:PySem.W.findIn K (.ref C3) "wide"=some none)
    (nf3_1:PySem.W.findIn K (.ref C3) "up"=some none)
    (nf3_2:PySem.W.findIn K (.ref C3) "down"=some none)
    (nf3_3:PySem.W.findIn K (.ref C3) "word"=some none)
    (nf3_4:PySem.W.findIn K (.ref C3) "inner"=some none)
    (nf3_5:PySem.W.findIn K (.ref C3) "bands"=some none)
    (nf3_6:PySem.W.findIn K (.ref C3) "widths"=some none)
    (nf3_7:PySem.W.findIn K (.ref C3) "band_numbers"=some none)
    (nf3_8:PySem.W.findIn K (.ref C3) "lows"=some none)
    (mk0:PySem.W.makesIn K C0=true)
    (fi0:PySem.W.findIn K (.ref C0) "__init__"=some (some (.ref m_Sketch_init)))
    (kc0:PySem.W.keepIn K (.ref C0)=true)
    (mk1:PySem.W.makesIn K C1=true)
    (fi1:PySem.W.findIn K (.ref C1) "__init__"=some (some (.ref m_Word_init)))
    (kc1:PySem.W.keepIn K (.ref C1)=true)
    (mk2:PySem.W.makesIn K C2=true)
    (fi2:PySem.W.findIn K (.ref C2) "__init__"=some (some (.ref m_Root_init)))
    (kc2:PySem.W.keepIn K (.ref C2)=true)
    (mk3:PySem.W.makesIn K C3=true)
    (fi3:PySem.W.findIn K (.ref C3) "__init__"=some (some (.ref m_Grid_init)))
    (kc3:PySem.W.keepIn K (.ref C3)=true)
    (sg0:PySem.W.specialIn K (.ref C0) "__getattribute__"=some (some (.builtin "type.__getattribute__")))
    (rd0:PySem.W.readsIn K C0 (.type "type")=true)
    (fc0:PySem.W.findCls K (.ref C0) (.type "type") "__init__"=some (.val (.ref m_Sketch_init)))
    (is0:PySem.W.specialIn K (.builtin "object.__class__") "__get__"=some (some (.builtin "getset_descriptor.__get__")))
    (it0:PySem.W.takesIn K (.builtin "object.__class__")=some true)
    (ic0:PySem.W.findIn K (.ref C0) "__class__"=some (some (.builtin "object.__class__")))
    (im0:PySem.W.mroIn K C0 (.type "object")=some true)
    (ik0_0:PySem.W.kitOne K (.ref C0) (.ref C0)=some true)
    (ic1:PySem.W.findIn K (.ref C1) "__class__"=some (some (.builtin "object.__class__")))
    (im1:PySem.W.mroIn K C1 (.type "object")=some true)
    (ik1_0:PySem.W.kitOne K (.ref C1) (.ref C0)=some true)
    (ic2:PySem.W.findIn K (.ref C2) "__class__"=some (some (.builtin "object.__class__")))
    (im2:PySem.W.mroIn K C2 (.type "object")=some true)
    (ik2_0:PySem.W.kitOne K (.ref C2) (.ref C0)=some true)
    (ic3:PySem.W.findIn K (.ref C3) "__class__"=some (some (.builtin "object.__class__")))
    (im3:PySem.W.mroIn K C3 (.type "object")=some true)
    (ik3_0:PySem.W.kitOne K (.ref C3) (.ref C0)=some true)
    : ∃ fd:FuncData,(∀ (s:Shared) (v:Value),BindsTo s fd ⟨[v],[]⟩ [("script",v)])∧∀ base:Heap,K.In base→base.Ns mainGlobals mg→FnOk l.prog w K mg base CX0 45 fa fd ["script"] (spL K D_law):=by
  have e:=hfa.symm.trans (PySem.W.mg_of X G a32)
  cases e
  have T:Txt l.prog w K mg C0 C1 C2 C3 m_Sketch_init m_Grid_init m_Word_init m_Sketch_spots m_Root_spots m_Grid_spots m_Sketch_row_within m_Word_row_within m_Sketch_row m_Root_row_within m_Grid_row_within m_Grid_band_row m_Sketch_rows m_Root_init:=⟨PySem.W.mg_none_of X G z1,PySem.W.mg_none_of X G z2,PySem.W.mg_none_of X G z3,PySem.W.mg_none_of X G z4,PySem.W.mg_none_of X G z5,PySem.W.mg_none_of X G z6,PySem.W.mg_none_of X G z7,PySem.W.mg_none_of X G z8,PySem.W.mg_none_of X G z9,PySem.W.mg_none_of X G z10,PySem.W.mg_none_of X G z11,const_flat (PySem.W.mg_of X G ua1) ue1,⟨pg0,hd0,po0,sa0⟩,PySem.W.mg_of X G aC0,⟨fm0_row,i_Sketch_row,k_Sketch_row⟩,⟨fm0_row_within,i_Sketch_row_within,k_Sketch_row_within⟩,⟨fm0_rows,i_Sketch_rows,k_Sketch_rows⟩,⟨fm0_spots,i_Sketch_spots,k_Sketch_spots⟩,⟨pg1,hd1,po1,sa1⟩,PySem.W.mg_of X G aC1,⟨fm1_row,i_Sketch_row,k_Sketch_row⟩,⟨fm1_row_within,i_Word_row_within,k_Word_row_within⟩,⟨fm1_rows,i_Sketch_rows,k_Sketch_rows⟩,⟨fm1_spots,i_Sketch_spots,k_Sketch_spots⟩,⟨pg2,hd2,po2,sa2⟩,PySem.W.mg_of X G aC2,⟨fm2_row,i_Sketch_row,k_Sketch_row⟩,⟨fm2_row_within,i_Root_row_within,k_Root_row_within⟩,⟨fm2_rows,i_Sketch_rows,k_Sketch_rows⟩,⟨fm2_spots,i_Root_spots,k_Root_spots⟩,⟨pg3,hd3,po3,sa3⟩,PySem.W.mg_of X G aC3,⟨fm3_row,i_Sketch_row,k_Sketch_row⟩,⟨fm3_row_within,i_Grid_row_within,k_Grid_row_within⟩,⟨fm3_rows,i_Sketch_rows,k_Sketch_rows⟩,⟨fm3_spots,i_Grid_spots,k_Grid_spots⟩,⟨fm3_band_row,i_Grid_band_row,k_Grid_band_row⟩,⟨mk0,fi0,i_Sketch_init,kc0⟩,⟨mk1,fi1,i_Word_init,kc1⟩,⟨mk2,fi2,i_Root_init,kc2⟩,⟨mk3,fi3,i_Grid_init,kc3⟩,⟨sg0,⟨_,rd0,fc0⟩,rfl,k_Sketch_init⟩,fld_ok (nm:="wide") rfl (by decide +kernel) (by decide +kernel) (all_c ⟨⟨pg0,hd0,po0,sa0⟩,nf0_0⟩ (all_c ⟨⟨pg1,hd1,po1,sa1⟩,nf1_0⟩ (all_c ⟨⟨pg2,hd2,po2,sa2⟩,nf2_0⟩ (all_c ⟨⟨pg3,hd3,po3,sa3⟩,nf3_0⟩ all_n)))),fld_ok (nm:="up") rfl (by decide +kernel) (by decide +kernel) (all_c ⟨⟨pg0,hd0,po0,sa0⟩,nf0_1⟩ (all_c ⟨⟨pg1,hd1,po1,sa1⟩,nf1_1⟩ (all_c ⟨⟨pg2,hd2,po2,sa2⟩,nf2_1⟩ (all_c ⟨⟨pg3,hd3,po3,sa3⟩,nf3_1⟩ all_n)))),fld_ok (nm:="down") rfl (by decide +kernel) (by decide +kernel) (all_c ⟨⟨pg0,hd0,po0,sa0⟩,nf0_2⟩ (all_c ⟨⟨pg1,hd1,po1,sa1⟩,nf1_2⟩ (all_c ⟨⟨pg2,hd2,po2,sa2⟩,nf2_2⟩ (all_c ⟨⟨pg3,hd3,po3,sa3⟩,nf3_2⟩ all_n)))),fld_ok (nm:="word") rfl (by decide +kernel) (by decide +kernel) (all_c ⟨⟨pg0,hd0,po0,sa0⟩,nf0_3⟩ (all_c ⟨⟨pg1,hd1,po1,sa1⟩,nf1_3⟩ (all_c ⟨⟨pg2,hd2,po2,sa2⟩,nf2_3⟩ (all_c ⟨⟨pg3,hd3,po3,sa3⟩,nf3_3⟩ all_n)))),fld_ok (nm:="inner") rfl (by decide +kernel) (by decide +kernel) (all_c ⟨⟨pg0,hd0,po0,sa0⟩,nf0_4⟩ (all_c ⟨⟨pg1,hd1,po1,sa1⟩,nf1_4⟩ (all_c ⟨⟨pg2,hd2,po2,sa2⟩,nf2_4⟩ (all_c ⟨⟨pg3,hd3,po3,sa3⟩,nf3_4⟩ all_n)))),fld_ok (nm:="bands") rfl (by decide +kernel) (by decide +kernel) (all_c ⟨⟨pg0,hd0,po0,sa0⟩,nf0_5⟩ (all_c ⟨⟨pg1,hd1,po1,sa1⟩,nf1_5⟩ (all_c ⟨⟨pg2,hd2,po2,sa2⟩,nf2_5⟩ (all_c ⟨⟨pg3,hd3,po3,sa3⟩,nf3_5⟩ all_n)))),fld_ok (nm:="widths") rfl (by decide +kernel) (by decide +kernel) (all_c ⟨⟨pg0,hd0,po0,sa0⟩,nf0_6⟩ (all_c ⟨⟨pg1,hd1,po1,sa1⟩,nf1_6⟩ (all_c ⟨⟨pg2,hd2,po2,sa2⟩,nf2_6⟩ (all_c ⟨⟨pg3,hd3,po3,sa3⟩,nf3_6⟩ all_n)))),fld_ok (nm:="band_numbers") rfl (by decide +kernel) (by decide +kernel) (all_c ⟨⟨pg0,hd0,po0,sa0⟩,nf0_7⟩ (all_c ⟨⟨pg1,hd1,po1,sa1⟩,nf1_7⟩ (all_c ⟨⟨pg2,hd2,po2,sa2⟩,nf2_7⟩ (all_c ⟨⟨pg3,hd3,po3,sa3⟩,nf3_7⟩ all_n)))),fld_ok (nm:="lows") rfl (by decide +kernel) (by decide +kernel) (all_c ⟨⟨pg0,hd0,po0,sa0⟩,nf0_8⟩ (all_c ⟨⟨pg1,hd1,po1,sa1⟩,nf1_8⟩ (all_c ⟨⟨pg2,hd2,po2,sa2⟩,nf2_8⟩ (all_c ⟨⟨pg3,hd3,po3,sa3⟩,nf3_8⟩ all_n)))),⟨C0,PySem.W.mg_of X G aC0,cl_all (cl_c ⟨⟨pg0,hd0,po0,sa0⟩,ic0,is0,it0,im0,ik0_0⟩ (cl_c ⟨⟨pg1,hd1,po1,sa1⟩,ic1,is0,it0,im1,ik1_0⟩ (cl_c ⟨⟨pg2,hd2,po2,sa2⟩,ic2,is0,it0,im2,ik2_0⟩ (cl_c ⟨⟨pg3,hd3,po3,sa3⟩,ic3,is0,it0,im3,ik3_0⟩ cl_n))))⟩⟩
  have F1:=fun_mk (st:=s_column_widths) l1 c1 k1
  have b1:=F1.binds (ps:=["bands"]) fun _ _ _ _ _ _ us hl=>(by obtain ⟨y0,rfl⟩:=ex1 hl; rfl)
  have F2:=fun_mk (st:=s_greatest_up) l2 c2 k2
  have b2:=F2.binds (ps:=["band"]) fun _ _ _ _ _ _ us hl=>(by obtain ⟨y0,rfl⟩:=ex1 hl; rfl)
  have F3:=fun_mk (st:=s_band_height) l3 c3 k3
  have b3:=F3.binds (ps:=["band"]) fun _ _ _ _ _ _ us hl=>(by obtain ⟨y0,rfl⟩:=ex1 hl; rfl)
  have F4:=fun_mk (st:=s_numbers_by_row) l4 c4 k4
  have b4:=F4.binds (ps:=["bands"]) fun _ _ _ _ _ _ us hl=>(by obtain ⟨y0,rfl⟩:=ex1 hl; rfl)
  have F5:=fun_mk (st:=s_Sketch_init) l5 c5 k_Sketch_init
  have b5:=F5.binds (ps:=["self", "wide", "up", "down"]) fun _ _ _ _ _ _ us hl=>(by obtain ⟨y0,y1,y2,y3,rfl⟩:=ex4 hl; rfl)
  have F6:=fun_mk (st:=s_band_lows) l6 c6 k6
  have b6:=F6.binds (ps:=["bands", "up"]) fun _ _ _ _ _ _ us hl=>(by obtain ⟨y0,y1,rfl⟩:=ex2 hl; rfl)
  have F7:=fun_mk (st:=s_Grid_init) l7 c7 k_Grid_init
  have b7:=F7.binds (ps:=["self", "bands"]) fun _ _ _ _ _ _ us hl=>(by obtain ⟨y0,y1,rfl⟩:=ex2 hl; rfl)
  have F8:=fun_mk (st:=s_law_wides) l8 c8 k8
  have b8:=F8.binds (ps:=["bands"]) fun _ _ _ _ _ _ us hl=>(by obtain ⟨y0,rfl⟩:=ex1 hl; rfl)
  have F9:=fun_mk (st:=s_law_row) l9 c9 k9
  have b9:=F9.binds (ps:=["piece", "k"]) fun _ _ _ _ _ _ us hl=>(by obtain ⟨y0,y1,rfl⟩:=ex2 hl; rfl)
  have F10:=fun_mk (st:=s_law_band) l10 c10 k10
  have b10:=F10.binds (ps:=["band", "wides"]) fun _ _ _ _ _ _ us hl=>(by obtain ⟨y0,y1,rfl⟩:=ex2 hl; rfl)
  have F11:=fun_mk (st:=s_law_inner) l11 c11 k11
  have b11:=F11.binds (ps:=["bands"]) fun _ _ _ _ _ _ us hl=>(by obtain ⟨y0,rfl⟩:=ex1 hl; rfl)
  have F12:=fun_mk (st:=s_law_sided) l12 c12 k12
  have b12:=F12.binds (ps:=["inner"]) fun _ _ _ _ _ _ us hl=>(by obtain ⟨y0,rfl⟩:=ex1 hl; rfl)
  have F13:=fun_mk (st:=s_law_due_spots) l13 c13 k13
  have b13:=F13.binds (ps:=["bands", "bases", "up"]) fun _ _ _ _ _ _ us hl=>(by obtain ⟨y0,y1,y2,rfl⟩:=ex3 hl; rfl)
  have F14:=fun_mk (st:=s_Word_init) l14 c14 k_Word_init
  have b14:=F14.binds (ps:=["self", "word"]) fun _ _ _ _ _ _ us hl=>(by obtain ⟨y0,y1,rfl⟩:=ex2 hl; rfl)
  have F15:=fun_mk (st:=s_Sketch_spots) l15 c15 k_Sketch_spots
  have b15:=F15.binds (ps:=["self"]) fun _ _ _ _ _ _ us hl=>(by obtain ⟨y0,rfl⟩:=ex1 hl; rfl)
  have F16:=fun_mk (st:=s_Root_spots) l16 c16 k_Root_spots
  have b16:=F16.binds (ps:=["self"]) fun _ _ _ _ _ _ us hl=>(by obtain ⟨y0,rfl⟩:=ex1 hl; rfl)
  have F17:=fun_mk (st:=s_Grid_spots) l17 c17 k_Grid_spots
  have b17:=F17.binds (ps:=["self"]) fun _ _ _ _ _ _ us hl=>(by obtain ⟨y0,rfl⟩:=ex1 hl; rfl)
  have F18:=fun_mk (st:=s_law_cell_at) l18 c18 k18
  have b18:=F18.binds (ps:=["script", "k"]) fun _ _ _ _ _ _ us hl=>(by obtain ⟨y0,y1,rfl⟩:=ex2 hl; rfl)
  have F19:=fun_mk (st:=s_Sketch_row_within) l19 c19 k_Sketch_row_within
  have b19:=F19.binds (ps:=["self", "k"]) fun _ _ _ _ _ _ us hl=>(by obtain ⟨y0,y1,rfl⟩:=ex2 hl; rfl)
  have F20:=fun_mk (st:=s_Word_row_within) l20 c20 k_Word_row_within
  have b20:=F20.binds (ps:=["self", "k"]) fun _ _ _ _ _ _ us hl=>(by obtain ⟨y0,y1,rfl⟩:=ex2 hl; rfl)
  have F21:=fun_mk (st:=s_Sketch_row) l21 c21 k_Sketch_row
  have b21:=F21.binds (ps:=["self", "k"]) fun _ _ _ _ _ _ us hl=>(by obtain ⟨y0,y1,rfl⟩:=ex2 hl; rfl)
  have F22:=fun_mk (st:=s_Root_row_within) l22 c22 k_Root_row_within
  have b22:=F22.binds (ps:=["self", "k"]) fun _ _ _ _ _ _ us hl=>(by obtain ⟨y0,y1,rfl⟩:=ex2 hl; rfl)
  have F23:=fun_mk (st:=s_Grid_row_within) l23 c23 k_Grid_row_within
  have b23:=F23.binds (ps:=["self", "k"]) fun _ _ _ _ _ _ us hl=>(by obtain ⟨y0,y1,rfl⟩:=ex2 hl; rfl)
  have F24:=fun_mk (st:=s_Grid_band_row) l24 c24 k_Grid_band_row
  have b24:=F24.binds (ps:=["self", "number", "k"]) fun _ _ _ _ _ _ us hl=>(by obtain ⟨y0,y1,y2,rfl⟩:=ex3 hl; rfl)
  have F25:=fun_mk (st:=s_Sketch_rows) l25 c25 k_Sketch_rows
  have b25:=F25.binds (ps:=["self"]) fun _ _ _ _ _ _ us hl=>(by obtain ⟨y0,rfl⟩:=ex1 hl; rfl)
  have F26:=fun_mk (st:=s_law_whole) l26 c26 k26
  have b26:=F26.binds (ps:=["found"]) fun _ _ _ _ _ _ us hl=>(by obtain ⟨y0,rfl⟩:=ex1 hl; rfl)
  have F27:=fun_mk (st:=s_law_box) l27 c27 k27
  have b27:=F27.binds (ps:=["found", "rows", "up"]) fun _ _ _ _ _ _ us hl=>(by obtain ⟨y0,y1,y2,rfl⟩:=ex3 hl; rfl)
  have F28:=fun_mk (st:=s_law_spots) l28 c28 k28
  have b28:=F28.binds (ps:=["told", "due"]) fun _ _ _ _ _ _ us hl=>(by obtain ⟨y0,y1,rfl⟩:=ex2 hl; rfl)
  have F29:=fun_mk (st:=s_Root_init) l29 c29 k_Root_init
  have b29:=F29.binds (ps:=["self", "inner"]) fun _ _ _ _ _ _ us hl=>(by obtain ⟨y0,y1,rfl⟩:=ex2 hl; rfl)
  have F30:=fun_mk (st:=s_law_sign) l30 c30 k30
  have b30:=F30.binds (ps:=["cell"]) fun _ _ _ _ _ _ us hl=>(by obtain ⟨y0,rfl⟩:=ex1 hl; rfl)
  have F31:=fun_mk (st:=s_law_piece) l31 c31 k31
  have b31:=F31.binds (ps:=["cell"]) fun _ _ _ _ _ _ us hl=>(by obtain ⟨y0,rfl⟩:=ex1 hl; rfl)
  have F32:=fun_mk (st:=s_law) l32 c32 k32
  have b32:=F32.binds (ps:=["script"]) fun _ _ _ _ _ _ us hl=>(by obtain ⟨y0,rfl⟩:=ex1 hl; rfl)
  refine ⟨PySem.W.fnOf "law" "law" (defArgs s_law) (defBody s_law) (defScope s_law) .none kV32 dc32 pm32 an32 cd32 ct32,fun s v=>.of_eq rfl,fun base _ _=>?_⟩
  have G_column_widths:DefF l.prog w K mg base (ct C0 C1 C2 C3) "column_widths" ["bands"] 1 D_column_widths:=def_ofF F1 S_column_widths (PySem.W.mg_of X G a1) b1 (body_column_widths T  )
  have G_greatest_up:Def l.prog w K mg base (ct C0 C1 C2 C3) "greatest_up" ["band"] 1 D_greatest_up:=def_of F2 S_greatest_up (PySem.W.mg_of X G a2) b2 (body_greatest_up T  )
  have G_band_height:Def l.prog w K mg base (ct C0 C1 C2 C3) "band_height" ["band"] 2 D_band_height:=def_of F3 S_band_height (PySem.W.mg_of X G a3) b3 (body_band_height T G_greatest_up )
  have G_numbers_by_row:DefF l.prog w K mg base (ct C0 C1 C2 C3) "numbers_by_row" ["bands"] 3 D_numbers_by_row:=def_ofF F4 S_numbers_by_row (PySem.W.mg_of X G a4) b4 (body_numbers_by_row T G_band_height )
  have M_Sketch:InitG l.prog w K mg base (ct C0 C1 C2 C3) "Sketch" 3 1 0 I_Sketch:=init_of F5 S_Sketch_init b5 (body_Sketch_init T  ) T.mg_Sketch rfl T.mk_Sketch
  have BJ_Sketch:BaseGJ l.prog w K mg base (ct C0 C1 C2 C3) "Sketch" 3 1 J_Sketch:=base_ofJ F5 S_Sketch_init b5 (body_Sketch_init T  ) T.mg_Sketch T.cf_Sketch
  have B_Sketch:BaseG l.prog w K mg base (ct C0 C1 C2 C3) "Sketch" 3 1 I_Sketch:=base_of F5 S_Sketch_init b5 (body_Sketch_init T  ) T.mg_Sketch T.cf_Sketch
  have G_band_lows:DefF l.prog w K mg base (ct C0 C1 C2 C3) "band_lows" ["bands", "up"] 3 D_band_lows:=def_ofF F6 S_band_lows (PySem.W.mg_of X G a6) b6 (body_band_lows T G_band_height G_greatest_up )
  have M_Grid:InitGR2 l.prog w K mg base (ct C0 C1 C2 C3) "Grid" 0 4 3 I_Grid:=init_ofR2 F7 S_Grid_init b7 (body_Grid_init T G_column_widths G_numbers_by_row G_band_lows BJ_Sketch ) T.mg_Grid rfl T.mk_Grid
  have G_law_wides:DefF l.prog w K mg base (ct C0 C1 C2 C3) "_law_wides" ["bands"] 1 D_law_wides:=def_ofF F8 S_law_wides (PySem.W.mg_of X G a8) b8 (body_law_wides T  )
  have G_law_row:Def l.prog w K mg base (ct C0 C1 C2 C3) "_law_row" ["piece", "k"] 1 D_law_row:=def_of F9 S_law_row (PySem.W.mg_of X G a9) b9 (body_law_row T  )
  have G_law_band:Def l.prog w K mg base (ct C0 C1 C2 C3) "_law_band" ["band", "wides"] 2 D_law_band:=def_of F10 S_law_band (PySem.W.mg_of X G a10) b10 (body_law_band T G_law_row )
  have G_law_inner:Def l.prog w K mg base (ct C0 C1 C2 C3) "_law_inner" ["bands"] 3 D_law_inner:=def_of F11 S_law_inner (PySem.W.mg_of X G a11) b11 (body_law_inner T G_law_wides G_law_band )
  have G_law_sided:Def l.prog w K mg base (ct C0 C1 C2 C3) "_law_sided" ["inner"] 1 D_law_sided:=def_of F12 S_law_sided (PySem.W.mg_of X G a12) b12 (body_law_sided T  )
  have G_law_due_spots:DefF l.prog w K mg base (ct C0 C1 C2 C3) "_law_due_spots" ["bands", "bases", "up"] 2 D_law_due_spots:=def_ofF F13 S_law_due_spots (PySem.W.mg_of X G a13) b13 (body_law_due_spots T G_law_wides )
  have M_Word:InitG l.prog w K mg base (ct C0 C1 C2 C3) "Word" 1 3 1 I_Word:=init_of F14 S_Word_init b14 (body_Word_init T B_Sketch ) T.mg_Word rfl T.mk_Word
  have G_Sketch_spots:UnF l.prog w K mg base (ct C0 C1 C2 C3) m_Sketch_spots ["self"] 1 D_Sketch_spots:=un_ofF F15 S_Sketch_spots b15 (body_Sketch_spots T  )
  have G_Root_spots:UnF l.prog w K mg base (ct C0 C1 C2 C3) m_Root_spots ["self"] 1 D_Root_spots:=un_ofF F16 S_Root_spots b16 (body_Root_spots T  )
  have G_Grid_spots:UnF l.prog w K mg base (ct C0 C1 C2 C3) m_Grid_spots ["self"] 1 D_Grid_spots:=un_ofF F17 S_Grid_spots b17 (body_Grid_spots T  )
  have G_law_cell_at:Def l.prog w K mg base (ct C0 C1 C2 C3) "_law_cell_at" ["script", "k"] 1 D_law_cell_at:=def_of F18 S_law_cell_at (PySem.W.mg_of X G a18) b18 (body_law_cell_at T  )
  have G_Sketch_row_within:UnD l.prog w K mg base (ct C0 C1 C2 C3) m_Sketch_row_within ["self", "k"] 1 D_Sketch_row_within:=un_of F19 S_Sketch_row_within b19 (body_Sketch_row_within T  )
  have G_Word_row_within:UnD l.prog w K mg base (ct C0 C1 C2 C3) m_Word_row_within ["self", "k"] 1 D_Word_row_within:=un_of F20 S_Word_row_within b20 (body_Word_row_within T  )
  have RG0 : ∀ n:Nat,RecG0 l.prog w K mg base C0 C1 C2 C3 m_Sketch_init m_Grid_init m_Word_init m_Sketch_spots m_Root_spots m_Grid_spots m_Sketch_row_within m_Word_row_within m_Sketch_row m_Root_row_within m_Grid_row_within m_Grid_band_row m_Sketch_rows m_Root_init (1+n) (DN0 n):=fun n=>Nat.rec ⟨un_none b21,un_none b22,un_none b23,un_none b24⟩ (fun n ih=>⟨un_of F21 S_Sketch_row b21 (body_Sketch_row T  (Nat.le_add_right 1 n) ih  G_Sketch_row_within G_Word_row_within),un_of F22 S_Root_row_within b22 (body_Root_row_within T  (Nat.le_add_right 1 n) ih  ),un_of F23 S_Grid_row_within b23 (body_Grid_row_within T  (Nat.le_add_right 1 n) ih  ),un_of F24 S_Grid_band_row b24 (body_Grid_band_row T  (Nat.le_add_right 1 n) ih  )⟩) n
  have G_Sketch_row:UnD l.prog w K mg base (ct C0 C1 C2 C3) m_Sketch_row ["self", "k"] 41 D_Sketch_row:=(RG0 fuel0).Sketch_row
  have G_Root_row_within:UnD l.prog w K mg base (ct C0 C1 C2 C3) m_Root_row_within ["self", "k"] 41 D_Root_row_within:=(RG0 fuel0).Root_row_within
  have G_Grid_row_within:UnD l.prog w K mg base (ct C0 C1 C2 C3) m_Grid_row_within ["self", "k"] 41 D_Grid_row_within:=(RG0 fuel0).Grid_row_within
  have G_Grid_band_row:UnD l.prog w K mg base (ct C0 C1 C2 C3) m_Grid_band_row ["self", "number", "k"] 41 D_Grid_band_row:=(RG0 fuel0).Grid_band_row
  have Q_row:MethG l.prog w K mg base (ct C0 C1 C2 C3) "row" 1 41 MTT_row:=mt_row T  (Nat.le_add_right 1 fuel0) (RG0 fuel0)
  have G_Sketch_rows:UnF l.prog w K mg base (ct C0 C1 C2 C3) m_Sketch_rows ["self"] 42 D_Sketch_rows:=un_ofF F25 S_Sketch_rows b25 (body_Sketch_rows T  Q_row)
  have G_law_whole:Def l.prog w K mg base (ct C0 C1 C2 C3) "_law_whole" ["found"] 1 D_law_whole:=def_of F26 S_law_whole (PySem.W.mg_of X G a26) b26 (body_law_whole T  )
  have Q_rows:MethGF l.prog w K mg base (ct C0 C1 C2 C3) "rows" 0 42 MT_rows:=mt_rows T G_Sketch_rows
  have G_law_box:Def l.prog w K mg base (ct C0 C1 C2 C3) "_law_box" ["found", "rows", "up"] 43 D_law_box:=def_of F27 S_law_box (PySem.W.mg_of X G a27) b27 (body_law_box T G_law_whole Q_rows)
  have G_law_spots:Def l.prog w K mg base (ct C0 C1 C2 C3) "_law_spots" ["told", "due"] 44 D_law_spots:=def_of F28 S_law_spots (PySem.W.mg_of X G a28) b28 (body_law_spots T G_law_whole G_law_box )
  have M_Root:InitG l.prog w K mg base (ct C0 C1 C2 C3) "Root" 1 3 2 I_Root:=init_of F29 S_Root_init b29 (body_Root_init T B_Sketch ) T.mg_Root rfl T.mk_Root
  have G_law_sign:Def l.prog w K mg base (ct C0 C1 C2 C3) "_law_sign" ["cell"] 1 D_law_sign:=def_of F30 S_law_sign (PySem.W.mg_of X G a30) b30 (body_law_sign T  )
  have G_law_piece:Def l.prog w K mg base (ct C0 C1 C2 C3) "_law_piece" ["cell"] 5 D_law_piece:=def_of F31 S_law_piece (PySem.W.mg_of X G a31) b31 (body_law_piece T G_law_sign M_Word M_Sketch M_Root )
  have Q_spots:MethGF l.prog w K mg base (ct C0 C1 C2 C3) "spots" 0 1 MT_spots:=mt_spots T G_Sketch_spots G_Root_spots G_Grid_spots
  exact (fn_of F32 S_law (body_law T G_law_inner G_law_sided G_law_due_spots G_law_cell_at G_law_box G_law_spots G_law_row G_law_piece M_Grid M_Word Q_rows Q_spots Q_row)).imp fun vs H Q E h=>spL_D h
theorem walk {l:PySem.W.OpenLaw}{q:Program}{loose:List Str}{XP:(Str→Option Value)→Heap→Prop}{YP:World→Heap→Prop}{d:DefRec}{K:Params→PySem.W.Frag}(hn:l.most=some 63)(hdf:d.params.defaults=[])(hY : ∀ (w:World) (h:Heap),YP w h→(K w.params).In h)
    (F : ∀ (w:World) (mg:Str→Option Value) (fa:Addr) (h:Heap),(K w.params).In h→h.Ns mainGlobals mg→mg d.name=some (.ref fa)→∃ fd:FuncData,(∀ (s:Shared) (u:Value),BindsTo s fd ⟨[u],[]⟩ [("script",u)])∧∀ base:Heap,(K w.params).In base→base.Ns mainGlobals mg→FnOk l.prog w (K w.params) mg base CX0 45 fa fd ["script"] (spL (K w.params) D_law)) :
    PySem.W.WalkO q loose XP YP l.row.toRowW d [] (fun f vs=>PySem.call f vs) :=
  L2.walk_of (n:=63) (k:=45) (x:="script") (CX:=fun _=>CX0) (sp:=fun w=>spL (K w.params) D_law) hn (by decide) hdf ⟨rfl,by decide,by decide⟩ hY F (fun w H a ns hl _ hS=>⟨a,ns,rfl,hS,law_ok ns,fun _ _=>rfl⟩) fun _ _ _ _ _ z=>z
end K17
end
section
namespace DL
open PySem PySem.W PySem.W.X PySem.W.ZRun PyProof.Rows
theorem walkX_of {q:Program}{loose:List Str}{XP:(Str→Option Value)→Heap→Prop}{as:List Addr}{K:Params→Frag}{n t:Nat}{r:RowW}{d:DefRec}{kwd:List (Str × Expr)}{run:Value→List Value→Sem Value}
    (e : ∀ P,as=(K P).map (·.1)) (h:WalkO q loose XP (InK K) r d kwd run):WalkX q loose XP (obsZ as) (valZ K n t) r d kwd run :=
  fun w s₀ s₁ mg mb G y a o pm cd doc dV kV ho hd hcd hD hmg hg args vals as' L hpre hlay hrd hwl hlo=>h w s₀ s₁ mg mb G (InK.keeps w _ _ (z_facts e y).2.1 L.keeps) a o pm cd doc dV kV ho hd hcd hD hmg hg args vals as' hpre hlay hrd hwl hlo
end DL
end
end
open PySem PySem.W PyProof.Rows
set_option maxRecDepth 100000 in
set_option maxHeartbeats 0 in
theorem PySem.Challenge.cw_inkform_k17_a_grid_holds : PySem.Challenge.rw_inkform_k17_a_grid.Holds := by
  w_on; o_law; z_head; (case hw => w_witness2)
  k_fill
  refine DL.walkX_of (fun _ => by kernel_rfl) ?_
  refine K17.walk (l := PySem.Challenge.rw_inkform_k17_a_grid) rfl rfl (fun w h Y => Y) ?F
  case F =>
    intro w mg fa h KX G hmg
    refine' K17.all_mk KX G hmg ?aC0 ?aC1 ?aC2 ?aC3 ?a1 ?l1 ?c1 ?k1 ?a2 ?l2 ?c2 ?k2 ?a3 ?l3 ?c3 ?k3 ?a4 ?l4 ?c4 ?k4 ?a5 ?i_Sketch_init ?k_Sketch_init ?l5 ?c5 ?a6 ?l6 ?c6 ?k6 ?a7 ?i_Grid_init ?k_Grid_init ?l7 ?c7 ?a8 ?l8 ?c8 ?k8 ?a9 ?l9 ?c9 ?k9 ?a10 ?l10 ?c10 ?k10 ?a11 ?l11 ?c11 ?k11 ?a12 ?l12 ?c12 ?k12 ?a13 ?l13 ?c13 ?k13 ?a14 ?i_Word_init ?k_Word_init ?l14 ?c14 ?a15 ?i_Sketch_spots ?k_Sketch_spots ?l15 ?c15 ?a16 ?i_Root_spots ?k_Root_spots ?l16 ?c16 ?a17 ?i_Grid_spots ?k_Grid_spots ?l17 ?c17 ?a18 ?l18 ?c18 ?k18 ?a19 ?i_Sketch_row_within ?k_Sketch_row_within ?l19 ?c19 ?a20 ?i_Word_row_within ?k_Word_row_within ?l20 ?c20 ?a21 ?i_Sketch_row ?k_Sketch_row ?l21 ?c21 ?a22 ?i_Root_row_within ?k_Root_row_within ?l22 ?c22 ?a23 ?i_Grid_row_within ?k_Grid_row_within ?l23 ?c23 ?a24 ?i_Grid_band_row ?k_Grid_band_row ?l24 ?c24 ?a25 ?i_Sketch_rows ?k_Sketch_rows ?l25 ?c25 ?a26 ?l26 ?c26 ?k26 ?a27 ?l27 ?c27 ?k27 ?a28 ?l28 ?c28 ?k28 ?a29 ?i_Root_init ?k_Root_init ?l29 ?c29 ?a30 ?l30 ?c30 ?k30 ?a31 ?l31 ?c31 ?k31 ?a32 ?l32 ?c32 ?k32 ?z1 ?z2 ?z3 ?z4 ?z5 ?z6 ?z7 ?z8 ?z9 ?z10 ?z11 ?ua1 ?ue1 ?pg0 ?hd0 ?po0 ?sa0 ?fm0_row ?fm0_row_within ?fm0_rows ?fm0_spots ?nf0_0 ?nf0_1 ?nf0_2 ?nf0_3 ?nf0_4 ?nf0_5 ?nf0_6 ?nf0_7 ?nf0_8 ?pg1 ?hd1 ?po1 ?sa1 ?fm1_row ?fm1_row_within ?fm1_rows ?fm1_spots ?nf1_0 ?nf1_1 ?nf1_2 ?nf1_3 ?nf1_4 ?nf1_5 ?nf1_6 ?nf1_7 ?nf1_8 ?pg2 ?hd2 ?po2 ?sa2 ?fm2_row ?fm2_row_within ?fm2_rows ?fm2_spots ?nf2_0 ?nf2_1 ?nf2_2 ?nf2_3 ?nf2_4 ?nf2_5 ?nf2_6 ?nf2_7 ?nf2_8 ?pg3 ?hd3 ?po3 ?sa3 ?fm3_row ?fm3_row_within ?fm3_rows ?fm3_spots ?fm3_band_row ?nf3_0 ?nf3_1 ?nf3_2 ?nf3_3 ?nf3_4 ?nf3_5 ?nf3_6 ?nf3_7 ?nf3_8 ?mk0 ?fi0 ?kc0 ?mk1 ?fi1 ?kc1 ?mk2 ?fi2 ?kc2 ?mk3 ?fi3 ?kc3 ?sg0 ?rd0 ?fc0 ?is0 ?it0 ?ic0 ?im0 ?ik0_0 ?ic1 ?im1 ?ik1_0 ?ic2 ?im2 ?ik2_0 ?ic3 ?im3 ?ik3_0
    (case aC0 => k_is)
    (case aC1 => k_is)
    (case aC2 => k_is)
    (case aC3 => k_is)
    (case a1 => k_is)
    (case l1 => k_is)
    (case c1 => k_is)
    (case k1 => k_is)
    (case a2 => k_is)
    (case l2 => k_is)
    (case c2 => k_is)
    (case k2 => k_is)
    (case a3 => k_is)
    (case l3 => k_is)
    (case c3 => k_is)
    (case k3 => k_is)
    (case a4 => k_is)
    (case l4 => k_is)
    (case c4 => k_is)
    (case k4 => k_is)
    (case a5 => k_is)
    (case i_Sketch_init => k_is)
    (case k_Sketch_init => k_is)
    (case l5 => k_is)
    (case c5 => k_is)
    (case a6 => k_is)
    (case l6 => k_is)
    (case c6 => k_is)
    (case k6 => k_is)
    (case a7 => k_is)
    (case i_Grid_init => k_is)
    (case k_Grid_init => k_is)
    (case l7 => k_is)
    (case c7 => k_is)
    (case a8 => k_is)
    (case l8 => k_is)
    (case c8 => k_is)
    (case k8 => k_is)
    (case a9 => k_is)
    (case l9 => k_is)
    (case c9 => k_is)
    (case k9 => k_is)
    (case a10 => k_is)
    (case l10 => k_is)
    (case c10 => k_is)
    (case k10 => k_is)
    (case a11 => k_is)
    (case l11 => k_is)
    (case c11 => k_is)
    (case k11 => k_is)
    (case a12 => k_is)
    (case l12 => k_is)
    (case c12 => k_is)
    (case k12 => k_is)
    (case a13 => k_is)
    (case l13 => k_is)
    (case c13 => k_is)
    (case k13 => k_is)
    (case a14 => k_is)
    (case i_Word_init => k_is)
    (case k_Word_init => k_is)
    (case l14 => k_is)
    (case c14 => k_is)
    (case a15 => k_is)
    (case i_Sketch_spots => k_is)
    (case k_Sketch_spots => k_is)
    (case l15 => k_is)
    (case c15 => k_is)
    (case a16 => k_is)
    (case i_Root_spots => k_is)
    (case k_Root_spots => k_is)
    (case l16 => k_is)
    (case c16 => k_is)
    (case a17 => k_is)
    (case i_Grid_spots => k_is)
    (case k_Grid_spots => k_is)
    (case l17 => k_is)
    (case c17 => k_is)
    (case a18 => k_is)
    (case l18 => k_is)
    (case c18 => k_is)
    (case k18 => k_is)
    (case a19 => k_is)
    (case i_Sketch_row_within => k_is)
    (case k_Sketch_row_within => k_is)
    (case l19 => k_is)
    (case c19 => k_is)
    (case a20 => k_is)
    (case i_Word_row_within => k_is)
    (case k_Word_row_within => k_is)
    (case l20 => k_is)
    (case c20 => k_is)
    (case a21 => k_is)
    (case i_Sketch_row => k_is)
    (case k_Sketch_row => k_is)
    (case l21 => k_is)
    (case c21 => k_is)
    (case a22 => k_is)
    (case i_Root_row_within => k_is)
    (case k_Root_row_within => k_is)
    (case l22 => k_is)
    (case c22 => k_is)
    (case a23 => k_is)
    (case i_Grid_row_within => k_is)
    (case k_Grid_row_within => k_is)
    (case l23 => k_is)
    (case c23 => k_is)
    (case a24 => k_is)
    (case i_Grid_band_row => k_is)
    (case k_Grid_band_row => k_is)
    (case l24 => k_is)
    (case c24 => k_is)
    (case a25 => k_is)
    (case i_Sketch_rows => k_is)
    (case k_Sketch_rows => k_is)
    (case l25 => k_is)
    (case c25 => k_is)
    (case a26 => k_is)
    (case l26 => k_is)
    (case c26 => k_is)
    (case k26 => k_is)
    (case a27 => k_is)
    (case l27 => k_is)
    (case c27 => k_is)
    (case k27 => k_is)
    (case a28 => k_is)
    (case l28 => k_is)
    (case c28 => k_is)
    (case k28 => k_is)
    (case a29 => k_is)
    (case i_Root_init => k_is)
    (case k_Root_init => k_is)
    (case l29 => k_is)
    (case c29 => k_is)
    (case a30 => k_is)
    (case l30 => k_is)
    (case c30 => k_is)
    (case k30 => k_is)
    (case a31 => k_is)
    (case l31 => k_is)
    (case c31 => k_is)
    (case k31 => k_is)
    (case a32 => k_is)
    (case l32 => k_is)
    (case c32 => k_is)
    (case k32 => k_is)
    (case z1 => k_is)
    (case z2 => k_is)
    (case z3 => k_is)
    (case z4 => k_is)
    (case z5 => k_is)
    (case z6 => k_is)
    (case z7 => k_is)
    (case z8 => k_is)
    (case z9 => k_is)
    (case z10 => k_is)
    (case z11 => k_is)
    (case ua1 => k_is)
    (case ue1 => decide +kernel)
    (case pg0 => k_is)
    (case hd0 => k_is)
    (case po0 => k_is)
    (case sa0 => k_is)
    (case fm0_row => k_is)
    (case fm0_row_within => k_is)
    (case fm0_rows => k_is)
    (case fm0_spots => k_is)
    (case nf0_0 => k_is)
    (case nf0_1 => k_is)
    (case nf0_2 => k_is)
    (case nf0_3 => k_is)
    (case nf0_4 => k_is)
    (case nf0_5 => k_is)
    (case nf0_6 => k_is)
    (case nf0_7 => k_is)
    (case nf0_8 => k_is)
    (case pg1 => k_is)
    (case hd1 => k_is)
    (case po1 => k_is)
    (case sa1 => k_is)
    (case fm1_row => k_is)
    (case fm1_row_within => k_is)
    (case fm1_rows => k_is)
    (case fm1_spots => k_is)
    (case nf1_0 => k_is)
    (case nf1_1 => k_is)
    (case nf1_2 => k_is)
    (case nf1_3 => k_is)
    (case nf1_4 => k_is)
    (case nf1_5 => k_is)
    (case nf1_6 => k_is)
    (case nf1_7 => k_is)
    (case nf1_8 => k_is)
    (case pg2 => k_is)
    (case hd2 => k_is)
    (case po2 => k_is)
    (case sa2 => k_is)
    (case fm2_row => k_is)
    (case fm2_row_within => k_is)
    (case fm2_rows => k_is)
    (case fm2_spots => k_is)
    (case nf2_0 => k_is)
    (case nf2_1 => k_is)
    (case nf2_2 => k_is)
    (case nf2_3 => k_is)
    (case nf2_4 => k_is)
    (case nf2_5 => k_is)
    (case nf2_6 => k_is)
    (case nf2_7 => k_is)
    (case nf2_8 => k_is)
    (case pg3 => k_is)
    (case hd3 => k_is)
    (case po3 => k_is)
    (case sa3 => k_is)
    (case fm3_row => k_is)
    (case fm3_row_within => k_is)
    (case fm3_rows => k_is)
    (case fm3_spots => k_is)
    (case fm3_band_row => k_is)
    (case nf3_0 => k_is)
    (case nf3_1 => k_is)
    (case nf3_2 => k_is)
    (case nf3_3 => k_is)
    (case nf3_4 => k_is)
    (case nf3_5 => k_is)
    (case nf3_6 => k_is)
    (case nf3_7 => k_is)
    (case nf3_8 => k_is)
    (case mk0 => k_is)
    (case fi0 => k_is)
    (case kc0 => k_is)
    (case mk1 => k_is)
    (case fi1 => k_is)
    (case kc1 => k_is)
    (case mk2 => k_is)
    (case fi2 => k_is)
    (case kc2 => k_is)
    (case mk3 => k_is)
    (case fi3 => k_is)
    (case kc3 => k_is)
    (case sg0 => k_is)
    (case rd0 => k_is)
    (case fc0 => k_is)
    (case is0 => k_is)
    (case it0 => k_is)
    (case ic0 => k_is)
    (case im0 => k_is)
    (case ik0_0 => first | k_is | kernel_rfl | decide +kernel)
    (case ic1 => k_is)
    (case im1 => k_is)
    (case ik1_0 => first | k_is | kernel_rfl | decide +kernel)
    (case ic2 => k_is)
    (case im2 => k_is)
    (case ik2_0 => first | k_is | kernel_rfl | decide +kernel)
    (case ic3 => k_is)
    (case im3 => k_is)
    (case ik3_0 => first | k_is | kernel_rfl | decide +kernel)
#print axioms PySem.Challenge.cw_inkform_k17_a_grid_holds
