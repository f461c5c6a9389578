import PyProof.Rows.All
import Wide.All
import OpenK.AllK
import Wide.FinOn
import Lean
import PyProof.EqAt
import PyProof.EqKinds
import PyProof.TupleCall
import PyProof.StrWalks
import PyProof.Rows.SumAny
import PyProof.ConsumeWalk
import PyProof.Rows.StrJoin2
import PyProof.StrLaws
import PyProof.StrCalls
import PyProof.Rows.StrCountLaw
import Wide.Txt
import PyProof.EnumMake
import PyProof.Rows.EnumRows
import PyProof.Rows.StrRev
import PyProof.Rows.MinMaxN
import PyProof.Rows.Range3
import PyProof.MinMaxWalk
import PyProof.Rows.CallKwBuiltin
import PyProof.AutoSeq1
import PyProof.Draws
import PyProof.ToksMono
import PyProof.StrCalls6
import PyProof.Rows.StrStrike
import PyProof.ListMulRoad
import PyProof.FactsAll.tuple_2
import OpenK.KCls
import PyProof.ZipIter
import PyProof.Rows.StrPadWhole
import PyProof.StationsW
import PyProof.RulesAs
import PyProof.NsDelKeeps
import PyProof.ExcBaseAll.ValueError
import OpenK.KOwn
import KE.KIsAll
import PyProof.ExcArgs
import PyProof.StrLawsTight
import PyProof.StrLawsChain
import PyProof.StrCalls2
import PyProof.Rows.StrItems
import PyProof.Rows.RuleDivmod
import OpenK.ZGo
import PySem.Challenge.RW_inkform_k72_put_in_anywhere
set_option compiler.extract_closed false
noncomputable section
set_option genSizeOf false
set_option Elab.async false
set_option linter.all false
set_option maxRecDepth 100000
section
namespace L2
open PySem PySem.Spec PyProof.Rows
noncomputable abbrev Key:=Sum Int Str
noncomputable def q0:Key→Value→Bool
  | .inl k,v=>Value.isInt k v
  | .inr x,v=>Value.isStrOf x v
noncomputable def JO (w:World):Key→Int
  | .inl k=>hashInt k
  | .inr x=>hashStr w x
theorem cY : ∀ {k:Key} {v:Value},q0 k v=true→(∃ i t,k=Sum.inl i∧v=Value.int i t)∨(∃ x t,k=Sum.inr x∧v=Value.str x t)
  | .inl i,v,h=>by
    obtain ⟨t,e⟩:=Value.isInt_shape (k:=i) (v:=v) h
    exact .inl ⟨i,t,rfl,e⟩
  | .inr x,v,h=>by
    obtain ⟨t,e⟩:=Value.isStrOf_shape (x:=x) (v:=v) h
    exact .inr ⟨x,t,rfl,e⟩
theorem wL (i:Int)(t:Tok):q0 (.inl i) (.int i t)=true:=by simp [q0,Value.isInt]
theorem wM (x:Str)(t:Tok):q0 (.inr x) (.str x t)=true:=by simp [q0,Value.isStrOf]
theorem DO (a b:Int):decide ((Sum.inl a:Key)=Sum.inl b)=(a == b):=by
  by_cases e:a=b
  · subst e; simp
  · have h : ¬ (Sum.inl a:Key)=Sum.inl b:=fun q=>e (Sum.inl.inj q)
    rw [decide_eq_false h]
    exact (beq_eq_false_iff_ne.mpr e).symm
theorem DP (a b:Str):decide ((Sum.inr a:Key)=Sum.inr b)=decide (a=b):=by
  by_cases e:a=b
  · subst e; simp
  · have h : ¬ (Sum.inr a:Key)=Sum.inr b:=fun q=>e (Sum.inr.inj q)
    rw [decide_eq_false h,decide_eq_false e]
theorem DQ (a:Int)(b:Str):decide ((Sum.inl a:Key)=Sum.inr b)=false:=decide_eq_false (fun q=>nomatch q)
theorem DR (a:Str)(b:Int):decide ((Sum.inr a:Key)=Sum.inl b)=false:=decide_eq_false (fun q=>nomatch q)
noncomputable def dn (prog:Program)(w:World):PySem.KeyKind prog w Key where
  is:=q0
  hash:=JO w
  inj:=fun v a b ha hb=>by
    rcases cY ha with ⟨i,t,rfl,rfl⟩ | ⟨x,t,rfl,rfl⟩
    · rcases cY hb with ⟨j,u,rfl,e⟩ | ⟨y,u,rfl,e⟩
      · injection e with e1 _; rw [e1]
      · exact nomatch e
    · rcases cY hb with ⟨j,u,rfl,e⟩ | ⟨y,u,rfl,e⟩
      · exact nomatch e
      · injection e with e1 _; rw [e1]
  byValue:=fun k v h=>by
    rcases cY h with ⟨i,t,rfl,rfl⟩ | ⟨x,t,rfl,rfl⟩ <;> rfl
  pyHash:=fun hv h=>by
    rcases cY hv with ⟨i,t,rfl,rfl⟩ | ⟨x,t,rfl,rfl⟩
    · exact wpAny_pyHash_int h
    · exact wpAny_pyHash_str h
  eqBool:=fun hu hv h=>by
    rcases cY hu with ⟨i,t,rfl,rfl⟩ | ⟨x,t,rfl,rfl⟩
    · rcases cY hv with ⟨j,u,rfl,rfl⟩ | ⟨y,u,rfl,rfl⟩
      · rw [DO] at h; exact wpAny_eqBool_int h
      · rw [DQ] at h; exact SeqAt.EqAt.int_str i t y u _ _ _ _ h
    · rcases cY hv with ⟨j,u,rfl,rfl⟩ | ⟨y,u,rfl,rfl⟩
      · rw [DR] at h; exact SeqAt.EqAt.str_int x t j u _ _ _ _ h
      · rw [DP] at h; exact wpAny_eqBool_str h
  «strs»:=fun k x t v h=>by
    rcases cY h with ⟨i,u,rfl,e⟩ | ⟨y,u,rfl,e⟩
    · exact nomatch e
    · injection e with e1 _
      subst e1
      cases v <;> rfl
theorem sE (prog:Program)(w:World)(i:Int)(t:Tok):(dn prog w).is (.inl i) (.int i t)=true:=wL i t
theorem sF (prog:Program)(w:World)(x:Str)(t:Tok):(dn prog w).is (.inr x) (.str x t)=true:=wM x t
end L2
namespace L2
open PySem PySem.Spec PyProof.Rows
inductive V where
  | non | bl (b:Bool) | int (i:Int) | str (x:Str) | byt (b:Array UInt8) | flt (b:UInt64) | ref (a:Addr) | ty (n:String)
  deriving DecidableEq
noncomputable def RelV:V→Value→Prop
  | .non,u=>u=Value.none
  | .bl b,u=>u=Value.bool b
  | .int i,u=>∃ t,u=Value.int i t
  | .str x,u=>∃ t,u=Value.str x t
  | .byt b,u=>∃ t,u=Value.bytes b t
  | .flt b,u=>∃ t,u=Value.float b t
  | .ref a,u=>u=Value.ref a
  | .ty n,u=>u=Value.type n
noncomputable abbrev Vals:List V→List Value→Prop:=Paired RelV
theorem Vals.length {xs:List V}{us:List Value}(r:Vals xs us):xs.length=us.length:=Paired.length r
theorem Vals.get : ∀ {xs:List V} {us:List Value} {i:Nat} {x:V},Vals xs us→xs[i]?=some x→∃ u,us[i]?=some u∧RelV x u
  | _,_,_,_,.nil,e=>by simp at e
  | _,_,0,_,.cons r _,e=>by simp at e; subst e; exact ⟨_,rfl,r⟩
  | _,_,i+1,x,.cons _ t,e=>by
    obtain ⟨u,h1,h2⟩:=Vals.get (i:=i) (x:=x) t (by simpa using e)
    exact ⟨u,by simpa using h1,h2⟩
theorem Vals.set {x:V}{u:Value}(r:RelV x u) : ∀ {xs:List V} {us:List Value} (i:Nat),Vals xs us→Vals (xs.set i x) (us.set i u)
  | _,_,_,.nil=>.nil
  | _,_,0,.cons _ t=>.cons r t
  | _,_,i+1,.cons q t=>.cons q (Vals.set r i t)
theorem Vals.append : ∀ {xs ys:List V} {us ws:List Value},Vals xs us→Vals ys ws→Vals (xs++ys) (us++ws)
  | _,_,_,_,.nil,s=>s
  | _,_,_,_,.cons r t,s=>.cons r (Vals.append t s)
theorem Vals.take : ∀ {xs:List V} {us:List Value} (n:Nat),Vals xs us→Vals (xs.take n) (us.take n)
  | _,_,0,_=>.nil
  | _,_,_+1,.nil=>.nil
  | _,_,n+1,.cons r t=>.cons r (Vals.take n t)
theorem Vals.drop : ∀ {xs:List V} {us:List Value} (n:Nat),Vals xs us→Vals (xs.drop n) (us.drop n)
  | _,_,0,r=>r
  | _,_,_+1,.nil=>.nil
  | _,_,n+1,.cons _ t=>Vals.drop n t
noncomputable def pC:Option V→Option Value→Prop
  | some v,some u=>RelV v u
  | none,none=>True
  | _,_=>False
noncomputable def KV {κ:Type}:List (κ × V)→List (κ × Value)→Prop:=Paired fun (p : κ × V) (q : κ × Value)=>p.1=q.1∧RelV p.2 q.2
noncomputable def kV:Key→V
  | .inl i=>.int i
  | .inr x=>.str x
inductive HO where
    | lst (xs:List V)
    | tup (xs:List V)
    | dK (kvs:List (Key × V)) | dT (kvs:List (List Key × V))
    | set (S:Int→Bool) (n:Nat)
    | ins (C dx:Addr) (fs:List (Str × V))
    | own (x:Addr)
    | xd (fs:List (Str × V))
    | met (f x:Addr)
    | rng (lo hi:Int)
    | frz (o:Obj) (u:HO)
    | tbl (ps:Array Value)
    | ext (φ:Heap→Prop)
noncomputable abbrev Hp:=Addr→Option HO
noncomputable def upd (H:Hp)(a:Addr)(o:HO):Hp:=fun b=>if b=a then some o else H b
theorem bY {H:Hp}{a:Addr}{o:HO}:upd H a o a=some o:=by unfold upd; rw [if_pos rfl]
theorem ba {H:Hp}{a b:Addr}{o:HO}(h:b≠a):upd H a o b=H b:=by unfold upd; rw [if_neg h]
theorem cR {H:Hp}{a b:Addr}{o:HO}(h:H a=some o)(h':H b=none):a≠b:=by
  intro e; subst e; rw [h] at h'; cases h'
section
variable (P:Program)(w:World)
noncomputable def dU (H:Hp)(h:Heap)(a:Addr):HO→Prop
  | .lst xs=>xs.length≤sizeLine∧∃ (its:List Value) (n:Nat),Vals xs its∧h.get? a=some { cls:=.type "list",data:=.seq its.toArray n }
  | .tup xs=>xs.length≤sizeLine∧∃ its:List Value,Vals xs its∧IsTup h a its.toArray
  | .dK kvs=>kvs.length≤sizeLine∧(a == sysModules)=false∧∃ vs,KV kvs vs∧h.DictOf (dn P w) a vs
  | .dT kvs=>kvs.length≤sizeLine∧(a == sysModules)=false∧∃ xs:List (List Key × Addr × Value),
      Paired (fun (p:List Key × V) (q:List Key × Addr × Value)=>p.1=q.1∧H q.2.1=some (.tup (p.1.map kV))∧RelV p.2 q.2.2) kvs xs ∧
      ∃ o es ep,h.get? a=some o∧o.ExactDict∧o.data=.dict es ep∧es.toList=xs.map (entryOfKey (tupleKind (dn P w)))∧(xs.map (·.1)).Nodup
  | .set S n=>h.SetOf (intKind P w) a S n
  | .ins C dx fs=>H dx=some (.own a)∧fs.length≤1000∧dx≠a∧h.get? a=some (PySem.W.instObj C dx) ∧
      ∃ mA,h.Ns1 dx mA∧(∀ f,pC (fs.lookup f) (mA f))∧PySem.Within mA (fs.map (·.1))
  | .own _=>∃ o,h.get? a=some o
  | .xd fs=>∃ mA,h.Ns1 a mA∧∀ f,pC (fs.lookup f) (mA f)
  | .rng lo hi=>∃ t u v,h.get? a=some { cls:=.type "range",data:=.fields #[.int lo t,.int hi u,.int 1 v] }
  | .frz o u=>h.get? a=some o∧dU H h a u
  | .tbl ps=>h.get? a=some { cls:=.none,data:=.fields ps }
  | .met f x=>h.get? a=some (PySem.W.methodObj (.ref f) (.ref x))
  | .ext φ=>φ h∧(∃ o,h.get? a=some o)∧∀ h1 h2:Heap, φ h1→(∀ o,h1.get? a=some o→h2.get? a=some o)→φ h2
noncomputable def HOk (H:Hp)(h:Heap):Prop:=∀ a o,H a=some o→dU P w H h a o
end
section
variable {P:Program}{w:World}{H H':Hp}{h h':Heap}{a:Addr}{o:HO}
theorem dU.lt (x:dU P w H h a o):a<h.objs.size:=by
  cases o with
  | lst xs=>obtain ⟨_,_,_,_,e⟩:=x; exact Heap.lt_size e
  | tup xs=>obtain ⟨_,_,_,p⟩:=x; exact p.lt
  | dK kvs=>obtain ⟨_,_,_,_,o,_,_,e,_⟩:=x; exact Heap.lt_size e
  | dT kvs=>obtain ⟨_,_,_,_,o,_,_,e,_⟩:=x; exact Heap.lt_size e
  | set S n=>obtain ⟨o,_,_,_,e,_⟩:=x; exact Heap.lt_size e
  | ins C dx fs=>obtain ⟨_,_,_,e,_⟩:=x; exact Heap.lt_size e
  | own y=>obtain ⟨_,e⟩:=x; exact Heap.lt_size e
  | xd fs=>obtain ⟨_,⟨_,_,_,e,_⟩,_⟩:=x; exact Heap.lt_size e
  | rng lo hi=>obtain ⟨_,_,_,e⟩:=x; exact Heap.lt_size e
  | frz ob u=>obtain ⟨e,_⟩:=x; exact Heap.lt_size e
  | tbl ps=>exact Heap.lt_size (show h.get? a=some _ from x)
  | met f y=>exact Heap.lt_size (show h.get? a=some _ from x)
  | ext φ=>obtain ⟨_,⟨_,e⟩,_⟩:=x; exact Heap.lt_size e
theorem Paired.Ha {α β:Type}{F G : α→β→Prop} : ∀ {l₁:List α} {l₂:List β},Paired F l₁ l₂→(∀ a b,F a b→G a b)→Paired G l₁ l₂
  | _,_,.nil,_=>.nil
  | _,_,.cons r t,f=>.cons (f _ _ r) (Paired.Ha t f)
theorem dU.nA (x:dU P w H h a o)(k : ∀ b u,(b=a∨H b=some (.own a))→h.get? b=some u→h'.get? b=some u)
    (ho : ∀ b,H b=some (.own a)→H' b=some (.own a)) (ht : ∀ b xs,H b=some (.tup xs)→H' b=some (.tup xs)):dU P w H' h' a o:=by
  induction o with
  | lst xs=>obtain ⟨z,its,n,r,e⟩:=x; exact ⟨z,its,n,r,k _ _ (.inl rfl) e⟩
  | tup xs=>obtain ⟨z,its,r,ob,e,c⟩:=x; exact ⟨z,its,r,ob,k _ _ (.inl rfl) e,c⟩
  | dK kvs=>obtain ⟨z,y,vs,r,ob,es,ep,e,c⟩:=x; exact ⟨z,y,vs,r,ob,es,ep,k _ _ (.inl rfl) e,c⟩
  | dT kvs =>
    obtain ⟨z,y,xs,r,ob,es,ep,e,c⟩:=x
    exact ⟨z,y,xs,Paired.Ha r fun p q z=>⟨z.1,ht _ _ z.2.1,z.2.2⟩,ob,es,ep,k _ _ (.inl rfl) e,c⟩
  | set S n=>obtain ⟨ob,es,ep,t,e,c⟩:=x; exact ⟨ob,es,ep,t,k _ _ (.inl rfl) e,c⟩
  | ins C dx fs =>
    obtain ⟨d,z,ne,e,mA,⟨od,es,ep,e2,c⟩,r⟩:=x
    exact ⟨ho _ d,z,ne,k _ _ (.inl rfl) e,mA,⟨od,es,ep,k _ _ (.inr d) e2,c⟩,r⟩
  | own y=>obtain ⟨ob,e⟩:=x; exact ⟨ob,k _ _ (.inl rfl) e⟩
  | xd fs=>obtain ⟨mA,⟨od,es,ep,e,c⟩,r⟩:=x; exact ⟨mA,⟨od,es,ep,k _ _ (.inl rfl) e,c⟩,r⟩
  | rng lo hi=>obtain ⟨t,u,v,e⟩:=x; exact ⟨t,u,v,k _ _ (.inl rfl) e⟩
  | frz ob u ih=>obtain ⟨e,q⟩:=x; exact ⟨k _ _ (.inl rfl) e,ih q⟩
  | tbl ps =>
    have e:h.get? a=some { cls:=.none,data:=.fields ps }:=x
    show h'.get? a=some { cls:=.none,data:=.fields ps }
    exact k a _ (.inl rfl) e
  | met f y =>
    have e:h.get? a=some (PySem.W.methodObj (.ref f) (.ref y)):=x
    show h'.get? a=some (PySem.W.methodObj (.ref f) (.ref y))
    exact k a _ (.inl rfl) e
  | ext φ=>obtain ⟨p,⟨o,e⟩,st⟩:=x; exact ⟨st _ _ p fun o q=>k _ _ (.inl rfl) q,⟨o,k _ _ (.inl rfl) e⟩,st⟩
theorem HOk.lt (x:HOk P w H h)(e:H a=some o):a<h.objs.size:=(x a o e).lt
theorem HOk.fresh (x:HOk P w H h)(e:h.objs.size≤a):H a=none:=by
  cases q:H a with
  | none=>rfl
  | some u=>exact absurd (Nat.lt_of_lt_of_le (x.lt q) e) (Nat.lt_irrefl _)
theorem HOk.kept (x:HOk P w H h)(k : ∀ b u,h.get? b=some u→h'.get? b=some u):HOk P w H h':=fun a o e =>
  (x a o e).nA (fun b u _ q=>k b u q) (fun _ q=>q) fun _ _ q=>q
theorem HOk.laid (x:HOk P w H h)(k : ∀ b u,h.get? b=some u→h'.get? b=some u)(hp:h.objs.size≤a)(new:dU P w (upd H a o) h' a o):HOk P w (upd H a o) h':=fun b u e=>by
  have hn:=x.fresh hp
  by_cases hb:b=a
  · subst hb; rw [bY] at e; cases e; exact new
  · rw [ba hb] at e
    exact (x b u e).nA (fun c v _ q=>k c v q) (fun c q=>by rw [ba (cR q hn)]; exact q) fun c xs q=>by rw [ba (cR q hn)]; exact q
end
noncomputable def Rd (H:Hp)(a:Addr)(u:HO):Prop:=H a=some u∨∃ o,H a=some (.frz o u)
theorem Rd.ok {P:Program}{w:World}{H:Hp}{h:Heap}{a:Addr}{u:HO}(r:Rd H a u)(x:HOk P w H h):dU P w H h a u:=by
  rcases r with r | ⟨o,r⟩
  · exact x a u r
  · obtain ⟨_,q⟩:=x a _ r
    exact q
noncomputable def Mut:Option HO→Prop
  | some (.lst _)=>True
  | some (.dK _)=>True
  | some (.dT _)=>True
  | some (.set _ _)=>True
  | some (.ins _ _ _)=>True
  | some (.ext _)=>True
  | _=>False
section
variable {P:Program}{w:World}{H:Hp}{h h':Heap}{x e:Addr}{o':HO}
theorem HOk.write (ok:HOk P w H h)(mu:Mut (H x))(he:e=x∨H e=some (.own x))(k : ∀ b u,b≠e→h.get? b=some u→h'.get? b=some u)(heo : ∃ u,h'.get? e=some u)
    (new:dU P w (upd H x o') h' x o'):HOk P w (upd H x o') h':=fun b u q=>by
  have nown : ∀ c y,H c=some (.own y)→c≠x:=fun c y r z=>by subst z; rw [r] at mu; exact mu
  have ntup : ∀ c xs,H c=some (.tup xs)→c≠x:=fun c xs r z=>by subst z; rw [r] at mu; exact mu
  by_cases hb:b=x
  · subst hb; rw [bY] at q; cases q; exact new
  · rw [ba hb] at q
    by_cases hbe:b=e
    · have q':H b=some (.own x):=by
        rcases he with z | z
        · exact absurd (hbe.trans z) hb
        · rw [hbe]; exact z
      rw [q] at q'; cases q'
      obtain ⟨v,hv⟩:=heo
      exact ⟨v,by rw [hbe]; exact hv⟩
    · refine (ok b u q).nA (fun c v hc r=>k c v ?_ r) (fun c r=>by rw [ba (nown c b r)]; exact r) fun c xs r=>by rw [ba (ntup c xs r)]; exact r
      rcases hc with rfl | hc
      · exact hbe
      · rintro rfl
        rcases he with z | z
        · exact nown c b hc z
        · rw [hc] at z; cases z; exact hb rfl
end
structure Un (fs ex:List Addr)(H H':Hp)(h h':Heap):Prop where
  keep : ∀ b o,h.get? b=some o→H b=none→b ∉ fs→b ∉ ex→h'.get? b=some o
  slot : ∀ b o,h.get? b=some o→H b=none→b∈fs→b ∉ ex→∃ sl,h'.get? b=some { o with slots:=sl }
  free : ∀ b o,h.get? b=some o→H b=none→b ∉ ex→H' b=none
  there : ∀ b o,h.get? b=some o→b ∉ ex→∃ o',h'.get? b=some o'
  gp : ∀ b xs,H b=some (.tup xs)→H' b=some (.tup xs)
  kq : ∀ b o u,H b=some (.frz o u)→H' b=some (.frz o u)
  kZ : ∀ b ps,H b=some (.tbl ps)→∃ more,H' b=some (.tbl (ps++more))
section
variable {fs fs' ex ex':List Addr}{H H1 H2:Hp}{h h1 h2 h':Heap}{a x e:Addr}{o:HO}
theorem Un.any (u:Un fs ex H H1 h h1){b:Addr}{ob:Obj}(q:h.get? b=some ob)(n:H b=none)(hx:b ∉ ex) : ∃ sl,h1.get? b=some { ob with slots:=sl }:=by
  by_cases hb:b∈fs
  · exact u.slot b ob q n hb hx
  · exact ⟨ob.slots,u.keep b ob q n hb hx⟩
theorem Un.kept (k : ∀ b u,h.get? b=some u→h'.get? b=some u):Un fs ex H H h h' :=
  ⟨fun b ob q _ _ _=>k b ob q,fun b ob q _ _ _=>⟨ob.slots,k b ob q⟩,fun _ _ _ n _=>n,fun b ob q _=>⟨ob,k b ob q⟩,fun _ _ q=>q,fun _ _ _ q=>q,fun _ ps q=>⟨#[],by rw [q]; simp⟩⟩
theorem Un.refl:Un fs ex H H h h:=Un.kept fun _ _ q=>q
theorem Un.laid (k : ∀ b u,h.get? b=some u→h'.get? b=some u)(hp:h.objs.size≤a)(hn:H a=none):Un fs ex H (upd H a o) h h' where
  keep:=fun b u q _ _ _=>k b u q
  slot:=fun b u q _ _ _=>⟨u.slots,k b u q⟩
  free:=fun b u q n _=>by rw [ba (Nat.ne_of_lt (Nat.lt_of_lt_of_le (Heap.lt_size q) hp))]; exact n
  there:=fun b u q _=>⟨u,k b u q⟩
  gp:=fun b xs q=>by rw [ba (cR q hn)]; exact q
  kq:=fun b u xs q=>by rw [ba (cR q hn)]; exact q
  kZ:=fun b ps q=>⟨#[],by rw [ba (cR q hn),q]; simp⟩
theorem Un.write (mu:Mut (H x))(he:e=x∨H e=some (.own x))(k : ∀ b u,b≠e→h.get? b=some u→h'.get? b=some u)(heo : ∃ u,h'.get? e=some u):Un fs ex H (upd H x o) h h':=by
  have hx : ∀ b,H b=none→b≠x:=fun b n z=>by subst z; rw [n] at mu; exact mu
  have hb : ∀ b,H b=none→b≠e:=fun b n z=>by
    subst z
    rcases he with r | r
    · exact hx b n r
    · rw [n] at r; cases r
  have hm : ∀ b u,H b=some u→¬ Mut (some u)→b≠x:=fun b u q nm z=>by subst z; rw [q] at mu; exact nm mu
  refine ⟨fun b u q n _ _=>k b u (hb b n) q,fun b u q n _ _=>⟨u.slots,k b u (hb b n) q⟩,fun b u q n _=>by rw [ba (hx b n)]; exact n,fun b u q _=>?_,
    fun b xs q=>by rw [ba (hm b _ q fun z=>z)]; exact q,fun b u xs q=>by rw [ba (hm b _ q fun z=>z)]; exact q,fun b ps q=>⟨#[],by rw [ba (hm b _ q fun z=>z),q]; simp⟩⟩
  by_cases hbe:b=e
  · subst hbe; exact heo
  · exact ⟨u,k b u hbe q⟩
end
noncomputable def trk (h:Heap)(H:Hp):List Addr:=(List.range h.objs.size).filter fun a=>(H a).isSome
noncomputable def qX (h:Heap)(H:Hp):Heap:=PySem.W.hideAll h (trk h H)
theorem wN (h:Heap)(H:Hp):(qX h H).objs.size=h.objs.size:=PySem.W.hideAll_size _ _
theorem yi {h:Heap}{H:Hp}{b:Addr}{o:Obj}(e:h.get? b=some o)(n:H b=none):(qX h H).get? b=some o :=
  PySem.W.hideAll_get _ e fun hm=>by
    have q:(H b).isSome=true:=(List.mem_filter.mp hm).2
    rw [n] at q; simp at q
theorem AR {h:Heap}{H:Hp}{b:Addr}{o:Obj}(e:(qX h H).get? b=some o):h.get? b=some o∧H b=none:=by
  have e':h.get? b=some o:=PySem.W.of_hideAll (trk h H) e
  refine ⟨e', ?_⟩
  cases q:H b with
  | none=>rfl
  | some x =>
    have hm:b∈trk h H:=List.mem_filter.mpr ⟨List.mem_range.mpr (Heap.lt_size e'),by simp [q]⟩
    have z:(qX h H).get? b=none:=PySem.W.hideAll_none (trk h H) hm
    rw [z] at e; cases e
end L2
namespace L2
open PySem PySem.Spec PyProof.Rows
structure Mod (K:PySem.W.Frag)(mg:Str→Option Value)(base:Heap):Prop where
  kin:K.In base
  glob:base.Ns mainGlobals mg
  blt : ∃ mb,base.Ns builtinsNs mb∧∀ x:Str,x≠"__name__"→mb x=bootBuiltins x
  nolimit:base.NoLimit
structure Cx where
  prog:Program
  w:World
  K:PySem.W.Frag
  mg:Str→Option Value
  base:Heap
  A:Around
  N:List Str
  s₀:Shared
  H₀:Hp
  env:Env
  outer:List Env
  stack:List Env
  ex:List Addr
  fn:Str→Bool
  calm:Bool
  pn:List (Addr × Obj)
  xe:Value→Shared→Prop
noncomputable def frs (l:List Env):List Addr:=l.filterMap (·.frame)
noncomputable abbrev Cx.fs (X:Cx):List Addr:=frs X.outer
noncomputable def Vis (sc:Scope)(x:Str):Prop:=sc.names.lookup x=some .local∨sc.names.lookup x=some .cell∨sc.names.lookup x=some .free
noncomputable def Loc (sc:Scope)(x:Str):Prop:=sc.names.lookup x=some .local∨sc.names.lookup x=some .cell
noncomputable def Look (env:Env)(h:Heap)(m:Str→Option Value)(x:Str)(u:Value):Prop :=
  (env.kindOf x=some .local∧m x=some u)∨((env.kindOf x=some .cell∨env.kindOf x=some .free)∧∃ c,env.cells.lookup x=some c∧h.IsCell c (some u))
structure Cx.Ok (X:Cx):Prop where
  mod:Mod X.K X.mg X.base
  kind:X.env.scope.kind=.function
  glob:X.env.globals=mainGlobals
  blt:X.env.builtins=builtinsNs
  above:X.s₀.heap.objs.size≤X.env.locals
  inj : ∀ x y c,X.env.cells.lookup x=some c→X.env.cells.lookup y=some c→x=y
  has : ∀ x,(X.env.kindOf x=some .cell∨X.env.kindOf x=some .free)→∃ c,X.env.cells.lookup x=some c
  cab : ∀ x c,X.fn x=true→X.env.cells.lookup x=some c→X.s₀.heap.objs.size≤c
  hd:X.calm=true→X.A.handled=none
  frames:X.A.frames=some X.stack
  stk:X.stack=X.outer∨(X.stack=X.env::X.outer∧X.env.frame=some X.env.locals)
  exf : ∀ b∈X.ex,b≠X.env.locals∧∀ x c,X.env.cells.lookup x=some c→c≠b
  bs : ∀ b o,X.base.get? b=some o→X.s₀.heap.get? b=some o∧X.H₀ b=none
  bsz:X.base.objs.size≤X.s₀.heap.objs.size
  wO : ∀ b o,X.base.get? b=some o→b ∉ X.ex
  wQ : ∀ b∈X.ex,b ∉ X.fs
  mP:X.s₀.heap.FunFrames X.base X.outer
  frf : ∀ b∈X.fs,X.H₀ b=none
structure Inv (X:Cx)(pins:List (Addr × Obj))(σ:List (Option V))(H:Hp)(s:Shared):Prop where
  ok:X.Ok
  os:s.os=X.s₀.os
  bare:AllBare s.gens
  base:Un X.fs X.ex X.H₀ H X.s₀.heap s.heap
  loc : ∃ m,s.heap.Ns X.env.locals m∧∀ (i:Nat) (x:Str) (v:V),X.N[i]?=some x→σ[i]?=some (some v)→Vis X.env.scope x→∃ u,RelV v u∧Look X.env s.heap m x u
  cell : ∀ x c,X.env.cells.lookup x=some c→∃ v,s.heap.IsCell c v
  free:H X.env.locals=none
  iC : ∀ x c,X.env.cells.lookup x=some c→H c=none
  pin : ∀ p∈X.pn++pins,s.heap.get? p.1=some p.2∧H p.1=none∧p.1≠X.env.locals∧p.1 ∉ X.fs∧∀ v,p.2.data≠.cell v
  hok:HOk X.prog X.w H s.heap
  len : σ.length=X.N.length
section
variable {X:Cx}{pins:List (Addr × Obj)}{σ:List (Option V)}{H H':Hp}{s:Shared}{h':Heap}
theorem Cx.Ok.JP (ok:X.Ok){b:Addr}{o:Obj}(e:X.base.get? b=some o):b ∉ X.fs:=fun hb=>by
  have:=(ok.mP.mem hb).1
  rw [e] at this; cases this
theorem Inv.bs (I:Inv X pins σ H s) : ∀ b o,X.base.get? b=some o→s.heap.get? b=some o∧H b=none:=fun b o e =>
  ⟨I.base.keep b o (I.ok.bs b o e).1 (I.ok.bs b o e).2 (I.ok.JP e) (I.ok.wO b o e),I.base.free b o (I.ok.bs b o e).1 (I.ok.bs b o e).2 (I.ok.wO b o e)⟩
theorem Inv.bk (I:Inv X pins σ H s) : ∀ b o,X.base.get? b=some o→s.heap.get? b=some o:=fun b o e=>(I.bs b o e).1
theorem Inv.mod (I:Inv X pins σ H s):Mod X.K X.mg X.base:=I.ok.mod
theorem Inv.kIn (I:Inv X pins σ H s):X.K.In s.heap:=I.ok.mod.kin.keeps I.bk
theorem Inv.lt (I:Inv X pins σ H s):X.env.locals<s.heap.objs.size:=let ⟨_,hn,_⟩:=I.loc; hn.lt
theorem Inv.sz (I:Inv X pins σ H s):X.s₀.heap.objs.size≤s.heap.objs.size:=Nat.le_trans I.ok.above (Nat.le_of_lt I.lt)
theorem Inv.Hb (I:Inv X pins σ H s){a:Addr}(h:s.heap.objs.size≤a):a ∉ X.fs:=fun hb=>by
  obtain ⟨_,o,ho,_⟩:=I.ok.mP.mem hb
  exact absurd (Nat.lt_of_lt_of_le (Heap.lt_size ho) (Nat.le_trans I.sz h)) (Nat.lt_irrefl _)
theorem Inv.cne (I:Inv X pins σ H s) : ∀ x c,X.env.cells.lookup x=some c→c≠X.env.locals:=fun x c e z=>by
  obtain ⟨v,o,ho,hd⟩:=I.cell x c e
  obtain ⟨m,⟨o',es,ep,ho',hd',_⟩,_⟩:=I.loc
  rw [z,ho'] at ho; cases ho; rw [hd'] at hd; cases hd
theorem Inv.mP (I:Inv X pins σ H s):s.heap.FunFrames X.base X.outer:=by
  have all : ∀ (l:List Env),(∀ b∈frs l,b∈X.fs)→X.s₀.heap.FunFrames X.base l→s.heap.FunFrames X.base l:=by
    intro l
    induction l with
    | nil=>intro _ _; trivial
    | cons env r ih =>
      intro hs hl
      obtain ⟨hk,⟨L,o,hf,hn,ho,hd⟩,hr⟩:=hl
      have hL:L∈X.fs:=hs L (by unfold frs; rw [List.filterMap_cons,hf]; exact List.mem_cons_self)
      obtain ⟨sl,e⟩:=I.base.slot L o ho (I.ok.frf L hL) hL fun z=>I.ok.wQ L z hL
      exact ⟨hk,⟨L,_,hf,hn,e,hd⟩,ih (fun b hb=>hs b (by unfold frs; rw [List.filterMap_cons,hf]; exact List.mem_cons_of_mem _ hb)) hr⟩
  exact all X.outer (fun _ hb=>hb) I.ok.mP
theorem Inv.stack (I:Inv X pins σ H s):s.heap.FunFrames X.base X.stack:=by
  rcases I.ok.stk with e | ⟨e,hf⟩
  · rw [e]; exact I.mP
  · rw [e]
    obtain ⟨m,hn,_⟩:=I.loc
    refine .cons (by rw [I.ok.kind]; decide) hf hn ?_ I.mP
    exact Heap.get?_none_of_le (Nat.le_trans I.ok.bsz I.ok.above)
theorem Inv.lR (I:Inv X pins σ H s) : ∀ b∈frs X.stack,b∈X.env.locals::X.fs:=fun b hb=>by
  rcases I.ok.stk with e | ⟨e,hf⟩
  · rw [e] at hb; exact List.mem_cons_of_mem _ hb
  · rw [e] at hb
    unfold frs at hb
    rw [List.filterMap_cons,hf] at hb
    exact hb
theorem Inv.l0 (I:Inv X pins σ H s) : ∀ b∈frs X.stack,H b=none:=fun b hb=>by
  rcases List.mem_cons.mp (I.lR b hb) with e | hb
  · rw [e]; exact I.free
  · obtain ⟨_,o,ho,_⟩:=I.ok.mP.mem hb
    exact I.base.free b o ho (I.ok.frf b hb) fun z=>I.ok.wQ b z hb
theorem Inv.step {g':Array GenState}{t':Nat}{d':Drawn}{ch:List Addr}(I:Inv X pins σ H s)
    (hch : ∀ b∈ch,(b∈X.ex∨X.s₀.heap.objs.size≤b)∧b≠X.env.locals∧(∀ x c,X.env.cells.lookup x=some c→c≠b)∧∀ p∈X.pn++pins,p.1≠b)
    (keep : ∀ b o,b≠X.env.locals→b ∉ X.fs→b ∉ ch→s.heap.get? b=some o→H b=none→h'.get? b=some o)
    (slot : ∀ b o,b≠X.env.locals→b∈X.fs→b ∉ ch→s.heap.get? b=some o→H b=none→∃ sl,h'.get? b=some { o with slots:=sl }) (free : ∀ b o,b ∉ ch→s.heap.get? b=some o→H b=none→H' b=none)
    (there : ∀ b o,b ∉ ch→s.heap.get? b=some o→∃ o',h'.get? b=some o')
    (gp : ∀ b xs,H b=some (.tup xs)→H' b=some (.tup xs)) (kq : ∀ b o u,H b=some (.frz o u)→H' b=some (.frz o u)) (kZ : ∀ b ps,H b=some (.tbl ps)→∃ more,H' b=some (.tbl (ps++more)))
    (ns : ∀ m,s.heap.Ns X.env.locals m→h'.Ns X.env.locals m) (hok:HOk X.prog X.w H' h') (hg:AllBare g') :
    Inv X pins σ H' { s with heap:=h',gens:=g',drawn:=d',toks:=t' }:=by
  have neL : ∀ b o,X.s₀.heap.get? b=some o→b≠X.env.locals:=fun b o e=>Nat.ne_of_lt (Nat.lt_of_lt_of_le (Heap.lt_size e) I.ok.above)
  have neC : ∀ b o,X.s₀.heap.get? b=some o→b ∉ X.ex→b ∉ ch:=fun b o e hx hb=>by
    rcases (hch b hb).1 with z | z
    · exact hx z
    · exact absurd (Nat.lt_of_lt_of_le (Heap.lt_size e) z) (Nat.lt_irrefl _)
  have cellK : ∀ x c,X.env.cells.lookup x=some c→∀ v,s.heap.IsCell c v→h'.IsCell c v:=fun x c e v ⟨o,ho,hd⟩=>by
    have nch:c ∉ ch:=fun z=>(hch c z).2.2.1 x c e rfl
    by_cases hc:c∈X.fs
    · obtain ⟨sl,q⟩:=slot c o (I.cne x c e) hc nch ho (I.iC x c e)
      exact ⟨_,q,hd⟩
    · exact ⟨o,keep c o (I.cne x c e) hc nch ho (I.iC x c e),hd⟩
  refine ⟨I.ok,I.os,hg,⟨fun b o e n hb hx=>?_,fun b o e n hb hx=>?_,fun b o e n hx=>?_,fun b o e hx=>?_,fun b xs e=>gp b xs (I.base.gp b xs e),fun b o xs e=>kq b o xs (I.base.kq b o xs e),fun b ps e=>?_⟩, ?_,fun x c e=>?_, ?_,fun x c e=>?_,fun p hp=>?_,hok,I.len⟩
  · exact keep b o (neL b o e) hb (neC b o e hx) (I.base.keep b o e n hb hx) (I.base.free b o e n hx)
  · obtain ⟨sl,e1⟩:=I.base.slot b o e n hb hx
    obtain ⟨sl',e2⟩:=slot b _ (neL b o e) hb (neC b o e hx) e1 (I.base.free b o e n hx)
    exact ⟨sl',e2⟩
  · obtain ⟨o',e1⟩:=I.base.there b o e hx
    exact free b o' (neC b o e hx) e1 (I.base.free b o e n hx)
  · obtain ⟨o',e1⟩:=I.base.there b o e hx
    exact there b o' (neC b o e hx) e1
  · obtain ⟨m1,e1⟩:=I.base.kZ b ps e
    obtain ⟨m2,e2⟩:=kZ b _ e1
    exact ⟨m1++m2,by rw [e2,Array.append_assoc]⟩
  · obtain ⟨m,hn,hl⟩:=I.loc
    refine ⟨m,ns m hn,fun i x v e1 e2 e3=>?_⟩
    obtain ⟨u,r,l⟩:=hl i x v e1 e2 e3
    refine ⟨u,r, ?_⟩
    rcases l with l | ⟨k,c,e,z⟩
    · exact .inl l
    · exact .inr ⟨k,c,e,cellK x c e _ z⟩
  · obtain ⟨v,z⟩:=I.cell x c e
    exact ⟨v,cellK x c e v z⟩
  · obtain ⟨m,⟨o,_,_,ho,_⟩,_⟩:=I.loc
    exact free _ o (fun z=>(hch _ z).2.1 rfl) ho I.free
  · obtain ⟨v,o,ho,hd⟩:=I.cell x c e
    exact free c o (fun z=>(hch c z).2.2.1 x c e rfl) ho (I.iC x c e)
  · obtain ⟨e,n,ne,nf,d⟩:=I.pin p hp
    have nch:p.1 ∉ ch:=fun z=>(hch p.1 z).2.2.2 p hp rfl
    exact ⟨keep p.1 p.2 ne nf nch e n,free p.1 p.2 nch e n,ne,nf,d⟩
theorem Inv.un {t':Nat}(I:Inv X pins σ H s)(u:Un X.fs [] H H' s.heap h')(hok:HOk X.prog X.w H' h'):Inv X pins σ H' { s with heap:=h',toks:=t' }:=by
  obtain ⟨m,⟨o,es,ep,ho,r⟩,_⟩:=id I.loc
  obtain ⟨sl,hL⟩:=u.any ho I.free (by simp)
  exact I.step (g':=s.gens) (d':=s.drawn) (ch:=[]) (fun _ z=>nomatch z) (fun b o _ hb _ e n=>u.keep b o e n hb (by simp)) (fun b o _ hb _ e n=>u.slot b o e n hb (by simp)) (fun b o _ e n=>u.free b o e n (by simp)) (fun b o _ e=>u.there b o e (by simp)) u.gp u.kq u.kZ (fun m' hm=>by
    obtain ⟨o',es',ep',ho',r'⟩:=hm
    rw [ho] at ho'; cases ho'
    exact ⟨_,es',ep',hL,r'⟩) hok I.bare
theorem Inv.call {g':Array GenState}{t':Nat}{d':Drawn}{ch:List Addr}(I:Inv X pins σ H s)(u:Un (frs X.stack) ch H H' s.heap h')(hok:HOk X.prog X.w H' h')(hg:AllBare g')
    (hch : ∀ b∈ch,(b∈X.ex∨X.s₀.heap.objs.size≤b)∧b≠X.env.locals∧(∀ x c,X.env.cells.lookup x=some c→c≠b)∧∀ p∈X.pn++pins,p.1≠b) :
    Inv X pins σ H' { s with heap:=h',gens:=g',drawn:=d',toks:=t' }:=by
  obtain ⟨m,⟨o,es,ep,ho,r⟩,_⟩:=id I.loc
  obtain ⟨sl,hL⟩:=u.any ho I.free fun z=>(hch _ z).2.1 rfl
  exact I.step (ch:=ch) hch (fun b o hL hb hc e n=>u.keep b o e n (fun z=>(List.mem_cons.mp (I.lR b z)).elim hL hb) hc) (fun b o _ _ hc e n=>u.any e n hc) (fun b o hc e n=>u.free b o e n hc) (fun b o hc e=>u.there b o e hc) u.gp u.kq u.kZ (fun m' hm=>by
    obtain ⟨o',es',ep',ho',r'⟩:=hm
    rw [ho] at ho'; cases ho'
    exact ⟨_,es',ep',hL,r'⟩) hok hg
theorem Inv.turned {t':Nat}{it:Addr}(I:Inv X pins σ H s)(k : ∀ b o,b≠it→s.heap.get? b=some o→h'.get? b=some o)(hn:H it=none)(hL:it≠X.env.locals)
    (h1:it∈X.ex∨X.s₀.heap.objs.size≤it) (h2 : ∀ x c,X.env.cells.lookup x=some c→c≠it) (h3 : ∀ p∈X.pn++pins,p.1≠it):Inv X pins σ H { s with heap:=h',toks:=t' }:=by
  have nit : ∀ b u,H b=some u→b≠it:=fun b u e z=>by rw [z,hn] at e; cases e
  refine I.step (g':=s.gens) (d':=s.drawn) (ch:=[it]) (fun b hb=>?_) (fun b o _ _ hc e _=>k b o (fun z=>hc (by simp [z])) e) (fun b o _ _ hc e _=>⟨o.slots,k b o (fun z=>hc (by simp [z])) e⟩) (fun _ _ _ _ n=>n)
    (fun b o hc e=>⟨o,k b o (fun z=>hc (by simp [z])) e⟩) (fun _ _ e=>e) (fun _ _ _ e=>e) (fun b ps e=>⟨#[],by rw [e]; simp⟩) (fun m hm=>?_) (fun b u e=>?_) I.bare
  · have e:b=it:=by simpa using hb
    subst e
    exact ⟨h1,hL,h2,h3⟩
  · obtain ⟨o,es,ep,ho,r⟩:=hm
    exact ⟨o,es,ep,k _ o (Ne.symm hL) ho,r⟩
  · refine (I.hok b u e).nA (fun c v hc q=>k c v ?_ q) (fun _ q=>q) fun _ _ q=>q
    rcases hc with z | z
    · rw [z]; exact nit b u e
    · exact nit c _ z
theorem Inv.tok (I:Inv X pins σ H s)(t:Nat):Inv X pins σ H { s with toks:=t }:=I.un (h':=s.heap) (t':=t) Un.refl I.hok
theorem Inv.kept {t':Nat}(I:Inv X pins σ H s)(k : ∀ b u,s.heap.get? b=some u→h'.get? b=some u):Inv X pins σ H { s with heap:=h',toks:=t' }:=I.un (Un.kept k) (I.hok.kept k)
theorem Inv.laid {a:Addr}{o:HO}{t':Nat}(I:Inv X pins σ H s)(k : ∀ b u,s.heap.get? b=some u→h'.get? b=some u)(hp:s.heap.objs.size≤a)(new:dU X.prog X.w (upd H a o) h' a o) :
    Inv X pins σ (upd H a o) { s with heap:=h',toks:=t' }:=I.un (Un.laid k hp (I.hok.fresh hp)) (I.hok.laid k hp new)
theorem Inv.write {x e:Addr}{o:HO}{t':Nat}(I:Inv X pins σ H s)(mu:Mut (H x))(he:e=x∨H e=some (.own x))(k : ∀ b u,b≠e→s.heap.get? b=some u→h'.get? b=some u)(heo : ∃ u,h'.get? e=some u)
    (new:dU X.prog X.w (upd H x o) h' x o):Inv X pins σ (upd H x o) { s with heap:=h',toks:=t' }:=I.un (Un.write mu he k heo) (I.hok.write mu he k heo new)
theorem Inv.weak {σ':List (Option V)}(I:Inv X pins σ H s)(hl : σ'.length=σ.length)(w : ∀ (i:Nat) v, σ'[i]?=some (some v)→σ[i]?=some (some v)):Inv X pins σ' H s :=
  ⟨I.ok,I.os,I.bare,I.base,let ⟨m,hn,hl'⟩:=I.loc; ⟨m,hn,fun i x v e1 e2 e3=>hl' i x v e1 (w i v e2) e3⟩,I.cell,I.free,I.iC,I.pin,I.hok,hl.trans I.len⟩
theorem Inv.mW {pins':List (Addr × Obj)}(I:Inv X pins σ H s)(h : ∀ p∈pins',s.heap.get? p.1=some p.2∧H p.1=none∧p.1≠X.env.locals∧p.1 ∉ X.fs∧∀ v,p.2.data≠.cell v):Inv X pins' σ H s :=
  ⟨I.ok,I.os,I.bare,I.base,I.loc,I.cell,I.free,I.iC,fun p hp=>(List.mem_append.mp hp).elim (fun z=>I.pin p (List.mem_append_left _ z)) (h p),I.hok,I.len⟩
theorem sG {N:List Str}(hN:N.Nodup){i j:Nat}{x:Str}(a:N[i]?=some x)(b:N[j]?=some x):i=j:=by
  obtain ⟨h1,e1⟩:=List.getElem?_eq_some_iff.mp a
  obtain ⟨h2,e2⟩:=List.getElem?_eq_some_iff.mp b
  exact (List.getElem_inj hN).mp (e1.trans e2.symm)
theorem q8 {M:Model}{A:Around}{E:Value→Shared→Prop}{i:Nat}{x:Str}{v:V}{u:Value}{Q:Unit→Shared→Prop}(I:Inv X pins σ H s)(hN:X.N.Nodup)(hi:X.N[i]?=some x)(hx:Loc X.env.scope x)(r:RelV v u)
    (h : ∀ s',Inv X pins (σ.set i (some v)) H s'→(∃ a,Heap.SameBut a s.heap s'.heap∧(a=X.env.locals∨X.env.cells.lookup x=some a))→Q () s') (hf:X.fn x=true∨X.env.scope.names.lookup x=some .local:=by first | exact .inl rfl | exact .inr rfl | assumption):wpAny M A (storeName X.env x u) Q E s:=by
  obtain ⟨m,hn,hl⟩:=id I.loc
  have hcls:(X.env.scope.kind == .class || (X.env.scope.kind == .module && X.env.locals != X.env.globals))=false:=by rw [I.ok.kind]; rfl
  have hiσ:i < σ.length:=by rw [I.len]; exact (List.getElem?_eq_some_iff.mp hi).1
  have cne:=I.cne
  have tracked : ∀ {a:Addr} {h':Heap},(∃ o,s.heap.get? a=some o∧H a=none)→Heap.SameBut a s.heap h'→HOk X.prog X.w H h':=fun {a h'} ha hs b ob e=>by
    obtain ⟨_,_,hfree⟩:=ha
    refine (I.hok b ob e).nA (fun c w' hc q=>(hs.2 c ?_).trans q) (fun _ q=>q) fun _ _ q=>q
    rintro rfl
    rcases hc with rfl | hc
    · rw [hfree] at e; cases e
    · rw [hfree] at hc; cases hc
  rcases hx with hk | hk
  · refine wpAny_storeName_local hk hn (fun h' hn' hs=>?_) hcls
    obtain ⟨oL,_,_,hoL,_⟩:=id hn
    refine h _ ⟨I.ok,I.os,I.bare,⟨fun b o e n hb hx=>?_,fun b o e n hb hx=>?_,I.base.free,fun b o e hx=>?_,I.base.gp,I.base.kq,I.base.kZ⟩,⟨_,hn',fun j y v' e1 e2 e3=>?_⟩,fun y c e=>?_,I.free,I.iC,fun p hp=>?_,tracked ⟨oL,hoL,I.free⟩ hs,by simpa using I.len⟩ ⟨_,hs,.inl rfl⟩
    · exact (hs.2 b (Nat.ne_of_lt (Nat.lt_of_lt_of_le (Heap.lt_size e) I.ok.above))).trans (I.base.keep b o e n hb hx)
    · obtain ⟨sl,e1⟩:=I.base.slot b o e n hb hx
      exact ⟨sl,(hs.2 b (Nat.ne_of_lt (Nat.lt_of_lt_of_le (Heap.lt_size e) I.ok.above))).trans e1⟩
    · obtain ⟨o',e1⟩:=I.base.there b o e hx
      exact ⟨o',(hs.2 b (Nat.ne_of_lt (Nat.lt_of_lt_of_le (Heap.lt_size e) I.ok.above))).trans e1⟩
    · by_cases hj:j=i
      · subst hj
        rw [hi] at e1; cases e1
        rw [List.getElem?_set_self hiσ] at e2
        cases e2
        exact ⟨u,r,.inl ⟨hk,by simp⟩⟩
      · rw [List.getElem?_set_ne (Ne.symm hj)] at e2
        obtain ⟨u',r',q⟩:=hl j y v' e1 e2 e3
        refine ⟨u',r', ?_⟩
        rcases q with ⟨k,e⟩ | ⟨k,c,e,z⟩
        · refine .inl ⟨k, ?_⟩
          have:y≠x:=fun e=>hj (sG hN e1 (e ▸ hi))
          simp [this,e]
        · exact .inr ⟨k,c,e,z.sameBut hs (cne y c e)⟩
    · obtain ⟨w',z⟩:=I.cell y c e
      exact ⟨w',z.sameBut hs (cne y c e)⟩
    · obtain ⟨e,n,ne,nf,d⟩:=I.pin p hp
      exact ⟨(hs.2 p.1 ne).trans e,n,ne,nf,d⟩
  · have hfn:X.fn x=true:=by
      rcases hf with z | z
      · exact z
      · rw [z] at hk; cases hk
    obtain ⟨c,hc⟩:=I.ok.has x (.inl hk)
    obtain ⟨w',z⟩:=I.cell x c hc
    refine wpAny_storeName_cell I.ok.kind hk hc z (fun h' hc' hs=>?_)
    obtain ⟨oc,hoc,hocd⟩:=id z
    refine h { s with heap:=h' } ⟨I.ok,I.os,I.bare,⟨fun b o e n hb hx=>?_,fun b o e n hb hx=>?_,I.base.free,fun b o e hx=>?_,I.base.gp,I.base.kq,I.base.kZ⟩,⟨m,hn.sameBut hs (Ne.symm (cne x c hc)),fun j y v' e1 e2 e3=>?_⟩,fun y c' e=>?_,I.free,I.iC,fun p hp=>?_,tracked ⟨oc,hoc,I.iC x c hc⟩ hs,by simpa using I.len⟩ ⟨c,hs,.inr hc⟩
    · exact (hs.2 b (Nat.ne_of_lt (Nat.lt_of_lt_of_le (Heap.lt_size e) (I.ok.cab x c hfn hc)))).trans (I.base.keep b o e n hb hx)
    · obtain ⟨sl,e1⟩:=I.base.slot b o e n hb hx
      exact ⟨sl,(hs.2 b (Nat.ne_of_lt (Nat.lt_of_lt_of_le (Heap.lt_size e) (I.ok.cab x c hfn hc)))).trans e1⟩
    · obtain ⟨o',e1⟩:=I.base.there b o e hx
      exact ⟨o',(hs.2 b (Nat.ne_of_lt (Nat.lt_of_lt_of_le (Heap.lt_size e) (I.ok.cab x c hfn hc)))).trans e1⟩
    · by_cases hj:j=i
      · subst hj
        rw [hi] at e1; cases e1
        rw [List.getElem?_set_self hiσ] at e2
        cases e2
        exact ⟨u,r,.inr ⟨.inl hk,c,hc,hc'⟩⟩
      · rw [List.getElem?_set_ne (Ne.symm hj)] at e2
        obtain ⟨u',r',q⟩:=hl j y v' e1 e2 e3
        refine ⟨u',r', ?_⟩
        rcases q with q | ⟨k,c',e,z'⟩
        · exact .inl q
        · refine .inr ⟨k,c',e,z'.sameBut hs ?_⟩
          rintro rfl
          exact hj (sG hN e1 (I.ok.inj _ _ _ e hc ▸ hi))
    · by_cases hcc:c'=c
      · subst hcc; exact ⟨_,hc'⟩
      · obtain ⟨w2,z2⟩:=I.cell y c' e
        exact ⟨w2,z2.sameBut hs hcc⟩
    · obtain ⟨e,n,ne,nf,d⟩:=I.pin p hp
      refine ⟨(hs.2 p.1 ?_).trans e,n,ne,nf,d⟩
      intro q
      rw [q,hoc] at e
      have q':oc=p.2:=Option.some.inj e
      exact d w' (by rw [← q']; exact hocd)
theorem lg {M:Model}{A:Around}{E:Value→Shared→Prop}{i:Nat}{x:Str}{v:V}{u:Value}{Q:Unit→Shared→Prop}(I:Inv X pins σ H s)(hN:X.N.Nodup)(hi:X.N[i]?=some x)(hx:Loc X.env.scope x)(r:RelV v u)
    (h : ∀ s',Inv X pins (σ.set i (some v)) H s'→Q () s') (hf:X.fn x=true∨X.env.scope.names.lookup x=some .local:=by first | exact .inl rfl | exact .inr rfl | assumption):wpAny M A (storeName X.env x u) Q E s :=
  q8 I hN hi hx r (fun s' I' _=>h s' I') hf
theorem Inv.q9 {s':Shared}{ch:List Addr}(I:Inv X pins σ H s)(ho:s'.os=s.os)(u:Un (frs X.stack) ch H H' s.heap s'.heap)(hok:HOk X.prog X.w H' s'.heap)(hg:AllBare s'.gens)
    (hch : ∀ b∈ch,(b∈X.ex∨X.s₀.heap.objs.size≤b)∧b≠X.env.locals∧(∀ x c,X.env.cells.lookup x=some c→c≠b)∧∀ p∈X.pn++pins,p.1≠b):Inv X pins σ H' s':=by
  obtain ⟨h',g',d',t',o'⟩:=s'
  have e:o'=s.os:=ho
  subst e
  exact I.call (g':=g') (t':=t') (d':=d') u hok hg hch
end
noncomputable abbrev XK:=Value→Option Addr→Hp→Prop
noncomputable abbrev St:=List (Option V)
noncomputable abbrev VK:=V→Hp→Prop
noncomputable abbrev TE:=St→Hp→VK→Prop
noncomputable abbrev TT:=St→Hp→(Bool→Hp→Prop)→Prop
noncomputable abbrev TA:=St→Hp→(List V→Hp→Prop)→Prop
structure Ends where
  nx:St→Hp→Prop
  rt:VK
  bk:St→Hp→Prop:=fun _ _=>False
  ct:St→Hp→Prop:=fun _ _=>False
noncomputable abbrev TS:=Ends→St→Hp→Prop
noncomputable def EP (X:Cx)(pins:List (Addr × Obj))(σ:St)(Q:VK)(u:Value)(s':Shared):Prop:=∃ v H',Inv X pins σ H' s'∧RelV v u∧Q v H'
noncomputable def TP (X:Cx)(pins:List (Addr × Obj))(σ:St)(Q:Bool→Hp→Prop)(b:Bool)(s':Shared):Prop:=∃ H',Inv X pins σ H' s'∧Q b H'
noncomputable def AP (X:Cx)(pins:List (Addr × Obj))(σ:St)(Q:List V→Hp→Prop)(us:List Value)(s':Shared):Prop:=∃ vs H',Inv X pins σ H' s'∧Vals vs us∧Q vs H'
noncomputable def SP (X:Cx)(pins:List (Addr × Obj))(D:Ends)(f:Flow)(s':Shared):Prop :=
  match f with
  | .next=>∃ σ' H',Inv X pins σ' H' s'∧D.nx σ' H'
  | .brk=>∃ σ' H',Inv X pins σ' H' s'∧D.bk σ' H'
  | .cont=>∃ σ' H',Inv X pins σ' H' s'∧D.ct σ' H'
  | .ret u=>∃ v σ' H',Inv X pins σ' H' s'∧RelV v u∧D.rt v H'
noncomputable def PE (X:Cx)(e:Expr)(t:TE):Prop :=
  ∀ (pins:List (Addr × Obj)) (s:Shared) (σ:St) (H:Hp) (Q:VK),Inv X pins σ H s→t σ H Q→wpAny (model X.prog X.w) X.A (eval e X.env) (EP X pins σ Q) X.xe s
noncomputable def PT (X:Cx)(e:Expr)(t:TT):Prop :=
  ∀ (pins:List (Addr × Obj)) (s:Shared) (σ:St) (H:Hp) (Q:Bool→Hp→Prop),Inv X pins σ H s→t σ H Q→wpAny (model X.prog X.w) X.A (isTrue e X.env (eval e X.env)) (TP X pins σ Q) X.xe s
noncomputable def PW (X:Cx)(e:Expr)(t:TT):Prop :=
  ∀ (whole:Sem Value) (pins:List (Addr × Obj)) (s:Shared) (σ:St) (H:Hp) (Q:Bool→Hp→Prop),Inv X pins σ H s→t σ H Q→wpAny (model X.prog X.w) X.A (isTrue e X.env whole) (TP X pins σ Q) X.xe s
theorem PW.pt {X:Cx}{e:Expr}{t:TT}(h:PW X e t):PT X e t:=h _
noncomputable def PA (X:Cx)(es:List Expr)(t:TA):Prop :=
  ∀ (pos:Pos) (pins:List (Addr × Obj)) (s:Shared) (σ:St) (H:Hp) (Q:List V→Hp→Prop),Inv X pins σ H s→t σ H Q→wpAny (model X.prog X.w) X.A (spliced (backTo pos (starEach es X.env))) (AP X pins σ Q) X.xe s
noncomputable def PS (X:Cx)(st:Stmt)(t:TS):Prop :=
  ∀ (pins:List (Addr × Obj)) (s:Shared) (σ:St) (H:Hp) (D:Ends),Inv X pins σ H s→t D σ H→wpAny (model X.prog X.w) X.A (exec st X.env) (SP X pins D) X.xe s
noncomputable def PSs (X:Cx)(st:List Stmt)(t:TS):Prop :=
  ∀ (pins:List (Addr × Obj)) (s:Shared) (σ:St) (H:Hp) (D:Ends),Inv X pins σ H s→t D σ H→wpAny (model X.prog X.w) X.A (execs st X.env) (SP X pins D) X.xe s
theorem thn {α:Type}{t:Sem α}{Q Q' : α→Shared→Prop}{M:Model}{A:Around}{E:Value→Shared→Prop}{s:Shared}(h:wpAny M A t Q E s)(hQ : ∀ a s,Q a s→Q' a s):wpAny M A t Q' E s:=wpAny_mono h hQ fun _ _ x=>x
theorem bH {α β γ:Type}{t:Sem α}{P1 P2 P3 : α→Shared→β→γ→Prop}{Q' : α→Shared→Prop}{M:Model}{A:Around}{E:Value→Shared→Prop}{s:Shared}(h:wpAny M A t (fun a s=>∃ x y,P1 a s x y∧P2 a s x y∧P3 a s x y) E s)(hQ : ∀ a s x y,P1 a s x y→P2 a s x y→P3 a s x y→Q' a s):wpAny M A t Q' E s:=wpAny_mono h (fun a s h=>Exists.elim h fun x h=>Exists.elim h fun y h=>hQ a s x y h.1 h.2.1 h.2.2) fun _ _ x=>x
end L2
namespace L2
open PySem PySem.Spec PyProof.Rows
section
variable {X:Cx}
noncomputable def wR (i:Nat):TE:=fun σ H Q=>∃ v, σ[i]?=some (some v)∧Q v H
noncomputable def tC (v:V):TE:=fun _ H Q=>Q v H
theorem ku {i:Nat}{x:Str}{pos:Pos}(hN:X.N[i]?=some x)(hv:Vis X.env.scope x)(hd:(x == ("__debug__":Str))=false:=by decide)(hcd:(x == ("__classdict__":Str))=false:=by decide):PE X (.Name x pos) (wR i):=by
  intro pins s σ H Q I h
  obtain ⟨v,e,h⟩:=h
  obtain ⟨m,hn,hl⟩:=I.loc
  obtain ⟨u,r,l⟩:=hl i x v hN e hv
  have fin:EP X pins σ Q u s:=⟨v,H,I,r,h⟩
  rcases l with ⟨hk,hm⟩ | ⟨hk,c,hc,hcell⟩
  · exact wpAny_Name (wpAny_loadName_local I.ok.kind hk hn hm fin) hd
  · rcases hk with hk | hk
    · exact wpAny_Name (wpAny_loadName_cell I.ok.kind hk hc hcell fin) hd
    · exact wpAny_Name (wpAny_loadName_free I.ok.kind hk hc hcell fin hcd) hd
theorem yj {i j pos}:PE X (.Constant (.int i) j pos) (tC (.int i)):=fun _ _ _ H _ I h=>wpAny_Constant_int ⟨.int i,H,I.tok _,⟨_,rfl⟩,h⟩
theorem Hc {b j pos}:PE X (.Constant (.bool b) j pos) (tC (.bl b)):=fun _ _ _ H _ I h=>Constant_bool ⟨.bl b,H,I,rfl,h⟩
theorem DT {j pos}:PE X (.Constant .none j pos) (tC .non):=fun _ _ _ H _ I h=>Constant_none ⟨.non,H,I,rfl,h⟩
theorem yk {x j pos}:PE X (.Constant (.str x) j pos) (tC (.str x)):=fun _ _ _ H _ I h=>Calls.Constant_str ⟨.str x,H,I.tok _,⟨_,rfl⟩,h⟩
noncomputable def Gl (X:Cx)(x:Str):Prop:=X.env.kindOf x=some .globalImplicit
theorem j4 {E:Value→Shared→Prop}{pins:List (Addr × Obj)}{s:Shared}{σ:St}{H:Hp}{x:Str}{u:Value}{pos:Pos}{Q:Value→Shared→Prop}(I:Inv X pins σ H s)(hg:Gl X x)(hm:X.mg x=some u)(h:Q u s)
    (hd:(x == ("__debug__":Str))=false:=by decide):wpAny (model X.prog X.w) X.A (eval (.Name x pos) X.env) Q E s :=
  Calls.Name_function_global I.ok.kind hg (Calls.loadGlobal_global (by rw [I.ok.glob]; exact I.mod.glob.keeps I.bk) hm h) hd
theorem iI {E:Value→Shared→Prop}{pins:List (Addr × Obj)}{s:Shared}{σ:St}{H:Hp}{x:Str}{u:Value}{pos:Pos}{Q:Value→Shared→Prop}(I:Inv X pins σ H s)(hg:Gl X x)(hm:X.mg x=none)(hv:bootBuiltins x=some u)(h:Q u s)
    (hn:x≠"__name__":=by decide) (hd:(x == ("__debug__":Str))=false:=by decide):wpAny (model X.prog X.w) X.A (eval (.Name x pos) X.env) Q E s:=by
  obtain ⟨mb,h1,h2⟩:=I.mod.blt
  exact Calls.Name_function_global I.ok.kind hg (Calls.loadGlobal_builtin (by rw [I.ok.glob]; exact I.mod.glob.keeps I.bk) hm (by rw [I.ok.blt]; exact h1.keeps I.bk) ((h2 x hn).trans hv) h) hd
theorem qY {x:Str}{v:V}{u:Value}{pos:Pos}(hg:Gl X x)(hm:X.mg x=some u)(r:RelV v u)(hd:(x == ("__debug__":Str))=false:=by decide):PE X (.Name x pos) (tC v) :=
  fun _ _ _ H _ I h=>j4 I hg hm ⟨v,H,I,r,h⟩ hd
theorem AS {x:Str}{v:V}{u:Value}{pos:Pos}(hg:Gl X x)(hm:X.mg x=none)(hv:bootBuiltins x=some u)(r:RelV v u)(hn:x≠"__name__":=by decide)(hd:(x == ("__debug__":Str))=false:=by decide):PE X (.Name x pos) (tC v) :=
  fun _ _ _ H _ I h=>iI I hg hm hv ⟨v,H,I,r,h⟩ hn hd
variable {a b:Expr}{ta tb:TE}{pos:Pos}
noncomputable def PC (X:Cx)(op:CmpOp)(a b:Expr)(t:TE):Prop :=
  ∀ (pins:List (Addr × Obj)) (s:Shared) (σ:St) (H:Hp) (Q:VK),Inv X pins σ H s→t σ H Q →
    wpAny (model X.prog X.w) X.A (eval a X.env) (fun v s₁=>wpAny (model X.prog X.w) X.A (eval b X.env) (fun u s₂=>wpAny (model X.prog X.w) X.A (compareOp op v u) (EP X pins σ Q) X.xe s₂) X.xe s₁) X.xe s
theorem sH (b:Expr){op:CmpOp}(h:op≠.In)(h2:op≠.NotIn):behindInMarks op b=false:=by
  have e1:(op == CmpOp.In)=false:=by cases op <;> first | rfl | exact absurd rfl h
  have e2:(op == CmpOp.NotIn)=false:=by cases op <;> first | rfl | exact absurd rfl h2
  cases b <;> simp [behindInMarks,e1,e2]
noncomputable def JQ (ta:TE):TE:=fun σ H Q=>ta σ H fun x H1=>Q (.bl (decide (x=.non))) H1
noncomputable def Hd (ta:TE):TE:=fun σ H Q=>ta σ H fun x H1=>Q (.bl (!decide (x=.non))) H1
theorem RelV.sI {x:V}{v:Value}(r:RelV x v):(v == Value.none)=decide (x=.non):=by
  cases x with
  | non=>cases r; rfl
  | bl _=>cases r; rfl
  | int _=>obtain ⟨t,rfl⟩:=r; rfl
  | str _=>obtain ⟨t,rfl⟩:=r; rfl
  | byt _=>obtain ⟨t,rfl⟩:=r; rfl
  | flt _=>obtain ⟨t,rfl⟩:=r; rfl
  | ref _=>cases r; rfl
  | ty _=>cases r; rfl
theorem yl {j pos'}(ha:PE X a ta):PC X .Is a (.Constant .none j pos') (JQ ta):=by
  intro pins s σ H Q I h
  refine bH (ha pins s σ H _ I h) fun v s1 x H1 I1 r1 q1=>?_
  exact Constant_none (is_none_gen ⟨.bl _,H1,I1,by rw [r1.sI]; rfl,q1⟩)
theorem vO {j pos'}(ha:PE X a ta):PC X .IsNot a (.Constant .none j pos') (Hd ta):=by
  intro pins s σ H Q I h
  refine bH (ha pins s σ H _ I h) fun v s1 x H1 I1 r1 q1=>?_
  exact Constant_none (isnot_none_gen ⟨.bl _,H1,I1,by rw [r1.sI]; rfl,q1⟩)
noncomputable def tB (t:TE):TT:=fun σ H Q=>t σ H fun x H1=>∃ c,x=.bl c∧Q c H1
theorem ym {op:CmpOp}{t:TE}(h:PC X op a b t)(h1:behindInMarks op b=false:=by first | exact sH _ (by decide) (by decide) | rfl):PE X (.Compare a [op] [b] pos) t:=fun pins s σ H Q I hw=>wpAny_Compare1 (h pins s σ H Q I hw) h1
theorem uH {op:CmpOp}{t:TE}(h:PC X op a b t)(h1:behindInMarks op b=false:=by first | exact sH _ (by decide) (by decide) | rfl):PT X (.Compare a [op] [b] pos) (tB t):=by
  intro pins s σ H Q I hw
  refine wpAny_isTrue_Compare1 (thn (h pins s σ H _ I hw) fun v s1 h1=>thn h1 fun u s2 h2=>bH h2 fun c s3 x H1 I1 r1 q1=>?_) h1
  obtain ⟨d,rfl,q⟩:=q1
  cases r1
  exact wpAny_truthy_bool ⟨H1,I1,q⟩
theorem DU {e:Expr}{t:TE}(h:PE X e t)(he : ∀ whole,isTrue e X.env whole=(do let v ← whole; standAt e.pos; holding [v] (truthy v)):=by intro _; rfl):PT X e (tB t):=by
  intro pins s σ H Q I hw
  refine isTrue_plain (bH (h pins s σ H _ I hw) fun v s1 x H1 I1 r1 q1=>?_) (he _)
  obtain ⟨d,rfl,q⟩:=q1
  cases r1
  exact wpAny_truthy_bool ⟨H1,I1,q⟩
variable {tA tB':TT}{rest:List Expr}
noncomputable def He (t u:TT):TT:=fun σ H Q=>t σ H fun c H1=>if c=true then u σ H1 Q else Q false H1
noncomputable def tOr (t u:TT):TT:=fun σ H Q=>t σ H fun c H1=>if c=true then Q true H1 else u σ H1 Q
noncomputable def Hf (t:TT):TT:=fun σ H Q=>t σ H fun c H1=>Q (!c) H1
theorem pw_and1 (ha:PT X a tA):PW X (.BoolOp .And [a] pos) tA:=by
  intro wh pins s σ H Q I h
  refine isTrue_and (thn (ha pins s σ H Q I h) fun c s1 e=>?_)
  cases c with
  | true=>exact isTrue_and_nil e
  | false=>exact e
theorem pw_or1 (ha:PT X a tA):PW X (.BoolOp .Or [a] pos) tA:=by
  intro wh pins s σ H Q I h
  refine isTrue_or (thn (ha pins s σ H Q I h) fun c s1 e=>?_)
  cases c with
  | false=>exact isTrue_or_nil e
  | true=>exact e
theorem pw_and (ha:PT X a tA)(hb:PW X (.BoolOp .And (b::rest) pos) tB'):PW X (.BoolOp .And (a::b::rest) pos) (He tA tB'):=by
  intro wh pins s σ H Q I h
  refine isTrue_and (thn (ha pins s σ H _ I h) fun c s1 zz_=>?_)
  obtain ⟨H1,I1,q1⟩:=zz_
  cases c with
  | true=>exact hb wh pins s1 σ H1 Q I1 q1
  | false=>exact ⟨H1,I1,q1⟩
theorem pw_or (ha:PT X a tA)(hb:PW X (.BoolOp .Or (b::rest) pos) tB'):PW X (.BoolOp .Or (a::b::rest) pos) (tOr tA tB'):=by
  intro wh pins s σ H Q I h
  refine isTrue_or (thn (ha pins s σ H _ I h) fun c s1 zz_=>?_)
  obtain ⟨H1,I1,q1⟩:=zz_
  cases c with
  | true=>exact ⟨H1,I1,q1⟩
  | false=>exact hb wh pins s1 σ H1 Q I1 q1
theorem DV (ha:PT X a tA):PT X (.UnaryOp .Not a pos) (Hf tA):=by
  intro pins s σ H Q I h
  exact isTrue_not (ha pins s σ H (fun c H1=>Q (!c) H1) I h)
noncomputable def CV (ta tb:TE):TE:=fun σ H Q=>ta σ H fun x H1=>∃ c,x=.bl c∧if c=true then tb σ H1 Q else Q (.bl false) H1
noncomputable def Hg (ta tb:TE):TE:=fun σ H Q=>ta σ H fun x H1=>∃ c,x=.bl c∧if c=true then Q (.bl true) H1 else tb σ H1 Q
noncomputable def CW (ta:TE):TE:=fun σ H Q=>ta σ H fun x H1=>∃ c,x=.bl c∧Q (.bl (!c)) H1
theorem DW {op}{t:TE}(h:PE X a t):PE X (.BoolOp op [a] pos) t:=fun pins s σ H Q I hw=>BoolOp_one (h pins s σ H Q I hw)
theorem DX (ha:PE X a ta)(hb:PE X (.BoolOp .And (b::rest) pos) tb):PE X (.BoolOp .And (a::b::rest) pos) (CV ta tb):=by
  intro pins s σ H Q I h
  refine BoolOp_and (bH (ha pins s σ H _ I h) fun v s1 x H1 I1 r1 q1=>?_)
  obtain ⟨c,rfl,q1⟩:=q1
  cases r1
  refine wpAny_truthy_bool ?_
  cases c with
  | true=>exact hb pins s1 σ H1 Q I1 q1
  | false=>exact ⟨.bl false,H1,I1,rfl,q1⟩
theorem Hh (ha:PE X a ta)(hb:PE X (.BoolOp .Or (b::rest) pos) tb):PE X (.BoolOp .Or (a::b::rest) pos) (Hg ta tb):=by
  intro pins s σ H Q I h
  refine BoolOp_or (bH (ha pins s σ H _ I h) fun v s1 x H1 I1 r1 q1=>?_)
  obtain ⟨c,rfl,q1⟩:=q1
  cases r1
  refine wpAny_truthy_bool ?_
  cases c with
  | false=>exact hb pins s1 σ H1 Q I1 q1
  | true=>exact ⟨.bl true,H1,I1,rfl,q1⟩
theorem DY (ha:PE X a ta):PE X (.UnaryOp .Not a pos) (CW ta):=by
  intro pins s σ H Q I h
  refine UnaryOp_ (bH (ha pins s σ H _ I h) fun v s1 x H1 I1 r1 q1=>?_)
  obtain ⟨c,rfl,q1⟩:=q1
  cases r1
  exact not_of (wpAny_truthy_bool ⟨.bl (!c),H1,I1,rfl,q1⟩)
noncomputable def tIf (t:TT)(ta tb:TE):TE:=fun σ H Q=>t σ H fun c H1=>if c=true then ta σ H1 Q else tb σ H1 Q
theorem yn {c:Expr}(hc:PT X c tA)(ha:PE X a ta)(hb:PE X b tb):PE X (.IfExp c a b pos) (tIf tA ta tb):=by
  intro pins s σ H Q I h
  refine wpAny_IfExp (thn (hc pins s σ H _ I h) fun d s1 zz_=>?_)
  obtain ⟨H1,I1,q1⟩:=zz_
  cases d with
  | true=>exact ha pins s1 σ H1 Q I1 q1
  | false=>exact hb pins s1 σ H1 Q I1 q1
end
end L2
namespace L2
open PySem PySem.Spec PyProof.Rows
noncomputable def SqL (K:PySem.W.Frag)(H:Hp)(a:Addr)(xs:List V):Prop :=
  Rd H a (.lst xs) ∨
    ∃ (o:Obj) (its:Array Value) (n:Nat),K.lookup a=some o∧o.cls=.type "list"∧o.dict=none∧o.data=.seq its n∧its.size≤sizeLine∧Vals xs its.toList
noncomputable def SqT (K:PySem.W.Frag)(H:Hp)(a:Addr)(xs:List V):Prop :=
  Rd H a (.tup xs) ∨
    ∃ (o:Obj) (its:Array Value) (n:Nat),K.lookup a=some o∧o.cls=.type "tuple"∧o.data=.seq its n∧its.size≤sizeLine∧Vals xs its.toList
noncomputable def JR:Value→Option V
  | .none=>some .non
  | .bool b=>some (.bl b)
  | .int i _=>some (.int i)
  | .str x _=>some (.str x)
  | .bytes b _=>some (.byt b)
  | .float b _=>some (.flt b)
  | .ref a=>some (.ref a)
  | .type n=>some (.ty n)
  | _=>none
theorem RelV.abs {x:V}{u:Value}(r:RelV x u):JR u=some x:=by
  cases x with
  | non=>cases r; rfl
  | bl _=>cases r; rfl
  | int _=>obtain ⟨t,rfl⟩:=r; rfl
  | str _=>obtain ⟨t,rfl⟩:=r; rfl
  | byt _=>obtain ⟨t,rfl⟩:=r; rfl
  | flt _=>obtain ⟨t,rfl⟩:=r; rfl
  | ref _=>cases r; rfl
  | ty _=>cases r; rfl
theorem RelV.inj {x y:V}{u:Value}(r:RelV x u)(q:RelV y u):x=y:=Option.some.inj (r.abs.symm.trans q.abs)
theorem Vals.inj : ∀ {xs ys:List V} {us:List Value},Vals xs us→Vals ys us→xs=ys
  | _,_,_,.nil,.nil=>rfl
  | _,_,_,.cons r t,.cons r' t'=>by rw [r.inj r',Vals.inj t t']
section
variable {X:Cx}{pins:List (Addr × Obj)}{σ:St}{H:Hp}{s:Shared}{a:Addr}{xs ys:List V}
theorem SqL.of {K:PySem.W.Frag}(h:H a=some (.lst xs)):SqL K H a xs:=.inl (.inl h)
theorem SqT.of {K:PySem.W.Frag}(h:H a=some (.tup xs)):SqT K H a xs:=.inl (.inl h)
theorem Inv.list (I:Inv X pins σ H s)(h:SqL X.K H a xs) : ∃ its:List Value,Vals xs its∧PlainL s.heap a its.toArray∧xs.length≤sizeLine:=by
  rcases h with h | ⟨o,its,n,hk,hc,hd,hs,hz,r⟩
  · obtain ⟨z,its,n,r,e⟩:=h.ok I.hok
    exact ⟨its,r,⟨_,n,e,rfl,rfl,rfl⟩,z⟩
  · refine ⟨its.toList,r,⟨o,n,I.kIn a o hk,hc,hd,by simpa using hs⟩, ?_⟩
    have e:=r.length
    simp only [Array.length_toList] at e
    omega
theorem Inv.tuple (I:Inv X pins σ H s)(h:SqT X.K H a xs) : ∃ its:List Value,Vals xs its∧IsTup s.heap a its.toArray∧xs.length≤sizeLine:=by
  rcases h with h | ⟨o,its,n,hk,hc,hs,hz,r⟩
  · obtain ⟨z,its,r,p⟩:=h.ok I.hok
    exact ⟨its,r,p,z⟩
  · refine ⟨its.toList,r,⟨o,I.kIn a o hk,hc,n,by simpa using hs⟩, ?_⟩
    have e:=r.length
    simp only [Array.length_toList] at e
    omega
theorem Inv.nB (I:Inv X pins σ H s)(h:SqL X.K H a xs)(h':SqL X.K H a ys):xs=ys:=by
  obtain ⟨its,r,⟨o,n,e,_,_,d⟩,_⟩:=I.list h
  obtain ⟨its',r',⟨o',n',e',_,_,d'⟩,_⟩:=I.list h'
  rw [e] at e'; cases e'
  rw [d] at d'
  injection d' with d1 _
  have:its=its':=by simpa using congrArg Array.toList d1
  subst this
  exact r.inj r'
theorem Inv.qa (I:Inv X pins σ H s)(h:SqT X.K H a xs)(h':SqT X.K H a ys):xs=ys:=by
  obtain ⟨its,r,⟨o,e,_,n,d⟩,_⟩:=I.tuple h
  obtain ⟨its',r',⟨o',e',_,n',d'⟩,_⟩:=I.tuple h'
  rw [e] at e'; cases e'
  rw [d] at d'
  injection d' with d1 _
  have:its=its':=by simpa using congrArg Array.toList d1
  subst this
  exact r.inj r'
end
noncomputable abbrev Cx.jo (X:Cx)(E:Value→Shared→Prop):Cx:={ X with xe:=E }
noncomputable abbrev Cx.nox (X:Cx):Cx:=X.jo fun _ _=>False
theorem Cx.Ok.jo {X:Cx}(ok:X.Ok)(E:Value→Shared→Prop):(X.jo E).Ok :=
  ⟨ok.mod,ok.kind,ok.glob,ok.blt,ok.above,ok.inj,ok.has,ok.cab,ok.hd,ok.frames,ok.stk,ok.exf,ok.bs,ok.bsz,ok.wO,ok.wQ,ok.mP,ok.frf⟩
theorem Cx.Ok.j5 {X:Cx}{E:Value→Shared→Prop}(ok:(X.jo E).Ok):X.Ok :=
  ⟨ok.mod,ok.kind,ok.glob,ok.blt,ok.above,ok.inj,ok.has,ok.cab,ok.hd,ok.frames,ok.stk,ok.exf,ok.bs,ok.bsz,ok.wO,ok.wQ,ok.mP,ok.frf⟩
section
variable {X:Cx}{pins:List (Addr × Obj)}{σ:St}{H:Hp}{s:Shared}{E:Value→Shared→Prop}
theorem Inv.jo (I:Inv X pins σ H s)(E:Value→Shared→Prop):Inv (X.jo E) pins σ H s:=⟨I.ok.jo E,I.os,I.bare,I.base,I.loc,I.cell,I.free,I.iC,I.pin,I.hok,I.len⟩
theorem Inv.j5 (I:Inv (X.jo E) pins σ H s):Inv X pins σ H s:=⟨I.ok.j5,I.os,I.bare,I.base,I.loc,I.cell,I.free,I.iC,I.pin,I.hok,I.len⟩
theorem SP.j5 {D:Ends}{f:Flow}{s':Shared}(h:SP (X.jo E) pins D f s'):SP X pins D f s':=by
  cases f with
  | next=>obtain ⟨σ',H',I,q⟩:=h; exact ⟨σ',H',I.j5,q⟩
  | brk=>obtain ⟨σ',H',I,q⟩:=h; exact ⟨σ',H',I.j5,q⟩
  | cont=>obtain ⟨σ',H',I,q⟩:=h; exact ⟨σ',H',I.j5,q⟩
  | ret u=>obtain ⟨v, σ',H',I,r,q⟩:=h; exact ⟨v, σ',H',I.j5,r,q⟩
theorem PSs.nox {st:List Stmt}{t:TS}(h:PSs X.nox st t):PSs X st t:=fun pins s σ H D I hw =>
  wpAny_mono (h pins s σ H D (I.jo _) hw) (fun _ _ q=>q.j5) fun _ _ z=>False.elim z
end
section
variable {X:Cx}{st:Stmt}{rest:List Stmt}{t u:TS}{e:Expr}{te:TE}{pos:Pos}
noncomputable def CY:TS:=fun D σ H=>D.nx σ H
noncomputable def Hi (t u:TS):TS:=fun D σ H=>t { D with nx:=u D } σ H
theorem AU:PSs X [] CY:=fun _ _ σ H _ I h=>wpAny_execs_nil ⟨σ,H,I,h⟩
theorem yo (h1:PS X st t)(h2:PSs X rest u):PSs X (st::rest) (Hi t u):=by
  intro pins s σ H D I h
  refine wpAny_execs_cons (thn (h1 pins s σ H { D with nx:=u D } I h) fun f s1 q=>?_)
  cases f with
  | next =>
    obtain ⟨σ',H',I',q⟩:=q
    exact h2 pins s1 σ' H' D I' q
  | ret v=>exact q
  | brk=>exact q
  | cont=>exact q
theorem vP (h1:PS X st t):PSs X [st] t:=by
  intro pins s σ H D I h
  refine wpAny_execs_cons (thn (h1 pins s σ H D I h) fun f s1 q=>?_)
  cases f with
  | next=>exact wpAny_execs_nil q
  | ret v=>exact q
  | brk=>exact q
  | cont=>exact q
theorem Inv.quiet {pins:List (Addr × Obj)}{σ:St}{H:Hp}{s:Shared}(I:Inv X pins σ H s):interactive X.env=false:=by simp [interactive,I.ok.kind]
noncomputable def Hj (te:TE):TS:=fun D σ H=>te σ H fun _ H1=>D.nx σ H1
theorem vQ (he:PE X e te)(hs:swapsWith e none pos.line X.env=pure false:=by rfl):PS X (.Expr e pos) (Hj te):=by
  intro pins s σ H D I h
  exact wpAny_Expr_any (bH (he pins s σ H _ I h) fun v s1 x H1 I1 r1 q1=>⟨σ,H1,I1,q1⟩) I.quiet hs
noncomputable def AV (te:TE):TS:=fun D σ H=>te σ H D.rt
theorem uI (he:PE X e te):PS X (.Return (some e) pos) (AV te):=by
  intro pins s σ H D I h
  exact wpAny_Return_some (bH (he pins s σ H _ I h) fun v s1 x H1 I1 r1 q1=>⟨x, σ,H1,I1,r1,q1⟩)
noncomputable def Hk (c:TT)(t u:TS):TS:=fun D σ H=>c σ H fun b H1=>if b=true then t D σ H1 else u D σ H1
theorem Hl {c:Expr}{a b:List Stmt}{tc:TT}(hc:PT X c tc)(ha:PSs X a t)(hb:PSs X b u):PS X (.If c a b pos) (Hk tc t u):=by
  intro pins s σ H D I h
  refine wpAny_If (thn (hc pins s σ H _ I h) fun d s1 zz_=>?_)
  obtain ⟨H1,I1,q1⟩:=zz_
  cases d with
  | true=>exact ha pins s1 σ H1 D I1 q1
  | false=>exact hb pins s1 σ H1 D I1 q1
end
noncomputable abbrev TG:=V→St→Hp→(St→Hp→Prop)→Prop
noncomputable abbrev TGs:=List V→St→Hp→(St→Hp→Prop)→Prop
noncomputable def PG (X:Cx)(target:Expr)(t:TG):Prop :=
  ∀ (pins:List (Addr × Obj)) (s:Shared) (σ:St) (H:Hp) (v:V) (u:Value) (Q:St→Hp→Prop),Inv X pins σ H s→RelV v u→t v σ H Q →
    wpAny (model X.prog X.w) X.A (assign target X.env u) (fun _ s'=>∃ σ' H',Inv X pins σ' H' s'∧Q σ' H') X.xe s
noncomputable def PGs (X:Cx)(ts:List Expr)(t:TGs):Prop :=
  ∀ (pins:List (Addr × Obj)) (s:Shared) (σ:St) (H:Hp) (vs:List V) (us:List Value) (Q:St→Hp→Prop),Inv X pins σ H s→Vals vs us→t vs σ H Q →
    wpAny (model X.prog X.w) X.A (assignInOrder ((assignEach ts X.env).map (·.2)) us) (fun _ s'=>∃ σ' H',Inv X pins σ' H' s'∧Q σ' H') X.xe s
noncomputable abbrev DZ:=V→V→V→Hp→(Hp→Prop)→Prop
noncomputable def Hm (X:Cx)(t:DZ):Prop :=
  ∀ (pins:List (Addr × Obj)) (s:Shared) (σ:St) (H:Hp) (o i v:V) (ov iv u:Value) (Q:Hp→Prop),Inv X pins σ H s→RelV o ov→RelV i iv→RelV v u→t o i v H Q →
    wpAny (model X.prog X.w) X.A (setItem ov iv u) (fun _ s'=>∃ H',Inv X pins σ H' s'∧Q H') X.xe s
noncomputable abbrev TIp:=V→V→Hp→VK→Prop
noncomputable def PIp (X:Cx)(op:Operator)(t:TIp):Prop :=
  ∀ (pins:List (Addr × Obj)) (s:Shared) (σ:St) (H:Hp) (x y:V) (v u:Value) (Q:VK),Inv X pins σ H s→RelV x v→RelV y u→t x y H Q →
    wpAny (model X.prog X.w) X.A (inplaceOp op v u) (EP X pins σ Q) X.xe s
section
variable {X:Cx}{pos:Pos}
noncomputable def jv (i:Nat):TG:=fun v σ H Q=>Q (σ.set i (some v)) H
theorem AW {i:Nat}{x:Str}(hN:X.N.Nodup)(hi:X.N[i]?=some x)(hx:Loc X.env.scope x)(hf:X.fn x=true∨X.env.scope.names.lookup x=some .local:=by first | exact .inl rfl | exact .inr rfl | assumption):PG X (.Name x pos) (jv i):=by
  intro pins s σ H v u Q I r h
  exact wpAny_assign_Name (lg I hN hi hx r (fun s' I'=>⟨_,H,I',h⟩) hf)
noncomputable def Hn:TGs:=fun vs σ H Q=>vs=[]∧Q σ H
noncomputable def CZ (t:TG)(u:TGs):TGs:=fun vs σ H Q=>∃ v r,vs=v::r∧t v σ H fun σ' H'=>u r σ' H' Q
theorem vR:PGs X [] Hn:=by
  intro pins s σ H vs us Q I r h
  obtain ⟨e,h⟩:=h
  subst e
  cases r
  exact assignInOrder_nil ⟨σ,H,I,h⟩
theorem lh {e:Expr}{es:List Expr}{t:TG}{u:TGs}(h1:PG X e t)(h2:PGs X es u)
    (hs:(assignEach (e::es) X.env).map (·.2)=assign e X.env::(assignEach es X.env).map (·.2):=by rfl):PGs X (e::es) (CZ t u):=by
  intro pins s σ H vs us Q I r h
  obtain ⟨v,vr,e1,h⟩:=h
  subst e1
  cases r with
  | cons r rr =>
    rw [hs]
    refine assignInOrder_cons (thn (h1 pins s σ H _ _ _ I r h) fun _ s1 zz_=>?_)
    obtain ⟨σ1,H1,I1,q1⟩:=zz_
    exact h2 pins s1 σ1 H1 _ _ Q I1 rr q1
noncomputable def Ho (K:PySem.W.Frag)(n:Nat)(t:TGs):TG:=fun v σ H Q=>∃ a xs,v=.ref a∧SqT K H a xs∧xs.length=n∧t xs σ H Q
theorem yp {es:List Expr}{k:Nat}{t:TGs}{n:Nat}(hc:X.calm=true)(h:PGs X es t)
    (hn:(assignEach es X.env).length=n:=by rfl) (hst:(assignEach es X.env).findIdx? (·.1)=none:=by rfl):PG X (.Tuple es k pos) (Ho X.K n t):=by
  intro pins s σ H v u Q I r hw
  obtain ⟨a,xs,e1,hq,hl,hw⟩:=hw
  subst e1
  cases r
  obtain ⟨its,rv,ht,hz⟩:=I.tuple hq
  refine assign_Tuple_tuple (I.ok.hd hc) ht (by simp [hn, ← hl,rv.length]) hst fun h' hx=>?_
  have I1:Inv X pins σ H { s with heap:=h' }:=I.kept (t':=s.toks) fun b o e=>hx b o (Nat.ne_of_lt (Heap.lt_size e)) e
  exact h pins _ σ H xs _ Q I1 (by simpa using rv) hw
noncomputable def Hq (to ti:TE)(t:DZ):TG:=fun v σ H Q=>to σ H fun o H1=>ti σ H1 fun i H2=>t o i v H2 fun H3=>Q σ H3
theorem E4 {o i:Expr}{to ti:TE}{t:DZ}(ho:PE X o to)(hi:PE X i ti)(hs:Hm X t)
    (ha : ∀ v,assign (.Subscript o i pos) X.env v=(do
      let ov ← holding [v] (eval o X.env)
      let iv ← holding [v,ov] (eval i X.env)
      standAt pos
      holding [v,ov,iv] (setItem ov iv v)
      release [v,ov,iv] []):=by intro _; rfl):PG X (.Subscript o i pos) (Hq to ti t):=by
  intro pins s σ H v u Q I r h
  rw [ha]
  refine wpAny_bind (wpAny_holding (bH (ho pins s σ H _ I h) fun ov s1 x H1 I1 r1 q1=>?_))
  refine wpAny_bind (wpAny_holding (bH (hi pins s1 σ H1 _ I1 q1) fun iv s2 y H2 I2 r2 q2=>?_))
  refine wpAny_bind (wpAny_standAt (wpAny_bind (wpAny_holding (thn (hs pins s2 σ H2 x y v ov iv u _ I2 r1 r2 r q2) fun _ s3 zz_=>?_))))
  obtain ⟨H3,I3,q3⟩:=zz_
  exact wpAny_release ⟨σ,H3,I3,q3⟩
noncomputable def qZ (te:TE)(g:TG):TS:=fun D σ H=>te σ H fun x H1=>g x σ H1 D.nx
theorem yq {tg e:Expr}{te:TE}{g:TG}(he:PE X e te)(hg:PG X tg g)(hs:swapsWithSole [tg] e pos.line X.env=pure false:=by rfl)(hw:swappedStores [tg] e X.env=pure none:=by rfl)
    (h1:(assignEach [tg] X.env).map (·.2)=[assign tg X.env]:=by rfl):PS X (.Assign [tg] e pos) (qZ te g):=by
  intro pins s σ H D I h
  refine wpAny_Assign_stores (bH (he pins s σ H _ I h) fun v s1 x H1 I1 r1 q1=>?_) hs hw
  rw [h1]
  exact thn (hg pins s1 σ H1 x v _ I1 r1 q1) fun _ s2 q=>q
theorem uJ {i:Nat}{x:Str}{e:Expr}{te:TE}{pos':Pos}(hN:X.N.Nodup)(hi:X.N[i]?=some x)(hx:Loc X.env.scope x)(he:PE X e te)(hs:swapsWith e (some (.Name x pos')) pos.line X.env=pure false:=by rfl)(hf:X.fn x=true∨X.env.scope.names.lookup x=some .local:=by first | exact .inl rfl | exact .inr rfl | assumption) :
    PS X (.Assign [.Name x pos'] e pos) (qZ te (jv i)):=by
  intro pins s σ H D I h
  refine wpAny_Assign_Name (bH (he pins s σ H _ I h) fun v s1 y H1 I1 r1 q1=>?_) hs
  exact lg I1 hN hi hx r1 (fun s2 I2=>⟨_,H1,I2,q1⟩) hf
noncomputable def JS (i:Nat)(te:TE)(ti:TIp):TS:=fun D σ H=>∃ x, σ[i]?=some (some x)∧te σ H fun y H1=>ti x y H1 fun z H2=>D.nx (σ.set i (some z)) H2
theorem E5 {i:Nat}{x:Str}{e:Expr}{te:TE}{op:Operator}{ti:TIp}{pos':Pos}(hN:X.N.Nodup)(hi:X.N[i]?=some x)(hx:Loc X.env.scope x)(he:PE X e te)(ho:PIp X op ti)(hf:X.fn x=true∨X.env.scope.names.lookup x=some .local:=by first | exact .inl rfl | exact .inr rfl | assumption) :
    PS X (.AugAssign (.Name x pos') op e pos) (JS i te ti):=by
  intro pins s σ H D I h
  obtain ⟨v,e1,h⟩:=h
  obtain ⟨m,hn,hl⟩:=I.loc
  have vis:Vis X.env.scope x:=by rcases hx with k | k; exact .inl k; exact .inr (.inl k)
  obtain ⟨u,r,l⟩:=hl i x v hi e1 vis
  refine wpAny_AugAssign_Name ?_
  have go:wpAny (model X.prog X.w) X.A (eval e X.env) (fun w s₂=>wpAny (model X.prog X.w) X.A (inplaceOp op u w) (fun r s₃=>wpAny (model X.prog X.w) X.A (storeName X.env x r) (fun _=>SP X pins D .next) X.xe s₃) X.xe s₂) X.xe s:=by
    refine bH (he pins s σ H _ I h) fun w s1 y H1 I1 r1 q1=>?_
    refine bH (ho pins s1 σ H1 v y u w _ I1 r r1 q1) fun z s2 zv H2 I2 r2 q2=>?_
    exact lg I2 hN hi hx r2 (fun s3 I3=>⟨_,H2,I3,q2⟩) hf
  rcases l with ⟨hk,hm⟩ | ⟨hk,c,hc,hcell⟩
  · exact wpAny_loadName_local I.ok.kind hk hn hm go
  · rcases hk with hk | hk
    · exact wpAny_loadName_cell I.ok.kind hk hc hcell go
    · rcases hx with k | k
      · have:X.env.scope.names.lookup x=some .free:=hk
        rw [k] at this; cases this
      · have:X.env.scope.names.lookup x=some .free:=hk
        rw [k] at this; cases this
noncomputable def ipI (f:Int→Int→Int):TIp:=fun x y H Q=>∃ i j,x=.int i∧y=.int j∧Q (.int (f i j)) H
theorem E7:PIp X .Add (ipI fun i j=>i+j):=by
  intro pins s σ H x y v u Q I r1 r2 h
  obtain ⟨i,j,e1,e2,q⟩:=h
  subst e1; subst e2
  obtain ⟨t,rfl⟩:=r1
  obtain ⟨t',rfl⟩:=r2
  exact iadd_int ⟨.int _,H,I.tok _,⟨_,rfl⟩,q⟩
end
section
variable {X:Cx}{pos:Pos}
end
structure It where
  go:Nat→Hp→Prop
  yld:Nat→Hp→V→Hp→Prop
  stop:Nat→Hp→Prop
noncomputable def mQ (X:Cx)(pins:List (Addr × Obj))(H:Hp)(b:Addr):Prop :=
  H b=none∧b≠X.env.locals∧b ∉ X.fs∧(b∈X.ex∨X.s₀.heap.objs.size≤b)∧(∀ x c,X.env.cells.lookup x=some c→c≠b)∧∀ p∈X.pn++pins,p.1≠b
theorem Inv.sJ {X:Cx}{pins:List (Addr × Obj)}{σ:St}{H H':Hp}{s:Shared}{b:Addr}(I:Inv X pins σ H s)(hb:s.heap.objs.size≤b)(hn:H' b=none):mQ X pins H' b:=by
  refine ⟨hn,Nat.ne_of_gt (Nat.lt_of_lt_of_le I.lt hb),I.Hb hb,.inr (Nat.le_trans I.sz hb),fun x c e z=>?_,fun p hp z=>?_⟩
  · obtain ⟨v,q⟩:=I.cell x c e
    exact absurd (Nat.lt_of_lt_of_le q.lt (by rw [z]; exact hb)) (Nat.lt_irrefl _)
  · exact absurd (Nat.lt_of_lt_of_le (Heap.lt_size (I.pin p hp).1) (by rw [z]; exact hb)) (Nat.lt_irrefl _)
structure Turn (P:Program)(w:World)(K:PySem.W.Frag)(tg:Expr)(J:It)(fp:List Addr)(it:Addr)(tn:Nat→Heap→Prop):Prop where
  mem:it∈fp
  obj : ∀ i h,tn i h→∀ b∈fp, ∃ o,h.get? b=some o∧∀ v,o.data≠.cell v
  keep : ∀ i h h',tn i h→(∀ b∈fp, ∀ o,h.get? b=some o→h'.get? b=some o)→tn i h'
  item : ∀ (X:Cx),X.prog=P→X.w=w→X.K=K→X.calm=true→∀ (i:Nat) (pins:List (Addr × Obj)) (s:Shared) (σ:St) (H:Hp) (E:Value→Shared→Prop),Inv X pins σ H s→(∀ b∈fp,mQ X pins H b)→tn i s.heap→J.go i H →
    wpAny (model P w) X.A (pyNext (.ref it)) (fun r s1=>∃ u,r=some u ∧
      wpAny (model P w) X.A (letOwnedTupleGo tg (.ref it) u) (fun _ s2=>∃ x H',Inv X pins σ H' s2∧RelV x u∧J.yld i H x H'∧tn (i+1) s2.heap∧∀ b∈fp,H' b=none) E s1) E s
  done : ∀ (X:Cx),X.prog=P→X.w=w→X.K=K→X.calm=true→∀ (i:Nat) (pins:List (Addr × Obj)) (s:Shared) (σ:St) (H:Hp) (E:Value→Shared→Prop),Inv X pins σ H s→(∀ b∈fp,mQ X pins H b)→tn i s.heap→J.stop i H →
    wpAny (model P w) X.A (pyNext (.ref it)) (fun r s1=>r=none∧Inv X pins σ H s1) E s
  self : ∀ (A:Around) (i:Nat) (s:Shared) (Q:Value→Shared→Prop) (E:Value→Shared→Prop),tn i s.heap→Q (.ref it) s→wpAny (model P w) A (pyIter (.ref it)) Q E s
noncomputable abbrev TI:=St→Hp→(It→Hp→Prop)→Prop
noncomputable def PIE (X:Cx)(pins:List (Addr × Obj))(σ:St)(tg:Expr)(R:It→Hp→Prop)(itv:Value)(s2:Shared):Prop :=
  ∃ (it:Addr) (fp:List Addr) (tn:Nat→Heap→Prop) (J:It) (H':Hp),itv=.ref it∧Inv X pins σ H' s2∧Turn X.prog X.w X.K tg J fp it tn∧tn 0 s2.heap∧(∀ b∈fp,mQ X pins H' b)∧R J H'
noncomputable def PI (X:Cx)(tg iter:Expr)(wi:TI):Prop :=
  ∀ (pins:List (Addr × Obj)) (s:Shared) (σ:St) (H:Hp) (R:It→Hp→Prop),Inv X pins σ H s→wi σ H R →
    wpAny (model X.prog X.w) X.A (eval iter X.env) (fun v s1=>wpAny (model X.prog X.w) X.A (pyIter v) (PIE X pins σ tg R) X.xe s1) X.xe s
theorem qb {M:Model}{A:Around}{E:Value→Shared→Prop}{s:Shared}{tg:Expr}{it:Addr}{u:Value}{o:Obj}{n:String}{vs:Array Value}{Q:Unit→Shared→Prop}(ho:s.heap.get? it=some o)(hc:o.cls=.type n)(hd:o.data=.fields vs)
    (hn : ["enumerate", "zip", "dict_itemiterator", "dict_reverseitemiterator", "odict_iterator", "itertools.zip_longest", "itertools.pairwise"].contains n=false) (hQ:Q () s):wpAny M A (letOwnedTupleGo tg (.ref it) u) Q E s:=by
  unfold letOwnedTupleGo
  cases tg <;> first
    | exact wpAny_pure hQ
    | (cases u <;> first
        | exact wpAny_pure hQ
        | (refine wpAny_bind (wpAny_load ho ?_)
           rw [hc,hd]
           show wpAny M A (if (["enumerate", "zip", "dict_itemiterator", "dict_reverseitemiterator", "odict_iterator", "itertools.zip_longest", "itertools.pairwise"].contains n && vs[0]? == some (rawInt _))=true then _ else _) Q E s
           rw [if_neg (by intro h; rw [hn,Bool.false_and] at h; cases h)]
           exact wpAny_pure hQ))
noncomputable def Itl (K:PySem.W.Frag)(a:Addr):It :=
  ⟨fun i H=>∃ xs x,SqL K H a xs∧xs[i]?=some x,fun i H x H'=>H'=H∧∀ xs,SqL K H a xs→xs[i]?=some x,fun i H=>∃ xs,SqL K H a xs∧xs.length≤i⟩
noncomputable def Itt (K:PySem.W.Frag)(a:Addr):It :=
  ⟨fun i H=>∃ xs x,SqT K H a xs∧xs[i]?=some x,fun i H x H'=>H'=H∧∀ xs,SqT K H a xs→xs[i]?=some x,fun i H=>∃ xs,SqT K H a xs∧xs.length≤i⟩
noncomputable def Itr (lo:Int)(n:Nat):It:=⟨fun i _=>i<n,fun i H x H'=>H'=H∧x=.int (lo+i),fun i _=>n≤i⟩
theorem wU {P:Program}{w:World}{K:PySem.W.Frag}{tg:Expr}(a it:Addr):Turn P w K tg (Itl K a) [it] it (fun i h=>h.IsListIter it a i) where
  mem:=by simp
  obj:=fun i h st b hb=>by
    have e:b=it:=by simpa using hb
    subst e
    obtain ⟨o,e,c,d⟩:=st
    exact ⟨o,e,fun v z=>by rw [d] at z; cases z⟩
  keep:=fun i h h' st k=>st.at fun o e=>k it (by simp) o e
  item:=by
    intro X hP hw hK hc i pins s σ H E I hf st hg
    subst hP hw hK
    obtain ⟨xs,x,hq,hx⟩:=hg
    obtain ⟨its,rv,p,hz⟩:=I.list hq
    obtain ⟨u,hu,ru⟩:=rv.get hx
    obtain ⟨f0,f1,f2,f3,f4,f5⟩:=hf it (by simp)
    refine wpAny_pyNext_list_item st p.isList (x:=u) (by simpa using hu) fun h' st' sb=>?_
    have I1:Inv X pins σ H { s with heap:=h' }:=I.turned (t':=s.toks) (fun b o hb e=>(sb.2 b hb).trans e) f0 f1 f3 f4 f5
    obtain ⟨o,e,c,d⟩:=id st'
    exact ⟨u,rfl,qb (s:={ s with heap:=h' }) e c d (by decide) ⟨x,H,I1,ru,⟨rfl,fun ys hy=>by rw [I.nB hy hq]; exact hx⟩,st',fun b hb=>(hf b hb).1⟩⟩
  done:=by
    intro X hP hw hK hc i pins s σ H E I hf st hg
    subst hP hw hK
    obtain ⟨xs,hq,hx⟩:=hg
    obtain ⟨its,rv,p,hz⟩:=I.list hq
    obtain ⟨f0,f1,f2,f3,f4,f5⟩:=hf it (by simp)
    have hl:=rv.length
    exact wpAny_pyNext_list_end (I.ok.hd hc) st p.isList (by simp; omega) fun h' eb=>⟨rfl,I.turned (t':=s.toks) (fun b o hb e=>eb b o hb e) f0 f1 f3 f4 f5⟩
  self:=fun _ _ _ _ _ st h=>wpAny_pyIter_listiter st h
theorem uK {P:Program}{w:World}{K:PySem.W.Frag}{tg:Expr}(a it:Addr):Turn P w K tg (Itt K a) [it] it (fun i h=>h.IsTupleIter it a i) where
  mem:=by simp
  obj:=fun i h st b hb=>by
    have e:b=it:=by simpa using hb
    subst e
    obtain ⟨o,e,c,d⟩:=st
    exact ⟨o,e,fun v z=>by rw [d] at z; cases z⟩
  keep:=fun i h h' st k=>st.at fun o e=>k it (by simp) o e
  item:=by
    intro X hP hw hK hc i pins s σ H E I hf st hg
    subst hP hw hK
    obtain ⟨xs,x,hq,hx⟩:=hg
    obtain ⟨its,rv,p,hz⟩:=I.tuple hq
    obtain ⟨u,hu,ru⟩:=rv.get hx
    obtain ⟨f0,f1,f2,f3,f4,f5⟩:=hf it (by simp)
    refine wpAny_pyNext_tuple_item st (show s.heap.IsTuple a its.toArray from p) (x:=u) (by simpa using hu) fun h' st' sb=>?_
    have I1:Inv X pins σ H { s with heap:=h' }:=I.turned (t':=s.toks) (fun b o hb e=>(sb.2 b hb).trans e) f0 f1 f3 f4 f5
    obtain ⟨o,e,c,d⟩:=id st'
    exact ⟨u,rfl,qb (s:={ s with heap:=h' }) e c d (by decide) ⟨x,H,I1,ru,⟨rfl,fun ys hy=>by rw [I.qa hy hq]; exact hx⟩,st',fun b hb=>(hf b hb).1⟩⟩
  done:=by
    intro X hP hw hK hc i pins s σ H E I hf st hg
    subst hP hw hK
    obtain ⟨xs,hq,hx⟩:=hg
    obtain ⟨its,rv,p,hz⟩:=I.tuple hq
    obtain ⟨f0,f1,f2,f3,f4,f5⟩:=hf it (by simp)
    have hl:=rv.length
    exact wpAny_pyNext_tuple_end (I.ok.hd hc) st (show s.heap.IsTuple a its.toArray from p) (by simp; omega) fun h' eb=>⟨rfl,I.turned (t':=s.toks) (fun b o hb e=>eb b o hb e) f0 f1 f3 f4 f5⟩
  self:=fun _ _ _ _ _ st h=>wpAny_pyIter_tupleiter st h
theorem uL {P:Program}{w:World}{K:PySem.W.Frag}{tg:Expr}(it:Addr)(lo:Int)(n:Nat):Turn P w K tg (Itr lo n) [it] it (fun i h=>IsRangeIter h it (lo+(i:Nat) * 1) ((n:Int) - (i:Nat)) 1) where
  mem:=by simp
  obj:=fun i h st b hb=>by
    have e:b=it:=by simpa using hb
    subst e
    exact ⟨_,st,fun v z=>by
      have z':Data.fields _=Data.cell v:=z
      cases z'⟩
  keep:=fun i h h' st k=>k it (by simp) _ st
  item:=by
    intro X hP hw hK hc i pins s σ H E I hf st hg
    subst hP hw hK
    obtain ⟨f0,f1,f2,f3,f4,f5⟩:=hf it (by simp)
    have W:=Walks.range (prog:=X.prog) (w:=X.w) (I.ok.hd hc) it lo 1 n
    refine W.item i s _ _ hg st fun v h' tk hv st' kk=>?_
    obtain ⟨t,rfl⟩:=hv
    have I1:Inv X pins σ H { s with heap:=h',toks:=tk }:=I.turned (fun b o hb e=>kk b o (by simpa using hb) e) f0 f1 f3 f4 f5
    refine ⟨_,rfl,qb (s:={ s with heap:=h',toks:=tk }) (n:="range_iterator") st' rfl rfl (by decide) ⟨.int (lo+i),H,I1,⟨t, ?_⟩,⟨rfl,rfl⟩,st',fun b hb=>(hf b hb).1⟩⟩
    rw [Int.mul_one]
  done:=by
    intro X hP hw hK hc i pins s σ H E I hf st hg
    subst hP hw hK
    obtain ⟨f0,f1,f2,f3,f4,f5⟩:=hf it (by simp)
    exact wpAny_pyNext_range_end (I.ok.hd hc) st (by have:n≤i:=hg; omega) fun h' eb=>⟨rfl,I.turned (t':=s.toks) (fun b o hb e=>eb b o hb e) f0 f1 f3 f4 f5⟩
  self:=fun _ _ _ _ _ st h=>wpAny_pyIter_rangeiter st h
end L2
namespace L2
open PySem PySem.Spec PyProof.Rows
section
variable {X:Cx}{tg:Expr}
theorem yr {pins:List (Addr × Obj)}{σ:St}{H:Hp}{s:Shared}{R:It→Hp→Prop}{E:Value→Shared→Prop}{lo hi:Int}{t u v:Tok}{tk:Nat}(I:Inv X pins σ H s)(h1 : -(2 ^ 62)≤lo)(h2:lo<2 ^ 62)(h3 : -(2 ^ 62)≤hi)(h4:hi<2 ^ 62)
    (q:R (Itr lo (hi - lo).toNat) H):wpAny (model X.prog X.w) X.A (pyIter (.ref s.heap.objs.size)) (PIE X pins σ tg R) E { s with heap:=s.heap.push { cls:=.type "range",data:=.fields #[.int lo t,.int hi u,.int 1 v] },toks:=tk }:=by
  refine wpAny_pyIter_range (IsRange.new ..) (small_one h1 h2 h3 h4) ?_
  have I1:Inv X pins σ H { s with heap:=s.heap.push { cls:=.type "range",data:=.fields #[.int lo t,.int hi u,.int 1 v] },toks:=tk }:=I.kept fun b o e=>Heap.get?_push_of_some _ e
  refine ⟨(s.heap.push { cls:=.type "range",data:=.fields #[.int lo t,.int hi u,.int 1 v] }).objs.size,[(s.heap.push { cls:=.type "range",data:=.fields #[.int lo t,.int hi u,.int 1 v] }).objs.size],_,_,H,rfl,
    I1.kept (t':=tk) fun b o e=>Heap.get?_push_of_some _ e,uL _ lo (hi - lo).toNat, ?_,fun b hb=>?_,q⟩
  · have e1:lo+((0:Nat):Int) * 1=lo:=by simp
    have e2:(((hi - lo).toNat:Nat):Int) - ((0:Nat):Int)=Builtin.Range.rangeSize lo hi 1:=by rw [rangeSize_one]; split <;> omega
    show IsRangeIter _ _ (lo+((0:Nat):Int) * 1) ((((hi - lo).toNat:Nat):Int) - ((0:Nat):Int)) 1
    rw [e1,e2]
    exact Heap.get?_push_size _ rfl
  · have e:b=(s.heap.push { cls:=.type "range",data:=.fields #[.int lo t,.int hi u,.int 1 v] }).objs.size:=by simpa using hb
    subst e
    exact I1.sJ (Nat.le_refl _) (I1.hok.fresh (Nat.le_refl _))
noncomputable def yt (ta:TA):TI:=fun σ H R=>ta σ H fun vs H1=>∃ j:Int,vs=[.int j]∧-(2 ^ 62)≤j∧j<2 ^ 62∧R (Itr 0 j.toNat) H1
theorem qc {a:Expr}{ta:TA}{p pos:Pos}(hg:Gl X "range")(hm:X.mg "range"=none)(ha:PA X [a] ta)(hs:starEach [a] X.env=[(false,eval a X.env)]:=by rfl):PI X tg (.Call (.Name "range" p) [a] [] pos) (yt ta):=by
  intro pins s σ H R I h
  refine Call_ (iI I hg hm boot_range (PyProof.Rows.callWith_type1 (bH (ha pos pins s σ H _ I h) fun us s1 vs H1 I1 r1 q1=>?_) hs rfl))
  obtain ⟨j,e,q1,q2,q⟩:=q1
  subst e
  cases r1 with
  | cons r rr =>
    cases rr
    obtain ⟨t,rfl⟩:=r
    exact call_range_1 (yr I1 (by omega) (by omega) q1 q2 (by simpa using q))
noncomputable def AX (wi:TI)(g:TG)(tb:TS):TS:=fun D σ H=>wi σ H fun J H1=>∃ W:Nat→Nat→St→Hp→Prop,(∃ m,W 0 m σ H1)∧∀ i m σ H,W i m σ H →
  (J.stop i H∧D.nx σ H)∨(J.go i H∧∃ N:St→Hp→Prop,(∀ σ' H',N σ' H'→∃ m',m'<m∧W (i+1) m' σ' H')∧∀ x H',J.yld i H x H'→g x σ H' fun σ2 H2=>tb { D with nx:=N,ct:=N,bk:=D.nx } σ2 H2)
noncomputable def nD (fp:List Addr)(h:Heap):List (Addr × Obj):=fp.filterMap fun b=>(h.get? b).map fun o=>(b,o)
theorem j6 {fp:List Addr}{h:Heap}{b:Addr}{o:Obj}(hb:b∈fp)(e:h.get? b=some o):(b,o)∈nD fp h:=List.mem_filterMap.mpr ⟨b,hb,by rw [e]; rfl⟩
theorem wV {fp:List Addr}{h:Heap}{p:Addr × Obj}(hp:p∈nD fp h):p.1∈fp∧h.get? p.1=some p.2:=by
  obtain ⟨b,hb,e⟩:=List.mem_filterMap.mp hp
  cases q:h.get? b with
  | none=>rw [q] at e; cases e
  | some o =>
    rw [q] at e
    have e':(b,o)=p:=Option.some.inj e
    subst e'
    exact ⟨hb,q⟩
theorem Inv.pinned {pins:List (Addr × Obj)}{σ:St}{H:Hp}{s:Shared}{fp:List Addr}(I:Inv X pins σ H s)(hf : ∀ b∈fp,mQ X pins H b)(ho : ∀ b∈fp, ∃ o,s.heap.get? b=some o∧∀ v,o.data≠.cell v):Inv X (pins++nD fp s.heap) σ H s :=
  I.mW fun p hp=>(List.mem_append.mp hp).elim (fun z=>I.pin p (List.mem_append_right _ z)) fun z=>by
    obtain ⟨hb,e⟩:=wV z
    obtain ⟨f0,f1,f2,_⟩:=hf p.1 hb
    obtain ⟨o,e',d⟩:=ho p.1 hb
    rw [e] at e'; cases e'
    exact ⟨e,f0,f1,f2,d⟩
theorem Inv.lj {pins pl:List (Addr × Obj)}{σ:St}{H:Hp}{s:Shared}(I:Inv X (pins++pl) σ H s):Inv X pins σ H s:=I.mW fun p hp=>I.pin p (List.mem_append_right _ (List.mem_append_left _ hp))
theorem uM {iter:Expr}{body:List Stmt}{wi:TI}{g:TG}{tb:TS}{pos:Pos}(hp:PassesOwn (model X.prog X.w) X.A X.env X.xe)(hc:X.calm=true)(hi:PI X tg iter wi)(hg:PG X tg g)(hb:PSs X body tb)
    (hs : ∀ x,foldedSetIterable iter X.env x=pure x:=by intro _; rfl):PS X (.For tg iter body [] pos) (AX wi g tb):=by
  intro pins s σ H D I h
  refine wpAny_For (thn (hi pins s σ H _ I h) fun v s1 h1=>thn h1 fun itv s2 h2=>?_) hs
  obtain ⟨it,fp,tn,J,H2,e,I2,T,st2,f2,W,⟨m0,w0⟩,turn⟩:=h2
  subst e
  have stat : ∀ {H':Hp},(∀ b∈fp,H' b=none)→∀ b∈fp,mQ X pins H' b:=fun hn b hb=>⟨hn b hb,(f2 b hb).2⟩
  refine codeAny_forLoop_any (fun n s'=>∃ i σ' H',Inv X pins σ' H' s'∧tn i s'.heap∧(∀ b∈fp,H' b=none)∧W i n σ' H') ?_ m0 ⟨0, σ,H2,I2,st2,fun b hb=>(f2 b hb).1,w0⟩
  rintro n s3 ⟨i, σ3,H3,I3,st3,fr3,w3⟩
  rcases turn i n σ3 H3 w3 with ⟨stop,qn⟩ | ⟨go,N,hN,step⟩
  · refine wpAny_passesOwn hp (thn (T.done X rfl rfl rfl hc i pins s3 σ3 H3 X.xe I3 (stat fr3) st3 stop) fun r s4 zz_=>?_)
    obtain ⟨hr,I4⟩:=zz_
    subst hr
    exact wpAny_execs_nil ⟨σ3,H3,I4,qn⟩
  · refine wpAny_passesOwn hp (thn (T.item X rfl rfl rfl hc i pins s3 σ3 H3 X.xe I3 (stat fr3) st3 go) fun r s4 zz_=>?_)
    obtain ⟨u,hr,h4⟩:=zz_
    subst hr
    refine wpAny_passesOwn hp (bH h4 fun _ s5 x H5 I5 r5 zz_=>?_)
    obtain ⟨y5,st5,fr5⟩:=zz_
    have I5':=I5.pinned (stat fr5) (T.obj _ _ st5)
    refine wpAny_passesOwn hp (thn (hg _ s5 σ3 H5 x u _ I5' r5 (step x H5 y5)) fun _ s6 zz_=>?_)
    obtain ⟨σ6,H6,I6,q6⟩:=zz_
    refine wpAny_passesOwn hp (thn (hb _ s6 σ6 H6 _ I6 q6) fun f s7 q7=>?_)
    have again : ∀ {σ7:St} {H7:Hp},Inv X (pins++nD fp s5.heap) σ7 H7 s7→N σ7 H7→∃ m,m<n∧∃ i σ' H',Inv X pins σ' H' s7∧tn i s7.heap∧(∀ b∈fp,H' b=none)∧W i m σ' H':=fun {σ7 H7} I7 n7=>by
      obtain ⟨m',hm,w7⟩:=hN σ7 H7 n7
      refine ⟨m',hm,i+1, σ7,H7,I7.lj,T.keep _ _ _ st5 fun b hb o e=>(I7.pin (b,o) (List.mem_append_right _ (List.mem_append_right _ (j6 hb e)))).1,fun b hb=>?_,w7⟩
      obtain ⟨o,e,d⟩:=T.obj _ _ st5 b hb
      exact (I7.pin (b,o) (List.mem_append_right _ (List.mem_append_right _ (j6 hb e)))).2.1
    cases f with
    | next=>obtain ⟨σ7,H7,I7,n7⟩:=q7; exact again I7 n7
    | cont=>obtain ⟨σ7,H7,I7,n7⟩:=q7; exact again I7 n7
    | brk=>obtain ⟨σ7,H7,I7,q7⟩:=q7; exact ⟨σ7,H7,I7.lj,q7⟩
    | ret v=>obtain ⟨x7, σ7,H7,I7,r7,q7⟩:=q7; exact ⟨x7, σ7,H7,I7.lj,r7,q7⟩
end
theorem yu {K:PySem.W.Frag}{a:Addr}{xs:List V}{g:TG}{tb:TS}{D:Ends}{σ:St}{H:Hp}(Pv:Nat→St→Hp→Prop)(h0:Pv 0 σ H)(hl : ∀ i σ H,i≤xs.length→Pv i σ H→SqL K H a xs)
    (hs : ∀ i x σ H,xs[i]?=some x→Pv i σ H→g x σ H fun σ2 H2=>tb { D with nx:=Pv (i+1),ct:=Pv (i+1),bk:=D.nx } σ2 H2) (hd : ∀ σ H,Pv xs.length σ H→D.nx σ H) :
    ∃ W:Nat→Nat→St→Hp→Prop,(∃ m,W 0 m σ H)∧∀ i m σ H,W i m σ H →
      ((Itl K a).stop i H∧D.nx σ H)∨((Itl K a).go i H∧∃ N:St→Hp→Prop,(∀ σ' H',N σ' H'→∃ m',m'<m∧W (i+1) m' σ' H')∧∀ x H',(Itl K a).yld i H x H'→g x σ H' fun σ2 H2=>tb { D with nx:=N,ct:=N,bk:=D.nx } σ2 H2):=by
  refine ⟨fun i m σ H=>m=xs.length - i∧i≤xs.length∧Pv i σ H,⟨xs.length,by simp,Nat.zero_le _,h0⟩, ?_⟩
  rintro i m σ H ⟨rfl,hi,p⟩
  have q:=hl i σ H hi p
  by_cases hlt:i<xs.length
  · refine .inr ⟨⟨xs,xs[i],q,by simp [hlt]⟩,Pv (i+1),fun σ' H' p'=>⟨xs.length - (i+1),by omega,rfl,hlt,p'⟩,fun x H' y=>?_⟩
    obtain ⟨e,y⟩:=y
    subst e
    exact hs i x σ _ (y xs q) p
  · have e:i=xs.length:=by omega
    subst e
    exact .inl ⟨⟨xs,q,Nat.le_refl _⟩,hd σ H p⟩
theorem AY {K:PySem.W.Frag}{a:Addr}{xs:List V}{g:TG}{tb:TS}{D:Ends}{σ:St}{H:Hp}(Pv:Nat→St→Hp→Prop)(h0:Pv 0 σ H)(hl : ∀ i σ H,i≤xs.length→Pv i σ H→SqT K H a xs)
    (hs : ∀ i x σ H,xs[i]?=some x→Pv i σ H→g x σ H fun σ2 H2=>tb { D with nx:=Pv (i+1),ct:=Pv (i+1),bk:=D.nx } σ2 H2) (hd : ∀ σ H,Pv xs.length σ H→D.nx σ H) :
    ∃ W:Nat→Nat→St→Hp→Prop,(∃ m,W 0 m σ H)∧∀ i m σ H,W i m σ H →
      ((Itt K a).stop i H∧D.nx σ H)∨((Itt K a).go i H∧∃ N:St→Hp→Prop,(∀ σ' H',N σ' H'→∃ m',m'<m∧W (i+1) m' σ' H')∧∀ x H',(Itt K a).yld i H x H'→g x σ H' fun σ2 H2=>tb { D with nx:=N,ct:=N,bk:=D.nx } σ2 H2):=by
  refine ⟨fun i m σ H=>m=xs.length - i∧i≤xs.length∧Pv i σ H,⟨xs.length,by simp,Nat.zero_le _,h0⟩, ?_⟩
  rintro i m σ H ⟨rfl,hi,p⟩
  have q:=hl i σ H hi p
  by_cases hlt:i<xs.length
  · refine .inr ⟨⟨xs,xs[i],q,by simp [hlt]⟩,Pv (i+1),fun σ' H' p'=>⟨xs.length - (i+1),by omega,rfl,hlt,p'⟩,fun x H' y=>?_⟩
    obtain ⟨e,y⟩:=y
    subst e
    exact hs i x σ _ (y xs q) p
  · have e:i=xs.length:=by omega
    subst e
    exact .inl ⟨⟨xs,q,Nat.le_refl _⟩,hd σ H p⟩
end L2
namespace L2
open PySem PySem.Spec PyProof.Rows
noncomputable abbrev R2:=V→V→Hp→VK→Prop
noncomputable def OpR (X:Cx)(f:Value→Value→Sem Value)(r:R2):Prop :=
  ∀ (pins:List (Addr × Obj)) (s:Shared) (σ:St) (H:Hp) (x y:V) (v u:Value) (Q:VK),Inv X pins σ H s→RelV x v→RelV y u→r x y H Q →
    wpAny (model X.prog X.w) X.A (f v u) (EP X pins σ Q) X.xe s
noncomputable def iL (X:Cx)(f:Value)(r:List V→Hp→VK→Prop):Prop :=
  ∀ (pins:List (Addr × Obj)) (s:Shared) (σ:St) (H:Hp) (xs:List V) (us:List Value) (Q:VK),Inv X pins σ H s→Vals xs us→r xs H Q →
    wpAny (model X.prog X.w) X.A (call f us) (EP X pins σ Q) X.xe s
noncomputable def tOp (r:R2)(ta tb:TE):TE:=fun σ H Q=>ta σ H fun x H1=>tb σ H1 fun y H2=>r x y H2 Q
noncomputable def rI (C:Int→Int→Prop)(g:Int→Int→V):R2:=fun x y H Q=>∃ i j,x=.int i∧y=.int j∧C i j∧Q (g i j) H
noncomputable def rI0 (g:Int→Int→V):R2:=fun x y H Q=>∃ i j,x=.int i∧y=.int j∧Q (g i j) H
section
variable {X:Cx}{a b c:Expr}{ta tb tc:TE}{pos:Pos}
theorem AZ (ha:PE X a ta)(hb:PE X b tb){pins:List (Addr × Obj)}{s:Shared}{σ:St}{H:Hp}{R:V→V→Hp→Prop}(I:Inv X pins σ H s)
    (h:ta σ H fun x H1=>tb σ H1 fun y H2=>R x y H2) {Q:Value→Shared→Prop} {f:Value→Value→Sem Value}
    (hf : ∀ v u s2 x y H2,Inv X pins σ H2 s2→RelV x v→RelV y u→R x y H2→wpAny (model X.prog X.w) X.A (f v u) Q X.xe s2) :
    wpAny (model X.prog X.w) X.A (eval a X.env) (fun v s₁=>wpAny (model X.prog X.w) X.A (eval b X.env) (fun u s₂=>wpAny (model X.prog X.w) X.A (f v u) Q X.xe s₂) X.xe s₁) X.xe s:=by
  refine bH (ha pins s σ H _ I h) fun v s1 x H1 I1 r1 q1=>?_
  refine bH (hb pins s1 σ H1 _ I1 q1) fun u s2 y H2 I2 r2 q2=>?_
  exact hf v u s2 x y H2 I2 r1 r2 q2
theorem mE {op:Operator}{r:R2}(ho:OpR X (binaryOp op) r)(ha:PE X a ta)(hb:PE X b tb):PE X (.BinOp a op b pos) (tOp r ta tb):=by
  intro pins s σ H Q I h
  exact wpAny_BinOp (AZ ha hb I h fun v u s2 x y H2 I2 rx ry q=>ho pins s2 σ H2 x y v u Q I2 rx ry q)
theorem opI {f:Value→Value→Sem Value}{C:Int→Int→Prop}{g:Int→Int→Int}
    (rule : ∀ (i j:Int) (t u:Tok) (s:Shared) (Q:Value→Shared→Prop) (E:Value→Shared→Prop),C i j→Q (.int (g i j) s.toks) { s with toks:=s.toks+1 }→wpAny (model X.prog X.w) X.A (f (.int i t) (.int j u)) Q E s) :
    OpR X f (rI C fun i j=>.int (g i j)):=by
  intro pins s σ H x y v u Q I rx ry h
  obtain ⟨i,j,rfl,rfl,hc,q⟩:=h
  obtain ⟨t,rfl⟩:=rx
  obtain ⟨t',rfl⟩:=ry
  exact rule i j t t' s _ _ hc ⟨.int (g i j),H,I.tok _,⟨_,rfl⟩,q⟩
theorem Hr {f:Value→Value→Sem Value}{g:Int→Int→Int}
    (rule : ∀ (i j:Int) (t u:Tok) (s:Shared) (Q:Value→Shared→Prop) (E:Value→Shared→Prop),Q (.int (g i j) s.toks) { s with toks:=s.toks+1 }→wpAny (model X.prog X.w) X.A (f (.int i t) (.int j u)) Q E s) :
    OpR X f (rI0 fun i j=>.int (g i j)):=by
  intro pins s σ H x y v u Q I rx ry h
  obtain ⟨i,j,rfl,rfl,q⟩:=h
  obtain ⟨t,rfl⟩:=rx
  obtain ⟨t',rfl⟩:=ry
  exact rule i j t t' s _ _ ⟨.int (g i j),H,I.tok _,⟨_,rfl⟩,q⟩
theorem B0 {f:Value→Value→Sem Value}{g:Int→Int→Bool}
    (rule : ∀ (i j:Int) (t u:Tok) (s:Shared) (Q:Value→Shared→Prop) (E:Value→Shared→Prop),Q (.bool (g i j)) s→wpAny (model X.prog X.w) X.A (f (.int i t) (.int j u)) Q E s) :
    OpR X f (rI0 fun i j=>.bl (g i j)):=by
  intro pins s σ H x y v u Q I rx ry h
  obtain ⟨i,j,rfl,rfl,q⟩:=h
  obtain ⟨t,rfl⟩:=rx
  obtain ⟨t',rfl⟩:=ry
  exact rule i j t t' s _ _ ⟨.bl (g i j),H,I,rfl,q⟩
noncomputable def JT (i j:Int):Prop:=0<j∧j<1073741824
noncomputable def JU (i j:Int):Prop:=0≤j∧j≤1000000∧i.natAbs<2 ^ 64
noncomputable def yw (i j:Int):Prop:=(-(2 ^ 64)<i∧i<2 ^ 64)∨(-(2 ^ 64)<j∧j<2 ^ 64)
theorem yw.ok {i j:Int}(h:yw i j):IntMulOk i j:=by
  rcases h with ⟨h1,h2⟩ | ⟨h1,h2⟩
  · exact .of_left (intBits_le_64 h1 h2)
  · exact .of_right (intBits_le_64 h1 h2)
theorem E8:OpR X (binaryOp .Add) (rI0 fun i j=>.int (i+j)):=Hr fun _ _ _ _ _ _ _ q=>add_int q
theorem E9:OpR X (binaryOp .Sub) (rI0 fun i j=>.int (i - j)):=Hr fun _ _ _ _ _ _ _ q=>sub_int q
theorem Ea:OpR X (binaryOp .Mult) (rI yw fun i j=>.int (i * j)):=opI fun _ _ _ _ _ _ _ hc q=>mul_int q hc.ok
theorem B1:OpR X (binaryOp .FloorDiv) (rI JT fun i j=>.int (i / j)):=opI fun i j _ _ _ _ _ hc q=>by
  have h1:(0:Int)<j:=hc.1
  have h2:j<1073741824:=hc.2
  exact floordiv_int (by omega) (by rw [Int.fdiv_eq_ediv_of_nonneg i (by omega)]; exact q) (.inl (PyProof.noPylong_small (by omega)))
theorem Eb:OpR X (binaryOp .Mod) (rI (fun _ j=>0<j) fun i j=>.int (i % j)):=opI fun i j _ _ _ _ _ hc q=>by
  have h1:(0:Int)<j:=hc
  exact mod_int' (by omega) (by rw [Int.fmod_eq_emod_of_nonneg i (by omega)]; exact q)
theorem Ed:OpR X (binaryOp .Pow) (rI JU fun i j=>.int (i ^ j.toNat)):=opI fun _ _ _ _ _ _ _ hc q=>pow_int_small hc.1 hc.2.1 hc.2.2 q
end
section
variable {X:Cx}{a b c:Expr}{ta tb tc:TE}{pos:Pos}
theorem yx {pins:List (Addr × Obj)}{σ:St}{H:Hp}{s:Shared}{Q:VK}{k k':Bool}(I:Inv X pins σ H s)(q:Q (.bl k) H)(e:k=k'):EP X pins σ Q (.bool k') s:=by
  subst e
  exact ⟨.bl k,H,I,rfl,q⟩
theorem yy:OpR X (compareOp .Lt) (rI0 fun i j=>.bl (decide (i<j))):=B0 fun _ _ _ _ _ _ _ q=>lt_int q
theorem yz:OpR X (compareOp .LtE) (rI0 fun i j=>.bl (decide (i≤j))):=B0 fun _ _ _ _ _ _ _ q=>le_int q
theorem D1:OpR X (compareOp .Gt) (rI0 fun i j=>.bl (decide (j<i))):=B0 fun _ _ _ _ _ _ _ q=>gt_int q
theorem D2:OpR X (compareOp .GtE) (rI0 fun i j=>.bl (decide (j≤i))):=B0 fun _ _ _ _ _ _ _ q=>ge_int q
theorem wW:OpR X (compareOp .In) (fun x y H Q=>∃ i j,x=.str i∧y=.str j∧Q (.bl (!(Builtin.Str.occurrences j i 0 j.length 1).isEmpty)) H):=by
  intro pins s σ H x y v u Q I rx ry h
  obtain ⟨i,j,rfl,rfl,q⟩:=h
  obtain ⟨t,rfl⟩:=rx
  obtain ⟨t',rfl⟩:=ry
  exact in_str (yx I q rfl)
theorem r6:OpR X (compareOp .NotIn) (fun x y H Q=>∃ i j,x=.str i∧y=.str j∧Q (.bl (!(!(Builtin.Str.occurrences j i 0 j.length 1).isEmpty))) H):=by
  intro pins s σ H x y v u Q I rx ry h
  obtain ⟨i,j,rfl,rfl,q⟩:=h
  obtain ⟨t,rfl⟩:=rx
  obtain ⟨t',rfl⟩:=ry
  exact notIn_str (yx I q rfl)
theorem OpR.or {f:Value→Value→Sem Value}{r r':R2}(h:OpR X f r)(h':OpR X f r'):OpR X f (fun x y H Q=>r x y H Q∨r' x y H Q):=by
  intro pins s σ H x y v u Q I rx ry q
  rcases q with q | q
  · exact h pins s σ H x y v u Q I rx ry q
  · exact h' pins s σ H x y v u Q I rx ry q
theorem iJ (b:Expr){op:CmpOp}(h:op≠.In:=by decide)(h2:op≠.NotIn:=by decide):behindInMarks op b=false:=by
  have e1:(op == CmpOp.In)=false:=by cases op <;> first | rfl | exact absurd rfl h
  have e2:(op == CmpOp.NotIn)=false:=by cases op <;> first | rfl | exact absurd rfl h2
  cases b <;> simp [behindInMarks,e1,e2]
theorem B2 {op:CmpOp}{r:R2}(ho:OpR X (compareOp op) r)(ha:PE X a ta)(hb:PE X b tb)(hm:behindInMarks op b=false):PE X (.Compare a [op] [b] pos) (tOp r ta tb):=by
  intro pins s σ H Q I h
  exact wpAny_Compare1 (AZ ha hb I h fun v u s2 x y H2 I2 rx ry q=>ho pins s2 σ H2 x y v u Q I2 rx ry q) hm
noncomputable def yA (t:TE):TT:=fun σ H Q=>t σ H fun x H'=>∃ k,x=.bl k∧Q k H'
theorem B3 {op:CmpOp}{r:R2}(ho:OpR X (compareOp op) r)(ha:PE X a ta)(hb:PE X b tb)(hm:behindInMarks op b=false):PT X (.Compare a [op] [b] pos) (yA (tOp r ta tb)):=by
  intro pins s σ H Q I h
  refine wpAny_isTrue_Compare1 (bH (ha pins s σ H _ I h) fun v s1 x H1 I1 r1 q1=>bH (hb pins s1 σ H1 _ I1 q1) fun u s2 y H2 I2 r2 q2 =>
    bH (ho pins s2 σ H2 x y v u _ I2 r1 r2 q2) fun c s3 z H3 I3 r3 ⟨k,e,q3⟩=>?_) hm
  subst e
  cases r3
  exact wpAny_truthy_bool ⟨H3,I3,q3⟩
noncomputable def uN (r r':R2)(ta tb tc:TE):TE:=fun σ H Q=>ta σ H fun x H1=>tb σ H1 fun y H2=>r x y H2 fun z H3=>∃ k,z=.bl k ∧
  (if k=true then tc σ H3 fun w' H4=>r' y w' H4 Q else Q (.bl false) H3)
theorem yB {op op':CmpOp}{r r':R2}(ho:OpR X (compareOp op) r)(ho':OpR X (compareOp op') r')(ha:PE X a ta)(hb:PE X b tb)(hc:PE X c tc)
    (hm:lastMarks [op,op'] [b,c]=false:=by with_unfolding_all rfl):PE X (.Compare a [op,op'] [b,c] pos) (uN r r' ta tb tc):=by
  intro pins s σ H Q I h
  refine Compare_chain (bH (ha pins s σ H _ I h) fun v s1 x H1 I1 r1 q1=>chain_link (bH (hb pins s1 σ H1 _ I1 q1) fun u s2 y H2 I2 r2 q2 =>
    bH (ho pins s2 σ H2 x y v u _ I2 r1 r2 q2) fun d s3 z H3 I3 r3 ⟨k,e,q3⟩=>?_)) hm
  subst e
  cases r3
  refine wpAny_truthy_bool ?_
  cases k with
  | false=>exact ite_ff ⟨.bl false,H3,I3,rfl,q3⟩
  | true=>exact ite_tt (chain_last (bH (hc pins s3 σ H3 _ I3 q3) fun w' s4 z' H4 I4 r4 q4=>ho' pins s4 σ H4 y z' u w' Q I4 r2 r4 q4))
theorem yC {op op':CmpOp}{r r':R2}(ho:OpR X (compareOp op) r)(ho':OpR X (compareOp op') r')(ha:PE X a ta)(hb:PE X b tb)(hc:PE X c tc)
    (hm:lastMarks [op,op'] [b,c]=false:=by with_unfolding_all rfl):PT X (.Compare a [op,op'] [b,c] pos) (yA (uN r r' ta tb tc)):=by
  intro pins s σ H Q I h
  refine isTrue_chain (bH (ha pins s σ H _ I h) fun v s1 x H1 I1 r1 q1=>test_link (bH (hb pins s1 σ H1 _ I1 q1) fun u s2 y H2 I2 r2 q2 =>
    bH (ho pins s2 σ H2 x y v u _ I2 r1 r2 q2) fun d s3 z H3 I3 r3 ⟨k,e,q3⟩=>?_)) hm
  subst e
  cases r3
  refine wpAny_truthy_bool ?_
  cases k with
  | false =>
    obtain ⟨k',e',q'⟩:=q3
    cases e'
    exact ite_ff ⟨H3,I3,q'⟩
  | true =>
    refine ite_tt (test_last (bH (hc pins s3 σ H3 _ I3 q3) fun w' s4 z' H4 I4 r4 q4=>bH (ho' pins s4 σ H4 y z' u w' _ I4 r2 r4 q4) fun d' s5 z2 H5 I5 r5 zz_=>?_))
    obtain ⟨k2,e2,q5⟩:=zz_
    subst e2
    cases r5
    exact wpAny_truthy_bool ⟨H5,I5,q5⟩
theorem nE:(sizeLine:Nat)<2 ^ 63:=by rw [sizeLine_eq]; decide
theorem uO:OpR X (binaryOp .Add) (fun x y H Q=>∃ i j,x=.str i∧y=.str j∧i.length+j.length≤sizeLine∧Q (.str (i++j)) H):=by
  intro pins s σ H x y v u Q I rx ry h
  obtain ⟨i,j,rfl,rfl,hz,q⟩:=h
  obtain ⟨t,rfl⟩:=rx
  obtain ⟨t',rfl⟩:=ry
  exact add_str (fun t' tk=>⟨.str (i++j),H,I.tok _,⟨_,rfl⟩,q⟩) hz
theorem vals1 {x:V}{us:List Value}(r:Vals [x] us) : ∃ u,us=[u]∧RelV x u:=by
  cases r with
  | cons r1 r2=>cases r2; exact ⟨_,rfl,r1⟩
theorem vals2 {x y:V}{us:List Value}(r:Vals [x,y] us) : ∃ u w',us=[u,w']∧RelV x u∧RelV y w':=by
  cases r with
  | cons r1 r2 =>
    cases r2 with
    | cons r3 r4=>cases r4; exact ⟨_,_,rfl,r1,r3⟩
theorem wX (hc:X.calm=true):iL X (.builtin "max") (fun xs H Q=>∃ i j,xs=[.int i,.int j]∧Q (.int (if j > i then j else i)) H):=by
  intro pins s σ H xs us Q I r h
  obtain ⟨i,j,rfl,q⟩:=h
  obtain ⟨u,w',rfl,⟨t,rfl⟩,⟨t',rfl⟩⟩:=vals2 r
  refine max_two_ints (I.ok.hd hc) fun h' tk k=>⟨_,H,I.kept k, ?_,q⟩
  by_cases hj:j > i
  · rw [if_pos hj,if_pos hj]; exact ⟨_,rfl⟩
  · rw [if_neg hj,if_neg hj]; exact ⟨_,rfl⟩
theorem wY:iL X (.type "int") (fun xs H Q=>(∃ i,xs=[.int i]∧Q (.int i) H)∨∃ k,xs=[.bl k]∧Q (.int (if k then 1 else 0)) H):=by
  intro pins s σ H xs us Q I r h
  rcases h with ⟨i,rfl,q⟩ | ⟨k,rfl,q⟩
  · obtain ⟨u,rfl,t,rfl⟩:=vals1 r
    exact call_int_int ⟨.int i,H,I,⟨_,rfl⟩,q⟩
  · obtain ⟨u,rfl,r1⟩:=vals1 r
    cases r1
    exact call_int_bool ⟨.int (if k then 1 else 0),H,I.tok _,⟨_,rfl⟩,q⟩
noncomputable def Hs (K:PySem.W.Frag)(x:V)(H:Hp)(n:Nat):Prop :=
  match x with
  | .str y=>y.length≤sizeLine∧n=y.length
  | .byt y=>y.size≤sizeLine∧n=y.size
  | .ref p=>(∃ xs,SqL K H p xs∧n=xs.length)∨∃ xs,SqT K H p xs∧n=xs.length
  | _=>False
theorem yD:iL X (.builtin "len") (fun xs H Q=>∃ x n,xs=[x]∧Hs X.K x H n∧Q (.int n) H):=by
  intro pins s σ H xs us Q I r h
  obtain ⟨x,n,rfl,e,q⟩:=h
  obtain ⟨u,rfl,rx⟩:=vals1 r
  have hl:=nE
  have hs:sizeLine=16777216:=sizeLine_eq
  cases x with
  | str y =>
    obtain ⟨t,rfl⟩:=rx
    obtain ⟨hy,e'⟩:y.length≤sizeLine∧n=y.length:=e
    subst e'
    exact len_str (by omega) ⟨.int _,H,I.tok _,⟨_,rfl⟩,q⟩
  | byt y =>
    obtain ⟨t,rfl⟩:=rx
    obtain ⟨hy,e'⟩:y.size≤sizeLine∧n=y.size:=e
    subst e'
    exact PySem.W.len_bytes (by omega) ⟨.int _,H,I.tok _,⟨_,rfl⟩,q⟩
  | ref p =>
    cases rx
    have e':(∃ xs,SqL X.K H p xs∧n=xs.length)∨∃ xs,SqT X.K H p xs∧n=xs.length:=e
    rcases e' with ⟨xs,hx,e'⟩ | ⟨xs,hx,e'⟩
    · subst e'
      obtain ⟨its,r',pl,hz⟩:=I.list hx
      have hlen:=r'.length
      exact Calls.call_len_list pl.isList (by simp only [List.size_toArray]; omega) ⟨.int xs.length,H,I.tok _,⟨_,by simp only [List.size_toArray]; rw [hlen]⟩,q⟩
    · subst e'
      obtain ⟨its,r',pl,hz⟩:=I.tuple hx
      have hlen:=r'.length
      exact len_tuple pl (by simp only [List.size_toArray]; omega) ⟨.int xs.length,H,I.tok _,⟨_,by simp only [List.size_toArray]; rw [hlen]⟩,q⟩
  | _=>exact (show False from e).elim
end
end L2
namespace L2
open PySem PySem.Spec PyProof.Rows
section
variable {prog:Program}{w:World}{A:Around}{E:Value→Shared→Prop}{s:Shared}{K:PySem.W.Frag}{x dx C f:Addr}{mA:Str→Option Value}{name:Str}{v:Value}
end
theorem pC.some_of {v:V}{o:Option Value}(r:pC (some v) o) : ∃ u,o=some u∧RelV v u:=by
  cases o with
  | none=>exact (show False from r).elim
  | some u=>exact ⟨u,rfl,r⟩
section
variable {P:Program}{w:World}{H H':Hp}{h h':Heap}{a C dx:Addr}{fs fs':List (Str × V)}
end
section
variable {X:Cx}{pins:List (Addr × Obj)}{σ:St}{H:Hp}{s:Shared}{a C dx:Addr}{fs:List (Str × V)}{f:Str}{v:V}{A:Around}{E:Value→Shared→Prop}
end
section
variable {X:Cx}{o e value:Expr}{f:Str}{pos pos' tpos:Pos}{ta tv:TE}
end
section
variable {X:Cx}{pins:List (Addr × Obj)}{σ:St}{H:Hp}{s:Shared}{A:Around}{E:Value→Shared→Prop}{Q:Value→Shared→Prop}{c:Value}{b:Bool}
end
end L2
namespace L2
open PySem PySem.Spec PyProof.Rows
structure fu (k:Nat)(A:Around):Prop where
  hd:A.handled=none
  dp:A.depth+3 * k+5<recursionLimit
  un:A.units+16 * k+200<cLine
theorem fu.mono {j k:Nat}{A:Around}(r:fu k A)(h:j≤k):fu j A:=⟨r.hd,by have:=r.dp; omega,by have:=r.un; omega⟩
theorem fu.deeper {k:Nat}{A:Around}(r:fu (k+1) A)(env:Env):fu k (A.deeper env) :=
  ⟨r.hd,by have:=r.dp; show A.depth+1+3 * k+5 < _; omega,by have:=r.un; show A.units+3+16 * k+200 < _; omega⟩
theorem fu.depth {k:Nat}{A:Around}(r:fu k A):A.depth<recursionLimit:=by have:=r.dp; omega
theorem fu.units {k:Nat}{A:Around}(r:fu k A):A.units+64<cLine:=by have:=r.un; omega
noncomputable def wZ:TA:=fun _ H Q=>Q [] H
noncomputable def mF (ta:TE)(tr:TA):TA:=fun σ H Q=>ta σ H fun x H1=>tr σ H1 fun xs H2=>Q (x::xs) H2
section
variable {X:Cx}{e:Expr}{es:List Expr}{te:TE}{t:TA}{pos:Pos}
theorem nF:PA X [] wZ:=fun _ _ _ _ H Q I h=>Calls.spliced_nil ⟨[],H,I,.nil,h⟩
theorem j7 (ha:PE X e te)(hr:PA X es t)(hs:starEach (e::es) X.env=(false,eval e X.env)::starEach es X.env:=by rfl):PA X (e::es) (mF te t):=by
  intro pos pins s σ H Q I h
  rw [hs]
  show wpAny _ _ (spliced ((false,eval e X.env)::backTo pos (starEach es X.env))) _ _ s
  refine Calls.spliced_cons (bH (ha pins s σ H _ I h) fun u s1 x H1 I1 r1 q1=>?_)
  exact bH (hr pos pins s1 σ H1 _ I1 q1) fun us s2 xs H2 I2 r2 q2=>⟨x::xs,H2,I2,.cons r1 r2,q2⟩
noncomputable def Ht (t:TA):TE:=fun σ H Q=>t σ H fun xs H1=>xs.length≤sizeLine∧∀ p,H1 p=none→Q (.ref p) (upd H1 p (.tup xs))
noncomputable def Hu (t:TA):TE:=fun σ H Q=>t σ H fun xs H1=>xs.length≤sizeLine∧∀ p,H1 p=none→Q (.ref p) (upd H1 p (.lst xs))
theorem Ee {x1}(h:PA X es t):PE X (.Tuple es x1 pos) (Ht t):=by
  intro pins s σ H Q I hq
  refine wpAny_Tuple_spliced (bH (h pos pins s σ H _ I hq) fun us s1 xs H1 I1 r ⟨z,q⟩=>⟨by rw [← r.length]; exact z, ?_⟩)
  have hf:H1 s1.heap.objs.size=none:=I1.hok.fresh (Nat.le_refl _)
  refine ⟨.ref s1.heap.objs.size,upd H1 s1.heap.objs.size (.tup xs),I1.laid (t':=s1.toks) (fun b u e=>Heap.get?_push_of_some _ e) (Nat.le_refl _) ?_,rfl,q _ hf⟩
  exact ⟨z,us,r,⟨_,Heap.get?_push_size _ rfl,rfl,_,rfl⟩⟩
theorem Ef (h:PA X es t):PE X (.List es pos) (Hu t):=by
  intro pins s σ H Q I hq
  refine wpAny_List_spliced (bH (h pos pins s σ H _ I hq) fun us s1 xs H1 I1 r ⟨z,q⟩=>⟨by rw [← r.length]; exact z, ?_⟩)
  have hf:H1 s1.heap.objs.size=none:=I1.hok.fresh (Nat.le_refl _)
  refine ⟨.ref s1.heap.objs.size,upd H1 s1.heap.objs.size (.lst xs),I1.laid (t':=s1.toks) (fun b u e=>Heap.get?_push_of_some _ e) (Nat.le_refl _) ?_,rfl,q _ hf⟩
  exact ⟨z,us,0,r,Heap.get?_push_size _ rfl⟩
end
noncomputable abbrev Sp:=List V→Hp→VK→XK→Prop
noncomputable abbrev CXT:=List Env→Hp→Shared→XK→Value→Shared→Prop
structure B4 (P:Program)(w:World)(K:PySem.W.Frag)(mg:Str→Option Value)(base:Heap)(A:Around)(outer:List Env)(s:Shared)(H:Hp):Prop where
  frames:A.frames=some outer
  mod:Mod K mg base
  bs : ∀ b o,base.get? b=some o→s.heap.get? b=some o∧H b=none
  bsz:base.objs.size≤s.heap.objs.size
  mP:s.heap.FunFrames base outer
  frf : ∀ b∈frs outer,H b=none
  hok:HOk P w H s.heap
  bare:AllBare s.gens
noncomputable def CE (outer:List Env)(P:Program)(w:World)(H:Hp)(s:Shared)(Q:VK)(u:Value)(s':Shared):Prop :=
  ∃ v H',s'.os=s.os∧AllBare s'.gens∧Un (frs outer) [] H H' s.heap s'.heap∧HOk P w H' s'.heap∧RelV v u∧Q v H'
noncomputable def CR (CX:CXT)(outer:List Env)(P:Program)(w:World)(H:Hp)(s:Shared)(Q:VK)(E:XK)(r:Result)(s':Shared):Prop :=
  match r with
  | .ok (.ret u)=>CE outer P w H s Q u s'
  | .ok _=>False
  | .error e=>CX outer H s E e s'
structure jw (P:Program)(w:World)(K:PySem.W.Frag)(mg:Str→Option Value)(base:Heap)(CX:CXT)(k:Nat)(f:Addr)(fd:FuncData)(ps:List Str)(sp:Sp):Prop where
  len : ∀ vs H Q E,sp vs H Q E→vs.length=ps.length
  run : ∀ (A:Around) (outer:List Env) (s:Shared) (H:Hp) (args:Args) (us:List Value) (vs:List V) (Q:VK) (E:XK),fu k A→B4 P w K mg base A outer s H→BindsTo s fd args (ps.zip us)→Vals vs us→sp vs H Q E →
    codeAny (model P w) A (.call (.ref f) args) (CR CX outer P w H s Q E) s
theorem jw.imp {P:Program}{w:World}{K:PySem.W.Frag}{mg:Str→Option Value}{base:Heap}{CX:CXT}{k:Nat}{f:Addr}{fd:FuncData}{ps:List Str}{sp sp':Sp}(F:jw P w K mg base CX k f fd ps sp)
    (h : ∀ vs H Q E,sp' vs H Q E→sp vs H Q E):jw P w K mg base CX k f fd ps sp' :=
  ⟨fun vs H Q E q=>F.len vs H Q E (h _ _ _ _ q),fun A outer s H args us vs Q E hr he hb hv hs=>F.run A outer s H args us vs Q E hr he hb hv (h _ _ _ _ hs)⟩
section
variable {X:Cx}{pins:List (Addr × Obj)}{σ:St}{H:Hp}{s s':Shared}
theorem Inv.Eg (I:Inv X pins σ H s):B4 X.prog X.w X.K X.mg X.base X.A X.stack s H :=
  ⟨I.ok.frames,I.ok.mod,I.bs,Nat.le_trans I.ok.bsz I.sz,I.stack,I.l0,I.hok,I.bare⟩
theorem Inv.after {Q:VK}{u:Value}(I:Inv X pins σ H s)(h:CE X.stack X.prog X.w H s Q u s'):EP X pins σ Q u s':=by
  obtain ⟨v,H',os,bare,un,hok,r,q⟩:=h
  obtain ⟨hh,g,d,t,os'⟩:=s'
  obtain rfl:os'=s.os:=os
  exact ⟨v,H',I.call (h':=hh) (g':=g) (d':=d) (t':=t) (ch:=[]) un hok bare (fun b z=>absurd z (by simp)),r,q⟩
end
noncomputable def yE (sp:Sp)(dvs:List V)(E:XK)(t:TA):TE:=fun σ H Q=>t σ H fun vs H1=>sp (vs++dvs) H1 Q E
noncomputable def Binds (K:PySem.W.Frag)(fd:FuncData)(ps:List Str)(ds:List Value):Prop :=
  ∀ (s:Shared) (us:List Value),K.In s.heap→(us++ds).length=ps.length→BindsTo s fd ⟨us,[]⟩ (ps.zip (us++ds))
theorem Binds.all {K:PySem.W.Frag}{fd:FuncData}{ps:List Str}(h : ∀ us:List Value,us.length=ps.length→bindArgs fd ⟨us,[]⟩=pure (ps.zip us)):Binds K fd ps []:=fun s us _ hl=>by
  rw [List.append_nil] at hl ⊢
  exact .of_eq (h us hl)
noncomputable def Passes (CX:CXT)(X:Cx)(E:XK):Prop:=∀ (pins:List (Addr × Obj)) (σ:St) (H:Hp) (s:Shared) (e:Value) (s':Shared),Inv X pins σ H s→CX X.stack H s E e s'→X.xe e s'
section
variable {X:Cx}{CX:CXT}{k:Nat}{f C:Addr}{fd:FuncData}{ps:List Str}{sp:Sp}{dvs:List V}{ds:List Value}{E:XK}{x m:Str}{p pos apos:Pos}{e o:Expr}{es:List Expr}{ta:TE}{t:TA}
theorem Eh {pins:List (Addr × Obj)}{σ:St}{H:Hp}{s:Shared}{Q:VK}{us:List Value}{vs:List V}(F:jw X.prog X.w X.K X.mg X.base CX k f fd ps sp)(hr:fu k X.A)(hb:Binds X.K fd ps ds)(hd:Vals dvs ds)(hx:Passes CX X E)
    (I:Inv X pins σ H s) (r:Vals vs us) (h:sp (vs++dvs) H Q E):wpAny (model X.prog X.w) X.A (call (.ref f) us) (EP X pins σ Q) X.xe s:=by
  have r2:Vals (vs++dvs) (us++ds):=r.append hd
  have hl:(us++ds).length=ps.length:=by rw [← r2.length]; exact F.len _ _ _ _ h
  refine wpAny_call (codeAny_mono (F.run X.A X.stack s H ⟨us,[]⟩ (us++ds) (vs++dvs) Q E hr I.Eg (hb s us I.kIn hl) r2 h) fun r s' hq=>?_)
  cases r with
  | error e=>exact hx pins σ H s e s' I hq
  | ok fl =>
    cases fl with
    | ret u=>exact I.after hq
    | next=>exact False.elim hq
    | brk=>exact False.elim hq
    | cont=>exact False.elim hq
theorem vS (F:jw X.prog X.w X.K X.mg X.base CX k f fd ps sp)(hr:fu k X.A)(hg:Gl X x)(hm:X.mg x=some (.ref f))(hk:PySem.W.keepIn X.K (.ref f)=true)(hb:Binds X.K fd ps ds)(hd:Vals dvs ds)(hx:Passes CX X E)
    (ha:PA X (e::es) t) (hdb:(x == ("__debug__":Str))=false:=by decide) (he:starEach (e::es) X.env=(false,eval e X.env)::starEach es X.env:=by rfl) (hpl:(backTo pos (starEach es X.env)).any (·.1)=false:=by rfl) :
    PE X (.Call (.Name x p) (e::es) [] pos) (yE sp dvs E t):=by
  intro pins s σ H Q I h
  refine wpAny_Call_Name_kw (j4 I hg hm ?_ hdb)
  refine PySem.W.callWith_K (h₀:=X.base) I.ok.mod.kin hk (bH (ha pos pins s σ H _ I h) fun us s1 vs H1 I1 r q=>⟨I1.kIn, ?_⟩) he hpl
  exact Eh F hr hb hd hx I1 r q
end
section
variable {X:Cx}{CX:CXT}{k:Nat}{f C:Addr}{fd:FuncData}{ps ks:List Str}{sp:Sp}{E:XK}{x m:Str}{p pos apos kpos:Pos}{e o:Expr}{es:List Expr}{kws:List Keyword}{te ta:TE}{t tk:TA}{nm:Option Str}
variable {g:List Value→List Value→List Value}{gV:List V→List V→List V}
end
structure aU (N P:List Str)(sc:Scope):Prop where
  kind:sc.kind=.function
  co:sc.isCoroutine=false
  gen:sc.isGenerator=false
  nd:N.Nodup
  pre:N.take P.length=P
  par : ∀ x∈P,sc.names.lookup x=some .local∨sc.names.lookup x=some .cell
  Ei : ∀ y∈sc.names,y.2≠.free
theorem qd {kindOf:Str→Option NameKind}{x:Str} : ∀ {binds:List (Str × Value)} {m:Str→Option Value},(∀ v,(x,v) ∉ binds)→bindL kindOf binds m x=m x
  | [],_,_=>rfl
  | (n,v)::r,m,h=>by
    unfold bindL
    rw [qd fun w hw=>h w (List.mem_cons_of_mem _ hw)]
    split
    · have:x≠n:=by rintro rfl; exact h v List.mem_cons_self
      simp [this]
    · rfl
theorem qe {kindOf:Str→Option NameKind}{x:Str} : ∀ {binds:List (Str × Value)} {m:Str→Option Value},(∀ v,(x,v) ∉ binds)→bindC kindOf binds m x=m x
  | [],_,_=>rfl
  | (n,v)::r,m,h=>by
    unfold bindC
    rw [qe fun w hw=>h w (List.mem_cons_of_mem _ hw)]
    split
    · rfl
    · have:x≠n:=by rintro rfl; exact h v List.mem_cons_self
      simp [this]
theorem qh {kindOf:Str→Option NameKind}{x:Str}{v:Value} : ∀ {P:List Str} {vs:List Value} {i:Nat} {m:Str→Option Value},P.Nodup→P[i]?=some x→vs[i]?=some v→kindOf x=some .local →
    bindL kindOf (P.zip vs) m x=some v
  | [],_,_,_,_,h,_,_=>by simp at h
  | _::_,[],_,_,_,_,h,_=>by simp at h
  | p::P,w::vs,0,m,nd,h1,h2,hk=>by
    simp at h1 h2; subst h1; subst h2
    show bindL kindOf ((p,w)::P.zip vs) m p=_
    unfold bindL
    rw [qd fun v hv=>(List.nodup_cons.mp nd).1 (List.of_mem_zip hv).1,if_pos hk]
    simp
  | p::P,w::vs,i+1,m,nd,h1,h2,hk=>by
    show bindL kindOf ((p,w)::P.zip vs) m x=_
    unfold bindL
    exact qh (i:=i) (List.nodup_cons.mp nd).2 (by simpa using h1) (by simpa using h2) hk
theorem qi {kindOf:Str→Option NameKind}{x:Str}{v:Value} : ∀ {P:List Str} {vs:List Value} {i:Nat} {m:Str→Option Value},P.Nodup→P[i]?=some x→vs[i]?=some v→kindOf x≠some .local →
    bindC kindOf (P.zip vs) m x=some v
  | [],_,_,_,_,h,_,_=>by simp at h
  | _::_,[],_,_,_,_,h,_=>by simp at h
  | p::P,w::vs,0,m,nd,h1,h2,hk=>by
    simp at h1 h2; subst h1; subst h2
    show bindC kindOf ((p,w)::P.zip vs) m p=_
    unfold bindC
    rw [qe fun v hv=>(List.nodup_cons.mp nd).1 (List.of_mem_zip hv).1,if_neg hk]
    simp
  | p::P,w::vs,i+1,m,nd,h1,h2,hk=>by
    show bindC kindOf ((p,w)::P.zip vs) m x=_
    unfold bindC
    exact qi (i:=i) (List.nodup_cons.mp nd).2 (by simpa using h1) (by simpa using h2) hk
noncomputable def start (N:List Str)(vs:List V):St:=vs.map some++List.replicate (N.length - vs.length) none
noncomputable def r9 (CX:CXT)(P:Program)(w:World)(K:PySem.W.Frag)(mg:Str→Option Value)(base:Heap)(N:List Str)(qual:Str)(scope:Scope)(f:Addr)(cd:Value)(A:Around)(outer:List Env)(s:Shared)(H:Hp)(E:XK):Cx where
  prog:=P
  w:=w
  K:=K
  mg:=mg
  base:=base
  A:=A.deeper (envOfC qual scope s.heap.objs.size f cd)
  N:=N
  s₀:=s
  H₀:=H
  env:=envOfC qual scope s.heap.objs.size f cd
  outer:=outer
  stack:=envOfC qual scope s.heap.objs.size f cd::outer
  ex:=[]
  calm:=true
  fn:=fun _=>true
  pn:=[]
  xe:=fun e s'=>wpAny (model P w) (A.deeper (envOfC qual scope s.heap.objs.size f cd)) (leaving (envOfC qual scope s.heap.objs.size f cd) e) (fun _ s''=>CX outer H s E e s'') (fun e' s''=>CX outer H s E e' s'') s'
theorem sL {sc:Scope}{n:Nat}{x:Str}(h:sc.names.lookup x=some .cell) : ∃ c,(cellsFrom n sc.names []).lookup x=some c:=by
  have q:=PySem.W.cellsFrom_some sc.names n [] (.inl h)
  exact Option.isSome_iff_exists.mp q
theorem x4 {CX:CXT}{P:Program}{w:World}{K:PySem.W.Frag}{mg:Str→Option Value}{base:Heap}{N ps:List Str}{qual:Str}{scope:Scope}{f:Addr}{cd:Value}{A:Around}{outer:List Env}{s s1:Shared}{H:Hp}{E:XK}{us:List Value}{vs:List V}
    (S:aU N ps scope) (hd:A.handled=none) (e0:B4 P w K mg base A outer s H) (hl:vs.length=ps.length) (r:Vals vs us)
    (x:InCallC s s.heap.objs.size (bindL (envOfC qual scope s.heap.objs.size f cd).kindOf (ps.zip us) fun _=>none) (cellsFrom (s.heap.objs.size+1) scope.names []) (bindC (envOfC qual scope s.heap.objs.size f cd).kindOf (ps.zip us) fun _=>none) s1) :
    Inv (r9 CX P w K mg base N qual scope f cd A outer s H E) [] (start N vs) H s1:=by
  have hpl:ps.length≤N.length:=by have:=congrArg List.length S.pre; rw [List.length_take] at this; omega
  obtain ⟨h1,tk,rfl,hk⟩:=x.done
  have noA : ∀ b:Addr,b ∉ (r9 CX P w K mg base N qual scope f cd A outer s H E).ex:=fun b z=>absurd (show b∈([]:List Addr) from z) (by simp)
  refine ⟨⟨e0.mod,S.kind,rfl,rfl,Nat.le_refl _,fun y z c h1 h2=>?_,fun y hy=>?_,fun y c _ h=>?_,fun _=>hd,Around.frames_deeper e0.frames,.inr ⟨rfl,rfl⟩,fun b z=>absurd z (noA b),e0.bs,e0.bsz,fun b _ _=>noA b,fun b z=>absurd z (noA b),e0.mP,e0.frf⟩,
    rfl,e0.bare,Un.kept hk,⟨_,x.toInCall.ns,fun i y v h1 h2 h3=>?_⟩,fun y c h=>⟨_,x.cell y c h⟩,e0.hok.fresh (Nat.le_refl _),fun y c h=>?_,fun p hp=>absurd (show p∈([]:List (Addr × Obj)) from hp) (by simp),e0.hok.kept hk, ?_⟩
  · exact name_of_addr x.apart (PySem.mem_of_lookup h1) (PySem.mem_of_lookup h2)
  · have hy:scope.names.lookup y=some .cell∨scope.names.lookup y=some .free:=hy
    rcases hy with hy | hy
    · exact sL hy
    · exact absurd rfl (S.Ei _ (PySem.mem_of_lookup hy))
  · exact Nat.le_of_lt (x.above y c (PySem.mem_of_lookup h))
  · have hi:i<vs.length:=by
      unfold start at h2
      by_cases hi:i<vs.length
      · exact hi
      · rw [List.getElem?_append_right (by simpa using hi)] at h2
        rw [List.getElem?_replicate] at h2
        split at h2 <;> cases h2
    have ha:vs[i]?=some v:=by
      unfold start at h2
      rw [List.getElem?_append_left (by simpa using hi),List.getElem?_map] at h2
      cases e:vs[i]? with
      | none=>rw [e] at h2; cases h2
      | some a=>rw [e] at h2; cases h2; rfl
    obtain ⟨u,hu,rv⟩:=r.get ha
    have hp:ps[i]?=some y:=by
      rw [← S.pre,List.getElem?_take_of_lt (by omega)]; exact h1
    have ndP:ps.Nodup:=by rw [← S.pre]; exact S.nd.sublist (List.take_sublist _ _)
    refine ⟨u,rv, ?_⟩
    rcases S.par y (List.mem_of_getElem? hp) with k | k
    · exact .inl ⟨k,qh ndP hp hu k⟩
    · obtain ⟨c,e⟩:=sL (n:=s.heap.objs.size+1) k
      refine .inr ⟨.inl k,c,e, ?_⟩
      have q:=x.cell y c e
      rw [qi ndP hp hu (by show scope.names.lookup y≠_; rw [k]; decide)] at q
      exact q
  · exact e0.hok.fresh (Nat.le_of_lt (x.above y c (PySem.mem_of_lookup h)))
  · unfold start
    show _=N.length
    rw [List.length_append,List.length_map,List.length_replicate]
    omega
theorem vT {CX:CXT}{P:Program}{w:World}{K:PySem.W.Frag}{mg:Str→Option Value}{base:Heap}{k:Nat}{f:Addr}{name qual:Str}{params:Arguments}{body:List Stmt}{scope:Scope}{dV kV doc pm cdv ct oc:Value}{an od:Option Addr}
    {osl:Array (Option Value)} {N ps:List Str} {sp:Sp} (lk:K.lookup f=some ⟨oc,od,.func (PySem.W.fnOf name qual params body scope dV kV doc pm an cdv ct),osl⟩) (hcd:PySem.W.codeIn K cdv qual=true) (S:aU N ps scope)
    (len : ∀ vs H Q E,sp vs H Q E→vs.length=ps.length)
    (yF : ∀ (A:Around) (outer:List Env) (s:Shared) (H:Hp) (vs:List V) (Q:VK) (E:XK),fu k (A.deeper (envOfC qual scope s.heap.objs.size f cdv))→sp vs H Q E →
      ∃ t,PSs (r9 CX P w K mg base N qual scope f cdv A outer s H E) body t∧t { nx:=fun _ H'=>Q .non H',rt:=Q } (start N vs) H) :
    jw P w K mg base CX (k+1) f (PySem.W.fnOf name qual params body scope dV kV doc pm an cdv ct) ps sp:=by
  refine ⟨len,fun A outer s H args us vs Q E hr e0 hb r hsp=>?_⟩
  have hl:=len _ _ _ _ hsp
  have KX:K.In s.heap:=e0.mod.kin.keeps fun b o e=>(e0.bs b o e).1
  have lim:s.heap.NoLimit:=e0.mod.nolimit.keeps fun b o e=>(e0.bs b o e).1
  have hkind : ∀ y∈ps.zip us,scope.names.lookup y.1=some .local∨(scope.names.lookup y.1=some .cell∧((cellsFrom (s.heap.objs.size+1) scope.names []).lookup y.1).isSome=true):=fun ⟨n,v⟩ hy=>by
    rcases S.par n (List.of_mem_zip hy).1 with q | q
    · exact .inl q
    · exact .inr ⟨q,PySem.W.cellsFrom_some _ _ _ (.inl q)⟩
  refine codeAny_call_function hr.depth (KX _ _ lk) rfl S.co S.gen rfl (PySem.W.codeRec_of KX hcd) (hb _ _ _ _ ?_)
  refine wpAny_newFunctionEnv_cells S.kind hkind fun env he s1 x=>?_
  subst he
  refine ⟨lim.keeps x.toInCall.keep,codeAny_func ?_⟩
  obtain ⟨t,ht,hq⟩:=yF A outer s H vs Q E (hr.deeper _) hsp
  have I:Inv (r9 CX P w K mg base N qual scope f cdv A outer s H E) [] (start N vs) H s1:=x4 S hr.hd e0 hl r x
  refine wpAny_mono (ht [] s1 (start N vs) H _ I hq) (fun fl s' hs=>?_) fun e s' hs=>hs
  have fin : ∀ {σ':St} {H':Hp} {v:V} {u:Value},Inv (r9 CX P w K mg base N qual scope f cdv A outer s H E) [] σ' H' s'→RelV v u→Q v H'→CE outer P w H s Q u s' :=
    fun {σ' H' v u} J rv q=>⟨v,H',J.os,J.bare,J.base,J.hok,rv,q⟩
  cases fl with
  | ret u =>
    obtain ⟨v, σ',H',J,rv,q⟩:=hs
    exact fin J rv q
  | next =>
    obtain ⟨σ',H',J,q⟩:=hs
    exact fin (v:=V.non) (u:=Value.none) J rfl q
  | brk =>
    obtain ⟨_,_,_,q⟩:=hs
    exact False.elim q
  | cont =>
    obtain ⟨_,_,_,q⟩:=hs
    exact False.elim q
end L2
namespace L2
open PySem PySem.Spec PyProof.Rows
section
variable {X:Cx}{x:Str}{p pos:Pos}{e:Expr}{es:List Expr}{t:TA}{id T:String}{r:List V→Hp→VK→Prop}
noncomputable def tCB (r:List V→Hp→VK→Prop)(t:TA):TE:=fun σ H Q=>t σ H fun vs H1=>r vs H1 Q
theorem sM (hc:iL X (.builtin id) r)(hg:Gl X x)(hm:X.mg x=none)(hv:bootBuiltins x=some (.builtin id))(ha:PA X (e::es) t)(hn:x≠"__name__":=by decide)(hdb:(x == ("__debug__":Str))=false:=by decide)
    (he:starEach (e::es) X.env=(false,eval e X.env)::starEach es X.env:=by rfl) (hpl:(backTo pos (starEach es X.env)).any (·.1)=false:=by rfl):PE X (.Call (.Name x p) (e::es) [] pos) (tCB r t):=by
  intro pins s σ H Q I h
  refine wpAny_Call_Name_kw (iI I hg hm hv ?_ hn hdb)
  exact PyProof.Rows.callWith_builtin1 (bH (ha pos pins s σ H _ I h) fun us s1 vs H1 I1 r1 q1=>hc pins s1 σ H1 vs us Q I1 r1 q1) he hpl
theorem x5 (hc:iL X (.type T) r)(hg:Gl X x)(hm:X.mg x=none)(hv:bootBuiltins x=some (.type T))(ha:PA X (e::es) t)(hn:x≠"__name__":=by decide)(hdb:(x == ("__debug__":Str))=false:=by decide)
    (he:starEach (e::es) X.env=(false,eval e X.env)::starEach es X.env:=by rfl) (hpl:(backTo pos (starEach es X.env)).any (·.1)=false:=by rfl):PE X (.Call (.Name x p) (e::es) [] pos) (tCB r t):=by
  intro pins s σ H Q I h
  refine wpAny_Call_Name_kw (iI I hg hm hv ?_ hn hdb)
  exact PyProof.Rows.callWith_type1 (bH (ha pos pins s σ H _ I h) fun us s1 vs H1 I1 r1 q1=>hc pins s1 σ H1 vs us Q I1 r1 q1) he hpl
end
end L2
namespace HT
open PySem PyProof.Rows
section
open PySem.SeqAt
open PySem.AutoSeq1 (wpAny_loadPart')
open PySem.MeetsSeq PySem.MeetsSeq2 PySem.MeetsSeq3
end
section
variable {prog:Program}{w:World}{A:Around}{E:Value→Shared→Prop}{s:Shared}
theorem B5 {t b:Addr}{vs ws:List Value}{Q:Value→Shared→Prop}(ht:IsTup s.heap t vs.toArray)(hb:IsTup s.heap b ws.toArray)(hv:vs≠[])
    (h1:ws=[]→Q (.ref t) s) (h2:ws≠[]→Q (.ref s.heap.objs.size) { s with heap:=s.heap.push { cls:=.type "tuple",data:=.seq (vs++ws).toArray } })
    (hsz:vs.length+ws.length≤sizeLine):wpAny (model prog w) A (binaryOp .Add (.ref t) (.ref b)) Q E s:=by
  obtain ⟨⟨cls,dd,data,sl⟩,ho,hc,n,hd⟩:=id ht
  obtain ⟨⟨cls2,dd2,data2,sl2⟩,ho2,hc2,n2,hd2⟩:=id hb
  simp only at hc hd hc2 hd2
  subst hc hd hc2 hd2
  have e:vs.toArray++ws.toArray=(vs++ws).toArray:=by simp
  by_cases hw:ws=[]
  · exact concat_meets ⟨_,ho,rfl⟩ ⟨_,ho2,rfl⟩ noFill_tuple_add seq_tuple_add PySem.F.slot_tuple_add PySem.F.entry_tuple_add (PySem.F.args_tuple_add_2 _ _)
      (tuple_addW1 t b vs.toArray ws.toArray n n2 dd dd2 sl sl2 (by simpa using hv) (by simp [hw])) ⟨ho,ho2,h1 hw⟩
  · refine concat_meets ⟨_,ho,rfl⟩ ⟨_,ho2,rfl⟩ noFill_tuple_add seq_tuple_add PySem.F.slot_tuple_add PySem.F.entry_tuple_add (PySem.F.args_tuple_add_2 _ _)
      (tuple_addW2 t b vs.toArray ws.toArray n n2 dd dd2 sl sl2 (by simpa using hv) (by simpa using hw) (by rw [List.size_toArray,List.size_toArray]; exact hsz)) ⟨ho,ho2, ?_⟩
    rw [e]
    exact h2 hw
noncomputable def sIx (n d:Nat):Option Int→Nat
  | none=>d
  | some v=>if v<0 then (v+(n:Int)).toNat else min v.toNat n
theorem yG (n d:Nat)(hd:d≤n)(o:Option Int):sIx n d o≤n:=by
  cases o with
  | none=>exact hd
  | some v =>
    show (if v<0 then (v+(n:Int)).toNat else min v.toNat n)≤n
    by_cases hv:v<0
    · rw [if_pos hv]; omega
    · rw [if_neg hv]; exact Nat.min_le_right _ _
theorem vU (v:Int)(n d:Nat):(if v<0 then max (v+(n:Int)) 0 else min v (n:Int))=((sIx n d (some v):Nat):Int):=by
  show (if v<0 then max (v+(n:Int)) 0 else min v (n:Int))=(((if v<0 then (v+(n:Int)).toNat else min v.toNat n):Nat):Int)
  by_cases hv:v<0
  · simp only [if_pos hv]; omega
  · simp only [if_neg hv]; omega
theorem uP (lo hi:Option Int)(n:Nat):Builtin.Slice.sliceAdjust lo hi 1 (n:Int)=(((sIx n 0 lo:Nat):Int),((sIx n n hi:Nat):Int)):=by
  have h1 : ¬ ((1:Int)<0):=by omega
  unfold Builtin.Slice.sliceAdjust
  simp only [h1,if_false]
  refine Prod.ext ?_ ?_
  · cases lo with
    | none=>rfl
    | some v=>exact vU v n 0
  · cases hi with
    | none=>rfl
    | some v=>exact vU v n n
theorem uQ (i j:Nat):Builtin.Slice.slicePlaces (i:Int) (j:Int) 1=j - i:=by
  unfold Builtin.Slice.slicePlaces
  have h1:(1:Int) > 0:=by omega
  simp only [h1,if_true,Int.ediv_one]
  split <;> omega
theorem nG {v:Value}{o:Option Int}{Q:Option Int→Shared→Prop}(p:IsPart v o)(h:Q o s):wpAny (model prog w) A (Builtin.Slice.slicePartIndex v) Q E s:=by
  cases p with
  | none=>exact slicePart_none h
  | int i t=>exact slicePart_int h
theorem lS {sl:Addr}{vl vu:Value}{lo hi:Option Int}{n:Nat}{Q:Int × Int × Nat→Shared→Prop}(hs:s.heap.IsSliceOf sl vl vu .none)(pl:IsPart vl lo)(pu:IsPart vu hi)
    (h:Q (((sIx n 0 lo:Nat):Int),1,sIx n n hi - sIx n 0 lo) s):wpAny (model prog w) A (Builtin.Slice.sliceApplied (.ref sl) (pure (n:Int))) Q E s:=by
  obtain ⟨os,hos,hcs,hds⟩:=id hs
  unfold Builtin.Slice.sliceApplied Builtin.Slice.sliceFields
  refine wpAny_bind (wpAny_bind (wpAny_field hos hds (x:=vl) rfl (wpAny_bind (wpAny_field hos hds (x:=vu) rfl (wpAny_bind (wpAny_field hos hds (x:=.none) rfl (wpAny_pure ?_)))))))
  refine wpAny_bind (slicePart_none ?_)
  show wpAny _ _ (if ((1:Int) == 0)=true then _ else _) _ _ s
  rw [if_neg (by decide)]
  refine wpAny_bind (nG pl (wpAny_bind (nG pu (wpAny_bind (wpAny_pure ?_)))))
  show wpAny _ _ (match Builtin.Slice.sliceAdjust lo hi 1 (n:Int) with | (lo,hi)=>pure (lo,(1:Int),Builtin.Slice.slicePlaces lo hi 1)) _ _ s
  rw [uP lo hi n]
  show wpAny _ _ (pure (((sIx n 0 lo:Nat):Int),(1:Int),Builtin.Slice.slicePlaces ((sIx n 0 lo:Nat):Int) ((sIx n n hi:Nat):Int) 1)) _ _ s
  rw [uQ]
  exact wpAny_pure h
theorem yH (xs:Array Value)(i k:Nat):((List.range k).filterMap fun (m:Nat)=>xs[((i:Int)+(m:Int) * 1).toNat]?).toArray=((xs.toList.drop i).take k).toArray:=by
  have e:(fun (m:Nat)=>xs[((i:Int)+(m:Int) * 1).toNat]?)=fun m=>xs[i+m]?:=by
    funext m
    have:((i:Int)+(m:Int) * 1).toNat=i+m:=by omega
    rw [this]
  rw [e]
  have:=pick_run xs i k
  rw [List.filterMap_map] at this
  have e2:((fun x=>xs[x]?) ∘ fun x=>i+x)=fun m=>xs[i+m]?:=rfl
  rw [e2] at this
  rw [this]
theorem ll {t sl:Addr}{items:Array Value}{vl vu:Value}{lo hi:Option Int}{Q:Value→Shared→Prop}(ht:IsTup s.heap t items)(hs:s.heap.IsSliceOf sl vl vu .none)(pl:IsPart vl lo)(pu:IsPart vu hi)
    (hw : ¬ (sIx items.size 0 lo=0∧sIx items.size items.size hi=items.size))
    (h:Q (.ref s.heap.objs.size) { s with heap:=s.heap.push { cls:=.type "tuple",data:=.seq ((items.toList.drop (sIx items.size 0 lo)).take (sIx items.size items.size hi - sIx items.size 0 lo)).toArray } })
    (hsz:items.size≤sizeLine):wpAny (model prog w) A (getItem (.ref t) (.ref sl)) Q E s:=by
  have htake:sizeOk (.seq ((items.toList.drop (sIx items.size 0 lo)).take (sIx items.size items.size hi - sIx items.size 0 lo)).toArray):=by
    show ((items.toList.drop (sIx items.size 0 lo)).take (sIx items.size items.size hi - sIx items.size 0 lo)).toArray.size≤sizeLine
    rw [List.size_toArray,List.length_take,List.length_drop,Array.length_toList]
    omega
  have hj:sIx items.size items.size hi≤items.size:=yG _ _ (Nat.le_refl _) hi
  obtain ⟨os,hos,hcs,hds⟩:=id hs
  have hTs:s.TypeIs (.ref sl) "slice":=⟨os,hos,hcs⟩
  unfold getItem
  try with_reducible refine wpAny_holding ?_
  first | refine wpAny_bind (wpAny_pure ?_) | skip
  refine wpAny_bind (wpAny_sequenceKey ht.typeIs (by decide) ?_)
  refine wpAny_bind (wpAny_callSpecial?_slot (name:=Str.ofString "__getitem__") ht.typeIs PyProof.Rows.slot_tuple_getitem
    (wpAny_call_entry PyProof.Rows.slot_tuple_getitem ht.typeIs entry_tuple_getitem ?_ (args_tuple_getitem _ _)))
  show wpAny _ _ (Builtin.Tuple.tupleItemsOf (.ref t) >>= _) _ _ s
  refine wpAny_bind (tupleItemsOf_ ht ?_)
  refine wpAny_bind (wpAny_typeOf hTs ?_)
  rw [if_pos (by decide)]
  refine wpAny_bind (lS hs pl pu ?_)
  have hno : ¬ ((((sIx items.size 0 lo:Nat):Int) == 0 && (1:Int) == 1 && (sIx items.size items.size hi - sIx items.size 0 lo) == items.size)=true):=by
    intro q
    rw [Bool.and_eq_true,Bool.and_eq_true] at q
    have q1:((sIx items.size 0 lo:Nat):Int)=0:=eq_of_beq q.1.1
    have q2:sIx items.size items.size hi - sIx items.size 0 lo=items.size:=eq_of_beq q.2
    exact hw ⟨by omega,by omega⟩
  show wpAny _ _ (if (((sIx items.size 0 lo:Nat):Int) == 0 && (1:Int) == 1 && (sIx items.size items.size hi - sIx items.size 0 lo) == items.size)=true then _ else _) _ _ s
  rw [if_neg hno,yH]
  first
    | exact wpAny_bind (m:=Builtin.Tuple.tupleExact _) (wpAny_newObj_type (wpAny_pure ⟨_,rfl,wpAny_pure h⟩) htake)
    | exact wpAny_bind (m:=Builtin.Tuple.tupleExact _) (wpAny_newObj_type (wpAny_bind (wpAny_pure (wpAny_pure ⟨_,rfl,wpAny_pure h⟩))) htake)
    | exact wpAny_bind (wpAny_bind (m:=Builtin.Tuple.tupleExact _) (wpAny_newObj_type (wpAny_pure (wpAny_pure ⟨_,rfl,wpAny_pure h⟩)) htake))
    | exact wpAny_bind (wpAny_bind (m:=Builtin.Tuple.tupleExact _) (wpAny_newObj_type (wpAny_pure ⟨_,rfl,wpAny_pure h⟩) htake))
end
end HT
namespace L2
open PySem PySem.Spec PyProof.Rows
noncomputable abbrev TO:=St→Hp→(Option Int→Hp→Prop)→Prop
noncomputable def PO (X:Cx)(e:Option Expr)(t:TO):Prop :=
  ∀ (pins:List (Addr × Obj)) (s:Shared) (σ:St) (H:Hp) (Q:Option Int→Hp→Prop),Inv X pins σ H s→t σ H Q →
    wpAny (model X.prog X.w) X.A (evalPart e X.env) (fun u s'=>∃ o H',Inv X pins σ H' s'∧IsPart u o∧Q o H') X.xe s
noncomputable def vV:TO:=fun _ H Q=>Q none H
noncomputable def D3 (t:TE):TO:=fun σ H Q=>t σ H fun x H1=>∃ i,x=.int i∧Q (some i) H1
section
variable {X:Cx}{e:Expr}{te:TE}{lo hi:Option Expr}{tl th:TO}{pos p2:Pos}
theorem B6:PO X none vV:=by
  intro pins s σ H Q I h
  rw [evalPart_none]
  exact wpAny_pure ⟨none,H,I,.none,h⟩
theorem B7 (h:PE X e te):PO X (some e) (D3 te):=by
  intro pins s σ H Q I hw
  rw [evalPart_some]
  refine bH (h pins s σ H _ I hw) fun u s1 x H1 I1 r1 q1=>?_
  obtain ⟨i,rfl,q⟩:=q1
  obtain ⟨t,rfl⟩:=r1
  exact ⟨some i,H1,I1,.int i t,q⟩
noncomputable def SlR (X:Cx)(r:V→Option Int→Option Int→Hp→VK→Prop):Prop :=
  ∀ (pins:List (Addr × Obj)) (s:Shared) (σ:St) (H:Hp) (x:V) (v vl vu:Value) (lo hi:Option Int) (sl:Addr) (Q:VK),Inv X pins σ H s→RelV x v→s.heap.IsSliceOf sl vl vu .none→IsPart vl lo→IsPart vu hi→r x lo hi H Q →
    ∃ T id,typeLookup (.type T) "__getitem__"=pure (some (.builtin id))∧s.TypeIs v T∧wpAny (model X.prog X.w) X.A (getItem v (.ref sl)) (EP X pins σ Q) X.xe s
theorem SlR.or {r r':V→Option Int→Option Int→Hp→VK→Prop}(h:SlR X r)(h':SlR X r'):SlR X (fun x lo hi H Q=>r x lo hi H Q∨r' x lo hi H Q):=by
  intro pins s σ H x v vl vu lo hi sl Q I rx hs pl pu q
  rcases q with q | q
  · exact h pins s σ H x v vl vu lo hi sl Q I rx hs pl pu q
  · exact h' pins s σ H x v vl vu lo hi sl Q I rx hs pl pu q
noncomputable def tSl (r:V→Option Int→Option Int→Hp→VK→Prop)(te:TE)(tl th:TO):TE:=fun σ H Q=>te σ H fun x H1=>tl σ H1 fun l H2=>th σ H2 fun u H3=>r x l u H3 Q
theorem yI {r:V→Option Int→Option Int→Hp→VK→Prop}(hr:SlR X r)(he:PE X e te)(hl:PO X lo tl)(hu:PO X hi th):PE X (.Subscript e (.Slice lo hi none p2) pos) (tSl r te tl th):=by
  intro pins s σ H Q I h
  refine Subscript_ (bH (he pins s σ H _ I h) fun v s1 x H1 I1 r1 q1=>?_)
  refine wpAny_Slice (bH (hl pins s1 σ H1 _ I1 q1) fun vl s2 l H2 I2 pl q2=>bH (hu pins s2 σ H2 _ I2 q2) fun vu s3 u H3 I3 pu q3=>?_)
  rw [evalPart_none]
  refine wpAny_pure ?_
  have I4:Inv X pins σ H3 { s3 with heap:=s3.heap.push { cls:=.type "slice",data:=.fields #[vl,vu,.none] } }:=I3.kept (t':=s3.toks) fun b ob q=>Heap.get?_push_of_some _ q
  obtain ⟨T,id,hT,ht,hg⟩:=hr pins { s3 with heap:=s3.heap.push { cls:=.type "slice",data:=.fields #[vl,vu,.none] } } σ H3 x v vl vu l u s3.heap.objs.size Q I4 r1 (Heap.IsSliceOf.new ..) pl pu q3
  show wpAny (model X.prog X.w) X.A (subscriptTail e (.Slice lo hi none p2) v (.ref s3.heap.objs.size)) (EP X pins σ Q) X.xe { s3 with heap:=s3.heap.push { cls:=.type "slice",data:=.fields #[vl,vu,.none] } }
  exact tail_any (ops:=[.ref s3.heap.objs.size,v]) ht hT hg (by with_unfolding_all rfl)
noncomputable def sN (xs:List V)(lo hi:Option Int):List V:=(xs.drop (HT.sIx xs.length 0 lo)).take (HT.sIx xs.length xs.length hi - HT.sIx xs.length 0 lo)
theorem mG (xs:List V)(lo hi:Option Int):(sN xs lo hi).length≤xs.length:=by
  unfold sN
  rw [List.length_take,List.length_drop]
  omega
noncomputable def Hv (K:PySem.W.Frag):V→Option Int→Option Int→Hp→VK→Prop:=fun x lo hi H Q=>∃ a xs,x=.ref a∧SqT K H a xs ∧
  ¬ (HT.sIx xs.length 0 lo=0∧HT.sIx xs.length xs.length hi=xs.length)∧∀ p,H p=none→Q (.ref p) (upd H p (.tup (sN xs lo hi)))
theorem Ej:SlR X (Hv X.K):=by
  intro pins s σ H x v vl vu lo hi sl Q I rx hs pl pu h
  obtain ⟨a,xs,rfl,hx,hw,q⟩:=h
  cases rx
  obtain ⟨its,r,ht,hz⟩:=I.tuple hx
  have hlen:its.toArray.size=xs.length:=by rw [List.size_toArray]; exact r.length.symm
  refine ⟨"tuple",_,PyProof.Rows.slot_tuple_getitem.lookup,ht.typeIs, ?_⟩
  refine HT.ll ht hs pl pu (by rw [hlen]; exact hw) ?_ (by rw [hlen]; exact hz)
  rw [hlen]
  refine ⟨.ref s.heap.objs.size,_,I.laid (t':=s.toks) (o:=.tup (sN xs lo hi)) (fun b ob q=>Heap.get?_push_of_some _ q) (Nat.le_refl _) ?_,rfl,q _ (I.hok.fresh (Nat.le_refl _))⟩
  exact ⟨Nat.le_trans (mG xs lo hi) hz,_,(r.drop (HT.sIx xs.length 0 lo)).take (HT.sIx xs.length xs.length hi - HT.sIx xs.length 0 lo),IsTup.new _ _⟩
noncomputable def yJ (K:PySem.W.Frag):R2:=fun x y H Q=>∃ a b xs ys,x=.ref a∧y=.ref b∧SqT K H a xs∧SqT K H b ys∧xs≠[]∧xs.length+ys.length≤sizeLine ∧
  (ys=[]→Q (.ref a) H)∧(ys≠[]→∀ p,H p=none→Q (.ref p) (upd H p (.tup (xs++ys))))
theorem Vals.rg {xs:List V}{us:List Value}(r:Vals xs us):us=[]↔xs=[]:=by
  cases r with
  | nil=>simp
  | cons _ _=>simp
theorem vW:OpR X (binaryOp .Add) (yJ X.K):=by
  intro pins s σ H x y v u Q I rx ry h
  obtain ⟨a,b,xs,ys,rfl,rfl,ha,hb,hx,hz,q1,q2⟩:=h
  cases rx
  cases ry
  obtain ⟨its,r1,p1,_⟩:=I.tuple ha
  obtain ⟨its2,r2,p2,_⟩:=I.tuple hb
  refine HT.B5 p1 p2 (fun z=>hx (r1.rg.mp z)) (fun z=>⟨.ref a,H,I,rfl,q1 (r2.rg.mp z)⟩) (fun z=>?_) (by rw [← r1.length, ← r2.length]; exact hz)
  refine ⟨.ref s.heap.objs.size,_,I.laid (t':=s.toks) (o:=.tup (xs++ys)) (fun b ob q=>Heap.get?_push_of_some _ q) (Nat.le_refl _) ?_,rfl,q2 (fun w=>z (r2.rg.mpr w)) _ (I.hok.fresh (Nat.le_refl _))⟩
  exact ⟨by rw [List.length_append]; exact hz,_,r1.append r2,IsTup.new _ _⟩
end
end L2
namespace L2
open PySem PySem.Spec PyProof.Rows
noncomputable def ixN (n:Nat)(i:Int):Option Nat:=if 0≤i then (if i<n then some i.toNat else none) else if -(n:Int)≤i then some (i+n).toNat else none
noncomputable def atI {α:Type}(xs:List α)(i:Int):Option α:=(ixN xs.length i).bind fun j=>xs[j]?
theorem vX {n:Nat}{i:Int}{j:Nat}(h:ixN n i=some j):seqIndex? i n=some j∧j<n∧-(n:Int)≤i∧i<n:=by
  unfold ixN at h
  by_cases h0 : 0≤i
  · rw [if_pos h0] at h
    by_cases h1:i<n
    · rw [if_pos h1] at h
      have e:i.toNat=j:=Option.some.inj h
      exact ⟨by rw [seqIndex_of h0 h1,e],by omega,by omega,h1⟩
    · rw [if_neg h1] at h; cases h
  · rw [if_neg h0] at h
    by_cases h1 : -(n:Int)≤i
    · rw [if_pos h1] at h
      have e:(i+n).toNat=j:=Option.some.inj h
      exact ⟨by rw [seqIndex_neg (by omega) h1,e],by omega,h1,by omega⟩
    · rw [if_neg h1] at h; cases h
theorem rh {α:Type}{xs:List α}{i:Int}{v : α}(h:atI xs i=some v) : ∃ j,seqIndex? i xs.length=some j∧xs[j]?=some v∧j<xs.length∧-(xs.length:Int)≤i∧i<xs.length:=by
  unfold atI at h
  cases e:ixN xs.length i with
  | none=>rw [e] at h; cases h
  | some j =>
    rw [e] at h
    obtain ⟨h1,h2,h3,h4⟩:=vX e
    exact ⟨j,h1,h,h2,h3,h4⟩
noncomputable def vY (b:Expr):Prop:=∀ o i,subscripted b false o i=operate [o,i] (getItem o i)
noncomputable def IxR (X:Cx)(r:R2):Prop :=
  ∀ (value slice:Expr) (pins:List (Addr × Obj)) (s:Shared) (σ:St) (H:Hp) (x y:V) (v u:Value) (Q:VK),Inv X pins σ H s→RelV x v→RelV y u→r x y H Q →
    subscripted slice false v u=operate [v,u] (getItem v u)→wpAny (model X.prog X.w) X.A (subscriptTail value slice v u) (EP X pins σ Q) X.xe s
noncomputable def MtR (X:Cx)(id:String)(r:V→List V→Hp→VK→Prop):Prop :=
  ∀ (pins:List (Addr × Obj)) (s:Shared) (σ:St) (H:Hp) (x:V) (xs:List V) (v:Value) (us:List Value) (Q:VK),Inv X pins σ H s→RelV x v→Vals xs us→r x xs H Q →
    wpAny (model X.prog X.w) X.A (call (.builtin id) (v::us)) (EP X pins σ Q) X.xe s
section
variable {X:Cx}{a b:Expr}{ta tb:TE}{pos:Pos}
theorem IxR.or {r r':R2}(h:IxR X r)(h':IxR X r'):IxR X (fun x y H Q=>r x y H Q∨r' x y H Q):=by
  intro value slice pins s σ H x y v u Q I rx ry q hs
  rcases q with q | q
  · exact h value slice pins s σ H x y v u Q I rx ry q hs
  · exact h' value slice pins s σ H x y v u Q I rx ry q hs
theorem Hw {r:R2}(hr:IxR X r)(ha:PE X a ta)(hb:PE X b tb)(hs:vY b):PE X (.Subscript a b pos) (tOp r ta tb):=by
  intro pins s σ H Q I h
  exact Subscript_ (AZ ha hb I h fun v u s2 x y H2 I2 rx ry q=>hr a b pins s2 σ H2 x y v u Q I2 rx ry q (hs _ _))
noncomputable def Hx (K:PySem.W.Frag):R2:=fun x y H Q=>∃ p xs i v,x=.ref p∧y=.int i∧SqL K H p xs∧atI xs i=some v∧Q v H
noncomputable def Hy (K:PySem.W.Frag):R2:=fun x y H Q=>∃ p xs i v,x=.ref p∧y=.int i∧SqT K H p xs∧atI xs i=some v∧Q v H
noncomputable def Hz:R2:=fun x y H Q=>∃ z i c,x=.str z∧y=.int i∧z.length≤sizeLine∧atI z.cps.toList i=some c∧Q (.str ⟨#[c]⟩) H
theorem B8:IxR X (Hx X.K):=by
  intro value slice pins s σ H x y v u Q I rx ry h hs
  obtain ⟨p,xs,i,z,rfl,rfl,hq,he,q⟩:=h
  cases rx
  obtain ⟨t,rfl⟩:=ry
  obtain ⟨its,r,pl,hz⟩:=I.list hq
  obtain ⟨j,h1,h2,h3,h4,h5⟩:=rh he
  obtain ⟨w,ew,rw'⟩:=r.get h2
  have hl:=r.length
  have hn:=nE
  have fin:EP X pins σ Q w s:=⟨z,H,I,rw',q⟩
  by_cases h0 : 0≤i
  · have hj:i.toNat=j:=by
      rw [seqIndex_of h0 h5] at h1
      exact Option.some.inj h1
    exact item_listR pl.isList h0 (by omega) (by rw [hj]; simpa using ew) fin hs
  · have hj:(i+(its.toArray.size:Int)).toNat=j:=by
      rw [seqIndex_neg (by omega) h4] at h1
      rw [List.size_toArray, ← hl]
      exact Option.some.inj h1
    exact subscriptTail_builtinR (x:=w) pl.isList.typeIs slot_list_getitem.lookup
      (wpAny_getItem_list_neg (Q:=fun r s'=>r=w∧EP X pins σ Q r s') pl.isList (by omega) (by rw [List.size_toArray] <;> omega) (by omega) (by rw [hj]; simpa using ew) ⟨rfl,fin⟩) hs
theorem Ek:IxR X (Hy X.K):=by
  intro value slice pins s σ H x y v u Q I rx ry h hs
  obtain ⟨p,xs,i,z,rfl,rfl,hq,he,q⟩:=h
  cases rx
  obtain ⟨t,rfl⟩:=ry
  obtain ⟨its,r,pl,hz⟩:=I.tuple hq
  obtain ⟨j,h1,h2,h3,h4,h5⟩:=rh he
  obtain ⟨w,ew,rw'⟩:=r.get h2
  have hl:=r.length
  have hn:=nE
  have fin:EP X pins σ Q w s:=⟨z,H,I,rw',q⟩
  exact subscriptTail_builtinR (x:=w) pl.typeIs slot_tuple_getitem.lookup
    (getItem_tuple (j:=j) (Q:=fun r s'=>r=w∧EP X pins σ Q r s') pl (by omega) (by omega) (by rw [List.size_toArray, ← hl]; exact h1) (by simpa using ew) ⟨rfl,fin⟩) hs
theorem El:IxR X Hz:=by
  intro value slice pins s σ H x y v u Q I rx ry h hs
  obtain ⟨z,i,c,rfl,rfl,hz,he,q⟩:=h
  obtain ⟨t,rfl⟩:=rx
  obtain ⟨t',rfl⟩:=ry
  obtain ⟨j,h1,h2,h3,h4,h5⟩:=rh he
  have hl:z.cps.toList.length=z.length:=by simp [Str.length]
  rw [hl] at h1 h4 h5
  have hn:=nE
  exact tail_any (typeIs_str s z t) slot_str_getitem.lookup (getItem_str (c:=c) (by
    have e1:decide (i < -(2 ^ 63:Int))=false:=decide_eq_false (by omega)
    have e2:decide (i ≥ 2 ^ 63)=false:=decide_eq_false (by omega)
    rw [e1,e2,Bool.or_false]) (by rw [h1]; simpa using h2) ⟨.str ⟨#[c]⟩,H,I.tok _,⟨_,rfl⟩,q⟩) hs
noncomputable def rIx (K:PySem.W.Frag):R2:=fun x y H Q=>Hx K x y H Q∨Hy K x y H Q∨Hz x y H Q
theorem Em:IxR X (rIx X.K):=B8.or (Ek.or El)
theorem uR (its:List Value)(n j:Nat)(u:Value):Obj.mapSeq (·.setIfInBounds j u) { cls:=.type "list",data:=.seq its.toArray n }={ cls:=.type "list",data:=.seq (its.set j u).toArray n }:=by
  simp [Obj.mapSeq]
theorem Inv.lst {pins:List (Addr × Obj)}{σ:St}{H:Hp}{s:Shared}{p:Addr}{xs:List V}(I:Inv X pins σ H s)(h:H p=some (.lst xs)) :
    ∃ (its:List Value) (n:Nat),Vals xs its∧s.heap.get? p=some { cls:=.type "list",data:=.seq its.toArray n }∧xs.length≤sizeLine:=by
  obtain ⟨z,its,n,r,e⟩:=I.hok p _ h
  exact ⟨its,n,r,e,z⟩
theorem Inv.En {pins:List (Addr × Obj)}{σ:St}{H:Hp}{s:Shared}{p:Addr}{xs ys:List V}{its its':List Value}{n n':Nat}{f:Obj→Obj}(I:Inv X pins σ H s)(h:H p=some (.lst xs))
    (ho:s.heap.get? p=some { cls:=.type "list",data:=.seq its.toArray n }) (hf:f { cls:=.type "list",data:=.seq its.toArray n }={ cls:=.type "list",data:=.seq its'.toArray n' }) (r:Vals ys its') (hz:ys.length≤sizeLine) (t:Nat) :
    Inv X pins σ (upd H p (.lst ys)) { s with heap:=s.heap.update p f,toks:=t }:=by
  have e:(s.heap.update p f).get? p=some { cls:=.type "list",data:=.seq its'.toArray n' }:=by
    rw [Heap.get?_update_self f ho (by rw [hf] <;> rfl),hf]
  refine I.write (x:=p) (e:=p) (by rw [h]; trivial) (.inl rfl) (fun b u hb q=>(Heap.get?_update_other _ _ (Ne.symm hb)).trans q) ⟨_,e⟩ ?_
  exact ⟨hz,its',n',r,e⟩
noncomputable def D4:V→V→V→Hp→(Hp→Prop)→Prop:=fun o i v H Q=>∃ p xs k j,o=.ref p∧i=.int k∧H p=some (.lst xs)∧ixN xs.length k=some j∧Q (upd H p (.lst (xs.set j v)))
theorem set_list:Hm X D4:=by
  intro pins s σ H o i v ov iv u Q I ro ri rv h
  obtain ⟨p,xs,k,j,rfl,rfl,hp,hj,q⟩:=h
  cases ro
  obtain ⟨t,rfl⟩:=ri
  obtain ⟨its,n,r,ho,hz⟩:=I.lst hp
  obtain ⟨h1,h2,h3,h4⟩:=vX hj
  have hl:=r.length
  have hn:=nE
  have I':Inv X pins σ (upd H p (.lst (xs.set j v))) { s with heap:=s.heap.update p (Obj.mapSeq (·.setIfInBounds j u)) } :=
    I.En hp ho (uR its n j u) (r.set rv j) (by rw [List.length_set]; exact hz) s.toks
  by_cases h0 : 0≤k
  · have hk:k.toNat=j:=by
      rw [seqIndex_of h0 h4] at h1
      exact Option.some.inj h1
    exact PySem.W.ki_setAt ho h0 (by omega) (by rw [List.size_toArray, ← hl]; exact h4) (by rw [hk]; exact ⟨_,I',q⟩)
  · have hk:(k+(its.toArray.size:Int)).toNat=j:=by
      rw [seqIndex_neg (by omega) h3] at h1
      rw [List.size_toArray, ← hl]
      exact Option.some.inj h1
    exact PySem.W.ki_setBack ho (by omega) (by rw [List.size_toArray, ← hl]; exact h3) (by omega) (by rw [hk]; exact ⟨_,I',q⟩)
theorem rj (lo hi:Option Int)(n:Nat):(sliceBounds lo hi none n).1=((HT.sIx n 0 lo:Nat):Int)∧(sliceBounds lo hi none n).2.1=((HT.sIx n n hi:Nat):Int)∧(sliceBounds lo hi none n).2.2=1:=by
  refine ⟨?_, ?_,rfl⟩
  · cases lo with
    | none=>simp [sliceBounds,HT.sIx]
    | some i =>
      simp only [sliceBounds,HT.sIx,Option.getD_none,show (1:Int) > 0 by decide,if_true]
      by_cases h:i<0
      · simp only [h,if_true] <;> omega
      · simp only [h,if_false] <;> omega
  · cases hi with
    | none=>simp [sliceBounds,HT.sIx]
    | some i =>
      simp only [sliceBounds,HT.sIx,Option.getD_none,show (1:Int) > 0 by decide,if_true]
      by_cases h:i<0
      · simp only [h,if_true] <;> omega
      · simp only [h,if_false] <;> omega
theorem pE (its:List Value)(lo hi:Option Int):slicePick its.toArray lo hi none=((its.drop (HT.sIx its.length 0 lo)).take (HT.sIx its.length its.length hi - HT.sIx its.length 0 lo)).toArray:=by
  obtain ⟨h1,h2,h3⟩:=rj lo hi its.toArray.size
  unfold slicePick
  rw [h1,h2,h3]
  simp only [sliceRange_one,pick_run,List.size_toArray] <;> rfl
noncomputable def HA (K:PySem.W.Frag):V→Option Int→Option Int→Hp→VK→Prop:=fun x lo hi H Q=>∃ a xs,x=.ref a∧SqL K H a xs∧∀ p,H p=none→Q (.ref p) (upd H p (.lst (sN xs lo hi)))
theorem B9:SlR X (HA X.K):=by
  intro pins s σ H x v vl vu lo hi sl Q I rx hs pl pu h
  obtain ⟨a,xs,rfl,hx,q⟩:=h
  cases rx
  obtain ⟨its,r,ht,hz⟩:=I.list hx
  have hlen:=r.length
  refine ⟨"list",_,slot_list_getitem.lookup,ht.isList.typeIs, ?_⟩
  refine wpAny_getItem_list_slice ht.isList hs pl pu .none (by simp) ?_ (by rw [List.size_toArray] <;> omega)
  rw [pE, ← hlen]
  refine ⟨.ref s.heap.objs.size,_,I.laid (t':=s.toks) (o:=.lst (sN xs lo hi)) (fun b ob q=>Heap.get?_push_of_some _ q) (Nat.le_refl _) ?_,rfl,q _ (I.hok.fresh (Nat.le_refl _))⟩
  exact ⟨Nat.le_trans (mG xs lo hi) hz,_,0,(r.drop (HT.sIx xs.length 0 lo)).take (HT.sIx xs.length xs.length hi - HT.sIx xs.length 0 lo),Heap.get?_push_size _ rfl⟩
noncomputable def kc:V→Bool
  | .non=>true
  | .bl _=>true
  | .int _=>true
  | .str _=>true
  | _=>false
noncomputable def eqV:V→V→Bool
  | .non,.non=>true
  | .bl a,.bl b=>a == b
  | .bl a,.int b=>(if a then 1 else 0) == b
  | .int a,.bl b=>a == (if b then 1 else 0)
  | .int a,.int b=>a == b
  | .str a,.str b=>a == b
  | _,_=>false
theorem Eo {A:Around}{s:Shared}{y x:V}{u v:Value}(ry:RelV y u)(rx:RelV x v)(fy:kc y=true)(fx:kc x=true):SeqAt.EqAt A s u v (eqV y x):=by
  cases y with
  | non =>
    cases ry
    cases x with
    | non=>cases rx; exact SeqAt.EqAt.same _
    | bl b=>cases rx; exact SeqAt.EqAt.none_bool b
    | int b=>obtain ⟨t,rfl⟩:=rx; exact SeqAt.EqAt.none_int b t
    | str b=>obtain ⟨t,rfl⟩:=rx; exact SeqAt.EqAt.none_str b t
    | _=>exact absurd (show false=true from fx) Bool.false_ne_true
  | bl a =>
    cases ry
    cases x with
    | non=>cases rx; exact SeqAt.EqAt.bool_none a
    | bl b=>cases rx; exact SeqAt.EqAt.bool_bool a b
    | int b=>obtain ⟨t,rfl⟩:=rx; exact SeqAt.EqAt.bool_int a b t
    | str b=>obtain ⟨t,rfl⟩:=rx; exact SeqAt.EqAt.bool_str a b t
    | _=>exact absurd (show false=true from fx) Bool.false_ne_true
  | int a =>
    obtain ⟨t',rfl⟩:=ry
    cases x with
    | non=>cases rx; exact SeqAt.EqAt.int_none a t'
    | bl b=>cases rx; exact SeqAt.EqAt.int_bool a t' b
    | int b=>obtain ⟨t,rfl⟩:=rx; exact SeqAt.EqAt.int_int a t' b t
    | str b=>obtain ⟨t,rfl⟩:=rx; exact SeqAt.EqAt.int_str a t' b t
    | _=>exact absurd (show false=true from fx) Bool.false_ne_true
  | str a =>
    obtain ⟨t',rfl⟩:=ry
    cases x with
    | non=>cases rx; exact SeqAt.EqAt.str_none a t'
    | bl b=>cases rx; exact SeqAt.EqAt.str_bool a t' b
    | int b=>obtain ⟨t,rfl⟩:=rx; exact SeqAt.EqAt.str_int a t' b t
    | str b=>obtain ⟨t,rfl⟩:=rx; exact SeqAt.EqAt.str_str a t' b t
    | _=>exact absurd (show false=true from fx) Bool.false_ne_true
  | _=>exact absurd (show false=true from fy) Bool.false_ne_true
noncomputable def eqU (x:V)(u:Value):Bool:=match u with
  | .none=>eqV .non x
  | .bool b=>eqV (.bl b) x
  | .int i _=>eqV (.int i) x
  | .str z _=>eqV (.str z) x
  | _=>false
theorem yK {x y:V}{u:Value}(r:RelV y u)(f:kc y=true):eqU x u=eqV y x:=by
  cases y with
  | non=>cases r; rfl
  | bl b=>cases r; rfl
  | int i=>obtain ⟨t,rfl⟩:=r; rfl
  | str z=>obtain ⟨t,rfl⟩:=r; rfl
  | _=>exact absurd (show false=true from f) Bool.false_ne_true
theorem rm {x:V} : ∀ {xs:List V} {us:List Value},Vals xs us→xs.all kc=true→us.any (eqU x)=xs.any fun y=>eqV y x
  | _,_,.nil,_=>rfl
  | y::xs,u::us,.cons r t,f=>by
    rw [List.all_cons,Bool.and_eq_true] at f
    rw [List.any_cons,List.any_cons,yK r f.1,rm t f.2]
theorem nH {A:Around}{s:Shared}{x:V}{v:Value}(rx:RelV x v)(fx:kc x=true) : ∀ {xs:List V} {us:List Value},Vals xs us→xs.all kc=true→∀ u∈us,SeqAt.EqAt A s u v (eqU x u)
  | _,_,.nil,_=>fun u hu=>by cases hu
  | y::xs,u::us,.cons r t,f=>fun u' hu=>by
    rw [List.all_cons,Bool.and_eq_true] at f
    rcases List.mem_cons.mp hu with rfl | hu
    · rw [yK r f.1]; exact Eo r rx f.1 fx
    · exact nH rx fx t f.2 u' hu
noncomputable def inV (x:V)(xs:List V):Bool:=xs.any fun y=>eqV y x
noncomputable def rIn (K:PySem.W.Frag)(neg:Bool):R2:=fun x y H Q=>∃ p xs,y=.ref p∧(SqL K H p xs∨SqT K H p xs)∧kc x=true∧xs.all kc=true∧Q (.bl (if neg then !inV x xs else inV x xs)) H
theorem x6:OpR X (compareOp .In) (rIn X.K false):=by
  intro pins s σ H x y v u Q I rx ry h
  obtain ⟨p,xs,rfl,hq,fx,fs,q⟩:=h
  cases ry
  rcases hq with hq | hq
  · obtain ⟨its,r,pl,hz⟩:=I.list hq
    refine SeqAt.in_listAt (eqU x) pl.isList (fun w hw=>nH rx fx r fs w (by simpa using hw)) ⟨.bl _,H,I,rfl, ?_⟩
    rw [show its.toArray.any (eqU x)=its.any (eqU x) by simp,rm r fs]
    exact q
  · obtain ⟨its,r,pl,hz⟩:=I.tuple hq
    refine SeqAt.in_tupleAt (eqU x) pl (fun w hw=>nH rx fx r fs w (by simpa using hw)) ⟨.bl _,H,I,rfl, ?_⟩
    rw [show its.toArray.any (eqU x)=its.any (eqU x) by simp,rm r fs]
    exact q
theorem rn:iL X (.type "list") (fun xs H Q=>∃ p ys,xs=[.ref p]∧(SqL X.K H p ys∨SqT X.K H p ys)∧∀ l,H l=none→Q (.ref l) (upd H l (.lst ys))):=by
  intro pins s σ H xs us Q I r h
  obtain ⟨p,ys,rfl,hq,q⟩:=h
  obtain ⟨u,rfl,rx⟩:=vals1 r
  cases rx
  have fin : ∀ (its:List Value),Vals ys its→ys.length≤sizeLine→∀ (h':Heap) (c':Nat),(∀ b o',s.heap.get? b=some o'→h'.get? b=some o') →
      h'.get? s.heap.objs.size=some { cls:=.type "list",dict:=none,data:=.seq its.toArray c',slots:=#[] }→EP X pins σ Q (.ref s.heap.objs.size) { s with heap:=h' }:=fun its r' hz h' c' kp e =>
    ⟨.ref s.heap.objs.size,_,I.laid (t':=s.toks) kp (Nat.le_refl _) (show dU X.prog X.w _ h' _ (.lst ys) from ⟨hz,its,c',r',e⟩),rfl,q _ (I.hok.fresh (Nat.le_refl _))⟩
  rcases hq with hq | hq
  · obtain ⟨its,r',pl,hz⟩:=I.list hq
    have hlen:=r'.length
    obtain ⟨o,ho,hc,n,hd⟩:=pl.isList
    exact call_list_seq p (.inl rfl) ho hc hd (fun h' c' kp e=>fin its r' hz h' c' kp e) (by simp only [List.size_toArray] <;> omega)
  · obtain ⟨its,r',pl,hz⟩:=I.tuple hq
    have hlen:=r'.length
    obtain ⟨o,ho,hc,n,hd⟩:=pl
    exact call_list_seq p (.inr rfl) ho hc hd (fun h' c' kp e=>fin its r' hz h' c' kp e) (by simp only [List.size_toArray] <;> omega)
theorem pF:iL X (.type "tuple") (fun xs H Q=>∃ p ys,xs=[.ref p]∧((SqL X.K H p ys∧∀ l,H l=none→Q (.ref l) (upd H l (.tup ys)))∨(SqT X.K H p ys∧Q (.ref p) H))):=by
  intro pins s σ H xs us Q I r h
  obtain ⟨p,ys,rfl,h⟩:=h
  obtain ⟨u,rfl,rx⟩:=vals1 r
  cases rx
  rcases h with ⟨hq,q⟩ | ⟨hq,q⟩
  · obtain ⟨its,r',pl,hz⟩:=I.list hq
    have hlen:=r'.length
    refine call_tuple_list pl.isList (fun h' kp=>?_) (by simp only [List.size_toArray] <;> omega)
    have I1:Inv X pins σ H { s with heap:=h' }:=I.kept (t':=s.toks) kp
    have I2:Inv X pins σ (upd H h'.objs.size (.tup ys)) { s with heap:=h'.push { cls:=.type "tuple",data:=.seq its.toArray } } :=
      I1.laid (t':=s.toks) (fun b o e=>Heap.get?_push_of_some _ e) (Nat.le_refl _) (show dU X.prog X.w _ _ _ (.tup ys) from ⟨hz,its,r',IsTup.new _ _⟩)
    exact ⟨.ref h'.objs.size,_,I2,rfl,q _ (I1.hok.fresh (Nat.le_refl _))⟩
  · obtain ⟨its,r',pl,hz⟩:=I.tuple hq
    exact call_tuple_same pl ⟨.ref p,H,I,rfl,q⟩
noncomputable def tyV (K:PySem.W.Frag)(T:String)(x:V)(H:Hp):Prop:=match x with
  | .str _=>T="str"
  | .int _=>T="int"
  | .ref p=>(T="list"∧∃ xs,SqL K H p xs)∨(T="tuple"∧∃ o,K.lookup p=some o∧o.cls=.type "tuple"∧o.dict=none) ∨
      (T="dict"∧((∃ kvs,H p=some (.dK kvs))∨∃ kvs,H p=some (.dT kvs)))∨(T="set"∧∃ S n,H p=some (.set S n))
  | _=>False
theorem Ep {pins:List (Addr × Obj)}{σ:St}{H:Hp}{s:Shared}{T:String}{x:V}{v:Value}(I:Inv X pins σ H s)(r:RelV x v)(ty:tyV X.K T x H) :
    s.TypeIs v T∧∀ a,v=.ref a→∃ ob,s.heap.get? a=some ob∧ob.dict=none:=by
  cases x with
  | str z =>
    obtain ⟨t,rfl⟩:=r
    cases (show T="str" from ty)
    exact ⟨typeIs_str s z t,fun _ e=>nomatch e⟩
  | int i =>
    obtain ⟨t,rfl⟩:=r
    cases (show T="int" from ty)
    exact ⟨typeIs_int s i t,fun _ e=>nomatch e⟩
  | ref p =>
    cases r
    rcases ty with ⟨rfl,xs,hq⟩ | ⟨rfl,o,hk,hc,hd⟩ | ⟨rfl,hk⟩ | ⟨rfl,S,n,hk⟩
    · obtain ⟨its,_,pl,_⟩:=I.list hq
      refine ⟨pl.isList.typeIs,fun a e=>?_⟩
      cases e
      obtain ⟨o,n,e,c,hd,_⟩:=pl
      exact ⟨o,e,hd⟩
    · refine ⟨⟨o,I.kIn p o hk,hc⟩,fun a e=>?_⟩
      cases e
      exact ⟨o,I.kIn _ o hk,hd⟩
    · have z : ∃ o,s.heap.get? p=some o∧o.ExactDict:=by
        rcases hk with ⟨kvs,hk⟩ | ⟨kvs,hk⟩
        · obtain ⟨_,_,_,_,o,_,_,e,ex,_⟩:=I.hok p _ hk
          exact ⟨o,e,ex⟩
        · obtain ⟨_,_,_,_,o,_,_,e,ex,_⟩:=I.hok p _ hk
          exact ⟨o,e,ex⟩
      obtain ⟨o,e,ex⟩:=z
      refine ⟨⟨o,e,ex.1⟩,fun a e2=>?_⟩
      cases e2
      exact ⟨o,e,ex.2.1⟩
    · obtain ⟨o,_,_,_,e,ex,_⟩:=I.hok p _ hk
      refine ⟨⟨o,e,ex.1⟩,fun a e2=>?_⟩
      cases e2
      exact ⟨o,e,ex.2.1⟩
  | _=>exact False.elim ty
noncomputable def tBM (K:PySem.W.Frag)(T:String)(r:V→List V→Hp→VK→Prop)(to:TE)(t:TA):TE:=fun σ H Q=>to σ H fun x H1=>tyV K T x H1∧t σ H1 fun xs H2=>r x xs H2 Q
variable {o e:Expr}{es:List Expr}{to:TE}{t:TA}{name:Str}{apos cpos:Pos}{T id:String}{r:V→List V→Hp→VK→Prop}
theorem D5 (pa:PlainAttrs T)(slot:Slot T name id)(hty:typeOf (.builtin id)=pure (.type "method_descriptor"))(hm:MtR X id r)(ho:PE X o to)(ha:PA X (e::es) t)
    (hbase:attributeBase o name X.env (eval o X.env)=eval o X.env:=by rfl)
    (hfew:((backTo cpos (starEach (e::es) X.env)).all (fun x=>!x.1) && (backToKw cpos (keywordEach [] X.env)).all (fun x=>x.1.isSome)
      && decide ((e::es).length+([]:List Keyword).length+(if ([]:List Keyword).isEmpty then 0 else 1)<30))=true:=by rfl)
    (hline:(apos.endLine == cpos.line)=true:=by rfl) (hs:starEach (e::es) X.env=(false,eval e X.env)::starEach es X.env:=by rfl) (hplain:(backTo cpos (starEach es X.env)).any (·.1)=false:=by rfl) :
    PE X (.Call (.Attribute o name apos) (e::es) [] cpos) (tBM X.K T r to t):=by
  intro pins s σ H Q I h
  refine wpAny_Call_method_late hbase hfew hline rfl (bH (ho pins s σ H _ I h) fun v s1 x H1 I1 r1 zz_=>?_)
  obtain ⟨ty,q1⟩:=zz_
  obtain ⟨h1,h2⟩:=Ep I1 r1 ty
  refine ⟨T,id,pa,slot,hty,h1,h2, ?_⟩
  have hA:=ha cpos pins s1 σ H1 _ I1 q1
  rw [hs] at hA ⊢
  refine Calls.callWith_builtin (by show (false || (backTo cpos (starEach es X.env)).any (·.1))=false; rw [hplain] <;> rfl) (Calls.evalArgs_plain ?_)
  exact bH hA fun us s2 vs H2 I2 r2 q2=>hm pins s2 σ H2 x vs v us Q I2 r1 r2 q2
/- xs.append(e),list.index on a module's tuple .. are MtR facts of 06m -/
end
end L2
namespace L2
open PySem PySem.Spec PyProof.Rows
noncomputable def MtM (X:Cx)(id:String)(r:V→List V→Hp→VK→Prop):Prop :=
  ∀ (pins:List (Addr × Obj)) (s:Shared) (σ:St) (H:Hp) (x:V) (xs:List V) (v:Value) (us:List Value) (Q:VK),Inv X pins σ H s→RelV x v→Vals xs us→r x xs H Q →
    wpAny (model X.prog X.w) X.A (call (.builtin id) (v::us)) (EP X pins σ Q) X.xe s
theorem Vals.one : ∀ {x:V} {us:List Value},Vals [x] us→∃ u,us=[u]∧RelV x u
  | _,_,.cons r .nil=>⟨_,rfl,r⟩
theorem Vals.two : ∀ {x y:V} {us:List Value},Vals [x,y] us→∃ u v,us=[u,v]∧RelV x u∧RelV y v
  | _,_,_,.cons r (.cons q .nil)=>⟨_,_,rfl,r,q⟩
section
variable {X:Cx}{pins:List (Addr × Obj)}{σ:St}{H:Hp}{s:Shared}{l b:Addr}{xs ys zs:List V}
theorem Inv.HB {its its':List Value}{n:Nat}{f:Array Value→Array Value}{t':Nat}(I:Inv X pins σ H s)(hH:H l=some (.lst xs))
    (e:s.heap.get? l=some { cls:=.type "list",data:=.seq its.toArray n }) (hf:f its.toArray=its'.toArray) (hv:Vals ys its') (hz:ys.length≤sizeLine) :
    Inv X pins σ (upd H l (.lst ys)) { s with heap:=s.heap.update l (Obj.mapSeq f),toks:=t' }:=by
  have q:=PySem.IsL.update e f
  rw [hf] at q
  refine I.write (x:=l) (e:=l) (by rw [hH]; exact trivial) (.inl rfl) (fun b' u hb hu=>(Heap.get?_update_other s.heap (Obj.mapSeq f) (Ne.symm hb)).trans hu) ⟨_,q⟩ ?_
  exact ⟨hz,its',_,hv,q⟩
theorem Inv.JV {its:List Value}{t':Nat}(I:Inv X pins σ H s)(hv:Vals ys its)(hz:ys.length≤sizeLine) :
    Inv X pins σ (upd H s.heap.objs.size (.lst ys)) { s with heap:=s.heap.push { cls:=.type "list",data:=.seq its.toArray },toks:=t' } :=
  I.laid (fun _ _ q=>Heap.get?_push_of_some _ q) (Nat.le_refl _) ⟨hz,its,0,hv,Heap.get?_push_size _ rfl⟩
theorem Inv.fresh (I:Inv X pins σ H s):H s.heap.objs.size=none:=I.hok.fresh (Nat.le_refl _)
theorem Inv.HC (I:Inv X pins σ H s)(hH:H l=some (.lst xs)):xs.length≤sizeLine∧∃ (its:List Value) (n:Nat),Vals xs its∧xs.length=its.length∧s.heap.get? l=some { cls:=.type "list",data:=.seq its.toArray n }:=by
  obtain ⟨z,its,n,r,e⟩:=I.hok l _ hH
  exact ⟨z,its,n,r,r.length,e⟩
theorem yL {n:Nat}(h:n≤sizeLine):Builtin.List.listTooLong n=false:=by
  unfold Builtin.List.listTooLong
  exact decide_eq_false (by omega)
end
section
variable {X:Cx}
noncomputable def vZ:V→List V→Hp→VK→Prop:=fun x vs H Q=>∃ l xs y,x=.ref l∧vs=[y]∧H l=some (.lst xs)∧xs.length<sizeLine∧Q .non (upd H l (.lst (xs++[y])))
theorem x8:MtM X "list.append" vZ:=by
  intro pins s σ H x vs v us Q I rx rv h
  obtain ⟨l,xs,y,rfl,rfl,hH,hz,q⟩:=h
  cases rx
  obtain ⟨u,rfl,ru⟩:=rv.one
  obtain ⟨z,its,n,r,hl,e⟩:=I.HC hH
  refine call_meets F.slot_list_append ⟨_,e,rfl⟩ F.entry_list_append (F.args_list_append_2 _ _) (PySem.list_append l its.toArray n u (by rw [List.size_toArray]; omega)) ⟨e, ?_⟩
  refine ⟨.non,_,I.HB (its':=its++[u]) hH e (by simp) (r.append (.cons ru .nil)) ?_,rfl,q⟩
  rw [List.length_append,List.length_singleton]
  omega
end
section
variable {prog:Program}{w:World}{A:Around}{E:Value→Shared→Prop}{s:Shared}
end
section
variable {X:Cx}
end
end L2
namespace Att
open PySem PySem.W PySem.Calls PyProof.Rows
theorem mR {P:Params}{h:Heap} : ∀ (ns:List Int) (vs:List Value),WellAll P h vs (ns.map WData.int)→IntsAre vs ns:=by
  intro ns
  induction ns with
  | nil =>
    intro vs w
    rw [List.map_nil] at w
    cases w
    exact .nil
  | cons n ns ih =>
    intro vs w
    rw [List.map_cons] at w
    cases w with
    | cons a b =>
      cases a
      exact .cons _ _ (ih _ b)
theorem x9 {l:OpenLaw}{n:Nat}(hn:l.most=some n){P:Params}{h:Heap}{args:List WData}{vals:List Value}
    (hpre:l.row.toRowW.claim.pre args=true) (hwl:WellAll P h vals args) :
    ∃ a vs ns,vals=[Value.ref a]∧args=[WData.list (ns.map WData.int)]∧h.get? a=some { cls:=.type "list",data:=.seq vs.toArray }∧IntsAre vs ns∧ns.length≤n:=by
  have hsh:WShape.hasAll [] args [.list .int]=true:=(pre_splitW hpre).1
  have hc:l.pre.holds [] { args:=args }=true:=(pre_splitW hpre).2
  obtain ⟨d,r,rfl,h1,h2⟩:=hasAllW_cons hsh
  obtain rfl:=hasAllW_nil h2
  obtain ⟨xs,rfl,h3⟩:=hasW_list h1
  obtain ⟨ns,rfl⟩:=items_int h3
  have hlen:ns.length≤n:=by
    unfold OpenLaw.pre at hc
    have h4:(WTm.not (.lt (.lit (.int (n:Int))) (.len (.arg 0)))).holds [] { args:=[.list (ns.map .int)] }=true:=by
      have h4:=(holds_andW hc).1
      rw [hn] at h4
      exact h4
    have h5:=condW_of h4 (w_not (w_lt w_lit (w_len_list (w_arg rfl))))
    rw [List.length_map] at h5
    refine Nat.le_of_not_lt fun q=>?_
    have q':(n:Int)<((ns.length:Nat):Int):=by omega
    first
      | (rw [decide_eq_true q'] at h5; exact absurd h5 (by decide))
      | (simp at h5; omega)
  cases hwl with
  | cons w1 w2 =>
    cases w2
    cases w1 with
    | list ho jx=>exact ⟨_,_,ns,rfl,rfl,ho,mR ns _ jx,hlen⟩
theorem xa (l:OpenLaw)(args:List WData):l.row.toRowW.claim.post args (.bool true) args=true :=
  postW_of (r:=l.row.toRowW) (X:=(true == true))
    (show WShape.has [] (.bool true) .bool=true by first | rfl | decide | simp [WShape.has,WShape.arms,WShape.armsAll])
    (show (WTm.eq .res (.lit (.bool true))).value [] { args:=args,res:=some (.bool true),after:=args }=some (.bool (true == true)) from w_eq_bool (w_res rfl) w_lit) rfl
theorem sO {l:OpenLaw}{n:Nat}{q:Program}{loose:List Str}{XP:(Str→Option Value)→Heap→Prop}{YP:World→Heap→Prop}{d:DefRec}
    (hn:l.most=some n) (hdf:d.params.defaults=[])
    (call : ∀ (w:World) (s₀ s₁:Shared) (mg mb:Str→Option Value) (fa:Addr) (o:Obj) (pm cd doc:Value) (a:Addr) (vs:List Value) (ns:List Int),
      Ground q loose [] XP w s₀ mg mb s₁.heap→YP w s₁.heap →
      s₁.heap.get? fa=some o→o.data=.func (docDef d.name d.params d.body d.scope pm cd doc)→s₁.heap.CodeRec cd d.name→mg d.name=some (.ref fa) →
      s₁.heap.get? a=some { cls:=.type "list",data:=.seq vs.toArray }→IntsAre vs ns→ns.length≤n→s₁.gens=#[] →
      codeAny (model l.prog w) callerA (.call (.ref fa) ⟨[.ref a],[]⟩) (fun r s'=>r=.ok (.ret (.bool true))∧OldK s₁.heap s'.heap∧s'.os=s₁.os∧AllBare s'.gens) s₁) :
    WalkO q loose XP YP l.row.toRowW d [] (fun f vs=>PySem.call f vs):=by
  intro w s₀ s₁ mg mb G Y fa o pm cd doc dV kV ho hd hcd hD hmg hg args vals as hpre hlay hrd hwl hlo
  obtain rfl:dV=.none:=Dflts.none hD hdf
  obtain rfl:kV=.none:=Dflts.noKw hD
  obtain ⟨a,vs,ns,rfl,rfl,hobj,hints,hlen⟩:=x9 hn hpre hwl
  refine enter_call (codeAny_mono (call w s₀ s₁ mg mb fa o pm cd doc a vs ns G Y ho (fd_plain hd) hcd hmg hobj hints hlen hg) fun r s' hq=>?_)
  obtain ⟨rfl,h2,h3,h4⟩:=hq
  exact ⟨.inl ⟨.bool true,.bool true,[],rfl,fun _=>rfl,.bool true,xa l _,fun _=>⟨List.Pairwise.nil,fun _ hm=>(nomatch hm)⟩⟩,h2,h3,h4⟩
section
variable {prog:Program}{w:World}{A:Around}{E:Value→Shared→Prop}{s:Shared}{K:Frag}
end
end Att
namespace L2
open PySem PySem.Spec PyProof.Rows
theorem hU : ∀ {vs:List Value} {ns:List Int},IntsAre vs ns→Vals (ns.map V.int) vs
  | _,_,.nil=>.nil
  | _,_,.cons n t h=>.cons ⟨t,rfl⟩ (hU h)
noncomputable def Es (H:Hp):Prop:=∀ b,H b=none∨∃ o xs,H b=some (.frz o (.lst xs))
theorem yM {P:Program}{w:World}{K:PySem.W.Frag}{mg mb:Str→Option Value}{CX:CXT}{k:Nat}{fa a:Addr}{fd:FuncData}{x:Str}{sp:Sp}{s₁:Shared}{vs:List Value}{ns:List Int}
    (KX:K.In s₁.heap) (hns:s₁.heap.Ns mainGlobals mg) (hb:s₁.heap.Ns builtinsNs mb) (hbb : ∀ x:Str,x≠"__name__"→mb x=bootBuiltins x) (hlim:s₁.heap.NoLimit) (hg:s₁.gens=#[])
    (ha:s₁.heap.get? a=some { cls:=.type "list",data:=.seq vs.toArray }) (hi:IntsAre vs ns) (hl:ns.length≤sizeLine) (hr:fu k callerA)
    (F : ∀ base:Heap,K.In base→base.Ns mainGlobals mg→jw P w K mg base CX k fa fd [x] sp) (HE : ∀ (s:Shared) (u:Value),BindsTo s fd ⟨[u],[]⟩ [(x,u)])
    (hsp : ∀ H:Hp,Es H→SqL K H a (ns.map V.int)→sp [.ref a] H (fun v _=>v=.bl true) fun _ _ _=>False)
    (hCX : ∀ H e s',CX [] H s₁ (fun _ _ _=>False) e s'→False) :
    codeAny (model P w) callerA (.call (.ref fa) ⟨[.ref a],[]⟩) (fun r s'=>r=.ok (.ret (.bool true))∧OldK s₁.heap s'.heap∧s'.os=s₁.os∧AllBare s'.gens) s₁:=by
  have rv:=hU hi
  have lenV:=hi.length
  have core : ∀ H:Hp,Es H→SqL K H a (ns.map V.int)→HOk P w H s₁.heap→(∀ b,H b≠none→b=a)→(H a≠none→K.lookup a=none) →
      codeAny (model P w) callerA (.call (.ref fa) ⟨[.ref a],[]⟩) (fun r s'=>r=.ok (.ret (.bool true))∧OldK s₁.heap s'.heap∧s'.os=s₁.os∧AllBare s'.gens) s₁:=by
    intro H hO hS hok hA hK
    have base_of : ∀ {b:Addr} {o:Obj},s₁.heap.get? b=some o→H b=none→(qX s₁.heap H).get? b=some o:=fun e n=>yi e n
    have noA : ∀ {b:Addr} {o:Obj} {es:Array DictEntry} {ep:Nat},s₁.heap.get? b=some o→o.data=.dict es ep→H b=none:=fun {b o es ep} e d=>by
      cases q:H b with
      | none=>rfl
      | some u =>
        have e':b=a:=hA b (by rw [q]; simp)
        subst e'
        rw [ha] at e; cases e
        have d':Data.seq vs.toArray _=Data.dict es ep:=d
        cases d'
    have nsK : ∀ {b:Addr} {m:Str→Option Value},s₁.heap.Ns b m→(qX s₁.heap H).Ns b m:=fun {b m} ⟨o,es,ep,e,d,r⟩=>⟨o,es,ep,base_of e (noA e d),d,r⟩
    have hKb:K.In (qX s₁.heap H):=fun b o e=>base_of (KX b o e) (by
      cases q:H b with
      | none=>rfl
      | some u =>
        have e':b=a:=hA b (by rw [q]; simp)
        subst e'
        rw [hK (by rw [q]; simp)] at e; cases e)
    have hM:Mod K mg (qX s₁.heap H):=⟨hKb,nsK hns,⟨mb,nsK hb,hbb⟩,let ⟨mc,h1,h2⟩:=hlim; ⟨mc,nsK h1,h2⟩⟩
    have e0:B4 P w K mg (qX s₁.heap H) callerA [] s₁ H:=⟨rfl,hM,fun b o e=>AR e,Nat.le_of_eq (wN _ _),trivial,fun b hb=>absurd (show b∈([]:List Addr) from hb) (by simp),hok,.of_eq hg⟩
    refine codeAny_mono ((F _ hKb (nsK hns)).run callerA [] s₁ H ⟨[.ref a],[]⟩ [.ref a] [.ref a] _ _ hr e0 (HE s₁ (.ref a)) (.cons rfl .nil) (hsp H hO hS)) fun r s' h=>?_
    cases r with
    | error e=>exact (hCX H e s' h).elim
    | ok fl =>
      cases fl with
      | next=>exact False.elim h
      | brk=>exact False.elim h
      | cont=>exact False.elim h
      | ret u =>
        obtain ⟨v,H',os,bare,un,hok',r',q⟩:=h
        have q':v=.bl true:=q
        subst q'
        obtain rfl:u=Value.bool true:=r'
        refine ⟨rfl,OldK.of_keep fun b o e=>?_,os,bare⟩
        cases q:H b with
        | none=>exact un.keep b o e q (by intro z; exact absurd (show b∈([]:List Addr) from z) (by simp)) (by simp)
        | some u =>
          rcases hO b with z | ⟨ob,xs,z⟩
          · rw [q] at z; cases z
          · have z2:=un.kq b ob _ z
            obtain ⟨e1,_⟩:=hok b _ z
            obtain ⟨e2,_⟩:=hok' b _ z2
            rw [e] at e1; cases e1
            exact e2
  cases hk:K.lookup a with
  | some o =>
    have e:=KX a o hk
    rw [ha] at e
    cases e
    refine core (fun _=>none) (fun _=>.inl rfl) (.inr ⟨_,vs.toArray,_,hk,rfl,rfl,rfl,by rw [List.size_toArray,lenV]; exact hl,by simpa using rv⟩) (fun b u z=>by have z':(none:Option HO)=some u:=z; cases z') (fun b z=>absurd rfl z) fun z=>absurd rfl z
  | none =>
    refine core (fun b=>if b=a then some (.frz { cls:=.type "list",data:=.seq vs.toArray } (.lst (ns.map V.int))) else none) (fun b=>?_) (.inl (.inr ⟨{ cls:=.type "list",data:=.seq vs.toArray },if_pos rfl⟩)) (fun b u z=>?_) (fun b z=>?_) fun _=>hk
    · by_cases hb:b=a
      · exact .inr ⟨_,_,if_pos hb⟩
      · exact .inl (if_neg hb)
    · by_cases hb:b=a
      · have z':=(if_pos hb).symm.trans z
        cases z'
        subst hb
        exact ⟨ha,by rw [List.length_map]; exact hl,vs,_,rv,ha⟩
      · have z':=(if_neg hb).symm.trans z
        cases z'
    · by_cases hb:b=a
      · exact hb
      · exact absurd (if_neg hb) z
end L2
namespace L2
open PySem PySem.Spec PyProof.Rows
theorem w4 {l:PySem.W.OpenLaw}{n k:Nat}{q:Program}{loose:List Str}{XP:(Str→Option Value)→Heap→Prop}{YP:World→Heap→Prop}{d:DefRec}{K:Params→PySem.W.Frag}{CX:World→CXT}{sp:World→Sp}{x:Str}
    (hn:l.most=some n) (hn2:n≤sizeLine) (hdf:d.params.defaults=[]) (hr:fu k callerA)
    (hY : ∀ (w:World) (h:Heap),YP w h→(K w.params).In h)
    (F : ∀ (w:World) (mg:Str→Option Value) (fa:Addr) (h:Heap),(K w.params).In h→h.Ns mainGlobals mg→mg d.name=some (.ref fa) →
      ∃ fd:FuncData,(∀ (s:Shared) (u:Value),BindsTo s fd ⟨[u],[]⟩ [(x,u)]) ∧
        ∀ base:Heap,(K w.params).In base→base.Ns mainGlobals mg→jw l.prog w (K w.params) mg base (CX w) k fa fd [x] (sp w))
    (hsp : ∀ (w:World) (H:Hp) (a:Addr) (ns:List Int),ns.length≤n→Es H→SqL (K w.params) H a (ns.map V.int)→sp w [.ref a] H (fun v _=>v=.bl true) fun _ _ _=>False)
    (hCX : ∀ (w:World) (H:Hp) (s:Shared) (e:Value) (s':Shared),CX w [] H s (fun _ _ _=>False) e s'→False) :
    PySem.W.WalkO q loose XP YP l.row.toRowW d [] (fun f vs=>PySem.call f vs):=by
  refine Att.sO hn hdf fun w s₀ s₁ mg mb fa o pm cd doc a vs ns G Y ho hd hcd hmg hobj hints hlen hg=>?_
  have KX:=hY w _ Y
  obtain ⟨fd,hb,hF⟩:=F w mg fa _ KX G.T.g hmg
  exact yM KX G.T.g G.T.b G.T.builtins G.T.nolimit hg hobj hints (Nat.le_trans hlen hn2) hr hF hb (fun H hO hS=>hsp w H a ns hlen hO hS) fun H e s'=>hCX w H s₁ e s'
end L2
/- THE LAST THEOREM (shape; LID,My.* are yours):
   My.Adr: a structure of the addresses that your layer names (classes,functions); My.Txt K t: a structure (Prop) of the equations over K;
   My.txt_mk : {K} {implicit addresses ..} (e1:nsIn K mainGlobals "law"=some (some (.ref f))) (e2:K.lookup f=some ⟨oc,od,.func (fnOf "law" "law" params body scope dV kV doc pm an cdv ct),sl⟩) (e3:codeIn K cdv "law"=true) .. : ∃ t,My.Txt K t
set_option maxRecDepth 100000 in
set_option maxHeartbeats 0 in
theorem PySem.Challenge.cw_LID_holds:PySem.Challenge.rw_LID.Holds:=by
  w_on; o_law; k_head; (case hw=>w_witness2)
  k_fill
  refine L2.w4 (l:=PySem.Challenge.rw_LID) (n:=63) (k:=40) (x:="script") (CX:=fun w=>..) (sp:=fun _=>My.sp_law) rfl (by decide) rfl ⟨rfl,by decide,by decide⟩ (fun w h Y=>PySem.W.kIn_of Y) ?F ?S ?C
  case F =>
    intro w mg fa h KX G hmg
    have T : ∃ t,My.Txt (L2.KOf KX) t:=by
      dsimp only [L2.KOf]
      refine' My.txt_mk ?e1 ?e2 ?e3 ..
      (case e1=>PySem.W.k_is)
      (case e2=>PySem.W.k_is)
      ..
    obtain ⟨t,T⟩:=T
    have e0:=hmg.symm.trans (PySem.W.mg_of KX G T.law)
    cases e0
    exact ⟨_,fun s u=>.of_eq rfl,fun base kb nb=>My.law_fn T kb nb⟩
  case S=>exact fun w H a ns hl hO hS=>..
  case C=>exact ..
(the tactic k_is has no namespace: write k_is) -/
namespace L2
open PySem PySem.Spec PyProof.Rows
noncomputable def aX (s:Stmt):Arguments:=match s with
  | .FunctionDef _ a _ _ _ _ _ _ _ _=>a
  | _=>{ posonlyargs:=[],args:=[],vararg:=none,kwonlyargs:=[],kw_defaults:=[],kwarg:=none,defaults:=[] }
noncomputable def ax (s:Stmt):List Stmt:=match s with
  | .FunctionDef _ _ b _ _ _ _ _ _ _=>b
  | _=>[]
noncomputable def aj (s:Stmt):Scope:=match s with
  | .FunctionDef _ _ _ _ _ _ sc _ _ _=>sc
  | _=>{ kind:=.function,names:=[],isGenerator:=false,isCoroutine:=false }
noncomputable abbrev CX0:CXT:=fun _ _ _ _ _ _=>False
noncomputable abbrev E0:XK:=fun _ _ _=>False
theorem D6 {X:Cx}:Passes CX0 X E0:=fun _ _ _ _ _ _ _ h=>h.elim
structure Fun (K:PySem.W.Frag)(x qual:Str)(st:Stmt)(f:Addr)(fd:FuncData):Prop where
  ex : ∃ (oc:Value) (od:Option Addr) (kV doc pm:Value) (an:Option Addr) (cdv ct:Value) (osl:Array (Option Value)),
    fd=PySem.W.fnOf x qual (aX st) (ax st) (aj st) .none kV doc pm an cdv ct∧K.lookup f=some ⟨oc,od,.func fd,osl⟩∧PySem.W.codeIn K cdv qual=true
  kp:PySem.W.keepIn K (.ref f)=true
section
variable {P:Program}{w:World}{K:PySem.W.Frag}{mg:Str→Option Value}{base:Heap}
theorem Fun.ok {x qual:Str}{st:Stmt}{f:Addr}{fd:FuncData}{N ps:List Str}{k:Nat}{sp:Sp}(F:Fun K x qual st f fd)(S:aU N ps (aj st))(len : ∀ vs H Q E,sp vs H Q E→vs.length=ps.length)
    (yF : ∀ (cdv:Value) (A:Around) (outer:List Env) (s:Shared) (H:Hp) (vs:List V) (Q:VK) (E:XK),fu k (A.deeper (envOfC qual (aj st) s.heap.objs.size f cdv))→sp vs H Q E →
      ∃ t,PSs (r9 CX0 P w K mg base N qual (aj st) f cdv A outer s H E).nox (ax st) t∧t { nx:=fun _ H'=>Q .non H',rt:=Q } (start N vs) H):jw P w K mg base CX0 (k+1) f fd ps sp:=by
  obtain ⟨oc,od,kV,doc,pm,an,cdv,ct,osl,rfl,lk,hcd⟩:=F.ex
  refine vT lk hcd S len fun A outer s H vs Q E hr hsp=>?_
  obtain ⟨t,h,q⟩:=yF cdv A outer s H vs Q E hr hsp
  exact ⟨t,h.nox,q⟩
theorem Fun.binds {x qual:Str}{st:Stmt}{f:Addr}{fd:FuncData}{ps:List Str}(F:Fun K x qual st f fd)
    (h : ∀ (kV doc pm:Value) (an:Option Addr) (cdv ct:Value) (us:List Value),us.length=ps.length→bindArgs (PySem.W.fnOf x qual (aX st) (ax st) (aj st) .none kV doc pm an cdv ct) ⟨us,[]⟩=pure (ps.zip us)):Binds K fd ps []:=by
  obtain ⟨oc,od,kV,doc,pm,an,cdv,ct,osl,rfl,lk,hcd⟩:=F.ex
  exact .all (h kV doc pm an cdv ct)
theorem bw {x qual:Str}{st:Stmt}{f:Addr}{oc:Value}{od an:Option Addr}{osl:Array (Option Value)}{kV doc pm cdv ct:Value}(l:K.lookup f=some ⟨oc,od,.func (PySem.W.fnOf x qual (aX st) (ax st) (aj st) .none kV doc pm an cdv ct),osl⟩)
    (c:PySem.W.codeIn K cdv qual=true) (k:PySem.W.keepIn K (.ref f)=true):Fun K x qual st f (PySem.W.fnOf x qual (aX st) (ax st) (aj st) .none kV doc pm an cdv ct):=⟨⟨oc,od,kV,doc,pm,an,cdv,ct,osl,rfl,l,c⟩,k⟩
end
theorem bV {A:Around}{k:Nat}(hr:fu k A):A.units+1<cLine:=Nat.lt_of_le_of_lt (Nat.add_le_add_left (by decide : 1≤64) _) hr.units
section
variable {X:Cx}
end
noncomputable def aG (H H':Hp):Prop:=∀ b o,H b=some o→H' b=some o
theorem aG.refl (H:Hp):aG H H:=fun _ _ h=>h
theorem aG.trans {H H1 H2:Hp}(a:aG H H1)(b:aG H1 H2):aG H H2:=fun c o h=>b c o (a c o h)
theorem aG.free {H H':Hp}(e:aG H H'){l:Addr}(h:H' l=Option.none):H l=Option.none:=by
  cases q:H l with
  | none=>rfl
  | some o =>
    rw [e l o q] at h
    cases h
theorem aG.seq {K:PySem.W.Frag}{H H':Hp}{a:Addr}{xs:List V}(e:aG H H')(h:SqL K H a xs):SqL K H' a xs:=by
  rcases h with (h | ⟨o,h⟩) | h
  · exact .inl (.inl (e _ _ h))
  · exact .inl (.inr ⟨o,e _ _ h⟩)
  · exact .inr h
end L2
end
section
namespace DL
open PySem L2
inductive D where
  | non
  | bl (b:Bool)
  | int (i:Int)
  | str (x:List Nat)
  | tup (ds:List D)
  | lst (ds:List D)
  | ob (c:Nat) (ks:List Nat) (ds:List D)
  | dct (ks:List (List Nat)) (ds:List D)
  | exc (c:Nat)
  deriving Inhabited
noncomputable abbrev mkS (x:List Nat):Str:=⟨x.toArray⟩
theorem jP {x y:List Nat}(h:mkS x=mkS y):x=y:=by
  have:=congrArg (fun s:Str=>s.cps.toList) h
  simpa using this
theorem gZ (x:List Nat):(mkS x).length=x.length:=by simp [Str.length]
structure Tx where
  K:PySem.W.Frag
  cl:Nat→Option Addr
  fld:Nat→Str
noncomputable def LsA (T:Tx)(A:Addr→Prop)(H:Hp)(a:Addr)(xs:List V):Prop :=
  (Rd H a (.lst xs)∧A a) ∨
    ∃ (o:Obj) (its:Array Value) (n:Nat),T.K.lookup a=some o∧o.cls=.type "list"∧o.dict=none∧o.data=.seq its n∧its.size≤sizeLine∧Vals xs its.toList
noncomputable def XO (a C:Addr):HO:=.ext fun h=>∃ o:Obj,h.get? a=some o∧o.cls=.ref C∧o.dict=none∧∃ vs,o.data=.fields vs
mutual
noncomputable def Rep (T:Tx)(A:Addr→Prop)(H:Hp):D→V→Prop
  | .non,v=>v=.non
  | .bl b,v=>v=.bl b
  | .int i,v=>v=.int i
  | .str x,v=>v=.str (mkS x)
  | .tup ds,v=>∃ a xs,v=.ref a∧SqT T.K H a xs∧aI T A H ds xs
  | .lst ds,v=>∃ a xs,v=.ref a∧LsA T A H a xs∧aI T A H ds xs
  | .ob c ks ds,v=>∃ a C dx fs,v=.ref a∧A a∧T.cl c=some C∧H a=some (.ins C dx fs)∧fs.map (·.1)=ks.map T.fld∧aI T A H ds (fs.map (·.2))
  | .dct ks ds,v=>∃ a kvs,v=.ref a∧A a∧H a=some (.dK kvs)∧kvs.map (·.1)=ks.map (fun k=>(Sum.inr (mkS k):Key))∧aI T A H ds (kvs.map (·.2))
  | .exc c,v=>∃ a C,v=.ref a∧T.cl c=some C∧H a=some (XO a C)
noncomputable def aI (T:Tx)(A:Addr→Prop)(H:Hp):List D→List V→Prop
  | [],xs=>xs=[]
  | d::ds,xs=>∃ x r,xs=x::r∧Rep T A H d x∧aI T A H ds r
end
noncomputable def Mu:Option HO→Prop
  | some (.lst _)=>True
  | some (.ins _ _ _)=>True
  | some (.dK _)=>True
  | _=>False
theorem LsA.sq {T:Tx}{A:Addr→Prop}{H:Hp}{a:Addr}{xs:List V}(h:LsA T A H a xs):SqL T.K H a xs:=by
  rcases h with h | h
  · exact .inl h.1
  · exact .inr h
section
variable {T:Tx}{A A' O:Addr→Prop}{H H':Hp}
structure Kp (A A' O:Addr→Prop)(H H':Hp):Prop where
  keep : ∀ b o,H b=some o→¬ O b→H' b=some o
  mu : ∀ b,O b→Mu (H b)
  cl : ∀ b o,A b→H b=some o→¬ O b
  to : ∀ b o,A b→H b=some o→A' b
theorem Kp.sqT (k:Kp A A' O H H'){a:Addr}{xs:List V}(h:SqT T.K H a xs):SqT T.K H' a xs:=by
  rcases h with (h | ⟨o,h⟩) | h
  · exact .inl (.inl (k.keep _ _ h fun z=>by have:=k.mu _ z; rw [h] at this; exact this))
  · exact .inl (.inr ⟨o,k.keep _ _ h fun z=>by have:=k.mu _ z; rw [h] at this; exact this⟩)
  · exact .inr h
theorem Kp.ls (k:Kp A A' O H H'){a:Addr}{xs:List V}(h:LsA T A H a xs):LsA T A' H' a xs:=by
  rcases h with ⟨h | ⟨o,h⟩,z⟩ | h
  · exact .inl ⟨.inl (k.keep _ _ h (k.cl _ _ z h)),k.to _ _ z h⟩
  · exact .inl ⟨.inr ⟨o,k.keep _ _ h (k.cl _ _ z h)⟩,k.to _ _ z h⟩
  · exact .inr h
mutual
theorem Rep.kp (k:Kp A A' O H H') : ∀ {d:D} {v:V},Rep T A H d v→Rep T A' H' d v
  | .non,_,h=>by simp only [Rep] at h ⊢; exact h
  | .bl _,_,h=>by simp only [Rep] at h ⊢; exact h
  | .int _,_,h=>by simp only [Rep] at h ⊢; exact h
  | .str _,_,h=>by simp only [Rep] at h ⊢; exact h
  | .tup ds,_,h=>by
    simp only [Rep] at h ⊢
    obtain ⟨a,xs,e,q,r⟩:=h
    exact ⟨a,xs,e,k.sqT q,aI.kp k r⟩
  | .lst ds,_,h=>by
    simp only [Rep] at h ⊢
    obtain ⟨a,xs,e,q,r⟩:=h
    exact ⟨a,xs,e,k.ls q,aI.kp k r⟩
  | .ob c ks ds,_,h=>by
    simp only [Rep] at h ⊢
    obtain ⟨a,C,dx,fs,e,z,c,q,n,r⟩:=h
    exact ⟨a,C,dx,fs,e,k.to _ _ z q,c,k.keep _ _ q (k.cl _ _ z q),n,aI.kp k r⟩
  | .dct ks ds,_,h=>by
    simp only [Rep] at h ⊢
    obtain ⟨a,kvs,e,z,q,n,r⟩:=h
    exact ⟨a,kvs,e,k.to _ _ z q,k.keep _ _ q (k.cl _ _ z q),n,aI.kp k r⟩
  | .exc c,_,h=>by
    simp only [Rep] at h ⊢
    obtain ⟨a,C,e,c,q⟩:=h
    exact ⟨a,C,e,c,k.keep _ _ q fun z=>by have:=k.mu _ z; rw [q] at this; exact this⟩
theorem aI.kp (k:Kp A A' O H H') : ∀ {ds:List D} {vs:List V},aI T A H ds vs→aI T A' H' ds vs
  | [],_,h=>by simp only [aI] at h ⊢; exact h
  | d::ds,_,h=>by
    simp only [aI] at h ⊢
    obtain ⟨x,r,e,h1,h2⟩:=h
    exact ⟨x,r,e,Rep.kp k h1,aI.kp k h2⟩
end
theorem Kp.same (s:aG H H')(hA : ∀ b o,A b→H b=some o→A' b):Kp A A' (fun _=>False) H H':=⟨fun b o h _=>s b o h,fun _ z=>z.elim,fun _ _ _ _ z=>z,hA⟩
theorem Rep.mono (s:aG H H')(hA : ∀ b,A b→A' b){d:D}{v:V}(h:Rep T A H d v):Rep T A' H' d v:=h.kp (Kp.same s fun b _ z _=>hA b z)
theorem aI.mono (s:aG H H')(hA : ∀ b,A b→A' b){d:List D}{v:List V}(h:aI T A H d v):aI T A' H' d v:=h.kp (Kp.same s fun b _ z _=>hA b z)
theorem aI.nil:aI T A H [] []:=by simp only [aI]
theorem aI.cons {d:D}{v:V}{ds:List D}{vs:List V}(h:Rep T A H d v)(r:aI T A H ds vs):aI T A H (d::ds) (v::vs):=by
  simp only [aI]; exact ⟨v,vs,rfl,h,r⟩
theorem aI.j8 {vs:List V}(h:aI T A H [] vs):vs=[]:=by simpa only [aI] using h
theorem aI.dW {d:D}{ds:List D}{vs:List V}(h:aI T A H (d::ds) vs) : ∃ x r,vs=x::r∧Rep T A H d x∧aI T A H ds r:=by simpa only [aI] using h
theorem aI.length : ∀ {ds:List D} {vs:List V},aI T A H ds vs→ds.length=vs.length
  | [],_,h=>by rw [h.j8]; rfl
  | d::ds,_,h=>by
    obtain ⟨x,r,rfl,_,h2⟩:=h.dW
    simp [aI.length h2]
theorem aI.get : ∀ {ds:List D} {vs:List V} {i:Nat} {d:D},aI T A H ds vs→ds[i]?=some d→∃ v,vs[i]?=some v∧Rep T A H d v
  | [],_,_,_,h,e=>by simp at e
  | d::ds,_,0,_,h,e=>by
    obtain ⟨x,r,rfl,h1,_⟩:=h.dW
    simp at e; subst e
    exact ⟨x,rfl,h1⟩
  | d::ds,_,i+1,c,h,e=>by
    obtain ⟨x,r,rfl,_,h2⟩:=h.dW
    obtain ⟨v,e1,e2⟩:=aI.get (i:=i) (d:=c) h2 (by simpa using e)
    exact ⟨v,by simpa using e1,e2⟩
theorem aI.xc : ∀ {ds:List D} {vs:List V} {i:Nat} {v:V},aI T A H ds vs→vs[i]?=some v→∃ d,ds[i]?=some d∧Rep T A H d v
  | [],_,_,_,h,e=>by rw [h.j8] at e; simp at e
  | d::ds,_,0,_,h,e=>by
    obtain ⟨x,r,rfl,h1,_⟩:=h.dW
    simp at e; subst e
    exact ⟨d,rfl,h1⟩
  | d::ds,_,i+1,c,h,e=>by
    obtain ⟨x,r,rfl,_,h2⟩:=h.dW
    obtain ⟨v,e1,e2⟩:=aI.xc (i:=i) (v:=c) h2 (by simpa using e)
    exact ⟨v,by simpa using e1,e2⟩
theorem aI.append : ∀ {ds es:List D} {vs us:List V},aI T A H ds vs→aI T A H es us→aI T A H (ds++es) (vs++us)
  | [],_,_,_,h,g=>by rw [h.j8]; simpa using g
  | d::ds,_,_,_,h,g=>by
    obtain ⟨x,r,rfl,h1,h2⟩:=h.dW
    exact .cons h1 (aI.append h2 g)
theorem aI.take : ∀ {ds:List D} {vs:List V} (n:Nat),aI T A H ds vs→aI T A H (ds.take n) (vs.take n)
  | _,_,0,_=>by simp only [List.take_zero]; exact .nil
  | [],_,n+1,h=>by rw [h.j8]; simp only [List.take_nil]; exact .nil
  | d::ds,_,n+1,h=>by
    obtain ⟨x,r,rfl,h1,h2⟩:=h.dW
    exact .cons h1 (aI.take n h2)
theorem aI.drop : ∀ {ds:List D} {vs:List V} (n:Nat),aI T A H ds vs→aI T A H (ds.drop n) (vs.drop n)
  | _,_,0,h=>by simpa using h
  | [],_,n+1,h=>by rw [h.j8]; simp only [List.drop_nil]; exact .nil
  | d::ds,_,n+1,h=>by
    obtain ⟨x,r,rfl,h1,h2⟩:=h.dW
    exact aI.drop n h2
theorem aI.set : ∀ {ds:List D} {vs:List V} (n:Nat) {d:D} {v:V},aI T A H ds vs→Rep T A H d v→aI T A H (ds.set n d) (vs.set n v)
  | [],_,_,_,_,h,_=>by rw [h.j8]; exact .nil
  | d::ds,_,0,_,_,h,g=>by
    obtain ⟨x,r,rfl,h1,h2⟩:=h.dW
    exact .cons g h2
  | d::ds,_,n+1,_,_,h,g=>by
    obtain ⟨x,r,rfl,h1,h2⟩:=h.dW
    exact .cons h1 (aI.set n h2 g)
theorem aI.D7 : ∀ ns:List Int,aI T A H (ns.map D.int) (ns.map V.int)
  | []=>.nil
  | n::r=>.cons (by simp only [Rep]) (aI.D7 r)
theorem Rep.fY {ds:List D}{v:V}(h:Rep T A H (.lst ds) v) : ∃ a xs,v=.ref a∧LsA T A H a xs∧aI T A H ds xs:=by simpa only [Rep] using h
theorem Rep.gq {ds:List D}{v:V}(h:Rep T A H (.tup ds) v) : ∃ a xs,v=.ref a∧SqT T.K H a xs∧aI T A H ds xs:=by simpa only [Rep] using h
theorem Rep.ob_ {c:Nat}{ks:List Nat}{ds:List D}{v:V}(h:Rep T A H (.ob c ks ds) v) : ∃ a C dx fs,v=.ref a∧A a∧T.cl c=some C∧H a=some (.ins C dx fs)∧fs.map (·.1)=ks.map T.fld∧aI T A H ds (fs.map (·.2)):=by simpa only [Rep] using h
theorem Rep.Ba {ks:List (List Nat)}{ds:List D}{v:V}(h:Rep T A H (.dct ks ds) v) : ∃ a kvs,v=.ref a∧A a∧H a=some (.dK kvs)∧kvs.map (·.1)=ks.map (fun k=>(Sum.inr (mkS k):Key))∧aI T A H ds (kvs.map (·.2)):=by simpa only [Rep] using h
theorem Rep.Et {c:Nat}{v:V}(h:Rep T A H (.exc c) v) : ∃ a C,v=.ref a∧T.cl c=some C∧H a=some (XO a C):=by simpa only [Rep] using h
theorem Rep.dz {i:Int}{v:V}(h:Rep T A H (.int i) v):v=.int i:=by simpa only [Rep] using h
theorem Rep.gr {i:List Nat}{v:V}(h:Rep T A H (.str i) v):v=.str (mkS i):=by simpa only [Rep] using h
theorem Rep.bl_ {i:Bool}{v:V}(h:Rep T A H (.bl i) v):v=.bl i:=by simpa only [Rep] using h
theorem Rep.lT {v:V}(h:Rep T A H .non v):v=.non:=by simpa only [Rep] using h
theorem Rep.int (i:Int):Rep T A H (.int i) (.int i):=by simp only [Rep]
theorem Rep.str (i:List Nat):Rep T A H (.str i) (.str (mkS i)):=by simp only [Rep]
theorem Rep.bl (i:Bool):Rep T A H (.bl i) (.bl i):=by simp only [Rep]
theorem Rep.non:Rep T A H .non .non:=by simp only [Rep]
theorem Rep.lst {a:Addr}{xs:List V}{ds:List D}(h:LsA T A H a xs)(r:aI T A H ds xs):Rep T A H (.lst ds) (.ref a):=by simp only [Rep]; exact ⟨a,xs,rfl,h,r⟩
theorem Rep.tup {a:Addr}{xs:List V}{ds:List D}(h:SqT T.K H a xs)(r:aI T A H ds xs):Rep T A H (.tup ds) (.ref a):=by simp only [Rep]; exact ⟨a,xs,rfl,h,r⟩
theorem cu {H:Hp}{p:Addr}(h:H p=none)(o:HO):aG H (upd H p o):=fun b u q=>by rw [ba (cR q h)]; exact q
theorem Rep.xf {ds:List D}{vs:List V}(r:aI T A H ds vs){p:Addr}(hp:H p=none):Rep T A (upd H p (.tup vs)) (.tup ds) (.ref p) :=
  .tup (SqT.of bY) (r.mono (cu hp _) fun _ z=>z)
theorem Rep.HF {ds:List D}{vs:List V}(r:aI T A H ds vs){p:Addr}(hp:H p=none)(a:A p):Rep T A (upd H p (.lst vs)) (.lst ds) (.ref p) :=
  .lst (.inl ⟨.inl bY,a⟩) (r.mono (cu hp _) fun _ z=>z)
end
structure Fr (O:Addr→Prop)(H:Hp)(O':Addr→Prop)(H':Hp):Prop where
  keep : ∀ b o,H b=some o→¬ O b→H' b=some o
  more : ∀ b,O' b→O b∨H b=none
  dom : ∀ b,H' b=none→H b=none
theorem Fr.refl (O:Addr→Prop)(H:Hp):Fr O H O H:=⟨fun _ _ h _=>h,fun _ h=>.inl h,fun _ h=>h⟩
theorem Fr.same {O:Addr→Prop}{H H':Hp}(s:aG H H'):Fr O H O H':=⟨fun b o h _=>s b o h,fun _ h=>.inl h,fun _ h=>s.free h⟩
theorem Fr.trans {O O1 O2:Addr→Prop}{H H1 H2:Hp}(a:Fr O H O1 H1)(b:Fr O1 H1 O2 H2):Fr O H O2 H2 where
  keep:=fun c o h n=>b.keep c o (a.keep c o h n) fun z=>(a.more c z).elim n fun e=>by rw [h] at e; cases e
  more:=fun c z=>by
    rcases b.more c z with q | q
    · exact a.more c q
    · exact .inr (a.dom c q)
  dom:=fun c z=>a.dom c (b.dom c z)
inductive Slot where
  | no
  | val (d:D)
  | own (ds:List D)
  | obj (c:Nat) (ks:List Nat) (ds:List D)
  | red (ds:List D)
  | mS (dss:List (List D))
  | yN (dss:List (List D))
  | xg (n:Nat)
  deriving Inhabited
noncomputable abbrev aN:=List Slot
noncomputable def Slot.iM:Slot→Bool
  | .own _=>true
  | .obj _ _ _=>true
  | .mS _=>true
  | .xg _=>true
  | _=>false
structure Wf where
  A:Addr→Prop
  H0:Hp
  O0:Addr→Prop
noncomputable abbrev Cl (W:Wf)(O:Addr→Prop):Addr→Prop:=fun b=>W.A b∧¬ O b
structure Inl (P:List D→Addr→Prop)(dss:List (List D))(bs:List Addr):Prop where
  len:dss.length=bs.length
  at_ : ∀ (k:Nat) (ds:List D) (b:Addr),dss[k]?=some ds→bs[k]?=some b→P ds b
theorem Inl.imp {P P':List D→Addr→Prop}{dss:List (List D)}{bs:List Addr}(h:Inl P dss bs)(g : ∀ ds b,b∈bs→P ds b→P' ds b):Inl P' dss bs :=
  ⟨h.len,fun k ds b e1 e2=>g ds b (List.mem_of_getElem? e2) (h.at_ k ds b e1 e2)⟩
theorem Inl.mem {P:List D→Addr→Prop}{dss:List (List D)}{bs:List Addr}(h:Inl P dss bs){b:Addr}(hb:b∈bs) : ∃ ds,P ds b:=by
  obtain ⟨k,hk,e⟩:=List.getElem_of_mem hb
  exact ⟨_,h.at_ k (dss[k]'(h.len ▸ hk)) b (List.getElem?_eq_getElem _) (by rw [List.getElem?_eq_getElem hk,e])⟩
noncomputable def ke (T:Tx)(W:Wf)(O:Addr→Prop)(H:Hp):Slot→Option V→Prop
  | .no,_=>True
  | .val d,v=>∃ u,v=some u∧Rep T (Cl W O) H d u
  | .own ds,v=>∃ a xs,v=some (.ref a)∧O a∧W.H0 a=none∧H a=some (.lst xs)∧aI T (Cl W O) H ds xs
  | .obj c ks ds,v=>∃ a C dx fs,v=some (.ref a)∧O a∧W.H0 a≠none∧T.cl c=some C∧H a=some (.ins C dx fs)∧fs.map (·.1)=ks.map T.fld∧aI T (Cl W O) H ds (fs.map (·.2))
  | .red ds,v=>∃ a xs,v=some (.ref a)∧¬ W.O0 a∧W.H0 a=some (.lst xs)∧aI T (Cl W O) H ds xs
  | .mS dss,v=>∃ a bs,v=some (.ref a)∧O a∧W.H0 a=none∧H a=some (.lst (bs.map V.ref))∧Inl (fun ds b=>O b∧W.H0 b=none∧∃ ys,H b=some (.lst ys)∧aI T (Cl W O) H ds ys) dss bs
  | .yN dss,v=>∃ a bs,v=some (.ref a)∧¬ W.O0 a∧W.H0 a=some (.lst (bs.map V.ref))∧Inl (fun ds b=>¬ W.O0 b∧∃ ys,W.H0 b=some (.lst ys)∧aI T (Cl W O) H ds ys) dss bs
  | .xg n,v=>∃ a xs,v=some (.ref a)∧O a∧W.H0 a=none∧H a=some (.lst xs)∧xs.length=n
structure bS (T:Tx)(W:Wf)(O:Addr→Prop)(H:Hp)(env:aN)(σ:St):Prop where
  fr:Fr W.O0 W.H0 O H
  new : ∀ a,W.H0 a=none→W.A a
  mu : ∀ a,O a→Mu (H a)
  slot : ∀ (i:Nat) (s:Slot),env[i]?=some s→ke T W O H s (σ[i]?).join
  inj : ∀ (i j:Nat) (s t:Slot) (a:Addr),env[i]?=some s→env[j]?=some t→s.iM=true→t.iM=true→σ[i]?=some (some (.ref a))→σ[j]?=some (some (.ref a))→i=j
  len:env.length=σ.length
  lU : ∀ (i j:Nat) (dss:List (List D)) (t:Slot) (a:Addr) (bs:List Addr) (b:Addr),env[i]?=some (.mS dss)→σ[i]?=some (some (.ref a))→H a=some (.lst (bs.map V.ref))→b∈bs→env[j]?=some t→t.iM=true→σ[j]?≠some (some (.ref b))
section
variable {T:Tx}{W:Wf}{O O':Addr→Prop}{H H':Hp}{env:aN}{σ:St}
theorem bS.pG (E:bS T W O H env σ){a:Addr}(h:H a=none):Cl W O a :=
  ⟨E.new a (E.fr.dom a h),fun o=>by have:=E.mu a o; rw [h] at this; exact this⟩
theorem bS.kp (E:bS T W O H env σ)(f:Fr O H O' H'):Kp (Cl W O) (Cl W O') O H H' :=
  ⟨f.keep,E.mu,fun _ _ z _=>z.2,fun b o z e=>⟨z.1,fun q=>(f.more b q).elim z.2 fun w=>by rw [e] at w; cases w⟩⟩
theorem bS.yO (E:bS T W O H env σ)(f:Fr O H O' H'){d:D}{v:V}(r:Rep T (Cl W O) H d v):Rep T (Cl W O') H' d v:=r.kp (E.kp f)
theorem ke.kp (k:Kp (Cl W O) (Cl W O') O H H')(hO : ∀ a,O a→O' a) : ∀ {s:Slot} {v:Option V},(∀ a,s.iM=true→v=some (.ref a)→H' a=H a)→(∀ (dss:List (List D)) (a:Addr) (bs:List Addr) (b:Addr),s=.mS dss→v=some (.ref a)→H a=some (.lst (bs.map V.ref))→b∈bs→H' b=H b)→ke T W O H s v→ke T W O' H' s v
  | .no,_,_,_,_=>trivial
  | .val d,_,_,_,h=>by obtain ⟨u,e,r⟩:=h; exact ⟨u,e,r.kp k⟩
  | .own ds,_,g,_,h=>by
    obtain ⟨a,xs,e,o,n,q,r⟩:=h
    exact ⟨a,xs,e,hO a o,n,(g a rfl e).trans q,r.kp k⟩
  | .obj c ks ds,_,g,_,h=>by
    obtain ⟨a,C,dx,fs,e,o,nn,n,q,m,r⟩:=h
    exact ⟨a,C,dx,fs,e,hO a o,nn,n,(g a rfl e).trans q,m,r.kp k⟩
  | .red ds,_,_,_,h=>by obtain ⟨a,xs,e,o,n,r⟩:=h; exact ⟨a,xs,e,o,n,r.kp k⟩
  | .mS dss,_,g,g2,h=>by
    obtain ⟨a,bs,e,o,n,q,r⟩:=h
    refine ⟨a,bs,e,hO a o,n,(g a rfl e).trans q,r.imp fun ds b hb z=>?_⟩
    obtain ⟨z1,z2,ys,z3,z4⟩:=z
    exact ⟨hO b z1,z2,ys,(g2 dss a bs b rfl e q hb).trans z3,z4.kp k⟩
  | .xg n,_,g,_,h=>by obtain ⟨a,xs,e,o,m,q,l⟩:=h; exact ⟨a,xs,e,hO a o,m,(g a rfl e).trans q,l⟩
  | .yN dss,_,_,_,h=>by
    obtain ⟨a,bs,e,o,n,r⟩:=h
    refine ⟨a,bs,e,o,n,r.imp fun ds b hb z=>?_⟩
    obtain ⟨z1,ys,z3,z4⟩:=z
    exact ⟨z1,ys,z3,z4.kp k⟩
theorem join_some {σ:St}{i:Nat}{v:V}(h:(σ[i]?).join=some v) : σ[i]?=some (some v):=by
  cases e : σ[i]? with
  | none=>rw [e] at h; cases h
  | some o=>rw [e] at h; cases o with
    | none=>cases h
    | some w=>cases h; rfl
theorem ke.lV {s:Slot}{v:Option V}(h:ke T W O H s v)(hs:s.iM=true) : ∃ a,v=some (.ref a)∧O a:=by
  cases s with
  | no=>cases hs
  | val d=>cases hs
  | own ds=>obtain ⟨a,xs,e,o,_⟩:=h; exact ⟨a,e,o⟩
  | obj c ks ds=>obtain ⟨a,C,dx,fs,e,o,_⟩:=h; exact ⟨a,e,o⟩
  | red ds=>cases hs
  | mS dss=>obtain ⟨a,bs,e,o,_⟩:=h; exact ⟨a,e,o⟩
  | yN dss=>cases hs
  | xg n=>obtain ⟨a,xs,e,o,_⟩:=h; exact ⟨a,e,o⟩
theorem ke.inner {dss:List (List D)}{v:Option V}(h:ke T W O H (.mS dss) v){a:Addr}{bs:List Addr}{b:Addr}(e:v=some (.ref a))(q:H a=some (.lst (bs.map V.ref)))(hb:b∈bs):O b∧W.H0 b=none∧∃ ys,H b=some (.lst ys):=by
  obtain ⟨a',bs',e',o,n,q',r⟩:=h
  rw [e] at e'; cases e'
  rw [q] at q'
  have hm:V.ref b∈bs'.map V.ref:=by
    have:=HO.lst.inj (Option.some.inj q')
    rw [← this]; exact List.mem_map.mpr ⟨b,hb,rfl⟩
  obtain ⟨b',hb',eb⟩:=List.mem_map.mp hm
  cases eb
  obtain ⟨ds,z1,z2,ys,z3,_⟩:=r.mem hb'
  exact ⟨z1,z2,ys,z3⟩
theorem bS.mono (E:bS T W O H env σ)(s:aG H H'):bS T W O H' env σ where
  fr:=E.fr.trans (Fr.same s)
  new:=E.new
  mu:=fun a o=>by
    have:=E.mu a o
    cases e:H a with
    | none=>rw [e] at this; exact this.elim
    | some u=>rw [s a u e]; rw [e] at this; exact this
  slot:=fun i t e=>(E.slot i t e).kp (E.kp (Fr.same s)) (fun _ z=>z) (fun a hs ev=>by
    obtain ⟨b,eb,o⟩:=(E.slot i t e).lV hs
    rw [ev] at eb; cases eb
    have:=E.mu a o
    cases e:H a with
    | none=>rw [e] at this; exact this.elim
    | some u=>exact s a u e) fun dss a bs b et ev q hb=>by
    subst et
    obtain ⟨_,_,ys,z⟩:=(E.slot i _ e).inner ev q hb
    rw [z]; exact s b _ z
  inj:=E.inj
  len:=E.len
  lU:=fun i j dss t a bs b e1 e2 q hb e3 o3=>by
    obtain ⟨a',eb,o⟩:=(E.slot i _ e1).lV rfl
    rw [e2] at eb; cases eb
    refine E.lU i j dss t a bs b e1 e2 ?_ hb e3 o3
    have:=E.mu a o
    cases e:H a with
    | none=>rw [e] at this; exact this.elim
    | some u=>rw [s a u e] at q; exact q
theorem bS.val (E:bS T W O H env σ){i:Nat}{d:D}(e:env[i]?=some (.val d)) : ∃ v, σ[i]?=some (some v)∧Rep T (Cl W O) H d v:=by
  obtain ⟨u,e1,r⟩:=E.slot i _ e
  exact ⟨u,join_some e1,r⟩
theorem bS.own (E:bS T W O H env σ){i:Nat}{ds:List D}(e:env[i]?=some (.own ds)) : ∃ a xs, σ[i]?=some (some (.ref a))∧O a∧W.H0 a=none∧H a=some (.lst xs)∧aI T (Cl W O) H ds xs:=by
  obtain ⟨a,xs,e1,r⟩:=E.slot i _ e
  exact ⟨a,xs,join_some e1,r⟩
theorem bS.red (E:bS T W O H env σ){i:Nat}{ds:List D}(e:env[i]?=some (.red ds)) : ∃ a xs, σ[i]?=some (some (.ref a))∧H a=some (.lst xs)∧aI T (Cl W O) H ds xs:=by
  obtain ⟨a,xs,e1,o,n,r⟩:=E.slot i _ e
  exact ⟨a,xs,join_some e1,E.fr.keep _ _ n o,r⟩
theorem set_slot {env:aN}{i j:Nat}{s t:Slot}(e:(env.set i s)[j]?=some t):(i=j∧t=s∧i<env.length)∨(i≠j∧env[j]?=some t):=by
  by_cases h:i=j
  · subst h
    by_cases hl:i<env.length
    · rw [List.getElem?_set_self hl] at e; cases e; exact .inl ⟨rfl,rfl,hl⟩
    · rw [List.getElem?_eq_none (by simp; omega)] at e; cases e
  · rw [List.getElem?_set_ne h] at e; exact .inr ⟨h,e⟩
theorem bS.HG (E:bS T W O H env σ)(i:Nat){s:Slot}{v:V}(r:ke T W O H s (some v))
    (hj:s.iM=true→∀ (j:Nat) (t:Slot) (a:Addr),i≠j→env[j]?=some t→t.iM=true→v=.ref a→σ[j]?≠some (some (.ref a)))
    (hk:s.iM=true→∀ (j:Nat) (dss:List (List D)) (a:Addr) (bs:List Addr) (b:Addr),env[j]?=some (.mS dss)→σ[j]?=some (some (.ref a))→H a=some (.lst (bs.map V.ref))→b∈bs→v≠.ref b)
    (hn : ∀ dss,s≠.mS dss):bS T W O H (env.set i s) (σ.set i (some v)) where
  fr:=E.fr
  new:=E.new
  mu:=E.mu
  slot:=fun j t e=>by
    rcases set_slot e with ⟨rfl,rfl,hl⟩ | ⟨h,e⟩
    · rw [List.getElem?_set_self (by rw [← E.len]; exact hl)]; exact r
    · rw [List.getElem?_set_ne h]; exact E.slot j t e
  inj:=fun j k t u a e1 e2 o1 o2 s1 s2=>by
    rcases set_slot e1 with ⟨h1,h2,hl⟩ | ⟨h,q1⟩
    · subst h1 h2
      rcases set_slot e2 with ⟨h3,h4,_⟩ | ⟨h',q2⟩
      · exact h3
      · rw [List.getElem?_set_self (by rw [← E.len]; exact hl)] at s1
        cases s1
        rw [List.getElem?_set_ne h'] at s2
        exact absurd s2 (hj o1 k u a h' q2 o2 rfl)
    · rw [List.getElem?_set_ne h] at s1
      rcases set_slot e2 with ⟨h3,h4,hl⟩ | ⟨h',q2⟩
      · subst h3 h4
        rw [List.getElem?_set_self (by rw [← E.len]; exact hl)] at s2
        cases s2
        exact absurd s1 (hj o2 j t a h q1 o1 rfl)
      · rw [List.getElem?_set_ne h'] at s2
        exact E.inj j k t u a q1 q2 o1 o2 s1 s2
  len:=by simp [E.len]
  lU:=fun j k dss t a bs b e1 e2 q hb e3 o3=>by
    rcases set_slot e1 with ⟨h1,h2,hl⟩ | ⟨h,q1⟩
    · exact absurd h2.symm (hn dss)
    · rw [List.getElem?_set_ne h] at e2
      rcases set_slot e3 with ⟨h3,h4,hl⟩ | ⟨h',q2⟩
      · subst h3 h4
        rw [List.getElem?_set_self (by rw [← E.len]; exact hl)]
        intro z
        exact hk o3 j dss a bs b q1 e2 q hb (Option.some.inj (Option.some.inj z))
      · rw [List.getElem?_set_ne h']
        exact E.lU j k dss t a bs b q1 e2 q hb q2 o3
theorem bS.set (E:bS T W O H env σ)(i:Nat){d:D}{v:V}(r:Rep T (Cl W O) H d v):bS T W O H (env.set i (.val d)) (σ.set i (some v)) :=
  E.HG i ⟨v,rfl,r⟩ (fun z=>nomatch z) (fun z=>nomatch z) fun _ z=>nomatch z
theorem bS.claim (E:bS T W O H env σ){a:Addr}(n:H a=none){o:HO}(hm:Mu (some o)):bS T W (fun b=>O b∨b=a) (upd H a o) env σ:=by
  have s:aG H (upd H a o):=cu n o
  have f:Fr O H (fun b=>O b∨b=a) (upd H a o):=⟨fun b u h _=>s b u h,fun b h=>h.elim .inl fun e=>.inr (e ▸ n),fun b h=>s.free h⟩
  refine ⟨E.fr.trans f,E.new,fun b z=>?_,fun i t e=>(E.slot i t e).kp (E.kp f) (fun _ z=>.inl z) (fun b hs ev=>?_) (fun dss c bs b et ev q hb=>?_),E.inj,E.len,(E.mono s).lU⟩
  · rcases z with z | rfl
    · exact (E.mono s).mu b z
    · rw [bY]; exact hm
  · obtain ⟨c,eb,o⟩:=(E.slot i t e).lV hs
    rw [ev] at eb; cases eb
    have hb:b≠a:=fun z=>by subst z; have:=E.mu b o; rw [n] at this; exact this
    exact ba hb
  · subst et
    obtain ⟨_,_,ys,z⟩:=(E.slot i _ e).inner ev q hb
    exact ba fun w=>by rw [w,n] at z; cases z
theorem bS.upd (E:bS T W O H env σ){i:Nat}{s t:Slot}{a:Addr}{o:HO}(e:env[i]?=some s)(hs:s.iM=true)(ev : σ[i]?=some (some (.ref a)))(hm:Mu (some o))(r:ke T W O (L2.upd H a o) t (some (.ref a)))(hn : ∀ dss,t≠.mS dss:=by exact fun _ z=>nomatch z) :
    bS T W O (L2.upd H a o) (env.set i t) σ∧Fr O H O (L2.upd H a o):=by
  have oa:O a:=by
    obtain ⟨b,eb,o⟩:=(E.slot i s e).lV hs
    rw [ev] at eb; cases eb; exact o
  have f:Fr O H O (L2.upd H a o):=⟨fun b u h n=>by rw [ba (by rintro rfl; exact n oa)]; exact h,fun b h=>.inl h,fun b h=>by
    by_cases z:b=a
    · subst z; rw [bY] at h; cases h
    · rw [ba z] at h; exact h⟩
  refine ⟨⟨E.fr.trans f,E.new,fun b z=>?_,fun j u e'=>?_,fun j k t' u b e1 e2 o1 o2 s1 s2=>?_,by simp [E.len],fun j k dss u c bs b e1 e2 q hb e3 o3=>?_⟩,f⟩
  · by_cases h:b=a
    · subst h; rw [bY]; exact hm
    · rw [ba h]; exact E.mu b z
  · rcases set_slot e' with ⟨rfl,rfl,hl⟩ | ⟨h,e'⟩
    · rw [ev]; exact r
    · refine (E.slot j u e').kp (E.kp f) (fun _ z=>z) (fun b hs' ev'=>?_) fun dss c bs b eu ev' q hb=>?_
      · have hb:b≠a:=fun z=>by subst z; exact h (E.inj i j s u b e e' hs hs' ev (join_some ev'))
        exact ba hb
      · subst eu
        exact ba fun w=>E.lU j i dss s c bs b e' (join_some ev') q hb e hs (w ▸ ev)
  · have old : ∀ {j:Nat} {u:Slot},(env.set i t)[j]?=some u→u.iM=true→∃ u',env[j]?=some u'∧u'.iM=true:=fun {j u} e' o'=>by
      rcases set_slot e' with ⟨rfl,rfl,hl⟩ | ⟨h,e'⟩
      · exact ⟨s,e,hs⟩
      · exact ⟨u,e',o'⟩
    obtain ⟨t1,h1,h2⟩:=old e1 o1
    obtain ⟨t2,h3,h4⟩:=old e2 o2
    exact E.inj j k t1 t2 b h1 h3 h2 h4 s1 s2
  · rcases set_slot e1 with ⟨h1,h2,hl⟩ | ⟨h,q1⟩
    · exact absurd h2.symm (hn dss)
    · have hca:c≠a:=fun w=>by subst w; exact h (E.inj i j s _ c e q1 hs rfl ev e2)
      rw [ba hca] at q
      rcases set_slot e3 with ⟨rfl,rfl,hl⟩ | ⟨h',q2⟩
      · exact E.lU j i dss s c bs b q1 e2 q hb e hs
      · exact E.lU j k dss u c bs b q1 e2 q hb q2 o3
end
end DL
end
section
namespace DL
open PySem L2
noncomputable abbrev FP (α:Type):=aN→Option α
noncomputable abbrev FE:=FP D
noncomputable abbrev RK (α γ:Type):=(Addr→Prop)→Hp→Hp→α→γ→Prop
class Kd {α γ:Type} (ρ:RK α γ):Prop where
  st : ∀ A H0 H H' x v,aG H H'→ρ A H0 H x v→ρ A H0 H' x v
  an : ∀ A H0 H1 H x v,aG H0 H1→ρ A H1 H x v→ρ A H0 H x v
noncomputable def kD (T:Tx):RK D V:=fun A _ H d v=>Rep T A H d v
noncomputable def aE (T:Tx)(A:Addr→Prop)(H:Hp)(d:D)(v:V):Prop:=match d with
  | .lst ds=>∃ a xs,v=.ref a∧SqL T.K H a xs∧aI T A H ds xs
  | d=>Rep T A H d v
noncomputable def kR (T:Tx):RK D V:=fun A _ H d v=>aE T A H d v
noncomputable def kF (T:Tx):RK (List D) V:=fun A H0 H ds v=>∃ a xs,v=.ref a∧H0 a=none∧H a=some (.lst xs)∧aI T (fun b=>A b∧b≠a) H ds xs
noncomputable def kB:RK Bool Bool:=fun _ _ _ b c=>b=c
noncomputable def kO:RK (Option Int) (Option Int):=fun _ _ _ b c=>b=c
noncomputable def kA (T:Tx):RK (List D) (List V):=fun A _ H ds vs=>aI T A H ds vs
section
variable {T:Tx}{A:Addr→Prop}{H H':Hp}
theorem aE.of {d:D}{v:V}(h:Rep T A H d v):aE T A H d v:=by
  cases d with
  | lst ds=>obtain ⟨a,xs,e,q,r⟩:=h.fY; exact ⟨a,xs,e,q.sq,r⟩
  | _=>exact h
theorem SqT.mono {K:PySem.W.Frag}(s:aG H H'){a:Addr}{xs:List V}(h:SqT K H a xs):SqT K H' a xs:=by
  rcases h with (h | ⟨o,h⟩) | h
  · exact .inl (.inl (s _ _ h))
  · exact .inl (.inr ⟨o,s _ _ h⟩)
  · exact .inr h
theorem aE.mono (s:aG H H'){d:D}{v:V}(h:aE T A H d v):aE T A H' d v:=by
  cases d with
  | lst ds=>obtain ⟨a,xs,e,q,r⟩:=h; exact ⟨a,xs,e,s.seq q,r.mono s fun _ z=>z⟩
  | _=>exact Rep.mono s (fun _ z=>z) h
theorem aE.fY {ds:List D}{v:V}(h:aE T A H (.lst ds) v) : ∃ a xs,v=.ref a∧SqL T.K H a xs∧aI T A H ds xs:=h
theorem aE.gq {ds:List D}{v:V}(h:aE T A H (.tup ds) v) : ∃ a xs,v=.ref a∧SqT T.K H a xs∧aI T A H ds xs:=Rep.gq (show Rep T A H (.tup ds) v from h)
theorem aE.dz {i:Int}{v:V}(h:aE T A H (.int i) v):v=.int i:=Rep.dz (show Rep T A H (.int i) v from h)
theorem aE.gr {i:List Nat}{v:V}(h:aE T A H (.str i) v):v=.str (mkS i):=Rep.gr (show Rep T A H (.str i) v from h)
theorem aE.bl_ {i:Bool}{v:V}(h:aE T A H (.bl i) v):v=.bl i:=Rep.bl_ (show Rep T A H (.bl i) v from h)
theorem aE.lT {v:V}(h:aE T A H .non v):v=.non:=Rep.lT (show Rep T A H .non v from h)
noncomputable instance:Kd (kD T):=⟨fun _ _ _ _ _ _ s h=>Rep.mono s (fun _ z=>z) h,fun _ _ _ _ _ _ _ h=>h⟩
noncomputable instance:Kd (kR T):=⟨fun _ _ _ _ _ _ s h=>aE.mono s h,fun _ _ _ _ _ _ _ h=>h⟩
noncomputable instance:Kd (kA T):=⟨fun _ _ _ _ _ _ s h=>aI.mono s (fun _ z=>z) h,fun _ _ _ _ _ _ _ h=>h⟩
noncomputable instance:Kd kB:=⟨fun _ _ _ _ _ _ _ h=>h,fun _ _ _ _ _ _ _ h=>h⟩
noncomputable instance:Kd kO:=⟨fun _ _ _ _ _ _ _ h=>h,fun _ _ _ _ _ _ _ h=>h⟩
noncomputable instance:Kd (kF T):=⟨fun _ _ _ _ _ _ s ⟨a,xs,e,n,q,r⟩=>⟨a,xs,e,n,s _ _ q,r.mono s fun _ z=>z⟩,fun _ _ _ _ _ _ s ⟨a,xs,e,n,q,r⟩=>⟨a,xs,e,s.free n,q,r⟩⟩
end
noncomputable def tP {α γ:Type}(T:Tx)(ρ:RK α γ)(f:FP α):St→Hp→(γ→Hp→Prop)→Prop:=fun σ H Q =>
  ∃ W O env d,bS T W O H env σ∧f env=some d∧∀ v H',aG H H'→ρ (Cl W O) H H' d v→Q v H'
noncomputable abbrev Nw (A:Addr→Prop)(H:Hp):Prop:=∀ a,H a=none→A a
section
variable {α β δ γ γ2 γ3:Type}{T:Tx}{ρ ρ':RK α γ}{f:FP α}{σ:St}{H:Hp}{Q : γ→Hp→Prop}
theorem Bb (w : ∀ A H0 H x v, ρ A H0 H x v→ρ' A H0 H x v)(h:tP T ρ' f σ H Q):tP T ρ f σ H Q:=by
  obtain ⟨W,O,env,d,E,e,q⟩:=h
  exact ⟨W,O,env,d,E,e,fun v H' s r=>q v H' s (w _ _ _ _ _ r)⟩
noncomputable def fp1 (F : α→Option β)(f:FP α):FP β:=fun env=>(f env).bind F
noncomputable def fp2 (F : α→β→Option δ)(f:FP α)(g:FP β):FP δ:=fun env=>(f env).bind fun x=>(g env).bind fun y=>F x y
theorem nI {ρ2:RK β γ2}{ρ3:RK δ V}[Kd ρ][Kd ρ2][Kd ρ3]{F : α→β→Option δ}{g:FP β}{Q3:VK}{r : γ→γ2→Hp→VK→Prop}
    (snd : ∀ (A:Addr→Prop) (H0 H:Hp) (x : α) (y : β) (v : γ) (u : γ2) (d : δ) (Q:VK),Nw A H→ρ A H0 H x v→ρ2 A H0 H y u→F x y=some d→(∀ w H',aG H H'→ρ3 A H H' d w→Q w H')→r v u H Q)
    (h:tP T ρ3 (fp2 F f g) σ H Q3):tP T ρ f σ H fun v H1=>tP T ρ2 g σ H1 fun u H2=>r v u H2 Q3:=by
  obtain ⟨W,O,env,d,E,e,q⟩:=h
  unfold fp2 at e
  cases e1:f env with
  | none=>rw [e1] at e; cases e
  | some x =>
    rw [e1] at e
    cases e2:g env with
    | none=>rw [e2] at e; cases e
    | some y =>
      rw [e2] at e
      refine ⟨W,O,env,x,E,e1,fun v H1 s1 r1=>⟨W,O,env,y,E.mono s1,e2,fun u H2 s2 r2=>?_⟩⟩
      have s:=s1.trans s2
      exact snd (Cl W O) H H2 x y v u d Q3 (fun a n=>(E.mono s).pG n) (Kd.st _ _ _ _ _ _ s2 r1) (Kd.an _ _ _ _ _ _ s1 r2) e fun w H' s3 r3=>q w H' (s.trans s3) (Kd.an _ _ _ _ _ _ s r3)
theorem sP {ρ3:RK δ γ3}[Kd ρ3]{F : α→Option δ}{Q3 : γ3→Hp→Prop}{r : γ→Hp→(γ3→Hp→Prop)→Prop}
    (snd : ∀ (A:Addr→Prop) (H0 H:Hp) (x : α) (v : γ) (d : δ) (Q : γ3→Hp→Prop),Nw A H→ρ A H0 H x v→F x=some d→(∀ w H',aG H H'→ρ3 A H H' d w→Q w H')→r v H Q)
    (h:tP T ρ3 (fp1 F f) σ H Q3):tP T ρ f σ H fun v H1=>r v H1 Q3:=by
  obtain ⟨W,O,env,d,E,e,q⟩:=h
  unfold fp1 at e
  cases e1:f env with
  | none=>rw [e1] at e; cases e
  | some x =>
    rw [e1] at e
    refine ⟨W,O,env,x,E,e1,fun v H1 s1 r1=>?_⟩
    exact snd (Cl W O) H H1 x v d Q3 (fun a n=>(E.mono s1).pG n) r1 e fun w H' s3 r3=>q w H' (s1.trans s3) (Kd.an _ _ _ _ _ _ s1 r3)
end
noncomputable def ae (i:Nat):FE:=fun env=>match env[i]? with
  | some (.val d)=>some d
  | _=>none
noncomputable def lW (i:Nat):FE:=fun env=>match env[i]? with
  | some (.val d)=>some d
  | some (.own ds)=>some (.lst ds)
  | some (.red ds)=>some (.lst ds)
  | _=>none
noncomputable def feC (d:D):FE:=fun _=>some d
section
variable {T:Tx}{f g:FE}{σ:St}{H:Hp}{Q:VK}
theorem Bc {i:Nat}(h:tP T (kD T) (ae i) σ H Q):wR i σ H Q:=by
  obtain ⟨W,O,env,d,E,e,q⟩:=h
  unfold ae at e
  split at e
  · rename_i d' es
    cases e
    obtain ⟨v,e1,r⟩:=E.val es
    exact ⟨v,e1,q v H (aG.refl _) r⟩
  · cases e
theorem Bd {i:Nat}(h:tP T (kR T) (lW i) σ H Q):wR i σ H Q:=by
  obtain ⟨W,O,env,d,E,e,q⟩:=h
  unfold lW at e
  split at e
  · rename_i d' es
    cases e
    obtain ⟨v,e1,r⟩:=E.val es
    exact ⟨v,e1,q v H (aG.refl _) (aE.of r)⟩
  · rename_i ds es
    cases e
    obtain ⟨a,xs,e1,_,_,hl,r⟩:=E.own es
    exact ⟨.ref a,e1,q _ H (aG.refl _) ⟨a,xs,rfl,.inl (.inl hl),r⟩⟩
  · rename_i ds es
    cases e
    obtain ⟨a,xs,e1,hl,r⟩:=E.red es
    exact ⟨.ref a,e1,q _ H (aG.refl _) ⟨a,xs,rfl,.inl (.inl hl),r⟩⟩
  · cases e
theorem yP {d:D}{v:V}(hv : ∀ A H,Rep T A H d v)(h:tP T (kD T) (feC d) σ H Q):tC v σ H Q:=by
  obtain ⟨W,O,env,d',E,e,q⟩:=h
  cases e
  exact q v H (aG.refl _) (hv _ _)
noncomputable def cW (f:FP (List D)):FE:=fun env=>(f env).map .lst
theorem D8 {f:FP (List D)}(h:tP T (kD T) (cW f) σ H Q):tP T (kF T) f σ H Q:=by
  obtain ⟨W,O,env,d,E,e,q⟩:=h
  unfold cW at e
  cases e1:f env with
  | none=>rw [e1] at e; cases e
  | some ds =>
    rw [e1] at e
    cases e
    refine ⟨W,O,env,ds,E,e1,fun v H' s ⟨a,xs,ev,n,hl,r⟩=>q v H' s ?_⟩
    subst ev
    exact Rep.lst (.inl ⟨.inl hl,E.pG n⟩) (r.mono (aG.refl _) fun _ z=>z.1)
noncomputable abbrev FA:=FP (List D)
noncomputable def ay:FA:=fun _=>some []
noncomputable def ah (f:FE)(g:FA):FA:=fun env=>(f env).bind fun x=>(g env).bind fun r=>some (x::r)
theorem Eu {Q:List V→Hp→Prop}(h:tP T (kA T) ay σ H Q):wZ σ H Q:=by
  obtain ⟨W,O,env,ds,E,e,q⟩:=h
  cases e
  exact q [] H (aG.refl _) .nil
theorem Be {g:FA}{Q:List V→Hp→Prop}(h:tP T (kA T) (ah f g) σ H Q):mF (tP T (kD T) f) (tP T (kA T) g) σ H Q:=by
  obtain ⟨W,O,env,ds,E,e,q⟩:=h
  unfold ah at e
  cases e1:f env with
  | none=>rw [e1] at e; cases e
  | some x =>
    rw [e1] at e
    cases e2:g env with
    | none=>rw [e2] at e; cases e
    | some y =>
      rw [e2] at e
      cases e
      refine ⟨W,O,env,x,E,e1,fun v H1 s1 r1=>⟨W,O,env,y,E.mono s1,e2,fun vs H2 s2 r2=>?_⟩⟩
      exact q (v::vs) H2 (s1.trans s2) (.cons (Rep.mono s2 (fun _ z=>z) r1) r2)
theorem small {n:Nat}(h:n≤1000000):n≤sizeLine:=Nat.le_trans h (by decide)
noncomputable def cz (f:FA):FE:=fp1 (fun ds=>if ds.length≤1000 then some (.tup ds) else none) f
noncomputable def gI (f:FA):FP (List D):=fp1 (fun ds=>if ds.length≤1000 then some ds else none) f
theorem Ex {f:FA}(h:tP T (kD T) (cz f) σ H Q):Ht (tP T (kA T) f) σ H Q :=
  sP (ρ:=kA T) (γ3:=V) (r:=fun xs H1 (Q:VK)=>xs.length≤sizeLine∧∀ p,H1 p=none→Q (.ref p) (upd H1 p (.tup xs))) (fun A H0 H x v d Q nw r e k=>by
    by_cases c:x.length≤1000
    · rw [if_pos c] at e; cases e
      have r:aI T A H x v:=r
      exact ⟨small (by rw [← r.length]; omega),fun p hp=>k _ _ (cu hp _) (Rep.xf r hp)⟩
    · rw [if_neg c] at e; cases e) h
theorem nJ {A:Addr→Prop}{ds:List D}{xs:List V}(r:aI T A H ds xs){p:Addr}(hp:H p=none):kF T A H (upd H p (.lst xs)) ds (.ref p):=by
  refine ⟨p,xs,rfl,hp,bY,r.kp (Kp.same (cu hp _) fun b o z e=>⟨z,fun w=>?_⟩)⟩
  subst w; rw [hp] at e; cases e
theorem Ey {f:FA}(h:tP T (kF T) (gI f) σ H Q):Hu (tP T (kA T) f) σ H Q :=
  sP (ρ:=kA T) (γ3:=V) (r:=fun xs H1 (Q:VK)=>xs.length≤sizeLine∧∀ p,H1 p=none→Q (.ref p) (upd H1 p (.lst xs))) (fun A H0 H x v d Q nw r e k=>by
    by_cases c:x.length≤1000
    · rw [if_pos c] at e; cases e
      have r:aI T A H x v:=r
      exact ⟨small (by rw [← r.length]; omega),fun p hp=>k _ _ (cu hp _) (nJ r hp)⟩
    · rw [if_neg c] at e; cases e) h
end
noncomputable abbrev FT:=FP Bool
noncomputable def blD:D→Option Bool
  | .bl b=>some b
  | _=>none
noncomputable def ftB (f:FE):FT:=fp1 blD f
noncomputable def fK (c:FT):FT:=fun env=>(c env).bind fun b=>some (!b)
noncomputable def kg (c d:FT):FT:=fun env=>(c env).bind fun b=>if b=true then d env else some false
noncomputable def jy (c d:FT):FT:=fun env=>(c env).bind fun b=>if b=true then some true else d env
noncomputable def sQ (f:FE):FE:=fp1 (fun x=>(blD x).map fun b=>D.bl (!b)) f
noncomputable def i4 (f g:FE):FE:=fun env=>(f env).bind fun x=>(blD x).bind fun b=>if b=true then g env else some (.bl false)
noncomputable def kx (f g:FE):FE:=fun env=>(f env).bind fun x=>(blD x).bind fun b=>if b=true then some (.bl true) else g env
noncomputable def uS {α:Type}(c:FT)(f g:FP α):FP α:=fun env=>(c env).bind fun b=>if b=true then f env else g env
theorem lq {d:D}{b:Bool}(h:blD d=some b):d=.bl b:=by
  cases d with
  | bl c=>cases h; rfl
  | _=>cases h
section
variable {T:Tx}{f g:FE}{c d:FT}{σ:St}{H:Hp}
theorem mX {Q:Bool→Hp→Prop}(h:tP T kB (ftB f) σ H Q):yA (tP T (kD T) f) σ H Q :=
  sP (ρ:=kD T) (r:=fun x H' Q=>∃ k,x=.bl k∧Q k H') (fun A H0 H x v d Q nw r e k=>by
    cases lq e
    exact ⟨d,Rep.bl_ r,k _ H (aG.refl _) rfl⟩) h
theorem Bf {Q:Bool→Hp→Prop}(h:tP T kB (fK c) σ H Q):Hf (tP T kB c) σ H Q:=by
  obtain ⟨W,O,env,b,E,e,q⟩:=h
  unfold fK at e
  cases e1:c env with
  | none=>rw [e1] at e; cases e
  | some x =>
    rw [e1] at e
    cases e
    exact ⟨W,O,env,x,E,e1,fun v H' s r=>by cases r; exact q _ H' s rfl⟩
theorem Bg {Q:Bool→Hp→Prop}(h:tP T kB (kg c d) σ H Q):He (tP T kB c) (tP T kB d) σ H Q:=by
  obtain ⟨W,O,env,b,E,e,q⟩:=h
  unfold kg at e
  cases e1:c env with
  | none=>rw [e1] at e; cases e
  | some x =>
    rw [e1] at e
    refine ⟨W,O,env,x,E,e1,fun v H' s r=>?_⟩
    cases r
    cases x with
    | true=>exact ⟨W,O,env,b,E.mono s,e,fun v2 H2 s2 r2=>q v2 H2 (s.trans s2) r2⟩
    | false=>cases e; exact q _ H' s rfl
theorem Ez {Q:Bool→Hp→Prop}(h:tP T kB (jy c d) σ H Q):tOr (tP T kB c) (tP T kB d) σ H Q:=by
  obtain ⟨W,O,env,b,E,e,q⟩:=h
  unfold jy at e
  cases e1:c env with
  | none=>rw [e1] at e; cases e
  | some x =>
    rw [e1] at e
    refine ⟨W,O,env,x,E,e1,fun v H' s r=>?_⟩
    cases r
    cases x with
    | false=>exact ⟨W,O,env,b,E.mono s,e,fun v2 H2 s2 r2=>q v2 H2 (s.trans s2) r2⟩
    | true=>cases e; exact q _ H' s rfl
theorem EA {Q:VK}(h:tP T (kD T) (sQ f) σ H Q):CW (tP T (kD T) f) σ H Q :=
  sP (ρ:=kD T) (γ3:=V) (r:=fun x H1 (Q:VK)=>∃ c,x=.bl c∧Q (.bl (!c)) H1) (fun A H0 H x v d Q nw r e k=>by
    cases e1:blD x with
    | none=>rw [e1] at e; cases e
    | some b =>
      rw [e1] at e; cases e
      cases lq e1
      exact ⟨b,Rep.bl_ r,k _ H (aG.refl _) (Rep.bl _)⟩) h
theorem EB {Q:VK}(h:tP T (kD T) (i4 f g) σ H Q):CV (tP T (kD T) f) (tP T (kD T) g) σ H Q:=by
  obtain ⟨W,O,env,d,E,e,q⟩:=h
  unfold i4 at e
  cases e1:f env with
  | none=>rw [e1] at e; cases e
  | some x =>
    rw [e1] at e
    dsimp only [Option.bind_some] at e
    cases e2:blD x with
    | none=>rw [e2] at e; cases e
    | some b =>
      rw [e2] at e
      cases lq e2
      refine ⟨W,O,env,_,E,e1,fun v H' s r=>⟨b,Rep.bl_ r, ?_⟩⟩
      cases b with
      | true=>exact ⟨W,O,env,d,E.mono s,e,fun v2 H2 s2 r2=>q v2 H2 (s.trans s2) r2⟩
      | false=>cases e; exact q _ H' s (Rep.bl _)
theorem HH {Q:VK}(h:tP T (kD T) (kx f g) σ H Q):Hg (tP T (kD T) f) (tP T (kD T) g) σ H Q:=by
  obtain ⟨W,O,env,d,E,e,q⟩:=h
  unfold kx at e
  cases e1:f env with
  | none=>rw [e1] at e; cases e
  | some x =>
    rw [e1] at e
    dsimp only [Option.bind_some] at e
    cases e2:blD x with
    | none=>rw [e2] at e; cases e
    | some b =>
      rw [e2] at e
      cases lq e2
      refine ⟨W,O,env,_,E,e1,fun v H' s r=>⟨b,Rep.bl_ r, ?_⟩⟩
      cases b with
      | false=>exact ⟨W,O,env,d,E.mono s,e,fun v2 H2 s2 r2=>q v2 H2 (s.trans s2) r2⟩
      | true=>cases e; exact q _ H' s (Rep.bl _)
theorem HI {α:Type}{ρ:RK α V}[Kd ρ]{f g:FP α}{Q:VK}(h:tP T ρ (uS c f g) σ H Q):tIf (tP T kB c) (tP T ρ f) (tP T ρ g) σ H Q:=by
  obtain ⟨W,O,env,d,E,e,q⟩:=h
  unfold uS at e
  cases e1:c env with
  | none=>rw [e1] at e; cases e
  | some b =>
    rw [e1] at e
    refine ⟨W,O,env,b,E,e1,fun v H' s r=>?_⟩
    cases r
    have q' : ∀ v2 H2,aG H' H2→ρ (Cl W O) H' H2 d v2→Q v2 H2:=fun v2 H2 s2 r2=>q v2 H2 (s.trans s2) (Kd.an _ _ _ _ _ _ s r2)
    cases b with
    | true=>exact ⟨W,O,env,d,E.mono s,e,q'⟩
    | false=>exact ⟨W,O,env,d,E.mono s,e,q'⟩
end
end DL
end
section
namespace DL
open PySem L2
section
variable {T:Tx}
noncomputable def D9 (K:PySem.W.Frag):R2:=fun x y H Q=>∃ l b xs zs,x=.ref l∧y=.ref b∧SqL K H l xs∧SqL K H b zs∧xs.length+zs.length≤sizeLine∧∀ p,H p=none→Q (.ref p) (upd H p (.lst (xs++zs)))
noncomputable def HJ:R2:=fun x y H Q=>∃ i j,x=.str i∧y=.str j∧i.length+j.length≤sizeLine∧Q (.str (i++j)) H
noncomputable def yQ (K:PySem.W.Frag):R2:=fun x y H Q=>rI0 (fun i j=>.int (i+j)) x y H Q∨HJ x y H Q∨D9 K x y H Q∨yJ K x y H Q
noncomputable def gU:D→D→Option D
  | .int i,.int j=>some (.int (i+j))
  | .str a,.str b=>if a.length+b.length≤1000000 then some (.str (a++b)) else none
  | .lst xs,.lst ys=>if xs.length+ys.length≤1000000 then some (.lst (xs++ys)) else none
  | .tup (x::xs),.tup ys=>if (x::xs).length+ys.length≤1000000 then some (.tup ((x::xs)++ys)) else none
  | _,_=>none
noncomputable def rp:D→D→Option (List D)
  | .lst xs,.lst ys=>if xs.length+ys.length≤1000000 then some (xs++ys) else none
  | _,_=>none
theorem Bh (a b:List Nat):mkS (a++b)=mkS a++mkS b:=by
  show (⟨(a++b).toArray⟩:Str)=⟨a.toArray++b.toArray⟩
  simp
theorem Bi (A:Addr→Prop)(H0 H:Hp)(x y:D)(v u:V)(d:D)(Q:VK)(nw:Nw A H)(rx:kR T A H0 H x v)(ry:kR T A H0 H y u)(e:gU x y=some d)
    (k : ∀ w H',aG H H'→kD T A H H' d w→Q w H'):yQ T.K v u H Q:=by
  unfold gU at e
  split at e
  · cases e; cases aE.dz rx; cases aE.dz ry
    exact .inl ⟨_,_,rfl,rfl,k _ H (aG.refl _) (Rep.int _)⟩
  · rename_i i j
    cases aE.gr rx; cases aE.gr ry
    by_cases c:i.length+j.length≤1000000
    · rw [if_pos c] at e; cases e
      exact .inr (.inl ⟨_,_,rfl,rfl,small (by rw [gZ,gZ]; exact c),k _ H (aG.refl _) (by rw [← Bh]; exact Rep.str _)⟩)
    · rw [if_neg c] at e; cases e
  · rename_i xs ys
    by_cases c:xs.length+ys.length≤1000000
    · rw [if_pos c] at e; cases e
      obtain ⟨l,vs,rfl,hl,rl⟩:=aE.fY rx
      obtain ⟨b,us,rfl,hb,rb⟩:=aE.fY ry
      exact .inr (.inr (.inl ⟨l,b,vs,us,rfl,rfl,hl,hb,small (by rw [← rl.length, ← rb.length]; exact c),fun p hp=>k _ _ (cu hp _) (Rep.HF (rl.append rb) hp (nw p hp))⟩))
    · rw [if_neg c] at e; cases e
  · rename_i x0 xs ys
    by_cases c:(x0::xs).length+ys.length≤1000000
    · rw [if_pos c] at e; cases e
      obtain ⟨l,vs,rfl,hl,rl⟩:=aE.gq rx
      obtain ⟨b,us,rfl,hb,rb⟩:=aE.gq ry
      have ne:vs≠[]:=by
        have:=rl.length
        intro z; subst z; simp at this
      refine .inr (.inr (.inr ⟨l,b,vs,us,rfl,rfl,hl,hb,ne,small (by rw [← rl.length, ← rb.length]; exact c),fun e0=>k _ _ (aG.refl _) ?_,fun _ p hp=>k _ _ (cu hp _) (Rep.xf (rl.append rb) hp)⟩))
      subst e0
      exact Rep.tup hl (by simpa using rl.append rb)
    · rw [if_neg c] at e; cases e
  · cases e
theorem yR (A:Addr→Prop)(H0 H:Hp)(x y:D)(v u:V)(d:List D)(Q:VK)(nw:Nw A H)(rx:kR T A H0 H x v)(ry:kR T A H0 H y u)(e:rp x y=some d)
    (k : ∀ w H',aG H H'→kF T A H H' d w→Q w H'):yQ T.K v u H Q:=by
  unfold rp at e
  split at e
  · rename_i xs ys
    by_cases c:xs.length+ys.length≤1000000
    · rw [if_pos c] at e; cases e
      obtain ⟨l,vs,rfl,hl,rl⟩:=aE.fY rx
      obtain ⟨b,us,rfl,hb,rb⟩:=aE.fY ry
      exact .inr (.inr (.inl ⟨l,b,vs,us,rfl,rfl,hl,hb,small (by rw [← rl.length, ← rb.length]; exact c),fun p hp=>k _ _ (cu hp _) (nJ (rl.append rb) hp)⟩))
    · rw [if_neg c] at e; cases e
  · cases e
noncomputable def intD (g:Int→Int→Option D):D→D→Option D
  | .int i,.int j=>g i j
  | _,_=>none
noncomputable def flat:D→Option V
  | .non=>some .non
  | .bl b=>some (.bl b)
  | .int i=>some (.int i)
  | .str x=>some (.str (mkS x))
  | _=>none
theorem nK {A A':Addr→Prop}{H H':Hp}{d:D}{v w:V}(h:flat d=some v)(r:aE T A H d w):w=v∧kc v=true∧Rep T A' H' d v:=by
  cases d with
  | non=>cases h; exact ⟨aE.lT r,rfl,.non⟩
  | bl b=>cases h; exact ⟨aE.bl_ r,rfl,.bl _⟩
  | int b=>cases h; exact ⟨aE.dz r,rfl,.int _⟩
  | str b=>cases h; exact ⟨aE.gr r,rfl,.str _⟩
  | _=>cases h
theorem Bj {A:Addr→Prop}{H:Hp}{d:D}{v:V}(h:flat d=some v):Rep T A H d v:=by
  cases d with
  | non=>cases h; exact .non
  | bl b=>cases h; exact .bl _
  | int b=>cases h; exact .int _
  | str b=>cases h; exact .str _
  | _=>cases h
theorem mY {C:Int→Int→Prop}{gv:Int→Int→V}{g:Int→Int→Option D}(hg : ∀ i j d,g i j=some d→C i j∧flat d=some (gv i j))
    (A:Addr→Prop) (H0 H:Hp) (x y:D) (v u:V) (d:D) (Q:VK) (nw:Nw A H) (rx:kD T A H0 H x v) (ry:kD T A H0 H y u) (e:intD g x y=some d)
    (k : ∀ w H',aG H H'→kD T A H H' d w→Q w H'):rI C gv v u H Q:=by
  unfold intD at e
  split at e
  · rename_i i j
    cases Rep.dz rx; cases Rep.dz ry
    obtain ⟨h1,h2⟩:=hg i j d e
    exact ⟨i,j,rfl,rfl,h1,k _ H (aG.refl _) (Bj h2)⟩
  · cases e
theorem i5 {gv:Int→Int→V}{g:Int→Int→D}(hg : ∀ i j,flat (g i j)=some (gv i j))
    (A:Addr→Prop) (H0 H:Hp) (x y:D) (v u:V) (d:D) (Q:VK) (nw:Nw A H) (rx:kD T A H0 H x v) (ry:kD T A H0 H y u) (e:intD (fun i j=>some (g i j)) x y=some d)
    (k : ∀ w H',aG H H'→kD T A H H' d w→Q w H'):rI0 gv v u H Q:=by
  obtain ⟨i,j,h1,h2,_,h3⟩:=mY (T:=T) (C:=fun _ _=>True) (gv:=gv) (g:=fun i j=>some (g i j)) (fun i j d e=>by cases e; exact ⟨True.intro,hg i j⟩) A H0 H x y v u d Q nw rx ry e k
  exact ⟨i,j,h1,h2,h3⟩
noncomputable def ixD:D→D→Option D
  | .lst ds,.int i=>atI ds i
  | .tup ds,.int i=>atI ds i
  | .str z,.int i=>if z.length≤1000000 then (atI z i).map fun c=>.str [c] else none
  | _,_=>none
theorem aI.at {A:Addr→Prop}{H:Hp}{ds:List D}{vs:List V}{i:Int}{d:D}(r:aI T A H ds vs)(e:atI ds i=some d) : ∃ v,atI vs i=some v∧Rep T A H d v:=by
  unfold atI at e ⊢
  rw [← r.length]
  cases q:ixN ds.length i with
  | none=>rw [q] at e; cases e
  | some j =>
    rw [q] at e
    exact r.get e
theorem EC (A:Addr→Prop)(H0 H:Hp)(x y:D)(v u:V)(d:D)(Q:VK)(nw:Nw A H)(rx:kR T A H0 H x v)(ry:kD T A H0 H y u)(e:ixD x y=some d)
    (k : ∀ w H',aG H H'→kD T A H H' d w→Q w H'):rIx T.K v u H Q:=by
  unfold ixD at e
  split at e
  · rename_i ds i
    cases Rep.dz ry
    obtain ⟨l,vs,rfl,hl,rl⟩:=aE.fY rx
    obtain ⟨w,e2,r2⟩:=rl.at e
    exact .inl ⟨l,vs,i,w,rfl,rfl,hl,e2,k _ H (aG.refl _) r2⟩
  · rename_i ds i
    cases Rep.dz ry
    obtain ⟨l,vs,rfl,hl,rl⟩:=aE.gq rx
    obtain ⟨w,e2,r2⟩:=rl.at e
    exact .inr (.inl ⟨l,vs,i,w,rfl,rfl,hl,e2,k _ H (aG.refl _) r2⟩)
  · rename_i z i
    cases aE.gr rx; cases Rep.dz ry
    by_cases c:z.length≤1000000
    · rw [if_pos c] at e
      cases e1:atI z i with
      | none=>rw [e1] at e; cases e
      | some d' =>
        rw [e1] at e; cases e
        exact .inr (.inr ⟨_,i,d',rfl,rfl,small (by rw [gZ]; exact c),by simpa using e1,k _ H (aG.refl _) (Rep.str [d'])⟩)
    · rw [if_neg c] at e; cases e
  · cases e
noncomputable def lr:List D→Option (List V)
  | []=>some []
  | d::ds=>(flat d).bind fun v=>(lr ds).bind fun r=>some (v::r)
theorem lX {A:Addr→Prop}{H:Hp} : ∀ {ds:List D} {vs ws:List V},lr ds=some vs→aI T A H ds ws→ws=vs∧vs.all kc=true
  | [],_,_,h,r=>by
    cases h
    exact ⟨r.j8,rfl⟩
  | d::ds,_,_,h,r=>by
    unfold lr at h
    cases e1:flat d with
    | none=>rw [e1] at h; cases h
    | some v =>
      rw [e1] at h
      cases e2:lr ds with
      | none=>rw [e2] at h; cases h
      | some r' =>
        rw [e2] at h; cases h
        obtain ⟨x,t,rfl,h1,h2⟩:=r.dW
        obtain ⟨h3,h4,_⟩:=nK (A':=A) (H':=H) e1 (aE.of h1)
        obtain ⟨h5,h6⟩:=lX e2 h2
        subst h3 h5
        exact ⟨rfl,by rw [List.all_cons,h4,h6]; rfl⟩
noncomputable def yS:D→D→Bool
  | .non,.non=>true
  | .bl a,.bl b=>a == b
  | .bl a,.int b=>(if a then 1 else 0) == b
  | .int a,.bl b=>a == (if b then 1 else 0)
  | .int a,.int b=>a == b
  | .str a,.str b=>a == b
  | _,_=>false
theorem yT {x y:D}{v u:V}(h1:flat x=some v)(h2:flat y=some u):yS x y=eqV v u:=by
  have hs : ∀ a b:List Nat,(a == b)=(mkS a == mkS b):=fun a b=>by
    by_cases h:a=b
    · subst h; simp
    · rw [beq_eq_false_iff_ne.mpr h,beq_eq_false_iff_ne.mpr fun e=>h (jP e)]
  cases x <;> cases h1 <;> cases y <;> cases h2 <;> first | rfl | exact hs _ _
noncomputable def lY (x:D)(ds:List D):Bool:=ds.any fun y=>yS y x
theorem nM {x:D}{v:V}(h1:flat x=some v) : ∀ {ds:List D} {vs:List V},lr ds=some vs→lY x ds=inV v vs
  | [],_,h=>by cases h; rfl
  | d::ds,_,h=>by
    unfold lr at h
    cases e1:flat d with
    | none=>rw [e1] at h; cases h
    | some w =>
      rw [e1] at h
      cases e2:lr ds with
      | none=>rw [e2] at h; cases h
      | some r' =>
        rw [e2] at h; cases h
        have ih:=nM h1 e2
        unfold lY inV at ih ⊢
        rw [List.any_cons,List.any_cons,yT e1 h1,ih]
noncomputable def dZ (d:D):Bool:=(flat d).isSome
theorem jz {d:D}(h:dZ d=true) : ∃ v,flat d=some v:=Option.isSome_iff_exists.mp h
theorem ky : ∀ {ds:List D},ds.all dZ=true→∃ vs,lr ds=some vs
  | [],_=>⟨[],rfl⟩
  | d::ds,h=>by
    rw [List.all_cons,Bool.and_eq_true] at h
    obtain ⟨v,e⟩:=jz h.1
    obtain ⟨vs,e2⟩:=ky h.2
    exact ⟨v::vs,by unfold lr; rw [e,e2]; rfl⟩
noncomputable def HK (K:PySem.W.Frag)(neg:Bool):R2:=fun x y H Q=>(∃ (c:Nat) (j:List Nat),x=.str (mkS [c])∧y=.str (mkS j)∧Q (.bl (if neg then !(j.contains c) else j.contains c)) H)∨rIn K neg x y H Q
noncomputable def inD (neg:Bool):D→D→Option D
  | .str [c],.str j=>some (.bl (if neg then !(j.contains c) else j.contains c))
  | x,.tup ds=>if dZ x && ds.all dZ then some (.bl (if neg then !lY x ds else lY x ds)) else none
  | x,.lst ds=>if dZ x && ds.all dZ then some (.bl (if neg then !lY x ds else lY x ds)) else none
  | _,_=>none
theorem yU (neg:Bool)(A:Addr→Prop)(H0 H:Hp)(x y:D)(v u:V)(d:D)(Q:VK)(nw:Nw A H)(rx:kD T A H0 H x v)(ry:kR T A H0 H y u)(e:inD neg x y=some d)
    (k : ∀ w H',aG H H'→kD T A H H' d w→Q w H'):HK T.K neg v u H Q:=by
  unfold inD at e
  split at e
  · rename_i c j
    cases Rep.gr rx; cases aE.gr ry; cases e
    exact .inl ⟨c,j,rfl,rfl,k _ H (aG.refl _) (Rep.bl _)⟩
  · rename_i ds
    by_cases c:(dZ x && ds.all dZ)=true
    · rw [if_pos c] at e; cases e
      rw [Bool.and_eq_true] at c
      obtain ⟨w,e1⟩:=jz c.1
      obtain ⟨ws,e2⟩:=ky c.2
      obtain ⟨l,vs,rfl,hl,rl⟩:=aE.gq ry
      obtain ⟨h3,h4,_⟩:=nK (A':=A) (H':=H) e1 (aE.of rx)
      obtain ⟨h5,h6⟩:=lX e2 rl
      subst h3 h5
      rw [nM e1 e2] at k
      exact .inr ⟨l,vs,rfl,.inr hl,h4,h6,k _ H (aG.refl _) (Rep.bl _)⟩
    · rw [if_neg c] at e; cases e
  · rename_i ds
    by_cases c:(dZ x && ds.all dZ)=true
    · rw [if_pos c] at e; cases e
      rw [Bool.and_eq_true] at c
      obtain ⟨w,e1⟩:=jz c.1
      obtain ⟨ws,e2⟩:=ky c.2
      obtain ⟨l,vs,rfl,hl,rl⟩:=aE.fY ry
      obtain ⟨h3,h4,_⟩:=nK (A':=A) (H':=H) e1 (aE.of rx)
      obtain ⟨h5,h6⟩:=lX e2 rl
      subst h3 h5
      rw [nM e1 e2] at k
      exact .inr ⟨l,vs,rfl,.inl hl,h4,h6,k _ H (aG.refl _) (Rep.bl _)⟩
    · rw [if_neg c] at e; cases e
  · cases e
noncomputable def kRA (T:Tx):RK (List D) (List V):=fun A _ H ds vs=>match ds with
  | [d]=>∃ v,vs=[v]∧aE T A H d v
  | ds=>aI T A H ds vs
noncomputable instance:Kd (kRA T):=⟨fun A _ H H' ds vs s h=>by
    unfold kRA at h ⊢
    split at h
    · obtain ⟨v,e,r⟩:=h; exact ⟨v,e,aE.mono s r⟩
    · exact aI.mono s (fun _ z=>z) h,fun _ _ _ _ _ _ _ h=>h⟩
noncomputable def el:D→Option D
  | .lst ds=>some (.int ds.length)
  | .tup ds=>some (.int ds.length)
  | .str z=>if z.length≤1000000 then some (.int z.length) else none
  | _=>none
noncomputable def faR (f:FE):FA:=fun env=>(f env).map fun d=>[d]
theorem ED {f:FE}{σ:St}{H:Hp}{Q:List V→Hp→Prop}(h:tP T (kRA T) (faR f) σ H Q):mF (tP T (kR T) f) wZ σ H Q:=by
  obtain ⟨W,O,env,ds,E,e,q⟩:=h
  unfold faR at e
  cases e1:f env with
  | none=>rw [e1] at e; cases e
  | some x =>
    rw [e1] at e; cases e
    exact ⟨W,O,env,x,E,e1,fun v H1 s1 r1=>q [v] H1 s1 ⟨v,rfl,r1⟩⟩
noncomputable def of1 {α:Type}(F:D→Option α):List D→Option α
  | [d]=>F d
  | _=>none
theorem Bk {α:Type}{ρ3:RK α V}{F:D→Option α}{r:List V→Hp→VK→Prop}
    (snd : ∀ (A:Addr→Prop) (H0 H:Hp) (x:D) (v:V) (d : α) (Q:VK),Nw A H→kR T A H0 H x v→F x=some d→(∀ w H',aG H H'→ρ3 A H H' d w→Q w H')→r [v] H Q)
    (A:Addr→Prop) (H0 H:Hp) (ds:List D) (vs:List V) (d : α) (Q:VK) (nw:Nw A H) (rr:kRA T A H0 H ds vs) (e:of1 F ds=some d) (k : ∀ w H',aG H H'→ρ3 A H H' d w→Q w H'):r vs H Q:=by
  unfold of1 at e
  split at e
  · obtain ⟨v,rfl,h⟩:=rr
    exact snd A H0 H _ v d Q nw h e k
  · cases e
noncomputable def JW (K:PySem.W.Frag):List V→Hp→VK→Prop:=fun xs H Q=>∃ x n,xs=[x]∧Hs K x H n∧Q (.int n) H
theorem Bl (A:Addr→Prop)(H0 H:Hp)(x:D)(v:V)(d:D)(Q:VK)(nw:Nw A H)(r:kR T A H0 H x v)(e:el x=some d)(k : ∀ w H',aG H H'→kD T A H H' d w→Q w H'):JW T.K [v] H Q:=by
  unfold el at e
  split at e
  · cases e
    obtain ⟨l,xs,rfl,hl,rl⟩:=aE.fY r
    exact ⟨_,xs.length,rfl,.inl ⟨xs,hl,rfl⟩,k _ H (aG.refl _) (by rw [rl.length]; exact Rep.int _)⟩
  · cases e
    obtain ⟨l,xs,rfl,hl,rl⟩:=aE.gq r
    exact ⟨_,xs.length,rfl,.inr ⟨xs,hl,rfl⟩,k _ H (aG.refl _) (by rw [rl.length]; exact Rep.int _)⟩
  · rename_i z
    by_cases c:z.length≤1000000
    · rw [if_pos c] at e; cases e
      cases aE.gr r
      exact ⟨_,z.length,rfl,⟨small (by rw [gZ]; exact c),(gZ z).symm⟩,k _ H (aG.refl _) (Rep.int _)⟩
    · rw [if_neg c] at e; cases e
  · cases e
noncomputable def JX (K:PySem.W.Frag):List V→Hp→VK→Prop:=fun xs H Q=>∃ p ys,xs=[.ref p]∧(SqL K H p ys∨SqT K H p ys)∧∀ l,H l=none→Q (.ref l) (upd H l (.lst ys))
noncomputable def JY (K:PySem.W.Frag):List V→Hp→VK→Prop:=fun xs H Q=>∃ p ys,xs=[.ref p]∧((SqL K H p ys∧∀ l,H l=none→Q (.ref l) (upd H l (.tup ys)))∨(SqT K H p ys∧Q (.ref p) H))
noncomputable def jZ:D→Option (List D)
  | .lst ds=>some ds
  | .tup ds=>some ds
  | _=>none
noncomputable def lu:D→Option D
  | .lst ds=>some (.tup ds)
  | .tup ds=>some (.tup ds)
  | _=>none
theorem Bm (A:Addr→Prop)(H0 H:Hp)(x:D)(v:V)(d:List D)(Q:VK)(nw:Nw A H)(r:kR T A H0 H x v)(e:jZ x=some d)(k : ∀ w H',aG H H'→kF T A H H' d w→Q w H'):JX T.K [v] H Q:=by
  unfold jZ at e
  split at e
  · cases e
    obtain ⟨l,xs,rfl,hl,rl⟩:=aE.fY r
    exact ⟨l,xs,rfl,.inl hl,fun p hp=>k _ _ (cu hp _) (nJ rl hp)⟩
  · cases e
    obtain ⟨l,xs,rfl,hl,rl⟩:=aE.gq r
    exact ⟨l,xs,rfl,.inr hl,fun p hp=>k _ _ (cu hp _) (nJ rl hp)⟩
  · cases e
theorem Bn (A:Addr→Prop)(H0 H:Hp)(x:D)(v:V)(d:D)(Q:VK)(nw:Nw A H)(r:kR T A H0 H x v)(e:lu x=some d)(k : ∀ w H',aG H H'→kD T A H H' d w→Q w H'):JY T.K [v] H Q:=by
  unfold lu at e
  split at e
  · cases e
    obtain ⟨l,xs,rfl,hl,rl⟩:=aE.fY r
    exact ⟨l,xs,rfl,.inl ⟨hl,fun p hp=>k _ _ (cu hp _) (Rep.xf rl hp)⟩⟩
  · cases e
    obtain ⟨l,xs,rfl,hl,rl⟩:=aE.gq r
    exact ⟨l,xs,rfl,.inr ⟨hl,k _ _ (aG.refl _) (Rep.tup hl rl)⟩⟩
  · cases e
noncomputable def cutD {α:Type}(xs:List α)(lo hi:Option Int):List α:=(xs.drop (HT.sIx xs.length 0 lo)).take (HT.sIx xs.length xs.length hi - HT.sIx xs.length 0 lo)
noncomputable abbrev FO:=FP (Option Int)
noncomputable def EE:D→Option (Option Int)
  | .int i=>some (some i)
  | _=>none
noncomputable def eo:FO:=fun _=>some none
noncomputable def cS (f:FE):FO:=fp1 EE f
noncomputable def slD (x:D)(lo hi:Option Int):Option D:=match x with
  | .lst ds=>some (.lst (cutD ds lo hi))
  | .tup ds=>if HT.sIx ds.length 0 lo=0∧HT.sIx ds.length ds.length hi=ds.length then none else some (.tup (cutD ds lo hi))
  | .str z=>if z.length≤1000000 then some (.str (cutD z lo hi)) else none
  | _=>none
noncomputable def slF (x:D)(lo hi:Option Int):Option (List D):=match x with
  | .lst ds=>some (cutD ds lo hi)
  | _=>none
noncomputable def iK {α:Type}(F:D→Option Int→Option Int→Option α)(f:FE)(l h:FO):FP α:=fun env=>(f env).bind fun x=>(l env).bind fun lo=>(h env).bind fun hi=>F x lo hi
noncomputable def HL:V→Option Int→Option Int→Hp→VK→Prop:=fun x lo hi H Q=>∃ z:List Nat,x=.str (mkS z)∧z.length≤1000000∧Q (.str (mkS (cutD z lo hi))) H
noncomputable def HM (K:PySem.W.Frag):V→Option Int→Option Int→Hp→VK→Prop:=fun x lo hi H Q=>HA K x lo hi H Q∨Hv K x lo hi H Q∨HL x lo hi H Q
variable {σ:St}{H:Hp}{f:FE}
theorem yV {Q:Option Int→Hp→Prop}(h:tP T kO eo σ H Q):vV σ H Q:=by
  obtain ⟨W,O,env,i,E,e,q⟩:=h
  cases e
  exact q none H (aG.refl _) rfl
theorem yW {Q:Option Int→Hp→Prop}(h:tP T kO (cS f) σ H Q):D3 (tP T (kD T) f) σ H Q :=
  sP (ρ:=kD T) (ρ3:=kO) (r:=fun x H1 Q=>∃ i,x=.int i∧Q (some i) H1) (fun A H0 H x v d Q nw r e k=>by
    cases x with
    | int j=>cases e; exact ⟨j,Rep.dz r,k _ H (aG.refl _) rfl⟩
    | _=>cases e) h
theorem aI.cut {A:Addr→Prop}{ds:List D}{vs:List V}(lo hi:Option Int)(r:aI T A H ds vs):aI T A H (cutD ds lo hi) (sN vs lo hi):=by
  unfold cutD sN
  rw [← r.length]
  exact (r.drop _).take _
theorem EF {α:Type}{ρ3:RK α V}[Kd ρ3]{F:D→Option Int→Option Int→Option α}{l h:FO}{Q:VK}{r:V→Option Int→Option Int→Hp→VK→Prop}
    (snd : ∀ (A:Addr→Prop) (H0 H:Hp) (x:D) (v:V) (lo hi:Option Int) (d : α) (Q:VK),Nw A H→kR T A H0 H x v→F x lo hi=some d→(∀ w H',aG H H'→ρ3 A H H' d w→Q w H')→r v lo hi H Q)
    (hh:tP T ρ3 (iK F f l h) σ H Q):tSl r (tP T (kR T) f) (tP T kO l) (tP T kO h) σ H Q:=by
  obtain ⟨W,O,env,d,E,e,q⟩:=hh
  unfold iK at e
  cases e1:f env with
  | none=>rw [e1] at e; cases e
  | some x =>
    rw [e1] at e
    dsimp only [Option.bind_some] at e
    cases e2:l env with
    | none=>rw [e2] at e; cases e
    | some lo =>
      rw [e2] at e
      dsimp only [Option.bind_some] at e
      cases e3:h env with
      | none=>rw [e3] at e; cases e
      | some hi =>
        rw [e3] at e
        dsimp only [Option.bind_some] at e
        refine ⟨W,O,env,x,E,e1,fun v H1 s1 r1=>⟨W,O,env,lo,E.mono s1,e2,fun lo' H2 s2 c2=>⟨W,O,env,hi,E.mono (s1.trans s2),e3,fun hi' H3 s3 c3=>?_⟩⟩⟩
        cases c2; cases c3
        have s:=s1.trans (s2.trans s3)
        exact snd (Cl W O) H H3 x v lo hi d Q (fun a n=>(E.mono s).pG n) (aE.mono (s2.trans s3) r1) e fun w H' s4 r4=>q w H' (s.trans s4) (Kd.an _ _ _ _ _ _ s r4)
theorem EG (A:Addr→Prop)(H0 H:Hp)(x:D)(v:V)(lo hi:Option Int)(d:D)(Q:VK)(nw:Nw A H)(r:kR T A H0 H x v)(e:slD x lo hi=some d)(k : ∀ w H',aG H H'→kD T A H H' d w→Q w H'):HM T.K v lo hi H Q:=by
  unfold slD at e
  split at e
  · cases e
    obtain ⟨a,xs,rfl,hl,rl⟩:=aE.fY r
    exact .inl ⟨a,xs,rfl,hl,fun p hp=>k _ _ (cu hp _) (Rep.HF (rl.cut lo hi) hp (nw p hp))⟩
  · rename_i ds
    by_cases c:HT.sIx ds.length 0 lo=0∧HT.sIx ds.length ds.length hi=ds.length
    · rw [if_pos c] at e; cases e
    · rw [if_neg c] at e; cases e
      obtain ⟨a,xs,rfl,hl,rl⟩:=aE.gq r
      exact .inr (.inl ⟨a,xs,rfl,hl,by rw [← rl.length]; exact c,fun p hp=>k _ _ (cu hp _) (Rep.xf (rl.cut lo hi) hp)⟩)
  · rename_i z
    by_cases c:z.length≤1000000
    · rw [if_pos c] at e; cases e
      exact .inr (.inr ⟨z,aE.gr r,c,k _ H (aG.refl _) (Rep.str _)⟩)
    · rw [if_neg c] at e; cases e
  · cases e
end
end DL
end
section
namespace DL
open PySem L2
inductive DFl where
  | nx (env:aN)
  | bk (env:aN)
  | ct (env:aN)
  | rt (d:D) (env:aN)
  | rf (ds:List D) (env:aN)
  | ex (c:Nat) (env:aN)
noncomputable abbrev FS:=aN→Option DFl
noncomputable abbrev XQ:=Nat→St→Hp→Prop
noncomputable def kh (T:Tx)(X:XQ)(W:Wf)(O:Addr→Prop)(H:Hp)(De:Ends):DFl→Prop
  | .nx env'=>∀ σ' H' O',bS T W O' H' env' σ'→Fr O H O' H'→De.nx σ' H'
  | .bk env'=>∀ σ' H' O',bS T W O' H' env' σ'→Fr O H O' H'→De.bk σ' H'
  | .ct env'=>∀ σ' H' O',bS T W O' H' env' σ'→Fr O H O' H'→De.ct σ' H'
  | .rt d env'=>∀ v σ' H' O',bS T W O' H' env' σ'→Fr O H O' H'→Rep T (Cl W O') H' d v→De.rt v H'
  | .rf ds env'=>∀ a xs σ' H' O',bS T W O' H' env' σ'→Fr O H O' H'→W.H0 a=none→H' a=some (.lst xs)→aI T (fun b=>W.A b∧b≠a) H' ds xs→De.rt (.ref a) H'
  | .ex c env'=>∀ σ' H' O',bS T W O' H' env' σ'→Fr O H O' H'→X c σ' H'
noncomputable def tDs (T:Tx)(X:XQ)(F:FS):TS:=fun De σ H=>∃ W O env fl,bS T W O H env σ∧F env=some fl∧kh T X W O H De fl
theorem kh.fr {T:Tx}{X:XQ}{W:Wf}{H H1:Hp}{O O1:Addr→Prop}{De:Ends}(f:Fr O H O1 H1) : ∀ {fl:DFl},kh T X W O H De fl→kh T X W O1 H1 De fl
  | .nx _,h=>fun σ' H' O' E g=>h σ' H' O' E (f.trans g)
  | .bk _,h=>fun σ' H' O' E g=>h σ' H' O' E (f.trans g)
  | .ct _,h=>fun σ' H' O' E g=>h σ' H' O' E (f.trans g)
  | .rt _ _,h=>fun v σ' H' O' E g r=>h v σ' H' O' E (f.trans g) r
  | .rf _ _,h=>fun a xs σ' H' O' E g n e r=>h a xs σ' H' O' E (f.trans g) n e r
  | .ex _ _,h=>fun σ' H' O' E g=>h σ' H' O' E (f.trans g)
noncomputable def aA (F G:FS):FS:=fun env=>(F env).bind fun r=>match r with
  | .nx env'=>G env'
  | r=>some r
noncomputable def aP:FS:=fun env=>some (.nx env)
noncomputable def bN (c:FT)(F G:FS):FS:=fun env=>(c env).bind fun b=>if b=true then F env else G env
noncomputable def aK (f:FE):FS:=fun env=>(f env).map fun d=>.rt d env
noncomputable def i6 (f:FP (List D)):FS:=fun env=>(f env).map fun ds=>.rf ds env
noncomputable def lZ (i:Nat):FS:=fun env=>match env[i]? with
  | some (.own ds)=>some (.rf ds env)
  | _=>none
noncomputable def EH:FS:=fun env=>some (.rt .non env)
noncomputable def bh (i:Nat)(f:FE):FS:=fun env=>(f env).map fun d=>.nx (env.set i (.val d))
noncomputable def nN (i:Nat)(f:FP (List D)):FS:=fun env=>(f env).map fun ds=>.nx (env.set i (.own ds))
noncomputable def qj (i:Nat)(F:FS):FS:=fun env=>match env[i]? with
  | some (.own ds)=>F (env.set i (.val (.lst ds)))
  | _=>none
noncomputable def Bo:FS:=fun env=>some (.bk env)
noncomputable def EI:FS:=fun env=>some (.ct env)
section
variable {T:Tx}{X:XQ}{F G:FS}{f:FE}{De:Ends}{σ:St}{H:Hp}
theorem Bp (h:tDs T X (aA F G) De σ H):Hi (tDs T X F) (tDs T X G) De σ H:=by
  obtain ⟨W,O,env,fl,E,e,q⟩:=h
  unfold aA at e
  cases e1:F env with
  | none=>rw [e1] at e; cases e
  | some r =>
    rw [e1] at e
    refine ⟨W,O,env,r,E,e1, ?_⟩
    cases r with
    | nx env'=>exact fun σ' H' O' E' g=>⟨W,O',env',fl,E',e,q.fr g⟩
    | bk env'=>cases e; exact q
    | ct env'=>cases e; exact q
    | rt d env'=>cases e; exact q
    | rf d env'=>cases e; exact q
    | ex d env'=>cases e; exact q
theorem yX (h:tDs T X aP De σ H):CY De σ H:=by
  obtain ⟨W,O,env,fl,E,e,q⟩:=h
  cases e
  exact q σ H O E (Fr.refl _ _)
theorem Bq (h:tDs T X (aK f) De σ H):AV (tP T (kD T) f) De σ H:=by
  obtain ⟨W,O,env,fl,E,e,q⟩:=h
  unfold aK at e
  cases e1:f env with
  | none=>rw [e1] at e; cases e
  | some x =>
    rw [e1] at e
    cases e
    exact ⟨W,O,env,x,E,e1,fun v H' s r=>q v σ H' O (E.mono s) (Fr.same s) r⟩
theorem yY {f:FP (List D)}(h:tDs T X (i6 f) De σ H):AV (tP T (kF T) f) De σ H:=by
  obtain ⟨W,O,env,fl,E,e,q⟩:=h
  unfold i6 at e
  cases e1:f env with
  | none=>rw [e1] at e; cases e
  | some x =>
    rw [e1] at e
    cases e
    refine ⟨W,O,env,x,E,e1,fun v H' s r=>?_⟩
    obtain ⟨a,xs,rfl,n,hl,r⟩:=r
    exact q a xs σ H' O (E.mono s) (Fr.same s) (E.fr.dom a n) hl (r.mono (aG.refl _) fun b z=>⟨z.1.1,z.2⟩)
theorem yZ {i:Nat}(h:tDs T X (lZ i) De σ H):AV (wR i) De σ H:=by
  obtain ⟨W,O,env,fl,E,e,q⟩:=h
  unfold lZ at e
  split at e
  · rename_i ds es
    cases e
    obtain ⟨a,xs,e1,o,n,hl,r⟩:=E.own es
    exact ⟨.ref a,e1,q a xs σ H O E (Fr.refl _ _) n hl (r.mono (aG.refl _) fun b z=>⟨z.1,fun w=>z.2 (w ▸ o)⟩)⟩
  · cases e
theorem EJ {c:FT}(h:tDs T X (bN c F G) De σ H):Hk (tP T kB c) (tDs T X F) (tDs T X G) De σ H:=by
  obtain ⟨W,O,env,fl,E,e,q⟩:=h
  unfold bN at e
  cases e1:c env with
  | none=>rw [e1] at e; cases e
  | some b =>
    rw [e1] at e
    refine ⟨W,O,env,b,E,e1,fun v H' s r=>?_⟩
    cases r
    cases b with
    | true=>exact ⟨W,O,env,fl,E.mono s,e,q.fr (Fr.same s)⟩
    | false=>exact ⟨W,O,env,fl,E.mono s,e,q.fr (Fr.same s)⟩
theorem w5 {i:Nat}(h:tDs T X (bh i f) De σ H):qZ (tP T (kD T) f) (jv i) De σ H:=by
  obtain ⟨W,O,env,fl,E,e,q⟩:=h
  unfold bh at e
  cases e1:f env with
  | none=>rw [e1] at e; cases e
  | some x =>
    rw [e1] at e
    cases e
    exact ⟨W,O,env,x,E,e1,fun v H' s r=>q (σ.set i (some v)) H' O ((E.mono s).set i r) (Fr.same s)⟩
theorem bS.take {W:Wf}{O:Addr→Prop}{env:aN}{H':Hp}(E:bS T W O H env σ)(s:aG H H'){a:Addr}{xs:List V}(n:H a=none)(hl:H' a=some (.lst xs)) :
    bS T W (fun b=>O b∨b=a) H' env σ:=by
  have E1:=E.claim n (o:=.lst xs) trivial
  have s1:aG (L2.upd H a (.lst xs)) H':=fun b u h=>by
    by_cases z:b=a
    · subst z; rw [bY] at h; cases h; exact hl
    · rw [ba z] at h; exact s b u h
  exact E1.mono s1
theorem Br {i:Nat}{f:FP (List D)}(h:tDs T X (nN i f) De σ H):qZ (tP T (kF T) f) (jv i) De σ H:=by
  obtain ⟨W,O,env,fl,E,e,q⟩:=h
  unfold nN at e
  cases e1:f env with
  | none=>rw [e1] at e; cases e
  | some x =>
    rw [e1] at e
    cases e
    refine ⟨W,O,env,x,E,e1,fun v H' s r=>?_⟩
    obtain ⟨a,xs,rfl,n,hl,r⟩:=r
    have E':=E.take s n hl
    have hoa : ¬ O a:=fun z=>by have:=E.mu a z; rw [n] at this; exact this
    refine q (σ.set i (some (.ref a))) H' (fun b=>O b∨b=a) (E'.HG i ⟨a,xs,rfl,.inr rfl,E.fr.dom a n,hl,r.mono (aG.refl _) fun b z=>⟨z.1.1,fun w=>w.elim z.1.2 z.2⟩⟩ ?_ ?_ (fun _ z=>nomatch z)) ⟨fun b o h _=>s b o h,fun b z=>z.elim .inl fun w=>.inr (w ▸ n),fun b h=>s.free h⟩
    · intro _ j t b hij et ot eb ej
      cases eb
      obtain ⟨c,ec,oc⟩:=(E.slot j t et).lV ot
      rw [ej] at ec
      cases ec
      exact hoa oc
    · intro _ j dss c bs b ej ev hq hb eb
      cases eb
      obtain ⟨c',ec,oc⟩:=(E.slot j _ ej).lV rfl
      rw [ev] at ec; cases ec
      have hc:H c=some (.lst (bs.map V.ref)):=by
        have:=E.mu c oc
        cases e:H c with
        | none=>rw [e] at this; exact this.elim
        | some u=>rw [s c u e] at hq; exact hq
      obtain ⟨_,_,ys,z⟩:=(E.slot j _ ej).inner (by rw [ev]; rfl) hc hb
      rw [n] at z; cases z
theorem Bs {i:Nat}(h:tDs T X (qj i F) De σ H):tDs T X F De σ H:=by
  obtain ⟨W,O,env,fl,E,e,q⟩:=h
  unfold qj at e
  split at e
  · rename_i ds es
    obtain ⟨a,xs,e1,o,n,hl,r⟩:=E.own es
    have hil:i<env.length:=(List.getElem?_eq_some_iff.mp es).1
    have f:Fr O H (fun b=>O b∧b≠a) H:=⟨fun b o h _=>h,fun b z=>.inl z.1,fun b h=>h⟩
    have k:Kp (Cl W O) (Cl W fun b=>O b∧b≠a) O H H:=E.kp f
    refine ⟨W,fun b=>O b∧b≠a,_,fl,⟨E.fr.trans f,E.new,fun b z=>E.mu b z.1,fun j t et=>?_,fun j l t u b e2 e3 o2 o3 s2 s3=>?_,by simp [E.len],fun j l dss u a' bs b e2 e3 q3 hb e4 o4=>?_⟩,e,q.fr f⟩
    · rcases set_slot et with ⟨rfl,rfl,_⟩ | ⟨hij,et⟩
      · refine ⟨.ref a,by rw [e1]; rfl,Rep.lst (.inl ⟨.inl hl,E.new a n,fun z=>z.2 rfl⟩) (r.kp k)⟩
      · have hs:=E.slot j t et
        cases t with
        | no=>trivial
        | val d=>obtain ⟨u,eu,ru⟩:=hs; exact ⟨u,eu,ru.kp k⟩
        | own es' =>
          obtain ⟨b,ys,eb,ob,nb,hb,rb⟩:=hs
          exact ⟨b,ys,eb,⟨ob,fun z=>by subst z; exact hij (E.inj i j _ _ b es et rfl rfl e1 (join_some eb))⟩,nb,hb,rb.kp k⟩
        | mS dss =>
          obtain ⟨b,bs,eb,ob,nb,hb,rb⟩:=hs
          refine ⟨b,bs,eb,⟨ob,fun z=>by subst z; exact hij (E.inj i j _ _ b es et rfl rfl e1 (join_some eb))⟩,nb,hb,rb.imp fun ds c hc z=>?_⟩
          obtain ⟨z1,z2,ys,z3,z4⟩:=z
          exact ⟨⟨z1,fun w=>E.lU j i dss _ b bs c et (join_some eb) hb hc es rfl (w ▸ e1)⟩,z2,ys,z3,z4.kp k⟩
        | xg m=>obtain ⟨b,ys,eb,ob,nb,hb,lb⟩:=hs; exact ⟨b,ys,eb,⟨ob,fun z=>by subst z; exact hij (E.inj i j _ _ b es et rfl rfl e1 (join_some eb))⟩,nb,hb,lb⟩
        | yN dss =>
          obtain ⟨b,bs,eb,ob,nb,rb⟩:=hs
          refine ⟨b,bs,eb,ob,nb,rb.imp fun ds c hc z=>?_⟩
          obtain ⟨z1,ys,z3,z4⟩:=z
          exact ⟨z1,ys,z3,z4.kp k⟩
        | red es'=>obtain ⟨b,ys,eb,ob,nb,rb⟩:=hs; exact ⟨b,ys,eb,ob,nb,rb.kp k⟩
        | obj c ks es' =>
          obtain ⟨b,C,dx,fs,eb,ob,xb,cb,hb,nb,rb⟩:=hs
          exact ⟨b,C,dx,fs,eb,⟨ob,fun z=>by subst z; exact hij (E.inj i j _ _ b es et rfl rfl e1 (join_some eb))⟩,xb,cb,hb,nb,rb.kp k⟩
    · have old : ∀ {j:Nat} {u:Slot},(env.set i (Slot.val (.lst ds)))[j]?=some u→u.iM=true→env[j]?=some u:=fun {j u} e' o'=>by
        rcases set_slot e' with ⟨_,rfl,_⟩ | ⟨_,e'⟩
        · cases o'
        · exact e'
      exact E.inj j l t u b (old e2 o2) (old e3 o3) o2 o3 s2 s3
    · have old : ∀ {j:Nat} {u:Slot},(env.set i (Slot.val (.lst ds)))[j]?=some u→u.iM=true→env[j]?=some u:=fun {j u} e' o'=>by
        rcases set_slot e' with ⟨_,rfl,_⟩ | ⟨_,e'⟩
        · cases o'
        · exact e'
      exact E.lU j l dss u a' bs b (old e2 rfl) e3 q3 hb (old e4 o4) o4
  · cases e
noncomputable def sR (i:Nat)(F:D→D→Option D)(f:FE):FS:=fun env=>(ae i env).bind fun x=>(f env).bind fun y=>(F x y).map fun d=>.nx (env.set i (.val d))
theorem Bt {i:Nat}{Fo:D→D→Option D}{ti:V→V→Hp→VK→Prop}
    (snd : ∀ (A:Addr→Prop) (H:Hp) (x y:D) (v u:V) (d:D) (Q:VK),Nw A H→Rep T A H x v→Rep T A H y u→Fo x y=some d→(∀ w H',aG H H'→Rep T A H' d w→Q w H')→ti v u H Q)
    (h:tDs T X (sR i Fo f) De σ H) : ∃ x, σ[i]?=some (some x)∧tP T (kD T) f σ H fun y H1=>ti x y H1 fun z H2=>De.nx (σ.set i (some z)) H2:=by
  obtain ⟨W,O,env,fl,E,e,q⟩:=h
  unfold sR ae at e
  split at e
  · rename_i d es
    obtain ⟨v,e1,r⟩:=E.val es
    dsimp only [Option.bind_some] at e
    cases e2:f env with
    | none=>rw [e2] at e; cases e
    | some y =>
      rw [e2] at e
      dsimp only [Option.bind_some] at e
      cases e3:Fo d y with
      | none=>rw [e3] at e; cases e
      | some z =>
        rw [e3] at e
        cases e
        refine ⟨v,e1,W,O,env,y,E,e2,fun u H1 s1 r1=>?_⟩
        refine snd (Cl W O) H1 d y v u z _ (fun a n=>(E.mono s1).pG n) (Rep.mono s1 (fun _ z=>z) r) r1 e3 fun w H' s2 r2=>?_
        exact q _ H' O ((E.mono (s1.trans s2)).set i r2) (Fr.same (s1.trans s2))
  · cases e
noncomputable def m5 {α:Type}(i:Nat)(G:List D→α→Option (List D))(f:FP α):FS:=fun env=>match env[i]? with
  | some (.own ds)=>(f env).bind fun x=>(G ds x).map fun ds'=>.nx (env.set i (.own ds'))
  | _=>none
theorem w6 {α γ:Type}{ρ:RK α γ}[Kd ρ]{i:Nat}{Gf:List D→α→Option (List D)}{f:FP α}{tf:St→Hp→(γ→Hp→Prop)→Prop}{r:V→γ→Hp→VK→Prop}
    (ht : ∀ Q,tP T ρ f σ H Q→tf σ H Q)
    (snd : ∀ (A:Addr→Prop) (H:Hp) (a:Addr) (ds:List D) (xs:List V) (x : α) (y : γ) (ds':List D) (Q:VK),H a=some (.lst xs)→aI T A H ds xs→(∀ b,A b→b≠a)→ρ A H H x y→Gf ds x=some ds' →
      (∀ ys,(∀ A' H',(∀ d v,Rep T A H d v→Rep T A' H' d v)→(∀ d v,aI T A H d v→aI T A' H' d v)→aI T A' H' ds' ys)→∀ w,Q w (upd H a (.lst ys)))→r (.ref a) y H Q)
    (hh : ∀ A H0 H x y, ρ A H0 H x y→ρ A H H x y)
    (h:tDs T X (m5 i Gf f) De σ H) : ∃ v, σ[i]?=some (some v)∧(∃ xs,H=H∧∃ a,v=.ref a∧H a=some (.lst xs))∧tf σ H fun y H1=>(∃ a xs,v=.ref a∧H1 a=some (.lst xs))∧r v y H1 fun _ H2=>De.nx σ H2:=by
  obtain ⟨W,O,env,fl,E,e,q⟩:=h
  unfold m5 at e
  split at e
  · rename_i ds es
    cases e2:f env with
    | none=>rw [e2] at e; cases e
    | some x =>
      rw [e2] at e
      dsimp only [Option.bind_some] at e
      cases e3:Gf ds x with
      | none=>rw [e3] at e; cases e
      | some ds' =>
        rw [e3] at e
        cases e
        obtain ⟨a,xs,e1,o,n,hl,rl⟩:=E.own es
        refine ⟨.ref a,e1,⟨xs,rfl,a,rfl,hl⟩,ht _ ⟨W,O,env,x,E,e2,fun y H1 s1 r1=>⟨⟨a,xs,rfl,s1 _ _ hl⟩, ?_⟩⟩⟩
        have E1:=E.mono s1
        have hl1:=s1 _ _ hl
        refine snd (Cl W O) H1 a ds xs x y ds' _ hl1 (rl.mono s1 fun _ z=>z) (fun b z w=>z.2 (w ▸ o)) (hh _ _ _ _ _ r1) e3 fun ys hy _=>?_
        have f1:Fr O H1 O (L2.upd H1 a (.lst ys)):=⟨fun b u h nn=>by rw [ba (by rintro rfl; exact nn o)]; exact h,fun b h=>.inl h,fun b h=>by
          by_cases z:b=a
          · subst z; rw [bY] at h; cases h
          · rw [ba z] at h; exact h⟩
        have k:=E1.kp f1
        obtain ⟨E2,f2⟩:=E1.upd (t:=.own ds') (o:=.lst ys) es rfl e1 trivial ⟨a,ys,rfl,o,n,bY,hy _ _ (fun d v h=>h.kp k) (fun d v h=>h.kp k)⟩
        exact q σ _ O E2 ((Fr.same s1).trans f2)
  · cases e
end
end DL
end
section
namespace DL
open PySem L2
noncomputable abbrev FG:=D→aN→Option aN
noncomputable def aJ (i:Nat):FG:=fun d env=>some (env.set i (.val d))
noncomputable def rq:List Nat→List D→aN→Option aN
  | [],[],env=>some env
  | i::is,d::ds,env=>rq is ds (env.set i (.val d))
  | _,_,_=>none
noncomputable def nO (is:List Nat):FG:=fun d env=>match d with
  | .tup ds=>rq is ds env
  | _=>none
noncomputable def gJ (T:Tx)(tg:FG)(g:TG):Prop:=∀ (W:Wf) (O:Addr→Prop) (H:Hp) (env env':aN) (σ:St) (d:D) (v:V) (Q:St→Hp→Prop),bS T W O H env σ→Rep T (Cl W O) H d v→tg d env=some env'→(∀ σ',bS T W O H env' σ'→Q σ' H)→g v σ H Q
theorem bg {T:Tx}(i:Nat):gJ T (aJ i) (jv i):=fun W O H env env' σ d v Q E r e q=>by
  cases e
  exact q _ (E.set i r)
noncomputable def w9 (T:Tx)(is:List Nat)(g:TGs):Prop:=∀ (W:Wf) (O:Addr→Prop) (H:Hp) (env env':aN) (σ:St) (ds:List D) (vs:List V) (Q:St→Hp→Prop),bS T W O H env σ→aI T (Cl W O) H ds vs→rq is ds env=some env'→(∀ σ',bS T W O H env' σ'→Q σ' H)→g vs σ H Q
theorem qk {T:Tx}:w9 T [] Hn:=fun W O H env env' σ ds vs Q E r e q=>by
  cases ds with
  | nil=>cases e; exact ⟨r.j8,q _ E⟩
  | cons d ds=>cases e
theorem j9 {T:Tx}(i:Nat){is:List Nat}{g:TGs}(h:w9 T is g):w9 T (i::is) (CZ (jv i) g):=fun W O H env env' σ ds vs Q E r e q=>by
  cases ds with
  | nil=>cases e
  | cons d ds =>
    obtain ⟨x,xs,rfl,r1,r2⟩:=r.dW
    exact ⟨x,xs,rfl,h W O H _ env' _ ds xs Q (E.set i r1) r2 e q⟩
theorem nP : ∀ {is:List Nat} {ds:List D} {env env':aN},rq is ds env=some env'→ds.length=is.length
  | [],[],_,_,_=>rfl
  | [],_::_,_,_,h=>by cases h
  | _::_,[],_,_,h=>by cases h
  | i::is,d::ds,env,env',h=>by simp [nP (is:=is) (ds:=ds) h]
theorem sS {T:Tx}{is:List Nat}{g:TGs}(h:w9 T is g):gJ T (nO is) (Ho T.K is.length g):=fun W O H env env' σ d v Q E r e q=>by
  unfold nO at e
  split at e
  · obtain ⟨a,xs,rfl,hq,rl⟩:=r.gq
    exact ⟨a,xs,rfl,hq,by rw [← rl.length]; exact nP e,h W O H env env' σ _ xs Q E rl e q⟩
  · cases e
noncomputable def EK (K:PySem.W.Frag)(tl:TE):TI:=fun σ H R=>tl σ H fun x H1=>∃ a,x=.ref a∧(((∃ xs,SqL K H1 a xs)∧R (Itl K a) H1)∨((∃ xs,SqT K H1 a xs)∧R (Itt K a) H1))
noncomputable def runFor (tg:FG)(body:FS):List D→FS
  | [],env=>some (.nx env)
  | d::ds,env=>(tg d env).bind fun env1=>(body env1).bind fun r=>match r with
    | .nx e=>runFor tg body ds e
    | .ct e=>runFor tg body ds e
    | .bk e=>some (.nx e)
    | r=>some r
noncomputable def jA (tg:FG)(fi:FE)(body:FS):FS:=fun env=>(fi env).bind fun x=>(jZ x).bind fun ds=>runFor tg body ds env
section
variable {T:Tx}{X:XQ}{F:FS}{fi:FE}{De:Ends}{σ:St}{H:Hp}{tg:FG}{g:TG}
theorem lx (hg:gJ T tg g){W:Wf}{H1:Hp}{O:Addr→Prop}{fl:DFl}(q:kh T X W O H1 De fl)(Nx:St→Hp→Prop)(rest:List D)
    (hN : ∀ env' O' σ' H',bS T W O' H' env' σ'→Fr O H1 O' H'→runFor tg F rest env'=some fl→Nx σ' H')
    {d:D} {v:V} {env':aN} {O':Addr→Prop} {σ':St} {H':Hp} (E:bS T W O' H' env' σ') (f:Fr O H1 O' H') (e:runFor tg F (d::rest) env'=some fl)
    (r:Rep T (Cl W O') H' d v):g v σ' H' fun σ2 H2=>tDs T X F { De with nx:=Nx,ct:=Nx,bk:=De.nx } σ2 H2:=by
  unfold runFor at e
  cases e0:tg d env' with
  | none=>rw [e0] at e; cases e
  | some env1 =>
    rw [e0] at e
    dsimp only [Option.bind_some] at e
    cases e1:F env1 with
    | none=>rw [e1] at e; cases e
    | some fl' =>
      rw [e1] at e
      refine hg W O' H' env' env1 σ' d v _ E r e0 fun σ1 E1=>⟨W,O',env1,fl',E1,e1, ?_⟩
      cases fl' with
      | nx e'=>exact fun σ2 H2 O2 E2 g2=>hN e' O2 σ2 H2 E2 (f.trans g2) e
      | ct e'=>exact fun σ2 H2 O2 E2 g2=>hN e' O2 σ2 H2 E2 (f.trans g2) e
      | bk e'=>cases e; exact fun σ2 H2 O2 E2 g2=>q σ2 H2 O2 E2 (f.trans g2)
      | rt d' m'=>cases e; exact q.fr f
      | rf d' m'=>cases e; exact q.fr f
      | ex c m'=>cases e; exact q.fr f
theorem drop_cons {α:Type}{l:List α}{j:Nat}{d : α}(h:l[j]?=some d):l.drop j=d::l.drop (j+1):=by
  obtain ⟨hj,hdj⟩:=List.getElem?_eq_some_iff.mp h
  rw [← hdj]
  exact List.drop_eq_getElem_cons hj
theorem Bu (hg:gJ T tg g)(h:tDs T X (jA tg fi F) De σ H):AX (EK T.K (tP T (kD T) fi)) g (tDs T X F) De σ H:=by
  obtain ⟨W,O,env,fl,E,e,q⟩:=h
  unfold jA at e
  cases e1:fi env with
  | none=>rw [e1] at e; cases e
  | some x =>
    rw [e1] at e
    dsimp only [Option.bind_some] at e
    refine ⟨W,O,env,x,E,e1,fun v H1 s1 r1=>?_⟩
    have E1:=E.mono s1
    have q1:kh T X W O H1 De fl:=q.fr (Fr.same s1)
    cases x with
    | lst ds =>
      simp only [jZ,Option.bind_some] at e
      obtain ⟨a,xs,rfl,hl,rl⟩:=Rep.fY r1
      refine ⟨a,rfl,.inl ⟨⟨xs,hl.sq⟩, ?_⟩⟩
      refine yu (xs:=xs) (fun j σ' H'=>∃ env' O',bS T W O' H' env' σ'∧Fr O H1 O' H'∧runFor tg F (ds.drop j) env'=some fl) ⟨env,O,E1,Fr.refl _ _,e⟩ ?_ ?_ ?_
      · rintro j σ' H' _ ⟨env',O',E',f,_⟩
        exact ((E1.kp f).ls hl).sq
      · rintro j x σ' H' hx ⟨env',O',E',f,e'⟩
        obtain ⟨d,hd,rd⟩:=rl.xc hx
        rw [drop_cons hd] at e'
        exact lx hg q1 _ (ds.drop (j+1)) (fun env2 O2 σ2 H2 E2 g2 e2=>⟨env2,O2,E2,g2,e2⟩) E' f e' (E1.yO f rd)
      · rintro σ' H' ⟨env',O',E',f,e'⟩
        rw [← rl.length,List.drop_length] at e'
        cases e'
        exact q1 σ' H' O' E' f
    | tup ds =>
      simp only [jZ,Option.bind_some] at e
      obtain ⟨a,xs,rfl,hl,rl⟩:=Rep.gq r1
      refine ⟨a,rfl,.inr ⟨⟨xs,hl⟩, ?_⟩⟩
      refine AY (xs:=xs) (fun j σ' H'=>∃ env' O',bS T W O' H' env' σ'∧Fr O H1 O' H'∧runFor tg F (ds.drop j) env'=some fl) ⟨env,O,E1,Fr.refl _ _,e⟩ ?_ ?_ ?_
      · rintro j σ' H' _ ⟨env',O',E',f,_⟩
        exact (E1.kp f).sqT hl
      · rintro j x σ' H' hx ⟨env',O',E',f,e'⟩
        obtain ⟨d,hd,rd⟩:=rl.xc hx
        rw [drop_cons hd] at e'
        exact lx hg q1 _ (ds.drop (j+1)) (fun env2 O2 σ2 H2 E2 g2 e2=>⟨env2,O2,E2,g2,e2⟩) E' f e' (E1.yO f rd)
      · rintro σ' H' ⟨env',O',E',f,e'⟩
        rw [← rl.length,List.drop_length] at e'
        cases e'
        exact q1 σ' H' O' E' f
    | _=>cases e
noncomputable def dA (lo:Int)(n:Nat):List D:=(List.range n).map fun k=>D.int (lo+(k:Nat))
noncomputable def ka:List D→Option (List D)
  | [.int j]=>if -1000000000<j∧j<1000000000 then some (dA 0 j.toNat) else none
  | _=>none
theorem ql {ds:List D}{xs:List D}(h:ka ds=some xs) : ∃ j,ds=[.int j]∧(-1000000000<j∧j<1000000000)∧xs=dA 0 j.toNat:=by
  unfold ka at h
  split at h
  · rename_i j
    by_cases c : -1000000000<j∧j<1000000000
    · rw [if_pos c] at h; cases h; exact ⟨j,rfl,c,rfl⟩
    · rw [if_neg c] at h; cases h
  · cases h
noncomputable def m6 (R:List D→Option (List D))(tg:FG)(f:FA)(body:FS):FS:=fun env=>(f env).bind fun ds=>(R ds).bind fun xs=>runFor tg body xs env
theorem Bv (hg:gJ T tg g){J:It}{items:List D}{W:Wf}{H1:Hp}{O:Addr→Prop}{fl:DFl}{env:aN}(E1:bS T W O H1 env σ)(q1:kh T X W O H1 De fl)
    (hgo : ∀ j H',j<items.length→J.go j H') (hst : ∀ j H',items.length≤j→J.stop j H') (hy : ∀ j H' x H2 d,items[j]?=some d→J.yld j H' x H2→H2=H'∧∀ A,Rep T A H' d x)
    (e:runFor tg F items env=some fl) :
    ∃ W:Nat→Nat→St→Hp→Prop,(∃ m,W 0 m σ H1)∧∀ j m σ H,W j m σ H →
      (J.stop j H∧De.nx σ H)∨(J.go j H∧∃ N:St→Hp→Prop,(∀ σ' H',N σ' H'→∃ m',m'<m∧W (j+1) m' σ' H')∧∀ x H',J.yld j H x H'→g x σ H' fun σ2 H2=>tDs T X F { De with nx:=N,ct:=N,bk:=De.nx } σ2 H2):=by
  let Pv:Nat→St→Hp→Prop:=fun j σ' H'=>∃ env' O',bS T W O' H' env' σ'∧Fr O H1 O' H'∧runFor tg F (items.drop j) env'=some fl
  refine ⟨fun j m σ' H'=>m=items.length - j∧j≤items.length∧Pv j σ' H',⟨_,rfl,Nat.zero_le _,env,O,E1,Fr.refl _ _,by simpa using e⟩, ?_⟩
  rintro j m σ' H' ⟨rfl,hj,env',O',E',f,e'⟩
  by_cases hlt:j<items.length
  · refine .inr ⟨hgo j H' hlt,Pv (j+1),fun σ2 H2 p=>⟨items.length - (j+1),by omega,rfl,hlt,p⟩,fun x H2 y=>?_⟩
    have hd:items[j]?=some items[j]:=List.getElem?_eq_getElem hlt
    obtain ⟨rfl,r⟩:=hy j H' x H2 _ hd y
    rw [drop_cons hd] at e'
    exact lx hg q1 _ _ (fun env2 O2 σ2 H2 E2 g2 e2=>⟨env2,O2,E2,g2,e2⟩) E' f e' (r _)
  · rw [List.drop_eq_nil_of_le (by omega)] at e'
    cases e'
    exact .inl ⟨hst j H' (by omega),q1 σ' H' O' E' f⟩
theorem qm {lo:Int}{n j:Nat}{d:D}(h:(dA lo n)[j]?=some d):d=.int (lo+(j:Nat)):=by
  unfold dA at h
  rw [List.getElem?_map] at h
  cases e:(List.range n)[j]? with
  | none=>rw [e] at h; cases h
  | some k =>
    rw [e] at h
    obtain ⟨_,hk⟩:=List.getElem?_eq_some_iff.mp e
    simp at hk
    subst hk
    cases h; rfl
theorem jQ (lo:Int)(n:Nat):(dA lo n).length=n:=by simp [dA]
theorem z0 (hg:gJ T tg g){lo:Int}{n:Nat}{W:Wf}{H1:Hp}{O:Addr→Prop}{fl:DFl}{env:aN}(E1:bS T W O H1 env σ)(q1:kh T X W O H1 De fl)(e:runFor tg F (dA lo n) env=some fl) :
    ∃ W:Nat→Nat→St→Hp→Prop,(∃ m,W 0 m σ H1)∧∀ j m σ H,W j m σ H →
      ((Itr lo n).stop j H∧De.nx σ H)∨((Itr lo n).go j H∧∃ N:St→Hp→Prop,(∀ σ' H',N σ' H'→∃ m',m'<m∧W (j+1) m' σ' H')∧∀ x H',(Itr lo n).yld j H x H'→g x σ H' fun σ2 H2=>tDs T X F { De with nx:=N,ct:=N,bk:=De.nx } σ2 H2) :=
  Bv hg E1 q1 (fun j H' h=>by rw [jQ] at h; exact h) (fun j H' h=>by rw [jQ] at h; exact h) (fun j H' x H2 d hd y=>by
    obtain ⟨rfl,rfl⟩:=y
    rw [qm hd]
    exact ⟨rfl,fun _=>Rep.int _⟩) e
theorem zb (hg:gJ T tg g){f:FA}(h:tDs T X (m6 ka tg f F) De σ H):AX (yt (tP T (kA T) f)) g (tDs T X F) De σ H:=by
  obtain ⟨W,O,env,fl,E,e,q⟩:=h
  unfold m6 at e
  cases e1:f env with
  | none=>rw [e1] at e; cases e
  | some ds =>
    rw [e1] at e
    dsimp only [Option.bind_some] at e
    cases e2:ka ds with
    | none=>rw [e2] at e; cases e
    | some xs =>
      rw [e2] at e
      obtain ⟨j,rfl,c,rfl⟩:=ql e2
      refine ⟨W,O,env,_,E,e1,fun vs H1 s1 r1=>?_⟩
      obtain ⟨v,r,rfl,h1,h2⟩:=aI.dW r1
      cases h2.j8
      cases h1.dz
      exact ⟨j,rfl,by omega,by omega,z0 hg (E.mono s1) (q.fr (Fr.same s1)) e⟩
noncomputable def Its (z:List Nat):It:=⟨fun i _=>i<z.length,fun i H x H'=>H'=H∧∃ c,z[i]?=some c∧x=.str (mkS [c]),fun i _=>z.length≤i⟩
noncomputable def HN (tl:TE):TI:=fun σ H R=>tl σ H fun x H1=>∃ z:List Nat,x=.str (mkS z)∧z.length≤1000000∧R (Its z) H1
noncomputable def rA:D→Option (List D)
  | .str z=>if z.length≤1000000 then some (z.map fun c=>.str [c]) else none
  | _=>none
noncomputable def EL (tg:FG)(fi:FE)(body:FS):FS:=fun env=>(fi env).bind fun x=>(rA x).bind fun ds=>runFor tg body ds env
end
noncomputable def jq (nt:Nat)(cap:List Nat)(σ:St):St:=List.replicate nt none++cap.map fun i=>(σ[i]?).join
noncomputable def dm (nt:Nat)(cap:List Nat)(env:aN):aN:=List.replicate nt .no++cap.map fun i=>(env[i]?).getD .no
noncomputable def nQ (nt:Nat)(cap:List Nat)(wi:TI)(g:TG)(tt:TT)(te:TE):TE:=fun σ H Q=>wi σ H fun J H1=>∃ W:Nat→Nat→List V→Hp→Prop,(∃ m,W 0 m [] H1)∧∀ i m ys H,W i m ys H →
  (J.stop i H∧ys.length≤sizeLine∧∀ l,H l=none→Q (.ref l) (upd H l (.lst ys))) ∨
  (J.go i H∧∀ x H',J.yld i H x H'→g x (jq nt cap σ) H' fun σ2 H2=>tt σ2 H2 fun b H3 =>
    if b=true then te σ2 H3 fun y H4=>ys.length<sizeLine∧∃ m',m'<m∧W (i+1) m' (ys++[y]) H4 else ∃ m',m'<m∧W (i+1) m' ys H3)
noncomputable def aT (tg:FG)(ft:FT)(fe:FE)(env:aN):List D→Option (List D)
  | []=>some []
  | d::ds=>(tg d env).bind fun e=>(ft e).bind fun b=>if b=true then (fe e).bind fun y=>(aT tg ft fe env ds).bind fun r=>some (y::r) else aT tg ft fe env ds
noncomputable def dt (nt:Nat)(cap:List Nat)(tg:FG)(fi:FE)(ft:FT)(fe:FE):FP (List D):=fun env=>(fi env).bind fun x=>(jZ x).bind fun ds=>if ds.length≤1000000 then aT tg ft fe (dm nt cap env) ds else none
noncomputable def gC (R:List D→Option (List D))(nt:Nat)(cap:List Nat)(tg:FG)(f:FA)(ft:FT)(fe:FE):FP (List D):=fun env=>(f env).bind fun x=>(R x).bind fun ds=>if ds.length≤1000000 then aT tg ft fe (dm nt cap env) ds else none
noncomputable def ja (nt:Nat)(cap:List Nat)(tg:FG)(fi:FE)(ft:FT)(fe:FE):FP (List D):=fun env=>(fi env).bind fun x=>(rA x).bind fun ds=>if ds.length≤1000000 then aT tg ft fe (dm nt cap env) ds else none
section
variable {T:Tx}{ft:FT}{fe fi:FE}{σ:St}{H:Hp}{Q:VK}{tg:FG}{g:TG}
theorem bS.cap {W:Wf}{O:Addr→Prop}{env:aN}(E:bS T W O H env σ){nt:Nat}{cap:List Nat}(hc:cap.Nodup):bS T W O H (dm nt cap env) (jq nt cap σ):=by
  have gE : ∀ (j:Nat) (s:Slot),(dm nt cap env)[j]?=some s→s=.no∨∃ k i,j=nt+k∧cap[k]?=some i∧env[i]?=some s∧((jq nt cap σ)[j]?).join=(σ[i]?).join:=fun j s h=>by
    unfold dm at h
    by_cases hj:j<nt
    · rw [List.getElem?_append_left (by simpa using hj),List.getElem?_replicate,if_pos hj] at h
      cases h; exact .inl rfl
    · rw [List.getElem?_append_right (by simpa using hj),List.length_replicate,List.getElem?_map] at h
      cases e:cap[j - nt]? with
      | none=>rw [e] at h; cases h
      | some i =>
        rw [e,Option.map_some] at h
        cases e2:env[i]? with
        | none=>rw [e2] at h; cases h; exact .inl rfl
        | some s' =>
          rw [e2] at h; cases h
          refine .inr ⟨j - nt,i,by omega,e,e2, ?_⟩
          unfold jq
          rw [List.getElem?_append_right (by simpa using hj),List.length_replicate,List.getElem?_map,e]
          rfl
  refine ⟨E.fr,E.new,E.mu,fun j s e=>?_,fun j l s t a e1 e2 o1 o2 s1 s2=>?_,by simp [dm,jq],fun j l dss t a bs b e1 e2 q hb e3 o3 z=>?_⟩
  · rcases gE j s e with rfl | ⟨k,i,_,_,h2,h3⟩
    · trivial
    · rw [h3]; exact E.slot i s h2
  · rcases gE j s e1 with rfl | ⟨k,i,hj,hk,h2,h3⟩
    · cases o1
    · rcases gE l t e2 with rfl | ⟨k',i',hj',hk',h2',h3'⟩
      · cases o2
      · rw [s1] at h3
        rw [s2] at h3'
        have:=E.inj i i' s t a h2 h2' o1 o2 (join_some h3.symm) (join_some h3'.symm)
        subst this
        have kk:k=k':=by
          obtain ⟨hk1,hk2⟩:=List.getElem?_eq_some_iff.mp hk
          obtain ⟨hk3,hk4⟩:=List.getElem?_eq_some_iff.mp hk'
          exact (List.getElem_inj hc).mp (hk2.trans hk4.symm)
        omega
  · rcases gE j _ e1 with w | ⟨k,i,hj,hk,h2,h3⟩
    · cases w
    · rcases gE l t e3 with rfl | ⟨k',i',hj',hk',h2',h3'⟩
      · cases o3
      · rw [e2] at h3
        rw [z] at h3'
        exact E.lU i i' dss t a bs b h2 (join_some h3.symm) q hb h2' o3 (join_some h3'.symm)
noncomputable def WC (T:Tx)(A:Addr→Prop)(tg:FG)(ft:FT)(fe:FE)(env:aN)(all':List D)(H1:Hp)(all:List D)(j k:Nat)(ys:List V)(H':Hp):Prop :=
  k=all'.length - j∧j≤all'.length∧aG H1 H'∧ys.length≤j∧∃ zs rest,aI T A H' zs ys∧aT tg ft fe env (all'.drop j)=some rest∧zs++rest=all
theorem m7 (hg:gJ T tg g){W:Wf}{H1:Hp}{O:Addr→Prop}{env:aN}{nt:Nat}{cap:List Nat}(hc:cap.Nodup)(E1:bS T W O H1 env σ){all' all:List D}{j k:Nat}{ys:List V}{H':Hp}{d:D}{x:V}(cn:all'.length≤1000000)
    (hlt:j<all'.length) (w:WC T (Cl W O) tg ft fe (dm nt cap env) all' H1 all j k ys H') (hd:all'[j]?=some d) (r:Rep T (Cl W O) H' d x) :
    g x (jq nt cap σ) H' fun σ2 H2=>tP T kB ft σ2 H2 fun b H3 =>
      if b=true then tP T (kD T) fe σ2 H3 fun y H4=>ys.length<sizeLine∧∃ m',m'<k∧WC T (Cl W O) tg ft fe (dm nt cap env) all' H1 all (j+1) m' (ys++[y]) H4 else ∃ m',m'<k∧WC T (Cl W O) tg ft fe (dm nt cap env) all' H1 all (j+1) m' ys H3:=by
  obtain ⟨rfl,hj,s,hyl,zs,rest,hz,e,ea⟩:=w
  rw [drop_cons hd] at e
  unfold aT at e
  cases e0:tg d (dm nt cap env) with
  | none=>rw [e0] at e; cases e
  | some env1 =>
    rw [e0] at e
    dsimp only [Option.bind_some] at e
    refine hg W O H' _ env1 _ d x _ ((E1.mono s).cap hc) r e0 fun σ1 Ec=>?_
    cases e1:ft env1 with
    | none=>rw [e1] at e; cases e
    | some b =>
      rw [e1] at e
      dsimp only [Option.bind_some] at e
      refine ⟨W,O,env1,b,Ec,e1,fun b' H3 s3 c3=>?_⟩
      cases c3
      cases b with
      | false =>
        exact ⟨all'.length - (j+1),by omega,rfl,by omega,s.trans s3,by omega,zs,rest,hz.mono s3 (fun _ z=>z),e,ea⟩
      | true =>
        rw [if_pos rfl] at e ⊢
        cases e2:fe env1 with
        | none=>rw [e2] at e; cases e
        | some y =>
          rw [e2] at e
          dsimp only [Option.bind_some] at e
          cases e3:aT tg ft fe (dm nt cap env) (all'.drop (j+1)) with
          | none=>rw [e3] at e; cases e
          | some rest' =>
            rw [e3] at e
            cases e
            refine ⟨W,O,env1,y,Ec.mono s3,e2,fun w H4 s4 r4=>⟨Nat.lt_of_lt_of_le (show ys.length<1000001 by omega) (by decide),all'.length - (j+1),by omega, ?_⟩⟩
            refine ⟨rfl,by omega,s.trans (s3.trans s4),by simp; omega,zs++[y],rest',(hz.mono (s3.trans s4) fun _ z=>z).append (.cons r4 .nil),e3, ?_⟩
            rw [List.append_assoc]
            exact ea
theorem nR {A:Addr→Prop}{H1:Hp}{env':aN}{all' all:List D}{j k:Nat}{ys:List V}{H':Hp}(hj:all'.length≤j)(w:WC T A tg ft fe env' all' H1 all j k ys H')(hl:all'.length≤1000000)
    (q : ∀ v H',aG H1 H'→kF T A H1 H' all v→Q v H'):ys.length≤sizeLine∧∀ l,H' l=none→Q (.ref l) (upd H' l (.lst ys)):=by
  obtain ⟨hk,hj2,s,hyl,zs,rest,hz,e,ea⟩:=w
  rw [List.drop_eq_nil_of_le hj] at e
  cases e
  rw [List.append_nil] at ea
  subst ea
  exact ⟨small (by omega),fun l hl=>q _ _ (s.trans (cu hl _)) (Kd.an _ _ _ _ _ _ s (nJ hz hl))⟩
theorem wa (hg:gJ T tg g){nt:Nat}{cap:List Nat}(hc:cap.Nodup)(h:tP T (kF T) (dt nt cap tg fi ft fe) σ H Q):nQ nt cap (EK T.K (tP T (kR T) fi)) g (tP T kB ft) (tP T (kD T) fe) σ H Q:=by
  obtain ⟨W,O,env,d,E,e,q⟩:=h
  unfold dt at e
  cases e1:fi env with
  | none=>rw [e1] at e; cases e
  | some x =>
    rw [e1] at e
    dsimp only [Option.bind_some] at e
    refine ⟨W,O,env,x,E,e1,fun v H1 s1 r1=>?_⟩
    have E1:=E.mono s1
    cases e2:jZ x with
    | none=>rw [e2] at e; cases e
    | some ds =>
      rw [e2] at e
      dsimp only [Option.bind_some] at e
      by_cases cn:ds.length≤1000000
      · rw [if_pos cn] at e
        have q' : ∀ v H',aG H1 H'→kF T (Cl W O) H1 H' d v→Q v H':=fun v H' s r=>q v H' (s1.trans s) (Kd.an _ _ _ _ _ _ s1 r)
        have w0:WC T (Cl W O) tg ft fe (dm nt cap env) ds H1 d 0 ds.length [] H1:=⟨by simp,Nat.zero_le _,aG.refl _,Nat.zero_le _,[],d,.nil,e,rfl⟩
        cases x with
        | lst es =>
          have ee:es=ds:=Option.some.inj e2
          subst ee
          obtain ⟨a,xs,rfl,hl,rl⟩:=aE.fY r1
          have len:=rl.length
          refine ⟨a,rfl,.inl ⟨⟨xs,hl⟩,WC T (Cl W O) tg ft fe (dm nt cap env) es H1 d,⟨es.length,w0⟩, ?_⟩⟩
          intro j k ys H' w
          have s:aG H1 H':=w.2.2.1
          have hlH:SqL T.K H' a xs:=s.seq hl
          by_cases hlt:j<es.length
          · refine .inr ⟨⟨xs,xs[j]'(by omega),hlH,by simp [show j<xs.length by omega]⟩,fun x H2 y=>?_⟩
            obtain ⟨e5,y⟩:=y
            subst e5
            obtain ⟨d',hd,rd⟩:=rl.xc (y xs hlH)
            exact m7 hg hc E1 cn hlt w hd (rd.mono s fun _ z=>z)
          · exact .inl ⟨⟨xs,hlH,by omega⟩,nR (by omega) w cn q'⟩
        | tup es =>
          have ee:es=ds:=Option.some.inj e2
          subst ee
          obtain ⟨a,xs,rfl,hl,rl⟩:=aE.gq r1
          have len:=rl.length
          refine ⟨a,rfl,.inr ⟨⟨xs,hl⟩,WC T (Cl W O) tg ft fe (dm nt cap env) es H1 d,⟨es.length,w0⟩, ?_⟩⟩
          intro j k ys H' w
          have s:aG H1 H':=w.2.2.1
          have hlH:SqT T.K H' a xs:=SqT.mono s hl
          by_cases hlt:j<es.length
          · refine .inr ⟨⟨xs,xs[j]'(by omega),hlH,by simp [show j<xs.length by omega]⟩,fun x H2 y=>?_⟩
            obtain ⟨e5,y⟩:=y
            subst e5
            obtain ⟨d',hd,rd⟩:=rl.xc (y xs hlH)
            exact m7 hg hc E1 cn hlt w hd (rd.mono s fun _ z=>z)
          · exact .inl ⟨⟨xs,hlH,by omega⟩,nR (by omega) w cn q'⟩
        | _=>cases e2
      · rw [if_neg cn] at e; cases e
theorem m8 (hg:gJ T tg g){J:It}{items:List D}{W:Wf}{H1:Hp}{O:Addr→Prop}{env:aN}{nt:Nat}{cap:List Nat}(hc:cap.Nodup)(E1:bS T W O H1 env σ){all:List D}(cn:items.length≤1000000)
    (hgo : ∀ j H',j<items.length→J.go j H') (hst : ∀ j H',items.length≤j→J.stop j H') (hy : ∀ j H' x H2 d,items[j]?=some d→J.yld j H' x H2→H2=H'∧∀ A,Rep T A H' d x)
    (e3:aT tg ft fe (dm nt cap env) items=some all) (q : ∀ v H',aG H1 H'→kF T (Cl W O) H1 H' all v→Q v H') :
    ∃ W:Nat→Nat→List V→Hp→Prop,(∃ m,W 0 m [] H1)∧∀ i m ys H,W i m ys H →
      (J.stop i H∧ys.length≤sizeLine∧∀ l,H l=none→Q (.ref l) (upd H l (.lst ys))) ∨
      (J.go i H∧∀ x H',J.yld i H x H'→g x (jq nt cap σ) H' fun σ2 H2=>tP T kB ft σ2 H2 fun b H3 =>
        if b=true then tP T (kD T) fe σ2 H3 fun y H4=>ys.length<sizeLine∧∃ m',m'<m∧W (i+1) m' (ys++[y]) H4 else ∃ m',m'<m∧W (i+1) m' ys H3):=by
  refine ⟨WC T (Cl W O) tg ft fe (dm nt cap env) items H1 all,⟨items.length,by simp,Nat.zero_le _,aG.refl _,Nat.zero_le _,[],all,.nil,e3,rfl⟩, ?_⟩
  intro j k ys H' w
  by_cases hlt:j<items.length
  · refine .inr ⟨hgo j H' hlt,fun x H2 y=>?_⟩
    have hd:items[j]?=some items[j]:=List.getElem?_eq_getElem hlt
    obtain ⟨rfl,r⟩:=hy j H' x H2 _ hd y
    exact m7 hg hc E1 cn hlt w hd (r _)
  · exact .inl ⟨hst j H' (by omega),nR (by omega) w cn q⟩
theorem zc (hg:gJ T tg g){nt:Nat}{cap:List Nat}{f:FA}(hc:cap.Nodup)(h:tP T (kF T) (gC ka nt cap tg f ft fe) σ H Q):nQ nt cap (yt (tP T (kA T) f)) g (tP T kB ft) (tP T (kD T) fe) σ H Q:=by
  obtain ⟨W,O,env,d,E,e,q⟩:=h
  unfold gC at e
  cases e1:f env with
  | none=>rw [e1] at e; cases e
  | some x =>
    rw [e1] at e
    dsimp only [Option.bind_some] at e
    cases e2:ka x with
    | none=>rw [e2] at e; cases e
    | some ds =>
      rw [e2] at e
      dsimp only [Option.bind_some] at e
      obtain ⟨j,rfl,c,rfl⟩:=ql e2
      by_cases cn:(dA 0 j.toNat).length≤1000000
      · rw [if_pos cn] at e
        refine ⟨W,O,env,_,E,e1,fun vs H1 s1 r1=>?_⟩
        obtain ⟨v,r,rfl,h1,h2⟩:=aI.dW r1
        cases h2.j8
        cases h1.dz
        exact ⟨j,rfl,by omega,by omega,m8 hg hc (E.mono s1) cn (fun j H' h=>by rw [jQ] at h; exact h) (fun j H' h=>by rw [jQ] at h; exact h) (fun j H' x H2 d hd y=>by
          obtain ⟨rfl,rfl⟩:=y
          rw [qm hd]
          exact ⟨rfl,fun _=>Rep.int _⟩) e fun v H' s r=>q v H' (s1.trans s) (Kd.an _ _ _ _ _ _ s1 r)⟩
      · rw [if_neg cn] at e; cases e
theorem sT (hg:gJ T tg g){nt:Nat}{cap:List Nat}(hc:cap.Nodup)(h:tP T (kF T) (ja nt cap tg fi ft fe) σ H Q):nQ nt cap (HN (tP T (kD T) fi)) g (tP T kB ft) (tP T (kD T) fe) σ H Q:=by
  obtain ⟨W,O,env,d,E,e,q⟩:=h
  unfold ja at e
  cases e1:fi env with
  | none=>rw [e1] at e; cases e
  | some x =>
    rw [e1] at e
    dsimp only [Option.bind_some] at e
    cases x with
    | str z =>
      unfold rA at e
      dsimp only at e
      by_cases c:z.length≤1000000
      · rw [if_pos c] at e
        dsimp only [Option.bind_some] at e
        rw [if_pos (by simpa using c)] at e
        refine ⟨W,O,env,_,E,e1,fun v H1 s1 r1=>⟨z,Rep.gr r1,c, ?_⟩⟩
        refine m8 hg hc (E.mono s1) (items:=z.map fun c=>.str [c]) (by simpa using c) (fun j H' h=>by show j<z.length; simpa using h) (fun j H' h=>by show z.length≤j; simpa using h) (fun j H' x H2 d hd y=>?_) e fun v H' s r=>q v H' (s1.trans s) (Kd.an _ _ _ _ _ _ s1 r)
        obtain ⟨rfl,k,hk,rfl⟩:=y
        rw [List.getElem?_map,hk] at hd
        cases hd
        exact ⟨rfl,fun _=>Rep.str _⟩
      · rw [if_neg c] at e; cases e
    | _=>cases e
end
noncomputable def spD (T:Tx)(n:Nat)(F:List D→Option D):Sp:=fun vs H Q _=>vs.length=n∧∃ A ds d,Nw A H∧aI T A H ds vs∧F ds=some d∧∀ v H',aG H H'→Rep T A H' d v→Q v H'
noncomputable def spF (T:Tx)(n:Nat)(F:List D→Option (List D)):Sp:=fun vs H Q _=>vs.length=n∧∃ A ds d,Nw A H∧aI T A H ds vs∧F ds=some d∧∀ v H',aG H H'→kF T A H H' d v→Q v H'
noncomputable def aC {α:Type}(n:Nat)(F:List D→Option α)(f:FA):FP α:=fun env=>(f env).bind fun ds=>if ds.length=n then F ds else none
section
variable {T:Tx}{σ:St}{H:Hp}{Q:VK}
theorem Bw {n:Nat}{F:List D→Option D}{f:FA}{E0:XK}(h:tP T (kD T) (aC n F f) σ H Q):yE (spD T n F) [] E0 (tP T (kA T) f) σ H Q:=by
  obtain ⟨W,O,env,d,E,e,q⟩:=h
  unfold aC at e
  cases e1:f env with
  | none=>rw [e1] at e; cases e
  | some ds =>
    rw [e1] at e
    dsimp only [Option.bind_some] at e
    by_cases c:ds.length=n
    · rw [if_pos c] at e
      refine ⟨W,O,env,ds,E,e1,fun vs H1 s1 r1=>?_⟩
      show spD T n F (vs++[]) H1 Q E0
      rw [List.append_nil]
      exact ⟨by rw [← aI.length r1]; exact c,Cl W O,ds,d,fun a n=>(E.mono s1).pG n,r1,e,fun v H' s r=>q v H' (s1.trans s) r⟩
    · rw [if_neg c] at e; cases e
theorem zd {n:Nat}{F:List D→Option (List D)}{f:FA}{E0:XK}(h:tP T (kF T) (aC n F f) σ H Q):yE (spF T n F) [] E0 (tP T (kA T) f) σ H Q:=by
  obtain ⟨W,O,env,d,E,e,q⟩:=h
  unfold aC at e
  cases e1:f env with
  | none=>rw [e1] at e; cases e
  | some ds =>
    rw [e1] at e
    dsimp only [Option.bind_some] at e
    by_cases c:ds.length=n
    · rw [if_pos c] at e
      refine ⟨W,O,env,ds,E,e1,fun vs H1 s1 r1=>?_⟩
      show spF T n F (vs++[]) H1 Q E0
      rw [List.append_nil]
      exact ⟨by rw [← aI.length r1]; exact c,Cl W O,ds,d,fun a n=>(E.mono s1).pG n,r1,e,fun v H' s r=>q v H' (s1.trans s) (Kd.an _ _ _ _ _ _ s1 r)⟩
    · rw [if_neg c] at e; cases e
noncomputable def envOf (n:Nat)(ds:List D):aN:=ds.map Slot.val++List.replicate (n - ds.length) .no
noncomputable def bG (N:Nat)(F:FS):List D→Option D:=fun ds=>(F (envOf N ds)).bind fun r=>match r with
  | .rt d _=>some d
  | .nx _=>some .non
  | _=>none
noncomputable def kz (N:Nat)(F:FS):List D→Option (List D):=fun ds=>(F (envOf N ds)).bind fun r=>match r with
  | .rf ds _=>some ds
  | _=>none
theorem kC {A:Addr→Prop}(nw:Nw A H){vs:List V}{ds:List D}{n:Nat}(h:aI T A H ds vs):bS T ⟨A,H,fun _=>False⟩ (fun _=>False) H (envOf n ds) (vs.map some++List.replicate (n - vs.length) none):=by
  have len:=h.length
  have gE : ∀ (j:Nat) (s:Slot),(envOf n ds)[j]?=some s→s=.no∨∃ d,ds[j]?=some d∧s=.val d:=fun j s e=>by
    unfold envOf at e
    by_cases hj:j<ds.length
    · rw [List.getElem?_append_left (by simpa using hj),List.getElem?_map] at e
      cases e2:ds[j]? with
      | none=>rw [e2] at e; cases e
      | some d=>rw [e2] at e; cases e; exact .inr ⟨d,rfl,rfl⟩
    · rw [List.getElem?_append_right (by simpa using hj),List.getElem?_replicate] at e
      split at e
      · cases e; exact .inl rfl
      · cases e
  refine ⟨Fr.refl _ _,nw,fun _ z=>z.elim,fun j s e=>?_,fun j l s t a e1 _ o1 _ _ _=>?_, ?_,fun j l dss t a bs b e1 _ _ _ _ _=>?_⟩
  · rcases gE j s e with rfl | ⟨d,e1,rfl⟩
    · trivial
    · obtain ⟨v,e3,r⟩:=h.get e1
      refine ⟨v, ?_,r.mono (aG.refl _) fun _ z=>⟨z,fun w=>w⟩⟩
      have hj:j<vs.length:=(List.getElem?_eq_some_iff.mp e3).1
      rw [List.getElem?_append_left (by simpa using hj),List.getElem?_map,e3]
      rfl
  · rcases gE j s e1 with rfl | ⟨d,_,rfl⟩ <;> cases o1
  · simp [envOf,len]
  · rcases gE j _ e1 with w | ⟨d,_,w⟩ <;> cases w
theorem rB {N n:Nat}{F:FS}{vs:List V}{E0:XK}(h:spD T n (bG N F) vs H Q E0):tDs T (fun _ _ _=>False) F { nx:=fun _ H'=>Q .non H',rt:=Q } (vs.map some++List.replicate (N - vs.length) none) H:=by
  obtain ⟨hn,A,ds,d,nw,r,e,q⟩:=h
  unfold bG at e
  cases e1:F (envOf N ds) with
  | none=>rw [e1] at e; cases e
  | some fl =>
    rw [e1] at e
    refine ⟨⟨A,H,fun _=>False⟩,fun _=>False,envOf N ds,fl,kC nw r,e1, ?_⟩
    have sm : ∀ {O':Addr→Prop} {H':Hp},Fr (fun _=>False) H O' H'→aG H H':=fun f b o h=>f.keep b o h fun z=>z
    cases fl with
    | nx env'=>cases e; exact fun σ' H' O' E' g=>q .non H' (sm g) Rep.non
    | rt d' m=>cases e; exact fun v σ' H' O' E' g r'=>q v H' (sm g) (r'.mono (aG.refl _) fun a z=>z.1)
    | rf _ _=>cases e
    | bk _=>cases e
    | ct _=>cases e
    | ex _ _=>cases e
theorem ze {N n:Nat}{F:FS}{vs:List V}{E0:XK}(h:spF T n (kz N F) vs H Q E0):tDs T (fun _ _ _=>False) F { nx:=fun _ H'=>Q .non H',rt:=Q } (vs.map some++List.replicate (N - vs.length) none) H:=by
  obtain ⟨hn,A,ds,d,nw,r,e,q⟩:=h
  unfold kz at e
  cases e1:F (envOf N ds) with
  | none=>rw [e1] at e; cases e
  | some fl =>
    rw [e1] at e
    refine ⟨⟨A,H,fun _=>False⟩,fun _=>False,envOf N ds,fl,kC nw r,e1, ?_⟩
    have sm : ∀ {O':Addr→Prop} {H':Hp},Fr (fun _=>False) H O' H'→aG H H':=fun f b o h=>f.keep b o h fun z=>z
    cases fl with
    | rf d' m=>cases e; exact fun a xs σ' H' O' E' g n hl r'=>q _ H' (sm g) ⟨a,xs,rfl,n,hl,r'⟩
    | nx _=>cases e
    | rt _ _=>cases e
    | bk _=>cases e
    | ct _=>cases e
    | ex _ _=>cases e
end
end DL
end
section
namespace L2
open PySem PySem.Spec PyProof.Rows DL
section
variable {prog:Program}{w:World}{A:Around}{R:Result→Shared→Prop}{s:Shared}
theorem rC {elt target iter:Expr}{ifs:List Expr}{scope:Scope}{pos:Pos}{it acc:Value}{env:Env}(I:Nat→Shared→Prop)
    (turn : ∀ n s,I n s→wpAny (model prog w) A (pyNext it) (fun r s₁=>match r with
      | none=>R (.ok .next) s₁
      | some v=>wpAny (model prog w) A (letOwnedTupleGo target it v) (fun _ s₁'=>wpAny (model prog w) A (assign target env v) (fun _ s₂ =>
          wpAny (model prog w) A (forIn ifs true fun c r=>if r=true then do let ok ← isTrue c env (eval c env); pure (ForInStep.yield ok) else pure (ForInStep.yield r)) (fun ok s₃ =>
            if ok=true then wpAny (model prog w) A (eval elt env) (fun x s₄ =>
              wpAny (model prog w) A (call (.builtin "list.append") [acc,x]) (fun _ s₅=>∃ m,m<n∧I m s₅) (notedBy (model prog w) A env fun e s'=>R (.error e) s') s₄) (notedBy (model prog w) A env fun e s'=>R (.error e) s') s₃
            else ∃ m,m<n∧I m s₃) (notedBy (model prog w) A env fun e s'=>R (.error e) s') s₂) (notedBy (model prog w) A env fun e s'=>R (.error e) s') s₁') (notedBy (model prog w) A env fun e s'=>R (.error e) s') s₁) (notedBy (model prog w) A env fun e s'=>R (.error e) s') s)
    (n:Nat) (h:I n s):codeAny (model prog w) A (.compLoop (.ListComp elt [⟨target,iter,ifs,0⟩] scope pos) 0 it acc env) R s:=by
  refine codeAny_loop rfl I (fun n s hI=>?_) n h
  show wpAny _ A ((compTurn (.ListComp elt [⟨target,iter,ifs,0⟩] scope pos) 0 it acc env).onRaise (fun x=>do noteFrame x env; theTreesLotGoes x)) _ _ s
  refine wpAny_noted ?_
  rw [compTurn_list]
  refine wpAny_bind (wpAny_standAt (wpAny_bind (wpAny_mono (turn n s hI) (fun r s₁ h₁=>?_) fun _ _ h'=>h')))
  cases r with
  | none=>exact wpAny_pure h₁
  | some v =>
    refine wpAny_bind (wpAny_mono h₁ (fun _ s₁' h₁'=>?_) fun _ _ h'=>h')
    refine wpAny_bind (wpAny_mono h₁' (fun _ s₂ h₂=>wpAny_bind (wpAny_mono h₂ (fun ok s₃ h₃=>?_) fun _ _ h'=>h')) fun _ _ h'=>h')
    cases ok with
    | false=>exact wpAny_pure ⟨rfl,h₃⟩
    | true =>
      exact wpAny_bind (wpAny_bind (wpAny_mono h₃ (fun x s₄ h₄=>wpAny_bind (wpAny_mono h₄ (fun _ s₅ h₅=>wpAny_pure (wpAny_pure ⟨rfl,h₅⟩)) fun _ _ h'=>h')) fun _ _ h'=>h'))
end
noncomputable def fH (cells:List (Str × Addr)):List (Str × NameKind)→List (Str × Addr)→List (Str × Addr)
  | [],acc=>acc
  | (n,k)::r,acc=>if (k == .free)=true then fH cells r ((n,(cells.lookup n).getD 0)::acc) else fH cells r acc
theorem kE (cells:List (Str × Addr)) : ∀ (l:List (Str × NameKind)) (acc:List (Str × Addr)),(∀ y∈l,y.2=.free→∃ c,cells.lookup y.1=some c)→(∀ x c,acc.lookup x=some c→cells.lookup x=some c) →
    ∀ x c,(fH cells l acc).lookup x=some c→cells.lookup x=some c
  | [],acc,_,ha=>ha
  | (n,k)::r,acc,h,ha=>by
    unfold fH
    split
    · rename_i hk
      have hk':k=.free:=by simpa using hk
      obtain ⟨c0,e0⟩:=h (n,k) List.mem_cons_self hk'
      refine kE cells r _ (fun y hy=>h y (List.mem_cons_of_mem _ hy)) fun x c e=>?_
      dsimp only at e0
      rw [e0,Option.getD_some] at e
      by_cases hx:x=n
      · subst hx
        rw [List.lookup_cons_self] at e
        rw [e0]; exact e
      · have hb:(x == n)=false:=by simpa using hx
        rw [List.lookup_cons,hb] at e
        exact ha x c e
    · exact kE cells r acc (fun y hy=>h y (List.mem_cons_of_mem _ hy)) ha
theorem kG (cells:List (Str × Addr)) : ∀ (l:List (Str × NameKind)) (acc:List (Str × Addr)) (x:Str),(∃ c,acc.lookup x=some c)→∃ c,(fH cells l acc).lookup x=some c
  | [],acc,x,h=>h
  | (n,k)::r,acc,x,h=>by
    unfold fH
    split
    · refine kG cells r _ x ?_
      cases hb:x == n with
      | true=>exact ⟨_,by rw [List.lookup_cons,hb]⟩
      | false=>obtain ⟨c,e⟩:=h; exact ⟨c,by rw [List.lookup_cons,hb]; exact e⟩
    · exact kG cells r acc x h
theorem kH (cells:List (Str × Addr)) : ∀ (l:List (Str × NameKind)) (acc:List (Str × Addr)) (x:Str),(x,NameKind.free)∈l→∃ c,(fH cells l acc).lookup x=some c
  | (n,k)::r,acc,x,h=>by
    unfold fH
    rcases List.mem_cons.mp h with e | h
    · cases e
      rw [if_pos (by simp)]
      exact kG cells r ((n,(cells.lookup n).getD 0)::acc) n ⟨_,by rw [List.lookup_cons_self]⟩
    · split
      · exact kH cells r _ x h
      · exact kH cells r _ x h
theorem pH {scope:Scope}{env:Env}(h : ∀ y∈scope.names,y.2=.free→∃ c,env.cells.lookup y.1=some c):closureFor scope env=pure (fH env.cells scope.names []):=by
  unfold closureFor
  have go : ∀ (l:List (Str × NameKind)) (acc:List (Str × Addr)),(∀ y∈l,y.2=.free→∃ c,env.cells.lookup y.1=some c) →
      (forIn (m:=Sem) l acc fun x r=>match x with
        | (name,kind)=>if (kind == NameKind.free)=true then do let a ← cellOf env name; pure (ForInStep.yield ((name,a)::r)) else pure (ForInStep.yield r))=pure (fH env.cells l acc):=by
    intro l
    induction l with
    | nil=>intro acc _; rfl
    | cons y r ih =>
      intro acc hl
      obtain ⟨n,k⟩:=y
      rw [List.forIn_cons]
      unfold fH
      cases hk:(k == NameKind.free) with
      | true =>
        obtain ⟨c,e⟩:=hl (n,k) List.mem_cons_self (by simpa using hk)
        dsimp only at e
        have hc:cellOf env n=pure c:=by unfold cellOf; rw [e]
        simp only [hc,hk,if_true,e,Option.getD_some]
        exact ih _ fun y hy=>hl y (List.mem_cons_of_mem _ hy)
      | false =>
        simp only [hk,Bool.false_eq_true,if_false]
        exact ih _ fun y hy=>hl y (List.mem_cons_of_mem _ hy)
  exact (congrArg (fun m=>m >>= fun cs=>pure cs) (go scope.names [] h)).trans rfl
theorem ly {env:Env} : ∀ {names:List (Str × NameKind)} {x:Str},names.lookup x=some .free →
    (names.map fun (n,k)=>if (k == NameKind.free && env.scope.kind == .function && env.kindOf n == some .cell) then (n,NameKind.cell) else (n,k)).lookup x=some .cell ∨
    (names.map fun (n,k)=>if (k == NameKind.free && env.scope.kind == .function && env.kindOf n == some .cell) then (n,NameKind.cell) else (n,k)).lookup x=some .free
  | [],_,h=>by simp at h
  | (n,k)::r,x,h=>by
    have ih:=@ly env r x
    rw [List.map_cons]
    cases hx:x == n with
    | true =>
      rw [List.lookup_cons,hx] at h
      cases h
      dsimp only
      split <;> simp [List.lookup_cons,hx]
    | false =>
      rw [List.lookup_cons,hx] at h
      dsimp only
      split <;> simp only [List.lookup_cons,hx] <;> exact ih h
theorem kI {env:Env} : ∀ {names:List (Str × NameKind)} {x:Str} {k0:NameKind},(∀ y∈names,y.2≠.cell) →
    (names.map fun (n,k)=>if (k == NameKind.free && env.scope.kind == .function && env.kindOf n == some .cell) then (n,NameKind.cell) else (n,k)).lookup x=some k0→(k0=.cell∨k0=.free)→names.lookup x=some .free
  | [],_,_,_,h,_=>by simp at h
  | (n,k)::r,x,k0,hn,h,hk=>by
    have ih:=@kI env r x k0 (fun y hy=>hn y (List.mem_cons_of_mem _ hy))
    rw [List.map_cons] at h
    cases hx:x == n with
    | true =>
      rw [List.lookup_cons,hx]
      have h0:=hn (n,k) List.mem_cons_self
      dsimp only at h h0
      by_cases c:(k == NameKind.free && env.scope.kind == .function && env.kindOf n == some .cell)=true
      · have:k=.free:=by
          have:=(Bool.and_eq_true_iff.mp (Bool.and_eq_true_iff.mp c).1).1
          simpa using this
        rw [this]
      · rw [if_neg c,List.lookup_cons,hx] at h
        cases h
        rcases hk with rfl | rfl
        · exact absurd rfl h0
        · rfl
    | false =>
      rw [List.lookup_cons,hx]
      dsimp only at h
      by_cases c:(k == NameKind.free && env.scope.kind == .function && env.kindOf n == some .cell)=true
      · rw [if_pos c,List.lookup_cons,hx] at h; exact ih h hk
      · rw [if_neg c,List.lookup_cons,hx] at h; exact ih h hk
noncomputable def aO (X:Cx)(scope:Scope)(cl:List (Str × Addr))(N':List Str)(C:Addr)(s2:Shared)(H2:Hp)(fp:List Addr):Cx :=
  { X with N:=N',s₀:=s2,H₀:=H2,env:=compEnvC scope cl C X.env,outer:=X.stack,stack:=X.stack,ex:=fp,fn:=fun _=>false,pn:=[],xe:=fun _ _=>False }
structure fZ (sc scope:Scope)(N N':List Str)(nt:Nat)(cap:List Nat):Prop where
  kind:scope.kind=.function
  uT : ∀ y∈scope.names,y.2≠.cell
  names : ∀ y∈scope.names,y.2=.local→scope.names.lookup y.1=some .local
  fr : ∀ y∈scope.names,y.2=.free→sc.names.lookup y.1=some .cell∨sc.names.lookup y.1=some .free
  len:N'.length=nt+cap.length
  cap : ∀ j∈List.range cap.length, ∀ x∈N'[nt+j]?, ∀ i∈cap[j]?,N[i]?=some x∧scope.names.lookup x=some .free
noncomputable def jr (X:Cx)(ifs:List Expr)(t:TT):Prop :=
  ∀ (pins:List (Addr × Obj)) (s:Shared) (σ:St) (H:Hp) (Q:Bool→Hp→Prop),Inv X pins σ H s→t σ H Q →
    wpAny (model X.prog X.w) X.A (forIn ifs true fun c r=>if r=true then do let ok ← isTrue c X.env (eval c X.env); pure (ForInStep.yield ok) else pure (ForInStep.yield r)) (TP X pins σ Q) X.xe s
noncomputable def JZ:TT:=fun _ H Q=>Q true H
theorem zg {X:Cx}:jr X [] JZ:=fun _ _ _ H _ I h=>wpAny_tests_nil ⟨H,I,h⟩
theorem zh {X:Cx}{c:Expr}{t:TT}(h:PT X c t):jr X [c] t:=fun pins s σ H Q I hq=>wpAny_tests_one (h pins s σ H Q I hq)
noncomputable def nS (nt:Nat)(g:TG):Prop:=∀ x σ H Q,g x σ H Q→g x σ H fun σ2 H2=>((∀ j:Nat,nt≤j→σ2[j]?=σ[j]?)∧σ2.length=σ.length)∧Q σ2 H2
theorem bI {i nt:Nat}(h:i<nt):nS nt (jv i):=fun x σ H Q q=>⟨⟨fun j hj=>by rw [List.getElem?_set_ne (by omega)],by simp⟩,q⟩
section
variable {X:Cx}{elt iter tg:Expr}{ifs:List Expr}{scope:Scope}{pos:Pos}{wi:TI}{g:TG}{tt:TT}{te:TE}{sc:Scope}{N N':List Str}{nt:Nat}{cap:List Nat}
theorem Bx {pins:List (Addr × Obj)}{σ:St}{H2:Hp}{s2:Shared}{fp:List Addr}{h1:Heap}{C D:Addr}{o:Obj}{tk:Nat}(hsc:X.env.scope=sc)(hN:X.N=N)(chk:fZ sc scope N N' nt cap)
    (I2:Inv X pins σ H2 s2) (f2 : ∀ b∈fp,mQ X pins H2 b) (hD:s2.heap.objs.size=D) (hC:s2.heap.objs.size<C) (hns:h1.Ns C fun _=>none) (old : ∀ b o,s2.heap.get? b=some o→h1.get? b=some o)
    (hfp : ∀ b∈fp,b<s2.heap.objs.size) (ho:h1.get? D=some o) (hod : ∀ v,o.data≠.cell v) :
    Inv (aO X scope (fH X.env.cells scope.names []) N' C s2 H2 fp) [(D,o)] (jq nt cap σ) H2 { s2 with heap:=h1,toks:=tk }:=by
  have hcells : ∀ y∈scope.names,y.2=.free→∃ c,X.env.cells.lookup y.1=some c:=fun y hy hk=>I2.ok.has y.1 (by show X.env.scope.names.lookup y.1=_∨X.env.scope.names.lookup y.1=_; rw [hsc]; exact chk.fr y hy hk)
  have hsub : ∀ x c,(fH X.env.cells scope.names []).lookup x=some c→X.env.cells.lookup x=some c:=kE X.env.cells scope.names [] hcells (fun x c e=>by simp at e)
  have hhas : ∀ x,scope.names.lookup x=some .free→∃ c,(fH X.env.cells scope.names []).lookup x=some c:=fun x e=>kH X.env.cells scope.names [] x (PySem.mem_of_lookup e)
  have nst : ∀ b,s2.heap.objs.size≤b→b ∉ frs X.stack:=fun b hb hm=>by
    rcases List.mem_cons.mp (I2.lR b hm) with e | e
    · rw [e] at hb; exact absurd (Nat.lt_of_lt_of_le I2.lt hb) (Nat.lt_irrefl _)
    · exact I2.Hb hb e
  have nC : ∀ x c,X.env.cells.lookup x=some c→c<s2.heap.objs.size:=fun x c e=>by
    obtain ⟨v,q⟩:=I2.cell x c e
    exact q.lt
  refine ⟨⟨I2.ok.mod,chk.kind,I2.ok.glob,I2.ok.blt,Nat.le_of_lt hC,fun x y c e1 e2=>I2.ok.inj x y c (hsub x c e1) (hsub y c e2),fun x hk=>?_,fun x c z _=>(nomatch z),fun hc=>I2.ok.hd hc,I2.ok.frames,.inl rfl,
    fun b hb=>⟨Nat.ne_of_lt (Nat.lt_trans (hfp b hb) hC),fun x c e=>(f2 b hb).2.2.2.2.1 x c (hsub x c e)⟩,I2.bs,Nat.le_trans I2.ok.bsz I2.sz,fun b ob e hb=>?_,fun b hb hm=>?_,I2.stack,I2.l0⟩,
    rfl,I2.bare,Un.kept old,⟨_,hns,fun j x v e1 e2 e3=>?_⟩,fun x c e=>?_,I2.hok.fresh (Nat.le_of_lt hC),fun x c e=>I2.iC x c (hsub x c e),fun p hp=>?_,I2.hok.kept old, ?_⟩
  ·
    have hk':(relabel scope X.env).names.lookup x=some .cell∨(relabel scope X.env).names.lookup x=some .free:=hk
    rcases hk' with e | e
    · exact hhas x (kI chk.uT e (.inl rfl))
    · exact hhas x (kI chk.uT e (.inr rfl))
  ·
    rcases (f2 b hb).2.2.2.1 with z | z
    · exact I2.ok.wO b ob e z
    · exact absurd (Nat.lt_of_lt_of_le (Heap.lt_size e) (Nat.le_trans I2.ok.bsz z)) (Nat.lt_irrefl _)
  ·
    rcases List.mem_cons.mp (I2.lR b hm) with e | e
    · exact (f2 b hb).2.1 e
    · exact (f2 b hb).2.2.1 e
  ·
    have hj:nt≤j:=by
      apply Nat.le_of_not_lt
      intro hj
      unfold jq at e2
      rw [List.getElem?_append_left (by simpa using hj),List.getElem?_replicate,if_pos hj] at e2
      cases e2
    obtain ⟨l,rfl⟩ : ∃ l,j=nt+l:=⟨j - nt,by omega⟩
    unfold jq at e2
    rw [List.getElem?_append_right (by simp),List.length_replicate,Nat.add_sub_cancel_left,List.getElem?_map] at e2
    cases ec:cap[l]? with
    | none=>rw [ec] at e2; cases e2
    | some i =>
      rw [ec,Option.map_some] at e2
      have hl:l<cap.length:=(List.getElem?_eq_some_iff.mp ec).1
      have e1':N'[nt+l]?=some x:=e1
      obtain ⟨h3,h4⟩:=chk.cap l (List.mem_range.mpr hl) x (by rw [e1']; rfl) i (by rw [ec]; rfl)
      have e2' : σ[i]?=some (some v):=by
        cases es : σ[i]? with
        | none=>rw [es] at e2; cases e2
        | some ov =>
          rw [es] at e2
          cases ov with
          | none=>cases e2
          | some v'=>cases e2; rfl
      obtain ⟨m,hm,hl'⟩:=I2.loc
      have hkk:X.env.scope.names.lookup x=some .cell∨X.env.scope.names.lookup x=some .free:=by rw [hsc]; exact chk.fr (x,.free) (PySem.mem_of_lookup h4) rfl
      obtain ⟨u,ru,lk⟩:=hl' i x v (by rw [hN]; exact h3) e2' (.inr hkk)
      refine ⟨u,ru,.inr ⟨ly h4, ?_⟩⟩
      rcases lk with ⟨hk,_⟩ | ⟨_,c,hc,hcell⟩
      · have hk':X.env.scope.names.lookup x=some .local:=hk
        rcases hkk with z | z <;> (rw [hk'] at z; cases z)
      · obtain ⟨c',e'⟩:=hhas x h4
        have:=hsub x c' e'
        rw [hc] at this; cases this
        obtain ⟨oc,h5,h6⟩:=hcell
        exact ⟨c,e',oc,old c oc h5,h6⟩
  ·
    obtain ⟨v,oc,h5,h6⟩:=I2.cell x c (hsub x c e)
    exact ⟨v,oc,old c oc h5,h6⟩
  ·
    have hp':p=(D,o):=by simpa [aO] using hp
    subst hp'
    refine ⟨ho,I2.hok.fresh (Nat.le_of_eq hD), ?_,nst D (Nat.le_of_eq hD),hod⟩
    show D≠C
    exact Nat.ne_of_lt (by rw [← hD]; exact hC)
  · show (jq nt cap σ).length=N'.length
    rw [chk.len]
    simp [jq]
theorem qo (hsc:X.env.scope=sc)(hN:X.N=N)(chk:fZ sc scope N N' nt cap)(hc:X.calm=true)(hi:PI X tg iter wi)
    (hg : ∀ cl C s2 H2 fp,PG (aO X scope cl N' C s2 H2 fp) tg g) (hge:nS nt g) (ht : ∀ cl C s2 H2 fp,jr (aO X scope cl N' C s2 H2 fp) ifs tt) (he : ∀ cl C s2 H2 fp,PE (aO X scope cl N' C s2 H2 fp) elt te)
    (hs : ∀ x,foldedSetIterable iter X.env x=pure x) {use:Option (Value→Sem Unit)} {QQ:Value→Shared→Prop} {pins:List (Addr × Obj)} {s:Shared} {σ:St} {H:Hp} {p0:Pos} (I:Inv X pins σ H s) (Q:VK)
    (fin : ∀ (s4:Shared) (D C:Addr) (H4:Hp),C≠D→H4 C=none→(∃ m,s4.heap.Ns C m)→(∀ h',Heap.SameBut C s4.heap h'→Inv X pins σ H4 { s4 with heap:=h' }) →
      ((C∈X.ex∨X.s₀.heap.objs.size≤C)∧C≠X.env.locals∧(∀ x c,X.env.cells.lookup x=some c→c≠C)∧∀ p∈X.pn++pins,p.1≠C)→Q (.ref D) H4→compPost (model X.prog X.w) X.A X.xe use QQ (.ref D) C (.ok .next) s4)
    (h:nQ nt cap wi g tt te σ H Q):wpAny (model X.prog X.w) X.A (comprehension (.ListComp elt [⟨tg,iter,ifs,0⟩] scope pos) scope X.env p0 (newList []) false (eval iter X.env) use) QQ X.xe s:=by
  have hcells : ∀ y∈scope.names,y.2=.free→∃ c,X.env.cells.lookup y.1=some c:=fun y hy hk=>I.ok.has y.1 (by show X.env.scope.names.lookup y.1=_∨X.env.scope.names.lookup y.1=_; rw [hsc]; exact chk.fr y hy hk)
  refine wpAny_comprehension_free (use:=use) rfl hs (pH hcells) chk.kind chk.names ?_
  refine thn (hi pins s σ H _ I h) fun v s1 h1=>thn h1 fun itv s2 h2=>?_
  obtain ⟨it,fp,tn,J,H2,e,I2,T,st2,f2,W,⟨m0,w0⟩,turn⟩:=h2
  subst e
  refine wpAny_newObj_type (wpAny_newFunctionEnv chk.uT (by intro y hy; simp at hy) (fun h₁ hns₁ hsb₁=>?_) chk.kind)
  dsimp only at hns₁ hsb₁ ⊢
  generalize hG:s2.heap.push { cls:=.type "list",dict:=none,data:=.seq ([]:List Value).toArray }=G at hns₁ hsb₁ ⊢
  have hCs:G.objs.size=s2.heap.objs.size+1:=by rw [← hG,Heap.size_push]
  have hDC:s2.heap.objs.size≠G.objs.size:=by rw [hCs]; exact Nat.ne_of_lt (Nat.lt_succ_self _)
  have below : ∀ b,b<s2.heap.objs.size→b≠G.objs.size:=fun b hb=>by rw [hCs]; exact Nat.ne_of_lt (Nat.lt_succ_of_lt hb)
  have old : ∀ b o,s2.heap.get? b=some o→h₁.get? b=some o:=fun b o e=>hsb₁.extBut b o (below b (Heap.lt_size e)) (Heap.get?_push_of_some _ (hG ▸ Heap.get?_push_of_some _ e))
  have hacc:h₁.get? s2.heap.objs.size=some { cls:=.type "list",dict:=none,data:=.seq ([]:List Value).toArray }:=hsb₁.extBut _ _ hDC (Heap.get?_push_of_some _ (hG ▸ Heap.get?_push_size _ rfl))
  have hfp : ∀ b∈fp,b<s2.heap.objs.size:=fun b hb=>by
    obtain ⟨o,e,_⟩:=T.obj 0 _ st2 b hb
    exact Heap.lt_size e
  generalize hD:s2.heap.objs.size=D at hacc hDC ⊢
  generalize hC:G.objs.size=C at hns₁ hsb₁ hDC ⊢
  have hDC':s2.heap.objs.size<C:=by rw [← hC,hCs]; exact Nat.lt_succ_self _
  have hns:h₁.Ns C fun _=>none:=by
    have:(fun x:Str=>([]:List (Str × Value)).reverse.lookup x)=fun _=>none:=by funext x; rfl
    rw [← this]
    exact hns₁
  let cl:=fH X.env.cells scope.names []
  let X':=aO X scope cl N' C s2 H2 fp
  let ob:List Value→Nat→Obj:=fun its n=>{ cls:=.type "list",dict:=none,data:=.seq its.toArray n }
  have I0:Inv X' [(D,ob [] 0)] (jq nt cap σ) H2 { s2 with heap:=h₁,toks:=s2.toks+([]:List (Str × Value)).length }:=Bx hsc hN chk I2 f2 hD hDC' hns old hfp hacc (fun v z=>nomatch z)
  have fpD : ∀ b∈fp,b≠D:=fun b hb z=>by have:=hfp b hb; rw [z,hD] at this; exact Nat.lt_irrefl _ this
  have stat : ∀ {H':Hp} {its:List Value} {n:Nat},(∀ b∈fp,H' b=none)→∀ b∈fp,mQ X' [(D,ob its n)] H' b:=fun {H' its n} hn b hb=>by
    obtain ⟨_,f1,f2',f3,f4,f5⟩:=f2 b hb
    refine ⟨hn b hb,Nat.ne_of_lt (Nat.lt_trans (hfp b hb) hDC'),I0.ok.wQ b hb,.inl hb,(I0.ok.exf b hb).2,fun p hp=>?_⟩
    have hp':p=(D,ob its n):=by simpa [X',aO] using hp
    subst hp'
    exact Ne.symm (fpD b hb)
  have st0:tn 0 h₁:=T.keep 0 _ _ st2 fun b hb o e=>old b o e
  have loop:codeAny (model X.prog X.w) X.A (.compLoop (.ListComp elt [⟨tg,iter,ifs,0⟩] scope pos) 0 (.ref it) (.ref D) (compEnvC scope cl C X.env))
      (compPost (model X.prog X.w) X.A X.xe use QQ (.ref D) C) { s2 with heap:=h₁,toks:=s2.toks+([]:List (Str × Value)).length }:=by
    refine rC (fun k s'=>∃ i ys its n H',Inv X' [(D,ob its n)] (jq nt cap σ) H' s'∧tn i s'.heap∧(∀ b∈fp,H' b=none)∧Vals ys its∧W i k ys H') ?_ m0 ⟨0,[],[],0,H2,I0,st0,fun b hb=>(f2 b hb).1,.nil,w0⟩
    rintro k s3 ⟨i,ys,its,n,H3,I3,st3,fr3,rv3,w3⟩
    have pD:=I3.pin (D,ob its n) (by simp)
    rcases turn i k ys H3 w3 with ⟨stop,hz,qn⟩ | ⟨go,step⟩
    · refine wpAny_mono (T.done X' rfl rfl rfl hc i _ s3 _ H3 (fun _ _=>False) I3 (stat fr3) st3 stop) (fun r s4 zz_=>?_) fun _ _ z=>False.elim z
      obtain ⟨hr,I4⟩:=zz_
      subst hr
      have pD4:=I4.pin (D,ob its n) (by simp)
      obtain ⟨mC,hnC,_⟩:=I4.loc
      have J : ∀ h',Heap.SameBut C s4.heap h'→Inv X pins σ (upd H3 D (.lst ys)) { s4 with heap:=h' }:=fun h' sb=>by
        have hfree:H3 D=none:=pD4.2.1
        have neC : ∀ b u,H3 b=some u→b≠C:=fun b u e z=>by
          have:H3 C=none:=I4.free
          rw [z,this] at e; cases e
        have neD : ∀ b u,H3 b=some u→b≠D:=fun b u e z=>by rw [z,hfree] at e; cases e
        have hltC : ∀ b,b<s2.heap.objs.size→b≠C:=fun b hb=>by omega
        have hltD : ∀ b,b<s2.heap.objs.size→b≠D:=fun b hb=>by omega
        have hgD:h'.get? D=some (ob its n):=sb.extBut D _ hDC pD4.1
        have un:Un (frs X.stack) fp H2 (upd H3 D (.lst ys)) s2.heap h':=by
          have bs:Un (frs X.stack) fp H2 H3 s2.heap s4.heap:=I4.base
          refine ⟨fun b o e n hb hx=>?_,fun b o e n hb hx=>?_,fun b o e n hx=>?_,fun b o e hx=>?_,fun b xs e=>?_,fun b o u e=>?_,fun b ps e=>?_⟩
          · exact sb.extBut b o (hltC b (Heap.lt_size e)) (bs.keep b o e n hb hx)
          · obtain ⟨sl,q⟩:=bs.slot b o e n hb hx
            exact ⟨sl,sb.extBut b _ (hltC b (Heap.lt_size e)) q⟩
          · rw [ba (hltD b (Heap.lt_size e))]; exact bs.free b o e n hx
          · obtain ⟨o',q⟩:=bs.there b o e hx
            exact ⟨o',sb.extBut b _ (hltC b (Heap.lt_size e)) q⟩
          · have q:=bs.gp b xs e
            rw [ba (neD b _ q)]; exact q
          · have q:=bs.kq b o u e
            rw [ba (neD b _ q)]; exact q
          · obtain ⟨more,q⟩:=bs.kZ b ps e
            exact ⟨more,by rw [ba (neD b _ q)]; exact q⟩
        have hok:HOk X.prog X.w (upd H3 D (.lst ys)) h':=fun b u e=>by
          by_cases hb:b=D
          · subst hb
            rw [bY] at e; cases e
            exact ⟨hz,its,n,rv3,hgD⟩
          · rw [ba hb] at e
            refine (I4.hok b u e).nA (fun c v hcc q=>sb.extBut c v ?_ q) (fun c q=>by rw [ba (neD c _ q)]; exact q) fun c xs q=>by rw [ba (neD c _ q)]; exact q
            rcases hcc with rfl | hcc
            · exact neC _ _ e
            · exact neC _ _ hcc
        have hch : ∀ b∈fp,(b∈X.ex∨X.s₀.heap.objs.size≤b)∧b≠X.env.locals∧(∀ x c,X.env.cells.lookup x=some c→c≠b)∧∀ p∈X.pn++pins,p.1≠b:=fun b hb=>by
          obtain ⟨_,f1,_,f3,f4,f5⟩:=f2 b hb
          exact ⟨f3,f1,f4,f5⟩
        have os4:s4.os=s2.os:=I4.os
        have I5:Inv X pins σ (upd H3 D (.lst ys)) { s4 with heap:=h' }:=I2.q9 (s':={ s4 with heap:=h' }) os4 un hok I4.bare hch
        exact I5
      have hfree:H3 D=none:=pD4.2.1
      have hfC:H3 C=none:=I4.free
      exact fin s4 D C _ (Ne.symm hDC) (by rw [ba (Ne.symm hDC)]; exact hfC) ⟨mC,hnC⟩ J
        ⟨.inr (Nat.le_trans I2.sz (Nat.le_of_lt hDC')),fun z=>Nat.lt_irrefl _ (Nat.lt_trans hDC' (z ▸ I2.lt)),fun x c e z=>(by
          obtain ⟨v',oc,h5,h6⟩:=I2.cell x c e
          exact Nat.lt_irrefl _ (Nat.lt_trans hDC' (z ▸ Heap.lt_size h5))),fun p hp z=>Nat.lt_irrefl _ (Nat.lt_trans hDC' (z ▸ Heap.lt_size (I2.pin p hp).1))⟩ (qn D hfree)
    · refine wpAny_mono (T.item X' rfl rfl rfl hc i _ s3 _ H3 (fun _ _=>False) I3 (stat fr3) st3 go) (fun r s4 zz_=>?_) fun _ _ z=>False.elim z
      obtain ⟨u,hr,h4⟩:=zz_
      subst hr
      refine wpAny_mono h4 (fun _ s5 zz_=>?_) fun _ _ z=>False.elim z
      obtain ⟨x,H5,I5,r5,y5,st5,fr5⟩:=zz_
      have I5':=I5.pinned (stat fr5) (T.obj _ _ st5)
      refine wpAny_mono (hg cl C s2 H2 fp _ s5 _ H5 x u _ I5' r5 (hge _ _ _ _ (step x H5 y5))) (fun _ s6 zz_=>?_) fun _ _ z=>False.elim z
      obtain ⟨σ6,H6,I6,⟨ext,exl⟩,q6⟩:=zz_
      refine wpAny_mono (ht cl C s2 H2 fp _ s6 σ6 H6 _ I6 q6) (fun b s7 zz_=>?_) fun _ _ z=>False.elim z
      obtain ⟨H7,I7,q7⟩:=zz_
      have back : ∀ {s':Shared} {H':Hp},Inv X' ([(D,ob its n)]++nD fp s5.heap) σ6 H' s'→Inv X' [(D,ob its n)] (jq nt cap σ) H' s'∧tn (i+1) s'.heap∧∀ b∈fp,H' b=none:=fun {s' H'} J=>by
        refine ⟨J.lj.weak (by rw [exl]) fun j w e=>?_,T.keep _ _ _ st5 fun b hb o e=>(J.pin (b,o) (List.mem_append_right _ (List.mem_append_right _ (j6 hb e)))).1,fun b hb=>?_⟩
        · have hj:nt≤j:=by
            apply Nat.le_of_not_lt
            intro hj
            unfold jq at e
            rw [List.getElem?_append_left (by simpa using hj),List.getElem?_replicate,if_pos hj] at e
            cases e
          rw [ext j hj]; exact e
        · obtain ⟨o,e,d⟩:=T.obj _ _ st5 b hb
          exact (J.pin (b,o) (List.mem_append_right _ (List.mem_append_right _ (j6 hb e)))).2.1
      cases b with
      | false =>
        rw [if_neg Bool.false_ne_true] at q7 ⊢
        obtain ⟨m',hm,w7⟩:=q7
        obtain ⟨J,st7,fr7⟩:=back I7
        exact ⟨m',hm,i+1,ys,its,n,H7,J,st7,fr7,rv3,w7⟩
      | true =>
        rw [if_pos rfl] at q7 ⊢
        refine wpAny_mono (he cl C s2 H2 fp _ s7 σ6 H7 _ I7 q7) (fun y s8 zz_=>?_) fun _ _ z=>False.elim z
        obtain ⟨yv,H8,I8,r8,hz8,m',hm,w8⟩:=zz_
        obtain ⟨J,st8,fr8⟩:=back I8
        have pD8:=J.pin (D,ob its n) (by simp)
        have hsz:its.toArray.size≤sizeLine:=by
          have:=rv3.length
          rw [List.size_toArray]; omega
        refine wpAny_list_append_plain (l:=D) (items:=its.toArray) ⟨n,pD8.1⟩ (fun h9 pl sb9=>?_) hsz
        obtain ⟨n9,e9⟩:=pl
        refine ⟨m',hm,i+1,ys++[yv],its++[y],n9,H8, ?_,T.keep _ _ _ st8 fun b hb o e=>sb9.extBut b o (fpD b hb) e,fr8,rv3.append (.cons r8 .nil),w8⟩
        have J0:Inv X' [] (jq nt cap σ) H8 s8:=J.mW fun p hp=>absurd hp (by simp)
        have cellsD : ∀ x c,X'.env.cells.lookup x=some c→c≠D:=fun x c e z=>by
          obtain ⟨v',oc,h5,h6⟩:=J.cell x c e
          rw [z,pD8.1] at h5; cases h5
          exact absurd h6 (fun z=>nomatch z)
        have J1:Inv X' [] (jq nt cap σ) H8 { s8 with heap:=h9 }:=J0.turned (t':=s8.toks) (fun b o hb e=>sb9.extBut b o hb e) pD8.2.1 pD8.2.2.1 (.inr (Nat.le_of_eq hD)) cellsD (fun p hp=>absurd hp (by simp [X',aO]))
        refine J1.mW fun p hp=>?_
        have hp':p=(D,ob (its++[y]) n9):=by simpa using hp
        subst hp'
        refine ⟨?_,pD8.2.1,pD8.2.2.1,pD8.2.2.2.1,fun v z=>nomatch z⟩
        show h9.get? D=some (ob (its++[y]) n9)
        rw [e9]
        simp [ob]
  refine codeAny_compStart_list loop ?_
  exact T.self X.A 0 _ _ _ st0 loop
theorem mZ (hsc:X.env.scope=sc)(hN:X.N=N)(chk:fZ sc scope N N' nt cap)(hc:X.calm=true)(hi:PI X tg iter wi)
    (hg : ∀ cl C s2 H2 fp,PG (aO X scope cl N' C s2 H2 fp) tg g) (hge:nS nt g) (ht : ∀ cl C s2 H2 fp,jr (aO X scope cl N' C s2 H2 fp) ifs tt) (he : ∀ cl C s2 H2 fp,PE (aO X scope cl N' C s2 H2 fp) elt te)
    (hs : ∀ x,foldedSetIterable iter X.env x=pure x:=by intro _; rfl):PE X (.ListComp elt [⟨tg,iter,ifs,0⟩] scope pos) (nQ nt cap wi g tt te):=by
  intro pins s σ H Q I h
  rw [eval_ListComp]
  exact qo (use:=none) hsc hN chk hc hi hg hge ht he hs I Q (fun s4 D C H4 _ _ hn J _ q=>by
    obtain ⟨m,hm⟩:=hn
    exact ⟨m,hm,fun h' sb=>⟨.ref D,_,J h' sb,rfl,q⟩⟩) h
theorem rD (hsc:X.env.scope=sc)(hN:X.N=N)(chk:fZ sc scope N N' nt cap)(hc:X.calm=true)(hi:PI X tg iter wi)
    (hg : ∀ cl C s2 H2 fp,PG (aO X scope cl N' C s2 H2 fp) tg g) (hge:nS nt g) (ht : ∀ cl C s2 H2 fp,jr (aO X scope cl N' C s2 H2 fp) ifs tt) (he : ∀ cl C s2 H2 fp,PE (aO X scope cl N' C s2 H2 fp) elt te)
    {i:Nat} {x:Str} {pos' spos:Pos} (hNd:X.N.Nodup) (hi':X.N[i]?=some x) (hx:Loc X.env.scope x) (hf:X.fn x=true∨X.env.scope.names.lookup x=some .local)
    (hsw:swapsWith (.ListComp elt [⟨tg,iter,ifs,0⟩] scope pos) (some (.Name x pos')) spos.line X.env=pure true) (hs : ∀ x,foldedSetIterable iter X.env x=pure x:=by intro _; rfl) :
    PS X (.Assign [.Name x pos'] (.ListComp elt [⟨tg,iter,ifs,0⟩] scope pos) spos) (qZ (nQ nt cap wi g tt te) (jv i)):=by
  intro pins s σ H D I h
  rw [exec_Assign_Name_used _ _ _ _ hsw]
  refine wpAny_bind (wpAny_standAt (wpAny_bind ?_))
  show wpAny _ X.A (do let _ ← comprehension (.ListComp elt [⟨tg,iter,ifs,0⟩] scope pos) scope X.env _ (newList []) false (eval iter X.env) (some (assign (.Name x pos') X.env))) _ _ s
  refine wpAny_bind (wpAny_mono (qo (use:=some (assign (.Name x pos') X.env)) (QQ:=fun _ s'=>∃ σ' H',Inv X pins σ' H' s'∧D.nx σ' H') hsc hN chk hc hi hg hge ht he hs I _ (fun s4 D' C H4 hne hf4 hn J hch q=>?_) h) (fun _ s' hq=>wpAny_pure (wpAny_pure hq)) fun _ _ e=>e)
  obtain ⟨m,hm⟩:=hn
  have I4:Inv X pins σ H4 s4:=J s4.heap (Heap.SameBut.refl C s4.heap)
  refine wpAny_assign_Name (q8 I4 hNd hi' hx (v:=.ref D') rfl (fun s5 I5 sb5=>?_) hf)
  obtain ⟨a,sb,ha⟩:=sb5
  have haC:C≠a:=by
    rcases ha with rfl | ha
    · exact hch.2.1
    · exact fun z=>hch.2.2.1 _ _ ha z.symm
  refine ⟨m,hm.sameBut sb haC,fun h' sb'=>⟨_,H4, ?_,q⟩⟩
  refine I5.q9 (s':={ s5 with heap:=h' }) (ch:=[C]) rfl ⟨fun b o e _ _ hb=>sb'.extBut b o (by simpa using hb) e,fun b o e _ _ hb=>⟨o.slots,sb'.extBut b o (by simpa using hb) e⟩,fun b o _ n _=>n,fun b o e hb=>⟨o,sb'.extBut b o (by simpa using hb) e⟩,fun _ _ e=>e,fun _ _ _ e=>e,fun _ ps e=>⟨#[],by simpa using e⟩⟩ (fun b u e=>?_) I5.bare (fun b hb=>?_)
  · refine (I5.hok b u e).nA (fun c v hcc q=>sb'.extBut c v ?_ q) (fun _ q=>q) fun _ _ q=>q
    intro z
    subst z
    rcases hcc with rfl | hcc
    · rw [hf4] at e; cases e
    · rw [hf4] at hcc; cases hcc
  · have hb':b=C:=by simpa using hb
    subst hb'
    exact hch
end
end L2
end
section
namespace DL
open PySem
noncomputable def isStar:Expr→Bool
  | .Starred _ _=>true
  | _=>false
noncomputable def dq:List Expr→Bool
  | []=>true
  | e::es=>!isStar e && dq es
theorem bq {e:Expr}{es:List Expr}{env:Env}(h:isStar e=false):starEach (e::es) env=(false,eval e env)::starEach es env:=by
  cases e <;> first | rfl | cases h
theorem eT {pos:Pos}{env:Env} : ∀ {es:List Expr},dq es=true→(backTo pos (starEach es env)).any (·.1)=false
  | [],_=>rfl
  | e::es,h=>by
    unfold dq at h
    rw [Bool.and_eq_true,Bool.not_eq_true'] at h
    rw [bq h.1]
    show (false || (backTo pos (starEach es env)).any (·.1))=false
    rw [eT h.2]
    rfl
theorem i7 {e:Expr}{env:Env}(h:isStar e=false):starEach [e] env=[(false,eval e env)]:=(bq h).trans rfl
theorem nT {e e2:Expr}{env:Env}(h:isStar e=false)(h2:isStar e2=false):starEach [e,e2] env=[(false,eval e env),(false,eval e2 env)]:=by rw [bq h,i7 h2]
noncomputable def m9:Expr→Bool
  | .ListComp _ _ _ _=>false
  | .SetComp _ _ _ _=>false
  | .DictComp _ _ _ _ _=>false
  | _=>true
theorem gK {value:Expr}{t:Option Expr}{l:Nat}{env:Env}(h:m9 value=true):swapsWith value t l env=pure false:=by
  cases value <;> first | rfl | cases h
end DL
namespace DL
open PySem PySem.Spec PyProof.Rows L2
noncomputable def lz:Expr→Bool
  | .Set _ _ _=>false
  | _=>true
theorem dX {e:Expr}{env:Env}(h:lz e=true) : ∀ x,foldedSetIterable e env x=pure x:=fun x=>by
  cases e <;> first | rfl | cases h
theorem sU {op:CmpOp}{e:Expr}(h:lz e=true):behindInMarks op e=false:=by
  cases e <;> first | rfl | cases h
noncomputable def plainT:Expr→Bool
  | .Call _ _ _ _=>true
  | .Name _ _=>true
  | .Subscript _ _ _=>true
  | .Attribute _ _ _=>true
  | .Constant _ _ _=>true
  | _=>false
theorem xi {e:Expr}{env:Env}(h:plainT e=true) : ∀ whole,isTrue e env whole=(do let v ← whole; standAt e.pos; holding [v] (truthy v)):=fun whole=>by
  cases e <;> first | rfl | cases h
noncomputable def uU:Expr→Bool
  | .Slice _ _ _ _=>false
  | .Tuple _ _ _=>false
  | _=>true
theorem nU {b:Expr}(h:uU b=true):vY b:=fun o i=>by
  cases b <;> first | rfl | cases h
end DL
end
section
namespace DL
open PySem L2
noncomputable def uV (i j:Int):Option D:=some (.int (i - j))
noncomputable def i8 (i j:Int):Option D:=if 0<j∧j<1073741824 then some (.int (i / j)) else none
noncomputable def g0 (i j:Int):Option D:=if 0<j then some (.int (i % j)) else none
noncomputable def xj (i j:Int):Option D:=if 0≤j∧j≤1000000∧i.natAbs<18446744073709551616 then some (.int (i ^ j.toNat)) else none
noncomputable def ltI (i j:Int):Option D:=some (.bl (decide (i<j)))
noncomputable def leI (i j:Int):Option D:=some (.bl (decide (i≤j)))
noncomputable def gtI (i j:Int):Option D:=some (.bl (decide (j<i)))
noncomputable def geI (i j:Int):Option D:=some (.bl (decide (j≤i)))
noncomputable def nV:D→D→Option D
  | .int i,.int j=>if (-18446744073709551616<i∧i<18446744073709551616)∨(-18446744073709551616<j∧j<18446744073709551616) then some (.int (i * j)) else none
  | .str z,.int k=>if z.length≤16∧-1000000000000000000≤k∧k≤1000000 then some (.str (List.replicate k.toNat z).flatten) else none
  | _,_=>none
noncomputable def K0:D→Option D
  | .int i=>some (.int (-i))
  | _=>none
noncomputable def eqZ (f:D→D→Option Bool):List D→List D→Option Bool
  | a::as,b::bs=>(f a b).bind fun x=>(eqZ f as bs).map fun y=>x && y
  | _,_=>some true
noncomputable def eqN:Nat→D→D→Option Bool
  | 0,_,_=>none
  | n+1,x,y=>match x,y with
    | .non,.non=>some true
    | .bl a,.bl b=>some (a == b)
    | .int a,.int b=>some (a == b)
    | .str a,.str b=>some (a == b)
    | .tup as,.tup bs=>(eqZ (eqN n) as bs).map fun r=>r && as.length == bs.length
    | .lst as,.lst bs=>if as.length=bs.length then eqZ (eqN n) as bs else some false
    | .bl a,.int b=>some ((if a then 1 else 0) == b)
    | .int a,.bl b=>some (a == (if b then 1 else 0))
    | .ob _ _ _,_=>none
    | _,.ob _ _ _=>none
    | .dct _ _,_=>none
    | _,.dct _ _=>none
    | .exc _,_=>none
    | _,.exc _=>none
    | _,_=>some false
noncomputable def eqF (neg:Bool)(x y:D):Option D:=(eqN 100 x y).map fun b=>.bl (if neg then !b else b)
noncomputable def dB (neg:Bool)(x:D):Option D:=match x with
  | .non=>some (.bl (!neg))
  | _=>some (.bl neg)
noncomputable def minD:List D→Option D
  | [.int i,.int j]=>some (.int (if j<i then j else i))
  | _=>none
noncomputable def maxD:List D→Option D
  | [.int i,.int j]=>some (.int (if j > i then j else i))
  | _=>none
inductive Ty where
  | int | str | bool | list | tuple | dict
  deriving DecidableEq
noncomputable def g8 (t:Ty):D→Option D
  | .non=>some (.bl false)
  | .bl _=>some (.bl (t == .int || t == .bool))
  | .int _=>some (.bl (t == .int))
  | .str _=>some (.bl (t == .str))
  | .tup _=>some (.bl (t == .tuple))
  | .lst _=>some (.bl (t == .list))
  | _=>none
noncomputable def dC {α:Type}(k:List Nat):List (List Nat × α)→Option α
  | []=>none
  | (x,v)::r=>if x=k then some v else dC k r
noncomputable def uW (tb:List (List Nat × Int)):D→Option D
  | .str k=>(dC k tb).map .int
  | _=>none
noncomputable def tabIn (neg:Bool)(tb:List (List Nat × Int)):D→Option D
  | .str k=>some (.bl (if neg then !(dC k tb).isSome else (dC k tb).isSome))
  | _=>none
noncomputable def intsOf:List D→Option (List Int)
  | []=>some []
  | .int i::r=>(intsOf r).map (i::·)
  | _=>none
noncomputable def iD:List D→Option (List Bool)
  | []=>some []
  | .bl i::r=>(iD r).map (i::·)
  | _=>none
noncomputable def strsOf:List D→Option (List (List Nat))
  | []=>some []
  | .str i::r=>(strsOf r).map (i::·)
  | _=>none
noncomputable def zi:D→Option D
  | .lst ds=>(intsOf ds).bind fun is=>if is.length≤100000∧is.all (fun i=>decide (-1000000000000000000<i∧i<1000000000000000000)) then some (.int is.sum) else none
  | _=>none
noncomputable def kJ:Int→List Int→Int
  | m,[]=>m
  | m,i::r=>kJ (if i > m then i else m) r
noncomputable def nW:D→D→Option D
  | .lst ds,v=>(intsOf ds).bind fun is=>match is with
    | []=>some v
    | i::r=>some (.int (kJ i r))
  | _,_=>none
noncomputable def rE:D→Option D
  | .lst ds=>(iD ds).map fun bs=>.bl (bs.any id)
  | _=>none
noncomputable def sV:D→Option D
  | .lst ds=>(iD ds).map fun bs=>.bl (bs.all id)
  | _=>none
noncomputable def zj (sep:List Nat):List (List Nat)→List Nat
  | []=>[]
  | [x]=>x
  | x::r=>x++sep++zj sep r
noncomputable def nX:D→Option D
  | .int i=>some (.int i)
  | .bl b=>some (.int (if b then 1 else 0))
  | _=>none
end DL
end
section
namespace DL
open L2
structure Tag {α:Type}(a : α):Type where
  mk ::
noncomputable def aL {α β:Type}(a:Option α)(f : α→Option β)(_:Tag f:=Tag.mk):Option β:=a.bind f
@[simp] theorem dj {α β:Type}(a : α)(f : α→Option β):aL (some a) f=f a:=(Eq.refl _).trans (Eq.refl _)
@[simp] theorem EM {α β:Type}(f : α→Option β):aL none f=none:=(Eq.refl _).trans (Eq.refl _)
noncomputable def omap {α β:Type}(f : α→β)(a:Option α)(_:Tag f:=Tag.mk):Option β:=a.map f
@[simp] theorem Gh {α β:Type}(a : α)(f : α→β):omap f (some a)=some (f a):=(Eq.refl _).trans (Eq.refl _)
@[simp] theorem Gi {α β:Type}(f : α→β):omap f none=none:=(Eq.refl _).trans (Eq.refl _)
noncomputable def Dc:Option Slot→Option D
  | some (.val d)=>some d
  | _=>none
@[simp] theorem jR (d:D):Dc (some (.val d))=some d:=(Eq.refl _).trans (Eq.refl _)
noncomputable def wb:Option Slot→Option D
  | some (.val d)=>some d
  | some (.own ds)=>some (.lst ds)
  | some (.red ds)=>some (.lst ds)
  | _=>none
@[simp] theorem Gj (d:D):wb (some (.val d))=some d:=(Eq.refl _).trans (Eq.refl _)
@[simp] theorem Gk (d:List D):wb (some (.own d))=some (.lst d):=(Eq.refl _).trans (Eq.refl _)
@[simp] theorem Gm (d:List D):wb (some (.red d))=some (.lst d):=(Eq.refl _).trans (Eq.refl _)
noncomputable def ki:Option Slot→Option (List D)
  | some (.own ds)=>some ds
  | _=>none
@[simp] theorem Gn (d:List D):ki (some (.own d))=some d:=(Eq.refl _).trans (Eq.refl _)
noncomputable def zk (G:FS):DFl→Option DFl
  | .nx e=>G e
  | r=>some r
@[simp ↓] theorem Jh (G:FS)(e:aN):zk G (.nx e)=G e:=(Eq.refl _).trans (Eq.refl _)
@[simp ↓] theorem Ji (G:FS)(d:D)(e:aN):zk G (.rt d e)=some (.rt d e):=(Eq.refl _).trans (Eq.refl _)
@[simp ↓] theorem Jj (G:FS)(d:List D)(e:aN):zk G (.rf d e)=some (.rf d e):=(Eq.refl _).trans (Eq.refl _)
@[simp ↓] theorem Jk (G:FS)(c:Nat)(e:aN):zk G (.ex c e)=some (.ex c e):=(Eq.refl _).trans (Eq.refl _)
noncomputable def By:DFl→Option D
  | .rt d _=>some d
  | .nx _=>some .non
  | _=>none
@[simp] theorem Jl (d:D)(e:aN):By (.rt d e)=some d:=(Eq.refl _).trans (Eq.refl _)
@[simp] theorem Jm (e:aN):By (.nx e)=some .non:=(Eq.refl _).trans (Eq.refl _)
noncomputable def zm:DFl→Option (List D)
  | .rf d _=>some d
  | _=>none
@[simp] theorem HP (d:List D)(e:aN):zm (.rf d e)=some d:=(Eq.refl _).trans (Eq.refl _)
noncomputable def ifK {α:Type}(a b:Option α)(c:Bool)(_:Tag a:=Tag.mk)(_:Tag b:=Tag.mk):Option α:=if c=true then a else b
@[simp] theorem Ks {α:Type}(a b:Option α):ifK a b true=a:=(Eq.refl _).trans (Eq.refl _)
@[simp] theorem Kt {α:Type}(a b:Option α):ifK a b false=b:=(Eq.refl _).trans (Eq.refl _)
noncomputable def cH:FT:=fun _=>some true
section
variable {α β δ:Type}
@[simp] theorem uX (d:D)(env:aN):feC d env=some d:=(Eq.refl _).trans (Eq.refl _)
@[simp] theorem HQ (env:aN):cH env=some true:=(Eq.refl _).trans (Eq.refl _)
@[simp] theorem zo (F : α→Option β)(f:FP α)(env:aN):fp1 F f env=aL (f env) (F):=(Eq.refl _).trans (Eq.refl _)
@[simp] theorem rF (F : α→β→Option δ)(f:FP α)(g:FP β)(env:aN):fp2 F f g env=aL (f env) (fun x=>aL (g env) (fun y=>F x y)):=(Eq.refl _).trans (Eq.refl _)
@[simp] theorem Jn (f:FP (List D))(env:aN):cW f env=omap (.lst) (f env):=(Eq.refl _).trans (Eq.refl _)
@[simp] theorem zp (env:aN):ay env=some []:=(Eq.refl _).trans (Eq.refl _)
@[simp] theorem xk (f:FE)(g:FA)(env:aN):ah f g env=aL (f env) (fun x=>aL (g env) (fun r=>some (x::r))):=(Eq.refl _).trans (Eq.refl _)
@[simp] theorem HR (f:FA)(env:aN):cz f env=aL (f env) (fun ds=>if ds.length≤1000 then some (.tup ds) else none):=(Eq.refl _).trans (Eq.refl _)
@[simp] theorem HS (f:FA)(env:aN):gI f env=aL (f env) (fun ds=>if ds.length≤1000 then some ds else none):=(Eq.refl _).trans (Eq.refl _)
@[simp] theorem K1 (f:FE)(env:aN):ftB f env=aL (f env) (blD):=(Eq.refl _).trans (Eq.refl _)
@[simp] theorem K2 (b:Bool):blD (.bl b)=some b:=(Eq.refl _).trans (Eq.refl _)
@[simp] theorem HU (c:FT)(env:aN):fK c env=aL (c env) (fun b=>some (!b)):=(Eq.refl _).trans (Eq.refl _)
@[simp] theorem HV (c d:FT)(env:aN):kg c d env=aL (c env) (fun b=>ifK (d env) (some false) b):=(Eq.refl _).trans (Eq.refl _)
@[simp] theorem Jo (c d:FT)(env:aN):jy c d env=aL (c env) (fun b=>ifK (some true) (d env) b):=(Eq.refl _).trans (Eq.refl _)
@[simp] theorem HW (f:FE)(env:aN):sQ f env=aL (f env) (fun x=>omap (fun b=>D.bl (!b)) (blD x)):=(Eq.refl _).trans (Eq.refl _)
@[simp] theorem HX (f g:FE)(env:aN):i4 f g env=aL (f env) (fun x=>aL (blD x) (fun b=>ifK (g env) (some (.bl false)) b)):=(Eq.refl _).trans (Eq.refl _)
@[simp] theorem Jp (f g:FE)(env:aN):kx f g env=aL (f env) (fun x=>aL (blD x) (fun b=>ifK (some (.bl true)) (g env) b)):=(Eq.refl _).trans (Eq.refl _)
@[simp] theorem Jq (c:FT)(f g:FP α)(env:aN):uS c f g env=aL (c env) (fun b=>ifK (f env) (g env) b):=(Eq.refl _).trans (Eq.refl _)
@[simp] theorem Gp (n:Nat)(F:List D→Option α)(f:FA)(env:aN):aC n F f env=aL (f env) (fun ds=>if ds.length=n then F ds else none):=(Eq.refl _).trans (Eq.refl _)
@[simp] theorem Gq (env:aN):eo env=some none:=(Eq.refl _).trans (Eq.refl _)
@[simp] theorem qp (f:FE)(env:aN):cS f env=aL (f env) (EE):=(Eq.refl _).trans (Eq.refl _)
@[simp] theorem wc (i:Int):EE (.int i)=some (some i):=(Eq.refl _).trans (Eq.refl _)
@[simp] theorem we (F:D→Option Int→Option Int→Option α)(f:FE)(l h:FO)(env:aN):iK F f l h env=aL (f env) (fun x=>aL (l env) (fun lo=>aL (h env) (fun hi=>F x lo hi))):=(Eq.refl _).trans (Eq.refl _)
@[simp] theorem Jr (g:Int→Int→Option D)(i j:Int):intD g (.int i) (.int j)=g i j:=(Eq.refl _).trans (Eq.refl _)
@[simp] theorem K3 (i j:Int):ltI i j=some (.bl (decide (i<j))):=(Eq.refl _).trans (Eq.refl _)
@[simp] theorem K4 (i j:Int):leI i j=some (.bl (decide (i≤j))):=(Eq.refl _).trans (Eq.refl _)
@[simp] theorem K5 (i j:Int):gtI i j=some (.bl (decide (j<i))):=(Eq.refl _).trans (Eq.refl _)
@[simp] theorem K6 (i j:Int):geI i j=some (.bl (decide (j≤i))):=(Eq.refl _).trans (Eq.refl _)
@[simp] theorem Js (i j:Int):uV i j=some (.int (i - j)):=(Eq.refl _).trans (Eq.refl _)
@[simp] theorem mH (i j:Int):gU (.int i) (.int j)=some (.int (i+j)):=(Eq.refl _).trans (Eq.refl _)
@[simp] theorem Dd (a b:List Nat):gU (.str a) (.str b)=if a.length+b.length≤1000000 then some (.str (a++b)) else none:=(Eq.refl _).trans (Eq.refl _)
@[simp] theorem Df (a b:List D):gU (.lst a) (.lst b)=if a.length+b.length≤1000000 then some (.lst (a++b)) else none:=(Eq.refl _).trans (Eq.refl _)
@[simp] theorem Dg (x:D)(a b:List D):gU (.tup (x::a)) (.tup b)=if (x::a).length+b.length≤1000000 then some (.tup ((x::a)++b)) else none:=(Eq.refl _).trans (Eq.refl _)
@[simp] theorem Jt (a b:List D):rp (.lst a) (.lst b)=if a.length+b.length≤1000000 then some (a++b) else none:=(Eq.refl _).trans (Eq.refl _)
@[simp] theorem Ju (i:Int):K0 (.int i)=some (.int (-i)):=(Eq.refl _).trans (Eq.refl _)
@[simp] theorem Dh (ds:List D):el (.lst ds)=some (.int ds.length):=(Eq.refl _).trans (Eq.refl _)
@[simp] theorem Di (ds:List D):el (.tup ds)=some (.int ds.length):=(Eq.refl _).trans (Eq.refl _)
@[simp] theorem Dj (z:List Nat):el (.str z)=if z.length≤1000000 then some (.int z.length) else none:=(Eq.refl _).trans (Eq.refl _)
@[simp] theorem Dk (ds:List D):jZ (.lst ds)=some ds:=(Eq.refl _).trans (Eq.refl _)
@[simp] theorem Dl (ds:List D):jZ (.tup ds)=some ds:=(Eq.refl _).trans (Eq.refl _)
@[simp] theorem mI (ds:List D):lu (.lst ds)=some (.tup ds):=(Eq.refl _).trans (Eq.refl _)
@[simp] theorem Dm (ds:List D):lu (.tup ds)=some (.tup ds):=(Eq.refl _).trans (Eq.refl _)
@[simp] theorem EN (ds:List D)(i:Int):ixD (.lst ds) (.int i)=atI ds i:=(Eq.refl _).trans (Eq.refl _)
@[simp] theorem EO (ds:List D)(i:Int):ixD (.tup ds) (.int i)=atI ds i:=(Eq.refl _).trans (Eq.refl _)
@[simp] theorem ER (z:List Nat)(i:Int):ixD (.str z) (.int i)=if z.length≤1000000 then omap (fun c=>.str [c]) (atI z i) else none:=(Eq.refl _).trans (Eq.refl _)
@[simp] theorem nY (ds:List D)(lo hi:Option Int):slD (.lst ds) lo hi=some (.lst (cutD ds lo hi)):=(Eq.refl _).trans (Eq.refl _)
@[simp] theorem ES (ds:List D)(lo hi:Option Int):slF (.lst ds) lo hi=some (cutD ds lo hi):=(Eq.refl _).trans (Eq.refl _)
@[simp] theorem ET (z:List Nat)(lo hi:Option Int):slD (.str z) lo hi=if z.length≤1000000 then some (.str (cutD z lo hi)) else none:=(Eq.refl _).trans (Eq.refl _)
@[simp] theorem EU (ds:List D)(lo hi:Option Int):slD (.tup ds) lo hi=if HT.sIx ds.length 0 lo=0∧HT.sIx ds.length ds.length hi=ds.length then none else some (.tup (cutD ds lo hi)):=(Eq.refl _).trans (Eq.refl _)
@[simp] theorem K7 (neg:Bool)(x y:D):eqF neg x y=omap (fun b=>.bl (if neg then !b else b)) (eqN 100 x y):=(Eq.refl _).trans (Eq.refl _)
@[simp] theorem uY (n:Nat)(i j:Int):eqN (n+1) (.int i) (.int j)=some (i == j):=(Eq.refl _).trans (Eq.refl _)
@[simp] theorem uZ (n:Nat)(i j:List Nat):eqN (n+1) (.str i) (.str j)=some (i == j):=(Eq.refl _).trans (Eq.refl _)
@[simp] theorem xl (n:Nat)(i j:Bool):eqN (n+1) (.bl i) (.bl j)=some (i == j):=(Eq.refl _).trans (Eq.refl _)
@[simp] theorem Gr (i j:Int):eqN 100 (.int i) (.int j)=some (i == j):=uY 99 i j
@[simp] theorem Gs (i j:List Nat):eqN 100 (.str i) (.str j)=some (i == j):=uZ 99 i j
@[simp] theorem HY (i j:Bool):eqN 100 (.bl i) (.bl j)=some (i == j):=xl 99 i j
@[simp] theorem Bz (neg:Bool):dB neg .non=some (.bl (!neg)):=(Eq.refl _).trans (Eq.refl _)
@[simp] theorem BA (neg:Bool)(ds:List D):dB neg (.tup ds)=some (.bl neg):=(Eq.refl _).trans (Eq.refl _)
@[simp] theorem BC (neg:Bool)(ds:List D):dB neg (.lst ds)=some (.bl neg):=(Eq.refl _).trans (Eq.refl _)
@[simp] theorem BD (neg:Bool)(i:Int):dB neg (.int i)=some (.bl neg):=(Eq.refl _).trans (Eq.refl _)
@[simp] theorem BE (neg:Bool)(i:List Nat):dB neg (.str i)=some (.bl neg):=(Eq.refl _).trans (Eq.refl _)
@[simp] theorem Jv (i j:Int):minD [.int i,.int j]=some (.int (if j<i then j else i)):=(Eq.refl _).trans (Eq.refl _)
@[simp] theorem Jw (i j:Int):maxD [.int i,.int j]=some (.int (if j > i then j else i)):=(Eq.refl _).trans (Eq.refl _)
@[simp] theorem BF (t:Ty)(i:Int):g8 t (.int i)=some (.bl (t == .int)):=(Eq.refl _).trans (Eq.refl _)
@[simp] theorem Dn (t:Ty)(i:Bool):g8 t (.bl i)=some (.bl (t == .int || t == .bool)):=(Eq.refl _).trans (Eq.refl _)
@[simp] theorem BG (t:Ty)(i:List Nat):g8 t (.str i)=some (.bl (t == .str)):=(Eq.refl _).trans (Eq.refl _)
@[simp] theorem BH (t:Ty)(i:List D):g8 t (.tup i)=some (.bl (t == .tuple)):=(Eq.refl _).trans (Eq.refl _)
@[simp] theorem BI (t:Ty)(i:List D):g8 t (.lst i)=some (.bl (t == .list)):=(Eq.refl _).trans (Eq.refl _)
@[simp] theorem BJ (t:Ty):g8 t .non=some (.bl false):=(Eq.refl _).trans (Eq.refl _)
@[simp] theorem Jx (tb:List (List Nat × Int))(k:List Nat):uW tb (.str k)=omap (.int) (dC k tb):=(Eq.refl _).trans (Eq.refl _)
@[simp] theorem HZ (neg:Bool)(tb:List (List Nat × Int))(k:List Nat):tabIn neg tb (.str k)=some (.bl (if neg then !(dC k tb).isSome else (dC k tb).isSome)):=(Eq.refl _).trans (Eq.refl _)
@[simp] theorem jS (i:Nat)(env:aN):ae i env=Dc env[i]?:=(Eq.refl _).trans (Eq.refl _)
@[simp] theorem Gu (i:Nat)(env:aN):lW i env=wb env[i]?:=(Eq.refl _).trans (Eq.refl _)
@[simp] theorem Ia (F G:FS)(env:aN):aA F G env=aL (F env) (zk G):=(Eq.refl _).trans (Eq.refl _)
@[simp] theorem Gv (env:aN):aP env=some (.nx env):=(Eq.refl _).trans (Eq.refl _)
@[simp] theorem Jy (c:FT)(F G:FS)(env:aN):bN c F G env=aL (c env) (fun b=>ifK (F env) (G env) b):=(Eq.refl _).trans (Eq.refl _)
@[simp] theorem Ib (f:FE)(env:aN):aK f env=omap (fun d=>.rt d env) (f env):=(Eq.refl _).trans (Eq.refl _)
@[simp] theorem Gw (f:FP (List D))(env:aN):i6 f env=omap (fun d=>.rf d env) (f env):=(Eq.refl _).trans (Eq.refl _)
@[simp] theorem Gx (i:Nat)(env:aN):lZ i env=omap (fun ds=>.rf ds env) (ki env[i]?):=by
  unfold lZ
  cases env[i]? with
  | none=>rfl
  | some s=>cases s <;> rfl
@[simp] theorem Gy (env:aN):EH env=some (.rt .non env):=(Eq.refl _).trans (Eq.refl _)
@[simp] theorem Ic (i:Nat)(f:FE)(env:aN):bh i f env=omap (fun d=>.nx (env.set i (.val d))) (f env):=(Eq.refl _).trans (Eq.refl _)
@[simp] theorem Ie (i:Nat)(f:FP (List D))(env:aN):nN i f env=omap (fun d=>.nx (env.set i (.own d))) (f env):=(Eq.refl _).trans (Eq.refl _)
@[simp] theorem Ig (i:Nat)(F:FS)(env:aN):qj i F env=aL (ki env[i]?) fun ds=>F (env.set i (.val (.lst ds))):=by
  unfold qj
  cases env[i]? with
  | none=>rfl
  | some s=>cases s <;> rfl
@[simp] theorem EV (env:aN):Bo env=some (.bk env):=(Eq.refl _).trans (Eq.refl _)
@[simp] theorem Gz (env:aN):EI env=some (.ct env):=(Eq.refl _).trans (Eq.refl _)
@[simp] theorem Ih (i:Nat)(F:D→D→Option D)(f:FE)(env:aN):sR i F f env=aL (ae i env) (fun x=>aL (f env) (fun y=>omap (fun d=>.nx (env.set i (.val d))) (F x y))):=(Eq.refl _).trans (Eq.refl _)
@[simp] theorem Ii (tg:FG)(fi:FE)(body:FS)(env:aN):jA tg fi body env=aL (fi env) (fun x=>aL (jZ x) (fun ds=>runFor tg body ds env)):=(Eq.refl _).trans (Eq.refl _)
@[simp] theorem GA (R:List D→Option (List D))(tg:FG)(f:FA)(body:FS)(env:aN):m6 R tg f body env=aL (f env) (fun ds=>aL (R ds) (fun xs=>runFor tg body xs env)):=(Eq.refl _).trans (Eq.refl _)
@[simp] theorem GB (tg:FG)(fi:FE)(body:FS)(env:aN):EL tg fi body env=aL (fi env) (fun x=>aL (rA x) (fun ds=>runFor tg body ds env)):=(Eq.refl _).trans (Eq.refl _)
@[simp] theorem GC (nt:Nat)(cap:List Nat)(tg:FG)(fi:FE)(ft:FT)(fe:FE)(env:aN):dt nt cap tg fi ft fe env=aL (fi env) (fun x=>aL (jZ x) (fun ds=>if ds.length≤1000000 then aT tg ft fe (dm nt cap env) ds else none)):=(Eq.refl _).trans (Eq.refl _)
@[simp] theorem EW (R:List D→Option (List D))(nt:Nat)(cap:List Nat)(tg:FG)(f:FA)(ft:FT)(fe:FE)(env:aN):gC R nt cap tg f ft fe env=aL (f env) (fun x=>aL (R x) (fun ds=>if ds.length≤1000000 then aT tg ft fe (dm nt cap env) ds else none)):=(Eq.refl _).trans (Eq.refl _)
@[simp] theorem EX (nt:Nat)(cap:List Nat)(tg:FG)(fi:FE)(ft:FT)(fe:FE)(env:aN):ja nt cap tg fi ft fe env=aL (fi env) (fun x=>aL (rA x) (fun ds=>if ds.length≤1000000 then aT tg ft fe (dm nt cap env) ds else none)):=(Eq.refl _).trans (Eq.refl _)
@[simp] theorem GD (i:Nat)(d:D)(env:aN):aJ i d env=some (env.set i (.val d)):=(Eq.refl _).trans (Eq.refl _)
@[simp] theorem AQ (tg:FG)(body:FS)(env:aN):runFor tg body [] env=some (.nx env):=(Eq.refl _).trans (Eq.refl _)
theorem ak (N:Nat)(F:FS)(ds:List D):bG N F ds=aL (F (envOf N ds)) By:=(Eq.refl _).trans (Eq.refl _)
theorem br (N:Nat)(F:FS)(ds:List D):kz N F ds=aL (F (envOf N ds)) zm:=(Eq.refl _).trans (Eq.refl _)
end
theorem nZ {tg:FG}{body:FS}(P:List D→aN→Prop) : ∀ (items:List D) {env:aN},P items env→(∀ d ds env,P (d::ds) env→∃ env1 env',tg d env=some env1∧body env1=some (.nx env')∧P ds env')→∃ env',runFor tg body items env=some (.nx env')∧P [] env'
  | [],env,p,_=>⟨env,rfl,p⟩
  | d::ds,env,p,h=>by
    obtain ⟨env1,env',h1,h2,h3⟩:=h d ds env p
    obtain ⟨e2,h4,h5⟩:=nZ P ds h3 h
    refine ⟨e2, ?_,h5⟩
    unfold runFor
    rw [h1]; dsimp only [Option.bind_some]; rw [h2]; exact h4
theorem iN {α:Type}(xs:List α)(k:Nat):atI xs (k:Int)=xs[k]?:=by
  unfold atI ixN
  rw [if_pos (by omega)]
  by_cases h:k<xs.length
  · rw [if_pos (by omega)]; simp
  · rw [if_neg (by omega),List.getElem?_eq_none (by omega)]; rfl
@[simp] theorem Ij {α:Type}(xs:List α):atI xs 0=xs[0]?:=iN xs 0
@[simp] theorem Ku {α:Type}(xs:List α):atI xs 1=xs[1]?:=iN xs 1
@[simp] theorem Kv {α:Type}(xs:List α):atI xs 2=xs[2]?:=iN xs 2
@[simp] theorem Kw {α:Type}(xs:List α):atI xs 3=xs[3]?:=iN xs 3
theorem n0 (n d k:Nat):HT.sIx n d (some (k:Int))=min k n:=by
  show (if (k:Int)<0 then ((k:Int)+(n:Int)).toNat else min (k:Int).toNat n)=min k n
  rw [if_neg (by omega)]; rfl
theorem rG {α:Type}(xs:List α)(i j:Nat):cutD xs (some (i:Int)) (some (j:Int))=(xs.drop i).take (j - i):=by
  unfold cutD
  rw [n0,n0]
  by_cases h:i≤xs.length
  · rw [Nat.min_eq_left h]
    by_cases h2:j≤xs.length
    · rw [Nat.min_eq_left h2]
    · rw [Nat.min_eq_right (by omega)]
      rw [List.take_of_length_le (by simp),List.take_of_length_le (by simp; omega)]
  · rw [Nat.min_eq_right (show xs.length≤i by omega),List.drop_of_length_le (Nat.le_refl _),List.drop_of_length_le (show xs.length≤i by omega)]
    simp
theorem ma {α:Type}(xs:List α)(j:Nat):cutD xs none (some (j:Int))=xs.take j:=by
  unfold cutD
  rw [n0,show HT.sIx xs.length 0 none=0 from rfl,List.drop_zero,Nat.sub_zero]
  by_cases h:j≤xs.length
  · rw [Nat.min_eq_left h]
  · rw [Nat.min_eq_right (by omega),List.take_of_length_le (Nat.le_refl _),List.take_of_length_le (by omega)]
theorem jB {α:Type}(xs:List α)(i:Nat):cutD xs (some (i:Int)) none=xs.drop i:=by
  unfold cutD
  rw [n0,show HT.sIx xs.length xs.length none=xs.length from rfl]
  by_cases h:i≤xs.length
  · rw [Nat.min_eq_left h,List.take_of_length_le (by simp)]
  · rw [Nat.min_eq_right (by omega),List.drop_of_length_le (Nat.le_refl _),List.drop_of_length_le (by omega)]; simp
end DL
namespace DL
theorem fE (a:Int)(m:Nat)(hm : 0<m) : ∃ k:Nat,a % (m:Int)=k∧k<m:=by
  have h1 : 0≤a % (m:Int):=Int.emod_nonneg _ (by omega)
  have h2:a % (m:Int)<m:=Int.emod_lt_of_pos _ (by omega)
  exact ⟨(a % (m:Int)).toNat,by omega,by omega⟩
end DL
namespace DL
open L2
theorem rH {i:Int}{n:Nat}(h:i=n)(hn:n<1000000000):ka [.int i]=some (dA 0 n):=by
  subst h
  have c : -1000000000<(n:Int)∧(n:Int)<1000000000:=by omega
  have e:ka [.int (n:Int)]=if -1000000000<(n:Int)∧(n:Int)<1000000000 then some (dA 0 (n:Int).toNat) else none:=rfl
  rw [e,if_pos c,Int.toNat_natCast]
theorem i9 (i j:Int)(h : -18446744073709551616<j∧j<18446744073709551616):nV (.int i) (.int j)=some (.int (i * j)):=if_pos (Or.inr h)
theorem xm (i j:Int)(h : -18446744073709551616<i∧i<18446744073709551616):nV (.int i) (.int j)=some (.int (i * j)):=if_pos (Or.inl h)
theorem du (i j:Int)(h : 0<j):g0 i j=some (.int (i % j)):=if_pos h
theorem gu (i j:Int)(h : 0<j∧j<1073741824):i8 i j=some (.int (i / j)):=if_pos h
theorem wg (i j:Int)(h : 0≤j∧j≤1000000∧i.natAbs<18446744073709551616):xj i j=some (.int (i ^ j.toNat)):=if_pos h
end DL
namespace DL
open L2
@[simp] theorem EY (neg:Bool)(x:D)(ds:List D):inD neg x (.tup ds)=if dZ x && ds.all dZ then some (.bl (if neg then !lY x ds else lY x ds)) else none:=by
  unfold inD; split <;> simp_all
@[simp] theorem EZ (neg:Bool)(x:D)(ds:List D):inD neg x (.lst ds)=if dZ x && ds.all dZ then some (.bl (if neg then !lY x ds else lY x ds)) else none:=by
  unfold inD; split <;> simp_all
@[simp] theorem F0 (z:List Nat):dZ (.str z)=true:=rfl
@[simp] theorem Fb (z:Int):dZ (.int z)=true:=rfl
@[simp] theorem GF (z:Bool):dZ (.bl z)=true:=rfl
@[simp] theorem Fc:dZ .non=true:=rfl
@[simp] theorem Ik (x:D):lY x []=false:=rfl
@[simp] theorem GG (x y:D)(ds:List D):lY x (y::ds)=(yS y x || lY x ds):=rfl
@[simp] theorem Il (a b:List Nat):yS (.str a) (.str b)=(a == b):=rfl
@[simp] theorem Im (a b:Int):yS (.int a) (.int b)=(a == b):=rfl
end DL
namespace DL
@[simp] theorem Io {α:Type}(a:Option α)(b:Bool):ifK a a b=a:=by cases b <;> rfl
end DL
end
section
namespace DL
open PySem PySem.Spec PyProof.Rows L2
structure Ct where
  cl:Nat→Option Addr
  fld:Nat→Str
noncomputable abbrev tx (X:Cx)(c:Ct):Tx:=⟨X.K,c.cl,c.fld⟩
section
variable {X:Cx}
theorem PE.imp {e:Expr}{t t':TE}(h:PE X e t)(w : ∀ σ H Q,t' σ H Q→t σ H Q):PE X e t':=fun pins s σ H Q I q=>h pins s σ H Q I (w σ H Q q)
theorem PT.imp {e:Expr}{t t':TT}(h:PT X e t)(w : ∀ σ H Q,t' σ H Q→t σ H Q):PT X e t':=fun pins s σ H Q I q=>h pins s σ H Q I (w σ H Q q)
theorem PW.imp {e:Expr}{t t':TT}(h:PW X e t)(w : ∀ σ H Q,t' σ H Q→t σ H Q):PW X e t':=fun wh pins s σ H Q I q=>h wh pins s σ H Q I (w σ H Q q)
theorem PA.imp {es:List Expr}{t t':TA}(h:PA X es t)(w : ∀ σ H Q,t' σ H Q→t σ H Q):PA X es t':=fun po pins s σ H Q I q=>h po pins s σ H Q I (w σ H Q q)
theorem PS.imp {st:Stmt}{t t':TS}(h:PS X st t)(w : ∀ De σ H,t' De σ H→t De σ H):PS X st t':=fun pins s σ H De I q=>h pins s σ H De I (w De σ H q)
theorem PSs.imp {st:List Stmt}{t t':TS}(h:PSs X st t)(w : ∀ De σ H,t' De σ H→t De σ H):PSs X st t':=fun pins s σ H De I q=>h pins s σ H De I (w De σ H q)
theorem PO.imp {o:Option Expr}{t t':TO}(h:PO X o t)(w : ∀ σ H Q,t' σ H Q→t σ H Q):PO X o t':=fun pins s σ H Q I q=>h pins s σ H Q I (w σ H Q q)
theorem jr.imp {es:List Expr}{t t':TT}(h:jr X es t)(w : ∀ σ H Q,t' σ H Q→t σ H Q):jr X es t':=fun pins s σ H Q I q=>h pins s σ H Q I (w σ H Q q)
end
noncomputable abbrev PD (X:Cx)(c:Ct)(e:Expr)(f:FE):Prop:=PE X e (tP (tx X c) (kD (tx X c)) f)
noncomputable abbrev PR (X:Cx)(c:Ct)(e:Expr)(f:FE):Prop:=PE X e (tP (tx X c) (kR (tx X c)) f)
noncomputable abbrev PF (X:Cx)(c:Ct)(e:Expr)(f:FP (List D)):Prop:=PE X e (tP (tx X c) (kF (tx X c)) f)
noncomputable abbrev PDT (X:Cx)(c:Ct)(e:Expr)(f:FT):Prop:=PT X e (tP (tx X c) kB f)
noncomputable abbrev PDW (X:Cx)(c:Ct)(e:Expr)(f:FT):Prop:=PW X e (tP (tx X c) kB f)
noncomputable abbrev PDA (X:Cx)(c:Ct)(es:List Expr)(f:FA):Prop:=PA X es (tP (tx X c) (kA (tx X c)) f)
noncomputable abbrev PDO (X:Cx)(c:Ct)(o:Option Expr)(f:FO):Prop:=PO X o (tP (tx X c) kO f)
noncomputable abbrev PDS (X:Cx)(c:Ct)(x:XQ)(st:Stmt)(F:FS):Prop:=PS X st (tDs (tx X c) x F)
noncomputable abbrev md (X:Cx)(c:Ct)(x:XQ)(st:List Stmt)(F:FS):Prop:=PSs X st (tDs (tx X c) x F)
structure Nm (X:Cx)(i:Nat)(x:Str):Prop where
  hN:X.N[i]?=some x
  hv:Vis X.env.scope x
  hd:(x == ("__debug__":Str))=false
  hc:(x == ("__classdict__":Str))=false
structure Nl (X:Cx)(i:Nat)(x:Str):Prop where
  nd:X.N.Nodup
  hN:X.N[i]?=some x
  hl:Loc X.env.scope x
  hf:X.fn x=true∨X.env.scope.names.lookup x=some .local
section
variable {X:Cx}{c:Ct}{xq:XQ}{a b e:Expr}{f g:FE}{pos:Pos}
theorem aa {i:Nat}{x:Str}(n:Nm X i x):PD X c (.Name x pos) (ae i):=PE.imp (ku n.hN n.hv n.hd n.hc) fun _ _ _ h=>Bc h
theorem wj {i:Nat}{x:Str}(n:Nm X i x):PR X c (.Name x pos) (lW i):=PE.imp (ku n.hN n.hv n.hd n.hc) fun _ _ _ h=>Bd h
theorem ag (h:PD X c e f):PR X c e f:=PE.imp h fun _ _ _ h=>Bb (fun _ _ _ _ _ r=>aE.of r) h
theorem bZ {ff:FP (List D)}(h:PF X c e ff):PD X c e (cW ff):=PE.imp h fun _ _ _ h=>D8 h
theorem ao {i:Int}{j}:PD X c (.Constant (.int i) j pos) (feC (.int i)):=PE.imp yj fun _ _ _ h=>yP (fun _ _=>.int _) h
theorem aQ {x:Str}{z:List Nat}{j}(hx:x=mkS z):PD X c (.Constant (.str x) j pos) (feC (.str z)):=by
  subst hx
  exact PE.imp yk fun _ _ _ h=>yP (fun _ _=>.str _) h
theorem iO {i:Bool}{j}:PD X c (.Constant (.bool i) j pos) (feC (.bl i)):=PE.imp Hc fun _ _ _ h=>yP (fun _ _=>.bl _) h
theorem rJ {j}:PD X c (.Constant .none j pos) (feC .non):=PE.imp DT fun _ _ _ h=>yP (fun _ _=>.non) h
structure Gc (X:Cx)(c:Ct)(x:Str)(d:D):Prop where
  ex : ∃ v u,X.mg x=some u∧RelV v u∧∀ A H,Rep (tx X c) A H d v
theorem fF {x:Str}{d:D}(G:Gc X c x d)(hg:Gl X x)(hd:(x == ("__debug__":Str))=false:=by decide):PD X c (.Name x pos) (feC d):=by
  obtain ⟨v,u,hm,hr,hv⟩:=G.ex
  exact PE.imp (qY hg hm hr hd) fun _ _ _ h=>yP hv h
theorem BK:OpR X (binaryOp .Add) (D9 X.K):=by
  intro pins s σ H x y v u Q I rx ry h
  obtain ⟨l,b,xs,zs,rfl,rfl,hH,hB,hz,q⟩:=h
  cases rx
  cases ry
  obtain ⟨its,r,p,z⟩:=I.list hH
  obtain ⟨its2,r2,p2,z2⟩:=I.list hB
  have hl:=r.length
  have hl2:=r2.length
  obtain ⟨⟨cls,dd,data,sl⟩,n,ho,hc,hdd,hd⟩:=p
  obtain ⟨⟨cls2,dd2,data2,sl2⟩,n2,ho2,hc2,hdd2,hd2⟩:=p2
  simp only at hc hd hc2 hd2
  subst hc hd hc2 hd2
  refine concat_meets ⟨_,ho,rfl⟩ ⟨_,ho2,rfl⟩ noFill_list_add seq_list_add PySem.F.slot_list_add PySem.F.entry_list_add (PySem.F.args_list_add_2 _ _) (list_addW l b its.toArray its2.toArray n n2 dd dd2 sl sl2 (by rw [List.size_toArray,List.size_toArray]; omega)) ⟨ho,ho2, ?_⟩
  have ea:its.toArray++its2.toArray=(its++its2).toArray:=by simp
  rw [ea]
  exact ⟨.ref _,_,I.JV (t':=s.toks) (r.append r2) (by rw [List.length_append]; omega),rfl,q _ I.fresh⟩
theorem wk:OpR X (binaryOp .Add) (yQ X.K):=E8.or (uO.or (BK.or vW))
theorem e7 (ha:PR X c a f)(hb:PR X c b g):PD X c (.BinOp a .Add b pos) (fp2 gU f g):=PE.imp (mE wk ha hb) fun _ _ _ h=>nI (ρ:=kR (tx X c)) (ρ2:=kR (tx X c)) Bi h
theorem o5 (ha:PR X c a f)(hb:PR X c b g):PF X c (.BinOp a .Add b pos) (fp2 rp f g):=PE.imp (mE wk ha hb) fun _ _ _ h=>nI (ρ:=kR (tx X c)) (ρ2:=kR (tx X c)) yR h
theorem o6 (ha:PD X c a f)(hb:PD X c b g):PD X c (.BinOp a .Sub b pos) (fp2 (intD uV) f g):=PE.imp (mE E9 ha hb) fun _ _ _ h=>nI (ρ:=kD (tx X c)) (ρ2:=kD (tx X c)) (i5 (g:=fun i j=>.int (i - j)) fun _ _=>rfl) h
theorem gD (ha:PD X c a f)(hb:PD X c b g):PD X c (.BinOp a .FloorDiv b pos) (fp2 (intD i8) f g) :=
  PE.imp (mE B1 ha hb) fun _ _ _ h=>nI (ρ:=kD (tx X c)) (ρ2:=kD (tx X c)) (mY (g:=i8) fun i j d e=>by
    unfold i8 at e
    by_cases c : 0<j∧j<1073741824
    · rw [if_pos c] at e; cases e; exact ⟨c,rfl⟩
    · rw [if_neg c] at e; cases e) h
theorem e8 (ha:PD X c a f)(hb:PD X c b g):PD X c (.BinOp a .Mod b pos) (fp2 (intD g0) f g) :=
  PE.imp (mE Eb ha hb) fun _ _ _ h=>nI (ρ:=kD (tx X c)) (ρ2:=kD (tx X c)) (mY (g:=g0) fun i j d e=>by
    unfold g0 at e
    by_cases c : 0<j
    · rw [if_pos c] at e; cases e; exact ⟨c,rfl⟩
    · rw [if_neg c] at e; cases e) h
theorem zq (ha:PD X c a f)(hb:PD X c b g):PD X c (.BinOp a .Pow b pos) (fp2 (intD xj) f g) :=
  PE.imp (mE Ed ha hb) fun _ _ _ h=>nI (ρ:=kD (tx X c)) (ρ2:=kD (tx X c)) (mY (g:=xj) fun i j d e=>by
    unfold xj at e
    by_cases c : 0≤j∧j≤1000000∧i.natAbs<18446744073709551616
    · rw [if_pos c] at e; cases e; exact ⟨c,rfl⟩
    · rw [if_neg c] at e; cases e) h
noncomputable def Dp:R2:=fun x y H Q=>∃ (z:List Nat) (k:Int),x=.str (mkS z)∧y=.int k∧z.length≤16∧-1000000000000000000≤k∧k≤1000000∧Q (.str (mkS (List.replicate k.toNat z).flatten)) H
theorem qq (z:List Nat) : ∀ (k:Nat) (acc:List Nat),List.foldl (fun x1 x2=>x1++x2) acc.toArray (List.replicate k z.toArray)=(acc++(List.replicate k z).flatten).toArray
  | 0,acc=>by simp
  | k+1,acc=>by
    have e:acc.toArray++z.toArray=(acc++z).toArray:=by simp
    have e2:(acc++z)++(List.replicate k z).flatten=acc++(List.replicate (k+1) z).flatten:=by rw [List.replicate_succ,List.flatten_cons,List.append_assoc]
    rw [← e2, ← qq z k (acc++z), ← e,List.replicate_succ,List.foldl_cons]
theorem mul_list (z:List Nat)(k:Int):Txt.mul (mkS z) k=mkS (List.replicate k.toNat z).flatten:=by
  unfold Txt.mul
  by_cases h:k<1
  · rw [if_pos h,show k.toNat=0 by omega]; rfl
  · rw [if_neg h]
    by_cases h2:(k == 1 || (mkS z).length == 0)=true
    · rw [if_pos h2]
      rw [Bool.or_eq_true] at h2
      rcases h2 with h2 | h2
      · have:k=1:=by simpa using h2
        subst this
        simp
      · have hz:z=[]:=by simpa [gZ] using h2
        subst hz
        simp
    · rw [if_neg h2]
      have:=qq z k.toNat []
      rw [List.nil_append] at this
      exact congrArg Str.mk this
theorem BL:OpR X (binaryOp .Mult) Dp:=by
  intro pins s σ H x y v u Q I rx ry h
  obtain ⟨z,k,rfl,rfl,h1,h2,h3,q⟩:=h
  obtain ⟨t,rfl⟩:=rx
  obtain ⟨t',rfl⟩:=ry
  rw [← mul_list] at q
  exact SB.mul (mulOk_of 16 1048576 (by rw [gZ]; exact h1) (by omega) (by omega) (by decide) (by decide)) fun t' k=>⟨.str _,H,I.tok _,⟨_,rfl⟩,q⟩
theorem BM {T:Tx}(A:Addr→Prop)(H0 H:Hp)(x y:D)(v u:V)(d:D)(Q:VK)(nw:Nw A H)(rx:kR T A H0 H x v)(ry:kD T A H0 H y u)(e:nV x y=some d)
    (k : ∀ w H',aG H H'→kD T A H H' d w→Q w H'):rI yw (fun i j=>.int (i * j)) v u H Q∨Dp v u H Q:=by
  unfold nV at e
  split at e
  · rename_i i j
    cases aE.dz rx; cases Rep.dz ry
    by_cases c:(-18446744073709551616<i∧i<18446744073709551616)∨(-18446744073709551616<j∧j<18446744073709551616)
    · rw [if_pos c] at e; cases e
      exact .inl ⟨i,j,rfl,rfl,by unfold yw; omega,k _ H (aG.refl _) (Rep.int _)⟩
    · rw [if_neg c] at e; cases e
  · rename_i z n
    cases aE.gr rx; cases Rep.dz ry
    by_cases c:z.length≤16∧-1000000000000000000≤n∧n≤1000000
    · rw [if_pos c] at e; cases e
      exact .inr ⟨z,n,rfl,rfl,c.1,c.2.1,c.2.2,k _ H (aG.refl _) (Rep.str _)⟩
    · rw [if_neg c] at e; cases e
  · cases e
theorem me (ha:PR X c a f)(hb:PD X c b g):PD X c (.BinOp a .Mult b pos) (fp2 nV f g):=PE.imp (mE (Ea.or BL) ha hb) fun _ _ _ h=>nI (ρ:=kR (tx X c)) (ρ2:=kD (tx X c)) BM h
theorem o7 {ρ ρ2:RK D V}[Kd ρ][Kd ρ2]{op:CmpOp}{r:R2}{F:D→D→Option D}(ho:OpR X (compareOp op) r)
    (snd : ∀ (A:Addr→Prop) (H0 H:Hp) (x y:D) (v u:V) (d:D) (Q:VK),Nw A H→ρ A H0 H x v→ρ2 A H0 H y u→F x y=some d→(∀ w H',aG H H'→kD (tx X c) A H H' d w→Q w H')→r v u H Q)
    (ha:PE X a (tP (tx X c) ρ f)) (hb:PE X b (tP (tx X c) ρ2 g)) (hm:behindInMarks op b=false):PD X c (.Compare a [op] [b] pos) (fp2 F f g):=PE.imp (B2 ho ha hb hm) fun _ _ _ h=>nI (ρ:=ρ) (ρ2:=ρ2) snd h
theorem jb {ρ ρ2:RK D V}[Kd ρ][Kd ρ2]{op:CmpOp}{r:R2}{F:D→D→Option D}(ho:OpR X (compareOp op) r)
    (snd : ∀ (A:Addr→Prop) (H0 H:Hp) (x y:D) (v u:V) (d:D) (Q:VK),Nw A H→ρ A H0 H x v→ρ2 A H0 H y u→F x y=some d→(∀ w H',aG H H'→kD (tx X c) A H H' d w→Q w H')→r v u H Q)
    (ha:PE X a (tP (tx X c) ρ f)) (hb:PE X b (tP (tx X c) ρ2 g)) (hm:behindInMarks op b=false):PDT X c (.Compare a [op] [b] pos) (ftB (fp2 F f g)):=PT.imp (B3 ho ha hb hm) fun _ _ _ h=>nI (ρ:=ρ) (ρ2:=ρ2) (ρ3:=kD (tx X c)) snd (mX h)
theorem Ip (ha:PD X c a f)(hb:PD X c b g):PD X c (.Compare a [.Lt] [b] pos) (fp2 (intD ltI) f g):=o7 yy (i5 (g:=fun i j=>.bl (decide (i<j))) fun _ _=>rfl) ha hb (iJ _)
theorem kK (ha:PD X c a f)(hb:PD X c b g):PDT X c (.Compare a [.Lt] [b] pos) (ftB (fp2 (intD ltI) f g)):=jb yy (i5 (g:=fun i j=>.bl (decide (i<j))) fun _ _=>rfl) ha hb (iJ _)
theorem Dq (ha:PD X c a f)(hb:PD X c b g):PD X c (.Compare a [.LtE] [b] pos) (fp2 (intD leI) f g):=o7 yz (i5 (g:=fun i j=>.bl (decide (i≤j))) fun _ _=>rfl) ha hb (iJ _)
theorem zt (ha:PD X c a f)(hb:PD X c b g):PDT X c (.Compare a [.LtE] [b] pos) (ftB (fp2 (intD leI) f g)):=jb yz (i5 (g:=fun i j=>.bl (decide (i≤j))) fun _ _=>rfl) ha hb (iJ _)
theorem Fd (ha:PD X c a f)(hb:PD X c b g):PDT X c (.Compare a [.Gt] [b] pos) (ftB (fp2 (intD gtI) f g)):=jb D1 (i5 (g:=fun i j=>.bl (decide (j<i))) fun _ _=>rfl) ha hb (iJ _)
theorem Fe (ha:PD X c a f)(hb:PD X c b g):PDT X c (.Compare a [.GtE] [b] pos) (ftB (fp2 (intD geI) f g)):=jb D2 (i5 (g:=fun i j=>.bl (decide (j≤i))) fun _ _=>rfl) ha hb (iJ _)
theorem Ff (neg:Bool):OpR X (compareOp (if neg then .NotIn else .In)) (fun x y H Q=>∃ (k:Nat) (j:List Nat),x=.str (mkS [k])∧y=.str (mkS j)∧Q (.bl (if neg then !(j.contains k) else j.contains k)) H):=by
  intro pins s σ H x y v u Q I rx ry h
  obtain ⟨k,j,rfl,rfl,q⟩:=h
  have hc:j.contains k=!(Builtin.Str.occurrences (mkS j) (mkS [k]) 0 (mkS j).length 1).isEmpty:=by
    have:=PySem.StrLaws.found_one (mkS j) k
    rw [this,Bool.eq_iff_iff]
    simp
  rw [hc] at q
  cases neg with
  | false=>exact wW pins s σ H _ _ v u Q I rx ry ⟨_,_,rfl,rfl,q⟩
  | true=>exact r6 pins s σ H _ _ v u Q I rx ry ⟨_,_,rfl,rfl,q⟩
theorem zu:OpR X (compareOp .In) (HK X.K false):=OpR.or (Ff false) x6
theorem Dr (ha:PD X c a f)(hb:PR X c b g)(hm:lz b=true:=by rfl):PD X c (.Compare a [.In] [b] pos) (fp2 (inD false) f g):=o7 zu (yU false) ha hb (sU hm)
theorem kL (ha:PD X c a f)(hb:PR X c b g)(hm:lz b=true:=by rfl):PDT X c (.Compare a [.In] [b] pos) (ftB (fp2 (inD false) f g)):=jb zu (yU false) ha hb (sU hm)
end
end DL
end
section
namespace DL
open PySem PySem.Spec PyProof.Rows L2
section
variable {X:Cx}{c:Ct}{xq:XQ}{a b e:Expr}{f g:FE}{pos:Pos}
theorem bc (ha:PR X c a f)(hb:PD X c b g)(hs:uU b=true:=by rfl):PD X c (.Subscript a b pos) (fp2 ixD f g):=PE.imp (Hw Em ha hb (nU hs)) fun _ _ _ h=>nI (ρ:=kR (tx X c)) (ρ2:=kD (tx X c)) EC h
theorem cZ:PDO X c none eo:=PO.imp B6 fun _ _ _ h=>yV h
theorem bU (h:PD X c e f):PDO X c (some e) (cS f):=PO.imp (B7 h) fun _ _ _ h=>yW h
theorem ar:PDA X c [] ay:=PA.imp nF fun _ _ _ h=>Eu h
theorem af {es:List Expr}{fs:FA}(ha:PD X c e f)(hr:PDA X c es fs)(hs:isStar e=false:=by rfl):PDA X c (e::es) (ah f fs):=PA.imp (j7 ha hr (bq hs)) fun _ _ _ h=>Be h
theorem bJ {es:List Expr}{fs:FA}{x1}(h:PDA X c es fs):PD X c (.Tuple es x1 pos) (cz fs):=PE.imp (Ee h) fun _ _ _ h=>Ex h
theorem g9 {es:List Expr}{fs:FA}(h:PDA X c es fs):PF X c (.List es pos) (gI fs):=PE.imp (Ef h) fun _ _ _ h=>Ey h
structure Def (P:Program)(w:World)(K:PySem.W.Frag)(mg:Str→Option Value)(base:Heap)(c:Ct)(x:Str)(ps:List Str)(k:Nat)(F:List D→Option D):Prop where
  ex : ∃ fa fd,jw P w K mg base CX0 k fa fd ps (spD ⟨K,c.cl,c.fld⟩ ps.length F)∧mg x=some (.ref fa)∧PySem.W.keepIn K (.ref fa)=true∧Binds K fd ps []
structure mh (P:Program)(w:World)(K:PySem.W.Frag)(mg:Str→Option Value)(base:Heap)(c:Ct)(x:Str)(ps:List Str)(k:Nat)(F:List D→Option (List D)):Prop where
  ex : ∃ fa fd,jw P w K mg base CX0 k fa fd ps (spF ⟨K,c.cl,c.fld⟩ ps.length F)∧mg x=some (.ref fa)∧PySem.W.keepIn K (.ref fa)=true∧Binds K fd ps []
noncomputable abbrev Iq (X:Cx)(c:Ct):=Def X.prog X.w X.K X.mg X.base c
noncomputable abbrev Fg (X:Cx)(c:Ct):=mh X.prog X.w X.K X.mg X.base c
theorem aZ {k j:Nat}{ps:List Str}{x:Str}{p:Pos}{es:List Expr}{fs:FA}{F:List D→Option D}(G:Iq X c x ps k F)(hr:fu j X.A)(hkj:k≤j)(hg:Gl X x)
    (ha:PDA X c (e::es) fs) (hdb:(x == ("__debug__":Str))=false:=by decide) (he:isStar e=false:=by rfl) (hpl:dq es=true:=by rfl) :
    PD X c (.Call (.Name x p) (e::es) [] pos) (aC ps.length F fs):=by
  obtain ⟨fa,fd,h1,h2,h3,h4⟩:=G.ex
  exact PE.imp (vS (E:=E0) h1 (hr.mono hkj) hg h2 h3 h4 .nil D6 ha hdb (bq he) (eT hpl)) fun _ _ _ h=>Bw h
theorem jC {k j:Nat}{ps:List Str}{x:Str}{p:Pos}{es:List Expr}{fs:FA}{F:List D→Option (List D)}(G:Fg X c x ps k F)(hr:fu j X.A)(hkj:k≤j)(hg:Gl X x)
    (ha:PDA X c (e::es) fs) (hdb:(x == ("__debug__":Str))=false:=by decide) (he:isStar e=false:=by rfl) (hpl:dq es=true:=by rfl) :
    PF X c (.Call (.Name x p) (e::es) [] pos) (aC ps.length F fs):=by
  obtain ⟨fa,fd,h1,h2,h3,h4⟩:=G.ex
  exact PE.imp (vS (E:=E0) h1 (hr.mono hkj) hg h2 h3 h4 .nil D6 ha hdb (bq he) (eT hpl)) fun _ _ _ h=>zd h
theorem v5 (ha:PR X c e f)(he:isStar e=false:=by rfl):PA X [e] (tP (tx X c) (kRA (tx X c)) (faR f)):=PA.imp (j7 ha nF (bq he)) fun _ _ _ h=>ED h
theorem zw {α:Type}{ρ3:RK α V}[Kd ρ3]{T:Tx}{F:D→Option α}{r:List V→Hp→VK→Prop}{f:FE}{σ:L2.St}{H:Hp}{Q:VK}
    (snd : ∀ (A:Addr→Prop) (H0 H:Hp) (x:D) (v:V) (d : α) (Q:VK),Nw A H→kR T A H0 H x v→F x=some d→(∀ w H',aG H H'→ρ3 A H H' d w→Q w H')→r [v] H Q)
    (h:tP T ρ3 (fp1 F f) σ H Q):tCB r (tP T (kRA T) (faR f)) σ H Q:=by
  refine sP (ρ:=kRA T) (F:=of1 F) (Bk snd) ?_
  obtain ⟨W,O,env,d,E,e,q⟩:=h
  refine ⟨W,O,env,d,E, ?_,q⟩
  unfold fp1 faR at *
  cases e1:f env with
  | none=>rw [e1] at e; cases e
  | some x=>rw [e1] at e; exact e
theorem wm {α:Type}{ρ3:RK α V}[Kd ρ3]{id:String}{x:Str}{p:Pos}{r:List V→Hp→VK→Prop}{F:D→Option α}(hc:iL X (.builtin id) r)
    (snd : ∀ (A:Addr→Prop) (H0 H:Hp) (x:D) (v:V) (d : α) (Q:VK),Nw A H→kR (tx X c) A H0 H x v→F x=some d→(∀ w H',aG H H'→ρ3 A H H' d w→Q w H')→r [v] H Q)
    (hg:Gl X x) (hm:X.mg x=none) (hv:bootBuiltins x=some (.builtin id)) (ha:PR X c e f) (he:isStar e=false) (hn:x≠"__name__":=by decide) (hdb:(x == ("__debug__":Str))=false:=by decide) :
    PE X (.Call (.Name x p) [e] [] pos) (tP (tx X c) ρ3 (fp1 F f)):=PE.imp (sM hc hg hm hv (v5 ha he) hn hdb (bq he)) fun _ _ _ h=>zw snd h
theorem zy {α:Type}{ρ3:RK α V}[Kd ρ3]{ty:String}{x:Str}{p:Pos}{r:List V→Hp→VK→Prop}{F:D→Option α}(hc:iL X (.type ty) r)
    (snd : ∀ (A:Addr→Prop) (H0 H:Hp) (x:D) (v:V) (d : α) (Q:VK),Nw A H→kR (tx X c) A H0 H x v→F x=some d→(∀ w H',aG H H'→ρ3 A H H' d w→Q w H')→r [v] H Q)
    (hg:Gl X x) (hm:X.mg x=none) (hv:bootBuiltins x=some (.type ty)) (ha:PR X c e f) (he:isStar e=false) (hn:x≠"__name__":=by decide) (hdb:(x == ("__debug__":Str))=false:=by decide) :
    PE X (.Call (.Name x p) [e] [] pos) (tP (tx X c) ρ3 (fp1 F f)):=PE.imp (x5 hc hg hm hv (v5 ha he) hn hdb (bq he)) fun _ _ _ h=>zw snd h
theorem cc {p:Pos}(hg:Gl X "len")(hm:X.mg "len"=none)(ha:PR X c e f)(he:isStar e=false:=by rfl):PD X c (.Call (.Name "len" p) [e] [] pos) (fp1 el f):=wm yD Bl hg hm PySem.boot_len ha he
theorem gb {p:Pos}(hg:Gl X "tuple")(hm:X.mg "tuple"=none)(ha:PR X c e f)(he:isStar e=false:=by rfl):PD X c (.Call (.Name "tuple" p) [e] [] pos) (fp1 lu f):=zy pF Bn hg hm rfl ha he
theorem n5 {p:Pos}(hg:Gl X "list")(hm:X.mg "list"=none)(ha:PR X c e f)(he:isStar e=false:=by rfl):PF X c (.Call (.Name "list" p) [e] [] pos) (fp1 jZ f):=zy rn Bm hg hm rfl ha he
theorem wo {p:Pos}(hg:Gl X "int")(hm:X.mg "int"=none)(ha:PR X c e f)(he:isStar e=false:=by rfl):PD X c (.Call (.Name "int" p) [e] [] pos) (fp1 nX f) :=
  zy wY (fun A H0 H x v d Q nw r ee k=>by
    unfold nX at ee
    split at ee
    · cases ee; cases aE.dz r; exact .inl ⟨_,rfl,k _ H (aG.refl _) (Rep.int _)⟩
    · cases ee; cases aE.bl_ r; exact .inr ⟨_,rfl,k _ H (aG.refl _) (Rep.int _)⟩
    · cases ee) hg hm rfl ha he
theorem Ir {id:String}{x:Str}{p:Pos}{fs:FA}{r:List V→Hp→VK→Prop}{F:List D→Option D}(hc:iL X (.builtin id) r)
    (snd : ∀ (A:Addr→Prop) (H0 H:Hp) (ds:List D) (vs:List V) (d:D) (Q:VK),Nw A H→kA (tx X c) A H0 H ds vs→F ds=some d→(∀ w H',aG H H'→kD (tx X c) A H H' d w→Q w H')→r vs H Q)
    (hg:Gl X x) (hm:X.mg x=none) (hv:bootBuiltins x=some (.builtin id)) (ha:PDA X c [a,b] fs) (he:isStar a=false) (hpl:dq [b]=true) (hn:x≠"__name__":=by decide) (hdb:(x == ("__debug__":Str))=false:=by decide) :
    PD X c (.Call (.Name x p) [a,b] [] pos) (fp1 F fs):=PE.imp (sM hc hg hm hv ha hn hdb (bq he) (eT hpl)) fun _ _ _ h=>sP (ρ:=kA (tx X c)) snd h
theorem Iu {T:Tx}{A:Addr→Prop}{H:Hp}{d e:D}{vs:List V}(r:aI T A H [d,e] vs) : ∃ v u,vs=[v,u]∧Rep T A H d v∧Rep T A H e u:=by
  obtain ⟨v,t,rfl,h1,h2⟩:=r.dW
  obtain ⟨u,t,rfl,h3,h4⟩:=h2.dW
  cases h4.j8
  exact ⟨v,u,rfl,h1,h3⟩
theorem BN {p:Pos}{fs:FA}(hg:Gl X "max")(hm:X.mg "max"=none)(hc:X.calm=true)(ha:PDA X c [a,b] fs)(he:isStar a=false:=by rfl)(hpl:dq [b]=true:=by rfl) :
    PD X c (.Call (.Name "max" p) [a,b] [] pos) (fp1 maxD fs) :=
  Ir (wX hc) (fun A H0 H ds vs d Q nw r ee k=>by
    unfold maxD at ee
    split at ee
    · cases ee
      obtain ⟨v,u,rfl,h1,h2⟩:=Iu r
      cases h1.dz; cases h2.dz
      exact ⟨_,_,rfl,k _ H (aG.refl _) (Rep.int _)⟩
    · cases ee) hg hm boot_max ha he hpl
noncomputable def tyS:Ty→String
  | .int=>"int" | .str=>"str" | .bool=>"bool" | .list=>"list" | .tuple=>"tuple" | .dict=>"dict"
theorem BO (t:Ty):bootBuiltins (Str.ofString (tyS t))=some (.type (tyS t)):=by cases t <;> decide +kernel
noncomputable def Ds:D→Option String
  | .non=>some "NoneType"
  | .bl _=>some "bool"
  | .int _=>some "int"
  | .str _=>some "str"
  | .tup _=>some "tuple"
  | .lst _=>some "list"
  | _=>none
theorem zz {K:PySem.W.Frag}{d:D}{t:Ty}{b:Bool}(h:g8 t d=some (.bl b)) : ∃ s,Ds d=some s∧PySem.W.kitOne K (.type s) (.type (tyS t))=some b:=by
  cases d <;> cases h <;> refine ⟨_,rfl, ?_⟩ <;> cases t <;> rfl
theorem zA {d r:D}{t:Ty}(h:g8 t d=some r) : ∃ b,r=.bl b:=by
  cases d <;> cases h <;> exact ⟨_,rfl⟩
theorem zB {pins:List (Addr × Obj)}{σ:L2.St}{H:Hp}{s:Shared}{A:Addr→Prop}{E:Value→Shared→Prop}{Ar:Around}{Q:Value→Shared→Prop}{d:D}{x:V}{u:Value}{t T:String}{b:Bool}(I:Inv X pins σ H s)(rx:RelV x u)(r:aE (tx X c) A H d x)(e1:Ds d=some t)(e:PySem.W.kitOne X.K (.type t) (.type T)=some b)
    (h : ∀ tk,Q (.bool b) { s with toks:=tk }):wpAny (model X.prog X.w) Ar (call (.builtin "isinstance") [u,.type T]) Q E s:=by
  cases d with
  | non=>cases e1; cases aE.lT r; cases rx; exact PySem.W.kia_one PySem.W.kitx_none I.kIn True.intro e (fun z=>nomatch z) h
  | bl y=>cases e1; cases aE.bl_ r; cases rx; exact PySem.W.kia_one PySem.W.kitx_bool I.kIn True.intro e (fun z=>nomatch z) h
  | int i=>cases e1; cases aE.dz r; obtain ⟨t,rfl⟩:=rx; exact PySem.W.kia_one PySem.W.kitx_int I.kIn True.intro e (fun z=>nomatch z) h
  | str y=>cases e1; cases aE.gr r; obtain ⟨t,rfl⟩:=rx; exact PySem.W.kia_one PySem.W.kitx_str I.kIn True.intro e (fun z=>nomatch z) h
  | tup ds =>
    cases e1
    obtain ⟨a,xs,rfl,hq,_⟩:=aE.gq r
    cases rx
    obtain ⟨its,_,p,_⟩:=I.tuple hq
    obtain ⟨o,h1,h2,_⟩:=p
    exact PySem.W.kia_one PySem.W.kitx_tuple I.kIn ⟨o,h1,h2⟩ e (fun z=>nomatch z) h
  | lst ds =>
    cases e1
    obtain ⟨a,xs,rfl,hq,_⟩:=aE.fY r
    cases rx
    obtain ⟨its,_,p,_⟩:=I.list hq
    obtain ⟨o,h1,h2,_⟩:=p.isList
    exact PySem.W.kia_one PySem.W.kitx_list I.kIn ⟨o,h1,h2⟩ e (fun z=>nomatch z) h
  | ob _ _ _=>cases e1
  | dct _ _=>cases e1
  | exc _=>cases e1
theorem vals2 {x y:V}{us:List Value}(r:Vals [x,y] us) : ∃ u v,us=[u,v]∧RelV x u∧RelV y v:=Vals.two r
theorem eU (t:Ty){p p2:Pos}(hg:Gl X "isinstance")(hm:X.mg "isinstance"=none)(hg2:Gl X (Str.ofString (tyS t)))(hm2:X.mg (Str.ofString (tyS t))=none)(ha:PR X c e f)
    (he:isStar e=false:=by rfl) :
    PD X c (.Call (.Name "isinstance" p) [e,.Name (Str.ofString (tyS t)) p2] [] pos) (fp1 (g8 t) f):=by
  intro pins s σ H Q I h
  refine wpAny_Call_Name_kw (iI I hg hm (show bootBuiltins "isinstance"=some (.builtin "isinstance") by decide +kernel) ?_ (by decide) (by decide))
  have hA:PA X [e,.Name (Str.ofString (tyS t)) p2] (mF (tP (tx X c) (kR (tx X c)) f) (mF (tC (.ty (tyS t))) wZ)):=j7 ha (j7 (AS hg2 hm2 (BO t) rfl (by cases t <;> decide) (by cases t <;> decide)) nF (bq rfl)) (bq he)
  obtain ⟨W,O,env,d,E,ee,q⟩:=h
  unfold fp1 at ee
  cases e1:f env with
  | none=>rw [e1] at ee; cases ee
  | some y =>
    rw [e1] at ee
    dsimp only [Option.bind_some] at ee
    obtain ⟨bb,rfl⟩:=zA ee
    obtain ⟨st,e2,e3⟩:=zz (K:=X.K) ee
    refine PyProof.Rows.callWith_builtin1 (bH (hA pos pins s σ H (fun vs H1=>∃ v,vs=[v,.ty (tyS t)]∧aG H H1∧aE (tx X c) (Cl W O) H1 y v) I ⟨W,O,env,y,E,e1,fun v H1 s1 r1=>⟨v,rfl,s1,r1⟩⟩) fun us s1 vs H1 I1 r1 zz_=>?_) (bq he) (eT rfl)
    obtain ⟨v,ev,s1',rv⟩:=zz_
    subst ev
    obtain ⟨u,u2,rfl,ru,ru2⟩:=vals2 r1
    cases ru2
    exact zB I1 ru rv e2 e3 fun tk=>⟨.bl bb,H1,I1.tok _,rfl,q _ H1 s1' (Rep.bl _)⟩
structure Gt (X:Cx)(x:Str)(tb:List (List Nat × Int)):Prop where
  ex : ∃ a,X.mg x=some (.ref a)∧∀ h,X.K.In h→StrTab X.prog X.w h a (PySem.W.kdpD (tb.map fun p=>(mkS p.1,p.2)))
theorem o8 (k:List Nat) : ∀ tb:List (List Nat × Int),PySem.W.kdpHas (tb.map fun p=>(mkS p.1,p.2)) (mkS k)=(dC k tb).isSome∧∀ i,dC k tb=some i→PySem.W.kdpLook (tb.map fun p=>(mkS p.1,p.2)) (mkS k) 0=i
  | []=>⟨rfl,fun i h=>by cases h⟩
  | (x,v)::r=>by
    obtain ⟨h1,h2⟩:=o8 k r
    unfold PySem.W.kdpHas PySem.W.kdpLook at *
    by_cases e:x=k
    · subst e
      refine ⟨by simp [dC],fun i h=>?_⟩
      simp [dC] at h
      simp [h]
    · have e' : ¬ mkS x=mkS k:=fun z=>e (jP z)
      refine ⟨?_,fun i h=>?_⟩
      · simp only [List.map_cons,List.any_cons,dC,if_neg e]
        rw [decide_eq_false e',Bool.false_or]
        exact h1
      · simp only [dC,if_neg e] at h
        have:=h2 i h
        simp only [List.map_cons,List.find?_cons,decide_eq_false e']
        exact this
theorem zC {x:Str}{tb:List (List Nat × Int)}{p:Pos}(G:Gt X x tb)(hg:Gl X x)(ha:PD X c e f)(hs:uU e=true:=by rfl)(hd:(x == ("__debug__":Str))=false:=by decide) :
    PD X c (.Subscript (.Name x p) e pos) (fp1 (uW tb) f):=by
  obtain ⟨da,hm,T⟩:=G.ex
  intro pins s σ H Q I h
  obtain ⟨W,O,env,d,E,ee,q⟩:=h
  unfold fp1 at ee
  cases e1:f env with
  | none=>rw [e1] at ee; cases ee
  | some yd =>
    rw [e1] at ee
    dsimp only [Option.bind_some] at ee
    refine Subscript_ (AZ (R:=fun x' y' H2=>x'=.ref da∧aG H H2∧Rep (tx X c) (Cl W O) H2 yd y') (qY (v:=.ref da) hg hm rfl hd) ha I ⟨W,O,env,yd,E,e1,fun v H1 s1 r1=>⟨rfl,s1,r1⟩⟩ fun v u s2 x' y' H2 I2 rx ry zz_=>?_)
    obtain ⟨ex,s1,r1⟩:=zz_
    subst ex
    cases rx
    cases yd with
    | str k =>
      cases r1.gr
      obtain ⟨t,rfl⟩:=ry
      unfold uW at ee
      dsimp only at ee
      cases e4:dC k tb with
      | none=>rw [e4] at ee; cases ee
      | some i =>
        rw [e4] at ee; cases ee
        obtain ⟨h1,h2⟩:=o8 k tb
        rw [e4] at h1
        have hv:=h2 i e4
        exact PySem.W.tab_tail (T _ I2.kIn) (PySem.W.kdp_getItem (T _ I2.kIn) h1 fun t=>⟨.int _,H2,I2.tok _,⟨_,rfl⟩,by rw [hv]; exact q _ H2 s1 (Rep.int _)⟩) (nU hs _ _)
    | _=>cases ee
theorem zD (ha:PD X c a f):PD X c (.UnaryOp .Not a pos) (sQ f):=PE.imp (DY ha) fun _ _ _ h=>EA h
theorem er {op}(h:PD X c a f):PD X c (.BoolOp op [a] pos) f:=DW h
theorem ia {rest:List Expr}(ha:PD X c a f)(hb:PD X c (.BoolOp .And (b::rest) pos) g):PD X c (.BoolOp .And (a::b::rest) pos) (i4 f g):=PE.imp (DX ha hb) fun _ _ _ h=>EB h
theorem jD {rest:List Expr}(ha:PD X c a f)(hb:PD X c (.BoolOp .Or (b::rest) pos) g):PD X c (.BoolOp .Or (a::b::rest) pos) (kx f g):=PE.imp (Hh ha hb) fun _ _ _ h=>HH h
variable {t u:FT}
theorem dQ (h:PD X c e f)(he:plainT e=true:=by rfl):PDT X c e (ftB f):=PT.imp (DU h (xi he)) fun _ _ _ h=>mX h
theorem eh (ha:PDT X c a t):PDT X c (.UnaryOp .Not a pos) (fK t):=PT.imp (DV ha) fun _ _ _ h=>Bf h
theorem jE (ha:PDT X c a t):PDW X c (.BoolOp .And [a] pos) t:=pw_and1 ha
theorem iE (ha:PDT X c a t):PDW X c (.BoolOp .Or [a] pos) t:=pw_or1 ha
theorem jT {rest:List Expr}(ha:PDT X c a t)(hb:PDW X c (.BoolOp .And (b::rest) pos) u):PDW X c (.BoolOp .And (a::b::rest) pos) (kg t u):=PW.imp (pw_and ha hb) fun _ _ _ h=>Bg h
theorem ib {rest:List Expr}(ha:PDT X c a t)(hb:PDW X c (.BoolOp .Or (b::rest) pos) u):PDW X c (.BoolOp .Or (a::b::rest) pos) (jy t u):=PW.imp (pw_or ha hb) fun _ _ _ h=>Ez h
theorem PDW.pt (h:PDW X c e t):PDT X c e t:=PW.pt h
theorem o9 {te:Expr}(hc:PDT X c te t)(ha:PD X c a f)(hb:PD X c b g):PD X c (.IfExp te a b pos) (uS t f g):=PE.imp (yn hc ha hb) fun _ _ _ h=>HI h
variable {st:Stmt}{rest:List Stmt}{F G:FS}
theorem aB:md X c xq [] aP:=PSs.imp AU fun _ _ _ h=>yX h
theorem ai (h1:PDS X c xq st F)(h2:md X c xq rest G):md X c xq (st::rest) (aA F G):=PSs.imp (yo h1 h2) fun _ _ _ h=>Bp h
theorem aq (h1:PDS X c xq st F):md X c xq [st] F:=vP h1
theorem zE {i:Nat}{sts:List Stmt}(h:md X c xq sts F):md X c xq sts (qj i F):=PSs.imp h fun _ _ _ h=>Bs h
theorem az (h:PD X c e f):PDS X c xq (.Return (some e) pos) (aK f):=PS.imp (uI h) fun _ _ _ h=>Bq h
theorem ic {f:FP (List D)}(h:PF X c e f):PDS X c xq (.Return (some e) pos) (i6 f):=PS.imp (uI h) fun _ _ _ h=>yY h
theorem zF {i:Nat}{x:Str}{p2:Pos}(n:Nm X i x):PDS X c xq (.Return (some (.Name x p2)) pos) (lZ i):=PS.imp (uI (ku n.hN n.hv n.hd n.hc)) fun _ _ _ h=>yZ h
theorem aV {te:Expr}{as bs:List Stmt}(hc:PDT X c te t)(ha:md X c xq as F)(hb:md X c xq bs G):PDS X c xq (.If te as bs pos) (bN t F G):=PS.imp (Hl hc ha hb) fun _ _ _ h=>EJ h
theorem aF {i:Nat}{x:Str}{pos':Pos}(n:Nl X i x)(he:PD X c e f)(hs:m9 e=true:=by rfl) :
    PDS X c xq (.Assign [.Name x pos'] e pos) (bh i f):=PS.imp (uJ n.nd n.hN n.hl he (gK hs) n.hf) fun _ _ _ h=>w5 h
theorem rK {i:Nat}{x:Str}{pos':Pos}{f:FP (List D)}(n:Nl X i x)(he:PF X c e f)(hs:m9 e=true:=by rfl) :
    PDS X c xq (.Assign [.Name x pos'] e pos) (nN i f):=PS.imp (uJ n.nd n.hN n.hl he (gK hs) n.hf) fun _ _ _ h=>Br h
theorem v7 {tg l:Expr}{tl:TE}(hl:PE X l tl):PI X tg l (EK X.K tl):=by
  intro pins s σ H R I h
  refine bH (hl pins s σ H _ I h) fun v s1 x H1 I1 r1 q1=>?_
  obtain ⟨a,e,q1⟩:=q1
  subst e
  cases r1
  rcases q1 with ⟨⟨xs,hq⟩,q⟩ | ⟨⟨xs,hq⟩,q⟩
  · obtain ⟨its,rv,p,hz⟩:=I1.list hq
    refine wpAny_pyIter_list p.isList ?_
    refine ⟨s1.heap.objs.size,[s1.heap.objs.size],_,_,H1,rfl,I1.kept (t':=s1.toks) fun b o e=>Heap.get?_push_of_some _ e,wU a _,⟨_,Heap.get?_push_size _ rfl,rfl,rfl⟩,fun b hb=>?_,q⟩
    have e:b=s1.heap.objs.size:=by simpa using hb
    subst e
    exact I1.sJ (Nat.le_refl _) (I1.hok.fresh (Nat.le_refl _))
  · obtain ⟨its,rv,p,hz⟩:=I1.tuple hq
    refine wpAny_pyIter_tuple (show s1.heap.IsTuple a its.toArray from p) ?_
    refine ⟨s1.heap.objs.size,[s1.heap.objs.size],_,_,H1,rfl,I1.kept (t':=s1.toks) fun b o e=>Heap.get?_push_of_some _ e,uK a _,⟨_,Heap.get?_push_size _ rfl,rfl,rfl⟩,fun b hb=>?_,q⟩
    have e:b=s1.heap.objs.size:=by simpa using hb
    subst e
    exact I1.sJ (Nat.le_refl _) (I1.hok.fresh (Nat.le_refl _))
theorem cI {i:Nat}{x:Str}(n:Nl X i x):PG X (.Name x pos) (jv i):=AW n.nd n.hN n.hl n.hf
theorem jc {tgE iter:Expr}{tg:FG}{gt:TG}{body:List Stmt}{fi:FE}(hp:PassesOwn (model X.prog X.w) X.A X.env X.xe)(hc:X.calm=true)(sg:gJ (tx X c) tg gt)(pg:PG X tgE gt)(hi:PD X c iter fi)(hb:md X c xq body F)
    (hs:lz iter=true:=by rfl):PDS X c xq (.For tgE iter body [] pos) (jA tg fi F) :=
  PS.imp (uM hp hc (v7 hi) pg hb (dX hs)) fun _ _ _ h=>Bu sg h
theorem sW {tgE:Expr}{tg:FG}{gt:TG}{p p2:Pos}{body:List Stmt}{fs:FA}(hp:PassesOwn (model X.prog X.w) X.A X.env X.xe)(hc:X.calm=true)(sg:gJ (tx X c) tg gt)(pg:PG X tgE gt)(hg:Gl X "range")(hm:X.mg "range"=none)(ha:PDA X c [a] fs)(hb:md X c xq body F)(hst:isStar a=false:=by rfl)
   :PDS X c xq (.For tgE (.Call (.Name "range" p) [a] [] p2) body [] pos) (m6 ka tg fs F) :=
  PS.imp (uM hp hc (qc hg hm ha (i7 hst)) pg hb (dX rfl)) fun _ _ _ h=>zb sg h
end
end DL
end
section
namespace DL
open PySem PySem.Spec PyProof.Rows L2 PySem.SeqAt
theorem EqAt.of_rc {A:Around}{s:Shared}{a b:Value}{k:Bool}(hf : ∀ x t,a≠.float x t)(h:RcAt A s a b k)(hs:a=b→k=true):EqAt A s a b k:=fun prog w E Q hq=>by
  unfold eqBool
  refine wpAny_holding ?_
  refine wpAny_ite_split (fun hab=>?_) (fun _=>?_)
  · have:=hs (eq_of_beq hab)
    subst this
    exact wpAny_bind (wpAny_rule (wpAny_pure hq))
  · cases a with
    | float x t=>exact absurd rfl (hf x t)
    | _=>exact wpAny_bind (h prog w E _ (wpAny_truthy_bool hq))
theorem rL {f:D→D→Option Bool} : ∀ {as bs:List D} {r:Bool},eqZ f as bs=some r→∃ e:Nat→Bool,(∀ (j:Nat) x y,as[j]?=some x→bs[j]?=some y→f x y=some (e j))∧r=(List.range (min as.length bs.length)).all e
  | [],bs,r,h=>by
    unfold eqZ at h; cases h
    exact ⟨fun _=>true,fun j x y h=>by simp at h,by simp⟩
  | a::as,[],r,h=>by
    unfold eqZ at h; cases h
    exact ⟨fun _=>true,fun j x y _ h=>by simp at h,by simp⟩
  | a::as,b::bs,r,h=>by
    unfold eqZ at h
    cases e1:f a b with
    | none=>rw [e1] at h; cases h
    | some x0 =>
      rw [e1] at h
      dsimp only [Option.bind_some] at h
      cases e2:eqZ f as bs with
      | none=>rw [e2] at h; cases h
      | some y0 =>
        rw [e2] at h; cases h
        obtain ⟨e,h1,h2⟩:=rL e2
        refine ⟨fun j=>match j with | 0=>x0 | j+1=>e j,fun j x y hx hy=>?_, ?_⟩
        · cases j with
          | zero=>simp at hx hy; subst hx hy; exact e1
          | succ j=>exact h1 j x y (by simpa using hx) (by simpa using hy)
        · have hl:min (a::as).length (b::bs).length=min as.length bs.length+1:=by simp only [List.length_cons]; omega
          rw [hl,List.range_succ_eq_map,List.all_cons,List.all_map,h2]
          rfl
section
variable {X:Cx}{c:Ct}{pins:List (Addr × Obj)}{σ:L2.St}{H:Hp}{s:Shared}{A:Addr→Prop}
theorem sX (I:Inv X pins σ H s) : ∀ (n:Nat) {x y:D} {v:V} {b:Bool},aE (tx X c) A H x v→aE (tx X c) A H y v→eqN n x y=some b→b=true
  | 0,_,_,_,_,_,_,h=>by cases h
  | n+1,x,y,v,b,rx,ry,h=>by
    have go : ∀ {as bs:List D} {xs:List V} {r:Bool},aI (tx X c) A H as xs→aI (tx X c) A H bs xs→eqZ (eqN n) as bs=some r→r=true:=fun {as bs xs r} ra rb hz=>by
      obtain ⟨e,h1,h2⟩:=rL hz
      rw [h2,List.all_eq_true]
      intro j hj
      have hj':j<min as.length bs.length:=by simpa using hj
      have la:=ra.length
      have hx:as[j]?=some (as[j]'(by omega)):=List.getElem?_eq_getElem _
      have hy:bs[j]?=some (bs[j]'(by omega)):=List.getElem?_eq_getElem _
      obtain ⟨v1,g1,r1⟩:=ra.get hx
      obtain ⟨v2,g2,r2⟩:=rb.get hy
      rw [g1] at g2; cases g2
      exact sX I n (aE.of r1) (aE.of r2) (h1 j _ _ hx hy)
    cases x with
    | non=>cases y <;> first | (cases h; rfl) | (cases aE.lT rx; first | cases aE.bl_ ry | cases aE.dz ry | cases aE.gr ry | (obtain ⟨_,_,z,_⟩:=aE.gq ry; cases z) | (obtain ⟨_,_,z,_⟩:=aE.fY ry; cases z) | cases h)
    | bl p =>
      cases aE.bl_ rx
      cases y with
      | bl q=>cases h; cases aE.bl_ ry; simp
      | int q=>cases aE.dz ry
      | non=>cases aE.lT ry
      | str q=>cases aE.gr ry
      | tup q=>obtain ⟨_,_,z,_⟩:=aE.gq ry; cases z
      | lst q=>obtain ⟨_,_,z,_⟩:=aE.fY ry; cases z
      | ob _ _ _=>cases h
      | dct _ _=>cases h
      | exc _=>cases h
    | int p =>
      cases aE.dz rx
      cases y with
      | int q=>cases h; cases aE.dz ry; simp
      | bl q=>cases aE.bl_ ry
      | non=>cases aE.lT ry
      | str q=>cases aE.gr ry
      | tup q=>obtain ⟨_,_,z,_⟩:=aE.gq ry; cases z
      | lst q=>obtain ⟨_,_,z,_⟩:=aE.fY ry; cases z
      | ob _ _ _=>cases h
      | dct _ _=>cases h
      | exc _=>cases h
    | str p =>
      cases aE.gr rx
      cases y with
      | str q =>
        have hz:=aE.gr ry
        injection hz with hz
        have hz:=jP hz
        subst hz
        cases h; simp
      | bl q=>cases aE.bl_ ry
      | non=>cases aE.lT ry
      | int q=>cases aE.dz ry
      | tup q=>obtain ⟨_,_,z,_⟩:=aE.gq ry; cases z
      | lst q=>obtain ⟨_,_,z,_⟩:=aE.fY ry; cases z
      | ob _ _ _=>cases h
      | dct _ _=>cases h
      | exc _=>cases h
    | tup p =>
      obtain ⟨a1,xs1,rfl,q1,r1⟩:=aE.gq rx
      cases y with
      | tup q =>
        obtain ⟨a2,xs2,z,q2,r2⟩:=aE.gq ry
        cases z
        have:=I.qa q1 q2
        subst this
        replace h:(eqZ (eqN n) p q).map (fun r=>r && p.length == q.length)=some b:=h
        cases e1:eqZ (eqN n) p q with
        | none=>rw [e1] at h; cases h
        | some r =>
          rw [e1] at h; cases h
          rw [go r1 r2 e1,r1.length,r2.length]; simp
      | lst q =>
        obtain ⟨a2,xs2,z,q2,r2⟩:=aE.fY ry
        cases z
        obtain ⟨_,_,p1,_⟩:=I.tuple q1
        obtain ⟨_,_,p2,_⟩:=I.list q2
        obtain ⟨o,h1,h2,_⟩:=p1
        obtain ⟨o',n',h1',h2',_⟩:=p2
        rw [h1] at h1'; cases h1'
        rw [h2] at h2'
        injection h2' with z
        exact absurd z (by decide)
      | bl q=>cases aE.bl_ ry
      | non=>cases aE.lT ry
      | int q=>cases aE.dz ry
      | str q=>cases aE.gr ry
      | ob _ _ _=>cases h
      | dct _ _=>cases h
      | exc _=>cases h
    | lst p =>
      obtain ⟨a1,xs1,rfl,q1,r1⟩:=aE.fY rx
      cases y with
      | lst q =>
        obtain ⟨a2,xs2,z,q2,r2⟩:=aE.fY ry
        cases z
        have:=I.nB q1 q2
        subst this
        replace h:(if p.length=q.length then eqZ (eqN n) p q else some false)=some b:=h
        rw [if_pos (by rw [r1.length,r2.length])] at h
        exact go r1 r2 h
      | tup q =>
        obtain ⟨a2,xs2,z,q2,r2⟩:=aE.gq ry
        cases z
        obtain ⟨_,_,p1,_⟩:=I.tuple q2
        obtain ⟨_,_,p2,_⟩:=I.list q1
        obtain ⟨o,h1,h2,_⟩:=p1
        obtain ⟨o',n',h1',h2',_⟩:=p2
        rw [h1] at h1'; cases h1'
        rw [h2] at h2'
        injection h2' with z
        exact absurd z (by decide)
      | bl q=>cases aE.bl_ ry
      | non=>cases aE.lT ry
      | int q=>cases aE.dz ry
      | str q=>cases aE.gr ry
      | ob _ _ _=>cases h
      | dct _ _=>cases h
      | exc _=>cases h
    | ob _ _ _=>cases y <;> cases h
    | dct _ _=>cases y <;> cases h
    | exc _=>cases y <;> cases h
theorem rM {x:D}{v:V}{a:Value}(rx:aE (tx X c) A H x v)(r:RelV v a) : ∀ z t,a≠.float z t:=fun z t e=>by
  subst e
  cases v with
  | flt b =>
    cases x with
    | non=>cases aE.lT rx
    | bl q=>cases aE.bl_ rx
    | int q=>cases aE.dz rx
    | str q=>cases aE.gr rx
    | tup q=>obtain ⟨_,_,z,_⟩:=aE.gq rx; cases z
    | lst q=>obtain ⟨_,_,z,_⟩:=aE.fY rx; cases z
    | ob _ _ _=>obtain ⟨_,_,_,_,z,_⟩:=Rep.ob_ (show Rep (tx X c) A H (.ob _ _ _) _ from rx); cases z
    | dct _ _=>obtain ⟨_,_,z,_⟩:=Rep.Ba (show Rep (tx X c) A H (.dct _ _) _ from rx); cases z
    | exc _=>obtain ⟨_,_,z,_⟩:=Rep.Et (show Rep (tx X c) A H (.exc _) _ from rx); cases z
  | non=>cases r
  | bl b=>cases r
  | int b=>obtain ⟨_,z⟩:=r; cases z
  | str b=>obtain ⟨_,z⟩:=r; cases z
  | byt b=>obtain ⟨_,z⟩:=r; cases z
  | ref b=>cases r
  | ty b=>cases r
noncomputable def Shp (T:Tx)(A:Addr→Prop)(H:Hp)(h:Heap):D→Value→Prop
  | .non,v=>v=.none
  | .bl q,v=>v=.bool q
  | .int q,v=>∃ t,v=.int q t
  | .str q,v=>∃ t,v=.str (mkS q) t
  | .tup ds,v=>∃ a xs us,v=.ref a∧aI T A H ds xs∧Vals xs us∧IsTup h a us.toArray
  | .lst ds,v=>∃ a xs us,v=.ref a∧aI T A H ds xs∧Vals xs us∧PlainL h a us.toArray
  | _,_=>True
theorem rN (I:Inv X pins σ H s) : ∀ {x:D} {v:V} {av:Value},aE (tx X c) A H x v→RelV v av→Shp (tx X c) A H s.heap x av
  | .non,_,_,rx,rv=>by cases aE.lT rx; cases rv; rfl
  | .bl _,_,_,rx,rv=>by cases aE.bl_ rx; cases rv; rfl
  | .int _,_,_,rx,rv=>by cases aE.dz rx; exact rv
  | .str _,_,_,rx,rv=>by cases aE.gr rx; exact rv
  | .tup _,_,_,rx,rv=>by
    obtain ⟨a,xs,rfl,q,r⟩:=aE.gq rx
    cases rv
    obtain ⟨us,v,p,_⟩:=I.tuple q
    exact ⟨a,xs,us,rfl,r,v,p⟩
  | .lst _,_,_,rx,rv=>by
    obtain ⟨a,xs,rfl,q,r⟩:=aE.fY rx
    cases rv
    obtain ⟨us,v,p,_⟩:=I.list q
    exact ⟨a,xs,us,rfl,r,v,p⟩
  | .ob _ _ _,_,_,_,_=>trivial
  | .dct _ _,_,_,_,_=>trivial
  | .exc _,_,_,_,_=>trivial
theorem wq (p q:List Nat):(p == q)=(mkS p == mkS q):=by
  by_cases hh:p=q
  · subst hh; simp
  · rw [beq_eq_false_iff_ne.mpr hh,beq_eq_false_iff_ne.mpr fun e=>hh (jP e)]
theorem sY {T:Tx}{ds:List D}{xs:List V}{us:List Value}(r:aI T A H ds xs)(v:Vals xs us):ds.length=us.toArray.size:=by
  rw [List.size_toArray]; exact r.length.trans v.length
theorem Dt (I:Inv X pins σ H s){n:Nat}{Ar:Around}(ih : ∀ {x y:D} {v u:V} {av au:Value} {b:Bool} {Ar:Around},aE (tx X c) A H x v→aE (tx X c) A H y u→RelV v av→RelV u au→eqN n x y=some b→Ar.units+n<cLine→RcAt Ar s av au b)(hu:Ar.units+(n+1)<cLine)
    {as bs:List D} {xs ys:List V} {us ws:List Value} {r:Bool} (ra:aI (tx X c) A H as xs) (rb:aI (tx X c) A H bs ys) (va:Vals xs us) (vb:Vals ys ws) (hz:eqZ (eqN n) as bs=some r) :
    ∃ e:Nat→Bool,(∀ j (h1:j<us.toArray.size) (h2:j<ws.toArray.size),EqAt Ar.in1 s us.toArray[j] ws.toArray[j] (e j))∧r=(List.range (min us.toArray.size ws.toArray.size)).all e:=by
  obtain ⟨e,h1,h2⟩:=rL hz
  have l1:=ra.length
  have l2:=va.length
  have l3:=rb.length
  have l4:=vb.length
  refine ⟨e,fun j hj1 hj2=>?_,by rw [h2]; simp only [List.size_toArray]; rw [l1,l2,l3,l4]⟩
  simp only [List.size_toArray] at hj1 hj2
  have hx:as[j]?=some (as[j]'(by omega)):=List.getElem?_eq_getElem _
  have hy:bs[j]?=some (bs[j]'(by omega)):=List.getElem?_eq_getElem _
  obtain ⟨v1,g1,r1⟩:=ra.get hx
  obtain ⟨v2,g2,r2⟩:=rb.get hy
  obtain ⟨u1,k1,s1⟩:=va.get g1
  obtain ⟨u2,k2,s2⟩:=vb.get g2
  have e1:us.toArray[j]=u1:=by
    have:=List.getElem?_eq_some_iff.mp k1
    obtain ⟨_,z⟩:=this
    simpa using z
  have e2:ws.toArray[j]=u2:=by
    have:=List.getElem?_eq_some_iff.mp k2
    obtain ⟨_,z⟩:=this
    simpa using z
  rw [e1,e2]
  have hn:=h1 j _ _ hx hy
  have hue:Ar.in1.units+n<cLine:=by show Ar.units+1+n<cLine; omega
  refine EqAt.of_rc (rM (c:=c) (A:=A) (aE.of r1) s1) (ih (aE.of r1) (aE.of r2) s1 s2 hn hue) fun ee=>?_
  subst ee
  have:=s1.inj s2
  subst this
  exact sX I n (aE.of r1) (aE.of r2) hn
theorem Fh {n:Nat}{Ar:Around}(go : ∀ {as bs:List D} {xs ys:List V} {us ws:List Value} {r:Bool},aI (tx X c) A H as xs→aI (tx X c) A H bs ys→Vals xs us→Vals ys ws→eqZ (eqN n) as bs=some r→∃ e:Nat→Bool,(∀ j (h1:j<us.toArray.size) (h2:j<ws.toArray.size),EqAt Ar.in1 s us.toArray[j] ws.toArray[j] (e j))∧r=(List.range (min us.toArray.size ws.toArray.size)).all e)(hu0:Ar.units<cLine){x y:D}{av au:Value}{b:Bool}(sx:Shp (tx X c) A H s.heap x av)(sy:Shp (tx X c) A H s.heap y au)(h:eqN (n+1) x y=some b):RcAt Ar s av au b:=by
  cases x with
  | non =>
    cases sx
    cases y with
    | non=>cases h; cases sy; exact .none_none
    | bl q=>cases h; cases sy; exact .none_bool _
    | int q=>cases h; obtain ⟨t2,rfl⟩:=sy; exact .none_int _ _
    | str q=>cases h; obtain ⟨t2,rfl⟩:=sy; exact .none_str _ _
    | tup q=>cases h; obtain ⟨a2,xs2,us2,rfl,r2,v2,p2⟩:=sy; exact .none_tuple p2 hu0
    | lst q=>cases h; obtain ⟨a2,xs2,us2,rfl,r2,v2,p2⟩:=sy; exact .none_list p2.isList hu0
    | ob _ _ _=>cases h
    | dct _ _=>cases h
    | exc _=>cases h
  | bl p =>
    cases sx
    cases y with
    | non=>cases h; cases sy; exact .bool_none _
    | bl q=>cases h; cases sy; exact .bool_bool _ _
    | int q=>cases h; obtain ⟨t2,rfl⟩:=sy; exact .bool_int _ _ _
    | str q=>cases h; obtain ⟨t2,rfl⟩:=sy; exact .bool_str _ _ _
    | tup q=>cases h; obtain ⟨a2,xs2,us2,rfl,r2,v2,p2⟩:=sy; exact .bool_tuple _ p2 hu0
    | lst q=>cases h; obtain ⟨a2,xs2,us2,rfl,r2,v2,p2⟩:=sy; exact .bool_list _ p2.isList hu0
    | ob _ _ _=>cases h
    | dct _ _=>cases h
    | exc _=>cases h
  | int p =>
    obtain ⟨t1,rfl⟩:=sx
    cases y with
    | non=>cases h; cases sy; exact .int_none _ _
    | bl q=>cases h; cases sy; exact .int_bool _ _ _
    | int q=>cases h; obtain ⟨t2,rfl⟩:=sy; exact .int_int _ _ _ _
    | str q=>cases h; obtain ⟨t2,rfl⟩:=sy; exact .int_str _ _ _ _
    | tup q=>cases h; obtain ⟨a2,xs2,us2,rfl,r2,v2,p2⟩:=sy; exact .int_tuple _ _ p2 hu0
    | lst q=>cases h; obtain ⟨a2,xs2,us2,rfl,r2,v2,p2⟩:=sy; exact .int_list _ _ p2.isList hu0
    | ob _ _ _=>cases h
    | dct _ _=>cases h
    | exc _=>cases h
  | str p =>
    obtain ⟨t1,rfl⟩:=sx
    cases y with
    | non=>cases h; cases sy; exact .str_none _ _
    | bl q=>cases h; cases sy; exact .str_bool _ _ _
    | int q=>cases h; obtain ⟨t2,rfl⟩:=sy; exact .str_int _ _ _ _
    | str q =>
      cases h; obtain ⟨t2,rfl⟩:=sy
      rw [wq]
      exact .str_str _ _ _ _
    | tup q=>cases h; obtain ⟨a2,xs2,us2,rfl,r2,v2,p2⟩:=sy; exact .str_tuple _ _ p2 hu0
    | lst q=>cases h; obtain ⟨a2,xs2,us2,rfl,r2,v2,p2⟩:=sy; exact .str_list _ _ p2.isList hu0
    | ob _ _ _=>cases h
    | dct _ _=>cases h
    | exc _=>cases h
  | tup p =>
    obtain ⟨a1,xs1,us1,rfl,r1,v1,p1⟩:=sx
    cases y with
    | non=>cases h; cases sy; exact .tuple_none p1 hu0
    | bl q=>cases h; cases sy; exact .tuple_bool _ p1 hu0
    | int q=>cases h; obtain ⟨t2,rfl⟩:=sy; exact .tuple_int _ _ p1 hu0
    | str q=>cases h; obtain ⟨t2,rfl⟩:=sy; exact .tuple_str _ _ p1 hu0
    | tup q =>
      obtain ⟨a2,xs2,us2,rfl,r2,v2,p2⟩:=sy
      replace h:(eqZ (eqN n) p q).map (fun r=>r && p.length == q.length)=some b:=h
      cases e1:eqZ (eqN n) p q with
      | none=>rw [e1] at h; cases h
      | some r =>
        rw [e1] at h; cases h
        obtain ⟨e,g1,g2⟩:=go r1 r2 v1 v2 e1
        rw [g2,sY r1 v1,sY r2 v2]
        exact .tuples p1 p2 hu0 g1
    | lst q=>cases h; obtain ⟨a2,xs2,us2,rfl,r2,v2,p2⟩:=sy; exact .tuple_list p1 p2.isList hu0
    | ob _ _ _=>cases h
    | dct _ _=>cases h
    | exc _=>cases h
  | lst p =>
    obtain ⟨a1,xs1,us1,rfl,r1,v1,p1⟩:=sx
    cases y with
    | non=>cases h; cases sy; exact .list_none p1.isList hu0
    | bl q=>cases h; cases sy; exact .list_bool _ p1.isList hu0
    | int q=>cases h; obtain ⟨t2,rfl⟩:=sy; exact .list_int _ _ p1.isList hu0
    | str q=>cases h; obtain ⟨t2,rfl⟩:=sy; exact .list_str _ _ p1.isList hu0
    | tup q=>cases h; obtain ⟨a2,xs2,us2,rfl,r2,v2,p2⟩:=sy; exact .list_tuple p1.isList p2 hu0
    | lst q =>
      obtain ⟨a2,xs2,us2,rfl,r2,v2,p2⟩:=sy
      replace h:(if p.length=q.length then eqZ (eqN n) p q else some false)=some b:=h
      have hl1:=sY r1 v1
      have hl2:=sY r2 v2
      by_cases hl:p.length=q.length
      · rw [if_pos hl] at h
        obtain ⟨e,g1,g2⟩:=go r1 r2 v1 v2 h
        have hm:us1.toArray.size=us2.toArray.size:=hl1.symm.trans (hl.trans hl2)
        rw [g2, ← hm,Nat.min_self]
        exact .lists p1.isList p2.isList hm hu0 g1
      · rw [if_neg hl] at h; cases h
        exact .lists_lengths p1.isList p2.isList (by rw [← hl1, ← hl2]; exact bne_iff_ne.mpr hl) hu0
    | ob _ _ _=>cases h
    | dct _ _=>cases h
    | exc _=>cases h
  | ob _ _ _=>cases y <;> cases h
  | dct _ _=>cases y <;> cases h
  | exc _=>cases y <;> cases h
theorem zG (I:Inv X pins σ H s) : ∀ (n:Nat) {x y:D} {v u:V} {av au:Value} {b:Bool} {Ar:Around},aE (tx X c) A H x v→aE (tx X c) A H y u→RelV v av→RelV u au→eqN n x y=some b→Ar.units+n<cLine→RcAt Ar s av au b
  | 0,_,_,_,_,_,_,_,_,_,_,_,_,h,_=>by cases h
  | n+1,_,_,_,_,_,_,_,_,rx,ry,rv,ru,h,hu=>Fh (X:=X) (c:=c) (A:=A) (H:=H) (Dt I (zG I n) hu) (Nat.lt_of_le_of_lt (Nat.le_add_right _ _) hu) (rN I rx rv) (rN I ry ru) h
theorem zH {n:Nat}{Ar:Around}(go : ∀ {as bs:List D} {xs ys:List V} {us ws:List Value} {r:Bool},aI (tx X c) A H as xs→aI (tx X c) A H bs ys→Vals xs us→Vals ys ws→eqZ (eqN n) as bs=some r→∃ e:Nat→Bool,(∀ j (h1:j<us.toArray.size) (h2:j<ws.toArray.size),EqAt Ar.in1 s us.toArray[j] ws.toArray[j] (e j))∧r=(List.range (min us.toArray.size ws.toArray.size)).all e)(hu0:Ar.units<cLine){x y:D}{av au:Value}{b:Bool}(sx:Shp (tx X c) A H s.heap x av)(sy:Shp (tx X c) A H s.heap y au)(h:eqN (n+1) x y=some b):RcNeAt Ar s av au (!b):=by
  cases x with
  | non =>
    cases sx
    cases y with
    | non=>cases h; cases sy; exact .none_none
    | bl q=>cases h; cases sy; exact .none_bool _
    | int q=>cases h; obtain ⟨t2,rfl⟩:=sy; exact .none_int _ _
    | str q=>cases h; obtain ⟨t2,rfl⟩:=sy; exact .none_str _ _
    | tup q=>cases h; obtain ⟨a2,xs2,us2,rfl,r2,v2,p2⟩:=sy; exact .none_tuple p2 hu0
    | lst q=>cases h; obtain ⟨a2,xs2,us2,rfl,r2,v2,p2⟩:=sy; exact .none_list p2.isList hu0
    | ob _ _ _=>cases h
    | dct _ _=>cases h
    | exc _=>cases h
  | bl p =>
    cases sx
    cases y with
    | non=>cases h; cases sy; exact .bool_none _
    | bl q=>cases h; cases sy; exact .bool_bool _ _
    | int q=>cases h; obtain ⟨t2,rfl⟩:=sy; exact .bool_int _ _ _
    | str q=>cases h; obtain ⟨t2,rfl⟩:=sy; exact .bool_str _ _ _
    | tup q=>cases h; obtain ⟨a2,xs2,us2,rfl,r2,v2,p2⟩:=sy; exact .bool_tuple _ p2 hu0
    | lst q=>cases h; obtain ⟨a2,xs2,us2,rfl,r2,v2,p2⟩:=sy; exact .bool_list _ p2.isList hu0
    | ob _ _ _=>cases h
    | dct _ _=>cases h
    | exc _=>cases h
  | int p =>
    obtain ⟨t1,rfl⟩:=sx
    cases y with
    | non=>cases h; cases sy; exact .int_none _ _
    | bl q=>cases h; cases sy; exact .int_bool _ _ _
    | int q=>cases h; obtain ⟨t2,rfl⟩:=sy; exact .int_int _ _ _ _
    | str q=>cases h; obtain ⟨t2,rfl⟩:=sy; exact .int_str _ _ _ _
    | tup q=>cases h; obtain ⟨a2,xs2,us2,rfl,r2,v2,p2⟩:=sy; exact .int_tuple _ _ p2 hu0
    | lst q=>cases h; obtain ⟨a2,xs2,us2,rfl,r2,v2,p2⟩:=sy; exact .int_list _ _ p2.isList hu0
    | ob _ _ _=>cases h
    | dct _ _=>cases h
    | exc _=>cases h
  | str p =>
    obtain ⟨t1,rfl⟩:=sx
    cases y with
    | non=>cases h; cases sy; exact .str_none _ _
    | bl q=>cases h; cases sy; exact .str_bool _ _ _
    | int q=>cases h; obtain ⟨t2,rfl⟩:=sy; exact .str_int _ _ _ _
    | str q =>
      cases h; obtain ⟨t2,rfl⟩:=sy
      rw [wq]
      exact .str_str _ _ _ _
    | tup q=>cases h; obtain ⟨a2,xs2,us2,rfl,r2,v2,p2⟩:=sy; exact .str_tuple _ _ p2 hu0
    | lst q=>cases h; obtain ⟨a2,xs2,us2,rfl,r2,v2,p2⟩:=sy; exact .str_list _ _ p2.isList hu0
    | ob _ _ _=>cases h
    | dct _ _=>cases h
    | exc _=>cases h
  | tup p =>
    obtain ⟨a1,xs1,us1,rfl,r1,v1,p1⟩:=sx
    cases y with
    | non=>cases h; cases sy; exact .tuple_none p1 hu0
    | bl q=>cases h; cases sy; exact .tuple_bool _ p1 hu0
    | int q=>cases h; obtain ⟨t2,rfl⟩:=sy; exact .tuple_int _ _ p1 hu0
    | str q=>cases h; obtain ⟨t2,rfl⟩:=sy; exact .tuple_str _ _ p1 hu0
    | tup q =>
      obtain ⟨a2,xs2,us2,rfl,r2,v2,p2⟩:=sy
      replace h:(eqZ (eqN n) p q).map (fun r=>r && p.length == q.length)=some b:=h
      cases e1:eqZ (eqN n) p q with
      | none=>rw [e1] at h; cases h
      | some r =>
        rw [e1] at h; cases h
        obtain ⟨e,g1,g2⟩:=go r1 r2 v1 v2 e1
        rw [g2,sY r1 v1,sY r2 v2]
        exact .tuples p1 p2 hu0 g1
    | lst q=>cases h; obtain ⟨a2,xs2,us2,rfl,r2,v2,p2⟩:=sy; exact .tuple_list p1 p2.isList hu0
    | ob _ _ _=>cases h
    | dct _ _=>cases h
    | exc _=>cases h
  | lst p =>
    obtain ⟨a1,xs1,us1,rfl,r1,v1,p1⟩:=sx
    cases y with
    | non=>cases h; cases sy; exact .list_none p1.isList hu0
    | bl q=>cases h; cases sy; exact .list_bool _ p1.isList hu0
    | int q=>cases h; obtain ⟨t2,rfl⟩:=sy; exact .list_int _ _ p1.isList hu0
    | str q=>cases h; obtain ⟨t2,rfl⟩:=sy; exact .list_str _ _ p1.isList hu0
    | tup q=>cases h; obtain ⟨a2,xs2,us2,rfl,r2,v2,p2⟩:=sy; exact .list_tuple p1.isList p2 hu0
    | lst q =>
      obtain ⟨a2,xs2,us2,rfl,r2,v2,p2⟩:=sy
      replace h:(if p.length=q.length then eqZ (eqN n) p q else some false)=some b:=h
      have hl1:=sY r1 v1
      have hl2:=sY r2 v2
      by_cases hl:p.length=q.length
      · rw [if_pos hl] at h
        obtain ⟨e,g1,g2⟩:=go r1 r2 v1 v2 h
        have hm:us1.toArray.size=us2.toArray.size:=hl1.symm.trans (hl.trans hl2)
        rw [g2, ← hm,Nat.min_self]
        exact .lists p1.isList p2.isList hm hu0 g1
      · rw [if_neg hl] at h; cases h
        exact .lists_lengths p1.isList p2.isList (by rw [← hl1, ← hl2]; exact bne_iff_ne.mpr hl) hu0
    | ob _ _ _=>cases h
    | dct _ _=>cases h
    | exc _=>cases h
  | ob _ _ _=>cases y <;> cases h
  | dct _ _=>cases y <;> cases h
  | exc _=>cases y <;> cases h
theorem BP (I:Inv X pins σ H s) : ∀ (n:Nat) {x y:D} {v u:V} {av au:Value} {b:Bool} {Ar:Around},aE (tx X c) A H x v→aE (tx X c) A H y u→RelV v av→RelV u au→eqN n x y=some b→Ar.units+n<cLine→RcNeAt Ar s av au (!b)
  | 0,_,_,_,_,_,_,_,_,_,_,_,_,h,_=>by cases h
  | n+1,_,_,_,_,_,_,_,_,rx,ry,rv,ru,h,hu=>zH (X:=X) (c:=c) (A:=A) (H:=H) (Dt I (zG I n) hu) (Nat.lt_of_le_of_lt (Nat.le_add_right _ _) hu) (rN I rx rv) (rN I ry ru) h
noncomputable def Fi (T:Tx)(neg:Bool):R2:=fun v u H Q=>∃ A x y b,aE T A H x v∧aE T A H y u∧eqN 100 x y=some b∧Q (.bl (if neg then !b else b)) H
theorem zI {k:Nat}(hr:fu k X.A):OpR X (compareOp .Eq) (Fi (tx X c) false):=by
  intro pins s σ H x y v u Q I rx ry h
  obtain ⟨A,dx,dy,b,r1,r2,e,q⟩:=h
  exact zG I 100 r1 r2 rx ry e (by have:=hr.un; omega) _ _ _ _ ⟨.bl b,H,I,rfl,q⟩
theorem zJ {k:Nat}(hr:fu k X.A):OpR X (compareOp .NotEq) (Fi (tx X c) true):=by
  intro pins s σ H x y v u Q I rx ry h
  obtain ⟨A,dx,dy,b,r1,r2,e,q⟩:=h
  exact BP I 100 r1 r2 rx ry e (by have:=hr.un; omega) _ _ _ _ ⟨.bl (!b),H,I,rfl,q⟩
theorem rO {T:Tx}(neg:Bool)(A:Addr→Prop)(H0 H:Hp)(x y:D)(v u:V)(d:D)(Q:VK)(nw:Nw A H)(rx:kR T A H0 H x v)(ry:kR T A H0 H y u)(e:eqF neg x y=some d)
    (k : ∀ w H',aG H H'→kD T A H H' d w→Q w H'):Fi T neg v u H Q:=by
  unfold eqF at e
  cases e1:eqN 100 x y with
  | none=>rw [e1] at e; cases e
  | some b=>rw [e1] at e; cases e; exact ⟨A,x,y,b,rx,ry,e1,k _ H (aG.refl _) (Rep.bl _)⟩
variable {a b e:Expr}{f g:FE}{pos:Pos}
theorem iP {k:Nat}(hr:fu k X.A)(ha:PR X c a f)(hb:PR X c b g):PD X c (.Compare a [.Eq] [b] pos) (fp2 (eqF false) f g):=o7 (zI hr) (rO false) ha hb (iJ _)
theorem bE {k:Nat}(hr:fu k X.A)(ha:PR X c a f)(hb:PR X c b g):PDT X c (.Compare a [.Eq] [b] pos) (ftB (fp2 (eqF false) f g)):=jb (zI hr) (rO false) ha hb (iJ _)
theorem zK {k:Nat}(hr:fu k X.A)(ha:PR X c a f)(hb:PR X c b g):PD X c (.Compare a [.NotEq] [b] pos) (fp2 (eqF true) f g):=o7 (zJ hr) (rO true) ha hb (iJ _)
theorem kM {k:Nat}(hr:fu k X.A)(ha:PR X c a f)(hb:PR X c b g):PDT X c (.Compare a [.NotEq] [b] pos) (ftB (fp2 (eqF true) f g)):=jb (zJ hr) (rO true) ha hb (iJ _)
theorem BQ {T:Tx}(neg:Bool)(A:Addr→Prop)(H0 H:Hp)(x:D)(v:V)(d:D)(Q:VK)(nw:Nw A H)(rx:kR T A H0 H x v)(e:dB neg x=some d)(k : ∀ w H',aG H H'→kD T A H H' d w→Q w H') :
    Q (.bl (if neg then !decide (v=.non) else decide (v=.non))) H:=by
  have hv : ∃ b,(if neg then !decide (v=V.non) else decide (v=V.non))=b∧d=.bl b:=by
    cases x with
    | non=>cases e; cases aE.lT rx; cases neg <;> exact ⟨_,rfl,by simp⟩
    | bl q=>cases e; cases aE.bl_ rx; cases neg <;> exact ⟨_,rfl,by simp⟩
    | int q=>cases e; cases aE.dz rx; cases neg <;> exact ⟨_,rfl,by simp⟩
    | str q=>cases e; cases aE.gr rx; cases neg <;> exact ⟨_,rfl,by simp⟩
    | tup q=>cases e; obtain ⟨_,_,rfl,_⟩:=aE.gq rx; cases neg <;> exact ⟨_,rfl,by simp⟩
    | lst q=>cases e; obtain ⟨_,_,rfl,_⟩:=aE.fY rx; cases neg <;> exact ⟨_,rfl,by simp⟩
    | ob _ _ _=>cases e; obtain ⟨_,_,_,_,rfl,_⟩:=Rep.ob_ (show Rep T A H (.ob _ _ _) _ from rx); cases neg <;> exact ⟨_,rfl,by simp⟩
    | dct _ _=>cases e; obtain ⟨_,_,rfl,_⟩:=Rep.Ba (show Rep T A H (.dct _ _) _ from rx); cases neg <;> exact ⟨_,rfl,by simp⟩
    | exc _=>cases e; obtain ⟨_,_,rfl,_⟩:=Rep.Et (show Rep T A H (.exc _) _ from rx); cases neg <;> exact ⟨_,rfl,by simp⟩
  obtain ⟨b,h1,rfl⟩:=hv
  rw [h1]
  exact k _ H (aG.refl _) (Rep.bl _)
variable {j:Nat}{p2:Pos}
theorem zL {t:TE}{T:Tx}{f:FE}(h : ∀ σ H Q,tP T (kD T) f σ H Q→t σ H Q){σ:L2.St}{H:Hp}{Q:Bool→Hp→Prop}(q:tP T kB (ftB f) σ H Q):tB t σ H Q:=h _ _ _ (mX q)
theorem rP {T:Tx}{neg:Bool}{σ:L2.St}{H:Hp}{Q:VK}(h:tP T (kD T) (fp1 (dB neg) f) σ H Q):tP T (kR T) f σ H fun x H1=>Q (.bl (if neg then !decide (x=.non) else decide (x=.non))) H1 :=
  sP (ρ:=kR T) (γ3:=V) (r:=fun x H1 (Q:VK)=>Q (.bl (if neg then !decide (x=.non) else decide (x=.non))) H1) (BQ neg) h
theorem zM (ha:PR X c a f):PD X c (.Compare a [.Is] [.Constant .none j p2] pos) (fp1 (dB false) f):=PE.imp (ym (yl ha)) fun _ _ _ h=>rP (neg:=false) h
theorem BR (ha:PR X c a f):PDT X c (.Compare a [.Is] [.Constant .none j p2] pos) (ftB (fp1 (dB false) f)):=PT.imp (uH (yl ha)) fun _ _ _ h=>zL (fun _ _ _ h=>rP (neg:=false) h) h
theorem qr (ha:PR X c a f):PD X c (.Compare a [.IsNot] [.Constant .none j p2] pos) (fp1 (dB true) f):=PE.imp (ym (vO ha)) fun _ _ _ h=>rP (neg:=true) h
theorem og (ha:PR X c a f):PDT X c (.Compare a [.IsNot] [.Constant .none j p2] pos) (ftB (fp1 (dB true) f)):=PT.imp (uH (vO ha)) fun _ _ _ h=>zL (fun _ _ _ h=>rP (neg:=true) h) h
end
end DL
end
section
namespace DL
open PySem PySem.Spec PyProof.Rows L2
theorem qt (i:Int)(n:Nat):max 0 (min (if i<0 then i+(n:Int) else i) n)=(((if i<0 then (i+(n:Int)).toNat else min i.toNat n):Nat):Int):=by
  by_cases h:i<0
  · simp only [if_pos h]; omega
  · simp only [if_neg h]; omega
theorem v8 (lo hi:Option Int)(n:Nat):Builtin.Str.strSliceIndices lo hi 1 n=(List.range (HT.sIx n n hi - HT.sIx n 0 lo)).map fun k=>HT.sIx n 0 lo+k:=by
  unfold Builtin.Str.strSliceIndices
  have hlo:((match lo with | none=>(0:Int) | some i=>max 0 (min (if i<0 then i+(n:Int) else i) n)):Int)=((HT.sIx n 0 lo:Nat):Int):=by
    cases lo with
    | none=>rfl
    | some i=>exact qt i n
  have hhi:((match hi with | none=>(n:Int) | some i=>max 0 (min (if i<0 then i+(n:Int) else i) n)):Int)=((HT.sIx n n hi:Nat):Int):=by
    cases hi with
    | none=>rfl
    | some i=>exact qt i n
  have h1:(1:Int) > 0:=by decide
  simp only [h1,if_true]
  have go : ∀ {a b a' b':Int},a=a'→b=b'→sliceRange a b 1=sliceRange a' b' 1:=fun h1 h2=>by rw [h1,h2]
  refine Eq.trans (go hlo hhi) ?_
  unfold sliceRange
  simp only [h1,if_true,Int.ediv_one,Int.one_mul]
  have hc:(if ((HT.sIx n 0 lo:Nat):Int)<((HT.sIx n n hi:Nat):Int) then ((HT.sIx n n hi:Nat):Int) - ((HT.sIx n 0 lo:Nat):Int)+1 - 1 else 0).toNat=HT.sIx n n hi - HT.sIx n 0 lo:=by
    split <;> omega
  rw [hc]
  apply List.map_congr_left
  intro k _
  omega
theorem xn (z:List Nat)(i k:Nat):((List.range k).map fun j=>i+j).filterMap (fun x=>z.toArray[x]?)=(z.drop i).take k:=by
  induction k with
  | zero=>simp
  | succ k ih =>
    rw [List.range_succ,List.map_append,List.filterMap_append,ih,List.take_add_one]
    congr 1
    rw [List.getElem?_drop]
    cases h:z[i+k]? with
    | none=>simp [h]
    | some v=>simp [h]
theorem xo (z:List Nat)(lo hi:Option Int):Txt.slice (mkS z) lo hi=mkS (cutD z lo hi):=by
  unfold Txt.slice cutD
  rw [gZ,v8]
  have e:(List.map (fun k=>HT.sIx z.length 0 lo+k) (List.range (HT.sIx z.length z.length hi - HT.sIx z.length 0 lo))).filterMap (fun x=>(mkS z).cps[x]?)=(z.drop (HT.sIx z.length 0 lo)).take (HT.sIx z.length z.length hi - HT.sIx z.length 0 lo):=xn z _ _
  by_cases c:((1:Int) == 1 && (List.map (fun k=>HT.sIx z.length 0 lo+k) (List.range (HT.sIx z.length z.length hi - HT.sIx z.length 0 lo))).length == z.length)=true
  · rw [if_pos c]
    have h:HT.sIx z.length z.length hi - HT.sIx z.length 0 lo=z.length:=by simpa using c
    have hle:=HT.yG z.length z.length (Nat.le_refl _) hi
    have h0:HT.sIx z.length 0 lo=0∨z=[]:=by
      by_cases hz:z.length=0
      · exact .inr (List.length_eq_zero_iff.mp hz)
      · exact .inl (by omega)
    rcases h0 with h0 | h0
    · rw [h0] at h ⊢
      rw [h,List.drop_zero,List.take_of_length_le (Nat.le_refl _)]
    · subst h0; simp
  · rw [if_neg c,e]
section
variable {X:Cx}{c:Ct}{xq:XQ}{a b e:Expr}{f g:FE}{pos:Pos}
theorem Fj:SlR X HL:=by
  intro pins s σ H x v vl vu lo hi sl Q I rx hs pl pu h
  obtain ⟨z,rfl,hz,q⟩:=h
  obtain ⟨t,rfl⟩:=rx
  have hz':(mkS z).length≤sizeLine:=small (by rw [gZ]; exact hz)
  refine ⟨"str",_,PySem.F.slot_str_getitem.lookup,typeIs_str _ _ _, ?_⟩
  rw [← xo] at q
  cases pl with
  | none =>
    cases pu with
    | none=>exact wpAny_getItem_str_slice (l:=none) (u:=none) (st:=none) hs rfl (post_val_or_str ⟨Nat.le_trans (Txt.slice_le _ _ _) hz',fun t' k=>⟨.str _,H,I.tok _,⟨_,rfl⟩,q⟩⟩)
    | int j uj=>exact wpAny_getItem_str_slice (l:=none) (u:=some (j,uj)) (st:=none) hs rfl (post_val_or_str ⟨Nat.le_trans (Txt.slice_le _ _ _) hz',fun t' k=>⟨.str _,H,I.tok _,⟨_,rfl⟩,q⟩⟩)
  | int i ui =>
    cases pu with
    | none=>exact wpAny_getItem_str_slice (l:=some (i,ui)) (u:=none) (st:=none) hs rfl (post_val_or_str ⟨Nat.le_trans (Txt.slice_le _ _ _) hz',fun t' k=>⟨.str _,H,I.tok _,⟨_,rfl⟩,q⟩⟩)
    | int j uj=>exact wpAny_getItem_str_slice (l:=some (i,ui)) (u:=some (j,uj)) (st:=none) hs rfl (post_val_or_str ⟨Nat.le_trans (Txt.slice_le _ _ _) hz',fun t' k=>⟨.str _,H,I.tok _,⟨_,rfl⟩,q⟩⟩)
theorem K8:SlR X (HM X.K):=B9.or (Ej.or Fj)
theorem gL {lo hi:Option Expr}{fl fh:FO}{p2:Pos}(ha:PR X c a f)(hl:PDO X c lo fl)(hh:PDO X c hi fh):PD X c (.Subscript a (.Slice lo hi none p2) pos) (iK slD f fl fh):=PE.imp (yI K8 ha hl hh) fun _ _ _ h=>EF EG h
structure DefX (X:Cx)(N:List Str)(sc:Scope):Prop where
  hN:X.N=N
  hsc:X.env.scope=sc
  calm:X.calm=true
  nd:N.Nodup
structure BU (X:Cx)(N:List Str)(sc:Scope):Prop extends DefX X N sc where
  fn : ∀ x,X.fn x=true
  never:PassesOwn (model X.prog X.w) X.A X.env X.xe
section
variable {N:List Str}{sc:Scope}
theorem DefX.nm (d:DefX X N sc){i:Nat}{x:Str}(h:N[i]?=some x)(hv:Vis sc x)(hd:(x == ("__debug__":Str))=false:=by decide +kernel)(hc:(x == ("__classdict__":Str))=false:=by decide +kernel):Nm X i x:=⟨by rw [d.hN]; exact h,by rw [d.hsc]; exact hv,hd,hc⟩
theorem DefX.gl (d:DefX X N sc){x:Str}(h:sc.names.lookup x=some .globalImplicit):Gl X x:=by
  show X.env.scope.names.lookup x=_
  rw [d.hsc]; exact h
theorem DefX.nlc (d:DefX X N sc){i:Nat}{x:Str}(h:N[i]?=some x)(hl:sc.names.lookup x=some .local):Nl X i x:=⟨by rw [d.hN]; exact d.nd,by rw [d.hN]; exact h,by rw [d.hsc]; exact .inl hl,by rw [d.hsc]; exact .inr hl⟩
theorem BU.nl (d:BU X N sc){i:Nat}{x:Str}(h:N[i]?=some x)(hl:Loc sc x):Nl X i x:=⟨by rw [d.hN]; exact d.nd,by rw [d.hN]; exact h,by rw [d.hsc]; exact hl,.inl (d.fn x)⟩
end
noncomputable def iA (scope sc:Scope):Scope:={ scope with names:=scope.names.map fun (n,k)=>if (k == NameKind.free && sc.kind == .function && sc.names.lookup n == some .cell) then (n,NameKind.cell) else (n,k) }
theorem DefX.comp {N:List Str}{sc scope:Scope}{N':List Str}{cl:List (Str × Addr)}{C:Addr}{s2:Shared}{H2:Hp}{fp:List Addr}(d:DefX X N sc)(hN':N'.Nodup):DefX (aO X scope cl N' C s2 H2 fp) N' (iA scope sc):=by
  refine ⟨rfl, ?_,d.calm,hN'⟩
  show (compEnvC scope cl C X.env).scope=_
  rw [← d.hsc]
  rfl
theorem d4:jr X [] (tP (tx X c) kB cH):=jr.imp zg fun σ H Q h=>by
  obtain ⟨W,O,env,b,E,e,q⟩:=h
  cases e
  exact q _ H (aG.refl _) rfl
theorem wt {t:FT}(h:PDT X c e t):jr X [e] (tP (tx X c) kB t):=zh h
variable {x:Str}{px:Pos}{iter elt tg:Expr}{ifs:List Expr}{scope sc:Scope}{N N':List Str}{nt:Nat}{cap:List Nat}{fi fe:FE}{ft:FT}{tgf:FG}{gt:TG}
theorem dR (d:DefX X N sc)(chk:fZ sc scope N N' nt cap)(hcap:cap.Nodup)(hN':N'.Nodup)(hi:PR X c iter fi)
    (hg : ∀ cl C s2 H2 fp,DefX (aO X scope cl N' C s2 H2 fp) N' (iA scope sc)→PG (aO X scope cl N' C s2 H2 fp) tg gt) (hge:nS nt gt) (sg:gJ (tx X c) tgf gt)
    (ht : ∀ cl C s2 H2 fp,DefX (aO X scope cl N' C s2 H2 fp) N' (iA scope sc)→jr (aO X scope cl N' C s2 H2 fp) ifs (tP (tx X c) kB ft))
    (he : ∀ cl C s2 H2 fp,DefX (aO X scope cl N' C s2 H2 fp) N' (iA scope sc)→PE (aO X scope cl N' C s2 H2 fp) elt (tP (tx X c) (kD (tx X c)) fe))
    (hs:lz iter=true:=by rfl):PF X c (.ListComp elt [⟨tg,iter,ifs,0⟩] scope pos) (dt nt cap tgf fi ft fe) :=
  PE.imp (mZ (tt:=tP (tx X c) kB ft) (te:=tP (tx X c) (kD (tx X c)) fe) d.hsc d.hN chk d.calm (v7 hi) (fun cl C s2 H2 fp=>hg cl C s2 H2 fp (d.comp hN')) hge (fun cl C s2 H2 fp=>ht cl C s2 H2 fp (d.comp hN')) (fun cl C s2 H2 fp=>he cl C s2 H2 fp (d.comp hN')) (dX hs)) fun _ _ _ h=>wa sg hcap h
theorem zN {p p2:Pos}{fs:FA}(d:DefX X N sc)(chk:fZ sc scope N N' nt cap)(hcap:cap.Nodup)(hN':N'.Nodup)(hgr:Gl X "range")(hm:X.mg "range"=none)(ha:PDA X c [a] fs)
    (hg : ∀ cl C s2 H2 fp,DefX (aO X scope cl N' C s2 H2 fp) N' (iA scope sc)→PG (aO X scope cl N' C s2 H2 fp) tg gt) (hge:nS nt gt) (sg:gJ (tx X c) tgf gt)
    (ht : ∀ cl C s2 H2 fp,DefX (aO X scope cl N' C s2 H2 fp) N' (iA scope sc)→jr (aO X scope cl N' C s2 H2 fp) ifs (tP (tx X c) kB ft))
    (he : ∀ cl C s2 H2 fp,DefX (aO X scope cl N' C s2 H2 fp) N' (iA scope sc)→PE (aO X scope cl N' C s2 H2 fp) elt (tP (tx X c) (kD (tx X c)) fe)) (hst:isStar a=false:=by rfl)
   :PF X c (.ListComp elt [⟨tg,.Call (.Name "range" p) [a] [] p2,ifs,0⟩] scope pos) (gC ka nt cap tgf fs ft fe) :=
  PE.imp (mZ (tt:=tP (tx X c) kB ft) (te:=tP (tx X c) (kD (tx X c)) fe) d.hsc d.hN chk d.calm (qc hgr hm ha (i7 hst)) (fun cl C s2 H2 fp=>hg cl C s2 H2 fp (d.comp hN')) hge (fun cl C s2 H2 fp=>ht cl C s2 H2 fp (d.comp hN')) (fun cl C s2 H2 fp=>he cl C s2 H2 fp (d.comp hN')) (dX rfl)) fun _ _ _ h=>zc sg hcap h
end
section
variable {P:Program}{w:World}{K:PySem.W.Frag}{mg:Str→Option Value}{base:Heap}{c:Ct}
structure BodyOk (P:Program)(w:World)(K:PySem.W.Frag)(mg:Str→Option Value)(base:Heap)(c:Ct)(N:List Str)(st:Stmt)(k:Nat)(F:FS):Prop where
  ok : ∀ X:Cx,X.prog=P→X.w=w→X.K=K→X.mg=mg→X.base=base→BU X N (aj st)→fu k X.A→md X c (fun _ _ _=>False) (ax st) F
theorem bO {x qual:Str}{st:Stmt}{fa:Addr}{fd:FuncData}{N ps:List Str}{k:Nat}{F:FS}(Fn:Fun K x qual st fa fd)(S:aU N ps (aj st))(hm:mg x=some (.ref fa))(hb:Binds K fd ps [])
    (body:BodyOk P w K mg base c N st k F):Def P w K mg base c x ps (k+1) (bG N.length F):=by
  refine ⟨fa,fd, ?_,hm,Fn.kp,hb⟩
  refine Fn.ok S (fun vs H Q E h=>h.1) fun cdv A outer s H vs Q E hr h=>⟨_,body.ok _ rfl rfl rfl rfl rfl ⟨⟨rfl,rfl,rfl,S.nd⟩,fun _=>rfl,PassesOwn.never⟩ hr, ?_⟩
  exact rB (E0:=E) h
theorem rQ {x qual:Str}{st:Stmt}{fa:Addr}{fd:FuncData}{N ps:List Str}{k:Nat}{F:FS}(Fn:Fun K x qual st fa fd)(S:aU N ps (aj st))(hm:mg x=some (.ref fa))(hb:Binds K fd ps [])
    (body:BodyOk P w K mg base c N st k F):mh P w K mg base c x ps (k+1) (kz N.length F):=by
  refine ⟨fa,fd, ?_,hm,Fn.kp,hb⟩
  refine Fn.ok S (fun vs H Q E h=>h.1) fun cdv A outer s H vs Q E hr h=>⟨_,body.ok _ rfl rfl rfl rfl rfl ⟨⟨rfl,rfl,rfl,S.nd⟩,fun _=>rfl,PassesOwn.never⟩ hr, ?_⟩
  exact ze (E0:=E) h
theorem iQ {x qual:Str}{st:Stmt}{fa:Addr}{fd:FuncData}{ps:List Str}{k:Nat}(Fn:Fun K x qual st fa fd)(hm:mg x=some (.ref fa))(hb:Binds K fd ps []):Def P w K mg base c x ps k (fun _=>none) :=
  ⟨fa,fd,⟨fun vs H Q E h=>(by obtain ⟨_,_,_,_,_,_,h,_⟩:=h; cases h),fun A outer s H args us vs Q E _ _ _ _ h=>(by obtain ⟨_,_,_,_,_,_,h,_⟩:=h; cases h)⟩,hm,Fn.kp,hb⟩
end
end DL
end
section
namespace DL
open PySem PySem.Spec PyProof.Rows L2
section
variable {P:Program}{w:World}{K:PySem.W.Frag}{mg:Str→Option Value}{base:Heap}{c:Ct}
theorem vT {x qual:Str}{st:Stmt}{fa:Addr}{fd:FuncData}{N ps:List Str}{k:Nat}{F:FS}(Fn:Fun K x qual st fa fd)(S:aU N ps (aj st))
    (body:BodyOk P w K mg base c N st k F):jw P w K mg base CX0 (k+1) fa fd ps (spD ⟨K,c.cl,c.fld⟩ ps.length (bG N.length F)):=by
  refine Fn.ok S (fun vs H Q E h=>h.1) fun cdv A outer s H vs Q E hr h=>⟨_,body.ok _ rfl rfl rfl rfl rfl ⟨⟨rfl,rfl,rfl,S.nd⟩,fun _=>rfl,PassesOwn.never⟩ hr, ?_⟩
  exact rB (E0:=E) h
noncomputable def cOk:D→Value→Bool
  | .str x,.str y _=>mkS x == y
  | .int i,.int j _=>i == j
  | _,_=>false
noncomputable def BV:List D→List Value→Bool
  | [],[]=>true
  | d::ds,v::vs=>cOk d v && BV ds vs
  | _,_=>false
theorem wu {T:Tx}{d:D}{u:Value}(h:cOk d u=true) : ∃ v,RelV v u∧∀ A H,Rep T A H d v:=by
  unfold cOk at h
  split at h
  · next x y t=>exact ⟨.str y,⟨t,rfl⟩,fun A H=>by rw [← eq_of_beq h]; exact .str _⟩
  · next i j t=>exact ⟨.int j,⟨t,rfl⟩,fun A H=>by rw [← eq_of_beq h]; exact .int _⟩
  · cases h
theorem sZ {T:Tx} : ∀ {ds:List D} {us:List Value},BV ds us=true→∃ vs,Vals vs us∧∀ A H,aI T A H ds vs
  | [],[],_=>⟨[],.nil,fun A H=>.nil⟩
  | d::ds,v::vs,h=>by
    unfold BV at h
    rw [Bool.and_eq_true] at h
    obtain ⟨x,r,e⟩:=wu (T:=T) h.1
    obtain ⟨xs,rs,es⟩:=sZ (T:=T) h.2
    exact ⟨x::xs,.cons r rs,fun A H=>.cons (e A H) (es A H)⟩
  | [],_::_,h=>by cases h
  | _::_,[],h=>by cases h
noncomputable def zO (ds:List D)(o:Obj):Bool:=match o.cls,o.data with
  | .type n,.seq its _=>n == "tuple" && decide (its.size≤sizeLine) && BV ds its.toList
  | _,_=>false
theorem xp {x:Str}{a:Addr}{o:Obj}{ds:List D}(hm:mg x=some (.ref a))(hl:K.lookup a=some o)(hc:zO ds o=true) : ∃ v u,mg x=some u∧RelV v u∧∀ A H,Rep ⟨K,c.cl,c.fld⟩ A H (.tup ds) v:=by
  refine ⟨.ref a,.ref a,hm,rfl,fun A H=>?_⟩
  unfold zO at hc
  split at hc
  · next n its m e1 e2 =>
    rw [Bool.and_eq_true,Bool.and_eq_true] at hc
    obtain ⟨vs,h1,h2⟩:=sZ (T:=⟨K,c.cl,c.fld⟩) hc.2
    have e3:n="tuple":=eq_of_beq hc.1.1
    exact .tup (.inr ⟨o,its,m,hl,by rw [e1,e3],e2,of_decide_eq_true hc.1.2,h1⟩) (h2 A H)
  · cases hc
theorem fI {x:Str}{u:Value}{d:D}(hm:mg x=some u)(hc:cOk d u=true) : ∃ v u,mg x=some u∧RelV v u∧∀ A H,Rep ⟨K,c.cl,c.fld⟩ A H d v:=by
  obtain ⟨v,r,e⟩:=wu (T:=⟨K,c.cl,c.fld⟩) hc
  exact ⟨v,u,hm,r,e⟩
theorem tab_of {x:Str}{a:Addr}{tb:List (List Nat × Int)}(hm:mg x=some (.ref a))(e:KTD.tabLook KTD.flatLooks (fun b=>K.lookup b) a (tb.map fun p=>(mkS p.1,PyData.int p.2))=true)(n:((tb.map fun p=>(mkS p.1,PyData.int p.2)).map (·.1)).Nodup)
    (q:KTD.hashesOf (fun b=>K.lookup b) a=(tb.map fun p=>(mkS p.1,PyData.int p.2)).map fun p=>(PySem.strKind P w).hash p.1) : ∃ a,mg x=some (.ref a)∧∀ h,K.In h→StrTab P w h a (PySem.W.kdpD (tb.map fun p=>(mkS p.1,p.2))):=by
  refine ⟨a,hm,fun h k=>?_⟩
  have t:=PySem.W.kt_tab_in P w k e n q
  have hh:(tb.map fun p=>(mkS p.1,PyData.int p.2)).map (fun p=>(PyData.str p.1,p.2))=PySem.W.kdpD (tb.map fun p=>(mkS p.1,p.2)):=by
    unfold PySem.W.kdpD
    rw [List.map_map,List.map_map]
    rfl
  rw [hh] at t
  exact t
end
theorem ints_rep {T:Tx}{A:Addr→Prop}{H:Hp} : ∀ ns:List Int,aI T A H (ns.map D.int) (ns.map V.int)
  | []=>.nil
  | n::ns=>.cons (.int n) (ints_rep ns)
end DL
end
section
namespace DL
open PySem PySem.Spec PyProof.Rows L2
noncomputable def xt (ds:List D):List D→Option (List D)
  | [x]=>if ds.length<1000000 then some (ds++[x]) else none
  | _=>none
noncomputable def jF (i:Nat)(f:FE):FS:=m5 i xt (ah f ay)
section
variable {X:Cx}{c:Ct}{xq:XQ}{e:Expr}{f:FE}{pos:Pos}
theorem vc {T:Tx}(A:Addr→Prop)(H:Hp)(a:Addr)(ds:List D)(xs:List V)(x:List D)(y:List V)(ds':List D)(Q:VK)(hl:H a=some (.lst xs))(r:aI T A H ds xs)(_ : ∀ b,A b→b≠a)(ra:kA T A H H x y)(e:xt ds x=some ds')
    (k : ∀ ys,(∀ A' H',(∀ d v,Rep T A H d v→Rep T A' H' d v)→(∀ d v,aI T A H d v→aI T A' H' d v)→aI T A' H' ds' ys)→∀ w,Q w (upd H a (.lst ys))):vZ (.ref a) y H Q:=by
  unfold xt at e
  split at e
  · next d =>
    split at e
    · next hz =>
      cases e
      obtain ⟨v,r1,rfl,h1,h2⟩:=aI.dW ra
      have h3:=h2.j8
      subst h3
      refine ⟨a,xs,v,rfl,rfl,hl, ?_,k _ (fun A' H' g gl=>?_) _⟩
      · rw [← r.length]; exact Nat.lt_of_lt_of_le hz (by decide)
      · exact (gl _ _ r).append (.cons (g _ _ h1) .nil)
    · cases e
  · cases e
theorem oh {i:Nat}{x:Str}{p1 p2 p3:Pos}(n:Nm X i x)(he:PD X c e f)(hs:isStar e=false:=by rfl)(hl:(p2.endLine == p3.line)=true:=by rfl) :
    PDS X c xq (.Expr (.Call (.Attribute (.Name x p1) "append" p2) [e] [] p3) pos) (jF i f):=by
  refine PS.imp (vQ (D5 PySem.F.plainAttrs_list PySem.F.slot_list_append PySem.F.type_list_append x8 (ku n.hN n.hv n.hd n.hc) (af he ar hs) rfl (by rw [i7 hs]; rfl) hl (bq hs) rfl) (gK rfl)) fun De σ H h=>?_
  obtain ⟨v,h1,⟨xs,_,a,rfl,ha⟩,h3⟩:=w6 (tf:=tP (tx X c) (kA (tx X c)) (ah f ay)) (fun Q h=>h) vc (fun _ _ _ _ _ h=>h) h
  obtain ⟨W,O,env,x,E,e1,q⟩:=h3
  exact ⟨.ref a,h1,.inl ⟨rfl,xs,SqL.of ha⟩,W,O,env,x,E,e1,fun v H' s r=>(q v H' s r).2⟩
end
end DL
end
section
namespace DL
open PySem PySem.Spec PyProof.Rows L2
section
variable {X:Cx}{c:Ct}{xq:XQ}{e elt a b iter tg:Expr}{pos:Pos}{gens:List Comprehension}{ifs:List Expr}{scope sc:Scope}{N N':List Str}{nt:Nat}{cap:List Nat}{fi fe:FE}{ft:FT}{tgf:FG}{gt:TG}
noncomputable def PFc (X:Cx)(c:Ct)(e:Expr)(ff:FP (List D)):Prop:=PF X c e ff∧∀ (i:Nat) (x:Str) (pos' spos:Pos),Nl X i x→swapsWith e (some (.Name x pos')) spos.line X.env=pure true→PS X (.Assign [.Name x pos'] e spos) (qZ (tP (tx X c) (kF (tx X c)) ff) (jv i))
theorem xu {x:Str}{pos':Pos}{l:Nat}(d:DefX X N sc)(h:(sc.kind == .function && sc.names.lookup x == some .local && pos'.line == pos.line && !(scope.names.any fun (n,k)=>n == x && (k == .local || k == .cell)))=true) :
    swapsWith (.ListComp elt gens scope pos) (some (.Name x pos')) l X.env=pure true:=by
  rw [← d.hsc] at h
  have hk:X.env.scope.kind=.function:=by
    simp only [Bool.and_eq_true] at h
    exact eq_of_beq h.1.1.1
  have hb:X.env.blockKind=X.env.scope.kind:=by
    unfold Env.blockKind
    rw [hk]
    rfl
  show (pure (X.env.blockKind == .function && X.env.kindOf x == some .local && pos'.line == pos.line && !(scope.names.any fun (n,k)=>n == x && (k == .local || k == .cell))):Sem Bool)=pure true
  rw [hb]
  exact congrArg pure h
theorem zP {i:Nat}{x:Str}{pos' spos:Pos}{ff:FP (List D)}(d:DefX X N sc)(n:Nl X i x)(h:PFc X c (.ListComp elt gens scope pos) ff)(hs:(sc.kind == .function && sc.names.lookup x == some .local && pos'.line == pos.line && !(scope.names.any fun (n,k)=>n == x && (k == .local || k == .cell)))=true) :
    PDS X c xq (.Assign [.Name x pos'] (.ListComp elt gens scope pos) spos) (bh i (cW ff)):=PS.imp (h.2 i x pos' spos n (xu d hs)) fun _ _ _ h=>D8 (w5 h)
theorem zQ (d:DefX X N sc)(chk:fZ sc scope N N' nt cap)(hcap:cap.Nodup)(hN':N'.Nodup)(hi:PR X c iter fi)
    (hg : ∀ cl C s2 H2 fp,DefX (aO X scope cl N' C s2 H2 fp) N' (iA scope sc)→PG (aO X scope cl N' C s2 H2 fp) tg gt) (hge:nS nt gt) (sg:gJ (tx X c) tgf gt)
    (ht : ∀ cl C s2 H2 fp,DefX (aO X scope cl N' C s2 H2 fp) N' (iA scope sc)→jr (aO X scope cl N' C s2 H2 fp) ifs (tP (tx X c) kB ft))
    (he : ∀ cl C s2 H2 fp,DefX (aO X scope cl N' C s2 H2 fp) N' (iA scope sc)→PE (aO X scope cl N' C s2 H2 fp) elt (tP (tx X c) (kD (tx X c)) fe))
    (hs:lz iter=true:=by rfl):PFc X c (.ListComp elt [⟨tg,iter,ifs,0⟩] scope pos) (dt nt cap tgf fi ft fe) :=
  ⟨dR d chk hcap hN' hi hg hge sg ht he hs,fun i x pos' spos n hsw=>PS.imp (rD (tt:=tP (tx X c) kB ft) (te:=tP (tx X c) (kD (tx X c)) fe) d.hsc d.hN chk d.calm (v7 hi) (fun cl C s2 H2 fp=>hg cl C s2 H2 fp (d.comp hN')) hge (fun cl C s2 H2 fp=>ht cl C s2 H2 fp (d.comp hN')) (fun cl C s2 H2 fp=>he cl C s2 H2 fp (d.comp hN')) n.nd n.hN n.hl n.hf hsw (dX hs)) fun _ _ _ h=>wa sg hcap h⟩
end
end DL
end
section
namespace DL
open PySem PySem.Spec PyProof.Rows L2
theorem xv {P:Program}{w:World}{K:PySem.W.Frag}{tg:Expr}(z:List Nat)(t:Tok)(it:Addr):Turn P w K tg (Its z) [it] it (fun i h=>h.IsStrIter it "str_ascii_iterator" (mkS z) t i∧i≤z.length) where
  mem:=by simp
  obj:=fun i h st b hb=>by
    have e:b=it:=by simpa using hb
    subst e
    obtain ⟨⟨o,e,c,d⟩,_⟩:=st
    exact ⟨o,e,fun v z=>by rw [d] at z; cases z⟩
  keep:=fun i h h' st k=>⟨let ⟨o,ho,r⟩:=st.1; ⟨o,k it (by simp) o ho,r⟩,st.2⟩
  item:=by
    intro X hP hw hK hc i pins s σ H E I hf st hg
    subst hP hw hK
    have hg':i<z.length:=hg
    obtain ⟨f0,f1,f2,f3,f4,f5⟩:=hf it (by simp)
    refine wpAny_pyNext_ascii_item st.1 (c:=z[i]) (by simp [hg']) fun h' st' sb=>?_
    have I1:Inv X pins σ H { s with heap:=h',toks:=s.toks+1 }:=I.turned (t':=s.toks+1) (fun b o hb e=>(sb.2 b hb).trans e) f0 f1 f3 f4 f5
    obtain ⟨o,e,c,d⟩:=id st'
    exact ⟨_,rfl,qb (s:={ s with heap:=h',toks:=s.toks+1 }) e c d (by decide) ⟨.str (mkS [z[i]]),H,I1,⟨_,rfl⟩,⟨rfl,z[i],by simp [hg'],rfl⟩,⟨st',hg'⟩,fun b hb=>(hf b hb).1⟩⟩
  done:=by
    intro X hP hw hK hc i pins s σ H E I hf st hg
    subst hP hw hK
    have hg':z.length≤i:=hg
    obtain ⟨f0,f1,f2,f3,f4,f5⟩:=hf it (by simp)
    exact wpAny_pyNext_ascii_end (I.ok.hd hc) st.1 (by simp [hg']) fun h' eb=>⟨rfl,I.turned (t':=s.toks) (fun b o hb e=>eb b o hb e) f0 f1 f3 f4 f5⟩
  self:=fun _ _ _ _ _ st h=>wpAny_pyIter_striter_ascii st.1 h
theorem xw {P:Program}{w:World}{K:PySem.W.Frag}{tg:Expr}(z:List Nat)(t:Tok)(it:Addr):Turn P w K tg (Its z) [it] it (fun i h=>h.IsStrIter it "str_iterator" (mkS z) t i∧i≤z.length) where
  mem:=by simp
  obj:=fun i h st b hb=>by
    have e:b=it:=by simpa using hb
    subst e
    obtain ⟨⟨o,e,c,d⟩,_⟩:=st
    exact ⟨o,e,fun v z=>by rw [d] at z; cases z⟩
  keep:=fun i h h' st k=>⟨let ⟨o,ho,r⟩:=st.1; ⟨o,k it (by simp) o ho,r⟩,st.2⟩
  item:=by
    intro X hP hw hK hc i pins s σ H E I hf st hg
    subst hP hw hK
    have hg':i<z.length:=hg
    obtain ⟨f0,f1,f2,f3,f4,f5⟩:=hf it (by simp)
    refine wpAny_pyNext_wide_item st.1 (c:=z[i]) (by simp [hg']) fun h' st' sb=>?_
    have I1:Inv X pins σ H { s with heap:=h',toks:=s.toks+1 }:=I.turned (t':=s.toks+1) (fun b o hb e=>(sb.2 b hb).trans e) f0 f1 f3 f4 f5
    obtain ⟨o,e,c,d⟩:=id st'
    exact ⟨_,rfl,qb (s:={ s with heap:=h',toks:=s.toks+1 }) e c d (by decide) ⟨.str (mkS [z[i]]),H,I1,⟨_,rfl⟩,⟨rfl,z[i],by simp [hg'],rfl⟩,⟨st',hg'⟩,fun b hb=>(hf b hb).1⟩⟩
  done:=by
    intro X hP hw hK hc i pins s σ H E I hf st hg
    subst hP hw hK
    have hg':z.length≤i:=hg
    obtain ⟨f0,f1,f2,f3,f4,f5⟩:=hf it (by simp)
    exact wpAny_pyNext_wide_end (I.ok.hd hc) st.1 (by simp [hg']) fun h' eb=>⟨rfl,I.turned (t':=s.toks) (fun b o hb e=>eb b o hb e) f0 f1 f3 f4 f5⟩
  self:=fun _ _ _ _ _ st h=>wpAny_pyIter_striter_wide st.1 h
section
variable {X:Cx}{c:Ct}{xq:XQ}{tg:Expr}
theorem zR {l:Expr}{tl:TE}(hl:PE X l tl):PI X tg l (HN tl):=by
  intro pins s σ H R I h
  refine bH (hl pins s σ H _ I h) fun v s1 x H1 I1 r1 q1=>?_
  obtain ⟨z,e,hz,q⟩:=q1
  subst e
  obtain ⟨t,rfl⟩:=r1
  have fp : ∀ b∈[s1.heap.objs.size],mQ X pins H1 b:=fun b hb=>by
    have e:b=s1.heap.objs.size:=by simpa using hb
    subst e
    exact I1.sJ (Nat.le_refl _) (I1.hok.fresh (Nat.le_refl _))
  cases ha:(mkS z).cps.all (·<128)
  · refine wpAny_pyIter_wide ha ?_
    exact ⟨s1.heap.objs.size,[s1.heap.objs.size],_,_,H1,rfl,I1.kept (t':=s1.toks) fun b o e=>Heap.get?_push_of_some _ e,xw z t _,⟨⟨_,Heap.get?_push_size _ rfl,rfl,rfl⟩,Nat.zero_le _⟩,fp,q⟩
  · refine wpAny_pyIter_ascii ha ?_
    exact ⟨s1.heap.objs.size,[s1.heap.objs.size],_,_,H1,rfl,I1.kept (t':=s1.toks) fun b o e=>Heap.get?_push_of_some _ e,xv z t _,⟨⟨_,Heap.get?_push_size _ rfl,rfl,rfl⟩,Nat.zero_le _⟩,fp,q⟩
variable {elt iter:Expr}{pos:Pos}{ifs:List Expr}{scope sc:Scope}{N N':List Str}{nt:Nat}{cap:List Nat}{fi fe:FE}{ft:FT}{tgf:FG}{gt:TG}{F:FS}
theorem xy (d:DefX X N sc)(chk:fZ sc scope N N' nt cap)(hcap:cap.Nodup)(hN':N'.Nodup)(hi:PD X c iter fi)
    (hg : ∀ cl C s2 H2 fp,DefX (aO X scope cl N' C s2 H2 fp) N' (iA scope sc)→PG (aO X scope cl N' C s2 H2 fp) tg gt) (hge:nS nt gt) (sg:gJ (tx X c) tgf gt)
    (ht : ∀ cl C s2 H2 fp,DefX (aO X scope cl N' C s2 H2 fp) N' (iA scope sc)→jr (aO X scope cl N' C s2 H2 fp) ifs (tP (tx X c) kB ft))
    (he : ∀ cl C s2 H2 fp,DefX (aO X scope cl N' C s2 H2 fp) N' (iA scope sc)→PE (aO X scope cl N' C s2 H2 fp) elt (tP (tx X c) (kD (tx X c)) fe))
    (hs:lz iter=true:=by rfl):PFc X c (.ListComp elt [⟨tg,iter,ifs,0⟩] scope pos) (ja nt cap tgf fi ft fe) :=
  ⟨PE.imp (mZ (tt:=tP (tx X c) kB ft) (te:=tP (tx X c) (kD (tx X c)) fe) d.hsc d.hN chk d.calm (zR hi) (fun cl C s2 H2 fp=>hg cl C s2 H2 fp (d.comp hN')) hge (fun cl C s2 H2 fp=>ht cl C s2 H2 fp (d.comp hN')) (fun cl C s2 H2 fp=>he cl C s2 H2 fp (d.comp hN')) (dX hs)) fun _ _ _ h=>sT sg hcap h,
   fun i x pos' spos n hsw=>PS.imp (rD (tt:=tP (tx X c) kB ft) (te:=tP (tx X c) (kD (tx X c)) fe) d.hsc d.hN chk d.calm (zR hi) (fun cl C s2 H2 fp=>hg cl C s2 H2 fp (d.comp hN')) hge (fun cl C s2 H2 fp=>ht cl C s2 H2 fp (d.comp hN')) (fun cl C s2 H2 fp=>he cl C s2 H2 fp (d.comp hN')) n.nd n.hN n.hl n.hf hsw (dX hs)) fun _ _ _ h=>sT sg hcap h⟩
theorem t7 (d:DefX X N sc)(chk:fZ sc scope N N' nt cap)(hcap:cap.Nodup)(hN':N'.Nodup)(hi:PD X c iter fi)
    (hg : ∀ cl C s2 H2 fp,DefX (aO X scope cl N' C s2 H2 fp) N' (iA scope sc)→PG (aO X scope cl N' C s2 H2 fp) tg gt) (hge:nS nt gt) (sg:gJ (tx X c) tgf gt)
    (ht : ∀ cl C s2 H2 fp,DefX (aO X scope cl N' C s2 H2 fp) N' (iA scope sc)→jr (aO X scope cl N' C s2 H2 fp) ifs (tP (tx X c) kB ft))
    (he : ∀ cl C s2 H2 fp,DefX (aO X scope cl N' C s2 H2 fp) N' (iA scope sc)→PE (aO X scope cl N' C s2 H2 fp) elt (tP (tx X c) (kD (tx X c)) fe))
    (hs:lz iter=true:=by rfl):PF X c (.ListComp elt [⟨tg,iter,ifs,0⟩] scope pos) (ja nt cap tgf fi ft fe):=(xy d chk hcap hN' hi hg hge sg ht he hs).1
end
end DL
end
section
namespace DL
open PySem PySem.Spec PyProof.Rows L2
noncomputable def Fl:D→D→Option D:=intD fun i j=>some (.int (i+j))
section
variable {X:Cx}{c:Ct}{xq:XQ}{e:Expr}{f:FE}{pos:Pos}
theorem BW {T:Tx}{g:Int→Int→Int}(A:Addr→Prop)(H:Hp)(x y:D)(v u:V)(d:D)(Q:VK)(_:Nw A H)(rx:Rep T A H x v)(ry:Rep T A H y u)(e:intD (fun i j=>some (.int (g i j))) x y=some d)
    (k : ∀ w H',aG H H'→Rep T A H' d w→Q w H'):ipI g v u H Q:=by
  unfold intD at e
  split at e
  · next i j =>
    cases e
    cases rx.dz
    cases ry.dz
    exact ⟨i,j,rfl,rfl,k _ _ (aG.refl H) (.int _)⟩
  · cases e
theorem t9 {i:Nat}{x:Str}{p:Pos}(n:Nl X i x)(he:PD X c e f):PDS X c xq (.AugAssign (.Name x p) .Add e pos) (sR i Fl f) :=
  PS.imp (E5 n.nd n.hN n.hl he E7 n.hf) fun _ _ _ h=>Bt (BW (g:=fun i j=>i+j)) h
noncomputable def Du (i j:Nat):FS:=fun env=>match env[j]? with
  | some (.own ds)=>(ds.getLast?).map fun d=>.nx ((env.set j (.own ds.dropLast)).set i (.val d))
  | _=>none
end
end DL
end
section
namespace DL
open PySem PySem.Spec PyProof.Rows L2
noncomputable def kN:D→Option Int
  | .int i=>some i
  | _=>none
theorem jU {d:D}{i:Int}(h:kN d=some i):d=.int i:=by
  unfold kN at h
  split at h
  · cases h; rfl
  · cases h
noncomputable def ltB (i j:Int):Bool:=decide (i<j)
noncomputable def leB (i j:Int):Bool:=decide (i≤j)
noncomputable def gtB (i j:Int):Bool:=decide (j<i)
noncomputable def geB (i j:Int):Bool:=decide (j≤i)
noncomputable def h7 (r r':Int→Int→Bool)(f g k:FE):FE:=fun env=>(f env).bind fun x=>(kN x).bind fun i=>(g env).bind fun y=>(kN y).bind fun j=>if r i j=true then (k env).bind fun z=>(kN z).bind fun l=>some (.bl (r' j l)) else some (.bl false)
@[simp] theorem Jz (i:Int):kN (.int i)=some i:=(Eq.refl _).trans (Eq.refl _)
@[simp] theorem Fp (r r':Int→Int→Bool)(f g k:FE)(env:aN):h7 r r' f g k env=aL (f env) fun x=>aL (kN x) fun i=>aL (g env) fun y=>aL (kN y) fun j=>ifK (aL (k env) fun z=>aL (kN z) fun l=>some (.bl (r' j l))) (some (.bl false)) (r i j):=(Eq.refl _).trans (Eq.refl _)
@[simp] theorem K9 (i j:Int):ltB i j=decide (i<j):=(Eq.refl _).trans (Eq.refl _)
@[simp] theorem Ka (i j:Int):leB i j=decide (i≤j):=(Eq.refl _).trans (Eq.refl _)
@[simp] theorem Kb (i j:Int):gtB i j=decide (j<i):=(Eq.refl _).trans (Eq.refl _)
@[simp] theorem Kc (i j:Int):geB i j=decide (j≤i):=(Eq.refl _).trans (Eq.refl _)
theorem tj {T:Tx}{r r':Int→Int→Bool}{f g k:FE}{σ:L2.St}{H:Hp}{Q:VK}(h:tP T (kD T) (h7 r r' f g k) σ H Q) :
    uN (rI0 fun i j=>.bl (r i j)) (rI0 fun i j=>.bl (r' i j)) (tP T (kD T) f) (tP T (kD T) g) (tP T (kD T) k) σ H Q:=by
  obtain ⟨W,O,env,d,E,e,q⟩:=h
  unfold h7 at e
  cases e1:f env with
  | none=>rw [e1] at e; cases e
  | some x =>
    rw [e1] at e
    dsimp only [Option.bind_some] at e
    cases e2:kN x with
    | none=>rw [e2] at e; cases e
    | some i =>
      rw [e2] at e
      dsimp only [Option.bind_some] at e
      cases jU e2
      cases e3:g env with
      | none=>rw [e3] at e; cases e
      | some y =>
        rw [e3] at e
        dsimp only [Option.bind_some] at e
        cases e4:kN y with
        | none=>rw [e4] at e; cases e
        | some j =>
          rw [e4] at e
          dsimp only [Option.bind_some] at e
          cases jU e4
          refine ⟨W,O,env,_,E,e1,fun v1 H1 s1 r1=>⟨W,O,env,_,E.mono s1,e3,fun v2 H2 s2 r2=>?_⟩⟩
          cases Rep.dz r1
          cases Rep.dz r2
          refine ⟨i,j,rfl,rfl,r i j,rfl, ?_⟩
          by_cases hb:r i j=true
          · rw [if_pos hb] at e ⊢
            cases e5:k env with
            | none=>rw [e5] at e; cases e
            | some z =>
              rw [e5] at e
              dsimp only [Option.bind_some] at e
              cases e6:kN z with
              | none=>rw [e6] at e; cases e
              | some l =>
                rw [e6] at e
                cases e
                cases jU e6
                refine ⟨W,O,env,_,E.mono (s1.trans s2),e5,fun v3 H3 s3 r3=>?_⟩
                cases Rep.dz r3
                exact ⟨j,l,rfl,rfl,q _ _ ((s1.trans s2).trans s3) (.bl _)⟩
          · rw [if_neg hb] at e ⊢
            cases e
            exact q _ _ (s1.trans s2) (.bl _)
inductive Od where
  | lt | le | gt | ge
noncomputable def Od.op:Od→CmpOp
  | .lt=>.Lt | .le=>.LtE | .gt=>.Gt | .ge=>.GtE
noncomputable def Od.b:Od→Int→Int→Bool
  | .lt=>ltB | .le=>leB | .gt=>gtB | .ge=>geB
section
variable {X:Cx}{c:Ct}{a b k:Expr}{f g h:FE}{pos:Pos}
theorem Od.ok (o:Od):OpR X (compareOp o.op) (rI0 fun i j=>.bl (o.b i j)):=by
  cases o
  · exact yy
  · exact yz
  · exact D1
  · exact D2
theorem tm (o o':Od)(ha:PD X c a f)(hb:PD X c b g)(hk:PD X c k h){q q':CmpOp}(e:q=o.op:=by rfl)(e':q'=o'.op:=by rfl)(hm:lastMarks [q,q'] [b,k]=false:=by with_unfolding_all rfl) :
    PD X c (.Compare a [q,q'] [b,k] pos) (h7 o.b o'.b f g h):=by
  subst e e'
  exact PE.imp (yB o.ok o'.ok ha hb hk hm) fun _ _ _ h=>tj h
theorem qu (o o':Od)(ha:PD X c a f)(hb:PD X c b g)(hk:PD X c k h){q q':CmpOp}(e:q=o.op:=by rfl)(e':q'=o'.op:=by rfl)(hm:lastMarks [q,q'] [b,k]=false:=by with_unfolding_all rfl) :
    PDT X c (.Compare a [q,q'] [b,k] pos) (ftB (h7 o.b o'.b f g h)):=by
  subst e e'
  exact PT.imp (yC o.ok o'.ok ha hb hk hm) fun _ _ _ h=>tj (mX h)
end
@[simp] theorem Dv (i:Nat)(f:FE)(env:aN):jF i f env=aL (ki env[i]?) fun ds=>aL (f env) fun x=>if ds.length<1000000 then some (.nx (env.set i (.own (ds++[x])))) else none:=by
  unfold jF m5
  cases h:env[i]? with
  | none=>rfl
  | some s =>
    cases s with
    | own ds =>
      show ((ah f ay env).bind fun x=>(xt ds x).map fun ds'=>DFl.nx (env.set i (.own ds')))=aL (some ds) _
      rw [dj,xk]
      cases f env with
      | none=>rfl
      | some x =>
        rw [dj,dj,zp,dj]
        show (xt ds [x]).map _=_
        unfold xt
        dsimp only
        split <;> rfl
    | _=>rfl
@[simp] theorem Iv (i j:Nat)(env:aN):Du i j env=aL (ki env[j]?) fun ds=>omap (fun d=>.nx ((env.set j (.own ds.dropLast)).set i (.val d))) ds.getLast?:=by
  unfold Du
  cases h:env[j]? with
  | none=>rfl
  | some s=>cases s <;> rfl
end DL
end
section
namespace DL
open PySem PySem.Spec PyProof.Rows L2
theorem hU : ∀ {ns:List Int} {us:List Value},Vals (ns.map V.int) us→IntsAre us ns
  | [],_,.nil=>.nil
  | n::ns,_,.cons r t=>by
    obtain ⟨k,rfl⟩:=r
    exact .cons n k (hU t)
section
variable {X:Cx}{c:Ct}{e:Expr}{f:FE}{pos:Pos}
theorem xA (hc:X.calm=true):iL X (.builtin "sum") (fun xs H Q=>∃ (a:Addr) (ns:List Int),xs=[.ref a]∧SqL X.K H a (ns.map V.int)∧Q (.int ns.sum) H):=by
  intro pins s σ H xs us Q I r h
  obtain ⟨a,ns,rfl,hS,q⟩:=h
  obtain ⟨u,rfl,ru⟩:=vals1 r
  cases ru
  obtain ⟨its,rv,p,hz⟩:=I.list hS
  have hi:=hU rv
  obtain ⟨ys,hy⟩:=hi.allInts.items
  have hl:s.heap.IsList a (intItems ys):=hy ▸ p.isList
  refine sum_intListG (I.ok.hd hc) hl fun h' tk t' hk=>⟨.int ns.sum,H,I.kept hk,⟨t', ?_⟩,q⟩
  have e1:ns=ys.toList.map (·.1):=by
    rw [← nums_intItems, ← hy]
    exact hi.numsOf.symm
  rw [preSum_eq,List.take_of_length_le (by simp), ← e1]
theorem kP {T:Tx}{A:Addr→Prop}{H:Hp} : ∀ {ds:List D} {is:List Int} {vs:List V},intsOf ds=some is→aI T A H ds vs→vs=is.map V.int
  | [],_,_,h,r=>by
    unfold intsOf at h
    cases h
    exact r.j8
  | d::ds,_,_,h,r=>by
    unfold intsOf at h
    obtain ⟨x,t,rfl,h1,h2⟩:=r.dW
    split at h
    · next heq=>cases heq
    · next i r' heq =>
      cases heq
      cases e:intsOf ds with
      | none=>rw [e] at h; cases h
      | some js =>
        rw [e] at h
        cases h
        cases h1.dz
        rw [kP e h2]
        rfl
    · cases h
theorem BX {T:Tx}(A:Addr→Prop)(H0 H:Hp)(x:D)(v:V)(d:D)(Q:VK)(_:Nw A H)(rx:kR T A H0 H x v)(e:zi x=some d)(k : ∀ w H',aG H H'→kD T A H H' d w→Q w H') : ∃ (a:Addr) (ns:List Int),[v]=[.ref a]∧SqL T.K H a (ns.map V.int)∧Q (.int ns.sum) H:=by
  unfold zi at e
  split at e
  · next ds =>
    cases e1:intsOf ds with
    | none=>rw [e1] at e; cases e
    | some is =>
      rw [e1] at e
      dsimp only [Option.bind_some] at e
      split at e
      · cases e
        obtain ⟨a,xs,rfl,hS,hr⟩:=aE.fY rx
        cases kP e1 hr
        exact ⟨a,is,rfl,hS,k _ _ (aG.refl H) (.int _)⟩
      · cases e
  · cases e
theorem Fq {p:Pos}(hg:Gl X "sum")(hm:X.mg "sum"=none)(hc:X.calm=true)(ha:PR X c e f)(he:isStar e=false:=by rfl):PD X c (.Call (.Name "sum" p) [e] [] pos) (fp1 zi f):=wm (xA hc) BX hg hm boot_sum ha he
end
end DL
end
section
namespace DL
open PySem PySem.Spec PyProof.Rows L2
theorem oi : ∀ {bs:List Bool} {us:List Value},Vals (bs.map V.bl) us→us=bs.map Value.bool
  | [],_,.nil=>rfl
  | b::bs,_,.cons r t=>by
    cases r
    rw [oi t]
    rfl
theorem range_any (bs:List Bool):((List.range bs.length).any fun i=>(bs[i]?).getD false)=bs.any id:=by
  rw [Bool.eq_iff_iff,List.any_eq_true,List.any_eq_true]
  constructor
  · rintro ⟨i,hi,h⟩
    rw [List.mem_range] at hi
    rw [List.getElem?_eq_getElem hi] at h
    exact ⟨bs[i],List.getElem_mem hi,h⟩
  · rintro ⟨b,hb,h⟩
    obtain ⟨i,hi,e⟩:=List.getElem_of_mem hb
    exact ⟨i,List.mem_range.mpr hi,by rw [List.getElem?_eq_getElem hi,e]; exact h⟩
theorem range_all (bs:List Bool):((List.range bs.length).all fun i=>(bs[i]?).getD false)=bs.all id:=by
  rw [Bool.eq_iff_iff,List.all_eq_true,List.all_eq_true]
  constructor
  · intro h b hb
    obtain ⟨i,hi,e⟩:=List.getElem_of_mem hb
    have:=h i (List.mem_range.mpr hi)
    rw [List.getElem?_eq_getElem hi,e] at this
    exact this
  · intro h i hi
    rw [List.mem_range] at hi
    rw [List.getElem?_eq_getElem hi]
    exact h _ (List.getElem_mem hi)
theorem qv {prog:Program}{w:World}{A:Around}(bs:List Bool):TruthOf prog w A (fun i v=>(bs.map Value.bool).toArray[i]?=some v) fun i=>(bs[i]?).getD false:=by
  intro i v s Q E h q
  dsimp only at q
  rw [List.getElem?_toArray,List.getElem?_map] at h
  cases e:bs[i]? with
  | none=>rw [e] at h; cases h
  | some b =>
    rw [e] at h q
    cases h
    exact wpAny_of_eq (a:=b) rfl q
section
variable {X:Cx}{c:Ct}{e:Expr}{f:FE}{pos:Pos}
theorem xB (hc:X.calm=true):iL X (.builtin "any") (fun xs H Q=>∃ (a:Addr) (bs:List Bool),xs=[.ref a]∧SqL X.K H a (bs.map V.bl)∧Q (.bl (bs.any id)) H):=by
  intro pins s σ H xs us Q I r h
  obtain ⟨a,bs,rfl,hS,q⟩:=h
  obtain ⟨u,rfl,ru⟩:=vals1 r
  cases ru
  obtain ⟨its,rv,p,hz⟩:=I.list hS
  cases oi rv
  have hl:s.heap.IsList a (bs.map Value.bool).toArray:=p.isList
  have hlt:a<s.heap.objs.size:=by obtain ⟨_,e,_⟩:=hl; exact Heap.lt_size e
  refine call_any_walk (wpAny_pyIter_list hl ⟨s.heap.objs.size,_,_,_,_,_,_,rfl,Walks.list (A:=X.A.in1) (I.ok.hd hc) _ a (Nat.ne_of_lt hlt) (bs.map Value.bool).toArray,⟨⟨_,Heap.get?_push_size _ rfl,rfl,rfl⟩,hl.push _⟩,qv bs,fun h' tk hk=>?_⟩)
  refine ⟨.bl (bs.any id),H,I.kept (old_kept hk), ?_,q⟩
  have:(bs.map Value.bool).toArray.size=bs.length:=by simp
  rw [this,range_any]
  rfl
theorem xC (hc:X.calm=true):iL X (.builtin "all") (fun xs H Q=>∃ (a:Addr) (bs:List Bool),xs=[.ref a]∧SqL X.K H a (bs.map V.bl)∧Q (.bl (bs.all id)) H):=by
  intro pins s σ H xs us Q I r h
  obtain ⟨a,bs,rfl,hS,q⟩:=h
  obtain ⟨u,rfl,ru⟩:=vals1 r
  cases ru
  obtain ⟨its,rv,p,hz⟩:=I.list hS
  cases oi rv
  have hl:s.heap.IsList a (bs.map Value.bool).toArray:=p.isList
  have hlt:a<s.heap.objs.size:=by obtain ⟨_,e,_⟩:=hl; exact Heap.lt_size e
  refine call_all_walk (wpAny_pyIter_list hl ⟨s.heap.objs.size,_,_,_,_,_,_,rfl,Walks.list (A:=X.A.in1) (I.ok.hd hc) _ a (Nat.ne_of_lt hlt) (bs.map Value.bool).toArray,⟨⟨_,Heap.get?_push_size _ rfl,rfl,rfl⟩,hl.push _⟩,qv bs,fun h' tk hk=>?_⟩)
  refine ⟨.bl (bs.all id),H,I.kept (old_kept hk), ?_,q⟩
  have:(bs.map Value.bool).toArray.size=bs.length:=by simp
  rw [this,range_all]
  rfl
theorem mi {T:Tx}{A:Addr→Prop}{H:Hp} : ∀ {ds:List D} {is:List Bool} {vs:List V},iD ds=some is→aI T A H ds vs→vs=is.map V.bl
  | [],_,_,h,r=>by
    unfold iD at h
    cases h
    exact r.j8
  | d::ds,_,_,h,r=>by
    unfold iD at h
    obtain ⟨x,t,rfl,h1,h2⟩:=r.dW
    split at h
    · next heq=>cases heq
    · next i r' heq =>
      cases heq
      cases e:iD ds with
      | none=>rw [e] at h; cases h
      | some js =>
        rw [e] at h
        cases h
        cases h1.bl_
        rw [mi e h2]
        rfl
    · cases h
theorem BZ {T:Tx}(A:Addr→Prop)(H0 H:Hp)(x:D)(v:V)(d:D)(Q:VK)(_:Nw A H)(rx:kR T A H0 H x v)(e:rE x=some d)(k : ∀ w H',aG H H'→kD T A H H' d w→Q w H') : ∃ (a:Addr) (bs:List Bool),[v]=[.ref a]∧SqL T.K H a (bs.map V.bl)∧Q (.bl (bs.any id)) H:=by
  unfold rE at e
  split at e
  · next ds =>
    cases e1:iD ds with
    | none=>rw [e1] at e; cases e
    | some is =>
      rw [e1] at e
      cases e
      obtain ⟨a,xs,rfl,hS,hr⟩:=aE.fY rx
      cases mi e1 hr
      exact ⟨a,is,rfl,hS,k _ _ (aG.refl H) (.bl _)⟩
  · cases e
theorem C5 {T:Tx}(A:Addr→Prop)(H0 H:Hp)(x:D)(v:V)(d:D)(Q:VK)(_:Nw A H)(rx:kR T A H0 H x v)(e:sV x=some d)(k : ∀ w H',aG H H'→kD T A H H' d w→Q w H') : ∃ (a:Addr) (bs:List Bool),[v]=[.ref a]∧SqL T.K H a (bs.map V.bl)∧Q (.bl (bs.all id)) H:=by
  unfold sV at e
  split at e
  · next ds =>
    cases e1:iD ds with
    | none=>rw [e1] at e; cases e
    | some is =>
      rw [e1] at e
      cases e
      obtain ⟨a,xs,rfl,hS,hr⟩:=aE.fY rx
      cases mi e1 hr
      exact ⟨a,is,rfl,hS,k _ _ (aG.refl H) (.bl _)⟩
  · cases e
theorem rR {p:Pos}(hg:Gl X "any")(hm:X.mg "any"=none)(hc:X.calm=true)(ha:PR X c e f)(he:isStar e=false:=by rfl):PD X c (.Call (.Name "any" p) [e] [] pos) (fp1 rE f):=wm (xB hc) BZ hg hm (by decide +kernel) ha he
theorem rS {p:Pos}(hg:Gl X "all")(hm:X.mg "all"=none)(hc:X.calm=true)(ha:PR X c e f)(he:isStar e=false:=by rfl):PD X c (.Call (.Name "all" p) [e] [] pos) (fp1 sV f):=wm (xC hc) C5 hg hm (by decide +kernel) ha he
end
end DL
end
section
namespace DL
open PySem PySem.Spec PyProof.Rows L2
noncomputable def tu (tg:FG)(f:FE):FS:=fun env=>(f env).bind fun d=>(tg d env).map .nx
@[simp] theorem Iw (tg:FG)(f:FE)(env:aN):tu tg f env=aL (f env) fun d=>omap .nx (tg d env):=(Eq.refl _).trans (Eq.refl _)
theorem C6 {T:Tx}{xq:XQ}{De:Ends}{σ:L2.St}{H:Hp}{tg:FG}{g:TG}{f:FE}(sg:gJ T tg g)(h:tDs T xq (tu tg f) De σ H):qZ (tP T (kD T) f) g De σ H:=by
  obtain ⟨W,O,env,fl,E,e,q⟩:=h
  unfold tu at e
  cases e1:f env with
  | none=>rw [e1] at e; cases e
  | some x =>
    rw [e1] at e
    dsimp only [Option.bind_some] at e
    cases e2:tg x env with
    | none=>rw [e2] at e; cases e
    | some env' =>
      rw [e2] at e
      cases e
      exact ⟨W,O,env,x,E,e1,fun v H' s r=>sg W O H' env env' σ x v _ (E.mono s) r e2 fun σ' E'=>q σ' H' O E' (Fr.same s)⟩
noncomputable def Dw:Expr→Bool
  | .Tuple _ _ _=>false
  | e=>m9 e
theorem xD {ts:List Expr}{k : _}{p:Pos}{e:Expr}{env:Env}(h:Dw e=true):swappedStores [.Tuple ts k p] e env=pure none:=by
  cases e <;> first | rfl | cases h
section
variable {X:Cx}{c:Ct}{xq:XQ}{e:Expr}{f:FE}{pos:Pos}
theorem C7 {ts:List Expr}{k : _}{p:Pos}{tg:FG}{g:TG}(sg:gJ (tx X c) tg g)(pg:PG X (.Tuple ts k p) g)(he:PD X c e f)(hs:m9 e=true:=by rfl)(hw:Dw e=true:=by rfl) :
    PDS X c xq (.Assign [.Tuple ts k p] e pos) (tu tg f):=PS.imp (yq he pg (show swapsWithSole [.Tuple ts k p] e pos.line X.env=pure false from gK (t:=some (.Tuple ts k p)) (l:=pos.line) (env:=X.env) hs) (xD hw) rfl) fun _ _ _ h=>C6 sg h
end
end DL
end
section
namespace DL
open PySem PySem.Spec PyProof.Rows L2
noncomputable def Iy:D→D→Option D
  | .str sep,.lst ds=>(strsOf ds).bind fun xs=>if (xs.map List.length).sum+xs.length * sep.length≤1000000 then some (.str (zj sep xs)) else none
  | _,_=>none
section
variable {X:Cx}{c:Ct}{e o:Expr}{f g:FE}{pos:Pos}
end
end DL
end
section
namespace DL
open L2
noncomputable def Iz (F:List Nat→D→Option D):D→D→Option D
  | .str z,y=>F z y
  | _,_=>none
noncomputable def Fs (z:List Nat):D→Option D
  | .str [c]=>some (.int (z.count c))
  | _=>none
noncomputable def wx (c:Nat)(z:List Nat):List Nat:=z.dropWhile (· == c)
noncomputable def n6 (c:Nat)(z:List Nat):List Nat:=(z.reverse.dropWhile (· == c)).reverse
noncomputable def Ft (z:List Nat):D→Option D
  | .str [c]=>if z.length≤1000000 then some (.str (n6 c (wx c z))) else none
  | _=>none
noncomputable def C8 (z:List Nat):D→Option D
  | .str [c]=>if z.length≤1000000 then some (.str (n6 c z)) else none
  | _=>none
noncomputable def endsF (z:List Nat):D→Option D
  | .str [c]=>some (.bl (z.getLast? == some c))
  | _=>none
noncomputable def ljustF (z:List Nat):D→Option D
  | .int i=>if -1000000≤i∧i≤1000000 then some (.str (z++List.replicate (i.toNat - z.length) 32)) else none
  | _=>none
noncomputable def rjustF (z:List Nat):D→Option D
  | .int i=>if -1000000≤i∧i≤1000000 then some (.str (List.replicate (i.toNat - z.length) 32++z)) else none
  | _=>none
@[simp] theorem IA (F:List Nat→D→Option D)(z:List Nat)(y:D):Iz F (.str z) y=F z y:=(Eq.refl _).trans (Eq.refl _)
@[simp] theorem GH (z:List Nat)(c:Nat):Fs z (.str [c])=some (.int (z.count c)):=(Eq.refl _).trans (Eq.refl _)
@[simp] theorem GI (z:List Nat)(c:Nat):Ft z (.str [c])=if z.length≤1000000 then some (.str (n6 c (wx c z))) else none:=(Eq.refl _).trans (Eq.refl _)
@[simp] theorem Fu (z:List Nat)(c:Nat):C8 z (.str [c])=if z.length≤1000000 then some (.str (n6 c z)) else none:=(Eq.refl _).trans (Eq.refl _)
@[simp] theorem IB (z:List Nat)(c:Nat):endsF z (.str [c])=some (.bl (z.getLast? == some c)):=(Eq.refl _).trans (Eq.refl _)
@[simp] theorem GJ (z:List Nat)(i:Int):ljustF z (.int i)=if -1000000≤i∧i≤1000000 then some (.str (z++List.replicate (i.toNat - z.length) 32)) else none:=(Eq.refl _).trans (Eq.refl _)
@[simp] theorem GK (z:List Nat)(i:Int):rjustF z (.int i)=if -1000000≤i∧i≤1000000 then some (.str (List.replicate (i.toNat - z.length) 32++z)) else none:=(Eq.refl _).trans (Eq.refl _)
@[simp] theorem IC (sep:List Nat)(ds:List D):Iy (.str sep) (.lst ds)=aL (strsOf ds) fun xs=>if (xs.map List.length).sum+xs.length * sep.length≤1000000 then some (.str (zj sep xs)) else none:=(Eq.refl _).trans (Eq.refl _)
@[simp] theorem JA (i j:Int):Fl (.int i) (.int j)=some (.int (i+j)):=(Eq.refl _).trans (Eq.refl _)
theorem oj (a:Int)(n:Nat):dA a (n+1)=.int a::dA (a+1) n:=by
  unfold dA
  rw [List.range_succ_eq_map]
  simp only [List.map_cons,List.map_map]
  congr 1
  · simp
  · apply List.map_congr_left
    intro k _
    simp only [Function.comp]
    congr 1
    omega
theorem vd (a:Int):dA a 0=[]:=rfl
theorem jG (tg:FG)(body:FS)(d:D)(ds:List D)(env:aN):runFor tg body (d::ds) env=aL (tg d env) fun env1=>aL (body env1) fun r=>match r with
    | .nx e=>runFor tg body ds e
    | .ct e=>runFor tg body ds e
    | .bk e=>some (.nx e)
    | r=>some r:=rfl
theorem cm {tg:FG}{body:FS}{d:D}{ds:List D}{env e1 e2:aN}(h1:tg d env=some e1)(h2:body e1=some (.nx e2)):runFor tg body (d::ds) env=runFor tg body ds e2:=by
  rw [jG,h1,dj,h2,dj]
noncomputable def tw:D→Option (List D)
  | .lst ds=>some ds
  | _=>none
noncomputable def ie (ds:List D):List D:=ds.zipIdx.map fun p=>.tup [.int (p.2:Nat),p.1]
noncomputable def om (tg:FG)(fi:FE)(body:FS):FS:=fun env=>(fi env).bind fun x=>(tw x).bind fun ds=>runFor tg body (ie ds) env
noncomputable def C9 (nt:Nat)(cap:List Nat)(tg:FG)(fi:FE)(ft:FT)(fe:FE):FP (List D):=fun env=>(fi env).bind fun x=>(tw x).bind fun ds=>if ds.length≤1000000 then aT tg ft fe (dm nt cap env) (ie ds) else none
@[simp] theorem JB (ds:List D):tw (.lst ds)=some ds:=(Eq.refl _).trans (Eq.refl _)
@[simp] theorem GL (tg:FG)(fi:FE)(body:FS)(env:aN):om tg fi body env=aL (fi env) (fun x=>aL (tw x) (fun ds=>runFor tg body (ie ds) env)):=(Eq.refl _).trans (Eq.refl _)
@[simp] theorem Fv (nt:Nat)(cap:List Nat)(tg:FG)(fi:FE)(ft:FT)(fe:FE)(env:aN):C9 nt cap tg fi ft fe env=aL (fi env) (fun x=>aL (tw x) (fun ds=>if ds.length≤1000000 then aT tg ft fe (dm nt cap env) (ie ds) else none)):=(Eq.refl _).trans (Eq.refl _)
noncomputable def zS (ds:List D)(k:Int)(v:D):Option (List D):=(ixN ds.length k).map fun j=>ds.set j v
noncomputable def ml (i:Nat)(fk fv:FE):FS:=fun env=>match env[i]? with
  | some (.own ds)=>(fv env).bind fun v=>(fk env).bind fun k=>(kN k).bind fun k=>(zS ds k v).map fun ds'=>.nx (env.set i (.own ds'))
  | _=>none
@[simp] theorem GN (i:Nat)(fk fv:FE)(env:aN):ml i fk fv env=aL (ki env[i]?) fun ds=>aL (fv env) fun v=>aL (fk env) fun k=>aL (kN k) fun k=>omap (fun ds'=>.nx (env.set i (.own ds'))) (zS ds k v):=by
  unfold ml
  cases env[i]? with
  | none=>rfl
  | some s=>cases s <;> rfl
noncomputable def zT (i:Nat)(ft:FT):FT:=fun env=>match env[i]? with
  | some (.own ds)=>ft (env.set i (.val (.lst ds)))
  | _=>none
@[simp] theorem GO (i:Nat)(ft:FT)(env:aN):zT i ft env=aL (ki env[i]?) fun ds=>ft (env.set i (.val (.lst ds))):=by
  unfold zT
  cases env[i]? with
  | none=>rfl
  | some s=>cases s <;> rfl
noncomputable def Ke:D→Option (List D)
  | .lst ds=>some ds.reverse
  | _=>none
@[simp] theorem JC (ds:List D):Ke (.lst ds)=some ds.reverse:=(Eq.refl _).trans (Eq.refl _)
noncomputable def fp3 {α β γ δ:Type}(F : α→β→γ→Option δ)(f:FP α)(g:FP β)(h:FP γ):FP δ:=fun env=>(f env).bind fun x=>(g env).bind fun y=>(h env).bind fun z=>F x y z
@[simp] theorem Kf {α β γ δ:Type}(F : α→β→γ→Option δ)(f:FP α)(g:FP β)(h:FP γ)(env:aN):fp3 F f g h env=aL (f env) fun x=>aL (g env) fun y=>aL (h env) fun z=>F x y z:=(Eq.refl _).trans (Eq.refl _)
noncomputable def Dx (n w:Nat)(z:List Nat):List Nat:=(List.range z.length).filterMap fun k=>z[n+k * w]?
noncomputable def ID:D→D→D→Option D
  | .str z,.int n,.int w=>if 0≤n∧0<w∧n<1000000∧w<1000000∧z.length≤1000000 then some (.str (Dx n.toNat w.toNat z)) else none
  | _,_,_=>none
@[simp] theorem IE (z:List Nat)(n w:Int):ID (.str z) (.int n) (.int w)=if 0≤n∧0<w∧n<1000000∧w<1000000∧z.length≤1000000 then some (.str (Dx n.toNat w.toNat z)) else none:=(Eq.refl _).trans (Eq.refl _)
theorem zU (ds:List D)(k:Nat)(v:D)(h:k<ds.length):zS ds (k:Int) v=some (ds.set k v):=by
  unfold zS ixN
  rw [if_pos (by omega),if_pos (by omega)]; simp
theorem GP:ie []=[]:=rfl
theorem xE (ds:List D):(ie ds).length=ds.length:=by simp [ie]
noncomputable def qw (i:Nat)(ds:List D):List D:=(ds.zipIdx i).map fun p=>.tup [.int (p.2:Nat),p.1]
theorem n8 (ds:List D):ie ds=qw 0 ds:=rfl
theorem kQ (i:Nat)(d:D)(ds:List D):qw i (d::ds)=.tup [.int (i:Nat),d]::qw (i+1) ds:=rfl
theorem GQ (i:Nat):qw i []=[]:=rfl
@[simp] theorem GR (i j:Nat)(a b:D)(env:aN):nO [i,j] (.tup [a,b]) env=some ((env.set i (.val a)).set j (.val b)):=(Eq.refl _).trans (Eq.refl _)
theorem Fw (z:List Nat)(c:Int)(hz : 0<z.length) : ∃ (k:Nat) (x:Nat),c % (z.length:Int)=k∧z[k]?=some x∧x∈z:=by
  obtain ⟨k,hk,hl⟩:=fE c z.length hz
  exact ⟨k,z[k],hk,List.getElem?_eq_getElem hl,List.getElem_mem hl⟩
theorem Ca (z:List Nat)(m:Nat)(c:Int)(hm:z.length=m)(hz : 0<m) : ∃ (k:Nat) (x:Nat),c % (m:Int)=k∧z[k]?=some x∧x∈z:=by
  subst hm; exact Fw z c hz
@[simp] theorem oo (neg:Bool)(c:Nat)(j:List Nat):inD neg (.str [c]) (.str j)=some (.bl (if neg then !(j.contains c) else j.contains c)):=(Eq.refl _).trans (Eq.refl _)
theorem Dy {tg:FG}{ft:FT}{fe:FE}{env:aN}:aT tg ft fe env []=some []:=rfl
theorem cw {tg:FG}{ft:FT}{fe:FE}{env e:aN}{d y:D}{ds ys:List D}(h1:tg d env=some e)(h2:ft e=some true)(h3:fe e=some y)(h4:aT tg ft fe env ds=some ys):aT tg ft fe env (d::ds)=some (y::ys):=by
  rw [aT,h1]; dsimp only [Option.bind_some]; rw [h2]; dsimp only [Option.bind_some]; rw [if_pos rfl,h3,h4]; rfl
theorem qx {tg:FG}{ft:FT}{fe:FE}{env e:aN}{d:D}{ds ys:List D}(h1:tg d env=some e)(h2:ft e=some false)(h4:aT tg ft fe env ds=some ys):aT tg ft fe env (d::ds)=some ys:=by
  rw [aT,h1]; dsimp only [Option.bind_some]; rw [h2]; dsimp only [Option.bind_some]; rw [if_neg (by simp),h4]
theorem Fx (a b:List D)(h:a.length≠b.length):eqN 100 (.lst a) (.lst b)=some false:=by
  show (if a.length=b.length then eqZ (eqN 99) a b else some false)=_
  rw [if_neg h]
theorem ve:eqN 100 (.lst []) (.lst [])=some true:=rfl
end DL
end
section
namespace DL
open PySem PySem.Spec PyProof.Rows L2
section
variable {X:Cx}{c:Ct}{e o:Expr}{f g:FE}{pos:Pos}
end
end DL
end
section
namespace DL
open PySem PySem.Spec PyProof.Rows L2
section
variable {X:Cx}{c:Ct}{xq:XQ}{e k:Expr}{f g:FE}{pos:Pos}
theorem zV {T:Tx}{De:Ends}{σ:L2.St}{H:Hp}{i:Nat}{fk fv:FE}(h:tDs T xq (ml i fk fv) De σ H):qZ (tP T (kD T) fv) (Hq (wR i) (tP T (kD T) fk) D4) De σ H:=by
  obtain ⟨W,O,env,fl,E,e,q⟩:=h
  unfold ml at e
  split at e
  · rename_i ds es
    cases e1:fv env with
    | none=>rw [e1] at e; cases e
    | some v =>
      rw [e1] at e
      dsimp only [Option.bind_some] at e
      cases e2:fk env with
      | none=>rw [e2] at e; cases e
      | some kd =>
        rw [e2] at e
        dsimp only [Option.bind_some] at e
        cases e3:kN kd with
        | none=>rw [e3] at e; cases e
        | some kk =>
          rw [e3] at e
          dsimp only [Option.bind_some] at e
          cases jU e3
          unfold zS at e
          cases e4:ixN ds.length kk with
          | none=>rw [e4] at e; cases e
          | some j =>
            rw [e4] at e
            cases e
            obtain ⟨a,xs,ea,o,n,hl,rl⟩:=E.own es
            refine ⟨W,O,env,v,E,e1,fun u H1 s1 r1=>?_⟩
            have E1:=E.mono s1
            refine ⟨.ref a,ea,W,O,env,.int kk,E1,e2,fun w H2 s2 r2=>?_⟩
            cases r2.dz
            have E2:=E1.mono s2
            have hl2:=s2 _ _ (s1 _ _ hl)
            refine ⟨a,xs,kk,j,rfl,rfl,hl2,by rw [← rl.length]; exact e4, ?_⟩
            have f1:Fr O H2 O (L2.upd H2 a (.lst (xs.set j u))):=⟨fun b z h nn=>by rw [ba (by rintro rfl; exact nn o)]; exact h,fun b h=>.inl h,fun b h=>by
              by_cases z:b=a
              · subst z; rw [bY] at h; cases h
              · rw [ba z] at h; exact h⟩
            have kp:=E2.kp f1
            have rl2:aI T (Cl W O) H2 (ds.set j v) (xs.set j u):=(rl.mono (s1.trans s2) fun _ z=>z).set j (r1.mono s2 fun _ z=>z)
            obtain ⟨E3,f3⟩:=E2.upd (t:=.own (ds.set j v)) (o:=.lst (xs.set j u)) es rfl ea trivial ⟨a,_,rfl,o,n,bY,rl2.kp kp⟩
            exact q _ _ O E3 ((Fr.same (s1.trans s2)).trans f3)
  · cases e
theorem zW {i:Nat}{x:Str}{p1 p2:Pos}(m:Nm X i x)(hk:PD X c k f)(hv:PD X c e g)(hs:m9 e=true:=by rfl)
    (ha : ∀ v,assign (.Subscript (.Name x p1) k p2) X.env v=(do
      let ov ← holding [v] (eval (.Name x p1) X.env)
      let iv ← holding [v,ov] (eval k X.env)
      standAt p2
      holding [v,ov,iv] (setItem ov iv v)
      release [v,ov,iv] []):=by intro _; rfl) :
    PDS X c xq (.Assign [.Subscript (.Name x p1) k p2] e pos) (ml i f g) :=
  PS.imp (yq hv (E4 (ku m.hN m.hv m.hd m.hc) hk set_list ha) (gK (t:=some (.Subscript (.Name x p1) k p2)) (l:=pos.line) (env:=X.env) hs) (by rfl) rfl) fun _ _ _ h=>zV h
end
end DL
end
section
namespace L2
open PySem PySem.Spec PyProof.Rows
section
variable {X:Cx}{pins:List (Addr × Obj)}{σ:List (Option V)}{H H':Hp}{s:Shared}{h':Heap}
theorem Inv.Cb {t':Nat}{e it p:Addr}{vs:List V}(I:Inv X pins σ H s)(k : ∀ b o,b≠e→b≠it→s.heap.get? b=some o→h'.get? b=some o)(fe:mQ X pins H e)(fi:mQ X pins H it)(fp:mQ X pins H p)
    (hp:s.heap.get? p=none) (new:dU X.prog X.w (upd H p (.tup vs)) h' p (.tup vs)):Inv X pins σ (upd H p (.tup vs)) { s with heap:=h',toks:=t' }:=by
  have ne : ∀ b u,H b=some u→b≠e:=fun b u q z=>by rw [z,fe.1] at q; cases q
  have ni : ∀ b u,H b=some u→b≠it:=fun b u q z=>by rw [z,fi.1] at q; cases q
  have np : ∀ b u,H b=some u→b≠p:=fun b u q z=>by rw [z,fp.1] at q; cases q
  have kk : ∀ b o,b ∉ [e,it,p]→s.heap.get? b=some o→h'.get? b=some o:=fun b o hb q=>k b o (fun z=>hb (by simp [z])) (fun z=>hb (by simp [z])) q
  refine I.step (g':=s.gens) (d':=s.drawn) (ch:=[e,it,p]) (fun b hb=>?_) (fun b o _ _ hc q _=>kk b o hc q) (fun b o _ _ hc q _=>⟨o.slots,kk b o hc q⟩) (fun b _ hc _ n=>by rw [ba (fun z=>hc (by simp [z]))]; exact n)
    (fun b o hc q=>⟨o,kk b o hc q⟩) (fun b xs q=>by rw [ba (np b _ q)]; exact q) (fun b _ _ q=>by rw [ba (np b _ q)]; exact q) (fun b ps q=>⟨#[],by rw [ba (np b _ q),q]; simp⟩) (fun m hm=>?_) (fun b u q=>?_) I.bare
  · have:b=e∨b=it∨b=p:=by simpa using hb
    rcases this with rfl | rfl | rfl
    · exact ⟨fe.2.2.2.1,fe.2.1,fe.2.2.2.2.1,fe.2.2.2.2.2⟩
    · exact ⟨fi.2.2.2.1,fi.2.1,fi.2.2.2.2.1,fi.2.2.2.2.2⟩
    · exact ⟨fp.2.2.2.1,fp.2.1,fp.2.2.2.2.1,fp.2.2.2.2.2⟩
  · obtain ⟨o,es,ep,ho,r⟩:=hm
    exact ⟨o,es,ep,k _ o (Ne.symm fe.2.1) (Ne.symm fi.2.1) ho,r⟩
  · by_cases hb:b=p
    · subst hb; rw [bY] at q; cases q; exact new
    · rw [ba hb] at q
      refine (I.hok b u q).nA (fun c v hc z=>k c v ?_ ?_ z) (fun c z=>by rw [ba (np c _ z)]; exact z) fun c xs z=>by rw [ba (np c _ z)]; exact z
      · rcases hc with z | z
        · rw [z]; exact ne b u q
        · exact ne c _ z
      · rcases hc with z | z
        · rw [z]; exact ni b u q
        · exact ni c _ z
end
noncomputable def Ite (K:PySem.W.Frag)(a:Addr):It :=
  ⟨fun i H=>∃ xs x,SqL K H a xs∧xs[i]?=some x,fun i H v H'=>∃ p y,H p=none∧v=.ref p∧H'=upd H p (.tup [.int (i:Nat),y])∧∀ xs,SqL K H a xs→xs[i]?=some y,fun i H=>∃ xs,SqL K H a xs∧xs.length≤i⟩
theorem xF {P:Program}{w:World}{K:PySem.W.Frag}{ts:List Expr}{tk:Nat}{tp:Pos}(a e it:Addr)(hne:e≠it):Turn P w K (.Tuple ts tk tp) (Ite K a) [e,it] e (fun i h=>(∃ old,IsEnum h e it (i:Nat) old)∧h.IsListIter it a i) where
  mem:=by simp
  obj:=fun i h st b hb=>by
    obtain ⟨⟨old,he⟩,o,ho,c,d⟩:=st
    have:b=e∨b=it:=by simpa using hb
    rcases this with rfl | rfl
    · exact ⟨_,he,fun v z=>by cases z⟩
    · exact ⟨o,ho,fun v z=>by rw [d] at z; cases z⟩
  keep:=fun i h h' st k=>⟨let ⟨old,he⟩:=st.1; ⟨old,k e (by simp) _ he⟩,st.2.at fun o q=>k it (by simp) o q⟩
  item:=by
    intro X hP hw hK hc i pins s σ H E I hf st hg
    subst hP hw hK
    obtain ⟨⟨old,he⟩,hit⟩:=st
    obtain ⟨xs,x,hq,hx⟩:=hg
    obtain ⟨its,rv,p,hz⟩:=I.list hq
    obtain ⟨u,hu,ru⟩:=rv.get hx
    have fe:=hf e (by simp)
    have fi:=hf it (by simp)
    refine wpAny_pyNext_enum_item he hit p.isList (x:=u) (by simpa using hu) hne fun h₁ heo hit₁ ht₁ hz₁ hk₁=>?_
    refine ⟨_,rfl,wpAny_letOwnedTupleGo_enum heo fun h₂ he₂ hs₂=>?_⟩
    have helt:e<s.heap.objs.size:=Heap.lt_size he
    have hilt:it<s.heap.objs.size:=by obtain ⟨o,ho,_⟩:=hit; exact Heap.lt_size ho
    have keep : ∀ b o,b≠e→b≠it→s.heap.get? b=some o→h₂.get? b=some o:=fun b o h1 h2 q=>(hs₂.2 b h1).trans (hk₁ b o h1 h2 q)
    have htup:IsTup h₂ s.heap.objs.size #[.int (i:Nat) s.toks,u]:=⟨_,(hs₂.2 _ (Nat.ne_of_gt helt)).trans ht₁,rfl,_,rfl⟩
    have hit₂:h₂.IsListIter it a (i+1):=hit₁.at fun o q=>(hs₂.2 it (Ne.symm hne)).trans q
    have fp:=I.sJ (Nat.le_refl _) (I.hok.fresh (Nat.le_refl _))
    refine ⟨.ref s.heap.objs.size,upd H s.heap.objs.size (.tup [.int (i:Nat),x]), ?_,rfl,⟨_,x,I.hok.fresh (Nat.le_refl _),rfl,rfl,fun ys hy=>by rw [I.nB hy hq]; exact hx⟩,⟨⟨_,by simpa using he₂⟩,hit₂⟩,fun b hb=>?_⟩
    · exact I.Cb (t':=s.toks+1) keep fe fi fp (Heap.get?_none_of_le (Nat.le_refl _)) ⟨(show (2:Nat)≤sizeLine by decide),[.int (i:Nat) s.toks,u],.cons ⟨_,rfl⟩ (.cons ru .nil),htup⟩
    · have:b=e∨b=it:=by simpa using hb
      rcases this with rfl | rfl
      · rw [ba (Nat.ne_of_lt helt)]; exact fe.1
      · rw [ba (Nat.ne_of_lt hilt)]; exact fi.1
  done:=by
    intro X hP hw hK hc i pins s σ H E I hf st hg
    subst hP hw hK
    obtain ⟨⟨old,he⟩,hit⟩:=st
    obtain ⟨xs,hq,hx⟩:=hg
    obtain ⟨its,rv,p,hz⟩:=I.list hq
    obtain ⟨f0,f1,f2,f3,f4,f5⟩:=hf it (by simp)
    have hl:=rv.length
    exact wpAny_pyNext_enum_end (I.ok.hd hc) he hit p.isList (by simp; omega) fun h' eb=>⟨rfl,I.turned (t':=s.toks) (fun b o hb q=>eb b o hb q) f0 f1 f3 f4 f5⟩
  self:=fun _ _ _ _ _ st h=>by
    obtain ⟨⟨old,he⟩,_⟩:=st
    exact wpAny_pyIter_enum he h
noncomputable def Dz (K:PySem.W.Frag)(ta:TA):TI:=fun σ H R=>ta σ H fun vs H1=>∃ a,vs=[.ref a]∧(∃ xs,SqL K H1 a xs)∧R (Ite K a) H1
theorem Cc {X:Cx}{a:Expr}{ta:TA}{p pos:Pos}{ts:List Expr}{tk:Nat}{tp:Pos}(hg:Gl X "enumerate")(hm:X.mg "enumerate"=none)(ha:PA X [a] ta)(hs:starEach [a] X.env=[(false,eval a X.env)]:=by rfl) :
    PI X (.Tuple ts tk tp) (.Call (.Name "enumerate" p) [a] [] pos) (Dz X.K ta):=by
  intro pins s σ H R I h
  refine Call_ (iI I hg hm boot_enumerate (PyProof.Rows.callWith_type1 (bH (ha pos pins s σ H _ I h) fun us s1 vs H1 I1 r1 q1=>?_) hs rfl))
  obtain ⟨l,e,⟨xs,hq⟩,q⟩:=q1
  subst e
  cases r1 with
  | cons r rr =>
    cases rr
    cases r
    obtain ⟨its,rv,pl,hz⟩:=I1.list hq
    refine call_enumerate_list pl.isList fun h' he hit hsz hk=>?_
    refine wpAny_pyIter_enum he ?_
    refine ⟨s1.heap.objs.size+1,[s1.heap.objs.size+1,s1.heap.objs.size],_,_,H1,rfl,I1.kept (t':=s1.toks) hk,xF l _ _ (Nat.succ_ne_self _),⟨⟨_,by simpa using he⟩,hit⟩,fun b hb=>?_,q⟩
    have:b=s1.heap.objs.size+1∨b=s1.heap.objs.size:=by simpa using hb
    rcases this with rfl | rfl
    · exact I1.sJ (Nat.le_succ _) (I1.hok.fresh (Nat.le_succ _))
    · exact I1.sJ (Nat.le_refl _) (I1.hok.fresh (Nat.le_refl _))
end L2
end
section
namespace DL
open PySem PySem.Spec PyProof.Rows L2
theorem xG {x:D}{ds:List D}(h:tw x=some ds):x=.lst ds:=by
  unfold tw at h
  split at h
  · cases h; rfl
  · cases h
theorem xH {ds:List D}{j:Nat}{d:D}(h:ds[j]?=some d):(ie ds)[j]?=some (.tup [.int (j:Nat),d]):=by
  unfold ie
  rw [List.getElem?_map,List.getElem?_zipIdx,h]
  simp
section
variable {T:Tx}{X:XQ}{F:FS}{fi fe:FE}{ft:FT}{De:Ends}{σ:L2.St}{H:Hp}{tg:FG}{g:TG}
theorem zX (hg:gJ T tg g)(h:tDs T X (om tg fi F) De σ H):AX (Dz T.K (tP T (kA T) (ah fi ay))) g (tDs T X F) De σ H:=by
  obtain ⟨W,O,env,fl,E,e,q⟩:=h
  unfold om at e
  cases e1:fi env with
  | none=>rw [e1] at e; cases e
  | some x =>
    rw [e1] at e
    dsimp only [Option.bind_some] at e
    cases e2:tw x with
    | none=>rw [e2] at e; cases e
    | some ds =>
      rw [e2] at e
      dsimp only [Option.bind_some] at e
      cases xG e2
      refine ⟨W,O,env,[.lst ds],E,by unfold ah ay; rw [e1]; rfl,fun vs H1 s1 r1=>?_⟩
      obtain ⟨v,r,rfl,rv,rr⟩:=aI.dW r1
      cases rr.j8
      have E1:=E.mono s1
      have q1:kh T X W O H1 De fl:=q.fr (Fr.same s1)
      obtain ⟨a,xs,rfl,hl,rl⟩:=Rep.fY rv
      have hlen:=rl.length
      refine ⟨a,rfl,⟨xs,hl.sq⟩,fun j m σ' H'=>m=ds.length - j∧j≤ds.length∧∃ env' O',bS T W O' H' env' σ'∧Fr O H1 O' H'∧runFor tg F ((ie ds).drop j) env'=some fl,⟨ds.length,by simp,Nat.zero_le _,env,O,E1,Fr.refl _ _,e⟩, ?_⟩
      rintro j m σ' H' ⟨rfl,hj,env',O',E',f,e'⟩
      have hlH:=((E1.kp f).ls hl).sq
      by_cases hlt:j<ds.length
      · refine .inr ⟨⟨xs,xs[j]'(by omega),hlH,by simp [show j<xs.length by omega]⟩,fun σ2 H2=>∃ env' O',bS T W O' H2 env' σ2∧Fr O H1 O' H2∧runFor tg F ((ie ds).drop (j+1)) env'=some fl,fun σ2 H2 p=>⟨ds.length - (j+1),by omega,rfl,hlt,p⟩,fun x H2 y=>?_⟩
        obtain ⟨p,y,hp,rfl,rfl,hy⟩:=y
        obtain ⟨d,hd,rd⟩:=rl.xc (hy xs hlH)
        have s2:aG H' (L2.upd H' p (.tup [.int (j:Nat),y])):=cu hp _
        rw [drop_cons (xH hd)] at e'
        have rd':Rep T (Cl W O') H' d y:=E1.yO f rd
        exact lx hg q1 _ ((ie ds).drop (j+1)) (fun env2 O2 σ2 H2 E2 g2 e2=>⟨env2,O2,E2,g2,e2⟩) (E'.mono s2) (f.trans (Fr.same s2)) e' (Rep.xf (.cons (.int _) (.cons rd' .nil)) hp)
      · refine .inl ⟨⟨xs,hlH,by omega⟩, ?_⟩
        rw [List.drop_eq_nil_of_le (by rw [xE]; omega)] at e'
        cases e'
        exact q1 σ' H' O' E' f
end
section
variable {X:Cx}{c:Ct}{xq:XQ}{ts:List Expr}{tk:Nat}{tp p ip pos:Pos}{elt iter:Expr}{ifs:List Expr}{scope sc:Scope}{N N':List Str}{nt:Nat}{cap:List Nat}{fi fe:FE}{ft:FT}{tgf:FG}{gt:TG}{F:FS}
theorem zY {body:List Stmt}(hp:PassesOwn (model X.prog X.w) X.A X.env X.xe)(hc:X.calm=true)(sg:gJ (tx X c) tgf gt)(pg:PG X (.Tuple ts tk tp) gt)(hgl:Gl X "enumerate")(hm:X.mg "enumerate"=none)(hi:PD X c iter fi)(hb:md X c xq body F)(hst:isStar iter=false:=by rfl) :
    PDS X c xq (.For (.Tuple ts tk tp) (.Call (.Name "enumerate" p) [iter] [] ip) body [] pos) (om tgf fi F) :=
  PS.imp (uM hp hc (Cc hgl hm (af hi ar hst) (i7 hst)) pg hb (dX rfl)) fun _ _ _ h=>zX sg h
end
end DL
end
section
namespace L2
open PySem PySem.Spec PyProof.Rows
end L2
namespace DL
open PySem PySem.Spec PyProof.Rows L2
section
variable {X:Cx}{c:Ct}{e a b:Expr}{f g h:FE}{pos p2:Pos}
end
end DL
end
section
namespace DL
open PySem PySem.Spec PyProof.Rows L2
section
variable {X:Cx}
end
end DL
end
section
namespace DL
open L2
theorem rT : ∀ (r:List Int) (m:Int),m≤kJ m r∧∀ i∈r,i≤kJ m r
  | [],m=>⟨Int.le_refl _,by simp⟩
  | i::r,m=>by
    have ih:=rT r (if i > m then i else m)
    unfold kJ
    refine ⟨Int.le_trans ?_ ih.1,fun j hj=>?_⟩
    · split <;> omega
    · rcases List.mem_cons.mp hj with rfl | hj
      · exact Int.le_trans (by split <;> omega) ih.1
      · exact ih.2 j hj
theorem lA : ∀ (r:List Int) (m:Int),kJ m r∈m::r
  | [],m=>by simp [kJ]
  | i::r,m=>by
    have ih:=lA r (if i > m then i else m)
    unfold kJ
    rcases List.mem_cons.mp ih with e | e
    · rw [e]
      split
      · exact List.mem_cons_of_mem _ List.mem_cons_self
      · exact List.mem_cons_self
    · exact List.mem_cons_of_mem _ (List.mem_cons_of_mem _ e)
theorem kS (is:List Int):intsOf (is.map D.int)=some is:=by
  induction is with
  | nil=>rfl
  | cons x r ih=>show (intsOf (r.map D.int)).map (x::·)=_; rw [ih]; rfl
end DL
namespace DL
open L2
noncomputable def gM:List (List Nat)→List D→List Nat→Option D
  | k::ks,d::ds,x=>if k=x then some d else gM ks ds x
  | _,_,_=>none
noncomputable def qy:D→D→Option D
  | .dct ks ds,.str x=>gM ks ds x
  | _,_=>none
noncomputable def vf:D→D→D→Option D
  | .dct ks ds,.str x,v=>some ((gM ks ds x).getD v)
  | _,_,_=>none
@[simp] theorem IF (ks:List (List Nat))(ds:List D)(x:List Nat):qy (.dct ks ds) (.str x)=gM ks ds x:=(Eq.refl _).trans (Eq.refl _)
@[simp] theorem GS (ks:List (List Nat))(ds:List D)(x:List Nat)(v:D):vf (.dct ks ds) (.str x) v=some ((gM ks ds x).getD v):=(Eq.refl _).trans (Eq.refl _)
noncomputable def jH (lo st:Int)(n:Nat):List D:=(List.range n).map fun k=>D.int (lo+st * (k:Nat))
noncomputable def tD:List D→Option (List D)
  | [.int lo,.int hi,.int st]=>if (-1000000000<lo∧lo<1000000000)∧(-1000000000<hi∧hi<1000000000)∧0<st∧st<1000000000 then some (jH lo st ((hi - lo+st - 1) / st).toNat) else none
  | _=>none
theorem Cd (lo hi st:Int):tD [.int lo,.int hi,.int st]=if (-1000000000<lo∧lo<1000000000)∧(-1000000000<hi∧hi<1000000000)∧0<st∧st<1000000000 then some (jH lo st ((hi - lo+st - 1) / st).toNat) else none:=rfl
end DL
end
section
namespace DL
open PySem PySem.Spec PyProof.Rows L2
section
variable {X:Cx}{c:Ct}{e:Expr}{f:FE}{pos:Pos}
end
end DL
end
section
namespace L2
open PySem PySem.Spec PyProof.Rows
section
variable {κ:Type}[DecidableEq κ]
noncomputable def jt (kvs:List (κ × V))(k : κ):Option V:=(kvs.find? fun kv=>decide (kv.1=k)).map (·.2)
noncomputable def putK (kvs:List (κ × V))(k : κ)(v:V):List (κ × V) :=
  if (kvs.any fun kv=>decide (kv.1=k))=true then kvs.map (fun kv=>if kv.1=k then (kv.1,v) else kv) else kvs++[(k,v)]
theorem gN {p : κ × V}{r:List (κ × V)}{k : κ}(e:p.1=k):jt (p::r) k=some p.2:=by simp [jt,List.find?_cons,e]
theorem gO {p : κ × V}{r:List (κ × V)}{k : κ}(e : ¬ p.1=k):jt (p::r) k=jt r k:=by simp [jt,List.find?_cons,e]
theorem tE (k : κ) : ∀ kvs:List (κ × V),(kvs.any fun kv=>decide (kv.1=k))=(jt kvs k).isSome
  | []=>rfl
  | p::r=>by
    rw [List.any_cons]
    by_cases e:p.1=k
    · simp only [gN e,decide_eq_true e,Bool.true_or,Option.isSome_some]
    · rw [gO e,decide_eq_false e,Bool.false_or]; exact tE k r
theorem qz (k j : κ)(y:V) : ∀ kvs:List (κ × V),jt kvs k=none→jt (kvs++[(k,y)]) j=if j=k then some y else jt kvs j
  | [],_=>by
    by_cases e:k=j
    · rw [if_pos e.symm]; exact gN (p:=(k,y)) e
    · rw [if_neg (fun z=>e z.symm)]; exact gO (p:=(k,y)) e
  | p::r,hn=>by
    rw [List.cons_append]
    have hk : ¬ p.1=k:=fun z=>by rw [gN z] at hn; cases hn
    rw [gO hk] at hn
    have ih:=qz k j y r hn
    by_cases e:p.1=j
    · rw [gN e,gN e,if_neg (fun z=>hk (e.trans z))]
    · rw [gO e,gO e,ih]
theorem tF (kvs:List (κ × V))(k : κ)(v:V):(putK kvs k v).length≤kvs.length+1:=by
  unfold putK
  split
  · rw [List.length_map]; omega
  · rw [List.length_append,List.length_cons,List.length_nil]; omega
theorem zZ {kvs:List (κ × V)}{k : κ}(v:V)(h:jt kvs k=none):putK kvs k v=kvs++[(k,v)]:=by
  unfold putK
  rw [tE,h]
  exact if_neg (by decide)
theorem pC.getD {o:Option V}{u:Option Value}{d:V}{d':Value}(r:pC o u)(rd:RelV d d'):RelV (o.getD d) (u.getD d'):=by
  cases o with
  | none=>cases u with
    | none=>exact rd
    | some _=>exact (show False from r).elim
  | some _=>cases u with
    | none=>exact (show False from r).elim
    | some _=>exact r
theorem KV.val {kvs:List (κ × V)}{vs:List (κ × Value)}(r:KV kvs vs)(k : κ):pC (jt kvs k) (valueAt vs k):=by
  unfold KV at r
  induction r with
  | nil=>exact True.intro
  | @cons p q ps qs h t ih =>
    obtain ⟨h1,h2⟩:=h
    by_cases e:p.1=k
    · have e':q.1=k:=h1.symm.trans e
      have b:valueAt (q::qs) k=some q.2:=by simp [valueAt,List.find?_cons,e']
      rw [gN e,b]; exact h2
    · have e' : ¬ q.1=k:=fun z=>e (h1.trans z)
      have b:valueAt (q::qs) k=valueAt qs k:=by simp [valueAt,List.find?_cons,e']
      rw [gO e,b]; exact ih
theorem KV.any {kvs:List (κ × V)}{vs:List (κ × Value)}(r:KV kvs vs)(k : κ):(kvs.any fun kv=>decide (kv.1=k))=vs.any fun kv=>decide (kv.1=k):=by
  unfold KV at r
  induction r with
  | nil=>rfl
  | cons h t ih=>rw [List.any_cons,List.any_cons,ih,h.1]
theorem KV.Kg {kvs:List (κ × V)}{vs:List (κ × Value)}(r:KV kvs vs)(k : κ){y:V}{u:Value}(ry:RelV y u) :
    KV (kvs.map fun kv=>if kv.1=k then (kv.1,y) else kv) (vs.map fun kv=>if kv.1=k then (kv.1,u) else kv):=by
  unfold KV at r ⊢
  induction r with
  | nil=>exact .nil
  | @cons p q ps qs h t ih =>
    rw [List.map_cons,List.map_cons]
    refine .cons ?_ ih
    obtain ⟨h1,h2⟩:=h
    by_cases e:p.1=k
    · rw [if_pos e,if_pos (h1.symm.trans e)]; exact ⟨h1,ry⟩
    · rw [if_neg e,if_neg (fun z=>e (h1.trans z))]; exact ⟨h1,h2⟩
theorem KV.put {kvs:List (κ × V)}{vs:List (κ × Value)}(r:KV kvs vs)(k : κ){y:V}{u:Value}(ry:RelV y u):KV (putK kvs k y) (stored vs k u):=by
  unfold putK stored
  rw [r.any k]
  by_cases e:(vs.any fun kv=>decide (kv.1=k))=true
  · rw [if_pos e,if_pos e]; exact r.Kg k ry
  · rw [if_neg e,if_neg e]; exact Paired.snoc r ⟨rfl,ry⟩
end
theorem wy {P:Program}{w:World}{k:Key}{u:Value}(r:RelV (kV k) u):(dn P w).is k u=true:=by
  cases k with
  | inl i=>obtain ⟨t,e⟩:=(show ∃ t,u=Value.int i t from r); subst e; exact sE P w i t
  | inr x=>obtain ⟨t,e⟩:=(show ∃ t,u=Value.str x t from r); subst e; exact sF P w x t
theorem qA {P:Program}{w:World} : ∀ {ks:List Key} {us:List Value},Vals (ks.map kV) us→ItemsAre (dn P w) ks us
  | [],_,r=>by rw [List.map_nil] at r; cases r; exact .nil
  | k::ks,_,r=>by
    rw [List.map_cons] at r
    cases r with
    | cons h t=>exact .cons (wy h) (qA t)
noncomputable abbrev KT (H:Hp):List (List Key × V)→List (List Key × Addr × Value)→Prop:=Paired fun p q=>p.1=q.1∧H q.2.1=some (.tup (p.1.map kV))∧RelV p.2 q.2.2
theorem KT.val {H:Hp}{kvs:List (List Key × V)}{xs:List (List Key × Addr × Value)}(r:KT H kvs xs)(k:List Key):pC (jt kvs k) ((atKey xs k).map (·.2)):=by
  induction r with
  | nil=>exact True.intro
  | @cons p q ps qs h t ih =>
    obtain ⟨h1,_,h2⟩:=h
    by_cases e:p.1=k
    · have e':q.1=k:=h1.symm.trans e
      have b:atKey (q::qs) k=some q.2:=by simp [atKey,List.find?_cons,e']
      rw [gN e,b]; exact h2
    · have e' : ¬ q.1=k:=fun z=>e (h1.trans z)
      have b:atKey (q::qs) k=atKey qs k:=by simp [atKey,List.find?_cons,e']
      rw [gO e,b]; exact ih
section
variable {P:Program}{w:World}{H:Hp}{h:Heap}{a:Addr}
theorem DA {u:HO}(ok:HOk P w H h)(e:Rd H a u):dU P w H h a u:=e.ok ok
theorem tG {kvs:List (Key × V)}(ok:HOk P w H h)(e:Rd H a (.dK kvs)):kvs.length≤sizeLine∧(a == sysModules)=false∧∃ vs,KV kvs vs∧h.DictOf (dn P w) a vs :=
  show dU P w H h a (.dK kvs) from DA ok e
theorem IG {kvs:List (Key × V)}(ok:HOk P w H h)(e:H a=some (.dK kvs)):kvs.length≤sizeLine∧(a == sysModules)=false∧∃ vs,KV kvs vs∧h.DictOf (dn P w) a vs:=tG ok (.inl e)
theorem vg {ks:List Key}(ok:HOk P w H h)(e:H a=some (.tup (ks.map kV))):(tupleKind (dn P w)).is h ks a:=by
  obtain ⟨_,its,r,o,h1,h2,n,h3⟩:=(show dU P w H h a (.tup (ks.map kV)) from ok a _ e)
  exact ⟨o,its.toArray,n,h1,h2,h3,by simpa using qA r⟩
theorem wz {kvs:List (List Key × V)}(ok:HOk P w H h)(e:Rd H a (.dT kvs)):kvs.length≤sizeLine∧(a == sysModules)=false ∧
    ∃ xs,KT H kvs xs∧h.DictOfH (tupleKind (dn P w)) a xs:=by
  obtain ⟨z,y,xs,r,o,es,ep,h1,h2,h3,h4,h5⟩:=(show dU P w H h a (.dT kvs) from DA ok e)
  refine ⟨z,y,xs,r,o,es,ep,h1,h2,h3,h4,fun x hx=>?_,h5⟩
  have all : ∀ {l:List (List Key × V)} {m:List (List Key × Addr × Value)},KT H l m→∀ x∈m,(tupleKind (dn P w)).is h x.1 x.2.1:=by
    intro l m q
    induction q with
    | nil=>intro x hx; exact nomatch hx
    | @cons p q ps qs hq t ih =>
      intro x hx
      rcases List.mem_cons.mp hx with e | hx
      · subst e
        exact vg ok (by rw [← hq.1]; exact hq.2.1)
      · exact ih x hx
  exact all r x hx
end
noncomputable def rU (H:Hp)(a:Addr)(y:V)(r:Option V):Prop :=
  (∃ kvs k,Rd H a (.dK kvs)∧y=kV k∧r=jt kvs k)∨∃ kvs k b,Rd H a (.dT kvs)∧y=.ref b∧H b=some (.tup (k.map kV))∧r=jt kvs k
theorem rU.k {H:Hp}{a:Addr}{kvs:List (Key × V)}{k:Key}(e:H a=some (.dK kvs)):rU H a (kV k) (jt kvs k):=.inl ⟨kvs,k,.inl e,rfl,rfl⟩
section
variable {X:Cx}{pins:List (Addr × Obj)}{σ:St}{H:Hp}{s:Shared}{a:Addr}{y v:V}{u r:Value}{o:Option V}{A:Around}{E:Value→Shared→Prop}
theorem Inv.big (I:Inv X pins σ H s):sysModules<s.heap.objs.size:=by
  have h:mainGlobals<s.heap.objs.size:=(I.mod.glob.keeps I.bk).lt
  exact Nat.lt_trans (by decide) h
theorem xI {Q:Value→Shared→Prop}(hu:A.units+1<cLine)(I:Inv X pins σ H s)(g:rU H a y (some v))(ry:RelV y u)(h : ∀ w' s',Inv X pins σ H s'→RelV v w'→Q w' s') :
    wpAny (model X.prog X.w) A (getItem (.ref a) u) Q E s:=by
  rcases g with ⟨kvs,k,e,ey,l⟩ | ⟨kvs,k,b,e,ey,eb,l⟩
  · subst ey
    obtain ⟨z,hd,vs,rel,dd⟩:=tG I.hok e
    obtain ⟨w',hw,rw'⟩:=pC.some_of (v:=v) (o:=valueAt vs k) (by rw [l]; exact rel.val k)
    exact wpAny_getItem_of (wy ry) dd.mapOf hw (h w' _ (I.tok _) rw')
  · subst ey
    cases (show u=Value.ref b from ry)
    obtain ⟨z,hd,xs,rel,dd⟩:=wz I.hok e
    obtain ⟨w',hw,rw'⟩:=pC.some_of (v:=v) (o:=(atKey xs k).map (·.2)) (by rw [l]; exact rel.val k)
    obtain ⟨p,hp,hp2⟩:=Option.map_eq_some_iff.mp hw
    refine wpAny_getItem_heap (tupleKind_room_in1 hu) (vg I.hok eb) dd hp ?_
    rw [hp2]
    exact h w' _ (I.tok _) rw'
theorem Ce {h':Heap}{t':Nat}{ob:HO}(I:Inv X pins σ H s)(mu:Mut (H a))(hs:Heap.SameBut a s.heap h')(he : ∃ q,h'.get? a=some q)(new:dU X.prog X.w (upd H a ob) h' a ob) :
    Inv X pins σ (upd H a ob) { s with heap:=h',toks:=t' } :=
  I.write (x:=a) (e:=a) mu (.inl rfl) (fun b q hb z=>(hs.2 b hb).trans z) he new
theorem Fy {P:Program}{w:World}{H':Hp}{h':Heap}{kvs:List (Key × V)}{vs:List (Key × Value)}(z:kvs.length≤sizeLine)(hd:(a == sysModules)=false)(rel:KV kvs vs)(dd:h'.DictOf (dn P w) a vs) :
    dU P w H' h' a (.dK kvs):=⟨z,hd,vs,rel,dd⟩
end
section
variable {X:Cx}{pins:List (Addr × Obj)}{σ:St}{H:Hp}{s:Shared}{a:Addr}{kvs:List (Key × V)}{k:Key}{u:Value}{A:Around}{E:Value→Shared→Prop}
end
noncomputable def Fz (i:Expr):Prop:=∀ ov iv,subscripted i false ov iv=operate [ov,iv] (getItem ov iv)
theorem Cf {prog:Program}{w:World}{A:Around}{E:Value→Shared→Prop}{s:Shared}{env:Env}{value slice:Expr}{pos:Pos}{T id:String}{Q:Value→Shared→Prop}
    (hl:typeLookup (.type T) "__getitem__"=pure (some (.builtin id))) (hs:Fz slice)
    (h:wpAny (model prog w) A (eval value env) (fun o s₁=>wpAny (model prog w) A (eval slice env) (fun i s₂=>s₂.TypeIs o T∧wpAny (model prog w) A (getItem o i) Q E s₂) E s₁) E s) :
    wpAny (model prog w) A (eval (.Subscript value slice pos) env) Q E s:=by
  refine Subscript_ (wpAny_mono h (fun o s₁ h₁=>wpAny_mono h₁ (fun i s₂ h₂=>?_) fun _ _ x=>x) fun _ _ x=>x)
  obtain ⟨hT,h₂⟩:=h₂
  unfold subscriptTail
  refine wpAny_bind ?_
  rw [getitemInPython_of_ne hT.not_modules]
  refine wpAny_bind (wpAny_specialOf hT hl ?_)
  have fin:wpAny (model prog w) A (subscripted slice false o i) (fun r s₃=>wpAny (model prog w) A (letTemporaryGo value o r >>= fun _=>pure r) Q E s₃) E s₂:=by
    rw [hs o i]
    exact wpAny_operating (wpAny_mono h₂ (fun r s₃ h₃=>wpAny_bind (wpAny_letTemporaryGo (wpAny_pure h₃))) fun _ _ x=>x)
  first
    | exact wpAny_pure (wpAny_bind fin)
    | exact wpAny_bind (wpAny_pure (wpAny_bind fin))
    | exact wpAny_bind fin
theorem tH {X:Cx}{pins:List (Addr × Obj)}{σ:St}{H:Hp}{s:Shared}{a:Addr}{y:V}{o:Option V}(I:Inv X pins σ H s)(g:rU H a y o):s.TypeIs (.ref a) "dict":=by
  rcases g with ⟨kvs,k,e,_,_⟩ | ⟨kvs,k,b,e,_,_,_⟩
  · obtain ⟨_,_,vs,_,dd⟩:=tG I.hok e
    exact dd.typeIs
  · obtain ⟨_,_,xs,_,dd⟩:=wz I.hok e
    exact dd.typeIs
noncomputable def IH (td ty:TE):TE:=fun σ H Q=>td σ H fun x H1=>ty σ H1 fun y H2=>∃ a v,x=.ref a∧rU H2 a y (some v)∧Q v H2
section
variable {X:Cx}{o i e value:Expr}{pos pos' tpos:Pos}{td ty tv:TE}
theorem Cg (hu:X.A.units+1<cLine)(ho:PE X o td)(hi:PE X i ty)(hs:Fz i):PE X (.Subscript o i pos) (IH td ty):=by
  intro pins s σ H Q I h
  refine Cf PySem.F.slot_dict_getitem.lookup hs (bH (ho pins s σ H _ I h) fun u s1 x H1 I1 rx q1=>bH (hi pins s1 σ H1 _ I1 q1) fun iv s2 y H2 I2 ry zz_=>?_)
  obtain ⟨a,v,ex,g,q2⟩:=zz_
  subst ex
  obtain rfl:u=Value.ref a:=rx
  exact ⟨tH I2 g,xI hu I2 g ry fun w' s3 I3 rw'=>⟨v,H2,I3,rw',q2⟩⟩
end
theorem A0 {P:Program}{w:World}{H:Hp}(h:Heap)(hb:sysModules<h.objs.size):dU P w H (h.push { cls:=.type "dict",data:=.dict #[] }) h.objs.size (.dK []) :=
  ⟨Nat.zero_le _,beq_eq_false_iff_ne.mpr (Ne.symm (Nat.ne_of_lt hb)),[],.nil,Heap.DictOf.new h⟩
section
variable {X:Cx}{pos:Pos}
end
noncomputable def rV:List (TE × TE)→St→Hp→(List (V × V)→Hp→Prop)→Prop
  | [],_,H,Q=>Q [] H
  | (tk,tv)::r, σ,H,Q=>tk σ H fun x H1=>tv σ H1 fun y H2=>rV r σ H2 fun ps H3=>Q ((x,y)::ps) H3
noncomputable abbrev VV:List (V × V)→List (Value × Value)→Prop:=Paired fun p q=>RelV p.1 q.1∧RelV p.2 q.2
noncomputable def PPs (X:Cx)(pos:Pos)(keys:List (Option Expr))(values:List Expr)(trs:List (TE × TE)):Prop :=
  ∀ (pins:List (Addr × Obj)) (s:Shared) (σ:St) (H:Hp) (Q:List (V × V)→Hp→Prop),Inv X pins σ H s→rV trs σ H Q →
    wpAny (model X.prog X.w) X.A (evalPairs (pairTrees keys values X.env pos)) (fun vs s'=>∃ ps H',Inv X pins σ H' s'∧VV ps vs∧Q ps H') X.xe s
theorem Ci {X:Cx}{pos:Pos}:PPs X pos [] [] []:=fun pins s σ H Q I h=>pairTrees_nil_walk ⟨[],H,I,.nil,h⟩
theorem A1 {X:Cx}{pos:Pos}{k v:Expr}{ks:List (Option Expr)}{vs:List Expr}{tk tv:TE}{trs:List (TE × TE)}(hk:PE X k tk)(hv:PE X v tv)(hr:PPs X pos ks vs trs) :
    PPs X pos (some k::ks) (v::vs) ((tk,tv)::trs):=fun pins s σ H Q I h =>
  pairTrees_cons_walk (bH (hk pins s σ H _ I h) fun u s1 x H1 I1 rx q1=>bH (hv pins s1 σ H1 _ I1 q1) fun w2 s2 y H2 I2 ry q2 =>
    bH (hr pins s2 σ H2 _ I2 q2) fun ws s3 ps H3 I3 rel q3=>⟨(x,y)::ps,H3,I3,.cons ⟨rx,ry⟩ rel,q3⟩)
noncomputable def jd (kvs more:List (Key × V)):List (Key × V):=more.foldl (fun acc kv=>putK acc kv.1 kv.2) kvs
theorem KV.merge : ∀ {more:List (Key × V)} {rs:List (Key × Value)} {kvs:List (Key × V)} {vs:List (Key × Value)},KV more rs→KV kvs vs→KV (jd kvs more) (merged vs rs):=by
  intro more rs kvs vs r
  unfold KV at r
  induction r generalizing kvs vs with
  | nil=>intro q; exact q
  | @cons p q ps qs h t ih =>
    intro r0
    have e:KV (putK kvs p.1 p.2) (stored vs q.1 q.2):=by
      have:=r0.put p.1 h.2
      rw [← h.1]; exact this
    exact ih e
theorem kj : ∀ (more kvs:List (Key × V)),(jd kvs more).length≤kvs.length+more.length
  | [],kvs=>by show kvs.length≤kvs.length+0; omega
  | p::r,kvs=>by
    have h1:=kj r (putK kvs p.1 p.2)
    have h2:=tF kvs p.1 p.2
    show (jd (putK kvs p.1 p.2) r).length≤_
    rw [List.length_cons]; omega
theorem oq {P:Program}{w:World} : ∀ {kvs:List (Key × V)} {ws:List (Value × Value)},VV (kvs.map fun kv=>(kV kv.1,kv.2)) ws→∃ rs,Carries (dn P w) ws rs∧KV kvs rs
  | [],_,r=>by rw [List.map_nil] at r; cases r; exact ⟨[],True.intro,.nil⟩
  | p::kvs,_,r=>by
    rw [List.map_cons] at r
    cases r with
    | @cons a b as bs h t =>
      obtain ⟨rs,c,q⟩:=oq (P:=P) (w:=w) t
      obtain ⟨b1,b2⟩:=b
      exact ⟨(p.1,b2)::rs,⟨wy h.1,rfl,c⟩,.cons ⟨rfl,h.2⟩ q⟩
noncomputable def II (trs:List (TE × TE)):TE:=fun σ H Q=>∀ p,H p=none→rV trs σ (upd H p (.dK [])) fun ps H2=>H2 p=some (.dK [])∧∃ kvs:List (Key × V),ps=kvs.map (fun kv=>(kV kv.1,kv.2))∧kvs.length≤15∧Q (.ref p) (upd H2 p (.dK (jd [] kvs)))
theorem Cj {X:Cx}{pos:Pos}{keys:List (Option Expr)}{values:List Expr}{trs:List (TE × TE)}(h:PPs X pos keys values trs)(jx:keys.all (·.isSome)=true)(hl:keys.length=values.length)(h0:keys≠[])
    (h15:keys.length≤15):PE X (.Dict keys values pos) (II trs):=by
  intro pins s σ H Q I q
  have hn:=I.hok.fresh (Nat.le_refl s.heap.objs.size)
  have I1:=I.laid (a:=s.heap.objs.size) (o:=.dK []) (h':=s.heap.push { cls:=.type "dict",data:=.dict #[] }) (t':=s.toks) (fun _ _ q=>Heap.get?_push_of_some _ q) (Nat.le_refl _) (A0 s.heap I.big)
  refine wpAny_Dict_walk (knd:=dn X.prog X.w) jx hl h0 h15 (bH (h pins _ σ _ _ I1 (q _ hn)) fun ws s2 ps H2 I2 rel zz_=>?_)
  obtain ⟨e,kvs,ep,lk,q2⟩:=zz_
  subst ep
  obtain ⟨rs,c,rk⟩:=oq (P:=X.prog) (w:=X.w) rel
  obtain ⟨z,hd,vs0,r0,dd⟩:=IG I2.hok e
  cases r0
  refine ⟨rs,c,dd,fun h' dd' hs=>⟨.ref s.heap.objs.size,_, ?_,rfl,q2⟩⟩
  have hz:(jd [] kvs).length≤sizeLine:=by
    have h1:=kj kvs []
    rw [List.length_nil] at h1
    rw [sizeLine_eq]; omega
  have he : ∃ q,h'.get? s.heap.objs.size=some q:=let ⟨q,_,_,hq,_⟩:=dd'; ⟨q,hq⟩
  exact Ce I2 (by rw [e]; exact True.intro) hs he (Fy hz hd (rk.merge .nil) dd')
structure M2 (X:Cx)(o:Expr)(m:Str)(apos:Pos)(e f:Expr)(cpos:Pos):Prop where
  base:attributeBase o m X.env (eval o X.env)=eval o X.env
  few:((backTo cpos (starEach [e,f] X.env)).all (fun x=>!x.1) && (backToKw cpos (keywordEach [] X.env)).all (fun x=>x.1.isSome)
    && decide (([e,f]:List Expr).length+([]:List Keyword).length+(if ([]:List Keyword).isEmpty then 0 else 1)<30))=true
  line:(apos.endLine == cpos.line)=true
  trees:backTo cpos (starEach [e,f] X.env)=[(false,eval e X.env),(false,eval f X.env)]
noncomputable def IsD (H:Hp)(a:Addr):Prop:=(∃ kvs,Rd H a (.dK kvs))∨∃ kvs,Rd H a (.dT kvs)
theorem FC {X:Cx}{pins:List (Addr × Obj)}{σ:St}{H:Hp}{s:Shared}{a:Addr}(I:Inv X pins σ H s)(d:IsD H a) :
    s.TypeIs (.ref a) "dict"∧(∀ b,Value.ref a=.ref b→∃ ob,s.heap.get? b=some ob∧ob.dict=none)∧(a == sysModules)=false:=by
  rcases d with ⟨kvs,e⟩ | ⟨kvs,e⟩
  · obtain ⟨_,hd,vs,_,dd⟩:=tG I.hok e
    refine ⟨dd.typeIs,fun b q=>?_,hd⟩
    cases q
    obtain ⟨ob,_,_,h1,h2,_⟩:=dd
    exact ⟨ob,h1,h2.2.1⟩
  · obtain ⟨_,hd,xs,_,dd⟩:=wz I.hok e
    refine ⟨dd.typeIs,fun b q=>?_,hd⟩
    cases q
    obtain ⟨ob,_,_,h1,h2,_⟩:=dd
    exact ⟨ob,h1,h2.2.1⟩
section
variable {X:Cx}{pins:List (Addr × Obj)}{σ:St}{H:Hp}{s:Shared}{a:Addr}{y d:V}{u r:Value}{o:Option V}{A:Around}{E:Value→Shared→Prop}
theorem FD {Q:Value→Shared→Prop}(hu:A.units+1<cLine)(I:Inv X pins σ H s)(g:rU H a y o)(ry:RelV y u)(rd:RelV d r)(h : ∀ w' s',Inv X pins σ H s'→RelV (o.getD d) w'→Q w' s') :
    wpAny (model X.prog X.w) A (call (.builtin "dict.get") [.ref a,u,r]) Q E s:=by
  rcases g with ⟨kvs,k,e,ey,l⟩ | ⟨kvs,k,b,e,ey,eb,l⟩
  · subst ey
    obtain ⟨z,hd,vs,rel,dd⟩:=tG I.hok e
    refine call_meetsIn PySem.F.slot_dict_get dd.typeIs PySem.F.entry_dict_get (PySem.F.args_dict_get_3 _ _ _) (meets_dict_get_default (dn X.prog X.w) a (wy ry) hd r) ⟨_,dd.mapOf,h _ _ (I.tok _) ?_⟩
    rw [l]
    exact (rel.val k).getD rd
  · subst ey
    cases (show u=Value.ref b from ry)
    obtain ⟨z,hd,xs,rel,dd⟩:=wz I.hok e
    refine call_meetsIn PySem.F.slot_dict_get dd.typeIs PySem.F.entry_dict_get (PySem.F.args_dict_get_3 _ _ _) (meetsH_dict_get_default (tupleKind (dn X.prog X.w)) a b hd r) ⟨tupleKind_room_in1 hu,k,xs,vg I.hok eb,dd,h _ _ (I.tok _) ?_⟩
    rw [l]
    exact (rel.val k).getD rd
end
noncomputable def FF (td ty tx:TE):TE:=fun σ H Q=>td σ H fun x H1=>∃ a,x=.ref a∧IsD H1 a∧ty σ H1 fun y H2=>tx σ H2 fun z H3=>∃ o,rU H3 a y o∧Q (o.getD z) H3
section
variable {X:Cx}{o e f:Expr}{apos cpos:Pos}{td ty tx:TE}
theorem A2 (hu:X.A.units+1<cLine)(ho:PE X o td)(he:PE X e ty)(hf:PE X f tx)(m:M2 X o "get" apos e f cpos):PE X (.Call (.Attribute o "get" apos) [e,f] [] cpos) (FF td ty tx):=by
  intro pins s σ H Q I h
  refine wpAny_Call_method m.base m.few m.line PySem.F.plainAttrs_dict PySem.F.slot_dict_get PySem.F.type_dict_get (bH (ho pins s σ H _ I h) fun u s1 x H1 I1 rx zz_=>?_)
  obtain ⟨a,ex,d,q1⟩:=zz_
  subst ex
  obtain rfl:u=Value.ref a:=rx
  obtain ⟨t1,t2,_⟩:=FC I1 d
  refine ⟨t1,t2, ?_⟩
  rw [m.trees]
  refine Calls.callWith_builtin rfl (Calls.evalArgs_plain (Calls.spliced_cons (bH (he pins s1 σ H1 _ I1 q1) fun iv s2 y H2 I2 ry q2 =>
    Calls.spliced_cons (bH (hf pins s2 σ H2 _ I2 q2) fun fv s3 z H3 I3 rz ⟨ov,g,q3⟩=>Calls.spliced_nil ?_))))
  exact FD hu I3 g ry rz fun w' s4 I4 rw'=>⟨_,H3,I4,rw',q3⟩
end
end L2
end
section
namespace DL
open PySem PySem.Spec PyProof.Rows L2
noncomputable def kcT (ps:List (List Nat × Int)):List (TE × TE):=ps.map fun p=>(tC (.str (mkS p.1)),tC (.int p.2))
noncomputable abbrev KC (X:Cx)(pos:Pos)(keys:List (Option Expr))(values:List Expr)(ps:List (List Nat × Int)):Prop:=PPs X pos keys values (kcT ps)
theorem vh {X:Cx}{pos:Pos}:KC X pos [] [] []:=Ci
theorem fG {X:Cx}{pos p1 p2:Pos}{x:Str}{z:List Nat}{i:Int}{j1 j2}{ks:List (Option Expr)}{vs:List Expr}{ps:List (List Nat × Int)}(hx:x=mkS z)(h:KC X pos ks vs ps):KC X pos (some (.Constant (.str x) j1 p1)::ks) (.Constant (.int i) j2 p2::vs) ((z,i)::ps):=by
  subst hx
  exact A1 yk yj h
theorem tI (σ:L2.St) : ∀ (ps:List (List Nat × Int)) (H:Hp) (Q:List (V × V)→Hp→Prop),Q (ps.map fun p=>(V.str (mkS p.1),V.int p.2)) H→rV (kcT ps) σ H Q
  | [],H,Q,h=>h
  | p::ps,H,Q,h=>tI σ ps H _ h
theorem mJ : ∀ (more kvs:List (Key × V)),(more.map (·.1)).Nodup→(∀ k∈more,jt kvs k.1=none)→jd kvs more=kvs++more
  | [],kvs,_,_=>by simp [jd]
  | p::r,kvs,nd,h=>by
    have e:=zZ p.2 (h p List.mem_cons_self)
    show jd (putK kvs p.1 p.2) r=_
    rw [e,mJ r _ (List.nodup_cons.mp nd).2 fun q hq=>?_]
    · simp
    · have hne:q.1≠p.1:=fun z=>(List.nodup_cons.mp nd).1 (List.mem_map.mpr ⟨q,hq,z⟩)
      rw [qz _ _ _ _ (h p List.mem_cons_self),if_neg hne]
      exact h q (List.mem_cons_of_mem _ hq)
section
variable {X:Cx}{c:Ct}{a b e o:Expr}{f g h:FE}{pos:Pos}
theorem vi {keys:List (Option Expr)}{values:List Expr}{ps:List (List Nat × Int)}(k:KC X pos keys values ps)(nd:(ps.map (·.1)).Nodup)(jx:keys.all (·.isSome)=true:=by rfl)(hl:keys.length=values.length:=by rfl)(h0:keys≠[]:=by exact fun z=>nomatch z)(h15:keys.length≤15:=by decide)(h15':ps.length≤15:=by decide) :
    PD X c (.Dict keys values pos) (feC (.dct (ps.map (·.1)) (ps.map fun p=>.int p.2))):=PE.imp (Cj k jx hl h0 h15) fun σ H Q h=>by
  obtain ⟨W,O,env,d,E,e,q⟩:=h
  cases e
  intro p hp
  refine tI σ ps _ _ ⟨bY,ps.map fun p=>((Sum.inr (mkS p.1):Key),V.int p.2), ?_,by simpa using h15', ?_⟩
  · rw [List.map_map]; rfl
  · have em:jd [] (ps.map fun p=>((Sum.inr (mkS p.1):Key),V.int p.2))=ps.map fun p=>((Sum.inr (mkS p.1):Key),V.int p.2):=by
      rw [mJ _ [] ?_ (fun _ _=>rfl)]
      · rfl
      · rw [List.map_map]
        have:((fun x:Key × V=>x.1) ∘ fun p:List Nat × Int=>((Sum.inr (mkS p.1):Key),V.int p.2))=(fun k:List Nat=>(Sum.inr (mkS k):Key)) ∘ fun p=>p.1:=rfl
        rw [this, ← List.map_map]
        exact List.Pairwise.map _ (fun a b hab z=>hab (jP (Sum.inr.inj z))) nd
    rw [em]
    have s:aG H (L2.upd (L2.upd H p (.dK [])) p (.dK (ps.map fun p=>((Sum.inr (mkS p.1):Key),V.int p.2)))):=fun b u hb=>by
      have:b≠p:=fun z=>by rw [z,hp] at hb; cases hb
      rw [ba this,ba this]; exact hb
    refine q _ _ s ?_
    show Rep _ _ _ _ _
    simp only [Rep]
    refine ⟨p,_,rfl,E.pG hp,bY, ?_, ?_⟩
    · rw [List.map_map,List.map_map]; rfl
    · rw [List.map_map]
      have:((fun x:Key × V=>x.2) ∘ fun p:List Nat × Int=>((Sum.inr (mkS p.1):Key),V.int p.2))=V.int ∘ fun p=>p.2:=rfl
      rw [this, ← List.map_map]
      have e2:(ps.map fun p=>D.int p.2)=(ps.map fun p=>p.2).map D.int:=by rw [List.map_map]; rfl
      rw [e2]
      exact aI.D7 _
theorem ou {T:Tx}{A:Addr→Prop}{H:Hp}(x:List Nat) : ∀ (ks:List (List Nat)) (ds:List D) (kvs:List (Key × V)),kvs.map (·.1)=ks.map (fun k=>(Sum.inr (mkS k):Key))→aI T A H ds (kvs.map (·.2)) →
    (∃ d v,gM ks ds x=some d∧jt kvs (Sum.inr (mkS x))=some v∧Rep T A H d v)∨(gM ks ds x=none∧jt kvs (Sum.inr (mkS x))=none)
  | [],ds,kvs,hk,r=>by
    have:kvs=[]:=by simpa using hk
    subst this
    exact .inr ⟨by cases ds <;> rfl,rfl⟩
  | k::ks,ds,kvs,hk,r=>by
    cases kvs with
    | nil=>simp at hk
    | cons p kvs =>
      simp only [List.map_cons,List.cons.injEq] at hk
      rw [List.map_cons] at r
      cases ds with
      | nil=>have:=r.j8; cases this
      | cons d ds =>
        obtain ⟨v,t,ev,r1,r2⟩:=r.dW
        cases ev
        by_cases h:k=x
        · subst h
          exact .inl ⟨d,p.2,by simp [gM],gN hk.1,r1⟩
        · have hne : ¬ p.1=Sum.inr (mkS x):=fun z=>h (jP (Sum.inr.inj (hk.1.symm.trans z)))
          have e1:gM (k::ks) (d::ds) x=gM ks ds x:=by simp [gM,h]
          rw [e1,gO hne]
          exact ou x ks ds kvs hk.2 r2
theorem A3 (hu:X.A.units+1<cLine)(ha:PD X c a f)(hb:PD X c b g)(hs:Fz b:=by exact fun _ _=>rfl):PD X c (.Subscript a b pos) (fp2 qy f g):=PE.imp (Cg hu ha hb hs) fun σ H Q h=>by
  obtain ⟨W,O,env,d,E,e,q⟩:=h
  unfold fp2 at e
  cases e1:f env with
  | none=>rw [e1] at e; cases e
  | some x =>
    rw [e1] at e
    dsimp only [Option.bind_some] at e
    cases e2:g env with
    | none=>rw [e2] at e; cases e
    | some y =>
      rw [e2] at e
      dsimp only [Option.bind_some] at e
      unfold qy at e
      split at e
      · rename_i ks ds z
        refine ⟨W,O,env,_,E,e1,fun v1 H1 s1 r1=>?_⟩
        refine ⟨W,O,env,_,E.mono s1,e2,fun v2 H2 s2 r2=>?_⟩
        cases Rep.gr r2
        obtain ⟨a,kvs,rfl,_,hH,hk,rl⟩:=(r1.mono s2 (A':=Cl W O) fun _ z=>z).Ba
        rcases ou z ks ds kvs hk rl with ⟨d',v,h1,h2,h3⟩ | ⟨h1,_⟩
        · rw [h1] at e; cases e
          exact ⟨a,v,rfl,h2 ▸ rU.k (k:=Sum.inr (mkS z)) hH,q _ _ (s1.trans s2) h3⟩
        · rw [h1] at e; cases e
      · cases e
theorem Ck {k v:Expr}{p2 p3:Pos}(hu:X.A.units+1<cLine)(ho:PD X c o f)(hk:PD X c k g)(hv:PD X c v h)(hb:attributeBase o "get" X.env (eval o X.env)=eval o X.env:=by rfl)(hs:isStar k=false:=by rfl)(hs2:isStar v=false:=by rfl)(hl:(p2.endLine == p3.line)=true:=by rfl) :
    PD X c (.Call (.Attribute o "get" p2) [k,v] [] p3) (fp3 vf f g h) :=
  PE.imp (A2 hu ho hk hv ⟨hb,by rw [nT hs hs2]; rfl,hl,by rw [nT hs hs2]; rfl⟩) fun σ H Q q=>by
  obtain ⟨W,O,env,d,E,e,q⟩:=q
  unfold fp3 at e
  cases e1:f env with
  | none=>rw [e1] at e; cases e
  | some x =>
    rw [e1] at e
    dsimp only [Option.bind_some] at e
    cases e2:g env with
    | none=>rw [e2] at e; cases e
    | some y =>
      rw [e2] at e
      dsimp only [Option.bind_some] at e
      cases e3:h env with
      | none=>rw [e3] at e; cases e
      | some w =>
        rw [e3] at e
        dsimp only [Option.bind_some] at e
        cases x with
        | dct ks ds =>
         cases y with
         | str z =>
          have e:some ((gM ks ds z).getD w)=some d:=e
          cases e
          refine ⟨W,O,env,_,E,e1,fun v1 H1 s1 r1=>?_⟩
          obtain ⟨a,kvs,rfl,hA,hH,hk,rl⟩:=r1.Ba
          refine ⟨a,rfl,.inl ⟨kvs,.inl hH⟩,W,O,env,_,E.mono s1,e2,fun v2 H2 s2 r2=>?_⟩
          cases Rep.gr r2
          refine ⟨W,O,env,_,E.mono (s1.trans s2),e3,fun v3 H3 s3 r3=>?_⟩
          have hH3:=(s2.trans s3) _ _ hH
          have rl3:=rl.mono (s2.trans s3) (A':=Cl W O) fun _ z=>z
          refine ⟨_,rU.k (k:=Sum.inr (mkS z)) hH3,q _ _ (s1.trans (s2.trans s3)) ?_⟩
          rcases ou z ks ds kvs hk rl3 with ⟨d',v,h1,h2,h3⟩ | ⟨h1,h2⟩
          · rw [h1,h2]; exact h3
          · rw [h1,h2]; exact r3
         | _=>cases e
        | _=>cases e
end
end DL
end
section
namespace L2
open PySem PySem.Spec PyProof.Rows
noncomputable def FH (lo st:Int)(n:Nat):It:=⟨fun i _=>i<n,fun i H x H'=>H'=H∧x=.int (lo+st * (i:Nat)),fun i _=>n≤i⟩
theorem tJ {P:Program}{w:World}{K:PySem.W.Frag}{tg:Expr}(it:Addr)(lo st:Int)(n:Nat):Turn P w K tg (FH lo st n) [it] it (fun i h=>IsRangeIter h it (lo+(i:Nat) * st) ((n:Int) - (i:Nat)) st) where
  mem:=by simp
  obj:=fun i h s b hb=>by
    have e:b=it:=by simpa using hb
    subst e
    exact ⟨_,s,fun v z=>by
      have z':Data.fields _=Data.cell v:=z
      cases z'⟩
  keep:=fun i h h' s k=>k it (by simp) _ s
  item:=by
    intro X hP hw hK hc i pins s σ H E I hf stt hg
    subst hP hw hK
    obtain ⟨f0,f1,f2,f3,f4,f5⟩:=hf it (by simp)
    have W:=Walks.range (prog:=X.prog) (w:=X.w) (I.ok.hd hc) it lo st n
    refine W.item i s _ _ hg stt fun v h' tk hv st' kk=>?_
    obtain ⟨t,rfl⟩:=hv
    have I1:Inv X pins σ H { s with heap:=h',toks:=tk }:=I.turned (fun b o hb e=>kk b o (by simpa using hb) e) f0 f1 f3 f4 f5
    refine ⟨_,rfl,qb (s:={ s with heap:=h',toks:=tk }) (n:="range_iterator") st' rfl rfl (by decide) ⟨.int (lo+st * (i:Nat)),H,I1,⟨t, ?_⟩,⟨rfl,rfl⟩,st',fun b hb=>(hf b hb).1⟩⟩
    rw [Int.mul_comm]
  done:=by
    intro X hP hw hK hc i pins s σ H E I hf stt hg
    subst hP hw hK
    obtain ⟨f0,f1,f2,f3,f4,f5⟩:=hf it (by simp)
    exact wpAny_pyNext_range_end (I.ok.hd hc) stt (by have:n≤i:=hg; omega) fun h' eb=>⟨rfl,I.turned (t':=s.toks) (fun b o hb e=>eb b o hb e) f0 f1 f3 f4 f5⟩
  self:=fun _ _ _ _ _ s h=>wpAny_pyIter_rangeiter s h
theorem lB {a b c:Int}(hc : 0<c):Builtin.Range.rangeSize a b c=(((b - a+c - 1) / c).toNat:Nat):=by
  unfold Builtin.Range.rangeSize
  rw [if_pos hc]
  by_cases h:a<b
  · rw [if_pos h]
    have e:b - a+c - 1=(b - a - 1)+c * 1:=by omega
    rw [e,Int.add_mul_ediv_left _ _ (by omega)]
    have : 0≤(b - a - 1) / c:=Int.ediv_nonneg (by omega) (by omega)
    omega
  · rw [if_neg h]
    have:(b - a+c - 1) / c≤0:=by
      have:=Int.ediv_lt_of_lt_mul (a:=b - a+c - 1) (b:=1) hc (by omega)
      omega
    omega
theorem A4 {a b c:Int}(ha : -1000000000<a∧a<1000000000)(hb : -1000000000<b∧b<1000000000)(hc : 0<c∧c<1000000000):Builtin.Range.small a b c=true:=by
  have e:=lB (a:=a) (b:=b) hc.1
  have h1:((b - a+c - 1) / c)≤3000000000:=by
    apply Int.ediv_le_of_le_mul hc.1
    have:(3000000000:Int) * 1≤3000000000 * c:=Int.mul_le_mul_of_nonneg_left (by omega) (by omega)
    omega
  unfold Builtin.Range.small
  rw [e]
  generalize ((b - a+c - 1) / c)=q at h1
  have h0:c > 0:=hc.1
  simp only [Builtin.Range.rangeFitsLong,Bool.and_eq_true,Bool.or_eq_true,decide_eq_true_eq,beq_iff_eq,h0,if_true]
  omega
theorem xJ {X:Cx}{tg:Expr}{pins:List (Addr × Obj)}{σ:St}{H:Hp}{s:Shared}{R:It→Hp→Prop}{E:Value→Shared→Prop}{lo hi st:Int}{t u v:Tok}{tk:Nat}(I:Inv X pins σ H s)(h1 : -1000000000<lo∧lo<1000000000)(h2 : -1000000000<hi∧hi<1000000000)(h3 : 0<st∧st<1000000000)
    (q:R (FH lo st ((hi - lo+st - 1) / st).toNat) H):wpAny (model X.prog X.w) X.A (pyIter (.ref s.heap.objs.size)) (PIE X pins σ tg R) E { s with heap:=s.heap.push { cls:=.type "range",data:=.fields #[.int lo t,.int hi u,.int st v] },toks:=tk }:=by
  refine wpAny_pyIter_range (IsRange.new ..) (A4 h1 h2 h3) ?_
  have I1:Inv X pins σ H { s with heap:=s.heap.push { cls:=.type "range",data:=.fields #[.int lo t,.int hi u,.int st v] },toks:=tk }:=I.kept fun b o e=>Heap.get?_push_of_some _ e
  refine ⟨(s.heap.push { cls:=.type "range",data:=.fields #[.int lo t,.int hi u,.int st v] }).objs.size,[(s.heap.push { cls:=.type "range",data:=.fields #[.int lo t,.int hi u,.int st v] }).objs.size],_,_,H,rfl,
    I1.kept (t':=tk) fun b o e=>Heap.get?_push_of_some _ e,tJ _ lo st ((hi - lo+st - 1) / st).toNat, ?_,fun b hb=>?_,q⟩
  · have e1:lo+((0:Nat):Int) * st=lo:=by simp
    have e2:((((hi - lo+st - 1) / st).toNat:Nat):Int) - ((0:Nat):Int)=Builtin.Range.rangeSize lo hi st:=by rw [lB h3.1]; simp
    show IsRangeIter _ _ (lo+((0:Nat):Int) * st) (((((hi - lo+st - 1) / st).toNat:Nat):Int) - ((0:Nat):Int)) st
    rw [e1,e2]
    exact Heap.get?_push_size _ rfl
  · have e:b=(s.heap.push { cls:=.type "range",data:=.fields #[.int lo t,.int hi u,.int st v] }).objs.size:=by simpa using hb
    subst e
    exact I1.sJ (Nat.le_refl _) (I1.hok.fresh (Nat.le_refl _))
noncomputable def DB (ta:TA):TI:=fun σ H R=>ta σ H fun vs H1=>∃ i j k:Int,vs=[.int i,.int j,.int k]∧(-1000000000<i∧i<1000000000)∧(-1000000000<j∧j<1000000000)∧(0<k∧k<1000000000)∧R (FH i k ((j - i+k - 1) / k).toNat) H1
theorem qB {X:Cx}{tg a b d:Expr}{ta:TA}{p pos:Pos}(hg:Gl X "range")(hm:X.mg "range"=none)(ha:PA X [a,b,d] ta)(h1:starEach [a,b,d] X.env=(false,eval a X.env)::starEach [b,d] X.env)(h2:(backTo pos (starEach [b,d] X.env)).any (·.1)=false) :
    PI X tg (.Call (.Name "range" p) [a,b,d] [] pos) (DB ta):=by
  intro pins s σ H R I h
  refine Call_ (iI I hg hm boot_range (PyProof.Rows.callWith_type1 (bH (ha pos pins s σ H _ I h) fun us s1 vs H1 I1 r1 q1=>?_) h1 h2))
  obtain ⟨i,j,k,e,q1,q2,q3,q⟩:=q1
  subst e
  cases r1 with
  | cons r rr =>
    cases rr with
    | cons r' rr =>
      cases rr with
      | cons r'' rr =>
        cases rr
        obtain ⟨t,rfl⟩:=r
        obtain ⟨t',rfl⟩:=r'
        obtain ⟨t'',rfl⟩:=r''
        exact call_range_3 (by omega) (xJ I1 q1 q2 q3 q) (.inl (PyProof.noPylong_small (by omega)))
end L2
namespace DL
open PySem PySem.Spec PyProof.Rows L2
theorem ow (lo st:Int)(n:Nat):(jH lo st n).length=n:=by simp [jH]
theorem vj {lo st:Int}{n j:Nat}{d:D}(h:(jH lo st n)[j]?=some d):d=.int (lo+st * (j:Nat)):=by
  unfold jH at h
  rw [List.getElem?_map] at h
  cases e:(List.range n)[j]? with
  | none=>rw [e] at h; cases h
  | some k =>
    rw [e] at h
    have:k=j:=by
      have hj:=(List.getElem?_eq_some_iff.mp e).1
      rw [List.getElem?_range (by simpa using hj)] at e
      exact (Option.some.inj e).symm
    subst this
    cases h; rfl
section
variable {T:Tx}{ft:FT}{fe:FE}{σ:L2.St}{H:Hp}{Q:VK}{tg:FG}{g:TG}
theorem tK (hg:gJ T tg g){nt:Nat}{cap:List Nat}{f:FA}(hc:cap.Nodup)(h:tP T (kF T) (gC tD nt cap tg f ft fe) σ H Q):nQ nt cap (DB (tP T (kA T) f)) g (tP T kB ft) (tP T (kD T) fe) σ H Q:=by
  obtain ⟨W,O,env,d,E,e,q⟩:=h
  unfold gC at e
  cases e1:f env with
  | none=>rw [e1] at e; cases e
  | some x =>
    rw [e1] at e
    dsimp only [Option.bind_some] at e
    cases e2:tD x with
    | none=>rw [e2] at e; cases e
    | some ds =>
      rw [e2] at e
      dsimp only [Option.bind_some] at e
      unfold tD at e2
      split at e2
      · next lo hi st =>
        split at e2
        · next c =>
          cases e2
          by_cases cn:(jH lo st ((hi - lo+st - 1) / st).toNat).length≤1000000
          · rw [if_pos cn] at e
            refine ⟨W,O,env,_,E,e1,fun vs H1 s1 r1=>?_⟩
            obtain ⟨v,r,rfl,h1,h2⟩:=aI.dW r1
            obtain ⟨v2,r2,rfl,h3,h4⟩:=h2.dW
            obtain ⟨v3,r3,rfl,h5,h6⟩:=h4.dW
            cases h6.j8
            cases h1.dz
            cases h3.dz
            cases h5.dz
            exact ⟨lo,hi,st,rfl,c.1,c.2.1,c.2.2,m8 hg hc (E.mono s1) cn (fun j H' h=>by rw [ow] at h; exact h) (fun j H' h=>by rw [ow] at h; exact h) (fun j H' x H2 d hd y=>by
              obtain ⟨rfl,rfl⟩:=y
              rw [vj hd]
              exact ⟨rfl,fun _=>Rep.int _⟩) e fun v H' s r=>q v H' (s1.trans s) (Kd.an _ _ _ _ _ _ s1 r)⟩
          · rw [if_neg cn] at e; cases e
        · cases e2
      · cases e2
end
section
variable {X:Cx}{c:Ct}{pos:Pos}{elt tg a b e3:Expr}{ifs:List Expr}{scope sc:Scope}{N N':List Str}{nt:Nat}{cap:List Nat}{fe:FE}{ft:FT}{tgf:FG}{gt:TG}
theorem oy {env:Env}(h:isStar a=false)(h2:isStar b=false)(h3:isStar e3=false){q:Pos}:(backTo q (starEach [b,e3] env)).any (·.1)=false:=by
  rw [nT h2 h3]; rfl
theorem xM {p p2:Pos}{fs:FA}(d:DefX X N sc)(chk:fZ sc scope N N' nt cap)(hcap:cap.Nodup)(hN':N'.Nodup)(hgr:Gl X "range")(hm:X.mg "range"=none)(ha:PDA X c [a,b,e3] fs)
    (hg : ∀ cl C s2 H2 fp,DefX (aO X scope cl N' C s2 H2 fp) N' (iA scope sc)→PG (aO X scope cl N' C s2 H2 fp) tg gt) (hge:nS nt gt) (sg:gJ (tx X c) tgf gt)
    (ht : ∀ cl C s2 H2 fp,DefX (aO X scope cl N' C s2 H2 fp) N' (iA scope sc)→jr (aO X scope cl N' C s2 H2 fp) ifs (tP (tx X c) kB ft))
    (he : ∀ cl C s2 H2 fp,DefX (aO X scope cl N' C s2 H2 fp) N' (iA scope sc)→PE (aO X scope cl N' C s2 H2 fp) elt (tP (tx X c) (kD (tx X c)) fe)) (hst:isStar a=false:=by rfl) (hst2:isStar b=false:=by rfl) (hst3:isStar e3=false:=by rfl)
   :PFc X c (.ListComp elt [⟨tg,.Call (.Name "range" p) [a,b,e3] [] p2,ifs,0⟩] scope pos) (gC tD nt cap tgf fs ft fe) :=
  ⟨PE.imp (mZ (tt:=tP (tx X c) kB ft) (te:=tP (tx X c) (kD (tx X c)) fe) d.hsc d.hN chk d.calm (qB hgr hm ha (bq hst) (oy hst hst2 hst3)) (fun cl C s2 H2 fp=>hg cl C s2 H2 fp (d.comp hN')) hge (fun cl C s2 H2 fp=>ht cl C s2 H2 fp (d.comp hN')) (fun cl C s2 H2 fp=>he cl C s2 H2 fp (d.comp hN')) (dX rfl)) fun _ _ _ h=>tK sg hcap h,
   fun i x pos' spos n hsw=>PS.imp (rD (tt:=tP (tx X c) kB ft) (te:=tP (tx X c) (kD (tx X c)) fe) d.hsc d.hN chk d.calm (qB hgr hm ha (bq hst) (oy hst hst2 hst3)) (fun cl C s2 H2 fp=>hg cl C s2 H2 fp (d.comp hN')) hge (fun cl C s2 H2 fp=>ht cl C s2 H2 fp (d.comp hN')) (fun cl C s2 H2 fp=>he cl C s2 H2 fp (d.comp hN')) n.nd n.hN n.hl n.hf hsw (dX rfl)) fun _ _ _ h=>tK sg hcap h⟩
theorem A5 {p p2:Pos}{fs:FA}(d:DefX X N sc)(chk:fZ sc scope N N' nt cap)(hcap:cap.Nodup)(hN':N'.Nodup)(hgr:Gl X "range")(hm:X.mg "range"=none)(ha:PDA X c [a,b,e3] fs)
    (hg : ∀ cl C s2 H2 fp,DefX (aO X scope cl N' C s2 H2 fp) N' (iA scope sc)→PG (aO X scope cl N' C s2 H2 fp) tg gt) (hge:nS nt gt) (sg:gJ (tx X c) tgf gt)
    (ht : ∀ cl C s2 H2 fp,DefX (aO X scope cl N' C s2 H2 fp) N' (iA scope sc)→jr (aO X scope cl N' C s2 H2 fp) ifs (tP (tx X c) kB ft))
    (he : ∀ cl C s2 H2 fp,DefX (aO X scope cl N' C s2 H2 fp) N' (iA scope sc)→PE (aO X scope cl N' C s2 H2 fp) elt (tP (tx X c) (kD (tx X c)) fe)) (hst:isStar a=false:=by rfl) (hst2:isStar b=false:=by rfl) (hst3:isStar e3=false:=by rfl)
   :PF X c (.ListComp elt [⟨tg,.Call (.Name "range" p) [a,b,e3] [] p2,ifs,0⟩] scope pos) (gC tD nt cap tgf fs ft fe):=(xM d chk hcap hN' hgr hm ha hg hge sg ht he hst hst2 hst3).1
end
end DL
end
section
namespace L2
open PySem PySem.Spec PyProof.Rows
section
variable {pr:Program}{wd:World}{Ar:Around}{Rs:Result→Shared→Prop}{it:Addr}{fs ws:List Addr}{m:Nat}{Pv:Nat→Value→Prop}{Sv:Nat→Heap→Prop}{kw:List (Str × Value)}
theorem jV:(toString "max"++toString ".loop":String)="max.loop":=by decide
theorem xN (Wk:Walks pr wd Ar.in1 it fs ws m Pv Sv)(bt:Nat→Nat→Bool)(cmp:CmpOf pr wd Ar.in1 .Gt Pv bt)(B:Addr)(hB:B ∉ fs) :
    ∀ (k j:Nat) (sh:Shared) (vb:Value) (c:Nat),m - (j+1)=k→j+1≤m→Sv (j+1) sh.heap→Pv (argBest bt j) vb →
    sh.heap.get? B=some { cls:=.type "list",dict:=none,data:=.seq #[vb,vb] c,slots:=#[] } →
    (∀ v hp tk,Pv (argBest bt (m - 1)) v→(∀ b o,b ∉ ws→b≠B→sh.heap.get? b=some o→hp.get? b=some o)→Rs (.ok (.ret v)) { sh with heap:=hp,toks:=tk }) →
    codeAny (model pr wd) Ar (.builtin "max.loop" ⟨[.ref it,.none,.ref B],kw⟩) Rs sh:=by
  have hBw:B ∉ ws:=fun z=>hB (Wk.sub _ z)
  intro k
  induction k with
  | zero =>
    intro j sh vb c e1 e2 st pb gB fin
    have em:j+1=m:=by omega
    refine codeAny_builtin F.entry_max_loop ?_
    rw [Around.under_plainId F.plain_max_loop _]
    show wpAny _ Ar.in1 (seqItems? (.ref B) >>= _) _ _ sh
    refine wpAny_bind (wpAny_seqItems gB rfl ?_)
    show wpAny _ Ar.in1 (tryCatch (pyNext (.ref it)) _ >>= _) _ _ sh
    refine wpAny_bind (wpAny_tryCatch (Wk.done sh _ _ (em ▸ st) fun hp tk kp=>?_))
    have gB':=kp B _ hBw gB
    show wpAny _ Ar.in1 (updateSeq B (fun _=>#[]) >>= _) _ _ _
    refine wpAny_bind (wpAny_updateSeq gB' rfl (wpAny_bind (wpAny_letGo (wpAny_pure ?_))))
    exact fin vb _ tk (by rw [← em]; exact pb) fun b o hb hb2 e=>(Heap.get?_update_other _ _ (Ne.symm hb2)).trans (kp b o hb e)
  | succ k ih =>
    intro j sh vb c e1 e2 st pb gB fin
    have lt:j+1<m:=by omega
    refine codeAny_builtin F.entry_max_loop ?_
    rw [Around.under_plainId F.plain_max_loop _]
    show wpAny _ Ar.in1 (seqItems? (.ref B) >>= _) _ _ sh
    refine wpAny_bind (wpAny_seqItems gB rfl ?_)
    show wpAny _ Ar.in1 (tryCatch (pyNext (.ref it)) _ >>= _) _ _ sh
    refine wpAny_bind (wpAny_tryCatch (Wk.item (j+1) sh _ _ lt st fun v hp tk pv st' kp=>?_))
    have gB':=kp B _ hBw gB
    show wpAny _ Ar.in1 (tryCatch (holding [v,v] (richCompare .Gt v vb >>= _)) _ >>= _) _ _ _
    refine wpAny_bind (wpAny_tryCatch (wpAny_holding (wpAny_bind (cmp (j+1) (argBest bt j) v vb _ _ _ pv pb ?_))))
    refine wpAny_bind (wpAny_holding (wpAny_truthy_bool (wpAny_bind (wpAny_letGo (wpAny_pure ?_)))))
    cases hb:bt (j+1) (argBest bt j) with
    | true =>
      simp only [if_true]
      refine wpAny_bind (wpAny_updateSeq gB' rfl (wpAny_bind (wpAny_letGo ?_)))
      rw [jV]
      refine wpAny_pure ⟨plainId_quiet F.plain_max_loop _,ih (j+1) _ v _ (by omega) lt (Wk.frame _ _ _ st' fun b hbf o e=>(Heap.get?_update_other _ _ (fun z:B=b=>hB (by rw [z]; exact hbf))).trans e) (by simp only [argBest,hb,if_true]; exact pv) (Heap.get?_update_self _ gB' rfl) fun v' hp2 tk2 pv' kp2=>?_⟩
      exact fin v' hp2 tk2 pv' fun b o hbw hbB e=>kp2 b o hbw hbB ((Heap.get?_update_other _ _ (Ne.symm hbB)).trans (kp b o hbw e))
    | false =>
      simp only [Bool.false_eq_true,if_false]
      refine wpAny_bind (wpAny_letGo ?_)
      rw [jV]
      refine wpAny_pure ⟨plainId_quiet F.plain_max_loop _,ih (j+1) _ vb c (by omega) lt st' (by simp only [argBest,hb,Bool.false_eq_true,if_false]; exact pb) gB' fun v' hp2 tk2 pv' kp2=>?_⟩
      exact fin v' hp2 tk2 pv' fun b o hbw hbB e=>kp2 b o hbw hbB (kp b o hbw e)
theorem vk (Wk:Walks pr wd Ar.in1 it fs ws m Pv Sv)(bt:Nat→Nat→Bool)(cmp:CmpOf pr wd Ar.in1 .Gt Pv bt)(B:Addr)(hB:B ∉ fs){nm:Str}{dv:Value}{sh:Shared}{c:Nat}(st:Sv 0 sh.heap)
    (gB:sh.heap.get? B=some { cls:=.type "list",dict:=none,data:=.seq #[] c,slots:=#[] })
    (fin : ∀ v hp tk,(0<m→Pv (argBest bt (m - 1)) v)→(m=0→v=dv)→(∀ b o,b ∉ ws→b≠B→sh.heap.get? b=some o→hp.get? b=some o)→Rs (.ok (.ret v)) { sh with heap:=hp,toks:=tk }) :
    codeAny (model pr wd) Ar (.builtin "max.loop" ⟨[.ref it,.none,.ref B],[(nm,dv)]⟩) Rs sh:=by
  have hBw:B ∉ ws:=fun z=>hB (Wk.sub _ z)
  refine codeAny_builtin F.entry_max_loop ?_
  rw [Around.under_plainId F.plain_max_loop _]
  show wpAny _ Ar.in1 (seqItems? (.ref B) >>= _) _ _ sh
  refine wpAny_bind (wpAny_seqItems gB rfl ?_)
  show wpAny _ Ar.in1 (tryCatch (pyNext (.ref it)) _ >>= _) _ _ sh
  by_cases h0:m=0
  · refine wpAny_bind (wpAny_tryCatch (Wk.done sh _ _ (by rw [h0]; exact st) fun hp tk kp=>?_))
    show wpAny _ Ar.in1 (do rule _; ret dv) _ _ _
    exact wpAny_bind (wpAny_rule (wpAny_pure (fin dv hp tk (fun z=>absurd z (by omega)) (fun _=>rfl) fun b o hb _ e=>kp b o hb e)))
  · have hm : 0<m:=by omega
    refine wpAny_bind (wpAny_tryCatch (Wk.item 0 sh _ _ hm st fun v hp tk pv st' kp=>?_))
    have gB':=kp B _ hBw gB
    show wpAny _ Ar.in1 (updateSeq B (fun _=>#[v,v]) >>= _) _ _ _
    refine wpAny_bind (wpAny_updateSeq gB' rfl ?_)
    rw [jV]
    refine wpAny_pure ⟨plainId_quiet F.plain_max_loop _,xN Wk bt cmp B hB _ 0 _ v _ rfl hm (Wk.frame _ _ _ st' fun b hbf o e=>(Heap.get?_update_other _ _ (fun z:B=b=>hB (by rw [z]; exact hbf))).trans e) pv (Heap.get?_update_self _ gB' rfl) fun v' hp2 tk2 pv' kp2=>?_⟩
    exact fin v' hp2 tk2 (fun _=>pv') (fun z=>absurd z h0) fun b o hbw hbB e=>kp2 b o hbw hbB ((Heap.get?_update_other _ _ (Ne.symm hbB)).trans (kp b o hbw e))
end
section
variable {pr:Program}{wd:World}{Ar:Around}{Er:Value→Shared→Prop}{sh:Shared}
theorem Cm {id:String}{b:Builtin}{args:List Value}{kw:List (Str × Value)}{Q:Value→Shared→Prop}(hk:builtinKind id=none)(hp:plainId id=true)(hb:entryFor table id=some b)(ha:argsOk id ⟨args,kw⟩)
    (hc:wpAny (model pr wd) Ar.in1 (b ⟨args,kw⟩) (fun fin s'=>match fin with
      | .done f=>(match (Except.ok f:Result) with | .ok (.ret v)=>Q v s' | .ok _=>False | .error e=>Er e s')
      | .again c'=>c'.quiet=true∧codeAny (model pr wd) Ar c' (fun r s'=>match r with | .ok (.ret v)=>Q v s' | .ok _=>False | .error e=>Er e s') s') Er sh) :
    wpAny (model pr wd) Ar (call (.builtin id) args kw) Q Er sh:=by
  refine wpAny_call (codeAny_call_builtin hp hb ?_)
  simp only [checkBuiltinCall,hk]
  cases hsig:Manifest.signature? id with
  | none=>exact wpAny_pure hc
  | some sig =>
    have ha':Bind.checkArgs id sig ⟨args,kw⟩=pure ():=by simpa only [argsOk,hsig] using ha
    simp only [ha']
    exact wpAny_pure hc
theorem xO (x d:Value):argsOk "max" ⟨[x],[("default",d)]⟩:=by unfold argsOk; kernel_rfl
theorem xP {l:Addr}{xs:Array (Int × Tok)}{dv:Value}{Q:Value→Shared→Prop}(hh:Ar.handled=none)(hl:sh.heap.IsList l (intItems xs))
    (h : ∀ v hp tk,(0<xs.size→(intItems xs)[argBest (fun i j=>decide (numAt xs i > numAt xs j)) (xs.size - 1)]?=some v)→(xs.size=0→v=dv)→(∀ b o,sh.heap.get? b=some o→hp.get? b=some o)→Q v { sh with heap:=hp,toks:=tk }) :
    wpAny (model pr wd) Ar (call (.builtin "max") [.ref l] [("default",dv)]) Q Er sh:=by
  refine Cm F.kind_max F.plain_max F.entry_max (xO _ _) ?_
  show wpAny _ Ar.in1 (Builtin.Builtins.bindParams "max" ["key", "default"] 0 ⟨[],[("default",dv)]⟩ >>= _) _ _ sh
  refine wpAny_bind (wpAny_of_eq (show Builtin.Builtins.bindParams "max" ["key", "default"] 0 ⟨[],[("default",dv)]⟩=pure [none,some dv] from rfl) ?_)
  refine wpAny_bind (wpAny_pure ?_)
  refine wpAny_bind (iter_intList hl fun s2 e st hfp hlI=>?_)
  subst e
  refine wpAny_bind (wpAny_newObj_type ?_)
  have W:=Walks.list (prog:=pr) (w:=wd) (A:=Ar.in1) hh _ l hlI (intItems xs)
  rw [jV]
  refine wpAny_pure ⟨plainId_quiet F.plain_max_loop _,vk W _ (CmpOf.ints_gt (numAt xs) (fun _ _=>intItems_at)) _ (fun hm=>Nat.lt_irrefl _ (hfp _ hm)) (W.frame _ _ _ st fun b _ o e=>Heap.get?_push_of_some _ e) (Heap.get?_push_size _ rfl) fun v hp tk hP h0 hk=>?_⟩
  have hsz:(intItems xs).size=xs.size:=by simp [intItems]
  refine h v hp tk (fun z=>?_) (fun z=>h0 (by rw [hsz]; exact z)) ?_
  · have:=hP (by rw [hsz]; exact z)
    rw [hsz] at this
    exact this
  · intro b o e
    have lt:=Heap.lt_size e
    have e1:(sh.heap.push { cls:=.type "list_iterator",data:=.fields #[.ref l,.int 0 0] }).get? b=some o:=Heap.get?_push_of_some _ e
    refine hk b o (fun z=>?_) (Nat.ne_of_lt (Heap.lt_size e1)) (Heap.get?_push_of_some _ e1)
    have:b=sh.heap.objs.size:=by simpa using z
    rw [this] at lt
    exact Nat.lt_irrefl _ lt
end
section
variable {X:Cx}{a b:Expr}{ta tb:TE}{p pos kp:Pos}
noncomputable def IJ (K:PySem.W.Frag)(ta:TA)(tb:TE):TE:=fun σ H Q=>ta σ H fun vs H1=>tb σ H1 fun y H2=>∃ (l:Addr) (is:List Int),vs=[.ref l]∧SqL K H2 l (is.map V.int)∧Q (match is with | []=>y | i::r=>.int (DL.kJ i r)) H2
theorem Co {ta:TA}(hc:X.calm=true)(hg:Gl X "max")(hm:X.mg "max"=none)(ha:PA X [a] ta)(hb:PE X b tb)(hs:starEach [a] X.env=[(false,eval a X.env)]) :
    PE X (.Call (.Name "max" p) [a] [⟨some "default",b,kp⟩] pos) (IJ X.K ta tb):=by
  intro pins s σ H Q I h
  refine wpAny_Call_Name_kw (iI I hg hm boot_max ?_)
  refine callWith_kw (bH (ha pos pins s σ H _ I h) fun us s1 vs H1 I1 r1 q1=>kws_cons (bH (hb pins s1 σ H1 _ I1 q1) fun y s2 yv H2 I2 ry q2=>kws_nil ?_)) (by rw [hs]; rfl) (by rw [hs]; rfl) rfl rfl
  obtain ⟨l,is,rfl,hS,q⟩:=q2
  obtain ⟨u,rfl,ru⟩:=vals1 r1
  cases ru
  obtain ⟨its,rv,pl,hz⟩:=I2.list hS
  have hi:=DL.hU rv
  obtain ⟨ys,hy⟩:=hi.allInts.items
  have hl:s2.heap.IsList l (intItems ys):=hy ▸ pl.isList
  have e1:is=ys.toList.map (·.1):=by
    rw [← nums_intItems, ← hy]
    exact hi.numsOf.symm
  have e2:is.length=ys.size:=by rw [e1]; simp
  show wpAny (model X.prog X.w) X.A (call (.builtin "max") [.ref l] [("default",y)]) _ _ _
  refine xP (I2.ok.hd hc) hl fun v hp tk hv h0 hk=>?_
  cases is with
  | nil =>
    have:=h0 (by simpa using e2.symm)
    subst this
    exact ⟨yv,H2,I2.kept hk,ry,q⟩
  | cons i ns =>
    have hsz : 0<ys.size:=by simp at e2; omega
    obtain ⟨t,rfl⟩:=intItems_at (hv hsz)
    obtain ⟨h1,h2⟩:=argBest_gt (numAt ys) (ys.size - 1)
    generalize argBest (fun i j=>decide (numAt ys i > numAt ys j)) (ys.size - 1)=k at h1 h2
    have hm:numAt ys k=DL.kJ i ns:=by
      have m1:numAt ys k∈i::ns:=by rw [e1,numAt_eq]; exact getD_mem (by rw [List.length_map,Array.length_toList]; omega)
      have m2 : ∀ j∈i::ns,j≤numAt ys k:=fun j hj=>by
        rw [e1] at hj
        obtain ⟨q,hq,rfl⟩:=mem_getD hj
        rw [List.length_map,Array.length_toList] at hq
        rw [← numAt_eq]; exact h2 q (by omega)
      have m3:=DL.rT ns i
      refine Int.le_antisymm ?_ (m2 _ (DL.lA ns i))
      rcases List.mem_cons.mp m1 with e | e
      · rw [e]; exact m3.1
      · exact m3.2 _ e
    exact ⟨.int (DL.kJ i ns),H2,I2.kept hk,⟨t,by rw [hm]⟩,q⟩
end
end L2
namespace DL
open PySem PySem.Spec PyProof.Rows L2
section
variable {X:Cx}{c:Ct}{a b:Expr}{f g:FE}{p pos kp:Pos}
theorem tL (hg:Gl X "max")(hm:X.mg "max"=none)(hc:X.calm=true)(ha:PR X c a f)(hb:PD X c b g)(hs:isStar a=false:=by rfl):PD X c (.Call (.Name "max" p) [a] [⟨some "default",b,kp⟩] pos) (fp2 nW f g) :=
  PE.imp (Co hc hg hm (v5 ha hs) hb (i7 hs)) fun σ H Q h=>by
  obtain ⟨W,O,env,d,E,e,q⟩:=h
  unfold fp2 at e
  cases e1:f env with
  | none=>rw [e1] at e; cases e
  | some x =>
    rw [e1] at e
    dsimp only [Option.bind_some] at e
    cases e2:g env with
    | none=>rw [e2] at e; cases e
    | some y =>
      rw [e2] at e
      dsimp only [Option.bind_some] at e
      cases x with
      | lst ds =>
        have e:(intsOf ds).bind (fun is=>match is with | []=>some y | i::r=>some (.int (kJ i r)))=some d:=e
        cases e3:intsOf ds with
        | none=>rw [e3] at e; cases e
        | some is =>
          rw [e3] at e
          dsimp only [Option.bind_some] at e
          refine ⟨W,O,env,[.lst ds],E,by unfold faR; rw [e1]; rfl,fun vs H1 s1 r1=>?_⟩
          obtain ⟨v,rfl,rv⟩:=r1
          obtain ⟨l,us,rfl,hS,hr⟩:=aE.fY rv
          cases kP e3 hr
          refine ⟨W,O,env,y,E.mono s1,e2,fun w H2 s2 r2=>⟨l,is,rfl,s2.seq hS, ?_⟩⟩
          cases is with
          | nil=>cases e; exact q _ _ (s1.trans s2) r2
          | cons i r=>cases e; exact q _ _ (s1.trans s2) (.int _)
      | _=>cases e
end
end DL
end
section
namespace DL
open L2
noncomputable def A6 (ds:List D):List D→Option (List D)
  | [.tup es]=>if ds.length+es.length≤1000000 then some (ds++es) else none
  | _=>none
noncomputable def lC (i:Nat)(f:FE):FS:=m5 i A6 (ah f ay)
@[simp] theorem DC (i:Nat)(f:FE)(env:aN):lC i f env=aL (ki env[i]?) fun ds=>aL (f env) fun x=>omap (fun es=>.nx (env.set i (.own es))) (A6 ds [x]):=by
  unfold lC m5
  cases env[i]? with
  | none=>rfl
  | some s =>
    cases s with
    | own ds =>
      show ((ah f ay env).bind _)=_
      unfold ah ay
      cases f env <;> rfl
    | _=>rfl
@[simp] theorem JD (ds es:List D):A6 ds [.tup es]=if ds.length+es.length≤1000000 then some (ds++es) else none:=(Eq.refl _).trans (Eq.refl _)
end DL
end
section
namespace L2
open PySem PySem.Spec PyProof.Rows
theorem Cp (l b:Addr)(xs ys:Array Value)(k k2:Nat)(dd:Option Addr)(sl:Array (Option Value))(h0 : ¬(!xs.isEmpty && Builtin.List.listTooLong (xs.size+ys.size))=true)(h1:xs.size≤sizeLine)(h2:xs.size+ys.size≤sizeLine+1) :
    Meets (Builtin.«list.extend» ⟨[.ref l,.ref b],[]⟩) (fun _ R s=>s.heap.get? l=some { cls:=.type "list",dict:=none,data:=.seq xs k,slots:=#[] } ∧
      s.heap.get? b=some { cls:=.type "tuple",dict:=dd,data:=.seq ys k2,slots:=sl }∧R (.ok (.ret Value.none)) { s with heap:=s.heap.update l (Obj.mapSeq fun x=>x++ys),toks:=s.toks }) :=
  .of_wp fun pr wd Ar R s h=>by
    obtain ⟨hp,g,d,tk,os⟩:=s
    obtain ⟨hl,hb,h⟩:=h
    have f1:=AutoSeq1.idx_int
    have f2:=AutoSeq1.sub_tuple_tuple
    have f3:=AutoSeq1.sub_list_list
    have f4:=AutoSeq1.sub_tuple_list
    have f5:=AutoSeq1.sub_list_tuple
    have hz:(xs++ys).size≤sizeLine+1:=by rw [Array.size_append]; exact h2
    wp_walk using (wpAny_updateSeq hl rfl (hz:=h1) (_hz':=hz)),AutoSeq1.wpAny_loadPart' hl,AutoSeq1.wpAny_loadPart' hb
    exact ⟨_,rfl,h⟩
section
variable {X:Cx}
noncomputable def DD (K:PySem.W.Frag):V→List V→Hp→VK→Prop:=fun x vs H Q=>∃ l b xs zs,x=.ref l∧vs=[.ref b]∧H l=some (.lst xs)∧SqT K H b zs∧xs.length+zs.length≤sizeLine∧Q .non (upd H l (.lst (xs++zs)))
theorem Cq:MtM X "list.extend" (DD X.K):=by
  intro pins s σ H x vs v us Q I rx rv h
  obtain ⟨l,b,xs,zs,rfl,rfl,hH,hB,hz,q⟩:=h
  cases rx
  obtain ⟨u,rfl,ru⟩:=rv.one
  cases ru
  obtain ⟨z,its,n,r,hl,e⟩:=I.HC hH
  obtain ⟨its2,r2,pt,z2⟩:=I.tuple hB
  have hl2:=r2.length
  obtain ⟨⟨cls,dd,data,sl⟩,e2,hc,n2,hd⟩:=pt
  simp only at hc hd
  subst hc hd
  have hsz:its.toArray.size+its2.toArray.size≤sizeLine:=by rw [List.size_toArray,List.size_toArray]; omega
  have hlong : ¬ (!its.toArray.isEmpty && Builtin.List.listTooLong (its.toArray.size+its2.toArray.size))=true:=by
    rw [yL hsz,Bool.and_false]
    exact Bool.false_ne_true
  refine call_meets F.slot_list_extend ⟨_,e,rfl⟩ F.entry_list_extend (F.args_list_extend_2 _ _) (Cp l b its.toArray its2.toArray n n2 dd sl hlong (by rw [List.size_toArray]; omega) (by omega)) ⟨e,e2, ?_⟩
  refine ⟨.non,_,I.HB (its':=its++its2) hH e (by simp) (r.append r2) ?_,rfl,q⟩
  rw [List.length_append]
  omega
end
end L2
namespace DL
open PySem PySem.Spec PyProof.Rows L2
section
variable {X:Cx}{c:Ct}{xq:XQ}{e:Expr}{f:FE}{pos:Pos}
theorem vm {T:Tx}(A:Addr→Prop)(H:Hp)(a:Addr)(ds:List D)(xs:List V)(x:List D)(y:List V)(ds':List D)(Q:VK)(hl:H a=some (.lst xs))(r:aI T A H ds xs)(_ : ∀ b,A b→b≠a)(ra:kA T A H H x y)(e:A6 ds x=some ds')
    (k : ∀ ys,(∀ A' H',(∀ d v,Rep T A H d v→Rep T A' H' d v)→(∀ d v,aI T A H d v→aI T A' H' d v)→aI T A' H' ds' ys)→∀ w,Q w (upd H a (.lst ys))):DD T.K (.ref a) y H Q:=by
  unfold A6 at e
  split at e
  · next es =>
    split at e
    · next hz =>
      cases e
      obtain ⟨v,r1,rfl,h1,h2⟩:=aI.dW ra
      have h3:=h2.j8
      subst h3
      obtain ⟨b,zs,rfl,hS,hr⟩:=Rep.gq h1
      refine ⟨a,b,xs,zs,rfl,rfl,hl,hS, ?_,k _ (fun A' H' g gl=>?_) _⟩
      · rw [← r.length, ← hr.length]; exact Nat.le_trans hz (by decide)
      · exact (gl _ _ r).append (gl _ _ hr)
    · cases e
  · cases e
theorem vn {i:Nat}{x:Str}{p1 p2 p3:Pos}(n:Nm X i x)(he:PD X c e f)(hs:isStar e=false:=by rfl)(hl:(p2.endLine == p3.line)=true:=by rfl) :
    PDS X c xq (.Expr (.Call (.Attribute (.Name x p1) "extend" p2) [e] [] p3) pos) (lC i f):=by
  refine PS.imp (vQ (D5 PySem.F.plainAttrs_list PySem.F.slot_list_extend PySem.F.type_list_extend Cq (ku n.hN n.hv n.hd n.hc) (af he ar hs) rfl (by rw [i7 hs]; rfl) hl (bq hs) rfl) (gK rfl)) fun De σ H h=>?_
  obtain ⟨v,h1,⟨xs,_,a,rfl,ha⟩,h3⟩:=w6 (tf:=tP (tx X c) (kA (tx X c)) (ah f ay)) (fun Q h=>h) vm (fun _ _ _ _ _ h=>h) h
  obtain ⟨W,O,env,x,E,e1,q⟩:=h3
  exact ⟨.ref a,h1,.inl ⟨rfl,xs,SqL.of ha⟩,W,O,env,x,E,e1,fun v H' s r=>(q v H' s r).2⟩
end
end DL
end
section
namespace L2
open PySem PySem.Spec PyProof.Rows DL
section
variable {X:Cx}{elt iter tg:Expr}{ifs:List Expr}{scope:Scope}{pos:Pos}{wi:TI}{g:TG}{tt:TT}{te:TE}{sc:Scope}{N N':List Str}{nt:Nat}{cap:List Nat}{x0:Str}
end
end L2
end
section
namespace DL
open PySem PySem.Spec PyProof.Rows L2
section
variable {X:Cx}{c:Ct}{pos:Pos}{a b:Expr}{x0:Str}{iter elt tg:Expr}{ifs:List Expr}{scope sc:Scope}{N N':List Str}{nt:Nat}{cap:List Nat}{fi fe:FE}{ft:FT}{tgf:FG}{gt:TG}
end
end DL
end
section
namespace DL
open L2
noncomputable def Cr (tg:FG)(fi:FE)(body:FS):FS:=fun env=>(fi env).bind fun x=>(rA x).bind fun ds=>runFor tg body (ie ds) env
@[simp] theorem FI (tg:FG)(fi:FE)(body:FS)(env:aN):Cr tg fi body env=aL (fi env) (fun x=>aL (rA x) (fun ds=>runFor tg body (ie ds) env)):=(Eq.refl _).trans (Eq.refl _)
end DL
end
section
namespace DL
open PySem PySem.Spec PyProof.Rows L2
section
variable {T:Tx}{X:XQ}{F:FS}{fi fe:FE}{ft:FT}{De:Ends}{σ:L2.St}{H:Hp}{tg:FG}{g:TG}
end
section
variable {X:Cx}{c:Ct}{xq:XQ}{ts:List Expr}{tk:Nat}{tp p ip pos:Pos}{iter:Expr}{fi:FE}{tgf:FG}{gt:TG}{F:FS}
end
end DL
end
section
namespace DL
open L2
noncomputable def Kh (neg q:Bool):D→Option D
  | .bl b=>some (.bl (if neg then b != q else b == q))
  | _=>none
@[simp] theorem JE (neg q b:Bool):Kh neg q (.bl b)=some (.bl (if neg then b != q else b == q)):=(Eq.refl _).trans (Eq.refl _)
end DL
end
section
namespace DL
open PySem PySem.Spec PyProof.Rows L2
section
variable {X:Cx}{c:Ct}{a:Expr}{ta:TE}{f:FE}{pos p2:Pos}{j:Nat}{q:Bool}
end
end DL
end
section
namespace DL
open PySem PySem.Spec PyProof.Rows L2
section
variable {X:Cx}{c:Ct}{a:Expr}{ta:TE}{f:FE}{pos p:Pos}{x:Str}{tb:List (List Nat × Int)}
noncomputable def IK (neg:Bool)(tb:List (List Nat × Int))(ta:TE):TE:=fun σ H Q=>ta σ H fun v H1=>∃ k:List Nat,v=.str (mkS k)∧Q (.bl (if neg then !(dC k tb).isSome else (dC k tb).isSome)) H1
theorem xQ (G:Gt X x tb)(hg:Gl X x)(ha:PE X a ta)(hd:(x == ("__debug__":Str))=false:=by decide):PC X .NotIn a (.Name x p) (IK true tb ta):=by
  obtain ⟨da,hm,T⟩:=G.ex
  intro pins s σ H Q I h
  refine bH (ha pins s σ H _ I h) fun v s1 y H1 I1 r1 q1=>?_
  obtain ⟨k,rfl,q⟩:=q1
  obtain ⟨t,rfl⟩:=r1
  refine bH (qY (v:=.ref da) hg hm rfl hd pins s1 σ H1 (fun w H2=>w=.ref da∧H2=H1) I1 ⟨rfl,rfl⟩) fun u s2 w H2 I2 r2 zz_=>?_
  obtain ⟨e1,e2⟩:=zz_
  subst e1 e2
  cases r2
  exact PySem.W.kdp_notin (T _ I2.kIn) ⟨.bl _,_,I2.tok _,rfl,by rw [(o8 k tb).1]; exact q⟩
theorem FJ {T:Tx}{neg:Bool}{σ:L2.St}{H:Hp}{Q:VK}(h:tP T (kD T) (fp1 (tabIn neg tb) f) σ H Q):IK neg tb (tP T (kD T) f) σ H Q:=by
  obtain ⟨W,O,env,d,E,e,k⟩:=h
  unfold fp1 at e
  cases e1:f env with
  | none=>rw [e1] at e; cases e
  | some y =>
    rw [e1] at e
    dsimp only [Option.bind_some] at e
    cases y with
    | str z =>
      cases e
      refine ⟨W,O,env,_,E,e1,fun v1 H1 s1 r1=>?_⟩
      cases Rep.gr r1
      exact ⟨z,rfl,k _ _ s1 (Rep.bl _)⟩
    | _=>cases e
theorem vo (G:Gt X x tb)(hg:Gl X x)(ha:PD X c a f)(hd:(x == ("__debug__":Str))=false:=by decide):PDT X c (.Compare a [.NotIn] [.Name x p] pos) (ftB (fp1 (tabIn true tb) f)):=PT.imp (uH (xQ G hg ha hd)) fun _ _ _ h=>zL (fun _ _ _ h=>FJ h) h
end
end DL
end
section
namespace DL
open L2
noncomputable def rmD (c:Nat):D→Option D
  | .str z=>if z.length≤1000 then some (.str (z.filter (· != c))) else none
  | _=>none
@[simp] theorem Ki (c:Nat)(z:List Nat):rmD c (.str z)=if z.length≤1000 then some (.str (z.filter (· != c))) else none:=(Eq.refl _).trans (Eq.refl _)
end DL
end
section
namespace L2
open PySem PySem.Spec PyProof.Rows DL
section
variable {X:Cx}{st:Stmt}{rest:List Stmt}{t u:TS}{pos:Pos}
end
end L2
namespace DL
open PySem PySem.Spec PyProof.Rows L2
section
variable {X:Cx}{c:Ct}{xq:XQ}{st:Stmt}{rest:List Stmt}{a b o:Expr}{f g fe:FE}{F G:FS}{t:FT}{pos:Pos}
end
end DL
end
section
namespace DL
open L2
noncomputable def IL:D→D→Option D
  | .tup (x::xs),.int k=>if (x::xs).length≤1000∧2≤k∧k≤1000 then some (.tup (List.replicate k.toNat (x::xs)).flatten) else none
  | _,_=>none
@[simp] theorem IM (x:D)(xs:List D)(k:Int):IL (.tup (x::xs)) (.int k)=if (x::xs).length≤1000∧2≤k∧k≤1000 then some (.tup (List.replicate k.toNat (x::xs)).flatten) else none:=(Eq.refl _).trans (Eq.refl _)
end DL
end
section
namespace L2
open PySem PySem.Spec PyProof.Rows DL Builtin
section
variable {X:Cx}
end
end L2
namespace DL
open PySem PySem.Spec PyProof.Rows L2
section
variable {X:Cx}{c:Ct}{a b:Expr}{f g:FE}{pos:Pos}
end
end DL
end
section
namespace DL
open L2
noncomputable def vp (k:Nat):List Nat→List D→Option D
  | k'::ks,d::ds=>if k'=k then some d else vp k ks ds
  | _,_=>none
noncomputable def Kj (k:Nat):D→Option D
  | .ob _ ks ds=>vp k ks ds
  | _=>none
noncomputable abbrev Cs (α:Type):=Nat→Option (List Nat × (List D→Option α))
noncomputable def A7 {α:Type}(n:Nat)(tab:Cs α):D→List D→Option α
  | .ob c ks ds,as=>(tab c).bind fun p=>if ks=p.1∧as.length=n then p.2 (.ob c ks ds::as) else none
  | _,_=>none
noncomputable def FK {α:Type}(n:Nat)(tab:Cs α)(fo:FE)(fa:FA):FP α:=fun env=>(fo env).bind fun d=>(fa env).bind fun as=>A7 n tab d as
noncomputable abbrev IFn:=Nat→List D→Option (List Nat × List D)
noncomputable def FL (k n:Nat)(I:IFn)(fa:FA):FE:=fun env=>(fa env).bind fun as=>if as.length=n then (I k as).map fun p=>.ob k p.1 p.2 else none
noncomputable def DE (i k:Nat)(f:FE):FS:=fun env=>match env[i]? with
  | some (.obj c ks ds)=>if k∈ks∨100≤ks.length then none else (f env).map fun d=>.nx (env.set i (.obj c (ks++[k]) (ds++[d])))
  | _=>none
noncomputable def A8 (i n:Nat)(I:IFn)(fa:FA):FS:=fun env=>match env[i]? with
  | some (.obj c [] [])=>(fa env).bind fun as=>if as.length=n then (I c as).map fun p=>.nx (env.set i (.obj c p.1 p.2)) else none
  | _=>none
end DL
end
section
namespace DL
open PySem PySem.Spec PyProof.Rows L2
section
variable {X:Cx}{c:Ct}{xq:XQ}{o e:Expr}{es:List Expr}{f fo:FE}{fa:FA}{pos apos:Pos}{m:Str}
end
section
variable {X:Cx}{c:Ct}{xq:XQ}{o e:Expr}{es:List Expr}{f fo:FE}{fa:FA}{pos apos:Pos}{m:Str}
end
section
variable {X:Cx}{c:Ct}{xq:XQ}{o e:Expr}{es:List Expr}{f fo:FE}{fa:FA}{pos apos:Pos}{m:Str}
end
section
variable {P:Program}{w:World}{K:PySem.W.Frag}{mg:Str→Option Value}{base:Heap}{c:Ct}
end
end DL
end
section
namespace DL
open L2
noncomputable def vq (as bs:List D):List D:=(as.zip bs).map fun p=>.tup [p.1,p.2]
noncomputable def Kk:List D→Option (List D)
  | [.lst xs,.lst ys]=>some (vq xs ys)
  | _=>none
noncomputable def IP:List D→Option (List D)
  | [.str z,.lst ys]=>if z.length≤1000000 then some (vq (z.map fun c=>.str [c]) ys) else none
  | _=>none
noncomputable def FN (zf:List D→Option (List D))(tg:FG)(fa:FA)(body:FS):FS:=fun env=>(fa env).bind fun as=>(zf as).bind fun ds=>runFor tg body ds env
noncomputable def IQ (cs:List Nat):D→Option D
  | .ob c _ _=>some (.bl (cs.contains c))
  | _=>none
theorem IS (bs:List D):vq [] bs=[]:=rfl
theorem GU (a b:D)(as bs:List D):vq (a::as) (b::bs)=.tup [a,b]::vq as bs:=rfl
@[simp] theorem JF (xs ys:List D):Kk [.lst xs,.lst ys]=some (vq xs ys):=(Eq.refl _).trans (Eq.refl _)
@[simp] theorem IT (z:List Nat)(ys:List D):IP [.str z,.lst ys]=if z.length≤1000000 then some (vq (z.map fun c=>.str [c]) ys) else none:=(Eq.refl _).trans (Eq.refl _)
@[simp] theorem GV (zf:List D→Option (List D))(tg:FG)(fa:FA)(body:FS)(env:aN):FN zf tg fa body env=aL (fa env) (fun as=>aL (zf as) fun ds=>runFor tg body ds env):=(Eq.refl _).trans (Eq.refl _)
@[simp] theorem IU (cs:List Nat)(c:Nat)(ks:List Nat)(ds:List D):IQ cs (.ob c ks ds)=some (.bl (cs.contains c)):=(Eq.refl _).trans (Eq.refl _)
@[simp] theorem JG (k c:Nat)(ks:List Nat)(ds:List D):Kj k (.ob c ks ds)=vp k ks ds:=(Eq.refl _).trans (Eq.refl _)
@[simp] theorem JH (k k':Nat)(ks:List Nat)(d:D)(ds:List D):vp k (k'::ks) (d::ds)=if k'=k then some d else vp k ks ds:=(Eq.refl _).trans (Eq.refl _)
@[simp] theorem IV {α:Type}(n:Nat)(tab:Cs α)(c:Nat)(ks:List Nat)(ds as:List D):A7 n tab (.ob c ks ds) as=aL (tab c) fun p=>if ks=p.1∧as.length=n then p.2 (.ob c ks ds::as) else none:=(Eq.refl _).trans (Eq.refl _)
@[simp] theorem GW {α:Type}(n:Nat)(tab:Cs α)(fo:FE)(fa:FA)(env:aN):FK n tab fo fa env=aL (fo env) fun d=>aL (fa env) fun as=>A7 n tab d as:=(Eq.refl _).trans (Eq.refl _)
@[simp] theorem GX (k n:Nat)(I:IFn)(fa:FA)(env:aN):FL k n I fa env=aL (fa env) fun as=>if as.length=n then omap (fun p:List Nat × List D=>.ob k p.1 p.2) (I k as) else none:=(Eq.refl _).trans (Eq.refl _)
noncomputable def lD:Option Slot→Option (Nat × List Nat × List D)
  | some (.obj c ks ds)=>some (c,ks,ds)
  | _=>none
@[simp] theorem GY (c:Nat)(ks:List Nat)(ds:List D):lD (some (.obj c ks ds))=some (c,ks,ds):=(Eq.refl _).trans (Eq.refl _)
@[simp] theorem IW (i k:Nat)(f:FE)(env:aN):DE i k f env=aL (lD env[i]?) fun p=>if k∈p.2.1∨100≤p.2.1.length then none else omap (fun d=>.nx (env.set i (.obj p.1 (p.2.1++[k]) (p.2.2++[d])))) (f env):=by
  unfold DE lD
  cases h:env[i]? with
  | none=>rfl
  | some s=>cases s <;> rfl
@[simp] theorem GZ (i n:Nat)(I:IFn)(fa:FA)(env:aN):A8 i n I fa env=aL (lD env[i]?) fun p=>if p.2.1=[]∧p.2.2=[] then aL (fa env) fun as=>if as.length=n then omap (fun r:List Nat × List D=>.nx (env.set i (.obj p.1 r.1 r.2))) (I p.1 as) else none else none:=by
  unfold A8 lD
  cases h:env[i]? with
  | none=>rfl
  | some s =>
    cases s with
    | obj c ks ds =>
      cases ks with
      | nil=>cases ds <;> rfl
      | cons a b=>rfl
    | no=>rfl
    | val d=>rfl
    | own d=>rfl
    | red d=>rfl
    | mS d=>rfl
    | yN d=>rfl
    | xg d=>rfl
noncomputable def Kl (k:Nat):DFl→Option (List Nat × List D)
  | .nx env'=>aL (lD env'[0]?) fun p=>if p.1=k then some (p.2.1,p.2.2) else none
  | _=>none
@[simp] theorem JI (k:Nat)(env':aN):Kl k (.nx env')=aL (lD env'[0]?) fun p=>if p.1=k then some (p.2.1,p.2.2) else none:=(Eq.refl _).trans (Eq.refl _)
end DL
end
section
namespace L2
open PySem PySem.Spec PyProof.Rows
section
variable {X:Cx}{pins:List (Addr × Obj)}{σ:List (Option V)}{H H':Hp}{s:Shared}{h':Heap}
end
end L2
namespace DL
open PySem PySem.Spec PyProof.Rows L2
section
variable {T:Tx}{X:XQ}{F:FS}{fa:FA}{De:Ends}{σ:L2.St}{H:Hp}{tg:FG}{g:TG}
end
section
variable {X:Cx}{c:Ct}{xq:XQ}{ts:List Expr}{tk:Nat}{tp p ip pos:Pos}{a b:Expr}{fa:FA}{tgf:FG}{gt:TG}{F:FS}{f:FE}{e:Expr}
end
end DL
end
section
namespace DL
open PySem PySem.Spec PyProof.Rows L2
section
variable {X:Cx}{c:Ct}{e:Expr}{f:FE}{pos:Pos}
noncomputable def spL (K:PySem.W.Frag)(F:List D→Option D):Sp:=fun vs H Q _=>∃ (a:Addr) (ns:List Int),vs=[.ref a]∧SqL K H a (ns.map V.int)∧F [.lst (ns.map .int)]=some (.bl true)∧∀ H',aG H H'→Q (.bl true) H'
theorem IX {T:Tx}{F:List D→Option D}{vs:List V}{H:Hp}{Q:VK}{E:XK}(h:spL T.K F vs H Q E):spD T 1 F vs H Q E:=by
  obtain ⟨a,ns,rfl,hS,hF,q⟩:=h
  exact ⟨rfl,fun _=>True,[.lst (ns.map .int)],.bl true,fun _ _=>trivial,.cons (.lst (hS.imp (fun h=>⟨h,trivial⟩) id) (ints_rep ns)) .nil,hF,fun v H' s r=>by rw [r.bl_]; exact q H' s⟩
end
end DL
end
section
namespace DL
open PySem PySem.Spec PyProof.Rows L2
section
variable {P:Program}{w:World}{K:PySem.W.Frag}{mg:Str→Option Value}{base:Heap}{c:Ct}
end
end DL
end
section
namespace DL
open L2
noncomputable def wA (j:Nat):FS:=fun env=>match env[j]? with
  | some (.own _)=>some (.nx (env.set j (.own [])))
  | _=>none
@[simp] theorem FQ (j:Nat)(env:aN):wA j env=aL (ki env[j]?) fun _=>some (.nx (env.set j (.own []))):=by
  unfold wA ki
  cases h:env[j]? with
  | none=>rfl
  | some s=>cases s <;> rfl
noncomputable def IY (i:Int):List Nat:=(toString i).toList.map Char.toNat
noncomputable def IZ:D→Option D
  | .int i=>if 0≤i∧i<1000000000000 then some (.str (IY i)) else none
  | _=>none
@[simp] theorem J2 (i:Int):IZ (.int i)=if 0≤i∧i<1000000000000 then some (.str (IY i)) else none:=(Eq.refl _).trans (Eq.refl _)
end DL
end
section
namespace DL
open PySem PySem.Spec PyProof.Rows L2
section
variable {X:Cx}{c:Ct}{xq:XQ}{e:Expr}{f:FE}{pos:Pos}
end
end DL
end
section
namespace L2
open PySem PySem.Spec PyProof.Rows
section
variable {prog:Program}{w:World}{A:Around}{E:Value→Shared→Prop}{s:Shared}
end
section
variable {prog:Program}{w:World}{A:Around}{E:Value→Shared→Prop}{s:Shared}
end
end L2
namespace DL
open PySem PySem.Spec PyProof.Rows L2
section
variable {T:Tx}{X:XQ}{F:FS}{fa:FA}{De:Ends}{σ:L2.St}{H:Hp}{tg:FG}{g:TG}
end
section
variable {X:Cx}{c:Ct}{xq:XQ}{ts:List Expr}{tk:Nat}{tp p ip pos:Pos}{a b:Expr}{fa:FA}{tgf:FG}{gt:TG}{F:FS}
end
end DL
end
section
namespace DL
open PySem PySem.Spec PyProof.Rows L2
section
variable {X:Cx}
end
end DL
end
section
namespace DL
open L2
noncomputable def A9 (i k:Nat):FE:=fun env=>match env[i]? with
  | some (.obj _ ks ds)=>vp k ks ds
  | _=>none
@[simp] theorem H9 (i k:Nat)(env:aN):A9 i k env=aL (lD env[i]?) fun p=>vp k p.2.1 p.2.2:=by
  unfold A9 lD
  cases h:env[i]? with
  | none=>rfl
  | some s=>cases s <;> rfl
end DL
end
section
namespace DL
open PySem PySem.Spec PyProof.Rows L2
section
variable {X:Cx}{c:Ct}{xq:XQ}{pos:Pos}
end
end DL
end
section
namespace DL
open L2
noncomputable def lE (c:Nat)(f:FE):FS:=fun env=>(f env).map fun _=>.ex c env
@[simp] theorem FR (c:Nat)(f:FE)(env:aN):lE c f env=omap (fun _=>DFl.ex c env) (f env):=rfl
noncomputable def qC:DFl→Option Nat
  | .ex c _=>some c
  | _=>none
@[simp] theorem J3 (c:Nat)(e:aN):qC (.ex c e)=some c:=rfl
@[simp] theorem J4 (d:D)(e:aN):qC (.rt d e)=none:=rfl
@[simp] theorem J5 (d:List D)(e:aN):qC (.rf d e)=none:=rfl
@[simp] theorem J6 (e:aN):qC (.nx e)=none:=rfl
@[simp] theorem JJ (c:Nat)(e:aN):By (.ex c e)=none:=rfl
@[simp] theorem J7 (c:Nat)(e:aN):zm (.ex c e)=none:=rfl
noncomputable def mK (N:Nat)(F:FS):List D→Option Nat:=fun ds=>(F (envOf N ds)).bind qC
theorem tM (N:Nat)(F:FS)(ds:List D):mK N F ds=aL (F (envOf N ds)) qC:=rfl
noncomputable def tN {α:Type}(i j n:Nat)(F:List D→Option α)(Xf:List D→Option Nat)(c:Nat)(f:FA):FS:=fun env=>(f env).bind fun ds=>if ds.length=n then (match F ds with
  | some _=>some (.nx env)
  | none=>(Xf ds).bind fun k=>if k=c then some (.nx (((env.set j .no).set i (.val (.exc c))).set j .no)) else none) else none
noncomputable def FU (i j c:Nat)(env:aN)(a:Bool)(x:Option Nat):Option DFl:=if a=true then some (.nx env) else x.bind fun k=>if k=c then some (.nx (((env.set j .no).set i (.val (.exc c))).set j .no)) else none
theorem Aa {α:Type}(i j n:Nat)(F:List D→Option α)(Xf:List D→Option Nat)(c:Nat)(f:FA)(env:aN):tN i j n F Xf c f env=aL (f env) (fun ds=>if ds.length=n then FU i j c env (F ds).isSome (Xf ds) else none):=by
  unfold tN aL
  congr 1
  funext ds
  cases F ds <;> rfl
theorem Cu (i j c:Nat)(env:aN):FU i j c env false (some c)=some (.nx (((env.set j .no).set i (.val (.exc c))).set j .no)):=by simp [FU]
noncomputable def lF (cs:List Nat):D→Option D
  | .exc c=>some (.bl (cs.contains c))
  | _=>none
@[simp] theorem J9 (cs:List Nat)(c:Nat):lF cs (.exc c)=some (.bl (cs.contains c)):=rfl
noncomputable def xK (env:aN)(ok:Option DFl)(x:Option Nat):Option DFl:=match ok with
  | some r=>some r
  | none=>x.map fun c=>.ex c env
@[simp] theorem JK (env:aN)(r:DFl)(x:Option Nat):xK env (some r) x=some r:=rfl
@[simp] theorem JL (env:aN)(c:Nat):xK env none (some c)=some (.ex c env):=rfl
noncomputable def je {α:Type}(k : α→aN→DFl)(n:Nat)(F:List D→Option α)(Xf:List D→Option Nat)(f:FA):FS:=fun env=>(f env).bind fun ds=>if ds.length=n then xK env ((F ds).map fun d=>k d env) (Xf ds) else none
theorem kT {α:Type}(k : α→aN→DFl)(n:Nat)(F:List D→Option α)(Xf:List D→Option Nat)(f:FA)(env:aN):je k n F Xf f env=aL (f env) (fun ds=>if ds.length=n then xK env (omap (fun d=>k d env) (F ds)) (Xf ds) else none):=rfl
noncomputable def FV (d:D)(env:aN):DFl:=.rt d env
noncomputable def tO {α:Type}(_ : α)(env:aN):DFl:=.nx env
noncomputable def Ab:D→D→Option D
  | .tup xs,.tup ys=>if xs.length+ys.length≤1000000 then some (.tup (xs++ys)) else none
  | _,_=>none
@[simp] theorem JM (xs ys:List D):Ab (.tup xs) (.tup ys)=if xs.length+ys.length≤1000000 then some (.tup (xs++ys)) else none:=(Eq.refl _).trans (Eq.refl _)
noncomputable def slW (x:D)(lo hi:Option Int):Option D:=match x with
  | .tup ds=>some (.tup (cutD ds lo hi))
  | x=>slD x lo hi
@[simp] theorem FW (ds:List D)(lo hi:Option Int):slW (.tup ds) lo hi=some (.tup (cutD ds lo hi)):=(Eq.refl _).trans (Eq.refl _)
@[simp] theorem FX (ds:List D)(lo hi:Option Int):slW (.lst ds) lo hi=some (.lst (cutD ds lo hi)):=(Eq.refl _).trans (Eq.refl _)
@[simp] theorem FY (z:List Nat)(lo hi:Option Int):slW (.str z) lo hi=if z.length≤1000000 then some (.str (cutD z lo hi)) else none:=(Eq.refl _).trans (Eq.refl _)
noncomputable def Cv:List D→Option D
  | [.int i,.int j]=>if 0≤i∧i<1000000∧0<j∧j<1000000 then some (.tup [.int (i / j),.int (i % j)]) else none
  | _=>none
@[simp] theorem FZ (i j:Int):Cv [.int i,.int j]=if 0≤i∧i<1000000∧0<j∧j<1000000 then some (.tup [.int (i / j),.int (i % j)]) else none:=(Eq.refl _).trans (Eq.refl _)
noncomputable def Cw (k:Nat):List Nat→List (List Nat)
  | []=>[[]]
  | c::r=>if c=k then []::Cw k r else match Cw k r with
    | []=>[[c]]
    | y::ys=>(c::y)::ys
noncomputable def Km (k:Nat):D→Option (List D)
  | .str z=>if z.length≤1000000 then some ((Cw k z).map .str) else none
  | _=>none
@[simp] theorem JN (k:Nat)(z:List Nat):Km k (.str z)=if z.length≤1000000 then some ((Cw k z).map .str) else none:=(Eq.refl _).trans (Eq.refl _)
end DL
end
section
namespace DL
open PySem PySem.Spec PyProof.Rows L2
structure Tr (h:Heap)(ea t C:Addr)(fl:Value):Prop where
  ex : ∃ (oe oT:Obj) (vs ts:Array Value),h.get? ea=some oe∧oe.cls=.ref C∧oe.dict=none∧oe.data=.fields vs∧vs[1]?=some (.ref t)∧t≠ea∧h.get? t=some oT∧oT.data=.fields ts∧ts[3]?=some fl
structure Mv (l:List Env)(x:Addr→Prop)(h h':Heap):Prop where
  keep : ∀ b o,h.get? b=some o→¬ x b→b ∉ frs l→h'.get? b=some o
  slot : ∀ b o,h.get? b=some o→¬ x b→b∈frs l→∃ sl,h'.get? b=some { o with slots:=sl }
theorem Mv.any {l:List Env}{x:Addr→Prop}{h h':Heap}(m:Mv l x h h'){b:Addr}{o:Obj}(e:h.get? b=some o)(n : ¬ x b) : ∃ sl,h'.get? b=some { o with slots:=sl }:=by
  by_cases z:b∈frs l
  · exact m.slot b o e n z
  · exact ⟨o.slots,m.keep b o e n z⟩
theorem Mv.trans {l:List Env}{x:Addr→Prop}{h h1 h2:Heap}(a:Mv l x h h1)(b:Mv l x h1 h2):Mv l x h h2 :=
  ⟨fun c o e n f=>b.keep c o (a.keep c o e n f) n f,fun c o e n f=>by
    obtain ⟨sl,e1⟩:=a.slot c o e n f
    obtain ⟨sl2,e2⟩:=b.slot c _ e1 n f
    exact ⟨sl2,e2⟩⟩
theorem Mv.step {l:List Env}{x y:Addr→Prop}{h h1 h2:Heap}(a:Mv l x h h1)(b:Mv l y h1 h2)(w : ∀ b o,h.get? b=some o→y b→x b):Mv l x h h2 :=
  ⟨fun c o e n f=>b.keep c o (a.keep c o e n f) (fun z=>n (w c o e z)) f,fun c o e n f=>by
    obtain ⟨sl,e1⟩:=a.slot c o e n f
    obtain ⟨sl2,e2⟩:=b.slot c _ e1 (fun z=>n (w c o e z)) f
    exact ⟨sl2,e2⟩⟩
theorem Mv.mono {l:List Env}{x y:Addr→Prop}{h h':Heap}(a:Mv l x h h')(w : ∀ b o,h.get? b=some o→x b→y b):Mv l y h h' :=
  ⟨fun c o e n f=>a.keep c o e (fun z=>n (w c o e z)) f,fun c o e n f=>a.slot c o e (fun z=>n (w c o e z)) f⟩
theorem Mv.frames {l:List Env}{x:Addr→Prop}{h h' base:Heap}(a:Mv l x h h')(hl:h.FunFrames base l)(nx : ∀ b∈frs l, ¬ x b):h'.FunFrames base l:=by
  have go : ∀ r:List Env,(∀ b∈frs r,b∈frs l)→h.FunFrames base r→h'.FunFrames base r:=by
    intro r
    induction r with
    | nil=>intro _ _; trivial
    | cons e r ih =>
      intro hs ⟨k,⟨L,o,hf,hb,ho,nd⟩,hr⟩
      have hL:L∈frs (e::r):=by
        show L∈(e::r).filterMap (·.frame)
        rw [List.filterMap_cons,hf]
        exact List.mem_cons.mpr (.inl rfl)
      obtain ⟨sl,q⟩:=a.slot L o ho (nx L (hs L hL)) (hs L hL)
      refine ⟨k,⟨L,_,hf,hb,q,nd⟩,ih (fun b m=>hs b ?_) hr⟩
      show b∈(e::r).filterMap (·.frame)
      rw [List.filterMap_cons,hf]
      exact List.mem_cons.mpr (.inr m)
  exact go l (fun _ z=>z) hl
theorem ez {l:List Env}{h base:Heap}(hl:h.FunFrames base l){b:Addr}{o:Obj}{vs:Array Value}(e:h.get? b=some o)(d:o.data=.fields vs):b ∉ frs l:=fun m=>by
  obtain ⟨_,o2,e2,nd⟩:=hl.mem m
  rw [e] at e2
  cases e2
  exact nd vs d
theorem xR (f:Array Value→Array Value)(o:Obj):(o.mapFields f).dict=o.dict:=by
  obtain ⟨c,d,data,sl⟩:=o
  cases data <;> rfl
section
variable {M:Model}{A:Around}{E:Value→Shared→Prop}{s:Shared}{Q:Unit→Shared→Prop}{base:Heap}{env:Env}{outer:List Env}{L e t C:Addr}{fl:Value}
theorem tQ {oe:Obj}{vs:Array Value}{head:Value}{had:Bool}(hfr:A.frames=some (env::outer))(hl:s.heap.FunFrames base (env::outer))(hf:env.frame=some L)
    (he:s.heap.get? e=some oe) (hc:oe.cls=.ref C) (hn:oe.dict=none) (hd:oe.data=.fields vs) (hsz : 1<vs.size)
    (k : ∀ h' t,Mv (env::outer) (fun b=>b=e) s.heap h'→s.heap.get? t=none→Tr h' e t C (rawInt L)→Q () { s with heap:=h' }) :
    wpAny M A (do let fo ← frameOf env; let pl ← entryPlaceOf L had; let en ← EntryCells.newEntry head fo .none (rawInt L) .none pl; setField (.ref e) 1 en) Q E s:=by
  have nfr:e ∉ frs (env::outer):=ez hl he hd
  refine wpAny_bind (wpAny_frameOf_fun hfr hl hf fun h1 so=>?_)
  refine wpAny_bind (wpAny_entryPlaceOf fun pl hpl=>?_)
  unfold EntryCells.newEntry newFields
  refine wpAny_bind (wpAny_newObj_type ?_ (hpl.sizeOk5 _ _ _ _ _))
  have e1:h1.get? e=some oe:=(so.2.1 e nfr).trans he
  refine wpAny_setField (Heap.get?_push_of_some _ e1) hd hsz ?_
  have ne:h1.objs.size≠e:=Nat.ne_of_gt (Heap.lt_size e1)
  have tn:s.heap.get? h1.objs.size=none:=Heap.get?_none_of_le (by rw [so.1]; exact Nat.le_refl _)
  refine k _ h1.objs.size ⟨fun b o q nb nf=>?_,fun b o q nb m=>?_⟩ tn ⟨_,_,_,_,Heap.get?_update_self _ (Heap.get?_push_of_some _ e1) (Obj.isFreed_of_fields (Obj.data_mapFields hd _)),(Obj.cls_mapFields _ _).trans hc,(xR _ _).trans hn,Obj.data_mapFields hd _, ?_,ne,(Heap.get?_update_other _ _ (Ne.symm ne)).trans (Heap.get?_push_size h1 rfl),rfl, ?_⟩
  · rw [Heap.get?_update_other _ _ (Ne.symm nb)]
    exact Heap.get?_push_of_some _ ((so.2.1 b nf).trans q)
  · obtain ⟨sl,q1⟩:=so.2.2 b o q
    refine ⟨sl, ?_⟩
    rw [Heap.get?_update_other _ _ (Ne.symm nb)]
    exact Heap.get?_push_of_some _ q1
  · simp [hsz]
  · first | (simp; done) | (rcases hpl with rfl | ⟨_,_,_,_,_,_,_,rfl⟩ <;> simp)
theorem vt {oe:Obj}{vs:Array Value}(hfr:A.frames=some (env::outer))(hl:s.heap.FunFrames base (env::outer))(hf:env.frame=some L)
    (he:s.heap.get? e=some oe) (hc:oe.cls=.ref C) (hn:oe.dict=none) (hd:oe.data=.fields vs) (h1:vs[1]?=some .none)
    (k : ∀ h' t,Mv (env::outer) (fun b=>b=e) s.heap h'→s.heap.get? t=none→Tr h' e t C (rawInt L)→Q () { s with heap:=h' }):wpAny M A (noteFrame (.ref e) env) Q E s:=by
  unfold noteFrame
  simp only [hf]
  refine wpAny_bind (wpAny_field he hd h1 ?_)
  rw [if_neg (by decide)]
  exact tQ hfr hl hf he hc hn hd (Array.getElem?_eq_some_iff.mp h1).1 k
theorem qD (hfr:A.frames=some (env::outer))(hl:s.heap.FunFrames base (env::outer))(hf:env.frame=some L)(tr:Tr s.heap e t C .none)
    (k : ∀ h' t',Mv (env::outer) (fun b=>b=e∨b=t) s.heap h'→(t'=t∨s.heap.get? t'=none)→Tr h' e t' C (rawInt L)→Q () { s with heap:=h' }):wpAny M A (noteFrame (.ref e) env) Q E s:=by
  obtain ⟨oe,oT,vs,ts,he,hc,hn,hd,h1,hte,hT,hdT,h3⟩:=tr.ex
  unfold noteFrame
  simp only [hf]
  refine wpAny_bind (wpAny_field he hd h1 ?_)
  rw [if_pos (show (Value.ref t != Value.none)=true from by simp)]
  refine wpAny_bind (wpAny_field hT hdT h3 ?_)
  rw [if_neg (show ¬ ((Value.none == rawInt L)=true) from by simp [rawInt])]
  refine wpAny_bind (wpAny_setField hT hdT (Array.getElem?_eq_some_iff.mp h3).1 ?_)
  have mv:Mv (env::outer) (fun b=>b=t) s.heap (s.heap.update t (Obj.mapFields (·.setIfInBounds 3 Value.none))) :=
    ⟨fun b o q nb _=>(Heap.get?_update_other _ _ (Ne.symm nb)).trans q,fun b o q nb _=>⟨o.slots,(Heap.get?_update_other _ _ (Ne.symm nb)).trans q⟩⟩
  have nft:t ∉ frs (env::outer):=ez hl hT hdT
  refine tQ hfr (mv.frames hl fun b m z=>nft (z ▸ m)) hf ((Heap.get?_update_other _ _ hte).trans he) hc hn hd (Array.getElem?_eq_some_iff.mp h1).1 fun h' t' mv' tn tr'=>k h' t' ((mv.mono fun _ _ _ z=>.inr z).trans ⟨fun b o q nb nf=>mv'.keep b o q (fun z=>nb (.inl z)) nf,fun b o q nb nf=>mv'.slot b o q (fun z=>nb (.inl z)) nf⟩) ?_ tr'
  by_cases z:t'=t
  · exact .inl z
  · exact .inr ((Heap.get?_update_other _ _ (Ne.symm z)).symm.trans tn)
theorem nc (hl:s.heap.FunFrames base outer)(tr:Tr s.heap e t C fl)(k : ∀ h',Mv outer (fun b=>b=t) s.heap h'→Tr h' e t C .none→Q () { s with heap:=h' }):wpAny M A (setFlight (.ref e) none) Q E s:=by
  obtain ⟨oe,oT,vs,ts,he,hc,hn,hd,h1,hte,hT,hdT,h3⟩:=tr.ex
  have sz : 3<ts.size:=(Array.getElem?_eq_some_iff.mp h3).1
  unfold setFlight
  refine wpAny_bind (wpAny_field he hd h1 ?_)
  rw [if_pos (show (Value.ref t != Value.none)=true from by simp)]
  refine wpAny_setField hT hdT sz (k _ ⟨fun b o q nb _=>(Heap.get?_update_other _ _ (Ne.symm nb)).trans q,fun b o q nb _=>⟨o.slots,(Heap.get?_update_other _ _ (Ne.symm nb)).trans q⟩⟩ ⟨oe,_,vs,_,(Heap.get?_update_other _ _ hte).trans he,hc,hn,hd,h1,hte,Heap.get?_update_self _ hT (Obj.isFreed_of_fields (Obj.data_mapFields hdT _)),Obj.data_mapFields hdT _, ?_⟩)
  simp [sz]
theorem tR {oe:Obj}{vs:Array Value}(hfr:A.frames=some (env::outer))(hl:s.heap.FunFrames base (env::outer))(hf:env.frame=some L)
    (he:s.heap.get? e=some oe) (hc:oe.cls=.ref C) (hn:oe.dict=none) (hd:oe.data=.fields vs) (h1:vs[1]?=some .none)
    (k : ∀ h' t,Mv (env::outer) (fun b=>b=e) s.heap h'→s.heap.get? t=none→Tr h' e t C .none→Q () { s with heap:=h' }):wpAny M A (leaving env (.ref e)) Q E s:=by
  unfold leaving
  have nfr:e ∉ frs (env::outer):=ez hl he hd
  refine wpAny_bind (vt hfr hl hf he hc hn hd h1 fun h' t mv tn tr=>?_)
  refine nc (s:={ s with heap:=h' }) (mv.frames hl fun b m z=>nfr (z ▸ m)) tr fun h2 mv2 tr2=>k h2 t ?_ tn tr2
  exact mv.step mv2 fun b o q z=>by rw [show b=t from z,tn] at q; cases q
theorem vv (hfr:A.frames=some (env::outer))(hl:s.heap.FunFrames base (env::outer))(hf:env.frame=some L)(tr:Tr s.heap e t C .none)
    (k : ∀ h' t',Mv (env::outer) (fun b=>b=e∨b=t) s.heap h'→(t'=t∨s.heap.get? t'=none)→Tr h' e t' C .none→Q () { s with heap:=h' }):wpAny M A (leaving env (.ref e)) Q E s:=by
  unfold leaving
  obtain ⟨oe,oT,vs,ts,he,_,_,hd,_,_,hT,hdT,_⟩:=tr.ex
  have n1:e ∉ frs (env::outer):=ez hl he hd
  have n2:t ∉ frs (env::outer):=ez hl hT hdT
  refine wpAny_bind (qD hfr hl hf tr fun h' t' mv tn tr'=>?_)
  refine nc (s:={ s with heap:=h' }) (mv.frames hl fun b m z=>z.elim (fun z=>n1 (z ▸ m)) fun z=>n2 (z ▸ m)) tr' fun h2 mv2 tr2=>k h2 t' ?_ tn tr2
  exact mv.step mv2 fun b o q z=>by
    rcases tn with tn | tn
    · exact .inr (z.trans tn)
    · rw [show b=t' from z,tn] at q; cases q
end
theorem Cy {P:Program}{w:World}{H:Hp}{h:Heap}{a:Addr} : ∀ {o:HO},dU P w H h a o→∃ ob,h.get? a=some ob:=fun {o} x=>by
  cases o with
  | lst xs=>obtain ⟨_,_,_,_,e⟩:=x; exact ⟨_,e⟩
  | tup xs=>obtain ⟨_,_,_,ob,e,_⟩:=x; exact ⟨ob,e⟩
  | dK kvs=>obtain ⟨_,_,_,_,ob,_,_,e,_⟩:=x; exact ⟨ob,e⟩
  | dT kvs=>obtain ⟨_,_,_,_,ob,_,_,e,_⟩:=x; exact ⟨ob,e⟩
  | set S n=>obtain ⟨ob,_,_,_,e,_⟩:=x; exact ⟨ob,e⟩
  | ins C dx fs=>obtain ⟨_,_,_,e,_⟩:=x; exact ⟨_,e⟩
  | own y=>exact x
  | xd fs=>obtain ⟨_,⟨ob,_,_,e,_⟩,_⟩:=x; exact ⟨ob,e⟩
  | rng lo hi=>obtain ⟨_,_,_,e⟩:=x; exact ⟨_,e⟩
  | frz ob u=>obtain ⟨e,_⟩:=x; exact ⟨ob,e⟩
  | tbl ps=>exact ⟨_,x⟩
  | met f y=>exact ⟨_,x⟩
  | ext φ=>exact x.2.1
theorem oz {P:Program}{w:World}{H:Hp}{h:Heap}{a:Addr}(ok:HOk P w H h)(n:h.get? a=none):H a=none:=by
  cases e:H a with
  | none=>rfl
  | some o =>
    obtain ⟨ob,q⟩:=Cy (ok a o e)
    rw [n] at q; cases q
theorem jI {fs:List Addr}{H H':Hp}{h h':Heap}{a:Addr}(u:Un fs [] H H' h h')(n:h'.get? a=none):h.get? a=none:=by
  cases e:h.get? a with
  | none=>rfl
  | some o =>
    obtain ⟨o',q⟩:=u.there a o e (by simp)
    rw [n] at q; cases q
theorem Ac {fs:List Addr}{l:List Env}{x:Addr→Prop}{H H':Hp}{h0 h h':Heap}(u:Un fs [] H H' h0 h)(mv:Mv l x h h')(hx : ∀ b,x b→h0.get? b=none)(hl : ∀ b∈frs l,b∈fs∨h0.get? b=none):Un fs [] H H' h0 h' where
  keep:=fun b o e n nf _=>mv.keep b o (u.keep b o e n nf (by simp)) (fun z=>by rw [hx b z] at e; cases e) fun m=>(hl b m).elim nf fun z=>by rw [z] at e; cases e
  slot:=fun b o e n mf _=>by
    obtain ⟨sl,q⟩:=u.slot b o e n mf (by simp)
    obtain ⟨sl',q'⟩:=mv.any q fun z=>by rw [hx b z] at e; cases e
    exact ⟨sl',q'⟩
  free:=u.free
  there:=fun b o e _=>by
    obtain ⟨o',q⟩:=u.there b o e (by simp)
    obtain ⟨sl',q'⟩:=mv.any q fun z=>by rw [hx b z] at e; cases e
    exact ⟨_,q'⟩
  gp:=u.gp
  kq:=u.kq
  kZ:=u.kZ
theorem vw {P:Program}{w:World}{l:List Env}{x:Addr→Prop}{H:Hp}{h h':Heap}(ok:HOk P w H h)(mv:Mv l x h h')(hx : ∀ b,x b→H b=none)(hl : ∀ b∈frs l,H b=none):HOk P w H h':=fun a o e=>by
  refine (ok a o e).nA (fun b u hb q=>mv.keep b u q (fun z=>?_) fun m=>?_) (fun _ q=>q) fun _ _ q=>q
  · rcases hb with rfl | hb
    · rw [hx b z] at e; cases e
    · rw [hx b z] at hb; cases hb
  · rcases hb with rfl | hb
    · rw [hl b m] at e; cases e
    · rw [hl b m] at hb; cases hb
theorem Cz {P:Program}{w:World}{H:Hp}{h:Heap}{a:Addr}{o:HO}(ok:HOk P w H h)(n:H a=none)(new:dU P w (upd H a o) h a o):HOk P w (upd H a o) h:=fun b u e=>by
  by_cases hb:b=a
  · subst hb; rw [bY] at e; cases e; exact new
  · rw [ba hb] at e
    exact (ok b u e).nA (fun _ _ _ q=>q) (fun c q=>by rw [ba (cR q n)]; exact q) fun c xs q=>by rw [ba (cR q n)]; exact q
theorem G0 {fs:List Addr}{H H':Hp}{h h':Heap}{a:Addr}{o:HO}(u:Un fs [] H H' h h')(n:H' a=none)(na:h.get? a=none):Un fs [] H (upd H' a o) h h' where
  keep:=u.keep
  slot:=u.slot
  free:=fun b ob e nb hx=>by rw [ba (fun z=>by subst z; rw [na] at e; cases e)]; exact u.free b ob e nb hx
  there:=u.there
  gp:=fun b xs e=>by have:=u.gp b xs e; rw [ba (cR this n)]; exact this
  kq:=fun b ob xs e=>by have:=u.kq b ob xs e; rw [ba (cR this n)]; exact this
  kZ:=fun b ps e=>by
    obtain ⟨m,q⟩:=u.kZ b ps e
    exact ⟨m,by rw [ba (cR q n)]; exact q⟩
noncomputable def CXE (P:Program)(w:World):CXT:=fun outer H s E e s'=>∃ (ea t C:Addr) (H':Hp),e=.ref ea∧s'.os=s.os∧AllBare s'.gens∧Un (frs outer) [] H H' s.heap s'.heap∧HOk P w H' s'.heap ∧
  Tr s'.heap ea t C .none∧s.heap.get? ea=none∧s.heap.get? t=none∧H' ea=none∧H' t=none∧E (.ref C) none H'
structure XR (X:Cx)(c:Ct)(xq:XQ):Prop where
  stk:X.stack=X.env::X.outer
  fr:X.env.frame=some X.env.locals
  raise : ∀ (pins:List (Addr × Obj)) (σ:L2.St) (H:Hp) (s:Shared) (h':Heap) (ea C:Addr) (no:Nat) (args:List Value),Inv X pins σ H s→xq no σ H→c.cl no=some C→Heap.MadeExcOf s.heap h' ea (.ref C) args→X.xe (.ref ea) { s with heap:=h' }
  pass : ∀ (pins:List (Addr × Obj)) (σ:L2.St) (H:Hp) (s:Shared) (e:Value) (s':Shared),Inv X pins σ H s→CXE X.prog X.w X.stack H s (fun cv _ H'=>∃ no C,c.cl no=some C∧cv=.ref C∧xq no σ H') e s'→X.xe e s'
section
variable {P:Program}{w:World}{K:PySem.W.Frag}{mg:Str→Option Value}{base:Heap}{c:Ct}
theorem G1 {N:List Str}{qual:Str}{scope:Scope}{f:Addr}{cd:Value}{A:Around}{outer:List Env}{s:Shared}{H:Hp}{E:XK} :
    XR (r9 (CXE P w) P w K mg base N qual scope f cd A outer s H E) c (fun no _ H'=>∀ C,c.cl no=some C→E (.ref C) none H') where
  stk:=rfl
  fr:=rfl
  raise:=fun pins σ H1 s1 h' ea C no args I q hC hm=>by
    obtain ⟨t0,he,htn,ht⟩:=hm.there
    have hl:s1.heap.FunFrames base (r9 (CXE P w) P w K mg base N qual scope f cd A outer s H E).stack:=I.stack
    have mv0:Mv (r9 (CXE P w) P w K mg base N qual scope f cd A outer s H E).stack (fun _=>False) s1.heap h':=⟨fun b o e _ _=>hm.keeps b o e,fun b o e _ _=>⟨o.slots,hm.keeps b o e⟩⟩
    have hu:Un (frs outer) [] H H1 s.heap s1.heap:=I.base
    refine tR (s:={ s1 with heap:=h' }) I.ok.frames (mv0.frames hl fun _ _ z=>z) rfl he rfl rfl rfl rfl fun h2 t mv tn tr=>?_
    have mv1:=mv0.step mv fun b o e z=>by rw [show b=ea from z,hm.new] at e; cases e
    have tn1:s1.heap.get? t=none:=by
      cases e:s1.heap.get? t with
      | none=>rfl
      | some o=>have:=hm.keeps t o e; rw [show h'.get? t=none from tn] at this; cases this
    refine ⟨ea,t,C,H1,rfl,I.os,I.bare,Ac hu mv1 (fun _ z=>z.elim) (fun b m=>?_),vw I.hok mv1 (fun _ z=>z.elim) I.l0,tr,jI hu hm.new,jI hu tn1,oz I.hok hm.new,oz I.hok tn1,q C hC⟩
    rcases List.mem_cons.mp (I.lR b m) with z | z
    · exact .inr (Heap.get?_none_of_le (by rw [z]; exact I.ok.above))
    · exact .inl z
  pass:=fun pins σ H1 s1 e s2 I h=>by
    obtain ⟨ea,t,C,H2,rfl,os,bare,un,hok,tr,n1,n2,n3,n4,no,C',hC,e2,q⟩:=h
    cases e2
    have I2:=I.q9 (ch:=[]) os un hok bare (fun b z=>absurd z (by simp))
    have hl:=I2.stack
    have hu:Un (frs outer) [] H H1 s.heap s1.heap:=I.base
    have hu2:Un (frs outer) [] H H2 s.heap s2.heap:=I2.base
    refine vv I2.ok.frames hl rfl tr fun h3 t' mv tn tr'=>?_
    have m1:s.heap.get? ea=none:=jI hu n1
    have m2:s.heap.get? t=none:=jI hu n2
    refine ⟨ea,t',C,H2,rfl,I2.os,I2.bare,Ac hu2 mv (fun b z=>?_) (fun b m=>?_),vw hok mv (fun b z=>?_) I2.l0,tr',m1, ?_,n3, ?_,q C hC⟩
    · rcases z with rfl | rfl
      · exact m1
      · exact m2
    · rcases List.mem_cons.mp (I2.lR b m) with z | z
      · exact .inr (Heap.get?_none_of_le (by rw [z]; exact I2.ok.above))
      · exact .inl z
    · rcases z with rfl | rfl
      · exact n3
      · exact n4
    · rcases tn with rfl | tn
      · exact m2
      · exact jI hu2 tn
    · rcases tn with rfl | tn
      · exact n4
      · exact oz hok tn
noncomputable def spX (T:Tx){α:Type}(ρ:RK α V)(n:Nat)(F:List D→Option α)(Xf:List D→Option Nat):Sp:=fun vs H Q E=>vs.length=n∧∃ A ds,Nw A H∧aI T A H ds vs ∧
  ((∃ d,F ds=some d∧∀ v H',aG H H'→ρ A H H' d v→Q v H')∨∃ no,Xf ds=some no∧∀ C H',T.cl no=some C→aG H H'→E (.ref C) none H')
structure xS (P:Program)(w:World)(K:PySem.W.Frag)(mg:Str→Option Value)(base:Heap)(c:Ct){α:Type}(ρ:RK α V)(x:Str)(ps:List Str)(k:Nat)(F:List D→Option α)(Xf:List D→Option Nat):Prop where
  ex : ∃ fa fd,jw P w K mg base (CXE P w) k fa fd ps (spX ⟨K,c.cl,c.fld⟩ ρ ps.length F Xf)∧mg x=some (.ref fa)∧PySem.W.keepIn K (.ref fa)=true∧Binds K fd ps []
noncomputable abbrev jm (P:Program)(w:World)(K:PySem.W.Frag)(mg:Str→Option Value)(base:Heap)(c:Ct)(x:Str)(ps:List Str)(k:Nat)(F:List D→Option D)(Xf:List D→Option Nat):Prop:=xS P w K mg base c (kD ⟨K,c.cl,c.fld⟩) x ps k F Xf
theorem CA {α:Type}{ρ:RK α V}{k:Nat}{fa:Addr}{fd:FuncData}{ps:List Str}{n:Nat}{T:Tx}{F:List D→Option α}{Xf:List D→Option Nat}{sp:Sp}(h1:jw P w K mg base (CXE P w) k fa fd ps (spX T ρ n F Xf))
    (hs : ∀ vs H Q E,sp vs H Q E→spX T ρ n F Xf vs H Q E0):jw P w K mg base CX0 k fa fd ps sp:=by
  refine ⟨fun vs H Q E h=>h1.len vs H Q E0 (hs vs H Q E h),fun A outer s H args us vs Q E hr he hb hv h=>?_⟩
  refine codeAny_mono (h1.run A outer s H args us vs Q E0 hr he hb hv (hs vs H Q E h)) fun r s' q=>?_
  cases r with
  | ok fl=>cases fl <;> exact q
  | error e =>
    obtain ⟨_,_,_,_,_,_,_,_,_,_,_,_,_,_,z⟩:=q
    exact z.elim
theorem xS.def_ {x:Str}{ps:List Str}{k:Nat}{F:List D→Option D}{Xf:List D→Option Nat}(G:jm P w K mg base c x ps k F Xf):Def P w K mg base c x ps k F:=by
  obtain ⟨fa,fd,h1,h2⟩:=G.ex
  exact ⟨fa,fd,CA h1 fun vs H Q E ⟨a,A,ds,d,b1,b2,b3,b4⟩=>⟨a,A,ds,b1,b2,.inl ⟨d,b3,b4⟩⟩,h2⟩
structure tS (P:Program)(w:World)(K:PySem.W.Frag)(mg:Str→Option Value)(base:Heap)(c:Ct)(N:List Str)(st:Stmt)(k:Nat)(F:FS):Prop where
  ok : ∀ (X:Cx) (xq:XQ),X.prog=P→X.w=w→X.K=K→X.mg=mg→X.base=base→BU X N (aj st)→fu k X.A→XR X c xq→md X c xq (ax st) F
theorem Ad {T:Tx}{N:Nat}{F:FS}{vs:List V}{H:Hp}{E:XK}{A:Addr→Prop}{ds:List D}{no:Nat}{De:Ends}(nw:Nw A H)(r:aI T A H ds vs)(e:mK N F ds=some no)(q : ∀ C H',T.cl no=some C→aG H H'→E (.ref C) none H') :
    tDs T (fun no _ H'=>∀ C,T.cl no=some C→E (.ref C) none H') F De (vs.map some++List.replicate (N - vs.length) none) H:=by
  unfold mK at e
  cases e1:F (envOf N ds) with
  | none=>rw [e1] at e; cases e
  | some fl =>
    rw [e1] at e
    refine ⟨⟨A,H,fun _=>False⟩,fun _=>False,envOf N ds,fl,kC nw r,e1, ?_⟩
    cases fl with
    | ex no' env'=>cases e; exact fun σ' H' O' E' g C hC=>q C H' hC fun b o h=>g.keep b o h fun z=>z
    | rf _ _=>cases e
    | nx _=>cases e
    | rt _ _=>cases e
    | bk _=>cases e
    | ct _=>cases e
theorem Ae {T:Tx}{F:FS}{De:Ends}{σ:L2.St}{H:Hp}{x y:XQ}(w : ∀ no σ H,x no σ H→y no σ H)(h:tDs T x F De σ H):tDs T y F De σ H:=by
  obtain ⟨W,O,env,fl,E,e,q⟩:=h
  refine ⟨W,O,env,fl,E,e, ?_⟩
  cases fl with
  | ex no env'=>exact fun σ' H' O' E' g=>w _ _ _ (q σ' H' O' E' g)
  | rf _ _=>exact q
  | nx _=>exact q
  | rt _ _=>exact q
  | bk _=>exact q
  | ct _=>exact q
theorem ng {x qual:Str}{st:Stmt}{fa:Addr}{fd:FuncData}{N ps:List Str}{k:Nat}{F:FS}(Fn:Fun K x qual st fa fd)(S:aU N ps (aj st))(hm:mg x=some (.ref fa))(hb:Binds K fd ps [])
    (body:tS P w K mg base c N st k F):jm P w K mg base c x ps (k+1) (bG N.length F) (mK N.length F):=by
  refine ⟨fa,fd, ?_,hm,Fn.kp,hb⟩
  obtain ⟨oc,od,kV,doc,pm,an,cdv,ct,osl,rfl,lk,hcd⟩:=Fn.ex
  refine L2.vT lk hcd S (fun vs H Q E h=>h.1) fun A outer s H vs Q E hr h=>⟨_,body.ok _ _ rfl rfl rfl rfl rfl ⟨⟨rfl,rfl,rfl,S.nd⟩,fun _=>rfl,PassesOwn.leaving⟩ hr G1, ?_⟩
  obtain ⟨hn,A',ds,nw,r,h⟩:=h
  rcases h with ⟨d,e,q⟩ | ⟨no,e,q⟩
  · exact Ae (fun _ _ _ z=>z.elim) (rB (n:=ps.length) (E0:=E) ⟨hn,A',ds,d,nw,r,e,q⟩)
  · exact Ad nw r e q
end
end DL
end
section
namespace DL
open PySem PySem.Spec PyProof.Rows L2
noncomputable abbrev G2:List Value:=[.type "ValueError",.type "Exception",.type "BaseException",.type "object"]
structure CB (K:PySem.W.Frag)(mg:Str→Option Value)(c:Ct)(x:Str)(no:Nat):Prop where
  ex : ∃ C,mg x=some (.ref C)∧c.cl no=some C∧PySem.W.excIn K C G2 "ValueError.__new__"=true
theorem Af {K:PySem.W.Frag}{h:Heap}{C:Addr}{bmB:List Value}{newId:String}(X:K.In h)(q:PySem.W.excIn K C bmB newId=true) :
    ∃ (bm:List Value) (N:Addr) (nm qn:Str) (bs:List Value) (hd:Bool) (sn:List Str) (sub:List Value) (ab:Bool) (col:Option Bool) (dd:Option Addr) (k0 k1 k2 k3 k5:Option Value) (mN:Str→Option Value),
      h.get? C=some (excClassObj nm qn C N bs bm hd sn sub ab col dd k0 k1 k2 k3 k5 newId)∧h.Ns N mN∧mN "__init__"=none∧OwnTail h bmB bm:=by
  unfold PySem.W.excIn at q
  split at q
  case h_2=>cases q
  case h_1 dd cd sl ho =>
    split at q
    case h_2=>cases q
    case h_1 D bm k0 k1 k2 k3 n k5 hm hs =>
      rw [Bool.and_eq_true,Bool.and_eq_true,Bool.and_eq_true,Bool.and_eq_true,Bool.and_eq_true] at q
      obtain ⟨⟨⟨⟨⟨q1,q2⟩,q3⟩,q4⟩,q5⟩,q6⟩:=q
      have q1:=beq_iff_eq.mp q1
      have q2:=beq_iff_eq.mp q2
      have q3:cd.hasDel=false:=by simpa using q3
      have q6:=beq_iff_eq.mp q6
      subst q1 q2
      obtain ⟨nm,bs,mro,ns,qn,hd,sn,sub,ab,col,del⟩:=cd
      have hm:mro=_:=hm
      have q3:del=false:=q3
      subst hm q3
      have hsl:sl=#[k0,k1,k2,k3,some (.builtin n),k5]:=by
        obtain ⟨l⟩:=sl
        have hs:l=_:=hs
        rw [hs]
      subst hsl
      refine ⟨bm,ns,nm,qn,bs,hd,sn,sub,ab,col,dd,k0,k1,k2,k3,k5,h.nsMap ns,X _ _ ho,.of_isNs (PySem.W.isNs_of_in X q5),PySem.W.nsMap_none_of_in X q5 q6,PySem.W.tail_of_in X q4⟩
section
variable {X:Cx}{c:Ct}{xq:XQ}{a b e:Expr}{f g:FE}{pos:Pos}
theorem qE {no:Nat}{x:Str}{np cpos:Pos}(xr:XR X c xq)(G:CB X.K X.mg c x no)(hg:Gl X x)(hc:X.calm=true)(ha:PD X c e f)(he:isStar e=false:=by rfl)(hdb:(x == ("__debug__":Str))=false:=by decide) :
    PDS X c xq (.Raise (some (.Call (.Name x np) [e] [] cpos)) none pos) (lE no f):=by
  obtain ⟨C,hm,hC,hx⟩:=G.ex
  intro pins s σ H De I h
  obtain ⟨W,O,env,fl,Er,ef,q⟩:=h
  unfold lE at ef
  cases e1:f env with
  | none=>rw [e1] at ef; cases ef
  | some d =>
    rw [e1] at ef
    cases ef
    obtain ⟨bm,N,nm,qn,bs,hd,sn,sub,ab,col,dd,k0,k1,k2,k3,k5,mN,hCo,hN,hni,TL⟩:=Af I.mod.kin hx
    have hA:PA X [e] (mF (tP (tx X c) (kD (tx X c)) f) wZ):=j7 ha nF (bq he)
    refine wpAny_Raise_call_subT (nm:=nm) (q:=qn) (N:=N) (bs:=bs) (hdct:=hd) (sn:=sn) (sub:=sub) (ab:=ab) (col:=col) (dd:=dd) (k0:=k0) (k1:=k1) (k2:=k2) (k3:=k3) (k5:=k5) PySem.F.excBase_ValueError (TL.hasType (by decide)) (I.ok.hd hc) (eT (by unfold dq dq; rw [he]; rfl)) hni (j4 I hg hm ⟨rfl, ?_⟩ hdb)
    have z:=hA cpos pins s σ H (fun vs H1=>∃ v,vs=[v]∧aG H H1) I ⟨W,O,env,d,Er,e1,fun v H1 s1 r1=>⟨v,rfl,s1⟩⟩
    rw [bq he] at z ⊢
    refine Calls.evalArgs_plain (bH z fun us s2 vs H1 I1 r ⟨v,ev,sm⟩=>⟨rfl, ?_,I1.bk _ _ hCo,hN.keeps I1.bk,TL.keeps I1.bk,fun h' ea hm'=>xr.raise pins σ H1 s2 h' ea C no us I1 (q σ H1 O (Er.mono sm) (Fr.same sm)) hC hm'⟩)
    have:=r.length
    rw [ev] at this
    show us.length≤sizeLine
    rw [← this]
    exact small (by simp)
noncomputable def cxH (X:Cx)(e:Value)(xe:Value→Shared→Prop):Cx:={ X with A:=X.A.mark (some e),calm:=false,xe:=xe }
theorem DF {pins:List (Addr × Obj)}{σ:L2.St}{H:Hp}{s:Shared}{v:Value}{xe:Value→Shared→Prop}(I:Inv X pins σ H s):Inv (cxH X v xe) pins σ H s :=
  ⟨⟨I.ok.mod,I.ok.kind,I.ok.glob,I.ok.blt,I.ok.above,I.ok.inj,I.ok.has,I.ok.cab,fun z=>Bool.noConfusion (show false=true from z),I.ok.frames,I.ok.stk,I.ok.exf,I.ok.bs,I.ok.bsz,I.ok.wO,I.ok.wQ,I.ok.mP,I.ok.frf⟩,I.os,I.bare,I.base,I.loc,I.cell,I.free,I.iC,I.pin,I.hok,I.len⟩
theorem CC {pins:List (Addr × Obj)}{σ σ':L2.St}{H H':Hp}{s s':Shared}{v:Value}{xe:Value→Shared→Prop}(I0:Inv X pins σ' H' s')(I:Inv (cxH X v xe) pins σ H s):Inv X pins σ H s :=
  ⟨I0.ok,I.os,I.bare,I.base,I.loc,I.cell,I.free,I.iC,I.pin,I.hok,I.len⟩
theorem Nm.jo {i:Nat}{x:Str}{E:Value→Shared→Prop}(n:Nm X i x):Nm (X.jo E) i x:=⟨n.hN,n.hv,n.hd,n.hc⟩
theorem DefX.Kn {N:List Str}{sc:Scope}(d:DefX X N sc){z:Str}(h:sc.names.lookup z=some .local):X.env.scope.names.lookup z=some .local:=by rw [d.hsc]; exact h
theorem Inv.Ko {pins:List (Addr × Obj)}{σ:L2.St}{H:Hp}{s:Shared}{h':Heap}{t':Nat}{j:Nat}{z:Str}{m:Str→Option Value}{v:Option Value}(I:Inv X pins σ H s)(nd:X.N.Nodup)(hj:X.N[j]?=some z)
    (hm : ∀ (i:Nat) (x:Str) (v:V),X.N[i]?=some x→σ[i]?=some (some v)→Vis X.env.scope x→∃ u,RelV v u∧Look X.env s.heap m x u) (hn:h'.Ns X.env.locals (fun x=>if x=z then v else m x)) (hs:Heap.SameBut X.env.locals s.heap h') :
    Inv X pins (σ.set j none) H { s with heap:=h',toks:=t' }:=by
  obtain ⟨m0,⟨ol,_,_,hol,_⟩,_⟩:=I.loc
  have cne:=I.cne
  have nL : ∀ b o,X.s₀.heap.get? b=some o→b≠X.env.locals:=fun b o e=>Nat.ne_of_lt (Nat.lt_of_lt_of_le (Heap.lt_size e) I.ok.above)
  refine ⟨I.ok,I.os,I.bare,⟨fun b o e n hb hx=>?_,fun b o e n hb hx=>?_,I.base.free,fun b o e hx=>?_,I.base.gp,I.base.kq,I.base.kZ⟩,⟨_,hn,fun i x u e1 e2 e3=>?_⟩,fun x c e=>?_,I.free,I.iC,fun p hp=>?_,fun b o e=>?_,by simpa using I.len⟩
  · exact (hs.2 b (nL b o e)).trans (I.base.keep b o e n hb hx)
  · obtain ⟨sl,q⟩:=I.base.slot b o e n hb hx
    exact ⟨sl,(hs.2 b (nL b o e)).trans q⟩
  · obtain ⟨o',q⟩:=I.base.there b o e hx
    exact ⟨o',(hs.2 b (nL b o e)).trans q⟩
  · have hij:j≠i:=fun w=>by
      subst w
      by_cases hl:j < σ.length
      · rw [List.getElem?_set_self hl] at e2; cases e2
      · rw [List.getElem?_eq_none (by simp; omega)] at e2; cases e2
    rw [List.getElem?_set_ne hij] at e2
    have hxz:x≠z:=fun w=>by
      subst w
      obtain ⟨l1,g1⟩:=List.getElem?_eq_some_iff.mp e1
      obtain ⟨l2,g2⟩:=List.getElem?_eq_some_iff.mp hj
      exact hij ((List.getElem_inj nd).mp (g2.trans g1.symm))
    obtain ⟨w,r,q⟩:=hm i x u e1 e2 e3
    refine ⟨w,r, ?_⟩
    rcases q with ⟨k,q⟩ | ⟨k,c,e,q⟩
    · exact .inl ⟨k,by show (if x=z then v else m x)=some w; rw [if_neg hxz]; exact q⟩
    · exact .inr ⟨k,c,e,q.sameBut hs (cne x c e)⟩
  · obtain ⟨w,q⟩:=I.cell x c e
    exact ⟨w,q.sameBut hs (cne x c e)⟩
  · obtain ⟨e,n,ne,nf,d⟩:=I.pin p hp
    exact ⟨(hs.2 p.1 ne).trans e,n,ne,nf,d⟩
  · have nl : ∀ b u,H b=some u→b≠X.env.locals:=fun b u q w=>by rw [w,I.free] at q; cases q
    refine (I.hok b o e).nA (fun b' u hb q=>(hs.2 b' ?_).trans q) (fun _ q=>q) fun _ _ q=>q
    rcases hb with rfl | hb
    · exact nl _ _ e
    · exact nl _ _ hb
theorem bS.no {T:Tx}{W:Wf}{O:Addr→Prop}{H:Hp}{env:aN}{σ:L2.St}(E:bS T W O H env σ)(j:Nat)(v:Option V):bS T W O H (env.set j .no) (σ.set j v) where
  fr:=E.fr
  new:=E.new
  mu:=E.mu
  slot:=fun i s e=>by
    rcases set_slot e with ⟨rfl,rfl,hl⟩ | ⟨h,e⟩
    · trivial
    · rw [List.getElem?_set_ne h]; exact E.slot i s e
  inj:=fun i k s t a e1 e2 o1 o2 s1 s2=>by
    rcases set_slot e1 with ⟨rfl,rfl,hl⟩ | ⟨h,q1⟩
    · cases o1
    · rcases set_slot e2 with ⟨rfl,rfl,hl⟩ | ⟨h',q2⟩
      · cases o2
      · rw [List.getElem?_set_ne h] at s1
        rw [List.getElem?_set_ne h'] at s2
        exact E.inj i k s t a q1 q2 o1 o2 s1 s2
  len:=by simp [E.len]
  lU:=fun i k dss t a bs b e1 e2 q hb e3 o3=>by
    rcases set_slot e1 with ⟨_,w,_⟩ | ⟨h,q1⟩
    · cases w
    · rcases set_slot e3 with ⟨_,rfl,_⟩ | ⟨h',q2⟩
      · cases o3
      · rw [List.getElem?_set_ne h] at e2
        rw [List.getElem?_set_ne h']
        exact E.lU i k dss t a bs b q1 e2 q hb q2 o3
theorem tT {α:Type}{ρ:RK α V}{k kk:Nat}{x:Str}{ps:List Str}{F:List D→Option α}{Xf:List D→Option Nat}{es:List Expr}{fs:FA}{p1 p2 p3:Pos}(G:xS X.prog X.w X.K X.mg X.base c ρ x ps k F Xf)(hr:fu kk X.A)(hk:k≤kk)(hg:Gl X x)
    (ha : ∀ E,PDA (X.jo E) c (e::es) fs) (he:isStar e=false) (hpl:dq es=true) (hdb:(x == ("__debug__":Str))=false)
    {pins:List (Addr × Obj)} {σ:L2.St} {H:Hp} {s:Shared} (I:Inv X pins σ H s) {W:Wf} {O:Addr→Prop} {env:aN} {ds:List D} (Er:bS (tx X c) W O H env σ) (e1:fs env=some ds) (hn:ds.length=ps.length)
    {Qn:Flow→Shared→Prop} {Ew:Value→Shared→Prop} {E:Hp→XK} {QH:Hp→Hp→Prop} (hE : ∀ H1,(∃ d,F ds=some d∧∀ H',aG H1 H'→QH H1 H')∨∃ no,Xf ds=some no∧∀ C H',c.cl no=some C→aG H1 H'→E H1 (.ref C) none H')
    (nor : ∀ s' H1 H',Inv X pins σ H' s'→aG H H1→QH H1 H'→Qn .next s') (exc : ∀ ev s1 H1 s',Inv X pins σ H1 s1→aG H H1→CXE X.prog X.w X.stack H1 s1 (E H1) ev s'→Ew ev s') :
    wpAny (model X.prog X.w) X.A (execs [.Expr (.Call (.Name x p1) (e::es) [] p2) p3] X.env) Qn Ew s:=by
  obtain ⟨fa,fd,g1,g2,g3,g4⟩:=G.ex
  have call:wpAny (model X.prog X.w) X.A (eval (.Call (.Name x p1) (e::es) [] p2) X.env) (fun _ s1=>∃ H0 H1,Inv X pins σ H1 s1∧aG H H0∧QH H0 H1) Ew s:=by
    refine wpAny_Call_Name_kw (j4 I hg g2 ?_ hdb)
    refine PySem.W.callWith_K (h₀:=X.base) I.ok.mod.kin g3 (bH (ha Ew p2 pins s σ H (fun vs H1=>aG H H1∧aI (tx X c) (Cl W O) H1 ds vs) (I.jo Ew) ⟨W,O,env,ds,Er,e1,fun vs H1 s1 r1=>⟨s1,r1⟩⟩) fun us s1 vs H1 I1 r ⟨sm,rr⟩=>⟨I1.kIn, ?_⟩) (bq he) (eT hpl)
    have J1:Inv X pins σ H1 s1:=I1.j5
    have hl:us.length=ps.length:=by rw [← r.length, ← rr.length]; exact hn
    have hb:=g4 s1 us J1.kIn (by rw [List.append_nil]; exact hl)
    rw [List.append_nil] at hb
    have sp:spX (tx X c) ρ ps.length F Xf vs H1 (fun _ H'=>QH H1 H') (E H1):=by
      refine ⟨by rw [← rr.length]; exact hn,Cl W O,ds,fun a n=>(Er.mono sm).pG n,rr, ?_⟩
      rcases hE H1 with ⟨d,hd,hq⟩ | ⟨no,h1,h2⟩
      · exact .inl ⟨d,hd,fun _ H' s _=>hq H' s⟩
      · exact .inr ⟨no,h1,h2⟩
    refine wpAny_call (codeAny_mono (g1.run X.A X.stack s1 H1 ⟨us,[]⟩ us vs _ _ (hr.mono hk) J1.Eg hb r sp) fun rs s' hq=>?_)
    cases rs with
    | error ev=>exact exc ev s1 H1 s' J1 sm hq
    | ok fl =>
      cases fl with
      | ret u =>
        obtain ⟨v,H',I2,_,q2⟩:=J1.after hq
        exact ⟨H1,H',I2,sm,q2⟩
      | next=>exact False.elim hq
      | brk=>exact False.elim hq
      | cont=>exact False.elim hq
  refine wpAny_execs_cons (wpAny_Expr_any (bH call fun v s1 H0 H1 I1 sm hq=>?_) I.quiet (gK rfl))
  exact wpAny_execs_nil (nor s1 H0 H1 I1 sm hq)
theorem CD {α:Type}{ρ:RK α V}{i j k kk no:Nat}{x cl y z:Str}{ps:List Str}{F:List D→Option α}{Xf:List D→Option Nat}{es:List Expr}{fs:FA}{p1 p2 p3 p4 p5 p6 p7 p8:Pos}(xr:XR X c xq)(G:xS X.prog X.w X.K X.mg X.base c ρ x ps k F Xf)(hr:fu kk X.A)(hk:k≤kk)(hg:Gl X x)
    (Gc:CB X.K X.mg c cl no) (hgc:Gl X cl) (ni:Nl X i y) (nj:Nl X j z) (hz:X.env.scope.names.lookup z=some .local) (mj:Nm X j z) (ha : ∀ E,PDA (X.jo E) c (e::es) fs) (hdb:(x == ("__debug__":Str))=false:=by decide) (hdc:(cl == ("__debug__":Str))=false:=by decide) (he:isStar e=false:=by rfl) (hpl:dq es=true:=by rfl) :
    PDS X c xq (.Try [.Expr (.Call (.Name x p1) (e::es) [] p2) p3] [.ExceptHandler (some (.Name cl p4)) (some z) [.Assign [.Name y p5] (.Name z p6) p7] p8] [] [] pos) (tN i j ps.length F Xf no fs):=by
  obtain ⟨C,hmC,hC,hxC⟩:=Gc.ex
  intro pins s σ H De I h
  obtain ⟨W,O,env,fl,Er,ef,q⟩:=h
  unfold tN at ef
  cases e1:fs env with
  | none=>rw [e1] at ef; cases ef
  | some ds =>
  rw [e1] at ef
  dsimp only [Option.bind_some] at ef
  by_cases hn:ds.length=ps.length
  case neg=>rw [if_neg hn] at ef; cases ef
  rw [if_pos hn] at ef
  refine wpAny_Try_except ?_
  cases hF:F ds with
  | some d =>
    rw [hF] at ef
    cases ef
    exact tT G hr hk hg ha he hpl hdb I Er e1 hn (E:=fun _=>E0) (QH:=aG) (fun H1=>.inl ⟨d,hF,fun _ w=>w⟩) (fun s' H1 H' I' sm sm2=>wpAny_execs_nil ⟨σ,H',I',q σ H' O (Er.mono (sm.trans sm2)) (Fr.same (sm.trans sm2))⟩) fun ev s1 H1 s' _ _ hx=>by
      obtain ⟨_,_,_,_,_,_,_,_,_,_,_,_,_,_,w⟩:=hx
      exact w.elim
  | none =>
    rw [hF] at ef
    dsimp only at ef
    cases hX:Xf ds with
    | none=>rw [hX] at ef; cases ef
    | some no' =>
    rw [hX] at ef
    dsimp only [Option.bind_some] at ef
    by_cases hno:no'=no
    case neg=>rw [if_neg hno] at ef; cases ef
    rw [if_pos hno] at ef
    subst hno
    cases ef
    refine tT G hr hk hg ha he hpl hdb I Er e1 hn (E:=fun H1 cv _ H'=>cv=.ref C∧aG H1 H') (QH:=fun _ _=>False) (fun H1=>.inr ⟨no',hX,fun C' H' hC' sm=>⟨by rw [hC] at hC'; cases hC'; rfl,sm⟩⟩) (fun s' H1 H' I' sm w=>w.elim) fun ev s1 H1 s2 I1 sm1 hx=>?_
    obtain ⟨ea,t,C2,H2,rfl,os,bare,un,hok,tr,n1,n2,n3,n4,ec,sm2⟩:=hx
    cases ec
    have I2:Inv X pins σ H2 s2:=I1.q9 (ch:=[]) os un hok bare (fun b w=>absurd w (by simp))
    have hl:=I2.stack
    rw [xr.stk] at hl
    have hfr:=I2.ok.frames
    rw [xr.stk] at hfr
    have free2 : ∀ b∈frs (X.env::X.outer),H2 b=none:=by
      have:=I2.l0
      rw [xr.stk] at this
      exact this
    obtain ⟨oe,oT,vs,ts,g1,_,_,g2,_,_,g3,g4,_⟩:=tr.ex
    have f1:ea ∉ frs (X.env::X.outer):=ez hl g1 g2
    have f2:t ∉ frs (X.env::X.outer):=ez hl g3 g4
    refine qD hfr hl xr.fr tr fun h3 t3 mv3 tn3 tr3=>?_
    have hl3:=mv3.frames hl fun b m w=>w.elim (fun w=>f1 (w ▸ m)) fun w=>f2 (w ▸ m)
    have x3 : ∀ b o,s2.heap.get? b=some o→b=t3→b=ea∨b=t:=fun b o e w=>by
      subst w
      rcases tn3 with tn | tn
      · exact .inr tn
      · rw [tn] at e; cases e
    refine nc (s:={ s2 with heap:=h3 }) hl3 tr3 fun h4 mv4 tr4=>?_
    have mv5:=mv3.step mv4 x3
    have f3:t3 ∉ frs (X.env::X.outer):=by
      obtain ⟨_,oT,_,ts,_,_,_,_,_,_,g5,g6,_⟩:=tr3.ex
      exact ez hl3 g5 g6
    have hl4:=mv4.frames hl3 fun b m w=>f3 (w ▸ m)
    have xx : ∀ b,b=ea∨b=t→s1.heap.get? b=none:=fun b w=>by
      rcases w with rfl | rfl
      · exact n1
      · exact n2
    have xh : ∀ b,b=ea∨b=t→H2 b=none:=fun b w=>by
      rcases w with rfl | rfl
      · exact n3
      · exact n4
    have at_ : ∀ h',Mv (X.env::X.outer) (fun b=>b=ea∨b=t) s2.heap h'→Un (frs X.stack) [] H1 H2 s1.heap h'∧HOk X.prog X.w H2 h':=fun h' mv =>
      ⟨Ac un mv xx fun b m=>.inl (by rw [xr.stk]; exact m),vw hok mv xh free2⟩
    obtain ⟨un4,hok4⟩:=at_ h4 mv5
    have I4:Inv X pins σ H2 { s2 with heap:=h4 }:=I1.q9 (ch:=[]) os un4 hok4 bare (fun b w=>absurd w (by simp))
    refine wpAny_handleBy_cons (codeAny_handlers_test ?_) (by intro w; cases w)
    refine j4 (X:=cxH X (.ref ea) fun _ _=>False) (DF I4) hgc hmC ?_ hdc
    obtain ⟨bm,N,nm,qn,bs,hd,sn,sub,ab,col,dd,k0,k1,k2,k3,k5,mN,hCo,hN,hni,TL⟩:=Af I4.kIn hxC
    obtain ⟨oe4,_,_,_,he4,hc4,_⟩:=tr4.ex
    refine wpAny_excMatches_sub_self hCo he4 hc4 (TL.hasType (by decide)) (codeAny_handlers_suite_as ?_)
    refine nc (s:={ s2 with heap:=h4 }) hl4 tr4 fun h6 mv6 tr6=>?_
    have mv7:=mv5.step mv6 x3
    obtain ⟨un6,hok6⟩:=at_ h6 mv7
    obtain ⟨oe6,_,vs6,_,he6,hc6,hn6,hd6,_⟩:=tr6.ex
    have hokX:HOk X.prog X.w (upd H2 ea (XO ea C)) h6:=Cz hok6 n3 ⟨⟨oe6,he6,hc6,hn6,vs6,hd6⟩,⟨oe6,he6⟩,fun h1 h2 ⟨o,a,b⟩ k=>⟨o,k o a,b⟩⟩
    have I6:Inv X pins σ (upd H2 ea (XO ea C)) { s2 with heap:=h6 }:=I1.q9 (ch:=[]) os (G0 un6 n3 n1) hokX bare (fun b w=>absurd w (by simp))
    have sm6:aG H (upd H2 ea (XO ea C)):=sm1.trans (sm2.trans (cu n3 _))
    refine lg I6 nj.nd nj.hN nj.hl (v:=.ref ea) rfl (fun s7 I7=>?_) nj.hf
    have hjl:j < σ.length:=by rw [I.len]; exact (List.getElem?_eq_some_iff.mp nj.hN).1
    have hp:PSs (cxH X (.ref ea) fun _ _=>False) [.Assign [.Name y p5] (.Name z p6) p7] (qZ (wR j) (jv i)):=vP (uJ (X:=cxH X (.ref ea) fun _ _=>False) ni.nd ni.hN ni.hl (ku mj.hN mj.hv mj.hd mj.hc) rfl ni.hf)
    refine wpAny_mono (hp pins s7 _ (upd H2 ea (XO ea C)) { nx:=fun σ' H'=>σ'=(σ.set j (some (.ref ea))).set i (some (.ref ea))∧H'=upd H2 ea (XO ea C),rt:=fun _ _=>False } (DF I7) ⟨.ref ea,List.getElem?_set_self hjl,rfl,rfl⟩) (fun f8 s8 h8=>?_) fun _ _ w=>w.elim
    cases f8 with
    | brk=>obtain ⟨_,_,_,w⟩:=h8; exact w.elim
    | cont=>obtain ⟨_,_,_,w⟩:=h8; exact w.elim
    | ret u=>obtain ⟨_,_,_,_,_,w⟩:=h8; exact w.elim
    | next =>
      obtain ⟨σ8,H8,J8,rfl,rfl⟩:=h8
      have I8:=CC I7 J8
      obtain ⟨m,hn8,hl8⟩:=id I8.loc
      have hcls:(X.env.scope.kind == .class || (X.env.scope.kind == .module && X.env.locals != X.env.globals))=false:=by rw [I.ok.kind]; rfl
      refine wpAny_nameGoes_keeps (m:=m) hz hn8 hcls fun h9 v9 hn9 hs9=>?_
      have I9:=Inv.Ko (t':=s8.toks+1) I8 nj.nd nj.hN hl8 hn9 hs9
      have E6:=Er.mono sm6
      refine ⟨_,_,I9,q _ _ O (((E6.no j (some (.ref ea))).set i ?_).no j none) (Fr.same sm6)⟩
      simp only [Rep]
      exact ⟨ea,C,rfl,hC,bY⟩
end
section
variable {K:PySem.W.Frag}{prog:Program}{w:World}{A:Around}{E:Value→Shared→Prop}{s:Shared}{x Cn:Addr}{ox:Obj}
  (hga:PySem.W.findIn K (.ref Cn) "__getattribute__"=some (some (.builtin "BaseException.__getattribute__"))) (hgt:PySem.W.findIn K (.ref Cn) "__getattr__"=some none)
  (hm:PySem.W.mroIn K Cn (.type "object")=some true) (hmB:PySem.W.mroIn K Cn (.type "BaseException")=some true)
  (hf:PySem.W.findObj K Cn none "__class__"=some (.bind (.builtin "getset_descriptor.__get__") (.builtin "object.__class__"))) (X:K.In s.heap) (I:PySem.W.InstAt s.heap x ox Cn none)
include hga hgt hm hmB hf X I
theorem xT {tk:Tok}{Q:Fin→Shared→Prop}(h:Q (.done (.ret (.ref Cn))) s):wpAny (model prog w) A (Builtin.«object.__getattribute__» ⟨[.ref x,.str "__class__" tk],[]⟩) Q E s:=by
  obtain ⟨hh,g,d,t,os⟩:=s
  have L0:=I.type (M:=model prog w)
  have L1:=PySem.W.looks_find (M:=model prog w) X I hf
  unfold Builtin.«object.__getattribute__»
  refine wpAny_bind (wpAny_pure ?_)
  refine wpAny_bind (wpAny_pure ?_)
  refine wpAny_bind (L0.at (wpAny_bind (L1.at ?_)))
  show wpAny _ _ (Builtin.ObjectAttr.bindTo (.builtin "getset_descriptor.__get__") (.builtin "object.__class__") (.ref x) (.ref Cn)) _ _ _
  show wpAny _ _ (holding [.builtin "object.__class__"] (call (.builtin "getset_descriptor.__get__") [.builtin "object.__class__",.ref x,.ref Cn]) >>= ret) _ _ _
  exact wpAny_bind (wpAny_holding (wpAny_call (PySem.W.class_get (ox:=ox) (od:=none) X I hm (wpAny_pure h))))
theorem xU {M:Model}{tk:Tok}{Q:Unit→Shared→Prop}(h:Q () s):wpAny M A (checkBuiltinCall "BaseException.__getattribute__" ⟨[.ref x,.str "__class__" tk],[]⟩) Q E s:=by
  obtain ⟨hh,g,d,t,os⟩:=s
  have L0:=I.type (M:=M)
  have L1:=PySem.W.looks_mroIn (M:=M) X hmB
  have hk:builtinKind "BaseException.__getattribute__"=some .slot:=by decide +kernel
  have hs:splitId "BaseException.__getattribute__"=some ("BaseException", "__getattribute__"):=by decide +kernel
  have ha:=PySem.F.args_bexc_ga (.ref x) (.str "__class__" tk)
  simp only [checkBuiltinCall,hk,hs]
  refine wpAny_bind ?_
  unfold isInstance
  refine wpAny_bind (L0.at (L1.at ?_))
  rw [if_neg (by decide)]
  repeat (any_goals (first | assumption | wp_step))
theorem G3 {tk:Tok}{fill:Bool}{Q:Value→Shared→Prop}(h:Q (.ref Cn) s):wpAny (model prog w) A (getAttrBy (.ref x) (.str "__class__" tk) fill) Q E s:=by
  obtain ⟨hh,g,d,t,os⟩:=s
  have L0:=I.type (M:=model prog w)
  have L1:=PySem.W.looks_findIn (M:=model prog w) X hga
  have L2:=PySem.W.looks_findIn (M:=model prog w) X hgt
  have f3:=PySem.F.excAttr_ValueError.ga.bind (.ref x)
  have n1:(Value.builtin "BaseException.__getattribute__" == Value.builtin "object.__getattribute__")=false:=by decide +kernel
  have n2 : ¬ ((onTheHeap (Value.ref Cn) && Value.builtin "BaseException.__getattribute__" == Value.builtin "object.__getattribute__")=true):=by rw [n1,Bool.and_false]; decide
  unfold getAttrBy
  refine wpAny_holding (wpAny_bind (L0.at (wpAny_bind (L1.at ?_))))
  dsimp only
  rw [if_neg n2]
  unfold getAttrByItsOwn hookBefore
  rw [if_pos (show onTheHeap (Value.ref Cn)=true from rfl)]
  refine wpAny_bind (L2.at (wpAny_bind ?_))
  refine wpAny_attempt (wpAny_holding ?_)
  unfold callGetattribute
  rw [if_neg (by simp)]
  unfold boundAndCalled
  refine wpAny_bind (wpAny_of_eq f3 ?_)
  refine wpAny_call (codeAny_call_builtin PySem.F.excAttr_ValueError.ga.plain PySem.F.entry_bexc_ga (xU hga hgt hm hmB hf X I (xT hga hgt hm hmB hf X I ?_)))
  exact PySem.W.handed_on rfl h
theorem Ag {Q:Option Value→Shared→Prop}(h:Q (some (.ref Cn)) { s with toks:=s.toks+1 }):wpAny (model prog w) A (getAttr? (.ref x) "__class__") Q E s:=by
  obtain ⟨hh,g,d,t,os⟩:=s
  unfold getAttr? getAttrBy?
  refine wpAny_bind (wpAny_mkText (wpAny_bind (wpAny_attempt ?_)))
  exact G3 (s:=⟨hh,g,d,t+1,os⟩) hga hgt hm hmB hf X I (wpAny_pure h)
end
theorem Ah {K:PySem.W.Frag}{x Cn:Addr}(hga:PySem.W.findIn K (.ref Cn) "__getattribute__"=some (some (.builtin "BaseException.__getattribute__")))(hgt:PySem.W.findIn K (.ref Cn) "__getattr__"=some none)(hdct:PySem.W.hasDictIn K Cn=true)
    (ha:PySem.W.findIn K (.ref Cn) "__class__"=some (some (.builtin "object.__class__"))) (hn:PySem.W.specialIn K (.builtin "object.__class__") "__get__"=some (some (.builtin "getset_descriptor.__get__"))) (htk:PySem.W.takesIn K (.builtin "object.__class__")=some true)
    (hm:PySem.W.mroIn K Cn (.type "object")=some true) (hmB:PySem.W.mroIn K Cn (.type "BaseException")=some true):PySem.W.KitX K (.ref x) (.ref Cn) (fun h=>∃ ox,PySem.W.InstAt h x ox Cn none) where
  ty:=fun _ _ _ ⟨_,I⟩=>I.type
  it:=fun _ _ X _=>by
    obtain ⟨cd,hc,_⟩:=PySem.W.any_some hdct
    unfold PySem.W.clsIn at hc
    split at hc
    · rename_i ho
      intro A' Q' E' s' k q
      unfold isType loadHead
      exact wpAny_bind (wpAny_loadPart (k _ _ (X _ _ ho)) (wpAny_pure q))
    · cases hc
  ne:=fun h tp dd its n sl X htp=>by
    obtain ⟨cd,hc,_⟩:=PySem.W.any_some hdct
    refine Bool.eq_false_iff.mpr fun q=>?_
    have e:Cn=tp:=Value.ref.inj (beq_iff_eq.mp q)
    subst e
    unfold PySem.W.clsIn at hc
    split at hc
    · rename_i ho
      have z:=(X _ _ ho).symm.trans htp
      cases z
    · cases hc
  ca:=fun X ⟨_,I⟩ k=>by
    have hf:PySem.W.findObj K Cn none "__class__"=some (.bind (.builtin "getset_descriptor.__get__") (.builtin "object.__class__")):=by
      obtain ⟨cd,hc,_⟩:=PySem.W.any_some hdct
      unfold PySem.W.findObj
      rw [hc,Option.bind_some,ha,Option.bind_some]
      simp [hn,htk]
    exact Ag hga hgt hm hmB hf X I k
section
variable {X:Cx}{c:Ct}{xq:XQ}{a b e:Expr}{f g:FE}{pos:Pos}
noncomputable def Ai (K:PySem.W.Frag)(v:Value)(cs:List Nat)(n:Nat)(Cn:Addr):Prop :=
  PySem.W.findIn K (.ref Cn) "__getattribute__"=some (some (.builtin "BaseException.__getattribute__"))∧PySem.W.findIn K (.ref Cn) "__getattr__"=some none∧PySem.W.hasDictIn K Cn=true∧PySem.W.findIn K (.ref Cn) "__class__"=some (some (.builtin "object.__class__"))∧PySem.W.specialIn K (.builtin "object.__class__") "__get__"=some (some (.builtin "getset_descriptor.__get__")) ∧
    PySem.W.takesIn K (.builtin "object.__class__")=some true∧PySem.W.mroIn K Cn (.type "object")=some true∧PySem.W.mroIn K Cn (.type "BaseException")=some true∧PySem.W.kitOne K (.ref Cn) v=some (cs.contains n)
structure tU (K:PySem.W.Frag)(mg:Str→Option Value)(c:Ct)(x:Str)(cs:List Nat):Prop where
  ex : ∃ C,mg x=some (.ref C)∧∀ n Cn,c.cl n=some Cn→Ai K (.ref C) cs n Cn
structure DG (K:PySem.W.Frag)(c:Ct)(cs:List Nat):Prop where
  ex : ∀ n Cn,c.cl n=some Cn→Ai K (.type "ValueError") cs n Cn
theorem oA {cs:List Nat}{v:V}{cv:Value}{p:Pos}{p0:Pos}{ec:Expr}(jx : ∀ n Cn,c.cl n=some Cn→Ai X.K cv cs n Cn)(Kq : ∀ u,RelV v u→u=cv)(hN:PE X ec (tC v))(hsc:isStar ec=false)(hg:Gl X "isinstance")(hm:X.mg "isinstance"=none)(ha:PD X c e f)(he:isStar e=false) :
    PD X c (.Call (.Name "isinstance" p) [e,ec] [] pos) (fp1 (lF cs) f):=by
  intro pins s σ H Q I h
  refine wpAny_Call_Name_kw (iI I hg hm (show bootBuiltins "isinstance"=some (.builtin "isinstance") by decide +kernel) ?_ (by decide) (by decide))
  have hA:PA X [e,ec] (mF (tP (tx X c) (kD (tx X c)) f) (mF (tC v) wZ)):=j7 ha (j7 hN nF (bq hsc)) (bq he)
  obtain ⟨W,O,env,d,E,ee,q⟩:=h
  unfold fp1 at ee
  cases e1:f env with
  | none=>rw [e1] at ee; cases ee
  | some y =>
    rw [e1] at ee
    dsimp only [Option.bind_some] at ee
    cases y with
    | exc n =>
      cases ee
      refine PyProof.Rows.callWith_builtin1 (bH (hA pos pins s σ H (fun vs H1=>∃ u,vs=[u,v]∧aG H H1∧Rep (tx X c) (Cl W O) H1 (.exc n) u) I ⟨W,O,env,.exc n,E,e1,fun u H1 s1 r1=>⟨u,rfl,s1,r1⟩⟩) fun us s1 vs H1 I1 r1 zz_=>?_) (bq he) (eT (by unfold dq dq; rw [hsc]; rfl))
      obtain ⟨u,ev,s1',rv⟩:=zz_
      subst ev
      obtain ⟨u1,u2,rfl,ru,ru2⟩:=vals2 r1
      obtain ⟨a,Cn,rfl,hCn,hH⟩:=rv.Et
      cases (show u1=Value.ref a from ru)
      obtain ⟨g1,g1',g2,g3,g4,g5,g6,g6',g7⟩:=jx n Cn hCn
      obtain ⟨⟨o,ho1,ho2,ho3,vs,ho4⟩,_⟩:=(show dU X.prog X.w H1 s1.heap a (XO a Cn) from I1.hok a _ hH)
      have hi:PySem.W.InstAt s1.heap a o Cn none:=⟨ho1,ho2,by unfold PySem.W.notCls; rw [ho4],by rw [ho3]; trivial⟩
      have hu2:u2=cv:=Kq u2 ru2
      subst hu2
      exact PySem.W.kia_one (Ah g1 g1' g2 g3 g4 g5 g6 g6') I1.kIn ⟨o,hi⟩ g7 (fun z=>nomatch z) fun tk=>⟨.bl _,H1,I1.tok _,rfl,q _ H1 s1' (Rep.bl _)⟩
    | ob _ _ _=>cases ee
    | non=>cases ee
    | bl _=>cases ee
    | int _=>cases ee
    | str _=>cases ee
    | tup _=>cases ee
    | lst _=>cases ee
    | dct _ _=>cases ee
theorem jf {x:Str}{cs:List Nat}{p p2:Pos}(G:tU X.K X.mg c x cs)(hg:Gl X "isinstance")(hm:X.mg "isinstance"=none)(hg2:Gl X x)(ha:PD X c e f)(he:isStar e=false:=by rfl)(hdb:(x == ("__debug__":Str))=false:=by decide) :
    PD X c (.Call (.Name "isinstance" p) [e,.Name x p2] [] pos) (fp1 (lF cs) f):=by
  obtain ⟨C,hC,jx⟩:=G.ex
  exact oA (p0:=p2) (v:=.ref C) jx (fun u h=>h) (fun pins s σ H Q I h=>j4 I hg2 hC ⟨.ref C,H,I,rfl,h⟩ hdb) rfl hg hm ha he
theorem vx {cs:List Nat}{p p2:Pos}(G:DG X.K c cs)(hg:Gl X "isinstance")(hm:X.mg "isinstance"=none)(hg2:Gl X "ValueError")(hm2:X.mg "ValueError"=none)(ha:PD X c e f)(he:isStar e=false:=by rfl) :
    PD X c (.Call (.Name "isinstance" p) [e,.Name "ValueError" p2] [] pos) (fp1 (lF cs) f) :=
  oA (p0:=p2) (v:=.ty "ValueError") G.ex (fun u h=>h) (fun pins s σ H Q I h=>iI I hg2 hm2 (show bootBuiltins "ValueError"=some (.type "ValueError") by decide +kernel) ⟨.ty "ValueError",H,I,rfl,h⟩ (by decide) (by decide)) rfl hg hm ha he
end
end DL
end
section
namespace L2
open PySem PySem.Spec PyProof.Rows
section
variable {prog:Program}{w:World}{A:Around}{E:Value→Shared→Prop}{s:Shared}{Q:Value→Shared→Prop}
theorem HT.Aj {t b:Addr}{ws:List Value}(ht:IsTup s.heap t (#[]:Array Value))(hb:IsTup s.heap b ws.toArray)(h:Q (.ref b) s):wpAny (model prog w) A (binaryOp .Add (.ref t) (.ref b)) Q E s:=by
  obtain ⟨⟨cls,dd,data,sl⟩,ho,hc,n,hd⟩:=id ht
  obtain ⟨⟨cls2,dd2,data2,sl2⟩,ho2,hc2,n2,hd2⟩:=id hb
  simp only at hc hd hc2 hd2
  subst hc hd hc2 hd2
  exact concat_meets ⟨_,ho,rfl⟩ ⟨_,ho2,rfl⟩ noFill_tuple_add seq_tuple_add PySem.F.slot_tuple_add PySem.F.entry_tuple_add (PySem.F.args_tuple_add_2 _ _) (tuple_addW0 t b #[] ws.toArray n n2 dd dd2 sl sl2 rfl) ⟨ho,ho2,h⟩
end
section
variable {X:Cx}
end
section
variable {X:Cx}
noncomputable def DH (K:PySem.W.Frag):R2:=fun x y H Q=>∃ a b ys,x=.ref a∧y=.ref b∧SqT K H a []∧SqT K H b ys∧Q (.ref b) H
theorem CF:OpR X (binaryOp .Add) (DH X.K):=by
  intro pins s σ H x y v u Q I rx ry h
  obtain ⟨a,b,ys,rfl,rfl,ha,hb,q⟩:=h
  cases rx
  cases ry
  obtain ⟨its,r1,p1,_⟩:=I.tuple ha
  obtain ⟨its2,r2,p2,_⟩:=I.tuple hb
  cases r1
  exact HT.Aj p1 p2 ⟨.ref b,H,I,rfl,q⟩
end
end L2
namespace DL
open PySem PySem.Spec PyProof.Rows L2
section
variable {X:Cx}{c:Ct}{xq:XQ}{a b e o:Expr}{f g:FE}{pos:Pos}
theorem Ak {T:Tx}(A:Addr→Prop)(H0 H:Hp)(x y:D)(v u:V)(d:D)(Q:VK)(nw:Nw A H)(rx:kD T A H0 H x v)(ry:kD T A H0 H y u)(e:Ab x y=some d)
    (k : ∀ w H',aG H H'→kD T A H H' d w→Q w H'):DH T.K v u H Q∨yJ T.K v u H Q:=by
  unfold Ab at e
  split at e
  · rename_i xs ys
    by_cases c:xs.length+ys.length≤1000000
    · rw [if_pos c] at e; cases e
      obtain ⟨a,vs,rfl,ha,ra⟩:=Rep.gq rx
      obtain ⟨b,us,rfl,hb,rb⟩:=Rep.gq ry
      cases xs with
      | nil =>
        cases ra.j8
        exact .inl ⟨a,b,us,rfl,rfl,ha,hb,k _ H (aG.refl _) (by rw [List.nil_append]; exact Rep.tup hb rb)⟩
      | cons x xs =>
        have hl:=ra.length
        have hl2:=rb.length
        refine .inr ⟨a,b,vs,us,rfl,rfl,ha,hb,fun z=>by rw [z] at hl; simp at hl,small (by omega),fun z=>?_,fun _ p hp=>k _ _ (cu hp _) (Rep.xf (ra.append rb) hp)⟩
        subst z
        have:ys=[]:=List.length_eq_zero_iff.mp (by rw [hl2]; rfl)
        subst this
        exact k _ H (aG.refl _) (by rw [List.append_nil]; exact Rep.tup ha ra)
    · rw [if_neg c] at e; cases e
  · cases e
theorem CG (ha:PD X c a f)(hb:PD X c b g):PD X c (.BinOp a .Add b pos) (fp2 Ab f g):=PE.imp (mE (CF.or vW) ha hb) fun _ _ _ h=>nI (ρ:=kD (tx X c)) (ρ2:=kD (tx X c)) Ak h
section
variable {prog:Program}{w:World}{A:Around}{E:Value→Shared→Prop}{s:Shared}{Q:Value→Shared→Prop}
end
end
end DL
end
section
namespace DL
open PySem PySem.Spec PyProof.Rows L2
section
variable {X:Cx}{c:Ct}{xq:XQ}{e:Expr}{pos:Pos}{α:Type}{ρ:RK α V}{k kk:Nat}{x:Str}{ps:List Str}{F:List D→Option α}{Xf:List D→Option Nat}{es:List Expr}{fs:FA}{p1 p2:Pos}
theorem DI [Kd ρ](xr:XR X c xq)(G:xS X.prog X.w X.K X.mg X.base c ρ x ps k F Xf)(hr:fu kk X.A)(hk:k≤kk)(hg:Gl X x)(ha:PDA X c (e::es) fs)(he:isStar e=false)(hpl:dq es=true)(hdb:(x == ("__debug__":Str))=false)
    {pins:List (Addr × Obj)} {σ:L2.St} {H:Hp} {s:Shared} (I:Inv X pins σ H s) {W:Wf} {O:Addr→Prop} {env:aN} {ds:List D} (Er:bS (tx X c) W O H env σ) (e1:fs env=some ds) (hn:ds.length=ps.length) {Qv:VK}
    (hE:(∃ d,F ds=some d∧∀ v H',aG H H'→ρ (Cl W O) H H' d v→Qv v H')∨∃ no,Xf ds=some no∧∀ H',aG H H'→xq no σ H') :
    wpAny (model X.prog X.w) X.A (eval (.Call (.Name x p1) (e::es) [] p2) X.env) (EP X pins σ Qv) X.xe s:=by
  obtain ⟨fa,fd,g1,g2,g3,g4⟩:=G.ex
  refine wpAny_Call_Name_kw (j4 I hg g2 ?_ hdb)
  refine PySem.W.callWith_K (h₀:=X.base) I.ok.mod.kin g3 (bH (ha p2 pins s σ H (fun vs H1=>aG H H1∧aI (tx X c) (Cl W O) H1 ds vs) I ⟨W,O,env,ds,Er,e1,fun vs H1 s1 r1=>⟨s1,r1⟩⟩) fun us s1 vs H1 I1 r ⟨sm,rr⟩=>⟨I1.kIn, ?_⟩) (bq he) (eT hpl)
  have hl:us.length=ps.length:=by rw [← r.length, ← rr.length]; exact hn
  have hb:=g4 s1 us I1.kIn (by rw [List.append_nil]; exact hl)
  rw [List.append_nil] at hb
  have sp:spX (tx X c) ρ ps.length F Xf vs H1 Qv (fun cv _ H'=>∃ no C,c.cl no=some C∧cv=.ref C∧xq no σ H'):=by
    refine ⟨by rw [← rr.length]; exact hn,Cl W O,ds,fun a n=>(Er.mono sm).pG n,rr, ?_⟩
    rcases hE with ⟨d,hd,hq⟩ | ⟨no,h1,h2⟩
    · exact .inl ⟨d,hd,fun v H' s r=>hq v H' (sm.trans s) (Kd.an _ _ _ _ _ _ sm r)⟩
    · exact .inr ⟨no,h1,fun C H' hC s=>⟨no,C,hC,rfl,h2 H' (sm.trans s)⟩⟩
  refine wpAny_call (codeAny_mono (g1.run X.A X.stack s1 H1 ⟨us,[]⟩ us vs _ _ (hr.mono hk) I1.Eg hb r sp) fun rs s' hq=>?_)
  cases rs with
  | error ev=>exact xr.pass pins σ H1 s1 ev s' I1 hq
  | ok fl =>
    cases fl with
    | ret u=>exact I1.after hq
    | next=>exact False.elim hq
    | brk=>exact False.elim hq
    | cont=>exact False.elim hq
theorem oB {T:Tx}{kf : α→aN→DFl}{De:Ends}{σ:L2.St}{H:Hp}{n:Nat}(h:tDs T xq (je kf n F Xf fs) De σ H) :
    ∃ W O env ds,bS T W O H env σ∧fs env=some ds∧ds.length=n∧((∃ d,F ds=some d∧kh T xq W O H De (kf d env))∨∃ no,Xf ds=some no∧∀ H',aG H H'→xq no σ H'):=by
  obtain ⟨W,O,env,fl,Er,ef,q⟩:=h
  unfold je at ef
  cases e1:fs env with
  | none=>rw [e1] at ef; cases ef
  | some ds =>
    rw [e1] at ef
    dsimp only [Option.bind_some] at ef
    by_cases hn:ds.length=n
    · rw [if_pos hn] at ef
      refine ⟨W,O,env,ds,Er,e1,hn, ?_⟩
      cases hF:F ds with
      | some d=>rw [hF] at ef; cases ef; exact .inl ⟨d,rfl,q⟩
      | none =>
        rw [hF] at ef
        cases hX:Xf ds with
        | none=>rw [hX] at ef; cases ef
        | some no=>rw [hX] at ef; cases ef; exact .inr ⟨no,rfl,fun H' sm=>q σ H' O (Er.mono sm) (Fr.same sm)⟩
    · rw [if_neg hn] at ef; cases ef
end
section
variable {X:Cx}{c:Ct}{xq:XQ}{e:Expr}{pos:Pos}{k kk:Nat}{x:Str}{ps:List Str}{Xf:List D→Option Nat}{es:List Expr}{fs:FA}{p1 p2:Pos}
theorem Al {F:List D→Option D}(xr:XR X c xq)(G:jm X.prog X.w X.K X.mg X.base c x ps k F Xf)(hr:fu kk X.A)(hk:k≤kk)(hg:Gl X x)(ha:PDA X c (e::es) fs)(hdb:(x == ("__debug__":Str))=false:=by decide)(he:isStar e=false:=by rfl)(hpl:dq es=true:=by rfl) :
    PDS X c xq (.Return (some (.Call (.Name x p1) (e::es) [] p2)) pos) (je FV ps.length F Xf fs):=by
  intro pins s σ H De I h
  obtain ⟨W,O,env,ds,Er,e1,hn,h⟩:=oB h
  refine wpAny_Return_some (bH (DI xr G hr hk hg ha he hpl hdb I Er e1 hn (Qv:=De.rt) ?_) fun v s1 y H1 I1 r1 q1=>⟨y, σ,H1,I1,r1,q1⟩)
  rcases h with ⟨d,hd,q⟩ | h
  · exact .inl ⟨d,hd,fun v H' sm r=>q v σ H' O (Er.mono sm) (Fr.same sm) r⟩
  · exact .inr h
theorem xV {α:Type}{ρ:RK α V}[Kd ρ]{F:List D→Option α}(xr:XR X c xq)(G:xS X.prog X.w X.K X.mg X.base c ρ x ps k F Xf)(hr:fu kk X.A)(hk:k≤kk)(hg:Gl X x)(ha:PDA X c (e::es) fs)(hdb:(x == ("__debug__":Str))=false:=by decide)(he:isStar e=false:=by rfl)(hpl:dq es=true:=by rfl) :
    PDS X c xq (.Expr (.Call (.Name x p1) (e::es) [] p2) pos) (je tO ps.length F Xf fs):=by
  intro pins s σ H De I h
  obtain ⟨W,O,env,ds,Er,e1,hn,h⟩:=oB h
  refine wpAny_Expr_any (bH (DI xr G hr hk hg ha he hpl hdb I Er e1 hn (Qv:=fun _ H'=>De.nx σ H') ?_) fun v s1 y H1 I1 r1 q1=>⟨σ,H1,I1,q1⟩) I.quiet (gK rfl)
  rcases h with ⟨d,hd,q⟩ | h
  · exact .inl ⟨d,hd,fun v H' sm r=>q σ H' O (Er.mono sm) (Fr.same sm)⟩
  · exact .inr h
end
end DL
end
section
namespace DL
open PySem PySem.Spec PyProof.Rows L2
section
variable {X:Cx}{c:Ct}{xq:XQ}{a b e:Expr}{f g:FE}{pos:Pos}
end
end DL
end
section
set_option maxHeartbeats 4000000
namespace K72
open DL L2
noncomputable def bT:List (List Nat × Int):=[([110,97,109,101],2),([110,117,109,98,101,114],2),([101,118,101,110],2),([115,117,109],3),([116,105,109,101,115],2),([111,118,101,114],3),([114,111,111,116],2),([109,97,114,107,101,100],4),([104,101,108,100],2),([116,97,98,108,101],2)]
noncomputable def hV:List (List Nat × Int):=[([101,118,101,110],0),([115,117,109],1),([116,105,109,101,115],2),([111,118,101,114],3),([114,111,111,116],3),([109,97,114,107,101,100],3),([110,97,109,101],4),([110,117,109,98,101,114],4),([104,101,108,100],4),([116,97,98,108,101],4)]
noncomputable def aw:D:=.tup [.str [101,118,101,110],.str [115,117,109],.str [116,105,109,101,115]]
noncomputable def cT:D:=.int 8
noncomputable def cX:D:=.str [97,98,99,100,101,102,103,104,105,106,107,108,109,110,111,112,113,114,115,116,117,118,119,120,121,122]
noncomputable def cD:D:=.int 999999999
noncomputable def bR:D:=.int 9
noncomputable def cj:D:=.int 80
noncomputable def eV:D:=.int 12
noncomputable def eW:D:=.int 300
def iF:FS:=(aA (bh 1 (feC (.dct [[101,118,101,110],[115,117,109],[116,105,109,101,115],[111,118,101,114],[114,111,111,116],[109,97,114,107,101,100]] [.int 0,.int 1,.int 2,.int 3,.int 3,.int 3]))) (aK (fp3 vf (ae 1) (fp2 ixD (ae 0) (feC (.int 0))) (feC (.int 4)))))
def eA:List D→Option (D):=bG 2 iF
def iR:FS:=(aA (bN (ftB (fp2 (intD ltI) (aC 1 eA (ah (ae 0) ay)) (ae 1))) (aK (cz (ah (feC (.str [104,101,108,100])) (ah (ae 0) ay)))) aP) (aK (ae 0)))
def fL:List D→Option (D):=bG 2 iR
def gc:FE:=(aC 2 fL (ah (ae 0) (ah (ae 1) ay)))
def gd:FS:=(aA (bh 5 (fp2 gU (ae 5) (fp2 ixD (feC (.str [43,45])) (fp2 (intD g0) (ae 2) (feC (.int 2)))))) (bh 2 (fp2 (intD i8) (ae 2) (feC (.int 2)))))
def fM:FS:=(aA (bh 3 (fp2 qy (feC (.dct [[101,118,101,110],[115,117,109],[116,105,109,101,115]] [.int 1,.int 2,.int 3])) (ae 1))) (aA (bh 4 (fp1 lu (cW (dt 1 [3] (aJ 0) (ae 0) cH gc)))) (aA (bN (ftB (fp2 (eqF true) (ae 1) (feC (.str [115,117,109])))) (aK (cz (ah (ae 1) (ah (ae 4) ay)))) aP) (aA (bh 5 (feC (.str []))) (aA (m6 ka (aJ 6) (ah (fp2 (intD uV) (fp1 el (ae 4)) (feC (.int 1))) ay) gd) (aK (cz (ah (ae 1) (ah (ae 4) (ah (ae 5) ay))))))))))
def d5:List D→Option (D):=bG 7 fM
def cE:FS:=(aA (bN (ftB (fp2 (intD ltI) (ae 0) (feC (.int 3)))) (aK (fp2 gU (feC (.int 2)) (fp2 (intD g0) (ae 1) (feC (.int 4))))) aP) (aA (bN (ftB (fp2 (eqF false) (ae 0) (feC (.int 3)))) (aK (feC (.int 2))) aP) (aA (bN (ftB (fp2 (intD ltI) (ae 0) (feC (.int 6)))) (aK (feC (.int 1))) aP) (aA (bN (ftB (fp2 (eqF false) (ae 0) (feC (.int 6)))) (aK (fp2 gU (feC (.int 2)) (fp1 nX (fp2 (eqF false) (fp2 (intD g0) (ae 1) (feC (.int 3))) (feC (.int 0)))))) aP) (aK (fp2 nV (fp2 gU (feC (.int 1)) (fp2 (intD g0) (ae 1) (feC (.int 3)))) (fp2 gU (feC (.int 1)) (fp2 (intD g0) (fp2 (intD i8) (ae 1) (feC (.int 3))) (feC (.int 3))))))))))
def cx:List D→Option (D):=bG 2 cE
def gF:FE:=(fp1 lu (iK slD (ae 1) (cS (ae 0)) (cS (fp2 gU (ae 0) (ae 2)))))
def cy:FS:=(aA (bN (ftB (fp2 (intD ltI) (ae 1) (feC (.int 3)))) (aK (aC 3 d5 (ah (ae 0) (ah (fp2 ixD (cW (gI (ah (feC (.str [101,118,101,110])) (ah (feC (.str [115,117,109])) (ah (feC (.str [116,105,109,101,115])) ay))))) (ae 1)) (ah (fp2 (intD i8) (ae 2) (feC (.int 4))) ay))))) aP) (aA (bN (ftB (fp2 (eqF false) (ae 1) (feC (.int 3)))) (aK (cz (ah (feC (.str [111,118,101,114])) (ah (fp2 ixD (ae 0) (feC (.int 0))) (ah (fp2 ixD (ae 0) (feC (.int 1))) ay))))) aP) (aA (bN (ftB (fp2 (eqF false) (ae 1) (feC (.int 4)))) (aK (cz (ah (feC (.str [114,111,111,116])) (ah (fp2 ixD (ae 0) (feC (.int 0))) ay)))) aP) (aA (bN (ftB (fp2 (eqF false) (ae 1) (feC (.int 5)))) (aK (cz (ah (feC (.str [104,101,108,100])) (ah (fp2 ixD (ae 0) (feC (.int 0))) ay)))) aP) (aA (bN (ftB (fp2 (eqF false) (ae 1) (feC (.int 6)))) (aA (bh 3 (aC 2 fL (ah (fp2 ixD (ae 0) (feC (.int 0))) (ah (feC (.int 4)) ay)))) (aA (bN (ftB (fp2 (eqF false) (fp1 el (ae 0)) (feC (.int 3)))) (aK (cz (ah (feC (.str [109,97,114,107,101,100])) (ah (ae 3) (ah (fp2 ixD (ae 0) (feC (.int 1))) (ah (fp2 ixD (ae 0) (feC (.int 2))) ay)))))) aP) (aA (bN (ftB (fp2 (eqF false) (fp2 (intD g0) (fp2 (intD i8) (ae 2) (feC (.int 3))) (feC (.int 2))) (feC (.int 0)))) (aK (cz (ah (feC (.str [109,97,114,107,101,100])) (ah (ae 3) (ah (fp2 ixD (ae 0) (feC (.int 1))) (ah (feC .non) ay)))))) aP) (aK (cz (ah (feC (.str [109,97,114,107,101,100])) (ah (ae 3) (ah (feC .non) (ah (fp2 ixD (ae 0) (feC (.int 1))) ay))))))))) aP) (aA (bh 4 (fp2 gU (feC (.int 1)) (fp2 (intD g0) (fp2 (intD i8) (ae 2) (feC (.int 3))) (feC (.int 3))))) (aK (cz (ah (feC (.str [116,97,98,108,101])) (ah (fp1 lu (cW (gC tD 1 [0,4] (aJ 0) (ah (feC (.int 0)) (ah (fp1 el (ae 0)) (ah (ae 4) ay))) cH gF))) ay))))))))))
def ck:List D→Option (D):=bG 5 cy
def fw:FS:=(aA (bh 3 (fp2 gU (ae 3) (fp2 ixD (feC (.str [97,98,99,100,101,102,103,104,105,106,107,108,109,110,111,112,113,114,115,116,117,118,119,120,121,122])) (fp2 (intD g0) (ae 1) (feC (.int 26)))))) (bh 1 (fp2 (intD i8) (ae 1) (feC (.int 26)))))
def jg:FS:=(aA (bh 1 (fp2 (intD g0) (fp2 nV (ae 0) (feC (.int 1099087573))) (feC (.int 10000000000037)))) (aA (bh 2 (fp2 gU (feC (.int 1)) (fp2 (intD g0) (ae 1) (feC (.int 8))))) (aA (bh 1 (fp2 (intD i8) (ae 1) (feC (.int 8)))) (aA (bh 3 (feC (.str []))) (aA (m6 ka (aJ 4) (ah (ae 2) ay) fw) (aK (ae 3)))))))
def ig:List D→Option (D):=bG 5 jg
def ij:FS:=(aA (bN (ftB (fp2 (eqF false) (fp2 (intD g0) (ae 0) (feC (.int 3))) (feC (.int 0)))) (aK (cz (ah (feC (.str [110,117,109,98,101,114])) (ah (fp2 (intD g0) (fp2 (intD i8) (ae 0) (feC (.int 3))) (fp2 (intD xj) (feC (.int 10)) (feC (.int 9)))) ay)))) aP) (aK (cz (ah (feC (.str [110,97,109,101])) (ah (aC 1 ig (ah (fp2 (intD i8) (ae 0) (feC (.int 3))) ay)) ay)))))
def gw:List D→Option (D):=bG 1 ij
def fz:FE:=(fp2 ixD (ae 0) (feC (.int 1)))
def fA:FE:=(fp2 ixD (ae 0) (feC (.int 2)))
def fB:FE:=(fp2 ixD (ae 0) (feC (.int 0)))
def gx:FS:=(aA (bh 2 (fp2 (intD g0) (ae 1) (feC (.int 16)))) (aA (bh 3 (fp2 (intD i8) (ae 1) (feC (.int 16)))) (aA (bN (ftB (fp2 (intD ltI) (ae 2) (feC (.int 8)))) (aA (bh 4 (aC 2 cx (ah (ae 2) (ah (ae 3) ay)))) (aA (bh 5 (iK slD (ae 0) (cS (fp1 maxD (ah (feC (.int 0)) (ah (fp2 (intD uV) (fp1 el (ae 0)) (ae 4)) ay)))) eo)) (aA (bh 6 (fp2 nW (cW (dt 1 [] (aJ 0) (ae 5) cH fz)) (feC (.int 99)))) (aA (bh 7 (fp1 rE (cW (dt 1 [] (aJ 0) (ae 5) cH fA)))) (bN (kg (ftB (fp2 (intD leI) (ae 4) (fp1 el (ae 0)))) (kg (ftB (fp2 (intD leI) (ae 6) (feC (.int 2)))) (fK (kg (ftB (fp2 (eqF false) (ae 2) (feC (.int 7)))) (ftB (ae 7)))))) (aA (bh 8 (aC 3 ck (ah (cW (dt 1 [] (aJ 0) (ae 5) cH fB)) (ah (ae 2) (ah (ae 3) ay))))) (aA (bh 6 (fp2 gU (fp2 gU (ae 6) (feC (.int 1))) (fp1 nX (kx (fp2 (intD ltI) (ae 2) (feC (.int 3))) (fp2 (eqF false) (ae 2) (feC (.int 6))))))) (i6 (fp2 rp (iK slD (ae 0) eo (cS (fp2 (intD uV) (fp1 el (ae 0)) (ae 4)))) (cW (gI (ah (cz (ah (ae 8) (ah (ae 6) (ah (kx (ae 7) (fp2 (eqF false) (ae 2) (feC (.int 7)))) ay)))) ay))))))) aP))))) aP) (i6 (fp2 rp (ae 0) (cW (gI (ah (cz (ah (aC 1 gw (ah (ae 3) ay)) (ah (feC (.int 1)) (ah (feC (.bl false)) ay)))) ay))))))))
def fJ:List D→Option (List D):=kz 9 gx
def eX:FS:=(bh 1 (cW (aC 2 fJ (ah (ae 1) (ah (ae 2) ay)))))
def dw:FE:=(fp2 ixD (ae 0) (feC (.int 0)))
def cJ:FS:=(aA (bh 1 (cW (gI ay))) (aA (jA (aJ 2) (iK slD (ae 0) eo (cS (feC (.int 63)))) eX) (aA (bh 3 (cW (dt 1 [] (aJ 0) (ae 1) cH dw))) (aA (bN (ftB (fp2 (eqF false) (ae 3) (cW (gI ay)))) (aK (cz (ah (feC (.str [110,97,109,101])) (ah (feC (.str [120])) ay)))) aP) (aA (bN (ftB (fp2 (eqF false) (fp1 el (ae 3)) (feC (.int 1)))) (aK (fp2 ixD (ae 3) (feC (.int 0)))) aP) (aA (bh 4 (fp2 (intD g0) (fp2 nV (fp2 ixD (ae 0) (fp2 (intD uV) (fp1 el (ae 0)) (feC (.int 1)))) (feC (.int 1099087573))) (fp2 (intD xj) (feC (.int 10)) (feC (.int 20))))) (aK (aC 3 d5 (ah (ae 3) (ah (fp2 ixD (cW (gI (ah (feC (.str [101,118,101,110])) (ah (feC (.str [115,117,109])) (ah (feC (.str [116,105,109,101,115])) ay))))) (fp2 (intD g0) (fp2 ixD (ae 0) (feC (.int 0))) (feC (.int 3)))) (ah (ae 4) ay)))))))))))
def bW:List D→Option (D):=bG 5 cJ
def bP:FE:=(ae 0)
def bF:FT:=(ftB (fp1 (dB true) (ae 0)))
def gf:FS:=(bh 1 (cW (fp2 rp (ae 1) (cW (fp1 jZ (ae 2))))))
def cq:FS:=(aA (bN (ftB (fp2 (inD false) (fp2 ixD (ae 0) (feC (.int 0))) (cz (ah (feC (.str [110,97,109,101])) (ah (feC (.str [110,117,109,98,101,114])) ay))))) (aK (cW (gI ay))) aP) (aA (bN (ftB (fp2 (inD false) (fp2 ixD (ae 0) (feC (.int 0))) (cz (ah (feC (.str [101,118,101,110])) (ah (feC (.str [115,117,109])) (ah (feC (.str [116,105,109,101,115])) ay)))))) (aK (cW (fp1 jZ (fp2 ixD (ae 0) (feC (.int 1)))))) aP) (aA (bN (ftB (fp2 (eqF true) (fp2 ixD (ae 0) (feC (.int 0))) (feC (.str [116,97,98,108,101])))) (aK (cW (dt 1 [] (aJ 0) (iK slD (ae 0) (cS (feC (.int 1))) eo) bF bP))) aP) (aA (bh 1 (cW (gI ay))) (aA (jA (aJ 2) (fp2 ixD (ae 0) (feC (.int 1))) gf) (aK (ae 1)))))))
def aY:List D→Option (D):=bG 3 cq
def eY:FS:=(aA (bh 5 (aC 1 aY (ah (ae 0) ay))) (bN (ftB (fp2 (eqF true) (ae 5) (cW (gI ay)))) (aA (bh 6 (fp2 (intD g0) (fp2 (intD g0) (fp2 nV (ae 4) (feC (.int 48271))) (feC (.int 2147483647))) (fp1 el (ae 5)))) (aA (bh 2 (fp2 Ab (ae 2) (cz (ah (ae 6) ay)))) (aA (bh 3 (kx (ae 3) (fp2 (eqF false) (fp2 ixD (ae 0) (feC (.int 0))) (feC (.str [116,97,98,108,101]))))) (bh 0 (fp2 ixD (ae 5) (ae 6)))))) aP))
def jW:FS:=(aA (bh 2 (cz ay)) (aA (bh 3 (feC (.bl false))) (aA (jA (aJ 4) (ae 1) eY) (aK (cz (ah (ae 2) (ah (ae 3) ay)))))))
def iS:List D→Option (D):=bG 7 jW
def gG:FS:=(lC 1 (ae 2))
def jh:FS:=(aA (nN 1 (gI ay)) (aA (jA (aJ 2) (ae 0) gG) (lZ 1)))
def ik:List D→Option (List D):=kz 3 jh
def bX:FE:=(ae 0)
def bQ:FT:=(ftB (fp1 (dB true) (ae 0)))
def bo:FS:=(aA (bh 1 (fp2 ixD (ae 0) (feC (.int 0)))) (aA (bN (jy (ftB (fp2 (eqF false) (ae 1) (feC (.str [110,97,109,101])))) (ftB (fp2 (eqF false) (ae 1) (feC (.str [110,117,109,98,101,114]))))) (i6 (gI ay)) aP) (aA (bN (ftB (fp2 (inD false) (ae 1) (feC aw))) (i6 (fp1 jZ (fp2 ixD (ae 0) (feC (.int 1))))) aP) (aA (bN (ftB (fp2 (eqF false) (ae 1) (feC (.str [109,97,114,107,101,100])))) (i6 (fp2 rp (cW (gI (ah (fp2 ixD (ae 0) (feC (.int 1))) ay))) (cW (dt 1 [] (aJ 0) (iK slD (ae 0) (cS (feC (.int 2))) eo) bQ bX)))) aP) (aA (bN (ftB (fp2 (eqF false) (ae 1) (feC (.str [116,97,98,108,101])))) (i6 (aC 1 ik (ah (fp2 ixD (ae 0) (feC (.int 1))) ay))) aP) (i6 (fp1 jZ (iK slD (ae 0) (cS (feC (.int 1))) eo))))))))
def aH:List D→Option (List D):=kz 2 bo
def gg:FS:=(aA (bh 4 (cW (aC 1 aH (ah (ae 2) ay)))) (aA (bN (fK (ftB (h7 leB ltB (feC (.int 0)) (ae 3) (fp1 el (ae 4))))) (lE 2 (feC (.str [116,104,101,32,112,97,116,104,32,108,101,97,100,115,32,110,111,119,104,101,114,101]))) aP) (bh 2 (fp2 ixD (ae 4) (ae 3)))))
def iT:FS:=(aA (bh 2 (ae 0)) (aA (jA (aJ 3) (ae 1) gg) (aK (ae 2))))
def eZ:List D→Option (D):=bG 5 iT
def mm:List D→Option Nat:=mK 5 iT
def gh:FE:=(fp2 (inD false) (ae 0) (feC cX))
def iU:FS:=(aA (bN (jy (fK (ftB (fp1 (g8 .str) (ae 0)))) (fK (ftB (h7 leB leB (feC (.int 1)) (fp1 el (ae 0)) (feC cT))))) (aK (feC (.bl false))) aP) (aK (fp1 sV (cW (ja 1 [] (aJ 0) (ae 0) cH gh)))))
def hZ:List D→Option (D):=bG 1 iU
def ek:FS:=(aA (bN (jy (fK (ftB (fp1 (g8 .int) (ae 0)))) (ftB (fp1 (g8 .bool) (ae 0)))) (aK (feC (.bl false))) aP) (aK (h7 leB leB (feC (.int 0)) (ae 0) (feC cD))))
def d6:List D→Option (D):=bG 1 ek
def hJ:FS:=(aK (i4 (fp1 (g8 .tuple) (ae 0)) (h7 leB leB (ae 1) (fp1 el (ae 0)) (ae 2))))
def d7:List D→Option (D):=bG 3 hJ
def gi:FE:=(aC 3 d7 (ah (ae 0) (ah (feC (.int 1)) (ah (feC bR) ay))))
def gj:FE:=(fp2 (eqF false) (fp1 el (ae 0)) (fp1 el (fp2 ixD (ae 1) (feC (.int 0)))))
def iG:FS:=(aA (bN (fK (ftB (aC 3 d7 (ah (ae 0) (ah (feC (.int 1)) (ah (feC bR) ay)))))) (aK (feC (.bl false))) aP) (aA (bN (fK (ftB (fp1 sV (cW (dt 1 [] (aJ 0) (ae 0) cH gi))))) (aK (feC (.bl false))) aP) (aK (fp1 sV (cW (dt 1 [0] (aJ 0) (ae 0) cH gj))))))
def gP:List D→Option (D):=bG 1 iG
def eB:FE:=(fp2 (inD false) (ae 0) (feC (.str [43,45])))
def iH:FS:=(aK (i4 (fp1 (g8 .str) (ae 0)) (i4 (fp2 (eqF false) (fp1 el (ae 0)) (ae 1)) (fp1 sV (cW (ja 1 [] (aJ 0) (ae 0) cH eB))))))
def gQ:List D→Option (D):=bG 2 iH
def aS:FS:=(aA (bN (jy (fK (ftB (fp1 (g8 .tuple) (ae 0)))) (jy (ftB (fp2 (eqF false) (fp1 el (ae 0)) (feC (.int 0)))) (fK (ftB (fp1 (g8 .str) (fp2 ixD (ae 0) (feC (.int 0)))))))) (aK (feC (.bl false))) aP) (aA (bh 1 (fp2 ixD (ae 0) (feC (.int 0)))) (aA (bN (jy (ftB (fp1 (tabIn true bT) (ae 1))) (ftB (fp2 (eqF true) (fp1 el (ae 0)) (fp1 (uW bT) (ae 1))))) (aK (feC (.bl false))) aP) (aA (bN (ftB (fp2 (eqF false) (ae 1) (feC (.str [110,97,109,101])))) (aK (aC 1 hZ (ah (fp2 ixD (ae 0) (feC (.int 1))) ay))) aP) (aA (bN (ftB (fp2 (eqF false) (ae 1) (feC (.str [110,117,109,98,101,114])))) (aK (aC 1 d6 (ah (fp2 ixD (ae 0) (feC (.int 1))) ay))) aP) (aA (bN (ftB (fp2 (inD false) (ae 1) (feC aw))) (aK (i4 (aC 3 d7 (ah (fp2 ixD (ae 0) (feC (.int 1))) (ah (feC (.int 2)) (ah (feC cj) ay)))) (kx (fp2 (eqF true) (ae 1) (feC (.str [115,117,109]))) (aC 2 gQ (ah (fp2 ixD (ae 0) (feC (.int 2))) (ah (fp2 (intD uV) (fp1 el (fp2 ixD (ae 0) (feC (.int 1)))) (feC (.int 1))) ay)))))) aP) (aA (bN (ftB (fp2 (eqF false) (ae 1) (feC (.str [109,97,114,107,101,100])))) (aK (kx (fp1 (dB true) (fp2 ixD (ae 0) (feC (.int 2)))) (fp1 (dB true) (fp2 ixD (ae 0) (feC (.int 3)))))) aP) (aK (kx (fp2 (eqF true) (ae 1) (feC (.str [116,97,98,108,101]))) (aC 1 gP (ah (fp2 ixD (ae 0) (feC (.int 1))) ay)))))))))))
def aM:List D→Option (D):=bG 2 aS
def il:FS:=(aK (fp1 (uW hV) (fp2 ixD (ae 0) (feC (.int 0)))))
def bK:List D→Option (D):=bG 1 il
def bB:FS:=(aA (bh 2 (fp2 ixD (ae 0) (feC (.int 0)))) (aA (bN (ftB (fp2 (inD false) (ae 2) (feC aw))) (aK (fp2 gU (aC 1 bK (ah (ae 0) ay)) (feC (.int 1)))) aP) (aK (uS (kg (ftB (fp2 (eqF false) (ae 2) (feC (.str [109,97,114,107,101,100])))) (ftB (fp2 (eqF false) (ae 1) (feC (.int 0))))) (feC (.int 4)) (feC (.int 0))))))
def aR:List D→Option (D):=bG 3 bB
def fC (cK:List D→Option (D)):FS:=(aK (kx (fp2 (eqF false) (fp2 ixD (ae 0) (feC (.int 0))) (feC (.str [116,97,98,108,101]))) (fp1 rE (cW (dt 1 [] (aJ 0) (cW (aC 1 aH (ah (ae 0) ay))) cH (aC 1 cK (ah (ae 0) ay)))))))
def aD:Nat→List D→Option (D)
  | 0=>fun _=>none
  | n+1=>bG 1 (fC (aD n))
abbrev iV:Nat:=16
abbrev cK:List D→Option (D):=aD iV
def gy (eC:List D→Option (D)):FS:=(aA (bN (fK (ftB (aC 1 aM (ah (ae 0) ay)))) (aK (feC (.bl false))) aP) (aA (bh 1 (cW (aC 1 aH (ah (ae 0) ay)))) (aA (om (nO [2,3]) (ae 1) (bN (jy (fK (ftB (aC 1 eC (ah (ae 3) ay)))) (ftB (fp2 (intD ltI) (aC 1 bK (ah (ae 3) ay)) (aC 2 aR (ah (ae 0) (ah (ae 2) ay)))))) (aK (feC (.bl false))) aP)) (aK (kx (fp2 (eqF true) (fp2 ixD (ae 0) (feC (.int 0))) (feC (.str [116,97,98,108,101]))) (sQ (fp1 rE (cW (dt 1 [] (aJ 0) (ae 1) cH (aC 1 cK (ah (ae 0) ay)))))))))))
def bz:Nat→List D→Option (D)
  | 0=>fun _=>none
  | n+1=>bG 4 (gy (bz n))
abbrev kl:Nat:=16
abbrev eC:List D→Option (D):=bz kl
def ji (eD:List D→Option (D)):FS:=(aK (fp2 gU (feC (.int 1)) (fp2 nW (cW (dt 1 [] (aJ 0) (cW (aC 1 aH (ah (ae 0) ay))) cH (aC 1 eD (ah (ae 0) ay)))) (feC (.int 0)))))
def fN:Nat→List D→Option (D)
  | 0=>fun _=>none
  | n+1=>bG 1 (ji (fN n))
abbrev km:Nat:=16
abbrev eD:List D→Option (D):=fN km
def jj (eE:List D→Option (D)):FS:=(aK (fp2 gU (feC (.int 1)) (fp1 zi (cW (dt 1 [] (aJ 0) (cW (aC 1 aH (ah (ae 0) ay))) cH (aC 1 eE (ah (ae 0) ay)))))))
def fO:Nat→List D→Option (D)
  | 0=>fun _=>none
  | n+1=>bG 1 (jj (fO n))
abbrev kn:Nat:=16
abbrev eE:List D→Option (D):=fO kn
def gk:FS:=(aK (i4 (aC 1 eC (ah (ae 0) ay)) (i4 (fp2 (intD leI) (aC 1 eD (ah (ae 0) ay)) (feC eV)) (fp2 (intD leI) (aC 1 eE (ah (ae 0) ay)) (feC eW)))))
def dS:List D→Option (D):=bG 1 gk
def iq:FS:=(aA (bN (fK (ftB (aC 1 dS (ah (ae 0) ay)))) (lE 4 (feC (.str [119,104,97,116,32,99,111,109,101,115,32,105,115,32,110,111,32,102,111,114,109,117,108,97]))) aP) (aK (ae 0)))
def eF:List D→Option (D):=bG 1 iq
def iW:List D→Option Nat:=mK 1 iq
def bC:FS:=(bN (ftB (fp1 (dB false) (ae 4))) (jF 2 (feC .non)) (aA (jF 2 (fp2 ixD (ae 1) (ae 3))) (sR 3 Fl (feC (.int 1)))))
def gm:FS:=(aA (nN 2 (gI (ah (feC (.str [109,97,114,107,101,100])) (ah (fp2 ixD (ae 1) (feC (.int 0))) ay)))) (aA (bh 3 (feC (.int 1))) (aA (jA (aJ 4) (iK slD (ae 0) (cS (feC (.int 2))) eo) bC) (aK (fp1 lu (lW 2))))))
def cU:List D→Option (D):=bG 5 gm
def fb:FE:=(fp1 lu (iK slD (ae 1) (cS (fp2 nV (ae 0) (ae 2))) (cS (fp2 nV (fp2 gU (ae 0) (feC (.int 1))) (ae 2)))))
def gH:FS:=(aA (bh 2 (fp1 el (fp2 ixD (ae 0) (feC (.int 0))))) (aK (fp1 lu (cW (gC ka 1 [1,2] (aJ 0) (ah (fp1 el (ae 0)) ay) cH fb)))))
def dY:List D→Option (D):=bG 3 gH
def fP:FS:=(aA (bh 2 (fp2 ixD (ae 0) (feC (.int 0)))) (aA (bN (jy (ftB (fp2 (eqF false) (ae 2) (feC (.str [110,97,109,101])))) (ftB (fp2 (eqF false) (ae 2) (feC (.str [110,117,109,98,101,114]))))) (aK (ae 0)) aP) (aA (bN (ftB (fp2 (eqF false) (ae 2) (feC (.str [115,117,109])))) (aK (cz (ah (feC (.str [115,117,109])) (ah (fp1 lu (ae 1)) (ah (fp2 ixD (ae 0) (feC (.int 2))) ay))))) aP) (aA (bN (ftB (fp2 (inD false) (ae 2) (feC aw))) (aK (cz (ah (ae 2) (ah (fp1 lu (ae 1)) ay)))) aP) (aA (bN (ftB (fp2 (eqF false) (ae 2) (feC (.str [109,97,114,107,101,100])))) (aK (aC 2 cU (ah (ae 0) (ah (ae 1) ay)))) aP) (aA (bN (ftB (fp2 (eqF false) (ae 2) (feC (.str [116,97,98,108,101])))) (aK (cz (ah (feC (.str [116,97,98,108,101])) (ah (aC 2 dY (ah (fp2 ixD (ae 0) (feC (.int 1))) (ah (ae 1) ay))) ay)))) aP) (aK (fp2 gU (cz (ah (ae 2) ay)) (fp1 lu (ae 1))))))))))
def cp:List D→Option (D):=bG 3 fP
def jX:FS:=(aK (uS (ftB (fp2 (intD geI) (aC 1 bK (ah (ae 2) ay)) (aC 2 aR (ah (ae 0) (ah (ae 1) ay))))) (ae 2) (cz (ah (feC (.str [104,101,108,100])) (ah (ae 2) ay)))))
def iX:List D→Option (D):=bG 3 jX
def d8 (cA:List D→Option (D)):FS:=(aA (bN (ftB (fp2 (eqF false) (ae 1) (cz ay))) (aK (ae 2)) aP) (aA (nN 3 (aC 1 aH (ah (ae 0) ay))) (aA (bh 4 (fp2 ixD (ae 1) (feC (.int 0)))) (aA (ml 3 (ae 4) (uS (ftB (fp2 (eqF false) (fp1 el (ae 1)) (feC (.int 1)))) (aC 3 iX (ah (ae 0) (ah (ae 4) (ah (ae 2) ay)))) (aC 3 cA (ah (fp2 ixD (lW 3) (ae 4)) (ah (iK slD (ae 1) (cS (feC (.int 1))) eo) (ah (ae 2) ay)))))) (qj 3 (aK (aC 2 cp (ah (ae 0) (ah (ae 3) ay)))))))))
def d9:Nat→List D→Option (D)
  | 0=>fun _=>none
  | n+1=>bG 5 (d8 (d9 n))
abbrev jJ:Nat:=16
abbrev cA:List D→Option (D):=d9 jJ
def iu:FS:=(aA (je tO 2 eZ mm (ah (ae 0) (ah (ae 1) ay))) (je FV 1 eF iW (ah (aC 3 cA (ah (ae 0) (ah (ae 1) (ah (ae 2) ay)))) ay)))
def dc:List D→Option (D):=bG 3 iu
def iY:List D→Option Nat:=mK 3 iu
def hR (bA:List D→Option (D)):FS:=(aK (kx (fp2 (eqF false) (fp2 ixD (ae 0) (feC (.int 0))) (feC (.str [116,97,98,108,101]))) (fp1 rE (cW (dt 1 [] (aJ 0) (aC 1 aY (ah (ae 0) ay)) cH (aC 1 bA (ah (ae 0) ay)))))))
def bp:Nat→List D→Option (D)
  | 0=>fun _=>none
  | n+1=>bG 1 (hR (bp n))
abbrev jn:Nat:=16
abbrev bA:List D→Option (D):=bp jn
def fD:FS:=(aA (bh 3 (feC .non)) (aA (tN 3 4 3 dc iY 4 (ah (ae 0) (ah (ae 1) (ah (ae 2) ay)))) (aA (bh 5 (kx (fp1 (lF [2]) (ae 3)) (kx (fp1 (lF [1]) (ae 3)) (fp1 (lF [3]) (ae 3))))) (aK (i4 (fp1 (lF [0,1,2,3,4]) (ae 3)) (i4 (fp1 (lF [0,1,2,3,4]) (ae 3)) (sQ (ae 5))))))))
def cL:List D→Option (D):=bG 6 fD
def ko:List D→Option Nat:=mK 6 fD
def fQ:FS:=(aA (bN (ftB (fp2 (inD false) (fp2 ixD (ae 0) (feC (.int 0))) (cz (ah (feC (.str [101,118,101,110])) (ah (feC (.str [115,117,109])) (ah (feC (.str [116,105,109,101,115])) ay)))))) (aK (fp2 qy (feC (.dct [[101,118,101,110],[115,117,109],[116,105,109,101,115]] [.int 1,.int 2,.int 3])) (fp2 ixD (ae 0) (feC (.int 0))))) aP) (aA (bN (kg (ftB (fp2 (eqF false) (fp2 ixD (ae 0) (feC (.int 0))) (feC (.str [109,97,114,107,101,100])))) (ftB (fp2 (eqF false) (ae 1) (feC (.int 0))))) (aK (feC (.int 4))) aP) (aK (feC (.int 0)))))
def dD:List D→Option (D):=bG 2 fQ
def gn:FE:=(fp1 el (ae 0))
def eG:FS:=(aA (bh 1 (fp2 ixD (ae 0) (feC (.int 0)))) (aA (bN (ftB (fp2 (eqF false) (ae 1) (feC (.str [115,117,109])))) (aK (cz (ah (ae 1) (ah (fp1 el (fp2 ixD (ae 0) (feC (.int 1)))) (ah (fp2 ixD (ae 0) (feC (.int 2))) ay))))) aP) (aA (bN (ftB (fp2 (eqF false) (ae 1) (feC (.str [109,97,114,107,101,100])))) (aK (cz (ah (ae 1) (ah (fp1 (dB false) (fp2 ixD (ae 0) (feC (.int 2)))) (ah (fp1 (dB false) (fp2 ixD (ae 0) (feC (.int 3)))) ay))))) aP) (aA (bN (ftB (fp2 (eqF false) (ae 1) (feC (.str [116,97,98,108,101])))) (aK (cz (ah (ae 1) (ah (cW (dt 1 [] (aJ 0) (fp2 ixD (ae 0) (feC (.int 1))) cH gn)) ay)))) aP) (aK (cz (ah (ae 1) (ah (fp1 el (ae 0)) ay))))))))
def bL:List D→Option (D):=bG 2 eG
def jk:FS:=(aA (bN (jy (fK (ftB (fp1 (g8 .tuple) (ae 1)))) (jy (ftB (fp2 (eqF false) (ae 1) (cz ay))) (jy (ftB (fp2 (eqF true) (fp2 ixD (ae 1) (feC (.int 0))) (fp2 ixD (ae 0) (feC (.int 0))))) (ftB (fp2 (eqF true) (fp1 el (ae 1)) (fp1 el (ae 0))))))) (aK (feC (.bl false))) aP) (aA (bN (ftB (fp2 (eqF true) (aC 1 bL (ah (ae 1) ay)) (aC 1 bL (ah (ae 0) ay)))) (aK (feC (.bl false))) aP) (aA (bh 3 (aC 1 aY (ah (ae 0) ay))) (aA (bh 4 (aC 1 aY (ah (ae 1) ay))) (aK (i4 (fp2 (eqF false) (fp1 el (ae 3)) (fp1 el (ae 4))) (i4 (fp2 (eqF false) (iK slD (ae 3) eo (cS (ae 2))) (iK slD (ae 4) eo (cS (ae 2)))) (fp2 (eqF false) (iK slD (ae 3) (cS (fp2 gU (ae 2) (feC (.int 1)))) eo) (iK slD (ae 4) (cS (fp2 gU (ae 2) (feC (.int 1)))) eo)))))))))
def iw:List D→Option (D):=bG 5 jk
def gR:FS:=(aA (bN (fK (ftB (aC 3 iw (ah (ae 1) (ah (ae 6) (ah (ae 8) ay)))))) (aK (feC (.bl false))) aP) (aA (bh 7 (aC 2 dD (ah (ae 1) (ah (ae 8) ay)))) (aA (bh 1 (fp2 ixD (aC 1 aY (ah (ae 1) ay)) (ae 8))) (bh 6 (fp2 ixD (aC 1 aY (ah (ae 6) ay)) (ae 8))))))
def tV:FS:=(aA (bh 1 (aC 1 bW (ah (iK slD (ae 0) eo (cS (feC (.int 20)))) ay))) (aA (bh 2 (aC 1 bW (ah (iK slD (ae 0) (cS (feC (.int 20))) (cS (feC (.int 30)))) ay))) (aA (bh 3 (feC (.int 5))) (aA (bN (ftB (fp2 (intD gtI) (fp1 el (ae 0)) (feC (.int 30)))) (bh 3 (fp2 (intD g0) (fp2 ixD (ae 0) (feC (.int 30))) (feC (.int 6)))) aP) (aA (tu (nO [4,5]) (aC 2 iS (ah (ae 1) (ah (iK slD (cW (fp2 rp (ae 0) (cW (gI (ah (feC (.int 1)) (ah (feC (.int 2)) (ah (feC (.int 3)) (ah (feC (.int 4)) (ah (feC (.int 5)) ay))))))))) eo (cS (ae 3))) ay)))) (aA (bN (kg (ftB (ae 5)) (ftB (aC 1 bA (ah (ae 2) ay)))) (aK (aC 3 cL (ah (ae 1) (ah (ae 4) (ah (ae 2) ay))))) aP) (aA (bh 6 (aC 3 dc (ah (ae 1) (ah (ae 4) (ah (ae 2) ay))))) (aA (bh 7 (feC (.int 0))) (aA (jA (aJ 8) (ae 4) gR) (aA (bN (ftB (fp2 (intD ltI) (aC 1 eA (ah (ae 2) ay)) (ae 7))) (aK (fp2 (eqF false) (ae 6) (cz (ah (feC (.str [104,101,108,100])) (ah (ae 2) ay))))) aP) (aK (i4 (fp1 (g8 .tuple) (ae 6)) (fp2 (eqF false) (ae 6) (ae 2))))))))))))))
def qF:List D→Option (D):=bG 9 tV
theorem xW (c m:Int)(k:Nat)(hk:k<8) : ∃ (m':Int) (w:List Nat) (s:Slot),runFor (aJ 4) fw (dA 0 (k+1)) [.val (.int c),.val (.int m),.val (.int (1+k)),.val (.str []),.no]=some (.nx [.val (.int c),.val (.int m'),.val (.int (1+k)),.val (.str w),s])∧w.length=k+1∧∀ x∈w,97≤x∧x≤122:=by
  have loop:=nZ (tg:=aJ 4) (body:=fw)
    (fun ds env=>∃ (m:Int) (w:List Nat) (s:Slot),env=[.val (.int c),.val (.int m),.val (.int (1+k)),.val (.str w),s]∧w.length+ds.length=k+1∧∀ x∈w,97≤x∧x≤122) (dA 0 (k+1))
    (env:=[.val (.int c),.val (.int m),.val (.int (1+k)),.val (.str []),.no]) ⟨_,[],_,rfl,by unfold dA; simp,by simp⟩ ?_
  · obtain ⟨env',h1,m,w,s,rfl,h2,h3⟩:=loop
    exact ⟨m,w,s,h1,by simpa using h2,h3⟩
  · rintro d ds env ⟨m,w,s,rfl,h2,h3⟩
    obtain ⟨j,hj,hj26⟩:=fE m 26 (by decide)
    simp only [Int.cast_ofNat_Int] at hj
    have hget:([97,98,99,100,101,102,103,104,105,106,107,108,109,110,111,112,113,114,115,116,117,118,119,120,121,122]:List Nat)[j]?=some (97+j):=by
      have : ∀ j<26,([97,98,99,100,101,102,103,104,105,106,107,108,109,110,111,112,113,114,115,116,117,118,119,120,121,122]:List Nat)[j]?=some (97+j):=by decide
      exact this j hj26
    refine ⟨_,_,rfl, ?_,m / 26,w++[97+j],.val d,rfl,by simp at h2 ⊢; omega, ?_⟩
    · have hw:w.length+1≤1000000:=by simp at h2; omega
      simp [fw,g0,i8,hj,iN,hget,hw]
    · intro x hx
      rcases List.mem_append.mp hx with hx | hx
      · exact h3 x hx
      · simp at hx; omega
theorem CI (c:Int) : ∃ w:List Nat,ig [.int c]=some (.str w)∧1≤w.length∧w.length≤8∧∀ x∈w,97≤x∧x≤122:=by
  obtain ⟨k,hk,hk8⟩:=fE (c * 1099087573 % 10000000000037) 8 (by decide)
  simp only [Int.cast_ofNat_Int] at hk
  obtain ⟨m',w,s,h1,h2,h3⟩:=xW c (c * 1099087573 % 10000000000037 / 8) k hk8
  refine ⟨w, ?_,by clear hk h1; omega,by clear hk h1; omega,h3⟩
  have hr:ka [.int (1+(k:Int))]=some (dA 0 (k+1)):=rH (by clear hk h1; omega) (by clear hk h1; omega)
  have hm:=i9 c 1099087573 (by decide)
  have h4:=du (c * 1099087573) 10000000000037 (by decide)
  have h5:=du (c * 1099087573 % 10000000000037) 8 (by decide)
  have h6:=gu (c * 1099087573 % 10000000000037) 8 (by decide)
  rw [hk] at h5
  generalize c * 1099087573 % 10000000000037=N at *
  generalize c * 1099087573=N' at *
  simp only [ig,ak,jg,envOf]
  simp [hm,h4,h5,h6,hr,h1]
def lev:D→Int
  | .tup (.str k::_)=>if k=[101,118,101,110] then 0 else if k=[115,117,109] then 1 else if k=[116,105,109,101,115] then 2 else if k=[111,118,101,114] then 3 else if k=[114,111,111,116] then 3 else if k=[109,97,114,107,101,100] then 3 else 4
  | _=>4
inductive Fm:Nat→Bool→D→Prop
  | name (n:Nat) (t:Bool) (w:List Nat) : 1≤w.length→w.length≤8→(∀ x∈w,97≤x∧x≤122)→Fm (n+1) t (.tup [.str [110,97,109,101],.str w])
  | num (n:Nat) (t:Bool) (i:Int) : 0≤i→i≤999999999→Fm (n+1) t (.tup [.str [110,117,109,98,101,114],.int i])
  | ju (n:Nat) (t:Bool) (ps:List D):(∀ p∈ps,Fm n t p)→(∀ p∈ps,1≤lev p)→2≤ps.length→ps.length≤80→Fm (n+1) t (.tup [.str [101,118,101,110],.tup ps])
  | sum (n:Nat) (t:Bool) (ps:List D) (z:List Nat):(∀ p∈ps,Fm n t p)→(∀ p∈ps,2≤lev p)→2≤ps.length→ps.length≤80→z.length+1=ps.length→(∀ x∈z,x=43∨x=45)→Fm (n+1) t (.tup [.str [115,117,109],.tup ps,.str z])
  | times (n:Nat) (t:Bool) (ps:List D):(∀ p∈ps,Fm n t p)→(∀ p∈ps,3≤lev p)→2≤ps.length→ps.length≤80→Fm (n+1) t (.tup [.str [116,105,109,101,115],.tup ps])
  | over (n:Nat) (t:Bool) (a b:D):Fm n t a→Fm n t b→Fm (n+1) t (.tup [.str [111,118,101,114],a,b])
  | root (n:Nat) (t:Bool) (a:D):Fm n t a→Fm (n+1) t (.tup [.str [114,111,111,116],a])
  | held (n:Nat) (t:Bool) (a:D):Fm n t a→Fm (n+1) t (.tup [.str [104,101,108,100],a])
  | markB (n:Nat) (t:Bool) (a r l:D):Fm n t a→4≤lev a→Fm n t r→Fm n t l→Fm (n+1) t (.tup [.str [109,97,114,107,101,100],a,r,l])
  | fj (n:Nat) (t:Bool) (a r:D):Fm n t a→4≤lev a→Fm n t r→Fm (n+1) t (.tup [.str [109,97,114,107,101,100],a,r,.non])
  | markL (n:Nat) (t:Bool) (a l:D):Fm n t a→4≤lev a→Fm n t l→Fm (n+1) t (.tup [.str [109,97,114,107,101,100],a,.non,l])
  | table (n:Nat) (bs:List (List D)) (w:Nat) : 1≤bs.length→bs.length≤9→1≤w→w≤9→(∀ b∈bs,b.length=w)→(∀ b∈bs, ∀ p∈b,Fm n false p)→Fm (n+1) true (.tup [.str [116,97,98,108,101],.tup (bs.map .tup)])
theorem Fm.up {n:Nat}{t:Bool}{d:D}(h:Fm n t d):Fm (n+1) t d:=by
  induction h with
  | name n t w h1 h2 h3=>exact .name _ _ w h1 h2 h3
  | num n t i h1 h2=>exact .num _ _ i h1 h2
  | ju n t ps _ h2 h3 h4 ih=>exact .ju _ _ ps ih h2 h3 h4
  | sum n t ps z _ h2 h3 h4 h5 h6 ih=>exact .sum _ _ ps z ih h2 h3 h4 h5 h6
  | times n t ps _ h2 h3 h4 ih=>exact .times _ _ ps ih h2 h3 h4
  | over n t a b _ _ i1 i2=>exact .over _ _ a b i1 i2
  | root n t a _ i1=>exact .root _ _ a i1
  | held n t a _ i1=>exact .held _ _ a i1
  | markB n t a r l _ h1 _ _ i1 i2 i3=>exact .markB _ _ a r l i1 h1 i2 i3
  | fj n t a r _ h1 _ i1 i2=>exact .fj _ _ a r i1 h1 i2
  | markL n t a l _ h1 _ i1 i2=>exact .markL _ _ a l i1 h1 i2
  | table n bs w h1 h2 h3 h4 h5 _ ih=>exact .table _ bs w h1 h2 h3 h4 h5 ih
theorem Fm.le {n m:Nat}{t:Bool}{d:D}(h:Fm n t d)(hm:n≤m):Fm m t d:=by
  induction hm with
  | refl=>exact h
  | step _ ih=>exact ih.up
theorem Fm.tt {n:Nat}{t:Bool}{d:D}(h:Fm n t d):Fm n true d:=by
  induction h with
  | name n t w h1 h2 h3=>exact .name _ _ w h1 h2 h3
  | num n t i h1 h2=>exact .num _ _ i h1 h2
  | ju n t ps _ h2 h3 h4 ih=>exact .ju _ _ ps ih h2 h3 h4
  | sum n t ps z _ h2 h3 h4 h5 h6 ih=>exact .sum _ _ ps z ih h2 h3 h4 h5 h6
  | times n t ps _ h2 h3 h4 ih=>exact .times _ _ ps ih h2 h3 h4
  | over n t a b _ _ i1 i2=>exact .over _ _ a b i1 i2
  | root n t a _ i1=>exact .root _ _ a i1
  | held n t a _ i1=>exact .held _ _ a i1
  | markB n t a r l _ h1 _ _ i1 i2 i3=>exact .markB _ _ a r l i1 h1 i2 i3
  | fj n t a r _ h1 _ i1 i2=>exact .fj _ _ a r i1 h1 i2
  | markL n t a l _ h1 _ i1 i2=>exact .markL _ _ a l i1 h1 i2
  | table n bs w h1 h2 h3 h4 h5 h6 _=>exact .table _ bs w h1 h2 h3 h4 h5 h6
theorem Fm.tle {n:Nat}{t u:Bool}{d:D}(h:Fm n t d)(hu:t=true→u=true):Fm n u d:=by
  cases u with
  | true=>exact h.tt
  | false=>cases t with
    | true=>exact absurd (hu rfl) (by simp)
    | false=>exact h
def hdS:List D→Nat
  | .str _::_=>1
  | _=>0
mutual
def cn:D→Nat
  | .tup ds=>hdS ds+cnL ds
  | _=>0
def cnL:List D→Nat
  | []=>0
  | d::ds=>cn d+cnL ds
end
theorem bu:cnL []=0:=by simp [cnL]
theorem aW (d:D)(ds:List D):cnL (d::ds)=cn d+cnL ds:=by simp [cnL]
theorem cB (ds:List D):cn (.tup ds)=hdS ds+cnL ds:=by simp [cn]
theorem cF (z:List Nat):cn (.str z)=0:=by simp [cn]
theorem G4 (z:Int):cn (.int z)=0:=by simp [cn]
theorem rW:cn .non=0:=by simp [cn]
theorem lG : ∀ a b:List D,cnL (a++b)=cnL a+cnL b
  | [],b=>by simp [cnL]
  | x::a,b=>by rw [List.cons_append,aW,aW,lG a b]; omega
theorem bj (k:List Nat)(ds:List D):hdS (.str k::ds)=1:=rfl
theorem Fm.tup {n:Nat}{t:Bool}{d:D}(h:Fm n t d) : ∃ l,d=.tup l:=by cases h <;> exact ⟨_,rfl⟩
theorem ix {n:Nat}{t:Bool}{ps:List D}(h : ∀ p∈ps,Fm n t p):hdS ps=0:=by
  cases ps with
  | nil=>rfl
  | cons p ps=>obtain ⟨l,rfl⟩:=(h p List.mem_cons_self).tup; rfl
theorem oC (bs:List (List D)):hdS (bs.map .tup)=0:=by cases bs <;> rfl
theorem Am {n:Nat}{t:Bool}{d:D}(h:Fm n t d):eA [d]=some (.int (lev d)):=by
  cases h <;> (simp [eA,ak,iF,envOf,gM]; rfl)
theorem An {n:Nat}{t:Bool}{d:D}(h:Fm n t d)(l:Int)(h4:l≤4) : ∃ e,fL [d,.int l]=some e∧Fm (n+1) t e∧l≤lev e∧cn e≤cn d+1:=by
  have hv:=Am h
  by_cases hc:lev d<l
  · refine ⟨.tup [.str [104,101,108,100],d],by simp [fL,ak,iR,envOf,hv,hc],.held _ _ _ h,h4, ?_⟩
    simp only [cB,aW,bu,cF,bj]; omega
  · exact ⟨d,by simp [fL,ak,iR,envOf,hv,hc],h.up,by omega,by omega⟩
theorem nh (n:Nat)(t:Bool)(l:Int)(h4:l≤4) : ∀ ps:List D,(∀ p∈ps,Fm n t p)→∃ ys,aT (aJ 0) cH gc [.no,.val (.int l)] ps=some ys∧ys.length=ps.length∧(∀ y∈ys,Fm (n+1) t y)∧(∀ y∈ys,l≤lev y)∧cnL ys≤cnL ps+ps.length
  | [],_=>⟨[],rfl,rfl,by simp,by simp,by simp [bu]⟩
  | p::ps,h=>by
    obtain ⟨y,h1,h2,h3,h5⟩:=An (h p List.mem_cons_self) l h4
    obtain ⟨ys,g1,g2,g3,g5,g4⟩:=nh n t l h4 ps fun q hq=>h q (List.mem_cons_of_mem _ hq)
    refine ⟨y::ys,cw (e:=[.val p,.val (.int l)]) (by simp) rfl (by simp [gc,h1]) g1,by simp [g2],fun z hz=>?_,fun z hz=>?_, ?_⟩
    · rcases List.mem_cons.mp hz with rfl | hz
      · exact h2
      · exact g3 z hz
    · rcases List.mem_cons.mp hz with rfl | hz
      · exact h3
      · exact g5 z hz
    · rw [aW,aW,List.length_cons]; omega
theorem tW (a k c d:Slot) : ∀ (n:Nat) (i b:Int) (z:List Nat) (s6:Slot),z.length+n≤1000→(∀ x∈z,x=43∨x=45)→∃ (b':Int) (z':List Nat) (t6:Slot),runFor (aJ 6) gd (dA i n) [a,k,.val (.int b),c,d,.val (.str z),s6]=some (.nx [a,k,.val (.int b'),c,d,.val (.str z'),t6])∧z'.length=z.length+n∧∀ x∈z',x=43∨x=45
  | 0,i,b,z,s6,h,hz=>⟨b,z,s6,by rw [vd]; rfl,rfl,hz⟩
  | n+1,i,b,z,s6,h,hz=>by
    obtain ⟨q,x,hk,hx, -⟩:=Ca [43,45] 2 b (by decide) (by decide)
    have h1:=du b 2 (by decide)
    simp only [Int.cast_ofNat_Int] at hk
    rw [hk] at h1
    have h2:=gu b 2 (by decide)
    have hl:z.length+1≤1000000:=by omega
    rw [oj,cm (e1:=[a,k,.val (.int b),c,d,.val (.str z),.val (.int i)]) (e2:=[a,k,.val (.int (b / 2)),c,d,.val (.str (z++[x])),.val (.int i)]) (by simp) (by simp [gd,h1,h2,iN,hx,hl])]
    obtain ⟨b',z',t6,r1,r2,r3⟩:=tW a k c d n (i+1) (b / 2) (z++[x]) (.val (.int i)) (by simp; omega) (by
      intro y hy
      rcases List.mem_append.mp hy with hy | hy
      · exact hz y hy
      · rw [List.mem_singleton.mp hy]
        have:=List.mem_of_getElem? hx
        simpa using this)
    exact ⟨b',z',t6,r1,by rw [r2]; simp; omega,r3⟩
def RK (k:List Nat):Prop:=k=[101,118,101,110]∨k=[115,117,109]∨k=[116,105,109,101,115]
theorem iZ {n:Nat}{t:Bool}(ps:List D)(k:List Nat)(b:Int)(hp : ∀ p∈ps,Fm n t p)(h2 : 2≤ps.length)(h80:ps.length≤80)(hk:RK k) : ∃ d,d5 [.lst ps,.str k,.int b]=some d∧Fm (n+2) t d∧cn d≤cnL ps+ps.length+1:=by
  have hl:ps.length≤1000000:=by omega
  have hcap : ∀ a b c d e f g:Slot,dm 1 [3] [a,b,c,d,e,f,g]=[.no,d]:=fun _ _ _ _ _ _ _=>rfl
  rcases hk with rfl | rfl | rfl
  · obtain ⟨ys,g1,g2,g3,g5,g4⟩:=nh n t 1 (by omega) ps hp
    refine ⟨.tup [.str [101,118,101,110],.tup ys], ?_,.ju _ _ ys g3 g5 (by omega) (by omega), ?_⟩
    · simp only [d5,ak,fM,envOf]
      simp [gM,hl,hcap,g1]
    · simp only [cB,aW,bu,cF,bj,ix g3]; omega
  · obtain ⟨ys,g1,g2,g3,g5,g4⟩:=nh n t 2 (by omega) ps hp
    obtain ⟨m,hm⟩ : ∃ m:Nat,m=ys.length - 1:=⟨_,rfl⟩
    have hmi:(ys.length:Int) - 1=(m:Nat):=by omega
    have hr:ka [.int (m:Int)]=some (dA 0 m):=rH rfl (by omega)
    obtain ⟨b',z',t6,r1,r2,r3⟩:=tW (.val (.lst ps)) (.val (.str [115,117,109])) (.val (.int 2)) (.val (.tup ys)) m 0 b [] .no (by simp; omega) (by simp)
    refine ⟨.tup [.str [115,117,109],.tup ys,.str z'], ?_,.sum _ _ ys z' g3 g5 (by omega) (by omega) (by rw [r2]; simp; omega) r3, ?_⟩
    · simp only [d5,ak,fM,envOf]
      simp [gM,hl,hcap,g1,hmi,hr,r1]
    · simp only [cB,aW,bu,cF,bj,ix g3]; omega
  · obtain ⟨ys,g1,g2,g3,g5,g4⟩:=nh n t 3 (by omega) ps hp
    refine ⟨.tup [.str [116,105,109,101,115],.tup ys], ?_,.times _ _ ys g3 g5 (by omega) (by omega), ?_⟩
    · simp only [d5,ak,fM,envOf]
      simp [gM,hl,hcap,g1]
    · simp only [cB,aW,bu,cF,bj,ix g3]; omega
theorem CJ (c:Int) : ∃ d,gw [.int c]=some d∧Fm 1 false d∧cn d=1:=by
  obtain ⟨w,hw,w1,w2,w3⟩:=CI (c / 3)
  have h3:=du c 3 (by decide)
  have h4:=gu c 3 (by decide)
  have h5:=wg 10 9 (by decide)
  have h6:=du (c / 3) 1000000000 (by decide)
  by_cases h:c % 3=0
  · exact ⟨.tup [.str [110,117,109,98,101,114],.int (c / 3 % 1000000000)],by simp [gw,ak,ij,envOf,h3,h4,h5,h6,h],.num _ _ _ (by omega) (by omega),by simp [cn,cnL,hdS]⟩
  · have h':(c % 3 == 0)=false:=by simpa using h
    exact ⟨.tup [.str [110,97,109,101],.str w],by simp [gw,ak,ij,envOf,h3,h4,hw,h'],.name _ _ _ w1 w2 w3,by simp [cn,cnL,hdS]⟩
def manyN (way:Nat)(b:Int):Nat:=if way<3 then (2+b % 4).toNat else if way=3 then 2 else if way<6 then 1 else if way=6 then (if b % 3=0 then 3 else 2) else ((1+b % 3) * (1+b / 3 % 3)).toNat
theorem wB (way:Nat)(b:Int)(hw:way<8):cx [.int way,.int b]=some (.int (manyN way b))∧1≤manyN way b∧manyN way b≤9:=by
  have h1:=du b 4 (by decide)
  have h2:=du b 3 (by decide)
  have h3:=gu b 3 (by decide)
  have h4:=du (b / 3) 3 (by decide)
  obtain ⟨x,hx,hx3⟩:=fE b 3 (by decide)
  obtain ⟨y,hy,hy3⟩:=fE (b / 3) 3 (by decide)
  obtain ⟨u,hu,hu4⟩:=fE b 4 (by decide)
  simp only [Int.cast_ofNat_Int] at hx hy hu
  have hcs:way=0∨way=1∨way=2∨way=3∨way=4∨way=5∨way=6∨way=7:=by omega
  rcases hcs with rfl | rfl | rfl | rfl | rfl | rfl | rfl | rfl
  · refine ⟨?_,by simp [manyN]; omega,by simp [manyN]; omega⟩
    simp [cx,ak,cE,envOf,h1,manyN]; omega
  · refine ⟨?_,by simp [manyN]; omega,by simp [manyN]; omega⟩
    simp [cx,ak,cE,envOf,h1,manyN]; omega
  · refine ⟨?_,by simp [manyN]; omega,by simp [manyN]; omega⟩
    simp [cx,ak,cE,envOf,h1,manyN]; omega
  · exact ⟨by simp [cx,ak,cE,envOf,manyN],by simp [manyN],by simp [manyN]⟩
  · exact ⟨by simp [cx,ak,cE,envOf,manyN],by simp [manyN],by simp [manyN]⟩
  · exact ⟨by simp [cx,ak,cE,envOf,manyN],by simp [manyN],by simp [manyN]⟩
  · by_cases hz:b % 3=0
    · exact ⟨by simp [cx,ak,cE,envOf,manyN,h2,hz,nX],by simp [manyN,hz],by simp [manyN,hz]⟩
    · have hz':(b % 3 == 0)=false:=by simpa using hz
      exact ⟨by simp [cx,ak,cE,envOf,manyN,h2,hz,hz',nX],by simp [manyN,hz],by simp [manyN,hz]⟩
  · have hm:=xm (1+b % 3) (1+b / 3 % 3) (by omega)
    have e:(1+b % 3) * (1+b / 3 % 3)=(((1+x) * (1+y):Nat):Int):=by rw [hx,hy]; simp
    have e2:manyN 7 b=(1+x) * (1+y):=by
      show ((1+b % 3) * (1+b / 3 % 3)).toNat=_
      rw [e]; exact Int.toNat_natCast _
    have l1:(1+x) * (1+y)≤3 * 3:=Nat.mul_le_mul (by omega) (by omega)
    have l2 : 1 * 1≤(1+x) * (1+y):=Nat.mul_le_mul (by omega) (by omega)
    rw [e] at hm
    refine ⟨?_,by omega,by omega⟩
    rw [e2]
    simp [cx,ak,cE,envOf,h2,h3,h4,hm]
noncomputable def eg (w:Nat):Nat→List D→List (List D)
  | 0,_=>[]
  | r+1,ps=>ps.take w::eg w r (ps.drop w)
theorem oD (w:Nat) : ∀ (r:Nat) (ps:List D),(eg w r ps).length=r
  | 0,_=>rfl
  | r+1,ps=>by simp [eg,oD w r]
theorem tX (w:Nat) : ∀ (r:Nat) (ps:List D),r * w≤ps.length→∀ b∈eg w r ps,b.length=w
  | 0,_,_,b,h=>by cases h
  | r+1,ps,hl,b,h=>by
    rw [Nat.succ_mul] at hl
    rcases List.mem_cons.mp h with rfl | h
    · simp; omega
    · exact tX w r (ps.drop w) (by simp; omega) b h
theorem oE (w:Nat) : ∀ (r:Nat) (ps:List D), ∀ b∈eg w r ps, ∀ p∈b,p∈ps
  | 0,_,b,h,_,_=>by cases h
  | r+1,ps,b,h,p,hp=>by
    rcases List.mem_cons.mp h with rfl | h
    · exact List.mem_of_mem_take hp
    · exact List.mem_of_mem_drop (oE w r _ b h p hp)
theorem tY (w:Nat) : ∀ (r:Nat) (ps:List D),(∀ p∈ps, ∃ l,p=.tup l)→cnL ((eg w r ps).map .tup)≤cnL ps
  | 0,ps,_=>by simp [eg,bu]
  | r+1,ps,h=>by
    have ih:=tY w r (ps.drop w) (fun p hp=>h p (List.mem_of_mem_drop hp))
    have e:cnL ps=cnL (ps.take w)+cnL (ps.drop w):=by rw [← lG,List.take_append_drop]
    have hh:hdS (ps.take w)=0:=by
      cases hq:ps.take w with
      | nil=>rfl
      | cons q r=>obtain ⟨l,rfl⟩:=h q (List.mem_of_mem_take (by rw [hq]; exact List.mem_cons_self)); rfl
    show cnL (.tup (ps.take w)::(eg w r (ps.drop w)).map .tup)≤_
    rw [aW,cB,hh]; omega
theorem oF (ps:List D)(w:Nat)(hw : 1≤w) : ∀ (r i:Nat),(∀ a b:Slot,True)→aT (aJ 0) cH gF [.no,.val (.lst ps),.val (.int w)] ((List.range' i r).map fun k=>D.int (0+(w:Int) * (k:Nat)))=some ((eg w r (ps.drop (i * w))).map .tup)
  | 0,i,_=>rfl
  | r+1,i,h=>by
    have ih:=oF ps w hw r (i+1) h
    have e1:(0:Int)+(w:Int) * (i:Nat)=((i * w:Nat):Int):=by rw [Int.zero_add,Int.natCast_mul,Int.mul_comm]
    have e2:((i * w:Nat):Int)+(w:Int)=((i * w+w:Nat):Int):=by simp
    have hc:=rG ps (i * w) (i * w+w)
    rw [show i * w+w - i * w=w by omega] at hc
    have e3:ps.drop ((i+1) * w)=(ps.drop (i * w)).drop w:=by rw [List.drop_drop,Nat.succ_mul]
    rw [List.range'_succ,List.map_cons]
    show aT _ _ _ _ (D.int (0+(w:Int) * (i:Nat))::_)=some (.tup ((ps.drop (i * w)).take w)::(eg w r ((ps.drop (i * w)).drop w)).map .tup)
    rw [← e3,e1]
    exact cw (e:=[.val (.int ((i * w:Nat):Int)),.val (.lst ps),.val (.int w)]) (by simp) rfl (by simp only [gF]; simp only [zo,we,jS,qp,rF,List.getElem?_cons_zero,List.getElem?_cons_succ,jR,dj,wc,mH,nY,e2,hc,mI]) ih
theorem CK {n:Nat}{t:Bool}(ps:List D)(way:Nat)(b:Int)(hw:way<8)(hp : ∀ p∈ps,Fm n t p)(hl:ps.length=manyN way b)(ht7 : ¬ (way=7∧t=true)) : ∃ d,ck [.lst ps,.int way,.int b]=some d∧Fm (n+1+(if way<3∨way=6 then 1 else 0)) (t || decide (way=7)) d∧cn d≤cnL ps+ps.length+1:=by
  obtain ⟨-,hm1,hm9⟩:=wB way b hw
  have f4:=gu b 4 (by decide)
  have f3:=gu b 3 (by decide)
  have f32:=du (b / 3) 2 (by decide)
  have f33:=du (b / 3) 3 (by decide)
  have hcs:way=0∨way=1∨way=2∨way=3∨way=4∨way=5∨way=6∨way=7:=by omega
  have two : 2≤ps.length→∃ a c r,ps=a::c::r:=by
    intro h
    match ps,h with
    | a::c::r,_=>exact ⟨a,c,r,rfl⟩
  rcases hcs with rfl | rfl | rfl | rfl | rfl | rfl | rfl | rfl
  · obtain ⟨d,h1,h2,h3⟩:=iZ ps [101,118,101,110] (b / 4) hp (by rw [hl]; simp [manyN]; omega) (by omega) (.inl rfl)
    exact ⟨d,by simp [ck,ak,cy,envOf,f4,h1],by simpa using h2,by omega⟩
  · obtain ⟨d,h1,h2,h3⟩:=iZ ps [115,117,109] (b / 4) hp (by rw [hl]; simp [manyN]; omega) (by omega) (.inr (.inl rfl))
    exact ⟨d,by simp [ck,ak,cy,envOf,f4,h1],by simpa using h2,by omega⟩
  · obtain ⟨d,h1,h2,h3⟩:=iZ ps [116,105,109,101,115] (b / 4) hp (by rw [hl]; simp [manyN]; omega) (by omega) (.inr (.inr rfl))
    exact ⟨d,by simp [ck,ak,cy,envOf,f4,h1],by simpa using h2,by omega⟩
  · have h2:ps.length=2:=hl
    obtain ⟨a,c,r,rfl⟩:=two (by omega)
    exact ⟨.tup [.str [111,118,101,114],a,c],by simp [ck,ak,cy,envOf],by simpa using Fm.over _ _ _ _ (hp a (by simp)) (hp c (by simp)),by simp only [cB,aW,bu,cF,bj]; omega⟩
  · have h2:ps.length=1:=hl
    match ps,h2 with
    | [a],_=>exact ⟨.tup [.str [114,111,111,116],a],by simp [ck,ak,cy,envOf],by simpa using Fm.root _ _ _ (hp a (by simp)),by simp only [cB,aW,bu,cF,bj,List.length_cons]; omega⟩
  · have h2:ps.length=1:=hl
    match ps,h2 with
    | [a],_=>exact ⟨.tup [.str [104,101,108,100],a],by simp [ck,ak,cy,envOf],by simpa using Fm.held _ _ _ (hp a (by simp)),by simp only [cB,aW,bu,cF,bj,List.length_cons]; omega⟩
  · have h2:ps.length=if b % 3=0 then 3 else 2:=hl
    have h2' : 2≤ps.length:=by rw [h2]; split <;> omega
    obtain ⟨a,c,r,rfl⟩:=two h2'
    obtain ⟨e,g1,g2,g5,g3⟩:=An (hp a (by simp)) 4 (by omega)
    have hc:=(hp c (by simp)).up
    cases r with
    | nil =>
      by_cases hz:b / 3 % 2=0
      · exact ⟨.tup [.str [109,97,114,107,101,100],e,c,.non],by simp [ck,ak,cy,envOf,g1,f3,f32,hz],by simpa using Fm.fj _ _ _ _ g2 g5 hc,by simp only [cB,aW,bu,cF,rW,bj,List.length_cons]; omega⟩
      · have hz':(b / 3 % 2 == 0)=false:=by simpa using hz
        exact ⟨.tup [.str [109,97,114,107,101,100],e,.non,c],by simp [ck,ak,cy,envOf,g1,f3,f32,hz'],by simpa using Fm.markL _ _ _ _ g2 g5 hc,by simp only [cB,aW,bu,cF,rW,bj,List.length_cons]; omega⟩
    | cons d r =>
      have hr:r=[]:=by
        have:(a::c::d::r).length≤3:=by rw [h2]; split <;> omega
        simpa using this
      subst hr
      exact ⟨.tup [.str [109,97,114,107,101,100],e,c,d],by simp [ck,ak,cy,envOf,g1],by simpa using Fm.markB _ _ _ _ _ g2 g5 hc (hp d (by simp)).up,by simp only [cB,aW,bu,cF,bj,List.length_cons]; omega⟩
  · obtain ⟨x,hx,hx3⟩:=fE b 3 (by decide)
    obtain ⟨y,hy,hy3⟩:=fE (b / 3) 3 (by decide)
    simp only [Int.cast_ofNat_Int] at hx hy
    have hl2:ps.length=(1+x) * (1+y):=by
      rw [hl]
      show ((1+b % 3) * (1+b / 3 % 3)).toNat=_
      rw [hx,hy]
      have:((1:Int)+(x:Nat)) * (1+(y:Nat))=(((1+x) * (1+y):Nat):Int):=by simp
      rw [this]; exact Int.toNat_natCast _
    have hwi:(1:Int)+(y:Nat)=((1+y:Nat):Int):=by omega
    rw [hy] at f33
    generalize hW : 1+y=W at hl2 hwi
    have hr:tD [.int 0,.int (ps.length:Int),.int (W:Int)]=some ((List.range' 0 (1+x)).map fun k=>D.int (0+(W:Int) * (k:Nat))):=by
      have c:(-1000000000<(0:Int)∧(0:Int)<1000000000)∧(-1000000000<(ps.length:Int)∧(ps.length:Int)<1000000000)∧0<(W:Int)∧(W:Int)<1000000000:=by
        have:ps.length≤9:=by omega
        omega
      rw [Cd,if_pos c]
      have e:(((ps.length:Int) - 0+W - 1) / W).toNat=1+x:=by
        rw [hl2]
        have e1:(((1+x) * W:Nat):Int) - 0+W - 1=(W - 1:Int)+W * ((1+x:Nat):Int):=by
          rw [Int.natCast_mul,Int.mul_comm]; omega
        rw [e1,Int.add_mul_ediv_left _ _ (by omega),Int.ediv_eq_zero_of_lt (by omega) (by omega)]
        omega
      unfold jH
      rw [e,List.range_eq_range']
    have hb:=oF ps W (by omega) (1+x) 0 (fun _ _=>trivial)
    simp only [Nat.zero_mul,List.drop_zero] at hb
    have hcap : ∀ a b c d e:Slot,dm 1 [0,4] [a,b,c,d,e]=[.no,a,e]:=fun _ _ _ _ _=>rfl
    have hrl:((List.range' 0 (1+x)).map fun k=>D.int (0+(W:Int) * (k:Nat))).length≤1000000:=by simp; omega
    have hcl:=oD W (1+x) ps
    refine ⟨.tup [.str [116,97,98,108,101],.tup ((eg W (1+x) ps).map .tup)], ?_, ?_, ?_⟩
    · generalize ((List.range' 0 (1+x)).map fun k=>D.int (0+(W:Int) * (k:Nat)))=RR at hr hb hrl
      generalize (eg W (1+x) ps).map D.tup=CH at hb
      simp only [ck,ak,cy,envOf]
      simp [f3,f33,hwi,hr,hrl,hcap,hb]
    · have tf:t=false:=by
        cases t with
        | false=>rfl
        | true=>exact absurd ⟨rfl,rfl⟩ ht7
      subst tf
      simpa using Fm.table _ _ W (by omega) (by omega) (by omega) (by omega) (tX W (1+x) ps (by omega)) (fun b hb p hpp=>hp p (oE W (1+x) ps b hb p hpp))
    · have:=tY W (1+x) ps (fun p hpp=>(hp p hpp).tup)
      simp only [cB,aW,bu,cF,bj,oC]; omega
def itm (q:D × Nat × Bool):D:=.tup [q.1,.int (q.2.1:Nat),.bl q.2.2]
def Ao (st:List (D × Nat × Bool)):Prop:=∀ q∈st,Fm q.2.1 q.2.2 q.1∧1≤q.2.1∧q.2.1≤4
theorem jK (fe:FE)(g:D × Nat × Bool→D)(h : ∀ q,fe [.val (itm q)]=some (g q)) : ∀ st:List (D × Nat × Bool),aT (aJ 0) cH fe [.no] (st.map itm)=some (st.map g)
  | []=>rfl
  | q::st=>cw (e:=[.val (itm q)]) (by simp) rfl (h q) (jK fe g h st)
theorem ce1 (q:D × Nat × Bool):fz [.val (itm q)]=some (.int (q.2.1:Nat)):=by simp [fz,itm]
theorem ce2 (q:D × Nat × Bool):fA [.val (itm q)]=some (.bl q.2.2):=by simp [fA,itm]
theorem ce3 (q:D × Nat × Bool):fB [.val (itm q)]=some q.1:=by simp [fB,itm]
theorem mn (bs:List Bool):iD (bs.map D.bl)=some bs:=by
  induction bs with
  | nil=>rfl
  | cons x r ih=>show (iD (r.map D.bl)).map (x::·)=_; rw [ih]; rfl
theorem Ap (is:List Nat) : ∃ m:Nat,nW (.lst (is.map fun (k:Nat)=>D.int k)) (.int 99)=some (.int m)∧(m≤98→∀ i∈is,i≤m):=by
  have e:(is.map fun (k:Nat)=>D.int k)=(is.map fun (k:Nat)=>(k:Int)).map D.int:=by rw [List.map_map]; rfl
  rw [e]
  show ∃ m:Nat,(intsOf ((is.map fun (k:Nat)=>(k:Int)).map D.int)).bind _=_∧_
  rw [kS]
  cases is with
  | nil=>exact ⟨99,rfl,by simp⟩
  | cons i r =>
    have h1:=lA (r.map fun (k:Nat)=>(k:Int)) i
    have h2:=rT (r.map fun (k:Nat)=>(k:Int)) i
    obtain ⟨m,hm⟩ : ∃ m:Nat,kJ i (r.map fun (k:Nat)=>(k:Int))=m:=by
      rcases List.mem_cons.mp h1 with e | e
      · exact ⟨i,e⟩
      · obtain ⟨k, -,hk⟩:=List.mem_map.mp e
        exact ⟨k,hk.symm⟩
    refine ⟨m,by show some (D.int (kJ i (r.map fun (k:Nat)=>(k:Int))))=_; rw [hm],fun _ j hj=>?_⟩
    rcases List.mem_cons.mp hj with rfl | hj
    · have:=h2.1; rw [hm] at this; omega
    · have:=h2.2 j (List.mem_map.mpr ⟨j,hj,rfl⟩); rw [hm] at this; omega
def iB (st:List (D × Nat × Bool)):Nat:=cnL (st.map (·.1))+st.length
theorem oG (a b:List (D × Nat × Bool)):iB (a++b)=iB a+iB b:=by unfold iB; rw [List.map_append,lG,List.length_append]; omega
theorem CL (st:List (D × Nat × Bool))(c:Int)(hl:st.length≤900)(ho:Ao st) : ∃ st',fJ [.lst (st.map itm),.int c]=some (st'.map itm)∧Ao st'∧st'.length≤st.length+1∧iB st'≤iB st+2:=by
  obtain ⟨way,hway,hw16⟩:=fE c 16 (by decide)
  simp only [Int.cast_ofNat_Int] at hway
  have m1:=du c 16 (by decide)
  have m2:=gu c 16 (by decide)
  rw [hway] at m1
  have atomCase : ∀ d,Fm 1 false d→cn d=1→Ao (st++[(d,1,false)])∧(st++[(d,1,false)]).length≤st.length+1∧iB (st++[(d,1,false)])≤iB st+2:=by
    intro d h2 h3
    refine ⟨fun q hq=>?_,by simp, ?_⟩
    · rcases List.mem_append.mp hq with hq | hq
      · exact ho q hq
      · rw [List.mem_singleton.mp hq]; exact ⟨h2,by simp,by simp⟩
    · rw [oG]
      have:iB [(d,1,false)]=cn d+1:=by unfold iB; simp [aW,bu]
      omega
  obtain ⟨d0,a1,a2,a3⟩:=CJ (c / 16)
  have hl1:st.length+1≤1000000:=by omega
  by_cases h8:way<8
  · have h8':(way:Int)<8:=by omega
    obtain ⟨g1,g2,g3⟩:=wB way (c / 16) h8
    generalize hm:manyN way (c / 16)=m at *
    obtain ⟨k,hk⟩ : ∃ k:Nat,k=st.length - m:=⟨_,rfl⟩
    have hmax:(if (st.length:Int) - (m:Nat) > 0 then (st.length:Int) - (m:Nat) else 0)=(k:Nat):=by split <;> omega
    have hmax':(if 0<(st.length:Int) - (m:Nat) then (st.length:Int) - (m:Nat) else 0)=(k:Nat):=hmax
    have hcut:=jB (st.map itm) k
    rw [← List.map_drop] at hcut
    have c1:=jK fz (fun q=>.int (q.2.1:Nat)) ce1 (st.drop k)
    have c2:=jK fA (fun q=>.bl q.2.2) ce2 (st.drop k)
    have c3:=jK fB (fun q=>q.1) ce3 (st.drop k)
    obtain ⟨dp,d1,d2⟩:=Ap ((st.drop k).map fun q=>q.2.1)
    have e1:(((st.drop k).map fun q=>q.2.1).map fun (k:Nat)=>D.int k)=(st.drop k).map fun q=>D.int (q.2.1:Nat):=by rw [List.map_map]; rfl
    rw [e1] at d1
    have an:rE (.lst ((st.drop k).map fun q=>D.bl q.2.2))=some (.bl (((st.drop k).map fun q=>q.2.2).any id)):=by
      have e2:((st.drop k).map fun q=>D.bl q.2.2)=((st.drop k).map fun q=>q.2.2).map D.bl:=by rw [List.map_map]; rfl
      rw [e2]
      show (iD _).map _=_
      rw [mn]; rfl
    generalize hT:((st.drop k).map fun q=>q.2.2).any id=tb at an
    have hcap : ∀ a b c d e f g h i:Slot,dm 1 [] [a,b,c,d,e,f,g,h,i]=[.no]:=fun _ _ _ _ _ _ _ _ _=>rfl
    have hdl:(st.drop k).length≤1000000:=by simp; omega
    have hdl':st.length - k≤1000000:=by omega
    by_cases hcond:m≤st.length∧dp≤2∧¬ (way=7∧tb=true)
    · obtain ⟨q1,q2,q3⟩:=hcond
      have hlen:((st.drop k).map fun q=>q.1).length=m:=by simp; omega
      have hfm : ∀ p∈(st.drop k).map fun q=>q.1,Fm dp tb p:=by
        intro p hp
        obtain ⟨q,hq,rfl⟩:=List.mem_map.mp hp
        refine ((ho q (List.mem_of_mem_drop hq)).1.le (d2 (by omega) q.2.1 (List.mem_map.mpr ⟨q,hq,rfl⟩))).tle fun hq2=>?_
        rw [← hT,List.any_eq_true]
        exact ⟨q.2.2,List.mem_map.mpr ⟨q,hq,rfl⟩,hq2⟩
      obtain ⟨d,w1,w2,w3⟩:=CK ((st.drop k).map fun q=>q.1) way (c / 16) h8 hfm (hlen.trans hm.symm) q3
      have hk2:(st.length:Int) - (m:Nat)=(k:Nat):=by omega
      have hcut2:=ma (st.map itm) k
      rw [← List.map_take] at hcut2
      have hq1:(m:Int)≤(st.length:Int):=by omega
      have hq2:(dp:Int)≤2:=by omega
      have hsl:min k st.length+1≤1000000:=by omega
      have bd:dp+1+(if way<3∨way=6 then 1 else 0)≤4:=by split <;> omega
      obtain ⟨nd,hnd⟩ : ∃ nd:Nat,nd=dp+1+(if way<3∨way=6 then 1 else 0):=⟨_,rfl⟩
      rw [← hnd] at w2 bd
      refine ⟨st.take k++[(d,nd,tb || decide (way=7))], ?_,fun q hq=>?_,by simp; omega, ?_⟩
      · have hcs:way=0∨way=1∨way=2∨way=3∨way=4∨way=5∨way=6∨way=7:=by omega
        generalize ((st.drop k).map fun q=>q.1)=PS at c3 w1
        generalize ((st.drop k).map fun q=>D.int (q.2.1:Nat))=DS at c1 d1
        generalize ((st.drop k).map fun q=>D.bl q.2.2)=BS at c2 an
        generalize hSD:(st.drop k).map itm=SD at hcut c1 c2 c3
        have hSDl:SD.length≤1000000:=by rw [← hSD]; simpa using hdl
        have hst:(st.map itm).length=st.length:=by simp
        rw [List.map_append]
        generalize (st.take k).map itm=TK at hcut2
        have hTK:TK.length+1≤1000000:=by
          have:TK.length≤(st.map itm).length:=by rw [← hcut2]; unfold cutD; simp; omega
          omega
        generalize st.map itm=ST at hcut hcut2 hst
        rw [← hst] at hmax' hk2 hq1
        have hmk:(if 0<k then (k:Int) else 0)=(k:Int):=by split <;> omega
        have hni:(dp:Int)+1+(if way<3∨way=6 then 1 else 0)=(nd:Nat):=by rw [hnd]; split <;> simp
        simp only [fJ,br,gx,envOf]
        rcases hcs with rfl | rfl | rfl | rfl | rfl | rfl | rfl | rfl
        all_goals simp only [Int.cast_ofNat_Int] at m1 g1 w1
        all_goals cases tb
        all_goals first
          | exact absurd ⟨rfl,rfl⟩ q3
          | (simp at hni; simp [m1,m2,g1,hmax',hcut,hSDl,hcap,c1,d1,c2,an,hq1,hq2,c3,w1,nX,hk2,hmk,hcut2,hTK,itm,hni])
      · rcases List.mem_append.mp hq with hq | hq
        · exact ho q (List.mem_of_mem_take hq)
        · rw [List.mem_singleton.mp hq]; exact ⟨w2,by simp only; omega,bd⟩
      · rw [oG]
        have s1:iB st=iB (st.take k)+iB (st.drop k):=by rw [← oG,List.take_append_drop]
        have s2:iB [(d,nd,tb || decide (way=7))]=cn d+1:=by unfold iB; simp [aW,bu]
        have s3:iB (st.drop k)=cnL ((st.drop k).map fun q=>q.1)+((st.drop k).map fun q=>q.1).length:=by unfold iB; rw [List.length_map]
        omega
    · refine ⟨st++[(d0,1,false)], ?_,atomCase d0 a2 a3⟩
      generalize ((st.drop k).map fun q=>D.int (q.2.1:Nat))=DS at c1 d1
      generalize ((st.drop k).map fun q=>D.bl q.2.2)=BS at c2 an
      generalize hSD:(st.drop k).map itm=SD at hcut c1 c2 c3
      have hSDl:SD.length≤1000000:=by rw [← hSD]; simpa using hdl
      have hst:(st.map itm).length=st.length:=by simp
      rw [List.map_append]
      generalize st.map itm=ST at hcut hst
      rw [← hst] at hmax' hl1
      have hmN:(if m<ST.length then (ST.length:Int) - (m:Int) else 0)=(k:Int):=by split <;> omega
      have heq7:((way:Int) == 7)=decide (way=7):=by
        rw [Bool.eq_iff_iff]; simp; omega
      simp only [fJ,br,gx,envOf]
      by_cases q1:m≤st.length
      · have hq1:(m:Int)≤(ST.length:Int):=by omega
        by_cases q2:dp≤2
        · have hq2:(dp:Int)≤2:=by omega
          have q3:way=7∧tb=true:=Classical.byContradiction fun z=>hcond ⟨q1,q2,z⟩
          obtain ⟨rfl,rfl⟩:=q3
          simp only [Int.cast_ofNat_Int] at m1 g1
          simp [m1,m2,g1,hmax',hmN,hcut,hSDl,hcap,c1,d1,c2,an,hq1,hq2,a1,hl1,itm]
        · have hq2 : ¬ (dp:Int)≤2:=by omega
          simp [m1,m2,h8',g1,hmax',hmN,hcut,hSDl,hcap,c1,d1,c2,an,hq1,hq2,a1,hl1,itm,h8,q2]
      · have hq1 : ¬ (m:Int)≤(ST.length:Int):=by omega
        have hq1' : ¬ m≤ST.length:=by omega
        simp [m1,m2,h8',g1,hmax',hmN,hcut,hSDl,hcap,c1,d1,c2,an,hq1,hq1',a1,hl1,itm,h8]
  · have h8' : ¬ (way:Int)<8:=by omega
    refine ⟨st++[(d0,1,false)], ?_,atomCase d0 a2 a3⟩
    simp only [fJ,br,gx,envOf]
    simp [m1,m2,h8,h8',a1,hl1,itm]
theorem qG (ns:List Int)(s3 s4:Slot) : ∀ (cs:List D) (st:List (D × Nat × Bool)) (s2:Slot),(∀ d∈cs, ∃ i,d=.int i)→st.length+cs.length≤900→Ao st →
    ∃ (st':List (D × Nat × Bool)) (t2:Slot),runFor (aJ 2) eX cs [.val (.lst (ns.map .int)),.val (.lst (st.map itm)),s2,s3,s4]=some (.nx [.val (.lst (ns.map .int)),.val (.lst (st'.map itm)),t2,s3,s4])∧Ao st'∧st'.length≤st.length+cs.length∧iB st'≤iB st+2 * cs.length
  | [],st,s2,_,_,ho=>⟨st,s2,rfl,ho,by simp,by simp⟩
  | d::cs,st,s2,hd,hl,ho=>by
    obtain ⟨c,rfl⟩:=hd d List.mem_cons_self
    simp only [List.length_cons] at hl
    obtain ⟨st1,h1,h2,h3,h4⟩:=CL st c (by omega) ho
    rw [cm (e1:=[.val (.lst (ns.map .int)),.val (.lst (st.map itm)),.val (.int c),s3,s4]) (e2:=[.val (.lst (ns.map .int)),.val (.lst (st1.map itm)),.val (.int c),s3,s4]) (by simp) (by simp [eX,h1])]
    obtain ⟨st',t2,g1,g2,g3,g4⟩:=qG ns s3 s4 cs st1 (.val (.int c)) (fun d hd'=>hd d (List.mem_cons_of_mem _ hd')) (by omega) h2
    exact ⟨st',t2,g1,g2,by simp; omega,by simp; omega⟩
theorem ceF (q:D × Nat × Bool):dw [.val (itm q)]=some q.1:=by simp [dw,itm]
theorem oH (ns:List Int) : ∃ f,bW [.lst (ns.map .int)]=some f∧Fm 6 true f∧cn f≤130:=by
  have hcut:cutD (ns.map D.int) none (some 63)=(ns.map D.int).take 63:=ma (ns.map D.int) 63
  have hcl:((ns.map D.int).take 63).length≤63:=by simp; omega
  have hcn:((ns.map D.int).take 63).length≤ns.length:=by simp; omega
  have hci : ∀ d∈(ns.map D.int).take 63, ∃ i,d=.int i:=by
    intro d hd
    obtain ⟨i, -,rfl⟩:=List.mem_map.mp (List.mem_of_mem_take hd)
    exact ⟨i,rfl⟩
  generalize (ns.map D.int).take 63=cs at hcut hcl hcn hci
  obtain ⟨st,t2,g1,g2,g3,g4⟩:=qG ns .no .no cs [] .no hci (by simp; omega) (fun q hq=>by cases hq)
  simp only [List.map_nil,List.length_nil,Nat.zero_add] at g1 g3
  have g4':iB st≤2 * cs.length:=by
    have:iB []=0:=by simp [iB,bu]
    omega
  have c1:=jK dw (fun q=>q.1) ceF st
  have hcap : ∀ a b c d e:Slot,dm 1 [] [a,b,c,d,e]=[.no]:=fun _ _ _ _ _=>rfl
  have hfm : ∀ p∈st.map (·.1),Fm 4 true p:=by
    intro p hp
    obtain ⟨q,hq,rfl⟩:=List.mem_map.mp hp
    exact ((g2 q hq).1.le (g2 q hq).2.2).tt
  have hwl:cnL (st.map (·.1))+(st.map (·.1)).length≤2 * cs.length:=by rw [List.length_map]; exact g4'
  have hsl:(st.map (·.1)).length=st.length:=by simp
  have hit:(st.map itm).length≤1000000:=by simp; omega
  generalize st.map (·.1)=PS at c1 hfm hwl hsl
  generalize st.map itm=ST at g1 c1 hit
  by_cases h0:PS=[]
  · subst h0
    refine ⟨.tup [.str [110,97,109,101],.str [120]], ?_,.name _ _ _ (by simp) (by simp) (by simp),by simp [cn,cnL,hdS]⟩
    simp only [bW,ak,cJ,envOf]
    simp [hcut,g1,hit,hcap,c1,ve]
  · have hne:=Fx PS [] (by simpa using h0)
    by_cases h1:PS.length=1
    · obtain ⟨p,rfl⟩ : ∃ p,PS=[p]:=by
        match PS,h1 with
        | [p],_=>exact ⟨p,rfl⟩
      refine ⟨p, ?_,(hfm p (by simp)).le (by omega), ?_⟩
      · simp only [bW,ak,cJ,envOf]
        simp [hcut,g1,hit,hcap,c1,hne]
      · rw [aW,bu] at hwl; omega
    · have hP2 : 2≤PS.length:=by
        have : 0<PS.length:=List.length_pos_iff.mpr h0
        omega
      have h1':((PS.length:Int) == 1)=false:=by simp; omega
      have hn2 : 2≤ns.length:=by omega
      obtain ⟨a,b,r,rfl⟩ : ∃ a b r,ns=a::b::r:=by
        match ns,hn2 with
        | a::b::r,_=>exact ⟨a,b,r,rfl⟩
      obtain ⟨y,hy⟩ : ∃ y:Int,(a::b::r)[r.length+1]?=some y:=⟨_,List.getElem?_eq_getElem (by simp)⟩
      have hat:atI ((a::b::r).map D.int) ((r.length:Int)+1)=some (.int y):=by
        have:=iN ((a::b::r).map D.int) (r.length+1)
        rw [List.getElem?_map,hy] at this
        exact this
      have m1:=i9 y 1099087573 (by decide)
      have m2:=wg 10 20 (by decide)
      have m3:=du (y * 1099087573) 100000000000000000000 (by decide)
      have m4:=du a 3 (by decide)
      generalize y * 1099087573 % 100000000000000000000=BY at m3
      obtain ⟨k,hk,hk3⟩:=fE a 3 (by decide)
      simp only [Int.cast_ofNat_Int] at hk
      rw [hk] at m4
      have hcs:k=0∨k=1∨k=2:=by omega
      have es:((r.length:Int)+1+1 - 1)=(r.length:Int)+1:=by omega
      simp only [List.map_cons] at hat hcut g1
      rcases hcs with rfl | rfl | rfl
      · obtain ⟨d,h1,h2,h3⟩:=iZ PS [101,118,101,110] BY hfm hP2 (by omega) (.inl rfl)
        refine ⟨d, ?_,h2,by omega⟩
        simp only [bW,ak,cJ,envOf]
        simp [hcut,g1,hit,hcap,c1,hne,h1',es,hat,m1,m2,m3,m4,h1]
      · obtain ⟨d,h1,h2,h3⟩:=iZ PS [115,117,109] BY hfm hP2 (by omega) (.inr (.inl rfl))
        refine ⟨d, ?_,h2,by omega⟩
        simp only [bW,ak,cJ,envOf]
        simp [hcut,g1,hit,hcap,c1,hne,h1',es,hat,m1,m2,m3,m4,h1]
      · obtain ⟨d,h1,h2,h3⟩:=iZ PS [116,105,109,101,115] BY hfm hP2 (by omega) (.inr (.inr rfl))
        refine ⟨d, ?_,h2,by omega⟩
        simp only [bW,ak,cJ,envOf]
        simp [hcut,g1,hit,hcap,c1,hne,h1',es,hat,m1,m2,m3,m4,h1]
theorem all_cons {P:D→Prop}{a:D}{as:List D}(h:P a)(hs : ∀ b∈as,P b) : ∀ b∈a::as,P b:=fun b hb=>by
  rcases List.mem_cons.mp hb with rfl | hb
  · exact h
  · exact hs b hb
theorem all_nil {P:D→Prop} : ∀ b∈([]:List D),P b:=fun b hb=>by cases hb
theorem pI (k:D)(r:List D):cutD (k::r) (some 1) none=r:=by
  have:=jB (k::r) 1
  simpa using this
theorem Ja (k a:D)(r:List D):cutD (k::a::r) (some 2) none=r:=by
  have:=jB (k::a::r) 2
  simpa using this
theorem x21:HT.sIx 2 0 (some 1)=1:=rfl
theorem x31:HT.sIx 3 0 (some 1)=1:=rfl
theorem x41:HT.sIx 4 0 (some 1)=1:=rfl
theorem x42:HT.sIx 4 0 (some 2)=2:=rfl
theorem lH (w:Nat) : ∀ bs:List (List D),(∀ b∈bs,b.length=w)→bs.flatten.length=bs.length * w
  | [],_=>by simp
  | b::bs,h=>by
    rw [List.flatten_cons,List.length_append,h b List.mem_cons_self,lH w bs fun c hc=>h c (List.mem_cons_of_mem _ hc),List.length_cons,Nat.succ_mul]; omega
theorem vy : ∀ qs:List D,(∀ q∈qs, ∃ l,q=.tup l)→aT (aJ 0) bQ bX [.no] qs=some qs
  | [],_=>rfl
  | q::qs,h=>by
    obtain ⟨l,rfl⟩:=h q List.mem_cons_self
    exact cw (e:=[.val (.tup l)]) (by simp) (by simp [bQ]) (by simp [bX]) (vy qs fun r hr=>h r (List.mem_cons_of_mem _ hr))
theorem nk (qs:List D)(r:List D)(h:aT (aJ 0) bQ bX [.no] qs=some r):aT (aJ 0) bQ bX [.no] (.non::qs)=some r :=
  qx (e:=[.val .non]) (by simp) (by simp [bQ]) h
theorem nq (l:List D)(qs:List D)(r:List D)(h:aT (aJ 0) bQ bX [.no] qs=some r):aT (aJ 0) bQ bX [.no] (.tup l::qs)=some (.tup l::r) :=
  cw (e:=[.val (.tup l)]) (by simp) (by simp [bQ]) (by simp [bX]) h
theorem oI (d:D) : ∀ (bs:List (List D)) (acc:List D) (s2:Slot),acc.length+bs.flatten.length≤1000→∃ t2,runFor (aJ 2) gG (bs.map .tup) [.val d,.own acc,s2]=some (.nx [.val d,.own (acc++bs.flatten),t2])
  | [],acc,s2,_=>⟨s2,by simp⟩
  | b::bs,acc,s2,hl=>by
    rw [List.flatten_cons,List.length_append] at hl
    have hl1:acc.length+b.length≤1000000:=by omega
    rw [List.map_cons,cm (e1:=[.val d,.own acc,.val (.tup b)]) (e2:=[.val d,.own (acc++b),.val (.tup b)]) (by simp) (by simp [gG,hl1])]
    obtain ⟨t2,q⟩:=oI d bs (acc++b) (.val (.tup b)) (by rw [List.length_append]; omega)
    exact ⟨t2,by simpa using q⟩
theorem tZ (bs:List (List D))(hl:bs.flatten.length≤100):ik [.tup (bs.map .tup)]=some bs.flatten:=by
  obtain ⟨t2,q⟩:=oI (.tup (bs.map .tup)) bs [] .no (by simp only [List.length_nil]; omega)
  simp only [List.nil_append] at q
  generalize bs.map D.tup=BB at q
  simp only [ik,br,jh,envOf]
  simp [q]
theorem jY (a x y:D)(r:List D)(hr:r.length≤10)(hc:aT (aJ 0) bQ bX [.no] [x,y]=some r):aH [.tup [.str [109,97,114,107,101,100],a,x,y]]=some (a::r):=by
  have hl : 1+r.length≤1000000:=by omega
  have hcap : ∀ a b:Slot,dm 1 [] [a,b]=[.no]:=fun _ _=>rfl
  simp only [aH,br,bo,envOf]
  simp [aw,Ja,x42,hc,hcap,hl]
def bf:D→Nat→Int
  | .tup (.str k::_),i=>if k=[101,118,101,110] then 1 else if k=[115,117,109] then 2 else if k=[116,105,109,101,115] then 3 else if k=[109,97,114,107,101,100]∧i=0 then 4 else 0
  | _,_=>0
def fq:D→Bool
  | .tup (.str k::_)=>k == [116,97,98,108,101]
  | _=>false
theorem mq (d:D) : 0≤lev d:=by
  unfold lev
  split
  · repeat (split; omega)
    omega
  · omega
theorem vz (ps:List D)(d:D)(l:Int)(hl : ∀ i,bf d i=l)(h : ∀ p∈ps,l≤lev p) : ∀ (i:Nat) (x:D),ps[i]?=some x→bf d i≤lev x:=fun i x hx=>by
  rw [hl i]; exact h x (List.mem_of_getElem? hx)
theorem rX (a:D)(ps:List D)(d:D)(h0:bf d 0=4)(hs : ∀ i,bf d (i+1)=0)(h : 4≤lev a) : ∀ (i:Nat) (x:D),(a::ps)[i]?=some x→bf d i≤lev x
  | 0,x,hx=>by
    have:a=x:=by simpa using hx
    subst this; rw [h0]; exact h
  | i+1,x,hx=>by rw [hs i]; exact mq x
mutual
def dp:D→Nat
  | .tup ds=>hdS ds+dpL ds
  | _=>0
def dpL:List D→Nat
  | []=>0
  | d::ds=>max (dp d) (dpL ds)
end
theorem fc:dpL []=0:=by simp [dpL]
theorem cV (d:D)(ds:List D):dpL (d::ds)=max (dp d) (dpL ds):=by simp [dpL]
theorem gz (ds:List D):dp (.tup ds)=hdS ds+dpL ds:=by simp [dp]
theorem gW (z:List Nat):dp (.str z)=0:=by simp [dp]
theorem G5 (z:Int):dp (.int z)=0:=by simp [dp]
theorem Aq:dp .non=0:=by simp [dp]
theorem wC : ∀ a b:List D,dpL (a++b)=max (dpL a) (dpL b)
  | [],b=>by simp [dpL]
  | x::a,b=>by rw [List.cons_append,cV,cV,wC a b]; omega
structure Pt (n:Nat)(t:Bool)(d:D)(ps:List D):Prop where
  b:aH [d]=some ps
  fm : ∀ p∈ps,Fm n t p
  cn:cn d=1+cnL ps
  dp:dp d=1+dpL ps
  len:ps.length≤81
  lv : ∀ (i:Nat) (x:D),ps[i]?=some x→bf d i≤lev x
  tab:fq d=true→∀ p∈ps,Fm n false p
theorem u0 {n:Nat}{t:Bool}{d:D}(h:Fm (n+1) t d) : ∃ ps,Pt n t d ps:=by
  have hcap : ∀ a b:Slot,dm 1 [] [a,b]=[.no]:=fun _ _=>rfl
  cases h with
  | name _ _ w=>exact ⟨[],by simp [aH,br,bo,envOf],by simp,by simp only [cB,aW,bu,cF,bj],by simp only [gz,cV,fc,gW,bj]; rfl,by simp,by simp,by simp⟩
  | num _ _ i=>exact ⟨[],by simp [aH,br,bo,envOf],by simp,by simp only [cB,aW,bu,cF,G4,bj],by simp only [gz,cV,fc,gW,G5,bj]; rfl,by simp,by simp,by simp⟩
  | ju _ _ ps h1 h2 h3 h4=>exact ⟨ps,by simp [aH,br,bo,envOf,aw],h1,by simp only [cB,aW,bu,cF,bj,ix h1]; omega,by simp only [gz,cV,fc,gW,bj,ix h1]; omega,by omega,vz _ _ 1 (fun _=>rfl) h2,fun h=>by cases h⟩
  | sum _ _ ps z h1 h2 h3 h4 h5 h6=>exact ⟨ps,by simp [aH,br,bo,envOf,aw],h1,by simp only [cB,aW,bu,cF,bj,ix h1]; omega,by simp only [gz,cV,fc,gW,bj,ix h1]; omega,by omega,vz _ _ 2 (fun _=>rfl) h2,fun h=>by cases h⟩
  | times _ _ ps h1 h2 h3 h4=>exact ⟨ps,by simp [aH,br,bo,envOf,aw],h1,by simp only [cB,aW,bu,cF,bj,ix h1]; omega,by simp only [gz,cV,fc,gW,bj,ix h1]; omega,by omega,vz _ _ 3 (fun _=>rfl) h2,fun h=>by cases h⟩
  | over _ _ a b h1 h2=>exact ⟨[a,b],by simp [aH,br,bo,envOf,aw,pI,x31],all_cons h1 (all_cons h2 all_nil),by simp only [cB,aW,bu,cF,bj]; omega,by simp only [gz,cV,fc,gW,bj]; omega,by simp,fun i x _=>mq x,fun h=>by cases h⟩
  | root _ _ a h1 =>
    obtain ⟨l,rfl⟩:=h1.tup
    exact ⟨[.tup l],by simp [aH,br,bo,envOf,aw,pI,x21],all_cons h1 all_nil,by simp only [cB,aW,bu,cF,bj]; omega,by simp only [gz,cV,fc,gW,bj]; omega,by simp,fun i x _=>mq x,fun h=>by cases h⟩
  | held _ _ a h1 =>
    obtain ⟨l,rfl⟩:=h1.tup
    exact ⟨[.tup l],by simp [aH,br,bo,envOf,aw,pI,x21],all_cons h1 all_nil,by simp only [cB,aW,bu,cF,bj]; omega,by simp only [gz,cV,fc,gW,bj]; omega,by simp,fun i x _=>mq x,fun h=>by cases h⟩
  | markB _ _ a r l h1 hl h2 h3=>exact ⟨[a,r,l],jY a r l [r,l] (by simp) (vy [r,l] (all_cons h2.tup (all_cons h3.tup all_nil))),all_cons h1 (all_cons h2 (all_cons h3 all_nil)),by simp only [cB,aW,bu,cF,bj]; omega,by simp only [gz,cV,fc,gW,bj]; omega,by simp,rX a [r,l] _ rfl (fun i=>by simp [bf]) hl,fun h=>by cases h⟩
  | fj _ _ a r h1 hl h2 =>
    obtain ⟨z,rfl⟩:=h1.tup
    obtain ⟨z2,rfl⟩:=h2.tup
    exact ⟨[.tup z,.tup z2],jY _ _ _ [.tup z2] (by simp) (nq _ _ _ (nk _ _ rfl)),all_cons h1 (all_cons h2 all_nil),by simp only [cB,aW,bu,cF,rW,bj]; omega,by simp only [gz,cV,fc,gW,Aq,bj]; omega,by simp,rX _ _ _ rfl (fun i=>by simp [bf]) hl,fun h=>by cases h⟩
  | markL _ _ a l h1 hl h2 =>
    obtain ⟨z,rfl⟩:=h1.tup
    obtain ⟨z2,rfl⟩:=h2.tup
    exact ⟨[.tup z,.tup z2],jY _ _ _ [.tup z2] (by simp) (nk _ _ (nq _ _ _ rfl)),all_cons h1 (all_cons h2 all_nil),by simp only [cB,aW,bu,cF,rW,bj]; omega,by simp only [gz,cV,fc,gW,Aq,bj]; omega,by simp,rX _ _ _ rfl (fun i=>by simp [bf]) hl,fun h=>by cases h⟩
  | table _ bs w h1 h2 h3 h4 h5 h6 =>
    have hfl:=lH w bs h5
    have hml:bs.length * w≤9 * 9:=Nat.mul_le_mul h2 h4
    have hco:=tZ bs (by omega)
    refine ⟨bs.flatten, ?_,fun p hpm=>?_, ?_, ?_,by omega,fun i x _=>mq x,fun _ p hpm=>?_⟩
    · generalize bs.map D.tup=BB at hco
      simp [aH,br,bo,envOf,aw,hco]
    · obtain ⟨b,hbm,hpb⟩:=List.mem_flatten.mp hpm
      exact (h6 b hbm p hpb).tt
    · have : ∀ bs:List (List D),(∀ b∈bs, ∀ p∈b,Fm n false p)→cnL (bs.map .tup)=cnL bs.flatten:=by
        intro bs
        induction bs with
        | nil=>simp [bu]
        | cons b r ih =>
          intro hb
          rw [List.flatten_cons,lG,List.map_cons,aW,cB,ix (hb b List.mem_cons_self),ih fun c hc=>hb c (List.mem_cons_of_mem _ hc)]; omega
      have:=this bs h6
      simp only [cB,aW,bu,cF,bj,oC]; omega
    · have : ∀ bs:List (List D),(∀ b∈bs, ∀ p∈b,Fm n false p)→dpL (bs.map .tup)=dpL bs.flatten:=by
        intro bs
        induction bs with
        | nil=>simp [fc]
        | cons b r ih =>
          intro hb
          rw [List.flatten_cons,wC,List.map_cons,cV,gz,ix (hb b List.mem_cons_self),ih fun c hc=>hb c (List.mem_cons_of_mem _ hc)]; omega
      have:=this bs h6
      simp only [gz,cV,fc,gW,bj,oC]; omega
    · obtain ⟨b,hbm,hpb⟩:=List.mem_flatten.mp hpm
      exact h6 b hbm p hpb
theorem jL {n:Nat}{t:Bool}{d:D}(h:Fm n t d):bK [d]=some (.int (lev d)):=by
  cases h <;> (simp [bK,ak,il,envOf,uW,hV]; rfl)
theorem mr (P:Nat→Bool)(fe:FE)(h : ∀ x,fe [.val (.str [x])]=some (.bl (P x))) : ∀ w:List Nat,aT (aJ 0) cH fe [.no] (w.map fun x=>.str [x])=some ((w.map P).map .bl)
  | []=>rfl
  | x::w=>cw (e:=[.val (.str [x])]) (by simp) rfl (h x) (mr P fe h w)
theorem rY (bs:List Bool):sV (.lst (bs.map .bl))=some (.bl (bs.all id)):=by
  show (iD _).map _=_
  rw [mn]; rfl
theorem lI (bs:List Bool):rE (.lst (bs.map .bl))=some (.bl (bs.any id)):=by
  show (iD _).map _=_
  rw [mn]; rfl
noncomputable def gX (x:Nat):Bool:=[97,98,99,100,101,102,103,104,105,106,107,108,109,110,111,112,113,114,115,116,117,118,119,120,121,122].contains x
theorem As (x:Nat):gh [.val (.str [x])]=some (.bl (gX x)):=by
  simp only [gh,cX,gX]
  simp only [rF,jS,uX,List.getElem?_cons_zero,jR,dj,oo]
  rfl
theorem qH (x:Nat)(h : 97≤x∧x≤122):gX x=true:=by
  have : ∀ j<26,gX (97+j)=true:=by decide
  have:=this (x - 97) (by omega)
  rwa [show 97+(x - 97)=x by omega] at this
theorem oJ (w:List Nat)(hw:w.length≤1000000):hZ [.str w]=some (.bl (decide (1≤w.length∧w.length≤8) && w.all gX)):=by
  have hc:=mr gX gh As w
  have hs:rA (.str w)=some (w.map fun x=>.str [x]):=if_pos hw
  have ha:=rY (w.map gX)
  have hcap : ∀ a:Slot,dm 1 [] [a]=[.no]:=fun _=>rfl
  have e:(w.map gX).all id=w.all gX:=by rw [List.all_map]; rfl
  rw [e] at ha
  generalize (w.map gX).map D.bl=T at hc ha
  by_cases h1 : 1≤w.length∧w.length≤8
  · have h2:(1:Int)≤w.length:=by omega
    have h3:(w.length:Int)≤8:=by omega
    simp only [hZ,ak,iU,envOf,cT]
    simp [hs,hc,ha,hcap,hw,h1,h2,h3]
  · simp only [hZ,ak,iU,envOf,cT]
    by_cases h2:(1:Int)≤w.length
    · have h3 : ¬ (w.length:Int)≤8:=by omega
      have h3' : ¬ w.length≤8:=by omega
      simp [hw,h2,h3,h3']
    · have h2' : ¬ 1≤w.length:=by omega
      simp [hw,h2,h2']
theorem qI (i:Int):d6 [.int i]=some (.bl (decide (0≤i∧i≤999999999))):=by
  have ei:(Ty.bool == Ty.int)=false:=rfl
  have ej:(Ty.int == Ty.bool)=false:=rfl
  simp only [d6,ak,ek,envOf,cD]
  by_cases h1 : 0≤i
  · by_cases h2:i≤999999999
    · simp [ei,ej,h1,h2]
    · simp [ei,ej,h1,h2]
  · simp [ei,ej,h1]
theorem dE (ds:List D)(a b:Int):d7 [.tup ds,.int a,.int b]=some (.bl (decide (a≤ds.length) && decide ((ds.length:Int)≤b))):=by
  simp only [d7,ak,hJ,envOf]
  by_cases h1:a≤ds.length
  · simp [h1]
  · simp [h1]
noncomputable def pmB (x:Nat):Bool:=[43,45].contains x
theorem Jb (x:Nat):eB [.val (.str [x])]=some (.bl (pmB x)):=by
  simp only [eB,pmB]
  simp only [rF,jS,uX,List.getElem?_cons_zero,jR,dj,oo]
  rfl
theorem u9 (z:List Nat)(hz:z.length≤1000000)(n:Int):gQ [.str z,.int n]=some (.bl (decide ((z.length:Int)=n) && z.all pmB)):=by
  have hc:=mr pmB eB Jb z
  have hs:rA (.str z)=some (z.map fun x=>.str [x]):=if_pos hz
  have ha:=rY (z.map pmB)
  have hcap : ∀ a b:Slot,dm 1 [] [a,b]=[.no]:=fun _ _=>rfl
  have e:(z.map pmB).all id=z.all pmB:=by rw [List.all_map]; rfl
  rw [e] at ha
  generalize (z.map pmB).map D.bl=T at hc ha
  simp only [gQ,ak,iH,envOf]
  by_cases h:(z.length:Int)=n
  · subst h
    simp [hs,hc,ha,hcap,hz]
  · have h':((z.length:Int) == n)=false:=beq_eq_false_iff_ne.mpr h
    simp [hz,h,h']
theorem xX (bs:List (List D))(w:Nat)(hw1 : 1≤w)(hw9:w≤9):(∀ b∈bs,b.length=w)→aT (aJ 0) cH gi [.no] (bs.map .tup)=some ((bs.map fun _=>true).map .bl):=by
  intro h
  induction bs with
  | nil=>rfl
  | cons b bs ih =>
    have hb:=h b List.mem_cons_self
    have e:=dE b 1 9
    rw [hb] at e
    have e1:decide ((1:Int)≤(w:Nat))=true:=by simp; omega
    have e2:decide (((w:Nat):Int)≤9)=true:=by simp; omega
    rw [e1,e2] at e
    exact cw (e:=[.val (.tup b)]) (by simp) rfl (by simp [gi,bR,e]) (ih fun c hc=>h c (List.mem_cons_of_mem _ hc))
theorem xY (D0:D)(b0:List D)(r:List D)(hD0:D0=.tup (.tup b0::r))(w:Nat)(hb0:b0.length=w)(bs:List (List D)):(∀ b∈bs,b.length=w)→aT (aJ 0) cH gj [.no,.val D0] (bs.map .tup)=some ((bs.map fun _=>true).map .bl):=by
  intro h
  subst hD0
  induction bs with
  | nil=>rfl
  | cons b bs ih =>
    have hb:=h b List.mem_cons_self
    exact cw (e:=[.val (.tup b),.val (.tup (.tup b0::r))]) (by simp) rfl (by simp [gj,hb,hb0]) (ih fun c hc=>h c (List.mem_cons_of_mem _ hc))
theorem ua (bs:List (List D))(w:Nat)(h1 : 1≤bs.length)(h2:bs.length≤9)(h3 : 1≤w)(h4:w≤9)(h5 : ∀ b∈bs,b.length=w):gP [.tup (bs.map .tup)]=some (.bl true):=by
  obtain ⟨b0,r,rfl⟩ : ∃ a b,bs=a::b:=by
    cases bs with
    | nil=>simp at h1
    | cons a b=>exact ⟨a,b,rfl⟩
  have e0:=dE ((b0::r).map .tup) 1 9
  rw [List.length_map] at e0
  have e1:decide ((1:Int)≤((b0::r).length:Nat))=true:=by simp only [decide_eq_true_eq]; omega
  have e2:decide ((((b0::r).length:Nat):Int)≤9)=true:=by simp only [decide_eq_true_eq]; omega
  rw [e1,e2] at e0
  have c1:=xX (b0::r) w h3 h4 h5
  have c2:=xY (.tup ((b0::r).map .tup)) b0 (r.map .tup) rfl w (h5 b0 List.mem_cons_self) (b0::r) h5
  have ha:=rY ((b0::r).map fun _=>true)
  have ha2:((b0::r).map fun _=>true).all id=true:=by simp
  rw [ha2] at ha
  have hcap0 : ∀ a:Slot,dm 1 [] [a]=[.no]:=fun _=>rfl
  have hcap1 : ∀ a:Slot,dm 1 [0] [a]=[.no,a]:=fun _=>rfl
  have hl:((b0::r).map D.tup).length≤1000000:=by rw [List.length_map]; omega
  generalize (b0::r).map D.tup=B at *
  generalize ((b0::r).map fun _=>true).map D.bl=T at *
  simp only [gP,ak,iG,envOf,bR]
  simp [e0,c1,c2,ha,hcap0,hcap1,hl]
theorem qJ:dC [110,97,109,101] bT=some 2:=rfl
theorem mL:dC [110,117,109,98,101,114] bT=some 2:=rfl
theorem qK:dC [101,118,101,110] bT=some 2:=rfl
theorem ub:dC [115,117,109] bT=some 3:=rfl
theorem oK:dC [116,105,109,101,115] bT=some 2:=rfl
theorem qL:dC [111,118,101,114] bT=some 3:=rfl
theorem qM:dC [114,111,111,116] bT=some 2:=rfl
theorem fR:dC [109,97,114,107,101,100] bT=some 4:=rfl
theorem qN:dC [104,101,108,100] bT=some 2:=rfl
theorem oM:dC [116,97,98,108,101] bT=some 2:=rfl
theorem Au {n:Nat}{t:Bool}{d:D}(h:Fm n t d):aM [d]=some (.bl true):=by
  cases h with
  | name _ _ w h1 h2 h3 =>
    have hw:=oJ w (by omega)
    have e:(decide (1≤w.length∧w.length≤8) && w.all gX)=true:=by
      rw [decide_eq_true ⟨h1,h2⟩,Bool.true_and,List.all_eq_true]
      exact fun x hx=>qH x (h3 x hx)
    rw [e] at hw
    simp [aM,ak,aS,envOf,qJ,hw]
  | num _ _ i h1 h2 =>
    have hw:=qI i
    rw [decide_eq_true ⟨h1,h2⟩] at hw
    simp [aM,ak,aS,envOf,mL,hw]
  | ju _ _ ps h1 h2 h3 h4 =>
    have hw:=dE ps 2 80
    rw [decide_eq_true (show (2:Int)≤ps.length by omega),decide_eq_true (show (ps.length:Int)≤80 by omega)] at hw
    simp [aM,ak,aS,envOf,qK,hw,aw,cj]
  | sum _ _ ps z h1 h2 h3 h4 h5 h6 =>
    have hw:=dE ps 2 80
    rw [decide_eq_true (show (2:Int)≤ps.length by omega),decide_eq_true (show (ps.length:Int)≤80 by omega)] at hw
    have hz:=u9 z (by omega) ((ps.length:Int) - 1)
    have e:z.all pmB=true:=by
      rw [List.all_eq_true]
      intro x hx
      rcases h6 x hx with rfl | rfl <;> rfl
    rw [decide_eq_true (show (z.length:Int)=(ps.length:Int) - 1 by omega),e] at hz
    simp [aM,ak,aS,envOf,ub,hw,hz,aw,cj]
  | times _ _ ps h1 h2 h3 h4 =>
    have hw:=dE ps 2 80
    rw [decide_eq_true (show (2:Int)≤ps.length by omega),decide_eq_true (show (ps.length:Int)≤80 by omega)] at hw
    simp [aM,ak,aS,envOf,oK,hw,aw,cj]
  | over _ _ a b h1 h2=>simp [aM,ak,aS,envOf,qL,aw]
  | root _ _ a h1=>simp [aM,ak,aS,envOf,qM,aw]
  | held _ _ a h1=>simp [aM,ak,aS,envOf,qN,aw]
  | markB _ _ a r l h1 _ h2 h3 =>
    obtain ⟨z,rfl⟩:=h2.tup
    simp [aM,ak,aS,envOf,fR,aw]
  | fj _ _ a r h1 _ h2 =>
    obtain ⟨z,rfl⟩:=h2.tup
    simp [aM,ak,aS,envOf,fR,aw]
  | markL _ _ a l h1 _ h2 =>
    obtain ⟨z,rfl⟩:=h2.tup
    simp [aM,ak,aS,envOf,fR,aw]
  | table _ bs w h1 h2 h3 h4 h5 h6 =>
    have hb:=ua bs w h1 h2 h3 h4 h5
    generalize bs.map D.tup=B at hb
    simp [aM,ak,aS,envOf,oM,aw,hb]
theorem Av {n:Nat}{t:Bool}{d:D}(h:Fm n t d)(i:Nat):aR [d,.int i]=some (.int (bf d i)):=by
  have hl:=jL h
  cases h with
  | markB _ _ a r l h1 _ h2 h3=>cases i with
    | zero=>simp [aR,ak,bB,envOf,aw,bf]
    | succ i =>
      have e:((i:Int)+1 == 0)=false:=beq_eq_false_iff_ne.mpr (by omega)
      simp [aR,ak,bB,envOf,aw,bf,e]
  | fj _ _ a r h1 _ h2=>cases i with
    | zero=>simp [aR,ak,bB,envOf,aw,bf]
    | succ i =>
      have e:((i:Int)+1 == 0)=false:=beq_eq_false_iff_ne.mpr (by omega)
      simp [aR,ak,bB,envOf,aw,bf,e]
  | markL _ _ a l h1 _ h2=>cases i with
    | zero=>simp [aR,ak,bB,envOf,aw,bf]
    | succ i =>
      have e:((i:Int)+1 == 0)=false:=beq_eq_false_iff_ne.mpr (by omega)
      simp [aR,ak,bB,envOf,aw,bf,e]
  | _=>simp [aR,ak,bB,envOf,aw,bf,hl,lev]
theorem lJ (DN:List D→Option D)(b:Bool) : ∀ ps:List D,(∀ p∈ps,DN [p]=some (.bl b))→aT (aJ 0) cH (aC 1 DN (ah (ae 0) ay)) [.no] ps=some ((ps.map fun _=>b).map .bl)
  | [],_=>rfl
  | p::ps,h=>cw (e:=[.val p]) (by simp) rfl (by simp [h p List.mem_cons_self]) (lJ DN b ps fun q hq=>h q (List.mem_cons_of_mem _ hq))
theorem any_false (ps:List D):(ps.map fun _=>false).any id=false:=by
  induction ps with
  | nil=>rfl
  | cons _ _ ih=>simpa using ih
theorem lK : ∀ (n m:Nat) (d:D),Fm n false d→n≤m→aD m [d]=some (.bl false)
  | 0,m,d,h,_=>by cases h
  | n+1,0,d,h,hm=>by omega
  | n+1,m+1,d,h,hm=>by
    obtain ⟨ps,p⟩:=u0 h
    have hc:=lJ (aD m) false ps (fun q hq=>lK n m q (p.fm q hq) (by omega))
    have ha:=lI (ps.map fun _=>false)
    rw [any_false] at ha
    have hcap : ∀ a:Slot,dm 1 [] [a]=[.no]:=fun _=>rfl
    have hl:ps.length≤1000000:=by have:=p.len; omega
    have pb:=p.b
    generalize (ps.map fun _=>false).map D.bl=T at hc ha
    have : ∃ k r,d=.tup (.str k::r)∧(k == [116,97,98,108,101])=false:=by cases h <;> exact ⟨_,_,rfl,rfl⟩
    obtain ⟨k,r,rfl,hk⟩:=this
    simp only [aD,ak,fC,envOf]
    simp [hk,pb,hl,hcap,hc,ha]
theorem kU (H:List D→Option D)(d:D)(ps:List D)(hH : ∀ p∈ps,H [p]=some (.bl true))(hlv : ∀ p∈ps,bK [p]=some (.int (lev p)))(hle : ∀ i:Nat,aR [d,.int i]=some (.int (bf d i)))(hok : ∀ (i:Nat) (x:D),ps[i]?=some x→bf d i≤lev x) :
    ∀ (rest:List D) (i:Nat) (s2 s3:Slot),ps.drop i=rest→∃ t2 t3,runFor (nO [2,3]) (bN (jy (fK (ftB (aC 1 H (ah (ae 3) ay)))) (ftB (fp2 (intD ltI) (aC 1 bK (ah (ae 3) ay)) (aC 2 aR (ah (ae 0) (ah (ae 2) ay)))))) (aK (feC (.bl false))) aP) (qw i rest) [.val d,.val (.lst ps),s2,s3]=some (.nx [.val d,.val (.lst ps),t2,t3])
  | [],i,s2,s3,_=>⟨s2,s3,rfl⟩
  | p::rest,i,s2,s3,hd=>by
    have hi:i<ps.length:=by
      have:=congrArg List.length hd
      simp at this; omega
    have hx:ps[i]?=some p:=by
      have:=congrArg (fun l=>l[0]?) hd
      simpa using this
    have hd':ps.drop (i+1)=rest:=by
      rw [List.drop_eq_getElem_cons hi] at hd
      exact (List.cons.inj hd).2
    have hm:=List.mem_of_getElem? hx
    have h1:=hH p hm
    have h2:=hlv p hm
    have h3:=hle i
    have h4:=hok i p hx
    have h5 : ¬ lev p<bf d i:=by omega
    rw [kQ,cm (e1:=[.val d,.val (.lst ps),.val (.int i),.val p]) (e2:=[.val d,.val (.lst ps),.val (.int i),.val p]) (by simp) (by simp [h1,h2,h3,h5])]
    exact kU H d ps hH hlv hle hok rest (i+1) _ _ hd'
theorem nr : ∀ (n m:Nat) (t:Bool) (d:D),Fm n t d→n≤m→n≤16→bz m [d]=some (.bl true)
  | 0,m,t,d,h,_,_=>by cases h
  | n+1,0,t,d,h,hm,_=>by omega
  | n+1,m+1,t,d,h,hm,h16=>by
    obtain ⟨ps,p⟩:=u0 h
    have hs:=Au h
    obtain ⟨t2,t3,hlp⟩:=kU (bz m) d ps (fun q hq=>nr n m t q (p.fm q hq) (by omega) (by omega)) (fun q hq=>jL (p.fm q hq)) (Av h) p.lv ps 0 .no .no rfl
    have hcap : ∀ a b c d:Slot,dm 1 [] [a,b,c,d]=[.no]:=fun _ _ _ _=>rfl
    have hl:ps.length≤1000000:=by have:=p.len; omega
    have pb:=p.b
    have ptab:=p.tab
    have : ∃ k r,d=.tup (.str k::r):=by cases h <;> exact ⟨_,_,rfl⟩
    obtain ⟨k,r,rfl⟩:=this
    simp only [bz,ak,gy,envOf]
    by_cases hk:k=[116,97,98,108,101]
    · have hc:=lJ (aD 16) false ps (fun q hq=>lK n 16 q (ptab (by rw [hk]; rfl) q hq) (by omega))
      have ha:=lI (ps.map fun _=>false)
      rw [any_false] at ha
      generalize (ps.map fun _=>false).map D.bl=T at hc ha
      subst hk
      simp [hs,pb,n8,hlp,hl,hcap,hc,ha]
    · have hk':(k == [116,97,98,108,101])=false:=by simpa using hk
      simp [hs,pb,n8,hlp,hk']
inductive Each (P:D→Int→Prop):List D→List Int→Prop
  | nil:Each P [] []
  | cons {q:D} {c:Int} {qs:List D} {cs:List Int}:P q c→Each P qs cs→Each P (q::qs) (c::cs)
theorem oN (DN:List D→Option D)(P:D→Int→Prop) : ∀ ps:List D,(∀ p∈ps, ∃ c:Int,DN [p]=some (.int c)∧P p c) →
    ∃ is:List Int,aT (aJ 0) cH (aC 1 DN (ah (ae 0) ay)) [.no] ps=some (is.map .int)∧is.length=ps.length∧Each P ps is
  | [],_=>⟨[],rfl,rfl,.nil⟩
  | p::ps,h=>by
    obtain ⟨c,h1,h3⟩:=h p List.mem_cons_self
    obtain ⟨is,g1,g3,g4⟩:=oN DN P ps fun q hq=>h q (List.mem_cons_of_mem _ hq)
    exact ⟨c::is,cw (e:=[.val p]) (by simp) rfl (by simp [h1]) g1,by simp [g3],.cons h3 g4⟩
theorem uc {P:D→Int→Prop}{ps:List D}{is:List Int}(h:Each P ps is) : ∀ i∈is, ∃ p∈ps,P p i:=by
  induction h with
  | nil=>intro i hi; cases hi
  | cons h1 _ ih =>
    intro i hi
    rcases List.mem_cons.mp hi with rfl | hi
    · exact ⟨_,List.mem_cons_self,h1⟩
    · obtain ⟨p,hp,h⟩:=ih i hi
      exact ⟨p,List.mem_cons_of_mem _ hp,h⟩
theorem ud : ∀ (n m:Nat) (t:Bool) (d:D),Fm n t d→n≤m→∃ c:Int,fN m [d]=some (.int c)∧c≤n
  | 0,m,t,d,h,_=>by cases h
  | n+1,0,t,d,h,hm=>by omega
  | n+1,m+1,t,d,h,hm=>by
    obtain ⟨ps,p⟩:=u0 h
    obtain ⟨is,g1,g3,g4⟩:=oN (fN m) (fun _ c=>c≤n) ps (fun q hq=>ud n m t q (p.fm q hq) (by omega))
    obtain ⟨M,hM,hMn⟩ : ∃ M:Int,nW (.lst (is.map .int)) (.int 0)=some (.int M)∧M≤n:=by
      have jx : ∀ i∈is,i≤(n:Int):=fun i hi=>(uc g4 i hi).elim fun _ h=>h.2
      clear g1 g3 g4
      show ∃ M,(intsOf (is.map D.int)).bind _=_∧_
      rw [kS]
      cases is with
      | nil=>exact ⟨0,rfl,by omega⟩
      | cons i r=>exact ⟨kJ i r,rfl,jx _ (lA r i)⟩
    have hcap : ∀ a:Slot,dm 1 [] [a]=[.no]:=fun _=>rfl
    have hl:ps.length≤1000000:=by have:=p.len; omega
    have pb:=p.b
    refine ⟨1+M, ?_,by omega⟩
    simp only [fN,ak,ji,envOf]
    simp [pb,hl,hcap,g1,hM]
theorem Aw {q:D}{ps:List D}(hq:q∈ps):cn q≤cnL ps:=by
  obtain ⟨a,b,rfl⟩:=List.append_of_mem hq
  rw [lG,aW]; omega
theorem ue : ∀ (n m:Nat) (t:Bool) (d:D),Fm n t d→n≤m→cn d≤100000→fO m [d]=some (.int (cn d))
  | 0,m,t,d,h,_,_=>by cases h
  | n+1,0,t,d,h,hm,_=>by omega
  | n+1,m+1,t,d,h,hm,hw=>by
    obtain ⟨ps,p⟩:=u0 h
    have hpc:=p.cn
    obtain ⟨is,g1,g3,g4⟩:=oN (fO m) (fun q c=>c=(cn q:Nat)) ps (fun q hq=>⟨_,ue n m t q (p.fm q hq) (by omega) (by have:=Aw hq; omega),rfl⟩)
    have hsum:is.sum=(cnL ps:Nat)∧∀ i∈is,0≤i∧i≤100000:=by
      refine ⟨?_,fun i hi=>?_⟩
      · clear g1 g3 hpc p
        induction g4 with
        | nil=>simp [bu]
        | cons hc _ ih=>rw [List.sum_cons,aW,hc,ih]; simp
      · obtain ⟨q,hq,h⟩:=uc g4 i hi
        have:=Aw hq; omega
    have hsd:zi (.lst (is.map .int))=some (.int is.sum):=by
      show (intsOf (is.map D.int)).bind _=_
      rw [kS]
      show (if _ then _ else _)=_
      have hpl:=p.len
      rw [if_pos ⟨by omega,List.all_eq_true.mpr fun i hi=>by have:=hsum.2 i hi; simp; omega⟩]
    have hcap : ∀ a:Slot,dm 1 [] [a]=[.no]:=fun _=>rfl
    have hl:ps.length≤1000000:=by have:=p.len; omega
    have pb:=p.b
    rw [hsum.1] at hsd
    have hci:(cn d:Int)=1+(cnL ps:Nat):=by omega
    rw [hci]
    simp only [fO,ak,jj,envOf]
    simp [pb,hl,hcap,g1,hsd]
theorem rZ {n:Nat}{t:Bool}{d:D}(h:Fm n t d)(hn:n≤12)(hc:cn d≤300):dS [d]=some (.bl true):=by
  have h1:=nr n 16 t d h (by omega) (by omega)
  obtain ⟨c,h2,h3⟩:=ud n 16 t d h (by omega)
  have h4:=ue n 16 t d h (by omega) (by omega)
  have e1:c≤12:=by omega
  have e2:(cn d:Int)≤300:=by omega
  simp only [dS,ak,gk,envOf,eV,eW]
  simp [h1,h2,h4,e1,e2,hc]
theorem oO (f:D→D→Option Bool) : ∀ as:List D,(∀ a∈as,f a a=some true)→eqZ f as as=some true
  | [],_=>rfl
  | a::as,h=>by
    show ((f a a).bind fun x=>(eqZ f as as).map fun y=>x && y)=_
    rw [h a List.mem_cons_self,oO f as fun b hb=>h b (List.mem_cons_of_mem _ hb)]; rfl
theorem dk (m:Nat)(as:List D)(h : ∀ a∈as,eqN m a a=some true):eqN (m+1) (.tup as) (.tup as)=some true:=by
  show (eqZ (eqN m) as as).map (fun r=>r && as.length == as.length)=_
  rw [oO _ as h]; simp
theorem Ax (m:Nat)(as:List D)(h : ∀ a∈as,eqN m a a=some true):eqN (m+1) (.lst as) (.lst as)=some true:=by
  show (if as.length=as.length then eqZ (eqN m) as as else some false)=_
  rw [if_pos rfl]; exact oO _ as h
theorem cG (m:Nat)(z:List Nat):eqN (m+1) (.str z) (.str z)=some true:=by simp
theorem nu (m:Nat)(z:Int):eqN (m+1) (.int z) (.int z)=some true:=by simp
theorem wD (m:Nat):eqN (m+1) .non .non=some true:=rfl
theorem Fm.eq {n:Nat}{t:Bool}{d:D}(h:Fm n t d) : ∀ j,eqN (3 * n+1+j) d d=some true:=by
  induction h with
  | name n t w _ _ _=>intro j; rw [show 3 * (n+1)+1+j=(3 * n+2+j)+1+1 by omega]; exact dk _ _ (all_cons (cG _ _) (all_cons (cG _ _) all_nil))
  | num n t i _ _=>intro j; rw [show 3 * (n+1)+1+j=(3 * n+2+j)+1+1 by omega]; exact dk _ _ (all_cons (cG _ _) (all_cons (nu _ _) all_nil))
  | ju n t ps _ _ _ _ ih=>intro j; rw [show 3 * (n+1)+1+j=(3 * n+1+(j+1))+1+1 by omega]; exact dk _ _ (all_cons (cG _ _) (all_cons (dk _ _ fun p hp=>ih p hp (j+1)) all_nil))
  | sum n t ps z _ _ _ _ _ _ ih=>intro j; rw [show 3 * (n+1)+1+j=(3 * n+1+(j+1))+1+1 by omega]; exact dk _ _ (all_cons (cG _ _) (all_cons (dk _ _ fun p hp=>ih p hp (j+1)) (all_cons (cG _ _) all_nil)))
  | times n t ps _ _ _ _ ih=>intro j; rw [show 3 * (n+1)+1+j=(3 * n+1+(j+1))+1+1 by omega]; exact dk _ _ (all_cons (cG _ _) (all_cons (dk _ _ fun p hp=>ih p hp (j+1)) all_nil))
  | over n t a b _ _ i1 i2=>intro j; rw [show 3 * (n+1)+1+j=(3 * n+1+(j+2))+1 by omega]; exact dk _ _ (all_cons (cG (3 * n+2+j) _) (all_cons (i1 _) (all_cons (i2 _) all_nil)))
  | root n t a _ i1=>intro j; rw [show 3 * (n+1)+1+j=(3 * n+1+(j+2))+1 by omega]; exact dk _ _ (all_cons (cG (3 * n+2+j) _) (all_cons (i1 _) all_nil))
  | held n t a _ i1=>intro j; rw [show 3 * (n+1)+1+j=(3 * n+1+(j+2))+1 by omega]; exact dk _ _ (all_cons (cG (3 * n+2+j) _) (all_cons (i1 _) all_nil))
  | markB n t a r l _ _ _ _ i1 i2 i3=>intro j; rw [show 3 * (n+1)+1+j=(3 * n+1+(j+2))+1 by omega]; exact dk _ _ (all_cons (cG (3 * n+2+j) _) (all_cons (i1 _) (all_cons (i2 _) (all_cons (i3 _) all_nil))))
  | fj n t a r _ _ _ i1 i2=>intro j; rw [show 3 * (n+1)+1+j=(3 * n+1+(j+2))+1 by omega]; exact dk _ _ (all_cons (cG (3 * n+2+j) _) (all_cons (i1 _) (all_cons (i2 _) (all_cons (wD (3 * n+2+j)) all_nil))))
  | markL n t a l _ _ _ i1 i2=>intro j; rw [show 3 * (n+1)+1+j=(3 * n+1+(j+2))+1 by omega]; exact dk _ _ (all_cons (cG (3 * n+2+j) _) (all_cons (i1 _) (all_cons (wD (3 * n+2+j)) (all_cons (i2 _) all_nil))))
  | table n bs w _ _ _ _ _ _ ih =>
    intro j
    rw [show 3 * (n+1)+1+j=(3 * n+1+j)+1+1+1 by omega]
    refine dk _ _ (all_cons (cG _ _) (all_cons (dk _ _ fun q hq=>?_) all_nil))
    obtain ⟨b,hb,rfl⟩:=List.mem_map.mp hq
    exact dk _ _ fun p hp=>ih b hb p hp j
theorem Fm.DJ {n:Nat}{t:Bool}{d:D}(h:Fm n t d)(hn:n≤30):eqN 100 d d=some true:=by
  have:=h.eq (99 - 3 * n)
  rwa [show 3 * n+1+(99 - 3 * n)=100 by omega] at this
theorem mM (w:Nat) : ∀ bs:List (List D),(∀ b∈bs,b.length=w)→eg w bs.length bs.flatten=bs
  | [],_=>rfl
  | b::bs,h=>by
    have hb:=h b List.mem_cons_self
    show (b++bs.flatten).take w::eg w bs.length ((b++bs.flatten).drop w)=_
    rw [List.take_append_of_le_length (by omega),List.drop_append_of_le_length (by omega),List.take_of_length_le (by omega),List.drop_of_length_le (by omega),List.nil_append,mM w bs fun c hc=>h c (List.mem_cons_of_mem _ hc)]
theorem iy (a x y:D)(qs:List D)(i r l:D)(j:Nat)(h0:qs[0]?=some i)(hx:(x=.non∧r=.non∧j=1)∨((∃ z,x=.tup z)∧qs[1]?=some r∧j=2))(hy:(y=.non∧l=.non)∨((∃ z,y=.tup z)∧qs[j]?=some l)) :
    cU [.tup [.str [109,97,114,107,101,100],a,x,y],.lst qs]=some (.tup [.str [109,97,114,107,101,100],i,r,l]):=by
  have lp : ∃ e4,runFor (aJ 4) bC [x,y] [.val (.tup [.str [109,97,114,107,101,100],a,x,y]),.val (.lst qs),.own [.str [109,97,114,107,101,100],i],.val (.int 1),.no]=some (.nx [.val (.tup [.str [109,97,114,107,101,100],a,x,y]),.val (.lst qs),.own [.str [109,97,114,107,101,100],i,r,l],e4,.val y]):=by
    rcases hx with ⟨rfl,rfl,rfl⟩ | ⟨⟨z,rfl⟩,hx,rfl⟩
    · rw [cm (e1:=[.val (.tup [.str [109,97,114,107,101,100],a,.non,y]),.val (.lst qs),.own [.str [109,97,114,107,101,100],i],.val (.int 1),.val .non]) (e2:=[.val (.tup [.str [109,97,114,107,101,100],a,.non,y]),.val (.lst qs),.own [.str [109,97,114,107,101,100],i,.non],.val (.int 1),.val .non]) (by simp) (by simp [bC])]
      rcases hy with ⟨rfl,rfl⟩ | ⟨⟨z,rfl⟩,hy⟩
      · exact ⟨.val (.int 1),by rw [cm (e1:=[.val (.tup [.str [109,97,114,107,101,100],a,.non,.non]),.val (.lst qs),.own [.str [109,97,114,107,101,100],i,.non],.val (.int 1),.val .non]) (e2:=[.val (.tup [.str [109,97,114,107,101,100],a,.non,.non]),.val (.lst qs),.own [.str [109,97,114,107,101,100],i,.non,.non],.val (.int 1),.val .non]) (by simp) (by simp [bC])]; rfl⟩
      · exact ⟨.val (.int 2),by rw [cm (e1:=[.val (.tup [.str [109,97,114,107,101,100],a,.non,.tup z]),.val (.lst qs),.own [.str [109,97,114,107,101,100],i,.non],.val (.int 1),.val (.tup z)]) (e2:=[.val (.tup [.str [109,97,114,107,101,100],a,.non,.tup z]),.val (.lst qs),.own [.str [109,97,114,107,101,100],i,.non,l],.val (.int 2),.val (.tup z)]) (by simp) (by simp [bC,hy])]; rfl⟩
    · rw [cm (e1:=[.val (.tup [.str [109,97,114,107,101,100],a,.tup z,y]),.val (.lst qs),.own [.str [109,97,114,107,101,100],i],.val (.int 1),.val (.tup z)]) (e2:=[.val (.tup [.str [109,97,114,107,101,100],a,.tup z,y]),.val (.lst qs),.own [.str [109,97,114,107,101,100],i,r],.val (.int 2),.val (.tup z)]) (by simp) (by simp [bC,hx])]
      rcases hy with ⟨rfl,rfl⟩ | ⟨⟨z2,rfl⟩,hy⟩
      · exact ⟨.val (.int 2),by rw [cm (e1:=[.val (.tup [.str [109,97,114,107,101,100],a,.tup z,.non]),.val (.lst qs),.own [.str [109,97,114,107,101,100],i,r],.val (.int 2),.val .non]) (e2:=[.val (.tup [.str [109,97,114,107,101,100],a,.tup z,.non]),.val (.lst qs),.own [.str [109,97,114,107,101,100],i,r,.non],.val (.int 2),.val .non]) (by simp) (by simp [bC])]; rfl⟩
      · exact ⟨.val (.int 3),by rw [cm (e1:=[.val (.tup [.str [109,97,114,107,101,100],a,.tup z,.tup z2]),.val (.lst qs),.own [.str [109,97,114,107,101,100],i,r],.val (.int 2),.val (.tup z2)]) (e2:=[.val (.tup [.str [109,97,114,107,101,100],a,.tup z,.tup z2]),.val (.lst qs),.own [.str [109,97,114,107,101,100],i,r,l],.val (.int 3),.val (.tup z2)]) (by simp) (by simp [bC,hy])]; rfl⟩
  obtain ⟨e4,lp⟩:=lp
  simp only [cU,ak,gm,envOf]
  simp [h0,Ja,x42,lp]
theorem iz (a x y:D)(qs:List D):cp [.tup [.str [109,97,114,107,101,100],a,x,y],.lst qs]=cU [.tup [.str [109,97,114,107,101,100],a,x,y],.lst qs]:=by
  simp only [cp,ak,fP,envOf]
  simp [aw]
  cases cU [.tup [.str [109,97,114,107,101,100],a,x,y],.lst qs] <;> simp
theorem oP (qs:List D)(w:Nat)(hw:w≤9) : ∀ (r i:Nat),i+r≤9→aT (aJ 0) cH fb [.no,.val (.lst qs),.val (.int w)] (dA i r)=some ((eg w r (qs.drop (i * w))).map .tup)
  | 0,i,_=>rfl
  | r+1,i,hi=>by
    have ih:=oP qs w hw r (i+1) (by omega)
    have m1:=i9 (i:Int) (w:Int) (by omega)
    have m2:=i9 ((i:Int)+1) (w:Int) (by omega)
    have e1:(i:Int) * (w:Int)=((i * w:Nat):Int):=by simp
    have e2:((i:Int)+1) * (w:Int)=((i * w+w:Nat):Int):=by rw [Int.add_mul,Int.one_mul]; simp
    rw [e1] at m1
    rw [e2] at m2
    have hc:=rG qs (i * w) (i * w+w)
    rw [show i * w+w - i * w=w by omega] at hc
    have e3:qs.drop ((i+1) * w)=(qs.drop (i * w)).drop w:=by rw [List.drop_drop,Nat.succ_mul]
    rw [oj]
    show aT _ _ _ _ (D.int (i:Nat)::dA ((i:Int)+1) r)=some (.tup ((qs.drop (i * w)).take w)::(eg w r ((qs.drop (i * w)).drop w)).map .tup)
    rw [← e3]
    exact cw (e:=[.val (.int (i:Nat)),.val (.lst qs),.val (.int w)]) (by simp) rfl (by simp only [fb]; simp only [zo,we,jS,qp,rF,uX,List.getElem?_cons_zero,List.getElem?_cons_succ,jR,dj,wc,mH,nY,m1,m2,hc,mI]) ih
theorem oQ (bs:List (List D))(w:Nat)(qs:List D)(h1 : 1≤bs.length)(h9:bs.length≤9)(hw9:w≤9)(hb : ∀ b∈bs,b.length=w):dY [.tup (bs.map .tup),.lst qs]=some (.tup ((eg w bs.length qs).map .tup)):=by
  obtain ⟨b,r,rfl⟩ : ∃ b r,bs=b::r:=by
    match bs,h1 with
    | b::r,_=>exact ⟨b,r,rfl⟩
  have hbw:=hb b List.mem_cons_self
  have hc:=oP qs w hw9 (b::r).length 0 (by omega)
  simp only [Nat.zero_mul,List.drop_zero,Int.cast_ofNat_Int] at hc
  have hr:ka [.int (((b::r).length:Nat):Int)]=some (dA 0 (b::r).length):=rH rfl (by omega)
  have hrl:(dA 0 (b::r).length).length≤1000000:=by unfold dA; simp only [List.length_map,List.length_range]; omega
  have hcap : ∀ a b c:Slot,dm 1 [1,2] [a,b,c]=[.no,b,c]:=fun _ _ _=>rfl
  have hat:atI ((b::r).map D.tup) 0=some (.tup b):=by simp
  have hlen:(((b::r).map D.tup).length:Int)=(((b::r).length:Nat):Int):=by simp
  generalize (eg w (b::r).length qs).map D.tup=OUT at hc
  generalize (b::r).map D.tup=BB at hat hlen
  generalize dA 0 (b::r).length=RR at hc hr hrl
  generalize (((b::r).length:Nat):Int)=LL at hr hlen
  rw [Ij] at hat
  simp only [dY,ak,gH,envOf]
  simp [hat,hbw,hlen,hr,hrl,hcap,hc]
theorem xZ (bs:List (List D))(qs:List D)(t:D)(h:dY [.tup (bs.map .tup),.lst qs]=some t):cp [.tup [.str [116,97,98,108,101],.tup (bs.map .tup)],.lst qs]=some (.tup [.str [116,97,98,108,101],t]):=by
  generalize bs.map D.tup=BB at h
  simp only [cp,ak,fP,envOf]
  simp [aw,h]
theorem nv : ∀ qs:List D,(∀ q∈qs, ∃ l,q=.tup l)→aT (aJ 0) bF bP [.no] qs=some qs
  | [],_=>rfl
  | q::qs,h=>by
    obtain ⟨l,rfl⟩:=h q List.mem_cons_self
    exact cw (e:=[.val (.tup l)]) (by simp) (by simp [bF]) (by simp [bP]) (nv qs fun r hr=>h r (List.mem_cons_of_mem _ hr))
theorem uf (qs:List D)(r:List D)(h:aT (aJ 0) bF bP [.no] qs=some r):aT (aJ 0) bF bP [.no] (.non::qs)=some r :=
  qx (e:=[.val .non]) (by simp) (by simp [bF]) h
theorem lL (l:List D)(qs:List D)(r:List D)(h:aT (aJ 0) bF bP [.no] qs=some r):aT (aJ 0) bF bP [.no] (.tup l::qs)=some (.tup l::r) :=
  cw (e:=[.val (.tup l)]) (by simp) (by simp [bF]) (by simp [bP]) h
theorem G6 (a b c:Slot):dm 1 [] [a,b,c]=[.no]:=rfl
theorem qO (k:List Nat)(hk:k=[114,111,111,116]∨k=[104,101,108,100])(l:List D):aY [.tup [.str k,.tup l]]=some (.lst [.tup l]):=by
  have hc:=nv [.tup l] (fun q hq=>⟨l,List.mem_singleton.mp hq⟩)
  simp only [aY,ak,cq,envOf]
  rcases hk with rfl | rfl <;> simp [pI,x21,hc,G6]
theorem y3 (a b:D)(h : ∀ q∈[a,b], ∃ l,q=.tup l):aY [.tup [.str [111,118,101,114],a,b]]=some (.lst [a,b]):=by
  have hc:=nv [a,b] h
  simp only [aY,ak,cq,envOf]
  simp [pI,x31,hc,G6]
theorem kW (a x y:D)(r:List D)(hc:aT (aJ 0) bF bP [.no] [a,x,y]=some r):aY [.tup [.str [109,97,114,107,101,100],a,x,y]]=some (.lst r):=by
  simp only [aY,ak,cq,envOf]
  simp [pI,x41,hc,G6]
theorem oR (d:D) : ∀ (bs:List (List D)) (acc:List D) (s3:Slot),acc.length+bs.flatten.length≤1000→∃ t3,runFor (aJ 2) gf (bs.map .tup) [.val d,.val (.lst acc),s3]=some (.nx [.val d,.val (.lst (acc++bs.flatten)),t3])
  | [],acc,s3,_=>⟨s3,by simp⟩
  | b::bs,acc,s3,hl=>by
    rw [List.flatten_cons,List.length_append] at hl
    have hl1:acc.length+b.length≤1000000:=by omega
    rw [List.map_cons,cm (e1:=[.val d,.val (.lst acc),.val (.tup b)]) (e2:=[.val d,.val (.lst (acc++b)),.val (.tup b)]) (by simp) (by simp [gf,hl1])]
    obtain ⟨t3,q⟩:=oR d bs (acc++b) (.val (.tup b)) (by rw [List.length_append]; omega)
    exact ⟨t3,by simpa using q⟩
theorem ug (bs:List (List D))(hl:bs.flatten.length≤100):aY [.tup [.str [116,97,98,108,101],.tup (bs.map .tup)]]=some (.lst bs.flatten):=by
  obtain ⟨t3,q⟩:=oR (.tup [.str [116,97,98,108,101],.tup (bs.map .tup)]) bs [] .no (by simp; simp at hl; omega)
  simp only [List.nil_append] at q
  simp only [aY,ak,cq,envOf]
  simp [-List.length_flatten,q]
inductive Sp:D→List D→Prop
  | name (w:List Nat) : 1≤w.length→w.length≤8→(∀ x∈w,97≤x∧x≤122)→Sp (.tup [.str [110,97,109,101],.str w]) []
  | num (i:Int) : 0≤i→i≤999999999→Sp (.tup [.str [110,117,109,98,101,114],.int i]) []
  | ju (ps:List D) : 2≤ps.length→ps.length≤80→Sp (.tup [.str [101,118,101,110],.tup ps]) ps
  | sum (ps:List D) (z:List Nat) : 2≤ps.length→ps.length≤80→z.length+1=ps.length→(∀ x∈z,x=43∨x=45)→Sp (.tup [.str [115,117,109],.tup ps,.str z]) ps
  | times (ps:List D) : 2≤ps.length→ps.length≤80→Sp (.tup [.str [116,105,109,101,115],.tup ps]) ps
  | over (a b:D):Sp (.tup [.str [111,118,101,114],a,b]) [a,b]
  | root (a:D):Sp (.tup [.str [114,111,111,116],a]) [a]
  | held (a:D):Sp (.tup [.str [104,101,108,100],a]) [a]
  | markB (a r l:D):Sp (.tup [.str [109,97,114,107,101,100],a,r,l]) [a,r,l]
  | fj (a r:D):Sp (.tup [.str [109,97,114,107,101,100],a,r,.non]) [a,r]
  | markL (a l:D):Sp (.tup [.str [109,97,114,107,101,100],a,.non,l]) [a,l]
  | table (bs:List (List D)) (w:Nat) : 1≤bs.length→bs.length≤9→1≤w→w≤9→(∀ b∈bs,b.length=w)→Sp (.tup [.str [116,97,98,108,101],.tup (bs.map .tup)]) bs.flatten
abbrev jl (ps:List D):Prop:=∀ p∈ps, ∃ l,p=.tup l
theorem s9 {bs:List (List D)}{w:Nat}(h9:bs.length≤9)(hw9:w≤9)(hb : ∀ b∈bs,b.length=w):bs.flatten.length≤81:=by
  have hfl:=lH w bs hb
  have hml:bs.length * w≤9 * 9:=Nat.mul_le_mul h9 hw9
  omega
theorem Sp.len {d:D}{ps:List D}(s:Sp d ps):ps.length≤81:=by
  cases s with
  | table bs w h1 h2 h3 h4 h5=>exact s9 h2 h4 h5
  | _=>first | (simp; done) | omega
theorem Sp.parts {d:D}{ps:List D}(s:Sp d ps)(ht:jl ps):aH [d]=some ps:=by
  cases s with
  | name w=>simp [aH,br,bo,envOf]
  | num i=>simp [aH,br,bo,envOf]
  | ju=>simp [aH,br,bo,envOf,aw]
  | sum=>simp [aH,br,bo,envOf,aw]
  | times=>simp [aH,br,bo,envOf,aw]
  | over a b=>simp [aH,br,bo,envOf,aw,pI,x31]
  | root a =>
    obtain ⟨l,rfl⟩:=ht a (by simp)
    simp [aH,br,bo,envOf,aw,pI,x21]
  | held a =>
    obtain ⟨l,rfl⟩:=ht a (by simp)
    simp [aH,br,bo,envOf,aw,pI,x21]
  | markB a r l=>exact jY a r l [r,l] (by simp) (vy [r,l] fun q hq=>ht q (List.mem_cons_of_mem _ hq))
  | fj a r =>
    obtain ⟨z,rfl⟩:=ht r (by simp)
    exact jY _ _ _ [.tup z] (by simp) (nq _ _ _ (nk _ _ rfl))
  | markL a l =>
    obtain ⟨z,rfl⟩:=ht l (by simp)
    exact jY _ _ _ [.tup z] (by simp) (nk _ _ (nq _ _ _ rfl))
  | table bs w h1 h2 h3 h4 h5 =>
    have hco:=tZ bs (by have:=s9 h2 h4 h5; omega)
    generalize bs.map D.tup=BB at hco
    simp [aH,br,bo,envOf,aw,hco]
theorem Sp.mw {d:D}{ps:List D}(s:Sp d ps)(ht:jl ps):aY [d]=some (.lst ps):=by
  cases s with
  | name w=>simp [aY,ak,cq,envOf]
  | num i=>simp [aY,ak,cq,envOf]
  | ju=>simp [aY,ak,cq,envOf]
  | sum=>simp [aY,ak,cq,envOf]
  | times=>simp [aY,ak,cq,envOf]
  | over a b=>exact y3 a b ht
  | root a =>
    obtain ⟨l,rfl⟩:=ht a (by simp)
    exact qO _ (.inl rfl) l
  | held a =>
    obtain ⟨l,rfl⟩:=ht a (by simp)
    exact qO _ (.inr rfl) l
  | markB a r l=>exact kW a r l _ (nv _ ht)
  | fj a r =>
    obtain ⟨z,rfl⟩:=ht r (by simp)
    obtain ⟨z2,rfl⟩:=ht a (by simp)
    exact kW _ _ _ _ (lL _ _ _ (lL _ _ _ (uf _ _ rfl)))
  | markL a l =>
    obtain ⟨z,rfl⟩:=ht l (by simp)
    obtain ⟨z2,rfl⟩:=ht a (by simp)
    exact kW _ _ _ _ (lL _ _ _ (uf _ _ (lL _ _ _ rfl)))
  | table bs w h1 h2 h3 h4 h5=>exact ug bs (by have:=s9 h2 h4 h5; omega)
theorem Sp.of {n:Nat}{t:Bool}{d:D}(h:Fm (n+1) t d) : ∃ ps,Sp d ps∧Pt n t d ps:=by
  obtain ⟨ps,p⟩:=u0 h
  have : ∃ qs,Sp d qs∧jl qs:=by
    cases h with
    | name _ _ w h1 h2 h3=>exact ⟨_,.name w h1 h2 h3,all_nil⟩
    | num _ _ i h1 h2=>exact ⟨_,.num i h1 h2,all_nil⟩
    | ju _ _ ps h1 h2 h3 h4=>exact ⟨_,.ju ps h3 h4,fun p hp=>(h1 p hp).tup⟩
    | sum _ _ ps z h1 h2 h3 h4 h5 h6=>exact ⟨_,.sum ps z h3 h4 h5 h6,fun p hp=>(h1 p hp).tup⟩
    | times _ _ ps h1 h2 h3 h4=>exact ⟨_,.times ps h3 h4,fun p hp=>(h1 p hp).tup⟩
    | over _ _ a b h1 h2=>exact ⟨_,.over a b,all_cons h1.tup (all_cons h2.tup all_nil)⟩
    | root _ _ a h1=>exact ⟨_,.root a,all_cons h1.tup all_nil⟩
    | held _ _ a h1=>exact ⟨_,.held a,all_cons h1.tup all_nil⟩
    | markB _ _ a r l h1 hl h2 h3=>exact ⟨_,.markB a r l,all_cons h1.tup (all_cons h2.tup (all_cons h3.tup all_nil))⟩
    | fj _ _ a r h1 hl h2=>exact ⟨_,.fj a r,all_cons h1.tup (all_cons h2.tup all_nil)⟩
    | markL _ _ a l h1 hl h2=>exact ⟨_,.markL a l,all_cons h1.tup (all_cons h2.tup all_nil)⟩
    | table _ bs w h1 h2 h3 h4 h5 h6 =>
      refine ⟨_,.table bs w h1 h2 h3 h4 h5,fun p hp=>?_⟩
      obtain ⟨b,hbm,hpb⟩:=List.mem_flatten.mp hp
      exact (h6 b hbm p hpb).tup
  obtain ⟨qs,s,tq⟩:=this
  have e:=s.parts tq
  rw [p.b] at e
  have e:ps=qs:=Option.some.inj e
  subst e
  exact ⟨ps,s,p⟩
theorem Pt.gp {n:Nat}{t:Bool}{d:D}{ps:List D}(p:Pt n t d ps):jl ps:=fun q hq=>(p.fm q hq).tup
theorem Sp.fm {n:Nat}{t:Bool}{d:D}{ps:List D}(s:Sp d ps)(hp : ∀ p∈ps,Fm n t p)(hl : ∀ (i:Nat) (x:D),ps[i]?=some x→bf d i≤lev x)(htab:fq d=true→t=true∧∀ p∈ps,Fm n false p):Fm (n+1) t d:=by
  have hm : ∀ p∈ps, ∃ i:Nat,ps[i]?=some p:=fun p hp=>List.getElem?_of_mem hp
  cases s with
  | name w h1 h2 h3=>exact .name n t w h1 h2 h3
  | num i h1 h2=>exact .num n t i h1 h2
  | ju ps h3 h4=>exact .ju n t ps hp (fun p h=>by obtain ⟨i,e⟩:=hm p h; exact hl i p e) h3 h4
  | sum ps z h3 h4 h5 h6=>exact .sum n t ps z hp (fun p h=>by obtain ⟨i,e⟩:=hm p h; exact hl i p e) h3 h4 h5 h6
  | times ps h3 h4=>exact .times n t ps hp (fun p h=>by obtain ⟨i,e⟩:=hm p h; exact hl i p e) h3 h4
  | over a b=>exact .over n t a b (hp a (by simp)) (hp b (by simp))
  | root a=>exact .root n t a (hp a (by simp))
  | held a=>exact .held n t a (hp a (by simp))
  | markB a r l=>exact .markB n t a r l (hp a (by simp)) (hl 0 a rfl) (hp r (by simp)) (hp l (by simp))
  | fj a r=>exact .fj n t a r (hp a (by simp)) (hl 0 a rfl) (hp r (by simp))
  | markL a l=>exact .markL n t a l (hp a (by simp)) (hl 0 a rfl) (hp l (by simp))
  | table bs w h1 h2 h3 h4 h5 =>
    obtain ⟨rfl,hf⟩:=htab rfl
    exact .table n bs w h1 h2 h3 h4 h5 fun b hb p hp=>hf p (List.mem_flatten.mpr ⟨b,hb,hp⟩)
structure aG (d d':D):Prop where
  least : ∀ j,bf d' j=bf d j
  tab:fq d'=fq d
  lev:lev d'=lev d
  fr : ∃ (k:List Nat) (r r':List D) (fr:D),d=.tup (.str k::r)∧d'=.tup (.str k::r')∧r.length=r'.length∧bL [d]=some fr∧bL [d']=some fr∧eqN 100 fr fr=some true
theorem uh (w:Nat)(x:D) : ∀ (bs:List (List D)) (a k:Nat) (b:List D),(∀ c∈bs,c.length=w)→bs[a]?=some b→k<w→(bs.set a (b.set k x)).flatten=bs.flatten.set (a * w+k) x
  | [],a,k,b,_,h,_=>by simp at h
  | c::bs,0,k,b,hw,h,hk=>by
    have hc:c=b:=by simpa using h
    subst hc
    have hl:=hw c List.mem_cons_self
    rw [List.set_cons_zero,List.flatten_cons,List.flatten_cons,Nat.zero_mul,Nat.zero_add,List.set_append_left _ _ (by omega)]
  | c::bs,a+1,k,b,hw,h,hk=>by
    have hl:=hw c List.mem_cons_self
    have ih:=uh w x bs a k b (fun e he=>hw e (List.mem_cons_of_mem _ he)) (by simpa using h) hk
    rw [List.set_cons_succ,List.flatten_cons,List.flatten_cons,ih,Nat.succ_mul,List.set_append_right _ _ (by omega),show a * w+w+k - c.length=a * w+k by omega]
theorem wF (k:List Nat)(hk:k=[101,118,101,110]∨k=[116,105,109,101,115])(ps qs:List D):cp [.tup [.str k,.tup ps],.lst qs]=some (.tup [.str k,.tup qs]):=by
  rcases hk with rfl | rfl <;> (simp only [cp,ak,fP,envOf]; simp [aw])
theorem CM (ps qs:List D)(z:List Nat):cp [.tup [.str [115,117,109],.tup ps,.str z],.lst qs]=some (.tup [.str [115,117,109],.tup qs,.str z]):=by
  simp only [cp,ak,fP,envOf]; simp [aw]
theorem lM (k:List Nat)(hk:k=[111,118,101,114]∨k=[114,111,111,116]∨k=[104,101,108,100])(r qs:List D)(hq:qs.length≤10):cp [.tup (.str k::r),.lst qs]=some (.tup (.str k::qs)):=by
  have b : 1+qs.length≤1000000:=by omega
  rcases hk with rfl | rfl | rfl <;> (simp only [cp,ak,fP,envOf]; simp [aw,b])
theorem oS (w:Nat) : ∀ bs:List (List D),(∀ b∈bs,b.length=w)→aT (aJ 0) cH gn [.no] (bs.map .tup)=some (List.replicate bs.length (.int (w:Nat)))
  | [],_=>rfl
  | b::bs,h=>by
    have hb:=h b List.mem_cons_self
    exact cw (e:=[.val (.tup b)]) (by simp) rfl (by simp [gn,hb]) (oS w bs fun c hc=>h c (List.mem_cons_of_mem _ hc))
theorem oU (k:List Nat)(hk:k=[101,118,101,110]∨k=[116,105,109,101,115]∨k=[111,118,101,114]∨k=[114,111,111,116]∨k=[104,101,108,100])(r:List D):bL [.tup (.str k::r)]=some (.tup [.str k,.int ((r.length+1:Nat):Int)]):=by
  rcases hk with rfl | rfl | rfl | rfl | rfl <;> (simp only [bL,ak,eG,envOf]; simp)
theorem qP (ps:List D)(z:List Nat):bL [.tup [.str [115,117,109],.tup ps,.str z]]=some (.tup [.str [115,117,109],.int (ps.length:Nat),.str z]):=by
  simp only [bL,ak,eG,envOf]; simp
theorem oV (a x y:D)(bx bb:Bool)(hx:dB false x=some (.bl bx))(hy:dB false y=some (.bl bb)):bL [.tup [.str [109,97,114,107,101,100],a,x,y]]=some (.tup [.str [109,97,114,107,101,100],.bl bx,.bl bb]):=by
  simp only [bL,ak,eG,envOf]; simp [hx,hy]
theorem mO (bs:List (List D))(w:Nat)(h9:bs.length≤9)(hb : ∀ b∈bs,b.length=w):bL [.tup [.str [116,97,98,108,101],.tup (bs.map .tup)]]=some (.tup [.str [116,97,98,108,101],.lst (List.replicate bs.length (.int (w:Nat)))]):=by
  have hc:=oS w bs hb
  have hl:(bs.map D.tup).length≤1000000:=by simp; omega
  have hcap : ∀ a b:Slot,dm 1 [] [a,b]=[.no]:=fun _ _=>rfl
  generalize List.replicate bs.length (D.int (w:Nat))=R at hc
  generalize bs.map D.tup=BB at *
  simp only [bL,ak,eG,envOf]; simp [hc,hl,hcap]
theorem i0 (k:List Nat)(hk:k=[101,118,101,110]∨k=[116,105,109,101,115]∨k=[111,118,101,114]∨k=[114,111,111,116]∨k=[104,101,108,100])(r r':List D)(hr:r.length=r'.length):aG (.tup (.str k::r)) (.tup (.str k::r')) :=
  ⟨fun _=>rfl,rfl,rfl,k,r,r',_,rfl,rfl,hr,oU k hk r,by rw [oU k hk r',hr],dk 99 _ (all_cons (cG 98 _) (all_cons (nu 98 _) all_nil))⟩
theorem Ay (m:Nat)(b:Bool):eqN (m+1) (.bl b) (.bl b)=some true:=by cases b <;> rfl
theorem gA (a x y a' x' y':D)(bx bb:Bool)(hx:dB false x=some (.bl bx))(hy:dB false y=some (.bl bb))(hx':dB false x'=some (.bl bx))(hy':dB false y'=some (.bl bb)):aG (.tup [.str [109,97,114,107,101,100],a,x,y]) (.tup [.str [109,97,114,107,101,100],a',x',y']) :=
  ⟨fun _=>rfl,rfl,rfl,[109,97,114,107,101,100],_,_,_,rfl,rfl,rfl,oV a x y bx bb hx hy,oV a' x' y' bx bb hx' hy',dk 99 _ (all_cons (cG 98 _) (all_cons (Ay 98 _) (all_cons (Ay 98 _) all_nil)))⟩
theorem j0 (l:List D):dB false (.tup l)=some (.bl false):=by simp
theorem uk:dB false .non=some (.bl true):=by simp
theorem Sp.set {d:D}{ps:List D}(s:Sp d ps)(ht:jl ps)(i:Nat)(x:D)(hi:i<ps.length)(hx : ∃ l,x=.tup l) : ∃ d',cp [d,.lst (ps.set i x)]=some d'∧Sp d' (ps.set i x)∧aG d d':=by
  cases s with
  | name w=>simp at hi
  | num i=>simp at hi
  | ju ps h1 h2=>exact ⟨_,wF _ (.inl rfl) ps _,.ju _ (by simpa using h1) (by simpa using h2),i0 _ (.inl rfl) _ _ rfl⟩
  | times ps h1 h2=>exact ⟨_,wF _ (.inr rfl) ps _,.times _ (by simpa using h1) (by simpa using h2),i0 _ (.inr (.inl rfl)) _ _ rfl⟩
  | sum ps z h1 h2 h3 h4 =>
    refine ⟨_,CM ps _ z,.sum _ z (by simpa using h1) (by simpa using h2) (by simpa using h3) h4,⟨fun _=>rfl,rfl,rfl,[115,117,109],_,_,_,rfl,rfl,rfl,qP ps z,by rw [qP]; simp,dk 99 _ (all_cons (cG 98 _) (all_cons (nu 98 _) (all_cons (cG 98 _) all_nil)))⟩⟩
  | over a b =>
    have h2:i=0∨i=1:=by simp at hi; omega
    rcases h2 with rfl | rfl
    · exact ⟨_,lM _ (.inl rfl) _ _ (by simp),.over x b,i0 _ (.inr (.inr (.inl rfl))) _ _ rfl⟩
    · exact ⟨_,lM _ (.inl rfl) _ _ (by simp),.over a x,i0 _ (.inr (.inr (.inl rfl))) _ _ rfl⟩
  | root a =>
    have h0:i=0:=by simp at hi; omega
    subst h0
    exact ⟨_,lM _ (.inr (.inl rfl)) _ _ (by simp),.root x,i0 _ (.inr (.inr (.inr (.inl rfl)))) _ _ rfl⟩
  | held a =>
    have h0:i=0:=by simp at hi; omega
    subst h0
    exact ⟨_,lM _ (.inr (.inr rfl)) _ _ (by simp),.held x,i0 _ (.inr (.inr (.inr (.inr rfl)))) _ _ rfl⟩
  | markB a r l =>
    obtain ⟨za,rfl⟩:=ht a (by simp)
    obtain ⟨zr,rfl⟩:=ht r (by simp)
    obtain ⟨zl,rfl⟩:=ht l (by simp)
    obtain ⟨zx,rfl⟩:=hx
    have h3:i=0∨i=1∨i=2:=by simp at hi; omega
    rcases h3 with rfl | rfl | rfl
    · exact ⟨_,(iz _ _ _ _).trans (iy _ _ _ _ (.tup zx) (.tup zr) (.tup zl) 2 rfl (.inr ⟨⟨_,rfl⟩,rfl,rfl⟩) (.inr ⟨⟨_,rfl⟩,rfl⟩)),.markB _ _ _,gA _ _ _ _ _ _ false false (j0 _) (j0 _) (j0 _) (j0 _)⟩
    · exact ⟨_,(iz _ _ _ _).trans (iy _ _ _ _ (.tup za) (.tup zx) (.tup zl) 2 rfl (.inr ⟨⟨_,rfl⟩,rfl,rfl⟩) (.inr ⟨⟨_,rfl⟩,rfl⟩)),.markB _ _ _,gA _ _ _ _ _ _ false false (j0 _) (j0 _) (j0 _) (j0 _)⟩
    · exact ⟨_,(iz _ _ _ _).trans (iy _ _ _ _ (.tup za) (.tup zr) (.tup zx) 2 rfl (.inr ⟨⟨_,rfl⟩,rfl,rfl⟩) (.inr ⟨⟨_,rfl⟩,rfl⟩)),.markB _ _ _,gA _ _ _ _ _ _ false false (j0 _) (j0 _) (j0 _) (j0 _)⟩
  | fj a r =>
    obtain ⟨za,rfl⟩:=ht a (by simp)
    obtain ⟨zr,rfl⟩:=ht r (by simp)
    obtain ⟨zx,rfl⟩:=hx
    have h3:i=0∨i=1:=by simp at hi; omega
    rcases h3 with rfl | rfl
    · exact ⟨_,(iz _ _ _ _).trans (iy _ _ _ _ (.tup zx) (.tup zr) .non 2 rfl (.inr ⟨⟨_,rfl⟩,rfl,rfl⟩) (.inl ⟨rfl,rfl⟩)),.fj _ _,gA _ _ _ _ _ _ false true (j0 _) uk (j0 _) uk⟩
    · exact ⟨_,(iz _ _ _ _).trans (iy _ _ _ _ (.tup za) (.tup zx) .non 2 rfl (.inr ⟨⟨_,rfl⟩,rfl,rfl⟩) (.inl ⟨rfl,rfl⟩)),.fj _ _,gA _ _ _ _ _ _ false true (j0 _) uk (j0 _) uk⟩
  | markL a l =>
    obtain ⟨za,rfl⟩:=ht a (by simp)
    obtain ⟨zl,rfl⟩:=ht l (by simp)
    obtain ⟨zx,rfl⟩:=hx
    have h3:i=0∨i=1:=by simp at hi; omega
    rcases h3 with rfl | rfl
    · exact ⟨_,(iz _ _ _ _).trans (iy _ _ _ _ (.tup zx) .non (.tup zl) 1 rfl (.inl ⟨rfl,rfl,rfl⟩) (.inr ⟨⟨_,rfl⟩,rfl⟩)),.markL _ _,gA _ _ _ _ _ _ true false uk (j0 _) uk (j0 _)⟩
    · exact ⟨_,(iz _ _ _ _).trans (iy _ _ _ _ (.tup za) .non (.tup zx) 1 rfl (.inl ⟨rfl,rfl,rfl⟩) (.inr ⟨⟨_,rfl⟩,rfl⟩)),.markL _ _,gA _ _ _ _ _ _ true false uk (j0 _) uk (j0 _)⟩
  | table bs w h1 h9 hw1 hw9 hb =>
    have hfl:=lH w bs hb
    have hk:i % w<w:=Nat.mod_lt _ (by omega)
    have ei:i / w * w+i % w=i:=by rw [Nat.mul_comm]; exact Nat.div_add_mod i w
    have hal:i / w<bs.length:=Nat.div_lt_of_lt_mul (by rw [Nat.mul_comm]; omega)
    obtain ⟨b,hbs⟩ : ∃ b,bs[i / w]?=some b:=⟨_,List.getElem?_eq_getElem hal⟩
    have hbm:=List.mem_of_getElem? hbs
    obtain ⟨cs,ecs⟩ : ∃ cs,bs.set (i / w) (b.set (i % w) x)=cs:=⟨_,rfl⟩
    have fs:=uh w x bs (i / w) (i % w) b hb hbs hk
    rw [ei,ecs] at fs
    have lcs:cs.length=bs.length:=by rw [← ecs]; simp
    have wcs : ∀ c∈cs,c.length=w:=fun c hc=>by
      rw [← ecs] at hc
      rcases List.mem_or_eq_of_mem_set hc with hc | rfl
      · exact hb c hc
      · rw [List.length_set]; exact hb b hbm
    have hch:=mM w cs wcs
    rw [lcs,fs] at hch
    have hba:=oQ bs w (bs.flatten.set i x) h1 h9 hw9 hb
    rw [hch] at hba
    refine ⟨.tup [.str [116,97,98,108,101],.tup (cs.map .tup)],xZ bs _ _ hba, ?_,⟨fun _=>rfl,rfl,rfl,[116,97,98,108,101],_,_,_,rfl,rfl,rfl,mO bs w h9 hb,by rw [mO cs w (by omega) wcs,lcs], ?_⟩⟩
    · rw [← fs]; exact .table cs w (by omega) (by omega) hw1 hw9 wcs
    · refine dk 99 _ (all_cons (cG 98 _) (all_cons (Ax 98 _ fun a ha=>?_) all_nil))
      rw [List.eq_of_mem_replicate ha]; exact nu 97 _
theorem Sp.shell {d:D}{ps:List D}(s:Sp d ps)(ht:jl ps):aM [d]=some (.bl true):=by
  cases s with
  | name w h1 h2 h3 =>
    have hw:=oJ w (by omega)
    have e:(decide (1≤w.length∧w.length≤8) && w.all gX)=true:=by
      rw [decide_eq_true ⟨h1,h2⟩,Bool.true_and,List.all_eq_true]
      exact fun x hx=>qH x (h3 x hx)
    rw [e] at hw
    simp [aM,ak,aS,envOf,qJ,hw]
  | num i h1 h2 =>
    have hw:=qI i
    rw [decide_eq_true ⟨h1,h2⟩] at hw
    simp [aM,ak,aS,envOf,mL,hw]
  | ju ps h3 h4 =>
    have hw:=dE ps 2 80
    rw [decide_eq_true (show (2:Int)≤ps.length by omega),decide_eq_true (show (ps.length:Int)≤80 by omega)] at hw
    simp [aM,ak,aS,envOf,qK,hw,aw,cj]
  | sum ps z h3 h4 h5 h6 =>
    have hw:=dE ps 2 80
    rw [decide_eq_true (show (2:Int)≤ps.length by omega),decide_eq_true (show (ps.length:Int)≤80 by omega)] at hw
    have hz:=u9 z (by omega) ((ps.length:Int) - 1)
    have e:z.all pmB=true:=by
      rw [List.all_eq_true]
      intro x hx
      rcases h6 x hx with rfl | rfl <;> rfl
    rw [decide_eq_true (show (z.length:Int)=(ps.length:Int) - 1 by omega),e] at hz
    simp [aM,ak,aS,envOf,ub,hw,hz,aw,cj]
  | times ps h3 h4 =>
    have hw:=dE ps 2 80
    rw [decide_eq_true (show (2:Int)≤ps.length by omega),decide_eq_true (show (ps.length:Int)≤80 by omega)] at hw
    simp [aM,ak,aS,envOf,oK,hw,aw,cj]
  | over a b=>simp [aM,ak,aS,envOf,qL,aw]
  | root a=>simp [aM,ak,aS,envOf,qM,aw]
  | held a=>simp [aM,ak,aS,envOf,qN,aw]
  | markB a r l =>
    obtain ⟨z,rfl⟩:=ht r (by simp)
    simp [aM,ak,aS,envOf,fR,aw]
  | fj a r =>
    obtain ⟨z,rfl⟩:=ht r (by simp)
    simp [aM,ak,aS,envOf,fR,aw]
  | markL a l =>
    obtain ⟨z,rfl⟩:=ht l (by simp)
    simp [aM,ak,aS,envOf,fR,aw]
  | table bs w h1 h2 h3 h4 h5 =>
    have hb:=ua bs w h1 h2 h3 h4 h5
    generalize bs.map D.tup=B at hb
    simp [aM,ak,aS,envOf,oM,aw,hb]
theorem Sp.level {d:D}{ps:List D}(s:Sp d ps):bK [d]=some (.int (lev d)):=by
  cases s <;> (simp [bK,ak,il,envOf,uW,hV]; rfl)
theorem kX (r:List D)(i:Nat):aR [.tup (.str [109,97,114,107,101,100]::r),.int i]=some (.int (bf (.tup (.str [109,97,114,107,101,100]::r)) i)):=by
  cases i with
  | zero=>simp [aR,ak,bB,envOf,aw,bf]
  | succ i =>
    have e:((i:Int)+1 == 0)=false:=beq_eq_false_iff_ne.mpr (by omega)
    simp [aR,ak,bB,envOf,aw,bf,e]
theorem Sp.least {d:D}{ps:List D}(s:Sp d ps)(i:Nat):aR [d,.int i]=some (.int (bf d i)):=by
  have hl:=s.level
  cases s with
  | markB a r l=>exact kX _ i
  | fj a r=>exact kX _ i
  | markL a l=>exact kX _ i
  | _=>simp [aR,ak,bB,envOf,aw,bf,hl,lev]
theorem Sp.G7 {d:D}{ps:List D}(s:Sp d ps)(i:Nat):dD [d,.int i]=some (.int (bf d i)):=by
  have hm : ∀ r:List D,dD [.tup (.str [109,97,114,107,101,100]::r),.int i]=some (.int (bf (.tup (.str [109,97,114,107,101,100]::r)) i)):=fun r=>by
    cases i with
    | zero=>simp [dD,ak,fQ,envOf,bf]
    | succ i =>
      have e:((i:Int)+1 == 0)=false:=beq_eq_false_iff_ne.mpr (by omega)
      simp [dD,ak,fQ,envOf,bf,e]
  cases s with
  | markB a r l=>exact hm _
  | fj a r=>exact hm _
  | markL a l=>exact hm _
  | _=>simp [dD,ak,fQ,envOf,bf,qy,gM]
theorem Sp.tup {d:D}{ps:List D}(s:Sp d ps) : ∃ l,d=.tup l:=by cases s <;> exact ⟨_,rfl⟩
theorem Sp.uni {n:Nat}{t:Bool}{d:D}{ps:List D}(s:Sp d ps)(ht:jl ps)(h:Fm n t d) : ∃ n',n=n'+1∧Pt n' t d ps:=by
  cases n with
  | zero=>cases h
  | succ n =>
    obtain ⟨qs,s',p⟩:=Sp.of h
    have e:=s.parts ht
    rw [p.b] at e
    have e:qs=ps:=Option.some.inj e
    subst e
    exact ⟨n,rfl,p⟩
theorem Fm.Az {n:Nat}{t:Bool}{d:D}(h:Fm n t d)(hi:fq d=true):t=true:=by cases h <;> first | rfl | cases hi
inductive Way:D→List Nat→Bool→D→Prop
  | nil {d:D}:Way d [] false d
  | cons {d:D} {ps:List D} {k:Nat} {p:D} {ks:List Nat} {b:Bool} {e:D}:Sp d ps→jl ps→ps[k]?=some p→Way p ks b e→Way d (k::ks) (fq d || b) e
theorem Way.snoc {f d p:D}{ks:List Nat}{b:Bool}{ps:List D}{k:Nat}(h:Way f ks b d)(s:Sp d ps)(ht:jl ps)(hk:ps[k]?=some p):Way f (ks++[k]) (b || fq d) p:=by
  induction h with
  | nil=>have:=Way.cons s ht hk .nil; simpa using this
  | cons s' ht' hk' _ ih=>rw [Bool.or_assoc]; exact .cons s' ht' hk' (ih s)
noncomputable def kY (f g:D)(k:Nat):D:=if lev g<bf f k then .tup [.str [104,101,108,100],g] else g
theorem CN {u:Bool}{m:Nat}{f g:D}{ps:List D}(s:Sp f ps)(hg:Fm m u g)(k:Nat):iX [f,.int k,g]=some (kY f g k):=by
  have l1:=jL hg
  have l2:=s.least k
  simp only [iX,ak,jX,envOf]
  by_cases h:lev g<bf f k
  · have h' : ¬ lev g ≥ bf f k:=by omega
    simp [l1,l2,h',kY,h]
  · have h':lev g ≥ bf f k:=by omega
    simp [l1,l2,h',kY,h]
theorem least_le (f:D)(k:Nat):bf f k≤4:=by
  unfold bf
  split
  · repeat' split
    all_goals omega
  · omega
theorem oW {m:Nat}{u:Bool}{f g:D}(hg:Fm m u g)(k:Nat):Fm (m+1) u (kY f g k)∧bf f k≤lev (kY f g k)∧cn (kY f g k)≤1+cn g:=by
  unfold kY
  split
  · refine ⟨.held m u g hg, ?_, ?_⟩
    · exact least_le f k
    · simp only [cB,aW,bu,cF,bj]; omega
  · exact ⟨hg.up,by omega,by omega⟩
inductive Put (g:D):D→List Nat→Bool→D→Prop
  | one {f d':D} {ps:List D} {k:Nat} {p:D}:Sp f ps→jl ps→ps[k]?=some p→Sp d' (ps.set k (kY f g k))→aG f d'→Put g f [k] (fq f) d'
  | cons {f d':D} {ps:List D} {k j:Nat} {p p':D} {ks:List Nat} {b:Bool}:Sp f ps→jl ps→ps[k]?=some p→Put g p (j::ks) b p'→Sp d' (ps.set k p')→aG f d'→Put g f (k::j::ks) (fq f || b) d'
theorem Put.tup {g f d':D}{ks:List Nat}{b:Bool}(h:Put g f ks b d') : ∃ l,d'=.tup l:=by
  cases h with
  | one _ _ _ s _=>exact s.tup
  | cons _ _ _ _ s _=>exact s.tup
theorem Put.same {g f d':D}{ks:List Nat}{b:Bool}(h:Put g f ks b d'):aG f d':=by
  cases h with
  | one _ _ _ _ s=>exact s
  | cons _ _ _ _ _ s=>exact s
theorem mem_set {ps:List D}{i:Nat}{x y:D}(h:y∈ps.set i x):y∈ps∨y=x:=List.mem_or_eq_of_mem_set h
theorem j3 {ps:List D}(ht:jl ps){x:D}(hx : ∃ l,x=.tup l)(k:Nat):jl (ps.set k x):=fun p hp=>by
  rcases mem_set hp with hp | rfl
  · exact ht p hp
  · exact hx
theorem G8 {u:Bool}{m:Nat}{f g:D}{ps:List D}(s:Sp f ps)(ht:jl ps)(hg:Fm m u g){k:Nat}(hk:k<ps.length)(DN:List D→Option D){d':D}(hr:cp [f,.lst (ps.set k (kY f g k))]=some d'):bG 5 (d8 DN) [f,.tup [.int (k:Nat)],g]=some d':=by
  have hfit:=CN s hg k
  have hb:=s.parts ht
  generalize kY f g k=X at *
  have e1:eqN 100 (.tup [.int (k:Int)]) (.tup [])=some false:=by rfl
  simp only [ak,d8,envOf]
  simp [e1,hb,hfit,zU,hk,hr]
theorem CO {f g p:D}{ps:List D}(s:Sp f ps)(ht:jl ps){k:Nat}(hk:ps[k]?=some p)(j:Nat)(r:List D)(hr:r.length≤100)(DN:List D→Option D){p' d':D}(hp:DN [p,.tup (.int (j:Nat)::r),g]=some p')(hq:cp [f,.lst (ps.set k p')]=some d'):bG 5 (d8 DN) [f,.tup (.int (k:Nat)::.int (j:Nat)::r),g]=some d':=by
  have hb:=s.parts ht
  have hl:k<ps.length:=(List.getElem?_eq_some_iff.mp hk).1
  have e1:eqN 100 (.tup (.int (k:Int)::.int (j:Int)::r)) (.tup [])=some false:=by
    rfl
  have e2:(((r.length:Int)+1+1) == 1)=false:=beq_eq_false_iff_ne.mpr (by omega)
  have c:=pI (.int (k:Int)) (.int (j:Int)::r)
  have z:HT.sIx (r.length+1+1) 0 (some 1)=1:=by
    unfold HT.sIx; simp
  simp only [ak,d8,envOf]
  have hk':ps[k]=p:=(List.getElem?_eq_some_iff.mp hk).2
  simp [e1,hb,e2,c,z,iN,hl,hk',hp,zU,hq]
theorem AA {u:Bool}{mg:Nat}{g:D}(hg:Fm mg u g) : ∀ (ks:List Nat) (f:D) (b:Bool) (e:D),Way f ks b e→ks≠[]→∀ m,ks.length≤m→ks.length≤50→∃ d',d9 m [f,.tup (ks.map fun k=>D.int (k:Nat)),g]=some d'∧Put g f ks b d'
  | [],f,b,e,h,hn=>absurd rfl hn
  | [k],f,b,e,h,_=>by
    intro m hm _
    cases h with
    | cons s ht hk w =>
      cases w
      obtain ⟨m,rfl⟩ : ∃ m',m=m'+1:=⟨m - 1,by simp at hm; omega⟩
      have hl:=(List.getElem?_eq_some_iff.mp hk).1
      obtain ⟨d',r1,r2,r3⟩:=s.set ht k (kY f g k) hl ((oW hg k).1.tup)
      refine ⟨d',G8 s ht hg hl (d9 m) r1, ?_⟩
      rw [Bool.or_false]
      exact .one s ht hk r2 r3
  | k::j::ks,f,b,e,h,_=>by
    intro m hm h50
    cases h with
    | cons s ht hk w =>
      obtain ⟨m,rfl⟩ : ∃ m',m=m'+1:=⟨m - 1,by simp at hm; omega⟩
      have hl:=(List.getElem?_eq_some_iff.mp hk).1
      obtain ⟨p',q1,q2⟩:=AA hg (j::ks) _ _ e w (by simp) m (by simp at hm ⊢; omega) (by simp at h50 ⊢; omega)
      obtain ⟨d',r1,r2,r3⟩:=s.set ht k p' hl q2.tup
      exact ⟨d',CO s ht hk j _ (by simp at h50 ⊢; omega) (d9 m) q1 r1,.cons s ht hk q2 r2 r3⟩
theorem vA {ps:List D}{k i:Nat}{x y:D}(h:(ps.set k x)[i]?=some y):(i=k∧y=x)∨(i≠k∧ps[i]?=some y):=by
  rw [List.getElem?_set] at h
  split at h
  · rename_i e
    split at h
    · exact .inl ⟨e.symm,(Option.some.inj h).symm⟩
    · cases h
  · rename_i e
    exact .inr ⟨fun z=>e z.symm,h⟩
theorem CP {ps:List D}{p:D}(x:D) : ∀ {k:Nat},ps[k]?=some p→cnL (ps.set k x)+cn p=cnL ps+cn x:=by
  induction ps with
  | nil=>intro k h; simp at h
  | cons q ps ih =>
    intro k h
    cases k with
    | zero =>
      have:q=p:=by simpa using h
      subst this
      rw [List.set_cons_zero,aW,aW]; omega
    | succ k=>rw [List.set_cons_succ,aW,aW]; have:=ih (k:=k) (by simpa using h); omega
theorem AB {n N:Nat}{t u:Bool}{f d' x:D}{ps:List D}{k:Nat}(hp:Pt n t f ps)(hf:Fm (n+1) t f)(hn:n≤N)(s:Sp d' (ps.set k x))(sm:aG f d')(hx:Fm N (t || u) x)(hxt:fq f=true→Fm N false x)(hlx:bf f k≤lev x):Fm (N+1) (t || u) d':=by
  refine s.fm (fun p hm=>?_) (fun i y hy=>?_) fun ht=>?_
  · rcases mem_set hm with hm | rfl
    · exact ((hp.fm p hm).le hn).tle (fun z=>by rw [z]; rfl)
    · exact hx
  · rw [sm.least i]
    rcases vA hy with ⟨rfl,rfl⟩ | ⟨_,hy⟩
    · exact hlx
    · exact hp.lv i y hy
  · rw [sm.tab] at ht
    have e:=hf.Az ht
    refine ⟨by rw [e]; rfl,fun p hm=>?_⟩
    rcases mem_set hm with hm | rfl
    · exact (hp.tab ht p hm).le hn
    · exact hxt ht
theorem DK {n N:Nat}{t u:Bool}{f d' x p:D}{ps:List D}{k:Nat}(hp:Pt n t f ps)(hk:ps[k]?=some p)(s:Sp d' (ps.set k x))(hx : ∃ l,x=.tup l)(hd:Fm (N+1) u d'):cn d'+cn p=cn f+cn x:=by
  obtain ⟨n',e,q⟩:=s.uni (j3 hp.gp hx k) hd
  have:=CP x hk
  have h1:=q.cn
  have h2:=hp.cn
  omega
theorem Put.fm {g:D} : ∀ {f:D} {ks:List Nat} {b:Bool} {d':D},Put g f ks b d'→∀ (n N mg:Nat) (t u:Bool),Fm n t f→Fm mg u g→(b=true→u=false)→n≤N→ks.length+mg+1≤N→Fm N (t || u) d'∧cn d'≤cn f+cn g+1:=by
  intro f ks b d' h
  induction h with
  | one s ht hk s' sm =>
    intro n N mg t u hf hg hb hn hN
    rename_i f d' ps k p
    obtain ⟨n,rfl,pt⟩:=s.uni ht hf
    obtain ⟨N,rfl⟩ : ∃ N',N=N'+1:=⟨N - 1,by omega⟩
    obtain ⟨x1,x2,x3⟩:=oW (f:=f) hg k
    have hd:Fm (N+1) (t || u) d':=AB pt hf (by omega) s' sm ((x1.le (by simp at hN; omega)).tle (fun z=>by rw [z]; simp)) (fun z=>by
      have hu:=hb z
      subst hu
      exact x1.le (by simp at hN; omega)) x2
    have:=DK pt hk s' x1.tup hd
    exact ⟨hd,by omega⟩
  | cons s ht hk w s' sm ih =>
    intro n N mg t u hf hg hb hn hN
    rename_i f d' ps k j p p' ks b
    obtain ⟨n,rfl,pt⟩:=s.uni ht hf
    obtain ⟨N,rfl⟩ : ∃ N',N=N'+1:=⟨N - 1,by omega⟩
    have hm:=List.mem_of_getElem? hk
    have hN':(j::ks).length+mg+1≤N:=by simp at hN ⊢; omega
    obtain ⟨i1,i2⟩:=ih n N mg t u (pt.fm p hm) hg (fun z=>hb (by rw [z]; simp)) (by omega) hN'
    have hd:Fm (N+1) (t || u) d':=AB pt hf (by omega) s' sm i1 (fun z=>by
      have hu:=hb (by rw [z]; rfl)
      subst hu
      exact (ih n N mg false false (pt.tab z p hm) hg (fun _=>rfl) (by omega) hN').1) (by rw [w.same.lev]; exact pt.lv k p hk)
    have:=DK pt hk s' w.tup hd
    exact ⟨hd,by omega⟩
theorem jM (DN:List D→Option D) : ∀ (ps:List D),(∀ p∈ps, ∃ b,DN [p]=some (.bl b))→∃ bs:List Bool,aT (aJ 0) cH (aC 1 DN (ah (ae 0) ay)) [.no] ps=some (bs.map .bl)∧bs.length=ps.length∧∀ (i:Nat) (p:D) (b:Bool),ps[i]?=some p→DN [p]=some (.bl b)→bs[i]?=some b
  | [],_=>⟨[],rfl,rfl,fun i p b h=>by simp at h⟩
  | p::ps,h=>by
    obtain ⟨b,hb⟩:=h p List.mem_cons_self
    obtain ⟨bs,q,l,e⟩:=jM DN ps fun q hq=>h q (List.mem_cons_of_mem _ hq)
    refine ⟨b::bs,cw (e:=[.val p]) (by simp) rfl (by simp [hb]) q,by simp [l],fun i y c hy hc=>?_⟩
    cases i with
    | zero =>
      have:p=y:=by simpa using hy
      subst this
      rw [hb] at hc
      have:b=c:=by simpa using hc
      simp [this]
    | succ i=>simpa using e i y c (by simpa using hy) hc
theorem sa {bs:List Bool}{i:Nat}(h:bs[i]?=some true):bs.any id=true:=by
  rw [List.any_eq_true]
  exact ⟨true,List.mem_of_getElem? h,rfl⟩
theorem wG {d:D}{ps:List D}(s:Sp d ps) : ∃ k r,d=.tup (.str k::r)∧(k == [116,97,98,108,101])=fq d:=by cases s <;> exact ⟨_,_,rfl,rfl⟩
theorem holds_of {d:D}{ps:List D}(s:Sp d ps)(ht:jl ps)(m:Nat)(bs:List Bool)(hc:aT (aJ 0) cH (aC 1 (aD m) (ah (ae 0) ay)) [.no] ps=some (bs.map .bl)):aD (m+1) [d]=some (.bl (fq d || bs.any id)):=by
  have ha:=lI bs
  have hcap : ∀ a:Slot,dm 1 [] [a]=[.no]:=fun _=>rfl
  have hl:ps.length≤1000000:=by have:=s.len; omega
  have pb:=s.parts ht
  generalize bs.map D.bl=T at hc ha
  obtain ⟨k,r,rfl,hk⟩:=wG s
  rw [← hk]
  simp only [aD,ak,fC,envOf]
  by_cases hh:(k == [116,97,98,108,101])=true
  · simp [hh]
  · have hh:(k == [116,97,98,108,101])=false:=by simpa using hh
    simp [hh,pb,hl,hcap,hc,ha]
theorem qQ {d:D}{ps:List D}(s:Sp d ps)(ht:jl ps)(m:Nat)(bs:List Bool)(hc:aT (aJ 0) cH (aC 1 (bp m) (ah (ae 0) ay)) [.no] ps=some (bs.map .bl)):bp (m+1) [d]=some (.bl (fq d || bs.any id)):=by
  have ha:=lI bs
  have hcap : ∀ a:Slot,dm 1 [] [a]=[.no]:=fun _=>rfl
  have hl:ps.length≤1000000:=by have:=s.len; omega
  have pb:=s.mw ht
  generalize bs.map D.bl=T at hc ha
  obtain ⟨k,r,rfl,hk⟩:=wG s
  rw [← hk]
  simp only [bp,ak,hR,envOf]
  by_cases hh:(k == [116,97,98,108,101])=true
  · simp [hh]
  · have hh:(k == [116,97,98,108,101])=false:=by simpa using hh
    simp [hh,pb,hl,hcap,hc,ha]
theorem oX : ∀ (n:Nat) (t:Bool) (d:D),Fm n t d→(Fm n false d∧∀ m,n≤m→bp m [d]=some (.bl false))∨(∀ m,n≤m→bp m [d]=some (.bl true)∧aD m [d]=some (.bl true))
  | 0,t,d,h=>by cases h
  | n+1,t,d,h=>by
    obtain ⟨ps,s,p⟩:=Sp.of h
    have hh : ∀ q∈ps,(Fm n false q∧∀ m,n≤m→bp m [q]=some (.bl false))∨(∀ m,n≤m→bp m [q]=some (.bl true)∧aD m [q]=some (.bl true)):=fun q hq=>oX n t q (p.fm q hq)
    by_cases jx:fq d=false∧∀ q∈ps,Fm n false q∧∀ m,n≤m→bp m [q]=some (.bl false)
    · left
      refine ⟨s.fm (fun q hq=>(jx.2 q hq).1) p.lv (fun z=>by rw [jx.1] at z; cases z),fun m hm=>?_⟩
      obtain ⟨m,rfl⟩ : ∃ m',m=m'+1:=⟨m - 1,by omega⟩
      have hc:=lJ (bp m) false ps fun q hq=>(jx.2 q hq).2 m (by omega)
      have:=qQ s p.gp m _ hc
      rw [any_false,jx.1] at this
      exact this
    · right
      intro m hm
      obtain ⟨m,rfl⟩ : ∃ m',m=m'+1:=⟨m - 1,by omega⟩
      obtain ⟨bs,c1,_,c3⟩:=jM (bp m) ps fun q hq=>by
        rcases hh q hq with z | z
        · exact ⟨_,z.2 m (by omega)⟩
        · exact ⟨_,(z m (by omega)).1⟩
      obtain ⟨cs,d1,_,d3⟩:=jM (aD m) ps fun q hq=>by
        rcases hh q hq with z | z
        · exact ⟨_,lK n m q z.1 (by omega)⟩
        · exact ⟨_,(z m (by omega)).2⟩
      have r1:=qQ s p.gp m bs c1
      have r2:=holds_of s p.gp m cs d1
      have key:fq d=true∨∃ (i:Nat) (q:D),ps[i]?=some q∧∀ m,n≤m→bp m [q]=some (.bl true)∧aD m [q]=some (.bl true):=by
        by_cases hi:fq d=true
        · exact .inl hi
        · right
          have hi:fq d=false:=by simpa using hi
          apply Classical.byContradiction
          intro hno
          apply jx
          refine ⟨hi,fun q hq=>?_⟩
          rcases hh q hq with z | z
          · exact z
          · obtain ⟨i,hiq⟩:=List.getElem?_of_mem hq
            exact absurd ⟨i,q,hiq,z⟩ hno
      rcases key with hi | ⟨i,q,hiq,z⟩
      · rw [r1,r2,hi]; exact ⟨rfl,rfl⟩
      · have e1:=sa (c3 i q true hiq (z m (by omega)).1)
        have e2:=sa (d3 i q true hiq (z m (by omega)).2)
        rw [r1,r2,e1,e2,Bool.or_true]; exact ⟨rfl,rfl⟩
theorem oY {n:Nat}{t:Bool}{d:D}(h:Fm n t d)(m:Nat)(hm:n≤m) : ∃ b,aD m [d]=some (.bl b):=by
  rcases oX n t d h with z | z
  · exact ⟨_,lK n m d z.1 hm⟩
  · exact ⟨_,(z m hm).2⟩
theorem Put.Kr {g:D} : ∀ {f:D} {ks:List Nat} {b:Bool} {d':D},Put g f ks b d'→∀ n,Fm n false f→b=false:=by
  intro f ks b d' h
  induction h with
  | one s ht hk s' sm =>
    intro n hf
    rename_i f d' ps k p
    cases e:fq f with
    | false=>rfl
    | true=>exact absurd (hf.Az e) (by simp)
  | cons s ht hk w s' sm ih =>
    intro n hf
    rename_i f d' ps k j p p' ks b
    obtain ⟨n,rfl,pt⟩:=s.uni ht hf
    rw [ih n (pt.fm p (List.mem_of_getElem? hk)),Bool.or_false]
    cases e:fq f with
    | false=>rfl
    | true=>exact absurd (hf.Az e) (by simp)
theorem qR {mg:Nat}{u:Bool}{f g:D}(hg:Fm mg u g)(hh : ∀ m,mg≤m→aD m [g]=some (.bl true))(k m:Nat)(hm:mg+1≤m):aD m [kY f g k]=some (.bl true):=by
  unfold kY
  split
  · obtain ⟨m,rfl⟩ : ∃ m',m=m'+1:=⟨m - 1,by omega⟩
    have:=holds_of (.held g) (all_cons hg.tup all_nil) m [true] (lJ (aD m) true [g] (all_cons (hh m (by omega)) all_nil))
    simpa using this
  · exact hh m (by omega)
theorem lN {ps:List D}{k:Nat}(x:D)(hk:k<ps.length):(ps.set k x)[k]?=some x:=by
  rw [List.getElem?_set]; simp [hk]
theorem qS {n:Nat}{t:Bool}{f d' x:D}{ps:List D}{k:Nat}(pt:Pt n t f ps)(s:Sp d' (ps.set k x))(hx : ∃ l,x=.tup l)(hk:k<ps.length)(m:Nat)(hm:n≤m)(h:aD m [x]=some (.bl true)):aD (m+1) [d']=some (.bl true):=by
  obtain ⟨bs,c1,_,c3⟩:=jM (aD m) (ps.set k x) fun q hq=>by
    rcases mem_set hq with hq | rfl
    · exact oY (pt.fm q hq) m hm
    · exact ⟨_,h⟩
  have:=holds_of s (j3 pt.gp hx k) m bs c1
  rw [sa (c3 k x true (lN x hk) h),Bool.or_true] at this
  exact this
theorem Put.holds {g:D}{mg:Nat}{u:Bool}(hg:Fm mg u g)(hh : ∀ m,mg≤m→aD m [g]=some (.bl true)) : ∀ {f:D} {ks:List Nat} {b:Bool} {d':D},Put g f ks b d'→∀ n t,Fm n t f→∀ m,n≤m→ks.length+mg+1≤m→aD m [d']=some (.bl true):=by
  intro f ks b d' h
  induction h with
  | one s ht hk s' sm =>
    intro n t hf m hn hm
    rename_i f d' ps k p
    obtain ⟨n,rfl,pt⟩:=s.uni ht hf
    obtain ⟨m,rfl⟩ : ∃ m',m=m'+1:=⟨m - 1,by omega⟩
    exact qS pt s' (oW (f:=f) hg k).1.tup (List.getElem?_eq_some_iff.mp hk).1 m (by omega) (qR hg hh k m (by simp at hm; omega))
  | cons s ht hk w s' sm ih =>
    intro n t hf m hn hm
    rename_i f d' ps k j p p' ks b
    obtain ⟨n,rfl,pt⟩:=s.uni ht hf
    obtain ⟨m,rfl⟩ : ∃ m',m=m'+1:=⟨m - 1,by omega⟩
    exact qS pt s' w.tup (List.getElem?_eq_some_iff.mp hk).1 m (by omega) (ih n t (pt.fm p (List.mem_of_getElem? hk)) m (by omega) (by simp at hm ⊢; omega))
theorem um (H:List D→Option D)(d:D)(qs:List D)(k:Nat)(pk:D)(hk:qs[k]?=some pk)(hb:H [pk]=some (.bl false))(hH : ∀ (i:Nat) (p:D),i<k→qs[i]?=some p→H [p]=some (.bl true)∧bK [p]=some (.int (lev p))∧bf d i≤lev p)(hle : ∀ i:Nat,aR [d,.int i]=some (.int (bf d i))) :
    ∀ (rest:List D) (i:Nat) (s2 s3:Slot),qs.drop i=rest→i≤k→∃ e,runFor (nO [2,3]) (bN (jy (fK (ftB (aC 1 H (ah (ae 3) ay)))) (ftB (fp2 (intD ltI) (aC 1 bK (ah (ae 3) ay)) (aC 2 aR (ah (ae 0) (ah (ae 2) ay)))))) (aK (feC (.bl false))) aP) (qw i rest) [.val d,.val (.lst qs),s2,s3]=some (.rt (.bl false) e)
  | [],i,s2,s3,hd,hi=>by
    have h1:k<qs.length:=(List.getElem?_eq_some_iff.mp hk).1
    have h2:=congrArg List.length hd
    simp at h2
    omega
  | p::rest,i,s2,s3,hd,hi=>by
    have hil:i<qs.length:=by
      have:=congrArg List.length hd
      simp at this; omega
    have hx:qs[i]?=some p:=by
      have:=congrArg (fun l=>l[0]?) hd
      simpa using this
    have hd':qs.drop (i+1)=rest:=by
      rw [List.drop_eq_getElem_cons hil] at hd
      exact (List.cons.inj hd).2
    by_cases e:i=k
    · subst e
      rw [hk] at hx
      have e2:pk=p:=Option.some.inj hx
      subst e2
      rw [kQ,jG]
      simp [hb]
    · obtain ⟨h1,h2,h4⟩:=hH i p (by omega) hx
      have h3:=hle i
      have h5 : ¬ lev p<bf d i:=by omega
      rw [kQ,cm (e1:=[.val d,.val (.lst qs),.val (.int i),.val p]) (e2:=[.val d,.val (.lst qs),.val (.int i),.val p]) (by simp) (by simp [h1,h2,h3,h5])]
      exact um H d qs k pk hk hb hH hle rest (i+1) _ _ hd' (by omega)
theorem uo {d:D}{qs:List D}(s:Sp d qs)(ht:jl qs)(m k:Nat)(pk:D)(hk:qs[k]?=some pk)(hb:bz m [pk]=some (.bl false))(hH : ∀ (i:Nat) (p:D),i<k→qs[i]?=some p→bz m [p]=some (.bl true)∧bK [p]=some (.int (lev p))∧bf d i≤lev p):bz (m+1) [d]=some (.bl false):=by
  obtain ⟨e,hlp⟩:=um (bz m) d qs k pk hk hb hH s.least qs 0 .no .no rfl (by omega)
  have hs:=s.shell ht
  have pb:=s.parts ht
  have hl:qs.length≤1000000:=by have:=s.len; omega
  simp only [bz,ak,gy,envOf]
  simp [hs,pb,n8,hlp,hl]
theorem wH {n N:Nat}{t:Bool}{f d' x:D}{ps:List D}{k:Nat}(pt:Pt n t f ps)(htab:fq f=true)(s:Sp d' (ps.set k x))(sm:aG f d')(hk:k<ps.length)(hx:Fm N true x)(hlx:bf f k≤lev x)(hh:aD 16 [x]=some (.bl true))(m:Nat)(hn:n≤m)(hN:N≤m)(hm:m≤16):bz (m+1) [d']=some (.bl false):=by
  have ht:=j3 pt.gp hx.tup k
  have hf : ∀ q∈ps.set k x,Fm m true q:=fun q hq=>by
    rcases mem_set hq with hq | rfl
    · exact ((pt.fm q hq).le hn).tt
    · exact hx.le hN
  obtain ⟨t2,t3,hlp⟩:=kU (bz m) d' (ps.set k x) (fun q hq=>nr m m true q (hf q hq) (by omega) hm) (fun q hq=>jL (hf q hq)) s.least (fun i y hy=>by
    rw [sm.least i]
    rcases vA hy with ⟨rfl,rfl⟩ | ⟨_,hy⟩
    · exact hlx
    · exact pt.lv i y hy) (ps.set k x) 0 .no .no rfl
  obtain ⟨bs,c1,_,c3⟩:=jM (aD 16) (ps.set k x) fun q hq=>oY (hf q hq) 16 hm
  have ha:=lI bs
  rw [sa (c3 k x true (lN x hk) hh)] at ha
  have hs:=s.shell ht
  have pb:=s.parts ht
  have hl:(ps.set k x).length≤1000000:=by have:=s.len; omega
  have hcap : ∀ a b c d:Slot,dm 1 [] [a,b,c,d]=[.no]:=fun _ _ _ _=>rfl
  obtain ⟨kk,r,rfl,hkk⟩:=wG s
  rw [sm.tab,htab] at hkk
  generalize ps.set k x=QS at *
  generalize bs.map D.bl=T at *
  simp only [bz,ak,gy,envOf]
  simp [hs,pb,n8,hlp,hl,hkk,hcap,c1,ha]
theorem Put.bad {g:D}{mg:Nat}(hg:Fm mg true g)(hh : ∀ m,mg≤m→aD m [g]=some (.bl true)) : ∀ {f:D} {ks:List Nat} {b:Bool} {d':D},Put g f ks b d'→b=true→∀ n t,Fm n t f→∀ m,n≤m→ks.length+mg+1≤m→m≤16→bz m [d']=some (.bl false):=by
  intro f ks b d' h
  induction h with
  | one s ht hk s' sm =>
    intro hb n t hf m hn hm h16
    rename_i f d' ps k p
    obtain ⟨n,rfl,pt⟩:=s.uni ht hf
    obtain ⟨m,rfl⟩ : ∃ m',m=m'+1:=⟨m - 1,by omega⟩
    obtain ⟨x1,x2,_⟩:=oW (f:=f) hg k
    exact wH pt hb s' sm (List.getElem?_eq_some_iff.mp hk).1 x1 x2 (qR hg hh k 16 (by simp at hm; omega)) m (by omega) (by simp at hm; omega) (by omega)
  | cons s ht hk w s' sm ih =>
    intro hb n t hf m hn hm h16
    rename_i f d' ps k j p p' ks b
    obtain ⟨n,rfl,pt⟩:=s.uni ht hf
    obtain ⟨m,rfl⟩ : ∃ m',m=m'+1:=⟨m - 1,by omega⟩
    have hl:=(List.getElem?_eq_some_iff.mp hk).1
    have hpm:=List.mem_of_getElem? hk
    have hm':(j::ks).length+mg+1≤m:=by simp at hm ⊢; omega
    cases e:fq f with
    | true =>
      have hp:=pt.tab e p hpm
      have nb:=w.Kr n hp
      obtain ⟨f1,_⟩:=w.fm n m mg false true hp hg (fun z=>by rw [nb] at z; cases z) (by omega) hm'
      have h2:=w.holds hg hh n false hp 16 (by omega) (by omega)
      exact wH pt e s' sm hl f1 (by rw [w.same.lev]; exact pt.lv k p hk) h2 m (by omega) (by omega) (by omega)
    | false =>
      rw [e,Bool.false_or] at hb
      have hi:=ih hb n t (pt.fm p hpm) m (by omega) hm' (by omega)
      refine uo s' (j3 pt.gp w.tup k) m k p' (lN p' hl) hi fun i q hik hq=>?_
      rcases vA hq with ⟨z,_⟩ | ⟨_,hq⟩
      · omega
      · have hfq:=pt.fm q (List.mem_of_getElem? hq)
        exact ⟨nr n m t q hfq (by omega) (by omega),jL hfq,by rw [sm.least i]; exact pt.lv i q hq⟩
theorem vB {d:D}(h:bz 16 [d]=some (.bl false)):dS [d]=some (.bl false):=by
  simp only [dS,ak,gk,envOf]
  simp [h]
theorem y4 {d:D}{ps:List D}(s:Sp d ps)(ht:jl ps){k:Nat}{p:D}(hk:ps[k]?=some p)(a b s4:Slot):gg [a,b,.val d,.val (.int k),s4]=some (.nx [a,b,.val p,.val (.int k),.val (.lst ps)]):=by
  have hl:k<ps.length:=(List.getElem?_eq_some_iff.mp hk).1
  have h1:((k:Int)<(ps.length:Nat)):=by omega
  have hk':ps[k]=p:=(List.getElem?_eq_some_iff.mp hk).2
  have hb:=s.parts ht
  simp [gg,hb,iN,hl,hk',h1]
theorem AD {f e:D}{ks:List Nat}{b:Bool}(h:Way f ks b e)(a a1:Slot) : ∀ (s3 s4:Slot), ∃ t3 t4,runFor (aJ 3) gg (ks.map (fun k=>D.int (k:Nat))) [a,a1,.val f,s3,s4]=some (.nx [a,a1,.val e,t3,t4]):=by
  induction h with
  | nil=>intro s3 s4; exact ⟨s3,s4,rfl⟩
  | cons s ht hk _ ih =>
    intro s3 s4
    obtain ⟨t3,t4,q⟩:=ih (.val (.int _)) (.val (.lst _))
    refine ⟨t3,t4, ?_⟩
    rw [List.map_cons,cm (by simp) (y4 s ht hk a a1 s4)]
    exact q
theorem CQ {f e:D}{ks:List Nat}{b:Bool}(h:Way f ks b e):eZ [f,.tup (ks.map (fun k=>D.int (k:Nat)))]=some e:=by
  obtain ⟨t3,t4,q⟩:=AD h (.val f) (.val (.tup (ks.map (fun k=>D.int (k:Nat))))) .no .no
  generalize ks.map (fun k=>D.int (k:Nat))=P at q
  simp only [eZ,ak,iT,envOf]
  simp [q]
theorem AE {n:Nat}{t:Bool}{d:D}(h:Fm n t d)(hn:n≤12)(hc:cn d≤300):eF [d]=some d:=by
  have:=rZ h hn hc
  simp only [eF,ak,iq,envOf]
  simp [this]
theorem G9 {d:D}(h:bz 16 [d]=some (.bl false)):eF [d]=none∧iW [d]=some 4:=by
  have:=vB h
  refine ⟨?_, ?_⟩
  · simp only [eF,ak,iq,envOf]
    simp [this]
  · simp only [iW,tM,iq,envOf]
    simp [this]
theorem wI {f P g e d:D}(h1:eZ [f,P]=some e)(h2:cA [f,P,g]=some d)(h3:eF [d]=some d):dc [f,P,g]=some d:=by
  simp only [dc,ak,iu,envOf]
  simp [kT,h1,h2,h3,tO,FV]
theorem Ga {f P g e d:D}(h1:eZ [f,P]=some e)(h2:cA [f,P,g]=some d)(h3:eF [d]=none∧iW [d]=some 4):cL [f,P,g]=some (.bl true):=by
  have a:dc [f,P,g]=none:=by
    simp only [dc,ak,iu,envOf]
    simp [kT,h1,h2,h3.1,h3.2,tO]
  have b:iY [f,P,g]=some 4:=by
    simp only [iY,tM,iu,envOf]
    simp [kT,h1,h2,h3.1,h3.2,tO]
  simp only [cL,ak,fD,envOf]
  simp [Aa,a,b,Cu]
theorem AF {f d:D}{ks:List Nat}{b:Bool}{m:Nat}(h:Way f ks b d)(hd:Fm m true d)(h9:ks.length≤900)(c:Int)(S s4 s5 s6:Slot) : ∃ ks' b' m' d' t5 t6,eY [.val d,S,.val (.tup (ks.map fun k=>D.int (k:Nat))),.val (.bl b),.val (.int c),s5,s6]=some (.nx [.val d',S,.val (.tup (ks'.map fun k=>D.int (k:Nat))),.val (.bl b'),.val (.int c),t5,t6])∧Way f ks' b' d'∧Fm m' true d'∧ks'.length≤ks.length+1:=by
  obtain ⟨m,rfl⟩ : ∃ m',m=m'+1:=by
    cases m with
    | zero=>cases hd
    | succ m=>exact ⟨m,rfl⟩
  obtain ⟨ps,s,pt⟩:=Sp.of hd
  have hlp:=s.mw pt.gp
  cases hq:ps with
  | nil =>
    subst hq
    refine ⟨ks,b,_,d,.val (.lst []),s6, ?_,h,hd,by omega⟩
    have e1:eqN 100 (.lst []) (.lst [])=some true:=rfl
    generalize ks.map (fun k=>D.int (k:Nat))=P
    simp [eY,hlp,e1]
  | cons p qs =>
    have hl : 0<ps.length:=by rw [hq]; simp
    obtain ⟨k,e2,hk⟩:=fE (c * 48271 % 2147483647) ps.length hl
    have hg:ps[k]?=some ps[k]:=List.getElem?_eq_getElem hk
    have e1:eqN 100 (.lst ps) (.lst [])=some false:=by
      rw [hq]
      simp [eqN]
    refine ⟨ks++[k],b || fq d,_,ps[k],.val (.lst ps),.val (.int k), ?_,h.snoc s pt.gp hg,pt.fm _ (List.mem_of_getElem? hg),by simp⟩
    have l2:ks.length+1≤1000000:=by omega
    have hl':(0:Int)<(ps.length:Nat):=by omega
    have hm:=i9 c 48271 (by decide)
    obtain ⟨kk,r,ed,hkk⟩:=wG s
    have hix:ixD d (.int 0)=some (.str kk):=by rw [ed]; simp
    rw [← hkk]
    generalize ps[k]=pk at *
    cases b <;> simp [eY,hlp,e1,iN,e2,hg,l2,hl,hl',g0,hm,hix]
theorem uq {f:D}(S:Slot) : ∀ (cs:List Int) {d:D} {ks:List Nat} {b:Bool} {m:Nat} (_:Way f ks b d) (_:Fm m true d) (_:ks.length+cs.length≤900) (s4 s5 s6:Slot), ∃ ks' b' d' t4 t5 t6,runFor (aJ 4) eY (cs.map .int) [.val d,S,.val (.tup (ks.map fun k=>D.int (k:Nat))),.val (.bl b),s4,s5,s6]=some (.nx [.val d',S,.val (.tup (ks'.map fun k=>D.int (k:Nat))),.val (.bl b'),t4,t5,t6])∧Way f ks' b' d'∧ks'.length≤ks.length+cs.length
  | [],d,ks,b,m,h,_,_,s4,s5,s6=>⟨ks,b,d,s4,s5,s6,rfl,h,by simp⟩
  | c::cs,d,ks,b,m,h,hd,hl,s4,s5,s6=>by
    simp only [List.length_cons] at hl
    obtain ⟨ks1,b1,m1,d1,t5,t6,q1,h1,hd1,l1⟩:=AF h hd (by omega) c S s4 s5 s6
    obtain ⟨ks2,b2,d2,u4,u5,u6,q2,h2,l2⟩:=uq S cs h1 hd1 (by omega) (.val (.int c)) t5 t6
    refine ⟨ks2,b2,d2,u4,u5,u6, ?_,h2,by simp; omega⟩
    rw [List.map_cons,cm (by simp) q1]
    exact q2
theorem Gb {f:D}{n:Nat}(hf:Fm n true f)(cs:List Int)(hc:cs.length≤50) : ∃ ks b d,iS [f,.lst (cs.map .int)]=some (.tup [.tup (ks.map fun k=>D.int (k:Nat)),.bl b])∧Way f ks b d∧ks.length≤cs.length:=by
  obtain ⟨ks,b,d,t4,t5,t6,q,h,l⟩:=uq (.val (.lst (cs.map .int))) cs (.nil (d:=f)) hf (by simp; omega) .no .no .no
  refine ⟨ks,b,d, ?_,h,by simpa using l⟩
  rw [List.map_nil] at q
  generalize cs.map D.int=N at q
  generalize (D.tup (ks.map fun k=>D.int (k:Nat)))=P at q
  simp only [iS,ak,jW,envOf]
  simp [q]
theorem qT {x:D} : ∀ (ps:List D) (k:Nat),(ps.set k x).take k=ps.take k
  | [],k=>by simp
  | p::ps,0=>by simp
  | p::ps,k+1=>by rw [List.set_cons_succ,List.take_succ_cons,List.take_succ_cons,qT ps k]
theorem qU {x:D} : ∀ (ps:List D) (k:Nat),(ps.set k x).drop (k+1)=ps.drop (k+1)
  | [],k=>by simp
  | p::ps,0=>by simp
  | p::ps,k+1=>by rw [List.set_cons_succ,List.drop_succ_cons,List.drop_succ_cons,qU ps k]
theorem CT {n:Nat}{t:Bool}{f d' x:D}{ps:List D}{k:Nat}(s:Sp f ps)(pt:Pt n t f ps)(hn:n≤30)(s':Sp d' (ps.set k x))(hx : ∃ l,x=.tup l)(sm:aG f d'):iw [f,d',.int k]=some (.bl true):=by
  have l1:=s.mw pt.gp
  have l2:=s'.mw (j3 pt.gp hx k)
  obtain ⟨kk,r,r',fr,rfl,rfl,hr,f1,f2,f3⟩:=sm.fr
  have eqs : ∀ qs:List D,(∀ q∈qs,q∈ps)→eqN 100 (.lst qs) (.lst qs)=some true:=fun qs hq=>Ax 99 qs fun q hm=>by
    have:=(pt.fm q (hq q hm)).eq (98 - 3 * n)
    rwa [show 3 * n+1+(98 - 3 * n)=99 by omega] at this
  have q1:=eqs (ps.take k) fun q hq=>List.mem_of_mem_take hq
  have q2:=eqs (ps.drop (k+1)) fun q hq=>List.mem_of_mem_drop hq
  have c1:cutD ps none (some (k:Int))=ps.take k:=ma ps k
  have c2:cutD (ps.set k x) none (some (k:Int))=ps.take k:=by rw [ma,qT]
  have c3:cutD ps (some ((k:Int)+1)) none=ps.drop (k+1):=by
    have:=jB ps (k+1)
    rwa [show ((k+1:Nat):Int)=(k:Int)+1 by omega] at this
  have c4:cutD (ps.set k x) (some ((k:Int)+1)) none=ps.drop (k+1):=by
    have:=jB (ps.set k x) (k+1)
    rw [show ((k+1:Nat):Int)=(k:Int)+1 by omega] at this
    rw [this,qU]
  have hlen:(ps.set k x).length=ps.length:=by simp
  have e0:eqN 100 (.tup (.str kk::r')) (.tup [])=some false:=by rfl
  generalize ps.take k=T at *
  generalize ps.drop (k+1)=U at *
  generalize ps.set k x=QS at *
  simp only [iw,ak,jk,envOf]
  simp [e0,f1,f2,f3,l1,l2,hlen,c1,c2,c3,c4,q1,q2,hr]
theorem ur {n:Nat}{t:Bool}{f d' x p:D}{ps:List D}{k:Nat}(s:Sp f ps)(pt:Pt n t f ps)(hn:n≤30)(hk:ps[k]?=some p)(s':Sp d' (ps.set k x))(hx : ∃ l,x=.tup l)(sm:aG f d')(a0 a2 a3 a4 a5 a7:Slot):gR [a0,.val f,a2,a3,a4,a5,.val d',a7,.val (.int k)]=some (.nx [a0,.val p,a2,a3,a4,a5,.val x,.val (.int (bf f k)),.val (.int k)]):=by
  have h1:=CT s pt hn s' hx sm
  have h2:=s.G7 k
  have l1:=s.mw pt.gp
  have l2:=s'.mw (j3 pt.gp hx k)
  have hl:=(List.getElem?_eq_some_iff.mp hk).1
  have g1:atI ps (k:Int)=some p:=by rw [iN]; exact hk
  have g2:atI (ps.set k x) (k:Int)=some x:=by rw [iN]; exact lN x hl
  generalize ps.set k x=QS at *
  simp [gR,h1,h2,l1,l2,g1,g2]
theorem CU {g:D}{mg:Nat}{u:Bool}(hg:Fm mg u g)(a0 a2 a3 a4 a5:Slot) : ∀ {f:D} {ks:List Nat} {b:Bool} {d':D},Put g f ks b d'→∀ n t,Fm n t f→n≤30→∀ a7 a8:Slot, ∃ (fl:D) (f2:D) (k2:Nat) (t8:Slot),runFor (aJ 8) gR (ks.map fun k=>D.int (k:Nat)) [a0,.val f,a2,a3,a4,a5,.val d',a7,a8]=some (.nx [a0,.val fl,a2,a3,a4,a5,.val (kY f2 g k2),.val (.int (bf f2 k2)),t8]):=by
  intro f ks b d' h
  induction h with
  | one s ht hk s' sm =>
    intro n t hf hn a7 a8
    rename_i f d' ps k p
    obtain ⟨n,rfl,pt⟩:=s.uni ht hf
    refine ⟨p,f,k,.val (.int k), ?_⟩
    rw [List.map_cons,cm (by simp) (ur s pt (by omega) hk s' (oW (f:=f) hg k).1.tup sm a0 a2 a3 a4 a5 a7)]
    rfl
  | cons s ht hk w s' sm ih =>
    intro n t hf hn a7 a8
    rename_i f d' ps k j p p' ks b
    obtain ⟨n,rfl,pt⟩:=s.uni ht hf
    obtain ⟨fl,f2,k2,t8,q⟩:=ih n t (pt.fm p (List.mem_of_getElem? hk)) (by omega) (.val (.int (bf f k))) (.val (.int k))
    refine ⟨fl,f2,k2,t8, ?_⟩
    rw [List.map_cons,cm (by simp) (ur s pt (by omega) hk s' w.tup sm a0 a2 a3 a4 a5 a7)]
    exact q
theorem Gd (ns:List Int)(hl:ns.length≤63):qF [.lst (ns.map .int)]=some (.bl true):=by
  obtain ⟨f,qf,hf,cf⟩:=oH (ns.take 20)
  obtain ⟨g,qg,hg,cg⟩:=oH ((ns.drop 20).take 10)
  have c1:cutD (ns.map D.int) none (some 20)=(ns.take 20).map .int:=by
    have:=ma (ns.map D.int) 20
    rw [← List.map_take] at this; exact this
  have c2:cutD (ns.map D.int) (some 20) (some 30)=((ns.drop 20).take 10).map .int:=by
    have:=rG (ns.map D.int) 20 30
    rw [← List.map_drop, ← List.map_take] at this; exact this
  have hN:(ns.map D.int).length=ns.length:=by simp
  have hst : ∃ st:Nat,st≤5∧((∃ v,(30:Int)<ns.length∧30<ns.length∧atI (ns.map D.int) 30=some (.int v)∧v % 6=(st:Int))∨(¬ (30:Int)<ns.length∧¬ 30<ns.length∧st=5)):=by
    by_cases h : 30<ns.length
    · obtain ⟨st,e,h6⟩:=fE ns[30] 6 (by decide)
      refine ⟨st,by omega,.inl ⟨ns[30],by omega,h, ?_,e⟩⟩
      have:=iN (ns.map D.int) 30
      rw [List.getElem?_map,List.getElem?_eq_getElem h] at this
      exact this
    · exact ⟨5,by omega,.inr ⟨by omega,h,rfl⟩⟩
  obtain ⟨st,h5,hst⟩:=hst
  have hcl:((ns++[1,2,3,4,5]).take st).length≤5:=by simp; omega
  obtain ⟨ks,b,e,hw,W,hkl⟩:=Gb hf ((ns++[1,2,3,4,5]).take st) (by omega)
  have hcs:cutD (ns.map D.int++[.int 1,.int 2,.int 3,.int 4,.int 5]) none (some (st:Int))=((ns++[1,2,3,4,5]).take st).map .int:=by
    have:=ma ((ns++[1,2,3,4,5]).map D.int) st
    rw [← List.map_take,List.map_append] at this; exact this
  have ha:ns.length+5≤1000000:=by omega
  have hpart:=CQ W
  have hlev:=Am hg
  have e2:eqN 100 g g=some true:=hg.DJ (by omega)
  have e3:eqN 100 (.tup [.str [104,101,108,100],g]) (.tup [.str [104,101,108,100],g])=some true:=(Fm.held 6 true g hg).DJ (by omega)
  obtain ⟨gl,egl⟩:=hg.tup
  have hins:g8 .tuple g=some (.bl true):=by rw [egl]; simp
  clear egl gl
  have main:(b=true∧bA [g]=some (.bl true)∧cL [f,.tup (ks.map fun k=>D.int (k:Nat)),g]=some (.bl true))∨((b=false∨bA [g]=some (.bl false))∧∃ M,dc [f,.tup (ks.map fun k=>D.int (k:Nat)),g]=some M∧∀ a0 a2 a3 a4 a5 a8:Slot, ∃ (fl X t8 : _) (L:Int),runFor (aJ 8) gR (ks.map fun k=>D.int (k:Nat)) [a0,.val f,a2,a3,a4,a5,.val M,.val (.int 0),a8]=some (.nx [a0,.val fl,a2,a3,a4,a5,.val X,.val (.int L),t8])∧((lev g<L∧X=.tup [.str [104,101,108,100],g])∨(¬ lev g<L∧X=g))):=by
    by_cases hk0:ks=[]
    · subst hk0
      right
      have hb:b=false:=by cases W; rfl
      have hW:cA [f,.tup [],g]=some g:=by
        have e1:eqN 100 (.tup []) (.tup [])=some true:=by rfl
        show bG 5 (d8 (d9 15)) _=_
        generalize d9 15=DN
        simp only [ak,d8,envOf]
        simp [e1]
      have:=mq g
      exact ⟨.inl hb,g,wI hpart hW (AE hg (by omega) (by omega)),fun a0 a2 a3 a4 a5 a8=>⟨f,g,a8,0,rfl,.inr ⟨by omega,rfl⟩⟩⟩
    · obtain ⟨d',hW,hP⟩:=AA hg ks f b e W hk0 16 (by omega) (by omega)
      have fine:(b=true→Fm 6 false g)→∃ M,dc [f,.tup (ks.map fun k=>D.int (k:Nat)),g]=some M∧∀ a0 a2 a3 a4 a5 a8:Slot, ∃ (fl X t8 : _) (L:Int),runFor (aJ 8) gR (ks.map fun k=>D.int (k:Nat)) [a0,.val f,a2,a3,a4,a5,.val M,.val (.int 0),a8]=some (.nx [a0,.val fl,a2,a3,a4,a5,.val X,.val (.int L),t8])∧((lev g<L∧X=.tup [.str [104,101,108,100],g])∨(¬ lev g<L∧X=g)):=fun hb=>by
        have hd : ∃ v,Fm 12 v d'∧cn d'≤300:=by
          cases hbb:b with
          | true =>
            obtain ⟨z1,z2⟩:=hP.fm 6 12 6 true false hf (hb hbb) (fun _=>rfl) (by omega) (by omega)
            exact ⟨_,z1,by omega⟩
          | false =>
            obtain ⟨z1,z2⟩:=hP.fm 6 12 6 true true hf hg (fun z=>by rw [hbb] at z; cases z) (by omega) (by omega)
            exact ⟨_,z1,by omega⟩
        obtain ⟨v,z1,z2⟩:=hd
        refine ⟨d',wI hpart hW (AE z1 (by omega) z2),fun a0 a2 a3 a4 a5 a8=>?_⟩
        obtain ⟨fl,f2,k2,t8,q⟩:=CU hg a0 a2 a3 a4 a5 hP 6 true hf (by omega) (.val (.int 0)) a8
        refine ⟨fl,_,t8,_,q, ?_⟩
        unfold kY
        by_cases z:lev g<bf f2 k2
        · exact .inl ⟨z,if_pos z⟩
        · exact .inr ⟨z,if_neg z⟩
      rcases oX 6 true g hg with ⟨h1,h2⟩ | h1
      · exact .inr ⟨.inr (h2 16 (by omega)),fine fun _=>h1⟩
      · cases hb:b with
        | true =>
          left
          exact ⟨rfl,(h1 16 (by omega)).1,Ga hpart hW (G9 (hP.bad hg (fun m hm=>(h1 m hm).2) hb 6 true hf 16 (by omega) (by omega) (by omega)))⟩
        | false=>exact .inr ⟨.inl rfl,fine fun z=>by rw [hb] at z; cases z⟩
  clear hpart W hkl hcl
  generalize (ns.take 20).map D.int=N20 at *
  generalize ((ns.drop 20).take 10).map D.int=N10 at *
  generalize ((ns++[1,2,3,4,5]).take st).map D.int=CS at *
  generalize ks.map (fun k=>D.int (k:Nat))=P at *
  generalize ns.map D.int=N at *
  generalize ns.length=nl at *
  have hN':(N.length:Int)=nl:=by omega
  have ht16:bp 16=bA:=rfl
  have step : ∀ (R:Option DFl→Prop),True:=fun _=>trivial
  rcases main with ⟨rfl,t1,t2⟩ | ⟨hb,M,m1,m2⟩
  · simp only [qF,ak,tV,envOf]
    rcases hst with ⟨v,hgt,hgt2,a30,est⟩ | ⟨hgt,hgt2,rfl⟩
    · simp [qf,qg,c1,c2,hN,hgt,hgt2,a30,g0,est,ha,hcs,hw,t1,t2]
    · have hcs:cutD (N++[.int 1,.int 2,.int 3,.int 4,.int 5]) none (some 5)=CS:=hcs
      simp [qf,qg,c1,c2,hN,hgt,hgt2,ha,hcs,hw,t1,t2]
  · obtain ⟨fl,X,t8,L,q,hX⟩:=m2 (.val (.lst N)) (.val g) (.val (.int st)) (.val (.tup P)) (.val (.bl b)) .no
    simp only [qF,ak,tV,envOf]
    rcases hst with ⟨v,hgt,hgt2,a30,est⟩ | ⟨hgt,hgt2,rfl⟩
    · rcases hX with ⟨z1,rfl⟩ | ⟨z1,rfl⟩
      · cases b with
        | false=>simp [qf,qg,c1,c2,hN,hgt,hgt2,a30,g0,est,ha,hcs,hw,m1,q,hlev,z1,e3]
        | true =>
          have t1:bA [g]=some (.bl false):=by
            rcases hb with hb | hb
            · cases hb
            · exact hb
          simp [qf,qg,c1,c2,hN,hgt,hgt2,a30,g0,est,ha,hcs,hw,t1,m1,q,hlev,z1,e3]
      · cases b with
        | false=>simp [qf,qg,c1,c2,hN,hgt,hgt2,a30,g0,est,ha,hcs,hw,m1,q,hlev,z1,e2,hins]
        | true =>
          have t1:bA [X]=some (.bl false):=by
            rcases hb with hb | hb
            · cases hb
            · exact hb
          simp [qf,qg,c1,c2,hN,hgt,hgt2,a30,g0,est,ha,hcs,hw,t1,m1,q,hlev,z1,e2,hins]
    · have hcs:cutD (N++[.int 1,.int 2,.int 3,.int 4,.int 5]) none (some 5)=CS:=hcs
      have q:runFor (aJ 8) gR P [.val (.lst N),.val f,.val g,.val (.int 5),.val (.tup P),.val (.bl b),.val M,.val (.int 0),.no]=_:=q
      rcases hX with ⟨z1,rfl⟩ | ⟨z1,rfl⟩
      · cases b with
        | false=>simp [qf,qg,c1,c2,hN,hgt,hgt2,ha,hcs,hw,m1,q,hlev,z1,e3]
        | true =>
          have t1:bA [g]=some (.bl false):=by
            rcases hb with hb | hb
            · cases hb
            · exact hb
          simp [qf,qg,c1,c2,hN,hgt,hgt2,ha,hcs,hw,t1,m1,q,hlev,z1,e3]
      · cases b with
        | false=>simp [qf,qg,c1,c2,hN,hgt,hgt2,ha,hcs,hw,m1,q,hlev,z1,e2,hins]
        | true =>
          have t1:bA [X]=some (.bl false):=by
            rcases hb with hb | hb
            · cases hb
            · exact hb
          simp [qf,qg,c1,c2,hN,hgt,hgt2,ha,hcs,hw,t1,m1,q,hlev,z1,e2,hins]
end K72
end
section
set_option maxHeartbeats 4000000
namespace K72
open PySem PySem.Spec PyProof.Rows L2 DL
theorem ex0 {us:List Value}(h:us.length=0):us=[]:=List.length_eq_zero_iff.mp h
theorem exS {n:Nat}{us:List Value}(h:us.length=n+1) : ∃ a t,us=a::t∧t.length=n:=by cases us with | nil=>cases h | cons a t=>exact ⟨a,t,rfl,Nat.succ.inj h⟩
theorem ex1 {us:List Value}(h:us.length=1) : ∃ a,us=[a]:=by obtain ⟨a,t,rfl,k⟩:=exS h; cases ex0 k; exact ⟨a,rfl⟩
theorem ex2 {us:List Value}(h:us.length=2) : ∃ a0 a1,us=[a0,a1]:=by obtain ⟨a0,t,rfl,k⟩:=exS h; obtain ⟨a1,rfl⟩:=ex1 k; exact ⟨a0,a1,rfl⟩
theorem ex3 {us:List Value}(h:us.length=3) : ∃ a0 a1 a2,us=[a0,a1,a2]:=by obtain ⟨a0,t,rfl,k⟩:=exS h; obtain ⟨a1,a2,rfl⟩:=ex2 k; exact ⟨a0,a1,a2,rfl⟩
noncomputable def top (i:Nat):Stmt:=PySem.Challenge.pw_inkform_k72_put_in_anywhere.main.body.getD i (.Pass ⟨0,0,0,0⟩)
abbrev dF:Stmt:=top 45
abbrev fS:Stmt:=top 46
abbrev dG:Stmt:=top 47
abbrev eH:Stmt:=top 49
abbrev eI:Stmt:=top 48
abbrev eJ:Stmt:=top 43
abbrev eK:Stmt:=top 44
abbrev eL:Stmt:=top 50
abbrev cM:Stmt:=top 51
abbrev dH:Stmt:=top 52
abbrev fT:Stmt:=top 57
abbrev eM:Stmt:=top 28
abbrev eN:Stmt:=top 27
abbrev fU:Stmt:=top 36
abbrev fV:Stmt:=top 20
abbrev bM:Stmt:=top 21
abbrev df:Stmt:=top 22
abbrev dI:Stmt:=top 24
abbrev dJ:Stmt:=top 23
abbrev dM:Stmt:=top 19
abbrev eO:Stmt:=top 26
abbrev cN:Stmt:=top 31
abbrev cO:Stmt:=top 25
abbrev eP:Stmt:=top 18
abbrev eQ:Stmt:=top 29
abbrev eR:Stmt:=top 30
abbrev dg:Stmt:=top 17
abbrev gS:Stmt:=top 41
abbrev cC:Stmt:=top 33
abbrev cP:Stmt:=top 34
abbrev fW:Stmt:=top 32
abbrev fX:Stmt:=top 40
abbrev dN:Stmt:=top 39
abbrev gT:Stmt:=top 38
abbrev dh:Stmt:=top 54
abbrev cQ:Stmt:=top 58
abbrev dO:Stmt:=top 53
abbrev dP:Stmt:=top 55
abbrev eS:Stmt:=top 56
abbrev jN:Stmt:=top 59
theorem uu:aU ["one", "levels"] ["one"] (aj dF):=⟨rfl,rfl,rfl,by decide +kernel,rfl,by decide +kernel,by decide +kernel⟩
theorem y6:aU ["one", "least"] ["one", "least"] (aj fS):=⟨rfl,rfl,rfl,by decide +kernel,rfl,by decide +kernel,by decide +kernel⟩
theorem uv:aU ["some", "kind", "by", "least", "made", "signs", "k"] ["some", "kind", "by"] (aj dG):=⟨rfl,rfl,rfl,by decide +kernel,rfl,by decide +kernel,by decide +kernel⟩
theorem vC:aU ["way", "by"] ["way", "by"] (aj eH):=⟨rfl,rfl,rfl,by decide +kernel,rfl,by decide +kernel,by decide +kernel⟩
theorem vD:aU ["some", "way", "by", "item", "wide"] ["some", "way", "by"] (aj eI):=⟨rfl,rfl,rfl,by decide +kernel,rfl,by decide +kernel,by decide +kernel⟩
theorem vE:aU ["cell", "n", "size", "word", "k"] ["cell"] (aj eJ):=⟨rfl,rfl,rfl,by decide +kernel,rfl,by decide +kernel,by decide +kernel⟩
theorem vF:aU ["cell"] ["cell"] (aj eK):=⟨rfl,rfl,rfl,by decide +kernel,rfl,by decide +kernel,by decide +kernel⟩
theorem vG:aU ["stack", "cell", "way", "by", "many", "some", "deep", "tabled", "made"] ["stack", "cell"] (aj eL):=⟨rfl,rfl,rfl,by decide +kernel,rfl,by decide +kernel,by decide +kernel⟩
theorem pJ:aU ["script", "stack", "cell", "some", "by"] ["script"] (aj cM):=⟨rfl,rfl,rfl,by decide +kernel,rfl,by decide +kernel,by decide +kernel⟩
theorem uw:aU ["f", "some", "band"] ["f"] (aj dH):=⟨rfl,rfl,rfl,by decide +kernel,rfl,by decide +kernel,by decide +kernel⟩
theorem y7:aU ["f", "cells", "path", "tabled", "cell", "some", "n"] ["f", "cells"] (aj fT):=⟨rfl,rfl,rfl,by decide +kernel,rfl,by decide +kernel,by decide +kernel⟩
theorem vH:aU ["bands", "cells", "band"] ["bands"] (aj eM):=⟨rfl,rfl,rfl,by decide +kernel,rfl,by decide +kernel,by decide +kernel⟩
theorem vI:aU ["f", "kind"] ["f"] (aj eN):=⟨rfl,rfl,rfl,by decide +kernel,rfl,by decide +kernel,by decide +kernel⟩
theorem y8:aU ["f", "path", "part", "n", "parts"] ["f", "path"] (aj fU):=⟨rfl,rfl,rfl,by decide +kernel,rfl,by decide +kernel,by decide +kernel⟩
theorem y9:aU ["thing"] ["thing"] (aj fV):=⟨rfl,rfl,rfl,by decide +kernel,rfl,by decide +kernel,by decide +kernel⟩
theorem lO:aU ["thing"] ["thing"] (aj bM):=⟨rfl,rfl,rfl,by decide +kernel,rfl,by decide +kernel,by decide +kernel⟩
theorem sd:aU ["thing", "least", "most"] ["thing", "least", "most"] (aj df):=⟨rfl,rfl,rfl,by decide +kernel,rfl,by decide +kernel,by decide +kernel⟩
theorem ux:aU ["thing"] ["thing"] (aj dI):=⟨rfl,rfl,rfl,by decide +kernel,rfl,by decide +kernel,by decide +kernel⟩
theorem uy:aU ["thing", "number"] ["thing", "number"] (aj dJ):=⟨rfl,rfl,rfl,by decide +kernel,rfl,by decide +kernel,by decide +kernel⟩
theorem uz:aU ["thing", "kind"] ["thing"] (aj dM):=⟨rfl,rfl,rfl,by decide +kernel,rfl,by decide +kernel,by decide +kernel⟩
theorem vJ:aU ["f"] ["f"] (aj eO):=⟨rfl,rfl,rfl,by decide +kernel,rfl,by decide +kernel,by decide +kernel⟩
theorem pK:aU ["f", "n", "kind"] ["f", "n"] (aj cN):=⟨rfl,rfl,rfl,by decide +kernel,rfl,by decide +kernel,by decide +kernel⟩
theorem pL:aU ["f"] ["f"] (aj cO):=⟨rfl,rfl,rfl,by decide +kernel,rfl,by decide +kernel,by decide +kernel⟩
theorem vK:aU ["thing", "parts", "n", "part"] ["thing"] (aj eP):=⟨rfl,rfl,rfl,by decide +kernel,rfl,by decide +kernel,by decide +kernel⟩
theorem vL:aU ["f"] ["f"] (aj eQ):=⟨rfl,rfl,rfl,by decide +kernel,rfl,by decide +kernel,by decide +kernel⟩
theorem vM:aU ["f"] ["f"] (aj eR):=⟨rfl,rfl,rfl,by decide +kernel,rfl,by decide +kernel,by decide +kernel⟩
theorem se:aU ["thing"] ["thing"] (aj dg):=⟨rfl,rfl,rfl,by decide +kernel,rfl,by decide +kernel,by decide +kernel⟩
theorem AG:aU ["f"] ["f"] (aj gS):=⟨rfl,rfl,rfl,by decide +kernel,rfl,by decide +kernel,by decide +kernel⟩
theorem oZ:aU ["f", "some", "again", "taken", "mark"] ["f", "some"] (aj cC):=⟨rfl,rfl,rfl,by decide +kernel,rfl,by decide +kernel,by decide +kernel⟩
theorem pM:aU ["bands", "some", "wide"] ["bands", "some"] (aj cP):=⟨rfl,rfl,rfl,by decide +kernel,rfl,by decide +kernel,by decide +kernel⟩
theorem ya:aU ["f", "some", "kind"] ["f", "some"] (aj fW):=⟨rfl,rfl,rfl,by decide +kernel,rfl,by decide +kernel,by decide +kernel⟩
theorem yb:aU ["f", "n", "g"] ["f", "n", "g"] (aj fX):=⟨rfl,rfl,rfl,by decide +kernel,rfl,by decide +kernel,by decide +kernel⟩
theorem uA:aU ["f", "path", "g", "parts", "n"] ["f", "path", "g"] (aj dN):=⟨rfl,rfl,rfl,by decide +kernel,rfl,by decide +kernel,by decide +kernel⟩
theorem AH:aU ["f", "path", "g"] ["f", "path", "g"] (aj gT):=⟨rfl,rfl,rfl,by decide +kernel,rfl,by decide +kernel,by decide +kernel⟩
theorem sf:aU ["f"] ["f"] (aj dh):=⟨rfl,rfl,rfl,by decide +kernel,rfl,by decide +kernel,by decide +kernel⟩
theorem pN:aU ["f", "path", "g", "error", "e", "others"] ["f", "path", "g"] (aj cQ):=⟨rfl,rfl,rfl,by decide +kernel,rfl,by decide +kernel,by decide +kernel⟩
theorem uB:aU ["f", "n"] ["f", "n"] (aj dO):=⟨rfl,rfl,rfl,by decide +kernel,rfl,by decide +kernel,by decide +kernel⟩
theorem uC:aU ["f", "kind"] ["f"] (aj dP):=⟨rfl,rfl,rfl,by decide +kernel,rfl,by decide +kernel,by decide +kernel⟩
theorem vN:aU ["f", "made", "n", "some", "others"] ["f", "made", "n"] (aj eS):=⟨rfl,rfl,rfl,by decide +kernel,rfl,by decide +kernel,by decide +kernel⟩
theorem Jc:aU ["script", "f", "g", "steps", "path", "tabled", "made", "least", "n"] ["script"] (aj jN):=⟨rfl,rfl,rfl,by decide +kernel,rfl,by decide +kernel,by decide +kernel⟩
abbrev ct (C0 C1 C2 C3 C4:Addr):Ct:=⟨fun n=>[C0,C1,C2,C3,C4][n]?,fun i=>([]:List Str).getD i "!"⟩
structure Txt (P:Program)(w:World)(K:PySem.W.Frag)(mg:Str→Option Value)(C0 C1 C2 C3 C4:Addr):Prop where
  fg:mg "tuple"=none
  ny:mg "range"=none
  di:mg "len"=none
  AI:mg "int"=none
  AJ:mg "max"=none
  wJ:mg "any"=none
  si:mg "list"=none
  bD:mg "isinstance"=none
  AK:mg "str"=none
  wK:mg "all"=none
  Ge:mg "bool"=none
  uD:mg "enumerate"=none
  Jd:mg "sum"=none
  sj:mg "ValueError"=none
  qV : ∃ a,mg "LENGTHS"=some (.ref a)∧∀ h,K.In h→StrTab P w h a (PySem.W.kdpD (bT.map fun p=>(mkS p.1,p.2)))
  AL : ∃ a,mg "LEVELS"=some (.ref a)∧∀ h,K.In h→StrTab P w h a (PySem.W.kdpD (hV.map fun p=>(mkS p.1,p.2)))
  aw : ∃ v u,mg "ROW_KINDS"=some u∧RelV v u∧∀ A H,Rep ⟨K,(ct C0 C1 C2 C3 C4).cl,(ct C0 C1 C2 C3 C4).fld⟩ A H aw v
  cT : ∃ v u,mg "MOST_LETTERS"=some u∧RelV v u∧∀ A H,Rep ⟨K,(ct C0 C1 C2 C3 C4).cl,(ct C0 C1 C2 C3 C4).fld⟩ A H cT v
  cX : ∃ v u,mg "SMALL_LETTERS"=some u∧RelV v u∧∀ A H,Rep ⟨K,(ct C0 C1 C2 C3 C4).cl,(ct C0 C1 C2 C3 C4).fld⟩ A H cX v
  cD : ∃ v u,mg "GREATEST_NUMBER"=some u∧RelV v u∧∀ A H,Rep ⟨K,(ct C0 C1 C2 C3 C4).cl,(ct C0 C1 C2 C3 C4).fld⟩ A H cD v
  bR : ∃ v u,mg "MOST_IN_TABLE"=some u∧RelV v u∧∀ A H,Rep ⟨K,(ct C0 C1 C2 C3 C4).cl,(ct C0 C1 C2 C3 C4).fld⟩ A H bR v
  cj : ∃ v u,mg "MOST_PARTS"=some u∧RelV v u∧∀ A H,Rep ⟨K,(ct C0 C1 C2 C3 C4).cl,(ct C0 C1 C2 C3 C4).fld⟩ A H cj v
  eV : ∃ v u,mg "MOST_DEPTH"=some u∧RelV v u∧∀ A H,Rep ⟨K,(ct C0 C1 C2 C3 C4).cl,(ct C0 C1 C2 C3 C4).fld⟩ A H eV v
  eW : ∃ v u,mg "MOST_COUNT"=some u∧RelV v u∧∀ A H,Rep ⟨K,(ct C0 C1 C2 C3 C4).cl,(ct C0 C1 C2 C3 C4).fld⟩ A H eW v
  yc:CB K mg (ct C0 C1 C2 C3 C4) "NoPart" 2
  lP:CB K mg (ct C0 C1 C2 C3 C4) "NoFormula" 4
  ye:tU K mg (ct C0 C1 C2 C3 C4) "NoPart" [2]
  yf:tU K mg (ct C0 C1 C2 C3 C4) "NoLine" [1]
  sk:tU K mg (ct C0 C1 C2 C3 C4) "NoDrawing" [3]
  uE:tU K mg (ct C0 C1 C2 C3 C4) "InkError" [0,1,2,3,4]
  iv:DG K (ct C0 C1 C2 C3 C4) [0,1,2,3,4]
def qW (P:Nat→Addr→Prop):Nat→List Addr→Prop
  | _,[]=>True
  | n,a::l=>P n a∧qW P (n+1) l
theorem AM {P:Nat→Addr→Prop}{n:Nat}:qW P n []:=trivial
theorem gY {P:Nat→Addr→Prop}{n:Nat}{a:Addr}{l:List Addr}(h:P n a)(r:qW P (n+1) l):qW P n (a::l):=⟨h,r⟩
theorem DM {P:Nat→Addr→Prop} : ∀ {l:List Addr} {m:Nat},qW P m l→∀ n C,l[n]?=some C→P (m+n) C
  | [],_,_,n,C,h=>by simp at h
  | a::l,m,⟨h1,h2⟩,0,C,h=>by simp at h; subst h; exact h1
  | a::l,m,⟨h1,h2⟩,n+1,C,h=>by
    have:=DM h2 n C (by simpa using h)
    rwa [show m+1+n=m+(n+1) by omega] at this
theorem p9 {P:Nat→Addr→Prop}{l:List Addr}(h:qW P 0 l) : ∀ n C,l[n]?=some C→P n C:=fun n C e=>by
  have:=DM h n C e
  rwa [Nat.zero_add] at this
section
variable {P:Program}{w:World}{K:PySem.W.Frag}{mg:Str→Option Value}{base:Heap}{C0 C1 C2 C3 C4:Addr}
theorem pd (T:Txt P w K mg C0 C1 C2 C3 C4) :BodyOk P w K mg base (ct C0 C1 C2 C3 C4) ["one", "levels"] dF 0 iF:=by
  refine ⟨fun X hP hw hK hmg hb d hr=>?_⟩
  subst hP hw hK hmg hb
  have hS:aj dF=_:=(by (conv=>lhs; whnf))
  rw [hS] at d
  have hB:ax dF=_:=(by (conv=>lhs; whnf))
  rw [hB]
  have n_0:Nm X 0 "one":=d.nm rfl (by first | exact .inl rfl | exact .inr (.inl rfl))
  have n_1:Nm X 1 "levels":=d.nm rfl (by first | exact .inl rfl | exact .inr (.inl rfl))
  have l_1:Nl X 1 "levels":=d.nl rfl (by first | exact .inl rfl | exact .inr rfl)
  have hu:=bV hr
  delta iF
  refine ai ?_ ?_
  refine aF ?_ ?_
  exact l_1
  refine vi (ps:=[([101,118,101,110],0),([115,117,109],1),([116,105,109,101,115],2),([111,118,101,114],3),([114,111,111,116],3),([109,97,114,107,101,100],3)]) ?_ ?s1 ?s2 ?s3 ?s4 ?s5 ?s6
  case s1=>decide +kernel
  case s2=>rfl
  case s3=>rfl
  case s4=>exact fun z=>nomatch z
  case s5=>decide +kernel
  case s6=>decide +kernel
  refine fG (by decide +kernel) ?_
  refine fG (by decide +kernel) ?_
  refine fG (by decide +kernel) ?_
  refine fG (by decide +kernel) ?_
  refine fG (by decide +kernel) ?_
  refine fG (by decide +kernel) ?_
  exact vh
  refine aq ?_
  refine az ?_
  refine Ck hu ?_ ?_ ?_
  refine aa ?_
  exact n_1
  refine bc ?_ ?_
  refine ag ?_
  refine aa ?_
  exact n_0
  exact ao
  exact ao
theorem sr (T:Txt P w K mg C0 C1 C2 C3 C4)(G_law_level:Def P w K mg base (ct C0 C1 C2 C3 C4) "_law_level" ["one"] 1 eA):BodyOk P w K mg base (ct C0 C1 C2 C3 C4) ["one", "least"] fS 1 iR:=by
  refine ⟨fun X hP hw hK hmg hb d hr=>?_⟩
  subst hP hw hK hmg hb
  have hS:aj fS=_:=(by (conv=>lhs; whnf))
  rw [hS] at d
  have hB:ax fS=_:=(by (conv=>lhs; whnf))
  rw [hB]
  have n_0:Nm X 0 "one":=d.nm rfl (by first | exact .inl rfl | exact .inr (.inl rfl))
  have n_1:Nm X 1 "least":=d.nm rfl (by first | exact .inl rfl | exact .inr (.inl rfl))
  have g_law_level:Gl X "_law_level":=d.gl rfl
  have hu:=bV hr
  delta iR
  refine ai ?_ ?_
  refine aV ?_ ?_ ?_
  refine kK ?_ ?_
  refine aZ G_law_level hr ?s1 ?_ ?_
  case s1=>decide
  exact g_law_level
  refine af ?_ ?_
  refine aa ?_
  exact n_0
  exact ar
  refine aa ?_
  exact n_1
  refine aq ?_
  refine az ?_
  refine bJ ?_
  refine af ?_ ?_
  exact aQ (by decide +kernel)
  refine af ?_ ?_
  refine aa ?_
  exact n_0
  exact ar
  exact aB
  refine aq ?_
  refine az ?_
  refine aa ?_
  exact n_0
theorem pe (T:Txt P w K mg C0 C1 C2 C3 C4)(G_law_fit:Def P w K mg base (ct C0 C1 C2 C3 C4) "_law_fit" ["one", "least"] 2 fL):BodyOk P w K mg base (ct C0 C1 C2 C3 C4) ["some", "kind", "by", "least", "made", "signs", "k"] dG 2 fM:=by
  refine ⟨fun X hP hw hK hmg hb d hr=>?_⟩
  subst hP hw hK hmg hb
  have hS:aj dG=_:=(by (conv=>lhs; whnf))
  rw [hS] at d
  have hB:ax dG=_:=(by (conv=>lhs; whnf))
  rw [hB]
  have n_0:Nm X 0 "some":=d.nm rfl (by first | exact .inl rfl | exact .inr (.inl rfl))
  have n_1:Nm X 1 "kind":=d.nm rfl (by first | exact .inl rfl | exact .inr (.inl rfl))
  have n_2:Nm X 2 "by":=d.nm rfl (by first | exact .inl rfl | exact .inr (.inl rfl))
  have n_4:Nm X 4 "made":=d.nm rfl (by first | exact .inl rfl | exact .inr (.inl rfl))
  have n_5:Nm X 5 "signs":=d.nm rfl (by first | exact .inl rfl | exact .inr (.inl rfl))
  have l_2:Nl X 2 "by":=d.nl rfl (by first | exact .inl rfl | exact .inr rfl)
  have l_3:Nl X 3 "least":=d.nl rfl (by first | exact .inl rfl | exact .inr rfl)
  have l_4:Nl X 4 "made":=d.nl rfl (by first | exact .inl rfl | exact .inr rfl)
  have l_5:Nl X 5 "signs":=d.nl rfl (by first | exact .inl rfl | exact .inr rfl)
  have l_6:Nl X 6 "k":=d.nl rfl (by first | exact .inl rfl | exact .inr rfl)
  have g_len:Gl X "len":=d.gl rfl
  have g_range:Gl X "range":=d.gl rfl
  have g_tuple:Gl X "tuple":=d.gl rfl
  have hu:=bV hr
  delta fM gd gc
  refine ai ?_ ?_
  refine aF ?_ ?_
  exact l_3
  refine A3 hu ?_ ?_
  refine vi (ps:=[([101,118,101,110],1),([115,117,109],2),([116,105,109,101,115],3)]) ?_ ?s1 ?s2 ?s3 ?s4 ?s5 ?s6
  case s1=>decide +kernel
  case s2=>rfl
  case s3=>rfl
  case s4=>exact fun z=>nomatch z
  case s5=>decide +kernel
  case s6=>decide +kernel
  refine fG (by decide +kernel) ?_
  refine fG (by decide +kernel) ?_
  refine fG (by decide +kernel) ?_
  exact vh
  refine aa ?_
  exact n_1
  refine ai ?_ ?_
  refine aF ?_ ?_
  exact l_4
  refine gb ?_ ?_ ?_
  exact g_tuple
  exact T.fg
  refine ag ?_
  refine bZ ?_
  refine dR (N':=["one", "least"]) (nt:=1) (cap:=[3]) d.toDefX ?s1 ?s2 ?s3 ?_ ?_ (bI (by decide)) (bg 0) ?_ ?_
  case s1=>exact ⟨by rfl,by decide +kernel,by decide +kernel,by decide +kernel,by rfl,by decide +kernel⟩
  case s2=>decide
  case s3=>decide +kernel
  refine ag ?_
  refine aa ?_
  exact n_0
  intro cl C s2 H2 fp d1
  exact cI (d1.nlc (i:=0) rfl rfl)
  intro cl C s2 H2 fp d1
  exact d4
  intro cl C s2 H2 fp d1
  refine aZ (X:=aO _ _ _ _ _ _ _ _) G_law_fit hr ?s1 (d1.gl rfl) ?_
  case s1=>decide
  refine af ?_ ?_
  exact aa (d1.nm (i:=0) rfl (by first | exact .inl rfl | exact .inr (.inl rfl) | exact .inr (.inr rfl)))
  refine af ?_ ?_
  exact aa (d1.nm (i:=1) rfl (by first | exact .inl rfl | exact .inr (.inl rfl) | exact .inr (.inr rfl)))
  exact ar
  refine ai ?_ ?_
  refine aV ?_ ?_ ?_
  refine kM hr ?_ ?_
  refine ag ?_
  refine aa ?_
  exact n_1
  refine ag ?_
  exact aQ (by decide +kernel)
  refine aq ?_
  refine az ?_
  refine bJ ?_
  refine af ?_ ?_
  refine aa ?_
  exact n_1
  refine af ?_ ?_
  refine aa ?_
  exact n_4
  exact ar
  exact aB
  refine ai ?_ ?_
  refine aF ?_ ?_
  exact l_5
  exact aQ (by decide +kernel)
  refine ai ?_ ?_
  refine sW d.never d.calm (bg 6) ?_ ?_ ?_ ?_ ?_
  refine cI ?_
  exact l_6
  exact g_range
  exact T.ny
  refine af ?_ ?_
  refine o6 ?_ ?_
  refine cc ?_ ?_ ?_
  exact g_len
  exact T.di
  refine ag ?_
  refine aa ?_
  exact n_4
  exact ao
  exact ar
  refine ai ?_ ?_
  refine aF ?_ ?_
  exact l_5
  refine e7 ?_ ?_
  refine ag ?_
  refine aa ?_
  exact n_5
  refine ag ?_
  refine bc ?_ ?_
  refine ag ?_
  exact aQ (by decide +kernel)
  refine e8 ?_ ?_
  refine aa ?_
  exact n_2
  exact ao
  refine aq ?_
  refine aF ?_ ?_
  exact l_2
  refine gD ?_ ?_
  refine aa ?_
  exact n_2
  exact ao
  refine aq ?_
  refine az ?_
  refine bJ ?_
  refine af ?_ ?_
  refine aa ?_
  exact n_1
  refine af ?_ ?_
  refine aa ?_
  exact n_4
  refine af ?_ ?_
  refine aa ?_
  exact n_5
  exact ar
theorem pO (T:Txt P w K mg C0 C1 C2 C3 C4) :BodyOk P w K mg base (ct C0 C1 C2 C3 C4) ["way", "by"] eH 0 cE:=by
  refine ⟨fun X hP hw hK hmg hb d hr=>?_⟩
  subst hP hw hK hmg hb
  have hS:aj eH=_:=(by (conv=>lhs; whnf))
  rw [hS] at d
  have hB:ax eH=_:=(by (conv=>lhs; whnf))
  rw [hB]
  have n_0:Nm X 0 "way":=d.nm rfl (by first | exact .inl rfl | exact .inr (.inl rfl))
  have n_1:Nm X 1 "by":=d.nm rfl (by first | exact .inl rfl | exact .inr (.inl rfl))
  have g_int:Gl X "int":=d.gl rfl
  have hu:=bV hr
  delta cE
  refine ai ?_ ?_
  refine aV ?_ ?_ ?_
  refine kK ?_ ?_
  refine aa ?_
  exact n_0
  exact ao
  refine aq ?_
  refine az ?_
  refine e7 ?_ ?_
  refine ag ?_
  exact ao
  refine ag ?_
  refine e8 ?_ ?_
  refine aa ?_
  exact n_1
  exact ao
  exact aB
  refine ai ?_ ?_
  refine aV ?_ ?_ ?_
  refine bE hr ?_ ?_
  refine ag ?_
  refine aa ?_
  exact n_0
  refine ag ?_
  exact ao
  refine aq ?_
  refine az ?_
  exact ao
  exact aB
  refine ai ?_ ?_
  refine aV ?_ ?_ ?_
  refine kK ?_ ?_
  refine aa ?_
  exact n_0
  exact ao
  refine aq ?_
  refine az ?_
  exact ao
  exact aB
  refine ai ?_ ?_
  refine aV ?_ ?_ ?_
  refine bE hr ?_ ?_
  refine ag ?_
  refine aa ?_
  exact n_0
  refine ag ?_
  exact ao
  refine aq ?_
  refine az ?_
  refine e7 ?_ ?_
  refine ag ?_
  exact ao
  refine ag ?_
  refine wo ?_ ?_ ?_
  exact g_int
  exact T.AI
  refine ag ?_
  refine iP hr ?_ ?_
  refine ag ?_
  refine e8 ?_ ?_
  refine aa ?_
  exact n_1
  exact ao
  refine ag ?_
  exact ao
  exact aB
  refine aq ?_
  refine az ?_
  refine me ?_ ?_
  refine ag ?_
  refine e7 ?_ ?_
  refine ag ?_
  exact ao
  refine ag ?_
  refine e8 ?_ ?_
  refine aa ?_
  exact n_1
  exact ao
  refine e7 ?_ ?_
  refine ag ?_
  exact ao
  refine ag ?_
  refine e8 ?_ ?_
  refine gD ?_ ?_
  refine aa ?_
  exact n_1
  exact ao
  exact ao
theorem pP (T:Txt P w K mg C0 C1 C2 C3 C4)(G_law_chain:Def P w K mg base (ct C0 C1 C2 C3 C4) "_law_chain" ["some", "kind", "by"] 3 d5)(G_law_fit:Def P w K mg base (ct C0 C1 C2 C3 C4) "_law_fit" ["one", "least"] 2 fL):BodyOk P w K mg base (ct C0 C1 C2 C3 C4) ["some", "way", "by", "item", "wide"] eI 3 cy:=by
  refine ⟨fun X hP hw hK hmg hb d hr=>?_⟩
  subst hP hw hK hmg hb
  have hS:aj eI=_:=(by (conv=>lhs; whnf))
  rw [hS] at d
  have hB:ax eI=_:=(by (conv=>lhs; whnf))
  rw [hB]
  have n_0:Nm X 0 "some":=d.nm rfl (by first | exact .inl rfl | exact .inr (.inl rfl))
  have n_1:Nm X 1 "way":=d.nm rfl (by first | exact .inl rfl | exact .inr (.inl rfl))
  have n_2:Nm X 2 "by":=d.nm rfl (by first | exact .inl rfl | exact .inr (.inl rfl))
  have n_3:Nm X 3 "item":=d.nm rfl (by first | exact .inl rfl | exact .inr (.inl rfl))
  have n_4:Nm X 4 "wide":=d.nm rfl (by first | exact .inl rfl | exact .inr (.inl rfl))
  have l_3:Nl X 3 "item":=d.nl rfl (by first | exact .inl rfl | exact .inr rfl)
  have l_4:Nl X 4 "wide":=d.nl rfl (by first | exact .inl rfl | exact .inr rfl)
  have g_law_chain:Gl X "_law_chain":=d.gl rfl
  have g_law_fit:Gl X "_law_fit":=d.gl rfl
  have g_len:Gl X "len":=d.gl rfl
  have g_range:Gl X "range":=d.gl rfl
  have g_tuple:Gl X "tuple":=d.gl rfl
  have hu:=bV hr
  delta cy gF
  refine ai ?_ ?_
  refine aV ?_ ?_ ?_
  refine kK ?_ ?_
  refine aa ?_
  exact n_1
  exact ao
  refine aq ?_
  refine az ?_
  refine aZ G_law_chain hr ?s1 ?_ ?_
  case s1=>decide
  exact g_law_chain
  refine af ?_ ?_
  refine aa ?_
  exact n_0
  refine af ?_ ?_
  refine bc ?_ ?_
  refine ag ?_
  refine bZ ?_
  refine g9 ?_
  refine af ?_ ?_
  exact aQ (by decide +kernel)
  refine af ?_ ?_
  exact aQ (by decide +kernel)
  refine af ?_ ?_
  exact aQ (by decide +kernel)
  exact ar
  refine aa ?_
  exact n_1
  refine af ?_ ?_
  refine gD ?_ ?_
  refine aa ?_
  exact n_2
  exact ao
  exact ar
  exact aB
  refine ai ?_ ?_
  refine aV ?_ ?_ ?_
  refine bE hr ?_ ?_
  refine ag ?_
  refine aa ?_
  exact n_1
  refine ag ?_
  exact ao
  refine aq ?_
  refine az ?_
  refine bJ ?_
  refine af ?_ ?_
  exact aQ (by decide +kernel)
  refine af ?_ ?_
  refine bc ?_ ?_
  refine ag ?_
  refine aa ?_
  exact n_0
  exact ao
  refine af ?_ ?_
  refine bc ?_ ?_
  refine ag ?_
  refine aa ?_
  exact n_0
  exact ao
  exact ar
  exact aB
  refine ai ?_ ?_
  refine aV ?_ ?_ ?_
  refine bE hr ?_ ?_
  refine ag ?_
  refine aa ?_
  exact n_1
  refine ag ?_
  exact ao
  refine aq ?_
  refine az ?_
  refine bJ ?_
  refine af ?_ ?_
  exact aQ (by decide +kernel)
  refine af ?_ ?_
  refine bc ?_ ?_
  refine ag ?_
  refine aa ?_
  exact n_0
  exact ao
  exact ar
  exact aB
  refine ai ?_ ?_
  refine aV ?_ ?_ ?_
  refine bE hr ?_ ?_
  refine ag ?_
  refine aa ?_
  exact n_1
  refine ag ?_
  exact ao
  refine aq ?_
  refine az ?_
  refine bJ ?_
  refine af ?_ ?_
  exact aQ (by decide +kernel)
  refine af ?_ ?_
  refine bc ?_ ?_
  refine ag ?_
  refine aa ?_
  exact n_0
  exact ao
  exact ar
  exact aB
  refine ai ?_ ?_
  refine aV ?_ ?_ ?_
  refine bE hr ?_ ?_
  refine ag ?_
  refine aa ?_
  exact n_1
  refine ag ?_
  exact ao
  refine ai ?_ ?_
  refine aF ?_ ?_
  exact l_3
  refine aZ G_law_fit hr ?s1 ?_ ?_
  case s1=>decide
  exact g_law_fit
  refine af ?_ ?_
  refine bc ?_ ?_
  refine ag ?_
  refine aa ?_
  exact n_0
  exact ao
  refine af ?_ ?_
  exact ao
  exact ar
  refine ai ?_ ?_
  refine aV ?_ ?_ ?_
  refine bE hr ?_ ?_
  refine ag ?_
  refine cc ?_ ?_ ?_
  exact g_len
  exact T.di
  refine ag ?_
  refine aa ?_
  exact n_0
  refine ag ?_
  exact ao
  refine aq ?_
  refine az ?_
  refine bJ ?_
  refine af ?_ ?_
  exact aQ (by decide +kernel)
  refine af ?_ ?_
  refine aa ?_
  exact n_3
  refine af ?_ ?_
  refine bc ?_ ?_
  refine ag ?_
  refine aa ?_
  exact n_0
  exact ao
  refine af ?_ ?_
  refine bc ?_ ?_
  refine ag ?_
  refine aa ?_
  exact n_0
  exact ao
  exact ar
  exact aB
  refine ai ?_ ?_
  refine aV ?_ ?_ ?_
  refine bE hr ?_ ?_
  refine ag ?_
  refine e8 ?_ ?_
  refine gD ?_ ?_
  refine aa ?_
  exact n_2
  exact ao
  exact ao
  refine ag ?_
  exact ao
  refine aq ?_
  refine az ?_
  refine bJ ?_
  refine af ?_ ?_
  exact aQ (by decide +kernel)
  refine af ?_ ?_
  refine aa ?_
  exact n_3
  refine af ?_ ?_
  refine bc ?_ ?_
  refine ag ?_
  refine aa ?_
  exact n_0
  exact ao
  refine af ?_ ?_
  exact rJ
  exact ar
  exact aB
  refine aq ?_
  refine az ?_
  refine bJ ?_
  refine af ?_ ?_
  exact aQ (by decide +kernel)
  refine af ?_ ?_
  refine aa ?_
  exact n_3
  refine af ?_ ?_
  exact rJ
  refine af ?_ ?_
  refine bc ?_ ?_
  refine ag ?_
  refine aa ?_
  exact n_0
  exact ao
  exact ar
  exact aB
  refine ai ?_ ?_
  refine aF ?_ ?_
  exact l_4
  refine e7 ?_ ?_
  refine ag ?_
  exact ao
  refine ag ?_
  refine e8 ?_ ?_
  refine gD ?_ ?_
  refine aa ?_
  exact n_2
  exact ao
  exact ao
  refine aq ?_
  refine az ?_
  refine bJ ?_
  refine af ?_ ?_
  exact aQ (by decide +kernel)
  refine af ?_ ?_
  refine gb ?_ ?_ ?_
  exact g_tuple
  exact T.fg
  refine ag ?_
  refine bZ ?_
  refine A5 (N':=["at", "some", "wide"]) (nt:=1) (cap:=[0,4]) d.toDefX ?s1 ?s2 ?s3 ?_ ?_ ?_ ?_ (bI (by decide)) (bg 0) ?_ ?_
  case s1=>exact ⟨by rfl,by decide +kernel,by decide +kernel,by decide +kernel,by rfl,by decide +kernel⟩
  case s2=>decide
  case s3=>decide +kernel
  exact g_range
  exact T.ny
  refine af ?_ ?_
  exact ao
  refine af ?_ ?_
  refine cc ?_ ?_ ?_
  exact g_len
  exact T.di
  refine ag ?_
  refine aa ?_
  exact n_0
  refine af ?_ ?_
  refine aa ?_
  exact n_4
  exact ar
  intro cl C s2 H2 fp d1
  exact cI (d1.nlc (i:=0) rfl rfl)
  intro cl C s2 H2 fp d1
  exact d4
  intro cl C s2 H2 fp d1
  refine gb (d1.gl rfl) ?_ ?_
  exact T.fg
  refine ag ?_
  refine gL ?_ ?_ ?_
  refine ag ?_
  exact aa (d1.nm (i:=1) rfl (by first | exact .inl rfl | exact .inr (.inl rfl) | exact .inr (.inr rfl)))
  refine bU ?_
  exact aa (d1.nm (i:=0) rfl (by first | exact .inl rfl | exact .inr (.inl rfl) | exact .inr (.inr rfl)))
  refine bU ?_
  refine e7 ?_ ?_
  refine ag ?_
  exact aa (d1.nm (i:=0) rfl (by first | exact .inl rfl | exact .inr (.inl rfl) | exact .inr (.inr rfl)))
  refine ag ?_
  exact aa (d1.nm (i:=2) rfl (by first | exact .inl rfl | exact .inr (.inl rfl) | exact .inr (.inr rfl)))
  exact ar
theorem pQ (T:Txt P w K mg C0 C1 C2 C3 C4) :BodyOk P w K mg base (ct C0 C1 C2 C3 C4) ["cell", "n", "size", "word", "k"] eJ 0 jg:=by
  refine ⟨fun X hP hw hK hmg hb d hr=>?_⟩
  subst hP hw hK hmg hb
  have hS:aj eJ=_:=(by (conv=>lhs; whnf))
  rw [hS] at d
  have hB:ax eJ=_:=(by (conv=>lhs; whnf))
  rw [hB]
  have n_0:Nm X 0 "cell":=d.nm rfl (by first | exact .inl rfl | exact .inr (.inl rfl))
  have n_1:Nm X 1 "n":=d.nm rfl (by first | exact .inl rfl | exact .inr (.inl rfl))
  have n_2:Nm X 2 "size":=d.nm rfl (by first | exact .inl rfl | exact .inr (.inl rfl))
  have n_3:Nm X 3 "word":=d.nm rfl (by first | exact .inl rfl | exact .inr (.inl rfl))
  have l_1:Nl X 1 "n":=d.nl rfl (by first | exact .inl rfl | exact .inr rfl)
  have l_2:Nl X 2 "size":=d.nl rfl (by first | exact .inl rfl | exact .inr rfl)
  have l_3:Nl X 3 "word":=d.nl rfl (by first | exact .inl rfl | exact .inr rfl)
  have l_4:Nl X 4 "k":=d.nl rfl (by first | exact .inl rfl | exact .inr rfl)
  have g_range:Gl X "range":=d.gl rfl
  have hu:=bV hr
  delta jg fw
  refine ai ?_ ?_
  refine aF ?_ ?_
  exact l_1
  refine e8 ?_ ?_
  refine me ?_ ?_
  refine ag ?_
  refine aa ?_
  exact n_0
  exact ao
  exact ao
  refine ai ?_ ?_
  refine aF ?_ ?_
  exact l_2
  refine e7 ?_ ?_
  refine ag ?_
  exact ao
  refine ag ?_
  refine e8 ?_ ?_
  refine aa ?_
  exact n_1
  exact ao
  refine ai ?_ ?_
  refine aF ?_ ?_
  exact l_1
  refine gD ?_ ?_
  refine aa ?_
  exact n_1
  exact ao
  refine ai ?_ ?_
  refine aF ?_ ?_
  exact l_3
  exact aQ (by decide +kernel)
  refine ai ?_ ?_
  refine sW d.never d.calm (bg 4) ?_ ?_ ?_ ?_ ?_
  refine cI ?_
  exact l_4
  exact g_range
  exact T.ny
  refine af ?_ ?_
  refine aa ?_
  exact n_2
  exact ar
  refine ai ?_ ?_
  refine aF ?_ ?_
  exact l_3
  refine e7 ?_ ?_
  refine ag ?_
  refine aa ?_
  exact n_3
  refine ag ?_
  refine bc ?_ ?_
  refine ag ?_
  exact aQ (by decide +kernel)
  refine e8 ?_ ?_
  refine aa ?_
  exact n_1
  exact ao
  refine aq ?_
  refine aF ?_ ?_
  exact l_1
  refine gD ?_ ?_
  refine aa ?_
  exact n_1
  exact ao
  refine aq ?_
  refine az ?_
  refine aa ?_
  exact n_3
theorem pR (T:Txt P w K mg C0 C1 C2 C3 C4)(G_law_word:Def P w K mg base (ct C0 C1 C2 C3 C4) "_law_word" ["cell"] 1 ig):BodyOk P w K mg base (ct C0 C1 C2 C3 C4) ["cell"] eK 1 ij:=by
  refine ⟨fun X hP hw hK hmg hb d hr=>?_⟩
  subst hP hw hK hmg hb
  have hS:aj eK=_:=(by (conv=>lhs; whnf))
  rw [hS] at d
  have hB:ax eK=_:=(by (conv=>lhs; whnf))
  rw [hB]
  have n_0:Nm X 0 "cell":=d.nm rfl (by first | exact .inl rfl | exact .inr (.inl rfl))
  have g_law_word:Gl X "_law_word":=d.gl rfl
  have hu:=bV hr
  delta ij
  refine ai ?_ ?_
  refine aV ?_ ?_ ?_
  refine bE hr ?_ ?_
  refine ag ?_
  refine e8 ?_ ?_
  refine aa ?_
  exact n_0
  exact ao
  refine ag ?_
  exact ao
  refine aq ?_
  refine az ?_
  refine bJ ?_
  refine af ?_ ?_
  exact aQ (by decide +kernel)
  refine af ?_ ?_
  refine e8 ?_ ?_
  refine gD ?_ ?_
  refine aa ?_
  exact n_0
  exact ao
  refine zq ?_ ?_
  exact ao
  exact ao
  exact ar
  exact aB
  refine aq ?_
  refine az ?_
  refine bJ ?_
  refine af ?_ ?_
  exact aQ (by decide +kernel)
  refine af ?_ ?_
  refine aZ G_law_word hr ?s1 ?_ ?_
  case s1=>decide
  exact g_law_word
  refine af ?_ ?_
  refine gD ?_ ?_
  refine aa ?_
  exact n_0
  exact ao
  exact ar
  exact ar
theorem pS (T:Txt P w K mg C0 C1 C2 C3 C4)(G_law_many:Def P w K mg base (ct C0 C1 C2 C3 C4) "_law_many" ["way", "by"] 1 cx)(G_law_made:Def P w K mg base (ct C0 C1 C2 C3 C4) "_law_made" ["some", "way", "by"] 4 ck)(G_law_atom:Def P w K mg base (ct C0 C1 C2 C3 C4) "_law_atom" ["cell"] 2 gw):BodyOk P w K mg base (ct C0 C1 C2 C3 C4) ["stack", "cell", "way", "by", "many", "some", "deep", "tabled", "made"] eL 4 gx:=by
  refine ⟨fun X hP hw hK hmg hb d hr=>?_⟩
  subst hP hw hK hmg hb
  have hS:aj eL=_:=(by (conv=>lhs; whnf))
  rw [hS] at d
  have hB:ax eL=_:=(by (conv=>lhs; whnf))
  rw [hB]
  have n_0:Nm X 0 "stack":=d.nm rfl (by first | exact .inl rfl | exact .inr (.inl rfl))
  have n_1:Nm X 1 "cell":=d.nm rfl (by first | exact .inl rfl | exact .inr (.inl rfl))
  have n_2:Nm X 2 "way":=d.nm rfl (by first | exact .inl rfl | exact .inr (.inl rfl))
  have n_3:Nm X 3 "by":=d.nm rfl (by first | exact .inl rfl | exact .inr (.inl rfl))
  have n_4:Nm X 4 "many":=d.nm rfl (by first | exact .inl rfl | exact .inr (.inl rfl))
  have n_5:Nm X 5 "some":=d.nm rfl (by first | exact .inl rfl | exact .inr (.inl rfl))
  have n_6:Nm X 6 "deep":=d.nm rfl (by first | exact .inl rfl | exact .inr (.inl rfl))
  have n_7:Nm X 7 "tabled":=d.nm rfl (by first | exact .inl rfl | exact .inr (.inl rfl))
  have n_8:Nm X 8 "made":=d.nm rfl (by first | exact .inl rfl | exact .inr (.inl rfl))
  have l_2:Nl X 2 "way":=d.nl rfl (by first | exact .inl rfl | exact .inr rfl)
  have l_3:Nl X 3 "by":=d.nl rfl (by first | exact .inl rfl | exact .inr rfl)
  have l_4:Nl X 4 "many":=d.nl rfl (by first | exact .inl rfl | exact .inr rfl)
  have l_5:Nl X 5 "some":=d.nl rfl (by first | exact .inl rfl | exact .inr rfl)
  have l_6:Nl X 6 "deep":=d.nl rfl (by first | exact .inl rfl | exact .inr rfl)
  have l_7:Nl X 7 "tabled":=d.nl rfl (by first | exact .inl rfl | exact .inr rfl)
  have l_8:Nl X 8 "made":=d.nl rfl (by first | exact .inl rfl | exact .inr rfl)
  have g_law_atom:Gl X "_law_atom":=d.gl rfl
  have g_law_made:Gl X "_law_made":=d.gl rfl
  have g_law_many:Gl X "_law_many":=d.gl rfl
  have g_any:Gl X "any":=d.gl rfl
  have g_int:Gl X "int":=d.gl rfl
  have g_len:Gl X "len":=d.gl rfl
  have g_max:Gl X "max":=d.gl rfl
  have hu:=bV hr
  delta gx fB fA fz
  refine ai ?_ ?_
  refine aF ?_ ?_
  exact l_2
  refine e8 ?_ ?_
  refine aa ?_
  exact n_1
  exact ao
  refine ai ?_ ?_
  refine aF ?_ ?_
  exact l_3
  refine gD ?_ ?_
  refine aa ?_
  exact n_1
  exact ao
  refine ai ?_ ?_
  refine aV ?_ ?_ ?_
  refine kK ?_ ?_
  refine aa ?_
  exact n_2
  exact ao
  refine ai ?_ ?_
  refine aF ?_ ?_
  exact l_4
  refine aZ G_law_many hr ?s1 ?_ ?_
  case s1=>decide
  exact g_law_many
  refine af ?_ ?_
  refine aa ?_
  exact n_2
  refine af ?_ ?_
  refine aa ?_
  exact n_3
  exact ar
  refine ai ?_ ?_
  refine aF ?_ ?_
  exact l_5
  refine gL ?_ ?_ ?_
  refine ag ?_
  refine aa ?_
  exact n_0
  refine bU ?_
  refine BN ?_ ?_ d.calm ?_
  exact g_max
  exact T.AJ
  refine af ?_ ?_
  exact ao
  refine af ?_ ?_
  refine o6 ?_ ?_
  refine cc ?_ ?_ ?_
  exact g_len
  exact T.di
  refine ag ?_
  refine aa ?_
  exact n_0
  refine aa ?_
  exact n_4
  exact ar
  exact cZ
  refine ai ?_ ?_
  refine aF ?_ ?_
  exact l_6
  refine tL ?_ ?_ d.calm ?_ ?_
  exact g_max
  exact T.AJ
  refine ag ?_
  refine bZ ?_
  refine dR (N':=["one"]) (nt:=1) (cap:=[]) d.toDefX ?s1 ?s2 ?s3 ?_ ?_ (bI (by decide)) (bg 0) ?_ ?_
  case s1=>exact ⟨by rfl,by decide +kernel,by decide +kernel,by decide +kernel,by rfl,by decide +kernel⟩
  case s2=>decide
  case s3=>decide +kernel
  refine ag ?_
  refine aa ?_
  exact n_5
  intro cl C s2 H2 fp d1
  exact cI (d1.nlc (i:=0) rfl rfl)
  intro cl C s2 H2 fp d1
  exact d4
  intro cl C s2 H2 fp d1
  refine bc ?_ ?_
  refine ag ?_
  exact aa (d1.nm (i:=0) rfl (by first | exact .inl rfl | exact .inr (.inl rfl) | exact .inr (.inr rfl)))
  exact ao
  exact ao
  refine ai ?_ ?_
  refine aF ?_ ?_
  exact l_7
  refine rR ?_ ?_ d.calm ?_
  exact g_any
  exact T.wJ
  refine ag ?_
  refine bZ ?_
  refine dR (N':=["one"]) (nt:=1) (cap:=[]) d.toDefX ?s1 ?s2 ?s3 ?_ ?_ (bI (by decide)) (bg 0) ?_ ?_
  case s1=>exact ⟨by rfl,by decide +kernel,by decide +kernel,by decide +kernel,by rfl,by decide +kernel⟩
  case s2=>decide
  case s3=>decide +kernel
  refine ag ?_
  refine aa ?_
  exact n_5
  intro cl C s2 H2 fp d1
  exact cI (d1.nlc (i:=0) rfl rfl)
  intro cl C s2 H2 fp d1
  exact d4
  intro cl C s2 H2 fp d1
  refine bc ?_ ?_
  refine ag ?_
  exact aa (d1.nm (i:=0) rfl (by first | exact .inl rfl | exact .inr (.inl rfl) | exact .inr (.inr rfl)))
  exact ao
  refine aq ?_
  refine aV ?_ ?_ ?_
  refine PDW.pt ?_
  refine jT ?_ ?_
  refine zt ?_ ?_
  refine aa ?_
  exact n_4
  refine cc ?_ ?_ ?_
  exact g_len
  exact T.di
  refine ag ?_
  refine aa ?_
  exact n_0
  refine jT ?_ ?_
  refine zt ?_ ?_
  refine aa ?_
  exact n_6
  exact ao
  refine jE ?_
  refine eh ?_
  refine PDW.pt ?_
  refine jT ?_ ?_
  refine bE hr ?_ ?_
  refine ag ?_
  refine aa ?_
  exact n_2
  refine ag ?_
  exact ao
  refine jE ?_
  refine dQ ?_
  refine aa ?_
  exact n_7
  refine ai ?_ ?_
  refine aF ?_ ?_
  exact l_8
  refine aZ G_law_made hr ?s1 ?_ ?_
  case s1=>decide
  exact g_law_made
  refine af ?_ ?_
  refine bZ ?_
  refine dR (N':=["one"]) (nt:=1) (cap:=[]) d.toDefX ?s1 ?s2 ?s3 ?_ ?_ (bI (by decide)) (bg 0) ?_ ?_
  case s1=>exact ⟨by rfl,by decide +kernel,by decide +kernel,by decide +kernel,by rfl,by decide +kernel⟩
  case s2=>decide
  case s3=>decide +kernel
  refine ag ?_
  refine aa ?_
  exact n_5
  intro cl C s2 H2 fp d1
  exact cI (d1.nlc (i:=0) rfl rfl)
  intro cl C s2 H2 fp d1
  exact d4
  intro cl C s2 H2 fp d1
  refine bc ?_ ?_
  refine ag ?_
  exact aa (d1.nm (i:=0) rfl (by first | exact .inl rfl | exact .inr (.inl rfl) | exact .inr (.inr rfl)))
  exact ao
  refine af ?_ ?_
  refine aa ?_
  exact n_2
  refine af ?_ ?_
  refine aa ?_
  exact n_3
  exact ar
  refine ai ?_ ?_
  refine aF ?_ ?_
  exact l_6
  refine e7 ?_ ?_
  refine ag ?_
  refine e7 ?_ ?_
  refine ag ?_
  refine aa ?_
  exact n_6
  refine ag ?_
  exact ao
  refine ag ?_
  refine wo ?_ ?_ ?_
  exact g_int
  exact T.AI
  refine ag ?_
  refine jD ?_ ?_
  refine Ip ?_ ?_
  refine aa ?_
  exact n_2
  exact ao
  refine er ?_
  refine iP hr ?_ ?_
  refine ag ?_
  refine aa ?_
  exact n_2
  refine ag ?_
  exact ao
  refine aq ?_
  refine ic ?_
  refine o5 ?_ ?_
  refine ag ?_
  refine gL ?_ ?_ ?_
  refine ag ?_
  refine aa ?_
  exact n_0
  exact cZ
  refine bU ?_
  refine o6 ?_ ?_
  refine cc ?_ ?_ ?_
  exact g_len
  exact T.di
  refine ag ?_
  refine aa ?_
  exact n_0
  refine aa ?_
  exact n_4
  refine ag ?_
  refine bZ ?_
  refine g9 ?_
  refine af ?_ ?_
  refine bJ ?_
  refine af ?_ ?_
  refine aa ?_
  exact n_8
  refine af ?_ ?_
  refine aa ?_
  exact n_6
  refine af ?_ ?_
  refine jD ?_ ?_
  refine aa ?_
  exact n_7
  refine er ?_
  refine iP hr ?_ ?_
  refine ag ?_
  refine aa ?_
  exact n_2
  refine ag ?_
  exact ao
  exact ar
  exact ar
  exact aB
  exact aB
  refine aq ?_
  refine ic ?_
  refine o5 ?_ ?_
  refine ag ?_
  refine aa ?_
  exact n_0
  refine ag ?_
  refine bZ ?_
  refine g9 ?_
  refine af ?_ ?_
  refine bJ ?_
  refine af ?_ ?_
  refine aZ G_law_atom hr ?s1 ?_ ?_
  case s1=>decide
  exact g_law_atom
  refine af ?_ ?_
  refine aa ?_
  exact n_3
  exact ar
  refine af ?_ ?_
  exact ao
  refine af ?_ ?_
  exact iO
  exact ar
  exact ar
theorem mx (T:Txt P w K mg C0 C1 C2 C3 C4)(G_law_chain:Def P w K mg base (ct C0 C1 C2 C3 C4) "_law_chain" ["some", "kind", "by"] 3 d5)(G_law_step:mh P w K mg base (ct C0 C1 C2 C3 C4) "_law_step" ["stack", "cell"] 5 fJ):BodyOk P w K mg base (ct C0 C1 C2 C3 C4) ["script", "stack", "cell", "some", "by"] cM 5 cJ:=by
  refine ⟨fun X hP hw hK hmg hb d hr=>?_⟩
  subst hP hw hK hmg hb
  have hS:aj cM=_:=(by (conv=>lhs; whnf))
  rw [hS] at d
  have hB:ax cM=_:=(by (conv=>lhs; whnf))
  rw [hB]
  have n_0:Nm X 0 "script":=d.nm rfl (by first | exact .inl rfl | exact .inr (.inl rfl))
  have n_1:Nm X 1 "stack":=d.nm rfl (by first | exact .inl rfl | exact .inr (.inl rfl))
  have n_2:Nm X 2 "cell":=d.nm rfl (by first | exact .inl rfl | exact .inr (.inl rfl))
  have n_3:Nm X 3 "some":=d.nm rfl (by first | exact .inl rfl | exact .inr (.inl rfl))
  have n_4:Nm X 4 "by":=d.nm rfl (by first | exact .inl rfl | exact .inr (.inl rfl))
  have l_1:Nl X 1 "stack":=d.nl rfl (by first | exact .inl rfl | exact .inr rfl)
  have l_2:Nl X 2 "cell":=d.nl rfl (by first | exact .inl rfl | exact .inr rfl)
  have l_3:Nl X 3 "some":=d.nl rfl (by first | exact .inl rfl | exact .inr rfl)
  have l_4:Nl X 4 "by":=d.nl rfl (by first | exact .inl rfl | exact .inr rfl)
  have g_law_chain:Gl X "_law_chain":=d.gl rfl
  have g_law_step:Gl X "_law_step":=d.gl rfl
  have g_len:Gl X "len":=d.gl rfl
  have hu:=bV hr
  delta cJ dw eX
  refine ai ?_ ?_
  refine aF ?_ ?_
  exact l_1
  refine bZ ?_
  refine g9 ?_
  exact ar
  refine ai ?_ ?_
  refine jc d.never d.calm (bg 2) ?_ ?_ ?_
  refine cI ?_
  exact l_2
  refine gL ?_ ?_ ?_
  refine ag ?_
  refine aa ?_
  exact n_0
  exact cZ
  refine bU ?_
  exact ao
  refine aq ?_
  refine aF ?_ ?_
  exact l_1
  refine bZ ?_
  refine jC G_law_step hr ?s1 ?_ ?_
  case s1=>decide
  exact g_law_step
  refine af ?_ ?_
  refine aa ?_
  exact n_1
  refine af ?_ ?_
  refine aa ?_
  exact n_2
  exact ar
  refine ai ?_ ?_
  refine zP d.toDefX ?_ ?_ ?s1
  case s1=>decide +kernel
  exact l_3
  refine zQ (N':=["one"]) (nt:=1) (cap:=[]) d.toDefX ?s1 ?s2 ?s3 ?_ ?_ (bI (by decide)) (bg 0) ?_ ?_
  case s1=>exact ⟨by rfl,by decide +kernel,by decide +kernel,by decide +kernel,by rfl,by decide +kernel⟩
  case s2=>decide
  case s3=>decide +kernel
  refine ag ?_
  refine aa ?_
  exact n_1
  intro cl C s2 H2 fp d1
  exact cI (d1.nlc (i:=0) rfl rfl)
  intro cl C s2 H2 fp d1
  exact d4
  intro cl C s2 H2 fp d1
  refine bc ?_ ?_
  refine ag ?_
  exact aa (d1.nm (i:=0) rfl (by first | exact .inl rfl | exact .inr (.inl rfl) | exact .inr (.inr rfl)))
  exact ao
  refine ai ?_ ?_
  refine aV ?_ ?_ ?_
  refine bE hr ?_ ?_
  refine ag ?_
  refine aa ?_
  exact n_3
  refine ag ?_
  refine bZ ?_
  refine g9 ?_
  exact ar
  refine aq ?_
  refine az ?_
  refine bJ ?_
  refine af ?_ ?_
  exact aQ (by decide +kernel)
  refine af ?_ ?_
  exact aQ (by decide +kernel)
  exact ar
  exact aB
  refine ai ?_ ?_
  refine aV ?_ ?_ ?_
  refine bE hr ?_ ?_
  refine ag ?_
  refine cc ?_ ?_ ?_
  exact g_len
  exact T.di
  refine ag ?_
  refine aa ?_
  exact n_3
  refine ag ?_
  exact ao
  refine aq ?_
  refine az ?_
  refine bc ?_ ?_
  refine ag ?_
  refine aa ?_
  exact n_3
  exact ao
  exact aB
  refine ai ?_ ?_
  refine aF ?_ ?_
  exact l_4
  refine e8 ?_ ?_
  refine me ?_ ?_
  refine ag ?_
  refine bc ?_ ?_
  refine ag ?_
  refine aa ?_
  exact n_0
  refine o6 ?_ ?_
  refine cc ?_ ?_ ?_
  exact g_len
  exact T.di
  refine ag ?_
  refine aa ?_
  exact n_0
  exact ao
  exact ao
  refine zq ?_ ?_
  exact ao
  exact ao
  refine aq ?_
  refine az ?_
  refine aZ G_law_chain hr ?s1 ?_ ?_
  case s1=>decide
  exact g_law_chain
  refine af ?_ ?_
  refine aa ?_
  exact n_3
  refine af ?_ ?_
  refine bc ?_ ?_
  refine ag ?_
  refine bZ ?_
  refine g9 ?_
  refine af ?_ ?_
  exact aQ (by decide +kernel)
  refine af ?_ ?_
  exact aQ (by decide +kernel)
  refine af ?_ ?_
  exact aQ (by decide +kernel)
  exact ar
  refine e8 ?_ ?_
  refine bc ?_ ?_
  refine ag ?_
  refine aa ?_
  exact n_0
  exact ao
  exact ao
  refine af ?_ ?_
  refine aa ?_
  exact n_4
  exact ar
theorem pf (T:Txt P w K mg C0 C1 C2 C3 C4) :BodyOk P w K mg base (ct C0 C1 C2 C3 C4) ["f", "some", "band"] dH 0 cq:=by
  refine ⟨fun X hP hw hK hmg hb d hr=>?_⟩
  subst hP hw hK hmg hb
  have hS:aj dH=_:=(by (conv=>lhs; whnf))
  rw [hS] at d
  have hB:ax dH=_:=(by (conv=>lhs; whnf))
  rw [hB]
  have n_0:Nm X 0 "f":=d.nm rfl (by first | exact .inl rfl | exact .inr (.inl rfl))
  have n_1:Nm X 1 "some":=d.nm rfl (by first | exact .inl rfl | exact .inr (.inl rfl))
  have n_2:Nm X 2 "band":=d.nm rfl (by first | exact .inl rfl | exact .inr (.inl rfl))
  have l_1:Nl X 1 "some":=d.nl rfl (by first | exact .inl rfl | exact .inr rfl)
  have l_2:Nl X 2 "band":=d.nl rfl (by first | exact .inl rfl | exact .inr rfl)
  have g_list:Gl X "list":=d.gl rfl
  have hu:=bV hr
  delta cq gf bF bP
  refine ai ?_ ?_
  refine aV ?_ ?_ ?_
  refine kL ?_ ?_
  refine bc ?_ ?_
  refine ag ?_
  refine aa ?_
  exact n_0
  exact ao
  refine ag ?_
  refine bJ ?_
  refine af ?_ ?_
  exact aQ (by decide +kernel)
  refine af ?_ ?_
  exact aQ (by decide +kernel)
  exact ar
  refine aq ?_
  refine az ?_
  refine bZ ?_
  refine g9 ?_
  exact ar
  exact aB
  refine ai ?_ ?_
  refine aV ?_ ?_ ?_
  refine kL ?_ ?_
  refine bc ?_ ?_
  refine ag ?_
  refine aa ?_
  exact n_0
  exact ao
  refine ag ?_
  refine bJ ?_
  refine af ?_ ?_
  exact aQ (by decide +kernel)
  refine af ?_ ?_
  exact aQ (by decide +kernel)
  refine af ?_ ?_
  exact aQ (by decide +kernel)
  exact ar
  refine aq ?_
  refine az ?_
  refine bZ ?_
  refine n5 ?_ ?_ ?_
  exact g_list
  exact T.si
  refine ag ?_
  refine bc ?_ ?_
  refine ag ?_
  refine aa ?_
  exact n_0
  exact ao
  exact aB
  refine ai ?_ ?_
  refine aV ?_ ?_ ?_
  refine kM hr ?_ ?_
  refine ag ?_
  refine bc ?_ ?_
  refine ag ?_
  refine aa ?_
  exact n_0
  exact ao
  refine ag ?_
  exact aQ (by decide +kernel)
  refine aq ?_
  refine az ?_
  refine bZ ?_
  refine dR (N':=["one"]) (nt:=1) (cap:=[]) d.toDefX ?s1 ?s2 ?s3 ?_ ?_ (bI (by decide)) (bg 0) ?_ ?_
  case s1=>exact ⟨by rfl,by decide +kernel,by decide +kernel,by decide +kernel,by rfl,by decide +kernel⟩
  case s2=>decide
  case s3=>decide +kernel
  refine ag ?_
  refine gL ?_ ?_ ?_
  refine ag ?_
  refine aa ?_
  exact n_0
  refine bU ?_
  exact ao
  exact cZ
  intro cl C s2 H2 fp d1
  exact cI (d1.nlc (i:=0) rfl rfl)
  intro cl C s2 H2 fp d1
  refine wt ?_
  refine og ?_
  refine ag ?_
  exact aa (d1.nm (i:=0) rfl (by first | exact .inl rfl | exact .inr (.inl rfl) | exact .inr (.inr rfl)))
  intro cl C s2 H2 fp d1
  exact aa (d1.nm (i:=0) rfl (by first | exact .inl rfl | exact .inr (.inl rfl) | exact .inr (.inr rfl)))
  exact aB
  refine ai ?_ ?_
  refine aF ?_ ?_
  exact l_1
  refine bZ ?_
  refine g9 ?_
  exact ar
  refine ai ?_ ?_
  refine jc d.never d.calm (bg 2) ?_ ?_ ?_
  refine cI ?_
  exact l_2
  refine bc ?_ ?_
  refine ag ?_
  refine aa ?_
  exact n_0
  exact ao
  refine aq ?_
  refine aF ?_ ?_
  exact l_1
  refine bZ ?_
  refine o5 ?_ ?_
  refine ag ?_
  refine aa ?_
  exact n_1
  refine ag ?_
  refine bZ ?_
  refine n5 ?_ ?_ ?_
  exact g_list
  exact T.si
  refine ag ?_
  refine aa ?_
  exact n_2
  refine aq ?_
  refine az ?_
  refine aa ?_
  exact n_1
theorem su (T:Txt P w K mg C0 C1 C2 C3 C4)(G_law_parts:Def P w K mg base (ct C0 C1 C2 C3 C4) "_law_parts" ["f"] 1 aY):BodyOk P w K mg base (ct C0 C1 C2 C3 C4) ["f", "cells", "path", "tabled", "cell", "some", "n"] fT 1 jW:=by
  refine ⟨fun X hP hw hK hmg hb d hr=>?_⟩
  subst hP hw hK hmg hb
  have hS:aj fT=_:=(by (conv=>lhs; whnf))
  rw [hS] at d
  have hB:ax fT=_:=(by (conv=>lhs; whnf))
  rw [hB]
  have n_0:Nm X 0 "f":=d.nm rfl (by first | exact .inl rfl | exact .inr (.inl rfl))
  have n_1:Nm X 1 "cells":=d.nm rfl (by first | exact .inl rfl | exact .inr (.inl rfl))
  have n_2:Nm X 2 "path":=d.nm rfl (by first | exact .inl rfl | exact .inr (.inl rfl))
  have n_3:Nm X 3 "tabled":=d.nm rfl (by first | exact .inl rfl | exact .inr (.inl rfl))
  have n_4:Nm X 4 "cell":=d.nm rfl (by first | exact .inl rfl | exact .inr (.inl rfl))
  have n_5:Nm X 5 "some":=d.nm rfl (by first | exact .inl rfl | exact .inr (.inl rfl))
  have n_6:Nm X 6 "n":=d.nm rfl (by first | exact .inl rfl | exact .inr (.inl rfl))
  have l_0:Nl X 0 "f":=d.nl rfl (by first | exact .inl rfl | exact .inr rfl)
  have l_2:Nl X 2 "path":=d.nl rfl (by first | exact .inl rfl | exact .inr rfl)
  have l_3:Nl X 3 "tabled":=d.nl rfl (by first | exact .inl rfl | exact .inr rfl)
  have l_4:Nl X 4 "cell":=d.nl rfl (by first | exact .inl rfl | exact .inr rfl)
  have l_5:Nl X 5 "some":=d.nl rfl (by first | exact .inl rfl | exact .inr rfl)
  have l_6:Nl X 6 "n":=d.nl rfl (by first | exact .inl rfl | exact .inr rfl)
  have g_law_parts:Gl X "_law_parts":=d.gl rfl
  have g_len:Gl X "len":=d.gl rfl
  have hu:=bV hr
  delta jW eY
  refine ai ?_ ?_
  refine aF ?_ ?_
  exact l_2
  refine bJ ?_
  exact ar
  refine ai ?_ ?_
  refine aF ?_ ?_
  exact l_3
  exact iO
  refine ai ?_ ?_
  refine jc d.never d.calm (bg 4) ?_ ?_ ?_
  refine cI ?_
  exact l_4
  refine aa ?_
  exact n_1
  refine ai ?_ ?_
  refine aF ?_ ?_
  exact l_5
  refine aZ G_law_parts hr ?s1 ?_ ?_
  case s1=>decide
  exact g_law_parts
  refine af ?_ ?_
  refine aa ?_
  exact n_0
  exact ar
  refine aq ?_
  refine aV ?_ ?_ ?_
  refine kM hr ?_ ?_
  refine ag ?_
  refine aa ?_
  exact n_5
  refine ag ?_
  refine bZ ?_
  refine g9 ?_
  exact ar
  refine ai ?_ ?_
  refine aF ?_ ?_
  exact l_6
  refine e8 ?_ ?_
  refine e8 ?_ ?_
  refine me ?_ ?_
  refine ag ?_
  refine aa ?_
  exact n_4
  exact ao
  exact ao
  refine cc ?_ ?_ ?_
  exact g_len
  exact T.di
  refine ag ?_
  refine aa ?_
  exact n_5
  refine ai ?_ ?_
  refine aF ?_ ?_
  exact l_2
  refine CG ?_ ?_
  refine aa ?_
  exact n_2
  refine bJ ?_
  refine af ?_ ?_
  refine aa ?_
  exact n_6
  exact ar
  refine ai ?_ ?_
  refine aF ?_ ?_
  exact l_3
  refine jD ?_ ?_
  refine aa ?_
  exact n_3
  refine er ?_
  refine iP hr ?_ ?_
  refine ag ?_
  refine bc ?_ ?_
  refine ag ?_
  refine aa ?_
  exact n_0
  exact ao
  refine ag ?_
  exact aQ (by decide +kernel)
  refine aq ?_
  refine aF ?_ ?_
  exact l_0
  refine bc ?_ ?_
  refine ag ?_
  refine aa ?_
  exact n_5
  refine aa ?_
  exact n_6
  exact aB
  refine aq ?_
  refine az ?_
  refine bJ ?_
  refine af ?_ ?_
  refine aa ?_
  exact n_2
  refine af ?_ ?_
  refine aa ?_
  exact n_3
  exact ar
theorem pT (T:Txt P w K mg C0 C1 C2 C3 C4) :BodyOk P w K mg base (ct C0 C1 C2 C3 C4) ["bands", "cells", "band"] eM 0 jh:=by
  refine ⟨fun X hP hw hK hmg hb d hr=>?_⟩
  subst hP hw hK hmg hb
  have hS:aj eM=_:=(by (conv=>lhs; whnf))
  rw [hS] at d
  have hB:ax eM=_:=(by (conv=>lhs; whnf))
  rw [hB]
  have n_0:Nm X 0 "bands":=d.nm rfl (by first | exact .inl rfl | exact .inr (.inl rfl))
  have n_1:Nm X 1 "cells":=d.nm rfl (by first | exact .inl rfl | exact .inr (.inl rfl))
  have n_2:Nm X 2 "band":=d.nm rfl (by first | exact .inl rfl | exact .inr (.inl rfl))
  have l_1:Nl X 1 "cells":=d.nl rfl (by first | exact .inl rfl | exact .inr rfl)
  have l_2:Nl X 2 "band":=d.nl rfl (by first | exact .inl rfl | exact .inr rfl)
  have hu:=bV hr
  delta jh gG
  refine ai ?_ ?_
  refine rK ?_ ?_
  exact l_1
  refine g9 ?_
  exact ar
  refine ai ?_ ?_
  refine jc d.never d.calm (bg 2) ?_ ?_ ?_
  refine cI ?_
  exact l_2
  refine aa ?_
  exact n_0
  refine aq ?_
  refine vn ?_ ?_
  exact n_1
  refine aa ?_
  exact n_2
  refine aq ?_
  refine zF ?_
  exact n_1
theorem pU (T:Txt P w K mg C0 C1 C2 C3 C4)(G_cells_of:mh P w K mg base (ct C0 C1 C2 C3 C4) "cells_of" ["bands"] 1 ik):BodyOk P w K mg base (ct C0 C1 C2 C3 C4) ["f", "kind"] eN 1 bo:=by
  refine ⟨fun X hP hw hK hmg hb d hr=>?_⟩
  subst hP hw hK hmg hb
  have hS:aj eN=_:=(by (conv=>lhs; whnf))
  rw [hS] at d
  have hB:ax eN=_:=(by (conv=>lhs; whnf))
  rw [hB]
  have n_0:Nm X 0 "f":=d.nm rfl (by first | exact .inl rfl | exact .inr (.inl rfl))
  have n_1:Nm X 1 "kind":=d.nm rfl (by first | exact .inl rfl | exact .inr (.inl rfl))
  have l_1:Nl X 1 "kind":=d.nl rfl (by first | exact .inl rfl | exact .inr rfl)
  have g_ROW_KINDS:Gl X "ROW_KINDS":=d.gl rfl
  have g_cells_of:Gl X "cells_of":=d.gl rfl
  have g_list:Gl X "list":=d.gl rfl
  have hu:=bV hr
  delta bo bQ bX
  refine ai ?_ ?_
  refine aF ?_ ?_
  exact l_1
  refine bc ?_ ?_
  refine ag ?_
  refine aa ?_
  exact n_0
  exact ao
  refine ai ?_ ?_
  refine aV ?_ ?_ ?_
  refine PDW.pt ?_
  refine ib ?_ ?_
  refine bE hr ?_ ?_
  refine ag ?_
  refine aa ?_
  exact n_1
  refine ag ?_
  exact aQ (by decide +kernel)
  refine iE ?_
  refine bE hr ?_ ?_
  refine ag ?_
  refine aa ?_
  exact n_1
  refine ag ?_
  exact aQ (by decide +kernel)
  refine aq ?_
  refine ic ?_
  refine g9 ?_
  exact ar
  exact aB
  refine ai ?_ ?_
  refine aV ?_ ?_ ?_
  refine kL ?_ ?_
  refine aa ?_
  exact n_1
  refine ag ?_
  refine fF ⟨T.aw⟩ ?_
  exact g_ROW_KINDS
  refine aq ?_
  refine ic ?_
  refine n5 ?_ ?_ ?_
  exact g_list
  exact T.si
  refine ag ?_
  refine bc ?_ ?_
  refine ag ?_
  refine aa ?_
  exact n_0
  exact ao
  exact aB
  refine ai ?_ ?_
  refine aV ?_ ?_ ?_
  refine bE hr ?_ ?_
  refine ag ?_
  refine aa ?_
  exact n_1
  refine ag ?_
  exact aQ (by decide +kernel)
  refine aq ?_
  refine ic ?_
  refine o5 ?_ ?_
  refine ag ?_
  refine bZ ?_
  refine g9 ?_
  refine af ?_ ?_
  refine bc ?_ ?_
  refine ag ?_
  refine aa ?_
  exact n_0
  exact ao
  exact ar
  refine ag ?_
  refine bZ ?_
  refine dR (N':=["mark"]) (nt:=1) (cap:=[]) d.toDefX ?s1 ?s2 ?s3 ?_ ?_ (bI (by decide)) (bg 0) ?_ ?_
  case s1=>exact ⟨by rfl,by decide +kernel,by decide +kernel,by decide +kernel,by rfl,by decide +kernel⟩
  case s2=>decide
  case s3=>decide +kernel
  refine ag ?_
  refine gL ?_ ?_ ?_
  refine ag ?_
  refine aa ?_
  exact n_0
  refine bU ?_
  exact ao
  exact cZ
  intro cl C s2 H2 fp d1
  exact cI (d1.nlc (i:=0) rfl rfl)
  intro cl C s2 H2 fp d1
  refine wt ?_
  refine og ?_
  refine ag ?_
  exact aa (d1.nm (i:=0) rfl (by first | exact .inl rfl | exact .inr (.inl rfl) | exact .inr (.inr rfl)))
  intro cl C s2 H2 fp d1
  exact aa (d1.nm (i:=0) rfl (by first | exact .inl rfl | exact .inr (.inl rfl) | exact .inr (.inr rfl)))
  exact aB
  refine ai ?_ ?_
  refine aV ?_ ?_ ?_
  refine bE hr ?_ ?_
  refine ag ?_
  refine aa ?_
  exact n_1
  refine ag ?_
  exact aQ (by decide +kernel)
  refine aq ?_
  refine ic ?_
  refine jC G_cells_of hr ?s1 ?_ ?_
  case s1=>decide
  exact g_cells_of
  refine af ?_ ?_
  refine bc ?_ ?_
  refine ag ?_
  refine aa ?_
  exact n_0
  exact ao
  exact ar
  exact aB
  refine aq ?_
  refine ic ?_
  refine n5 ?_ ?_ ?_
  exact g_list
  exact T.si
  refine ag ?_
  refine gL ?_ ?_ ?_
  refine ag ?_
  refine aa ?_
  exact n_0
  refine bU ?_
  exact ao
  exact cZ
theorem sv (T:Txt P w K mg C0 C1 C2 C3 C4)(G_parts_of:mh P w K mg base (ct C0 C1 C2 C3 C4) "parts_of" ["f"] 2 aH):tS P w K mg base (ct C0 C1 C2 C3 C4) ["f", "path", "part", "n", "parts"] fU 2 iT:=by
  refine ⟨fun X xq hP hw hK hmg hb d hr xr=>?_⟩
  subst hP hw hK hmg hb
  have hS:aj fU=_:=(by (conv=>lhs; whnf))
  rw [hS] at d
  have hB:ax fU=_:=(by (conv=>lhs; whnf))
  rw [hB]
  have n_0:Nm X 0 "f":=d.nm rfl (by first | exact .inl rfl | exact .inr (.inl rfl))
  have n_1:Nm X 1 "path":=d.nm rfl (by first | exact .inl rfl | exact .inr (.inl rfl))
  have n_2:Nm X 2 "part":=d.nm rfl (by first | exact .inl rfl | exact .inr (.inl rfl))
  have n_3:Nm X 3 "n":=d.nm rfl (by first | exact .inl rfl | exact .inr (.inl rfl))
  have n_4:Nm X 4 "parts":=d.nm rfl (by first | exact .inl rfl | exact .inr (.inl rfl))
  have l_2:Nl X 2 "part":=d.nl rfl (by first | exact .inl rfl | exact .inr rfl)
  have l_3:Nl X 3 "n":=d.nl rfl (by first | exact .inl rfl | exact .inr rfl)
  have l_4:Nl X 4 "parts":=d.nl rfl (by first | exact .inl rfl | exact .inr rfl)
  have g_NoPart:Gl X "NoPart":=d.gl rfl
  have g_len:Gl X "len":=d.gl rfl
  have g_parts_of:Gl X "parts_of":=d.gl rfl
  have hu:=bV hr
  delta iT gg
  refine ai ?_ ?_
  refine aF ?_ ?_
  exact l_2
  refine aa ?_
  exact n_0
  refine ai ?_ ?_
  refine jc d.never d.calm (bg 3) ?_ ?_ ?_
  refine cI ?_
  exact l_3
  refine aa ?_
  exact n_1
  refine ai ?_ ?_
  refine aF ?_ ?_
  exact l_4
  refine bZ ?_
  refine jC G_parts_of hr ?s1 ?_ ?_
  case s1=>decide
  exact g_parts_of
  refine af ?_ ?_
  refine aa ?_
  exact n_2
  exact ar
  refine ai ?_ ?_
  refine aV ?_ ?_ ?_
  refine eh ?_
  refine qu .le .lt ?_ ?_ ?_
  exact ao
  refine aa ?_
  exact n_3
  refine cc ?_ ?_ ?_
  exact g_len
  exact T.di
  refine ag ?_
  refine aa ?_
  exact n_4
  refine aq ?_
  refine qE xr T.yc ?_ d.calm ?_
  exact g_NoPart
  exact aQ (by decide +kernel)
  exact aB
  refine aq ?_
  refine aF ?_ ?_
  exact l_2
  refine bc ?_ ?_
  refine ag ?_
  refine aa ?_
  exact n_4
  refine aa ?_
  exact n_3
  refine aq ?_
  refine az ?_
  refine aa ?_
  exact n_2
theorem sA (T:Txt P w K mg C0 C1 C2 C3 C4) :BodyOk P w K mg base (ct C0 C1 C2 C3 C4) ["thing"] fV 0 iU:=by
  refine ⟨fun X hP hw hK hmg hb d hr=>?_⟩
  subst hP hw hK hmg hb
  have hS:aj fV=_:=(by (conv=>lhs; whnf))
  rw [hS] at d
  have hB:ax fV=_:=(by (conv=>lhs; whnf))
  rw [hB]
  have n_0:Nm X 0 "thing":=d.nm rfl (by first | exact .inl rfl | exact .inr (.inl rfl))
  have g_MOST_LETTERS:Gl X "MOST_LETTERS":=d.gl rfl
  have g_all:Gl X "all":=d.gl rfl
  have g_isinstance:Gl X "isinstance":=d.gl rfl
  have g_len:Gl X "len":=d.gl rfl
  have g_str:Gl X "str":=d.gl rfl
  have hu:=bV hr
  delta iU gh
  refine ai ?_ ?_
  refine aV ?_ ?_ ?_
  refine PDW.pt ?_
  refine ib ?_ ?_
  refine eh ?_
  refine dQ ?_
  refine eU .str ?_ ?_ ?_ ?_ ?_
  exact g_isinstance
  exact T.bD
  exact g_str
  exact T.AK
  refine ag ?_
  refine aa ?_
  exact n_0
  refine iE ?_
  refine eh ?_
  refine qu .le .le ?_ ?_ ?_
  exact ao
  refine cc ?_ ?_ ?_
  exact g_len
  exact T.di
  refine ag ?_
  refine aa ?_
  exact n_0
  refine fF ⟨T.cT⟩ ?_
  exact g_MOST_LETTERS
  refine aq ?_
  refine az ?_
  exact iO
  exact aB
  refine aq ?_
  refine az ?_
  refine rS ?_ ?_ d.calm ?_
  exact g_all
  exact T.wK
  refine ag ?_
  refine bZ ?_
  refine t7 (N':=["letter"]) (nt:=1) (cap:=[]) d.toDefX ?s1 ?s2 ?s3 ?_ ?_ (bI (by decide)) (bg 0) ?_ ?_
  case s1=>exact ⟨by rfl,by decide +kernel,by decide +kernel,by decide +kernel,by rfl,by decide +kernel⟩
  case s2=>decide
  case s3=>decide +kernel
  refine aa ?_
  exact n_0
  intro cl C s2 H2 fp d1
  exact cI (d1.nlc (i:=0) rfl rfl)
  intro cl C s2 H2 fp d1
  exact d4
  intro cl C s2 H2 fp d1
  refine Dr ?_ ?_
  exact aa (d1.nm (i:=0) rfl (by first | exact .inl rfl | exact .inr (.inl rfl) | exact .inr (.inr rfl)))
  refine ag ?_
  exact fF ⟨T.cX⟩ (d1.gl rfl)
theorem jO (T:Txt P w K mg C0 C1 C2 C3 C4) :BodyOk P w K mg base (ct C0 C1 C2 C3 C4) ["thing"] bM 0 ek:=by
  refine ⟨fun X hP hw hK hmg hb d hr=>?_⟩
  subst hP hw hK hmg hb
  have hS:aj bM=_:=(by (conv=>lhs; whnf))
  rw [hS] at d
  have hB:ax bM=_:=(by (conv=>lhs; whnf))
  rw [hB]
  have n_0:Nm X 0 "thing":=d.nm rfl (by first | exact .inl rfl | exact .inr (.inl rfl))
  have g_GREATEST_NUMBER:Gl X "GREATEST_NUMBER":=d.gl rfl
  have g_bool:Gl X "bool":=d.gl rfl
  have g_int:Gl X "int":=d.gl rfl
  have g_isinstance:Gl X "isinstance":=d.gl rfl
  have hu:=bV hr
  delta ek
  refine ai ?_ ?_
  refine aV ?_ ?_ ?_
  refine PDW.pt ?_
  refine ib ?_ ?_
  refine eh ?_
  refine dQ ?_
  refine eU .int ?_ ?_ ?_ ?_ ?_
  exact g_isinstance
  exact T.bD
  exact g_int
  exact T.AI
  refine ag ?_
  refine aa ?_
  exact n_0
  refine iE ?_
  refine dQ ?_
  refine eU .bool ?_ ?_ ?_ ?_ ?_
  exact g_isinstance
  exact T.bD
  exact g_bool
  exact T.Ge
  refine ag ?_
  refine aa ?_
  exact n_0
  refine aq ?_
  refine az ?_
  exact iO
  exact aB
  refine aq ?_
  refine az ?_
  refine tm .le .le ?_ ?_ ?_
  exact ao
  refine aa ?_
  exact n_0
  refine fF ⟨T.cD⟩ ?_
  exact g_GREATEST_NUMBER
theorem mT (T:Txt P w K mg C0 C1 C2 C3 C4) :BodyOk P w K mg base (ct C0 C1 C2 C3 C4) ["thing", "least", "most"] df 0 hJ:=by
  refine ⟨fun X hP hw hK hmg hb d hr=>?_⟩
  subst hP hw hK hmg hb
  have hS:aj df=_:=(by (conv=>lhs; whnf))
  rw [hS] at d
  have hB:ax df=_:=(by (conv=>lhs; whnf))
  rw [hB]
  have n_0:Nm X 0 "thing":=d.nm rfl (by first | exact .inl rfl | exact .inr (.inl rfl))
  have n_1:Nm X 1 "least":=d.nm rfl (by first | exact .inl rfl | exact .inr (.inl rfl))
  have n_2:Nm X 2 "most":=d.nm rfl (by first | exact .inl rfl | exact .inr (.inl rfl))
  have g_isinstance:Gl X "isinstance":=d.gl rfl
  have g_len:Gl X "len":=d.gl rfl
  have g_tuple:Gl X "tuple":=d.gl rfl
  have hu:=bV hr
  delta hJ
  refine aq ?_
  refine az ?_
  refine ia ?_ ?_
  refine eU .tuple ?_ ?_ ?_ ?_ ?_
  exact g_isinstance
  exact T.bD
  exact g_tuple
  exact T.fg
  refine ag ?_
  refine aa ?_
  exact n_0
  refine er ?_
  refine tm .le .le ?_ ?_ ?_
  refine aa ?_
  exact n_1
  refine cc ?_ ?_ ?_
  exact g_len
  exact T.di
  refine ag ?_
  refine aa ?_
  exact n_0
  refine aa ?_
  exact n_2
theorem ph (T:Txt P w K mg C0 C1 C2 C3 C4)(G_is_stretch:Def P w K mg base (ct C0 C1 C2 C3 C4) "is_stretch" ["thing", "least", "most"] 1 d7):BodyOk P w K mg base (ct C0 C1 C2 C3 C4) ["thing"] dI 1 iG:=by
  refine ⟨fun X hP hw hK hmg hb d hr=>?_⟩
  subst hP hw hK hmg hb
  have hS:aj dI=_:=(by (conv=>lhs; whnf))
  rw [hS] at d
  have hB:ax dI=_:=(by (conv=>lhs; whnf))
  rw [hB]
  have n_0:Nm X 0 "thing":=d.nm rfl (by first | exact .inl rfl | exact .inr (.inl rfl))
  have g_MOST_IN_TABLE:Gl X "MOST_IN_TABLE":=d.gl rfl
  have g_all:Gl X "all":=d.gl rfl
  have g_is_stretch:Gl X "is_stretch":=d.gl rfl
  have hu:=bV hr
  delta iG gj gi
  refine ai ?_ ?_
  refine aV ?_ ?_ ?_
  refine eh ?_
  refine dQ ?_
  refine aZ G_is_stretch hr ?s1 ?_ ?_
  case s1=>decide
  exact g_is_stretch
  refine af ?_ ?_
  refine aa ?_
  exact n_0
  refine af ?_ ?_
  exact ao
  refine af ?_ ?_
  refine fF ⟨T.bR⟩ ?_
  exact g_MOST_IN_TABLE
  exact ar
  refine aq ?_
  refine az ?_
  exact iO
  exact aB
  refine ai ?_ ?_
  refine aV ?_ ?_ ?_
  refine eh ?_
  refine dQ ?_
  refine rS ?_ ?_ d.calm ?_
  exact g_all
  exact T.wK
  refine ag ?_
  refine bZ ?_
  refine dR (N':=["band"]) (nt:=1) (cap:=[]) d.toDefX ?s1 ?s2 ?s3 ?_ ?_ (bI (by decide)) (bg 0) ?_ ?_
  case s1=>exact ⟨by rfl,by decide +kernel,by decide +kernel,by decide +kernel,by rfl,by decide +kernel⟩
  case s2=>decide
  case s3=>decide +kernel
  refine ag ?_
  refine aa ?_
  exact n_0
  intro cl C s2 H2 fp d1
  exact cI (d1.nlc (i:=0) rfl rfl)
  intro cl C s2 H2 fp d1
  exact d4
  intro cl C s2 H2 fp d1
  refine aZ (X:=aO _ _ _ _ _ _ _ _) G_is_stretch hr ?s1 (d1.gl rfl) ?_
  case s1=>decide
  refine af ?_ ?_
  exact aa (d1.nm (i:=0) rfl (by first | exact .inl rfl | exact .inr (.inl rfl) | exact .inr (.inr rfl)))
  refine af ?_ ?_
  exact ao
  refine af ?_ ?_
  exact fF ⟨T.bR⟩ (d1.gl rfl)
  exact ar
  refine aq ?_
  refine az ?_
  exact iO
  exact aB
  refine aq ?_
  refine az ?_
  refine rS ?_ ?_ d.calm ?_
  exact g_all
  exact T.wK
  refine ag ?_
  refine bZ ?_
  refine dR (N':=["band", "thing"]) (nt:=1) (cap:=[0]) d.toDefX ?s1 ?s2 ?s3 ?_ ?_ (bI (by decide)) (bg 0) ?_ ?_
  case s1=>exact ⟨by rfl,by decide +kernel,by decide +kernel,by decide +kernel,by rfl,by decide +kernel⟩
  case s2=>decide
  case s3=>decide +kernel
  refine ag ?_
  refine aa ?_
  exact n_0
  intro cl C s2 H2 fp d1
  exact cI (d1.nlc (i:=0) rfl rfl)
  intro cl C s2 H2 fp d1
  exact d4
  intro cl C s2 H2 fp d1
  refine iP hr ?_ ?_
  refine ag ?_
  refine cc (d1.gl rfl) ?_ ?_
  exact T.di
  refine ag ?_
  exact aa (d1.nm (i:=0) rfl (by first | exact .inl rfl | exact .inr (.inl rfl) | exact .inr (.inr rfl)))
  refine ag ?_
  refine cc (d1.gl rfl) ?_ ?_
  exact T.di
  refine ag ?_
  refine bc ?_ ?_
  refine ag ?_
  exact aa (d1.nm (i:=1) rfl (by first | exact .inl rfl | exact .inr (.inl rfl) | exact .inr (.inr rfl)))
  exact ao
theorem pj (T:Txt P w K mg C0 C1 C2 C3 C4) :BodyOk P w K mg base (ct C0 C1 C2 C3 C4) ["thing", "number"] dJ 0 iH:=by
  refine ⟨fun X hP hw hK hmg hb d hr=>?_⟩
  subst hP hw hK hmg hb
  have hS:aj dJ=_:=(by (conv=>lhs; whnf))
  rw [hS] at d
  have hB:ax dJ=_:=(by (conv=>lhs; whnf))
  rw [hB]
  have n_0:Nm X 0 "thing":=d.nm rfl (by first | exact .inl rfl | exact .inr (.inl rfl))
  have n_1:Nm X 1 "number":=d.nm rfl (by first | exact .inl rfl | exact .inr (.inl rfl))
  have g_all:Gl X "all":=d.gl rfl
  have g_isinstance:Gl X "isinstance":=d.gl rfl
  have g_len:Gl X "len":=d.gl rfl
  have g_str:Gl X "str":=d.gl rfl
  have hu:=bV hr
  delta iH eB
  refine aq ?_
  refine az ?_
  refine ia ?_ ?_
  refine eU .str ?_ ?_ ?_ ?_ ?_
  exact g_isinstance
  exact T.bD
  exact g_str
  exact T.AK
  refine ag ?_
  refine aa ?_
  exact n_0
  refine ia ?_ ?_
  refine iP hr ?_ ?_
  refine ag ?_
  refine cc ?_ ?_ ?_
  exact g_len
  exact T.di
  refine ag ?_
  refine aa ?_
  exact n_0
  refine ag ?_
  refine aa ?_
  exact n_1
  refine er ?_
  refine rS ?_ ?_ d.calm ?_
  exact g_all
  exact T.wK
  refine ag ?_
  refine bZ ?_
  refine t7 (N':=["sign"]) (nt:=1) (cap:=[]) d.toDefX ?s1 ?s2 ?s3 ?_ ?_ (bI (by decide)) (bg 0) ?_ ?_
  case s1=>exact ⟨by rfl,by decide +kernel,by decide +kernel,by decide +kernel,by rfl,by decide +kernel⟩
  case s2=>decide
  case s3=>decide +kernel
  refine aa ?_
  exact n_0
  intro cl C s2 H2 fp d1
  exact cI (d1.nlc (i:=0) rfl rfl)
  intro cl C s2 H2 fp d1
  exact d4
  intro cl C s2 H2 fp d1
  refine Dr ?_ ?_
  exact aa (d1.nm (i:=0) rfl (by first | exact .inl rfl | exact .inr (.inl rfl) | exact .inr (.inr rfl)))
  refine ag ?_
  exact aQ (by decide +kernel)
theorem pq (T:Txt P w K mg C0 C1 C2 C3 C4)(G_is_word:Def P w K mg base (ct C0 C1 C2 C3 C4) "is_word" ["thing"] 1 hZ)(G_is_number_value:Def P w K mg base (ct C0 C1 C2 C3 C4) "is_number_value" ["thing"] 1 d6)(G_are_bands:Def P w K mg base (ct C0 C1 C2 C3 C4) "are_bands" ["thing"] 2 gP)(G_is_stretch:Def P w K mg base (ct C0 C1 C2 C3 C4) "is_stretch" ["thing", "least", "most"] 1 d7)(G_are_signs:Def P w K mg base (ct C0 C1 C2 C3 C4) "are_signs" ["thing", "number"] 1 gQ):BodyOk P w K mg base (ct C0 C1 C2 C3 C4) ["thing", "kind"] dM 2 aS:=by
  refine ⟨fun X hP hw hK hmg hb d hr=>?_⟩
  subst hP hw hK hmg hb
  have hS:aj dM=_:=(by (conv=>lhs; whnf))
  rw [hS] at d
  have hB:ax dM=_:=(by (conv=>lhs; whnf))
  rw [hB]
  have n_0:Nm X 0 "thing":=d.nm rfl (by first | exact .inl rfl | exact .inr (.inl rfl))
  have n_1:Nm X 1 "kind":=d.nm rfl (by first | exact .inl rfl | exact .inr (.inl rfl))
  have l_1:Nl X 1 "kind":=d.nl rfl (by first | exact .inl rfl | exact .inr rfl)
  have g_LENGTHS:Gl X "LENGTHS":=d.gl rfl
  have g_MOST_PARTS:Gl X "MOST_PARTS":=d.gl rfl
  have g_ROW_KINDS:Gl X "ROW_KINDS":=d.gl rfl
  have g_are_bands:Gl X "are_bands":=d.gl rfl
  have g_are_signs:Gl X "are_signs":=d.gl rfl
  have g_is_number_value:Gl X "is_number_value":=d.gl rfl
  have g_is_stretch:Gl X "is_stretch":=d.gl rfl
  have g_is_word:Gl X "is_word":=d.gl rfl
  have g_isinstance:Gl X "isinstance":=d.gl rfl
  have g_len:Gl X "len":=d.gl rfl
  have g_str:Gl X "str":=d.gl rfl
  have g_tuple:Gl X "tuple":=d.gl rfl
  have hu:=bV hr
  delta aS
  refine ai ?_ ?_
  refine aV ?_ ?_ ?_
  refine PDW.pt ?_
  refine ib ?_ ?_
  refine eh ?_
  refine dQ ?_
  refine eU .tuple ?_ ?_ ?_ ?_ ?_
  exact g_isinstance
  exact T.bD
  exact g_tuple
  exact T.fg
  refine ag ?_
  refine aa ?_
  exact n_0
  refine ib ?_ ?_
  refine bE hr ?_ ?_
  refine ag ?_
  refine cc ?_ ?_ ?_
  exact g_len
  exact T.di
  refine ag ?_
  refine aa ?_
  exact n_0
  refine ag ?_
  exact ao
  refine iE ?_
  refine eh ?_
  refine dQ ?_
  refine eU .str ?_ ?_ ?_ ?_ ?_
  exact g_isinstance
  exact T.bD
  exact g_str
  exact T.AK
  refine ag ?_
  refine bc ?_ ?_
  refine ag ?_
  refine aa ?_
  exact n_0
  exact ao
  refine aq ?_
  refine az ?_
  exact iO
  exact aB
  refine ai ?_ ?_
  refine aF ?_ ?_
  exact l_1
  refine bc ?_ ?_
  refine ag ?_
  refine aa ?_
  exact n_0
  exact ao
  refine ai ?_ ?_
  refine aV ?_ ?_ ?_
  refine PDW.pt ?_
  refine ib ?_ ?_
  refine vo ⟨T.qV⟩ ?_ ?_
  exact g_LENGTHS
  refine aa ?_
  exact n_1
  refine iE ?_
  refine kM hr ?_ ?_
  refine ag ?_
  refine cc ?_ ?_ ?_
  exact g_len
  exact T.di
  refine ag ?_
  refine aa ?_
  exact n_0
  refine ag ?_
  refine zC ⟨T.qV⟩ ?_ ?_
  exact g_LENGTHS
  refine aa ?_
  exact n_1
  refine aq ?_
  refine az ?_
  exact iO
  exact aB
  refine ai ?_ ?_
  refine aV ?_ ?_ ?_
  refine bE hr ?_ ?_
  refine ag ?_
  refine aa ?_
  exact n_1
  refine ag ?_
  exact aQ (by decide +kernel)
  refine aq ?_
  refine az ?_
  refine aZ G_is_word hr ?s1 ?_ ?_
  case s1=>decide
  exact g_is_word
  refine af ?_ ?_
  refine bc ?_ ?_
  refine ag ?_
  refine aa ?_
  exact n_0
  exact ao
  exact ar
  exact aB
  refine ai ?_ ?_
  refine aV ?_ ?_ ?_
  refine bE hr ?_ ?_
  refine ag ?_
  refine aa ?_
  exact n_1
  refine ag ?_
  exact aQ (by decide +kernel)
  refine aq ?_
  refine az ?_
  refine aZ G_is_number_value hr ?s1 ?_ ?_
  case s1=>decide
  exact g_is_number_value
  refine af ?_ ?_
  refine bc ?_ ?_
  refine ag ?_
  refine aa ?_
  exact n_0
  exact ao
  exact ar
  exact aB
  refine ai ?_ ?_
  refine aV ?_ ?_ ?_
  refine kL ?_ ?_
  refine aa ?_
  exact n_1
  refine ag ?_
  refine fF ⟨T.aw⟩ ?_
  exact g_ROW_KINDS
  refine aq ?_
  refine az ?_
  refine ia ?_ ?_
  refine aZ G_is_stretch hr ?s1 ?_ ?_
  case s1=>decide
  exact g_is_stretch
  refine af ?_ ?_
  refine bc ?_ ?_
  refine ag ?_
  refine aa ?_
  exact n_0
  exact ao
  refine af ?_ ?_
  exact ao
  refine af ?_ ?_
  refine fF ⟨T.cj⟩ ?_
  exact g_MOST_PARTS
  exact ar
  refine er ?_
  refine jD ?_ ?_
  refine zK hr ?_ ?_
  refine ag ?_
  refine aa ?_
  exact n_1
  refine ag ?_
  exact aQ (by decide +kernel)
  refine er ?_
  refine aZ G_are_signs hr ?s1 ?_ ?_
  case s1=>decide
  exact g_are_signs
  refine af ?_ ?_
  refine bc ?_ ?_
  refine ag ?_
  refine aa ?_
  exact n_0
  exact ao
  refine af ?_ ?_
  refine o6 ?_ ?_
  refine cc ?_ ?_ ?_
  exact g_len
  exact T.di
  refine ag ?_
  refine bc ?_ ?_
  refine ag ?_
  refine aa ?_
  exact n_0
  exact ao
  exact ao
  exact ar
  exact aB
  refine ai ?_ ?_
  refine aV ?_ ?_ ?_
  refine bE hr ?_ ?_
  refine ag ?_
  refine aa ?_
  exact n_1
  refine ag ?_
  exact aQ (by decide +kernel)
  refine aq ?_
  refine az ?_
  refine jD ?_ ?_
  refine qr ?_
  refine ag ?_
  refine bc ?_ ?_
  refine ag ?_
  refine aa ?_
  exact n_0
  exact ao
  refine er ?_
  refine qr ?_
  refine ag ?_
  refine bc ?_ ?_
  refine ag ?_
  refine aa ?_
  exact n_0
  exact ao
  exact aB
  refine aq ?_
  refine az ?_
  refine jD ?_ ?_
  refine zK hr ?_ ?_
  refine ag ?_
  refine aa ?_
  exact n_1
  refine ag ?_
  exact aQ (by decide +kernel)
  refine er ?_
  refine aZ G_are_bands hr ?s1 ?_ ?_
  case s1=>decide
  exact g_are_bands
  refine af ?_ ?_
  refine bc ?_ ?_
  refine ag ?_
  refine aa ?_
  exact n_0
  exact ao
  exact ar
theorem pV (T:Txt P w K mg C0 C1 C2 C3 C4) :BodyOk P w K mg base (ct C0 C1 C2 C3 C4) ["f"] eO 0 il:=by
  refine ⟨fun X hP hw hK hmg hb d hr=>?_⟩
  subst hP hw hK hmg hb
  have hS:aj eO=_:=(by (conv=>lhs; whnf))
  rw [hS] at d
  have hB:ax eO=_:=(by (conv=>lhs; whnf))
  rw [hB]
  have n_0:Nm X 0 "f":=d.nm rfl (by first | exact .inl rfl | exact .inr (.inl rfl))
  have g_LEVELS:Gl X "LEVELS":=d.gl rfl
  have hu:=bV hr
  delta il
  refine aq ?_
  refine az ?_
  refine zC ⟨T.AL⟩ ?_ ?_
  exact g_LEVELS
  refine bc ?_ ?_
  refine ag ?_
  refine aa ?_
  exact n_0
  exact ao
theorem my (T:Txt P w K mg C0 C1 C2 C3 C4)(G_level_of:Def P w K mg base (ct C0 C1 C2 C3 C4) "level_of" ["f"] 1 bK):BodyOk P w K mg base (ct C0 C1 C2 C3 C4) ["f", "n", "kind"] cN 1 bB:=by
  refine ⟨fun X hP hw hK hmg hb d hr=>?_⟩
  subst hP hw hK hmg hb
  have hS:aj cN=_:=(by (conv=>lhs; whnf))
  rw [hS] at d
  have hB:ax cN=_:=(by (conv=>lhs; whnf))
  rw [hB]
  have n_0:Nm X 0 "f":=d.nm rfl (by first | exact .inl rfl | exact .inr (.inl rfl))
  have n_1:Nm X 1 "n":=d.nm rfl (by first | exact .inl rfl | exact .inr (.inl rfl))
  have n_2:Nm X 2 "kind":=d.nm rfl (by first | exact .inl rfl | exact .inr (.inl rfl))
  have l_2:Nl X 2 "kind":=d.nl rfl (by first | exact .inl rfl | exact .inr rfl)
  have g_ROW_KINDS:Gl X "ROW_KINDS":=d.gl rfl
  have g_level_of:Gl X "level_of":=d.gl rfl
  have hu:=bV hr
  delta bB
  refine ai ?_ ?_
  refine aF ?_ ?_
  exact l_2
  refine bc ?_ ?_
  refine ag ?_
  refine aa ?_
  exact n_0
  exact ao
  refine ai ?_ ?_
  refine aV ?_ ?_ ?_
  refine kL ?_ ?_
  refine aa ?_
  exact n_2
  refine ag ?_
  refine fF ⟨T.aw⟩ ?_
  exact g_ROW_KINDS
  refine aq ?_
  refine az ?_
  refine e7 ?_ ?_
  refine ag ?_
  refine aZ G_level_of hr ?s1 ?_ ?_
  case s1=>decide
  exact g_level_of
  refine af ?_ ?_
  refine aa ?_
  exact n_0
  exact ar
  refine ag ?_
  exact ao
  exact aB
  refine aq ?_
  refine az ?_
  refine o9 ?_ ?_ ?_
  refine PDW.pt ?_
  refine jT ?_ ?_
  refine bE hr ?_ ?_
  refine ag ?_
  refine aa ?_
  exact n_2
  refine ag ?_
  exact aQ (by decide +kernel)
  refine jE ?_
  refine bE hr ?_ ?_
  refine ag ?_
  refine aa ?_
  exact n_1
  refine ag ?_
  exact ao
  exact ao
  exact ao
theorem mz (T:Txt P w K mg C0 C1 C2 C3 C4)(G_parts_of:mh P w K mg base (ct C0 C1 C2 C3 C4) "parts_of" ["f"] 2 aH){kr:Nat}(hk : 2≤kr){cK:List D→Option (D)}(G_holds_table:Def P w K mg base (ct C0 C1 C2 C3 C4) "holds_table" ["f"] kr cK):BodyOk P w K mg base (ct C0 C1 C2 C3 C4) ["f"] cO kr (fC cK):=by
  refine ⟨fun X hP hw hK hmg hb d hr=>?_⟩
  subst hP hw hK hmg hb
  have hS:aj cO=_:=(by (conv=>lhs; whnf))
  rw [hS] at d
  have hB:ax cO=_:=(by (conv=>lhs; whnf))
  rw [hB]
  have n_0:Nm X 0 "f":=d.nm rfl (by first | exact .inl rfl | exact .inr (.inl rfl))
  have g_any:Gl X "any":=d.gl rfl
  have g_parts_of:Gl X "parts_of":=d.gl rfl
  have hu:=bV hr
  delta fC
  refine aq ?_
  refine az ?_
  refine jD ?_ ?_
  refine iP hr ?_ ?_
  refine ag ?_
  refine bc ?_ ?_
  refine ag ?_
  refine aa ?_
  exact n_0
  exact ao
  refine ag ?_
  exact aQ (by decide +kernel)
  refine er ?_
  refine rR ?_ ?_ d.calm ?_
  exact g_any
  exact T.wJ
  refine ag ?_
  refine bZ ?_
  refine dR (N':=["part"]) (nt:=1) (cap:=[]) d.toDefX ?s1 ?s2 ?s3 ?_ ?_ (bI (by decide)) (bg 0) ?_ ?_
  case s1=>exact ⟨by rfl,by decide +kernel,by decide +kernel,by decide +kernel,by rfl,by decide +kernel⟩
  case s2=>first | decide | omega
  case s3=>decide +kernel
  refine ag ?_
  refine bZ ?_
  refine jC G_parts_of hr ?s1 ?_ ?_
  case s1=>first | decide | omega
  exact g_parts_of
  refine af ?_ ?_
  refine aa ?_
  exact n_0
  exact ar
  intro cl C s2 H2 fp d1
  exact cI (d1.nlc (i:=0) rfl rfl)
  intro cl C s2 H2 fp d1
  exact d4
  intro cl C s2 H2 fp d1
  refine aZ (X:=aO _ _ _ _ _ _ _ _) G_holds_table hr ?s1 (d1.gl rfl) ?_
  case s1=>first | decide | omega
  refine af ?_ ?_
  exact aa (d1.nm (i:=0) rfl (by first | exact .inl rfl | exact .inr (.inl rfl) | exact .inr (.inr rfl)))
  exact ar
theorem pW (T:Txt P w K mg C0 C1 C2 C3 C4)(G_parts_of:mh P w K mg base (ct C0 C1 C2 C3 C4) "parts_of" ["f"] 2 aH)(G_has_shell:Def P w K mg base (ct C0 C1 C2 C3 C4) "has_shell" ["thing"] 3 aM)(G_level_of:Def P w K mg base (ct C0 C1 C2 C3 C4) "level_of" ["f"] 1 bK)(G_least_level:Def P w K mg base (ct C0 C1 C2 C3 C4) "least_level" ["f", "n"] 2 aR)(G_holds_table:Def P w K mg base (ct C0 C1 C2 C3 C4) "holds_table" ["f"] 18 cK){kr:Nat}(hk : 18≤kr){eC:List D→Option (D)}(G_has_form:Def P w K mg base (ct C0 C1 C2 C3 C4) "has_form" ["thing"] kr eC):BodyOk P w K mg base (ct C0 C1 C2 C3 C4) ["thing", "parts", "n", "part"] eP kr (gy eC):=by
  refine ⟨fun X hP hw hK hmg hb d hr=>?_⟩
  subst hP hw hK hmg hb
  have hS:aj eP=_:=(by (conv=>lhs; whnf))
  rw [hS] at d
  have hB:ax eP=_:=(by (conv=>lhs; whnf))
  rw [hB]
  have n_0:Nm X 0 "thing":=d.nm rfl (by first | exact .inl rfl | exact .inr (.inl rfl))
  have n_1:Nm X 1 "parts":=d.nm rfl (by first | exact .inl rfl | exact .inr (.inl rfl))
  have n_2:Nm X 2 "n":=d.nm rfl (by first | exact .inl rfl | exact .inr (.inl rfl))
  have n_3:Nm X 3 "part":=d.nm rfl (by first | exact .inl rfl | exact .inr (.inl rfl))
  have l_1:Nl X 1 "parts":=d.nl rfl (by first | exact .inl rfl | exact .inr rfl)
  have l_2:Nl X 2 "n":=d.nl rfl (by first | exact .inl rfl | exact .inr rfl)
  have l_3:Nl X 3 "part":=d.nl rfl (by first | exact .inl rfl | exact .inr rfl)
  have g_any:Gl X "any":=d.gl rfl
  have g_enumerate:Gl X "enumerate":=d.gl rfl
  have g_has_form:Gl X "has_form":=d.gl rfl
  have g_has_shell:Gl X "has_shell":=d.gl rfl
  have g_least_level:Gl X "least_level":=d.gl rfl
  have g_level_of:Gl X "level_of":=d.gl rfl
  have g_parts_of:Gl X "parts_of":=d.gl rfl
  have hu:=bV hr
  delta gy
  refine ai ?_ ?_
  refine aV ?_ ?_ ?_
  refine eh ?_
  refine dQ ?_
  refine aZ G_has_shell hr ?s1 ?_ ?_
  case s1=>first | decide | omega
  exact g_has_shell
  refine af ?_ ?_
  refine aa ?_
  exact n_0
  exact ar
  refine aq ?_
  refine az ?_
  exact iO
  exact aB
  refine ai ?_ ?_
  refine aF ?_ ?_
  exact l_1
  refine bZ ?_
  refine jC G_parts_of hr ?s1 ?_ ?_
  case s1=>first | decide | omega
  exact g_parts_of
  refine af ?_ ?_
  refine aa ?_
  exact n_0
  exact ar
  refine ai ?_ ?_
  refine zY d.never d.calm (sS (j9 2 (j9 3 qk))) ?_ ?_ ?_ ?_ ?_
  refine yp d.calm ?_
  refine lh ?_ ?_
  refine cI ?_
  exact l_2
  refine lh ?_ ?_
  refine cI ?_
  exact l_3
  exact vR
  exact g_enumerate
  exact T.uD
  refine aa ?_
  exact n_1
  refine aq ?_
  refine aV ?_ ?_ ?_
  refine PDW.pt ?_
  refine ib ?_ ?_
  refine eh ?_
  refine dQ ?_
  refine aZ G_has_form hr ?s1 ?_ ?_
  case s1=>first | decide | omega
  exact g_has_form
  refine af ?_ ?_
  refine aa ?_
  exact n_3
  exact ar
  refine iE ?_
  refine kK ?_ ?_
  refine aZ G_level_of hr ?s1 ?_ ?_
  case s1=>first | decide | omega
  exact g_level_of
  refine af ?_ ?_
  refine aa ?_
  exact n_3
  exact ar
  refine aZ G_least_level hr ?s1 ?_ ?_
  case s1=>first | decide | omega
  exact g_least_level
  refine af ?_ ?_
  refine aa ?_
  exact n_0
  refine af ?_ ?_
  refine aa ?_
  exact n_2
  exact ar
  refine aq ?_
  refine az ?_
  exact iO
  exact aB
  refine aq ?_
  refine az ?_
  refine jD ?_ ?_
  refine zK hr ?_ ?_
  refine ag ?_
  refine bc ?_ ?_
  refine ag ?_
  refine aa ?_
  exact n_0
  exact ao
  refine ag ?_
  exact aQ (by decide +kernel)
  refine er ?_
  refine zD ?_
  refine rR ?_ ?_ d.calm ?_
  exact g_any
  exact T.wJ
  refine ag ?_
  refine bZ ?_
  refine dR (N':=["part"]) (nt:=1) (cap:=[]) d.toDefX ?s1 ?s2 ?s3 ?_ ?_ (bI (by decide)) (bg 0) ?_ ?_
  case s1=>exact ⟨by rfl,by decide +kernel,by decide +kernel,by decide +kernel,by rfl,by decide +kernel⟩
  case s2=>first | decide | omega
  case s3=>decide +kernel
  refine ag ?_
  refine aa ?_
  exact n_1
  intro cl C s2 H2 fp d1
  exact cI (d1.nlc (i:=0) rfl rfl)
  intro cl C s2 H2 fp d1
  exact d4
  intro cl C s2 H2 fp d1
  refine aZ (X:=aO _ _ _ _ _ _ _ _) G_holds_table hr ?s1 (d1.gl rfl) ?_
  case s1=>first | decide | omega
  refine af ?_ ?_
  exact aa (d1.nm (i:=0) rfl (by first | exact .inl rfl | exact .inr (.inl rfl) | exact .inr (.inr rfl)))
  exact ar
theorem pX (T:Txt P w K mg C0 C1 C2 C3 C4)(G_parts_of:mh P w K mg base (ct C0 C1 C2 C3 C4) "parts_of" ["f"] 2 aH){kr:Nat}(hk : 2≤kr){eD:List D→Option (D)}(G_depth_of:Def P w K mg base (ct C0 C1 C2 C3 C4) "depth_of" ["f"] kr eD):BodyOk P w K mg base (ct C0 C1 C2 C3 C4) ["f"] eQ kr (ji eD):=by
  refine ⟨fun X hP hw hK hmg hb d hr=>?_⟩
  subst hP hw hK hmg hb
  have hS:aj eQ=_:=(by (conv=>lhs; whnf))
  rw [hS] at d
  have hB:ax eQ=_:=(by (conv=>lhs; whnf))
  rw [hB]
  have n_0:Nm X 0 "f":=d.nm rfl (by first | exact .inl rfl | exact .inr (.inl rfl))
  have g_max:Gl X "max":=d.gl rfl
  have g_parts_of:Gl X "parts_of":=d.gl rfl
  have hu:=bV hr
  delta ji
  refine aq ?_
  refine az ?_
  refine e7 ?_ ?_
  refine ag ?_
  exact ao
  refine ag ?_
  refine tL ?_ ?_ d.calm ?_ ?_
  exact g_max
  exact T.AJ
  refine ag ?_
  refine bZ ?_
  refine dR (N':=["part"]) (nt:=1) (cap:=[]) d.toDefX ?s1 ?s2 ?s3 ?_ ?_ (bI (by decide)) (bg 0) ?_ ?_
  case s1=>exact ⟨by rfl,by decide +kernel,by decide +kernel,by decide +kernel,by rfl,by decide +kernel⟩
  case s2=>first | decide | omega
  case s3=>decide +kernel
  refine ag ?_
  refine bZ ?_
  refine jC G_parts_of hr ?s1 ?_ ?_
  case s1=>first | decide | omega
  exact g_parts_of
  refine af ?_ ?_
  refine aa ?_
  exact n_0
  exact ar
  intro cl C s2 H2 fp d1
  exact cI (d1.nlc (i:=0) rfl rfl)
  intro cl C s2 H2 fp d1
  exact d4
  intro cl C s2 H2 fp d1
  refine aZ (X:=aO _ _ _ _ _ _ _ _) G_depth_of hr ?s1 (d1.gl rfl) ?_
  case s1=>first | decide | omega
  refine af ?_ ?_
  exact aa (d1.nm (i:=0) rfl (by first | exact .inl rfl | exact .inr (.inl rfl) | exact .inr (.inr rfl)))
  exact ar
  exact ao
theorem pY (T:Txt P w K mg C0 C1 C2 C3 C4)(G_parts_of:mh P w K mg base (ct C0 C1 C2 C3 C4) "parts_of" ["f"] 2 aH){kr:Nat}(hk : 2≤kr){eE:List D→Option (D)}(G_count_of:Def P w K mg base (ct C0 C1 C2 C3 C4) "count_of" ["f"] kr eE):BodyOk P w K mg base (ct C0 C1 C2 C3 C4) ["f"] eR kr (jj eE):=by
  refine ⟨fun X hP hw hK hmg hb d hr=>?_⟩
  subst hP hw hK hmg hb
  have hS:aj eR=_:=(by (conv=>lhs; whnf))
  rw [hS] at d
  have hB:ax eR=_:=(by (conv=>lhs; whnf))
  rw [hB]
  have n_0:Nm X 0 "f":=d.nm rfl (by first | exact .inl rfl | exact .inr (.inl rfl))
  have g_parts_of:Gl X "parts_of":=d.gl rfl
  have g_sum:Gl X "sum":=d.gl rfl
  have hu:=bV hr
  delta jj
  refine aq ?_
  refine az ?_
  refine e7 ?_ ?_
  refine ag ?_
  exact ao
  refine ag ?_
  refine Fq ?_ ?_ d.calm ?_
  exact g_sum
  exact T.Jd
  refine ag ?_
  refine bZ ?_
  refine dR (N':=["part"]) (nt:=1) (cap:=[]) d.toDefX ?s1 ?s2 ?s3 ?_ ?_ (bI (by decide)) (bg 0) ?_ ?_
  case s1=>exact ⟨by rfl,by decide +kernel,by decide +kernel,by decide +kernel,by rfl,by decide +kernel⟩
  case s2=>first | decide | omega
  case s3=>decide +kernel
  refine ag ?_
  refine bZ ?_
  refine jC G_parts_of hr ?s1 ?_ ?_
  case s1=>first | decide | omega
  exact g_parts_of
  refine af ?_ ?_
  refine aa ?_
  exact n_0
  exact ar
  intro cl C s2 H2 fp d1
  exact cI (d1.nlc (i:=0) rfl rfl)
  intro cl C s2 H2 fp d1
  exact d4
  intro cl C s2 H2 fp d1
  refine aZ (X:=aO _ _ _ _ _ _ _ _) G_count_of hr ?s1 (d1.gl rfl) ?_
  case s1=>first | decide | omega
  refine af ?_ ?_
  exact aa (d1.nm (i:=0) rfl (by first | exact .inl rfl | exact .inr (.inl rfl) | exact .inr (.inr rfl)))
  exact ar
theorem mU (T:Txt P w K mg C0 C1 C2 C3 C4)(G_has_form:Def P w K mg base (ct C0 C1 C2 C3 C4) "has_form" ["thing"] 34 eC)(G_depth_of:Def P w K mg base (ct C0 C1 C2 C3 C4) "depth_of" ["f"] 18 eD)(G_count_of:Def P w K mg base (ct C0 C1 C2 C3 C4) "count_of" ["f"] 18 eE):BodyOk P w K mg base (ct C0 C1 C2 C3 C4) ["thing"] dg 34 gk:=by
  refine ⟨fun X hP hw hK hmg hb d hr=>?_⟩
  subst hP hw hK hmg hb
  have hS:aj dg=_:=(by (conv=>lhs; whnf))
  rw [hS] at d
  have hB:ax dg=_:=(by (conv=>lhs; whnf))
  rw [hB]
  have n_0:Nm X 0 "thing":=d.nm rfl (by first | exact .inl rfl | exact .inr (.inl rfl))
  have g_MOST_COUNT:Gl X "MOST_COUNT":=d.gl rfl
  have g_MOST_DEPTH:Gl X "MOST_DEPTH":=d.gl rfl
  have g_count_of:Gl X "count_of":=d.gl rfl
  have g_depth_of:Gl X "depth_of":=d.gl rfl
  have g_has_form:Gl X "has_form":=d.gl rfl
  have hu:=bV hr
  delta gk
  refine aq ?_
  refine az ?_
  refine ia ?_ ?_
  refine aZ G_has_form hr ?s1 ?_ ?_
  case s1=>decide
  exact g_has_form
  refine af ?_ ?_
  refine aa ?_
  exact n_0
  exact ar
  refine ia ?_ ?_
  refine Dq ?_ ?_
  refine aZ G_depth_of hr ?s1 ?_ ?_
  case s1=>decide
  exact g_depth_of
  refine af ?_ ?_
  refine aa ?_
  exact n_0
  exact ar
  refine fF ⟨T.eV⟩ ?_
  exact g_MOST_DEPTH
  refine er ?_
  refine Dq ?_ ?_
  refine aZ G_count_of hr ?s1 ?_ ?_
  case s1=>decide
  exact g_count_of
  refine af ?_ ?_
  refine aa ?_
  exact n_0
  exact ar
  refine fF ⟨T.eW⟩ ?_
  exact g_MOST_COUNT
theorem uF (T:Txt P w K mg C0 C1 C2 C3 C4)(G_is_formula:Def P w K mg base (ct C0 C1 C2 C3 C4) "is_formula" ["thing"] 35 dS):tS P w K mg base (ct C0 C1 C2 C3 C4) ["f"] gS 35 iq:=by
  refine ⟨fun X xq hP hw hK hmg hb d hr xr=>?_⟩
  subst hP hw hK hmg hb
  have hS:aj gS=_:=(by (conv=>lhs; whnf))
  rw [hS] at d
  have hB:ax gS=_:=(by (conv=>lhs; whnf))
  rw [hB]
  have n_0:Nm X 0 "f":=d.nm rfl (by first | exact .inl rfl | exact .inr (.inl rfl))
  have g_NoFormula:Gl X "NoFormula":=d.gl rfl
  have g_is_formula:Gl X "is_formula":=d.gl rfl
  have hu:=bV hr
  delta iq
  refine ai ?_ ?_
  refine aV ?_ ?_ ?_
  refine eh ?_
  refine dQ ?_
  refine aZ G_is_formula hr ?s1 ?_ ?_
  case s1=>decide
  exact g_is_formula
  refine af ?_ ?_
  refine aa ?_
  exact n_0
  exact ar
  refine aq ?_
  refine qE xr T.lP ?_ d.calm ?_
  exact g_NoFormula
  exact aQ (by decide +kernel)
  exact aB
  refine aq ?_
  refine az ?_
  refine aa ?_
  exact n_0
theorem lQ (T:Txt P w K mg C0 C1 C2 C3 C4) :BodyOk P w K mg base (ct C0 C1 C2 C3 C4) ["f", "some", "again", "taken", "mark"] cC 0 gm:=by
  refine ⟨fun X hP hw hK hmg hb d hr=>?_⟩
  subst hP hw hK hmg hb
  have hS:aj cC=_:=(by (conv=>lhs; whnf))
  rw [hS] at d
  have hB:ax cC=_:=(by (conv=>lhs; whnf))
  rw [hB]
  have n_0:Nm X 0 "f":=d.nm rfl (by first | exact .inl rfl | exact .inr (.inl rfl))
  have n_1:Nm X 1 "some":=d.nm rfl (by first | exact .inl rfl | exact .inr (.inl rfl))
  have n_2:Nm X 2 "again":=d.nm rfl (by first | exact .inl rfl | exact .inr (.inl rfl))
  have n_3:Nm X 3 "taken":=d.nm rfl (by first | exact .inl rfl | exact .inr (.inl rfl))
  have n_4:Nm X 4 "mark":=d.nm rfl (by first | exact .inl rfl | exact .inr (.inl rfl))
  have l_2:Nl X 2 "again":=d.nl rfl (by first | exact .inl rfl | exact .inr rfl)
  have l_3:Nl X 3 "taken":=d.nl rfl (by first | exact .inl rfl | exact .inr rfl)
  have l_4:Nl X 4 "mark":=d.nl rfl (by first | exact .inl rfl | exact .inr rfl)
  have g_tuple:Gl X "tuple":=d.gl rfl
  have hu:=bV hr
  delta gm bC
  refine ai ?_ ?_
  refine rK ?_ ?_
  exact l_2
  refine g9 ?_
  refine af ?_ ?_
  exact aQ (by decide +kernel)
  refine af ?_ ?_
  refine bc ?_ ?_
  refine ag ?_
  refine aa ?_
  exact n_1
  exact ao
  exact ar
  refine ai ?_ ?_
  refine aF ?_ ?_
  exact l_3
  exact ao
  refine ai ?_ ?_
  refine jc d.never d.calm (bg 4) ?_ ?_ ?_
  refine cI ?_
  exact l_4
  refine gL ?_ ?_ ?_
  refine ag ?_
  refine aa ?_
  exact n_0
  refine bU ?_
  exact ao
  exact cZ
  refine aq ?_
  refine aV ?_ ?_ ?_
  refine BR ?_
  refine ag ?_
  refine aa ?_
  exact n_4
  refine aq ?_
  refine oh ?_ ?_
  exact n_2
  exact rJ
  refine ai ?_ ?_
  refine oh ?_ ?_
  exact n_2
  refine bc ?_ ?_
  refine ag ?_
  refine aa ?_
  exact n_1
  refine aa ?_
  exact n_3
  refine aq ?_
  refine t9 ?_ ?_
  exact l_3
  exact ao
  refine aq ?_
  refine az ?_
  refine gb ?_ ?_ ?_
  exact g_tuple
  exact T.fg
  refine wj ?_
  exact n_2
theorem mB (T:Txt P w K mg C0 C1 C2 C3 C4) :BodyOk P w K mg base (ct C0 C1 C2 C3 C4) ["bands", "some", "wide"] cP 0 gH:=by
  refine ⟨fun X hP hw hK hmg hb d hr=>?_⟩
  subst hP hw hK hmg hb
  have hS:aj cP=_:=(by (conv=>lhs; whnf))
  rw [hS] at d
  have hB:ax cP=_:=(by (conv=>lhs; whnf))
  rw [hB]
  have n_0:Nm X 0 "bands":=d.nm rfl (by first | exact .inl rfl | exact .inr (.inl rfl))
  have l_2:Nl X 2 "wide":=d.nl rfl (by first | exact .inl rfl | exact .inr rfl)
  have g_len:Gl X "len":=d.gl rfl
  have g_range:Gl X "range":=d.gl rfl
  have g_tuple:Gl X "tuple":=d.gl rfl
  have hu:=bV hr
  delta gH fb
  refine ai ?_ ?_
  refine aF ?_ ?_
  exact l_2
  refine cc ?_ ?_ ?_
  exact g_len
  exact T.di
  refine ag ?_
  refine bc ?_ ?_
  refine ag ?_
  refine aa ?_
  exact n_0
  exact ao
  refine aq ?_
  refine az ?_
  refine gb ?_ ?_ ?_
  exact g_tuple
  exact T.fg
  refine ag ?_
  refine bZ ?_
  refine zN (N':=["n", "some", "wide"]) (nt:=1) (cap:=[1,2]) d.toDefX ?s1 ?s2 ?s3 ?_ ?_ ?_ ?_ (bI (by decide)) (bg 0) ?_ ?_
  case s1=>exact ⟨by rfl,by decide +kernel,by decide +kernel,by decide +kernel,by rfl,by decide +kernel⟩
  case s2=>decide
  case s3=>decide +kernel
  exact g_range
  exact T.ny
  refine af ?_ ?_
  refine cc ?_ ?_ ?_
  exact g_len
  exact T.di
  refine ag ?_
  refine aa ?_
  exact n_0
  exact ar
  intro cl C s2 H2 fp d1
  exact cI (d1.nlc (i:=0) rfl rfl)
  intro cl C s2 H2 fp d1
  exact d4
  intro cl C s2 H2 fp d1
  refine gb (d1.gl rfl) ?_ ?_
  exact T.fg
  refine ag ?_
  refine gL ?_ ?_ ?_
  refine ag ?_
  exact aa (d1.nm (i:=1) rfl (by first | exact .inl rfl | exact .inr (.inl rfl) | exact .inr (.inr rfl)))
  refine bU ?_
  refine me ?_ ?_
  refine ag ?_
  exact aa (d1.nm (i:=0) rfl (by first | exact .inl rfl | exact .inr (.inl rfl) | exact .inr (.inr rfl)))
  exact aa (d1.nm (i:=2) rfl (by first | exact .inl rfl | exact .inr (.inl rfl) | exact .inr (.inr rfl)))
  refine bU ?_
  refine me ?_ ?_
  refine ag ?_
  refine e7 ?_ ?_
  refine ag ?_
  exact aa (d1.nm (i:=0) rfl (by first | exact .inl rfl | exact .inr (.inl rfl) | exact .inr (.inr rfl)))
  refine ag ?_
  exact ao
  exact aa (d1.nm (i:=2) rfl (by first | exact .inl rfl | exact .inr (.inl rfl) | exact .inr (.inr rfl)))
theorem sC (T:Txt P w K mg C0 C1 C2 C3 C4)(G_marked_again:Def P w K mg base (ct C0 C1 C2 C3 C4) "marked_again" ["f", "some"] 1 cU)(G_bands_again:Def P w K mg base (ct C0 C1 C2 C3 C4) "bands_again" ["bands", "some"] 1 dY):BodyOk P w K mg base (ct C0 C1 C2 C3 C4) ["f", "some", "kind"] fW 1 fP:=by
  refine ⟨fun X hP hw hK hmg hb d hr=>?_⟩
  subst hP hw hK hmg hb
  have hS:aj fW=_:=(by (conv=>lhs; whnf))
  rw [hS] at d
  have hB:ax fW=_:=(by (conv=>lhs; whnf))
  rw [hB]
  have n_0:Nm X 0 "f":=d.nm rfl (by first | exact .inl rfl | exact .inr (.inl rfl))
  have n_1:Nm X 1 "some":=d.nm rfl (by first | exact .inl rfl | exact .inr (.inl rfl))
  have n_2:Nm X 2 "kind":=d.nm rfl (by first | exact .inl rfl | exact .inr (.inl rfl))
  have l_2:Nl X 2 "kind":=d.nl rfl (by first | exact .inl rfl | exact .inr rfl)
  have g_ROW_KINDS:Gl X "ROW_KINDS":=d.gl rfl
  have g_bands_again:Gl X "bands_again":=d.gl rfl
  have g_marked_again:Gl X "marked_again":=d.gl rfl
  have g_tuple:Gl X "tuple":=d.gl rfl
  have hu:=bV hr
  delta fP
  refine ai ?_ ?_
  refine aF ?_ ?_
  exact l_2
  refine bc ?_ ?_
  refine ag ?_
  refine aa ?_
  exact n_0
  exact ao
  refine ai ?_ ?_
  refine aV ?_ ?_ ?_
  refine PDW.pt ?_
  refine ib ?_ ?_
  refine bE hr ?_ ?_
  refine ag ?_
  refine aa ?_
  exact n_2
  refine ag ?_
  exact aQ (by decide +kernel)
  refine iE ?_
  refine bE hr ?_ ?_
  refine ag ?_
  refine aa ?_
  exact n_2
  refine ag ?_
  exact aQ (by decide +kernel)
  refine aq ?_
  refine az ?_
  refine aa ?_
  exact n_0
  exact aB
  refine ai ?_ ?_
  refine aV ?_ ?_ ?_
  refine bE hr ?_ ?_
  refine ag ?_
  refine aa ?_
  exact n_2
  refine ag ?_
  exact aQ (by decide +kernel)
  refine aq ?_
  refine az ?_
  refine bJ ?_
  refine af ?_ ?_
  exact aQ (by decide +kernel)
  refine af ?_ ?_
  refine gb ?_ ?_ ?_
  exact g_tuple
  exact T.fg
  refine ag ?_
  refine aa ?_
  exact n_1
  refine af ?_ ?_
  refine bc ?_ ?_
  refine ag ?_
  refine aa ?_
  exact n_0
  exact ao
  exact ar
  exact aB
  refine ai ?_ ?_
  refine aV ?_ ?_ ?_
  refine kL ?_ ?_
  refine aa ?_
  exact n_2
  refine ag ?_
  refine fF ⟨T.aw⟩ ?_
  exact g_ROW_KINDS
  refine aq ?_
  refine az ?_
  refine bJ ?_
  refine af ?_ ?_
  refine aa ?_
  exact n_2
  refine af ?_ ?_
  refine gb ?_ ?_ ?_
  exact g_tuple
  exact T.fg
  refine ag ?_
  refine aa ?_
  exact n_1
  exact ar
  exact aB
  refine ai ?_ ?_
  refine aV ?_ ?_ ?_
  refine bE hr ?_ ?_
  refine ag ?_
  refine aa ?_
  exact n_2
  refine ag ?_
  exact aQ (by decide +kernel)
  refine aq ?_
  refine az ?_
  refine aZ G_marked_again hr ?s1 ?_ ?_
  case s1=>decide
  exact g_marked_again
  refine af ?_ ?_
  refine aa ?_
  exact n_0
  refine af ?_ ?_
  refine aa ?_
  exact n_1
  exact ar
  exact aB
  refine ai ?_ ?_
  refine aV ?_ ?_ ?_
  refine bE hr ?_ ?_
  refine ag ?_
  refine aa ?_
  exact n_2
  refine ag ?_
  exact aQ (by decide +kernel)
  refine aq ?_
  refine az ?_
  refine bJ ?_
  refine af ?_ ?_
  exact aQ (by decide +kernel)
  refine af ?_ ?_
  refine aZ G_bands_again hr ?s1 ?_ ?_
  case s1=>decide
  exact g_bands_again
  refine af ?_ ?_
  refine bc ?_ ?_
  refine ag ?_
  refine aa ?_
  exact n_0
  exact ao
  refine af ?_ ?_
  refine aa ?_
  exact n_1
  exact ar
  exact ar
  exact aB
  refine aq ?_
  refine az ?_
  refine e7 ?_ ?_
  refine ag ?_
  refine bJ ?_
  refine af ?_ ?_
  refine aa ?_
  exact n_2
  exact ar
  refine ag ?_
  refine gb ?_ ?_ ?_
  exact g_tuple
  exact T.fg
  refine ag ?_
  refine aa ?_
  exact n_1
theorem sD (T:Txt P w K mg C0 C1 C2 C3 C4)(G_level_of:Def P w K mg base (ct C0 C1 C2 C3 C4) "level_of" ["f"] 1 bK)(G_least_level:Def P w K mg base (ct C0 C1 C2 C3 C4) "least_level" ["f", "n"] 2 aR):BodyOk P w K mg base (ct C0 C1 C2 C3 C4) ["f", "n", "g"] fX 2 jX:=by
  refine ⟨fun X hP hw hK hmg hb d hr=>?_⟩
  subst hP hw hK hmg hb
  have hS:aj fX=_:=(by (conv=>lhs; whnf))
  rw [hS] at d
  have hB:ax fX=_:=(by (conv=>lhs; whnf))
  rw [hB]
  have n_0:Nm X 0 "f":=d.nm rfl (by first | exact .inl rfl | exact .inr (.inl rfl))
  have n_1:Nm X 1 "n":=d.nm rfl (by first | exact .inl rfl | exact .inr (.inl rfl))
  have n_2:Nm X 2 "g":=d.nm rfl (by first | exact .inl rfl | exact .inr (.inl rfl))
  have g_least_level:Gl X "least_level":=d.gl rfl
  have g_level_of:Gl X "level_of":=d.gl rfl
  have hu:=bV hr
  delta jX
  refine aq ?_
  refine az ?_
  refine o9 ?_ ?_ ?_
  refine Fe ?_ ?_
  refine aZ G_level_of hr ?s1 ?_ ?_
  case s1=>decide
  exact g_level_of
  refine af ?_ ?_
  refine aa ?_
  exact n_2
  exact ar
  refine aZ G_least_level hr ?s1 ?_ ?_
  case s1=>decide
  exact g_least_level
  refine af ?_ ?_
  refine aa ?_
  exact n_0
  refine af ?_ ?_
  refine aa ?_
  exact n_1
  exact ar
  refine aa ?_
  exact n_2
  refine bJ ?_
  refine af ?_ ?_
  exact aQ (by decide +kernel)
  refine af ?_ ?_
  refine aa ?_
  exact n_2
  exact ar
theorem pw (T:Txt P w K mg C0 C1 C2 C3 C4)(G_parts_of:mh P w K mg base (ct C0 C1 C2 C3 C4) "parts_of" ["f"] 2 aH)(G_rebuilt:Def P w K mg base (ct C0 C1 C2 C3 C4) "rebuilt" ["f", "some"] 2 cp)(G_fitting:Def P w K mg base (ct C0 C1 C2 C3 C4) "fitting" ["f", "n", "g"] 3 iX){kr:Nat}(hk : 3≤kr){cA:List D→Option (D)}(G_with_part:Def P w K mg base (ct C0 C1 C2 C3 C4) "with_part" ["f", "path", "g"] kr cA):BodyOk P w K mg base (ct C0 C1 C2 C3 C4) ["f", "path", "g", "parts", "n"] dN kr (d8 cA):=by
  refine ⟨fun X hP hw hK hmg hb d hr=>?_⟩
  subst hP hw hK hmg hb
  have hS:aj dN=_:=(by (conv=>lhs; whnf))
  rw [hS] at d
  have hB:ax dN=_:=(by (conv=>lhs; whnf))
  rw [hB]
  have n_0:Nm X 0 "f":=d.nm rfl (by first | exact .inl rfl | exact .inr (.inl rfl))
  have n_1:Nm X 1 "path":=d.nm rfl (by first | exact .inl rfl | exact .inr (.inl rfl))
  have n_2:Nm X 2 "g":=d.nm rfl (by first | exact .inl rfl | exact .inr (.inl rfl))
  have n_3:Nm X 3 "parts":=d.nm rfl (by first | exact .inl rfl | exact .inr (.inl rfl))
  have n_4:Nm X 4 "n":=d.nm rfl (by first | exact .inl rfl | exact .inr (.inl rfl))
  have l_3:Nl X 3 "parts":=d.nl rfl (by first | exact .inl rfl | exact .inr rfl)
  have l_4:Nl X 4 "n":=d.nl rfl (by first | exact .inl rfl | exact .inr rfl)
  have g_fitting:Gl X "fitting":=d.gl rfl
  have g_len:Gl X "len":=d.gl rfl
  have g_parts_of:Gl X "parts_of":=d.gl rfl
  have g_rebuilt:Gl X "rebuilt":=d.gl rfl
  have g_with_part:Gl X "with_part":=d.gl rfl
  have hu:=bV hr
  delta d8
  refine ai ?_ ?_
  refine aV ?_ ?_ ?_
  refine bE hr ?_ ?_
  refine ag ?_
  refine aa ?_
  exact n_1
  refine ag ?_
  refine bJ ?_
  exact ar
  refine aq ?_
  refine az ?_
  refine aa ?_
  exact n_2
  exact aB
  refine ai ?_ ?_
  refine rK ?_ ?_
  exact l_3
  refine jC G_parts_of hr ?s1 ?_ ?_
  case s1=>first | decide | omega
  exact g_parts_of
  refine af ?_ ?_
  refine aa ?_
  exact n_0
  exact ar
  refine ai ?_ ?_
  refine aF ?_ ?_
  exact l_4
  refine bc ?_ ?_
  refine ag ?_
  refine aa ?_
  exact n_1
  exact ao
  refine ai ?_ ?_
  refine zW ?_ ?_ ?_
  exact n_3
  refine aa ?_
  exact n_4
  refine o9 ?_ ?_ ?_
  refine bE hr ?_ ?_
  refine ag ?_
  refine cc ?_ ?_ ?_
  exact g_len
  exact T.di
  refine ag ?_
  refine aa ?_
  exact n_1
  refine ag ?_
  exact ao
  refine aZ G_fitting hr ?s1 ?_ ?_
  case s1=>first | decide | omega
  exact g_fitting
  refine af ?_ ?_
  refine aa ?_
  exact n_0
  refine af ?_ ?_
  refine aa ?_
  exact n_4
  refine af ?_ ?_
  refine aa ?_
  exact n_2
  exact ar
  refine aZ G_with_part hr ?s1 ?_ ?_
  case s1=>first | decide | omega
  exact g_with_part
  refine af ?_ ?_
  refine bc ?_ ?_
  refine wj ?_
  exact n_3
  refine aa ?_
  exact n_4
  refine af ?_ ?_
  refine gL ?_ ?_ ?_
  refine ag ?_
  refine aa ?_
  exact n_1
  refine bU ?_
  exact ao
  exact cZ
  refine af ?_ ?_
  refine aa ?_
  exact n_2
  exact ar
  refine zE ?_
  refine aq ?_
  refine az ?_
  refine aZ G_rebuilt hr ?s1 ?_ ?_
  case s1=>first | decide | omega
  exact g_rebuilt
  refine af ?_ ?_
  refine aa ?_
  exact n_0
  refine af ?_ ?_
  refine aa ?_
  exact n_3
  exact ar
theorem uG (T:Txt P w K mg C0 C1 C2 C3 C4)(G_part_of:Def P w K mg base (ct C0 C1 C2 C3 C4) "part_of" ["f", "path"] 3 eZ)(GX_part_of:jm P w K mg base (ct C0 C1 C2 C3 C4) "part_of" ["f", "path"] 3 eZ mm)(G_let_by:Def P w K mg base (ct C0 C1 C2 C3 C4) "let_by" ["f"] 36 eF)(GX_let_by:jm P w K mg base (ct C0 C1 C2 C3 C4) "let_by" ["f"] 36 eF iW)(G_with_part:Def P w K mg base (ct C0 C1 C2 C3 C4) "with_part" ["f", "path", "g"] 19 cA):tS P w K mg base (ct C0 C1 C2 C3 C4) ["f", "path", "g"] gT 36 iu:=by
  refine ⟨fun X xq hP hw hK hmg hb d hr xr=>?_⟩
  subst hP hw hK hmg hb
  have hS:aj gT=_:=(by (conv=>lhs; whnf))
  rw [hS] at d
  have hB:ax gT=_:=(by (conv=>lhs; whnf))
  rw [hB]
  have n_0:Nm X 0 "f":=d.nm rfl (by first | exact .inl rfl | exact .inr (.inl rfl))
  have n_1:Nm X 1 "path":=d.nm rfl (by first | exact .inl rfl | exact .inr (.inl rfl))
  have n_2:Nm X 2 "g":=d.nm rfl (by first | exact .inl rfl | exact .inr (.inl rfl))
  have g_let_by:Gl X "let_by":=d.gl rfl
  have g_part_of:Gl X "part_of":=d.gl rfl
  have g_with_part:Gl X "with_part":=d.gl rfl
  have hu:=bV hr
  delta iu
  refine ai ?_ ?_
  refine xV xr GX_part_of hr ?s1 ?_ ?_
  case s1=>decide
  exact g_part_of
  refine af ?_ ?_
  refine aa ?_
  exact n_0
  refine af ?_ ?_
  refine aa ?_
  exact n_1
  exact ar
  refine aq ?_
  refine Al xr GX_let_by hr ?s1 ?_ ?_
  case s1=>decide
  exact g_let_by
  refine af ?_ ?_
  refine aZ G_with_part hr ?s1 ?_ ?_
  case s1=>decide
  exact g_with_part
  refine af ?_ ?_
  refine aa ?_
  exact n_0
  refine af ?_ ?_
  refine aa ?_
  exact n_1
  refine af ?_ ?_
  refine aa ?_
  exact n_2
  exact ar
  exact ar
theorem mV (T:Txt P w K mg C0 C1 C2 C3 C4)(G_law_parts:Def P w K mg base (ct C0 C1 C2 C3 C4) "_law_parts" ["f"] 1 aY){kr:Nat}(hk : 1≤kr){bA:List D→Option (D)}(G_law_tabled:Def P w K mg base (ct C0 C1 C2 C3 C4) "_law_tabled" ["f"] kr bA):BodyOk P w K mg base (ct C0 C1 C2 C3 C4) ["f"] dh kr (hR bA):=by
  refine ⟨fun X hP hw hK hmg hb d hr=>?_⟩
  subst hP hw hK hmg hb
  have hS:aj dh=_:=(by (conv=>lhs; whnf))
  rw [hS] at d
  have hB:ax dh=_:=(by (conv=>lhs; whnf))
  rw [hB]
  have n_0:Nm X 0 "f":=d.nm rfl (by first | exact .inl rfl | exact .inr (.inl rfl))
  have g_law_parts:Gl X "_law_parts":=d.gl rfl
  have g_any:Gl X "any":=d.gl rfl
  have hu:=bV hr
  delta hR
  refine aq ?_
  refine az ?_
  refine jD ?_ ?_
  refine iP hr ?_ ?_
  refine ag ?_
  refine bc ?_ ?_
  refine ag ?_
  refine aa ?_
  exact n_0
  exact ao
  refine ag ?_
  exact aQ (by decide +kernel)
  refine er ?_
  refine rR ?_ ?_ d.calm ?_
  exact g_any
  exact T.wJ
  refine ag ?_
  refine bZ ?_
  refine dR (N':=["one"]) (nt:=1) (cap:=[]) d.toDefX ?s1 ?s2 ?s3 ?_ ?_ (bI (by decide)) (bg 0) ?_ ?_
  case s1=>exact ⟨by rfl,by decide +kernel,by decide +kernel,by decide +kernel,by rfl,by decide +kernel⟩
  case s2=>first | decide | omega
  case s3=>decide +kernel
  refine ag ?_
  refine aZ G_law_parts hr ?s1 ?_ ?_
  case s1=>first | decide | omega
  exact g_law_parts
  refine af ?_ ?_
  refine aa ?_
  exact n_0
  exact ar
  intro cl C s2 H2 fp d1
  exact cI (d1.nlc (i:=0) rfl rfl)
  intro cl C s2 H2 fp d1
  exact d4
  intro cl C s2 H2 fp d1
  refine aZ (X:=aO _ _ _ _ _ _ _ _) G_law_tabled hr ?s1 (d1.gl rfl) ?_
  case s1=>first | decide | omega
  refine af ?_ ?_
  exact aa (d1.nm (i:=0) rfl (by first | exact .inl rfl | exact .inr (.inl rfl) | exact .inr (.inr rfl)))
  exact ar
theorem mD (T:Txt P w K mg C0 C1 C2 C3 C4)(G_put_in:Def P w K mg base (ct C0 C1 C2 C3 C4) "put_in" ["f", "path", "g"] 37 dc)(GX_put_in:jm P w K mg base (ct C0 C1 C2 C3 C4) "put_in" ["f", "path", "g"] 37 dc iY):tS P w K mg base (ct C0 C1 C2 C3 C4) ["f", "path", "g", "error", "e", "others"] cQ 37 fD:=by
  refine ⟨fun X xq hP hw hK hmg hb d hr xr=>?_⟩
  subst hP hw hK hmg hb
  have hS:aj cQ=_:=(by (conv=>lhs; whnf))
  rw [hS] at d
  have hB:ax cQ=_:=(by (conv=>lhs; whnf))
  rw [hB]
  have n_0:Nm X 0 "f":=d.nm rfl (by first | exact .inl rfl | exact .inr (.inl rfl))
  have n_1:Nm X 1 "path":=d.nm rfl (by first | exact .inl rfl | exact .inr (.inl rfl))
  have n_2:Nm X 2 "g":=d.nm rfl (by first | exact .inl rfl | exact .inr (.inl rfl))
  have n_3:Nm X 3 "error":=d.nm rfl (by first | exact .inl rfl | exact .inr (.inl rfl))
  have n_4:Nm X 4 "e":=d.nm rfl (by first | exact .inl rfl | exact .inr (.inl rfl))
  have n_5:Nm X 5 "others":=d.nm rfl (by first | exact .inl rfl | exact .inr (.inl rfl))
  have l_3:Nl X 3 "error":=d.nl rfl (by first | exact .inl rfl | exact .inr rfl)
  have l_4:Nl X 4 "e":=d.nl rfl (by first | exact .inl rfl | exact .inr rfl)
  have l_5:Nl X 5 "others":=d.nl rfl (by first | exact .inl rfl | exact .inr rfl)
  have g_InkError:Gl X "InkError":=d.gl rfl
  have g_NoDrawing:Gl X "NoDrawing":=d.gl rfl
  have g_NoFormula:Gl X "NoFormula":=d.gl rfl
  have g_NoLine:Gl X "NoLine":=d.gl rfl
  have g_NoPart:Gl X "NoPart":=d.gl rfl
  have g_ValueError:Gl X "ValueError":=d.gl rfl
  have g_isinstance:Gl X "isinstance":=d.gl rfl
  have g_put_in:Gl X "put_in":=d.gl rfl
  have hu:=bV hr
  delta fD
  refine ai ?_ ?_
  refine aF ?_ ?_
  exact l_3
  exact rJ
  refine ai ?_ ?_
  refine CD xr GX_put_in hr ?s1 ?_ T.lP ?_ ?_ ?_ (d.Kn rfl) ?_ ?_
  case s1=>decide
  exact g_put_in
  exact g_NoFormula
  exact l_3
  exact l_4
  exact n_4
  intro cl
  refine af ?_ ?_
  exact aa n_0.jo
  refine af ?_ ?_
  exact aa n_1.jo
  refine af ?_ ?_
  exact aa n_2.jo
  exact ar
  refine ai ?_ ?_
  refine aF ?_ ?_
  exact l_5
  refine jD ?_ ?_
  refine jf T.ye ?_ ?_ ?_ ?_
  exact g_isinstance
  exact T.bD
  exact g_NoPart
  refine aa ?_
  exact n_3
  refine jD ?_ ?_
  refine jf T.yf ?_ ?_ ?_ ?_
  exact g_isinstance
  exact T.bD
  exact g_NoLine
  refine aa ?_
  exact n_3
  refine er ?_
  refine jf T.sk ?_ ?_ ?_ ?_
  exact g_isinstance
  exact T.bD
  exact g_NoDrawing
  refine aa ?_
  exact n_3
  refine aq ?_
  refine az ?_
  refine ia ?_ ?_
  refine jf T.uE ?_ ?_ ?_ ?_
  exact g_isinstance
  exact T.bD
  exact g_InkError
  refine aa ?_
  exact n_3
  refine ia ?_ ?_
  refine vx T.iv ?_ ?_ ?_ ?_ ?_
  exact g_isinstance
  exact T.bD
  exact g_ValueError
  exact T.sj
  refine aa ?_
  exact n_3
  refine er ?_
  refine zD ?_
  refine aa ?_
  exact n_5
theorem pz (T:Txt P w K mg C0 C1 C2 C3 C4) :BodyOk P w K mg base (ct C0 C1 C2 C3 C4) ["f", "n"] dO 0 fQ:=by
  refine ⟨fun X hP hw hK hmg hb d hr=>?_⟩
  subst hP hw hK hmg hb
  have hS:aj dO=_:=(by (conv=>lhs; whnf))
  rw [hS] at d
  have hB:ax dO=_:=(by (conv=>lhs; whnf))
  rw [hB]
  have n_0:Nm X 0 "f":=d.nm rfl (by first | exact .inl rfl | exact .inr (.inl rfl))
  have n_1:Nm X 1 "n":=d.nm rfl (by first | exact .inl rfl | exact .inr (.inl rfl))
  have hu:=bV hr
  delta fQ
  refine ai ?_ ?_
  refine aV ?_ ?_ ?_
  refine kL ?_ ?_
  refine bc ?_ ?_
  refine ag ?_
  refine aa ?_
  exact n_0
  exact ao
  refine ag ?_
  refine bJ ?_
  refine af ?_ ?_
  exact aQ (by decide +kernel)
  refine af ?_ ?_
  exact aQ (by decide +kernel)
  refine af ?_ ?_
  exact aQ (by decide +kernel)
  exact ar
  refine aq ?_
  refine az ?_
  refine A3 hu ?_ ?_
  refine vi (ps:=[([101,118,101,110],1),([115,117,109],2),([116,105,109,101,115],3)]) ?_ ?s1 ?s2 ?s3 ?s4 ?s5 ?s6
  case s1=>decide +kernel
  case s2=>rfl
  case s3=>rfl
  case s4=>exact fun z=>nomatch z
  case s5=>decide +kernel
  case s6=>decide +kernel
  refine fG (by decide +kernel) ?_
  refine fG (by decide +kernel) ?_
  refine fG (by decide +kernel) ?_
  exact vh
  refine bc ?_ ?_
  refine ag ?_
  refine aa ?_
  exact n_0
  exact ao
  exact aB
  refine ai ?_ ?_
  refine aV ?_ ?_ ?_
  refine PDW.pt ?_
  refine jT ?_ ?_
  refine bE hr ?_ ?_
  refine ag ?_
  refine bc ?_ ?_
  refine ag ?_
  refine aa ?_
  exact n_0
  exact ao
  refine ag ?_
  exact aQ (by decide +kernel)
  refine jE ?_
  refine bE hr ?_ ?_
  refine ag ?_
  refine aa ?_
  exact n_1
  refine ag ?_
  exact ao
  refine aq ?_
  refine az ?_
  exact ao
  exact aB
  refine aq ?_
  refine az ?_
  exact ao
theorem pA (T:Txt P w K mg C0 C1 C2 C3 C4) :BodyOk P w K mg base (ct C0 C1 C2 C3 C4) ["f", "kind"] dP 0 eG:=by
  refine ⟨fun X hP hw hK hmg hb d hr=>?_⟩
  subst hP hw hK hmg hb
  have hS:aj dP=_:=(by (conv=>lhs; whnf))
  rw [hS] at d
  have hB:ax dP=_:=(by (conv=>lhs; whnf))
  rw [hB]
  have n_0:Nm X 0 "f":=d.nm rfl (by first | exact .inl rfl | exact .inr (.inl rfl))
  have n_1:Nm X 1 "kind":=d.nm rfl (by first | exact .inl rfl | exact .inr (.inl rfl))
  have l_1:Nl X 1 "kind":=d.nl rfl (by first | exact .inl rfl | exact .inr rfl)
  have g_len:Gl X "len":=d.gl rfl
  have hu:=bV hr
  delta eG gn
  refine ai ?_ ?_
  refine aF ?_ ?_
  exact l_1
  refine bc ?_ ?_
  refine ag ?_
  refine aa ?_
  exact n_0
  exact ao
  refine ai ?_ ?_
  refine aV ?_ ?_ ?_
  refine bE hr ?_ ?_
  refine ag ?_
  refine aa ?_
  exact n_1
  refine ag ?_
  exact aQ (by decide +kernel)
  refine aq ?_
  refine az ?_
  refine bJ ?_
  refine af ?_ ?_
  refine aa ?_
  exact n_1
  refine af ?_ ?_
  refine cc ?_ ?_ ?_
  exact g_len
  exact T.di
  refine ag ?_
  refine bc ?_ ?_
  refine ag ?_
  refine aa ?_
  exact n_0
  exact ao
  refine af ?_ ?_
  refine bc ?_ ?_
  refine ag ?_
  refine aa ?_
  exact n_0
  exact ao
  exact ar
  exact aB
  refine ai ?_ ?_
  refine aV ?_ ?_ ?_
  refine bE hr ?_ ?_
  refine ag ?_
  refine aa ?_
  exact n_1
  refine ag ?_
  exact aQ (by decide +kernel)
  refine aq ?_
  refine az ?_
  refine bJ ?_
  refine af ?_ ?_
  refine aa ?_
  exact n_1
  refine af ?_ ?_
  refine zM ?_
  refine ag ?_
  refine bc ?_ ?_
  refine ag ?_
  refine aa ?_
  exact n_0
  exact ao
  refine af ?_ ?_
  refine zM ?_
  refine ag ?_
  refine bc ?_ ?_
  refine ag ?_
  refine aa ?_
  exact n_0
  exact ao
  exact ar
  exact aB
  refine ai ?_ ?_
  refine aV ?_ ?_ ?_
  refine bE hr ?_ ?_
  refine ag ?_
  refine aa ?_
  exact n_1
  refine ag ?_
  exact aQ (by decide +kernel)
  refine aq ?_
  refine az ?_
  refine bJ ?_
  refine af ?_ ?_
  refine aa ?_
  exact n_1
  refine af ?_ ?_
  refine bZ ?_
  refine dR (N':=["band"]) (nt:=1) (cap:=[]) d.toDefX ?s1 ?s2 ?s3 ?_ ?_ (bI (by decide)) (bg 0) ?_ ?_
  case s1=>exact ⟨by rfl,by decide +kernel,by decide +kernel,by decide +kernel,by rfl,by decide +kernel⟩
  case s2=>decide
  case s3=>decide +kernel
  refine ag ?_
  refine bc ?_ ?_
  refine ag ?_
  refine aa ?_
  exact n_0
  exact ao
  intro cl C s2 H2 fp d1
  exact cI (d1.nlc (i:=0) rfl rfl)
  intro cl C s2 H2 fp d1
  exact d4
  intro cl C s2 H2 fp d1
  refine cc (d1.gl rfl) ?_ ?_
  exact T.di
  refine ag ?_
  exact aa (d1.nm (i:=0) rfl (by first | exact .inl rfl | exact .inr (.inl rfl) | exact .inr (.inr rfl)))
  exact ar
  exact aB
  refine aq ?_
  refine az ?_
  refine bJ ?_
  refine af ?_ ?_
  refine aa ?_
  exact n_1
  refine af ?_ ?_
  refine cc ?_ ?_ ?_
  exact g_len
  exact T.di
  refine ag ?_
  refine aa ?_
  exact n_0
  exact ar
theorem pZ (T:Txt P w K mg C0 C1 C2 C3 C4)(G_law_parts:Def P w K mg base (ct C0 C1 C2 C3 C4) "_law_parts" ["f"] 1 aY)(G_law_frame:Def P w K mg base (ct C0 C1 C2 C3 C4) "_law_frame" ["f"] 1 bL):BodyOk P w K mg base (ct C0 C1 C2 C3 C4) ["f", "made", "n", "some", "others"] eS 1 jk:=by
  refine ⟨fun X hP hw hK hmg hb d hr=>?_⟩
  subst hP hw hK hmg hb
  have hS:aj eS=_:=(by (conv=>lhs; whnf))
  rw [hS] at d
  have hB:ax eS=_:=(by (conv=>lhs; whnf))
  rw [hB]
  have n_0:Nm X 0 "f":=d.nm rfl (by first | exact .inl rfl | exact .inr (.inl rfl))
  have n_1:Nm X 1 "made":=d.nm rfl (by first | exact .inl rfl | exact .inr (.inl rfl))
  have n_2:Nm X 2 "n":=d.nm rfl (by first | exact .inl rfl | exact .inr (.inl rfl))
  have n_3:Nm X 3 "some":=d.nm rfl (by first | exact .inl rfl | exact .inr (.inl rfl))
  have n_4:Nm X 4 "others":=d.nm rfl (by first | exact .inl rfl | exact .inr (.inl rfl))
  have l_3:Nl X 3 "some":=d.nl rfl (by first | exact .inl rfl | exact .inr rfl)
  have l_4:Nl X 4 "others":=d.nl rfl (by first | exact .inl rfl | exact .inr rfl)
  have g_law_frame:Gl X "_law_frame":=d.gl rfl
  have g_law_parts:Gl X "_law_parts":=d.gl rfl
  have g_isinstance:Gl X "isinstance":=d.gl rfl
  have g_len:Gl X "len":=d.gl rfl
  have g_tuple:Gl X "tuple":=d.gl rfl
  have hu:=bV hr
  delta jk
  refine ai ?_ ?_
  refine aV ?_ ?_ ?_
  refine PDW.pt ?_
  refine ib ?_ ?_
  refine eh ?_
  refine dQ ?_
  refine eU .tuple ?_ ?_ ?_ ?_ ?_
  exact g_isinstance
  exact T.bD
  exact g_tuple
  exact T.fg
  refine ag ?_
  refine aa ?_
  exact n_1
  refine ib ?_ ?_
  refine bE hr ?_ ?_
  refine ag ?_
  refine aa ?_
  exact n_1
  refine ag ?_
  refine bJ ?_
  exact ar
  refine ib ?_ ?_
  refine kM hr ?_ ?_
  refine ag ?_
  refine bc ?_ ?_
  refine ag ?_
  refine aa ?_
  exact n_1
  exact ao
  refine ag ?_
  refine bc ?_ ?_
  refine ag ?_
  refine aa ?_
  exact n_0
  exact ao
  refine iE ?_
  refine kM hr ?_ ?_
  refine ag ?_
  refine cc ?_ ?_ ?_
  exact g_len
  exact T.di
  refine ag ?_
  refine aa ?_
  exact n_1
  refine ag ?_
  refine cc ?_ ?_ ?_
  exact g_len
  exact T.di
  refine ag ?_
  refine aa ?_
  exact n_0
  refine aq ?_
  refine az ?_
  exact iO
  exact aB
  refine ai ?_ ?_
  refine aV ?_ ?_ ?_
  refine kM hr ?_ ?_
  refine ag ?_
  refine aZ G_law_frame hr ?s1 ?_ ?_
  case s1=>decide
  exact g_law_frame
  refine af ?_ ?_
  refine aa ?_
  exact n_1
  exact ar
  refine ag ?_
  refine aZ G_law_frame hr ?s1 ?_ ?_
  case s1=>decide
  exact g_law_frame
  refine af ?_ ?_
  refine aa ?_
  exact n_0
  exact ar
  refine aq ?_
  refine az ?_
  exact iO
  exact aB
  refine ai ?_ ?_
  refine aF ?_ ?_
  exact l_3
  refine aZ G_law_parts hr ?s1 ?_ ?_
  case s1=>decide
  exact g_law_parts
  refine af ?_ ?_
  refine aa ?_
  exact n_0
  exact ar
  refine ai ?_ ?_
  refine aF ?_ ?_
  exact l_4
  refine aZ G_law_parts hr ?s1 ?_ ?_
  case s1=>decide
  exact g_law_parts
  refine af ?_ ?_
  refine aa ?_
  exact n_1
  exact ar
  refine aq ?_
  refine az ?_
  refine ia ?_ ?_
  refine iP hr ?_ ?_
  refine ag ?_
  refine cc ?_ ?_ ?_
  exact g_len
  exact T.di
  refine ag ?_
  refine aa ?_
  exact n_3
  refine ag ?_
  refine cc ?_ ?_ ?_
  exact g_len
  exact T.di
  refine ag ?_
  refine aa ?_
  exact n_4
  refine ia ?_ ?_
  refine iP hr ?_ ?_
  refine ag ?_
  refine gL ?_ ?_ ?_
  refine ag ?_
  refine aa ?_
  exact n_3
  exact cZ
  refine bU ?_
  refine aa ?_
  exact n_2
  refine ag ?_
  refine gL ?_ ?_ ?_
  refine ag ?_
  refine aa ?_
  exact n_4
  exact cZ
  refine bU ?_
  refine aa ?_
  exact n_2
  refine er ?_
  refine iP hr ?_ ?_
  refine ag ?_
  refine gL ?_ ?_ ?_
  refine ag ?_
  refine aa ?_
  exact n_3
  refine bU ?_
  refine e7 ?_ ?_
  refine ag ?_
  refine aa ?_
  exact n_2
  refine ag ?_
  exact ao
  exact cZ
  refine ag ?_
  refine gL ?_ ?_ ?_
  refine ag ?_
  refine aa ?_
  exact n_4
  refine bU ?_
  refine e7 ?_ ?_
  refine ag ?_
  refine aa ?_
  exact n_2
  refine ag ?_
  exact ao
  exact cZ
theorem AN (T:Txt P w K mg C0 C1 C2 C3 C4)(G_law_formula:Def P w K mg base (ct C0 C1 C2 C3 C4) "_law_formula" ["script"] 6 bW)(G_law_way:Def P w K mg base (ct C0 C1 C2 C3 C4) "_law_way" ["f", "cells"] 2 iS)(G_put_in:Def P w K mg base (ct C0 C1 C2 C3 C4) "put_in" ["f", "path", "g"] 37 dc)(GX_put_in:jm P w K mg base (ct C0 C1 C2 C3 C4) "put_in" ["f", "path", "g"] 37 dc iY)(G_law_tabled:Def P w K mg base (ct C0 C1 C2 C3 C4) "_law_tabled" ["f"] 17 bA)(G_law_refused:Def P w K mg base (ct C0 C1 C2 C3 C4) "_law_refused" ["f", "path", "g"] 38 cL)(GX_law_refused:jm P w K mg base (ct C0 C1 C2 C3 C4) "_law_refused" ["f", "path", "g"] 38 cL ko)(G_law_least:Def P w K mg base (ct C0 C1 C2 C3 C4) "_law_least" ["f", "n"] 1 dD)(G_law_level:Def P w K mg base (ct C0 C1 C2 C3 C4) "_law_level" ["one"] 1 eA)(G_law_same:Def P w K mg base (ct C0 C1 C2 C3 C4) "_law_same" ["f", "made", "n"] 2 iw)(G_law_parts:Def P w K mg base (ct C0 C1 C2 C3 C4) "_law_parts" ["f"] 1 aY):BodyOk P w K mg base (ct C0 C1 C2 C3 C4) ["script", "f", "g", "steps", "path", "tabled", "made", "least", "n"] jN 38 tV:=by
  refine ⟨fun X hP hw hK hmg hb d hr=>?_⟩
  subst hP hw hK hmg hb
  have hS:aj jN=_:=(by (conv=>lhs; whnf))
  rw [hS] at d
  have hB:ax jN=_:=(by (conv=>lhs; whnf))
  rw [hB]
  have n_0:Nm X 0 "script":=d.nm rfl (by first | exact .inl rfl | exact .inr (.inl rfl))
  have n_1:Nm X 1 "f":=d.nm rfl (by first | exact .inl rfl | exact .inr (.inl rfl))
  have n_2:Nm X 2 "g":=d.nm rfl (by first | exact .inl rfl | exact .inr (.inl rfl))
  have n_3:Nm X 3 "steps":=d.nm rfl (by first | exact .inl rfl | exact .inr (.inl rfl))
  have n_4:Nm X 4 "path":=d.nm rfl (by first | exact .inl rfl | exact .inr (.inl rfl))
  have n_5:Nm X 5 "tabled":=d.nm rfl (by first | exact .inl rfl | exact .inr (.inl rfl))
  have n_6:Nm X 6 "made":=d.nm rfl (by first | exact .inl rfl | exact .inr (.inl rfl))
  have n_7:Nm X 7 "least":=d.nm rfl (by first | exact .inl rfl | exact .inr (.inl rfl))
  have n_8:Nm X 8 "n":=d.nm rfl (by first | exact .inl rfl | exact .inr (.inl rfl))
  have l_1:Nl X 1 "f":=d.nl rfl (by first | exact .inl rfl | exact .inr rfl)
  have l_2:Nl X 2 "g":=d.nl rfl (by first | exact .inl rfl | exact .inr rfl)
  have l_3:Nl X 3 "steps":=d.nl rfl (by first | exact .inl rfl | exact .inr rfl)
  have l_4:Nl X 4 "path":=d.nl rfl (by first | exact .inl rfl | exact .inr rfl)
  have l_5:Nl X 5 "tabled":=d.nl rfl (by first | exact .inl rfl | exact .inr rfl)
  have l_6:Nl X 6 "made":=d.nl rfl (by first | exact .inl rfl | exact .inr rfl)
  have l_7:Nl X 7 "least":=d.nl rfl (by first | exact .inl rfl | exact .inr rfl)
  have l_8:Nl X 8 "n":=d.nl rfl (by first | exact .inl rfl | exact .inr rfl)
  have g_law_formula:Gl X "_law_formula":=d.gl rfl
  have g_law_least:Gl X "_law_least":=d.gl rfl
  have g_law_level:Gl X "_law_level":=d.gl rfl
  have g_law_parts:Gl X "_law_parts":=d.gl rfl
  have g_law_refused:Gl X "_law_refused":=d.gl rfl
  have g_law_same:Gl X "_law_same":=d.gl rfl
  have g_law_tabled:Gl X "_law_tabled":=d.gl rfl
  have g_law_way:Gl X "_law_way":=d.gl rfl
  have g_isinstance:Gl X "isinstance":=d.gl rfl
  have g_len:Gl X "len":=d.gl rfl
  have g_put_in:Gl X "put_in":=d.gl rfl
  have g_tuple:Gl X "tuple":=d.gl rfl
  have hu:=bV hr
  delta tV gR
  refine ai ?_ ?_
  refine aF ?_ ?_
  exact l_1
  refine aZ G_law_formula hr ?s1 ?_ ?_
  case s1=>decide
  exact g_law_formula
  refine af ?_ ?_
  refine gL ?_ ?_ ?_
  refine ag ?_
  refine aa ?_
  exact n_0
  exact cZ
  refine bU ?_
  exact ao
  exact ar
  refine ai ?_ ?_
  refine aF ?_ ?_
  exact l_2
  refine aZ G_law_formula hr ?s1 ?_ ?_
  case s1=>decide
  exact g_law_formula
  refine af ?_ ?_
  refine gL ?_ ?_ ?_
  refine ag ?_
  refine aa ?_
  exact n_0
  refine bU ?_
  exact ao
  refine bU ?_
  exact ao
  exact ar
  refine ai ?_ ?_
  refine aF ?_ ?_
  exact l_3
  exact ao
  refine ai ?_ ?_
  refine aV ?_ ?_ ?_
  refine Fd ?_ ?_
  refine cc ?_ ?_ ?_
  exact g_len
  exact T.di
  refine ag ?_
  refine aa ?_
  exact n_0
  exact ao
  refine aq ?_
  refine aF ?_ ?_
  exact l_3
  refine e8 ?_ ?_
  refine bc ?_ ?_
  refine ag ?_
  refine aa ?_
  exact n_0
  exact ao
  exact ao
  exact aB
  refine ai ?_ ?_
  refine C7 (sS (j9 4 (j9 5 qk))) ?_ ?_
  refine yp d.calm ?_
  refine lh ?_ ?_
  refine cI ?_
  exact l_4
  refine lh ?_ ?_
  refine cI ?_
  exact l_5
  exact vR
  refine aZ G_law_way hr ?s1 ?_ ?_
  case s1=>decide
  exact g_law_way
  refine af ?_ ?_
  refine aa ?_
  exact n_1
  refine af ?_ ?_
  refine gL ?_ ?_ ?_
  refine ag ?_
  refine bZ ?_
  refine o5 ?_ ?_
  refine ag ?_
  refine aa ?_
  exact n_0
  refine ag ?_
  refine bZ ?_
  refine g9 ?_
  refine af ?_ ?_
  exact ao
  refine af ?_ ?_
  exact ao
  refine af ?_ ?_
  exact ao
  refine af ?_ ?_
  exact ao
  refine af ?_ ?_
  exact ao
  exact ar
  exact cZ
  refine bU ?_
  refine aa ?_
  exact n_3
  exact ar
  refine ai ?_ ?_
  refine aV ?_ ?_ ?_
  refine PDW.pt ?_
  refine jT ?_ ?_
  refine dQ ?_
  refine aa ?_
  exact n_5
  refine jE ?_
  refine dQ ?_
  refine aZ G_law_tabled hr ?s1 ?_ ?_
  case s1=>decide
  exact g_law_tabled
  refine af ?_ ?_
  refine aa ?_
  exact n_2
  exact ar
  refine aq ?_
  refine az ?_
  refine aZ G_law_refused hr ?s1 ?_ ?_
  case s1=>decide
  exact g_law_refused
  refine af ?_ ?_
  refine aa ?_
  exact n_1
  refine af ?_ ?_
  refine aa ?_
  exact n_4
  refine af ?_ ?_
  refine aa ?_
  exact n_2
  exact ar
  exact aB
  refine ai ?_ ?_
  refine aF ?_ ?_
  exact l_6
  refine aZ G_put_in hr ?s1 ?_ ?_
  case s1=>decide
  exact g_put_in
  refine af ?_ ?_
  refine aa ?_
  exact n_1
  refine af ?_ ?_
  refine aa ?_
  exact n_4
  refine af ?_ ?_
  refine aa ?_
  exact n_2
  exact ar
  refine ai ?_ ?_
  refine aF ?_ ?_
  exact l_7
  exact ao
  refine ai ?_ ?_
  refine jc d.never d.calm (bg 8) ?_ ?_ ?_
  refine cI ?_
  exact l_8
  refine aa ?_
  exact n_4
  refine ai ?_ ?_
  refine aV ?_ ?_ ?_
  refine eh ?_
  refine dQ ?_
  refine aZ G_law_same hr ?s1 ?_ ?_
  case s1=>decide
  exact g_law_same
  refine af ?_ ?_
  refine aa ?_
  exact n_1
  refine af ?_ ?_
  refine aa ?_
  exact n_6
  refine af ?_ ?_
  refine aa ?_
  exact n_8
  exact ar
  refine aq ?_
  refine az ?_
  exact iO
  exact aB
  refine ai ?_ ?_
  refine aF ?_ ?_
  exact l_7
  refine aZ G_law_least hr ?s1 ?_ ?_
  case s1=>decide
  exact g_law_least
  refine af ?_ ?_
  refine aa ?_
  exact n_1
  refine af ?_ ?_
  refine aa ?_
  exact n_8
  exact ar
  refine ai ?_ ?_
  refine aF ?_ ?_
  exact l_1
  refine bc ?_ ?_
  refine ag ?_
  refine aZ G_law_parts hr ?s1 ?_ ?_
  case s1=>decide
  exact g_law_parts
  refine af ?_ ?_
  refine aa ?_
  exact n_1
  exact ar
  refine aa ?_
  exact n_8
  refine aq ?_
  refine aF ?_ ?_
  exact l_6
  refine bc ?_ ?_
  refine ag ?_
  refine aZ G_law_parts hr ?s1 ?_ ?_
  case s1=>decide
  exact g_law_parts
  refine af ?_ ?_
  refine aa ?_
  exact n_6
  exact ar
  refine aa ?_
  exact n_8
  refine ai ?_ ?_
  refine aV ?_ ?_ ?_
  refine kK ?_ ?_
  refine aZ G_law_level hr ?s1 ?_ ?_
  case s1=>decide
  exact g_law_level
  refine af ?_ ?_
  refine aa ?_
  exact n_2
  exact ar
  refine aa ?_
  exact n_7
  refine aq ?_
  refine az ?_
  refine iP hr ?_ ?_
  refine ag ?_
  refine aa ?_
  exact n_6
  refine ag ?_
  refine bJ ?_
  refine af ?_ ?_
  exact aQ (by decide +kernel)
  refine af ?_ ?_
  refine aa ?_
  exact n_2
  exact ar
  exact aB
  refine aq ?_
  refine az ?_
  refine ia ?_ ?_
  refine eU .tuple ?_ ?_ ?_ ?_ ?_
  exact g_isinstance
  exact T.bD
  exact g_tuple
  exact T.fg
  refine ag ?_
  refine aa ?_
  exact n_6
  refine er ?_
  refine iP hr ?_ ?_
  refine ag ?_
  refine aa ?_
  exact n_6
  refine ag ?_
  refine aa ?_
  exact n_2
end
theorem all_mk {l:PySem.W.OpenLaw}{w:World}{K:PySem.W.Frag}{h:Heap}{mg:Str→Option Value}{fa f1 f2 f3 f4 f5 f6 f7 f8 f9 f10 f11 f12 f13 f14 f15 f16 f17 f18 f19 f20 f21 f22 f23 f24 f25 f26 f27 f28 f29 f30 f31 f32 f33 f34 f35 f36 f37 f38 f39 f40 C0 C1 C2 C3 C4:Addr}(X:K.In h)(G:h.Ns mainGlobals mg)(hfa:mg "law"=some (.ref fa))
    (aC0:PySem.W.nsIn K mainGlobals "InkError"=some (some (.ref C0)))
    (aC1:PySem.W.nsIn K mainGlobals "NoLine"=some (some (.ref C1)))
    (aC2:PySem.W.nsIn K mainGlobals "NoPart"=some (some (.ref C2)))
    (aC3:PySem.W.nsIn K mainGlobals "NoDrawing"=some (some (.ref C3)))
    (aC4:PySem.W.nsIn K mainGlobals "NoFormula"=some (some (.ref C4)))
    {oc1 kV1 dc1 pm1 cd1 ct1:Value} {od1 an1:Option Addr} {sl1:Array (Option Value)}
    (a1:PySem.W.nsIn K mainGlobals "_law_level"=some (some (.ref f1)))
    (l1:K.lookup f1=some ⟨oc1,od1,.func (PySem.W.fnOf "_law_level" "_law_level" (aX dF) (ax dF) (aj dF) .none kV1 dc1 pm1 an1 cd1 ct1),sl1⟩)
    (c1:PySem.W.codeIn K cd1 "_law_level"=true)
    (k1:PySem.W.keepIn K (.ref f1)=true)
    {oc2 kV2 dc2 pm2 cd2 ct2:Value} {od2 an2:Option Addr} {sl2:Array (Option Value)}
    (a2:PySem.W.nsIn K mainGlobals "_law_fit"=some (some (.ref f2)))
    (l2:K.lookup f2=some ⟨oc2,od2,.func (PySem.W.fnOf "_law_fit" "_law_fit" (aX fS) (ax fS) (aj fS) .none kV2 dc2 pm2 an2 cd2 ct2),sl2⟩)
    (c2:PySem.W.codeIn K cd2 "_law_fit"=true)
    (k2:PySem.W.keepIn K (.ref f2)=true)
    {oc3 kV3 dc3 pm3 cd3 ct3:Value} {od3 an3:Option Addr} {sl3:Array (Option Value)}
    (a3:PySem.W.nsIn K mainGlobals "_law_chain"=some (some (.ref f3)))
    (l3:K.lookup f3=some ⟨oc3,od3,.func (PySem.W.fnOf "_law_chain" "_law_chain" (aX dG) (ax dG) (aj dG) .none kV3 dc3 pm3 an3 cd3 ct3),sl3⟩)
    (c3:PySem.W.codeIn K cd3 "_law_chain"=true)
    (k3:PySem.W.keepIn K (.ref f3)=true)
    {oc4 kV4 dc4 pm4 cd4 ct4:Value} {od4 an4:Option Addr} {sl4:Array (Option Value)}
    (a4:PySem.W.nsIn K mainGlobals "_law_many"=some (some (.ref f4)))
    (l4:K.lookup f4=some ⟨oc4,od4,.func (PySem.W.fnOf "_law_many" "_law_many" (aX eH) (ax eH) (aj eH) .none kV4 dc4 pm4 an4 cd4 ct4),sl4⟩)
    (c4:PySem.W.codeIn K cd4 "_law_many"=true)
    (k4:PySem.W.keepIn K (.ref f4)=true)
    {oc5 kV5 dc5 pm5 cd5 ct5:Value} {od5 an5:Option Addr} {sl5:Array (Option Value)}
    (a5:PySem.W.nsIn K mainGlobals "_law_made"=some (some (.ref f5)))
    (l5:K.lookup f5=some ⟨oc5,od5,.func (PySem.W.fnOf "_law_made" "_law_made" (aX eI) (ax eI) (aj eI) .none kV5 dc5 pm5 an5 cd5 ct5),sl5⟩)
    (c5:PySem.W.codeIn K cd5 "_law_made"=true)
    (k5:PySem.W.keepIn K (.ref f5)=true)
    {oc6 kV6 dc6 pm6 cd6 ct6:Value} {od6 an6:Option Addr} {sl6:Array (Option Value)}
    (a6:PySem.W.nsIn K mainGlobals "_law_word"=some (some (.ref f6)))
    (l6:K.lookup f6=some ⟨oc6,od6,.func (PySem.W.fnOf "_law_word" "_law_word" (aX eJ) (ax eJ) (aj eJ) .none kV6 dc6 pm6 an6 cd6 ct6),sl6⟩)
    (c6:PySem.W.codeIn K cd6 "_law_word"=true)
    (k6:PySem.W.keepIn K (.ref f6)=true)
    {oc7 kV7 dc7 pm7 cd7 ct7:Value} {od7 an7:Option Addr} {sl7:Array (Option Value)}
    (a7:PySem.W.nsIn K mainGlobals "_law_atom"=some (some (.ref f7)))
    (l7:K.lookup f7=some ⟨oc7,od7,.func (PySem.W.fnOf "_law_atom" "_law_atom" (aX eK) (ax eK) (aj eK) .none kV7 dc7 pm7 an7 cd7 ct7),sl7⟩)
    (c7:PySem.W.codeIn K cd7 "_law_atom"=true)
    (k7:PySem.W.keepIn K (.ref f7)=true)
    {oc8 kV8 dc8 pm8 cd8 ct8:Value} {od8 an8:Option Addr} {sl8:Array (Option Value)}
    (a8:PySem.W.nsIn K mainGlobals "_law_step"=some (some (.ref f8)))
    (l8:K.lookup f8=some ⟨oc8,od8,.func (PySem.W.fnOf "_law_step" "_law_step" (aX eL) (ax eL) (aj eL) .none kV8 dc8 pm8 an8 cd8 ct8),sl8⟩)
    (c8:PySem.W.codeIn K cd8 "_law_step"=true)
    (k8:PySem.W.keepIn K (.ref f8)=true)
    {oc9 kV9 dc9 pm9 cd9 ct9:Value} {od9 an9:Option Addr} {sl9:Array (Option Value)}
    (a9:PySem.W.nsIn K mainGlobals "_law_formula"=some (some (.ref f9)))
    (l9:K.lookup f9=some ⟨oc9,od9,.func (PySem.W.fnOf "_law_formula" "_law_formula" (aX cM) (ax cM) (aj cM) .none kV9 dc9 pm9 an9 cd9 ct9),sl9⟩)
    (c9:PySem.W.codeIn K cd9 "_law_formula"=true)
    (k9:PySem.W.keepIn K (.ref f9)=true)
    {oc10 kV10 dc10 pm10 cd10 ct10:Value} {od10 an10:Option Addr} {sl10:Array (Option Value)}
    (a10:PySem.W.nsIn K mainGlobals "_law_parts"=some (some (.ref f10)))
    (l10:K.lookup f10=some ⟨oc10,od10,.func (PySem.W.fnOf "_law_parts" "_law_parts" (aX dH) (ax dH) (aj dH) .none kV10 dc10 pm10 an10 cd10 ct10),sl10⟩)
    (c10:PySem.W.codeIn K cd10 "_law_parts"=true)
    (k10:PySem.W.keepIn K (.ref f10)=true)
    {oc11 kV11 dc11 pm11 cd11 ct11:Value} {od11 an11:Option Addr} {sl11:Array (Option Value)}
    (a11:PySem.W.nsIn K mainGlobals "_law_way"=some (some (.ref f11)))
    (l11:K.lookup f11=some ⟨oc11,od11,.func (PySem.W.fnOf "_law_way" "_law_way" (aX fT) (ax fT) (aj fT) .none kV11 dc11 pm11 an11 cd11 ct11),sl11⟩)
    (c11:PySem.W.codeIn K cd11 "_law_way"=true)
    (k11:PySem.W.keepIn K (.ref f11)=true)
    {oc12 kV12 dc12 pm12 cd12 ct12:Value} {od12 an12:Option Addr} {sl12:Array (Option Value)}
    (a12:PySem.W.nsIn K mainGlobals "cells_of"=some (some (.ref f12)))
    (l12:K.lookup f12=some ⟨oc12,od12,.func (PySem.W.fnOf "cells_of" "cells_of" (aX eM) (ax eM) (aj eM) .none kV12 dc12 pm12 an12 cd12 ct12),sl12⟩)
    (c12:PySem.W.codeIn K cd12 "cells_of"=true)
    (k12:PySem.W.keepIn K (.ref f12)=true)
    {oc13 kV13 dc13 pm13 cd13 ct13:Value} {od13 an13:Option Addr} {sl13:Array (Option Value)}
    (a13:PySem.W.nsIn K mainGlobals "parts_of"=some (some (.ref f13)))
    (l13:K.lookup f13=some ⟨oc13,od13,.func (PySem.W.fnOf "parts_of" "parts_of" (aX eN) (ax eN) (aj eN) .none kV13 dc13 pm13 an13 cd13 ct13),sl13⟩)
    (c13:PySem.W.codeIn K cd13 "parts_of"=true)
    (k13:PySem.W.keepIn K (.ref f13)=true)
    {oc14 kV14 dc14 pm14 cd14 ct14:Value} {od14 an14:Option Addr} {sl14:Array (Option Value)}
    (a14:PySem.W.nsIn K mainGlobals "part_of"=some (some (.ref f14)))
    (l14:K.lookup f14=some ⟨oc14,od14,.func (PySem.W.fnOf "part_of" "part_of" (aX fU) (ax fU) (aj fU) .none kV14 dc14 pm14 an14 cd14 ct14),sl14⟩)
    (c14:PySem.W.codeIn K cd14 "part_of"=true)
    (k14:PySem.W.keepIn K (.ref f14)=true)
    {oc15 kV15 dc15 pm15 cd15 ct15:Value} {od15 an15:Option Addr} {sl15:Array (Option Value)}
    (a15:PySem.W.nsIn K mainGlobals "is_word"=some (some (.ref f15)))
    (l15:K.lookup f15=some ⟨oc15,od15,.func (PySem.W.fnOf "is_word" "is_word" (aX fV) (ax fV) (aj fV) .none kV15 dc15 pm15 an15 cd15 ct15),sl15⟩)
    (c15:PySem.W.codeIn K cd15 "is_word"=true)
    (k15:PySem.W.keepIn K (.ref f15)=true)
    {oc16 kV16 dc16 pm16 cd16 ct16:Value} {od16 an16:Option Addr} {sl16:Array (Option Value)}
    (a16:PySem.W.nsIn K mainGlobals "is_number_value"=some (some (.ref f16)))
    (l16:K.lookup f16=some ⟨oc16,od16,.func (PySem.W.fnOf "is_number_value" "is_number_value" (aX bM) (ax bM) (aj bM) .none kV16 dc16 pm16 an16 cd16 ct16),sl16⟩)
    (c16:PySem.W.codeIn K cd16 "is_number_value"=true)
    (k16:PySem.W.keepIn K (.ref f16)=true)
    {oc17 kV17 dc17 pm17 cd17 ct17:Value} {od17 an17:Option Addr} {sl17:Array (Option Value)}
    (a17:PySem.W.nsIn K mainGlobals "is_stretch"=some (some (.ref f17)))
    (l17:K.lookup f17=some ⟨oc17,od17,.func (PySem.W.fnOf "is_stretch" "is_stretch" (aX df) (ax df) (aj df) .none kV17 dc17 pm17 an17 cd17 ct17),sl17⟩)
    (c17:PySem.W.codeIn K cd17 "is_stretch"=true)
    (k17:PySem.W.keepIn K (.ref f17)=true)
    {oc18 kV18 dc18 pm18 cd18 ct18:Value} {od18 an18:Option Addr} {sl18:Array (Option Value)}
    (a18:PySem.W.nsIn K mainGlobals "are_bands"=some (some (.ref f18)))
    (l18:K.lookup f18=some ⟨oc18,od18,.func (PySem.W.fnOf "are_bands" "are_bands" (aX dI) (ax dI) (aj dI) .none kV18 dc18 pm18 an18 cd18 ct18),sl18⟩)
    (c18:PySem.W.codeIn K cd18 "are_bands"=true)
    (k18:PySem.W.keepIn K (.ref f18)=true)
    {oc19 kV19 dc19 pm19 cd19 ct19:Value} {od19 an19:Option Addr} {sl19:Array (Option Value)}
    (a19:PySem.W.nsIn K mainGlobals "are_signs"=some (some (.ref f19)))
    (l19:K.lookup f19=some ⟨oc19,od19,.func (PySem.W.fnOf "are_signs" "are_signs" (aX dJ) (ax dJ) (aj dJ) .none kV19 dc19 pm19 an19 cd19 ct19),sl19⟩)
    (c19:PySem.W.codeIn K cd19 "are_signs"=true)
    (k19:PySem.W.keepIn K (.ref f19)=true)
    {oc20 kV20 dc20 pm20 cd20 ct20:Value} {od20 an20:Option Addr} {sl20:Array (Option Value)}
    (a20:PySem.W.nsIn K mainGlobals "has_shell"=some (some (.ref f20)))
    (l20:K.lookup f20=some ⟨oc20,od20,.func (PySem.W.fnOf "has_shell" "has_shell" (aX dM) (ax dM) (aj dM) .none kV20 dc20 pm20 an20 cd20 ct20),sl20⟩)
    (c20:PySem.W.codeIn K cd20 "has_shell"=true)
    (k20:PySem.W.keepIn K (.ref f20)=true)
    {oc21 kV21 dc21 pm21 cd21 ct21:Value} {od21 an21:Option Addr} {sl21:Array (Option Value)}
    (a21:PySem.W.nsIn K mainGlobals "level_of"=some (some (.ref f21)))
    (l21:K.lookup f21=some ⟨oc21,od21,.func (PySem.W.fnOf "level_of" "level_of" (aX eO) (ax eO) (aj eO) .none kV21 dc21 pm21 an21 cd21 ct21),sl21⟩)
    (c21:PySem.W.codeIn K cd21 "level_of"=true)
    (k21:PySem.W.keepIn K (.ref f21)=true)
    {oc22 kV22 dc22 pm22 cd22 ct22:Value} {od22 an22:Option Addr} {sl22:Array (Option Value)}
    (a22:PySem.W.nsIn K mainGlobals "least_level"=some (some (.ref f22)))
    (l22:K.lookup f22=some ⟨oc22,od22,.func (PySem.W.fnOf "least_level" "least_level" (aX cN) (ax cN) (aj cN) .none kV22 dc22 pm22 an22 cd22 ct22),sl22⟩)
    (c22:PySem.W.codeIn K cd22 "least_level"=true)
    (k22:PySem.W.keepIn K (.ref f22)=true)
    {oc23 kV23 dc23 pm23 cd23 ct23:Value} {od23 an23:Option Addr} {sl23:Array (Option Value)}
    (a23:PySem.W.nsIn K mainGlobals "holds_table"=some (some (.ref f23)))
    (l23:K.lookup f23=some ⟨oc23,od23,.func (PySem.W.fnOf "holds_table" "holds_table" (aX cO) (ax cO) (aj cO) .none kV23 dc23 pm23 an23 cd23 ct23),sl23⟩)
    (c23:PySem.W.codeIn K cd23 "holds_table"=true)
    (k23:PySem.W.keepIn K (.ref f23)=true)
    {oc24 kV24 dc24 pm24 cd24 ct24:Value} {od24 an24:Option Addr} {sl24:Array (Option Value)}
    (a24:PySem.W.nsIn K mainGlobals "has_form"=some (some (.ref f24)))
    (l24:K.lookup f24=some ⟨oc24,od24,.func (PySem.W.fnOf "has_form" "has_form" (aX eP) (ax eP) (aj eP) .none kV24 dc24 pm24 an24 cd24 ct24),sl24⟩)
    (c24:PySem.W.codeIn K cd24 "has_form"=true)
    (k24:PySem.W.keepIn K (.ref f24)=true)
    {oc25 kV25 dc25 pm25 cd25 ct25:Value} {od25 an25:Option Addr} {sl25:Array (Option Value)}
    (a25:PySem.W.nsIn K mainGlobals "depth_of"=some (some (.ref f25)))
    (l25:K.lookup f25=some ⟨oc25,od25,.func (PySem.W.fnOf "depth_of" "depth_of" (aX eQ) (ax eQ) (aj eQ) .none kV25 dc25 pm25 an25 cd25 ct25),sl25⟩)
    (c25:PySem.W.codeIn K cd25 "depth_of"=true)
    (k25:PySem.W.keepIn K (.ref f25)=true)
    {oc26 kV26 dc26 pm26 cd26 ct26:Value} {od26 an26:Option Addr} {sl26:Array (Option Value)}
    (a26:PySem.W.nsIn K mainGlobals "count_of"=some (some (.ref f26)))
    (l26:K.lookup f26=some ⟨oc26,od26,.func (PySem.W.fnOf "count_of" "count_of" (aX eR) (ax eR) (aj eR) .none kV26 dc26 pm26 an26 cd26 ct26),sl26⟩)
    (c26:PySem.W.codeIn K cd26 "count_of"=true)
    (k26:PySem.W.keepIn K (.ref f26)=true)
    {oc27 kV27 dc27 pm27 cd27 ct27:Value} {od27 an27:Option Addr} {sl27:Array (Option Value)}
    (a27:PySem.W.nsIn K mainGlobals "is_formula"=some (some (.ref f27)))
    (l27:K.lookup f27=some ⟨oc27,od27,.func (PySem.W.fnOf "is_formula" "is_formula" (aX dg) (ax dg) (aj dg) .none kV27 dc27 pm27 an27 cd27 ct27),sl27⟩)
    (c27:PySem.W.codeIn K cd27 "is_formula"=true)
    (k27:PySem.W.keepIn K (.ref f27)=true)
    {oc28 kV28 dc28 pm28 cd28 ct28:Value} {od28 an28:Option Addr} {sl28:Array (Option Value)}
    (a28:PySem.W.nsIn K mainGlobals "let_by"=some (some (.ref f28)))
    (l28:K.lookup f28=some ⟨oc28,od28,.func (PySem.W.fnOf "let_by" "let_by" (aX gS) (ax gS) (aj gS) .none kV28 dc28 pm28 an28 cd28 ct28),sl28⟩)
    (c28:PySem.W.codeIn K cd28 "let_by"=true)
    (k28:PySem.W.keepIn K (.ref f28)=true)
    {oc29 kV29 dc29 pm29 cd29 ct29:Value} {od29 an29:Option Addr} {sl29:Array (Option Value)}
    (a29:PySem.W.nsIn K mainGlobals "marked_again"=some (some (.ref f29)))
    (l29:K.lookup f29=some ⟨oc29,od29,.func (PySem.W.fnOf "marked_again" "marked_again" (aX cC) (ax cC) (aj cC) .none kV29 dc29 pm29 an29 cd29 ct29),sl29⟩)
    (c29:PySem.W.codeIn K cd29 "marked_again"=true)
    (k29:PySem.W.keepIn K (.ref f29)=true)
    {oc30 kV30 dc30 pm30 cd30 ct30:Value} {od30 an30:Option Addr} {sl30:Array (Option Value)}
    (a30:PySem.W.nsIn K mainGlobals "bands_again"=some (some (.ref f30)))
    (l30:K.lookup f30=some ⟨oc30,od30,.func (PySem.W.fnOf "bands_again" "bands_again" (aX cP) (ax cP) (aj cP) .none kV30 dc30 pm30 an30 cd30 ct30),sl30⟩)
    (c30:PySem.W.codeIn K cd30 "bands_again"=true)
    (k30:PySem.W.keepIn K (.ref f30)=true)
    {oc31 kV31 dc31 pm31 cd31 ct31:Value} {od31 an31:Option Addr} {sl31:Array (Option Value)}
    (a31:PySem.W.nsIn K mainGlobals "rebuilt"=some (some (.ref f31)))
    (l31:K.lookup f31=some ⟨oc31,od31,.func (PySem.W.fnOf "rebuilt" "rebuilt" (aX fW) (ax fW) (aj fW) .none kV31 dc31 pm31 an31 cd31 ct31),sl31⟩)
    (c31:PySem.W.codeIn K cd31 "rebuilt"=true)
    (k31:PySem.W.keepIn K (.ref f31)=true)
    {oc32 kV32 dc32 pm32 cd32 ct32:Value} {od32 an32:Option Addr} {sl32:Array (Option Value)}
    (a32:PySem.W.nsIn K mainGlobals "fitting"=some (some (.ref f32)))
    (l32:K.lookup f32=some ⟨oc32,od32,.func (PySem.W.fnOf "fitting" "fitting" (aX fX) (ax fX) (aj fX) .none kV32 dc32 pm32 an32 cd32 ct32),sl32⟩)
    (c32:PySem.W.codeIn K cd32 "fitting"=true)
    (k32:PySem.W.keepIn K (.ref f32)=true)
    {oc33 kV33 dc33 pm33 cd33 ct33:Value} {od33 an33:Option Addr} {sl33:Array (Option Value)}
    (a33:PySem.W.nsIn K mainGlobals "with_part"=some (some (.ref f33)))
    (l33:K.lookup f33=some ⟨oc33,od33,.func (PySem.W.fnOf "with_part" "with_part" (aX dN) (ax dN) (aj dN) .none kV33 dc33 pm33 an33 cd33 ct33),sl33⟩)
    (c33:PySem.W.codeIn K cd33 "with_part"=true)
    (k33:PySem.W.keepIn K (.ref f33)=true)
    {oc34 kV34 dc34 pm34 cd34 ct34:Value} {od34 an34:Option Addr} {sl34:Array (Option Value)}
    (a34:PySem.W.nsIn K mainGlobals "put_in"=some (some (.ref f34)))
    (l34:K.lookup f34=some ⟨oc34,od34,.func (PySem.W.fnOf "put_in" "put_in" (aX gT) (ax gT) (aj gT) .none kV34 dc34 pm34 an34 cd34 ct34),sl34⟩)
    (c34:PySem.W.codeIn K cd34 "put_in"=true)
    (k34:PySem.W.keepIn K (.ref f34)=true)
    {oc35 kV35 dc35 pm35 cd35 ct35:Value} {od35 an35:Option Addr} {sl35:Array (Option Value)}
    (a35:PySem.W.nsIn K mainGlobals "_law_tabled"=some (some (.ref f35)))
    (l35:K.lookup f35=some ⟨oc35,od35,.func (PySem.W.fnOf "_law_tabled" "_law_tabled" (aX dh) (ax dh) (aj dh) .none kV35 dc35 pm35 an35 cd35 ct35),sl35⟩)
    (c35:PySem.W.codeIn K cd35 "_law_tabled"=true)
    (k35:PySem.W.keepIn K (.ref f35)=true)
    {oc36 kV36 dc36 pm36 cd36 ct36:Value} {od36 an36:Option Addr} {sl36:Array (Option Value)}
    (a36:PySem.W.nsIn K mainGlobals "_law_refused"=some (some (.ref f36)))
    (l36:K.lookup f36=some ⟨oc36,od36,.func (PySem.W.fnOf "_law_refused" "_law_refused" (aX cQ) (ax cQ) (aj cQ) .none kV36 dc36 pm36 an36 cd36 ct36),sl36⟩)
    (c36:PySem.W.codeIn K cd36 "_law_refused"=true)
    (k36:PySem.W.keepIn K (.ref f36)=true)
    {oc37 kV37 dc37 pm37 cd37 ct37:Value} {od37 an37:Option Addr} {sl37:Array (Option Value)}
    (a37:PySem.W.nsIn K mainGlobals "_law_least"=some (some (.ref f37)))
    (l37:K.lookup f37=some ⟨oc37,od37,.func (PySem.W.fnOf "_law_least" "_law_least" (aX dO) (ax dO) (aj dO) .none kV37 dc37 pm37 an37 cd37 ct37),sl37⟩)
    (c37:PySem.W.codeIn K cd37 "_law_least"=true)
    (k37:PySem.W.keepIn K (.ref f37)=true)
    {oc38 kV38 dc38 pm38 cd38 ct38:Value} {od38 an38:Option Addr} {sl38:Array (Option Value)}
    (a38:PySem.W.nsIn K mainGlobals "_law_frame"=some (some (.ref f38)))
    (l38:K.lookup f38=some ⟨oc38,od38,.func (PySem.W.fnOf "_law_frame" "_law_frame" (aX dP) (ax dP) (aj dP) .none kV38 dc38 pm38 an38 cd38 ct38),sl38⟩)
    (c38:PySem.W.codeIn K cd38 "_law_frame"=true)
    (k38:PySem.W.keepIn K (.ref f38)=true)
    {oc39 kV39 dc39 pm39 cd39 ct39:Value} {od39 an39:Option Addr} {sl39:Array (Option Value)}
    (a39:PySem.W.nsIn K mainGlobals "_law_same"=some (some (.ref f39)))
    (l39:K.lookup f39=some ⟨oc39,od39,.func (PySem.W.fnOf "_law_same" "_law_same" (aX eS) (ax eS) (aj eS) .none kV39 dc39 pm39 an39 cd39 ct39),sl39⟩)
    (c39:PySem.W.codeIn K cd39 "_law_same"=true)
    (k39:PySem.W.keepIn K (.ref f39)=true)
    {oc40 kV40 dc40 pm40 cd40 ct40:Value} {od40 an40:Option Addr} {sl40:Array (Option Value)}
    (a40:PySem.W.nsIn K mainGlobals "law"=some (some (.ref f40)))
    (l40:K.lookup f40=some ⟨oc40,od40,.func (PySem.W.fnOf "law" "law" (aX jN) (ax jN) (aj jN) .none kV40 dc40 pm40 an40 cd40 ct40),sl40⟩)
    (c40:PySem.W.codeIn K cd40 "law"=true)
    (k40:PySem.W.keepIn K (.ref f40)=true)
    (z1:PySem.W.nsIn K mainGlobals "tuple"=some none)
    (z2:PySem.W.nsIn K mainGlobals "range"=some none)
    (z3:PySem.W.nsIn K mainGlobals "len"=some none)
    (z4:PySem.W.nsIn K mainGlobals "int"=some none)
    (z5:PySem.W.nsIn K mainGlobals "max"=some none)
    (z6:PySem.W.nsIn K mainGlobals "any"=some none)
    (z7:PySem.W.nsIn K mainGlobals "list"=some none)
    (z8:PySem.W.nsIn K mainGlobals "isinstance"=some none)
    (z9:PySem.W.nsIn K mainGlobals "str"=some none)
    (z10:PySem.W.nsIn K mainGlobals "all"=some none)
    (z11:PySem.W.nsIn K mainGlobals "bool"=some none)
    (z12:PySem.W.nsIn K mainGlobals "enumerate"=some none)
    (z13:PySem.W.nsIn K mainGlobals "sum"=some none)
    (z14:PySem.W.nsIn K mainGlobals "ValueError"=some none)
    {t1:Addr}
    (ta1:PySem.W.nsIn K mainGlobals "LENGTHS"=some (some (.ref t1)))
    (tl1:KTD.tabLook KTD.flatLooks (fun b=>K.lookup b) t1 (bT.map fun p=>(mkS p.1,PyData.int p.2))=true)
    (th1:KTD.hashesOf (fun b=>K.lookup b) t1=(bT.map fun p=>(mkS p.1,PyData.int p.2)).map fun p=>(PySem.strKind l.prog w).hash p.1)
    {t2:Addr}
    (ta2:PySem.W.nsIn K mainGlobals "LEVELS"=some (some (.ref t2)))
    (tl2:KTD.tabLook KTD.flatLooks (fun b=>K.lookup b) t2 (hV.map fun p=>(mkS p.1,PyData.int p.2))=true)
    (th2:KTD.hashesOf (fun b=>K.lookup b) t2=(hV.map fun p=>(mkS p.1,PyData.int p.2)).map fun p=>(PySem.strKind l.prog w).hash p.1)
    {u1:Addr} {uc1:Value} {ud1:Option Addr} {ux1:Data} {us1:Array (Option Value)}
    (ua1:PySem.W.nsIn K mainGlobals "ROW_KINDS"=some (some (.ref u1)))
    (ul1:K.lookup u1=some ⟨uc1,ud1,ux1,us1⟩)
    (ue1:zO [.str [101,118,101,110],.str [115,117,109],.str [116,105,109,101,115]] ⟨uc1,ud1,ux1,us1⟩=true)
    {u2:Value}
    (ua2:PySem.W.nsIn K mainGlobals "MOST_LETTERS"=some (some u2))
    (ue2:cOk cT u2=true)
    {u3:Value}
    (ua3:PySem.W.nsIn K mainGlobals "SMALL_LETTERS"=some (some u3))
    (ue3:cOk cX u3=true)
    {u4:Value}
    (ua4:PySem.W.nsIn K mainGlobals "GREATEST_NUMBER"=some (some u4))
    (ue4:cOk cD u4=true)
    {u5:Value}
    (ua5:PySem.W.nsIn K mainGlobals "MOST_IN_TABLE"=some (some u5))
    (ue5:cOk bR u5=true)
    {u6:Value}
    (ua6:PySem.W.nsIn K mainGlobals "MOST_PARTS"=some (some u6))
    (ue6:cOk cj u6=true)
    {u7:Value}
    (ua7:PySem.W.nsIn K mainGlobals "MOST_DEPTH"=some (some u7))
    (ue7:cOk eV u7=true)
    {u8:Value}
    (ua8:PySem.W.nsIn K mainGlobals "MOST_COUNT"=some (some u8))
    (ue8:cOk eW u8=true)
    (xi2:PySem.W.excIn K C2 G2 "ValueError.__new__"=true)
    (xi4:PySem.W.excIn K C4 G2 "ValueError.__new__"=true)
    (is0:PySem.W.specialIn K (.builtin "object.__class__") "__get__"=some (some (.builtin "getset_descriptor.__get__")))
    (it0:PySem.W.takesIn K (.builtin "object.__class__")=some true)
    (xg0:PySem.W.findIn K (.ref C0) "__getattribute__"=some (some (.builtin "BaseException.__getattribute__")))
    (xh0:PySem.W.findIn K (.ref C0) "__getattr__"=some none)
    (xb0:PySem.W.mroIn K C0 (.type "BaseException")=some true)
    (xd0:PySem.W.hasDictIn K C0=true)
    (ic0:PySem.W.findIn K (.ref C0) "__class__"=some (some (.builtin "object.__class__")))
    (im0:PySem.W.mroIn K C0 (.type "object")=some true)
    (ik0_2:PySem.W.kitOne K (.ref C0) (.ref C2)=some false)
    (ik0_1:PySem.W.kitOne K (.ref C0) (.ref C1)=some false)
    (ik0_3:PySem.W.kitOne K (.ref C0) (.ref C3)=some false)
    (ik0_0:PySem.W.kitOne K (.ref C0) (.ref C0)=some true)
    (iv0:PySem.W.kitOne K (.ref C0) (.type "ValueError")=some true)
    (xg1:PySem.W.findIn K (.ref C1) "__getattribute__"=some (some (.builtin "BaseException.__getattribute__")))
    (xh1:PySem.W.findIn K (.ref C1) "__getattr__"=some none)
    (xb1:PySem.W.mroIn K C1 (.type "BaseException")=some true)
    (xd1:PySem.W.hasDictIn K C1=true)
    (ic1:PySem.W.findIn K (.ref C1) "__class__"=some (some (.builtin "object.__class__")))
    (im1:PySem.W.mroIn K C1 (.type "object")=some true)
    (ik1_2:PySem.W.kitOne K (.ref C1) (.ref C2)=some false)
    (ik1_1:PySem.W.kitOne K (.ref C1) (.ref C1)=some true)
    (ik1_3:PySem.W.kitOne K (.ref C1) (.ref C3)=some false)
    (ik1_0:PySem.W.kitOne K (.ref C1) (.ref C0)=some true)
    (iv1:PySem.W.kitOne K (.ref C1) (.type "ValueError")=some true)
    (xg2:PySem.W.findIn K (.ref C2) "__getattribute__"=some (some (.builtin "BaseException.__getattribute__")))
    (xh2:PySem.W.findIn K (.ref C2) "__getattr__"=some none)
    (xb2:PySem.W.mroIn K C2 (.type "BaseException")=some true)
    (xd2:PySem.W.hasDictIn K C2=true)
    (ic2:PySem.W.findIn K (.ref C2) "__class__"=some (some (.builtin "object.__class__")))
    (im2:PySem.W.mroIn K C2 (.type "object")=some true)
    (ik2_2:PySem.W.kitOne K (.ref C2) (.ref C2)=some true)
    (ik2_1:PySem.W.kitOne K (.ref C2) (.ref C1)=some false)
    (ik2_3:PySem.W.kitOne K (.ref C2) (.ref C3)=some false)
    (ik2_0:PySem.W.kitOne K (.ref C2) (.ref C0)=some true)
    (iv2:PySem.W.kitOne K (.ref C2) (.type "ValueError")=some true)
    (xg3:PySem.W.findIn K (.ref C3) "__getattribute__"=some (some (.builtin "BaseException.__getattribute__")))
    (xh3:PySem.W.findIn K (.ref C3) "__getattr__"=some none)
    (xb3:PySem.W.mroIn K C3 (.type "BaseException")=some true)
    (xd3:PySem.W.hasDictIn K C3=true)
    (ic3:PySem.W.findIn K (.ref C3) "__class__"=some (some (.builtin "object.__class__")))
    (im3:PySem.W.mroIn K C3 (.type "object")=some true)
    (ik3_2:PySem.W.kitOne K (.ref C3) (.ref C2)=some false)
    (ik3_1:PySem.W.kitOne K (.ref C3) (.ref C1)=some false)
    (ik3_3:PySem.W.kitOne K (.ref C3) (.ref C3)=some true)
    (ik3_0:PySem.W.kitOne K (.ref C3) (.ref C0)=some true)
    (iv3:PySem.W.kitOne K (.ref C3) (.type "ValueError")=some true)
    (xg4:PySem.W.findIn K (.ref C4) "__getattribute__"=some (some (.builtin "BaseException.__getattribute__")))
    (xh4:PySem.W.findIn K (.ref C4) "__getattr__"=some none)
    (xb4:PySem.W.mroIn K C4 (.type "BaseException")=some true)
    (xd4:PySem.W.hasDictIn K C4=true)
    (ic4:PySem.W.findIn K (.ref C4) "__class__"=some (some (.builtin "object.__class__")))
    (im4:PySem.W.mroIn K C4 (.type "object")=some true)
    (ik4_2:PySem.W.kitOne K (.ref C4) (.ref C2)=some false)
    (ik4_1:PySem.W.kitOne K (.ref C4) (.ref C1)=some false)
    (ik4_3:PySem.W.kitOne K (.ref C4) (.ref C3)=some false)
    (ik4_0:PySem.W.kitOne K (.ref C4) (.ref C0)=some true)
    (iv4:PySem.W.kitOne K (.ref C4) (.type "ValueError")=some true)
    : ∃ fd:FuncData,(∀ (s:Shared) (v:Value),BindsTo s fd ⟨[v],[]⟩ [("script",v)])∧∀ base:Heap,K.In base→base.Ns mainGlobals mg→jw l.prog w K mg base CX0 39 fa fd ["script"] (spL K qF):=by
  have e:=hfa.symm.trans (PySem.W.mg_of X G a40)
  cases e
  have T:Txt l.prog w K mg C0 C1 C2 C3 C4:=⟨PySem.W.mg_none_of X G z1,PySem.W.mg_none_of X G z2,PySem.W.mg_none_of X G z3,PySem.W.mg_none_of X G z4,PySem.W.mg_none_of X G z5,PySem.W.mg_none_of X G z6,PySem.W.mg_none_of X G z7,PySem.W.mg_none_of X G z8,PySem.W.mg_none_of X G z9,PySem.W.mg_none_of X G z10,PySem.W.mg_none_of X G z11,PySem.W.mg_none_of X G z12,PySem.W.mg_none_of X G z13,PySem.W.mg_none_of X G z14,tab_of (PySem.W.mg_of X G ta1) tl1 (by decide +kernel) th1,tab_of (PySem.W.mg_of X G ta2) tl2 (by decide +kernel) th2,xp (PySem.W.mg_of X G ua1) ul1 ue1,fI (PySem.W.mg_of X G ua2) ue2,fI (PySem.W.mg_of X G ua3) ue3,fI (PySem.W.mg_of X G ua4) ue4,fI (PySem.W.mg_of X G ua5) ue5,fI (PySem.W.mg_of X G ua6) ue6,fI (PySem.W.mg_of X G ua7) ue7,fI (PySem.W.mg_of X G ua8) ue8,⟨C2,PySem.W.mg_of X G aC2,rfl,xi2⟩,⟨C4,PySem.W.mg_of X G aC4,rfl,xi4⟩,⟨C2,PySem.W.mg_of X G aC2,p9 (gY ⟨xg0,xh0,xd0,ic0,is0,it0,im0,xb0,ik0_2⟩ (gY ⟨xg1,xh1,xd1,ic1,is0,it0,im1,xb1,ik1_2⟩ (gY ⟨xg2,xh2,xd2,ic2,is0,it0,im2,xb2,ik2_2⟩ (gY ⟨xg3,xh3,xd3,ic3,is0,it0,im3,xb3,ik3_2⟩ (gY ⟨xg4,xh4,xd4,ic4,is0,it0,im4,xb4,ik4_2⟩ AM)))))⟩,⟨C1,PySem.W.mg_of X G aC1,p9 (gY ⟨xg0,xh0,xd0,ic0,is0,it0,im0,xb0,ik0_1⟩ (gY ⟨xg1,xh1,xd1,ic1,is0,it0,im1,xb1,ik1_1⟩ (gY ⟨xg2,xh2,xd2,ic2,is0,it0,im2,xb2,ik2_1⟩ (gY ⟨xg3,xh3,xd3,ic3,is0,it0,im3,xb3,ik3_1⟩ (gY ⟨xg4,xh4,xd4,ic4,is0,it0,im4,xb4,ik4_1⟩ AM)))))⟩,⟨C3,PySem.W.mg_of X G aC3,p9 (gY ⟨xg0,xh0,xd0,ic0,is0,it0,im0,xb0,ik0_3⟩ (gY ⟨xg1,xh1,xd1,ic1,is0,it0,im1,xb1,ik1_3⟩ (gY ⟨xg2,xh2,xd2,ic2,is0,it0,im2,xb2,ik2_3⟩ (gY ⟨xg3,xh3,xd3,ic3,is0,it0,im3,xb3,ik3_3⟩ (gY ⟨xg4,xh4,xd4,ic4,is0,it0,im4,xb4,ik4_3⟩ AM)))))⟩,⟨C0,PySem.W.mg_of X G aC0,p9 (gY ⟨xg0,xh0,xd0,ic0,is0,it0,im0,xb0,ik0_0⟩ (gY ⟨xg1,xh1,xd1,ic1,is0,it0,im1,xb1,ik1_0⟩ (gY ⟨xg2,xh2,xd2,ic2,is0,it0,im2,xb2,ik2_0⟩ (gY ⟨xg3,xh3,xd3,ic3,is0,it0,im3,xb3,ik3_0⟩ (gY ⟨xg4,xh4,xd4,ic4,is0,it0,im4,xb4,ik4_0⟩ AM)))))⟩,⟨p9 (gY ⟨xg0,xh0,xd0,ic0,is0,it0,im0,xb0,iv0⟩ (gY ⟨xg1,xh1,xd1,ic1,is0,it0,im1,xb1,iv1⟩ (gY ⟨xg2,xh2,xd2,ic2,is0,it0,im2,xb2,iv2⟩ (gY ⟨xg3,xh3,xd3,ic3,is0,it0,im3,xb3,iv3⟩ (gY ⟨xg4,xh4,xd4,ic4,is0,it0,im4,xb4,iv4⟩ AM)))))⟩⟩
  have F1:=bw (st:=dF) l1 c1 k1
  have b1:=F1.binds (ps:=["one"]) fun _ _ _ _ _ _ us hl=>(by obtain ⟨y0,rfl⟩:=ex1 hl; rfl)
  have F2:=bw (st:=fS) l2 c2 k2
  have b2:=F2.binds (ps:=["one", "least"]) fun _ _ _ _ _ _ us hl=>(by obtain ⟨y0,y1,rfl⟩:=ex2 hl; rfl)
  have F3:=bw (st:=dG) l3 c3 k3
  have b3:=F3.binds (ps:=["some", "kind", "by"]) fun _ _ _ _ _ _ us hl=>(by obtain ⟨y0,y1,y2,rfl⟩:=ex3 hl; rfl)
  have F4:=bw (st:=eH) l4 c4 k4
  have b4:=F4.binds (ps:=["way", "by"]) fun _ _ _ _ _ _ us hl=>(by obtain ⟨y0,y1,rfl⟩:=ex2 hl; rfl)
  have F5:=bw (st:=eI) l5 c5 k5
  have b5:=F5.binds (ps:=["some", "way", "by"]) fun _ _ _ _ _ _ us hl=>(by obtain ⟨y0,y1,y2,rfl⟩:=ex3 hl; rfl)
  have F6:=bw (st:=eJ) l6 c6 k6
  have b6:=F6.binds (ps:=["cell"]) fun _ _ _ _ _ _ us hl=>(by obtain ⟨y0,rfl⟩:=ex1 hl; rfl)
  have F7:=bw (st:=eK) l7 c7 k7
  have b7:=F7.binds (ps:=["cell"]) fun _ _ _ _ _ _ us hl=>(by obtain ⟨y0,rfl⟩:=ex1 hl; rfl)
  have F8:=bw (st:=eL) l8 c8 k8
  have b8:=F8.binds (ps:=["stack", "cell"]) fun _ _ _ _ _ _ us hl=>(by obtain ⟨y0,y1,rfl⟩:=ex2 hl; rfl)
  have F9:=bw (st:=cM) l9 c9 k9
  have b9:=F9.binds (ps:=["script"]) fun _ _ _ _ _ _ us hl=>(by obtain ⟨y0,rfl⟩:=ex1 hl; rfl)
  have F10:=bw (st:=dH) l10 c10 k10
  have b10:=F10.binds (ps:=["f"]) fun _ _ _ _ _ _ us hl=>(by obtain ⟨y0,rfl⟩:=ex1 hl; rfl)
  have F11:=bw (st:=fT) l11 c11 k11
  have b11:=F11.binds (ps:=["f", "cells"]) fun _ _ _ _ _ _ us hl=>(by obtain ⟨y0,y1,rfl⟩:=ex2 hl; rfl)
  have F12:=bw (st:=eM) l12 c12 k12
  have b12:=F12.binds (ps:=["bands"]) fun _ _ _ _ _ _ us hl=>(by obtain ⟨y0,rfl⟩:=ex1 hl; rfl)
  have F13:=bw (st:=eN) l13 c13 k13
  have b13:=F13.binds (ps:=["f"]) fun _ _ _ _ _ _ us hl=>(by obtain ⟨y0,rfl⟩:=ex1 hl; rfl)
  have F14:=bw (st:=fU) l14 c14 k14
  have b14:=F14.binds (ps:=["f", "path"]) fun _ _ _ _ _ _ us hl=>(by obtain ⟨y0,y1,rfl⟩:=ex2 hl; rfl)
  have F15:=bw (st:=fV) l15 c15 k15
  have b15:=F15.binds (ps:=["thing"]) fun _ _ _ _ _ _ us hl=>(by obtain ⟨y0,rfl⟩:=ex1 hl; rfl)
  have F16:=bw (st:=bM) l16 c16 k16
  have b16:=F16.binds (ps:=["thing"]) fun _ _ _ _ _ _ us hl=>(by obtain ⟨y0,rfl⟩:=ex1 hl; rfl)
  have F17:=bw (st:=df) l17 c17 k17
  have b17:=F17.binds (ps:=["thing", "least", "most"]) fun _ _ _ _ _ _ us hl=>(by obtain ⟨y0,y1,y2,rfl⟩:=ex3 hl; rfl)
  have F18:=bw (st:=dI) l18 c18 k18
  have b18:=F18.binds (ps:=["thing"]) fun _ _ _ _ _ _ us hl=>(by obtain ⟨y0,rfl⟩:=ex1 hl; rfl)
  have F19:=bw (st:=dJ) l19 c19 k19
  have b19:=F19.binds (ps:=["thing", "number"]) fun _ _ _ _ _ _ us hl=>(by obtain ⟨y0,y1,rfl⟩:=ex2 hl; rfl)
  have F20:=bw (st:=dM) l20 c20 k20
  have b20:=F20.binds (ps:=["thing"]) fun _ _ _ _ _ _ us hl=>(by obtain ⟨y0,rfl⟩:=ex1 hl; rfl)
  have F21:=bw (st:=eO) l21 c21 k21
  have b21:=F21.binds (ps:=["f"]) fun _ _ _ _ _ _ us hl=>(by obtain ⟨y0,rfl⟩:=ex1 hl; rfl)
  have F22:=bw (st:=cN) l22 c22 k22
  have b22:=F22.binds (ps:=["f", "n"]) fun _ _ _ _ _ _ us hl=>(by obtain ⟨y0,y1,rfl⟩:=ex2 hl; rfl)
  have F23:=bw (st:=cO) l23 c23 k23
  have b23:=F23.binds (ps:=["f"]) fun _ _ _ _ _ _ us hl=>(by obtain ⟨y0,rfl⟩:=ex1 hl; rfl)
  have F24:=bw (st:=eP) l24 c24 k24
  have b24:=F24.binds (ps:=["thing"]) fun _ _ _ _ _ _ us hl=>(by obtain ⟨y0,rfl⟩:=ex1 hl; rfl)
  have F25:=bw (st:=eQ) l25 c25 k25
  have b25:=F25.binds (ps:=["f"]) fun _ _ _ _ _ _ us hl=>(by obtain ⟨y0,rfl⟩:=ex1 hl; rfl)
  have F26:=bw (st:=eR) l26 c26 k26
  have b26:=F26.binds (ps:=["f"]) fun _ _ _ _ _ _ us hl=>(by obtain ⟨y0,rfl⟩:=ex1 hl; rfl)
  have F27:=bw (st:=dg) l27 c27 k27
  have b27:=F27.binds (ps:=["thing"]) fun _ _ _ _ _ _ us hl=>(by obtain ⟨y0,rfl⟩:=ex1 hl; rfl)
  have F28:=bw (st:=gS) l28 c28 k28
  have b28:=F28.binds (ps:=["f"]) fun _ _ _ _ _ _ us hl=>(by obtain ⟨y0,rfl⟩:=ex1 hl; rfl)
  have F29:=bw (st:=cC) l29 c29 k29
  have b29:=F29.binds (ps:=["f", "some"]) fun _ _ _ _ _ _ us hl=>(by obtain ⟨y0,y1,rfl⟩:=ex2 hl; rfl)
  have F30:=bw (st:=cP) l30 c30 k30
  have b30:=F30.binds (ps:=["bands", "some"]) fun _ _ _ _ _ _ us hl=>(by obtain ⟨y0,y1,rfl⟩:=ex2 hl; rfl)
  have F31:=bw (st:=fW) l31 c31 k31
  have b31:=F31.binds (ps:=["f", "some"]) fun _ _ _ _ _ _ us hl=>(by obtain ⟨y0,y1,rfl⟩:=ex2 hl; rfl)
  have F32:=bw (st:=fX) l32 c32 k32
  have b32:=F32.binds (ps:=["f", "n", "g"]) fun _ _ _ _ _ _ us hl=>(by obtain ⟨y0,y1,y2,rfl⟩:=ex3 hl; rfl)
  have F33:=bw (st:=dN) l33 c33 k33
  have b33:=F33.binds (ps:=["f", "path", "g"]) fun _ _ _ _ _ _ us hl=>(by obtain ⟨y0,y1,y2,rfl⟩:=ex3 hl; rfl)
  have F34:=bw (st:=gT) l34 c34 k34
  have b34:=F34.binds (ps:=["f", "path", "g"]) fun _ _ _ _ _ _ us hl=>(by obtain ⟨y0,y1,y2,rfl⟩:=ex3 hl; rfl)
  have F35:=bw (st:=dh) l35 c35 k35
  have b35:=F35.binds (ps:=["f"]) fun _ _ _ _ _ _ us hl=>(by obtain ⟨y0,rfl⟩:=ex1 hl; rfl)
  have F36:=bw (st:=cQ) l36 c36 k36
  have b36:=F36.binds (ps:=["f", "path", "g"]) fun _ _ _ _ _ _ us hl=>(by obtain ⟨y0,y1,y2,rfl⟩:=ex3 hl; rfl)
  have F37:=bw (st:=dO) l37 c37 k37
  have b37:=F37.binds (ps:=["f", "n"]) fun _ _ _ _ _ _ us hl=>(by obtain ⟨y0,y1,rfl⟩:=ex2 hl; rfl)
  have F38:=bw (st:=dP) l38 c38 k38
  have b38:=F38.binds (ps:=["f"]) fun _ _ _ _ _ _ us hl=>(by obtain ⟨y0,rfl⟩:=ex1 hl; rfl)
  have F39:=bw (st:=eS) l39 c39 k39
  have b39:=F39.binds (ps:=["f", "made", "n"]) fun _ _ _ _ _ _ us hl=>(by obtain ⟨y0,y1,y2,rfl⟩:=ex3 hl; rfl)
  have F40:=bw (st:=jN) l40 c40 k40
  have b40:=F40.binds (ps:=["script"]) fun _ _ _ _ _ _ us hl=>(by obtain ⟨y0,rfl⟩:=ex1 hl; rfl)
  refine ⟨PySem.W.fnOf "law" "law" (aX jN) (ax jN) (aj jN) .none kV40 dc40 pm40 an40 cd40 ct40,fun s v=>.of_eq rfl,fun base _ _=>?_⟩
  have G_law_level:Def l.prog w K mg base (ct C0 C1 C2 C3 C4) "_law_level" ["one"] 1 eA:=bO F1 uu (PySem.W.mg_of X G a1) b1 (pd T  )
  have G_law_fit:Def l.prog w K mg base (ct C0 C1 C2 C3 C4) "_law_fit" ["one", "least"] 2 fL:=bO F2 y6 (PySem.W.mg_of X G a2) b2 (sr T G_law_level )
  have G_law_chain:Def l.prog w K mg base (ct C0 C1 C2 C3 C4) "_law_chain" ["some", "kind", "by"] 3 d5:=bO F3 uv (PySem.W.mg_of X G a3) b3 (pe T G_law_fit )
  have G_law_many:Def l.prog w K mg base (ct C0 C1 C2 C3 C4) "_law_many" ["way", "by"] 1 cx:=bO F4 vC (PySem.W.mg_of X G a4) b4 (pO T  )
  have G_law_made:Def l.prog w K mg base (ct C0 C1 C2 C3 C4) "_law_made" ["some", "way", "by"] 4 ck:=bO F5 vD (PySem.W.mg_of X G a5) b5 (pP T G_law_chain G_law_fit )
  have G_law_word:Def l.prog w K mg base (ct C0 C1 C2 C3 C4) "_law_word" ["cell"] 1 ig:=bO F6 vE (PySem.W.mg_of X G a6) b6 (pQ T  )
  have G_law_atom:Def l.prog w K mg base (ct C0 C1 C2 C3 C4) "_law_atom" ["cell"] 2 gw:=bO F7 vF (PySem.W.mg_of X G a7) b7 (pR T G_law_word )
  have G_law_step:mh l.prog w K mg base (ct C0 C1 C2 C3 C4) "_law_step" ["stack", "cell"] 5 fJ:=rQ F8 vG (PySem.W.mg_of X G a8) b8 (pS T G_law_many G_law_made G_law_atom )
  have G_law_formula:Def l.prog w K mg base (ct C0 C1 C2 C3 C4) "_law_formula" ["script"] 6 bW:=bO F9 pJ (PySem.W.mg_of X G a9) b9 (mx T G_law_chain G_law_step )
  have G_law_parts:Def l.prog w K mg base (ct C0 C1 C2 C3 C4) "_law_parts" ["f"] 1 aY:=bO F10 uw (PySem.W.mg_of X G a10) b10 (pf T  )
  have G_law_way:Def l.prog w K mg base (ct C0 C1 C2 C3 C4) "_law_way" ["f", "cells"] 2 iS:=bO F11 y7 (PySem.W.mg_of X G a11) b11 (su T G_law_parts )
  have G_cells_of:mh l.prog w K mg base (ct C0 C1 C2 C3 C4) "cells_of" ["bands"] 1 ik:=rQ F12 vH (PySem.W.mg_of X G a12) b12 (pT T  )
  have G_parts_of:mh l.prog w K mg base (ct C0 C1 C2 C3 C4) "parts_of" ["f"] 2 aH:=rQ F13 vI (PySem.W.mg_of X G a13) b13 (pU T G_cells_of )
  have GX_part_of:jm l.prog w K mg base (ct C0 C1 C2 C3 C4) "part_of" ["f", "path"] 3 eZ mm:=ng F14 y8 (PySem.W.mg_of X G a14) b14 (sv T G_parts_of )
  have G_part_of:Def l.prog w K mg base (ct C0 C1 C2 C3 C4) "part_of" ["f", "path"] 3 eZ:=GX_part_of.def_
  have G_is_word:Def l.prog w K mg base (ct C0 C1 C2 C3 C4) "is_word" ["thing"] 1 hZ:=bO F15 y9 (PySem.W.mg_of X G a15) b15 (sA T  )
  have G_is_number_value:Def l.prog w K mg base (ct C0 C1 C2 C3 C4) "is_number_value" ["thing"] 1 d6:=bO F16 lO (PySem.W.mg_of X G a16) b16 (jO T  )
  have G_is_stretch:Def l.prog w K mg base (ct C0 C1 C2 C3 C4) "is_stretch" ["thing", "least", "most"] 1 d7:=bO F17 sd (PySem.W.mg_of X G a17) b17 (mT T  )
  have G_are_bands:Def l.prog w K mg base (ct C0 C1 C2 C3 C4) "are_bands" ["thing"] 2 gP:=bO F18 ux (PySem.W.mg_of X G a18) b18 (ph T G_is_stretch )
  have G_are_signs:Def l.prog w K mg base (ct C0 C1 C2 C3 C4) "are_signs" ["thing", "number"] 1 gQ:=bO F19 uy (PySem.W.mg_of X G a19) b19 (pj T  )
  have G_has_shell:Def l.prog w K mg base (ct C0 C1 C2 C3 C4) "has_shell" ["thing"] 3 aM:=bO F20 uz (PySem.W.mg_of X G a20) b20 (pq T G_is_word G_is_number_value G_are_bands G_is_stretch G_are_signs )
  have G_level_of:Def l.prog w K mg base (ct C0 C1 C2 C3 C4) "level_of" ["f"] 1 bK:=bO F21 vJ (PySem.W.mg_of X G a21) b21 (pV T  )
  have G_least_level:Def l.prog w K mg base (ct C0 C1 C2 C3 C4) "least_level" ["f", "n"] 2 aR:=bO F22 pK (PySem.W.mg_of X G a22) b22 (my T G_level_of )
  have R_holds_table : ∀ n:Nat,Def l.prog w K mg base (ct C0 C1 C2 C3 C4) "holds_table" ["f"] (2+n) (aD n):=fun n=>Nat.rec (iQ F23 (PySem.W.mg_of X G a23) b23) (fun n ih=>bO F23 pL (PySem.W.mg_of X G a23) b23 (mz T G_parts_of  (Nat.le_add_right 2 n) ih)) n
  have G_holds_table:Def l.prog w K mg base (ct C0 C1 C2 C3 C4) "holds_table" ["f"] 18 cK:=R_holds_table iV
  have R_has_form : ∀ n:Nat,Def l.prog w K mg base (ct C0 C1 C2 C3 C4) "has_form" ["thing"] (18+n) (bz n):=fun n=>Nat.rec (iQ F24 (PySem.W.mg_of X G a24) b24) (fun n ih=>bO F24 vK (PySem.W.mg_of X G a24) b24 (pW T G_parts_of G_has_shell G_level_of G_least_level G_holds_table  (Nat.le_add_right 18 n) ih)) n
  have G_has_form:Def l.prog w K mg base (ct C0 C1 C2 C3 C4) "has_form" ["thing"] 34 eC:=R_has_form kl
  have R_depth_of : ∀ n:Nat,Def l.prog w K mg base (ct C0 C1 C2 C3 C4) "depth_of" ["f"] (2+n) (fN n):=fun n=>Nat.rec (iQ F25 (PySem.W.mg_of X G a25) b25) (fun n ih=>bO F25 vL (PySem.W.mg_of X G a25) b25 (pX T G_parts_of  (Nat.le_add_right 2 n) ih)) n
  have G_depth_of:Def l.prog w K mg base (ct C0 C1 C2 C3 C4) "depth_of" ["f"] 18 eD:=R_depth_of km
  have R_count_of : ∀ n:Nat,Def l.prog w K mg base (ct C0 C1 C2 C3 C4) "count_of" ["f"] (2+n) (fO n):=fun n=>Nat.rec (iQ F26 (PySem.W.mg_of X G a26) b26) (fun n ih=>bO F26 vM (PySem.W.mg_of X G a26) b26 (pY T G_parts_of  (Nat.le_add_right 2 n) ih)) n
  have G_count_of:Def l.prog w K mg base (ct C0 C1 C2 C3 C4) "count_of" ["f"] 18 eE:=R_count_of kn
  have G_is_formula:Def l.prog w K mg base (ct C0 C1 C2 C3 C4) "is_formula" ["thing"] 35 dS:=bO F27 se (PySem.W.mg_of X G a27) b27 (mU T G_has_form G_depth_of G_count_of )
  have GX_let_by:jm l.prog w K mg base (ct C0 C1 C2 C3 C4) "let_by" ["f"] 36 eF iW:=ng F28 AG (PySem.W.mg_of X G a28) b28 (uF T G_is_formula )
  have G_let_by:Def l.prog w K mg base (ct C0 C1 C2 C3 C4) "let_by" ["f"] 36 eF:=GX_let_by.def_
  have G_marked_again:Def l.prog w K mg base (ct C0 C1 C2 C3 C4) "marked_again" ["f", "some"] 1 cU:=bO F29 oZ (PySem.W.mg_of X G a29) b29 (lQ T  )
  have G_bands_again:Def l.prog w K mg base (ct C0 C1 C2 C3 C4) "bands_again" ["bands", "some"] 1 dY:=bO F30 pM (PySem.W.mg_of X G a30) b30 (mB T  )
  have G_rebuilt:Def l.prog w K mg base (ct C0 C1 C2 C3 C4) "rebuilt" ["f", "some"] 2 cp:=bO F31 ya (PySem.W.mg_of X G a31) b31 (sC T G_marked_again G_bands_again )
  have G_fitting:Def l.prog w K mg base (ct C0 C1 C2 C3 C4) "fitting" ["f", "n", "g"] 3 iX:=bO F32 yb (PySem.W.mg_of X G a32) b32 (sD T G_level_of G_least_level )
  have R_with_part : ∀ n:Nat,Def l.prog w K mg base (ct C0 C1 C2 C3 C4) "with_part" ["f", "path", "g"] (3+n) (d9 n):=fun n=>Nat.rec (iQ F33 (PySem.W.mg_of X G a33) b33) (fun n ih=>bO F33 uA (PySem.W.mg_of X G a33) b33 (pw T G_parts_of G_rebuilt G_fitting  (Nat.le_add_right 3 n) ih)) n
  have G_with_part:Def l.prog w K mg base (ct C0 C1 C2 C3 C4) "with_part" ["f", "path", "g"] 19 cA:=R_with_part jJ
  have GX_put_in:jm l.prog w K mg base (ct C0 C1 C2 C3 C4) "put_in" ["f", "path", "g"] 37 dc iY:=ng F34 AH (PySem.W.mg_of X G a34) b34 (uG T G_part_of GX_part_of G_let_by GX_let_by G_with_part )
  have G_put_in:Def l.prog w K mg base (ct C0 C1 C2 C3 C4) "put_in" ["f", "path", "g"] 37 dc:=GX_put_in.def_
  have R_law_tabled : ∀ n:Nat,Def l.prog w K mg base (ct C0 C1 C2 C3 C4) "_law_tabled" ["f"] (1+n) (bp n):=fun n=>Nat.rec (iQ F35 (PySem.W.mg_of X G a35) b35) (fun n ih=>bO F35 sf (PySem.W.mg_of X G a35) b35 (mV T G_law_parts  (Nat.le_add_right 1 n) ih)) n
  have G_law_tabled:Def l.prog w K mg base (ct C0 C1 C2 C3 C4) "_law_tabled" ["f"] 17 bA:=R_law_tabled jn
  have GX_law_refused:jm l.prog w K mg base (ct C0 C1 C2 C3 C4) "_law_refused" ["f", "path", "g"] 38 cL ko:=ng F36 pN (PySem.W.mg_of X G a36) b36 (mD T G_put_in GX_put_in )
  have G_law_refused:Def l.prog w K mg base (ct C0 C1 C2 C3 C4) "_law_refused" ["f", "path", "g"] 38 cL:=GX_law_refused.def_
  have G_law_least:Def l.prog w K mg base (ct C0 C1 C2 C3 C4) "_law_least" ["f", "n"] 1 dD:=bO F37 uB (PySem.W.mg_of X G a37) b37 (pz T  )
  have G_law_frame:Def l.prog w K mg base (ct C0 C1 C2 C3 C4) "_law_frame" ["f"] 1 bL:=bO F38 uC (PySem.W.mg_of X G a38) b38 (pA T  )
  have G_law_same:Def l.prog w K mg base (ct C0 C1 C2 C3 C4) "_law_same" ["f", "made", "n"] 2 iw:=bO F39 vN (PySem.W.mg_of X G a39) b39 (pZ T G_law_parts G_law_frame )
  exact (vT F40 Jc (AN T G_law_formula G_law_way G_put_in GX_put_in G_law_tabled G_law_refused GX_law_refused G_law_least G_law_level G_law_same G_law_parts )).imp fun vs H Q E h=>IX h
theorem walk {l:PySem.W.OpenLaw}{q:Program}{loose:List Str}{XP:(Str→Option Value)→Heap→Prop}{YP:World→Heap→Prop}{d:DefRec}{K:Params→PySem.W.Frag}(hn:l.most=some 63)(hdf:d.params.defaults=[])(hY : ∀ (w:World) (h:Heap),YP w h→(K w.params).In h)
    (F : ∀ (w:World) (mg:Str→Option Value) (fa:Addr) (h:Heap),(K w.params).In h→h.Ns mainGlobals mg→mg d.name=some (.ref fa)→∃ fd:FuncData,(∀ (s:Shared) (u:Value),BindsTo s fd ⟨[u],[]⟩ [("script",u)])∧∀ base:Heap,(K w.params).In base→base.Ns mainGlobals mg→jw l.prog w (K w.params) mg base CX0 39 fa fd ["script"] (spL (K w.params) qF)) :
    PySem.W.WalkO q loose XP YP l.row.toRowW d [] (fun f vs=>PySem.call f vs) :=
  L2.w4 (n:=63) (k:=39) (x:="script") (CX:=fun _=>CX0) (sp:=fun w=>spL (K w.params) qF) hn (by decide) hdf ⟨rfl,by decide,by decide⟩ hY F (fun w H a ns hl _ hS=>⟨a,ns,rfl,hS,Gd ns hl,fun _ _=>rfl⟩) fun _ _ _ _ _ z=>z
end K72
end
section
namespace HD
open PySem PySem.W
noncomputable def nz (tb:String→Option Builtin)(p:Program)(w:World)(n₀:Nat)(ann:Option Value):Nat→SharedT→Thread→Option SharedT
  | 0,_,_=>none
  | n+1,s,t=>match through t with
    | true=>some s
    | false=>match stepOk n₀ ann t with
      | false=>none
      | true=>match stepT (denote tb) p w s t with
        | some (s',t')=>nz tb p w n₀ ann n s' t'
        | none=>none
theorem pB {tb:String→Option Builtin}{p:Program}{w:World}{n₀:Nat}{ann:Option Value} : ∀ {n:Nat} {s s':SharedT} {t:Thread},nz tb p w n₀ ann n s t=some s'→topRun tb p w n₀ ann n s.abs t=some s'.abs
  | 0,s,s',t,h=>by cases h
  | n+1,s,s',t,h=>by
    unfold nz at h
    unfold topRun
    cases h1:through t with
    | true=>rw [h1] at h; cases h; rfl
    | false =>
      rw [h1] at h
      cases h2:stepOk n₀ ann t with
      | false=>rw [h2] at h; cases h
      | true =>
        rw [h2] at h
        cases hs:stepT (denote tb) p w s t with
        | none=>rw [hs] at h; cases h
        | some r=>obtain ⟨s₂,t₂⟩:=r; rw [hs] at h; dsimp only; rw [stepT_spec hs]; exact pB h
def treeOf:Nat→List Obj→BT→BT
  | _,[],t=>t
  | i,o::l,t=>treeOf (i+1) l (t.ins i o)
noncomputable def S0 (w:World)(os:OsState):SharedT:=⟨treeOf 0 (boot_heap w.params).objs.toList .nil,(boot_heap w.params).objs.size,(boot_heap w.params).life, #[],boot_drawn,boot_toks,os⟩
theorem Gg (w:World)(os:OsState):(S0 w os).abs=⟨boot_heap w.params,Array.mk [],boot_drawn,boot_toks,os⟩:=by kernel_rfl
theorem Je (w:World):((boot_heap w.params).isNs mainGlobals && (Array.mk []:Array GenState).size == 0)=true∧(boot_heap w.params).objs.size=11∧(boot_heap w.params).nsMap mainGlobals "__annotations__"=some (.ref 6):=⟨by kernel_rfl,by kernel_rfl,by kernel_rfl⟩
abbrev obs (as:List Addr)(s:Shared):List (Option Obj):=as.map s.heap.get?
abbrev val (K:Params→Frag)(w:World):List (Option Obj):=(K w.params).map fun p=>some p.2
noncomputable def lk (p q:Program)(loose:List Str)(Xt:Shared→Bool)(as:List Addr)(B:Heap)(s:Shared) :=
  (staticsOk (importedModules p.main.body) B s.heap && namesBound p s.heap && gensDone s && laidKept B s.heap,openSeen q loose (importedModules p.main.body) Xt true s,as.map s.heap.get?)
noncomputable def all (p q:Program)(loose:List Str)(lv:List (Str × WData))(rc:WRecords)(as:List Addr)(B:Heap)(w:World)(s:SharedT)(N:Nat) :=
  (nz treeTable p w 11 (some (.ref 6)) N s (topStub p)).map fun s=>lk p q loose (fun s=>xlAt q lv s && recOk rc s) as B s.abs
noncomputable def due (q:Program)(loose:List Str)(y:List (Option Obj)):=some (true,openGood q loose,y)
theorem Jf {p q:Program}{loose:List Str}{lv:List (Str × WData)}{rc:WRecords}{as:List Addr}{K:Params→Frag}{N:Nat}
    (e:opening p=plainProg p.main.scope.names) (hN:Nat.ble 600 N=true) (f : ∀ s,fenceModules? p s=some s)
    (run : ∀ w os,all p q loose lv rc as (boot_heap w.params) w (S0 w os) N=due q loose ((K w.params).map fun p=>some p.2)) :
    LeftO p q loose (fun s=>xlAt q lv s && recOk rc s) (obs as) (val K) N:=fun w=>by
  obtain ⟨⟨h,gs,d,k,os⟩,e1,e2⟩:=Option.map_eq_some_iff.mp (boot_open (N:=N) e hN f w)
  obtain ⟨rfl,rfl,rfl,rfl⟩:h=boot_heap w.params∧gs=Array.mk []∧d=boot_drawn∧k=boot_toks:=by simpa using e2
  obtain ⟨z1,z2,z3⟩:=Je w
  obtain ⟨s,r1,r2⟩:=Option.map_eq_some_iff.mp (run w os)
  obtain ⟨l1,l2,l3⟩ : _∧_∧_:=by simpa only [lk,Prod.mk.injEq] using r2
  have r:=pB r1
  rw [Gg] at r
  have t:topFrom treeTable p w N ⟨boot_heap w.params,Array.mk [],boot_drawn,boot_toks,os⟩=some s.abs:=by
    unfold topFrom
    dsimp only
    rw [z1,z2,z3,r]
    show (match staticsOk (importedModules p.main.body) (boot_heap w.params) s.abs.heap && namesBound p s.abs.heap && gensDone s.abs && laidKept (boot_heap w.params) s.abs.heap with | true=>_ | false=>_)=_
    rw [l1]
  unfold openEnds
  rw [e1]
  show (topFrom treeTable p w N _).map _=_
  rw [t]
  exact congrArg some (Prod.ext l2 l3)
lay_quick HD.all
lay_quick HD.due
end HD
namespace HD
open PySem PySem.W PySem.W.X PyProof.Rows
def dr (s:Stmt):DefRec:=match s with
  | .FunctionDef _ a b _ _ _ sc _ _ p=>⟨"law",a,b,sc,p⟩
  | _=>⟨"law",⟨[],[],none,[],[],none,[]⟩,[],default,⟨0,0,0,0⟩⟩
theorem yg {q:Program}{loose:List Str}{XP:(Str→Option Value)→Heap→Prop}{as:List Addr}{K:Params→Frag}{r:RowW}{d:DefRec}{kwd:List (Str × Expr)}{run:Value→List Value→Sem Value}
    (e : ∀ P,as=(K P).map (·.1)) (h:WalkO q loose XP (InK K) r d kwd run):WalkX q loose XP (obs as) (val K) r d kwd run :=
  fun w s₀ s₁ mg mb G y a o pm cd doc dV kV ho hd hcd hD hmg hg args vals as' L hpre hlay hrd hwl hlo=>h w s₀ s₁ mg mb G (InK.keeps w _ _ (InK.of e w s₀ y) L.keeps) a o pm cd doc dV kV ho hd hcd hD hmg hg args vals as' hpre hlay hrd hwl hlo
end HD
end
section
namespace HD
open PySem PySem.W L2 DL
abbrev PW:Program:=PySem.Challenge.pw_inkform_k72_put_in_anywhere
noncomputable def top (i:Nat):Stmt:=PW.main.body.getD i (.Pass ⟨0,0,0,0⟩)
noncomputable def de (P:Params)(s:Str)(n:Nat)(v:Value):DictEntry:=⟨PyData.keyHash P s,.str s n,v⟩
def fo (n q:Str)(s:Stmt)(pm cd:Value):Obj:=⟨.type "function",none,.func (fnOf n q (aX s) (ax s) (aj s) .none .none .none pm none cd .none), #[]⟩
def co (n q:Str)(a b c i j k l m o p r t:Nat)(u v x y z e f:Value):Obj:=⟨.type "code",none,.fields #[.str n a,.str q b,.str "/claim/cut.py" c,.int i 0,.int j 0,.int k 0,.int l 0,.int m 0,u,v,.int o 0,x,y,z,e,f,.int p 0,.int r 0,.str "/claim/cut.py" t], #[]⟩
noncomputable def K:Params→Frag:=fun P =>
(nat_lit 0,boot_o_0 P) ::
(nat_lit 1,boot_o_1 P) ::
(nat_lit 2,boot_o_2 P) ::
(nat_lit 3, { cls:=.type "dict",data:=Data.dict #[de P "__name__" 165 (.str "law_inkform_k72_put_in_anywhere" 534),de P "__doc__" 166 .none,de P "__package__" 167 .none,de P "__loader__" 168 (.builtin "__main__.__loader__#opaque"),de P "__spec__" 169 .none,de P "__annotations__" 170 (.ref 6),de P "__builtins__" 171 (.ref 4),de P "__file__" 173 (.str "/claim/cut.py" 172),de P "__cached__" 174 .none,de P "InkError" 206 (.ref 24),de P "NoLine" 222 (.ref 37),de P "NoPart" 238 (.ref 49),de P "NoDrawing" 254 (.ref 61),de P "NoFormula" 270 (.ref 73),de P "SMALL_LETTERS" 274 (.str "abcdefghijklmnopqrstuvwxyz" 273),de P "MOST_LETTERS" 276 (.int 8 275),de P "GREATEST_NUMBER" 278 (.int 999999999 277),de P "MOST_PARTS" 280 (.int 80 279),de P "MOST_IN_TABLE" 282 (.int 9 281),de P "MOST_DEPTH" 284 (.int 12 283),de P "MOST_COUNT" 286 (.int 300 285),de P "LENGTHS" 317 (.ref 76),de P "LEVELS" 348 (.ref 77),de P "ROW_KINDS" 352 (.ref 78),de P "is_formula" 359 (.ref 85),de P "has_form" 365 (.ref 90),de P "has_shell" 373 (.ref 97),de P "is_word" 379 (.ref 102),de P "is_number_value" 386 (.ref 109),de P "is_stretch" 395 (.ref 116),de P "are_signs" 401 (.ref 121),de P "are_bands" 407 (.ref 126),de P "holds_table" 413 (.ref 131),de P "level_of" 420 (.ref 138),de P "parts_of" 426 (.ref 143),de P "cells_of" 435 (.ref 150),de P "depth_of" 441 (.ref 155),de P "count_of" 447 (.ref 160),de P "least_level" 456 (.ref 167),de P "rebuilt" 465 (.ref 174),de P "marked_again" 476 (.ref 181),de P "bands_again" 482 (.ref 186),de P "part_of" 495 (.ref 193),de P "put_in" 506 (.ref 200),de P "with_part" 517 (.ref 207),de P "fitting" 526 (.ref 214),de P "let_by" 533 (.ref 221),de P "_law_word" 546 (.ref 228),de P "_law_atom" 553 (.ref 235),de P "_law_level" 561 (.ref 242),de P "_law_fit" 569 (.ref 249),de P "_law_chain" 575 (.ref 254),de P "_law_made" 581 (.ref 259),de P "_law_many" 589 (.ref 266),de P "_law_step" 595 (.ref 271),de P "_law_formula" 601 (.ref 276),de P "_law_parts" 607 (.ref 281),de P "_law_least" 615 (.ref 288),de P "_law_tabled" 621 (.ref 293),de P "_law_frame" 627 (.ref 298),de P "_law_same" 638 (.ref 305),de P "_law_way" 651 (.ref 312),de P "_law_refused" 663 (.ref 319),de P "law" 678 (.ref 326)] 64 }) ::
(nat_lit 4,boot_o_4 P) ::
(nat_lit 5,boot_o_5 P) ::
(nat_lit 6,boot_o_6 P) ::
(nat_lit 7,boot_o_7 P) ::
(nat_lit 8,boot_o_8 P) ::
(nat_lit 9,boot_o_9 P) ::
(nat_lit 10,boot_o_10 P) ::
(nat_lit 13,co "<module>" "<module>" 182 183 184 1 0 0 0 0 181 185 1 186 (.ref 11) (.bool false) (.ref 12) .none .none .none .none) ::
(nat_lit 15, { cls:=.type "tuple",data:=Data.seq #[.type "ValueError"] }) ::
(nat_lit 17, { cls:=.type "dict",data:=Data.dict #[de P "__module__" 196 (.str "inkform.errors" 187),de P "__qualname__" 198 (.str "InkError" 197),de P "__firstlineno__" 200 (.int 2 199),de P "__static_attributes__" 201 (.ref 22)] 4 }) ::
(nat_lit 20,co "InkError" "InkError" 191 192 193 2 0 0 0 0 181 194 2 195 (.ref 18) (.bool false) (.ref 19) .none .none .none .none) ::
(nat_lit 23, { cls:=.type "dict",data:=Data.dict #[de P "__module__" 196 (.str "inkform.errors" 187),de P "__firstlineno__" 200 (.int 2 199),de P "__static_attributes__" 201 (.ref 22),de P "__weakref__" 203 (.ref 25),de P "__doc__" 204 .none] 3 }) ::
(nat_lit 24, { cls:=.type "type",data:=Data.cls { name:="InkError",bases:=[.type "ValueError"],mro:=[.ref 24,.type "ValueError",.type "Exception",.type "BaseException",.type "object"],ns:=23,qualname:="InkError",subclasses:=[.ref 37,.ref 49,.ref 61,.ref 73] },slots:=#[some (.ref 15),none,some (.str "InkError" 189),some (.str "InkError" 197),some (.builtin "ValueError.__new__"),some (.bool true)] }) ::
(nat_lit 28, { cls:=.type "tuple",data:=Data.seq #[.ref 24] }) ::
(nat_lit 30, { cls:=.type "dict",data:=Data.dict #[de P "__module__" 214 (.str "inkform.errors" 187),de P "__qualname__" 216 (.str "NoLine" 215),de P "__firstlineno__" 218 (.int 4 217),de P "__static_attributes__" 219 (.ref 35)] 4 }) ::
(nat_lit 33,co "NoLine" "NoLine" 209 210 211 4 0 0 0 0 181 212 4 213 (.ref 31) (.bool false) (.ref 32) .none .none .none .none) ::
(nat_lit 36, { cls:=.type "dict",data:=Data.dict #[de P "__module__" 214 (.str "inkform.errors" 187),de P "__firstlineno__" 218 (.int 4 217),de P "__static_attributes__" 219 (.ref 35),de P "__doc__" 220 .none] 2 }) ::
(nat_lit 37, { cls:=.type "type",data:=Data.cls { name:="NoLine",bases:=[.ref 24],mro:=[.ref 37,.ref 24,.type "ValueError",.type "Exception",.type "BaseException",.type "object"],ns:=36,qualname:="NoLine" },slots:=#[some (.ref 28),none,some (.str "NoLine" 207),some (.str "NoLine" 215),some (.builtin "ValueError.__new__"),some (.bool true)] }) ::
(nat_lit 40, { cls:=.type "tuple",data:=Data.seq #[.ref 24] }) ::
(nat_lit 42, { cls:=.type "dict",data:=Data.dict #[de P "__module__" 230 (.str "inkform.errors" 187),de P "__qualname__" 232 (.str "NoPart" 231),de P "__firstlineno__" 234 (.int 6 233),de P "__static_attributes__" 235 (.ref 47)] 4 }) ::
(nat_lit 45,co "NoPart" "NoPart" 225 226 227 6 0 0 0 0 181 228 6 229 (.ref 43) (.bool false) (.ref 44) .none .none .none .none) ::
(nat_lit 48, { cls:=.type "dict",data:=Data.dict #[de P "__module__" 230 (.str "inkform.errors" 187),de P "__firstlineno__" 234 (.int 6 233),de P "__static_attributes__" 235 (.ref 47),de P "__doc__" 236 .none] 2 }) ::
(nat_lit 49, { cls:=.type "type",data:=Data.cls { name:="NoPart",bases:=[.ref 24],mro:=[.ref 49,.ref 24,.type "ValueError",.type "Exception",.type "BaseException",.type "object"],ns:=48,qualname:="NoPart" },slots:=#[some (.ref 40),none,some (.str "NoPart" 223),some (.str "NoPart" 231),some (.builtin "ValueError.__new__"),some (.bool true)] }) ::
(nat_lit 52, { cls:=.type "tuple",data:=Data.seq #[.ref 24] }) ::
(nat_lit 54, { cls:=.type "dict",data:=Data.dict #[de P "__module__" 246 (.str "inkform.errors" 187),de P "__qualname__" 248 (.str "NoDrawing" 247),de P "__firstlineno__" 250 (.int 8 249),de P "__static_attributes__" 251 (.ref 59)] 4 }) ::
(nat_lit 57,co "NoDrawing" "NoDrawing" 241 242 243 8 0 0 0 0 181 244 8 245 (.ref 55) (.bool false) (.ref 56) .none .none .none .none) ::
(nat_lit 60, { cls:=.type "dict",data:=Data.dict #[de P "__module__" 246 (.str "inkform.errors" 187),de P "__firstlineno__" 250 (.int 8 249),de P "__static_attributes__" 251 (.ref 59),de P "__doc__" 252 .none] 2 }) ::
(nat_lit 61, { cls:=.type "type",data:=Data.cls { name:="NoDrawing",bases:=[.ref 24],mro:=[.ref 61,.ref 24,.type "ValueError",.type "Exception",.type "BaseException",.type "object"],ns:=60,qualname:="NoDrawing" },slots:=#[some (.ref 52),none,some (.str "NoDrawing" 239),some (.str "NoDrawing" 247),some (.builtin "ValueError.__new__"),some (.bool true)] }) ::
(nat_lit 64, { cls:=.type "tuple",data:=Data.seq #[.ref 24] }) ::
(nat_lit 66, { cls:=.type "dict",data:=Data.dict #[de P "__module__" 262 (.str "inkform.errors" 187),de P "__qualname__" 264 (.str "NoFormula" 263),de P "__firstlineno__" 266 (.int 10 265),de P "__static_attributes__" 267 (.ref 71)] 4 }) ::
(nat_lit 69,co "NoFormula" "NoFormula" 257 258 259 10 0 0 0 0 181 260 10 261 (.ref 67) (.bool false) (.ref 68) .none .none .none .none) ::
(nat_lit 72, { cls:=.type "dict",data:=Data.dict #[de P "__module__" 262 (.str "inkform.errors" 187),de P "__firstlineno__" 266 (.int 10 265),de P "__static_attributes__" 267 (.ref 71),de P "__doc__" 268 .none] 2 }) ::
(nat_lit 73, { cls:=.type "type",data:=Data.cls { name:="NoFormula",bases:=[.ref 24],mro:=[.ref 73,.ref 24,.type "ValueError",.type "Exception",.type "BaseException",.type "object"],ns:=72,qualname:="NoFormula" },slots:=#[some (.ref 64),none,some (.str "NoFormula" 255),some (.str "NoFormula" 263),some (.builtin "ValueError.__new__"),some (.bool true)] }) ::
(nat_lit 76, { cls:=.type "dict",data:=Data.dict #[de P "name" 287 (.int 2 288),de P "number" 289 (.int 2 290),de P "even" 291 (.int 2 292),de P "sum" 293 (.int 3 294),de P "times" 295 (.int 2 296),de P "over" 297 (.int 3 298),de P "root" 299 (.int 2 300),de P "marked" 301 (.int 4 302),de P "held" 303 (.int 2 304),de P "table" 305 (.int 2 306)] 10 }) ::
(nat_lit 77, { cls:=.type "dict",data:=Data.dict #[de P "even" 318 (.int 0 319),de P "sum" 320 (.int 1 321),de P "times" 322 (.int 2 323),de P "over" 324 (.int 3 325),de P "root" 326 (.int 3 327),de P "marked" 328 (.int 3 329),de P "name" 330 (.int 4 331),de P "number" 332 (.int 4 333),de P "held" 334 (.int 4 335),de P "table" 336 (.int 4 337)] 10 }) ::
(nat_lit 78, { cls:=.type "tuple",data:=Data.seq #[.str "even" 349,.str "sum" 350,.str "times" 351] }) ::
(nat_lit 81, { cls:=.type "tuple",data:=Data.seq #[.str "thing" 356] }) ::
(nat_lit 84,co "is_formula" "is_formula" 353 354 355 23 1 0 0 3 181 357 23 358 (.ref 79) (.bool true) (.ref 80) .none (.ref 81) (.ref 82) (.ref 83)) ::
(nat_lit 85,fo "is_formula" "is_formula" (top 17) (.str "inkform.formulas" 271) (.ref 84)) ::
(nat_lit 89,co "has_form" "has_form" 360 361 362 25 1 0 0 3 181 363 25 364 (.ref 86) (.bool true) (.ref 87) .none .none .none (.ref 88)) ::
(nat_lit 90,fo "has_form" "has_form" (top 18) (.str "inkform.formulas" 271) (.ref 89)) ::
(nat_lit 93, { cls:=.type "tuple",data:=Data.seq #[.str "thing" 369,.str "kind" 370] }) ::
(nat_lit 96,co "has_shell" "has_shell" 366 367 368 33 1 0 0 3 181 371 33 372 (.ref 91) (.bool true) (.ref 92) .none (.ref 93) (.ref 94) (.ref 95)) ::
(nat_lit 97,fo "has_shell" "has_shell" (top 19) (.str "inkform.formulas" 271) (.ref 96)) ::
(nat_lit 101,co "is_word" "is_word" 374 375 376 48 1 0 0 3 181 377 48 378 (.ref 98) (.bool true) (.ref 99) .none .none .none (.ref 100)) ::
(nat_lit 102,fo "is_word" "is_word" (top 20) (.str "inkform.formulas" 271) (.ref 101)) ::
(nat_lit 105, { cls:=.type "tuple",data:=Data.seq #[.str "thing" 383] }) ::
(nat_lit 108,co "is_number_value" "is_number_value" 380 381 382 52 1 0 0 3 181 384 52 385 (.ref 103) (.bool true) (.ref 104) .none (.ref 105) (.ref 106) (.ref 107)) ::
(nat_lit 109,fo "is_number_value" "is_number_value" (top 21) (.str "inkform.formulas" 271) (.ref 108)) ::
(nat_lit 112, { cls:=.type "tuple",data:=Data.seq #[.str "thing" 390,.str "least" 391,.str "most" 392] }) ::
(nat_lit 115,co "is_stretch" "is_stretch" 387 388 389 56 3 0 0 3 181 393 56 394 (.ref 110) (.bool true) (.ref 111) .none (.ref 112) (.ref 113) (.ref 114)) ::
(nat_lit 116,fo "is_stretch" "is_stretch" (top 22) (.str "inkform.formulas" 271) (.ref 115)) ::
(nat_lit 120,co "are_signs" "are_signs" 396 397 398 58 2 0 0 3 181 399 58 400 (.ref 117) (.bool true) (.ref 118) .none .none .none (.ref 119)) ::
(nat_lit 121,fo "are_signs" "are_signs" (top 23) (.str "inkform.formulas" 271) (.ref 120)) ::
(nat_lit 125,co "are_bands" "are_bands" 402 403 404 60 1 0 0 3 181 405 60 406 (.ref 122) (.bool true) (.ref 123) .none .none .none (.ref 124)) ::
(nat_lit 126,fo "are_bands" "are_bands" (top 24) (.str "inkform.formulas" 271) (.ref 125)) ::
(nat_lit 130,co "holds_table" "holds_table" 408 409 410 66 1 0 0 3 181 411 66 412 (.ref 127) (.bool true) (.ref 128) .none .none .none (.ref 129)) ::
(nat_lit 131,fo "holds_table" "holds_table" (top 25) (.str "inkform.formulas" 271) (.ref 130)) ::
(nat_lit 134, { cls:=.type "tuple",data:=Data.seq #[.str "f" 417] }) ::
(nat_lit 137,co "level_of" "level_of" 414 415 416 68 1 0 0 3 181 418 68 419 (.ref 132) (.bool true) (.ref 133) .none (.ref 134) (.ref 135) (.ref 136)) ::
(nat_lit 138,fo "level_of" "level_of" (top 26) (.str "inkform.formulas" 271) (.ref 137)) ::
(nat_lit 142,co "parts_of" "parts_of" 421 422 423 70 1 0 0 3 181 424 70 425 (.ref 139) (.bool true) (.ref 140) .none .none .none (.ref 141)) ::
(nat_lit 143,fo "parts_of" "parts_of" (top 27) (.str "inkform.formulas" 271) (.ref 142)) ::
(nat_lit 146, { cls:=.type "tuple",data:=Data.seq #[.str "bands" 430,.str "cells" 431,.str "band" 432] }) ::
(nat_lit 149,co "cells_of" "cells_of" 427 428 429 81 1 0 0 3 181 433 81 434 (.ref 144) (.bool true) (.ref 145) .none (.ref 146) (.ref 147) (.ref 148)) ::
(nat_lit 150,fo "cells_of" "cells_of" (top 28) (.str "inkform.formulas" 271) (.ref 149)) ::
(nat_lit 154,co "depth_of" "depth_of" 436 437 438 86 1 0 0 3 181 439 86 440 (.ref 151) (.bool true) (.ref 152) .none .none .none (.ref 153)) ::
(nat_lit 155,fo "depth_of" "depth_of" (top 29) (.str "inkform.formulas" 271) (.ref 154)) ::
(nat_lit 159,co "count_of" "count_of" 442 443 444 88 1 0 0 3 181 445 88 446 (.ref 156) (.bool true) (.ref 157) .none .none .none (.ref 158)) ::
(nat_lit 160,fo "count_of" "count_of" (top 30) (.str "inkform.formulas" 271) (.ref 159)) ::
(nat_lit 163, { cls:=.type "tuple",data:=Data.seq #[.str "f" 451,.str "n" 452,.str "kind" 453] }) ::
(nat_lit 166,co "least_level" "least_level" 448 449 450 90 2 0 0 3 181 454 90 455 (.ref 161) (.bool true) (.ref 162) .none (.ref 163) (.ref 164) (.ref 165)) ::
(nat_lit 167,fo "least_level" "least_level" (top 31) (.str "inkform.formulas" 271) (.ref 166)) ::
(nat_lit 170, { cls:=.type "tuple",data:=Data.seq #[.str "f" 460,.str "some" 461,.str "kind" 462] }) ::
(nat_lit 173,co "rebuilt" "rebuilt" 457 458 459 95 2 0 0 3 181 463 95 464 (.ref 168) (.bool true) (.ref 169) .none (.ref 170) (.ref 171) (.ref 172)) ::
(nat_lit 174,fo "rebuilt" "rebuilt" (top 32) (.str "inkform.formulas" 271) (.ref 173)) ::
(nat_lit 177, { cls:=.type "tuple",data:=Data.seq #[.str "f" 469,.str "some" 470,.str "again" 471,.str "taken" 472,.str "mark" 473] }) ::
(nat_lit 180,co "marked_again" "marked_again" 466 467 468 108 2 0 0 3 181 474 108 475 (.ref 175) (.bool true) (.ref 176) .none (.ref 177) (.ref 178) (.ref 179)) ::
(nat_lit 181,fo "marked_again" "marked_again" (top 33) (.str "inkform.formulas" 271) (.ref 180)) ::
(nat_lit 185,co "bands_again" "bands_again" 477 478 479 118 2 0 0 3 181 480 118 481 (.ref 182) (.bool true) (.ref 183) .none .none .none (.ref 184)) ::
(nat_lit 186,fo "bands_again" "bands_again" (top 34) (.str "inkform.formulas" 271) (.ref 185)) ::
(nat_lit 189, { cls:=.type "tuple",data:=Data.seq #[.str "f" 488,.str "path" 489,.str "part" 490,.str "n" 491,.str "parts" 492] }) ::
(nat_lit 192,co "part_of" "part_of" 485 486 487 122 2 0 0 3 181 493 122 494 (.ref 187) (.bool true) (.ref 188) .none (.ref 189) (.ref 190) (.ref 191)) ::
(nat_lit 193,fo "part_of" "part_of" (top 36) (.str "inkform.places" 483) (.ref 192)) ::
(nat_lit 196, { cls:=.type "tuple",data:=Data.seq #[.str "f" 501,.str "path" 502,.str "g" 503] }) ::
(nat_lit 199,co "put_in" "put_in" 498 499 500 131 3 0 0 3 181 504 131 505 (.ref 194) (.bool true) (.ref 195) .none (.ref 196) (.ref 197) (.ref 198)) ::
(nat_lit 200,fo "put_in" "put_in" (top 38) (.str "inkform.deeds" 496) (.ref 199)) ::
(nat_lit 203, { cls:=.type "tuple",data:=Data.seq #[.str "f" 510,.str "path" 511,.str "g" 512,.str "parts" 513,.str "n" 514] }) ::
(nat_lit 206,co "with_part" "with_part" 507 508 509 134 3 0 0 3 181 515 134 516 (.ref 201) (.bool true) (.ref 202) .none (.ref 203) (.ref 204) (.ref 205)) ::
(nat_lit 207,fo "with_part" "with_part" (top 39) (.str "inkform.deeds" 496) (.ref 206)) ::
(nat_lit 210, { cls:=.type "tuple",data:=Data.seq #[.str "f" 521,.str "n" 522,.str "g" 523] }) ::
(nat_lit 213,co "fitting" "fitting" 518 519 520 141 3 0 0 3 181 524 141 525 (.ref 208) (.bool true) (.ref 209) .none (.ref 210) (.ref 211) (.ref 212)) ::
(nat_lit 214,fo "fitting" "fitting" (top 40) (.str "inkform.deeds" 496) (.ref 213)) ::
(nat_lit 217, { cls:=.type "tuple",data:=Data.seq #[.str "f" 530] }) ::
(nat_lit 220,co "let_by" "let_by" 527 528 529 143 1 0 0 3 181 531 143 532 (.ref 215) (.bool true) (.ref 216) .none (.ref 217) (.ref 218) (.ref 219)) ::
(nat_lit 221,fo "let_by" "let_by" (top 41) (.str "inkform.deeds" 496) (.ref 220)) ::
(nat_lit 224, { cls:=.type "tuple",data:=Data.seq #[.str "cell" 539,.str "n" 540,.str "size" 541,.str "word" 542,.str "k" 543] }) ::
(nat_lit 227,co "_law_word" "_law_word" 536 537 538 148 1 0 0 3 181 544 148 545 (.ref 222) (.bool true) (.ref 223) .none (.ref 224) (.ref 225) (.ref 226)) ::
(nat_lit 228,fo "_law_word" "_law_word" (top 43) (.str "law_inkform_k72_put_in_anywhere" 534) (.ref 227)) ::
(nat_lit 231, { cls:=.type "tuple",data:=Data.seq #[.str "cell" 550] }) ::
(nat_lit 234,co "_law_atom" "_law_atom" 547 548 549 157 1 0 0 3 181 551 157 552 (.ref 229) (.bool true) (.ref 230) .none (.ref 231) (.ref 232) (.ref 233)) ::
(nat_lit 235,fo "_law_atom" "_law_atom" (top 44) (.str "law_inkform_k72_put_in_anywhere" 534) (.ref 234)) ::
(nat_lit 238, { cls:=.type "tuple",data:=Data.seq #[.str "one" 557,.str "levels" 558] }) ::
(nat_lit 241,co "_law_level" "_law_level" 554 555 556 161 1 0 0 3 181 559 161 560 (.ref 236) (.bool true) (.ref 237) .none (.ref 238) (.ref 239) (.ref 240)) ::
(nat_lit 242,fo "_law_level" "_law_level" (top 45) (.str "law_inkform_k72_put_in_anywhere" 534) (.ref 241)) ::
(nat_lit 245, { cls:=.type "tuple",data:=Data.seq #[.str "one" 565,.str "least" 566] }) ::
(nat_lit 248,co "_law_fit" "_law_fit" 562 563 564 164 2 0 0 3 181 567 164 568 (.ref 243) (.bool true) (.ref 244) .none (.ref 245) (.ref 246) (.ref 247)) ::
(nat_lit 249,fo "_law_fit" "_law_fit" (top 46) (.str "law_inkform_k72_put_in_anywhere" 534) (.ref 248)) ::
(nat_lit 253,co "_law_chain" "_law_chain" 570 571 572 168 3 0 0 3 181 573 168 574 (.ref 250) (.bool true) (.ref 251) .none .none .none (.ref 252)) ::
(nat_lit 254,fo "_law_chain" "_law_chain" (top 47) (.str "law_inkform_k72_put_in_anywhere" 534) (.ref 253)) ::
(nat_lit 258,co "_law_made" "_law_made" 576 577 578 178 3 0 0 3 181 579 178 580 (.ref 255) (.bool true) (.ref 256) .none .none .none (.ref 257)) ::
(nat_lit 259,fo "_law_made" "_law_made" (top 48) (.str "law_inkform_k72_put_in_anywhere" 534) (.ref 258)) ::
(nat_lit 262, { cls:=.type "tuple",data:=Data.seq #[.str "way" 585,.str "by" 586] }) ::
(nat_lit 265,co "_law_many" "_law_many" 582 583 584 196 2 0 0 3 181 587 196 588 (.ref 260) (.bool true) (.ref 261) .none (.ref 262) (.ref 263) (.ref 264)) ::
(nat_lit 266,fo "_law_many" "_law_many" (top 49) (.str "law_inkform_k72_put_in_anywhere" 534) (.ref 265)) ::
(nat_lit 270,co "_law_step" "_law_step" 590 591 592 206 2 0 0 3 181 593 206 594 (.ref 267) (.bool true) (.ref 268) .none .none .none (.ref 269)) ::
(nat_lit 271,fo "_law_step" "_law_step" (top 50) (.str "law_inkform_k72_put_in_anywhere" 534) (.ref 270)) ::
(nat_lit 275,co "_law_formula" "_law_formula" 596 597 598 219 1 0 0 3 181 599 219 600 (.ref 272) (.bool true) (.ref 273) .none .none .none (.ref 274)) ::
(nat_lit 276,fo "_law_formula" "_law_formula" (top 51) (.str "law_inkform_k72_put_in_anywhere" 534) (.ref 275)) ::
(nat_lit 280,co "_law_parts" "_law_parts" 602 603 604 230 1 0 0 3 181 605 230 606 (.ref 277) (.bool true) (.ref 278) .none .none .none (.ref 279)) ::
(nat_lit 281,fo "_law_parts" "_law_parts" (top 52) (.str "law_inkform_k72_put_in_anywhere" 534) (.ref 280)) ::
(nat_lit 284, { cls:=.type "tuple",data:=Data.seq #[.str "f" 611,.str "n" 612] }) ::
(nat_lit 287,co "_law_least" "_law_least" 608 609 610 241 2 0 0 3 181 613 241 614 (.ref 282) (.bool true) (.ref 283) .none (.ref 284) (.ref 285) (.ref 286)) ::
(nat_lit 288,fo "_law_least" "_law_least" (top 53) (.str "law_inkform_k72_put_in_anywhere" 534) (.ref 287)) ::
(nat_lit 292,co "_law_tabled" "_law_tabled" 616 617 618 247 1 0 0 3 181 619 247 620 (.ref 289) (.bool true) (.ref 290) .none .none .none (.ref 291)) ::
(nat_lit 293,fo "_law_tabled" "_law_tabled" (top 54) (.str "law_inkform_k72_put_in_anywhere" 534) (.ref 292)) ::
(nat_lit 297,co "_law_frame" "_law_frame" 622 623 624 249 1 0 0 3 181 625 249 626 (.ref 294) (.bool true) (.ref 295) .none .none .none (.ref 296)) ::
(nat_lit 298,fo "_law_frame" "_law_frame" (top 55) (.str "law_inkform_k72_put_in_anywhere" 534) (.ref 297)) ::
(nat_lit 301, { cls:=.type "tuple",data:=Data.seq #[.str "f" 631,.str "made" 632,.str "n" 633,.str "some" 634,.str "others" 635] }) ::
(nat_lit 304,co "_law_same" "_law_same" 628 629 630 258 3 0 0 3 181 636 258 637 (.ref 299) (.bool true) (.ref 300) .none (.ref 301) (.ref 302) (.ref 303)) ::
(nat_lit 305,fo "_law_same" "_law_same" (top 56) (.str "law_inkform_k72_put_in_anywhere" 534) (.ref 304)) ::
(nat_lit 308, { cls:=.type "tuple",data:=Data.seq #[.str "f" 642,.str "cells" 643,.str "path" 644,.str "tabled" 645,.str "cell" 646,.str "some" 647,.str "n" 648] }) ::
(nat_lit 311,co "_law_way" "_law_way" 639 640 641 266 2 0 0 3 181 649 266 650 (.ref 306) (.bool true) (.ref 307) .none (.ref 308) (.ref 309) (.ref 310)) ::
(nat_lit 312,fo "_law_way" "_law_way" (top 57) (.str "law_inkform_k72_put_in_anywhere" 534) (.ref 311)) ::
(nat_lit 315, { cls:=.type "tuple",data:=Data.seq #[.str "f" 655,.str "path" 656,.str "g" 657,.str "error" 658,.str "e" 659,.str "others" 660] }) ::
(nat_lit 318,co "_law_refused" "_law_refused" 652 653 654 277 3 0 0 3 181 661 277 662 (.ref 313) (.bool true) (.ref 314) .none (.ref 315) (.ref 316) (.ref 317)) ::
(nat_lit 319,fo "_law_refused" "_law_refused" (top 58) (.str "law_inkform_k72_put_in_anywhere" 534) (.ref 318)) ::
(nat_lit 322, { cls:=.type "tuple",data:=Data.seq #[.str "script" 667,.str "f" 668,.str "g" 669,.str "steps" 670,.str "path" 671,.str "tabled" 672,.str "made" 673,.str "least" 674,.str "n" 675] }) ::
(nat_lit 325,co "law" "law" 664 665 666 285 1 0 0 3 181 676 285 677 (.ref 320) (.bool true) (.ref 321) .none (.ref 322) (.ref 323) (.ref 324)) ::
(nat_lit 326,fo "law" "law" (top 59) (.str "law_inkform_k72_put_in_anywhere" 534) (.ref 325))::[]
def as:List Addr:=[0,1,2,3,4,5,6,7,8,9,10,13,15,17,20,23,24,28,30,33,36,37,40,42,45,48,49,52,54,57,60,61,64,66,69,72,73,76,77,78,81,84,85,89,90,93,96,97,101,102,105,108,109,112,115,116,120,121,125,126,130,131,134,137,138,142,143,146,149,150,154,155,159,160,163,166,167,170,173,174,177,180,181,185,186,189,192,193,196,199,200,203,206,207,210,213,214,217,220,221,224,227,228,231,234,235,238,241,242,245,248,249,253,254,258,259,262,265,266,270,271,275,276,280,281,284,287,288,292,293,297,298,301,304,305,308,311,312,315,318,319,322,325,326]
theorem Jg (P:Params):as=(K P).map (·.1):=by kernel_rfl
def Q:Program:=view PW [59]
def lo:List Str:=(PW.main.scope.names.map (·.1)).filter fun n=>n != "law"
theorem yh (w:World)(os:OsState):PySem.W.Fast.tw3607735241503979981 PW Q lo [] [] as (boot_heap (w.withFollow "special-get-raises" false).params) (w.withFollow "special-get-raises" false) (S0 (w.withFollow "special-get-raises" false) os) 100000=PySem.W.Fast.tw20032997767342111 Q lo ((K (w.withFollow "special-get-raises" false).params).map fun p=>some p.2):=by kernel_rfl
theorem AO (w:World)(os:OsState):PySem.W.Fast.tw3607735241503979981 PW Q lo [] [] as (boot_heap (w.withFollow "special-get-raises" true).params) (w.withFollow "special-get-raises" true) (S0 (w.withFollow "special-get-raises" true) os) 100000=PySem.W.Fast.tw20032997767342111 Q lo ((K (w.withFollow "special-get-raises" true).params).map fun p=>some p.2):=by kernel_rfl
theorem run (w:World) : ∀ os,all PW Q lo [] [] as (boot_heap w.params) w (S0 w os) 100000=due Q lo ((K w.params).map fun p=>some p.2):=by
  rw [PySem.W.Fast.te3607735241503979981,PySem.W.Fast.te20032997767342111]
  exact byRow2 "special-get-raises" (P:=fun w=>∀ os,PySem.W.Fast.tw3607735241503979981 PW Q lo [] [] as (boot_heap w.params) w (S0 w os) 100000=PySem.W.Fast.tw20032997767342111 Q lo ((K w.params).map fun p=>some p.2)) yh AO w
theorem left:LeftO PW Q lo (fun s=>xlAt Q [] s && recOk [] s) (obs as) (val K) 100000 :=
  Jf (by kernel_rfl) (by decide) (fun s=>by kernel_rfl) run
end HD
end
end
open PySem PySem.W PyProof.Rows
set_option maxRecDepth 100000 in
set_option maxHeartbeats 0 in
theorem PySem.Challenge.cw_inkform_k72_put_in_anywhere_holds : PySem.Challenge.rw_inkform_k72_put_in_anywhere.Holds := by
  w_on
  refine holds_law (by rw [PySem.W.Fast.te9446332074065402090]; kernel_rfl) fun said => ?_
  refine holds_openX (q := HD.Q) (loose := HD.lo) (Xt := fun s => xlAt HD.Q [] s && recOk [] s) (XP := XL HD.Q []) (Yf := HD.obs HD.as) (Ya := HD.val HD.K) (d := HD.dr (HD.top 59)) (kwd := []) (N := 100000) HD.left (fun s e => xl_of s (Bool.and_eq_true_iff.mp e).1) XL.keeps (by kernel_rfl) (by kernel_rfl) (by kernel_rfl) (fun s e => recFacts_of (Bool.and_eq_true_iff.mp e).2) (by rfl) said (by decide +kernel) ⟨rfl, rfl, rfl, rfl, rfl, by decide +kernel⟩ ?hw ?hc
  case hw => w_witness2
  case hc =>
    k_fill
    refine HD.yg HD.Jg ?_
    refine K72.walk (l := PySem.Challenge.rw_inkform_k72_put_in_anywhere) rfl (by kernel_rfl) (fun w h Y => Y) ?F
    case F =>
      intro w mg fa h KX G hmg
      refine' K72.all_mk KX G hmg ?_ ?_ ?_ ?_ ?_ ?_ ?_ ?_ ?_ ?_ ?_ ?_ ?_ ?_ ?_ ?_ ?_ ?_ ?_ ?_ ?_ ?_ ?_ ?_ ?_ ?_ ?_ ?_ ?_ ?_ ?_ ?_ ?_ ?_ ?_ ?_ ?_ ?_ ?_ ?_ ?_ ?_ ?_ ?_ ?_ ?_ ?_ ?_ ?_ ?_ ?_ ?_ ?_ ?_ ?_ ?_ ?_ ?_ ?_ ?_ ?_ ?_ ?_ ?_ ?_ ?_ ?_ ?_ ?_ ?_ ?_ ?_ ?_ ?_ ?_ ?_ ?_ ?_ ?_ ?_ ?_ ?_ ?_ ?_ ?_ ?_ ?_ ?_ ?_ ?_ ?_ ?_ ?_ ?_ ?_ ?_ ?_ ?_ ?_ ?_ ?_ ?_ ?_ ?_ ?_ ?_ ?_ ?_ ?_ ?_ ?_ ?_ ?_ ?_ ?_ ?_ ?_ ?_ ?_ ?_ ?_ ?_ ?_ ?_ ?_ ?_ ?_ ?_ ?_ ?_ ?_ ?_ ?_ ?_ ?_ ?_ ?_ ?_ ?_ ?_ ?_ ?_ ?_ ?_ ?_ ?_ ?_ ?_ ?_ ?_ ?_ ?_ ?_ ?_ ?_ ?_ ?_ ?_ ?_ ?_ ?_ ?_ ?_ ?_ ?_ ?_ ?_ ?_ ?_ ?_ ?_ ?_ ?_ ?_ ?_ ?_ ?_ ?_ ?_ ?_ ?_ ?_ ?_ ?_ ?_ ?_ ?_ ?_ ?_ ?_ ?_ ?_ ?_ ?_ ?_ ?_ ?_ ?_ ?_ ?_ ?_ ?_ ?_ ?_ ?_ ?_ ?_ ?_ ?_ ?_ ?_ ?_ ?_ ?_ ?_ ?_ ?_ ?_ ?_ ?_ ?_ ?_ ?_ ?_ ?_ ?_ ?_ ?_ ?_ ?_ ?_ ?_ ?_ ?_ ?_ ?_ ?_ ?_ ?_ ?_ ?_ ?_ ?_ ?_ ?_ ?_ ?_ ?_ ?_ ?_ ?_ ?_ ?_ ?_ ?_ ?_ ?_ ?_ ?_ ?_ ?_
      all_goals try first | k_is | kernel_rfl | decide +kernel
#print axioms PySem.Challenge.cw_inkform_k72_put_in_anywhere_holds
