import PyProof.Rows.All
import Wide.All
import OpenK.AllK
import Wide.FinOn
import Lean
import PyProof.EqAt
import PyProof.EqKinds
import PyProof.TupleCall
import PyProof.StrWalks
import PyProof.Rows.SumAny
import PyProof.ConsumeWalk
import PyProof.Rows.StrJoin2
import PyProof.StrLaws
import PyProof.StrCalls
import PyProof.Rows.StrCountLaw
import Wide.Txt
import PyProof.EnumMake
import PyProof.Rows.EnumRows
import PyProof.Rows.StrRev
import PyProof.Rows.MinMaxN
import PyProof.Rows.Range3
import PyProof.MinMaxWalk
import PyProof.Rows.CallKwBuiltin
import PyProof.AutoSeq1
import PyProof.Draws
import PyProof.ToksMono
import PyProof.StrCalls6
import PyProof.Rows.StrStrike
import PyProof.ListMulRoad
import PyProof.FactsAll.tuple_2
import OpenK.KCls
import PyProof.ZipIter
import PyProof.Rows.StrPadWhole
import PyProof.StationsW
import PyProof.RulesAs
import PyProof.NsDelKeeps
import PyProof.ExcBaseAll.ValueError
import OpenK.KOwn
import KE.KIsAll
import PyProof.ExcArgs
import PyProof.StrLawsTight
import PyProof.StrLawsChain
import PyProof.StrCalls2
import PyProof.Rows.StrItems
import PyProof.Rows.RuleDivmod
import OpenK.ZGo
import PySem.Challenge.RW_inkform_k18_rows_of_any_nest
set_option compiler.extract_closed false
noncomputable section
set_option genSizeOf false
set_option Elab.async false
set_option linter.all false
set_option maxRecDepth 100000
section
namespace L2
open PySem PySem.Spec PyProof.Rows
noncomputable abbrev Key:=Sum Int Str
noncomputable def Cf:Key→Value→Bool
 | .inl k,v=>Value.isInt k v
 | .inr x,v=>Value.isStrOf x v
noncomputable def Ii (w:World):Key→Int
 | .inl k=>hashInt k
 | .inr x=>hashStr w x
theorem dc:∀ {k:Key} {v:Value},Cf k v=true→(∃ i t,k=Sum.inl i∧v=Value.int i t)∨(∃ x t,k=Sum.inr x∧v=Value.str x t)
 | .inl i,v,h=>by
  obtain ⟨t,e⟩:=Value.isInt_shape (k:=i) (v:=v) h
  exact .inl ⟨i,t,rfl,e⟩
 | .inr x,v,h=>by
  obtain ⟨t,e⟩:=Value.isStrOf_shape (x:=x) (v:=v) h
  exact .inr ⟨x,t,rfl,e⟩
theorem D4 (a b:Int):decide ((Sum.inl a:Key)=Sum.inl b)=(a == b):=by
 by_cases e:a=b
 ·subst e; simp
 ·have h:¬ (Sum.inl a:Key)=Sum.inl b:=fun q=>e (Sum.inl.inj q)
  rw [decide_eq_false h]
  exact (beq_eq_false_iff_ne.mpr e).symm
theorem D5 (a b:Str):decide ((Sum.inr a:Key)=Sum.inr b)=decide (a=b):=by
 by_cases e:a=b
 ·subst e; simp
 ·have h:¬ (Sum.inr a:Key)=Sum.inr b:=fun q=>e (Sum.inr.inj q)
  rw [decide_eq_false h,decide_eq_false e]
theorem D6 (a:Int)(b:Str):decide ((Sum.inl a:Key)=Sum.inr b)=false:=decide_eq_false (fun q=>nomatch q)
theorem D7 (a:Str)(b:Int):decide ((Sum.inr a:Key)=Sum.inl b)=false:=decide_eq_false (fun q=>nomatch q)
noncomputable def vx (prog:Program)(w:World):PySem.KeyKind prog w Key where
 is:=Cf
 hash:=Ii w
 inj:=fun v a b ha hb=>by
  rcases dc ha with ⟨i,t,rfl,rfl⟩ | ⟨x,t,rfl,rfl⟩
  ·rcases dc hb with ⟨j,u,rfl,e⟩ | ⟨y,u,rfl,e⟩
   ·injection e with e1 _; rw [e1]
   ·exact nomatch e
  ·rcases dc hb with ⟨j,u,rfl,e⟩ | ⟨y,u,rfl,e⟩
   ·exact nomatch e
   ·injection e with e1 _; rw [e1]
 byValue:=fun k v h=>by
  rcases dc h with ⟨i,t,rfl,rfl⟩ | ⟨x,t,rfl,rfl⟩ <;> rfl
 pyHash:=fun hv h=>by
  rcases dc hv with ⟨i,t,rfl,rfl⟩ | ⟨x,t,rfl,rfl⟩
  ·exact wpAny_pyHash_int h
  ·exact wpAny_pyHash_str h
 eqBool:=fun hu hv h=>by
  rcases dc hu with ⟨i,t,rfl,rfl⟩ | ⟨x,t,rfl,rfl⟩
  ·rcases dc hv with ⟨j,u,rfl,rfl⟩ | ⟨y,u,rfl,rfl⟩
   ·rw [D4] at h; exact wpAny_eqBool_int h
   ·rw [D6] at h; exact SeqAt.EqAt.int_str i t y u _ _ _ _ h
  ·rcases dc hv with ⟨j,u,rfl,rfl⟩ | ⟨y,u,rfl,rfl⟩
   ·rw [D7] at h; exact SeqAt.EqAt.str_int x t j u _ _ _ _ h
   ·rw [D5] at h; exact wpAny_eqBool_str h
 «strs»:=fun k x t v h=>by
  rcases dc h with ⟨i,u,rfl,e⟩ | ⟨y,u,rfl,e⟩
  ·exact nomatch e
  ·injection e with e1 _
   subst e1
   cases v <;> rfl
end L2
namespace L2
open PySem PySem.Spec PyProof.Rows
inductive V where
 | non | bl (b:Bool) | int (i:Int) | str (x:Str) | byt (b:Array UInt8) | flt (b:UInt64) | ref (a:Addr) | ty (n:String)
 deriving DecidableEq
noncomputable def RelV:V→Value→Prop
 | .non,u=>u=Value.none
 | .bl b,u=>u=Value.bool b
 | .int i,u=>∃ t,u=Value.int i t
 | .str x,u=>∃ t,u=Value.str x t
 | .byt b,u=>∃ t,u=Value.bytes b t
 | .flt b,u=>∃ t,u=Value.float b t
 | .ref a,u=>u=Value.ref a
 | .ty n,u=>u=Value.type n
noncomputable abbrev Vals:List V→List Value→Prop:=Paired RelV
theorem Vals.length {xs:List V}{us:List Value}(r:Vals xs us):xs.length=us.length:=Paired.length r
theorem Vals.get:∀ {xs:List V} {us:List Value} {i:Nat} {x:V},Vals xs us→xs[i]?=some x→∃ u,us[i]?=some u∧RelV x u
 | _,_,_,_,.nil,e=>by simp at e
 | _,_,0,_,.cons r _,e=>by simp at e; subst e; exact ⟨_,rfl,r⟩
 | _,_,i+1,x,.cons _ t,e=>by
  obtain ⟨u,h1,h2⟩:=Vals.get (i:=i) (x:=x) t (by simpa using e)
  exact ⟨u,by simpa using h1,h2⟩
theorem Vals.append:∀ {xs ys:List V} {us ws:List Value},Vals xs us→Vals ys ws→Vals (xs++ys) (us++ws)
 | _,_,_,_,.nil,s=>s
 | _,_,_,_,.cons r t,s=>.cons r (Vals.append t s)
theorem Vals.take:∀ {xs:List V} {us:List Value} (n:Nat),Vals xs us→Vals (xs.take n) (us.take n)
 | _,_,0,_=>.nil
 | _,_,_+1,.nil=>.nil
 | _,_,n+1,.cons r t=>.cons r (Vals.take n t)
theorem Vals.drop:∀ {xs:List V} {us:List Value} (n:Nat),Vals xs us→Vals (xs.drop n) (us.drop n)
 | _,_,0,r=>r
 | _,_,_+1,.nil=>.nil
 | _,_,n+1,.cons _ t=>Vals.drop n t
noncomputable def pX:Option V→Option Value→Prop
 | some v,some u=>RelV v u
 | none,none=>True
 | _,_=>False
noncomputable def KV {κ:Type}:List (κ × V)→List (κ × Value)→Prop:=Paired fun (p:κ × V) (q:κ × Value)=>p.1=q.1∧RelV p.2 q.2
noncomputable def kV:Key→V
 | .inl i=>.int i
 | .inr x=>.str x
inductive HO where
  | lst (xs:List V)
  | tup (xs:List V)
  | dK (kvs:List (Key × V)) | dT (kvs:List (List Key × V))
  | set (S:Int→Bool) (n:Nat)
  | ins (C dx:Addr) (fs:List (Str × V))
  | own (x:Addr)
  | xd (fs:List (Str × V))
  | met (f x:Addr)
  | rng (lo hi:Int)
  | frz (o:Obj) (u:HO)
  | tbl (ps:Array Value)
  | ext (φ:Heap→Prop)
noncomputable abbrev Hp:=Addr→Option HO
noncomputable def upd (H:Hp)(a:Addr)(o:HO):Hp:=fun b=>if b=a then some o else H b
theorem bD {H:Hp}{a:Addr}{o:HO}:upd H a o a=some o:=by unfold upd; rw [if_pos rfl]
theorem aH {H:Hp}{a b:Addr}{o:HO}(h:b≠a):upd H a o b=H b:=by unfold upd; rw [if_neg h]
theorem dz {H:Hp}{a b:Addr}{o:HO}(h:H a=some o)(h':H b=none):a≠b:=by
 intro e; subst e; rw [h] at h'; cases h'
section
variable (P:Program)(w:World)
noncomputable def fy (H:Hp)(h:Heap)(a:Addr):HO→Prop
 | .lst xs=>xs.length≤sizeLine∧∃ (its:List Value) (n:Nat),Vals xs its∧h.get? a=some { cls:=.type "list",data:=.seq its.toArray n }
 | .tup xs=>xs.length≤sizeLine∧∃ its:List Value,Vals xs its∧IsTup h a its.toArray
 | .dK kvs=>kvs.length≤sizeLine∧(a == sysModules)=false∧∃ vs,KV kvs vs∧h.DictOf (vx P w) a vs
 | .dT kvs=>kvs.length≤sizeLine∧(a == sysModules)=false∧∃ xs:List (List Key × Addr × Value),
   Paired (fun (p:List Key × V) (q:List Key × Addr × Value)=>p.1=q.1∧H q.2.1=some (.tup (p.1.map kV))∧RelV p.2 q.2.2) kvs xs ∧
   ∃ o es ep,h.get? a=some o∧o.ExactDict∧o.data=.dict es ep∧es.toList=xs.map (entryOfKey (tupleKind (vx P w)))∧(xs.map (·.1)).Nodup
 | .set S n=>h.SetOf (intKind P w) a S n
 | .ins C dx fs=>H dx=some (.own a)∧fs.length≤1000∧dx≠a∧h.get? a=some (PySem.W.instObj C dx) ∧
   ∃ mA,h.Ns1 dx mA∧(∀ f,pX (fs.lookup f) (mA f))∧PySem.Within mA (fs.map (·.1))
 | .own _=>∃ o,h.get? a=some o
 | .xd fs=>∃ mA,h.Ns1 a mA∧∀ f,pX (fs.lookup f) (mA f)
 | .rng lo hi=>∃ t u v,h.get? a=some { cls:=.type "range",data:=.fields #[.int lo t,.int hi u,.int 1 v] }
 | .frz o u=>h.get? a=some o∧fy H h a u
 | .tbl ps=>h.get? a=some { cls:=.none,data:=.fields ps }
 | .met f x=>h.get? a=some (PySem.W.methodObj (.ref f) (.ref x))
 | .ext φ=>φ h∧(∃ o,h.get? a=some o)∧∀ h1 h2:Heap, φ h1→(∀ o,h1.get? a=some o→h2.get? a=some o)→φ h2
noncomputable def HOk (H:Hp)(h:Heap):Prop:=∀ a o,H a=some o→fy P w H h a o
end
section
variable {P:Program}{w:World}{H H':Hp}{h h':Heap}{a:Addr}{o:HO}
theorem fy.lt (x:fy P w H h a o):a<h.objs.size:=by
 cases o with
 | lst xs=>obtain ⟨_,_,_,_,e⟩:=x; exact Heap.lt_size e
 | tup xs=>obtain ⟨_,_,_,p⟩:=x; exact p.lt
 | dK kvs=>obtain ⟨_,_,_,_,o,_,_,e,_⟩:=x; exact Heap.lt_size e
 | dT kvs=>obtain ⟨_,_,_,_,o,_,_,e,_⟩:=x; exact Heap.lt_size e
 | set S n=>obtain ⟨o,_,_,_,e,_⟩:=x; exact Heap.lt_size e
 | ins C dx fs=>obtain ⟨_,_,_,e,_⟩:=x; exact Heap.lt_size e
 | own y=>obtain ⟨_,e⟩:=x; exact Heap.lt_size e
 | xd fs=>obtain ⟨_,⟨_,_,_,e,_⟩,_⟩:=x; exact Heap.lt_size e
 | rng lo hi=>obtain ⟨_,_,_,e⟩:=x; exact Heap.lt_size e
 | frz ob u=>obtain ⟨e,_⟩:=x; exact Heap.lt_size e
 | tbl ps=>exact Heap.lt_size (show h.get? a=some _ from x)
 | met f y=>exact Heap.lt_size (show h.get? a=some _ from x)
 | ext φ=>obtain ⟨_,⟨_,e⟩,_⟩:=x; exact Heap.lt_size e
theorem Paired.FH {α β:Type}{F G:α→β→Prop}:∀ {l₁:List α} {l₂:List β},Paired F l₁ l₂→(∀ a b,F a b→G a b)→Paired G l₁ l₂
 | _,_,.nil,_=>.nil
 | _,_,.cons r t,f=>.cons (f _ _ r) (Paired.FH t f)
theorem fy.oE (x:fy P w H h a o)(k:∀ b u,(b=a∨H b=some (.own a))→h.get? b=some u→h'.get? b=some u)
  (ho:∀ b,H b=some (.own a)→H' b=some (.own a)) (ht:∀ b xs,H b=some (.tup xs)→H' b=some (.tup xs)):fy P w H' h' a o:=by
 induction o with
 | lst xs=>obtain ⟨z,its,n,r,e⟩:=x; exact ⟨z,its,n,r,k _ _ (.inl rfl) e⟩
 | tup xs=>obtain ⟨z,its,r,ob,e,c⟩:=x; exact ⟨z,its,r,ob,k _ _ (.inl rfl) e,c⟩
 | dK kvs=>obtain ⟨z,y,vs,r,ob,es,ep,e,c⟩:=x; exact ⟨z,y,vs,r,ob,es,ep,k _ _ (.inl rfl) e,c⟩
 | dT kvs =>
  obtain ⟨z,y,xs,r,ob,es,ep,e,c⟩:=x
  exact ⟨z,y,xs,Paired.FH r fun p q z=>⟨z.1,ht _ _ z.2.1,z.2.2⟩,ob,es,ep,k _ _ (.inl rfl) e,c⟩
 | set S n=>obtain ⟨ob,es,ep,t,e,c⟩:=x; exact ⟨ob,es,ep,t,k _ _ (.inl rfl) e,c⟩
 | ins C dx fs =>
  obtain ⟨d,z,ne,e,mA,⟨od,es,ep,e2,c⟩,r⟩:=x
  exact ⟨ho _ d,z,ne,k _ _ (.inl rfl) e,mA,⟨od,es,ep,k _ _ (.inr d) e2,c⟩,r⟩
 | own y=>obtain ⟨ob,e⟩:=x; exact ⟨ob,k _ _ (.inl rfl) e⟩
 | xd fs=>obtain ⟨mA,⟨od,es,ep,e,c⟩,r⟩:=x; exact ⟨mA,⟨od,es,ep,k _ _ (.inl rfl) e,c⟩,r⟩
 | rng lo hi=>obtain ⟨t,u,v,e⟩:=x; exact ⟨t,u,v,k _ _ (.inl rfl) e⟩
 | frz ob u ih=>obtain ⟨e,q⟩:=x; exact ⟨k _ _ (.inl rfl) e,ih q⟩
 | tbl ps =>
  have e:h.get? a=some { cls:=.none,data:=.fields ps }:=x
  show h'.get? a=some { cls:=.none,data:=.fields ps }
  exact k a _ (.inl rfl) e
 | met f y =>
  have e:h.get? a=some (PySem.W.methodObj (.ref f) (.ref y)):=x
  show h'.get? a=some (PySem.W.methodObj (.ref f) (.ref y))
  exact k a _ (.inl rfl) e
 | ext φ=>obtain ⟨p,⟨o,e⟩,st⟩:=x; exact ⟨st _ _ p fun o q=>k _ _ (.inl rfl) q,⟨o,k _ _ (.inl rfl) e⟩,st⟩
theorem HOk.lt (x:HOk P w H h)(e:H a=some o):a<h.objs.size:=(x a o e).lt
theorem HOk.fresh (x:HOk P w H h)(e:h.objs.size≤a):H a=none:=by
 cases q:H a with
 | none=>rfl
 | some u=>exact absurd (Nat.lt_of_lt_of_le (x.lt q) e) (Nat.lt_irrefl _)
theorem HOk.kept (x:HOk P w H h)(k:∀ b u,h.get? b=some u→h'.get? b=some u):HOk P w H h':=fun a o e =>
 (x a o e).oE (fun b u _ q=>k b u q) (fun _ q=>q) fun _ _ q=>q
theorem HOk.laid (x:HOk P w H h)(k:∀ b u,h.get? b=some u→h'.get? b=some u)(hp:h.objs.size≤a)(new:fy P w (upd H a o) h' a o):HOk P w (upd H a o) h':=fun b u e=>by
 have hn:=x.fresh hp
 by_cases hb:b=a
 ·subst hb; rw [bD] at e; cases e; exact new
 ·rw [aH hb] at e
  exact (x b u e).oE (fun c v _ q=>k c v q) (fun c q=>by rw [aH (dz q hn)]; exact q) fun c xs q=>by rw [aH (dz q hn)]; exact q
end
noncomputable def Rd (H:Hp)(a:Addr)(u:HO):Prop:=H a=some u∨∃ o,H a=some (.frz o u)
theorem Rd.ok {P:Program}{w:World}{H:Hp}{h:Heap}{a:Addr}{u:HO}(r:Rd H a u)(x:HOk P w H h):fy P w H h a u:=by
 rcases r with r | ⟨o,r⟩
 ·exact x a u r
 ·obtain ⟨_,q⟩:=x a _ r
  exact q
noncomputable def Mut:Option HO→Prop
 | some (.lst _)=>True
 | some (.dK _)=>True
 | some (.dT _)=>True
 | some (.set _ _)=>True
 | some (.ins _ _ _)=>True
 | some (.ext _)=>True
 | _=>False
section
variable {P:Program}{w:World}{H:Hp}{h h':Heap}{x e:Addr}{o':HO}
theorem HOk.write (ok:HOk P w H h)(mu:Mut (H x))(he:e=x∨H e=some (.own x))(k:∀ b u,b≠e→h.get? b=some u→h'.get? b=some u)(heo:∃ u,h'.get? e=some u)
  (new:fy P w (upd H x o') h' x o'):HOk P w (upd H x o') h':=fun b u q=>by
 have nown:∀ c y,H c=some (.own y)→c≠x:=fun c y r z=>by subst z; rw [r] at mu; exact mu
 have ntup:∀ c xs,H c=some (.tup xs)→c≠x:=fun c xs r z=>by subst z; rw [r] at mu; exact mu
 by_cases hb:b=x
 ·subst hb; rw [bD] at q; cases q; exact new
 ·rw [aH hb] at q
  by_cases hbe:b=e
  ·have q':H b=some (.own x):=by
    rcases he with z | z
    ·exact absurd (hbe.trans z) hb
    ·rw [hbe]; exact z
   rw [q] at q'; cases q'
   obtain ⟨v,hv⟩:=heo
   exact ⟨v,by rw [hbe]; exact hv⟩
  ·refine (ok b u q).oE (fun c v hc r=>k c v ?_ r) (fun c r=>by rw [aH (nown c b r)]; exact r) fun c xs r=>by rw [aH (ntup c xs r)]; exact r
   rcases hc with rfl | hc
   ·exact hbe
   ·rintro rfl
    rcases he with z | z
    ·exact nown c b hc z
    ·rw [hc] at z; cases z; exact hb rfl
end
structure Un (fs ex:List Addr)(H H':Hp)(h h':Heap):Prop where
 keep:∀ b o,h.get? b=some o→H b=none→b ∉ fs→b ∉ ex→h'.get? b=some o
 slot:∀ b o,h.get? b=some o→H b=none→b∈fs→b ∉ ex→∃ sl,h'.get? b=some { o with slots:=sl }
 free:∀ b o,h.get? b=some o→H b=none→b ∉ ex→H' b=none
 there:∀ b o,h.get? b=some o→b ∉ ex→∃ o',h'.get? b=some o'
 pY:∀ b xs,H b=some (.tup xs)→H' b=some (.tup xs)
 oF:∀ b o u,H b=some (.frz o u)→H' b=some (.frz o u)
 pZ:∀ b ps,H b=some (.tbl ps)→∃ more,H' b=some (.tbl (ps++more))
section
variable {fs fs' ex ex':List Addr}{H H1 H2:Hp}{h h1 h2 h':Heap}{a x e:Addr}{o:HO}
theorem Un.any (u:Un fs ex H H1 h h1){b:Addr}{ob:Obj}(q:h.get? b=some ob)(n:H b=none)(hx:b ∉ ex):∃ sl,h1.get? b=some { ob with slots:=sl }:=by
 by_cases hb:b∈fs
 ·exact u.slot b ob q n hb hx
 ·exact ⟨ob.slots,u.keep b ob q n hb hx⟩
theorem Un.kept (k:∀ b u,h.get? b=some u→h'.get? b=some u):Un fs ex H H h h' :=
 ⟨fun b ob q _ _ _=>k b ob q,fun b ob q _ _ _=>⟨ob.slots,k b ob q⟩,fun _ _ _ n _=>n,fun b ob q _=>⟨ob,k b ob q⟩,fun _ _ q=>q,fun _ _ _ q=>q,fun _ ps q=>⟨#[],by rw [q]; simp⟩⟩
theorem Un.refl:Un fs ex H H h h:=Un.kept fun _ _ q=>q
theorem Un.laid (k:∀ b u,h.get? b=some u→h'.get? b=some u)(hp:h.objs.size≤a)(hn:H a=none):Un fs ex H (upd H a o) h h' where
 keep:=fun b u q _ _ _=>k b u q
 slot:=fun b u q _ _ _=>⟨u.slots,k b u q⟩
 free:=fun b u q n _=>by rw [aH (Nat.ne_of_lt (Nat.lt_of_lt_of_le (Heap.lt_size q) hp))]; exact n
 there:=fun b u q _=>⟨u,k b u q⟩
 pY:=fun b xs q=>by rw [aH (dz q hn)]; exact q
 oF:=fun b u xs q=>by rw [aH (dz q hn)]; exact q
 pZ:=fun b ps q=>⟨#[],by rw [aH (dz q hn),q]; simp⟩
theorem Un.write (mu:Mut (H x))(he:e=x∨H e=some (.own x))(k:∀ b u,b≠e→h.get? b=some u→h'.get? b=some u)(heo:∃ u,h'.get? e=some u):Un fs ex H (upd H x o) h h':=by
 have hx:∀ b,H b=none→b≠x:=fun b n z=>by subst z; rw [n] at mu; exact mu
 have hb:∀ b,H b=none→b≠e:=fun b n z=>by
  subst z
  rcases he with r | r
  ·exact hx b n r
  ·rw [n] at r; cases r
 have hm:∀ b u,H b=some u→¬ Mut (some u)→b≠x:=fun b u q nm z=>by subst z; rw [q] at mu; exact nm mu
 refine ⟨fun b u q n _ _=>k b u (hb b n) q,fun b u q n _ _=>⟨u.slots,k b u (hb b n) q⟩,fun b u q n _=>by rw [aH (hx b n)]; exact n,fun b u q _=>?_,
  fun b xs q=>by rw [aH (hm b _ q fun z=>z)]; exact q,fun b u xs q=>by rw [aH (hm b _ q fun z=>z)]; exact q,fun b ps q=>⟨#[],by rw [aH (hm b _ q fun z=>z),q]; simp⟩⟩
 by_cases hbe:b=e
 ·subst hbe; exact heo
 ·exact ⟨u,k b u hbe q⟩
end
noncomputable def trk (h:Heap)(H:Hp):List Addr:=(List.range h.objs.size).filter fun a=>(H a).isSome
noncomputable def r6 (h:Heap)(H:Hp):Heap:=PySem.W.hideAll h (trk h H)
theorem wK (h:Heap)(H:Hp):(r6 h H).objs.size=h.objs.size:=PySem.W.hideAll_size _ _
theorem xY {h:Heap}{H:Hp}{b:Addr}{o:Obj}(e:h.get? b=some o)(n:H b=none):(r6 h H).get? b=some o :=
 PySem.W.hideAll_get _ e fun hm=>by
  have q:(H b).isSome=true:=(List.mem_filter.mp hm).2
  rw [n] at q; simp at q
theorem Ac {h:Heap}{H:Hp}{b:Addr}{o:Obj}(e:(r6 h H).get? b=some o):h.get? b=some o∧H b=none:=by
 have e':h.get? b=some o:=PySem.W.of_hideAll (trk h H) e
 refine ⟨e', ?_⟩
 cases q:H b with
 | none=>rfl
 | some x =>
  have hm:b∈trk h H:=List.mem_filter.mpr ⟨List.mem_range.mpr (Heap.lt_size e'),by simp [q]⟩
  have z:(r6 h H).get? b=none:=PySem.W.hideAll_none (trk h H) hm
  rw [z] at e; cases e
end L2
namespace L2
open PySem PySem.Spec PyProof.Rows
structure Mod (K:PySem.W.Frag)(mg:Str→Option Value)(base:Heap):Prop where
 kin:K.In base
 glob:base.Ns mainGlobals mg
 blt:∃ mb,base.Ns builtinsNs mb∧∀ x:Str,x≠"__name__"→mb x=bootBuiltins x
 nolimit:base.NoLimit
structure Cx where
 prog:Program
 w:World
 K:PySem.W.Frag
 mg:Str→Option Value
 base:Heap
 A:Around
 N:List Str
 s₀:Shared
 H₀:Hp
 env:Env
 outer:List Env
 stack:List Env
 ex:List Addr
 fn:Str→Bool
 calm:Bool
 pn:List (Addr × Obj)
 xe:Value→Shared→Prop
noncomputable def frs (l:List Env):List Addr:=l.filterMap (·.frame)
noncomputable abbrev Cx.fs (X:Cx):List Addr:=frs X.outer
noncomputable def Vis (sc:Scope)(x:Str):Prop:=sc.names.lookup x=some .local∨sc.names.lookup x=some .cell∨sc.names.lookup x=some .free
noncomputable def Loc (sc:Scope)(x:Str):Prop:=sc.names.lookup x=some .local∨sc.names.lookup x=some .cell
noncomputable def Look (env:Env)(h:Heap)(m:Str→Option Value)(x:Str)(u:Value):Prop :=
 (env.kindOf x=some .local∧m x=some u)∨((env.kindOf x=some .cell∨env.kindOf x=some .free)∧∃ c,env.cells.lookup x=some c∧h.IsCell c (some u))
structure Cx.Ok (X:Cx):Prop where
 mod:Mod X.K X.mg X.base
 kind:X.env.scope.kind=.function
 glob:X.env.globals=mainGlobals
 blt:X.env.builtins=builtinsNs
 above:X.s₀.heap.objs.size≤X.env.locals
 inj:∀ x y c,X.env.cells.lookup x=some c→X.env.cells.lookup y=some c→x=y
 has:∀ x,(X.env.kindOf x=some .cell∨X.env.kindOf x=some .free)→∃ c,X.env.cells.lookup x=some c
 cab:∀ x c,X.fn x=true→X.env.cells.lookup x=some c→X.s₀.heap.objs.size≤c
 hd:X.calm=true→X.A.handled=none
 frames:X.A.frames=some X.stack
 stk:X.stack=X.outer∨(X.stack=X.env::X.outer∧X.env.frame=some X.env.locals)
 exf:∀ b∈X.ex,b≠X.env.locals∧∀ x c,X.env.cells.lookup x=some c→c≠b
 bs:∀ b o,X.base.get? b=some o→X.s₀.heap.get? b=some o∧X.H₀ b=none
 bsz:X.base.objs.size≤X.s₀.heap.objs.size
 wL:∀ b o,X.base.get? b=some o→b ∉ X.ex
 wM:∀ b∈X.ex,b ∉ X.fs
 nT:X.s₀.heap.FunFrames X.base X.outer
 frf:∀ b∈X.fs,X.H₀ b=none
structure Inv (X:Cx)(pins:List (Addr × Obj))(σ:List (Option V))(H:Hp)(s:Shared):Prop where
 ok:X.Ok
 os:s.os=X.s₀.os
 bare:AllBare s.gens
 base:Un X.fs X.ex X.H₀ H X.s₀.heap s.heap
 loc:∃ m,s.heap.Ns X.env.locals m∧∀ (i:Nat) (x:Str) (v:V),X.N[i]?=some x→σ[i]?=some (some v)→Vis X.env.scope x→∃ u,RelV v u∧Look X.env s.heap m x u
 cell:∀ x c,X.env.cells.lookup x=some c→∃ v,s.heap.IsCell c v
 free:H X.env.locals=none
 jq:∀ x c,X.env.cells.lookup x=some c→H c=none
 pin:∀ p∈X.pn++pins,s.heap.get? p.1=some p.2∧H p.1=none∧p.1≠X.env.locals∧p.1 ∉ X.fs∧∀ v,p.2.data≠.cell v
 hok:HOk X.prog X.w H s.heap
 len:σ.length=X.N.length
section
variable {X:Cx}{pins:List (Addr × Obj)}{σ:List (Option V)}{H H':Hp}{s:Shared}{h':Heap}
theorem Cx.Ok.Ij (ok:X.Ok){b:Addr}{o:Obj}(e:X.base.get? b=some o):b ∉ X.fs:=fun hb=>by
 have:=(ok.nT.mem hb).1
 rw [e] at this; cases this
theorem Inv.bs (I:Inv X pins σ H s):∀ b o,X.base.get? b=some o→s.heap.get? b=some o∧H b=none:=fun b o e =>
 ⟨I.base.keep b o (I.ok.bs b o e).1 (I.ok.bs b o e).2 (I.ok.Ij e) (I.ok.wL b o e),I.base.free b o (I.ok.bs b o e).1 (I.ok.bs b o e).2 (I.ok.wL b o e)⟩
theorem Inv.bk (I:Inv X pins σ H s):∀ b o,X.base.get? b=some o→s.heap.get? b=some o:=fun b o e=>(I.bs b o e).1
theorem Inv.mod (I:Inv X pins σ H s):Mod X.K X.mg X.base:=I.ok.mod
theorem Inv.kIn (I:Inv X pins σ H s):X.K.In s.heap:=I.ok.mod.kin.keeps I.bk
theorem Inv.lt (I:Inv X pins σ H s):X.env.locals<s.heap.objs.size:=let ⟨_,hn,_⟩:=I.loc; hn.lt
theorem Inv.sz (I:Inv X pins σ H s):X.s₀.heap.objs.size≤s.heap.objs.size:=Nat.le_trans I.ok.above (Nat.le_of_lt I.lt)
theorem Inv.D8 (I:Inv X pins σ H s){a:Addr}(h:s.heap.objs.size≤a):a ∉ X.fs:=fun hb=>by
 obtain ⟨_,o,ho,_⟩:=I.ok.nT.mem hb
 exact absurd (Nat.lt_of_lt_of_le (Heap.lt_size ho) (Nat.le_trans I.sz h)) (Nat.lt_irrefl _)
theorem Inv.cne (I:Inv X pins σ H s):∀ x c,X.env.cells.lookup x=some c→c≠X.env.locals:=fun x c e z=>by
 obtain ⟨v,o,ho,hd⟩:=I.cell x c e
 obtain ⟨m,⟨o',es,ep,ho',hd',_⟩,_⟩:=I.loc
 rw [z,ho'] at ho; cases ho; rw [hd'] at hd; cases hd
theorem Inv.nT (I:Inv X pins σ H s):s.heap.FunFrames X.base X.outer:=by
 have all:∀ (l:List Env),(∀ b∈frs l,b∈X.fs)→X.s₀.heap.FunFrames X.base l→s.heap.FunFrames X.base l:=by
  intro l
  induction l with
  | nil=>intro _ _; trivial
  | cons env r ih =>
   intro hs hl
   obtain ⟨hk,⟨L,o,hf,hn,ho,hd⟩,hr⟩:=hl
   have hL:L∈X.fs:=hs L (by unfold frs; rw [List.filterMap_cons,hf]; exact List.mem_cons_self)
   obtain ⟨sl,e⟩:=I.base.slot L o ho (I.ok.frf L hL) hL fun z=>I.ok.wM L z hL
   exact ⟨hk,⟨L,_,hf,hn,e,hd⟩,ih (fun b hb=>hs b (by unfold frs; rw [List.filterMap_cons,hf]; exact List.mem_cons_of_mem _ hb)) hr⟩
 exact all X.outer (fun _ hb=>hb) I.ok.nT
theorem Inv.stack (I:Inv X pins σ H s):s.heap.FunFrames X.base X.stack:=by
 rcases I.ok.stk with e | ⟨e,hf⟩
 ·rw [e]; exact I.nT
 ·rw [e]
  obtain ⟨m,hn,_⟩:=I.loc
  refine .cons (by rw [I.ok.kind]; decide) hf hn ?_ I.nT
  exact Heap.get?_none_of_le (Nat.le_trans I.ok.bsz I.ok.above)
theorem Inv.mO (I:Inv X pins σ H s):∀ b∈frs X.stack,b∈X.env.locals::X.fs:=fun b hb=>by
 rcases I.ok.stk with e | ⟨e,hf⟩
 ·rw [e] at hb; exact List.mem_cons_of_mem _ hb
 ·rw [e] at hb
  unfold frs at hb
  rw [List.filterMap_cons,hf] at hb
  exact hb
theorem Inv.r9 (I:Inv X pins σ H s):∀ b∈frs X.stack,H b=none:=fun b hb=>by
 rcases List.mem_cons.mp (I.mO b hb) with e | hb
 ·rw [e]; exact I.free
 ·obtain ⟨_,o,ho,_⟩:=I.ok.nT.mem hb
  exact I.base.free b o ho (I.ok.frf b hb) fun z=>I.ok.wM b z hb
theorem Inv.step {g':Array GenState}{t':Nat}{d':Drawn}{ch:List Addr}(I:Inv X pins σ H s)
  (hch:∀ b∈ch,(b∈X.ex∨X.s₀.heap.objs.size≤b)∧b≠X.env.locals∧(∀ x c,X.env.cells.lookup x=some c→c≠b)∧∀ p∈X.pn++pins,p.1≠b)
  (keep:∀ b o,b≠X.env.locals→b ∉ X.fs→b ∉ ch→s.heap.get? b=some o→H b=none→h'.get? b=some o)
  (slot:∀ b o,b≠X.env.locals→b∈X.fs→b ∉ ch→s.heap.get? b=some o→H b=none→∃ sl,h'.get? b=some { o with slots:=sl }) (free:∀ b o,b ∉ ch→s.heap.get? b=some o→H b=none→H' b=none)
  (there:∀ b o,b ∉ ch→s.heap.get? b=some o→∃ o',h'.get? b=some o')
  (pY:∀ b xs,H b=some (.tup xs)→H' b=some (.tup xs)) (oF:∀ b o u,H b=some (.frz o u)→H' b=some (.frz o u)) (pZ:∀ b ps,H b=some (.tbl ps)→∃ more,H' b=some (.tbl (ps++more)))
  (ns:∀ m,s.heap.Ns X.env.locals m→h'.Ns X.env.locals m) (hok:HOk X.prog X.w H' h') (hg:AllBare g') :
  Inv X pins σ H' { s with heap:=h',gens:=g',drawn:=d',toks:=t' }:=by
 have neL:∀ b o,X.s₀.heap.get? b=some o→b≠X.env.locals:=fun b o e=>Nat.ne_of_lt (Nat.lt_of_lt_of_le (Heap.lt_size e) I.ok.above)
 have neC:∀ b o,X.s₀.heap.get? b=some o→b ∉ X.ex→b ∉ ch:=fun b o e hx hb=>by
  rcases (hch b hb).1 with z | z
  ·exact hx z
  ·exact absurd (Nat.lt_of_lt_of_le (Heap.lt_size e) z) (Nat.lt_irrefl _)
 have cellK:∀ x c,X.env.cells.lookup x=some c→∀ v,s.heap.IsCell c v→h'.IsCell c v:=fun x c e v ⟨o,ho,hd⟩=>by
  have nch:c ∉ ch:=fun z=>(hch c z).2.2.1 x c e rfl
  by_cases hc:c∈X.fs
  ·obtain ⟨sl,q⟩:=slot c o (I.cne x c e) hc nch ho (I.jq x c e)
   exact ⟨_,q,hd⟩
  ·exact ⟨o,keep c o (I.cne x c e) hc nch ho (I.jq x c e),hd⟩
 refine ⟨I.ok,I.os,hg,⟨fun b o e n hb hx=>?_,fun b o e n hb hx=>?_,fun b o e n hx=>?_,fun b o e hx=>?_,fun b xs e=>pY b xs (I.base.pY b xs e),fun b o xs e=>oF b o xs (I.base.oF b o xs e),fun b ps e=>?_⟩, ?_,fun x c e=>?_, ?_,fun x c e=>?_,fun p hp=>?_,hok,I.len⟩
 ·exact keep b o (neL b o e) hb (neC b o e hx) (I.base.keep b o e n hb hx) (I.base.free b o e n hx)
 ·obtain ⟨sl,e1⟩:=I.base.slot b o e n hb hx
  obtain ⟨sl',e2⟩:=slot b _ (neL b o e) hb (neC b o e hx) e1 (I.base.free b o e n hx)
  exact ⟨sl',e2⟩
 ·obtain ⟨o',e1⟩:=I.base.there b o e hx
  exact free b o' (neC b o e hx) e1 (I.base.free b o e n hx)
 ·obtain ⟨o',e1⟩:=I.base.there b o e hx
  exact there b o' (neC b o e hx) e1
 ·obtain ⟨m1,e1⟩:=I.base.pZ b ps e
  obtain ⟨m2,e2⟩:=pZ b _ e1
  exact ⟨m1++m2,by rw [e2,Array.append_assoc]⟩
 ·obtain ⟨m,hn,hl⟩:=I.loc
  refine ⟨m,ns m hn,fun i x v e1 e2 e3=>?_⟩
  obtain ⟨u,r,l⟩:=hl i x v e1 e2 e3
  refine ⟨u,r, ?_⟩
  rcases l with l | ⟨k,c,e,z⟩
  ·exact .inl l
  ·exact .inr ⟨k,c,e,cellK x c e _ z⟩
 ·obtain ⟨v,z⟩:=I.cell x c e
  exact ⟨v,cellK x c e v z⟩
 ·obtain ⟨m,⟨o,_,_,ho,_⟩,_⟩:=I.loc
  exact free _ o (fun z=>(hch _ z).2.1 rfl) ho I.free
 ·obtain ⟨v,o,ho,hd⟩:=I.cell x c e
  exact free c o (fun z=>(hch c z).2.2.1 x c e rfl) ho (I.jq x c e)
 ·obtain ⟨e,n,ne,nf,d⟩:=I.pin p hp
  have nch:p.1 ∉ ch:=fun z=>(hch p.1 z).2.2.2 p hp rfl
  exact ⟨keep p.1 p.2 ne nf nch e n,free p.1 p.2 nch e n,ne,nf,d⟩
theorem Inv.un {t':Nat}(I:Inv X pins σ H s)(u:Un X.fs [] H H' s.heap h')(hok:HOk X.prog X.w H' h'):Inv X pins σ H' { s with heap:=h',toks:=t' }:=by
 obtain ⟨m,⟨o,es,ep,ho,r⟩,_⟩:=id I.loc
 obtain ⟨sl,hL⟩:=u.any ho I.free (by simp)
 exact I.step (g':=s.gens) (d':=s.drawn) (ch:=[]) (fun _ z=>nomatch z) (fun b o _ hb _ e n=>u.keep b o e n hb (by simp)) (fun b o _ hb _ e n=>u.slot b o e n hb (by simp)) (fun b o _ e n=>u.free b o e n (by simp)) (fun b o _ e=>u.there b o e (by simp)) u.pY u.oF u.pZ (fun m' hm=>by
  obtain ⟨o',es',ep',ho',r'⟩:=hm
  rw [ho] at ho'; cases ho'
  exact ⟨_,es',ep',hL,r'⟩) hok I.bare
theorem Inv.call {g':Array GenState}{t':Nat}{d':Drawn}{ch:List Addr}(I:Inv X pins σ H s)(u:Un (frs X.stack) ch H H' s.heap h')(hok:HOk X.prog X.w H' h')(hg:AllBare g')
  (hch:∀ b∈ch,(b∈X.ex∨X.s₀.heap.objs.size≤b)∧b≠X.env.locals∧(∀ x c,X.env.cells.lookup x=some c→c≠b)∧∀ p∈X.pn++pins,p.1≠b) :
  Inv X pins σ H' { s with heap:=h',gens:=g',drawn:=d',toks:=t' }:=by
 obtain ⟨m,⟨o,es,ep,ho,r⟩,_⟩:=id I.loc
 obtain ⟨sl,hL⟩:=u.any ho I.free fun z=>(hch _ z).2.1 rfl
 exact I.step (ch:=ch) hch (fun b o hL hb hc e n=>u.keep b o e n (fun z=>(List.mem_cons.mp (I.mO b z)).elim hL hb) hc) (fun b o _ _ hc e n=>u.any e n hc) (fun b o hc e n=>u.free b o e n hc) (fun b o hc e=>u.there b o e hc) u.pY u.oF u.pZ (fun m' hm=>by
  obtain ⟨o',es',ep',ho',r'⟩:=hm
  rw [ho] at ho'; cases ho'
  exact ⟨_,es',ep',hL,r'⟩) hok hg
theorem Inv.turned {t':Nat}{it:Addr}(I:Inv X pins σ H s)(k:∀ b o,b≠it→s.heap.get? b=some o→h'.get? b=some o)(hn:H it=none)(hL:it≠X.env.locals)
  (h1:it∈X.ex∨X.s₀.heap.objs.size≤it) (h2:∀ x c,X.env.cells.lookup x=some c→c≠it) (h3:∀ p∈X.pn++pins,p.1≠it):Inv X pins σ H { s with heap:=h',toks:=t' }:=by
 have nit:∀ b u,H b=some u→b≠it:=fun b u e z=>by rw [z,hn] at e; cases e
 refine I.step (g':=s.gens) (d':=s.drawn) (ch:=[it]) (fun b hb=>?_) (fun b o _ _ hc e _=>k b o (fun z=>hc (by simp [z])) e) (fun b o _ _ hc e _=>⟨o.slots,k b o (fun z=>hc (by simp [z])) e⟩) (fun _ _ _ _ n=>n)
  (fun b o hc e=>⟨o,k b o (fun z=>hc (by simp [z])) e⟩) (fun _ _ e=>e) (fun _ _ _ e=>e) (fun b ps e=>⟨#[],by rw [e]; simp⟩) (fun m hm=>?_) (fun b u e=>?_) I.bare
 ·have e:b=it:=by simpa using hb
  subst e
  exact ⟨h1,hL,h2,h3⟩
 ·obtain ⟨o,es,ep,ho,r⟩:=hm
  exact ⟨o,es,ep,k _ o (Ne.symm hL) ho,r⟩
 ·refine (I.hok b u e).oE (fun c v hc q=>k c v ?_ q) (fun _ q=>q) fun _ _ q=>q
  rcases hc with z | z
  ·rw [z]; exact nit b u e
  ·exact nit c _ z
theorem Inv.tok (I:Inv X pins σ H s)(t:Nat):Inv X pins σ H { s with toks:=t }:=I.un (h':=s.heap) (t':=t) Un.refl I.hok
theorem Inv.kept {t':Nat}(I:Inv X pins σ H s)(k:∀ b u,s.heap.get? b=some u→h'.get? b=some u):Inv X pins σ H { s with heap:=h',toks:=t' }:=I.un (Un.kept k) (I.hok.kept k)
theorem Inv.laid {a:Addr}{o:HO}{t':Nat}(I:Inv X pins σ H s)(k:∀ b u,s.heap.get? b=some u→h'.get? b=some u)(hp:s.heap.objs.size≤a)(new:fy X.prog X.w (upd H a o) h' a o) :
  Inv X pins σ (upd H a o) { s with heap:=h',toks:=t' }:=I.un (Un.laid k hp (I.hok.fresh hp)) (I.hok.laid k hp new)
theorem Inv.write {x e:Addr}{o:HO}{t':Nat}(I:Inv X pins σ H s)(mu:Mut (H x))(he:e=x∨H e=some (.own x))(k:∀ b u,b≠e→s.heap.get? b=some u→h'.get? b=some u)(heo:∃ u,h'.get? e=some u)
  (new:fy X.prog X.w (upd H x o) h' x o):Inv X pins σ (upd H x o) { s with heap:=h',toks:=t' }:=I.un (Un.write mu he k heo) (I.hok.write mu he k heo new)
theorem Inv.weak {σ':List (Option V)}(I:Inv X pins σ H s)(hl:σ'.length=σ.length)(w:∀ (i:Nat) v, σ'[i]?=some (some v)→σ[i]?=some (some v)):Inv X pins σ' H s :=
 ⟨I.ok,I.os,I.bare,I.base,let ⟨m,hn,hl'⟩:=I.loc; ⟨m,hn,fun i x v e1 e2 e3=>hl' i x v e1 (w i v e2) e3⟩,I.cell,I.free,I.jq,I.pin,I.hok,hl.trans I.len⟩
theorem Inv.ka {pins':List (Addr × Obj)}(I:Inv X pins σ H s)(h:∀ p∈pins',s.heap.get? p.1=some p.2∧H p.1=none∧p.1≠X.env.locals∧p.1 ∉ X.fs∧∀ v,p.2.data≠.cell v):Inv X pins' σ H s :=
 ⟨I.ok,I.os,I.bare,I.base,I.loc,I.cell,I.free,I.jq,fun p hp=>(List.mem_append.mp hp).elim (fun z=>I.pin p (List.mem_append_left _ z)) (h p),I.hok,I.len⟩
theorem sG {N:List Str}(hN:N.Nodup){i j:Nat}{x:Str}(a:N[i]?=some x)(b:N[j]?=some x):i=j:=by
 obtain ⟨h1,e1⟩:=List.getElem?_eq_some_iff.mp a
 obtain ⟨h2,e2⟩:=List.getElem?_eq_some_iff.mp b
 exact (List.getElem_inj hN).mp (e1.trans e2.symm)
theorem qu {M:Model}{A:Around}{E:Value→Shared→Prop}{i:Nat}{x:Str}{v:V}{u:Value}{Q:Unit→Shared→Prop}(I:Inv X pins σ H s)(hN:X.N.Nodup)(hi:X.N[i]?=some x)(hx:Loc X.env.scope x)(r:RelV v u)
  (h:∀ s',Inv X pins (σ.set i (some v)) H s'→(∃ a,Heap.SameBut a s.heap s'.heap∧(a=X.env.locals∨X.env.cells.lookup x=some a))→Q () s') (hf:X.fn x=true∨X.env.scope.names.lookup x=some .local:=by first | exact .inl rfl | exact .inr rfl | assumption):wpAny M A (storeName X.env x u) Q E s:=by
 obtain ⟨m,hn,hl⟩:=id I.loc
 have hcls:(X.env.scope.kind == .class || (X.env.scope.kind == .module && X.env.locals != X.env.globals))=false:=by rw [I.ok.kind]; rfl
 have hiσ:i < σ.length:=by rw [I.len]; exact (List.getElem?_eq_some_iff.mp hi).1
 have cne:=I.cne
 have tracked:∀ {a:Addr} {h':Heap},(∃ o,s.heap.get? a=some o∧H a=none)→Heap.SameBut a s.heap h'→HOk X.prog X.w H h':=fun {a h'} ha hs b ob e=>by
  obtain ⟨_,_,hfree⟩:=ha
  refine (I.hok b ob e).oE (fun c w' hc q=>(hs.2 c ?_).trans q) (fun _ q=>q) fun _ _ q=>q
  rintro rfl
  rcases hc with rfl | hc
  ·rw [hfree] at e; cases e
  ·rw [hfree] at hc; cases hc
 rcases hx with hk | hk
 ·refine wpAny_storeName_local hk hn (fun h' hn' hs=>?_) hcls
  obtain ⟨oL,_,_,hoL,_⟩:=id hn
  refine h _ ⟨I.ok,I.os,I.bare,⟨fun b o e n hb hx=>?_,fun b o e n hb hx=>?_,I.base.free,fun b o e hx=>?_,I.base.pY,I.base.oF,I.base.pZ⟩,⟨_,hn',fun j y v' e1 e2 e3=>?_⟩,fun y c e=>?_,I.free,I.jq,fun p hp=>?_,tracked ⟨oL,hoL,I.free⟩ hs,by simpa using I.len⟩ ⟨_,hs,.inl rfl⟩
  ·exact (hs.2 b (Nat.ne_of_lt (Nat.lt_of_lt_of_le (Heap.lt_size e) I.ok.above))).trans (I.base.keep b o e n hb hx)
  ·obtain ⟨sl,e1⟩:=I.base.slot b o e n hb hx
   exact ⟨sl,(hs.2 b (Nat.ne_of_lt (Nat.lt_of_lt_of_le (Heap.lt_size e) I.ok.above))).trans e1⟩
  ·obtain ⟨o',e1⟩:=I.base.there b o e hx
   exact ⟨o',(hs.2 b (Nat.ne_of_lt (Nat.lt_of_lt_of_le (Heap.lt_size e) I.ok.above))).trans e1⟩
  ·by_cases hj:j=i
   ·subst hj
    rw [hi] at e1; cases e1
    rw [List.getElem?_set_self hiσ] at e2
    cases e2
    exact ⟨u,r,.inl ⟨hk,by simp⟩⟩
   ·rw [List.getElem?_set_ne (Ne.symm hj)] at e2
    obtain ⟨u',r',q⟩:=hl j y v' e1 e2 e3
    refine ⟨u',r', ?_⟩
    rcases q with ⟨k,e⟩ | ⟨k,c,e,z⟩
    ·refine .inl ⟨k, ?_⟩
     have:y≠x:=fun e=>hj (sG hN e1 (e ▸ hi))
     simp [this,e]
    ·exact .inr ⟨k,c,e,z.sameBut hs (cne y c e)⟩
  ·obtain ⟨w',z⟩:=I.cell y c e
   exact ⟨w',z.sameBut hs (cne y c e)⟩
  ·obtain ⟨e,n,ne,nf,d⟩:=I.pin p hp
   exact ⟨(hs.2 p.1 ne).trans e,n,ne,nf,d⟩
 ·have hfn:X.fn x=true:=by
   rcases hf with z | z
   ·exact z
   ·rw [z] at hk; cases hk
  obtain ⟨c,hc⟩:=I.ok.has x (.inl hk)
  obtain ⟨w',z⟩:=I.cell x c hc
  refine wpAny_storeName_cell I.ok.kind hk hc z (fun h' hc' hs=>?_)
  obtain ⟨oc,hoc,hocd⟩:=id z
  refine h { s with heap:=h' } ⟨I.ok,I.os,I.bare,⟨fun b o e n hb hx=>?_,fun b o e n hb hx=>?_,I.base.free,fun b o e hx=>?_,I.base.pY,I.base.oF,I.base.pZ⟩,⟨m,hn.sameBut hs (Ne.symm (cne x c hc)),fun j y v' e1 e2 e3=>?_⟩,fun y c' e=>?_,I.free,I.jq,fun p hp=>?_,tracked ⟨oc,hoc,I.jq x c hc⟩ hs,by simpa using I.len⟩ ⟨c,hs,.inr hc⟩
  ·exact (hs.2 b (Nat.ne_of_lt (Nat.lt_of_lt_of_le (Heap.lt_size e) (I.ok.cab x c hfn hc)))).trans (I.base.keep b o e n hb hx)
  ·obtain ⟨sl,e1⟩:=I.base.slot b o e n hb hx
   exact ⟨sl,(hs.2 b (Nat.ne_of_lt (Nat.lt_of_lt_of_le (Heap.lt_size e) (I.ok.cab x c hfn hc)))).trans e1⟩
  ·obtain ⟨o',e1⟩:=I.base.there b o e hx
   exact ⟨o',(hs.2 b (Nat.ne_of_lt (Nat.lt_of_lt_of_le (Heap.lt_size e) (I.ok.cab x c hfn hc)))).trans e1⟩
  ·by_cases hj:j=i
   ·subst hj
    rw [hi] at e1; cases e1
    rw [List.getElem?_set_self hiσ] at e2
    cases e2
    exact ⟨u,r,.inr ⟨.inl hk,c,hc,hc'⟩⟩
   ·rw [List.getElem?_set_ne (Ne.symm hj)] at e2
    obtain ⟨u',r',q⟩:=hl j y v' e1 e2 e3
    refine ⟨u',r', ?_⟩
    rcases q with q | ⟨k,c',e,z'⟩
    ·exact .inl q
    ·refine .inr ⟨k,c',e,z'.sameBut hs ?_⟩
     rintro rfl
     exact hj (sG hN e1 (I.ok.inj _ _ _ e hc ▸ hi))
  ·by_cases hcc:c'=c
   ·subst hcc; exact ⟨_,hc'⟩
   ·obtain ⟨w2,z2⟩:=I.cell y c' e
    exact ⟨w2,z2.sameBut hs hcc⟩
  ·obtain ⟨e,n,ne,nf,d⟩:=I.pin p hp
   refine ⟨(hs.2 p.1 ?_).trans e,n,ne,nf,d⟩
   intro q
   rw [q,hoc] at e
   have q':oc=p.2:=Option.some.inj e
   exact d w' (by rw [← q']; exact hocd)
theorem oG {M:Model}{A:Around}{E:Value→Shared→Prop}{i:Nat}{x:Str}{v:V}{u:Value}{Q:Unit→Shared→Prop}(I:Inv X pins σ H s)(hN:X.N.Nodup)(hi:X.N[i]?=some x)(hx:Loc X.env.scope x)(r:RelV v u)
  (h:∀ s',Inv X pins (σ.set i (some v)) H s'→Q () s') (hf:X.fn x=true∨X.env.scope.names.lookup x=some .local:=by first | exact .inl rfl | exact .inr rfl | assumption):wpAny M A (storeName X.env x u) Q E s :=
 qu I hN hi hx r (fun s' I' _=>h s' I') hf
theorem Inv.xZ {s':Shared}{ch:List Addr}(I:Inv X pins σ H s)(ho:s'.os=s.os)(u:Un (frs X.stack) ch H H' s.heap s'.heap)(hok:HOk X.prog X.w H' s'.heap)(hg:AllBare s'.gens)
  (hch:∀ b∈ch,(b∈X.ex∨X.s₀.heap.objs.size≤b)∧b≠X.env.locals∧(∀ x c,X.env.cells.lookup x=some c→c≠b)∧∀ p∈X.pn++pins,p.1≠b):Inv X pins σ H' s':=by
 obtain ⟨h',g',d',t',o'⟩:=s'
 have e:o'=s.os:=ho
 subst e
 exact I.call (g':=g') (t':=t') (d':=d') u hok hg hch
end
noncomputable abbrev XK:=Value→Option Addr→Hp→Prop
noncomputable abbrev St:=List (Option V)
noncomputable abbrev VK:=V→Hp→Prop
noncomputable abbrev TE:=St→Hp→VK→Prop
noncomputable abbrev TT:=St→Hp→(Bool→Hp→Prop)→Prop
noncomputable abbrev TA:=St→Hp→(List V→Hp→Prop)→Prop
structure Ends where
 nx:St→Hp→Prop
 rt:VK
 bk:St→Hp→Prop:=fun _ _=>False
 ct:St→Hp→Prop:=fun _ _=>False
noncomputable abbrev TS:=Ends→St→Hp→Prop
noncomputable def EP (X:Cx)(pins:List (Addr × Obj))(σ:St)(Q:VK)(u:Value)(s':Shared):Prop:=∃ v H',Inv X pins σ H' s'∧RelV v u∧Q v H'
noncomputable def TP (X:Cx)(pins:List (Addr × Obj))(σ:St)(Q:Bool→Hp→Prop)(b:Bool)(s':Shared):Prop:=∃ H',Inv X pins σ H' s'∧Q b H'
noncomputable def AP (X:Cx)(pins:List (Addr × Obj))(σ:St)(Q:List V→Hp→Prop)(us:List Value)(s':Shared):Prop:=∃ vs H',Inv X pins σ H' s'∧Vals vs us∧Q vs H'
noncomputable def SP (X:Cx)(pins:List (Addr × Obj))(D:Ends)(f:Flow)(s':Shared):Prop :=
 match f with
 | .next=>∃ σ' H',Inv X pins σ' H' s'∧D.nx σ' H'
 | .brk=>∃ σ' H',Inv X pins σ' H' s'∧D.bk σ' H'
 | .cont=>∃ σ' H',Inv X pins σ' H' s'∧D.ct σ' H'
 | .ret u=>∃ v σ' H',Inv X pins σ' H' s'∧RelV v u∧D.rt v H'
noncomputable def PE (X:Cx)(e:Expr)(t:TE):Prop :=
 ∀ (pins:List (Addr × Obj)) (s:Shared) (σ:St) (H:Hp) (Q:VK),Inv X pins σ H s→t σ H Q→wpAny (model X.prog X.w) X.A (eval e X.env) (EP X pins σ Q) X.xe s
noncomputable def PT (X:Cx)(e:Expr)(t:TT):Prop :=
 ∀ (pins:List (Addr × Obj)) (s:Shared) (σ:St) (H:Hp) (Q:Bool→Hp→Prop),Inv X pins σ H s→t σ H Q→wpAny (model X.prog X.w) X.A (isTrue e X.env (eval e X.env)) (TP X pins σ Q) X.xe s
noncomputable def PW (X:Cx)(e:Expr)(t:TT):Prop :=
 ∀ (whole:Sem Value) (pins:List (Addr × Obj)) (s:Shared) (σ:St) (H:Hp) (Q:Bool→Hp→Prop),Inv X pins σ H s→t σ H Q→wpAny (model X.prog X.w) X.A (isTrue e X.env whole) (TP X pins σ Q) X.xe s
theorem PW.pt {X:Cx}{e:Expr}{t:TT}(h:PW X e t):PT X e t:=h _
noncomputable def PA (X:Cx)(es:List Expr)(t:TA):Prop :=
 ∀ (pos:Pos) (pins:List (Addr × Obj)) (s:Shared) (σ:St) (H:Hp) (Q:List V→Hp→Prop),Inv X pins σ H s→t σ H Q→wpAny (model X.prog X.w) X.A (spliced (backTo pos (starEach es X.env))) (AP X pins σ Q) X.xe s
noncomputable def PS (X:Cx)(st:Stmt)(t:TS):Prop :=
 ∀ (pins:List (Addr × Obj)) (s:Shared) (σ:St) (H:Hp) (D:Ends),Inv X pins σ H s→t D σ H→wpAny (model X.prog X.w) X.A (exec st X.env) (SP X pins D) X.xe s
noncomputable def PSs (X:Cx)(st:List Stmt)(t:TS):Prop :=
 ∀ (pins:List (Addr × Obj)) (s:Shared) (σ:St) (H:Hp) (D:Ends),Inv X pins σ H s→t D σ H→wpAny (model X.prog X.w) X.A (execs st X.env) (SP X pins D) X.xe s
theorem thn {α:Type}{t:Sem α}{Q Q' : α→Shared→Prop}{M:Model}{A:Around}{E:Value→Shared→Prop}{s:Shared}(h:wpAny M A t Q E s)(hQ:∀ a s,Q a s→Q' a s):wpAny M A t Q' E s:=wpAny_mono h hQ fun _ _ x=>x
theorem cD {α β γ:Type}{t:Sem α}{P1 P2 P3:α→Shared→β→γ→Prop}{Q' : α→Shared→Prop}{M:Model}{A:Around}{E:Value→Shared→Prop}{s:Shared}(h:wpAny M A t (fun a s=>∃ x y,P1 a s x y∧P2 a s x y∧P3 a s x y) E s)(hQ:∀ a s x y,P1 a s x y→P2 a s x y→P3 a s x y→Q' a s):wpAny M A t Q' E s:=wpAny_mono h (fun a s h=>Exists.elim h fun x h=>Exists.elim h fun y h=>hQ a s x y h.1 h.2.1 h.2.2) fun _ _ x=>x
end L2
namespace L2
open PySem PySem.Spec PyProof.Rows
section
variable {X:Cx}
noncomputable def y6 (i:Nat):TE:=fun σ H Q=>∃ v, σ[i]?=some (some v)∧Q v H
noncomputable def tC (v:V):TE:=fun _ H Q=>Q v H
theorem iP {i:Nat}{x:Str}{pos:Pos}(hN:X.N[i]?=some x)(hv:Vis X.env.scope x)(hd:(x == ("__debug__":Str))=false:=by decide)(hcd:(x == ("__classdict__":Str))=false:=by decide):PE X (.Name x pos) (y6 i):=by
 intro pins s σ H Q I h
 obtain ⟨v,e,h⟩:=h
 obtain ⟨m,hn,hl⟩:=I.loc
 obtain ⟨u,r,l⟩:=hl i x v hN e hv
 have fin:EP X pins σ Q u s:=⟨v,H,I,r,h⟩
 rcases l with ⟨hk,hm⟩ | ⟨hk,c,hc,hcell⟩
 ·exact wpAny_Name (wpAny_loadName_local I.ok.kind hk hn hm fin) hd
 ·rcases hk with hk | hk
  ·exact wpAny_Name (wpAny_loadName_cell I.ok.kind hk hc hcell fin) hd
  ·exact wpAny_Name (wpAny_loadName_free I.ok.kind hk hc hcell fin hcd) hd
theorem D9 {i j pos}:PE X (.Constant (.int i) j pos) (tC (.int i)):=fun _ _ _ H _ I h=>wpAny_Constant_int ⟨.int i,H,I.tok _,⟨_,rfl⟩,h⟩
theorem FI {b j pos}:PE X (.Constant (.bool b) j pos) (tC (.bl b)):=fun _ _ _ H _ I h=>Constant_bool ⟨.bl b,H,I,rfl,h⟩
theorem Dc {j pos}:PE X (.Constant .none j pos) (tC .non):=fun _ _ _ H _ I h=>Constant_none ⟨.non,H,I,rfl,h⟩
theorem Dd {x j pos}:PE X (.Constant (.str x) j pos) (tC (.str x)):=fun _ _ _ H _ I h=>Calls.Constant_str ⟨.str x,H,I.tok _,⟨_,rfl⟩,h⟩
noncomputable def Gl (X:Cx)(x:Str):Prop:=X.env.kindOf x=some .globalImplicit
theorem lM {E:Value→Shared→Prop}{pins:List (Addr × Obj)}{s:Shared}{σ:St}{H:Hp}{x:Str}{u:Value}{pos:Pos}{Q:Value→Shared→Prop}(I:Inv X pins σ H s)(hg:Gl X x)(hm:X.mg x=some u)(h:Q u s)
  (hd:(x == ("__debug__":Str))=false:=by decide):wpAny (model X.prog X.w) X.A (eval (.Name x pos) X.env) Q E s :=
 Calls.Name_function_global I.ok.kind hg (Calls.loadGlobal_global (by rw [I.ok.glob]; exact I.mod.glob.keeps I.bk) hm h) hd
theorem gS {E:Value→Shared→Prop}{pins:List (Addr × Obj)}{s:Shared}{σ:St}{H:Hp}{x:Str}{u:Value}{pos:Pos}{Q:Value→Shared→Prop}(I:Inv X pins σ H s)(hg:Gl X x)(hm:X.mg x=none)(hv:bootBuiltins x=some u)(h:Q u s)
  (hn:x≠"__name__":=by decide) (hd:(x == ("__debug__":Str))=false:=by decide):wpAny (model X.prog X.w) X.A (eval (.Name x pos) X.env) Q E s:=by
 obtain ⟨mb,h1,h2⟩:=I.mod.blt
 exact Calls.Name_function_global I.ok.kind hg (Calls.loadGlobal_builtin (by rw [I.ok.glob]; exact I.mod.glob.keeps I.bk) hm (by rw [I.ok.blt]; exact h1.keeps I.bk) ((h2 x hn).trans hv) h) hd
theorem Ad {x:Str}{v:V}{u:Value}{pos:Pos}(hg:Gl X x)(hm:X.mg x=some u)(r:RelV v u)(hd:(x == ("__debug__":Str))=false:=by decide):PE X (.Name x pos) (tC v) :=
 fun _ _ _ H _ I h=>lM I hg hm ⟨v,H,I,r,h⟩ hd
theorem Ae {x:Str}{v:V}{u:Value}{pos:Pos}(hg:Gl X x)(hm:X.mg x=none)(hv:bootBuiltins x=some u)(r:RelV v u)(hn:x≠"__name__":=by decide)(hd:(x == ("__debug__":Str))=false:=by decide):PE X (.Name x pos) (tC v) :=
 fun _ _ _ H _ I h=>gS I hg hm hv ⟨v,H,I,r,h⟩ hn hd
variable {a b:Expr}{ta tb:TE}{pos:Pos}
noncomputable def PC (X:Cx)(op:CmpOp)(a b:Expr)(t:TE):Prop :=
 ∀ (pins:List (Addr × Obj)) (s:Shared) (σ:St) (H:Hp) (Q:VK),Inv X pins σ H s→t σ H Q →
  wpAny (model X.prog X.w) X.A (eval a X.env) (fun v s₁=>wpAny (model X.prog X.w) X.A (eval b X.env) (fun u s₂=>wpAny (model X.prog X.w) X.A (compareOp op v u) (EP X pins σ Q) X.xe s₂) X.xe s₁) X.xe s
theorem y7 (b:Expr){op:CmpOp}(h:op≠.In)(h2:op≠.NotIn):behindInMarks op b=false:=by
 have e1:(op == CmpOp.In)=false:=by cases op <;> first | rfl | exact absurd rfl h
 have e2:(op == CmpOp.NotIn)=false:=by cases op <;> first | rfl | exact absurd rfl h2
 cases b <;> simp [behindInMarks,e1,e2]
noncomputable def Ik (ta:TE):TE:=fun σ H Q=>ta σ H fun x H1=>Q (.bl (decide (x=.non))) H1
noncomputable def FJ (ta:TE):TE:=fun σ H Q=>ta σ H fun x H1=>Q (.bl (!decide (x=.non))) H1
theorem RelV.sH {x:V}{v:Value}(r:RelV x v):(v == Value.none)=decide (x=.non):=by
 cases x with
 | non=>cases r; rfl
 | bl _=>cases r; rfl
 | int _=>obtain ⟨t,rfl⟩:=r; rfl
 | str _=>obtain ⟨t,rfl⟩:=r; rfl
 | byt _=>obtain ⟨t,rfl⟩:=r; rfl
 | flt _=>obtain ⟨t,rfl⟩:=r; rfl
 | ref _=>cases r; rfl
 | ty _=>cases r; rfl
theorem Df {j pos'}(ha:PE X a ta):PC X .Is a (.Constant .none j pos') (Ik ta):=by
 intro pins s σ H Q I h
 refine cD (ha pins s σ H _ I h) fun v s1 x H1 I1 r1 q1=>?_
 exact Constant_none (is_none_gen ⟨.bl _,H1,I1,by rw [r1.sH]; rfl,q1⟩)
theorem Af {j pos'}(ha:PE X a ta):PC X .IsNot a (.Constant .none j pos') (FJ ta):=by
 intro pins s σ H Q I h
 refine cD (ha pins s σ H _ I h) fun v s1 x H1 I1 r1 q1=>?_
 exact Constant_none (isnot_none_gen ⟨.bl _,H1,I1,by rw [r1.sH]; rfl,q1⟩)
noncomputable def tB (t:TE):TT:=fun σ H Q=>t σ H fun x H1=>∃ c,x=.bl c∧Q c H1
theorem y8 {op:CmpOp}{t:TE}(h:PC X op a b t)(h1:behindInMarks op b=false:=by first | exact y7 _ (by decide) (by decide) | rfl):PT X (.Compare a [op] [b] pos) (tB t):=by
 intro pins s σ H Q I hw
 refine wpAny_isTrue_Compare1 (thn (h pins s σ H _ I hw) fun v s1 h1=>thn h1 fun u s2 h2=>cD h2 fun c s3 x H1 I1 r1 q1=>?_) h1
 obtain ⟨d,rfl,q⟩:=q1
 cases r1
 exact wpAny_truthy_bool ⟨H1,I1,q⟩
theorem Dg {e:Expr}{t:TE}(h:PE X e t)(he:∀ whole,isTrue e X.env whole=(do let v ← whole; standAt e.pos; holding [v] (truthy v)):=by intro _; rfl):PT X e (tB t):=by
 intro pins s σ H Q I hw
 refine isTrue_plain (cD (h pins s σ H _ I hw) fun v s1 x H1 I1 r1 q1=>?_) (he _)
 obtain ⟨d,rfl,q⟩:=q1
 cases r1
 exact wpAny_truthy_bool ⟨H1,I1,q⟩
variable {tA tB':TT}{rest:List Expr}
noncomputable def FK (t u:TT):TT:=fun σ H Q=>t σ H fun c H1=>if c=true then u σ H1 Q else Q false H1
noncomputable def tOr (t u:TT):TT:=fun σ H Q=>t σ H fun c H1=>if c=true then Q true H1 else u σ H1 Q
noncomputable def FL (t:TT):TT:=fun σ H Q=>t σ H fun c H1=>Q (!c) H1
theorem pw_and1 (ha:PT X a tA):PW X (.BoolOp .And [a] pos) tA:=by
 intro wh pins s σ H Q I h
 refine isTrue_and (thn (ha pins s σ H Q I h) fun c s1 e=>?_)
 cases c with
 | true=>exact isTrue_and_nil e
 | false=>exact e
theorem pw_or1 (ha:PT X a tA):PW X (.BoolOp .Or [a] pos) tA:=by
 intro wh pins s σ H Q I h
 refine isTrue_or (thn (ha pins s σ H Q I h) fun c s1 e=>?_)
 cases c with
 | false=>exact isTrue_or_nil e
 | true=>exact e
theorem pw_and (ha:PT X a tA)(hb:PW X (.BoolOp .And (b::rest) pos) tB'):PW X (.BoolOp .And (a::b::rest) pos) (FK tA tB'):=by
 intro wh pins s σ H Q I h
 refine isTrue_and (thn (ha pins s σ H _ I h) fun c s1 zz_=>?_)
 obtain ⟨H1,I1,q1⟩:=zz_
 cases c with
 | true=>exact hb wh pins s1 σ H1 Q I1 q1
 | false=>exact ⟨H1,I1,q1⟩
theorem pw_or (ha:PT X a tA)(hb:PW X (.BoolOp .Or (b::rest) pos) tB'):PW X (.BoolOp .Or (a::b::rest) pos) (tOr tA tB'):=by
 intro wh pins s σ H Q I h
 refine isTrue_or (thn (ha pins s σ H _ I h) fun c s1 zz_=>?_)
 obtain ⟨H1,I1,q1⟩:=zz_
 cases c with
 | true=>exact ⟨H1,I1,q1⟩
 | false=>exact hb wh pins s1 σ H1 Q I1 q1
theorem Dh (ha:PT X a tA):PT X (.UnaryOp .Not a pos) (FL tA):=by
 intro pins s σ H Q I h
 exact isTrue_not (ha pins s σ H (fun c H1=>Q (!c) H1) I h)
noncomputable def Cg (ta tb:TE):TE:=fun σ H Q=>ta σ H fun x H1=>∃ c,x=.bl c∧if c=true then tb σ H1 Q else Q (.bl false) H1
noncomputable def Ci (ta:TE):TE:=fun σ H Q=>ta σ H fun x H1=>∃ c,x=.bl c∧Q (.bl (!c)) H1
theorem Di {op}{t:TE}(h:PE X a t):PE X (.BoolOp op [a] pos) t:=fun pins s σ H Q I hw=>BoolOp_one (h pins s σ H Q I hw)
theorem Dj (ha:PE X a ta)(hb:PE X (.BoolOp .And (b::rest) pos) tb):PE X (.BoolOp .And (a::b::rest) pos) (Cg ta tb):=by
 intro pins s σ H Q I h
 refine BoolOp_and (cD (ha pins s σ H _ I h) fun v s1 x H1 I1 r1 q1=>?_)
 obtain ⟨c,rfl,q1⟩:=q1
 cases r1
 refine wpAny_truthy_bool ?_
 cases c with
 | true=>exact hb pins s1 σ H1 Q I1 q1
 | false=>exact ⟨.bl false,H1,I1,rfl,q1⟩
theorem Dk (ha:PE X a ta):PE X (.UnaryOp .Not a pos) (Ci ta):=by
 intro pins s σ H Q I h
 refine UnaryOp_ (cD (ha pins s σ H _ I h) fun v s1 x H1 I1 r1 q1=>?_)
 obtain ⟨c,rfl,q1⟩:=q1
 cases r1
 exact not_of (wpAny_truthy_bool ⟨.bl (!c),H1,I1,rfl,q1⟩)
noncomputable def tIf (t:TT)(ta tb:TE):TE:=fun σ H Q=>t σ H fun c H1=>if c=true then ta σ H1 Q else tb σ H1 Q
theorem y9 {c:Expr}(hc:PT X c tA)(ha:PE X a ta)(hb:PE X b tb):PE X (.IfExp c a b pos) (tIf tA ta tb):=by
 intro pins s σ H Q I h
 refine wpAny_IfExp (thn (hc pins s σ H _ I h) fun d s1 zz_=>?_)
 obtain ⟨H1,I1,q1⟩:=zz_
 cases d with
 | true=>exact ha pins s1 σ H1 Q I1 q1
 | false=>exact hb pins s1 σ H1 Q I1 q1
end
end L2
namespace L2
open PySem PySem.Spec PyProof.Rows
noncomputable def SqL (K:PySem.W.Frag)(H:Hp)(a:Addr)(xs:List V):Prop :=
 Rd H a (.lst xs) ∨
  ∃ (o:Obj) (its:Array Value) (n:Nat),K.lookup a=some o∧o.cls=.type "list"∧o.dict=none∧o.data=.seq its n∧its.size≤sizeLine∧Vals xs its.toList
noncomputable def SqT (K:PySem.W.Frag)(H:Hp)(a:Addr)(xs:List V):Prop :=
 Rd H a (.tup xs) ∨
  ∃ (o:Obj) (its:Array Value) (n:Nat),K.lookup a=some o∧o.cls=.type "tuple"∧o.data=.seq its n∧its.size≤sizeLine∧Vals xs its.toList
noncomputable def Il:Value→Option V
 | .none=>some .non
 | .bool b=>some (.bl b)
 | .int i _=>some (.int i)
 | .str x _=>some (.str x)
 | .bytes b _=>some (.byt b)
 | .float b _=>some (.flt b)
 | .ref a=>some (.ref a)
 | .type n=>some (.ty n)
 | _=>none
theorem RelV.abs {x:V}{u:Value}(r:RelV x u):Il u=some x:=by
 cases x with
 | non=>cases r; rfl
 | bl _=>cases r; rfl
 | int _=>obtain ⟨t,rfl⟩:=r; rfl
 | str _=>obtain ⟨t,rfl⟩:=r; rfl
 | byt _=>obtain ⟨t,rfl⟩:=r; rfl
 | flt _=>obtain ⟨t,rfl⟩:=r; rfl
 | ref _=>cases r; rfl
 | ty _=>cases r; rfl
theorem RelV.inj {x y:V}{u:Value}(r:RelV x u)(q:RelV y u):x=y:=Option.some.inj (r.abs.symm.trans q.abs)
theorem Vals.inj:∀ {xs ys:List V} {us:List Value},Vals xs us→Vals ys us→xs=ys
 | _,_,_,.nil,.nil=>rfl
 | _,_,_,.cons r t,.cons r' t'=>by rw [r.inj r',Vals.inj t t']
section
variable {X:Cx}{pins:List (Addr × Obj)}{σ:St}{H:Hp}{s:Shared}{a:Addr}{xs ys:List V}
theorem SqL.of {K:PySem.W.Frag}(h:H a=some (.lst xs)):SqL K H a xs:=.inl (.inl h)
theorem SqT.of {K:PySem.W.Frag}(h:H a=some (.tup xs)):SqT K H a xs:=.inl (.inl h)
theorem Inv.list (I:Inv X pins σ H s)(h:SqL X.K H a xs):∃ its:List Value,Vals xs its∧PlainL s.heap a its.toArray∧xs.length≤sizeLine:=by
 rcases h with h | ⟨o,its,n,hk,hc,hd,hs,hz,r⟩
 ·obtain ⟨z,its,n,r,e⟩:=h.ok I.hok
  exact ⟨its,r,⟨_,n,e,rfl,rfl,rfl⟩,z⟩
 ·refine ⟨its.toList,r,⟨o,n,I.kIn a o hk,hc,hd,by simpa using hs⟩, ?_⟩
  have e:=r.length
  simp only [Array.length_toList] at e
  omega
theorem Inv.tuple (I:Inv X pins σ H s)(h:SqT X.K H a xs):∃ its:List Value,Vals xs its∧IsTup s.heap a its.toArray∧xs.length≤sizeLine:=by
 rcases h with h | ⟨o,its,n,hk,hc,hs,hz,r⟩
 ·obtain ⟨z,its,r,p⟩:=h.ok I.hok
  exact ⟨its,r,p,z⟩
 ·refine ⟨its.toList,r,⟨o,I.kIn a o hk,hc,n,by simpa using hs⟩, ?_⟩
  have e:=r.length
  simp only [Array.length_toList] at e
  omega
theorem Inv.iU (I:Inv X pins σ H s)(h:SqL X.K H a xs)(h':SqL X.K H a ys):xs=ys:=by
 obtain ⟨its,r,⟨o,n,e,_,_,d⟩,_⟩:=I.list h
 obtain ⟨its',r',⟨o',n',e',_,_,d'⟩,_⟩:=I.list h'
 rw [e] at e'; cases e'
 rw [d] at d'
 injection d' with d1 _
 have:its=its':=by simpa using congrArg Array.toList d1
 subst this
 exact r.inj r'
theorem Inv.qv (I:Inv X pins σ H s)(h:SqT X.K H a xs)(h':SqT X.K H a ys):xs=ys:=by
 obtain ⟨its,r,⟨o,e,_,n,d⟩,_⟩:=I.tuple h
 obtain ⟨its',r',⟨o',e',_,n',d'⟩,_⟩:=I.tuple h'
 rw [e] at e'; cases e'
 rw [d] at d'
 injection d' with d1 _
 have:its=its':=by simpa using congrArg Array.toList d1
 subst this
 exact r.inj r'
end
noncomputable abbrev Cx.q8 (X:Cx)(E:Value→Shared→Prop):Cx:={ X with xe:=E }
noncomputable abbrev Cx.nox (X:Cx):Cx:=X.q8 fun _ _=>False
theorem Cx.Ok.q8 {X:Cx}(ok:X.Ok)(E:Value→Shared→Prop):(X.q8 E).Ok :=
 ⟨ok.mod,ok.kind,ok.glob,ok.blt,ok.above,ok.inj,ok.has,ok.cab,ok.hd,ok.frames,ok.stk,ok.exf,ok.bs,ok.bsz,ok.wL,ok.wM,ok.nT,ok.frf⟩
theorem Cx.Ok.jx {X:Cx}{E:Value→Shared→Prop}(ok:(X.q8 E).Ok):X.Ok :=
 ⟨ok.mod,ok.kind,ok.glob,ok.blt,ok.above,ok.inj,ok.has,ok.cab,ok.hd,ok.frames,ok.stk,ok.exf,ok.bs,ok.bsz,ok.wL,ok.wM,ok.nT,ok.frf⟩
section
variable {X:Cx}{pins:List (Addr × Obj)}{σ:St}{H:Hp}{s:Shared}{E:Value→Shared→Prop}
theorem Inv.q8 (I:Inv X pins σ H s)(E:Value→Shared→Prop):Inv (X.q8 E) pins σ H s:=⟨I.ok.q8 E,I.os,I.bare,I.base,I.loc,I.cell,I.free,I.jq,I.pin,I.hok,I.len⟩
theorem Inv.jx (I:Inv (X.q8 E) pins σ H s):Inv X pins σ H s:=⟨I.ok.jx,I.os,I.bare,I.base,I.loc,I.cell,I.free,I.jq,I.pin,I.hok,I.len⟩
theorem SP.jx {D:Ends}{f:Flow}{s':Shared}(h:SP (X.q8 E) pins D f s'):SP X pins D f s':=by
 cases f with
 | next=>obtain ⟨σ',H',I,q⟩:=h; exact ⟨σ',H',I.jx,q⟩
 | brk=>obtain ⟨σ',H',I,q⟩:=h; exact ⟨σ',H',I.jx,q⟩
 | cont=>obtain ⟨σ',H',I,q⟩:=h; exact ⟨σ',H',I.jx,q⟩
 | ret u=>obtain ⟨v, σ',H',I,r,q⟩:=h; exact ⟨v, σ',H',I.jx,r,q⟩
theorem PSs.nox {st:List Stmt}{t:TS}(h:PSs X.nox st t):PSs X st t:=fun pins s σ H D I hw =>
 wpAny_mono (h pins s σ H D (I.q8 _) hw) (fun _ _ q=>q.jx) fun _ _ z=>False.elim z
end
section
variable {X:Cx}{st:Stmt}{rest:List Stmt}{t u:TS}{e:Expr}{te:TE}{pos:Pos}
noncomputable def Cj:TS:=fun D σ H=>D.nx σ H
noncomputable def FN (t u:TS):TS:=fun D σ H=>t { D with nx:=u D } σ H
theorem Ag:PSs X [] Cj:=fun _ _ σ H _ I h=>wpAny_execs_nil ⟨σ,H,I,h⟩
theorem ya (h1:PS X st t)(h2:PSs X rest u):PSs X (st::rest) (FN t u):=by
 intro pins s σ H D I h
 refine wpAny_execs_cons (thn (h1 pins s σ H { D with nx:=u D } I h) fun f s1 q=>?_)
 cases f with
 | next =>
  obtain ⟨σ',H',I',q⟩:=q
  exact h2 pins s1 σ' H' D I' q
 | ret v=>exact q
 | brk=>exact q
 | cont=>exact q
theorem Ah (h1:PS X st t):PSs X [st] t:=by
 intro pins s σ H D I h
 refine wpAny_execs_cons (thn (h1 pins s σ H D I h) fun f s1 q=>?_)
 cases f with
 | next=>exact wpAny_execs_nil q
 | ret v=>exact q
 | brk=>exact q
 | cont=>exact q
theorem Inv.quiet {pins:List (Addr × Obj)}{σ:St}{H:Hp}{s:Shared}(I:Inv X pins σ H s):interactive X.env=false:=by simp [interactive,I.ok.kind]
noncomputable def Ck (te:TE):TS:=fun D σ H=>te σ H fun _ H1=>D.nx σ H1
theorem lN (he:PE X e te)(hs:swapsWith e none pos.line X.env=pure false:=by rfl):PS X (.Expr e pos) (Ck te):=by
 intro pins s σ H D I h
 exact wpAny_Expr_any (cD (he pins s σ H _ I h) fun v s1 x H1 I1 r1 q1=>⟨σ,H1,I1,q1⟩) I.quiet hs
noncomputable def Ai (te:TE):TS:=fun D σ H=>te σ H D.rt
theorem ur (he:PE X e te):PS X (.Return (some e) pos) (Ai te):=by
 intro pins s σ H D I h
 exact wpAny_Return_some (cD (he pins s σ H _ I h) fun v s1 x H1 I1 r1 q1=>⟨x, σ,H1,I1,r1,q1⟩)
noncomputable def FQ (c:TT)(t u:TS):TS:=fun D σ H=>c σ H fun b H1=>if b=true then t D σ H1 else u D σ H1
theorem FR {c:Expr}{a b:List Stmt}{tc:TT}(hc:PT X c tc)(ha:PSs X a t)(hb:PSs X b u):PS X (.If c a b pos) (FQ tc t u):=by
 intro pins s σ H D I h
 refine wpAny_If (thn (hc pins s σ H _ I h) fun d s1 zz_=>?_)
 obtain ⟨H1,I1,q1⟩:=zz_
 cases d with
 | true=>exact ha pins s1 σ H1 D I1 q1
 | false=>exact hb pins s1 σ H1 D I1 q1
end
noncomputable abbrev TG:=V→St→Hp→(St→Hp→Prop)→Prop
noncomputable abbrev TGs:=List V→St→Hp→(St→Hp→Prop)→Prop
noncomputable def PG (X:Cx)(target:Expr)(t:TG):Prop :=
 ∀ (pins:List (Addr × Obj)) (s:Shared) (σ:St) (H:Hp) (v:V) (u:Value) (Q:St→Hp→Prop),Inv X pins σ H s→RelV v u→t v σ H Q →
  wpAny (model X.prog X.w) X.A (assign target X.env u) (fun _ s'=>∃ σ' H',Inv X pins σ' H' s'∧Q σ' H') X.xe s
noncomputable def PGs (X:Cx)(ts:List Expr)(t:TGs):Prop :=
 ∀ (pins:List (Addr × Obj)) (s:Shared) (σ:St) (H:Hp) (vs:List V) (us:List Value) (Q:St→Hp→Prop),Inv X pins σ H s→Vals vs us→t vs σ H Q →
  wpAny (model X.prog X.w) X.A (assignInOrder ((assignEach ts X.env).map (·.2)) us) (fun _ s'=>∃ σ' H',Inv X pins σ' H' s'∧Q σ' H') X.xe s
noncomputable abbrev TIp:=V→V→Hp→VK→Prop
noncomputable def PIp (X:Cx)(op:Operator)(t:TIp):Prop :=
 ∀ (pins:List (Addr × Obj)) (s:Shared) (σ:St) (H:Hp) (x y:V) (v u:Value) (Q:VK),Inv X pins σ H s→RelV x v→RelV y u→t x y H Q →
  wpAny (model X.prog X.w) X.A (inplaceOp op v u) (EP X pins σ Q) X.xe s
section
variable {X:Cx}{pos:Pos}
noncomputable def gU (i:Nat):TG:=fun v σ H Q=>Q (σ.set i (some v)) H
theorem Aj {i:Nat}{x:Str}(hN:X.N.Nodup)(hi:X.N[i]?=some x)(hx:Loc X.env.scope x)(hf:X.fn x=true∨X.env.scope.names.lookup x=some .local:=by first | exact .inl rfl | exact .inr rfl | assumption):PG X (.Name x pos) (gU i):=by
 intro pins s σ H v u Q I r h
 exact wpAny_assign_Name (oG I hN hi hx r (fun s' I'=>⟨_,H,I',h⟩) hf)
noncomputable def uu:TGs:=fun vs σ H Q=>vs=[]∧Q σ H
noncomputable def nH (t:TG)(u:TGs):TGs:=fun vs σ H Q=>∃ v r,vs=v::r∧t v σ H fun σ' H'=>u r σ' H' Q
theorem rg:PGs X [] uu:=by
 intro pins s σ H vs us Q I r h
 obtain ⟨e,h⟩:=h
 subst e
 cases r
 exact assignInOrder_nil ⟨σ,H,I,h⟩
theorem iV {e:Expr}{es:List Expr}{t:TG}{u:TGs}(h1:PG X e t)(h2:PGs X es u)
  (hs:(assignEach (e::es) X.env).map (·.2)=assign e X.env::(assignEach es X.env).map (·.2):=by rfl):PGs X (e::es) (nH t u):=by
 intro pins s σ H vs us Q I r h
 obtain ⟨v,vr,e1,h⟩:=h
 subst e1
 cases r with
 | cons r rr =>
  rw [hs]
  refine assignInOrder_cons (thn (h1 pins s σ H _ _ _ I r h) fun _ s1 zz_=>?_)
  obtain ⟨σ1,H1,I1,q1⟩:=zz_
  exact h2 pins s1 σ1 H1 _ _ Q I1 rr q1
noncomputable def Ak (K:PySem.W.Frag)(n:Nat)(t:TGs):TG:=fun v σ H Q=>∃ a xs,v=.ref a∧SqT K H a xs∧xs.length=n∧t xs σ H Q
theorem uv {es:List Expr}{k:Nat}{t:TGs}{n:Nat}(hc:X.calm=true)(h:PGs X es t)
  (hn:(assignEach es X.env).length=n:=by rfl) (hst:(assignEach es X.env).findIdx? (·.1)=none:=by rfl):PG X (.Tuple es k pos) (Ak X.K n t):=by
 intro pins s σ H v u Q I r hw
 obtain ⟨a,xs,e1,hq,hl,hw⟩:=hw
 subst e1
 cases r
 obtain ⟨its,rv,ht,hz⟩:=I.tuple hq
 refine assign_Tuple_tuple (I.ok.hd hc) ht (by simp [hn, ← hl,rv.length]) hst fun h' hx=>?_
 have I1:Inv X pins σ H { s with heap:=h' }:=I.kept (t':=s.toks) fun b o e=>hx b o (Nat.ne_of_lt (Heap.lt_size e)) e
 exact h pins _ σ H xs _ Q I1 (by simpa using rv) hw
noncomputable def yb (te:TE)(g:TG):TS:=fun D σ H=>te σ H fun x H1=>g x σ H1 D.nx
theorem yc {i:Nat}{x:Str}{e:Expr}{te:TE}{pos':Pos}(hN:X.N.Nodup)(hi:X.N[i]?=some x)(hx:Loc X.env.scope x)(he:PE X e te)(hs:swapsWith e (some (.Name x pos')) pos.line X.env=pure false:=by rfl)(hf:X.fn x=true∨X.env.scope.names.lookup x=some .local:=by first | exact .inl rfl | exact .inr rfl | assumption) :
  PS X (.Assign [.Name x pos'] e pos) (yb te (gU i)):=by
 intro pins s σ H D I h
 refine wpAny_Assign_Name (cD (he pins s σ H _ I h) fun v s1 y H1 I1 r1 q1=>?_) hs
 exact oG I1 hN hi hx r1 (fun s2 I2=>⟨_,H1,I2,q1⟩) hf
noncomputable def Im (i:Nat)(te:TE)(ti:TIp):TS:=fun D σ H=>∃ x, σ[i]?=some (some x)∧te σ H fun y H1=>ti x y H1 fun z H2=>D.nx (σ.set i (some z)) H2
theorem Dl {i:Nat}{x:Str}{e:Expr}{te:TE}{op:Operator}{ti:TIp}{pos':Pos}(hN:X.N.Nodup)(hi:X.N[i]?=some x)(hx:Loc X.env.scope x)(he:PE X e te)(ho:PIp X op ti)(hf:X.fn x=true∨X.env.scope.names.lookup x=some .local:=by first | exact .inl rfl | exact .inr rfl | assumption) :
  PS X (.AugAssign (.Name x pos') op e pos) (Im i te ti):=by
 intro pins s σ H D I h
 obtain ⟨v,e1,h⟩:=h
 obtain ⟨m,hn,hl⟩:=I.loc
 have vis:Vis X.env.scope x:=by rcases hx with k | k; exact .inl k; exact .inr (.inl k)
 obtain ⟨u,r,l⟩:=hl i x v hi e1 vis
 refine wpAny_AugAssign_Name ?_
 have go:wpAny (model X.prog X.w) X.A (eval e X.env) (fun w s₂=>wpAny (model X.prog X.w) X.A (inplaceOp op u w) (fun r s₃=>wpAny (model X.prog X.w) X.A (storeName X.env x r) (fun _=>SP X pins D .next) X.xe s₃) X.xe s₂) X.xe s:=by
  refine cD (he pins s σ H _ I h) fun w s1 y H1 I1 r1 q1=>?_
  refine cD (ho pins s1 σ H1 v y u w _ I1 r r1 q1) fun z s2 zv H2 I2 r2 q2=>?_
  exact oG I2 hN hi hx r2 (fun s3 I3=>⟨_,H2,I3,q2⟩) hf
 rcases l with ⟨hk,hm⟩ | ⟨hk,c,hc,hcell⟩
 ·exact wpAny_loadName_local I.ok.kind hk hn hm go
 ·rcases hk with hk | hk
  ·exact wpAny_loadName_cell I.ok.kind hk hc hcell go
  ·rcases hx with k | k
   ·have:X.env.scope.names.lookup x=some .free:=hk
    rw [k] at this; cases this
   ·have:X.env.scope.names.lookup x=some .free:=hk
    rw [k] at this; cases this
noncomputable def ipI (f:Int→Int→Int):TIp:=fun x y H Q=>∃ i j,x=.int i∧y=.int j∧Q (.int (f i j)) H
theorem Dm:PIp X .Add (ipI fun i j=>i+j):=by
 intro pins s σ H x y v u Q I r1 r2 h
 obtain ⟨i,j,e1,e2,q⟩:=h
 subst e1; subst e2
 obtain ⟨t,rfl⟩:=r1
 obtain ⟨t',rfl⟩:=r2
 exact iadd_int ⟨.int _,H,I.tok _,⟨_,rfl⟩,q⟩
end
section
variable {X:Cx}{pos:Pos}
end
structure It where
 go:Nat→Hp→Prop
 yld:Nat→Hp→V→Hp→Prop
 stop:Nat→Hp→Prop
noncomputable def kx (X:Cx)(pins:List (Addr × Obj))(H:Hp)(b:Addr):Prop :=
 H b=none∧b≠X.env.locals∧b ∉ X.fs∧(b∈X.ex∨X.s₀.heap.objs.size≤b)∧(∀ x c,X.env.cells.lookup x=some c→c≠b)∧∀ p∈X.pn++pins,p.1≠b
theorem Inv.oH {X:Cx}{pins:List (Addr × Obj)}{σ:St}{H H':Hp}{s:Shared}{b:Addr}(I:Inv X pins σ H s)(hb:s.heap.objs.size≤b)(hn:H' b=none):kx X pins H' b:=by
 refine ⟨hn,Nat.ne_of_gt (Nat.lt_of_lt_of_le I.lt hb),I.D8 hb,.inr (Nat.le_trans I.sz hb),fun x c e z=>?_,fun p hp z=>?_⟩
 ·obtain ⟨v,q⟩:=I.cell x c e
  exact absurd (Nat.lt_of_lt_of_le q.lt (by rw [z]; exact hb)) (Nat.lt_irrefl _)
 ·exact absurd (Nat.lt_of_lt_of_le (Heap.lt_size (I.pin p hp).1) (by rw [z]; exact hb)) (Nat.lt_irrefl _)
structure Turn (P:Program)(w:World)(K:PySem.W.Frag)(tg:Expr)(J:It)(fp:List Addr)(it:Addr)(tn:Nat→Heap→Prop):Prop where
 mem:it∈fp
 obj:∀ i h,tn i h→∀ b∈fp, ∃ o,h.get? b=some o∧∀ v,o.data≠.cell v
 keep:∀ i h h',tn i h→(∀ b∈fp, ∀ o,h.get? b=some o→h'.get? b=some o)→tn i h'
 item:∀ (X:Cx),X.prog=P→X.w=w→X.K=K→X.calm=true→∀ (i:Nat) (pins:List (Addr × Obj)) (s:Shared) (σ:St) (H:Hp) (E:Value→Shared→Prop),Inv X pins σ H s→(∀ b∈fp,kx X pins H b)→tn i s.heap→J.go i H →
  wpAny (model P w) X.A (pyNext (.ref it)) (fun r s1=>∃ u,r=some u ∧
   wpAny (model P w) X.A (letOwnedTupleGo tg (.ref it) u) (fun _ s2=>∃ x H',Inv X pins σ H' s2∧RelV x u∧J.yld i H x H'∧tn (i+1) s2.heap∧∀ b∈fp,H' b=none) E s1) E s
 done:∀ (X:Cx),X.prog=P→X.w=w→X.K=K→X.calm=true→∀ (i:Nat) (pins:List (Addr × Obj)) (s:Shared) (σ:St) (H:Hp) (E:Value→Shared→Prop),Inv X pins σ H s→(∀ b∈fp,kx X pins H b)→tn i s.heap→J.stop i H →
  wpAny (model P w) X.A (pyNext (.ref it)) (fun r s1=>r=none∧Inv X pins σ H s1) E s
 self:∀ (A:Around) (i:Nat) (s:Shared) (Q:Value→Shared→Prop) (E:Value→Shared→Prop),tn i s.heap→Q (.ref it) s→wpAny (model P w) A (pyIter (.ref it)) Q E s
noncomputable abbrev TI:=St→Hp→(It→Hp→Prop)→Prop
noncomputable def PIE (X:Cx)(pins:List (Addr × Obj))(σ:St)(tg:Expr)(R:It→Hp→Prop)(itv:Value)(s2:Shared):Prop :=
 ∃ (it:Addr) (fp:List Addr) (tn:Nat→Heap→Prop) (J:It) (H':Hp),itv=.ref it∧Inv X pins σ H' s2∧Turn X.prog X.w X.K tg J fp it tn∧tn 0 s2.heap∧(∀ b∈fp,kx X pins H' b)∧R J H'
noncomputable def PI (X:Cx)(tg iter:Expr)(wi:TI):Prop :=
 ∀ (pins:List (Addr × Obj)) (s:Shared) (σ:St) (H:Hp) (R:It→Hp→Prop),Inv X pins σ H s→wi σ H R →
  wpAny (model X.prog X.w) X.A (eval iter X.env) (fun v s1=>wpAny (model X.prog X.w) X.A (pyIter v) (PIE X pins σ tg R) X.xe s1) X.xe s
theorem vy {M:Model}{A:Around}{E:Value→Shared→Prop}{s:Shared}{tg:Expr}{it:Addr}{u:Value}{o:Obj}{n:String}{vs:Array Value}{Q:Unit→Shared→Prop}(ho:s.heap.get? it=some o)(hc:o.cls=.type n)(hd:o.data=.fields vs)
  (hn:["enumerate", "zip", "dict_itemiterator", "dict_reverseitemiterator", "odict_iterator", "itertools.zip_longest", "itertools.pairwise"].contains n=false) (hQ:Q () s):wpAny M A (letOwnedTupleGo tg (.ref it) u) Q E s:=by
 unfold letOwnedTupleGo
 cases tg <;> first
  | exact wpAny_pure hQ
  | (cases u <;> first
    | exact wpAny_pure hQ
    | (refine wpAny_bind (wpAny_load ho ?_)
       rw [hc,hd]
       show wpAny M A (if (["enumerate", "zip", "dict_itemiterator", "dict_reverseitemiterator", "odict_iterator", "itertools.zip_longest", "itertools.pairwise"].contains n && vs[0]? == some (rawInt _))=true then _ else _) Q E s
       rw [if_neg (by intro h; rw [hn,Bool.false_and] at h; cases h)]
       exact wpAny_pure hQ))
noncomputable def Itl (K:PySem.W.Frag)(a:Addr):It :=
 ⟨fun i H=>∃ xs x,SqL K H a xs∧xs[i]?=some x,fun i H x H'=>H'=H∧∀ xs,SqL K H a xs→xs[i]?=some x,fun i H=>∃ xs,SqL K H a xs∧xs.length≤i⟩
noncomputable def Itt (K:PySem.W.Frag)(a:Addr):It :=
 ⟨fun i H=>∃ xs x,SqT K H a xs∧xs[i]?=some x,fun i H x H'=>H'=H∧∀ xs,SqT K H a xs→xs[i]?=some x,fun i H=>∃ xs,SqT K H a xs∧xs.length≤i⟩
noncomputable def Itr (lo:Int)(n:Nat):It:=⟨fun i _=>i<n,fun i H x H'=>H'=H∧x=.int (lo+i),fun i _=>n≤i⟩
theorem wN {P:Program}{w:World}{K:PySem.W.Frag}{tg:Expr}(a it:Addr):Turn P w K tg (Itl K a) [it] it (fun i h=>h.IsListIter it a i) where
 mem:=by simp
 obj:=fun i h st b hb=>by
  have e:b=it:=by simpa using hb
  subst e
  obtain ⟨o,e,c,d⟩:=st
  exact ⟨o,e,fun v z=>by rw [d] at z; cases z⟩
 keep:=fun i h h' st k=>st.at fun o e=>k it (by simp) o e
 item:=by
  intro X hP hw hK hc i pins s σ H E I hf st hg
  subst hP hw hK
  obtain ⟨xs,x,hq,hx⟩:=hg
  obtain ⟨its,rv,p,hz⟩:=I.list hq
  obtain ⟨u,hu,ru⟩:=rv.get hx
  obtain ⟨f0,f1,f2,f3,f4,f5⟩:=hf it (by simp)
  refine wpAny_pyNext_list_item st p.isList (x:=u) (by simpa using hu) fun h' st' sb=>?_
  have I1:Inv X pins σ H { s with heap:=h' }:=I.turned (t':=s.toks) (fun b o hb e=>(sb.2 b hb).trans e) f0 f1 f3 f4 f5
  obtain ⟨o,e,c,d⟩:=id st'
  exact ⟨u,rfl,vy (s:={ s with heap:=h' }) e c d (by decide) ⟨x,H,I1,ru,⟨rfl,fun ys hy=>by rw [I.iU hy hq]; exact hx⟩,st',fun b hb=>(hf b hb).1⟩⟩
 done:=by
  intro X hP hw hK hc i pins s σ H E I hf st hg
  subst hP hw hK
  obtain ⟨xs,hq,hx⟩:=hg
  obtain ⟨its,rv,p,hz⟩:=I.list hq
  obtain ⟨f0,f1,f2,f3,f4,f5⟩:=hf it (by simp)
  have hl:=rv.length
  exact wpAny_pyNext_list_end (I.ok.hd hc) st p.isList (by simp; omega) fun h' eb=>⟨rfl,I.turned (t':=s.toks) (fun b o hb e=>eb b o hb e) f0 f1 f3 f4 f5⟩
 self:=fun _ _ _ _ _ st h=>wpAny_pyIter_listiter st h
theorem uw {P:Program}{w:World}{K:PySem.W.Frag}{tg:Expr}(a it:Addr):Turn P w K tg (Itt K a) [it] it (fun i h=>h.IsTupleIter it a i) where
 mem:=by simp
 obj:=fun i h st b hb=>by
  have e:b=it:=by simpa using hb
  subst e
  obtain ⟨o,e,c,d⟩:=st
  exact ⟨o,e,fun v z=>by rw [d] at z; cases z⟩
 keep:=fun i h h' st k=>st.at fun o e=>k it (by simp) o e
 item:=by
  intro X hP hw hK hc i pins s σ H E I hf st hg
  subst hP hw hK
  obtain ⟨xs,x,hq,hx⟩:=hg
  obtain ⟨its,rv,p,hz⟩:=I.tuple hq
  obtain ⟨u,hu,ru⟩:=rv.get hx
  obtain ⟨f0,f1,f2,f3,f4,f5⟩:=hf it (by simp)
  refine wpAny_pyNext_tuple_item st (show s.heap.IsTuple a its.toArray from p) (x:=u) (by simpa using hu) fun h' st' sb=>?_
  have I1:Inv X pins σ H { s with heap:=h' }:=I.turned (t':=s.toks) (fun b o hb e=>(sb.2 b hb).trans e) f0 f1 f3 f4 f5
  obtain ⟨o,e,c,d⟩:=id st'
  exact ⟨u,rfl,vy (s:={ s with heap:=h' }) e c d (by decide) ⟨x,H,I1,ru,⟨rfl,fun ys hy=>by rw [I.qv hy hq]; exact hx⟩,st',fun b hb=>(hf b hb).1⟩⟩
 done:=by
  intro X hP hw hK hc i pins s σ H E I hf st hg
  subst hP hw hK
  obtain ⟨xs,hq,hx⟩:=hg
  obtain ⟨its,rv,p,hz⟩:=I.tuple hq
  obtain ⟨f0,f1,f2,f3,f4,f5⟩:=hf it (by simp)
  have hl:=rv.length
  exact wpAny_pyNext_tuple_end (I.ok.hd hc) st (show s.heap.IsTuple a its.toArray from p) (by simp; omega) fun h' eb=>⟨rfl,I.turned (t':=s.toks) (fun b o hb e=>eb b o hb e) f0 f1 f3 f4 f5⟩
 self:=fun _ _ _ _ _ st h=>wpAny_pyIter_tupleiter st h
theorem ux {P:Program}{w:World}{K:PySem.W.Frag}{tg:Expr}(it:Addr)(lo:Int)(n:Nat):Turn P w K tg (Itr lo n) [it] it (fun i h=>IsRangeIter h it (lo+(i:Nat) * 1) ((n:Int) - (i:Nat)) 1) where
 mem:=by simp
 obj:=fun i h st b hb=>by
  have e:b=it:=by simpa using hb
  subst e
  exact ⟨_,st,fun v z=>by
   have z':Data.fields _=Data.cell v:=z
   cases z'⟩
 keep:=fun i h h' st k=>k it (by simp) _ st
 item:=by
  intro X hP hw hK hc i pins s σ H E I hf st hg
  subst hP hw hK
  obtain ⟨f0,f1,f2,f3,f4,f5⟩:=hf it (by simp)
  have W:=Walks.range (prog:=X.prog) (w:=X.w) (I.ok.hd hc) it lo 1 n
  refine W.item i s _ _ hg st fun v h' tk hv st' kk=>?_
  obtain ⟨t,rfl⟩:=hv
  have I1:Inv X pins σ H { s with heap:=h',toks:=tk }:=I.turned (fun b o hb e=>kk b o (by simpa using hb) e) f0 f1 f3 f4 f5
  refine ⟨_,rfl,vy (s:={ s with heap:=h',toks:=tk }) (n:="range_iterator") st' rfl rfl (by decide) ⟨.int (lo+i),H,I1,⟨t, ?_⟩,⟨rfl,rfl⟩,st',fun b hb=>(hf b hb).1⟩⟩
  rw [Int.mul_one]
 done:=by
  intro X hP hw hK hc i pins s σ H E I hf st hg
  subst hP hw hK
  obtain ⟨f0,f1,f2,f3,f4,f5⟩:=hf it (by simp)
  exact wpAny_pyNext_range_end (I.ok.hd hc) st (by have:n≤i:=hg; omega) fun h' eb=>⟨rfl,I.turned (t':=s.toks) (fun b o hb e=>eb b o hb e) f0 f1 f3 f4 f5⟩
 self:=fun _ _ _ _ _ st h=>wpAny_pyIter_rangeiter st h
end L2
namespace L2
open PySem PySem.Spec PyProof.Rows
section
variable {X:Cx}{tg:Expr}
theorem sI {pins:List (Addr × Obj)}{σ:St}{H:Hp}{s:Shared}{R:It→Hp→Prop}{E:Value→Shared→Prop}{lo hi:Int}{t u v:Tok}{tk:Nat}(I:Inv X pins σ H s)(h1:-(2 ^ 62)≤lo)(h2:lo<2 ^ 62)(h3:-(2 ^ 62)≤hi)(h4:hi<2 ^ 62)
  (q:R (Itr lo (hi - lo).toNat) H):wpAny (model X.prog X.w) X.A (pyIter (.ref s.heap.objs.size)) (PIE X pins σ tg R) E { s with heap:=s.heap.push { cls:=.type "range",data:=.fields #[.int lo t,.int hi u,.int 1 v] },toks:=tk }:=by
 refine wpAny_pyIter_range (IsRange.new ..) (small_one h1 h2 h3 h4) ?_
 have I1:Inv X pins σ H { s with heap:=s.heap.push { cls:=.type "range",data:=.fields #[.int lo t,.int hi u,.int 1 v] },toks:=tk }:=I.kept fun b o e=>Heap.get?_push_of_some _ e
 refine ⟨(s.heap.push { cls:=.type "range",data:=.fields #[.int lo t,.int hi u,.int 1 v] }).objs.size,[(s.heap.push { cls:=.type "range",data:=.fields #[.int lo t,.int hi u,.int 1 v] }).objs.size],_,_,H,rfl,
  I1.kept (t':=tk) fun b o e=>Heap.get?_push_of_some _ e,ux _ lo (hi - lo).toNat, ?_,fun b hb=>?_,q⟩
 ·have e1:lo+((0:Nat):Int) * 1=lo:=by simp
  have e2:(((hi - lo).toNat:Nat):Int) - ((0:Nat):Int)=Builtin.Range.rangeSize lo hi 1:=by rw [rangeSize_one]; split <;> omega
  show IsRangeIter _ _ (lo+((0:Nat):Int) * 1) ((((hi - lo).toNat:Nat):Int) - ((0:Nat):Int)) 1
  rw [e1,e2]
  exact Heap.get?_push_size _ rfl
 ·have e:b=(s.heap.push { cls:=.type "range",data:=.fields #[.int lo t,.int hi u,.int 1 v] }).objs.size:=by simpa using hb
  subst e
  exact I1.oH (Nat.le_refl _) (I1.hok.fresh (Nat.le_refl _))
noncomputable def yd (ta:TA):TI:=fun σ H R=>ta σ H fun vs H1=>∃ j:Int,vs=[.int j]∧-(2 ^ 62)≤j∧j<2 ^ 62∧R (Itr 0 j.toNat) H1
noncomputable def Cm (ta:TA):TI:=fun σ H R=>ta σ H fun vs H1=>∃ i j:Int,vs=[.int i,.int j]∧(-(2 ^ 62)≤i∧i<2 ^ 62∧-(2 ^ 62)≤j∧j<2 ^ 62)∧R (Itr i (j - i).toNat) H1
theorem mP {a:Expr}{ta:TA}{p pos:Pos}(hg:Gl X "range")(hm:X.mg "range"=none)(ha:PA X [a] ta)(hs:starEach [a] X.env=[(false,eval a X.env)]:=by rfl):PI X tg (.Call (.Name "range" p) [a] [] pos) (yd ta):=by
 intro pins s σ H R I h
 refine Call_ (gS I hg hm boot_range (PyProof.Rows.callWith_type1 (cD (ha pos pins s σ H _ I h) fun us s1 vs H1 I1 r1 q1=>?_) hs rfl))
 obtain ⟨j,e,q1,q2,q⟩:=q1
 subst e
 cases r1 with
 | cons r rr =>
  cases rr
  obtain ⟨t,rfl⟩:=r
  exact call_range_1 (sI I1 (by omega) (by omega) q1 q2 (by simpa using q))
theorem wO {a b:Expr}{ta:TA}{p pos:Pos}(hg:Gl X "range")(hm:X.mg "range"=none)(ha:PA X [a,b] ta)(hs:starEach [a,b] X.env=[(false,eval a X.env),(false,eval b X.env)]:=by rfl)(hs2:starEach [b] X.env=[(false,eval b X.env)]:=by rfl) :
  PI X tg (.Call (.Name "range" p) [a,b] [] pos) (Cm ta):=by
 intro pins s σ H R I h
 refine Call_ (gS I hg hm boot_range (PyProof.Rows.callWith_type1 (cD (ha pos pins s σ H _ I h) fun us s1 vs H1 I1 r1 q1=>?_) (by rw [hs,hs2]) (by rw [hs2]; rfl)))
 obtain ⟨i,j,e,⟨q1,q2,q3,q4⟩,q⟩:=q1
 subst e
 cases r1 with
 | cons r rr =>
  cases rr with
  | cons r' rr =>
   cases rr
   obtain ⟨t,rfl⟩:=r
   obtain ⟨t',rfl⟩:=r'
   exact call_range_2 (sI I1 q1 q2 q3 q4 q)
noncomputable def ye (wi:TI)(g:TG)(tb:TS):TS:=fun D σ H=>wi σ H fun J H1=>∃ W:Nat→Nat→St→Hp→Prop,(∃ m,W 0 m σ H1)∧∀ i m σ H,W i m σ H →
 (J.stop i H∧D.nx σ H)∨(J.go i H∧∃ N:St→Hp→Prop,(∀ σ' H',N σ' H'→∃ m',m'<m∧W (i+1) m' σ' H')∧∀ x H',J.yld i H x H'→g x σ H' fun σ2 H2=>tb { D with nx:=N,ct:=N,bk:=D.nx } σ2 H2)
noncomputable def mQ (fp:List Addr)(h:Heap):List (Addr × Obj):=fp.filterMap fun b=>(h.get? b).map fun o=>(b,o)
theorem gk {fp:List Addr}{h:Heap}{b:Addr}{o:Obj}(hb:b∈fp)(e:h.get? b=some o):(b,o)∈mQ fp h:=List.mem_filterMap.mpr ⟨b,hb,by rw [e]; rfl⟩
theorem wQ {fp:List Addr}{h:Heap}{p:Addr × Obj}(hp:p∈mQ fp h):p.1∈fp∧h.get? p.1=some p.2:=by
 obtain ⟨b,hb,e⟩:=List.mem_filterMap.mp hp
 cases q:h.get? b with
 | none=>rw [q] at e; cases e
 | some o =>
  rw [q] at e
  have e':(b,o)=p:=Option.some.inj e
  subst e'
  exact ⟨hb,q⟩
theorem Inv.pinned {pins:List (Addr × Obj)}{σ:St}{H:Hp}{s:Shared}{fp:List Addr}(I:Inv X pins σ H s)(hf:∀ b∈fp,kx X pins H b)(ho:∀ b∈fp, ∃ o,s.heap.get? b=some o∧∀ v,o.data≠.cell v):Inv X (pins++mQ fp s.heap) σ H s :=
 I.ka fun p hp=>(List.mem_append.mp hp).elim (fun z=>I.pin p (List.mem_append_right _ z)) fun z=>by
  obtain ⟨hb,e⟩:=wQ z
  obtain ⟨f0,f1,f2,_⟩:=hf p.1 hb
  obtain ⟨o,e',d⟩:=ho p.1 hb
  rw [e] at e'; cases e'
  exact ⟨e,f0,f1,f2,d⟩
theorem Inv.jy {pins pl:List (Addr × Obj)}{σ:St}{H:Hp}{s:Shared}(I:Inv X (pins++pl) σ H s):Inv X pins σ H s:=I.ka fun p hp=>I.pin p (List.mem_append_right _ (List.mem_append_left _ hp))
theorem rh {iter:Expr}{body:List Stmt}{wi:TI}{g:TG}{tb:TS}{pos:Pos}(hp:PassesOwn (model X.prog X.w) X.A X.env X.xe)(hc:X.calm=true)(hi:PI X tg iter wi)(hg:PG X tg g)(hb:PSs X body tb)
  (hs:∀ x,foldedSetIterable iter X.env x=pure x:=by intro _; rfl):PS X (.For tg iter body [] pos) (ye wi g tb):=by
 intro pins s σ H D I h
 refine wpAny_For (thn (hi pins s σ H _ I h) fun v s1 h1=>thn h1 fun itv s2 h2=>?_) hs
 obtain ⟨it,fp,tn,J,H2,e,I2,T,st2,f2,W,⟨m0,w0⟩,turn⟩:=h2
 subst e
 have stat:∀ {H':Hp},(∀ b∈fp,H' b=none)→∀ b∈fp,kx X pins H' b:=fun hn b hb=>⟨hn b hb,(f2 b hb).2⟩
 refine codeAny_forLoop_any (fun n s'=>∃ i σ' H',Inv X pins σ' H' s'∧tn i s'.heap∧(∀ b∈fp,H' b=none)∧W i n σ' H') ?_ m0 ⟨0, σ,H2,I2,st2,fun b hb=>(f2 b hb).1,w0⟩
 rintro n s3 ⟨i, σ3,H3,I3,st3,fr3,w3⟩
 rcases turn i n σ3 H3 w3 with ⟨stop,qn⟩ | ⟨go,N,hN,step⟩
 ·refine wpAny_passesOwn hp (thn (T.done X rfl rfl rfl hc i pins s3 σ3 H3 X.xe I3 (stat fr3) st3 stop) fun r s4 zz_=>?_)
  obtain ⟨hr,I4⟩:=zz_
  subst hr
  exact wpAny_execs_nil ⟨σ3,H3,I4,qn⟩
 ·refine wpAny_passesOwn hp (thn (T.item X rfl rfl rfl hc i pins s3 σ3 H3 X.xe I3 (stat fr3) st3 go) fun r s4 zz_=>?_)
  obtain ⟨u,hr,h4⟩:=zz_
  subst hr
  refine wpAny_passesOwn hp (cD h4 fun _ s5 x H5 I5 r5 zz_=>?_)
  obtain ⟨y5,st5,fr5⟩:=zz_
  have I5':=I5.pinned (stat fr5) (T.obj _ _ st5)
  refine wpAny_passesOwn hp (thn (hg _ s5 σ3 H5 x u _ I5' r5 (step x H5 y5)) fun _ s6 zz_=>?_)
  obtain ⟨σ6,H6,I6,q6⟩:=zz_
  refine wpAny_passesOwn hp (thn (hb _ s6 σ6 H6 _ I6 q6) fun f s7 q7=>?_)
  have again:∀ {σ7:St} {H7:Hp},Inv X (pins++mQ fp s5.heap) σ7 H7 s7→N σ7 H7→∃ m,m<n∧∃ i σ' H',Inv X pins σ' H' s7∧tn i s7.heap∧(∀ b∈fp,H' b=none)∧W i m σ' H':=fun {σ7 H7} I7 n7=>by
   obtain ⟨m',hm,w7⟩:=hN σ7 H7 n7
   refine ⟨m',hm,i+1, σ7,H7,I7.jy,T.keep _ _ _ st5 fun b hb o e=>(I7.pin (b,o) (List.mem_append_right _ (List.mem_append_right _ (gk hb e)))).1,fun b hb=>?_,w7⟩
   obtain ⟨o,e,d⟩:=T.obj _ _ st5 b hb
   exact (I7.pin (b,o) (List.mem_append_right _ (List.mem_append_right _ (gk hb e)))).2.1
  cases f with
  | next=>obtain ⟨σ7,H7,I7,n7⟩:=q7; exact again I7 n7
  | cont=>obtain ⟨σ7,H7,I7,n7⟩:=q7; exact again I7 n7
  | brk=>obtain ⟨σ7,H7,I7,q7⟩:=q7; exact ⟨σ7,H7,I7.jy,q7⟩
  | ret v=>obtain ⟨x7, σ7,H7,I7,r7,q7⟩:=q7; exact ⟨x7, σ7,H7,I7.jy,r7,q7⟩
end
theorem yf {K:PySem.W.Frag}{a:Addr}{xs:List V}{g:TG}{tb:TS}{D:Ends}{σ:St}{H:Hp}(Pv:Nat→St→Hp→Prop)(h0:Pv 0 σ H)(hl:∀ i σ H,i≤xs.length→Pv i σ H→SqL K H a xs)
  (hs:∀ i x σ H,xs[i]?=some x→Pv i σ H→g x σ H fun σ2 H2=>tb { D with nx:=Pv (i+1),ct:=Pv (i+1),bk:=D.nx } σ2 H2) (hd:∀ σ H,Pv xs.length σ H→D.nx σ H) :
  ∃ W:Nat→Nat→St→Hp→Prop,(∃ m,W 0 m σ H)∧∀ i m σ H,W i m σ H →
   ((Itl K a).stop i H∧D.nx σ H)∨((Itl K a).go i H∧∃ N:St→Hp→Prop,(∀ σ' H',N σ' H'→∃ m',m'<m∧W (i+1) m' σ' H')∧∀ x H',(Itl K a).yld i H x H'→g x σ H' fun σ2 H2=>tb { D with nx:=N,ct:=N,bk:=D.nx } σ2 H2):=by
 refine ⟨fun i m σ H=>m=xs.length - i∧i≤xs.length∧Pv i σ H,⟨xs.length,by simp,Nat.zero_le _,h0⟩, ?_⟩
 rintro i m σ H ⟨rfl,hi,p⟩
 have q:=hl i σ H hi p
 by_cases hlt:i<xs.length
 ·refine .inr ⟨⟨xs,xs[i],q,by simp [hlt]⟩,Pv (i+1),fun σ' H' p'=>⟨xs.length - (i+1),by omega,rfl,hlt,p'⟩,fun x H' y=>?_⟩
  obtain ⟨e,y⟩:=y
  subst e
  exact hs i x σ _ (y xs q) p
 ·have e:i=xs.length:=by omega
  subst e
  exact .inl ⟨⟨xs,q,Nat.le_refl _⟩,hd σ H p⟩
theorem Al {K:PySem.W.Frag}{a:Addr}{xs:List V}{g:TG}{tb:TS}{D:Ends}{σ:St}{H:Hp}(Pv:Nat→St→Hp→Prop)(h0:Pv 0 σ H)(hl:∀ i σ H,i≤xs.length→Pv i σ H→SqT K H a xs)
  (hs:∀ i x σ H,xs[i]?=some x→Pv i σ H→g x σ H fun σ2 H2=>tb { D with nx:=Pv (i+1),ct:=Pv (i+1),bk:=D.nx } σ2 H2) (hd:∀ σ H,Pv xs.length σ H→D.nx σ H) :
  ∃ W:Nat→Nat→St→Hp→Prop,(∃ m,W 0 m σ H)∧∀ i m σ H,W i m σ H →
   ((Itt K a).stop i H∧D.nx σ H)∨((Itt K a).go i H∧∃ N:St→Hp→Prop,(∀ σ' H',N σ' H'→∃ m',m'<m∧W (i+1) m' σ' H')∧∀ x H',(Itt K a).yld i H x H'→g x σ H' fun σ2 H2=>tb { D with nx:=N,ct:=N,bk:=D.nx } σ2 H2):=by
 refine ⟨fun i m σ H=>m=xs.length - i∧i≤xs.length∧Pv i σ H,⟨xs.length,by simp,Nat.zero_le _,h0⟩, ?_⟩
 rintro i m σ H ⟨rfl,hi,p⟩
 have q:=hl i σ H hi p
 by_cases hlt:i<xs.length
 ·refine .inr ⟨⟨xs,xs[i],q,by simp [hlt]⟩,Pv (i+1),fun σ' H' p'=>⟨xs.length - (i+1),by omega,rfl,hlt,p'⟩,fun x H' y=>?_⟩
  obtain ⟨e,y⟩:=y
  subst e
  exact hs i x σ _ (y xs q) p
 ·have e:i=xs.length:=by omega
  subst e
  exact .inl ⟨⟨xs,q,Nat.le_refl _⟩,hd σ H p⟩
end L2
namespace L2
open PySem PySem.Spec PyProof.Rows
noncomputable abbrev R2:=V→V→Hp→VK→Prop
noncomputable def OpR (X:Cx)(f:Value→Value→Sem Value)(r:R2):Prop :=
 ∀ (pins:List (Addr × Obj)) (s:Shared) (σ:St) (H:Hp) (x y:V) (v u:Value) (Q:VK),Inv X pins σ H s→RelV x v→RelV y u→r x y H Q →
  wpAny (model X.prog X.w) X.A (f v u) (EP X pins σ Q) X.xe s
noncomputable def UnR (X:Cx)(f:Value→Sem Value)(r:V→Hp→VK→Prop):Prop :=
 ∀ (pins:List (Addr × Obj)) (s:Shared) (σ:St) (H:Hp) (x:V) (v:Value) (Q:VK),Inv X pins σ H s→RelV x v→r x H Q →
  wpAny (model X.prog X.w) X.A (f v) (EP X pins σ Q) X.xe s
noncomputable def jz (X:Cx)(f:Value)(r:List V→Hp→VK→Prop):Prop :=
 ∀ (pins:List (Addr × Obj)) (s:Shared) (σ:St) (H:Hp) (xs:List V) (us:List Value) (Q:VK),Inv X pins σ H s→Vals xs us→r xs H Q →
  wpAny (model X.prog X.w) X.A (call f us) (EP X pins σ Q) X.xe s
noncomputable def tOp (r:R2)(ta tb:TE):TE:=fun σ H Q=>ta σ H fun x H1=>tb σ H1 fun y H2=>r x y H2 Q
noncomputable def tUn (r:V→Hp→VK→Prop)(ta:TE):TE:=fun σ H Q=>ta σ H fun x H1=>r x H1 Q
noncomputable def rI (C:Int→Int→Prop)(g:Int→Int→V):R2:=fun x y H Q=>∃ i j,x=.int i∧y=.int j∧C i j∧Q (g i j) H
noncomputable def rI0 (g:Int→Int→V):R2:=fun x y H Q=>∃ i j,x=.int i∧y=.int j∧Q (g i j) H
noncomputable def rU (g:Int→V):V→Hp→VK→Prop:=fun x H Q=>∃ i,x=.int i∧Q (g i) H
section
variable {X:Cx}{a b c:Expr}{ta tb tc:TE}{pos:Pos}
theorem Dn (ha:PE X a ta)(hb:PE X b tb){pins:List (Addr × Obj)}{s:Shared}{σ:St}{H:Hp}{R:V→V→Hp→Prop}(I:Inv X pins σ H s)
  (h:ta σ H fun x H1=>tb σ H1 fun y H2=>R x y H2) {Q:Value→Shared→Prop} {f:Value→Value→Sem Value}
  (hf:∀ v u s2 x y H2,Inv X pins σ H2 s2→RelV x v→RelV y u→R x y H2→wpAny (model X.prog X.w) X.A (f v u) Q X.xe s2) :
  wpAny (model X.prog X.w) X.A (eval a X.env) (fun v s₁=>wpAny (model X.prog X.w) X.A (eval b X.env) (fun u s₂=>wpAny (model X.prog X.w) X.A (f v u) Q X.xe s₂) X.xe s₁) X.xe s:=by
 refine cD (ha pins s σ H _ I h) fun v s1 x H1 I1 r1 q1=>?_
 refine cD (hb pins s1 σ H1 _ I1 q1) fun u s2 y H2 I2 r2 q2=>?_
 exact hf v u s2 x y H2 I2 r1 r2 q2
theorem nI {op:Operator}{r:R2}(ho:OpR X (binaryOp op) r)(ha:PE X a ta)(hb:PE X b tb):PE X (.BinOp a op b pos) (tOp r ta tb):=by
 intro pins s σ H Q I h
 exact wpAny_BinOp (Dn ha hb I h fun v u s2 x y H2 I2 rx ry q=>ho pins s2 σ H2 x y v u Q I2 rx ry q)
theorem FU {op:UnaryOp}{r:V→Hp→VK→Prop}(ho:UnR X (unaryOp op) r)(ha:PE X a ta):PE X (.UnaryOp op a pos) (tUn r ta):=by
 intro pins s σ H Q I h
 exact UnaryOp_ (cD (ha pins s σ H _ I h) fun v s1 x H1 I1 r1 q1=>ho pins s1 σ H1 x v Q I1 r1 q1)
theorem opI {f:Value→Value→Sem Value}{C:Int→Int→Prop}{g:Int→Int→Int}
  (rule:∀ (i j:Int) (t u:Tok) (s:Shared) (Q:Value→Shared→Prop) (E:Value→Shared→Prop),C i j→Q (.int (g i j) s.toks) { s with toks:=s.toks+1 }→wpAny (model X.prog X.w) X.A (f (.int i t) (.int j u)) Q E s) :
  OpR X f (rI C fun i j=>.int (g i j)):=by
 intro pins s σ H x y v u Q I rx ry h
 obtain ⟨i,j,rfl,rfl,hc,q⟩:=h
 obtain ⟨t,rfl⟩:=rx
 obtain ⟨t',rfl⟩:=ry
 exact rule i j t t' s _ _ hc ⟨.int (g i j),H,I.tok _,⟨_,rfl⟩,q⟩
theorem FV {f:Value→Value→Sem Value}{g:Int→Int→Int}
  (rule:∀ (i j:Int) (t u:Tok) (s:Shared) (Q:Value→Shared→Prop) (E:Value→Shared→Prop),Q (.int (g i j) s.toks) { s with toks:=s.toks+1 }→wpAny (model X.prog X.w) X.A (f (.int i t) (.int j u)) Q E s) :
  OpR X f (rI0 fun i j=>.int (g i j)):=by
 intro pins s σ H x y v u Q I rx ry h
 obtain ⟨i,j,rfl,rfl,q⟩:=h
 obtain ⟨t,rfl⟩:=rx
 obtain ⟨t',rfl⟩:=ry
 exact rule i j t t' s _ _ ⟨.int (g i j),H,I.tok _,⟨_,rfl⟩,q⟩
theorem Dp {f:Value→Value→Sem Value}{g:Int→Int→Bool}
  (rule:∀ (i j:Int) (t u:Tok) (s:Shared) (Q:Value→Shared→Prop) (E:Value→Shared→Prop),Q (.bool (g i j)) s→wpAny (model X.prog X.w) X.A (f (.int i t) (.int j u)) Q E s) :
  OpR X f (rI0 fun i j=>.bl (g i j)):=by
 intro pins s σ H x y v u Q I rx ry h
 obtain ⟨i,j,rfl,rfl,q⟩:=h
 obtain ⟨t,rfl⟩:=rx
 obtain ⟨t',rfl⟩:=ry
 exact rule i j t t' s _ _ ⟨.bl (g i j),H,I,rfl,q⟩
noncomputable def Io (i j:Int):Prop:=0<j∧j<1073741824
noncomputable def Ip (i j:Int):Prop:=0≤j∧j≤1000000∧i.natAbs<2 ^ 64
noncomputable def yg (i j:Int):Prop:=(-(2 ^ 64)<i∧i<2 ^ 64)∨(-(2 ^ 64)<j∧j<2 ^ 64)
theorem yg.ok {i j:Int}(h:yg i j):IntMulOk i j:=by
 rcases h with ⟨h1,h2⟩ | ⟨h1,h2⟩
 ·exact .of_left (intBits_le_64 h1 h2)
 ·exact .of_right (intBits_le_64 h1 h2)
theorem Dq:OpR X (binaryOp .Add) (rI0 fun i j=>.int (i+j)):=FV fun _ _ _ _ _ _ _ q=>add_int q
theorem Dr:OpR X (binaryOp .Sub) (rI0 fun i j=>.int (i - j)):=FV fun _ _ _ _ _ _ _ q=>sub_int q
theorem Ds:OpR X (binaryOp .Mult) (rI yg fun i j=>.int (i * j)):=opI fun _ _ _ _ _ _ _ hc q=>mul_int q hc.ok
theorem Am:OpR X (binaryOp .FloorDiv) (rI Io fun i j=>.int (i / j)):=opI fun i j _ _ _ _ _ hc q=>by
 have h1:(0:Int)<j:=hc.1
 have h2:j<1073741824:=hc.2
 exact floordiv_int (by omega) (by rw [Int.fdiv_eq_ediv_of_nonneg i (by omega)]; exact q) (.inl (PyProof.noPylong_small (by omega)))
theorem Dt:OpR X (binaryOp .Mod) (rI (fun _ j=>0<j) fun i j=>.int (i % j)):=opI fun i j _ _ _ _ _ hc q=>by
 have h1:(0:Int)<j:=hc
 exact mod_int' (by omega) (by rw [Int.fmod_eq_emod_of_nonneg i (by omega)]; exact q)
theorem Du:OpR X (binaryOp .Pow) (rI Ip fun i j=>.int (i ^ j.toNat)):=opI fun _ _ _ _ _ _ _ hc q=>pow_int_small hc.1 hc.2.1 hc.2.2 q
theorem unI {f:Value→Sem Value}{g:Int→Int}
  (rule:∀ (i:Int) (t:Tok) (s:Shared) (Q:Value→Shared→Prop) (E:Value→Shared→Prop),Q (.int (g i) s.toks) { s with toks:=s.toks+1 }→wpAny (model X.prog X.w) X.A (f (.int i t)) Q E s) :
  UnR X f (rU fun i=>.int (g i)):=by
 intro pins s σ H x v Q I rx h
 obtain ⟨i,rfl,q⟩:=h
 obtain ⟨t,rfl⟩:=rx
 exact rule i t s _ _ ⟨.int (g i),H,I.tok _,⟨_,rfl⟩,q⟩
theorem Dv:UnR X (unaryOp .USub) (rU fun i=>.int (-i)):=unI fun _ _ _ _ _ q=>neg_int q
end
section
variable {X:Cx}{a b c:Expr}{ta tb tc:TE}{pos:Pos}
theorem FW:OpR X (compareOp .Lt) (rI0 fun i j=>.bl (decide (i<j))):=Dp fun _ _ _ _ _ _ _ q=>lt_int q
theorem FX:OpR X (compareOp .LtE) (rI0 fun i j=>.bl (decide (i≤j))):=Dp fun _ _ _ _ _ _ _ q=>le_int q
theorem FY:OpR X (compareOp .Gt) (rI0 fun i j=>.bl (decide (j<i))):=Dp fun _ _ _ _ _ _ _ q=>gt_int q
theorem OpR.or {f:Value→Value→Sem Value}{r r':R2}(h:OpR X f r)(h':OpR X f r'):OpR X f (fun x y H Q=>r x y H Q∨r' x y H Q):=by
 intro pins s σ H x y v u Q I rx ry q
 rcases q with q | q
 ·exact h pins s σ H x y v u Q I rx ry q
 ·exact h' pins s σ H x y v u Q I rx ry q
theorem mR (b:Expr){op:CmpOp}(h:op≠.In:=by decide)(h2:op≠.NotIn:=by decide):behindInMarks op b=false:=by
 have e1:(op == CmpOp.In)=false:=by cases op <;> first | rfl | exact absurd rfl h
 have e2:(op == CmpOp.NotIn)=false:=by cases op <;> first | rfl | exact absurd rfl h2
 cases b <;> simp [behindInMarks,e1,e2]
theorem An {op:CmpOp}{r:R2}(ho:OpR X (compareOp op) r)(ha:PE X a ta)(hb:PE X b tb)(hm:behindInMarks op b=false):PE X (.Compare a [op] [b] pos) (tOp r ta tb):=by
 intro pins s σ H Q I h
 exact wpAny_Compare1 (Dn ha hb I h fun v u s2 x y H2 I2 rx ry q=>ho pins s2 σ H2 x y v u Q I2 rx ry q) hm
noncomputable def Co (t:TE):TT:=fun σ H Q=>t σ H fun x H'=>∃ k,x=.bl k∧Q k H'
theorem Ao {op:CmpOp}{r:R2}(ho:OpR X (compareOp op) r)(ha:PE X a ta)(hb:PE X b tb)(hm:behindInMarks op b=false):PT X (.Compare a [op] [b] pos) (Co (tOp r ta tb)):=by
 intro pins s σ H Q I h
 refine wpAny_isTrue_Compare1 (cD (ha pins s σ H _ I h) fun v s1 x H1 I1 r1 q1=>cD (hb pins s1 σ H1 _ I1 q1) fun u s2 y H2 I2 r2 q2 =>
  cD (ho pins s2 σ H2 x y v u _ I2 r1 r2 q2) fun c s3 z H3 I3 r3 ⟨k,e,q3⟩=>?_) hm
 subst e
 cases r3
 exact wpAny_truthy_bool ⟨H3,I3,q3⟩
theorem ri:(sizeLine:Nat)<2 ^ 63:=by rw [sizeLine_eq]; decide
theorem uy:OpR X (binaryOp .Add) (fun x y H Q=>∃ i j,x=.str i∧y=.str j∧i.length+j.length≤sizeLine∧Q (.str (i++j)) H):=by
 intro pins s σ H x y v u Q I rx ry h
 obtain ⟨i,j,rfl,rfl,hz,q⟩:=h
 obtain ⟨t,rfl⟩:=rx
 obtain ⟨t',rfl⟩:=ry
 exact add_str (fun t' tk=>⟨.str (i++j),H,I.tok _,⟨_,rfl⟩,q⟩) hz
theorem vals1 {x:V}{us:List Value}(r:Vals [x] us):∃ u,us=[u]∧RelV x u:=by
 cases r with
 | cons r1 r2=>cases r2; exact ⟨_,rfl,r1⟩
theorem vals2 {x y:V}{us:List Value}(r:Vals [x,y] us):∃ u w',us=[u,w']∧RelV x u∧RelV y w':=by
 cases r with
 | cons r1 r2 =>
  cases r2 with
  | cons r3 r4=>cases r4; exact ⟨_,_,rfl,r1,r3⟩
theorem wR (hc:X.calm=true):jz X (.builtin "max") (fun xs H Q=>∃ i j,xs=[.int i,.int j]∧Q (.int (if j > i then j else i)) H):=by
 intro pins s σ H xs us Q I r h
 obtain ⟨i,j,rfl,q⟩:=h
 obtain ⟨u,w',rfl,⟨t,rfl⟩,⟨t',rfl⟩⟩:=vals2 r
 refine max_two_ints (I.ok.hd hc) fun h' tk k=>⟨_,H,I.kept k, ?_,q⟩
 by_cases hj:j > i
 ·rw [if_pos hj,if_pos hj]; exact ⟨_,rfl⟩
 ·rw [if_neg hj,if_neg hj]; exact ⟨_,rfl⟩
theorem rj:jz X (.type "str") (fun xs H Q=>∃ i,xs=[.int i]∧i.natAbs.log2<1920∧Q (.str (toString i)) H):=by
 intro pins s σ H xs us Q I r h
 obtain ⟨i,rfl,hz,q⟩:=h
 obtain ⟨u,rfl,t,rfl⟩:=vals1 r
 exact PySem.P.str_of_int hz ⟨.str _,H,I.tok _,⟨_,rfl⟩,q⟩
noncomputable def FZ (K:PySem.W.Frag)(x:V)(H:Hp)(n:Nat):Prop :=
 match x with
 | .str y=>y.length≤sizeLine∧n=y.length
 | .byt y=>y.size≤sizeLine∧n=y.size
 | .ref p=>(∃ xs,SqL K H p xs∧n=xs.length)∨∃ xs,SqT K H p xs∧n=xs.length
 | _=>False
theorem yh:jz X (.builtin "len") (fun xs H Q=>∃ x n,xs=[x]∧FZ X.K x H n∧Q (.int n) H):=by
 intro pins s σ H xs us Q I r h
 obtain ⟨x,n,rfl,e,q⟩:=h
 obtain ⟨u,rfl,rx⟩:=vals1 r
 have hl:=ri
 have hs:sizeLine=16777216:=sizeLine_eq
 cases x with
 | str y =>
  obtain ⟨t,rfl⟩:=rx
  obtain ⟨hy,e'⟩:y.length≤sizeLine∧n=y.length:=e
  subst e'
  exact len_str (by omega) ⟨.int _,H,I.tok _,⟨_,rfl⟩,q⟩
 | byt y =>
  obtain ⟨t,rfl⟩:=rx
  obtain ⟨hy,e'⟩:y.size≤sizeLine∧n=y.size:=e
  subst e'
  exact PySem.W.len_bytes (by omega) ⟨.int _,H,I.tok _,⟨_,rfl⟩,q⟩
 | ref p =>
  cases rx
  have e':(∃ xs,SqL X.K H p xs∧n=xs.length)∨∃ xs,SqT X.K H p xs∧n=xs.length:=e
  rcases e' with ⟨xs,hx,e'⟩ | ⟨xs,hx,e'⟩
  ·subst e'
   obtain ⟨its,r',pl,hz⟩:=I.list hx
   have hlen:=r'.length
   exact Calls.call_len_list pl.isList (by simp only [List.size_toArray]; omega) ⟨.int xs.length,H,I.tok _,⟨_,by simp only [List.size_toArray]; rw [hlen]⟩,q⟩
  ·subst e'
   obtain ⟨its,r',pl,hz⟩:=I.tuple hx
   have hlen:=r'.length
   exact len_tuple pl (by simp only [List.size_toArray]; omega) ⟨.int xs.length,H,I.tok _,⟨_,by simp only [List.size_toArray]; rw [hlen]⟩,q⟩
 | _=>exact (show False from e).elim
end
end L2
namespace L2
open PySem PySem.Spec PyProof.Rows
structure uz (h:Heap)(x dx C:Addr)(mA:Str→Option Value):Prop where
 obj:h.get? x=some (PySem.W.instObj C dx)
 ns:h.Ns1 dx mA
 ne:dx≠x
theorem wU {h:Heap}{dx:Addr}{mA:Str→Option Value}(n:h.Ns1 dx mA):∃ od,h.get? dx=some od∧∀ name,PySem.W.lookIn name od=some (mA name):=by
 obtain ⟨o,es,ep,ho,hd,hk,_,hm⟩:=n
 refine ⟨o,ho,fun name=>?_⟩
 have e:=hm name
 unfold nsFind findBy at e
 rw [← Array.find?_toList] at e
 unfold PySem.W.lookIn
 rw [hd]
 dsimp only
 split
 ·rename_i y q
  rw [q] at e
  exact congrArg some e
 ·rename_i q
  rw [q] at e
  have a:es.toList.any (·.refKey)=false:=by
   rw [List.any_eq_false]
   intro y hy
   obtain ⟨z,t,hkey⟩:=hk y (Array.mem_toList_iff.mp hy)
   simp [DictEntry.refKey,hkey]
  have a' : ¬ es.toList.any (·.refKey)=true:=by rw [a]; exact Bool.false_ne_true
  rw [if_neg a']
  exact congrArg some e
theorem uz.look {h:Heap}{x dx C:Addr}{mA:Str→Option Value}(I:uz h x dx C mA):∃ od,PySem.W.InstAt h x (PySem.W.instObj C dx) C (some od)∧∀ name,PySem.W.lookIn name od=some (mA name) :=
 let ⟨od,ho,hl⟩:=wU I.ns
 ⟨od,⟨I.obj,rfl,rfl,ho⟩,hl⟩
section
variable {prog:Program}{w:World}{A:Around}{E:Value→Shared→Prop}{s:Shared}{K:PySem.W.Frag}{x dx C f:Addr}{mA:Str→Option Value}{name:Str}{v:Value}
theorem get_map {expr:Bool}{Q:Value→Shared→Prop}(X:K.In s.heap)(I:uz s.heap x dx C mA)(hg:PySem.W.plainGet K C name=true)(hh:PySem.W.hasDictIn K C=true)
  (ha:PySem.W.findIn K (.ref C) name=some none) (hv:mA name=some v) (hv':PySem.W.handedIn v=true) (h:Q v { s with toks:=s.toks+1 }) :
  wpAny (model prog w) A (getAttr (.ref x) name expr) Q E s:=by
 obtain ⟨od,J,hl⟩:=I.look
 exact PySem.W.get_value X J (PySem.W.plainGet_of hg).1 (PySem.W.findObj_own hh ha rfl (by rw [hl,hv])) hv' h
theorem yi {pl:Sem Bool}{Q:Value × List Value→Shared→Prop}(X:K.In s.heap)(I:uz s.heap x dx C mA)(hg:PySem.W.plainGet K C name=true)
  (hf:PySem.W.findIn K (.ref C) name=some (some (.ref f))) (ht:PySem.W.isFn K (.ref f)=true) (hv:mA name=none) (h:Q (.ref f,[.ref x]) s) :
  wpAny (model prog w) A (getMethod (.ref x) name pl) Q E s:=by
 obtain ⟨od,J,hl⟩:=I.look
 exact PySem.W.method_fn X J (PySem.W.plainGet_of hg).1 (PySem.W.plainGet_of hg).2 hf (beq_iff_eq.mp ht) (by show (PySem.W.lookIn name od).map (·.isSome)=some false; rw [hl,hv]; rfl) h
theorem Ap {ns:List Str}{Q:Unit→Shared→Prop}(X:K.In s.heap)(I:uz s.heap x dx C mA)
  (hs:PySem.W.findIn K (.ref C) "__setattr__"=some (some (.builtin "object.__setattr__"))) (hp:PySem.W.plainOver K C=true) (ht:PySem.W.takerIn K C name=some none) (hh:PySem.W.hasDictIn K C=true)
  (hw:PySem.Within mA ns) (hsz:ns.length≤sizeLine)
  (h:∀ h',uz h' x dx C (fun y=>if y=name then some v else mA y)→Heap.SameBut dx s.heap h'→Q () { s with heap:=h',toks:=s.toks+2 }) :
  wpAny (model prog w) A (setAttr (.ref x) name v) Q E s:=by
 obtain ⟨od,J,hl⟩:=I.look
 refine PySem.W.set_plain X J hs (PySem.W.osa_open (s:={ s with toks:=s.toks+1 }) (r:=none) X J hp ht fun b=>?_)
 obtain ⟨cd,hc,hd'⟩:=PySem.W.any_some hh
 have hx:s.heap.get? x=some ⟨.ref C,some dx,.plain, #[]⟩:=I.obj
 refine wpAny_bind (wpAny_pure (wpAny_bind (wpAny_bind (wpAny_loadPart hx (wpAny_bind (PySem.W.Looks.here (s:={ s with toks:=s.toks+1 }) (PySem.W.looks_clsIn X hc) ?_))))))
 rw [hd']
 refine wpAny_pure (a:=some dx) (wpAny_bind (wpAny_pure (wpAny_bind ?_)))
 refine wpAny_nsSet1 (s:={ s with toks:=s.toks+1 }) I.ns fun h' hn2 hs2=>?_
 obtain ⟨oD,esD,epD,hoD,hdD,hcD⟩:=hn2.count (PySem.Within.cons name v hw)
 refine wpAny_bind (wpAny_lookBehind hoD (by rw [hdD]; exact pastItsLine_dict (Nat.le_trans hcD (by rw [List.length_cons]; omega))) ?_)
 exact wpAny_pure (h _ ⟨(hs2.2 _ (Ne.symm I.ne)).trans I.obj,hn2,I.ne⟩ hs2)
theorem yj {R:Result→Shared→Prop}{vs:List Value}{kw:List (Str × Value)}(X:K.In s.heap)(hm:PySem.W.makesIn K C=true)
  (hi:PySem.W.findIn K (.ref C) "__init__"=some (some (.ref f))) (hf:PySem.W.typeIn K (.ref f)=some (.type "function"))
  (h:codeAny (model prog w) (A.under (.builtin "type.__call__" ⟨.ref C::vs,kw⟩)) (.call (.ref f) ⟨.ref (s.heap.objs.size+1)::vs,kw⟩) (PySem.W.InitBack (s.heap.objs.size+1) R)
   { s with heap:=(s.heap.push PySem.W.emptyDict).push (PySem.W.instObj C s.heap.objs.size) }) :
  codeAny (model prog w) A (.call (.ref C) ⟨vs,kw⟩) R s:=by
 obtain ⟨hh,g,d,t,os⟩:=s
 exact PySem.W.make_core (PySem.W.makes_of X hm) (PySem.W.looks_findIn X hi) (fun self=>PySem.W.bind_fn X self hf) (.inl rfl) h
end
noncomputable def jA (f:Str)(v:V):List (Str × V)→List (Str × V)
 | []=>[(f,v)]
 | (g,x)::r=>if g=f then (g,v)::r else (g,x)::jA f v r
theorem nJ (f g:Str)(v:V):∀ fs:List (Str × V),(jA f v fs).lookup g=if g=f then some v else fs.lookup g
 | []=>by
  show List.lookup g [(f,v)]=_
  by_cases h:g=f
  ·have hb:(g == f)=true:=beq_iff_eq.mpr h
   simp only [List.lookup,hb,if_pos h]
  ·have hb:(g == f)=false:=beq_eq_false_iff_ne.mpr h
   simp only [List.lookup,hb,if_neg h]
 | (k,x)::r=>by
  have ih:=nJ f g v r
  rw [show jA f v ((k,x)::r)=(if k=f then (k,v)::r else (k,x)::jA f v r) from rfl]
  by_cases hk:k=f
  ·rw [if_pos hk]
   by_cases h:g=k
   ·have hb:(g == k)=true:=beq_iff_eq.mpr h
    simp only [List.lookup,hb,if_pos (h.trans hk)]
   ·have hb:(g == k)=false:=beq_eq_false_iff_ne.mpr h
    simp only [List.lookup,hb,if_neg (fun e:g=f=>h (e.trans hk.symm))]
  ·rw [if_neg hk]
   by_cases h:g=k
   ·have hb:(g == k)=true:=beq_iff_eq.mpr h
    simp only [List.lookup,hb,if_neg (fun e:g=f=>hk (h.symm.trans e))]
   ·have hb:(g == k)=false:=beq_eq_false_iff_ne.mpr h
    simp only [List.lookup,hb]
    exact ih
theorem mS (f:Str)(v:V):∀ fs:List (Str × V),f∈(jA f v fs).map (·.1)∧∀ g,g∈fs.map (·.1)→g∈(jA f v fs).map (·.1)
 | []=>⟨by simp [jA],fun g h=>by simp at h⟩
 | (k,x)::r=>by
  obtain ⟨i1,i2⟩:=mS f v r
  rw [show jA f v ((k,x)::r)=(if k=f then (k,v)::r else (k,x)::jA f v r) from rfl]
  by_cases hk:k=f
  ·rw [if_pos hk]
   subst hk
   exact ⟨by simp,fun g h=>by simpa using h⟩
  ·rw [if_neg hk]
   refine ⟨?_,fun g h=>?_⟩
   ·rw [List.map_cons]
    exact List.mem_cons_of_mem _ i1
   ·rw [List.map_cons] at h ⊢
    rcases List.mem_cons.mp h with e | e
    ·exact List.mem_cons.mpr (.inl e)
    ·exact List.mem_cons_of_mem _ (i2 g e)
theorem nK (f:Str)(v:V):∀ fs:List (Str × V),(jA f v fs).length≤fs.length+1
 | []=>by simp [jA]
 | (k,x)::r=>by
  have ih:=nK f v r
  rw [show jA f v ((k,x)::r)=(if k=f then (k,v)::r else (k,x)::jA f v r) from rfl]
  by_cases hk:k=f
  ·rw [if_pos hk,List.length_cons,List.length_cons]; omega
  ·rw [if_neg hk,List.length_cons,List.length_cons]; omega
theorem pX.some_of {v:V}{o:Option Value}(r:pX (some v) o):∃ u,o=some u∧RelV v u:=by
 cases o with
 | none=>exact (show False from r).elim
 | some u=>exact ⟨u,rfl,r⟩
theorem pX.none_of {o:Option Value}(r:pX none o):o=none:=by
 cases o with
 | none=>rfl
 | some u=>exact (show False from r).elim
theorem wV {v:V}{u:Value}(r:RelV v u):PySem.W.handedIn u=true:=by
 cases v with
 | non=>cases (show u=Value.none from r); rfl
 | bl b=>cases (show u=Value.bool b from r); rfl
 | int i=>obtain ⟨t,e⟩:=(show ∃ t,u=Value.int i t from r); cases e; rfl
 | str x=>obtain ⟨t,e⟩:=(show ∃ t,u=Value.str x t from r); cases e; rfl
 | byt b=>obtain ⟨t,e⟩:=(show ∃ t,u=Value.bytes b t from r); cases e; rfl
 | flt b=>obtain ⟨t,e⟩:=(show ∃ t,u=Value.float b t from r); cases e; rfl
 | ref a=>cases (show u=Value.ref a from r); rfl
 | ty n=>cases (show u=Value.type n from r); rfl
section
variable {P:Program}{w:World}{H H':Hp}{h h':Heap}{a C dx:Addr}{fs fs':List (Str × V)}
theorem o9 (hok:HOk P w H h)(e:H a=some (.ins C dx fs)):∃ mA,uz h a dx C mA∧(∀ f,pX (fs.lookup f) (mA f))∧PySem.Within mA (fs.map (·.1))∧fs.length≤1000∧H dx=some (.own a):=by
 obtain ⟨d,z,ne,ob,mA,n,r,q⟩:=(show fy P w H h a (.ins C dx fs) from hok a _ e)
 exact ⟨mA,⟨ob,n,ne⟩,r,q,z,d⟩
end
structure Cls (K:PySem.W.Frag)(C:Addr):Prop where
 pg:PySem.W.plainGet K C Str.empty=true
 hd:PySem.W.hasDictIn K C=true
 po:PySem.W.plainOver K C=true
 sa:PySem.W.findIn K (.ref C) "__setattr__"=some (some (.builtin "object.__setattr__"))
theorem Cls.get {K:PySem.W.Frag}{C:Addr}(c:Cls K C)(f:Str):PySem.W.plainGet K C f=true:=c.pg
noncomputable def j6 (K:PySem.W.Frag)(C:Addr)(f:Str):Prop:=PySem.W.findIn K (.ref C) f=some none
theorem j6.G0 {K:PySem.W.Frag}{C:Addr}{f:Str}(n:j6 K C f):PySem.W.takerIn K C f=some none:=by
 unfold PySem.W.takerIn
 rw [show PySem.W.findIn K (.ref C) f=some none from n]
 rfl
structure Meth (K:PySem.W.Frag)(C:Addr)(m:Str)(f:Addr):Prop where
 at_:PySem.W.findIn K (.ref C) m=some (some (.ref f))
 fn:PySem.W.isFn K (.ref f)=true
 kp:PySem.W.keepIn K (.ref f)=true
section
variable {X:Cx}{pins:List (Addr × Obj)}{σ:St}{H:Hp}{s:Shared}{a C dx:Addr}{fs:List (Str × V)}{f:Str}{v:V}{A:Around}{E:Value→Shared→Prop}
theorem uA {b:Bool}{Q:Value→Shared→Prop}(I:Inv X pins σ H s)(e:H a=some (.ins C dx fs))(c:Cls X.K C)(n:j6 X.K C f)(l:fs.lookup f=some v)
  (h:∀ u s',Inv X pins σ H s'→RelV v u→Q u s'):wpAny (model X.prog X.w) A (getAttr (.ref a) f b) Q E s:=by
 obtain ⟨mA,O,r,_,_,_⟩:=o9 I.hok e
 obtain ⟨u,hu,ru⟩:=pX.some_of (v:=v) (o:=mA f) (by rw [← l]; exact r f)
 exact get_map I.kIn O (c.get f) c.hd n hu (wV ru) (h u _ (I.tok _) ru)
theorem oI {m:Str}{g:Addr}{pl:Sem Bool}{Q:Value × List Value→Shared→Prop}(I:Inv X pins σ H s)(e:H a=some (.ins C dx fs))(c:Cls X.K C)(k:Meth X.K C m g)(l:fs.lookup m=none)
  (h:Q (.ref g,[.ref a]) s):wpAny (model X.prog X.w) A (getMethod (.ref a) m pl) Q E s:=by
 obtain ⟨mA,O,r,_,_,_⟩:=o9 I.hok e
 have hn:mA m=none:=pX.none_of (by rw [← l]; exact r m)
 exact yi I.kIn O (c.get m) k.at_ k.fn hn h
theorem uB {y:V}{u:Value}{Q:Unit→Shared→Prop}(I:Inv X pins σ H s)(e:H a=some (.ins C dx fs))(c:Cls X.K C)(n:j6 X.K C f)(hl:fs.length<1000)(ry:RelV y u)
  (h:∀ s',Inv X pins σ (upd H a (.ins C dx (jA f y fs))) s'→Q () s'):wpAny (model X.prog X.w) A (setAttr (.ref a) f u) Q E s:=by
 obtain ⟨mA,O,r,wi,_,ho⟩:=o9 I.hok e
 have hz:(fs.map (·.1)).length≤sizeLine:=by rw [List.length_map,sizeLine_eq]; omega
 refine Ap I.kIn O c.sa c.po n.G0 c.hd wi hz fun h' O' sb=>h _ ?_
 have hd:∃ o,h'.get? dx=some o:=let ⟨o,_,_,e',_⟩:=O'.ns; ⟨o,e'⟩
 refine I.write (x:=a) (e:=dx) (by rw [e]; exact True.intro) (.inr ho) (fun b q hb z=>(sb.2 b hb).trans z) hd ?_
 refine ⟨by rw [aH O.ne]; exact ho, ?_,O.ne,O'.obj,_,O'.ns,fun g=>?_,fun g hg=>?_⟩
 ·have:=nK f y fs; omega
 ·show pX ((jA f y fs).lookup g) (if g=f then some u else mA g)
  rw [nJ]
  by_cases q:g=f
  ·rw [if_pos q,if_pos q]; exact ry
  ·rw [if_neg q,if_neg q]; exact r g
 ·by_cases q:g=f
  ·rw [q]; exact (mS f y fs).1
  ·refine (mS f y fs).2 g (wi g fun z=>hg ?_)
   show (if g=f then some u else mA g)=none
   rw [if_neg q]; exact z
theorem Inv.made (I:Inv X pins σ H s):Inv X pins σ (upd (upd H s.heap.objs.size (.own (s.heap.objs.size+1))) (s.heap.objs.size+1) (.ins C s.heap.objs.size []))
  { s with heap:=(s.heap.push PySem.W.emptyDict).push (PySem.W.instObj C s.heap.objs.size) }:=by
 have e1:(s.heap.push PySem.W.emptyDict).get? s.heap.objs.size=some PySem.W.emptyDict:=Heap.get?_push_size s.heap rfl
 have e2:((s.heap.push PySem.W.emptyDict).push (PySem.W.instObj C s.heap.objs.size)).get? (s.heap.objs.size+1)=some (PySem.W.instObj C s.heap.objs.size):=by
  have:=Heap.get?_push_size (s.heap.push PySem.W.emptyDict) (o:=PySem.W.instObj C s.heap.objs.size) rfl
  rwa [Heap.size_push] at this
 have e3:(s.heap.push PySem.W.emptyDict).Ns s.heap.objs.size (fun _=>none):=⟨PySem.W.emptyDict, #[],_,e1,rfl,(fun e he=>absurd he (by simp)),fun _=>rfl⟩
 have I1:=I.laid (a:=s.heap.objs.size) (o:=.own (s.heap.objs.size+1)) (h':=s.heap.push PySem.W.emptyDict) (t':=s.toks) (fun b u q=>Heap.get?_push_of_some _ q) (Nat.le_refl _) ⟨_,e1⟩
 refine I1.laid (a:=s.heap.objs.size+1) (o:=.ins C s.heap.objs.size []) (t':=s.toks) (fun b u q=>Heap.get?_push_of_some _ q) (Nat.le_of_eq (Heap.size_push _ _)) ?_
 have ne:s.heap.objs.size≠s.heap.objs.size+1:=Nat.ne_of_lt (Nat.lt_succ_self _)
 refine ⟨by rw [aH ne,bD],Nat.zero_le _,ne,e2,fun _=>none,(Heap.Ns1.of_empty e3).at fun o q=>Heap.get?_push_of_some _ q,fun _=>True.intro,fun y hy=>absurd rfl hy⟩
theorem Aq {prog:Program}{w:World}{env:Env}{e:Expr}{f:Str}{pos:Pos}{s:Shared}{Q:Value→Shared→Prop}(hb:attributeBase e f env (eval e env)=eval e env)
  (h:wpAny (model prog w) A (eval e env) (fun o s₁=>wpAny (model prog w) A (getAttr o f true) Q E s₁) E s):wpAny (model prog w) A (eval (.Attribute e f pos) env) Q E s :=
 Attribute_any_ h (by rw [arm_eval_Attribute,hb])
end
noncomputable def Iq (K:PySem.W.Frag)(ta:TE)(f:Str):TE:=fun σ H Q=>ta σ H fun x H1=>∃ a C dx fs v,x=.ref a∧H1 a=some (.ins C dx fs)∧Cls K C∧j6 K C f∧fs.lookup f=some v∧Q v H1
noncomputable def Ir (K:PySem.W.Frag)(ta tv:TE)(f:Str):TS:=fun D σ H=>tv σ H fun y H1=>ta σ H1 fun x H2=>∃ a C dx fs,x=.ref a∧H2 a=some (.ins C dx fs)∧Cls K C∧j6 K C f∧fs.length<1000 ∧
 D.nx σ (upd H2 a (.ins C dx (jA f y fs)))
section
variable {X:Cx}{o e value:Expr}{f:Str}{pos pos' tpos:Pos}{ta tv:TE}
theorem yk (he:PE X e ta)(hb:attributeBase e f X.env (eval e X.env)=eval e X.env):PE X (.Attribute e f pos) (Iq X.K ta f):=by
 intro pins s σ H Q I h
 refine Aq hb (cD (he pins s σ H _ I h) fun u s1 x H1 I1 rx zz_=>?_)
 obtain ⟨a,C,dx,fs,v,ex,ea,c,n,l,q⟩:=zz_
 subst ex
 obtain rfl:u=Value.ref a:=rx
 exact uA I1 ea c n l fun u' s2 I2 ru=>⟨v,H1,I2,ru,q⟩
theorem Dw (ha:PE X o ta)(hv:PE X value tv)(hs:swapsWith value (some (.Attribute o f pos')) pos.line X.env=pure false):PS X (.Assign [.Attribute o f pos'] value pos) (Ir X.K ta tv f):=by
 intro pins s σ H D I h
 refine plainObj_wpAny_Assign_Attribute (cD (hv pins s σ H _ I h) fun u s1 y H1 I1 ry q=>cD (ha pins s1 σ H1 _ I1 q) fun ov s2 x H2 I2 rx zz_=>?_) hs
 obtain ⟨a,C,dx,fs,ex,ea,c,n,l,q2⟩:=zz_
 subst ex
 obtain rfl:ov=Value.ref a:=rx
 exact uB I2 ea c n l ry fun s3 I3=>⟨σ,_,I3,q2⟩
end
section
variable {X:Cx}{pins:List (Addr × Obj)}{σ:St}{H:Hp}{s:Shared}{A:Around}{E:Value→Shared→Prop}{Q:Value→Shared→Prop}{c:Value}{b:Bool}
inductive nU (K:PySem.W.Frag) (H:Hp):V→Value→Prop where
 | non:nU K H .non (.type "NoneType")
 | bl (x:Bool):nU K H (.bl x) (.type "bool")
 | int (i:Int):nU K H (.int i) (.type "int")
 | str (x:Str):nU K H (.str x) (.type "str")
 | flt (x:UInt64):nU K H (.flt x) (.type "float")
 | lst {a:Addr} {xs:List V} (e:H a=some (.lst xs)):nU K H (.ref a) (.type "list")
 | frz {a:Addr} {o:Obj} {xs:List V} (e:H a=some (.frz o (.lst xs))):nU K H (.ref a) (.type "list")
 | tup {a:Addr} {xs:List V} (e:H a=some (.tup xs)):nU K H (.ref a) (.type "tuple")
 | dK {a:Addr} {kvs:List (Key × V)} (e:H a=some (.dK kvs)):nU K H (.ref a) (.type "dict")
 | dT {a:Addr} {kvs:List (List Key × V)} (e:H a=some (.dT kvs)):nU K H (.ref a) (.type "dict")
 | ins {a C dx:Addr} {fs:List (Str × V)} (e:H a=some (.ins C dx fs)) (cl:Cls K C) (ha:PySem.W.findIn K (.ref C) "__class__"=some (some (.builtin "object.__class__")))
   (hn:PySem.W.specialIn K (.builtin "object.__class__") "__get__"=some (some (.builtin "getset_descriptor.__get__"))) (htk:PySem.W.takesIn K (.builtin "object.__class__")=some true)
   (hm:PySem.W.mroIn K C (.type "object")=some true):nU K H (.ref a) (.ref C)
theorem wW {x:V}{u t:Value}(I:Inv X pins σ H s)(rx:RelV x u)(ty:nU X.K H x t)(e:PySem.W.kitOne X.K t c=some b)(h:∀ tk,Q (.bool b) { s with toks:=tk }) :
  wpAny (model X.prog X.w) A (call (.builtin "isinstance") [u,c]) Q E s:=by
 cases ty with
 | non=>cases (show u=Value.none from rx); exact PySem.W.kia_one PySem.W.kitx_none I.kIn True.intro e (fun z=>nomatch z) h
 | bl y=>cases (show u=Value.bool y from rx); exact PySem.W.kia_one PySem.W.kitx_bool I.kIn True.intro e (fun z=>nomatch z) h
 | int i=>obtain ⟨t,q⟩:=(show ∃ t,u=Value.int i t from rx); cases q; exact PySem.W.kia_one PySem.W.kitx_int I.kIn True.intro e (fun z=>nomatch z) h
 | str y=>obtain ⟨t,q⟩:=(show ∃ t,u=Value.str y t from rx); cases q; exact PySem.W.kia_one PySem.W.kitx_str I.kIn True.intro e (fun z=>nomatch z) h
 | flt y=>obtain ⟨t,q⟩:=(show ∃ t,u=Value.float y t from rx); cases q; exact PySem.W.kia_one PySem.W.kitx_float I.kIn True.intro e (fun z=>nomatch z) h
 | @lst a xs ea =>
  cases (show u=Value.ref a from rx)
  obtain ⟨_,_,n,_,h1⟩:=(show fy X.prog X.w H s.heap a (.lst xs) from I.hok a _ ea)
  exact PySem.W.kia_one PySem.W.kitx_list I.kIn ⟨_,h1,rfl⟩ e (fun z=>nomatch z) h
 | @frz a ob xs ea =>
  cases (show u=Value.ref a from rx)
  obtain ⟨_,_,_,n,_,h1⟩:=(show fy X.prog X.w H s.heap a (.frz ob (.lst xs)) from I.hok a _ ea)
  exact PySem.W.kia_one PySem.W.kitx_list I.kIn ⟨_,h1,rfl⟩ e (fun z=>nomatch z) h
 | @tup a xs ea =>
  cases (show u=Value.ref a from rx)
  obtain ⟨_,_,_,p⟩:=(show fy X.prog X.w H s.heap a (.tup xs) from I.hok a _ ea)
  obtain ⟨o,h1,h2,_⟩:=p
  exact PySem.W.kia_one PySem.W.kitx_tuple I.kIn ⟨o,h1,h2⟩ e (fun z=>nomatch z) h
 | @dK a kvs ea =>
  cases (show u=Value.ref a from rx)
  obtain ⟨_,_,vs,_,p⟩:=(show fy X.prog X.w H s.heap a (.dK kvs) from I.hok a _ ea)
  obtain ⟨o,es,ep,h1,h2,_⟩:=p
  exact PySem.W.kia_one PySem.W.kitx_dict I.kIn ⟨o,h1,h2.1⟩ e (fun z=>nomatch z) h
 | @dT a kvs ea =>
  cases (show u=Value.ref a from rx)
  obtain ⟨_,_,xs,_,o,es,ep,h1,h2,_⟩:=(show fy X.prog X.w H s.heap a (.dT kvs) from I.hok a _ ea)
  exact PySem.W.kia_one PySem.W.kitx_dict I.kIn ⟨o,h1,h2.1⟩ e (fun z=>nomatch z) h
 | @ins a C dx fs ea cl ha hn htk hm =>
  cases (show u=Value.ref a from rx)
  obtain ⟨mA,O,_⟩:=o9 I.hok ea
  obtain ⟨od,J,_⟩:=O.look
  exact PySem.W.kia_one (PySem.W.kitx_own (cl.get _) cl.hd ha hn htk hm) I.kIn J e (fun z=>nomatch z) h
end
end L2
namespace L2
open PySem PySem.Spec PyProof.Rows
structure dS (k:Nat)(A:Around):Prop where
 hd:A.handled=none
 dp:A.depth+3 * k+5<recursionLimit
 un:A.units+16 * k+200<cLine
theorem dS.mono {j k:Nat}{A:Around}(r:dS k A)(h:j≤k):dS j A:=⟨r.hd,by have:=r.dp; omega,by have:=r.un; omega⟩
theorem dS.deeper {k:Nat}{A:Around}(r:dS (k+1) A)(env:Env):dS k (A.deeper env) :=
 ⟨r.hd,by have:=r.dp; show A.depth+1+3 * k+5 < _; omega,by have:=r.un; show A.units+3+16 * k+200 < _; omega⟩
theorem uC {A:Around}{C:Addr}{us:List Value}{kw:List (Str × Value)}:(A.under (.builtin "type.__call__" ⟨.ref C::us,kw⟩)).depth=A.depth+1:=by
 first | rfl | simp [Around.under,Code.weight,Code.isCreation,Code.isGuard,Code.isCaller,Code.frames,Code.isFrame,guardIds]
theorem uD {A:Around}{C:Addr}{us:List Value}{kw:List (Str × Value)}:(A.under (.builtin "type.__call__" ⟨.ref C::us,kw⟩)).units=A.units+1:=by
 first | rfl | simp [Around.under,Code.cUnits,Code.frames,Code.isFrame]
theorem dS.make {k:Nat}{A:Around}(r:dS (k+1) A)(C:Addr)(us:List Value)(kw:List (Str × Value)):dS k (A.under (.builtin "type.__call__" ⟨.ref C::us,kw⟩)) :=
 ⟨r.hd,by have:=r.dp; rw [uC]; omega,by have:=r.un; rw [uD]; omega⟩
theorem dS.depth {k:Nat}{A:Around}(r:dS k A):A.depth<recursionLimit:=by have:=r.dp; omega
theorem dS.units {k:Nat}{A:Around}(r:dS k A):A.units+64<cLine:=by have:=r.un; omega
noncomputable def uE:TA:=fun _ H Q=>Q [] H
noncomputable def nL (ta:TE)(tr:TA):TA:=fun σ H Q=>ta σ H fun x H1=>tr σ H1 fun xs H2=>Q (x::xs) H2
section
variable {X:Cx}{e:Expr}{es:List Expr}{te:TE}{t:TA}{pos:Pos}
theorem oJ:PA X [] uE:=fun _ _ _ _ H Q I h=>Calls.spliced_nil ⟨[],H,I,.nil,h⟩
theorem gZ (ha:PE X e te)(hr:PA X es t)(hs:starEach (e::es) X.env=(false,eval e X.env)::starEach es X.env:=by rfl):PA X (e::es) (nL te t):=by
 intro pos pins s σ H Q I h
 rw [hs]
 show wpAny _ _ (spliced ((false,eval e X.env)::backTo pos (starEach es X.env))) _ _ s
 refine Calls.spliced_cons (cD (ha pins s σ H _ I h) fun u s1 x H1 I1 r1 q1=>?_)
 exact cD (hr pos pins s1 σ H1 _ I1 q1) fun us s2 xs H2 I2 r2 q2=>⟨x::xs,H2,I2,.cons r1 r2,q2⟩
noncomputable def G1 (t:TA):TE:=fun σ H Q=>t σ H fun xs H1=>xs.length≤sizeLine∧∀ p,H1 p=none→Q (.ref p) (upd H1 p (.tup xs))
noncomputable def G2 (t:TA):TE:=fun σ H Q=>t σ H fun xs H1=>xs.length≤sizeLine∧∀ p,H1 p=none→Q (.ref p) (upd H1 p (.lst xs))
theorem Dx {x1}(h:PA X es t):PE X (.Tuple es x1 pos) (G1 t):=by
 intro pins s σ H Q I hq
 refine wpAny_Tuple_spliced (cD (h pos pins s σ H _ I hq) fun us s1 xs H1 I1 r ⟨z,q⟩=>⟨by rw [← r.length]; exact z, ?_⟩)
 have hf:H1 s1.heap.objs.size=none:=I1.hok.fresh (Nat.le_refl _)
 refine ⟨.ref s1.heap.objs.size,upd H1 s1.heap.objs.size (.tup xs),I1.laid (t':=s1.toks) (fun b u e=>Heap.get?_push_of_some _ e) (Nat.le_refl _) ?_,rfl,q _ hf⟩
 exact ⟨z,us,r,⟨_,Heap.get?_push_size _ rfl,rfl,_,rfl⟩⟩
theorem Dy (h:PA X es t):PE X (.List es pos) (G2 t):=by
 intro pins s σ H Q I hq
 refine wpAny_List_spliced (cD (h pos pins s σ H _ I hq) fun us s1 xs H1 I1 r ⟨z,q⟩=>⟨by rw [← r.length]; exact z, ?_⟩)
 have hf:H1 s1.heap.objs.size=none:=I1.hok.fresh (Nat.le_refl _)
 refine ⟨.ref s1.heap.objs.size,upd H1 s1.heap.objs.size (.lst xs),I1.laid (t':=s1.toks) (fun b u e=>Heap.get?_push_of_some _ e) (Nat.le_refl _) ?_,rfl,q _ hf⟩
 exact ⟨z,us,0,r,Heap.get?_push_size _ rfl⟩
end
noncomputable abbrev Sp:=List V→Hp→VK→XK→Prop
noncomputable abbrev CXT:=List Env→Hp→Shared→XK→Value→Shared→Prop
structure uF (P:Program)(w:World)(K:PySem.W.Frag)(mg:Str→Option Value)(base:Heap)(A:Around)(outer:List Env)(s:Shared)(H:Hp):Prop where
 frames:A.frames=some outer
 mod:Mod K mg base
 bs:∀ b o,base.get? b=some o→s.heap.get? b=some o∧H b=none
 bsz:base.objs.size≤s.heap.objs.size
 nT:s.heap.FunFrames base outer
 frf:∀ b∈frs outer,H b=none
 hok:HOk P w H s.heap
 bare:AllBare s.gens
noncomputable def CE (outer:List Env)(P:Program)(w:World)(H:Hp)(s:Shared)(Q:VK)(u:Value)(s':Shared):Prop :=
 ∃ v H',s'.os=s.os∧AllBare s'.gens∧Un (frs outer) [] H H' s.heap s'.heap∧HOk P w H' s'.heap∧RelV v u∧Q v H'
noncomputable def CR (CX:CXT)(outer:List Env)(P:Program)(w:World)(H:Hp)(s:Shared)(Q:VK)(E:XK)(r:Result)(s':Shared):Prop :=
 match r with
 | .ok (.ret u)=>CE outer P w H s Q u s'
 | .ok _=>False
 | .error e=>CX outer H s E e s'
structure fz (P:Program)(w:World)(K:PySem.W.Frag)(mg:Str→Option Value)(base:Heap)(CX:CXT)(k:Nat)(f:Addr)(fd:FuncData)(ps:List Str)(sp:Sp):Prop where
 len:∀ vs H Q E,sp vs H Q E→vs.length=ps.length
 run:∀ (A:Around) (outer:List Env) (s:Shared) (H:Hp) (args:Args) (us:List Value) (vs:List V) (Q:VK) (E:XK),dS k A→uF P w K mg base A outer s H→BindsTo s fd args (ps.zip us)→Vals vs us→sp vs H Q E →
  codeAny (model P w) A (.call (.ref f) args) (CR CX outer P w H s Q E) s
theorem fz.mono {P:Program}{w:World}{K:PySem.W.Frag}{mg:Str→Option Value}{base:Heap}{CX:CXT}{j k:Nat}{f:Addr}{fd:FuncData}{ps:List Str}{sp:Sp}(F:fz P w K mg base CX j f fd ps sp)(h:j≤k) :
  fz P w K mg base CX k f fd ps sp:=⟨F.len,fun A outer s H args us vs Q E hr=>F.run A outer s H args us vs Q E (hr.mono h)⟩
theorem fz.imp {P:Program}{w:World}{K:PySem.W.Frag}{mg:Str→Option Value}{base:Heap}{CX:CXT}{k:Nat}{f:Addr}{fd:FuncData}{ps:List Str}{sp sp':Sp}(F:fz P w K mg base CX k f fd ps sp)
  (h:∀ vs H Q E,sp' vs H Q E→sp vs H Q E):fz P w K mg base CX k f fd ps sp' :=
 ⟨fun vs H Q E q=>F.len vs H Q E (h _ _ _ _ q),fun A outer s H args us vs Q E hr he hb hv hs=>F.run A outer s H args us vs Q E hr he hb hv (h _ _ _ _ hs)⟩
theorem uF.make {P:Program}{w:World}{K:PySem.W.Frag}{mg:Str→Option Value}{base:Heap}{A:Around}{outer:List Env}{s:Shared}{H:Hp}(e:uF P w K mg base A outer s H)(C:Addr)(us:List Value)(kw:List (Str × Value)) :
  uF P w K mg base (A.under (.builtin "type.__call__" ⟨.ref C::us,kw⟩)) outer s H:=⟨by first | exact e.frames | (simpa [Around.under,Code.envs,Code.isFrame,pushEnvs] using e.frames),e.mod,e.bs,e.bsz,e.nT,e.frf,e.hok,e.bare⟩
section
variable {X:Cx}{pins:List (Addr × Obj)}{σ:St}{H:Hp}{s s':Shared}
theorem Inv.G3 (I:Inv X pins σ H s):uF X.prog X.w X.K X.mg X.base X.A X.stack s H :=
 ⟨I.ok.frames,I.ok.mod,I.bs,Nat.le_trans I.ok.bsz I.sz,I.stack,I.r9,I.hok,I.bare⟩
theorem Inv.after {Q:VK}{u:Value}(I:Inv X pins σ H s)(h:CE X.stack X.prog X.w H s Q u s'):EP X pins σ Q u s':=by
 obtain ⟨v,H',os,bare,un,hok,r,q⟩:=h
 obtain ⟨hh,g,d,t,os'⟩:=s'
 obtain rfl:os'=s.os:=os
 exact ⟨v,H',I.call (h':=hh) (g':=g) (d':=d) (t':=t) (ch:=[]) un hok bare (fun b z=>absurd z (by simp)),r,q⟩
end
noncomputable def vz (sp:Sp)(dvs:List V)(E:XK)(t:TA):TE:=fun σ H Q=>t σ H fun vs H1=>sp (vs++dvs) H1 Q E
noncomputable def Cp (C:Addr)(m:Str)(sp:Sp)(dvs:List V)(E:XK)(ta:TE)(t:TA):TE:=fun σ H Q=>ta σ H fun x H1=>∃ a dx fs,x=.ref a∧H1 a=some (.ins C dx fs)∧fs.lookup m=none ∧
 t σ H1 fun vs H2=>sp (x::(vs++dvs)) H2 Q E
noncomputable def Cq (C:Addr)(sp:Sp)(dvs:List V)(E:XK)(t:TA):TE:=fun σ H Q=>t σ H fun vs H1=>∀ x dx,H1 x=none→H1 dx=none→dx≠x →
 sp (.ref x::(vs++dvs)) (upd (upd H1 dx (.own x)) x (.ins C dx [])) (fun v H2=>v=.non∧Q (.ref x) H2) E
noncomputable def Binds (K:PySem.W.Frag)(fd:FuncData)(ps:List Str)(ds:List Value):Prop :=
 ∀ (s:Shared) (us:List Value),K.In s.heap→(us++ds).length=ps.length→BindsTo s fd ⟨us,[]⟩ (ps.zip (us++ds))
theorem Binds.all {K:PySem.W.Frag}{fd:FuncData}{ps:List Str}(h:∀ us:List Value,us.length=ps.length→bindArgs fd ⟨us,[]⟩=pure (ps.zip us)):Binds K fd ps []:=fun s us _ hl=>by
 rw [List.append_nil] at hl ⊢
 exact .of_eq (h us hl)
noncomputable def Passes (CX:CXT)(X:Cx)(E:XK):Prop:=∀ (pins:List (Addr × Obj)) (σ:St) (H:Hp) (s:Shared) (e:Value) (s':Shared),Inv X pins σ H s→CX X.stack H s E e s'→X.xe e s'
section
variable {X:Cx}{CX:CXT}{k:Nat}{f C:Addr}{fd:FuncData}{ps:List Str}{sp:Sp}{dvs:List V}{ds:List Value}{E:XK}{x m:Str}{p pos apos:Pos}{e o:Expr}{es:List Expr}{ta:TE}{t:TA}
theorem rk {pins:List (Addr × Obj)}{σ:St}{H:Hp}{s:Shared}{Q:VK}{us:List Value}{vs:List V}(F:fz X.prog X.w X.K X.mg X.base CX k f fd ps sp)(hr:dS k X.A)(hb:Binds X.K fd ps ds)(hd:Vals dvs ds)(hx:Passes CX X E)
  (I:Inv X pins σ H s) (r:Vals vs us) (h:sp (vs++dvs) H Q E):wpAny (model X.prog X.w) X.A (call (.ref f) us) (EP X pins σ Q) X.xe s:=by
 have r2:Vals (vs++dvs) (us++ds):=r.append hd
 have hl:(us++ds).length=ps.length:=by rw [← r2.length]; exact F.len _ _ _ _ h
 refine wpAny_call (codeAny_mono (F.run X.A X.stack s H ⟨us,[]⟩ (us++ds) (vs++dvs) Q E hr I.G3 (hb s us I.kIn hl) r2 h) fun r s' hq=>?_)
 cases r with
 | error e=>exact hx pins σ H s e s' I hq
 | ok fl =>
  cases fl with
  | ret u=>exact I.after hq
  | next=>exact False.elim hq
  | brk=>exact False.elim hq
  | cont=>exact False.elim hq
theorem vA (F:fz X.prog X.w X.K X.mg X.base CX k f fd ps sp)(hr:dS k X.A)(hg:Gl X x)(hm:X.mg x=some (.ref f))(hk:PySem.W.keepIn X.K (.ref f)=true)(hb:Binds X.K fd ps ds)(hd:Vals dvs ds)(hx:Passes CX X E)
  (ha:PA X (e::es) t) (hdb:(x == ("__debug__":Str))=false:=by decide) (he:starEach (e::es) X.env=(false,eval e X.env)::starEach es X.env:=by rfl) (hpl:(backTo pos (starEach es X.env)).any (·.1)=false:=by rfl) :
  PE X (.Call (.Name x p) (e::es) [] pos) (vz sp dvs E t):=by
 intro pins s σ H Q I h
 refine wpAny_Call_Name_kw (lM I hg hm ?_ hdb)
 refine PySem.W.callWith_K (h₀:=X.base) I.ok.mod.kin hk (cD (ha pos pins s σ H _ I h) fun us s1 vs H1 I1 r q=>⟨I1.kIn, ?_⟩) he hpl
 exact rk F hr hb hd hx I1 r q
theorem As {pl:Sem Bool}(he:PE X o ta)(c:Cls X.K C)(hm:Meth X.K C m f)(F:fz X.prog X.w X.K X.mg X.base CX k f fd ps sp)(hr:dS k X.A)(hb:Binds X.K fd ps ds)(hd:Vals dvs ds)(hx:Passes CX X E)(ha:PA X (e::es) t)
  (hst:starEach (e::es) X.env=(false,eval e X.env)::starEach es X.env:=by rfl) (hpl:(backTo pos (starEach es X.env)).any (·.1)=false:=by rfl)
  (ht:eval (.Call (.Attribute o m apos) (e::es) [] pos) X.env=(do
   let ov ← eval o X.env
   standAt apos.atName
   let (f,first) ← holding [ov] (getMethod ov m pl)
   callWith pos f first (backTo pos (starEach (e::es) X.env)) (backToKw pos (keywordEach [] X.env))):=by rfl) :
  PE X (.Call (.Attribute o m apos) (e::es) [] pos) (Cp C m sp dvs E ta t):=by
 intro pins s σ H Q I h
 refine PySem.W.methodCall_KW (pl:=pl) (cD (he pins s σ H _ I h) fun u s1 x H1 I1 rx zz_=>?_) ht
 obtain ⟨a,dx,fs,ex,ea,l,q⟩:=zz_
 subst ex
 obtain rfl:u=Value.ref a:=rx
 refine oI I1 ea c hm l ?_
 refine PySem.W.callWith_K (first:=[.ref a]) (h₀:=X.base) I.ok.mod.kin hm.kp (cD (ha pos pins s1 σ H1 _ I1 q) fun us s2 vs H2 I2 r q2=>⟨I2.kIn, ?_⟩) hst hpl
 exact rk (us:=.ref a::us) (vs:=.ref a::vs) F hr hb hd hx I2 (.cons rfl r) q2
theorem sJ {pl:Sem Bool}(he:PE X o ta)(c:Cls X.K C)(hm:Meth X.K C m f)(F:fz X.prog X.w X.K X.mg X.base CX k f fd ps sp)(hr:dS k X.A)(hb:Binds X.K fd ps ds)(hd:Vals dvs ds)(hx:Passes CX X E)
  (ht:eval (.Call (.Attribute o m apos) [] [] pos) X.env=(do
   let ov ← eval o X.env
   standAt apos.atName
   let (f,first) ← holding [ov] (getMethod ov m pl)
   callWith pos f first (backTo pos (starEach [] X.env)) (backToKw pos (keywordEach [] X.env))):=by rfl) :
  PE X (.Call (.Attribute o m apos) [] [] pos) (Cp C m sp dvs E ta uE):=by
 intro pins s σ H Q I h
 refine PySem.W.methodCall_KW (pl:=pl) (cD (he pins s σ H _ I h) fun u s1 x H1 I1 rx zz_=>?_) ht
 obtain ⟨a,dx,fs,ex,ea,l,q⟩:=zz_
 subst ex
 obtain rfl:u=Value.ref a:=rx
 refine oI I1 ea c hm l ?_
 exact PySem.W.callWith_K0 (first:=[.ref a]) I1.kIn hm.kp (rk (us:=[.ref a]) (vs:=[.ref a]) F hr hb hd hx I1 (.cons rfl .nil) q)
structure Mk (K:PySem.W.Frag)(C f:Addr):Prop where
 makes:PySem.W.makesIn K C=true
 init:PySem.W.findIn K (.ref C) "__init__"=some (some (.ref f))
 fn:PySem.W.isFn K (.ref f)=true
 kp:PySem.W.keepIn K (.ref C)=true
theorem yl {pins:List (Addr × Obj)}{σ:St}{H:Hp}{s:Shared}{Q:VK}{us:List Value}{vs:List V}(M:Mk X.K C f)(F:fz X.prog X.w X.K X.mg X.base CX k f fd ps sp)(hr:dS (k+1) X.A)(hb:Binds X.K fd ps ds)(hd:Vals dvs ds)
  (hx:Passes CX X E) (I:Inv X pins σ H s) (r:Vals vs us)
  (h:∀ x dx,H x=none→H dx=none→dx≠x→sp (.ref x::(vs++dvs)) (upd (upd H dx (.own x)) x (.ins C dx [])) (fun v H2=>v=.non∧Q (.ref x) H2) E) :
  wpAny (model X.prog X.w) X.A (call (.ref C) us) (EP X pins σ Q) X.xe s:=by
 have hq:=h (s.heap.objs.size+1) s.heap.objs.size (I.hok.fresh (Nat.le_succ _)) (I.hok.fresh (Nat.le_refl _)) (Nat.ne_of_lt (Nat.lt_succ_self _))
 have I2:=Inv.made (C:=C) I
 have r2:Vals (V.ref (s.heap.objs.size+1)::(vs++dvs)) (Value.ref (s.heap.objs.size+1)::(us++ds)):=.cons rfl (r.append hd)
 have hl:(Value.ref (s.heap.objs.size+1)::us++ds).length=ps.length:=by
  have e:=r2.length
  rw [F.len _ _ _ _ hq] at e
  exact e.symm
 refine wpAny_call (yj (f:=f) I.kIn M.makes M.init (beq_iff_eq.mp M.fn) (codeAny_mono (F.run _ X.stack _ _ ⟨Value.ref (s.heap.objs.size+1)::us,[]⟩ (Value.ref (s.heap.objs.size+1)::(us++ds)) _ _ E (hr.make C us [])
  (I2.G3.make C us []) (hb _ (Value.ref (s.heap.objs.size+1)::us) I2.kIn hl) r2 hq) fun r s' hq'=>?_))
 cases r with
 | error e=>exact hx pins σ _ _ e s' I2 hq'
 | ok fl =>
  cases fl with
  | ret u =>
   obtain ⟨v,H',I3,rv,ev,q3⟩:=I2.after hq'
   subst ev
   exact ⟨rv,⟨V.ref (s.heap.objs.size+1),H',I3,rfl,q3⟩⟩
  | next=>exact False.elim hq'
  | brk=>exact False.elim hq'
  | cont=>exact False.elim hq'
theorem Au (M:Mk X.K C f)(F:fz X.prog X.w X.K X.mg X.base CX k f fd ps sp)(hr:dS (k+1) X.A)(hg:Gl X x)(hm:X.mg x=some (.ref C))(hb:Binds X.K fd ps ds)(hd:Vals dvs ds)(hx:Passes CX X E)
  (ha:PA X (e::es) t) (hdb:(x == ("__debug__":Str))=false:=by decide) (he:starEach (e::es) X.env=(false,eval e X.env)::starEach es X.env:=by rfl) (hpl:(backTo pos (starEach es X.env)).any (·.1)=false:=by rfl) :
  PE X (.Call (.Name x p) (e::es) [] pos) (Cq C sp dvs E t):=by
 intro pins s σ H Q I h
 refine wpAny_Call_Name_kw (lM I hg hm ?_ hdb)
 refine PySem.W.callWith_K (h₀:=X.base) I.ok.mod.kin M.kp (cD (ha pos pins s σ H _ I h) fun us s1 vs H1 I1 r q=>⟨I1.kIn, ?_⟩) he hpl
 exact yl M F hr hb hd hx I1 r q
end
section
variable {X:Cx}{CX:CXT}{k:Nat}{f C:Addr}{fd:FuncData}{ps ks:List Str}{sp:Sp}{E:XK}{x m:Str}{p pos apos kpos:Pos}{e o:Expr}{es:List Expr}{kws:List Keyword}{te ta:TE}{t tk:TA}{nm:Option Str}
variable {g:List Value→List Value→List Value}{gV:List V→List V→List V}
end
structure aG (N P:List Str)(sc:Scope):Prop where
 kind:sc.kind=.function
 co:sc.isCoroutine=false
 gen:sc.isGenerator=false
 nd:N.Nodup
 pre:N.take P.length=P
 par:∀ x∈P,sc.names.lookup x=some .local∨sc.names.lookup x=some .cell
 Dz:∀ y∈sc.names,y.2≠.free
theorem qw {kindOf:Str→Option NameKind}{x:Str}:∀ {binds:List (Str × Value)} {m:Str→Option Value},(∀ v,(x,v) ∉ binds)→bindL kindOf binds m x=m x
 | [],_,_=>rfl
 | (n,v)::r,m,h=>by
  unfold bindL
  rw [qw fun w hw=>h w (List.mem_cons_of_mem _ hw)]
  split
  ·have:x≠n:=by rintro rfl; exact h v List.mem_cons_self
   simp [this]
  ·rfl
theorem qx {kindOf:Str→Option NameKind}{x:Str}:∀ {binds:List (Str × Value)} {m:Str→Option Value},(∀ v,(x,v) ∉ binds)→bindC kindOf binds m x=m x
 | [],_,_=>rfl
 | (n,v)::r,m,h=>by
  unfold bindC
  rw [qx fun w hw=>h w (List.mem_cons_of_mem _ hw)]
  split
  ·rfl
  ·have:x≠n:=by rintro rfl; exact h v List.mem_cons_self
   simp [this]
theorem qy {kindOf:Str→Option NameKind}{x:Str}{v:Value}:∀ {P:List Str} {vs:List Value} {i:Nat} {m:Str→Option Value},P.Nodup→P[i]?=some x→vs[i]?=some v→kindOf x=some .local →
  bindL kindOf (P.zip vs) m x=some v
 | [],_,_,_,_,h,_,_=>by simp at h
 | _::_,[],_,_,_,_,h,_=>by simp at h
 | p::P,w::vs,0,m,nd,h1,h2,hk=>by
  simp at h1 h2; subst h1; subst h2
  show bindL kindOf ((p,w)::P.zip vs) m p=_
  unfold bindL
  rw [qw fun v hv=>(List.nodup_cons.mp nd).1 (List.of_mem_zip hv).1,if_pos hk]
  simp
 | p::P,w::vs,i+1,m,nd,h1,h2,hk=>by
  show bindL kindOf ((p,w)::P.zip vs) m x=_
  unfold bindL
  exact qy (i:=i) (List.nodup_cons.mp nd).2 (by simpa using h1) (by simpa using h2) hk
theorem qA {kindOf:Str→Option NameKind}{x:Str}{v:Value}:∀ {P:List Str} {vs:List Value} {i:Nat} {m:Str→Option Value},P.Nodup→P[i]?=some x→vs[i]?=some v→kindOf x≠some .local →
  bindC kindOf (P.zip vs) m x=some v
 | [],_,_,_,_,h,_,_=>by simp at h
 | _::_,[],_,_,_,_,h,_=>by simp at h
 | p::P,w::vs,0,m,nd,h1,h2,hk=>by
  simp at h1 h2; subst h1; subst h2
  show bindC kindOf ((p,w)::P.zip vs) m p=_
  unfold bindC
  rw [qx fun v hv=>(List.nodup_cons.mp nd).1 (List.of_mem_zip hv).1,if_neg hk]
  simp
 | p::P,w::vs,i+1,m,nd,h1,h2,hk=>by
  show bindC kindOf ((p,w)::P.zip vs) m x=_
  unfold bindC
  exact qA (i:=i) (List.nodup_cons.mp nd).2 (by simpa using h1) (by simpa using h2) hk
noncomputable def start (N:List Str)(vs:List V):St:=vs.map some++List.replicate (N.length - vs.length) none
noncomputable def wX (CX:CXT)(P:Program)(w:World)(K:PySem.W.Frag)(mg:Str→Option Value)(base:Heap)(N:List Str)(qual:Str)(scope:Scope)(f:Addr)(cd:Value)(A:Around)(outer:List Env)(s:Shared)(H:Hp)(E:XK):Cx where
 prog:=P
 w:=w
 K:=K
 mg:=mg
 base:=base
 A:=A.deeper (envOfC qual scope s.heap.objs.size f cd)
 N:=N
 s₀:=s
 H₀:=H
 env:=envOfC qual scope s.heap.objs.size f cd
 outer:=outer
 stack:=envOfC qual scope s.heap.objs.size f cd::outer
 ex:=[]
 calm:=true
 fn:=fun _=>true
 pn:=[]
 xe:=fun e s'=>wpAny (model P w) (A.deeper (envOfC qual scope s.heap.objs.size f cd)) (leaving (envOfC qual scope s.heap.objs.size f cd) e) (fun _ s''=>CX outer H s E e s'') (fun e' s''=>CX outer H s E e' s'') s'
theorem sL {sc:Scope}{n:Nat}{x:Str}(h:sc.names.lookup x=some .cell):∃ c,(cellsFrom n sc.names []).lookup x=some c:=by
 have q:=PySem.W.cellsFrom_some sc.names n [] (.inl h)
 exact Option.isSome_iff_exists.mp q
theorem wY {CX:CXT}{P:Program}{w:World}{K:PySem.W.Frag}{mg:Str→Option Value}{base:Heap}{N ps:List Str}{qual:Str}{scope:Scope}{f:Addr}{cd:Value}{A:Around}{outer:List Env}{s s1:Shared}{H:Hp}{E:XK}{us:List Value}{vs:List V}
  (S:aG N ps scope) (hd:A.handled=none) (e0:uF P w K mg base A outer s H) (hl:vs.length=ps.length) (r:Vals vs us)
  (x:InCallC s s.heap.objs.size (bindL (envOfC qual scope s.heap.objs.size f cd).kindOf (ps.zip us) fun _=>none) (cellsFrom (s.heap.objs.size+1) scope.names []) (bindC (envOfC qual scope s.heap.objs.size f cd).kindOf (ps.zip us) fun _=>none) s1) :
  Inv (wX CX P w K mg base N qual scope f cd A outer s H E) [] (start N vs) H s1:=by
 have hpl:ps.length≤N.length:=by have:=congrArg List.length S.pre; rw [List.length_take] at this; omega
 obtain ⟨h1,tk,rfl,hk⟩:=x.done
 have noA:∀ b:Addr,b ∉ (wX CX P w K mg base N qual scope f cd A outer s H E).ex:=fun b z=>absurd (show b∈([]:List Addr) from z) (by simp)
 refine ⟨⟨e0.mod,S.kind,rfl,rfl,Nat.le_refl _,fun y z c h1 h2=>?_,fun y hy=>?_,fun y c _ h=>?_,fun _=>hd,Around.frames_deeper e0.frames,.inr ⟨rfl,rfl⟩,fun b z=>absurd z (noA b),e0.bs,e0.bsz,fun b _ _=>noA b,fun b z=>absurd z (noA b),e0.nT,e0.frf⟩,
  rfl,e0.bare,Un.kept hk,⟨_,x.toInCall.ns,fun i y v h1 h2 h3=>?_⟩,fun y c h=>⟨_,x.cell y c h⟩,e0.hok.fresh (Nat.le_refl _),fun y c h=>?_,fun p hp=>absurd (show p∈([]:List (Addr × Obj)) from hp) (by simp),e0.hok.kept hk, ?_⟩
 ·exact name_of_addr x.apart (PySem.mem_of_lookup h1) (PySem.mem_of_lookup h2)
 ·have hy:scope.names.lookup y=some .cell∨scope.names.lookup y=some .free:=hy
  rcases hy with hy | hy
  ·exact sL hy
  ·exact absurd rfl (S.Dz _ (PySem.mem_of_lookup hy))
 ·exact Nat.le_of_lt (x.above y c (PySem.mem_of_lookup h))
 ·have hi:i<vs.length:=by
   unfold start at h2
   by_cases hi:i<vs.length
   ·exact hi
   ·rw [List.getElem?_append_right (by simpa using hi)] at h2
    rw [List.getElem?_replicate] at h2
    split at h2 <;> cases h2
  have ha:vs[i]?=some v:=by
   unfold start at h2
   rw [List.getElem?_append_left (by simpa using hi),List.getElem?_map] at h2
   cases e:vs[i]? with
   | none=>rw [e] at h2; cases h2
   | some a=>rw [e] at h2; cases h2; rfl
  obtain ⟨u,hu,rv⟩:=r.get ha
  have hp:ps[i]?=some y:=by
   rw [← S.pre,List.getElem?_take_of_lt (by omega)]; exact h1
  have ndP:ps.Nodup:=by rw [← S.pre]; exact S.nd.sublist (List.take_sublist _ _)
  refine ⟨u,rv, ?_⟩
  rcases S.par y (List.mem_of_getElem? hp) with k | k
  ·exact .inl ⟨k,qy ndP hp hu k⟩
  ·obtain ⟨c,e⟩:=sL (n:=s.heap.objs.size+1) k
   refine .inr ⟨.inl k,c,e, ?_⟩
   have q:=x.cell y c e
   rw [qA ndP hp hu (by show scope.names.lookup y≠_; rw [k]; decide)] at q
   exact q
 ·exact e0.hok.fresh (Nat.le_of_lt (x.above y c (PySem.mem_of_lookup h)))
 ·unfold start
  show _=N.length
  rw [List.length_append,List.length_map,List.length_replicate]
  omega
theorem vB {CX:CXT}{P:Program}{w:World}{K:PySem.W.Frag}{mg:Str→Option Value}{base:Heap}{k:Nat}{f:Addr}{name qual:Str}{params:Arguments}{body:List Stmt}{scope:Scope}{dV kV doc pm cdv ct oc:Value}{an od:Option Addr}
  {osl:Array (Option Value)} {N ps:List Str} {sp:Sp} (lk:K.lookup f=some ⟨oc,od,.func (PySem.W.fnOf name qual params body scope dV kV doc pm an cdv ct),osl⟩) (hcd:PySem.W.codeIn K cdv qual=true) (S:aG N ps scope)
  (len:∀ vs H Q E,sp vs H Q E→vs.length=ps.length)
  (ym:∀ (A:Around) (outer:List Env) (s:Shared) (H:Hp) (vs:List V) (Q:VK) (E:XK),dS k (A.deeper (envOfC qual scope s.heap.objs.size f cdv))→sp vs H Q E →
   ∃ t,PSs (wX CX P w K mg base N qual scope f cdv A outer s H E) body t∧t { nx:=fun _ H'=>Q .non H',rt:=Q } (start N vs) H) :
  fz P w K mg base CX (k+1) f (PySem.W.fnOf name qual params body scope dV kV doc pm an cdv ct) ps sp:=by
 refine ⟨len,fun A outer s H args us vs Q E hr e0 hb r hsp=>?_⟩
 have hl:=len _ _ _ _ hsp
 have KX:K.In s.heap:=e0.mod.kin.keeps fun b o e=>(e0.bs b o e).1
 have lim:s.heap.NoLimit:=e0.mod.nolimit.keeps fun b o e=>(e0.bs b o e).1
 have hkind:∀ y∈ps.zip us,scope.names.lookup y.1=some .local∨(scope.names.lookup y.1=some .cell∧((cellsFrom (s.heap.objs.size+1) scope.names []).lookup y.1).isSome=true):=fun ⟨n,v⟩ hy=>by
  rcases S.par n (List.of_mem_zip hy).1 with q | q
  ·exact .inl q
  ·exact .inr ⟨q,PySem.W.cellsFrom_some _ _ _ (.inl q)⟩
 refine codeAny_call_function hr.depth (KX _ _ lk) rfl S.co S.gen rfl (PySem.W.codeRec_of KX hcd) (hb _ _ _ _ ?_)
 refine wpAny_newFunctionEnv_cells S.kind hkind fun env he s1 x=>?_
 subst he
 refine ⟨lim.keeps x.toInCall.keep,codeAny_func ?_⟩
 obtain ⟨t,ht,hq⟩:=ym A outer s H vs Q E (hr.deeper _) hsp
 have I:Inv (wX CX P w K mg base N qual scope f cdv A outer s H E) [] (start N vs) H s1:=wY S hr.hd e0 hl r x
 refine wpAny_mono (ht [] s1 (start N vs) H _ I hq) (fun fl s' hs=>?_) fun e s' hs=>hs
 have fin:∀ {σ':St} {H':Hp} {v:V} {u:Value},Inv (wX CX P w K mg base N qual scope f cdv A outer s H E) [] σ' H' s'→RelV v u→Q v H'→CE outer P w H s Q u s' :=
  fun {σ' H' v u} J rv q=>⟨v,H',J.os,J.bare,J.base,J.hok,rv,q⟩
 cases fl with
 | ret u =>
  obtain ⟨v, σ',H',J,rv,q⟩:=hs
  exact fin J rv q
 | next =>
  obtain ⟨σ',H',J,q⟩:=hs
  exact fin (v:=V.non) (u:=Value.none) J rfl q
 | brk =>
  obtain ⟨_,_,_,q⟩:=hs
  exact False.elim q
 | cont =>
  obtain ⟨_,_,_,q⟩:=hs
  exact False.elim q
end L2
namespace L2
open PySem PySem.Spec PyProof.Rows
section
variable {X:Cx}{x:Str}{p pos:Pos}{e:Expr}{es:List Expr}{t:TA}{id T:String}{r:List V→Hp→VK→Prop}
noncomputable def tCB (r:List V→Hp→VK→Prop)(t:TA):TE:=fun σ H Q=>t σ H fun vs H1=>r vs H1 Q
theorem sM (hc:jz X (.builtin id) r)(hg:Gl X x)(hm:X.mg x=none)(hv:bootBuiltins x=some (.builtin id))(ha:PA X (e::es) t)(hn:x≠"__name__":=by decide)(hdb:(x == ("__debug__":Str))=false:=by decide)
  (he:starEach (e::es) X.env=(false,eval e X.env)::starEach es X.env:=by rfl) (hpl:(backTo pos (starEach es X.env)).any (·.1)=false:=by rfl):PE X (.Call (.Name x p) (e::es) [] pos) (tCB r t):=by
 intro pins s σ H Q I h
 refine wpAny_Call_Name_kw (gS I hg hm hv ?_ hn hdb)
 exact PyProof.Rows.callWith_builtin1 (cD (ha pos pins s σ H _ I h) fun us s1 vs H1 I1 r1 q1=>hc pins s1 σ H1 vs us Q I1 r1 q1) he hpl
theorem wZ (hc:jz X (.type T) r)(hg:Gl X x)(hm:X.mg x=none)(hv:bootBuiltins x=some (.type T))(ha:PA X (e::es) t)(hn:x≠"__name__":=by decide)(hdb:(x == ("__debug__":Str))=false:=by decide)
  (he:starEach (e::es) X.env=(false,eval e X.env)::starEach es X.env:=by rfl) (hpl:(backTo pos (starEach es X.env)).any (·.1)=false:=by rfl):PE X (.Call (.Name x p) (e::es) [] pos) (tCB r t):=by
 intro pins s σ H Q I h
 refine wpAny_Call_Name_kw (gS I hg hm hv ?_ hn hdb)
 exact PyProof.Rows.callWith_type1 (cD (ha pos pins s σ H _ I h) fun us s1 vs H1 I1 r1 q1=>hc pins s1 σ H1 vs us Q I1 r1 q1) he hpl
end
end L2
namespace HT
open PySem PyProof.Rows
section
open PySem.SeqAt
open PySem.AutoSeq1 (wpAny_loadPart')
open PySem.MeetsSeq PySem.MeetsSeq2 PySem.MeetsSeq3
end
section
variable {prog:Program}{w:World}{A:Around}{E:Value→Shared→Prop}{s:Shared}
theorem Av {t b:Addr}{vs ws:List Value}{Q:Value→Shared→Prop}(ht:IsTup s.heap t vs.toArray)(hb:IsTup s.heap b ws.toArray)(hv:vs≠[])
  (h1:ws=[]→Q (.ref t) s) (h2:ws≠[]→Q (.ref s.heap.objs.size) { s with heap:=s.heap.push { cls:=.type "tuple",data:=.seq (vs++ws).toArray } })
  (hsz:vs.length+ws.length≤sizeLine):wpAny (model prog w) A (binaryOp .Add (.ref t) (.ref b)) Q E s:=by
 obtain ⟨⟨cls,dd,data,sl⟩,ho,hc,n,hd⟩:=id ht
 obtain ⟨⟨cls2,dd2,data2,sl2⟩,ho2,hc2,n2,hd2⟩:=id hb
 simp only at hc hd hc2 hd2
 subst hc hd hc2 hd2
 have e:vs.toArray++ws.toArray=(vs++ws).toArray:=by simp
 by_cases hw:ws=[]
 ·exact concat_meets ⟨_,ho,rfl⟩ ⟨_,ho2,rfl⟩ noFill_tuple_add seq_tuple_add PySem.F.slot_tuple_add PySem.F.entry_tuple_add (PySem.F.args_tuple_add_2 _ _)
   (tuple_addW1 t b vs.toArray ws.toArray n n2 dd dd2 sl sl2 (by simpa using hv) (by simp [hw])) ⟨ho,ho2,h1 hw⟩
 ·refine concat_meets ⟨_,ho,rfl⟩ ⟨_,ho2,rfl⟩ noFill_tuple_add seq_tuple_add PySem.F.slot_tuple_add PySem.F.entry_tuple_add (PySem.F.args_tuple_add_2 _ _)
   (tuple_addW2 t b vs.toArray ws.toArray n n2 dd dd2 sl sl2 (by simpa using hv) (by simpa using hw) (by rw [List.size_toArray,List.size_toArray]; exact hsz)) ⟨ho,ho2, ?_⟩
  rw [e]
  exact h2 hw
noncomputable def sIx (n d:Nat):Option Int→Nat
 | none=>d
 | some v=>if v<0 then (v+(n:Int)).toNat else min v.toNat n
theorem yn (n d:Nat)(hd:d≤n)(o:Option Int):sIx n d o≤n:=by
 cases o with
 | none=>exact hd
 | some v =>
  show (if v<0 then (v+(n:Int)).toNat else min v.toNat n)≤n
  by_cases hv:v<0
  ·rw [if_pos hv]; omega
  ·rw [if_neg hv]; exact Nat.min_le_right _ _
theorem vC (v:Int)(n d:Nat):(if v<0 then max (v+(n:Int)) 0 else min v (n:Int))=((sIx n d (some v):Nat):Int):=by
 show (if v<0 then max (v+(n:Int)) 0 else min v (n:Int))=(((if v<0 then (v+(n:Int)).toNat else min v.toNat n):Nat):Int)
 by_cases hv:v<0
 ·simp only [if_pos hv]; omega
 ·simp only [if_neg hv]; omega
theorem uG (lo hi:Option Int)(n:Nat):Builtin.Slice.sliceAdjust lo hi 1 (n:Int)=(((sIx n 0 lo:Nat):Int),((sIx n n hi:Nat):Int)):=by
 have h1:¬ ((1:Int)<0):=by omega
 unfold Builtin.Slice.sliceAdjust
 simp only [h1,if_false]
 refine Prod.ext ?_ ?_
 ·cases lo with
  | none=>rfl
  | some v=>exact vC v n 0
 ·cases hi with
  | none=>rfl
  | some v=>exact vC v n n
theorem uH (i j:Nat):Builtin.Slice.slicePlaces (i:Int) (j:Int) 1=j - i:=by
 unfold Builtin.Slice.slicePlaces
 have h1:(1:Int) > 0:=by omega
 simp only [h1,if_true,Int.ediv_one]
 split <;> omega
theorem oK {v:Value}{o:Option Int}{Q:Option Int→Shared→Prop}(p:IsPart v o)(h:Q o s):wpAny (model prog w) A (Builtin.Slice.slicePartIndex v) Q E s:=by
 cases p with
 | none=>exact slicePart_none h
 | int i t=>exact slicePart_int h
theorem mT {sl:Addr}{vl vu:Value}{lo hi:Option Int}{n:Nat}{Q:Int × Int × Nat→Shared→Prop}(hs:s.heap.IsSliceOf sl vl vu .none)(pl:IsPart vl lo)(pu:IsPart vu hi)
  (h:Q (((sIx n 0 lo:Nat):Int),1,sIx n n hi - sIx n 0 lo) s):wpAny (model prog w) A (Builtin.Slice.sliceApplied (.ref sl) (pure (n:Int))) Q E s:=by
 obtain ⟨os,hos,hcs,hds⟩:=id hs
 unfold Builtin.Slice.sliceApplied Builtin.Slice.sliceFields
 refine wpAny_bind (wpAny_bind (wpAny_field hos hds (x:=vl) rfl (wpAny_bind (wpAny_field hos hds (x:=vu) rfl (wpAny_bind (wpAny_field hos hds (x:=.none) rfl (wpAny_pure ?_)))))))
 refine wpAny_bind (slicePart_none ?_)
 show wpAny _ _ (if ((1:Int) == 0)=true then _ else _) _ _ s
 rw [if_neg (by decide)]
 refine wpAny_bind (oK pl (wpAny_bind (oK pu (wpAny_bind (wpAny_pure ?_)))))
 show wpAny _ _ (match Builtin.Slice.sliceAdjust lo hi 1 (n:Int) with | (lo,hi)=>pure (lo,(1:Int),Builtin.Slice.slicePlaces lo hi 1)) _ _ s
 rw [uG lo hi n]
 show wpAny _ _ (pure (((sIx n 0 lo:Nat):Int),(1:Int),Builtin.Slice.slicePlaces ((sIx n 0 lo:Nat):Int) ((sIx n n hi:Nat):Int) 1)) _ _ s
 rw [uH]
 exact wpAny_pure h
theorem yo (xs:Array Value)(i k:Nat):((List.range k).filterMap fun (m:Nat)=>xs[((i:Int)+(m:Int) * 1).toNat]?).toArray=((xs.toList.drop i).take k).toArray:=by
 have e:(fun (m:Nat)=>xs[((i:Int)+(m:Int) * 1).toNat]?)=fun m=>xs[i+m]?:=by
  funext m
  have:((i:Int)+(m:Int) * 1).toNat=i+m:=by omega
  rw [this]
 rw [e]
 have:=pick_run xs i k
 rw [List.filterMap_map] at this
 have e2:((fun x=>xs[x]?) ∘ fun x=>i+x)=fun m=>xs[i+m]?:=rfl
 rw [e2] at this
 rw [this]
theorem lO {t sl:Addr}{items:Array Value}{vl vu:Value}{lo hi:Option Int}{Q:Value→Shared→Prop}(ht:IsTup s.heap t items)(hs:s.heap.IsSliceOf sl vl vu .none)(pl:IsPart vl lo)(pu:IsPart vu hi)
  (hw:¬ (sIx items.size 0 lo=0∧sIx items.size items.size hi=items.size))
  (h:Q (.ref s.heap.objs.size) { s with heap:=s.heap.push { cls:=.type "tuple",data:=.seq ((items.toList.drop (sIx items.size 0 lo)).take (sIx items.size items.size hi - sIx items.size 0 lo)).toArray } })
  (hsz:items.size≤sizeLine):wpAny (model prog w) A (getItem (.ref t) (.ref sl)) Q E s:=by
 have htake:sizeOk (.seq ((items.toList.drop (sIx items.size 0 lo)).take (sIx items.size items.size hi - sIx items.size 0 lo)).toArray):=by
  show ((items.toList.drop (sIx items.size 0 lo)).take (sIx items.size items.size hi - sIx items.size 0 lo)).toArray.size≤sizeLine
  rw [List.size_toArray,List.length_take,List.length_drop,Array.length_toList]
  omega
 have hj:sIx items.size items.size hi≤items.size:=yn _ _ (Nat.le_refl _) hi
 obtain ⟨os,hos,hcs,hds⟩:=id hs
 have hTs:s.TypeIs (.ref sl) "slice":=⟨os,hos,hcs⟩
 unfold getItem
 try with_reducible refine wpAny_holding ?_
 first | refine wpAny_bind (wpAny_pure ?_) | skip
 refine wpAny_bind (wpAny_sequenceKey ht.typeIs (by decide) ?_)
 refine wpAny_bind (wpAny_callSpecial?_slot (name:=Str.ofString "__getitem__") ht.typeIs PyProof.Rows.slot_tuple_getitem
  (wpAny_call_entry PyProof.Rows.slot_tuple_getitem ht.typeIs entry_tuple_getitem ?_ (args_tuple_getitem _ _)))
 show wpAny _ _ (Builtin.Tuple.tupleItemsOf (.ref t) >>= _) _ _ s
 refine wpAny_bind (tupleItemsOf_ ht ?_)
 refine wpAny_bind (wpAny_typeOf hTs ?_)
 rw [if_pos (by decide)]
 refine wpAny_bind (mT hs pl pu ?_)
 have hno:¬ ((((sIx items.size 0 lo:Nat):Int) == 0 && (1:Int) == 1 && (sIx items.size items.size hi - sIx items.size 0 lo) == items.size)=true):=by
  intro q
  rw [Bool.and_eq_true,Bool.and_eq_true] at q
  have q1:((sIx items.size 0 lo:Nat):Int)=0:=eq_of_beq q.1.1
  have q2:sIx items.size items.size hi - sIx items.size 0 lo=items.size:=eq_of_beq q.2
  exact hw ⟨by omega,by omega⟩
 show wpAny _ _ (if (((sIx items.size 0 lo:Nat):Int) == 0 && (1:Int) == 1 && (sIx items.size items.size hi - sIx items.size 0 lo) == items.size)=true then _ else _) _ _ s
 rw [if_neg hno,yo]
 first
  | exact wpAny_bind (m:=Builtin.Tuple.tupleExact _) (wpAny_newObj_type (wpAny_pure ⟨_,rfl,wpAny_pure h⟩) htake)
  | exact wpAny_bind (m:=Builtin.Tuple.tupleExact _) (wpAny_newObj_type (wpAny_bind (wpAny_pure (wpAny_pure ⟨_,rfl,wpAny_pure h⟩))) htake)
  | exact wpAny_bind (wpAny_bind (m:=Builtin.Tuple.tupleExact _) (wpAny_newObj_type (wpAny_pure (wpAny_pure ⟨_,rfl,wpAny_pure h⟩)) htake))
  | exact wpAny_bind (wpAny_bind (m:=Builtin.Tuple.tupleExact _) (wpAny_newObj_type (wpAny_pure ⟨_,rfl,wpAny_pure h⟩) htake))
end
end HT
namespace L2
open PySem PySem.Spec PyProof.Rows
noncomputable abbrev TO:=St→Hp→(Option Int→Hp→Prop)→Prop
noncomputable def PO (X:Cx)(e:Option Expr)(t:TO):Prop :=
 ∀ (pins:List (Addr × Obj)) (s:Shared) (σ:St) (H:Hp) (Q:Option Int→Hp→Prop),Inv X pins σ H s→t σ H Q →
  wpAny (model X.prog X.w) X.A (evalPart e X.env) (fun u s'=>∃ o H',Inv X pins σ H' s'∧IsPart u o∧Q o H') X.xe s
noncomputable def vD:TO:=fun _ H Q=>Q none H
noncomputable def Cr (t:TE):TO:=fun σ H Q=>t σ H fun x H1=>∃ i,x=.int i∧Q (some i) H1
section
variable {X:Cx}{e:Expr}{te:TE}{lo hi:Option Expr}{tl th:TO}{pos p2:Pos}
theorem Aw:PO X none vD:=by
 intro pins s σ H Q I h
 rw [evalPart_none]
 exact wpAny_pure ⟨none,H,I,.none,h⟩
theorem Ax (h:PE X e te):PO X (some e) (Cr te):=by
 intro pins s σ H Q I hw
 rw [evalPart_some]
 refine cD (h pins s σ H _ I hw) fun u s1 x H1 I1 r1 q1=>?_
 obtain ⟨i,rfl,q⟩:=q1
 obtain ⟨t,rfl⟩:=r1
 exact ⟨some i,H1,I1,.int i t,q⟩
noncomputable def SlR (X:Cx)(r:V→Option Int→Option Int→Hp→VK→Prop):Prop :=
 ∀ (pins:List (Addr × Obj)) (s:Shared) (σ:St) (H:Hp) (x:V) (v vl vu:Value) (lo hi:Option Int) (sl:Addr) (Q:VK),Inv X pins σ H s→RelV x v→s.heap.IsSliceOf sl vl vu .none→IsPart vl lo→IsPart vu hi→r x lo hi H Q →
  ∃ T id,typeLookup (.type T) "__getitem__"=pure (some (.builtin id))∧s.TypeIs v T∧wpAny (model X.prog X.w) X.A (getItem v (.ref sl)) (EP X pins σ Q) X.xe s
theorem SlR.or {r r':V→Option Int→Option Int→Hp→VK→Prop}(h:SlR X r)(h':SlR X r'):SlR X (fun x lo hi H Q=>r x lo hi H Q∨r' x lo hi H Q):=by
 intro pins s σ H x v vl vu lo hi sl Q I rx hs pl pu q
 rcases q with q | q
 ·exact h pins s σ H x v vl vu lo hi sl Q I rx hs pl pu q
 ·exact h' pins s σ H x v vl vu lo hi sl Q I rx hs pl pu q
noncomputable def tSl (r:V→Option Int→Option Int→Hp→VK→Prop)(te:TE)(tl th:TO):TE:=fun σ H Q=>te σ H fun x H1=>tl σ H1 fun l H2=>th σ H2 fun u H3=>r x l u H3 Q
theorem yp {r:V→Option Int→Option Int→Hp→VK→Prop}(hr:SlR X r)(he:PE X e te)(hl:PO X lo tl)(hu:PO X hi th):PE X (.Subscript e (.Slice lo hi none p2) pos) (tSl r te tl th):=by
 intro pins s σ H Q I h
 refine Subscript_ (cD (he pins s σ H _ I h) fun v s1 x H1 I1 r1 q1=>?_)
 refine wpAny_Slice (cD (hl pins s1 σ H1 _ I1 q1) fun vl s2 l H2 I2 pl q2=>cD (hu pins s2 σ H2 _ I2 q2) fun vu s3 u H3 I3 pu q3=>?_)
 rw [evalPart_none]
 refine wpAny_pure ?_
 have I4:Inv X pins σ H3 { s3 with heap:=s3.heap.push { cls:=.type "slice",data:=.fields #[vl,vu,.none] } }:=I3.kept (t':=s3.toks) fun b ob q=>Heap.get?_push_of_some _ q
 obtain ⟨T,id,hT,ht,hg⟩:=hr pins { s3 with heap:=s3.heap.push { cls:=.type "slice",data:=.fields #[vl,vu,.none] } } σ H3 x v vl vu l u s3.heap.objs.size Q I4 r1 (Heap.IsSliceOf.new ..) pl pu q3
 show wpAny (model X.prog X.w) X.A (subscriptTail e (.Slice lo hi none p2) v (.ref s3.heap.objs.size)) (EP X pins σ Q) X.xe { s3 with heap:=s3.heap.push { cls:=.type "slice",data:=.fields #[vl,vu,.none] } }
 exact tail_any (ops:=[.ref s3.heap.objs.size,v]) ht hT hg (by with_unfolding_all rfl)
noncomputable def sN (xs:List V)(lo hi:Option Int):List V:=(xs.drop (HT.sIx xs.length 0 lo)).take (HT.sIx xs.length xs.length hi - HT.sIx xs.length 0 lo)
theorem nM (xs:List V)(lo hi:Option Int):(sN xs lo hi).length≤xs.length:=by
 unfold sN
 rw [List.length_take,List.length_drop]
 omega
noncomputable def G4 (K:PySem.W.Frag):V→Option Int→Option Int→Hp→VK→Prop:=fun x lo hi H Q=>∃ a xs,x=.ref a∧SqT K H a xs ∧
 ¬ (HT.sIx xs.length 0 lo=0∧HT.sIx xs.length xs.length hi=xs.length)∧∀ p,H p=none→Q (.ref p) (upd H p (.tup (sN xs lo hi)))
theorem DA:SlR X (G4 X.K):=by
 intro pins s σ H x v vl vu lo hi sl Q I rx hs pl pu h
 obtain ⟨a,xs,rfl,hx,hw,q⟩:=h
 cases rx
 obtain ⟨its,r,ht,hz⟩:=I.tuple hx
 have hlen:its.toArray.size=xs.length:=by rw [List.size_toArray]; exact r.length.symm
 refine ⟨"tuple",_,PyProof.Rows.slot_tuple_getitem.lookup,ht.typeIs, ?_⟩
 refine HT.lO ht hs pl pu (by rw [hlen]; exact hw) ?_ (by rw [hlen]; exact hz)
 rw [hlen]
 refine ⟨.ref s.heap.objs.size,_,I.laid (t':=s.toks) (o:=.tup (sN xs lo hi)) (fun b ob q=>Heap.get?_push_of_some _ q) (Nat.le_refl _) ?_,rfl,q _ (I.hok.fresh (Nat.le_refl _))⟩
 exact ⟨Nat.le_trans (nM xs lo hi) hz,_,(r.drop (HT.sIx xs.length 0 lo)).take (HT.sIx xs.length xs.length hi - HT.sIx xs.length 0 lo),IsTup.new _ _⟩
noncomputable def Cs (K:PySem.W.Frag):R2:=fun x y H Q=>∃ a b xs ys,x=.ref a∧y=.ref b∧SqT K H a xs∧SqT K H b ys∧xs≠[]∧xs.length+ys.length≤sizeLine ∧
 (ys=[]→Q (.ref a) H)∧(ys≠[]→∀ p,H p=none→Q (.ref p) (upd H p (.tup (xs++ys))))
theorem Vals.rm {xs:List V}{us:List Value}(r:Vals xs us):us=[]↔xs=[]:=by
 cases r with
 | nil=>simp
 | cons _ _=>simp
theorem Ay:OpR X (binaryOp .Add) (Cs X.K):=by
 intro pins s σ H x y v u Q I rx ry h
 obtain ⟨a,b,xs,ys,rfl,rfl,ha,hb,hx,hz,q1,q2⟩:=h
 cases rx
 cases ry
 obtain ⟨its,r1,p1,_⟩:=I.tuple ha
 obtain ⟨its2,r2,p2,_⟩:=I.tuple hb
 refine HT.Av p1 p2 (fun z=>hx (r1.rm.mp z)) (fun z=>⟨.ref a,H,I,rfl,q1 (r2.rm.mp z)⟩) (fun z=>?_) (by rw [← r1.length, ← r2.length]; exact hz)
 refine ⟨.ref s.heap.objs.size,_,I.laid (t':=s.toks) (o:=.tup (xs++ys)) (fun b ob q=>Heap.get?_push_of_some _ q) (Nat.le_refl _) ?_,rfl,q2 (fun w=>z (r2.rm.mpr w)) _ (I.hok.fresh (Nat.le_refl _))⟩
 exact ⟨by rw [List.length_append]; exact hz,_,r1.append r2,IsTup.new _ _⟩
end
end L2
namespace L2
open PySem PySem.Spec PyProof.Rows
noncomputable def ixN (n:Nat)(i:Int):Option Nat:=if 0≤i then (if i<n then some i.toNat else none) else if -(n:Int)≤i then some (i+n).toNat else none
noncomputable def atI {α:Type}(xs:List α)(i:Int):Option α:=(ixN xs.length i).bind fun j=>xs[j]?
theorem Az {n:Nat}{i:Int}{j:Nat}(h:ixN n i=some j):seqIndex? i n=some j∧j<n∧-(n:Int)≤i∧i<n:=by
 unfold ixN at h
 by_cases h0:0≤i
 ·rw [if_pos h0] at h
  by_cases h1:i<n
  ·rw [if_pos h1] at h
   have e:i.toNat=j:=Option.some.inj h
   exact ⟨by rw [seqIndex_of h0 h1,e],by omega,by omega,h1⟩
  ·rw [if_neg h1] at h; cases h
 ·rw [if_neg h0] at h
  by_cases h1:-(n:Int)≤i
  ·rw [if_pos h1] at h
   have e:(i+n).toNat=j:=Option.some.inj h
   exact ⟨by rw [seqIndex_neg (by omega) h1,e],by omega,h1,by omega⟩
  ·rw [if_neg h1] at h; cases h
theorem rn {α:Type}{xs:List α}{i:Int}{v:α}(h:atI xs i=some v):∃ j,seqIndex? i xs.length=some j∧xs[j]?=some v∧j<xs.length∧-(xs.length:Int)≤i∧i<xs.length:=by
 unfold atI at h
 cases e:ixN xs.length i with
 | none=>rw [e] at h; cases h
 | some j =>
  rw [e] at h
  obtain ⟨h1,h2,h3,h4⟩:=Az e
  exact ⟨j,h1,h,h2,h3,h4⟩
noncomputable def vE (b:Expr):Prop:=∀ o i,subscripted b false o i=operate [o,i] (getItem o i)
noncomputable def IxR (X:Cx)(r:R2):Prop :=
 ∀ (value slice:Expr) (pins:List (Addr × Obj)) (s:Shared) (σ:St) (H:Hp) (x y:V) (v u:Value) (Q:VK),Inv X pins σ H s→RelV x v→RelV y u→r x y H Q →
  subscripted slice false v u=operate [v,u] (getItem v u)→wpAny (model X.prog X.w) X.A (subscriptTail value slice v u) (EP X pins σ Q) X.xe s
noncomputable def MtR (X:Cx)(id:String)(r:V→List V→Hp→VK→Prop):Prop :=
 ∀ (pins:List (Addr × Obj)) (s:Shared) (σ:St) (H:Hp) (x:V) (xs:List V) (v:Value) (us:List Value) (Q:VK),Inv X pins σ H s→RelV x v→Vals xs us→r x xs H Q →
  wpAny (model X.prog X.w) X.A (call (.builtin id) (v::us)) (EP X pins σ Q) X.xe s
section
variable {X:Cx}{a b:Expr}{ta tb:TE}{pos:Pos}
theorem IxR.or {r r':R2}(h:IxR X r)(h':IxR X r'):IxR X (fun x y H Q=>r x y H Q∨r' x y H Q):=by
 intro value slice pins s σ H x y v u Q I rx ry q hs
 rcases q with q | q
 ·exact h value slice pins s σ H x y v u Q I rx ry q hs
 ·exact h' value slice pins s σ H x y v u Q I rx ry q hs
theorem G5 {r:R2}(hr:IxR X r)(ha:PE X a ta)(hb:PE X b tb)(hs:vE b):PE X (.Subscript a b pos) (tOp r ta tb):=by
 intro pins s σ H Q I h
 exact Subscript_ (Dn ha hb I h fun v u s2 x y H2 I2 rx ry q=>hr a b pins s2 σ H2 x y v u Q I2 rx ry q (hs _ _))
noncomputable def G6 (K:PySem.W.Frag):R2:=fun x y H Q=>∃ p xs i v,x=.ref p∧y=.int i∧SqL K H p xs∧atI xs i=some v∧Q v H
noncomputable def G7 (K:PySem.W.Frag):R2:=fun x y H Q=>∃ p xs i v,x=.ref p∧y=.int i∧SqT K H p xs∧atI xs i=some v∧Q v H
noncomputable def G8:R2:=fun x y H Q=>∃ z i c,x=.str z∧y=.int i∧z.length≤sizeLine∧atI z.cps.toList i=some c∧Q (.str ⟨#[c]⟩) H
theorem AA:IxR X (G6 X.K):=by
 intro value slice pins s σ H x y v u Q I rx ry h hs
 obtain ⟨p,xs,i,z,rfl,rfl,hq,he,q⟩:=h
 cases rx
 obtain ⟨t,rfl⟩:=ry
 obtain ⟨its,r,pl,hz⟩:=I.list hq
 obtain ⟨j,h1,h2,h3,h4,h5⟩:=rn he
 obtain ⟨w,ew,rw'⟩:=r.get h2
 have hl:=r.length
 have hn:=ri
 have fin:EP X pins σ Q w s:=⟨z,H,I,rw',q⟩
 by_cases h0:0≤i
 ·have hj:i.toNat=j:=by
   rw [seqIndex_of h0 h5] at h1
   exact Option.some.inj h1
  exact item_listR pl.isList h0 (by omega) (by rw [hj]; simpa using ew) fin hs
 ·have hj:(i+(its.toArray.size:Int)).toNat=j:=by
   rw [seqIndex_neg (by omega) h4] at h1
   rw [List.size_toArray, ← hl]
   exact Option.some.inj h1
  exact subscriptTail_builtinR (x:=w) pl.isList.typeIs slot_list_getitem.lookup
   (wpAny_getItem_list_neg (Q:=fun r s'=>r=w∧EP X pins σ Q r s') pl.isList (by omega) (by rw [List.size_toArray] <;> omega) (by omega) (by rw [hj]; simpa using ew) ⟨rfl,fin⟩) hs
theorem DB:IxR X (G7 X.K):=by
 intro value slice pins s σ H x y v u Q I rx ry h hs
 obtain ⟨p,xs,i,z,rfl,rfl,hq,he,q⟩:=h
 cases rx
 obtain ⟨t,rfl⟩:=ry
 obtain ⟨its,r,pl,hz⟩:=I.tuple hq
 obtain ⟨j,h1,h2,h3,h4,h5⟩:=rn he
 obtain ⟨w,ew,rw'⟩:=r.get h2
 have hl:=r.length
 have hn:=ri
 have fin:EP X pins σ Q w s:=⟨z,H,I,rw',q⟩
 exact subscriptTail_builtinR (x:=w) pl.typeIs slot_tuple_getitem.lookup
  (getItem_tuple (j:=j) (Q:=fun r s'=>r=w∧EP X pins σ Q r s') pl (by omega) (by omega) (by rw [List.size_toArray, ← hl]; exact h1) (by simpa using ew) ⟨rfl,fin⟩) hs
theorem DC:IxR X G8:=by
 intro value slice pins s σ H x y v u Q I rx ry h hs
 obtain ⟨z,i,c,rfl,rfl,hz,he,q⟩:=h
 obtain ⟨t,rfl⟩:=rx
 obtain ⟨t',rfl⟩:=ry
 obtain ⟨j,h1,h2,h3,h4,h5⟩:=rn he
 have hl:z.cps.toList.length=z.length:=by simp [Str.length]
 rw [hl] at h1 h4 h5
 have hn:=ri
 exact tail_any (typeIs_str s z t) slot_str_getitem.lookup (getItem_str (c:=c) (by
  have e1:decide (i < -(2 ^ 63:Int))=false:=decide_eq_false (by omega)
  have e2:decide (i ≥ 2 ^ 63)=false:=decide_eq_false (by omega)
  rw [e1,e2,Bool.or_false]) (by rw [h1]; simpa using h2) ⟨.str ⟨#[c]⟩,H,I.tok _,⟨_,rfl⟩,q⟩) hs
noncomputable def rIx (K:PySem.W.Frag):R2:=fun x y H Q=>G6 K x y H Q∨G7 K x y H Q∨G8 x y H Q
theorem DE:IxR X (rIx X.K):=AA.or (DB.or DC)
theorem ro (lo hi:Option Int)(n:Nat):(sliceBounds lo hi none n).1=((HT.sIx n 0 lo:Nat):Int)∧(sliceBounds lo hi none n).2.1=((HT.sIx n n hi:Nat):Int)∧(sliceBounds lo hi none n).2.2=1:=by
 refine ⟨?_, ?_,rfl⟩
 ·cases lo with
  | none=>simp [sliceBounds,HT.sIx]
  | some i =>
   simp only [sliceBounds,HT.sIx,Option.getD_none,show (1:Int) > 0 by decide,if_true]
   by_cases h:i<0
   ·simp only [h,if_true] <;> omega
   ·simp only [h,if_false] <;> omega
 ·cases hi with
  | none=>simp [sliceBounds,HT.sIx]
  | some i =>
   simp only [sliceBounds,HT.sIx,Option.getD_none,show (1:Int) > 0 by decide,if_true]
   by_cases h:i<0
   ·simp only [h,if_true] <;> omega
   ·simp only [h,if_false] <;> omega
theorem q9 (its:List Value)(lo hi:Option Int):slicePick its.toArray lo hi none=((its.drop (HT.sIx its.length 0 lo)).take (HT.sIx its.length its.length hi - HT.sIx its.length 0 lo)).toArray:=by
 obtain ⟨h1,h2,h3⟩:=ro lo hi its.toArray.size
 unfold slicePick
 rw [h1,h2,h3]
 simp only [sliceRange_one,pick_run,List.size_toArray] <;> rfl
noncomputable def G9 (K:PySem.W.Frag):V→Option Int→Option Int→Hp→VK→Prop:=fun x lo hi H Q=>∃ a xs,x=.ref a∧SqL K H a xs∧∀ p,H p=none→Q (.ref p) (upd H p (.lst (sN xs lo hi)))
theorem AB:SlR X (G9 X.K):=by
 intro pins s σ H x v vl vu lo hi sl Q I rx hs pl pu h
 obtain ⟨a,xs,rfl,hx,q⟩:=h
 cases rx
 obtain ⟨its,r,ht,hz⟩:=I.list hx
 have hlen:=r.length
 refine ⟨"list",_,slot_list_getitem.lookup,ht.isList.typeIs, ?_⟩
 refine wpAny_getItem_list_slice ht.isList hs pl pu .none (by simp) ?_ (by rw [List.size_toArray] <;> omega)
 rw [q9, ← hlen]
 refine ⟨.ref s.heap.objs.size,_,I.laid (t':=s.toks) (o:=.lst (sN xs lo hi)) (fun b ob q=>Heap.get?_push_of_some _ q) (Nat.le_refl _) ?_,rfl,q _ (I.hok.fresh (Nat.le_refl _))⟩
 exact ⟨Nat.le_trans (nM xs lo hi) hz,_,0,(r.drop (HT.sIx xs.length 0 lo)).take (HT.sIx xs.length xs.length hi - HT.sIx xs.length 0 lo),Heap.get?_push_size _ rfl⟩
noncomputable def Ga:V→Bool
 | .non=>true
 | .bl _=>true
 | .int _=>true
 | .str _=>true
 | _=>false
theorem rp:jz X (.type "list") (fun xs H Q=>∃ p ys,xs=[.ref p]∧(SqL X.K H p ys∨SqT X.K H p ys)∧∀ l,H l=none→Q (.ref l) (upd H l (.lst ys))):=by
 intro pins s σ H xs us Q I r h
 obtain ⟨p,ys,rfl,hq,q⟩:=h
 obtain ⟨u,rfl,rx⟩:=vals1 r
 cases rx
 have fin:∀ (its:List Value),Vals ys its→ys.length≤sizeLine→∀ (h':Heap) (c':Nat),(∀ b o',s.heap.get? b=some o'→h'.get? b=some o') →
   h'.get? s.heap.objs.size=some { cls:=.type "list",dict:=none,data:=.seq its.toArray c',slots:=#[] }→EP X pins σ Q (.ref s.heap.objs.size) { s with heap:=h' }:=fun its r' hz h' c' kp e =>
  ⟨.ref s.heap.objs.size,_,I.laid (t':=s.toks) kp (Nat.le_refl _) (show fy X.prog X.w _ h' _ (.lst ys) from ⟨hz,its,c',r',e⟩),rfl,q _ (I.hok.fresh (Nat.le_refl _))⟩
 rcases hq with hq | hq
 ·obtain ⟨its,r',pl,hz⟩:=I.list hq
  have hlen:=r'.length
  obtain ⟨o,ho,hc,n,hd⟩:=pl.isList
  exact call_list_seq p (.inl rfl) ho hc hd (fun h' c' kp e=>fin its r' hz h' c' kp e) (by simp only [List.size_toArray] <;> omega)
 ·obtain ⟨its,r',pl,hz⟩:=I.tuple hq
  have hlen:=r'.length
  obtain ⟨o,ho,hc,n,hd⟩:=pl
  exact call_list_seq p (.inr rfl) ho hc hd (fun h' c' kp e=>fin its r' hz h' c' kp e) (by simp only [List.size_toArray] <;> omega)
noncomputable def tyV (K:PySem.W.Frag)(T:String)(x:V)(H:Hp):Prop:=match x with
 | .str _=>T="str"
 | .int _=>T="int"
 | .ref p=>(T="list"∧∃ xs,SqL K H p xs)∨(T="tuple"∧∃ o,K.lookup p=some o∧o.cls=.type "tuple"∧o.dict=none) ∨
   (T="dict"∧((∃ kvs,H p=some (.dK kvs))∨∃ kvs,H p=some (.dT kvs)))∨(T="set"∧∃ S n,H p=some (.set S n))
 | _=>False
theorem yq {pins:List (Addr × Obj)}{σ:St}{H:Hp}{s:Shared}{T:String}{x:V}{v:Value}(I:Inv X pins σ H s)(r:RelV x v)(ty:tyV X.K T x H) :
  s.TypeIs v T∧∀ a,v=.ref a→∃ ob,s.heap.get? a=some ob∧ob.dict=none:=by
 cases x with
 | str z =>
  obtain ⟨t,rfl⟩:=r
  cases (show T="str" from ty)
  exact ⟨typeIs_str s z t,fun _ e=>nomatch e⟩
 | int i =>
  obtain ⟨t,rfl⟩:=r
  cases (show T="int" from ty)
  exact ⟨typeIs_int s i t,fun _ e=>nomatch e⟩
 | ref p =>
  cases r
  rcases ty with ⟨rfl,xs,hq⟩ | ⟨rfl,o,hk,hc,hd⟩ | ⟨rfl,hk⟩ | ⟨rfl,S,n,hk⟩
  ·obtain ⟨its,_,pl,_⟩:=I.list hq
   refine ⟨pl.isList.typeIs,fun a e=>?_⟩
   cases e
   obtain ⟨o,n,e,c,hd,_⟩:=pl
   exact ⟨o,e,hd⟩
  ·refine ⟨⟨o,I.kIn p o hk,hc⟩,fun a e=>?_⟩
   cases e
   exact ⟨o,I.kIn _ o hk,hd⟩
  ·have z:∃ o,s.heap.get? p=some o∧o.ExactDict:=by
    rcases hk with ⟨kvs,hk⟩ | ⟨kvs,hk⟩
    ·obtain ⟨_,_,_,_,o,_,_,e,ex,_⟩:=I.hok p _ hk
     exact ⟨o,e,ex⟩
    ·obtain ⟨_,_,_,_,o,_,_,e,ex,_⟩:=I.hok p _ hk
     exact ⟨o,e,ex⟩
   obtain ⟨o,e,ex⟩:=z
   refine ⟨⟨o,e,ex.1⟩,fun a e2=>?_⟩
   cases e2
   exact ⟨o,e,ex.2.1⟩
  ·obtain ⟨o,_,_,_,e,ex,_⟩:=I.hok p _ hk
   refine ⟨⟨o,e,ex.1⟩,fun a e2=>?_⟩
   cases e2
   exact ⟨o,e,ex.2.1⟩
 | _=>exact False.elim ty
noncomputable def Gb (K:PySem.W.Frag)(T:String)(r:V→List V→Hp→VK→Prop)(to:TE):TE:=fun σ H Q=>to σ H fun x H1=>tyV K T x H1∧r x [] H1 Q
noncomputable def tBM (K:PySem.W.Frag)(T:String)(r:V→List V→Hp→VK→Prop)(to:TE)(t:TA):TE:=fun σ H Q=>to σ H fun x H1=>tyV K T x H1∧t σ H1 fun xs H2=>r x xs H2 Q
variable {o e:Expr}{es:List Expr}{to:TE}{t:TA}{name:Str}{apos cpos:Pos}{T id:String}{r:V→List V→Hp→VK→Prop}
theorem DF (pa:PlainAttrs T)(slot:Slot T name id)(hty:typeOf (.builtin id)=pure (.type "method_descriptor"))(hm:MtR X id r)(ho:PE X o to)
  (hbase:attributeBase o name X.env (eval o X.env)=eval o X.env:=by rfl) (hline:(apos.endLine == cpos.line)=true:=by rfl):PE X (.Call (.Attribute o name apos) [] [] cpos) (Gb X.K T r to):=by
 intro pins s σ H Q I h
 refine wpAny_Call_method0_late hbase hline (cD (ho pins s σ H _ I h) fun v s1 x H1 I1 r1 zz_=>?_)
 obtain ⟨ty,q1⟩:=zz_
 obtain ⟨h1,h2⟩:=yq I1 r1 ty
 exact ⟨T,id,pa,slot,hty,h1,h2,Calls.callWith_builtin rfl (PySem.evalArgs_none (hm pins s1 σ H1 x [] v [] Q I1 r1 .nil q1))⟩
theorem vF (pa:PlainAttrs T)(slot:Slot T name id)(hty:typeOf (.builtin id)=pure (.type "method_descriptor"))(hm:MtR X id r)(ho:PE X o to)(ha:PA X (e::es) t)
  (hbase:attributeBase o name X.env (eval o X.env)=eval o X.env:=by rfl)
  (hfew:((backTo cpos (starEach (e::es) X.env)).all (fun x=>!x.1) && (backToKw cpos (keywordEach [] X.env)).all (fun x=>x.1.isSome)
   && decide ((e::es).length+([]:List Keyword).length+(if ([]:List Keyword).isEmpty then 0 else 1)<30))=true:=by rfl)
  (hline:(apos.endLine == cpos.line)=true:=by rfl) (hs:starEach (e::es) X.env=(false,eval e X.env)::starEach es X.env:=by rfl) (hplain:(backTo cpos (starEach es X.env)).any (·.1)=false:=by rfl) :
  PE X (.Call (.Attribute o name apos) (e::es) [] cpos) (tBM X.K T r to t):=by
 intro pins s σ H Q I h
 refine wpAny_Call_method_late hbase hfew hline rfl (cD (ho pins s σ H _ I h) fun v s1 x H1 I1 r1 zz_=>?_)
 obtain ⟨ty,q1⟩:=zz_
 obtain ⟨h1,h2⟩:=yq I1 r1 ty
 refine ⟨T,id,pa,slot,hty,h1,h2, ?_⟩
 have hA:=ha cpos pins s1 σ H1 _ I1 q1
 rw [hs] at hA ⊢
 refine Calls.callWith_builtin (by show (false || (backTo cpos (starEach es X.env)).any (·.1))=false; rw [hplain] <;> rfl) (Calls.evalArgs_plain ?_)
 exact cD hA fun us s2 vs H2 I2 r2 q2=>hm pins s2 σ H2 x vs v us Q I2 r1 r2 q2
end
end L2
namespace L2
open PySem PySem.Spec PyProof.Rows
noncomputable def MtM (X:Cx)(id:String)(r:V→List V→Hp→VK→Prop):Prop :=
 ∀ (pins:List (Addr × Obj)) (s:Shared) (σ:St) (H:Hp) (x:V) (xs:List V) (v:Value) (us:List Value) (Q:VK),Inv X pins σ H s→RelV x v→Vals xs us→r x xs H Q →
  wpAny (model X.prog X.w) X.A (call (.builtin id) (v::us)) (EP X pins σ Q) X.xe s
theorem Vals.one:∀ {x:V} {us:List Value},Vals [x] us→∃ u,us=[u]∧RelV x u
 | _,_,.cons r .nil=>⟨_,rfl,r⟩
theorem Vals.two:∀ {x y:V} {us:List Value},Vals [x,y] us→∃ u v,us=[u,v]∧RelV x u∧RelV y v
 | _,_,_,.cons r (.cons q .nil)=>⟨_,_,rfl,r,q⟩
theorem Vals.zero:∀ {us:List Value},Vals [] us→us=[]
 | _,.nil=>rfl
theorem Vals.rep {xs:List V}{us:List Value}(h:Vals xs us):∀ k:Nat,Vals (List.replicate k xs).flatten (List.replicate k us).flatten
 | 0=>.nil
 | k+1=>by
  rw [List.replicate_succ,List.replicate_succ,List.flatten_cons,List.flatten_cons]
  exact Vals.append h (Vals.rep h k)
theorem foldl_rep (its:List Value):∀ (k:Nat) (acc:List Value),
  List.foldl (fun x1 x2=>x1++x2) acc.toArray (List.replicate k its.toArray)=(acc++(List.replicate k its).flatten).toArray
 | 0,acc=>by simp
 | k+1,acc=>by
  have e:acc.toArray++its.toArray=(acc++its).toArray:=by simp
  have e2:(acc++its)++(List.replicate k its).flatten=acc++(List.replicate (k+1) its).flatten:=by
   rw [List.replicate_succ,List.flatten_cons,List.append_assoc]
  rw [← e2, ← foldl_rep its k (acc++its), ← e,List.replicate_succ,List.foldl_cons]
section
variable {X:Cx}{pins:List (Addr × Obj)}{σ:St}{H:Hp}{s:Shared}{l b:Addr}{xs ys zs:List V}
theorem Inv.DG {its its':List Value}{n:Nat}{f:Array Value→Array Value}{t':Nat}(I:Inv X pins σ H s)(hH:H l=some (.lst xs))
  (e:s.heap.get? l=some { cls:=.type "list",data:=.seq its.toArray n }) (hf:f its.toArray=its'.toArray) (hv:Vals ys its') (hz:ys.length≤sizeLine) :
  Inv X pins σ (upd H l (.lst ys)) { s with heap:=s.heap.update l (Obj.mapSeq f),toks:=t' }:=by
 have q:=PySem.IsL.update e f
 rw [hf] at q
 refine I.write (x:=l) (e:=l) (by rw [hH]; exact trivial) (.inl rfl) (fun b' u hb hu=>(Heap.get?_update_other s.heap (Obj.mapSeq f) (Ne.symm hb)).trans hu) ⟨_,q⟩ ?_
 exact ⟨hz,its',_,hv,q⟩
theorem Inv.Gd {its:List Value}{t':Nat}(I:Inv X pins σ H s)(hv:Vals ys its)(hz:ys.length≤sizeLine) :
  Inv X pins σ (upd H s.heap.objs.size (.lst ys)) { s with heap:=s.heap.push { cls:=.type "list",data:=.seq its.toArray },toks:=t' } :=
 I.laid (fun _ _ q=>Heap.get?_push_of_some _ q) (Nat.le_refl _) ⟨hz,its,0,hv,Heap.get?_push_size _ rfl⟩
theorem Inv.fresh (I:Inv X pins σ H s):H s.heap.objs.size=none:=I.hok.fresh (Nat.le_refl _)
theorem Inv.yr (I:Inv X pins σ H s)(hH:H l=some (.lst xs)):xs.length≤sizeLine∧∃ (its:List Value) (n:Nat),Vals xs its∧xs.length=its.length∧s.heap.get? l=some { cls:=.type "list",data:=.seq its.toArray n }:=by
 obtain ⟨z,its,n,r,e⟩:=I.hok l _ hH
 exact ⟨z,its,n,r,r.length,e⟩
theorem sO {n:Nat}(h:n≤sizeLine):Builtin.List.listTooLong n=false:=by
 unfold Builtin.List.listTooLong
 exact decide_eq_false (by omega)
end
section
variable {X:Cx}
noncomputable def vG:V→List V→Hp→VK→Prop:=fun x vs H Q=>∃ l xs y,x=.ref l∧vs=[y]∧H l=some (.lst xs)∧xs.length<sizeLine∧Q .non (upd H l (.lst (xs++[y])))
theorem x3:MtM X "list.append" vG:=by
 intro pins s σ H x vs v us Q I rx rv h
 obtain ⟨l,xs,y,rfl,rfl,hH,hz,q⟩:=h
 cases rx
 obtain ⟨u,rfl,ru⟩:=rv.one
 obtain ⟨z,its,n,r,hl,e⟩:=I.yr hH
 refine call_meets F.slot_list_append ⟨_,e,rfl⟩ F.entry_list_append (F.args_list_append_2 _ _) (PySem.list_append l its.toArray n u (by rw [List.size_toArray]; omega)) ⟨e, ?_⟩
 refine ⟨.non,_,I.DG (its':=its++[u]) hH e (by simp) (r.append (.cons ru .nil)) ?_,rfl,q⟩
 rw [List.length_append,List.length_singleton]
 omega
noncomputable def vH:V→List V→Hp→VK→Prop:=fun x vs H Q=>∃ l b xs zs,x=.ref l∧vs=[.ref b]∧H l=some (.lst xs)∧H b=some (.lst zs)∧xs.length+zs.length≤sizeLine∧Q .non (upd H l (.lst (xs++zs)))
theorem x4:MtM X "list.extend" vH:=by
 intro pins s σ H x vs v us Q I rx rv h
 obtain ⟨l,b,xs,zs,rfl,rfl,hH,hB,hz,q⟩:=h
 cases rx
 obtain ⟨u,rfl,ru⟩:=rv.one
 cases ru
 obtain ⟨z,its,n,r,hl,e⟩:=I.yr hH
 obtain ⟨z2,its2,n2,r2,hl2,e2⟩:=I.yr hB
 have hsz:its.toArray.size+its2.toArray.size≤sizeLine:=by rw [List.size_toArray,List.size_toArray]; omega
 have hlong:¬ (!its.toArray.isEmpty && Builtin.List.listTooLong (its.toArray.size+its2.toArray.size))=true:=by
  rw [sO hsz,Bool.and_false]
  exact Bool.false_ne_true
 refine call_meets F.slot_list_extend ⟨_,e,rfl⟩ F.entry_list_extend (F.args_list_extend_2 _ _)
  (AutoSeq1.list_extend_list_list_0 l its.toArray n b its2.toArray n2 hlong (by rw [List.size_toArray]; omega) (by omega)) ⟨e,e2, ?_⟩
 refine ⟨.non,_,I.DG (its':=its++its2) hH e (by simp) (r.append r2) ?_,rfl,q⟩
 rw [List.length_append]
 omega
noncomputable def yt:V→List V→Hp→VK→Prop:=fun x vs H Q=>∃ l xs,x=.ref l∧vs=[]∧H l=some (.lst xs)∧Q .non (upd H l (.lst []))
theorem yu:MtM X "list.clear" yt:=by
 intro pins s σ H x vs v us Q I rx rv h
 obtain ⟨l,xs,rfl,rfl,hH,q⟩:=h
 cases rx
 have hus:=rv.zero
 subst hus
 obtain ⟨z,its,n,r,hl,e⟩:=I.yr hH
 refine call_meets F.slot_list_clear ⟨_,e,rfl⟩ F.entry_list_clear (F.args_list_clear_1 _) (AutoSeq1.list_clear_list_0 l its.toArray n (by rw [List.size_toArray]; omega)) ⟨e, ?_⟩
 exact ⟨.non,_,I.DG (its':=[]) (ys:=[]) hH e rfl .nil (Nat.zero_le _),rfl,q⟩
noncomputable def Iu:R2:=fun x y H Q=>∃ l k xs,x=.ref l∧y=.int k∧H l=some (.lst xs)∧-(2 ^ 63)≤k∧k<2 ^ 63∧xs.length * k.toNat≤sizeLine ∧
 ∀ p,H p=none→Q (.ref p) (upd H p (.lst (List.replicate k.toNat xs).flatten))
theorem len_rep {α:Type}(xs:List α)(k:Nat):(List.replicate k xs).flatten.length=k * xs.length:=by
 induction k with
 | zero=>simp
 | succ k ih=>rw [List.replicate_succ,List.flatten_cons,List.length_append,ih,Nat.succ_mul,Nat.add_comm]
theorem DH:OpR X (binaryOp .Mult) Iu:=by
 intro pins s σ H x y v u Q I rx ry h
 obtain ⟨l,k,xs,rfl,rfl,hH,h1,h2,hz,q⟩:=h
 cases rx
 obtain ⟨t,rfl⟩:=ry
 obtain ⟨z,its,n,r,hl,e⟩:=I.yr hH
 have hlen:its.toArray.size * k.toNat≤sizeLine:=by rw [List.size_toArray, ← hl]; exact hz
 have hcap:¬ its.toArray.size * k.toNat > (2 ^ 63 - 1) / 8:=by
  have:(sizeLine:Nat)≤(2 ^ 63 - 1) / 8:=by decide
  omega
 have hfit:¬ (!Builtin.List.listFitsIndex k)=true:=by
  rw [fitsIndex_both h1 h2]
  exact Bool.false_ne_true
 have hlong:¬ Builtin.List.listTooLong (its.toArray.size * k.toNat)=true:=by
  rw [sO hlen]
  exact Bool.false_ne_true
 have hnew:List.foldl (fun x1 x2=>x1++x2) #[] (List.replicate (if its.toArray.isEmpty=true then 0 else k.toNat) its.toArray)=(List.replicate k.toNat its).flatten.toArray:=by
  have f0:∀ m:Nat,List.foldl (fun x1 x2=>x1++x2) #[] (List.replicate m its.toArray)=(List.replicate m its).flatten.toArray:=fun m=>by
   have:=foldl_rep its m []
   rw [List.nil_append] at this
   exact this
  rw [f0]
  cases its with
  | nil=>simp
  | cons a r'=>rw [if_neg (by simp)]
 refine wpAny_binaryOp_repeat_ref (T:="list") (U:="int") (by decide) ⟨_,e,rfl⟩ (fun s'=>typeIs_int s' k t) noFill_list_mul F.fills_int_mul F.slot_int_rmul repeat_list F.slot_int_index.lookup
  (call_meets F.slot_int_rmul (typeIs_int s k t) F.entry_int_rmul (F.args_int_rmul_2 _ _) (int___rmul___int_list k t l its.toArray n)
   ⟨e,rfl,⟨_,e,rfl⟩,call_meets F.slot_list_mul ⟨_,e,rfl⟩ F.entry_list_mul (F.args_list_mul_2 _ _) (AutoListH.list___mul___list_int_3 l its.toArray n k t hfit hcap hlong) ⟨e, ?_⟩⟩)
 rw [hnew]
 exact ⟨.ref _,_,I.Gd (t':=s.toks) (r.rep k.toNat) (by rw [len_rep,Nat.mul_comm]; exact hz),rfl,q _ I.fresh⟩
end
section
variable {prog:Program}{w:World}{A:Around}{E:Value→Shared→Prop}{s:Shared}
end
section
variable {X:Cx}
end
end L2
namespace Att
open PySem PySem.W PySem.Calls PyProof.Rows
theorem nV {P:Params}{h:Heap}:∀ (ns:List Int) (vs:List Value),WellAll P h vs (ns.map WData.int)→IntsAre vs ns:=by
 intro ns
 induction ns with
 | nil =>
  intro vs w
  rw [List.map_nil] at w
  cases w
  exact .nil
 | cons n ns ih =>
  intro vs w
  rw [List.map_cons] at w
  cases w with
  | cons a b =>
   cases a
   exact .cons _ _ (ih _ b)
theorem x5 {l:OpenLaw}{n:Nat}(hn:l.most=some n){P:Params}{h:Heap}{args:List WData}{vals:List Value}
  (hpre:l.row.toRowW.claim.pre args=true) (hwl:WellAll P h vals args) :
  ∃ a vs ns,vals=[Value.ref a]∧args=[WData.list (ns.map WData.int)]∧h.get? a=some { cls:=.type "list",data:=.seq vs.toArray }∧IntsAre vs ns∧ns.length≤n:=by
 have hsh:WShape.hasAll [] args [.list .int]=true:=(pre_splitW hpre).1
 have hc:l.pre.holds [] { args:=args }=true:=(pre_splitW hpre).2
 obtain ⟨d,r,rfl,h1,h2⟩:=hasAllW_cons hsh
 obtain rfl:=hasAllW_nil h2
 obtain ⟨xs,rfl,h3⟩:=hasW_list h1
 obtain ⟨ns,rfl⟩:=items_int h3
 have hlen:ns.length≤n:=by
  unfold OpenLaw.pre at hc
  have h4:(WTm.not (.lt (.lit (.int (n:Int))) (.len (.arg 0)))).holds [] { args:=[.list (ns.map .int)] }=true:=by
   have h4:=(holds_andW hc).1
   rw [hn] at h4
   exact h4
  have h5:=condW_of h4 (w_not (w_lt w_lit (w_len_list (w_arg rfl))))
  rw [List.length_map] at h5
  refine Nat.le_of_not_lt fun q=>?_
  have q':(n:Int)<((ns.length:Nat):Int):=by omega
  first
   | (rw [decide_eq_true q'] at h5; exact absurd h5 (by decide))
   | (simp at h5; omega)
 cases hwl with
 | cons w1 w2 =>
  cases w2
  cases w1 with
  | list ho hall=>exact ⟨_,_,ns,rfl,rfl,ho,nV ns _ hall,hlen⟩
theorem x6 (l:OpenLaw)(args:List WData):l.row.toRowW.claim.post args (.bool true) args=true :=
 postW_of (r:=l.row.toRowW) (X:=(true == true))
  (show WShape.has [] (.bool true) .bool=true by first | rfl | decide | simp [WShape.has,WShape.arms,WShape.armsAll])
  (show (WTm.eq .res (.lit (.bool true))).value [] { args:=args,res:=some (.bool true),after:=args }=some (.bool (true == true)) from w_eq_bool (w_res rfl) w_lit) rfl
theorem sP {l:OpenLaw}{n:Nat}{q:Program}{loose:List Str}{XP:(Str→Option Value)→Heap→Prop}{YP:World→Heap→Prop}{d:DefRec}
  (hn:l.most=some n) (hdf:d.params.defaults=[])
  (call:∀ (w:World) (s₀ s₁:Shared) (mg mb:Str→Option Value) (fa:Addr) (o:Obj) (pm cd doc:Value) (a:Addr) (vs:List Value) (ns:List Int),
   Ground q loose [] XP w s₀ mg mb s₁.heap→YP w s₁.heap →
   s₁.heap.get? fa=some o→o.data=.func (docDef d.name d.params d.body d.scope pm cd doc)→s₁.heap.CodeRec cd d.name→mg d.name=some (.ref fa) →
   s₁.heap.get? a=some { cls:=.type "list",data:=.seq vs.toArray }→IntsAre vs ns→ns.length≤n→s₁.gens=#[] →
   codeAny (model l.prog w) callerA (.call (.ref fa) ⟨[.ref a],[]⟩) (fun r s'=>r=.ok (.ret (.bool true))∧OldK s₁.heap s'.heap∧s'.os=s₁.os∧AllBare s'.gens) s₁) :
  WalkO q loose XP YP l.row.toRowW d [] (fun f vs=>PySem.call f vs):=by
 intro w s₀ s₁ mg mb G Y fa o pm cd doc dV kV ho hd hcd hD hmg hg args vals as hpre hlay hrd hwl hlo
 obtain rfl:dV=.none:=Dflts.none hD hdf
 obtain rfl:kV=.none:=Dflts.noKw hD
 obtain ⟨a,vs,ns,rfl,rfl,hobj,hints,hlen⟩:=x5 hn hpre hwl
 refine enter_call (codeAny_mono (call w s₀ s₁ mg mb fa o pm cd doc a vs ns G Y ho (fd_plain hd) hcd hmg hobj hints hlen hg) fun r s' hq=>?_)
 obtain ⟨rfl,h2,h3,h4⟩:=hq
 exact ⟨.inl ⟨.bool true,.bool true,[],rfl,fun _=>rfl,.bool true,x6 l _,fun _=>⟨List.Pairwise.nil,fun _ hm=>(nomatch hm)⟩⟩,h2,h3,h4⟩
section
variable {prog:Program}{w:World}{A:Around}{E:Value→Shared→Prop}{s:Shared}{K:Frag}
end
end Att
namespace L2
open PySem PySem.Spec PyProof.Rows
theorem gm:∀ {vs:List Value} {ns:List Int},IntsAre vs ns→Vals (ns.map V.int) vs
 | _,_,.nil=>.nil
 | _,_,.cons n t h=>.cons ⟨t,rfl⟩ (gm h)
noncomputable def DI (H:Hp):Prop:=∀ b,H b=none∨∃ o xs,H b=some (.frz o (.lst xs))
theorem yw {P:Program}{w:World}{K:PySem.W.Frag}{mg mb:Str→Option Value}{CX:CXT}{k:Nat}{fa a:Addr}{fd:FuncData}{x:Str}{sp:Sp}{s₁:Shared}{vs:List Value}{ns:List Int}
  (KX:K.In s₁.heap) (hns:s₁.heap.Ns mainGlobals mg) (hb:s₁.heap.Ns builtinsNs mb) (hbb:∀ x:Str,x≠"__name__"→mb x=bootBuiltins x) (hlim:s₁.heap.NoLimit) (hg:s₁.gens=#[])
  (ha:s₁.heap.get? a=some { cls:=.type "list",data:=.seq vs.toArray }) (hi:IntsAre vs ns) (hl:ns.length≤sizeLine) (hr:dS k callerA)
  (F:∀ base:Heap,K.In base→base.Ns mainGlobals mg→fz P w K mg base CX k fa fd [x] sp) (Ge:∀ (s:Shared) (u:Value),BindsTo s fd ⟨[u],[]⟩ [(x,u)])
  (hsp:∀ H:Hp,DI H→SqL K H a (ns.map V.int)→sp [.ref a] H (fun v _=>v=.bl true) fun _ _ _=>False)
  (hCX:∀ H e s',CX [] H s₁ (fun _ _ _=>False) e s'→False) :
  codeAny (model P w) callerA (.call (.ref fa) ⟨[.ref a],[]⟩) (fun r s'=>r=.ok (.ret (.bool true))∧OldK s₁.heap s'.heap∧s'.os=s₁.os∧AllBare s'.gens) s₁:=by
 have rv:=gm hi
 have lenV:=hi.length
 have core:∀ H:Hp,DI H→SqL K H a (ns.map V.int)→HOk P w H s₁.heap→(∀ b,H b≠none→b=a)→(H a≠none→K.lookup a=none) →
   codeAny (model P w) callerA (.call (.ref fa) ⟨[.ref a],[]⟩) (fun r s'=>r=.ok (.ret (.bool true))∧OldK s₁.heap s'.heap∧s'.os=s₁.os∧AllBare s'.gens) s₁:=by
  intro H hO hS hok hA hK
  have og:∀ {b:Addr} {o:Obj},s₁.heap.get? b=some o→H b=none→(r6 s₁.heap H).get? b=some o:=fun e n=>xY e n
  have noA:∀ {b:Addr} {o:Obj} {es:Array DictEntry} {ep:Nat},s₁.heap.get? b=some o→o.data=.dict es ep→H b=none:=fun {b o es ep} e d=>by
   cases q:H b with
   | none=>rfl
   | some u =>
    have e':b=a:=hA b (by rw [q]; simp)
    subst e'
    rw [ha] at e; cases e
    have d':Data.seq vs.toArray _=Data.dict es ep:=d
    cases d'
  have nsK:∀ {b:Addr} {m:Str→Option Value},s₁.heap.Ns b m→(r6 s₁.heap H).Ns b m:=fun {b m} ⟨o,es,ep,e,d,r⟩=>⟨o,es,ep,og e (noA e d),d,r⟩
  have hKb:K.In (r6 s₁.heap H):=fun b o e=>og (KX b o e) (by
   cases q:H b with
   | none=>rfl
   | some u =>
    have e':b=a:=hA b (by rw [q]; simp)
    subst e'
    rw [hK (by rw [q]; simp)] at e; cases e)
  have hM:Mod K mg (r6 s₁.heap H):=⟨hKb,nsK hns,⟨mb,nsK hb,hbb⟩,let ⟨mc,h1,h2⟩:=hlim; ⟨mc,nsK h1,h2⟩⟩
  have e0:uF P w K mg (r6 s₁.heap H) callerA [] s₁ H:=⟨rfl,hM,fun b o e=>Ac e,Nat.le_of_eq (wK _ _),trivial,fun b hb=>absurd (show b∈([]:List Addr) from hb) (by simp),hok,.of_eq hg⟩
  refine codeAny_mono ((F _ hKb (nsK hns)).run callerA [] s₁ H ⟨[.ref a],[]⟩ [.ref a] [.ref a] _ _ hr e0 (Ge s₁ (.ref a)) (.cons rfl .nil) (hsp H hO hS)) fun r s' h=>?_
  cases r with
  | error e=>exact (hCX H e s' h).elim
  | ok fl =>
   cases fl with
   | next=>exact False.elim h
   | brk=>exact False.elim h
   | cont=>exact False.elim h
   | ret u =>
    obtain ⟨v,H',os,bare,un,hok',r',q⟩:=h
    have q':v=.bl true:=q
    subst q'
    obtain rfl:u=Value.bool true:=r'
    refine ⟨rfl,OldK.of_keep fun b o e=>?_,os,bare⟩
    cases q:H b with
    | none=>exact un.keep b o e q (by intro z; exact absurd (show b∈([]:List Addr) from z) (by simp)) (by simp)
    | some u =>
     rcases hO b with z | ⟨ob,xs,z⟩
     ·rw [q] at z; cases z
     ·have z2:=un.oF b ob _ z
      obtain ⟨e1,_⟩:=hok b _ z
      obtain ⟨e2,_⟩:=hok' b _ z2
      rw [e] at e1; cases e1
      exact e2
 cases hk:K.lookup a with
 | some o =>
  have e:=KX a o hk
  rw [ha] at e
  cases e
  refine core (fun _=>none) (fun _=>.inl rfl) (.inr ⟨_,vs.toArray,_,hk,rfl,rfl,rfl,by rw [List.size_toArray,lenV]; exact hl,by simpa using rv⟩) (fun b u z=>by have z':(none:Option HO)=some u:=z; cases z') (fun b z=>absurd rfl z) fun z=>absurd rfl z
 | none =>
  refine core (fun b=>if b=a then some (.frz { cls:=.type "list",data:=.seq vs.toArray } (.lst (ns.map V.int))) else none) (fun b=>?_) (.inl (.inr ⟨{ cls:=.type "list",data:=.seq vs.toArray },if_pos rfl⟩)) (fun b u z=>?_) (fun b z=>?_) fun _=>hk
  ·by_cases hb:b=a
   ·exact .inr ⟨_,_,if_pos hb⟩
   ·exact .inl (if_neg hb)
  ·by_cases hb:b=a
   ·have z':=(if_pos hb).symm.trans z
    cases z'
    subst hb
    exact ⟨ha,by rw [List.length_map]; exact hl,vs,_,rv,ha⟩
   ·have z':=(if_neg hb).symm.trans z
    cases z'
  ·by_cases hb:b=a
   ·exact hb
   ·exact absurd (if_neg hb) z
end L2
namespace L2
open PySem PySem.Spec PyProof.Rows
theorem vI {l:PySem.W.OpenLaw}{n k:Nat}{q:Program}{loose:List Str}{XP:(Str→Option Value)→Heap→Prop}{YP:World→Heap→Prop}{d:DefRec}{K:Params→PySem.W.Frag}{CX:World→CXT}{sp:World→Sp}{x:Str}
  (hn:l.most=some n) (hn2:n≤sizeLine) (hdf:d.params.defaults=[]) (hr:dS k callerA)
  (hY:∀ (w:World) (h:Heap),YP w h→(K w.params).In h)
  (F:∀ (w:World) (mg:Str→Option Value) (fa:Addr) (h:Heap),(K w.params).In h→h.Ns mainGlobals mg→mg d.name=some (.ref fa) →
   ∃ fd:FuncData,(∀ (s:Shared) (u:Value),BindsTo s fd ⟨[u],[]⟩ [(x,u)]) ∧
    ∀ base:Heap,(K w.params).In base→base.Ns mainGlobals mg→fz l.prog w (K w.params) mg base (CX w) k fa fd [x] (sp w))
  (hsp:∀ (w:World) (H:Hp) (a:Addr) (ns:List Int),ns.length≤n→DI H→SqL (K w.params) H a (ns.map V.int)→sp w [.ref a] H (fun v _=>v=.bl true) fun _ _ _=>False)
  (hCX:∀ (w:World) (H:Hp) (s:Shared) (e:Value) (s':Shared),CX w [] H s (fun _ _ _=>False) e s'→False) :
  PySem.W.WalkO q loose XP YP l.row.toRowW d [] (fun f vs=>PySem.call f vs):=by
 refine Att.sP hn hdf fun w s₀ s₁ mg mb fa o pm cd doc a vs ns G Y ho hd hcd hmg hobj hints hlen hg=>?_
 have KX:=hY w _ Y
 obtain ⟨fd,hb,hF⟩:=F w mg fa _ KX G.T.g hmg
 exact yw KX G.T.g G.T.b G.T.builtins G.T.nolimit hg hobj hints (Nat.le_trans hlen hn2) hr hF hb (fun H hO hS=>hsp w H a ns hlen hO hS) fun H e s'=>hCX w H s₁ e s'
end L2
namespace L2
open PySem PySem.Spec PyProof.Rows
noncomputable def inClass (s:Stmt)(j:Nat):Stmt:=match s with
 | .ClassDef _ _ _ body _ _ _ _ _ _ _=>body.getD j (.Pass ⟨0,0,0,0⟩)
 | _=>.Pass ⟨0,0,0,0⟩
noncomputable def aI (s:Stmt):Arguments:=match s with
 | .FunctionDef _ a _ _ _ _ _ _ _ _=>a
 | _=>{ posonlyargs:=[],args:=[],vararg:=none,kwonlyargs:=[],kw_defaults:=[],kwarg:=none,defaults:=[] }
noncomputable def aw (s:Stmt):List Stmt:=match s with
 | .FunctionDef _ _ b _ _ _ _ _ _ _=>b
 | _=>[]
noncomputable def ag (s:Stmt):Scope:=match s with
 | .FunctionDef _ _ _ _ _ _ sc _ _ _=>sc
 | _=>{ kind:=.function,names:=[],isGenerator:=false,isCoroutine:=false }
noncomputable abbrev CX0:CXT:=fun _ _ _ _ _ _=>False
noncomputable abbrev E0:XK:=fun _ _ _=>False
theorem oM {X:Cx}:Passes CX0 X E0:=fun _ _ _ _ _ _ _ h=>h.elim
structure Fun (K:PySem.W.Frag)(x qual:Str)(st:Stmt)(f:Addr)(fd:FuncData):Prop where
 ex:∃ (oc:Value) (od:Option Addr) (kV doc pm:Value) (an:Option Addr) (cdv ct:Value) (osl:Array (Option Value)),
  fd=PySem.W.fnOf x qual (aI st) (aw st) (ag st) .none kV doc pm an cdv ct∧K.lookup f=some ⟨oc,od,.func fd,osl⟩∧PySem.W.codeIn K cdv qual=true
 kp:PySem.W.keepIn K (.ref f)=true
section
variable {P:Program}{w:World}{K:PySem.W.Frag}{mg:Str→Option Value}{base:Heap}
theorem Fun.ok {x qual:Str}{st:Stmt}{f:Addr}{fd:FuncData}{N ps:List Str}{k:Nat}{sp:Sp}(F:Fun K x qual st f fd)(S:aG N ps (ag st))(len:∀ vs H Q E,sp vs H Q E→vs.length=ps.length)
  (ym:∀ (cdv:Value) (A:Around) (outer:List Env) (s:Shared) (H:Hp) (vs:List V) (Q:VK) (E:XK),dS k (A.deeper (envOfC qual (ag st) s.heap.objs.size f cdv))→sp vs H Q E →
   ∃ t,PSs (wX CX0 P w K mg base N qual (ag st) f cdv A outer s H E).nox (aw st) t∧t { nx:=fun _ H'=>Q .non H',rt:=Q } (start N vs) H):fz P w K mg base CX0 (k+1) f fd ps sp:=by
 obtain ⟨oc,od,kV,doc,pm,an,cdv,ct,osl,rfl,lk,hcd⟩:=F.ex
 refine vB lk hcd S len fun A outer s H vs Q E hr hsp=>?_
 obtain ⟨t,h,q⟩:=ym cdv A outer s H vs Q E hr hsp
 exact ⟨t,h.nox,q⟩
theorem Fun.binds {x qual:Str}{st:Stmt}{f:Addr}{fd:FuncData}{ps:List Str}(F:Fun K x qual st f fd)
  (h:∀ (kV doc pm:Value) (an:Option Addr) (cdv ct:Value) (us:List Value),us.length=ps.length→bindArgs (PySem.W.fnOf x qual (aI st) (aw st) (ag st) .none kV doc pm an cdv ct) ⟨us,[]⟩=pure (ps.zip us)):Binds K fd ps []:=by
 obtain ⟨oc,od,kV,doc,pm,an,cdv,ct,osl,rfl,lk,hcd⟩:=F.ex
 exact .all (h kV doc pm an cdv ct)
theorem aZ {x qual:Str}{st:Stmt}{f:Addr}{oc:Value}{od an:Option Addr}{osl:Array (Option Value)}{kV doc pm cdv ct:Value}(l:K.lookup f=some ⟨oc,od,.func (PySem.W.fnOf x qual (aI st) (aw st) (ag st) .none kV doc pm an cdv ct),osl⟩)
  (c:PySem.W.codeIn K cdv qual=true) (k:PySem.W.keepIn K (.ref f)=true):Fun K x qual st f (PySem.W.fnOf x qual (aI st) (aw st) (ag st) .none kV doc pm an cdv ct):=⟨⟨oc,od,kV,doc,pm,an,cdv,ct,osl,rfl,l,c⟩,k⟩
end
theorem bF {A:Around}{k:Nat}(hr:dS k A):A.units+1<cLine:=Nat.lt_of_le_of_lt (Nat.add_le_add_left (by decide:1≤64) _) hr.units
section
variable {X:Cx}
end
noncomputable def aK (H H':Hp):Prop:=∀ b o,H b=some o→H' b=some o
theorem aK.refl (H:Hp):aK H H:=fun _ _ h=>h
theorem aK.trans {H H1 H2:Hp}(a:aK H H1)(b:aK H1 H2):aK H H2:=fun c o h=>b c o (a c o h)
theorem aK.free {H H':Hp}(e:aK H H'){l:Addr}(h:H' l=Option.none):H l=Option.none:=by
 cases q:H l with
 | none=>rfl
 | some o =>
  rw [e l o q] at h
  cases h
theorem aK.seq {K:PySem.W.Frag}{H H':Hp}{a:Addr}{xs:List V}(e:aK H H')(h:SqL K H a xs):SqL K H' a xs:=by
 rcases h with (h | ⟨o,h⟩) | h
 ·exact .inl (.inl (e _ _ h))
 ·exact .inl (.inr ⟨o,e _ _ h⟩)
 ·exact .inr h
end L2
end
section
namespace DL
open PySem L2
inductive D where
 | non
 | bl (b:Bool)
 | int (i:Int)
 | str (x:List Nat)
 | tup (ds:List D)
 | lst (ds:List D)
 | ob (c:Nat) (ks:List Nat) (ds:List D)
 | dct (ks:List (List Nat)) (ds:List D)
 | exc (c:Nat)
 deriving Inhabited
noncomputable abbrev mkS (x:List Nat):Str:=⟨x.toArray⟩
theorem vJ {x y:List Nat}(h:mkS x=mkS y):x=y:=by
 have:=congrArg (fun s:Str=>s.cps.toList) h
 simpa using this
theorem f6 (x:List Nat):(mkS x).length=x.length:=by simp [Str.length]
structure Tx where
 K:PySem.W.Frag
 cl:Nat→Option Addr
 fld:Nat→Str
noncomputable def LsA (T:Tx)(A:Addr→Prop)(H:Hp)(a:Addr)(xs:List V):Prop :=
 (Rd H a (.lst xs)∧A a) ∨
  ∃ (o:Obj) (its:Array Value) (n:Nat),T.K.lookup a=some o∧o.cls=.type "list"∧o.dict=none∧o.data=.seq its n∧its.size≤sizeLine∧Vals xs its.toList
noncomputable def XO (a C:Addr):HO:=.ext fun h=>∃ o:Obj,h.get? a=some o∧o.cls=.ref C∧o.dict=none∧∃ vs,o.data=.fields vs
mutual
noncomputable def Rep (T:Tx)(A:Addr→Prop)(H:Hp):D→V→Prop
 | .non,v=>v=.non
 | .bl b,v=>v=.bl b
 | .int i,v=>v=.int i
 | .str x,v=>v=.str (mkS x)
 | .tup ds,v=>∃ a xs,v=.ref a∧SqT T.K H a xs∧aC T A H ds xs
 | .lst ds,v=>∃ a xs,v=.ref a∧LsA T A H a xs∧aC T A H ds xs
 | .ob c ks ds,v=>∃ a C dx fs,v=.ref a∧A a∧T.cl c=some C∧H a=some (.ins C dx fs)∧fs.map (·.1)=ks.map T.fld∧aC T A H ds (fs.map (·.2))
 | .dct ks ds,v=>∃ a kvs,v=.ref a∧A a∧H a=some (.dK kvs)∧kvs.map (·.1)=ks.map (fun k=>(Sum.inr (mkS k):Key))∧aC T A H ds (kvs.map (·.2))
 | .exc c,v=>∃ a C,v=.ref a∧T.cl c=some C∧H a=some (XO a C)
noncomputable def aC (T:Tx)(A:Addr→Prop)(H:Hp):List D→List V→Prop
 | [],xs=>xs=[]
 | d::ds,xs=>∃ x r,xs=x::r∧Rep T A H d x∧aC T A H ds r
end
noncomputable def Mu:Option HO→Prop
 | some (.lst _)=>True
 | some (.ins _ _ _)=>True
 | some (.dK _)=>True
 | _=>False
theorem LsA.sq {T:Tx}{A:Addr→Prop}{H:Hp}{a:Addr}{xs:List V}(h:LsA T A H a xs):SqL T.K H a xs:=by
 rcases h with h | h
 ·exact .inl h.1
 ·exact .inr h
section
variable {T:Tx}{A A' O:Addr→Prop}{H H':Hp}
structure Kp (A A' O:Addr→Prop)(H H':Hp):Prop where
 keep:∀ b o,H b=some o→¬ O b→H' b=some o
 mu:∀ b,O b→Mu (H b)
 cl:∀ b o,A b→H b=some o→¬ O b
 to:∀ b o,A b→H b=some o→A' b
theorem Kp.sqT (k:Kp A A' O H H'){a:Addr}{xs:List V}(h:SqT T.K H a xs):SqT T.K H' a xs:=by
 rcases h with (h | ⟨o,h⟩) | h
 ·exact .inl (.inl (k.keep _ _ h fun z=>by have:=k.mu _ z; rw [h] at this; exact this))
 ·exact .inl (.inr ⟨o,k.keep _ _ h fun z=>by have:=k.mu _ z; rw [h] at this; exact this⟩)
 ·exact .inr h
theorem Kp.ls (k:Kp A A' O H H'){a:Addr}{xs:List V}(h:LsA T A H a xs):LsA T A' H' a xs:=by
 rcases h with ⟨h | ⟨o,h⟩,z⟩ | h
 ·exact .inl ⟨.inl (k.keep _ _ h (k.cl _ _ z h)),k.to _ _ z h⟩
 ·exact .inl ⟨.inr ⟨o,k.keep _ _ h (k.cl _ _ z h)⟩,k.to _ _ z h⟩
 ·exact .inr h
mutual
theorem Rep.kp (k:Kp A A' O H H'):∀ {d:D} {v:V},Rep T A H d v→Rep T A' H' d v
 | .non,_,h=>by simp only [Rep] at h ⊢; exact h
 | .bl _,_,h=>by simp only [Rep] at h ⊢; exact h
 | .int _,_,h=>by simp only [Rep] at h ⊢; exact h
 | .str _,_,h=>by simp only [Rep] at h ⊢; exact h
 | .tup ds,_,h=>by
  simp only [Rep] at h ⊢
  obtain ⟨a,xs,e,q,r⟩:=h
  exact ⟨a,xs,e,k.sqT q,aC.kp k r⟩
 | .lst ds,_,h=>by
  simp only [Rep] at h ⊢
  obtain ⟨a,xs,e,q,r⟩:=h
  exact ⟨a,xs,e,k.ls q,aC.kp k r⟩
 | .ob c ks ds,_,h=>by
  simp only [Rep] at h ⊢
  obtain ⟨a,C,dx,fs,e,z,c,q,n,r⟩:=h
  exact ⟨a,C,dx,fs,e,k.to _ _ z q,c,k.keep _ _ q (k.cl _ _ z q),n,aC.kp k r⟩
 | .dct ks ds,_,h=>by
  simp only [Rep] at h ⊢
  obtain ⟨a,kvs,e,z,q,n,r⟩:=h
  exact ⟨a,kvs,e,k.to _ _ z q,k.keep _ _ q (k.cl _ _ z q),n,aC.kp k r⟩
 | .exc c,_,h=>by
  simp only [Rep] at h ⊢
  obtain ⟨a,C,e,c,q⟩:=h
  exact ⟨a,C,e,c,k.keep _ _ q fun z=>by have:=k.mu _ z; rw [q] at this; exact this⟩
theorem aC.kp (k:Kp A A' O H H'):∀ {ds:List D} {vs:List V},aC T A H ds vs→aC T A' H' ds vs
 | [],_,h=>by simp only [aC] at h ⊢; exact h
 | d::ds,_,h=>by
  simp only [aC] at h ⊢
  obtain ⟨x,r,e,h1,h2⟩:=h
  exact ⟨x,r,e,Rep.kp k h1,aC.kp k h2⟩
end
theorem Kp.same (s:aK H H')(hA:∀ b o,A b→H b=some o→A' b):Kp A A' (fun _=>False) H H':=⟨fun b o h _=>s b o h,fun _ z=>z.elim,fun _ _ _ _ z=>z,hA⟩
theorem Rep.mono (s:aK H H')(hA:∀ b,A b→A' b){d:D}{v:V}(h:Rep T A H d v):Rep T A' H' d v:=h.kp (Kp.same s fun b _ z _=>hA b z)
theorem aC.mono (s:aK H H')(hA:∀ b,A b→A' b){d:List D}{v:List V}(h:aC T A H d v):aC T A' H' d v:=h.kp (Kp.same s fun b _ z _=>hA b z)
theorem aC.nil:aC T A H [] []:=by simp only [aC]
theorem aC.cons {d:D}{v:V}{ds:List D}{vs:List V}(h:Rep T A H d v)(r:aC T A H ds vs):aC T A H (d::ds) (v::vs):=by
 simp only [aC]; exact ⟨v,vs,rfl,h,r⟩
theorem aC.ju {vs:List V}(h:aC T A H [] vs):vs=[]:=by simpa only [aC] using h
theorem aC.dF {d:D}{ds:List D}{vs:List V}(h:aC T A H (d::ds) vs):∃ x r,vs=x::r∧Rep T A H d x∧aC T A H ds r:=by simpa only [aC] using h
theorem aC.length:∀ {ds:List D} {vs:List V},aC T A H ds vs→ds.length=vs.length
 | [],_,h=>by rw [h.ju]; rfl
 | d::ds,_,h=>by
  obtain ⟨x,r,rfl,_,h2⟩:=h.dF
  simp [aC.length h2]
theorem aC.get:∀ {ds:List D} {vs:List V} {i:Nat} {d:D},aC T A H ds vs→ds[i]?=some d→∃ v,vs[i]?=some v∧Rep T A H d v
 | [],_,_,_,h,e=>by simp at e
 | d::ds,_,0,_,h,e=>by
  obtain ⟨x,r,rfl,h1,_⟩:=h.dF
  simp at e; subst e
  exact ⟨x,rfl,h1⟩
 | d::ds,_,i+1,c,h,e=>by
  obtain ⟨x,r,rfl,_,h2⟩:=h.dF
  obtain ⟨v,e1,e2⟩:=aC.get (i:=i) (d:=c) h2 (by simpa using e)
  exact ⟨v,by simpa using e1,e2⟩
theorem aC.rq:∀ {ds:List D} {vs:List V} {i:Nat} {v:V},aC T A H ds vs→vs[i]?=some v→∃ d,ds[i]?=some d∧Rep T A H d v
 | [],_,_,_,h,e=>by rw [h.ju] at e; simp at e
 | d::ds,_,0,_,h,e=>by
  obtain ⟨x,r,rfl,h1,_⟩:=h.dF
  simp at e; subst e
  exact ⟨d,rfl,h1⟩
 | d::ds,_,i+1,c,h,e=>by
  obtain ⟨x,r,rfl,_,h2⟩:=h.dF
  obtain ⟨v,e1,e2⟩:=aC.rq (i:=i) (v:=c) h2 (by simpa using e)
  exact ⟨v,by simpa using e1,e2⟩
theorem aC.append:∀ {ds es:List D} {vs us:List V},aC T A H ds vs→aC T A H es us→aC T A H (ds++es) (vs++us)
 | [],_,_,_,h,g=>by rw [h.ju]; simpa using g
 | d::ds,_,_,_,h,g=>by
  obtain ⟨x,r,rfl,h1,h2⟩:=h.dF
  exact .cons h1 (aC.append h2 g)
theorem aC.take:∀ {ds:List D} {vs:List V} (n:Nat),aC T A H ds vs→aC T A H (ds.take n) (vs.take n)
 | _,_,0,_=>by simp only [List.take_zero]; exact .nil
 | [],_,n+1,h=>by rw [h.ju]; simp only [List.take_nil]; exact .nil
 | d::ds,_,n+1,h=>by
  obtain ⟨x,r,rfl,h1,h2⟩:=h.dF
  exact .cons h1 (aC.take n h2)
theorem aC.drop:∀ {ds:List D} {vs:List V} (n:Nat),aC T A H ds vs→aC T A H (ds.drop n) (vs.drop n)
 | _,_,0,h=>by simpa using h
 | [],_,n+1,h=>by rw [h.ju]; simp only [List.drop_nil]; exact .nil
 | d::ds,_,n+1,h=>by
  obtain ⟨x,r,rfl,h1,h2⟩:=h.dF
  exact aC.drop n h2
theorem Rep.fL {ds:List D}{v:V}(h:Rep T A H (.lst ds) v):∃ a xs,v=.ref a∧LsA T A H a xs∧aC T A H ds xs:=by simpa only [Rep] using h
theorem Rep.iq {ds:List D}{v:V}(h:Rep T A H (.tup ds) v):∃ a xs,v=.ref a∧SqT T.K H a xs∧aC T A H ds xs:=by simpa only [Rep] using h
theorem Rep.ob_ {c:Nat}{ks:List Nat}{ds:List D}{v:V}(h:Rep T A H (.ob c ks ds) v):∃ a C dx fs,v=.ref a∧A a∧T.cl c=some C∧H a=some (.ins C dx fs)∧fs.map (·.1)=ks.map T.fld∧aC T A H ds (fs.map (·.2)):=by simpa only [Rep] using h
theorem Rep.Gg {ks:List (List Nat)}{ds:List D}{v:V}(h:Rep T A H (.dct ks ds) v):∃ a kvs,v=.ref a∧A a∧H a=some (.dK kvs)∧kvs.map (·.1)=ks.map (fun k=>(Sum.inr (mkS k):Key))∧aC T A H ds (kvs.map (·.2)):=by simpa only [Rep] using h
theorem Rep.Gh {c:Nat}{v:V}(h:Rep T A H (.exc c) v):∃ a C,v=.ref a∧T.cl c=some C∧H a=some (XO a C):=by simpa only [Rep] using h
theorem Rep.dU {i:Int}{v:V}(h:Rep T A H (.int i) v):v=.int i:=by simpa only [Rep] using h
theorem Rep.h8 {i:List Nat}{v:V}(h:Rep T A H (.str i) v):v=.str (mkS i):=by simpa only [Rep] using h
theorem Rep.bl_ {i:Bool}{v:V}(h:Rep T A H (.bl i) v):v=.bl i:=by simpa only [Rep] using h
theorem Rep.mU {v:V}(h:Rep T A H .non v):v=.non:=by simpa only [Rep] using h
theorem Rep.int (i:Int):Rep T A H (.int i) (.int i):=by simp only [Rep]
theorem Rep.str (i:List Nat):Rep T A H (.str i) (.str (mkS i)):=by simp only [Rep]
theorem Rep.bl (i:Bool):Rep T A H (.bl i) (.bl i):=by simp only [Rep]
theorem Rep.non:Rep T A H .non .non:=by simp only [Rep]
theorem Rep.lst {a:Addr}{xs:List V}{ds:List D}(h:LsA T A H a xs)(r:aC T A H ds xs):Rep T A H (.lst ds) (.ref a):=by simp only [Rep]; exact ⟨a,xs,rfl,h,r⟩
theorem Rep.tup {a:Addr}{xs:List V}{ds:List D}(h:SqT T.K H a xs)(r:aC T A H ds xs):Rep T A H (.tup ds) (.ref a):=by simp only [Rep]; exact ⟨a,xs,rfl,h,r⟩
theorem ck {H:Hp}{p:Addr}(h:H p=none)(o:HO):aK H (upd H p o):=fun b u q=>by rw [aH (dz q h)]; exact q
theorem Rep.x8 {ds:List D}{vs:List V}(r:aC T A H ds vs){p:Addr}(hp:H p=none):Rep T A (upd H p (.tup vs)) (.tup ds) (.ref p) :=
 .tup (SqT.of bD) (r.mono (ck hp _) fun _ z=>z)
theorem Rep.Gi {ds:List D}{vs:List V}(r:aC T A H ds vs){p:Addr}(hp:H p=none)(a:A p):Rep T A (upd H p (.lst vs)) (.lst ds) (.ref p) :=
 .lst (.inl ⟨.inl bD,a⟩) (r.mono (ck hp _) fun _ z=>z)
end
structure Fr (O:Addr→Prop)(H:Hp)(O':Addr→Prop)(H':Hp):Prop where
 keep:∀ b o,H b=some o→¬ O b→H' b=some o
 more:∀ b,O' b→O b∨H b=none
 dom:∀ b,H' b=none→H b=none
theorem Fr.refl (O:Addr→Prop)(H:Hp):Fr O H O H:=⟨fun _ _ h _=>h,fun _ h=>.inl h,fun _ h=>h⟩
theorem Fr.same {O:Addr→Prop}{H H':Hp}(s:aK H H'):Fr O H O H':=⟨fun b o h _=>s b o h,fun _ h=>.inl h,fun _ h=>s.free h⟩
theorem Fr.trans {O O1 O2:Addr→Prop}{H H1 H2:Hp}(a:Fr O H O1 H1)(b:Fr O1 H1 O2 H2):Fr O H O2 H2 where
 keep:=fun c o h n=>b.keep c o (a.keep c o h n) fun z=>(a.more c z).elim n fun e=>by rw [h] at e; cases e
 more:=fun c z=>by
  rcases b.more c z with q | q
  ·exact a.more c q
  ·exact .inr (a.dom c q)
 dom:=fun c z=>a.dom c (b.dom c z)
inductive Slot where
 | no
 | val (d:D)
 | own (ds:List D)
 | obj (c:Nat) (ks:List Nat) (ds:List D)
 | red (ds:List D)
 | lP (dss:List (List D))
 | x9 (dss:List (List D))
 | uI (n:Nat)
 deriving Inhabited
noncomputable abbrev aN:=List Slot
noncomputable def Slot.gW:Slot→Bool
 | .own _=>true
 | .obj _ _ _=>true
 | .lP _=>true
 | .uI _=>true
 | _=>false
structure Wf where
 A:Addr→Prop
 H0:Hp
 O0:Addr→Prop
noncomputable abbrev Cl (W:Wf)(O:Addr→Prop):Addr→Prop:=fun b=>W.A b∧¬ O b
structure Inl (P:List D→Addr→Prop)(dss:List (List D))(bs:List Addr):Prop where
 len:dss.length=bs.length
 at_:∀ (k:Nat) (ds:List D) (b:Addr),dss[k]?=some ds→bs[k]?=some b→P ds b
theorem Inl.imp {P P':List D→Addr→Prop}{dss:List (List D)}{bs:List Addr}(h:Inl P dss bs)(g:∀ ds b,b∈bs→P ds b→P' ds b):Inl P' dss bs :=
 ⟨h.len,fun k ds b e1 e2=>g ds b (List.mem_of_getElem? e2) (h.at_ k ds b e1 e2)⟩
theorem Inl.mem {P:List D→Addr→Prop}{dss:List (List D)}{bs:List Addr}(h:Inl P dss bs){b:Addr}(hb:b∈bs):∃ ds,P ds b:=by
 obtain ⟨k,hk,e⟩:=List.getElem_of_mem hb
 exact ⟨_,h.at_ k (dss[k]'(h.len ▸ hk)) b (List.getElem?_eq_getElem _) (by rw [List.getElem?_eq_getElem hk,e])⟩
noncomputable def jB (T:Tx)(W:Wf)(O:Addr→Prop)(H:Hp):Slot→Option V→Prop
 | .no,_=>True
 | .val d,v=>∃ u,v=some u∧Rep T (Cl W O) H d u
 | .own ds,v=>∃ a xs,v=some (.ref a)∧O a∧W.H0 a=none∧H a=some (.lst xs)∧aC T (Cl W O) H ds xs
 | .obj c ks ds,v=>∃ a C dx fs,v=some (.ref a)∧O a∧W.H0 a≠none∧T.cl c=some C∧H a=some (.ins C dx fs)∧fs.map (·.1)=ks.map T.fld∧aC T (Cl W O) H ds (fs.map (·.2))
 | .red ds,v=>∃ a xs,v=some (.ref a)∧¬ W.O0 a∧W.H0 a=some (.lst xs)∧aC T (Cl W O) H ds xs
 | .lP dss,v=>∃ a bs,v=some (.ref a)∧O a∧W.H0 a=none∧H a=some (.lst (bs.map V.ref))∧Inl (fun ds b=>O b∧W.H0 b=none∧∃ ys,H b=some (.lst ys)∧aC T (Cl W O) H ds ys) dss bs
 | .x9 dss,v=>∃ a bs,v=some (.ref a)∧¬ W.O0 a∧W.H0 a=some (.lst (bs.map V.ref))∧Inl (fun ds b=>¬ W.O0 b∧∃ ys,W.H0 b=some (.lst ys)∧aC T (Cl W O) H ds ys) dss bs
 | .uI n,v=>∃ a xs,v=some (.ref a)∧O a∧W.H0 a=none∧H a=some (.lst xs)∧xs.length=n
structure bN (T:Tx)(W:Wf)(O:Addr→Prop)(H:Hp)(env:aN)(σ:St):Prop where
 fr:Fr W.O0 W.H0 O H
 new:∀ a,W.H0 a=none→W.A a
 mu:∀ a,O a→Mu (H a)
 slot:∀ (i:Nat) (s:Slot),env[i]?=some s→jB T W O H s (σ[i]?).join
 inj:∀ (i j:Nat) (s t:Slot) (a:Addr),env[i]?=some s→env[j]?=some t→s.gW=true→t.gW=true→σ[i]?=some (some (.ref a))→σ[j]?=some (some (.ref a))→i=j
 len:env.length=σ.length
 nW:∀ (i j:Nat) (dss:List (List D)) (t:Slot) (a:Addr) (bs:List Addr) (b:Addr),env[i]?=some (.lP dss)→σ[i]?=some (some (.ref a))→H a=some (.lst (bs.map V.ref))→b∈bs→env[j]?=some t→t.gW=true→σ[j]?≠some (some (.ref b))
section
variable {T:Tx}{W:Wf}{O O':Addr→Prop}{H H':Hp}{env:aN}{σ:St}
theorem bN.lQ (E:bN T W O H env σ){a:Addr}(h:H a=none):Cl W O a :=
 ⟨E.new a (E.fr.dom a h),fun o=>by have:=E.mu a o; rw [h] at this; exact this⟩
theorem bN.kp (E:bN T W O H env σ)(f:Fr O H O' H'):Kp (Cl W O) (Cl W O') O H H' :=
 ⟨f.keep,E.mu,fun _ _ z _=>z.2,fun b o z e=>⟨z.1,fun q=>(f.more b q).elim z.2 fun w=>by rw [e] at w; cases w⟩⟩
theorem bN.vK (E:bN T W O H env σ)(f:Fr O H O' H'){d:D}{v:V}(r:Rep T (Cl W O) H d v):Rep T (Cl W O') H' d v:=r.kp (E.kp f)
theorem jB.kp (k:Kp (Cl W O) (Cl W O') O H H')(hO:∀ a,O a→O' a):∀ {s:Slot} {v:Option V},(∀ a,s.gW=true→v=some (.ref a)→H' a=H a)→(∀ (dss:List (List D)) (a:Addr) (bs:List Addr) (b:Addr),s=.lP dss→v=some (.ref a)→H a=some (.lst (bs.map V.ref))→b∈bs→H' b=H b)→jB T W O H s v→jB T W O' H' s v
 | .no,_,_,_,_=>trivial
 | .val d,_,_,_,h=>by obtain ⟨u,e,r⟩:=h; exact ⟨u,e,r.kp k⟩
 | .own ds,_,g,_,h=>by
  obtain ⟨a,xs,e,o,n,q,r⟩:=h
  exact ⟨a,xs,e,hO a o,n,(g a rfl e).trans q,r.kp k⟩
 | .obj c ks ds,_,g,_,h=>by
  obtain ⟨a,C,dx,fs,e,o,nn,n,q,m,r⟩:=h
  exact ⟨a,C,dx,fs,e,hO a o,nn,n,(g a rfl e).trans q,m,r.kp k⟩
 | .red ds,_,_,_,h=>by obtain ⟨a,xs,e,o,n,r⟩:=h; exact ⟨a,xs,e,o,n,r.kp k⟩
 | .lP dss,_,g,g2,h=>by
  obtain ⟨a,bs,e,o,n,q,r⟩:=h
  refine ⟨a,bs,e,hO a o,n,(g a rfl e).trans q,r.imp fun ds b hb z=>?_⟩
  obtain ⟨z1,z2,ys,z3,z4⟩:=z
  exact ⟨hO b z1,z2,ys,(g2 dss a bs b rfl e q hb).trans z3,z4.kp k⟩
 | .uI n,_,g,_,h=>by obtain ⟨a,xs,e,o,m,q,l⟩:=h; exact ⟨a,xs,e,hO a o,m,(g a rfl e).trans q,l⟩
 | .x9 dss,_,_,_,h=>by
  obtain ⟨a,bs,e,o,n,r⟩:=h
  refine ⟨a,bs,e,o,n,r.imp fun ds b hb z=>?_⟩
  obtain ⟨z1,ys,z3,z4⟩:=z
  exact ⟨z1,ys,z3,z4.kp k⟩
theorem join_some {σ:St}{i:Nat}{v:V}(h:(σ[i]?).join=some v):σ[i]?=some (some v):=by
 cases e:σ[i]? with
 | none=>rw [e] at h; cases h
 | some o=>rw [e] at h; cases o with
  | none=>cases h
  | some w=>cases h; rfl
theorem jB.j7 {s:Slot}{v:Option V}(h:jB T W O H s v)(hs:s.gW=true):∃ a,v=some (.ref a)∧O a:=by
 cases s with
 | no=>cases hs
 | val d=>cases hs
 | own ds=>obtain ⟨a,xs,e,o,_⟩:=h; exact ⟨a,e,o⟩
 | obj c ks ds=>obtain ⟨a,C,dx,fs,e,o,_⟩:=h; exact ⟨a,e,o⟩
 | red ds=>cases hs
 | lP dss=>obtain ⟨a,bs,e,o,_⟩:=h; exact ⟨a,e,o⟩
 | x9 dss=>cases hs
 | uI n=>obtain ⟨a,xs,e,o,_⟩:=h; exact ⟨a,e,o⟩
theorem jB.inner {dss:List (List D)}{v:Option V}(h:jB T W O H (.lP dss) v){a:Addr}{bs:List Addr}{b:Addr}(e:v=some (.ref a))(q:H a=some (.lst (bs.map V.ref)))(hb:b∈bs):O b∧W.H0 b=none∧∃ ys,H b=some (.lst ys):=by
 obtain ⟨a',bs',e',o,n,q',r⟩:=h
 rw [e] at e'; cases e'
 rw [q] at q'
 have hm:V.ref b∈bs'.map V.ref:=by
  have:=HO.lst.inj (Option.some.inj q')
  rw [← this]; exact List.mem_map.mpr ⟨b,hb,rfl⟩
 obtain ⟨b',hb',eb⟩:=List.mem_map.mp hm
 cases eb
 obtain ⟨ds,z1,z2,ys,z3,_⟩:=r.mem hb'
 exact ⟨z1,z2,ys,z3⟩
theorem bN.mono (E:bN T W O H env σ)(s:aK H H'):bN T W O H' env σ where
 fr:=E.fr.trans (Fr.same s)
 new:=E.new
 mu:=fun a o=>by
  have:=E.mu a o
  cases e:H a with
  | none=>rw [e] at this; exact this.elim
  | some u=>rw [s a u e]; rw [e] at this; exact this
 slot:=fun i t e=>(E.slot i t e).kp (E.kp (Fr.same s)) (fun _ z=>z) (fun a hs ev=>by
  obtain ⟨b,eb,o⟩:=(E.slot i t e).j7 hs
  rw [ev] at eb; cases eb
  have:=E.mu a o
  cases e:H a with
  | none=>rw [e] at this; exact this.elim
  | some u=>exact s a u e) fun dss a bs b et ev q hb=>by
  subst et
  obtain ⟨_,_,ys,z⟩:=(E.slot i _ e).inner ev q hb
  rw [z]; exact s b _ z
 inj:=E.inj
 len:=E.len
 nW:=fun i j dss t a bs b e1 e2 q hb e3 o3=>by
  obtain ⟨a',eb,o⟩:=(E.slot i _ e1).j7 rfl
  rw [e2] at eb; cases eb
  refine E.nW i j dss t a bs b e1 e2 ?_ hb e3 o3
  have:=E.mu a o
  cases e:H a with
  | none=>rw [e] at this; exact this.elim
  | some u=>rw [s a u e] at q; exact q
theorem bN.val (E:bN T W O H env σ){i:Nat}{d:D}(e:env[i]?=some (.val d)):∃ v, σ[i]?=some (some v)∧Rep T (Cl W O) H d v:=by
 obtain ⟨u,e1,r⟩:=E.slot i _ e
 exact ⟨u,join_some e1,r⟩
theorem bN.own (E:bN T W O H env σ){i:Nat}{ds:List D}(e:env[i]?=some (.own ds)):∃ a xs, σ[i]?=some (some (.ref a))∧O a∧W.H0 a=none∧H a=some (.lst xs)∧aC T (Cl W O) H ds xs:=by
 obtain ⟨a,xs,e1,r⟩:=E.slot i _ e
 exact ⟨a,xs,join_some e1,r⟩
theorem bN.red (E:bN T W O H env σ){i:Nat}{ds:List D}(e:env[i]?=some (.red ds)):∃ a xs, σ[i]?=some (some (.ref a))∧H a=some (.lst xs)∧aC T (Cl W O) H ds xs:=by
 obtain ⟨a,xs,e1,o,n,r⟩:=E.slot i _ e
 exact ⟨a,xs,join_some e1,E.fr.keep _ _ n o,r⟩
theorem bN.obj (E:bN T W O H env σ){i c:Nat}{ks:List Nat}{ds:List D}(e:env[i]?=some (.obj c ks ds)):∃ a C dx fs, σ[i]?=some (some (.ref a))∧O a∧W.H0 a≠none∧T.cl c=some C∧H a=some (.ins C dx fs)∧fs.map (·.1)=ks.map T.fld∧aC T (Cl W O) H ds (fs.map (·.2)):=by
 obtain ⟨a,C,dx,fs,e1,r⟩:=E.slot i _ e
 exact ⟨a,C,dx,fs,join_some e1,r⟩
theorem set_slot {env:aN}{i j:Nat}{s t:Slot}(e:(env.set i s)[j]?=some t):(i=j∧t=s∧i<env.length)∨(i≠j∧env[j]?=some t):=by
 by_cases h:i=j
 ·subst h
  by_cases hl:i<env.length
  ·rw [List.getElem?_set_self hl] at e; cases e; exact .inl ⟨rfl,rfl,hl⟩
  ·rw [List.getElem?_eq_none (by simp; omega)] at e; cases e
 ·rw [List.getElem?_set_ne h] at e; exact .inr ⟨h,e⟩
theorem bN.Gj (E:bN T W O H env σ)(i:Nat){s:Slot}{v:V}(r:jB T W O H s (some v))
  (hj:s.gW=true→∀ (j:Nat) (t:Slot) (a:Addr),i≠j→env[j]?=some t→t.gW=true→v=.ref a→σ[j]?≠some (some (.ref a)))
  (hk:s.gW=true→∀ (j:Nat) (dss:List (List D)) (a:Addr) (bs:List Addr) (b:Addr),env[j]?=some (.lP dss)→σ[j]?=some (some (.ref a))→H a=some (.lst (bs.map V.ref))→b∈bs→v≠.ref b)
  (hn:∀ dss,s≠.lP dss):bN T W O H (env.set i s) (σ.set i (some v)) where
 fr:=E.fr
 new:=E.new
 mu:=E.mu
 slot:=fun j t e=>by
  rcases set_slot e with ⟨rfl,rfl,hl⟩ | ⟨h,e⟩
  ·rw [List.getElem?_set_self (by rw [← E.len]; exact hl)]; exact r
  ·rw [List.getElem?_set_ne h]; exact E.slot j t e
 inj:=fun j k t u a e1 e2 o1 o2 s1 s2=>by
  rcases set_slot e1 with ⟨h1,h2,hl⟩ | ⟨h,q1⟩
  ·subst h1 h2
   rcases set_slot e2 with ⟨h3,h4,_⟩ | ⟨h',q2⟩
   ·exact h3
   ·rw [List.getElem?_set_self (by rw [← E.len]; exact hl)] at s1
    cases s1
    rw [List.getElem?_set_ne h'] at s2
    exact absurd s2 (hj o1 k u a h' q2 o2 rfl)
  ·rw [List.getElem?_set_ne h] at s1
   rcases set_slot e2 with ⟨h3,h4,hl⟩ | ⟨h',q2⟩
   ·subst h3 h4
    rw [List.getElem?_set_self (by rw [← E.len]; exact hl)] at s2
    cases s2
    exact absurd s1 (hj o2 j t a h q1 o1 rfl)
   ·rw [List.getElem?_set_ne h'] at s2
    exact E.inj j k t u a q1 q2 o1 o2 s1 s2
 len:=by simp [E.len]
 nW:=fun j k dss t a bs b e1 e2 q hb e3 o3=>by
  rcases set_slot e1 with ⟨h1,h2,hl⟩ | ⟨h,q1⟩
  ·exact absurd h2.symm (hn dss)
  ·rw [List.getElem?_set_ne h] at e2
   rcases set_slot e3 with ⟨h3,h4,hl⟩ | ⟨h',q2⟩
   ·subst h3 h4
    rw [List.getElem?_set_self (by rw [← E.len]; exact hl)]
    intro z
    exact hk o3 j dss a bs b q1 e2 q hb (Option.some.inj (Option.some.inj z))
   ·rw [List.getElem?_set_ne h']
    exact E.nW j k dss t a bs b q1 e2 q hb q2 o3
theorem bN.set (E:bN T W O H env σ)(i:Nat){d:D}{v:V}(r:Rep T (Cl W O) H d v):bN T W O H (env.set i (.val d)) (σ.set i (some v)) :=
 E.Gj i ⟨v,rfl,r⟩ (fun z=>nomatch z) (fun z=>nomatch z) fun _ z=>nomatch z
theorem bN.claim (E:bN T W O H env σ){a:Addr}(n:H a=none){o:HO}(hm:Mu (some o)):bN T W (fun b=>O b∨b=a) (upd H a o) env σ:=by
 have s:aK H (upd H a o):=ck n o
 have f:Fr O H (fun b=>O b∨b=a) (upd H a o):=⟨fun b u h _=>s b u h,fun b h=>h.elim .inl fun e=>.inr (e ▸ n),fun b h=>s.free h⟩
 refine ⟨E.fr.trans f,E.new,fun b z=>?_,fun i t e=>(E.slot i t e).kp (E.kp f) (fun _ z=>.inl z) (fun b hs ev=>?_) (fun dss c bs b et ev q hb=>?_),E.inj,E.len,(E.mono s).nW⟩
 ·rcases z with z | rfl
  ·exact (E.mono s).mu b z
  ·rw [bD]; exact hm
 ·obtain ⟨c,eb,o⟩:=(E.slot i t e).j7 hs
  rw [ev] at eb; cases eb
  have hb:b≠a:=fun z=>by subst z; have:=E.mu b o; rw [n] at this; exact this
  exact aH hb
 ·subst et
  obtain ⟨_,_,ys,z⟩:=(E.slot i _ e).inner ev q hb
  exact aH fun w=>by rw [w,n] at z; cases z
theorem bN.upd (E:bN T W O H env σ){i:Nat}{s t:Slot}{a:Addr}{o:HO}(e:env[i]?=some s)(hs:s.gW=true)(ev:σ[i]?=some (some (.ref a)))(hm:Mu (some o))(r:jB T W O (L2.upd H a o) t (some (.ref a)))(hn:∀ dss,t≠.lP dss:=by exact fun _ z=>nomatch z) :
  bN T W O (L2.upd H a o) (env.set i t) σ∧Fr O H O (L2.upd H a o):=by
 have oa:O a:=by
  obtain ⟨b,eb,o⟩:=(E.slot i s e).j7 hs
  rw [ev] at eb; cases eb; exact o
 have f:Fr O H O (L2.upd H a o):=⟨fun b u h n=>by rw [aH (by rintro rfl; exact n oa)]; exact h,fun b h=>.inl h,fun b h=>by
  by_cases z:b=a
  ·subst z; rw [bD] at h; cases h
  ·rw [aH z] at h; exact h⟩
 refine ⟨⟨E.fr.trans f,E.new,fun b z=>?_,fun j u e'=>?_,fun j k t' u b e1 e2 o1 o2 s1 s2=>?_,by simp [E.len],fun j k dss u c bs b e1 e2 q hb e3 o3=>?_⟩,f⟩
 ·by_cases h:b=a
  ·subst h; rw [bD]; exact hm
  ·rw [aH h]; exact E.mu b z
 ·rcases set_slot e' with ⟨rfl,rfl,hl⟩ | ⟨h,e'⟩
  ·rw [ev]; exact r
  ·refine (E.slot j u e').kp (E.kp f) (fun _ z=>z) (fun b hs' ev'=>?_) fun dss c bs b eu ev' q hb=>?_
   ·have hb:b≠a:=fun z=>by subst z; exact h (E.inj i j s u b e e' hs hs' ev (join_some ev'))
    exact aH hb
   ·subst eu
    exact aH fun w=>E.nW j i dss s c bs b e' (join_some ev') q hb e hs (w ▸ ev)
 ·have old:∀ {j:Nat} {u:Slot},(env.set i t)[j]?=some u→u.gW=true→∃ u',env[j]?=some u'∧u'.gW=true:=fun {j u} e' o'=>by
   rcases set_slot e' with ⟨rfl,rfl,hl⟩ | ⟨h,e'⟩
   ·exact ⟨s,e,hs⟩
   ·exact ⟨u,e',o'⟩
  obtain ⟨t1,h1,h2⟩:=old e1 o1
  obtain ⟨t2,h3,h4⟩:=old e2 o2
  exact E.inj j k t1 t2 b h1 h3 h2 h4 s1 s2
 ·rcases set_slot e1 with ⟨h1,h2,hl⟩ | ⟨h,q1⟩
  ·exact absurd h2.symm (hn dss)
  ·have hca:c≠a:=fun w=>by subst w; exact h (E.inj i j s _ c e q1 hs rfl ev e2)
   rw [aH hca] at q
   rcases set_slot e3 with ⟨rfl,rfl,hl⟩ | ⟨h',q2⟩
   ·exact E.nW j i dss s c bs b q1 e2 q hb e hs
   ·exact E.nW j k dss u c bs b q1 e2 q hb q2 o3
end
end DL
end
section
namespace DL
open PySem L2
noncomputable abbrev FP (α:Type):=aN→Option α
noncomputable abbrev FE:=FP D
noncomputable abbrev RK (α γ:Type):=(Addr→Prop)→Hp→Hp→α→γ→Prop
class Kd {α γ:Type} (ρ:RK α γ):Prop where
 st:∀ A H0 H H' x v,aK H H'→ρ A H0 H x v→ρ A H0 H' x v
 an:∀ A H0 H1 H x v,aK H0 H1→ρ A H1 H x v→ρ A H0 H x v
noncomputable def kD (T:Tx):RK D V:=fun A _ H d v=>Rep T A H d v
noncomputable def aF (T:Tx)(A:Addr→Prop)(H:Hp)(d:D)(v:V):Prop:=match d with
 | .lst ds=>∃ a xs,v=.ref a∧SqL T.K H a xs∧aC T A H ds xs
 | d=>Rep T A H d v
noncomputable def kR (T:Tx):RK D V:=fun A _ H d v=>aF T A H d v
noncomputable def kF (T:Tx):RK (List D) V:=fun A H0 H ds v=>∃ a xs,v=.ref a∧H0 a=none∧H a=some (.lst xs)∧aC T (fun b=>A b∧b≠a) H ds xs
noncomputable def kB:RK Bool Bool:=fun _ _ _ b c=>b=c
noncomputable def kO:RK (Option Int) (Option Int):=fun _ _ _ b c=>b=c
noncomputable def kA (T:Tx):RK (List D) (List V):=fun A _ H ds vs=>aC T A H ds vs
section
variable {T:Tx}{A:Addr→Prop}{H H':Hp}
theorem aF.of {d:D}{v:V}(h:Rep T A H d v):aF T A H d v:=by
 cases d with
 | lst ds=>obtain ⟨a,xs,e,q,r⟩:=h.fL; exact ⟨a,xs,e,q.sq,r⟩
 | _=>exact h
theorem SqT.mono {K:PySem.W.Frag}(s:aK H H'){a:Addr}{xs:List V}(h:SqT K H a xs):SqT K H' a xs:=by
 rcases h with (h | ⟨o,h⟩) | h
 ·exact .inl (.inl (s _ _ h))
 ·exact .inl (.inr ⟨o,s _ _ h⟩)
 ·exact .inr h
theorem aF.mono (s:aK H H'){d:D}{v:V}(h:aF T A H d v):aF T A H' d v:=by
 cases d with
 | lst ds=>obtain ⟨a,xs,e,q,r⟩:=h; exact ⟨a,xs,e,s.seq q,r.mono s fun _ z=>z⟩
 | _=>exact Rep.mono s (fun _ z=>z) h
theorem aF.fL {ds:List D}{v:V}(h:aF T A H (.lst ds) v):∃ a xs,v=.ref a∧SqL T.K H a xs∧aC T A H ds xs:=h
theorem aF.iq {ds:List D}{v:V}(h:aF T A H (.tup ds) v):∃ a xs,v=.ref a∧SqT T.K H a xs∧aC T A H ds xs:=Rep.iq (show Rep T A H (.tup ds) v from h)
theorem aF.dU {i:Int}{v:V}(h:aF T A H (.int i) v):v=.int i:=Rep.dU (show Rep T A H (.int i) v from h)
theorem aF.h8 {i:List Nat}{v:V}(h:aF T A H (.str i) v):v=.str (mkS i):=Rep.h8 (show Rep T A H (.str i) v from h)
theorem aF.bl_ {i:Bool}{v:V}(h:aF T A H (.bl i) v):v=.bl i:=Rep.bl_ (show Rep T A H (.bl i) v from h)
theorem aF.mU {v:V}(h:aF T A H .non v):v=.non:=Rep.mU (show Rep T A H .non v from h)
noncomputable instance:Kd (kD T):=⟨fun _ _ _ _ _ _ s h=>Rep.mono s (fun _ z=>z) h,fun _ _ _ _ _ _ _ h=>h⟩
noncomputable instance:Kd (kR T):=⟨fun _ _ _ _ _ _ s h=>aF.mono s h,fun _ _ _ _ _ _ _ h=>h⟩
noncomputable instance:Kd (kA T):=⟨fun _ _ _ _ _ _ s h=>aC.mono s (fun _ z=>z) h,fun _ _ _ _ _ _ _ h=>h⟩
noncomputable instance:Kd kB:=⟨fun _ _ _ _ _ _ _ h=>h,fun _ _ _ _ _ _ _ h=>h⟩
noncomputable instance:Kd kO:=⟨fun _ _ _ _ _ _ _ h=>h,fun _ _ _ _ _ _ _ h=>h⟩
noncomputable instance:Kd (kF T):=⟨fun _ _ _ _ _ _ s ⟨a,xs,e,n,q,r⟩=>⟨a,xs,e,n,s _ _ q,r.mono s fun _ z=>z⟩,fun _ _ _ _ _ _ s ⟨a,xs,e,n,q,r⟩=>⟨a,xs,e,s.free n,q,r⟩⟩
end
noncomputable def tP {α γ:Type}(T:Tx)(ρ:RK α γ)(f:FP α):St→Hp→(γ→Hp→Prop)→Prop:=fun σ H Q =>
 ∃ W O env d,bN T W O H env σ∧f env=some d∧∀ v H',aK H H'→ρ (Cl W O) H H' d v→Q v H'
noncomputable abbrev Nw (A:Addr→Prop)(H:Hp):Prop:=∀ a,H a=none→A a
section
variable {α β δ γ γ2 γ3:Type}{T:Tx}{ρ ρ':RK α γ}{f:FP α}{σ:St}{H:Hp}{Q:γ→Hp→Prop}
theorem AD (w:∀ A H0 H x v, ρ A H0 H x v→ρ' A H0 H x v)(h:tP T ρ' f σ H Q):tP T ρ f σ H Q:=by
 obtain ⟨W,O,env,d,E,e,q⟩:=h
 exact ⟨W,O,env,d,E,e,fun v H' s r=>q v H' s (w _ _ _ _ _ r)⟩
noncomputable def fp1 (F:α→Option β)(f:FP α):FP β:=fun env=>(f env).bind F
noncomputable def fp2 (F:α→β→Option δ)(f:FP α)(g:FP β):FP δ:=fun env=>(f env).bind fun x=>(g env).bind fun y=>F x y
theorem oN {ρ2:RK β γ2}{ρ3:RK δ V}[Kd ρ][Kd ρ2][Kd ρ3]{F:α→β→Option δ}{g:FP β}{Q3:VK}{r:γ→γ2→Hp→VK→Prop}
  (snd:∀ (A:Addr→Prop) (H0 H:Hp) (x:α) (y:β) (v:γ) (u:γ2) (d:δ) (Q:VK),Nw A H→ρ A H0 H x v→ρ2 A H0 H y u→F x y=some d→(∀ w H',aK H H'→ρ3 A H H' d w→Q w H')→r v u H Q)
  (h:tP T ρ3 (fp2 F f g) σ H Q3):tP T ρ f σ H fun v H1=>tP T ρ2 g σ H1 fun u H2=>r v u H2 Q3:=by
 obtain ⟨W,O,env,d,E,e,q⟩:=h
 unfold fp2 at e
 cases e1:f env with
 | none=>rw [e1] at e; cases e
 | some x =>
  rw [e1] at e
  cases e2:g env with
  | none=>rw [e2] at e; cases e
  | some y =>
   rw [e2] at e
   refine ⟨W,O,env,x,E,e1,fun v H1 s1 r1=>⟨W,O,env,y,E.mono s1,e2,fun u H2 s2 r2=>?_⟩⟩
   have s:=s1.trans s2
   exact snd (Cl W O) H H2 x y v u d Q3 (fun a n=>(E.mono s).lQ n) (Kd.st _ _ _ _ _ _ s2 r1) (Kd.an _ _ _ _ _ _ s1 r2) e fun w H' s3 r3=>q w H' (s.trans s3) (Kd.an _ _ _ _ _ _ s r3)
theorem rz {ρ3:RK δ γ3}[Kd ρ3]{F:α→Option δ}{Q3:γ3→Hp→Prop}{r:γ→Hp→(γ3→Hp→Prop)→Prop}
  (snd:∀ (A:Addr→Prop) (H0 H:Hp) (x:α) (v:γ) (d:δ) (Q:γ3→Hp→Prop),Nw A H→ρ A H0 H x v→F x=some d→(∀ w H',aK H H'→ρ3 A H H' d w→Q w H')→r v H Q)
  (h:tP T ρ3 (fp1 F f) σ H Q3):tP T ρ f σ H fun v H1=>r v H1 Q3:=by
 obtain ⟨W,O,env,d,E,e,q⟩:=h
 unfold fp1 at e
 cases e1:f env with
 | none=>rw [e1] at e; cases e
 | some x =>
  rw [e1] at e
  refine ⟨W,O,env,x,E,e1,fun v H1 s1 r1=>?_⟩
  exact snd (Cl W O) H H1 x v d Q3 (fun a n=>(E.mono s1).lQ n) r1 e fun w H' s3 r3=>q w H' (s1.trans s3) (Kd.an _ _ _ _ _ _ s1 r3)
end
noncomputable def ab (i:Nat):FE:=fun env=>match env[i]? with
 | some (.val d)=>some d
 | _=>none
noncomputable def kU (i:Nat):FE:=fun env=>match env[i]? with
 | some (.val d)=>some d
 | some (.own ds)=>some (.lst ds)
 | some (.red ds)=>some (.lst ds)
 | _=>none
noncomputable def feC (d:D):FE:=fun _=>some d
section
variable {T:Tx}{f g:FE}{σ:St}{H:Hp}{Q:VK}
theorem AE {i:Nat}(h:tP T (kD T) (ab i) σ H Q):y6 i σ H Q:=by
 obtain ⟨W,O,env,d,E,e,q⟩:=h
 unfold ab at e
 split at e
 ·rename_i d' es
  cases e
  obtain ⟨v,e1,r⟩:=E.val es
  exact ⟨v,e1,q v H (aK.refl _) r⟩
 ·cases e
theorem AF {i:Nat}(h:tP T (kR T) (kU i) σ H Q):y6 i σ H Q:=by
 obtain ⟨W,O,env,d,E,e,q⟩:=h
 unfold kU at e
 split at e
 ·rename_i d' es
  cases e
  obtain ⟨v,e1,r⟩:=E.val es
  exact ⟨v,e1,q v H (aK.refl _) (aF.of r)⟩
 ·rename_i ds es
  cases e
  obtain ⟨a,xs,e1,_,_,hl,r⟩:=E.own es
  exact ⟨.ref a,e1,q _ H (aK.refl _) ⟨a,xs,rfl,.inl (.inl hl),r⟩⟩
 ·rename_i ds es
  cases e
  obtain ⟨a,xs,e1,hl,r⟩:=E.red es
  exact ⟨.ref a,e1,q _ H (aK.refl _) ⟨a,xs,rfl,.inl (.inl hl),r⟩⟩
 ·cases e
theorem yx {d:D}{v:V}(hv:∀ A H,Rep T A H d v)(h:tP T (kD T) (feC d) σ H Q):tC v σ H Q:=by
 obtain ⟨W,O,env,d',E,e,q⟩:=h
 cases e
 exact q v H (aK.refl _) (hv _ _)
noncomputable def df (f:FP (List D)):FE:=fun env=>(f env).map .lst
theorem Cu {f:FP (List D)}(h:tP T (kD T) (df f) σ H Q):tP T (kF T) f σ H Q:=by
 obtain ⟨W,O,env,d,E,e,q⟩:=h
 unfold df at e
 cases e1:f env with
 | none=>rw [e1] at e; cases e
 | some ds =>
  rw [e1] at e
  cases e
  refine ⟨W,O,env,ds,E,e1,fun v H' s ⟨a,xs,ev,n,hl,r⟩=>q v H' s ?_⟩
  subst ev
  exact Rep.lst (.inl ⟨.inl hl,E.lQ n⟩) (r.mono (aK.refl _) fun _ z=>z.1)
noncomputable abbrev FA:=FP (List D)
noncomputable def az:FA:=fun _=>some []
noncomputable def aj (f:FE)(g:FA):FA:=fun env=>(f env).bind fun x=>(g env).bind fun r=>some (x::r)
theorem DJ {Q:List V→Hp→Prop}(h:tP T (kA T) az σ H Q):uE σ H Q:=by
 obtain ⟨W,O,env,ds,E,e,q⟩:=h
 cases e
 exact q [] H (aK.refl _) .nil
theorem AG {g:FA}{Q:List V→Hp→Prop}(h:tP T (kA T) (aj f g) σ H Q):nL (tP T (kD T) f) (tP T (kA T) g) σ H Q:=by
 obtain ⟨W,O,env,ds,E,e,q⟩:=h
 unfold aj at e
 cases e1:f env with
 | none=>rw [e1] at e; cases e
 | some x =>
  rw [e1] at e
  cases e2:g env with
  | none=>rw [e2] at e; cases e
  | some y =>
   rw [e2] at e
   cases e
   refine ⟨W,O,env,x,E,e1,fun v H1 s1 r1=>⟨W,O,env,y,E.mono s1,e2,fun vs H2 s2 r2=>?_⟩⟩
   exact q (v::vs) H2 (s1.trans s2) (.cons (Rep.mono s2 (fun _ z=>z) r1) r2)
theorem small {n:Nat}(h:n≤1000000):n≤sizeLine:=Nat.le_trans h (by decide)
noncomputable def gh (f:FA):FE:=fp1 (fun ds=>if ds.length≤1000 then some (.tup ds) else none) f
noncomputable def gM (f:FA):FP (List D):=fp1 (fun ds=>if ds.length≤1000 then some ds else none) f
theorem DK {f:FA}(h:tP T (kD T) (gh f) σ H Q):G1 (tP T (kA T) f) σ H Q :=
 rz (ρ:=kA T) (γ3:=V) (r:=fun xs H1 (Q:VK)=>xs.length≤sizeLine∧∀ p,H1 p=none→Q (.ref p) (upd H1 p (.tup xs))) (fun A H0 H x v d Q nw r e k=>by
  by_cases c:x.length≤1000
  ·rw [if_pos c] at e; cases e
   have r:aC T A H x v:=r
   exact ⟨small (by rw [← r.length]; omega),fun p hp=>k _ _ (ck hp _) (Rep.x8 r hp)⟩
  ·rw [if_neg c] at e; cases e) h
theorem mV {A:Addr→Prop}{ds:List D}{xs:List V}(r:aC T A H ds xs){p:Addr}(hp:H p=none):kF T A H (upd H p (.lst xs)) ds (.ref p):=by
 refine ⟨p,xs,rfl,hp,bD,r.kp (Kp.same (ck hp _) fun b o z e=>⟨z,fun w=>?_⟩)⟩
 subst w; rw [hp] at e; cases e
theorem DM {f:FA}(h:tP T (kF T) (gM f) σ H Q):G2 (tP T (kA T) f) σ H Q :=
 rz (ρ:=kA T) (γ3:=V) (r:=fun xs H1 (Q:VK)=>xs.length≤sizeLine∧∀ p,H1 p=none→Q (.ref p) (upd H1 p (.lst xs))) (fun A H0 H x v d Q nw r e k=>by
  by_cases c:x.length≤1000
  ·rw [if_pos c] at e; cases e
   have r:aC T A H x v:=r
   exact ⟨small (by rw [← r.length]; omega),fun p hp=>k _ _ (ck hp _) (mV r hp)⟩
  ·rw [if_neg c] at e; cases e) h
end
noncomputable abbrev FT:=FP Bool
noncomputable def blD:D→Option Bool
 | .bl b=>some b
 | _=>none
noncomputable def ftB (f:FE):FT:=fp1 blD f
noncomputable def kM (c:FT):FT:=fun env=>(c env).bind fun b=>some (!b)
noncomputable def nN (c d:FT):FT:=fun env=>(c env).bind fun b=>if b=true then d env else some false
noncomputable def nX (c d:FT):FT:=fun env=>(c env).bind fun b=>if b=true then some true else d env
noncomputable def vL (f:FE):FE:=fp1 (fun x=>(blD x).map fun b=>D.bl (!b)) f
noncomputable def qB (f g:FE):FE:=fun env=>(f env).bind fun x=>(blD x).bind fun b=>if b=true then g env else some (.bl false)
noncomputable def nY {α:Type}(c:FT)(f g:FP α):FP α:=fun env=>(c env).bind fun b=>if b=true then f env else g env
theorem oO {d:D}{b:Bool}(h:blD d=some b):d=.bl b:=by
 cases d with
 | bl c=>cases h; rfl
 | _=>cases h
section
variable {T:Tx}{f g:FE}{c d:FT}{σ:St}{H:Hp}
theorem rA {Q:Bool→Hp→Prop}(h:tP T kB (ftB f) σ H Q):Co (tP T (kD T) f) σ H Q :=
 rz (ρ:=kD T) (r:=fun x H' Q=>∃ k,x=.bl k∧Q k H') (fun A H0 H x v d Q nw r e k=>by
  cases oO e
  exact ⟨d,Rep.bl_ r,k _ H (aK.refl _) rfl⟩) h
theorem AH {Q:Bool→Hp→Prop}(h:tP T kB (kM c) σ H Q):FL (tP T kB c) σ H Q:=by
 obtain ⟨W,O,env,b,E,e,q⟩:=h
 unfold kM at e
 cases e1:c env with
 | none=>rw [e1] at e; cases e
 | some x =>
  rw [e1] at e
  cases e
  exact ⟨W,O,env,x,E,e1,fun v H' s r=>by cases r; exact q _ H' s rfl⟩
theorem AI {Q:Bool→Hp→Prop}(h:tP T kB (nN c d) σ H Q):FK (tP T kB c) (tP T kB d) σ H Q:=by
 obtain ⟨W,O,env,b,E,e,q⟩:=h
 unfold nN at e
 cases e1:c env with
 | none=>rw [e1] at e; cases e
 | some x =>
  rw [e1] at e
  refine ⟨W,O,env,x,E,e1,fun v H' s r=>?_⟩
  cases r
  cases x with
  | true=>exact ⟨W,O,env,b,E.mono s,e,fun v2 H2 s2 r2=>q v2 H2 (s.trans s2) r2⟩
  | false=>cases e; exact q _ H' s rfl
theorem DN {Q:Bool→Hp→Prop}(h:tP T kB (nX c d) σ H Q):tOr (tP T kB c) (tP T kB d) σ H Q:=by
 obtain ⟨W,O,env,b,E,e,q⟩:=h
 unfold nX at e
 cases e1:c env with
 | none=>rw [e1] at e; cases e
 | some x =>
  rw [e1] at e
  refine ⟨W,O,env,x,E,e1,fun v H' s r=>?_⟩
  cases r
  cases x with
  | false=>exact ⟨W,O,env,b,E.mono s,e,fun v2 H2 s2 r2=>q v2 H2 (s.trans s2) r2⟩
  | true=>cases e; exact q _ H' s rfl
theorem DO {Q:VK}(h:tP T (kD T) (vL f) σ H Q):Ci (tP T (kD T) f) σ H Q :=
 rz (ρ:=kD T) (γ3:=V) (r:=fun x H1 (Q:VK)=>∃ c,x=.bl c∧Q (.bl (!c)) H1) (fun A H0 H x v d Q nw r e k=>by
  cases e1:blD x with
  | none=>rw [e1] at e; cases e
  | some b =>
   rw [e1] at e; cases e
   cases oO e1
   exact ⟨b,Rep.bl_ r,k _ H (aK.refl _) (Rep.bl _)⟩) h
theorem DQ {Q:VK}(h:tP T (kD T) (qB f g) σ H Q):Cg (tP T (kD T) f) (tP T (kD T) g) σ H Q:=by
 obtain ⟨W,O,env,d,E,e,q⟩:=h
 unfold qB at e
 cases e1:f env with
 | none=>rw [e1] at e; cases e
 | some x =>
  rw [e1] at e
  dsimp only [Option.bind_some] at e
  cases e2:blD x with
  | none=>rw [e2] at e; cases e
  | some b =>
   rw [e2] at e
   cases oO e2
   refine ⟨W,O,env,_,E,e1,fun v H' s r=>⟨b,Rep.bl_ r, ?_⟩⟩
   cases b with
   | true=>exact ⟨W,O,env,d,E.mono s,e,fun v2 H2 s2 r2=>q v2 H2 (s.trans s2) r2⟩
   | false=>cases e; exact q _ H' s (Rep.bl _)
theorem Gk {α:Type}{ρ:RK α V}[Kd ρ]{f g:FP α}{Q:VK}(h:tP T ρ (nY c f g) σ H Q):tIf (tP T kB c) (tP T ρ f) (tP T ρ g) σ H Q:=by
 obtain ⟨W,O,env,d,E,e,q⟩:=h
 unfold nY at e
 cases e1:c env with
 | none=>rw [e1] at e; cases e
 | some b =>
  rw [e1] at e
  refine ⟨W,O,env,b,E,e1,fun v H' s r=>?_⟩
  cases r
  have q' : ∀ v2 H2,aK H' H2→ρ (Cl W O) H' H2 d v2→Q v2 H2:=fun v2 H2 s2 r2=>q v2 H2 (s.trans s2) (Kd.an _ _ _ _ _ _ s r2)
  cases b with
  | true=>exact ⟨W,O,env,d,E.mono s,e,q'⟩
  | false=>exact ⟨W,O,env,d,E.mono s,e,q'⟩
end
end DL
end
section
namespace DL
open PySem L2
section
variable {T:Tx}
noncomputable def Cv (K:PySem.W.Frag):R2:=fun x y H Q=>∃ l b xs zs,x=.ref l∧y=.ref b∧SqL K H l xs∧SqL K H b zs∧xs.length+zs.length≤sizeLine∧∀ p,H p=none→Q (.ref p) (upd H p (.lst (xs++zs)))
noncomputable def Gm:R2:=fun x y H Q=>∃ i j,x=.str i∧y=.str j∧i.length+j.length≤sizeLine∧Q (.str (i++j)) H
noncomputable def yy (K:PySem.W.Frag):R2:=fun x y H Q=>rI0 (fun i j=>.int (i+j)) x y H Q∨Gm x y H Q∨Cv K x y H Q∨Cs K x y H Q
noncomputable def bC:D→D→Option D
 | .int i,.int j=>some (.int (i+j))
 | .str a,.str b=>if a.length+b.length≤1000000 then some (.str (a++b)) else none
 | .lst xs,.lst ys=>if xs.length+ys.length≤1000000 then some (.lst (xs++ys)) else none
 | .tup (x::xs),.tup ys=>if (x::xs).length+ys.length≤1000000 then some (.tup ((x::xs)++ys)) else none
 | _,_=>none
noncomputable def xa:D→D→Option (List D)
 | .lst xs,.lst ys=>if xs.length+ys.length≤1000000 then some (xs++ys) else none
 | _,_=>none
theorem AJ (a b:List Nat):mkS (a++b)=mkS a++mkS b:=by
 show (⟨(a++b).toArray⟩:Str)=⟨a.toArray++b.toArray⟩
 simp
theorem AK (A:Addr→Prop)(H0 H:Hp)(x y:D)(v u:V)(d:D)(Q:VK)(nw:Nw A H)(rx:kR T A H0 H x v)(ry:kR T A H0 H y u)(e:bC x y=some d)
  (k:∀ w H',aK H H'→kD T A H H' d w→Q w H'):yy T.K v u H Q:=by
 unfold bC at e
 split at e
 ·cases e; cases aF.dU rx; cases aF.dU ry
  exact .inl ⟨_,_,rfl,rfl,k _ H (aK.refl _) (Rep.int _)⟩
 ·rename_i i j
  cases aF.h8 rx; cases aF.h8 ry
  by_cases c:i.length+j.length≤1000000
  ·rw [if_pos c] at e; cases e
   exact .inr (.inl ⟨_,_,rfl,rfl,small (by rw [f6,f6]; exact c),k _ H (aK.refl _) (by rw [← AJ]; exact Rep.str _)⟩)
  ·rw [if_neg c] at e; cases e
 ·rename_i xs ys
  by_cases c:xs.length+ys.length≤1000000
  ·rw [if_pos c] at e; cases e
   obtain ⟨l,vs,rfl,hl,rl⟩:=aF.fL rx
   obtain ⟨b,us,rfl,hb,rb⟩:=aF.fL ry
   exact .inr (.inr (.inl ⟨l,b,vs,us,rfl,rfl,hl,hb,small (by rw [← rl.length, ← rb.length]; exact c),fun p hp=>k _ _ (ck hp _) (Rep.Gi (rl.append rb) hp (nw p hp))⟩))
  ·rw [if_neg c] at e; cases e
 ·rename_i x0 xs ys
  by_cases c:(x0::xs).length+ys.length≤1000000
  ·rw [if_pos c] at e; cases e
   obtain ⟨l,vs,rfl,hl,rl⟩:=aF.iq rx
   obtain ⟨b,us,rfl,hb,rb⟩:=aF.iq ry
   have ne:vs≠[]:=by
    have:=rl.length
    intro z; subst z; simp at this
   refine .inr (.inr (.inr ⟨l,b,vs,us,rfl,rfl,hl,hb,ne,small (by rw [← rl.length, ← rb.length]; exact c),fun e0=>k _ _ (aK.refl _) ?_,fun _ p hp=>k _ _ (ck hp _) (Rep.x8 (rl.append rb) hp)⟩))
   subst e0
   exact Rep.tup hl (by simpa using rl.append rb)
  ·rw [if_neg c] at e; cases e
 ·cases e
theorem yz (A:Addr→Prop)(H0 H:Hp)(x y:D)(v u:V)(d:List D)(Q:VK)(nw:Nw A H)(rx:kR T A H0 H x v)(ry:kR T A H0 H y u)(e:xa x y=some d)
  (k:∀ w H',aK H H'→kF T A H H' d w→Q w H'):yy T.K v u H Q:=by
 unfold xa at e
 split at e
 ·rename_i xs ys
  by_cases c:xs.length+ys.length≤1000000
  ·rw [if_pos c] at e; cases e
   obtain ⟨l,vs,rfl,hl,rl⟩:=aF.fL rx
   obtain ⟨b,us,rfl,hb,rb⟩:=aF.fL ry
   exact .inr (.inr (.inl ⟨l,b,vs,us,rfl,rfl,hl,hb,small (by rw [← rl.length, ← rb.length]; exact c),fun p hp=>k _ _ (ck hp _) (mV (rl.append rb) hp)⟩))
  ·rw [if_neg c] at e; cases e
 ·cases e
noncomputable def intD (g:Int→Int→Option D):D→D→Option D
 | .int i,.int j=>g i j
 | _,_=>none
noncomputable def flat:D→Option V
 | .non=>some .non
 | .bl b=>some (.bl b)
 | .int i=>some (.int i)
 | .str x=>some (.str (mkS x))
 | _=>none
theorem yA {A A':Addr→Prop}{H H':Hp}{d:D}{v w:V}(h:flat d=some v)(r:aF T A H d w):w=v∧Ga v=true∧Rep T A' H' d v:=by
 cases d with
 | non=>cases h; exact ⟨aF.mU r,rfl,.non⟩
 | bl b=>cases h; exact ⟨aF.bl_ r,rfl,.bl _⟩
 | int b=>cases h; exact ⟨aF.dU r,rfl,.int _⟩
 | str b=>cases h; exact ⟨aF.h8 r,rfl,.str _⟩
 | _=>cases h
theorem vM {A:Addr→Prop}{H:Hp}{d:D}{v:V}(h:flat d=some v):Rep T A H d v:=by
 cases d with
 | non=>cases h; exact .non
 | bl b=>cases h; exact .bl _
 | int b=>cases h; exact .int _
 | str b=>cases h; exact .str _
 | _=>cases h
theorem oh {C:Int→Int→Prop}{gv:Int→Int→V}{g:Int→Int→Option D}(hg:∀ i j d,g i j=some d→C i j∧flat d=some (gv i j))
  (A:Addr→Prop) (H0 H:Hp) (x y:D) (v u:V) (d:D) (Q:VK) (nw:Nw A H) (rx:kD T A H0 H x v) (ry:kD T A H0 H y u) (e:intD g x y=some d)
  (k:∀ w H',aK H H'→kD T A H H' d w→Q w H'):rI C gv v u H Q:=by
 unfold intD at e
 split at e
 ·rename_i i j
  cases Rep.dU rx; cases Rep.dU ry
  obtain ⟨h1,h2⟩:=hg i j d e
  exact ⟨i,j,rfl,rfl,h1,k _ H (aK.refl _) (vM h2)⟩
 ·cases e
theorem lR {gv:Int→Int→V}{g:Int→Int→D}(hg:∀ i j,flat (g i j)=some (gv i j))
  (A:Addr→Prop) (H0 H:Hp) (x y:D) (v u:V) (d:D) (Q:VK) (nw:Nw A H) (rx:kD T A H0 H x v) (ry:kD T A H0 H y u) (e:intD (fun i j=>some (g i j)) x y=some d)
  (k:∀ w H',aK H H'→kD T A H H' d w→Q w H'):rI0 gv v u H Q:=by
 obtain ⟨i,j,h1,h2,_,h3⟩:=oh (T:=T) (C:=fun _ _=>True) (gv:=gv) (g:=fun i j=>some (g i j)) (fun i j d e=>by cases e; exact ⟨True.intro,hg i j⟩) A H0 H x y v u d Q nw rx ry e k
 exact ⟨i,j,h1,h2,h3⟩
noncomputable def ixD:D→D→Option D
 | .lst ds,.int i=>atI ds i
 | .tup ds,.int i=>atI ds i
 | .str z,.int i=>if z.length≤1000000 then (atI z i).map fun c=>.str [c] else none
 | _,_=>none
theorem aC.at {A:Addr→Prop}{H:Hp}{ds:List D}{vs:List V}{i:Int}{d:D}(r:aC T A H ds vs)(e:atI ds i=some d):∃ v,atI vs i=some v∧Rep T A H d v:=by
 unfold atI at e ⊢
 rw [← r.length]
 cases q:ixN ds.length i with
 | none=>rw [q] at e; cases e
 | some j =>
  rw [q] at e
  exact r.get e
theorem DR (A:Addr→Prop)(H0 H:Hp)(x y:D)(v u:V)(d:D)(Q:VK)(nw:Nw A H)(rx:kR T A H0 H x v)(ry:kD T A H0 H y u)(e:ixD x y=some d)
  (k:∀ w H',aK H H'→kD T A H H' d w→Q w H'):rIx T.K v u H Q:=by
 unfold ixD at e
 split at e
 ·rename_i ds i
  cases Rep.dU ry
  obtain ⟨l,vs,rfl,hl,rl⟩:=aF.fL rx
  obtain ⟨w,e2,r2⟩:=rl.at e
  exact .inl ⟨l,vs,i,w,rfl,rfl,hl,e2,k _ H (aK.refl _) r2⟩
 ·rename_i ds i
  cases Rep.dU ry
  obtain ⟨l,vs,rfl,hl,rl⟩:=aF.iq rx
  obtain ⟨w,e2,r2⟩:=rl.at e
  exact .inr (.inl ⟨l,vs,i,w,rfl,rfl,hl,e2,k _ H (aK.refl _) r2⟩)
 ·rename_i z i
  cases aF.h8 rx; cases Rep.dU ry
  by_cases c:z.length≤1000000
  ·rw [if_pos c] at e
   cases e1:atI z i with
   | none=>rw [e1] at e; cases e
   | some d' =>
    rw [e1] at e; cases e
    exact .inr (.inr ⟨_,i,d',rfl,rfl,small (by rw [f6]; exact c),by simpa using e1,k _ H (aK.refl _) (Rep.str [d'])⟩)
  ·rw [if_neg c] at e; cases e
 ·cases e
noncomputable def AL:D→D→Bool
 | .non,.non=>true
 | .bl a,.bl b=>a == b
 | .bl a,.int b=>(if a then 1 else 0) == b
 | .int a,.bl b=>a == (if b then 1 else 0)
 | .int a,.int b=>a == b
 | .str a,.str b=>a == b
 | _,_=>false
noncomputable def DS (x:D)(ds:List D):Bool:=ds.any fun y=>AL y x
noncomputable def rB (d:D):Bool:=(flat d).isSome
noncomputable def kRA (T:Tx):RK (List D) (List V):=fun A _ H ds vs=>match ds with
 | [d]=>∃ v,vs=[v]∧aF T A H d v
 | ds=>aC T A H ds vs
noncomputable instance:Kd (kRA T):=⟨fun A _ H H' ds vs s h=>by
  unfold kRA at h ⊢
  split at h
  ·obtain ⟨v,e,r⟩:=h; exact ⟨v,e,aF.mono s r⟩
  ·exact aC.mono s (fun _ z=>z) h,fun _ _ _ _ _ _ _ h=>h⟩
noncomputable def i7:D→Option D
 | .lst ds=>some (.int ds.length)
 | .tup ds=>some (.int ds.length)
 | .str z=>if z.length≤1000000 then some (.int z.length) else none
 | _=>none
noncomputable def faR (f:FE):FA:=fun env=>(f env).map fun d=>[d]
theorem DT {f:FE}{σ:St}{H:Hp}{Q:List V→Hp→Prop}(h:tP T (kRA T) (faR f) σ H Q):nL (tP T (kR T) f) uE σ H Q:=by
 obtain ⟨W,O,env,ds,E,e,q⟩:=h
 unfold faR at e
 cases e1:f env with
 | none=>rw [e1] at e; cases e
 | some x =>
  rw [e1] at e; cases e
  exact ⟨W,O,env,x,E,e1,fun v H1 s1 r1=>q [v] H1 s1 ⟨v,rfl,r1⟩⟩
noncomputable def of1 {α:Type}(F:D→Option α):List D→Option α
 | [d]=>F d
 | _=>none
theorem AM {α:Type}{ρ3:RK α V}{F:D→Option α}{r:List V→Hp→VK→Prop}
  (snd:∀ (A:Addr→Prop) (H0 H:Hp) (x:D) (v:V) (d:α) (Q:VK),Nw A H→kR T A H0 H x v→F x=some d→(∀ w H',aK H H'→ρ3 A H H' d w→Q w H')→r [v] H Q)
  (A:Addr→Prop) (H0 H:Hp) (ds:List D) (vs:List V) (d:α) (Q:VK) (nw:Nw A H) (rr:kRA T A H0 H ds vs) (e:of1 F ds=some d) (k:∀ w H',aK H H'→ρ3 A H H' d w→Q w H'):r vs H Q:=by
 unfold of1 at e
 split at e
 ·obtain ⟨v,rfl,h⟩:=rr
  exact snd A H0 H _ v d Q nw h e k
 ·cases e
noncomputable def Iv (K:PySem.W.Frag):List V→Hp→VK→Prop:=fun xs H Q=>∃ x n,xs=[x]∧FZ K x H n∧Q (.int n) H
theorem AN (A:Addr→Prop)(H0 H:Hp)(x:D)(v:V)(d:D)(Q:VK)(nw:Nw A H)(r:kR T A H0 H x v)(e:i7 x=some d)(k:∀ w H',aK H H'→kD T A H H' d w→Q w H'):Iv T.K [v] H Q:=by
 unfold i7 at e
 split at e
 ·cases e
  obtain ⟨l,xs,rfl,hl,rl⟩:=aF.fL r
  exact ⟨_,xs.length,rfl,.inl ⟨xs,hl,rfl⟩,k _ H (aK.refl _) (by rw [rl.length]; exact Rep.int _)⟩
 ·cases e
  obtain ⟨l,xs,rfl,hl,rl⟩:=aF.iq r
  exact ⟨_,xs.length,rfl,.inr ⟨xs,hl,rfl⟩,k _ H (aK.refl _) (by rw [rl.length]; exact Rep.int _)⟩
 ·rename_i z
  by_cases c:z.length≤1000000
  ·rw [if_pos c] at e; cases e
   cases aF.h8 r
   exact ⟨_,z.length,rfl,⟨small (by rw [f6]; exact c),(f6 z).symm⟩,k _ H (aK.refl _) (Rep.int _)⟩
  ·rw [if_neg c] at e; cases e
 ·cases e
noncomputable def Iw (K:PySem.W.Frag):List V→Hp→VK→Prop:=fun xs H Q=>∃ p ys,xs=[.ref p]∧(SqL K H p ys∨SqT K H p ys)∧∀ l,H l=none→Q (.ref l) (upd H l (.lst ys))
noncomputable def kW:D→Option (List D)
 | .lst ds=>some ds
 | .tup ds=>some ds
 | _=>none
theorem AO (A:Addr→Prop)(H0 H:Hp)(x:D)(v:V)(d:List D)(Q:VK)(nw:Nw A H)(r:kR T A H0 H x v)(e:kW x=some d)(k:∀ w H',aK H H'→kF T A H H' d w→Q w H'):Iw T.K [v] H Q:=by
 unfold kW at e
 split at e
 ·cases e
  obtain ⟨l,xs,rfl,hl,rl⟩:=aF.fL r
  exact ⟨l,xs,rfl,.inl hl,fun p hp=>k _ _ (ck hp _) (mV rl hp)⟩
 ·cases e
  obtain ⟨l,xs,rfl,hl,rl⟩:=aF.iq r
  exact ⟨l,xs,rfl,.inr hl,fun p hp=>k _ _ (ck hp _) (mV rl hp)⟩
 ·cases e
noncomputable def cutD {α:Type}(xs:List α)(lo hi:Option Int):List α:=(xs.drop (HT.sIx xs.length 0 lo)).take (HT.sIx xs.length xs.length hi - HT.sIx xs.length 0 lo)
noncomputable abbrev FO:=FP (Option Int)
noncomputable def DU:D→Option (Option Int)
 | .int i=>some (some i)
 | _=>none
noncomputable def kX:FO:=fun _=>some none
noncomputable def j8 (f:FE):FO:=fp1 DU f
noncomputable def slD (x:D)(lo hi:Option Int):Option D:=match x with
 | .lst ds=>some (.lst (cutD ds lo hi))
 | .tup ds=>if HT.sIx ds.length 0 lo=0∧HT.sIx ds.length ds.length hi=ds.length then none else some (.tup (cutD ds lo hi))
 | .str z=>if z.length≤1000000 then some (.str (cutD z lo hi)) else none
 | _=>none
noncomputable def rC {α:Type}(F:D→Option Int→Option Int→Option α)(f:FE)(l h:FO):FP α:=fun env=>(f env).bind fun x=>(l env).bind fun lo=>(h env).bind fun hi=>F x lo hi
noncomputable def Gn:V→Option Int→Option Int→Hp→VK→Prop:=fun x lo hi H Q=>∃ z:List Nat,x=.str (mkS z)∧z.length≤1000000∧Q (.str (mkS (cutD z lo hi))) H
noncomputable def Gp (K:PySem.W.Frag):V→Option Int→Option Int→Hp→VK→Prop:=fun x lo hi H Q=>G9 K x lo hi H Q∨G4 K x lo hi H Q∨Gn x lo hi H Q
variable {σ:St}{H:Hp}{f:FE}
theorem yB {Q:Option Int→Hp→Prop}(h:tP T kO kX σ H Q):vD σ H Q:=by
 obtain ⟨W,O,env,i,E,e,q⟩:=h
 cases e
 exact q none H (aK.refl _) rfl
theorem yC {Q:Option Int→Hp→Prop}(h:tP T kO (j8 f) σ H Q):Cr (tP T (kD T) f) σ H Q :=
 rz (ρ:=kD T) (ρ3:=kO) (r:=fun x H1 Q=>∃ i,x=.int i∧Q (some i) H1) (fun A H0 H x v d Q nw r e k=>by
  cases x with
  | int j=>cases e; exact ⟨j,Rep.dU r,k _ H (aK.refl _) rfl⟩
  | _=>cases e) h
theorem aC.cut {A:Addr→Prop}{ds:List D}{vs:List V}(lo hi:Option Int)(r:aC T A H ds vs):aC T A H (cutD ds lo hi) (sN vs lo hi):=by
 unfold cutD sN
 rw [← r.length]
 exact (r.drop _).take _
theorem DV {α:Type}{ρ3:RK α V}[Kd ρ3]{F:D→Option Int→Option Int→Option α}{l h:FO}{Q:VK}{r:V→Option Int→Option Int→Hp→VK→Prop}
  (snd:∀ (A:Addr→Prop) (H0 H:Hp) (x:D) (v:V) (lo hi:Option Int) (d:α) (Q:VK),Nw A H→kR T A H0 H x v→F x lo hi=some d→(∀ w H',aK H H'→ρ3 A H H' d w→Q w H')→r v lo hi H Q)
  (hh:tP T ρ3 (rC F f l h) σ H Q):tSl r (tP T (kR T) f) (tP T kO l) (tP T kO h) σ H Q:=by
 obtain ⟨W,O,env,d,E,e,q⟩:=hh
 unfold rC at e
 cases e1:f env with
 | none=>rw [e1] at e; cases e
 | some x =>
  rw [e1] at e
  dsimp only [Option.bind_some] at e
  cases e2:l env with
  | none=>rw [e2] at e; cases e
  | some lo =>
   rw [e2] at e
   dsimp only [Option.bind_some] at e
   cases e3:h env with
   | none=>rw [e3] at e; cases e
   | some hi =>
    rw [e3] at e
    dsimp only [Option.bind_some] at e
    refine ⟨W,O,env,x,E,e1,fun v H1 s1 r1=>⟨W,O,env,lo,E.mono s1,e2,fun lo' H2 s2 c2=>⟨W,O,env,hi,E.mono (s1.trans s2),e3,fun hi' H3 s3 c3=>?_⟩⟩⟩
    cases c2; cases c3
    have s:=s1.trans (s2.trans s3)
    exact snd (Cl W O) H H3 x v lo hi d Q (fun a n=>(E.mono s).lQ n) (aF.mono (s2.trans s3) r1) e fun w H' s4 r4=>q w H' (s.trans s4) (Kd.an _ _ _ _ _ _ s r4)
theorem DW (A:Addr→Prop)(H0 H:Hp)(x:D)(v:V)(lo hi:Option Int)(d:D)(Q:VK)(nw:Nw A H)(r:kR T A H0 H x v)(e:slD x lo hi=some d)(k:∀ w H',aK H H'→kD T A H H' d w→Q w H'):Gp T.K v lo hi H Q:=by
 unfold slD at e
 split at e
 ·cases e
  obtain ⟨a,xs,rfl,hl,rl⟩:=aF.fL r
  exact .inl ⟨a,xs,rfl,hl,fun p hp=>k _ _ (ck hp _) (Rep.Gi (rl.cut lo hi) hp (nw p hp))⟩
 ·rename_i ds
  by_cases c:HT.sIx ds.length 0 lo=0∧HT.sIx ds.length ds.length hi=ds.length
  ·rw [if_pos c] at e; cases e
  ·rw [if_neg c] at e; cases e
   obtain ⟨a,xs,rfl,hl,rl⟩:=aF.iq r
   exact .inr (.inl ⟨a,xs,rfl,hl,by rw [← rl.length]; exact c,fun p hp=>k _ _ (ck hp _) (Rep.x8 (rl.cut lo hi) hp)⟩)
 ·rename_i z
  by_cases c:z.length≤1000000
  ·rw [if_pos c] at e; cases e
   exact .inr (.inr ⟨z,aF.h8 r,c,k _ H (aK.refl _) (Rep.str _)⟩)
  ·rw [if_neg c] at e; cases e
 ·cases e
end
end DL
end
section
namespace DL
open PySem L2
inductive DFl where
 | nx (env:aN)
 | bk (env:aN)
 | ct (env:aN)
 | rt (d:D) (env:aN)
 | rf (ds:List D) (env:aN)
 | ex (c:Nat) (env:aN)
noncomputable abbrev FS:=aN→Option DFl
noncomputable abbrev XQ:=Nat→St→Hp→Prop
noncomputable def jC (T:Tx)(X:XQ)(W:Wf)(O:Addr→Prop)(H:Hp)(De:Ends):DFl→Prop
 | .nx env'=>∀ σ' H' O',bN T W O' H' env' σ'→Fr O H O' H'→De.nx σ' H'
 | .bk env'=>∀ σ' H' O',bN T W O' H' env' σ'→Fr O H O' H'→De.bk σ' H'
 | .ct env'=>∀ σ' H' O',bN T W O' H' env' σ'→Fr O H O' H'→De.ct σ' H'
 | .rt d env'=>∀ v σ' H' O',bN T W O' H' env' σ'→Fr O H O' H'→Rep T (Cl W O') H' d v→De.rt v H'
 | .rf ds env'=>∀ a xs σ' H' O',bN T W O' H' env' σ'→Fr O H O' H'→W.H0 a=none→H' a=some (.lst xs)→aC T (fun b=>W.A b∧b≠a) H' ds xs→De.rt (.ref a) H'
 | .ex c env'=>∀ σ' H' O',bN T W O' H' env' σ'→Fr O H O' H'→X c σ' H'
noncomputable def tDs (T:Tx)(X:XQ)(F:FS):TS:=fun De σ H=>∃ W O env fl,bN T W O H env σ∧F env=some fl∧jC T X W O H De fl
theorem jC.fr {T:Tx}{X:XQ}{W:Wf}{H H1:Hp}{O O1:Addr→Prop}{De:Ends}(f:Fr O H O1 H1):∀ {fl:DFl},jC T X W O H De fl→jC T X W O1 H1 De fl
 | .nx _,h=>fun σ' H' O' E g=>h σ' H' O' E (f.trans g)
 | .bk _,h=>fun σ' H' O' E g=>h σ' H' O' E (f.trans g)
 | .ct _,h=>fun σ' H' O' E g=>h σ' H' O' E (f.trans g)
 | .rt _ _,h=>fun v σ' H' O' E g r=>h v σ' H' O' E (f.trans g) r
 | .rf _ _,h=>fun a xs σ' H' O' E g n e r=>h a xs σ' H' O' E (f.trans g) n e r
 | .ex _ _,h=>fun σ' H' O' E g=>h σ' H' O' E (f.trans g)
noncomputable def aB (F G:FS):FS:=fun env=>(F env).bind fun r=>match r with
 | .nx env'=>G env'
 | r=>some r
noncomputable def bw:FS:=fun env=>some (.nx env)
noncomputable def eJ (c:FT)(F G:FS):FS:=fun env=>(c env).bind fun b=>if b=true then F env else G env
noncomputable def aT (f:FE):FS:=fun env=>(f env).map fun d=>.rt d env
noncomputable def jD (f:FP (List D)):FS:=fun env=>(f env).map fun ds=>.rf ds env
noncomputable def kY (i:Nat):FS:=fun env=>match env[i]? with
 | some (.own ds)=>some (.rf ds env)
 | _=>none
noncomputable def bG (i:Nat)(f:FE):FS:=fun env=>(f env).map fun d=>.nx (env.set i (.val d))
noncomputable def nO (i:Nat)(f:FP (List D)):FS:=fun env=>(f env).map fun ds=>.nx (env.set i (.own ds))
section
variable {T:Tx}{X:XQ}{F G:FS}{f:FE}{De:Ends}{σ:St}{H:Hp}
theorem AQ (h:tDs T X (aB F G) De σ H):FN (tDs T X F) (tDs T X G) De σ H:=by
 obtain ⟨W,O,env,fl,E,e,q⟩:=h
 unfold aB at e
 cases e1:F env with
 | none=>rw [e1] at e; cases e
 | some r =>
  rw [e1] at e
  refine ⟨W,O,env,r,E,e1, ?_⟩
  cases r with
  | nx env'=>exact fun σ' H' O' E' g=>⟨W,O',env',fl,E',e,q.fr g⟩
  | bk env'=>cases e; exact q
  | ct env'=>cases e; exact q
  | rt d env'=>cases e; exact q
  | rf d env'=>cases e; exact q
  | ex d env'=>cases e; exact q
theorem yD (h:tDs T X bw De σ H):Cj De σ H:=by
 obtain ⟨W,O,env,fl,E,e,q⟩:=h
 cases e
 exact q σ H O E (Fr.refl _ _)
theorem AR (h:tDs T X (aT f) De σ H):Ai (tP T (kD T) f) De σ H:=by
 obtain ⟨W,O,env,fl,E,e,q⟩:=h
 unfold aT at e
 cases e1:f env with
 | none=>rw [e1] at e; cases e
 | some x =>
  rw [e1] at e
  cases e
  exact ⟨W,O,env,x,E,e1,fun v H' s r=>q v σ H' O (E.mono s) (Fr.same s) r⟩
theorem yE {f:FP (List D)}(h:tDs T X (jD f) De σ H):Ai (tP T (kF T) f) De σ H:=by
 obtain ⟨W,O,env,fl,E,e,q⟩:=h
 unfold jD at e
 cases e1:f env with
 | none=>rw [e1] at e; cases e
 | some x =>
  rw [e1] at e
  cases e
  refine ⟨W,O,env,x,E,e1,fun v H' s r=>?_⟩
  obtain ⟨a,xs,rfl,n,hl,r⟩:=r
  exact q a xs σ H' O (E.mono s) (Fr.same s) (E.fr.dom a n) hl (r.mono (aK.refl _) fun b z=>⟨z.1.1,z.2⟩)
theorem yF {i:Nat}(h:tDs T X (kY i) De σ H):Ai (y6 i) De σ H:=by
 obtain ⟨W,O,env,fl,E,e,q⟩:=h
 unfold kY at e
 split at e
 ·rename_i ds es
  cases e
  obtain ⟨a,xs,e1,o,n,hl,r⟩:=E.own es
  exact ⟨.ref a,e1,q a xs σ H O E (Fr.refl _ _) n hl (r.mono (aK.refl _) fun b z=>⟨z.1,fun w=>z.2 (w ▸ o)⟩)⟩
 ·cases e
theorem DX {c:FT}(h:tDs T X (eJ c F G) De σ H):FQ (tP T kB c) (tDs T X F) (tDs T X G) De σ H:=by
 obtain ⟨W,O,env,fl,E,e,q⟩:=h
 unfold eJ at e
 cases e1:c env with
 | none=>rw [e1] at e; cases e
 | some b =>
  rw [e1] at e
  refine ⟨W,O,env,b,E,e1,fun v H' s r=>?_⟩
  cases r
  cases b with
  | true=>exact ⟨W,O,env,fl,E.mono s,e,q.fr (Fr.same s)⟩
  | false=>exact ⟨W,O,env,fl,E.mono s,e,q.fr (Fr.same s)⟩
theorem vN {i:Nat}(h:tDs T X (bG i f) De σ H):yb (tP T (kD T) f) (gU i) De σ H:=by
 obtain ⟨W,O,env,fl,E,e,q⟩:=h
 unfold bG at e
 cases e1:f env with
 | none=>rw [e1] at e; cases e
 | some x =>
  rw [e1] at e
  cases e
  exact ⟨W,O,env,x,E,e1,fun v H' s r=>q (σ.set i (some v)) H' O ((E.mono s).set i r) (Fr.same s)⟩
theorem bN.take {W:Wf}{O:Addr→Prop}{env:aN}{H':Hp}(E:bN T W O H env σ)(s:aK H H'){a:Addr}{xs:List V}(n:H a=none)(hl:H' a=some (.lst xs)) :
  bN T W (fun b=>O b∨b=a) H' env σ:=by
 have E1:=E.claim n (o:=.lst xs) trivial
 have s1:aK (L2.upd H a (.lst xs)) H':=fun b u h=>by
  by_cases z:b=a
  ·subst z; rw [bD] at h; cases h; exact hl
  ·rw [aH z] at h; exact s b u h
 exact E1.mono s1
theorem AS {i:Nat}{f:FP (List D)}(h:tDs T X (nO i f) De σ H):yb (tP T (kF T) f) (gU i) De σ H:=by
 obtain ⟨W,O,env,fl,E,e,q⟩:=h
 unfold nO at e
 cases e1:f env with
 | none=>rw [e1] at e; cases e
 | some x =>
  rw [e1] at e
  cases e
  refine ⟨W,O,env,x,E,e1,fun v H' s r=>?_⟩
  obtain ⟨a,xs,rfl,n,hl,r⟩:=r
  have E':=E.take s n hl
  have hoa:¬ O a:=fun z=>by have:=E.mu a z; rw [n] at this; exact this
  refine q (σ.set i (some (.ref a))) H' (fun b=>O b∨b=a) (E'.Gj i ⟨a,xs,rfl,.inr rfl,E.fr.dom a n,hl,r.mono (aK.refl _) fun b z=>⟨z.1.1,fun w=>w.elim z.1.2 z.2⟩⟩ ?_ ?_ (fun _ z=>nomatch z)) ⟨fun b o h _=>s b o h,fun b z=>z.elim .inl fun w=>.inr (w ▸ n),fun b h=>s.free h⟩
  ·intro _ j t b hij et ot eb ej
   cases eb
   obtain ⟨c,ec,oc⟩:=(E.slot j t et).j7 ot
   rw [ej] at ec
   cases ec
   exact hoa oc
  ·intro _ j dss c bs b ej ev hq hb eb
   cases eb
   obtain ⟨c',ec,oc⟩:=(E.slot j _ ej).j7 rfl
   rw [ev] at ec; cases ec
   have hc:H c=some (.lst (bs.map V.ref)):=by
    have:=E.mu c oc
    cases e:H c with
    | none=>rw [e] at this; exact this.elim
    | some u=>rw [s c u e] at hq; exact hq
   obtain ⟨_,_,ys,z⟩:=(E.slot j _ ej).inner (by rw [ev]; rfl) hc hb
   rw [n] at z; cases z
noncomputable def sQ (i:Nat)(F:D→D→Option D)(f:FE):FS:=fun env=>(ab i env).bind fun x=>(f env).bind fun y=>(F x y).map fun d=>.nx (env.set i (.val d))
theorem AU {i:Nat}{Fo:D→D→Option D}{ti:V→V→Hp→VK→Prop}
  (snd:∀ (A:Addr→Prop) (H:Hp) (x y:D) (v u:V) (d:D) (Q:VK),Nw A H→Rep T A H x v→Rep T A H y u→Fo x y=some d→(∀ w H',aK H H'→Rep T A H' d w→Q w H')→ti v u H Q)
  (h:tDs T X (sQ i Fo f) De σ H):∃ x, σ[i]?=some (some x)∧tP T (kD T) f σ H fun y H1=>ti x y H1 fun z H2=>De.nx (σ.set i (some z)) H2:=by
 obtain ⟨W,O,env,fl,E,e,q⟩:=h
 unfold sQ ab at e
 split at e
 ·rename_i d es
  obtain ⟨v,e1,r⟩:=E.val es
  dsimp only [Option.bind_some] at e
  cases e2:f env with
  | none=>rw [e2] at e; cases e
  | some y =>
   rw [e2] at e
   dsimp only [Option.bind_some] at e
   cases e3:Fo d y with
   | none=>rw [e3] at e; cases e
   | some z =>
    rw [e3] at e
    cases e
    refine ⟨v,e1,W,O,env,y,E,e2,fun u H1 s1 r1=>?_⟩
    refine snd (Cl W O) H1 d y v u z _ (fun a n=>(E.mono s1).lQ n) (Rep.mono s1 (fun _ z=>z) r) r1 e3 fun w H' s2 r2=>?_
    exact q _ H' O ((E.mono (s1.trans s2)).set i r2) (Fr.same (s1.trans s2))
 ·cases e
noncomputable def mW {α:Type}(i:Nat)(G:List D→α→Option (List D))(f:FP α):FS:=fun env=>match env[i]? with
 | some (.own ds)=>(f env).bind fun x=>(G ds x).map fun ds'=>.nx (env.set i (.own ds'))
 | _=>none
theorem vO {α γ:Type}{ρ:RK α γ}[Kd ρ]{i:Nat}{Gf:List D→α→Option (List D)}{f:FP α}{tf:St→Hp→(γ→Hp→Prop)→Prop}{r:V→γ→Hp→VK→Prop}
  (ht:∀ Q,tP T ρ f σ H Q→tf σ H Q)
  (snd:∀ (A:Addr→Prop) (H:Hp) (a:Addr) (ds:List D) (xs:List V) (x:α) (y:γ) (ds':List D) (Q:VK),H a=some (.lst xs)→aC T A H ds xs→(∀ b,A b→b≠a)→ρ A H H x y→Gf ds x=some ds' →
   (∀ ys,(∀ A' H',(∀ d v,Rep T A H d v→Rep T A' H' d v)→(∀ d v,aC T A H d v→aC T A' H' d v)→aC T A' H' ds' ys)→∀ w,Q w (upd H a (.lst ys)))→r (.ref a) y H Q)
  (hh:∀ A H0 H x y, ρ A H0 H x y→ρ A H H x y)
  (h:tDs T X (mW i Gf f) De σ H):∃ v, σ[i]?=some (some v)∧(∃ xs,H=H∧∃ a,v=.ref a∧H a=some (.lst xs))∧tf σ H fun y H1=>(∃ a xs,v=.ref a∧H1 a=some (.lst xs))∧r v y H1 fun _ H2=>De.nx σ H2:=by
 obtain ⟨W,O,env,fl,E,e,q⟩:=h
 unfold mW at e
 split at e
 ·rename_i ds es
  cases e2:f env with
  | none=>rw [e2] at e; cases e
  | some x =>
   rw [e2] at e
   dsimp only [Option.bind_some] at e
   cases e3:Gf ds x with
   | none=>rw [e3] at e; cases e
   | some ds' =>
    rw [e3] at e
    cases e
    obtain ⟨a,xs,e1,o,n,hl,rl⟩:=E.own es
    refine ⟨.ref a,e1,⟨xs,rfl,a,rfl,hl⟩,ht _ ⟨W,O,env,x,E,e2,fun y H1 s1 r1=>⟨⟨a,xs,rfl,s1 _ _ hl⟩, ?_⟩⟩⟩
    have E1:=E.mono s1
    have hl1:=s1 _ _ hl
    refine snd (Cl W O) H1 a ds xs x y ds' _ hl1 (rl.mono s1 fun _ z=>z) (fun b z w=>z.2 (w ▸ o)) (hh _ _ _ _ _ r1) e3 fun ys hy _=>?_
    have f1:Fr O H1 O (L2.upd H1 a (.lst ys)):=⟨fun b u h nn=>by rw [aH (by rintro rfl; exact nn o)]; exact h,fun b h=>.inl h,fun b h=>by
     by_cases z:b=a
     ·subst z; rw [bD] at h; cases h
     ·rw [aH z] at h; exact h⟩
    have k:=E1.kp f1
    obtain ⟨E2,f2⟩:=E1.upd (t:=.own ds') (o:=.lst ys) es rfl e1 trivial ⟨a,ys,rfl,o,n,bD,hy _ _ (fun d v h=>h.kp k) (fun d v h=>h.kp k)⟩
    exact q σ _ O E2 ((Fr.same s1).trans f2)
 ·cases e
end
end DL
end
section
namespace DL
open PySem L2
noncomputable abbrev FG:=D→aN→Option aN
noncomputable def aQ (i:Nat):FG:=fun d env=>some (env.set i (.val d))
noncomputable def rD:List Nat→List D→aN→Option aN
 | [],[],env=>some env
 | i::is,d::ds,env=>rD is ds (env.set i (.val d))
 | _,_,_=>none
noncomputable def kN (is:List Nat):FG:=fun d env=>match d with
 | .tup ds=>rD is ds env
 | _=>none
noncomputable def gn (T:Tx)(tg:FG)(g:TG):Prop:=∀ (W:Wf) (O:Addr→Prop) (H:Hp) (env env':aN) (σ:St) (d:D) (v:V) (Q:St→Hp→Prop),bN T W O H env σ→Rep T (Cl W O) H d v→tg d env=some env'→(∀ σ',bN T W O H env' σ'→Q σ' H)→g v σ H Q
theorem aX {T:Tx}(i:Nat):gn T (aQ i) (gU i):=fun W O H env env' σ d v Q E r e q=>by
 cases e
 exact q _ (E.set i r)
noncomputable def vP (T:Tx)(is:List Nat)(g:TGs):Prop:=∀ (W:Wf) (O:Addr→Prop) (H:Hp) (env env':aN) (σ:St) (ds:List D) (vs:List V) (Q:St→Hp→Prop),bN T W O H env σ→aC T (Cl W O) H ds vs→rD is ds env=some env'→(∀ σ',bN T W O H env' σ'→Q σ' H)→g vs σ H Q
theorem mX {T:Tx}:vP T [] uu:=fun W O H env env' σ ds vs Q E r e q=>by
 cases ds with
 | nil=>cases e; exact ⟨r.ju,q _ E⟩
 | cons d ds=>cases e
theorem gp {T:Tx}(i:Nat){is:List Nat}{g:TGs}(h:vP T is g):vP T (i::is) (nH (gU i) g):=fun W O H env env' σ ds vs Q E r e q=>by
 cases ds with
 | nil=>cases e
 | cons d ds =>
  obtain ⟨x,xs,rfl,r1,r2⟩:=r.dF
  exact ⟨x,xs,rfl,h W O H _ env' _ ds xs Q (E.set i r1) r2 e q⟩
theorem oP:∀ {is:List Nat} {ds:List D} {env env':aN},rD is ds env=some env'→ds.length=is.length
 | [],[],_,_,_=>rfl
 | [],_::_,_,_,h=>by cases h
 | _::_,[],_,_,h=>by cases h
 | i::is,d::ds,env,env',h=>by simp [oP (is:=is) (ds:=ds) h]
theorem oQ {T:Tx}{is:List Nat}{g:TGs}(h:vP T is g):gn T (kN is) (Ak T.K is.length g):=fun W O H env env' σ d v Q E r e q=>by
 unfold kN at e
 split at e
 ·obtain ⟨a,xs,rfl,hq,rl⟩:=r.iq
  exact ⟨a,xs,rfl,hq,by rw [← rl.length]; exact oP e,h W O H env env' σ _ xs Q E rl e q⟩
 ·cases e
noncomputable def DY (K:PySem.W.Frag)(tl:TE):TI:=fun σ H R=>tl σ H fun x H1=>∃ a,x=.ref a∧(((∃ xs,SqL K H1 a xs)∧R (Itl K a) H1)∨((∃ xs,SqT K H1 a xs)∧R (Itt K a) H1))
noncomputable def runFor (tg:FG)(body:FS):List D→FS
 | [],env=>some (.nx env)
 | d::ds,env=>(tg d env).bind fun env1=>(body env1).bind fun r=>match r with
  | .nx e=>runFor tg body ds e
  | .ct e=>runFor tg body ds e
  | .bk e=>some (.nx e)
  | r=>some r
noncomputable def lS (tg:FG)(fi:FE)(body:FS):FS:=fun env=>(fi env).bind fun x=>(kW x).bind fun ds=>runFor tg body ds env
section
variable {T:Tx}{X:XQ}{F:FS}{fi:FE}{De:Ends}{σ:St}{H:Hp}{tg:FG}{g:TG}
theorem jE (hg:gn T tg g){W:Wf}{H1:Hp}{O:Addr→Prop}{fl:DFl}(q:jC T X W O H1 De fl)(Nx:St→Hp→Prop)(rest:List D)
  (hN:∀ env' O' σ' H',bN T W O' H' env' σ'→Fr O H1 O' H'→runFor tg F rest env'=some fl→Nx σ' H')
  {d:D} {v:V} {env':aN} {O':Addr→Prop} {σ':St} {H':Hp} (E:bN T W O' H' env' σ') (f:Fr O H1 O' H') (e:runFor tg F (d::rest) env'=some fl)
  (r:Rep T (Cl W O') H' d v):g v σ' H' fun σ2 H2=>tDs T X F { De with nx:=Nx,ct:=Nx,bk:=De.nx } σ2 H2:=by
 unfold runFor at e
 cases e0:tg d env' with
 | none=>rw [e0] at e; cases e
 | some env1 =>
  rw [e0] at e
  dsimp only [Option.bind_some] at e
  cases e1:F env1 with
  | none=>rw [e1] at e; cases e
  | some fl' =>
   rw [e1] at e
   refine hg W O' H' env' env1 σ' d v _ E r e0 fun σ1 E1=>⟨W,O',env1,fl',E1,e1, ?_⟩
   cases fl' with
   | nx e'=>exact fun σ2 H2 O2 E2 g2=>hN e' O2 σ2 H2 E2 (f.trans g2) e
   | ct e'=>exact fun σ2 H2 O2 E2 g2=>hN e' O2 σ2 H2 E2 (f.trans g2) e
   | bk e'=>cases e; exact fun σ2 H2 O2 E2 g2=>q σ2 H2 O2 E2 (f.trans g2)
   | rt d' m'=>cases e; exact q.fr f
   | rf d' m'=>cases e; exact q.fr f
   | ex c m'=>cases e; exact q.fr f
theorem drop_cons {α:Type}{l:List α}{j:Nat}{d:α}(h:l[j]?=some d):l.drop j=d::l.drop (j+1):=by
 obtain ⟨hj,hdj⟩:=List.getElem?_eq_some_iff.mp h
 rw [← hdj]
 exact List.drop_eq_getElem_cons hj
theorem AV (hg:gn T tg g)(h:tDs T X (lS tg fi F) De σ H):ye (DY T.K (tP T (kD T) fi)) g (tDs T X F) De σ H:=by
 obtain ⟨W,O,env,fl,E,e,q⟩:=h
 unfold lS at e
 cases e1:fi env with
 | none=>rw [e1] at e; cases e
 | some x =>
  rw [e1] at e
  dsimp only [Option.bind_some] at e
  refine ⟨W,O,env,x,E,e1,fun v H1 s1 r1=>?_⟩
  have E1:=E.mono s1
  have q1:jC T X W O H1 De fl:=q.fr (Fr.same s1)
  cases x with
  | lst ds =>
   simp only [kW,Option.bind_some] at e
   obtain ⟨a,xs,rfl,hl,rl⟩:=Rep.fL r1
   refine ⟨a,rfl,.inl ⟨⟨xs,hl.sq⟩, ?_⟩⟩
   refine yf (xs:=xs) (fun j σ' H'=>∃ env' O',bN T W O' H' env' σ'∧Fr O H1 O' H'∧runFor tg F (ds.drop j) env'=some fl) ⟨env,O,E1,Fr.refl _ _,e⟩ ?_ ?_ ?_
   ·rintro j σ' H' _ ⟨env',O',E',f,_⟩
    exact ((E1.kp f).ls hl).sq
   ·rintro j x σ' H' hx ⟨env',O',E',f,e'⟩
    obtain ⟨d,hd,rd⟩:=rl.rq hx
    rw [drop_cons hd] at e'
    exact jE hg q1 _ (ds.drop (j+1)) (fun env2 O2 σ2 H2 E2 g2 e2=>⟨env2,O2,E2,g2,e2⟩) E' f e' (E1.vK f rd)
   ·rintro σ' H' ⟨env',O',E',f,e'⟩
    rw [← rl.length,List.drop_length] at e'
    cases e'
    exact q1 σ' H' O' E' f
  | tup ds =>
   simp only [kW,Option.bind_some] at e
   obtain ⟨a,xs,rfl,hl,rl⟩:=Rep.iq r1
   refine ⟨a,rfl,.inr ⟨⟨xs,hl⟩, ?_⟩⟩
   refine Al (xs:=xs) (fun j σ' H'=>∃ env' O',bN T W O' H' env' σ'∧Fr O H1 O' H'∧runFor tg F (ds.drop j) env'=some fl) ⟨env,O,E1,Fr.refl _ _,e⟩ ?_ ?_ ?_
   ·rintro j σ' H' _ ⟨env',O',E',f,_⟩
    exact (E1.kp f).sqT hl
   ·rintro j x σ' H' hx ⟨env',O',E',f,e'⟩
    obtain ⟨d,hd,rd⟩:=rl.rq hx
    rw [drop_cons hd] at e'
    exact jE hg q1 _ (ds.drop (j+1)) (fun env2 O2 σ2 H2 E2 g2 e2=>⟨env2,O2,E2,g2,e2⟩) E' f e' (E1.vK f rd)
   ·rintro σ' H' ⟨env',O',E',f,e'⟩
    rw [← rl.length,List.drop_length] at e'
    cases e'
    exact q1 σ' H' O' E' f
  | _=>cases e
noncomputable def cb (lo:Int)(n:Nat):List D:=(List.range n).map fun k=>D.int (lo+(k:Nat))
noncomputable def j9:List D→Option (List D)
 | [.int j]=>if -1000000000<j∧j<1000000000 then some (cb 0 j.toNat) else none
 | _=>none
noncomputable def sR:List D→Option (List D)
 | [.int lo,.int j]=>if (-1000000000<j∧j<1000000000)∧-1000000000<lo∧lo<1000000000 then some (cb lo (j - lo).toNat) else none
 | _=>none
theorem qC {ds:List D}{xs:List D}(h:j9 ds=some xs):∃ j,ds=[.int j]∧(-1000000000<j∧j<1000000000)∧xs=cb 0 j.toNat:=by
 unfold j9 at h
 split at h
 ·rename_i j
  by_cases c:-1000000000<j∧j<1000000000
  ·rw [if_pos c] at h; cases h; exact ⟨j,rfl,c,rfl⟩
  ·rw [if_neg c] at h; cases h
 ·cases h
theorem xb {ds:List D}{xs:List D}(h:sR ds=some xs):∃ lo j,ds=[.int lo,.int j]∧((-1000000000<j∧j<1000000000)∧-1000000000<lo∧lo<1000000000)∧xs=cb lo (j - lo).toNat:=by
 unfold sR at h
 split at h
 ·rename_i lo j
  by_cases c:(-1000000000<j∧j<1000000000)∧-1000000000<lo∧lo<1000000000
  ·rw [if_pos c] at h; cases h; exact ⟨lo,j,rfl,c,rfl⟩
  ·rw [if_neg c] at h; cases h
 ·cases h
noncomputable def oR (R:List D→Option (List D))(tg:FG)(f:FA)(body:FS):FS:=fun env=>(f env).bind fun ds=>(R ds).bind fun xs=>runFor tg body xs env
theorem AW (hg:gn T tg g){J:It}{items:List D}{W:Wf}{H1:Hp}{O:Addr→Prop}{fl:DFl}{env:aN}(E1:bN T W O H1 env σ)(q1:jC T X W O H1 De fl)
  (hgo:∀ j H',j<items.length→J.go j H') (hst:∀ j H',items.length≤j→J.stop j H') (hy:∀ j H' x H2 d,items[j]?=some d→J.yld j H' x H2→H2=H'∧∀ A,Rep T A H' d x)
  (e:runFor tg F items env=some fl) :
  ∃ W:Nat→Nat→St→Hp→Prop,(∃ m,W 0 m σ H1)∧∀ j m σ H,W j m σ H →
   (J.stop j H∧De.nx σ H)∨(J.go j H∧∃ N:St→Hp→Prop,(∀ σ' H',N σ' H'→∃ m',m'<m∧W (j+1) m' σ' H')∧∀ x H',J.yld j H x H'→g x σ H' fun σ2 H2=>tDs T X F { De with nx:=N,ct:=N,bk:=De.nx } σ2 H2):=by
 let Pv:Nat→St→Hp→Prop:=fun j σ' H'=>∃ env' O',bN T W O' H' env' σ'∧Fr O H1 O' H'∧runFor tg F (items.drop j) env'=some fl
 refine ⟨fun j m σ' H'=>m=items.length - j∧j≤items.length∧Pv j σ' H',⟨_,rfl,Nat.zero_le _,env,O,E1,Fr.refl _ _,by simpa using e⟩, ?_⟩
 rintro j m σ' H' ⟨rfl,hj,env',O',E',f,e'⟩
 by_cases hlt:j<items.length
 ·refine .inr ⟨hgo j H' hlt,Pv (j+1),fun σ2 H2 p=>⟨items.length - (j+1),by omega,rfl,hlt,p⟩,fun x H2 y=>?_⟩
  have hd:items[j]?=some items[j]:=List.getElem?_eq_getElem hlt
  obtain ⟨rfl,r⟩:=hy j H' x H2 _ hd y
  rw [drop_cons hd] at e'
  exact jE hg q1 _ _ (fun env2 O2 σ2 H2 E2 g2 e2=>⟨env2,O2,E2,g2,e2⟩) E' f e' (r _)
 ·rw [List.drop_eq_nil_of_le (by omega)] at e'
  cases e'
  exact .inl ⟨hst j H' (by omega),q1 σ' H' O' E' f⟩
theorem mY {lo:Int}{n j:Nat}{d:D}(h:(cb lo n)[j]?=some d):d=.int (lo+(j:Nat)):=by
 unfold cb at h
 rw [List.getElem?_map] at h
 cases e:(List.range n)[j]? with
 | none=>rw [e] at h; cases h
 | some k =>
  rw [e] at h
  obtain ⟨_,hk⟩:=List.getElem?_eq_some_iff.mp e
  simp at hk
  subst hk
  cases h; rfl
theorem i3 (lo:Int)(n:Nat):(cb lo n).length=n:=by simp [cb]
theorem yG (hg:gn T tg g){lo:Int}{n:Nat}{W:Wf}{H1:Hp}{O:Addr→Prop}{fl:DFl}{env:aN}(E1:bN T W O H1 env σ)(q1:jC T X W O H1 De fl)(e:runFor tg F (cb lo n) env=some fl) :
  ∃ W:Nat→Nat→St→Hp→Prop,(∃ m,W 0 m σ H1)∧∀ j m σ H,W j m σ H →
   ((Itr lo n).stop j H∧De.nx σ H)∨((Itr lo n).go j H∧∃ N:St→Hp→Prop,(∀ σ' H',N σ' H'→∃ m',m'<m∧W (j+1) m' σ' H')∧∀ x H',(Itr lo n).yld j H x H'→g x σ H' fun σ2 H2=>tDs T X F { De with nx:=N,ct:=N,bk:=De.nx } σ2 H2) :=
 AW hg E1 q1 (fun j H' h=>by rw [i3] at h; exact h) (fun j H' h=>by rw [i3] at h; exact h) (fun j H' x H2 d hd y=>by
  obtain ⟨rfl,rfl⟩:=y
  rw [mY hd]
  exact ⟨rfl,fun _=>Rep.int _⟩) e
theorem yH (hg:gn T tg g){f:FA}(h:tDs T X (oR j9 tg f F) De σ H):ye (yd (tP T (kA T) f)) g (tDs T X F) De σ H:=by
 obtain ⟨W,O,env,fl,E,e,q⟩:=h
 unfold oR at e
 cases e1:f env with
 | none=>rw [e1] at e; cases e
 | some ds =>
  rw [e1] at e
  dsimp only [Option.bind_some] at e
  cases e2:j9 ds with
  | none=>rw [e2] at e; cases e
  | some xs =>
   rw [e2] at e
   obtain ⟨j,rfl,c,rfl⟩:=qC e2
   refine ⟨W,O,env,_,E,e1,fun vs H1 s1 r1=>?_⟩
   obtain ⟨v,r,rfl,h1,h2⟩:=aC.dF r1
   cases h2.ju
   cases h1.dU
   exact ⟨j,rfl,by omega,by omega,yG hg (E.mono s1) (q.fr (Fr.same s1)) e⟩
end
noncomputable def fV (nt:Nat)(cap:List Nat)(σ:St):St:=List.replicate nt none++cap.map fun i=>(σ[i]?).join
noncomputable def eD (nt:Nat)(cap:List Nat)(env:aN):aN:=List.replicate nt .no++cap.map fun i=>(env[i]?).getD .no
noncomputable def kP (nt:Nat)(cap:List Nat)(wi:TI)(g:TG)(tt:TT)(te:TE):TE:=fun σ H Q=>wi σ H fun J H1=>∃ W:Nat→Nat→List V→Hp→Prop,(∃ m,W 0 m [] H1)∧∀ i m ys H,W i m ys H →
 (J.stop i H∧ys.length≤sizeLine∧∀ l,H l=none→Q (.ref l) (upd H l (.lst ys))) ∨
 (J.go i H∧∀ x H',J.yld i H x H'→g x (fV nt cap σ) H' fun σ2 H2=>tt σ2 H2 fun b H3 =>
  if b=true then te σ2 H3 fun y H4=>ys.length<sizeLine∧∃ m',m'<m∧W (i+1) m' (ys++[y]) H4 else ∃ m',m'<m∧W (i+1) m' ys H3)
noncomputable def bf (tg:FG)(ft:FT)(fe:FE)(env:aN):List D→Option (List D)
 | []=>some []
 | d::ds=>(tg d env).bind fun e=>(ft e).bind fun b=>if b=true then (fe e).bind fun y=>(bf tg ft fe env ds).bind fun r=>some (y::r) else bf tg ft fe env ds
noncomputable def dM (nt:Nat)(cap:List Nat)(tg:FG)(fi:FE)(ft:FT)(fe:FE):FP (List D):=fun env=>(fi env).bind fun x=>(kW x).bind fun ds=>if ds.length≤1000000 then bf tg ft fe (eD nt cap env) ds else none
noncomputable def dH (R:List D→Option (List D))(nt:Nat)(cap:List Nat)(tg:FG)(f:FA)(ft:FT)(fe:FE):FP (List D):=fun env=>(f env).bind fun x=>(R x).bind fun ds=>if ds.length≤1000000 then bf tg ft fe (eD nt cap env) ds else none
section
variable {T:Tx}{ft:FT}{fe fi:FE}{σ:St}{H:Hp}{Q:VK}{tg:FG}{g:TG}
theorem bN.cap {W:Wf}{O:Addr→Prop}{env:aN}(E:bN T W O H env σ){nt:Nat}{cap:List Nat}(hc:cap.Nodup):bN T W O H (eD nt cap env) (fV nt cap σ):=by
 have gE:∀ (j:Nat) (s:Slot),(eD nt cap env)[j]?=some s→s=.no∨∃ k i,j=nt+k∧cap[k]?=some i∧env[i]?=some s∧((fV nt cap σ)[j]?).join=(σ[i]?).join:=fun j s h=>by
  unfold eD at h
  by_cases hj:j<nt
  ·rw [List.getElem?_append_left (by simpa using hj),List.getElem?_replicate,if_pos hj] at h
   cases h; exact .inl rfl
  ·rw [List.getElem?_append_right (by simpa using hj),List.length_replicate,List.getElem?_map] at h
   cases e:cap[j - nt]? with
   | none=>rw [e] at h; cases h
   | some i =>
    rw [e,Option.map_some] at h
    cases e2:env[i]? with
    | none=>rw [e2] at h; cases h; exact .inl rfl
    | some s' =>
     rw [e2] at h; cases h
     refine .inr ⟨j - nt,i,by omega,e,e2, ?_⟩
     unfold fV
     rw [List.getElem?_append_right (by simpa using hj),List.length_replicate,List.getElem?_map,e]
     rfl
 refine ⟨E.fr,E.new,E.mu,fun j s e=>?_,fun j l s t a e1 e2 o1 o2 s1 s2=>?_,by simp [eD,fV],fun j l dss t a bs b e1 e2 q hb e3 o3 z=>?_⟩
 ·rcases gE j s e with rfl | ⟨k,i,_,_,h2,h3⟩
  ·trivial
  ·rw [h3]; exact E.slot i s h2
 ·rcases gE j s e1 with rfl | ⟨k,i,hj,hk,h2,h3⟩
  ·cases o1
  ·rcases gE l t e2 with rfl | ⟨k',i',hj',hk',h2',h3'⟩
   ·cases o2
   ·rw [s1] at h3
    rw [s2] at h3'
    have:=E.inj i i' s t a h2 h2' o1 o2 (join_some h3.symm) (join_some h3'.symm)
    subst this
    have kk:k=k':=by
     obtain ⟨hk1,hk2⟩:=List.getElem?_eq_some_iff.mp hk
     obtain ⟨hk3,hk4⟩:=List.getElem?_eq_some_iff.mp hk'
     exact (List.getElem_inj hc).mp (hk2.trans hk4.symm)
    omega
 ·rcases gE j _ e1 with w | ⟨k,i,hj,hk,h2,h3⟩
  ·cases w
  ·rcases gE l t e3 with rfl | ⟨k',i',hj',hk',h2',h3'⟩
   ·cases o3
   ·rw [e2] at h3
    rw [z] at h3'
    exact E.nW i i' dss t a bs b h2 (join_some h3.symm) q hb h2' o3 (join_some h3'.symm)
noncomputable def WC (T:Tx)(A:Addr→Prop)(tg:FG)(ft:FT)(fe:FE)(env:aN)(all':List D)(H1:Hp)(all:List D)(j k:Nat)(ys:List V)(H':Hp):Prop :=
 k=all'.length - j∧j≤all'.length∧aK H1 H'∧ys.length≤j∧∃ zs rest,aC T A H' zs ys∧bf tg ft fe env (all'.drop j)=some rest∧zs++rest=all
theorem ke (hg:gn T tg g){W:Wf}{H1:Hp}{O:Addr→Prop}{env:aN}{nt:Nat}{cap:List Nat}(hc:cap.Nodup)(E1:bN T W O H1 env σ){all' all:List D}{j k:Nat}{ys:List V}{H':Hp}{d:D}{x:V}(cn:all'.length≤1000000)
  (hlt:j<all'.length) (w:WC T (Cl W O) tg ft fe (eD nt cap env) all' H1 all j k ys H') (hd:all'[j]?=some d) (r:Rep T (Cl W O) H' d x) :
  g x (fV nt cap σ) H' fun σ2 H2=>tP T kB ft σ2 H2 fun b H3 =>
   if b=true then tP T (kD T) fe σ2 H3 fun y H4=>ys.length<sizeLine∧∃ m',m'<k∧WC T (Cl W O) tg ft fe (eD nt cap env) all' H1 all (j+1) m' (ys++[y]) H4 else ∃ m',m'<k∧WC T (Cl W O) tg ft fe (eD nt cap env) all' H1 all (j+1) m' ys H3:=by
 obtain ⟨rfl,hj,s,hyl,zs,rest,hz,e,ea⟩:=w
 rw [drop_cons hd] at e
 unfold bf at e
 cases e0:tg d (eD nt cap env) with
 | none=>rw [e0] at e; cases e
 | some env1 =>
  rw [e0] at e
  dsimp only [Option.bind_some] at e
  refine hg W O H' _ env1 _ d x _ ((E1.mono s).cap hc) r e0 fun σ1 Ec=>?_
  cases e1:ft env1 with
  | none=>rw [e1] at e; cases e
  | some b =>
   rw [e1] at e
   dsimp only [Option.bind_some] at e
   refine ⟨W,O,env1,b,Ec,e1,fun b' H3 s3 c3=>?_⟩
   cases c3
   cases b with
   | false =>
    exact ⟨all'.length - (j+1),by omega,rfl,by omega,s.trans s3,by omega,zs,rest,hz.mono s3 (fun _ z=>z),e,ea⟩
   | true =>
    rw [if_pos rfl] at e ⊢
    cases e2:fe env1 with
    | none=>rw [e2] at e; cases e
    | some y =>
     rw [e2] at e
     dsimp only [Option.bind_some] at e
     cases e3:bf tg ft fe (eD nt cap env) (all'.drop (j+1)) with
     | none=>rw [e3] at e; cases e
     | some rest' =>
      rw [e3] at e
      cases e
      refine ⟨W,O,env1,y,Ec.mono s3,e2,fun w H4 s4 r4=>⟨Nat.lt_of_lt_of_le (show ys.length<1000001 by omega) (by decide),all'.length - (j+1),by omega, ?_⟩⟩
      refine ⟨rfl,by omega,s.trans (s3.trans s4),by simp; omega,zs++[y],rest',(hz.mono (s3.trans s4) fun _ z=>z).append (.cons r4 .nil),e3, ?_⟩
      rw [List.append_assoc]
      exact ea
theorem lT {A:Addr→Prop}{H1:Hp}{env':aN}{all' all:List D}{j k:Nat}{ys:List V}{H':Hp}(hj:all'.length≤j)(w:WC T A tg ft fe env' all' H1 all j k ys H')(hl:all'.length≤1000000)
  (q:∀ v H',aK H1 H'→kF T A H1 H' all v→Q v H'):ys.length≤sizeLine∧∀ l,H' l=none→Q (.ref l) (upd H' l (.lst ys)):=by
 obtain ⟨hk,hj2,s,hyl,zs,rest,hz,e,ea⟩:=w
 rw [List.drop_eq_nil_of_le hj] at e
 cases e
 rw [List.append_nil] at ea
 subst ea
 exact ⟨small (by omega),fun l hl=>q _ _ (s.trans (ck hl _)) (Kd.an _ _ _ _ _ _ s (mV hz hl))⟩
theorem vQ (hg:gn T tg g){nt:Nat}{cap:List Nat}(hc:cap.Nodup)(h:tP T (kF T) (dM nt cap tg fi ft fe) σ H Q):kP nt cap (DY T.K (tP T (kR T) fi)) g (tP T kB ft) (tP T (kD T) fe) σ H Q:=by
 obtain ⟨W,O,env,d,E,e,q⟩:=h
 unfold dM at e
 cases e1:fi env with
 | none=>rw [e1] at e; cases e
 | some x =>
  rw [e1] at e
  dsimp only [Option.bind_some] at e
  refine ⟨W,O,env,x,E,e1,fun v H1 s1 r1=>?_⟩
  have E1:=E.mono s1
  cases e2:kW x with
  | none=>rw [e2] at e; cases e
  | some ds =>
   rw [e2] at e
   dsimp only [Option.bind_some] at e
   by_cases cn:ds.length≤1000000
   ·rw [if_pos cn] at e
    have q' : ∀ v H',aK H1 H'→kF T (Cl W O) H1 H' d v→Q v H':=fun v H' s r=>q v H' (s1.trans s) (Kd.an _ _ _ _ _ _ s1 r)
    have w0:WC T (Cl W O) tg ft fe (eD nt cap env) ds H1 d 0 ds.length [] H1:=⟨by simp,Nat.zero_le _,aK.refl _,Nat.zero_le _,[],d,.nil,e,rfl⟩
    cases x with
    | lst es =>
     have ee:es=ds:=Option.some.inj e2
     subst ee
     obtain ⟨a,xs,rfl,hl,rl⟩:=aF.fL r1
     have len:=rl.length
     refine ⟨a,rfl,.inl ⟨⟨xs,hl⟩,WC T (Cl W O) tg ft fe (eD nt cap env) es H1 d,⟨es.length,w0⟩, ?_⟩⟩
     intro j k ys H' w
     have s:aK H1 H':=w.2.2.1
     have hlH:SqL T.K H' a xs:=s.seq hl
     by_cases hlt:j<es.length
     ·refine .inr ⟨⟨xs,xs[j]'(by omega),hlH,by simp [show j<xs.length by omega]⟩,fun x H2 y=>?_⟩
      obtain ⟨e5,y⟩:=y
      subst e5
      obtain ⟨d',hd,rd⟩:=rl.rq (y xs hlH)
      exact ke hg hc E1 cn hlt w hd (rd.mono s fun _ z=>z)
     ·exact .inl ⟨⟨xs,hlH,by omega⟩,lT (by omega) w cn q'⟩
    | tup es =>
     have ee:es=ds:=Option.some.inj e2
     subst ee
     obtain ⟨a,xs,rfl,hl,rl⟩:=aF.iq r1
     have len:=rl.length
     refine ⟨a,rfl,.inr ⟨⟨xs,hl⟩,WC T (Cl W O) tg ft fe (eD nt cap env) es H1 d,⟨es.length,w0⟩, ?_⟩⟩
     intro j k ys H' w
     have s:aK H1 H':=w.2.2.1
     have hlH:SqT T.K H' a xs:=SqT.mono s hl
     by_cases hlt:j<es.length
     ·refine .inr ⟨⟨xs,xs[j]'(by omega),hlH,by simp [show j<xs.length by omega]⟩,fun x H2 y=>?_⟩
      obtain ⟨e5,y⟩:=y
      subst e5
      obtain ⟨d',hd,rd⟩:=rl.rq (y xs hlH)
      exact ke hg hc E1 cn hlt w hd (rd.mono s fun _ z=>z)
     ·exact .inl ⟨⟨xs,hlH,by omega⟩,lT (by omega) w cn q'⟩
    | _=>cases e2
   ·rw [if_neg cn] at e; cases e
theorem mZ (hg:gn T tg g){J:It}{items:List D}{W:Wf}{H1:Hp}{O:Addr→Prop}{env:aN}{nt:Nat}{cap:List Nat}(hc:cap.Nodup)(E1:bN T W O H1 env σ){all:List D}(cn:items.length≤1000000)
  (hgo:∀ j H',j<items.length→J.go j H') (hst:∀ j H',items.length≤j→J.stop j H') (hy:∀ j H' x H2 d,items[j]?=some d→J.yld j H' x H2→H2=H'∧∀ A,Rep T A H' d x)
  (e3:bf tg ft fe (eD nt cap env) items=some all) (q:∀ v H',aK H1 H'→kF T (Cl W O) H1 H' all v→Q v H') :
  ∃ W:Nat→Nat→List V→Hp→Prop,(∃ m,W 0 m [] H1)∧∀ i m ys H,W i m ys H →
   (J.stop i H∧ys.length≤sizeLine∧∀ l,H l=none→Q (.ref l) (upd H l (.lst ys))) ∨
   (J.go i H∧∀ x H',J.yld i H x H'→g x (fV nt cap σ) H' fun σ2 H2=>tP T kB ft σ2 H2 fun b H3 =>
    if b=true then tP T (kD T) fe σ2 H3 fun y H4=>ys.length<sizeLine∧∃ m',m'<m∧W (i+1) m' (ys++[y]) H4 else ∃ m',m'<m∧W (i+1) m' ys H3):=by
 refine ⟨WC T (Cl W O) tg ft fe (eD nt cap env) items H1 all,⟨items.length,by simp,Nat.zero_le _,aK.refl _,Nat.zero_le _,[],all,.nil,e3,rfl⟩, ?_⟩
 intro j k ys H' w
 by_cases hlt:j<items.length
 ·refine .inr ⟨hgo j H' hlt,fun x H2 y=>?_⟩
  have hd:items[j]?=some items[j]:=List.getElem?_eq_getElem hlt
  obtain ⟨rfl,r⟩:=hy j H' x H2 _ hd y
  exact ke hg hc E1 cn hlt w hd (r _)
 ·exact .inl ⟨hst j H' (by omega),lT (by omega) w cn q⟩
theorem sS (hg:gn T tg g){nt:Nat}{cap:List Nat}{f:FA}(hc:cap.Nodup)(h:tP T (kF T) (dH j9 nt cap tg f ft fe) σ H Q):kP nt cap (yd (tP T (kA T) f)) g (tP T kB ft) (tP T (kD T) fe) σ H Q:=by
 obtain ⟨W,O,env,d,E,e,q⟩:=h
 unfold dH at e
 cases e1:f env with
 | none=>rw [e1] at e; cases e
 | some x =>
  rw [e1] at e
  dsimp only [Option.bind_some] at e
  cases e2:j9 x with
  | none=>rw [e2] at e; cases e
  | some ds =>
   rw [e2] at e
   dsimp only [Option.bind_some] at e
   obtain ⟨j,rfl,c,rfl⟩:=qC e2
   by_cases cn:(cb 0 j.toNat).length≤1000000
   ·rw [if_pos cn] at e
    refine ⟨W,O,env,_,E,e1,fun vs H1 s1 r1=>?_⟩
    obtain ⟨v,r,rfl,h1,h2⟩:=aC.dF r1
    cases h2.ju
    cases h1.dU
    exact ⟨j,rfl,by omega,by omega,mZ hg hc (E.mono s1) cn (fun j H' h=>by rw [i3] at h; exact h) (fun j H' h=>by rw [i3] at h; exact h) (fun j H' x H2 d hd y=>by
     obtain ⟨rfl,rfl⟩:=y
     rw [mY hd]
     exact ⟨rfl,fun _=>Rep.int _⟩) e fun v H' s r=>q v H' (s1.trans s) (Kd.an _ _ _ _ _ _ s1 r)⟩
   ·rw [if_neg cn] at e; cases e
theorem yI (hg:gn T tg g){nt:Nat}{cap:List Nat}{f:FA}(hc:cap.Nodup)(h:tP T (kF T) (dH sR nt cap tg f ft fe) σ H Q):kP nt cap (Cm (tP T (kA T) f)) g (tP T kB ft) (tP T (kD T) fe) σ H Q:=by
 obtain ⟨W,O,env,d,E,e,q⟩:=h
 unfold dH at e
 cases e1:f env with
 | none=>rw [e1] at e; cases e
 | some x =>
  rw [e1] at e
  dsimp only [Option.bind_some] at e
  cases e2:sR x with
  | none=>rw [e2] at e; cases e
  | some ds =>
   rw [e2] at e
   dsimp only [Option.bind_some] at e
   obtain ⟨lo,j,rfl,c,rfl⟩:=xb e2
   by_cases cn:(cb lo (j - lo).toNat).length≤1000000
   ·rw [if_pos cn] at e
    refine ⟨W,O,env,_,E,e1,fun vs H1 s1 r1=>?_⟩
    obtain ⟨v,r,rfl,h1,h2⟩:=aC.dF r1
    obtain ⟨v2,r2,rfl,h3,h4⟩:=h2.dF
    cases h4.ju
    cases h1.dU
    cases h3.dU
    exact ⟨lo,j,rfl,⟨by omega,by omega,by omega,by omega⟩,mZ hg hc (E.mono s1) cn (fun j H' h=>by rw [i3] at h; exact h) (fun j H' h=>by rw [i3] at h; exact h) (fun j H' x H2 d hd y=>by
     obtain ⟨rfl,rfl⟩:=y
     rw [mY hd]
     exact ⟨rfl,fun _=>Rep.int _⟩) e fun v H' s r=>q v H' (s1.trans s) (Kd.an _ _ _ _ _ _ s1 r)⟩
   ·rw [if_neg cn] at e; cases e
end
noncomputable def spD (T:Tx)(n:Nat)(F:List D→Option D):Sp:=fun vs H Q _=>vs.length=n∧∃ A ds d,Nw A H∧aC T A H ds vs∧F ds=some d∧∀ v H',aK H H'→Rep T A H' d v→Q v H'
noncomputable def spF (T:Tx)(n:Nat)(F:List D→Option (List D)):Sp:=fun vs H Q _=>vs.length=n∧∃ A ds d,Nw A H∧aC T A H ds vs∧F ds=some d∧∀ v H',aK H H'→kF T A H H' d v→Q v H'
noncomputable def bg {α:Type}(n:Nat)(F:List D→Option α)(f:FA):FP α:=fun env=>(f env).bind fun ds=>if ds.length=n then F ds else none
section
variable {T:Tx}{σ:St}{H:Hp}{Q:VK}
theorem AX {n:Nat}{F:List D→Option D}{f:FA}{E0:XK}(h:tP T (kD T) (bg n F f) σ H Q):vz (spD T n F) [] E0 (tP T (kA T) f) σ H Q:=by
 obtain ⟨W,O,env,d,E,e,q⟩:=h
 unfold bg at e
 cases e1:f env with
 | none=>rw [e1] at e; cases e
 | some ds =>
  rw [e1] at e
  dsimp only [Option.bind_some] at e
  by_cases c:ds.length=n
  ·rw [if_pos c] at e
   refine ⟨W,O,env,ds,E,e1,fun vs H1 s1 r1=>?_⟩
   show spD T n F (vs++[]) H1 Q E0
   rw [List.append_nil]
   exact ⟨by rw [← aC.length r1]; exact c,Cl W O,ds,d,fun a n=>(E.mono s1).lQ n,r1,e,fun v H' s r=>q v H' (s1.trans s) r⟩
  ·rw [if_neg c] at e; cases e
theorem yJ {n:Nat}{F:List D→Option (List D)}{f:FA}{E0:XK}(h:tP T (kF T) (bg n F f) σ H Q):vz (spF T n F) [] E0 (tP T (kA T) f) σ H Q:=by
 obtain ⟨W,O,env,d,E,e,q⟩:=h
 unfold bg at e
 cases e1:f env with
 | none=>rw [e1] at e; cases e
 | some ds =>
  rw [e1] at e
  dsimp only [Option.bind_some] at e
  by_cases c:ds.length=n
  ·rw [if_pos c] at e
   refine ⟨W,O,env,ds,E,e1,fun vs H1 s1 r1=>?_⟩
   show spF T n F (vs++[]) H1 Q E0
   rw [List.append_nil]
   exact ⟨by rw [← aC.length r1]; exact c,Cl W O,ds,d,fun a n=>(E.mono s1).lQ n,r1,e,fun v H' s r=>q v H' (s1.trans s) (Kd.an _ _ _ _ _ _ s1 r)⟩
  ·rw [if_neg c] at e; cases e
noncomputable def envOf (n:Nat)(ds:List D):aN:=ds.map Slot.val++List.replicate (n - ds.length) .no
noncomputable def bz (N:Nat)(F:FS):List D→Option D:=fun ds=>(F (envOf N ds)).bind fun r=>match r with
 | .rt d _=>some d
 | .nx _=>some .non
 | _=>none
noncomputable def iQ (N:Nat)(F:FS):List D→Option (List D):=fun ds=>(F (envOf N ds)).bind fun r=>match r with
 | .rf ds _=>some ds
 | _=>none
theorem ja {A:Addr→Prop}(nw:Nw A H){vs:List V}{ds:List D}{n:Nat}(h:aC T A H ds vs):bN T ⟨A,H,fun _=>False⟩ (fun _=>False) H (envOf n ds) (vs.map some++List.replicate (n - vs.length) none):=by
 have len:=h.length
 have gE:∀ (j:Nat) (s:Slot),(envOf n ds)[j]?=some s→s=.no∨∃ d,ds[j]?=some d∧s=.val d:=fun j s e=>by
  unfold envOf at e
  by_cases hj:j<ds.length
  ·rw [List.getElem?_append_left (by simpa using hj),List.getElem?_map] at e
   cases e2:ds[j]? with
   | none=>rw [e2] at e; cases e
   | some d=>rw [e2] at e; cases e; exact .inr ⟨d,rfl,rfl⟩
  ·rw [List.getElem?_append_right (by simpa using hj),List.getElem?_replicate] at e
   split at e
   ·cases e; exact .inl rfl
   ·cases e
 refine ⟨Fr.refl _ _,nw,fun _ z=>z.elim,fun j s e=>?_,fun j l s t a e1 _ o1 _ _ _=>?_, ?_,fun j l dss t a bs b e1 _ _ _ _ _=>?_⟩
 ·rcases gE j s e with rfl | ⟨d,e1,rfl⟩
  ·trivial
  ·obtain ⟨v,e3,r⟩:=h.get e1
   refine ⟨v, ?_,r.mono (aK.refl _) fun _ z=>⟨z,fun w=>w⟩⟩
   have hj:j<vs.length:=(List.getElem?_eq_some_iff.mp e3).1
   rw [List.getElem?_append_left (by simpa using hj),List.getElem?_map,e3]
   rfl
 ·rcases gE j s e1 with rfl | ⟨d,_,rfl⟩ <;> cases o1
 ·simp [envOf,len]
 ·rcases gE j _ e1 with w | ⟨d,_,w⟩ <;> cases w
theorem vR {N n:Nat}{F:FS}{vs:List V}{E0:XK}(h:spD T n (bz N F) vs H Q E0):tDs T (fun _ _ _=>False) F { nx:=fun _ H'=>Q .non H',rt:=Q } (vs.map some++List.replicate (N - vs.length) none) H:=by
 obtain ⟨hn,A,ds,d,nw,r,e,q⟩:=h
 unfold bz at e
 cases e1:F (envOf N ds) with
 | none=>rw [e1] at e; cases e
 | some fl =>
  rw [e1] at e
  refine ⟨⟨A,H,fun _=>False⟩,fun _=>False,envOf N ds,fl,ja nw r,e1, ?_⟩
  have sm:∀ {O':Addr→Prop} {H':Hp},Fr (fun _=>False) H O' H'→aK H H':=fun f b o h=>f.keep b o h fun z=>z
  cases fl with
  | nx env'=>cases e; exact fun σ' H' O' E' g=>q .non H' (sm g) Rep.non
  | rt d' m=>cases e; exact fun v σ' H' O' E' g r'=>q v H' (sm g) (r'.mono (aK.refl _) fun a z=>z.1)
  | rf _ _=>cases e
  | bk _=>cases e
  | ct _=>cases e
  | ex _ _=>cases e
theorem sT {N n:Nat}{F:FS}{vs:List V}{E0:XK}(h:spF T n (iQ N F) vs H Q E0):tDs T (fun _ _ _=>False) F { nx:=fun _ H'=>Q .non H',rt:=Q } (vs.map some++List.replicate (N - vs.length) none) H:=by
 obtain ⟨hn,A,ds,d,nw,r,e,q⟩:=h
 unfold iQ at e
 cases e1:F (envOf N ds) with
 | none=>rw [e1] at e; cases e
 | some fl =>
  rw [e1] at e
  refine ⟨⟨A,H,fun _=>False⟩,fun _=>False,envOf N ds,fl,ja nw r,e1, ?_⟩
  have sm:∀ {O':Addr→Prop} {H':Hp},Fr (fun _=>False) H O' H'→aK H H':=fun f b o h=>f.keep b o h fun z=>z
  cases fl with
  | rf d' m=>cases e; exact fun a xs σ' H' O' E' g n hl r'=>q _ H' (sm g) ⟨a,xs,rfl,n,hl,r'⟩
  | nx _=>cases e
  | rt _ _=>cases e
  | bk _=>cases e
  | ct _=>cases e
  | ex _ _=>cases e
end
end DL
end
section
namespace L2
open PySem PySem.Spec PyProof.Rows DL
section
variable {prog:Program}{w:World}{A:Around}{R:Result→Shared→Prop}{s:Shared}
theorem lU {elt target iter:Expr}{ifs:List Expr}{scope:Scope}{pos:Pos}{it acc:Value}{env:Env}(I:Nat→Shared→Prop)
  (turn:∀ n s,I n s→wpAny (model prog w) A (pyNext it) (fun r s₁=>match r with
   | none=>R (.ok .next) s₁
   | some v=>wpAny (model prog w) A (letOwnedTupleGo target it v) (fun _ s₁'=>wpAny (model prog w) A (assign target env v) (fun _ s₂ =>
     wpAny (model prog w) A (forIn ifs true fun c r=>if r=true then do let ok ← isTrue c env (eval c env); pure (ForInStep.yield ok) else pure (ForInStep.yield r)) (fun ok s₃ =>
      if ok=true then wpAny (model prog w) A (eval elt env) (fun x s₄ =>
       wpAny (model prog w) A (call (.builtin "list.append") [acc,x]) (fun _ s₅=>∃ m,m<n∧I m s₅) (notedBy (model prog w) A env fun e s'=>R (.error e) s') s₄) (notedBy (model prog w) A env fun e s'=>R (.error e) s') s₃
      else ∃ m,m<n∧I m s₃) (notedBy (model prog w) A env fun e s'=>R (.error e) s') s₂) (notedBy (model prog w) A env fun e s'=>R (.error e) s') s₁') (notedBy (model prog w) A env fun e s'=>R (.error e) s') s₁) (notedBy (model prog w) A env fun e s'=>R (.error e) s') s)
  (n:Nat) (h:I n s):codeAny (model prog w) A (.compLoop (.ListComp elt [⟨target,iter,ifs,0⟩] scope pos) 0 it acc env) R s:=by
 refine codeAny_loop rfl I (fun n s hI=>?_) n h
 show wpAny _ A ((compTurn (.ListComp elt [⟨target,iter,ifs,0⟩] scope pos) 0 it acc env).onRaise (fun x=>do noteFrame x env; theTreesLotGoes x)) _ _ s
 refine wpAny_noted ?_
 rw [compTurn_list]
 refine wpAny_bind (wpAny_standAt (wpAny_bind (wpAny_mono (turn n s hI) (fun r s₁ h₁=>?_) fun _ _ h'=>h')))
 cases r with
 | none=>exact wpAny_pure h₁
 | some v =>
  refine wpAny_bind (wpAny_mono h₁ (fun _ s₁' h₁'=>?_) fun _ _ h'=>h')
  refine wpAny_bind (wpAny_mono h₁' (fun _ s₂ h₂=>wpAny_bind (wpAny_mono h₂ (fun ok s₃ h₃=>?_) fun _ _ h'=>h')) fun _ _ h'=>h')
  cases ok with
  | false=>exact wpAny_pure ⟨rfl,h₃⟩
  | true =>
   exact wpAny_bind (wpAny_bind (wpAny_mono h₃ (fun x s₄ h₄=>wpAny_bind (wpAny_mono h₄ (fun _ s₅ h₅=>wpAny_pure (wpAny_pure ⟨rfl,h₅⟩)) fun _ _ h'=>h')) fun _ _ h'=>h'))
end
noncomputable def cw (cells:List (Str × Addr)):List (Str × NameKind)→List (Str × Addr)→List (Str × Addr)
 | [],acc=>acc
 | (n,k)::r,acc=>if (k == .free)=true then cw cells r ((n,(cells.lookup n).getD 0)::acc) else cw cells r acc
theorem jb (cells:List (Str × Addr)):∀ (l:List (Str × NameKind)) (acc:List (Str × Addr)),(∀ y∈l,y.2=.free→∃ c,cells.lookup y.1=some c)→(∀ x c,acc.lookup x=some c→cells.lookup x=some c) →
  ∀ x c,(cw cells l acc).lookup x=some c→cells.lookup x=some c
 | [],acc,_,ha=>ha
 | (n,k)::r,acc,h,ha=>by
  unfold cw
  split
  ·rename_i hk
   have hk':k=.free:=by simpa using hk
   obtain ⟨c0,e0⟩:=h (n,k) List.mem_cons_self hk'
   refine jb cells r _ (fun y hy=>h y (List.mem_cons_of_mem _ hy)) fun x c e=>?_
   dsimp only at e0
   rw [e0,Option.getD_some] at e
   by_cases hx:x=n
   ·subst hx
    rw [List.lookup_cons_self] at e
    rw [e0]; exact e
   ·have hb:(x == n)=false:=by simpa using hx
    rw [List.lookup_cons,hb] at e
    exact ha x c e
  ·exact jb cells r acc (fun y hy=>h y (List.mem_cons_of_mem _ hy)) ha
theorem kZ (cells:List (Str × Addr)):∀ (l:List (Str × NameKind)) (acc:List (Str × Addr)) (x:Str),(∃ c,acc.lookup x=some c)→∃ c,(cw cells l acc).lookup x=some c
 | [],acc,x,h=>h
 | (n,k)::r,acc,x,h=>by
  unfold cw
  split
  ·refine kZ cells r _ x ?_
   cases hb:x == n with
   | true=>exact ⟨_,by rw [List.lookup_cons,hb]⟩
   | false=>obtain ⟨c,e⟩:=h; exact ⟨c,by rw [List.lookup_cons,hb]; exact e⟩
  ·exact kZ cells r acc x h
theorem jc (cells:List (Str × Addr)):∀ (l:List (Str × NameKind)) (acc:List (Str × Addr)) (x:Str),(x,NameKind.free)∈l→∃ c,(cw cells l acc).lookup x=some c
 | (n,k)::r,acc,x,h=>by
  unfold cw
  rcases List.mem_cons.mp h with e | h
  ·cases e
   rw [if_pos (by simp)]
   exact kZ cells r ((n,(cells.lookup n).getD 0)::acc) n ⟨_,by rw [List.lookup_cons_self]⟩
  ·split
   ·exact jc cells r _ x h
   ·exact jc cells r _ x h
theorem kQ {scope:Scope}{env:Env}(h:∀ y∈scope.names,y.2=.free→∃ c,env.cells.lookup y.1=some c):closureFor scope env=pure (cw env.cells scope.names []):=by
 unfold closureFor
 have go:∀ (l:List (Str × NameKind)) (acc:List (Str × Addr)),(∀ y∈l,y.2=.free→∃ c,env.cells.lookup y.1=some c) →
   (forIn (m:=Sem) l acc fun x r=>match x with
    | (name,kind)=>if (kind == NameKind.free)=true then do let a ← cellOf env name; pure (ForInStep.yield ((name,a)::r)) else pure (ForInStep.yield r))=pure (cw env.cells l acc):=by
  intro l
  induction l with
  | nil=>intro acc _; rfl
  | cons y r ih =>
   intro acc hl
   obtain ⟨n,k⟩:=y
   rw [List.forIn_cons]
   unfold cw
   cases hk:(k == NameKind.free) with
   | true =>
    obtain ⟨c,e⟩:=hl (n,k) List.mem_cons_self (by simpa using hk)
    dsimp only at e
    have hc:cellOf env n=pure c:=by unfold cellOf; rw [e]
    simp only [hc,hk,if_true,e,Option.getD_some]
    exact ih _ fun y hy=>hl y (List.mem_cons_of_mem _ hy)
   | false =>
    simp only [hk,Bool.false_eq_true,if_false]
    exact ih _ fun y hy=>hl y (List.mem_cons_of_mem _ hy)
 exact (congrArg (fun m=>m >>= fun cs=>pure cs) (go scope.names [] h)).trans rfl
theorem jd {env:Env}:∀ {names:List (Str × NameKind)} {x:Str},names.lookup x=some .free →
  (names.map fun (n,k)=>if (k == NameKind.free && env.scope.kind == .function && env.kindOf n == some .cell) then (n,NameKind.cell) else (n,k)).lookup x=some .cell ∨
  (names.map fun (n,k)=>if (k == NameKind.free && env.scope.kind == .function && env.kindOf n == some .cell) then (n,NameKind.cell) else (n,k)).lookup x=some .free
 | [],_,h=>by simp at h
 | (n,k)::r,x,h=>by
  have ih:=@jd env r x
  rw [List.map_cons]
  cases hx:x == n with
  | true =>
   rw [List.lookup_cons,hx] at h
   cases h
   dsimp only
   split <;> simp [List.lookup_cons,hx]
  | false =>
   rw [List.lookup_cons,hx] at h
   dsimp only
   split <;> simp only [List.lookup_cons,hx] <;> exact ih h
theorem l0 {env:Env}:∀ {names:List (Str × NameKind)} {x:Str} {k0:NameKind},(∀ y∈names,y.2≠.cell) →
  (names.map fun (n,k)=>if (k == NameKind.free && env.scope.kind == .function && env.kindOf n == some .cell) then (n,NameKind.cell) else (n,k)).lookup x=some k0→(k0=.cell∨k0=.free)→names.lookup x=some .free
 | [],_,_,_,h,_=>by simp at h
 | (n,k)::r,x,k0,hn,h,hk=>by
  have ih:=@l0 env r x k0 (fun y hy=>hn y (List.mem_cons_of_mem _ hy))
  rw [List.map_cons] at h
  cases hx:x == n with
  | true =>
   rw [List.lookup_cons,hx]
   have h0:=hn (n,k) List.mem_cons_self
   dsimp only at h h0
   by_cases c:(k == NameKind.free && env.scope.kind == .function && env.kindOf n == some .cell)=true
   ·have:k=.free:=by
     have:=(Bool.and_eq_true_iff.mp (Bool.and_eq_true_iff.mp c).1).1
     simpa using this
    rw [this]
   ·rw [if_neg c,List.lookup_cons,hx] at h
    cases h
    rcases hk with rfl | rfl
    ·exact absurd rfl h0
    ·rfl
  | false =>
   rw [List.lookup_cons,hx]
   dsimp only at h
   by_cases c:(k == NameKind.free && env.scope.kind == .function && env.kindOf n == some .cell)=true
   ·rw [if_pos c,List.lookup_cons,hx] at h; exact ih h hk
   ·rw [if_neg c,List.lookup_cons,hx] at h; exact ih h hk
noncomputable def aL (X:Cx)(scope:Scope)(cl:List (Str × Addr))(N':List Str)(C:Addr)(s2:Shared)(H2:Hp)(fp:List Addr):Cx :=
 { X with N:=N',s₀:=s2,H₀:=H2,env:=compEnvC scope cl C X.env,outer:=X.stack,stack:=X.stack,ex:=fp,fn:=fun _=>false,pn:=[],xe:=fun _ _=>False }
structure gw (sc scope:Scope)(N N':List Str)(nt:Nat)(cap:List Nat):Prop where
 kind:scope.kind=.function
 uJ:∀ y∈scope.names,y.2≠.cell
 names:∀ y∈scope.names,y.2=.local→scope.names.lookup y.1=some .local
 fr:∀ y∈scope.names,y.2=.free→sc.names.lookup y.1=some .cell∨sc.names.lookup y.1=some .free
 len:N'.length=nt+cap.length
 cap:∀ j∈List.range cap.length, ∀ x∈N'[nt+j]?, ∀ i∈cap[j]?,N[i]?=some x∧scope.names.lookup x=some .free
noncomputable def iW (X:Cx)(ifs:List Expr)(t:TT):Prop :=
 ∀ (pins:List (Addr × Obj)) (s:Shared) (σ:St) (H:Hp) (Q:Bool→Hp→Prop),Inv X pins σ H s→t σ H Q →
  wpAny (model X.prog X.w) X.A (forIn ifs true fun c r=>if r=true then do let ok ← isTrue c X.env (eval c X.env); pure (ForInStep.yield ok) else pure (ForInStep.yield r)) (TP X pins σ Q) X.xe s
noncomputable def Iy:TT:=fun _ H Q=>Q true H
theorem yK {X:Cx}:iW X [] Iy:=fun _ _ _ H _ I h=>wpAny_tests_nil ⟨H,I,h⟩
theorem yL {X:Cx}{c:Expr}{t:TT}(h:PT X c t):iW X [c] t:=fun pins s σ H Q I hq=>wpAny_tests_one (h pins s σ H Q I hq)
noncomputable def lg (nt:Nat)(g:TG):Prop:=∀ x σ H Q,g x σ H Q→g x σ H fun σ2 H2=>((∀ j:Nat,nt≤j→σ2[j]?=σ[j]?)∧σ2.length=σ.length)∧Q σ2 H2
theorem bx {i nt:Nat}(h:i<nt):lg nt (gU i):=fun x σ H Q q=>⟨⟨fun j hj=>by rw [List.getElem?_set_ne (by omega)],by simp⟩,q⟩
section
variable {X:Cx}{elt iter tg:Expr}{ifs:List Expr}{scope:Scope}{pos:Pos}{wi:TI}{g:TG}{tt:TT}{te:TE}{sc:Scope}{N N':List Str}{nt:Nat}{cap:List Nat}
theorem AY {pins:List (Addr × Obj)}{σ:St}{H2:Hp}{s2:Shared}{fp:List Addr}{h1:Heap}{C D:Addr}{o:Obj}{tk:Nat}(hsc:X.env.scope=sc)(hN:X.N=N)(chk:gw sc scope N N' nt cap)
  (I2:Inv X pins σ H2 s2) (f2:∀ b∈fp,kx X pins H2 b) (hD:s2.heap.objs.size=D) (hC:s2.heap.objs.size<C) (hns:h1.Ns C fun _=>none) (old:∀ b o,s2.heap.get? b=some o→h1.get? b=some o)
  (hfp:∀ b∈fp,b<s2.heap.objs.size) (ho:h1.get? D=some o) (hod:∀ v,o.data≠.cell v) :
  Inv (aL X scope (cw X.env.cells scope.names []) N' C s2 H2 fp) [(D,o)] (fV nt cap σ) H2 { s2 with heap:=h1,toks:=tk }:=by
 have hcells:∀ y∈scope.names,y.2=.free→∃ c,X.env.cells.lookup y.1=some c:=fun y hy hk=>I2.ok.has y.1 (by show X.env.scope.names.lookup y.1=_∨X.env.scope.names.lookup y.1=_; rw [hsc]; exact chk.fr y hy hk)
 have hsub:∀ x c,(cw X.env.cells scope.names []).lookup x=some c→X.env.cells.lookup x=some c:=jb X.env.cells scope.names [] hcells (fun x c e=>by simp at e)
 have hhas:∀ x,scope.names.lookup x=some .free→∃ c,(cw X.env.cells scope.names []).lookup x=some c:=fun x e=>jc X.env.cells scope.names [] x (PySem.mem_of_lookup e)
 have nst:∀ b,s2.heap.objs.size≤b→b ∉ frs X.stack:=fun b hb hm=>by
  rcases List.mem_cons.mp (I2.mO b hm) with e | e
  ·rw [e] at hb; exact absurd (Nat.lt_of_lt_of_le I2.lt hb) (Nat.lt_irrefl _)
  ·exact I2.D8 hb e
 have nC:∀ x c,X.env.cells.lookup x=some c→c<s2.heap.objs.size:=fun x c e=>by
  obtain ⟨v,q⟩:=I2.cell x c e
  exact q.lt
 refine ⟨⟨I2.ok.mod,chk.kind,I2.ok.glob,I2.ok.blt,Nat.le_of_lt hC,fun x y c e1 e2=>I2.ok.inj x y c (hsub x c e1) (hsub y c e2),fun x hk=>?_,fun x c z _=>(nomatch z),fun hc=>I2.ok.hd hc,I2.ok.frames,.inl rfl,
  fun b hb=>⟨Nat.ne_of_lt (Nat.lt_trans (hfp b hb) hC),fun x c e=>(f2 b hb).2.2.2.2.1 x c (hsub x c e)⟩,I2.bs,Nat.le_trans I2.ok.bsz I2.sz,fun b ob e hb=>?_,fun b hb hm=>?_,I2.stack,I2.r9⟩,
  rfl,I2.bare,Un.kept old,⟨_,hns,fun j x v e1 e2 e3=>?_⟩,fun x c e=>?_,I2.hok.fresh (Nat.le_of_lt hC),fun x c e=>I2.jq x c (hsub x c e),fun p hp=>?_,I2.hok.kept old, ?_⟩
 ·
  have hk':(relabel scope X.env).names.lookup x=some .cell∨(relabel scope X.env).names.lookup x=some .free:=hk
  rcases hk' with e | e
  ·exact hhas x (l0 chk.uJ e (.inl rfl))
  ·exact hhas x (l0 chk.uJ e (.inr rfl))
 ·
  rcases (f2 b hb).2.2.2.1 with z | z
  ·exact I2.ok.wL b ob e z
  ·exact absurd (Nat.lt_of_lt_of_le (Heap.lt_size e) (Nat.le_trans I2.ok.bsz z)) (Nat.lt_irrefl _)
 ·
  rcases List.mem_cons.mp (I2.mO b hm) with e | e
  ·exact (f2 b hb).2.1 e
  ·exact (f2 b hb).2.2.1 e
 ·
  have hj:nt≤j:=by
   apply Nat.le_of_not_lt
   intro hj
   unfold fV at e2
   rw [List.getElem?_append_left (by simpa using hj),List.getElem?_replicate,if_pos hj] at e2
   cases e2
  obtain ⟨l,rfl⟩:∃ l,j=nt+l:=⟨j - nt,by omega⟩
  unfold fV at e2
  rw [List.getElem?_append_right (by simp),List.length_replicate,Nat.add_sub_cancel_left,List.getElem?_map] at e2
  cases ec:cap[l]? with
  | none=>rw [ec] at e2; cases e2
  | some i =>
   rw [ec,Option.map_some] at e2
   have hl:l<cap.length:=(List.getElem?_eq_some_iff.mp ec).1
   have e1':N'[nt+l]?=some x:=e1
   obtain ⟨h3,h4⟩:=chk.cap l (List.mem_range.mpr hl) x (by rw [e1']; rfl) i (by rw [ec]; rfl)
   have e2' : σ[i]?=some (some v):=by
    cases es:σ[i]? with
    | none=>rw [es] at e2; cases e2
    | some ov =>
     rw [es] at e2
     cases ov with
     | none=>cases e2
     | some v'=>cases e2; rfl
   obtain ⟨m,hm,hl'⟩:=I2.loc
   have hkk:X.env.scope.names.lookup x=some .cell∨X.env.scope.names.lookup x=some .free:=by rw [hsc]; exact chk.fr (x,.free) (PySem.mem_of_lookup h4) rfl
   obtain ⟨u,ru,lk⟩:=hl' i x v (by rw [hN]; exact h3) e2' (.inr hkk)
   refine ⟨u,ru,.inr ⟨jd h4, ?_⟩⟩
   rcases lk with ⟨hk,_⟩ | ⟨_,c,hc,hcell⟩
   ·have hk':X.env.scope.names.lookup x=some .local:=hk
    rcases hkk with z | z <;> (rw [hk'] at z; cases z)
   ·obtain ⟨c',e'⟩:=hhas x h4
    have:=hsub x c' e'
    rw [hc] at this; cases this
    obtain ⟨oc,h5,h6⟩:=hcell
    exact ⟨c,e',oc,old c oc h5,h6⟩
 ·
  obtain ⟨v,oc,h5,h6⟩:=I2.cell x c (hsub x c e)
  exact ⟨v,oc,old c oc h5,h6⟩
 ·
  have hp':p=(D,o):=by simpa [aL] using hp
  subst hp'
  refine ⟨ho,I2.hok.fresh (Nat.le_of_eq hD), ?_,nst D (Nat.le_of_eq hD),hod⟩
  show D≠C
  exact Nat.ne_of_lt (by rw [← hD]; exact hC)
 ·show (fV nt cap σ).length=N'.length
  rw [chk.len]
  simp [fV]
theorem qD (hsc:X.env.scope=sc)(hN:X.N=N)(chk:gw sc scope N N' nt cap)(hc:X.calm=true)(hi:PI X tg iter wi)
  (hg:∀ cl C s2 H2 fp,PG (aL X scope cl N' C s2 H2 fp) tg g) (hge:lg nt g) (ht:∀ cl C s2 H2 fp,iW (aL X scope cl N' C s2 H2 fp) ifs tt) (he:∀ cl C s2 H2 fp,PE (aL X scope cl N' C s2 H2 fp) elt te)
  (hs:∀ x,foldedSetIterable iter X.env x=pure x) {use:Option (Value→Sem Unit)} {QQ:Value→Shared→Prop} {pins:List (Addr × Obj)} {s:Shared} {σ:St} {H:Hp} {p0:Pos} (I:Inv X pins σ H s) (Q:VK)
  (fin:∀ (s4:Shared) (D C:Addr) (H4:Hp),C≠D→H4 C=none→(∃ m,s4.heap.Ns C m)→(∀ h',Heap.SameBut C s4.heap h'→Inv X pins σ H4 { s4 with heap:=h' }) →
   ((C∈X.ex∨X.s₀.heap.objs.size≤C)∧C≠X.env.locals∧(∀ x c,X.env.cells.lookup x=some c→c≠C)∧∀ p∈X.pn++pins,p.1≠C)→Q (.ref D) H4→compPost (model X.prog X.w) X.A X.xe use QQ (.ref D) C (.ok .next) s4)
  (h:kP nt cap wi g tt te σ H Q):wpAny (model X.prog X.w) X.A (comprehension (.ListComp elt [⟨tg,iter,ifs,0⟩] scope pos) scope X.env p0 (newList []) false (eval iter X.env) use) QQ X.xe s:=by
 have hcells:∀ y∈scope.names,y.2=.free→∃ c,X.env.cells.lookup y.1=some c:=fun y hy hk=>I.ok.has y.1 (by show X.env.scope.names.lookup y.1=_∨X.env.scope.names.lookup y.1=_; rw [hsc]; exact chk.fr y hy hk)
 refine wpAny_comprehension_free (use:=use) rfl hs (kQ hcells) chk.kind chk.names ?_
 refine thn (hi pins s σ H _ I h) fun v s1 h1=>thn h1 fun itv s2 h2=>?_
 obtain ⟨it,fp,tn,J,H2,e,I2,T,st2,f2,W,⟨m0,w0⟩,turn⟩:=h2
 subst e
 refine wpAny_newObj_type (wpAny_newFunctionEnv chk.uJ (by intro y hy; simp at hy) (fun h₁ hns₁ hsb₁=>?_) chk.kind)
 dsimp only at hns₁ hsb₁ ⊢
 generalize hG:s2.heap.push { cls:=.type "list",dict:=none,data:=.seq ([]:List Value).toArray }=G at hns₁ hsb₁ ⊢
 have hCs:G.objs.size=s2.heap.objs.size+1:=by rw [← hG,Heap.size_push]
 have hDC:s2.heap.objs.size≠G.objs.size:=by rw [hCs]; exact Nat.ne_of_lt (Nat.lt_succ_self _)
 have below:∀ b,b<s2.heap.objs.size→b≠G.objs.size:=fun b hb=>by rw [hCs]; exact Nat.ne_of_lt (Nat.lt_succ_of_lt hb)
 have old:∀ b o,s2.heap.get? b=some o→h₁.get? b=some o:=fun b o e=>hsb₁.extBut b o (below b (Heap.lt_size e)) (Heap.get?_push_of_some _ (hG ▸ Heap.get?_push_of_some _ e))
 have hacc:h₁.get? s2.heap.objs.size=some { cls:=.type "list",dict:=none,data:=.seq ([]:List Value).toArray }:=hsb₁.extBut _ _ hDC (Heap.get?_push_of_some _ (hG ▸ Heap.get?_push_size _ rfl))
 have hfp:∀ b∈fp,b<s2.heap.objs.size:=fun b hb=>by
  obtain ⟨o,e,_⟩:=T.obj 0 _ st2 b hb
  exact Heap.lt_size e
 generalize hD:s2.heap.objs.size=D at hacc hDC ⊢
 generalize hC:G.objs.size=C at hns₁ hsb₁ hDC ⊢
 have hDC':s2.heap.objs.size<C:=by rw [← hC,hCs]; exact Nat.lt_succ_self _
 have hns:h₁.Ns C fun _=>none:=by
  have:(fun x:Str=>([]:List (Str × Value)).reverse.lookup x)=fun _=>none:=by funext x; rfl
  rw [← this]
  exact hns₁
 let cl:=cw X.env.cells scope.names []
 let X':=aL X scope cl N' C s2 H2 fp
 let ob:List Value→Nat→Obj:=fun its n=>{ cls:=.type "list",dict:=none,data:=.seq its.toArray n }
 have I0:Inv X' [(D,ob [] 0)] (fV nt cap σ) H2 { s2 with heap:=h₁,toks:=s2.toks+([]:List (Str × Value)).length }:=AY hsc hN chk I2 f2 hD hDC' hns old hfp hacc (fun v z=>nomatch z)
 have fpD:∀ b∈fp,b≠D:=fun b hb z=>by have:=hfp b hb; rw [z,hD] at this; exact Nat.lt_irrefl _ this
 have stat:∀ {H':Hp} {its:List Value} {n:Nat},(∀ b∈fp,H' b=none)→∀ b∈fp,kx X' [(D,ob its n)] H' b:=fun {H' its n} hn b hb=>by
  obtain ⟨_,f1,f2',f3,f4,f5⟩:=f2 b hb
  refine ⟨hn b hb,Nat.ne_of_lt (Nat.lt_trans (hfp b hb) hDC'),I0.ok.wM b hb,.inl hb,(I0.ok.exf b hb).2,fun p hp=>?_⟩
  have hp':p=(D,ob its n):=by simpa [X',aL] using hp
  subst hp'
  exact Ne.symm (fpD b hb)
 have st0:tn 0 h₁:=T.keep 0 _ _ st2 fun b hb o e=>old b o e
 have loop:codeAny (model X.prog X.w) X.A (.compLoop (.ListComp elt [⟨tg,iter,ifs,0⟩] scope pos) 0 (.ref it) (.ref D) (compEnvC scope cl C X.env))
   (compPost (model X.prog X.w) X.A X.xe use QQ (.ref D) C) { s2 with heap:=h₁,toks:=s2.toks+([]:List (Str × Value)).length }:=by
  refine lU (fun k s'=>∃ i ys its n H',Inv X' [(D,ob its n)] (fV nt cap σ) H' s'∧tn i s'.heap∧(∀ b∈fp,H' b=none)∧Vals ys its∧W i k ys H') ?_ m0 ⟨0,[],[],0,H2,I0,st0,fun b hb=>(f2 b hb).1,.nil,w0⟩
  rintro k s3 ⟨i,ys,its,n,H3,I3,st3,fr3,rv3,w3⟩
  have pD:=I3.pin (D,ob its n) (by simp)
  rcases turn i k ys H3 w3 with ⟨stop,hz,qn⟩ | ⟨go,step⟩
  ·refine wpAny_mono (T.done X' rfl rfl rfl hc i _ s3 _ H3 (fun _ _=>False) I3 (stat fr3) st3 stop) (fun r s4 zz_=>?_) fun _ _ z=>False.elim z
   obtain ⟨hr,I4⟩:=zz_
   subst hr
   have pD4:=I4.pin (D,ob its n) (by simp)
   obtain ⟨mC,hnC,_⟩:=I4.loc
   have J:∀ h',Heap.SameBut C s4.heap h'→Inv X pins σ (upd H3 D (.lst ys)) { s4 with heap:=h' }:=fun h' sb=>by
    have hfree:H3 D=none:=pD4.2.1
    have neC:∀ b u,H3 b=some u→b≠C:=fun b u e z=>by
     have:H3 C=none:=I4.free
     rw [z,this] at e; cases e
    have neD:∀ b u,H3 b=some u→b≠D:=fun b u e z=>by rw [z,hfree] at e; cases e
    have hltC:∀ b,b<s2.heap.objs.size→b≠C:=fun b hb=>by omega
    have hltD:∀ b,b<s2.heap.objs.size→b≠D:=fun b hb=>by omega
    have hgD:h'.get? D=some (ob its n):=sb.extBut D _ hDC pD4.1
    have un:Un (frs X.stack) fp H2 (upd H3 D (.lst ys)) s2.heap h':=by
     have bs:Un (frs X.stack) fp H2 H3 s2.heap s4.heap:=I4.base
     refine ⟨fun b o e n hb hx=>?_,fun b o e n hb hx=>?_,fun b o e n hx=>?_,fun b o e hx=>?_,fun b xs e=>?_,fun b o u e=>?_,fun b ps e=>?_⟩
     ·exact sb.extBut b o (hltC b (Heap.lt_size e)) (bs.keep b o e n hb hx)
     ·obtain ⟨sl,q⟩:=bs.slot b o e n hb hx
      exact ⟨sl,sb.extBut b _ (hltC b (Heap.lt_size e)) q⟩
     ·rw [aH (hltD b (Heap.lt_size e))]; exact bs.free b o e n hx
     ·obtain ⟨o',q⟩:=bs.there b o e hx
      exact ⟨o',sb.extBut b _ (hltC b (Heap.lt_size e)) q⟩
     ·have q:=bs.pY b xs e
      rw [aH (neD b _ q)]; exact q
     ·have q:=bs.oF b o u e
      rw [aH (neD b _ q)]; exact q
     ·obtain ⟨more,q⟩:=bs.pZ b ps e
      exact ⟨more,by rw [aH (neD b _ q)]; exact q⟩
    have hok:HOk X.prog X.w (upd H3 D (.lst ys)) h':=fun b u e=>by
     by_cases hb:b=D
     ·subst hb
      rw [bD] at e; cases e
      exact ⟨hz,its,n,rv3,hgD⟩
     ·rw [aH hb] at e
      refine (I4.hok b u e).oE (fun c v hcc q=>sb.extBut c v ?_ q) (fun c q=>by rw [aH (neD c _ q)]; exact q) fun c xs q=>by rw [aH (neD c _ q)]; exact q
      rcases hcc with rfl | hcc
      ·exact neC _ _ e
      ·exact neC _ _ hcc
    have hch:∀ b∈fp,(b∈X.ex∨X.s₀.heap.objs.size≤b)∧b≠X.env.locals∧(∀ x c,X.env.cells.lookup x=some c→c≠b)∧∀ p∈X.pn++pins,p.1≠b:=fun b hb=>by
     obtain ⟨_,f1,_,f3,f4,f5⟩:=f2 b hb
     exact ⟨f3,f1,f4,f5⟩
    have os4:s4.os=s2.os:=I4.os
    have I5:Inv X pins σ (upd H3 D (.lst ys)) { s4 with heap:=h' }:=I2.xZ (s':={ s4 with heap:=h' }) os4 un hok I4.bare hch
    exact I5
   have hfree:H3 D=none:=pD4.2.1
   have hfC:H3 C=none:=I4.free
   exact fin s4 D C _ (Ne.symm hDC) (by rw [aH (Ne.symm hDC)]; exact hfC) ⟨mC,hnC⟩ J
    ⟨.inr (Nat.le_trans I2.sz (Nat.le_of_lt hDC')),fun z=>Nat.lt_irrefl _ (Nat.lt_trans hDC' (z ▸ I2.lt)),fun x c e z=>(by
     obtain ⟨v',oc,h5,h6⟩:=I2.cell x c e
     exact Nat.lt_irrefl _ (Nat.lt_trans hDC' (z ▸ Heap.lt_size h5))),fun p hp z=>Nat.lt_irrefl _ (Nat.lt_trans hDC' (z ▸ Heap.lt_size (I2.pin p hp).1))⟩ (qn D hfree)
  ·refine wpAny_mono (T.item X' rfl rfl rfl hc i _ s3 _ H3 (fun _ _=>False) I3 (stat fr3) st3 go) (fun r s4 zz_=>?_) fun _ _ z=>False.elim z
   obtain ⟨u,hr,h4⟩:=zz_
   subst hr
   refine wpAny_mono h4 (fun _ s5 zz_=>?_) fun _ _ z=>False.elim z
   obtain ⟨x,H5,I5,r5,y5,st5,fr5⟩:=zz_
   have I5':=I5.pinned (stat fr5) (T.obj _ _ st5)
   refine wpAny_mono (hg cl C s2 H2 fp _ s5 _ H5 x u _ I5' r5 (hge _ _ _ _ (step x H5 y5))) (fun _ s6 zz_=>?_) fun _ _ z=>False.elim z
   obtain ⟨σ6,H6,I6,⟨ext,exl⟩,q6⟩:=zz_
   refine wpAny_mono (ht cl C s2 H2 fp _ s6 σ6 H6 _ I6 q6) (fun b s7 zz_=>?_) fun _ _ z=>False.elim z
   obtain ⟨H7,I7,q7⟩:=zz_
   have back:∀ {s':Shared} {H':Hp},Inv X' ([(D,ob its n)]++mQ fp s5.heap) σ6 H' s'→Inv X' [(D,ob its n)] (fV nt cap σ) H' s'∧tn (i+1) s'.heap∧∀ b∈fp,H' b=none:=fun {s' H'} J=>by
    refine ⟨J.jy.weak (by rw [exl]) fun j w e=>?_,T.keep _ _ _ st5 fun b hb o e=>(J.pin (b,o) (List.mem_append_right _ (List.mem_append_right _ (gk hb e)))).1,fun b hb=>?_⟩
    ·have hj:nt≤j:=by
      apply Nat.le_of_not_lt
      intro hj
      unfold fV at e
      rw [List.getElem?_append_left (by simpa using hj),List.getElem?_replicate,if_pos hj] at e
      cases e
     rw [ext j hj]; exact e
    ·obtain ⟨o,e,d⟩:=T.obj _ _ st5 b hb
     exact (J.pin (b,o) (List.mem_append_right _ (List.mem_append_right _ (gk hb e)))).2.1
   cases b with
   | false =>
    rw [if_neg Bool.false_ne_true] at q7 ⊢
    obtain ⟨m',hm,w7⟩:=q7
    obtain ⟨J,st7,fr7⟩:=back I7
    exact ⟨m',hm,i+1,ys,its,n,H7,J,st7,fr7,rv3,w7⟩
   | true =>
    rw [if_pos rfl] at q7 ⊢
    refine wpAny_mono (he cl C s2 H2 fp _ s7 σ6 H7 _ I7 q7) (fun y s8 zz_=>?_) fun _ _ z=>False.elim z
    obtain ⟨yv,H8,I8,r8,hz8,m',hm,w8⟩:=zz_
    obtain ⟨J,st8,fr8⟩:=back I8
    have pD8:=J.pin (D,ob its n) (by simp)
    have hsz:its.toArray.size≤sizeLine:=by
     have:=rv3.length
     rw [List.size_toArray]; omega
    refine wpAny_list_append_plain (l:=D) (items:=its.toArray) ⟨n,pD8.1⟩ (fun h9 pl sb9=>?_) hsz
    obtain ⟨n9,e9⟩:=pl
    refine ⟨m',hm,i+1,ys++[yv],its++[y],n9,H8, ?_,T.keep _ _ _ st8 fun b hb o e=>sb9.extBut b o (fpD b hb) e,fr8,rv3.append (.cons r8 .nil),w8⟩
    have J0:Inv X' [] (fV nt cap σ) H8 s8:=J.ka fun p hp=>absurd hp (by simp)
    have cellsD:∀ x c,X'.env.cells.lookup x=some c→c≠D:=fun x c e z=>by
     obtain ⟨v',oc,h5,h6⟩:=J.cell x c e
     rw [z,pD8.1] at h5; cases h5
     exact absurd h6 (fun z=>nomatch z)
    have J1:Inv X' [] (fV nt cap σ) H8 { s8 with heap:=h9 }:=J0.turned (t':=s8.toks) (fun b o hb e=>sb9.extBut b o hb e) pD8.2.1 pD8.2.2.1 (.inr (Nat.le_of_eq hD)) cellsD (fun p hp=>absurd hp (by simp [X',aL]))
    refine J1.ka fun p hp=>?_
    have hp':p=(D,ob (its++[y]) n9):=by simpa using hp
    subst hp'
    refine ⟨?_,pD8.2.1,pD8.2.2.1,pD8.2.2.2.1,fun v z=>nomatch z⟩
    show h9.get? D=some (ob (its++[y]) n9)
    rw [e9]
    simp [ob]
 refine codeAny_compStart_list loop ?_
 exact T.self X.A 0 _ _ _ st0 loop
theorem lV (hsc:X.env.scope=sc)(hN:X.N=N)(chk:gw sc scope N N' nt cap)(hc:X.calm=true)(hi:PI X tg iter wi)
  (hg:∀ cl C s2 H2 fp,PG (aL X scope cl N' C s2 H2 fp) tg g) (hge:lg nt g) (ht:∀ cl C s2 H2 fp,iW (aL X scope cl N' C s2 H2 fp) ifs tt) (he:∀ cl C s2 H2 fp,PE (aL X scope cl N' C s2 H2 fp) elt te)
  (hs:∀ x,foldedSetIterable iter X.env x=pure x:=by intro _; rfl):PE X (.ListComp elt [⟨tg,iter,ifs,0⟩] scope pos) (kP nt cap wi g tt te):=by
 intro pins s σ H Q I h
 rw [eval_ListComp]
 exact qD (use:=none) hsc hN chk hc hi hg hge ht he hs I Q (fun s4 D C H4 _ _ hn J _ q=>by
  obtain ⟨m,hm⟩:=hn
  exact ⟨m,hm,fun h' sb=>⟨.ref D,_,J h' sb,rfl,q⟩⟩) h
theorem vS (hsc:X.env.scope=sc)(hN:X.N=N)(chk:gw sc scope N N' nt cap)(hc:X.calm=true)(hi:PI X tg iter wi)
  (hg:∀ cl C s2 H2 fp,PG (aL X scope cl N' C s2 H2 fp) tg g) (hge:lg nt g) (ht:∀ cl C s2 H2 fp,iW (aL X scope cl N' C s2 H2 fp) ifs tt) (he:∀ cl C s2 H2 fp,PE (aL X scope cl N' C s2 H2 fp) elt te)
  {i:Nat} {x:Str} {pos' spos:Pos} (hNd:X.N.Nodup) (hi':X.N[i]?=some x) (hx:Loc X.env.scope x) (hf:X.fn x=true∨X.env.scope.names.lookup x=some .local)
  (hsw:swapsWith (.ListComp elt [⟨tg,iter,ifs,0⟩] scope pos) (some (.Name x pos')) spos.line X.env=pure true) (hs:∀ x,foldedSetIterable iter X.env x=pure x:=by intro _; rfl) :
  PS X (.Assign [.Name x pos'] (.ListComp elt [⟨tg,iter,ifs,0⟩] scope pos) spos) (yb (kP nt cap wi g tt te) (gU i)):=by
 intro pins s σ H D I h
 rw [exec_Assign_Name_used _ _ _ _ hsw]
 refine wpAny_bind (wpAny_standAt (wpAny_bind ?_))
 show wpAny _ X.A (do let _ ← comprehension (.ListComp elt [⟨tg,iter,ifs,0⟩] scope pos) scope X.env _ (newList []) false (eval iter X.env) (some (assign (.Name x pos') X.env))) _ _ s
 refine wpAny_bind (wpAny_mono (qD (use:=some (assign (.Name x pos') X.env)) (QQ:=fun _ s'=>∃ σ' H',Inv X pins σ' H' s'∧D.nx σ' H') hsc hN chk hc hi hg hge ht he hs I _ (fun s4 D' C H4 hne hf4 hn J hch q=>?_) h) (fun _ s' hq=>wpAny_pure (wpAny_pure hq)) fun _ _ e=>e)
 obtain ⟨m,hm⟩:=hn
 have I4:Inv X pins σ H4 s4:=J s4.heap (Heap.SameBut.refl C s4.heap)
 refine wpAny_assign_Name (qu I4 hNd hi' hx (v:=.ref D') rfl (fun s5 I5 sb5=>?_) hf)
 obtain ⟨a,sb,ha⟩:=sb5
 have haC:C≠a:=by
  rcases ha with rfl | ha
  ·exact hch.2.1
  ·exact fun z=>hch.2.2.1 _ _ ha z.symm
 refine ⟨m,hm.sameBut sb haC,fun h' sb'=>⟨_,H4, ?_,q⟩⟩
 refine I5.xZ (s':={ s5 with heap:=h' }) (ch:=[C]) rfl ⟨fun b o e _ _ hb=>sb'.extBut b o (by simpa using hb) e,fun b o e _ _ hb=>⟨o.slots,sb'.extBut b o (by simpa using hb) e⟩,fun b o _ n _=>n,fun b o e hb=>⟨o,sb'.extBut b o (by simpa using hb) e⟩,fun _ _ e=>e,fun _ _ _ e=>e,fun _ ps e=>⟨#[],by simpa using e⟩⟩ (fun b u e=>?_) I5.bare (fun b hb=>?_)
 ·refine (I5.hok b u e).oE (fun c v hcc q=>sb'.extBut c v ?_ q) (fun _ q=>q) fun _ _ q=>q
  intro z
  subst z
  rcases hcc with rfl | hcc
  ·rw [hf4] at e; cases e
  ·rw [hf4] at hcc; cases hcc
 ·have hb':b=C:=by simpa using hb
  subst hb'
  exact hch
end
end L2
end
section
namespace DL
open PySem
noncomputable def isStar:Expr→Bool
 | .Starred _ _=>true
 | _=>false
noncomputable def er:List Expr→Bool
 | []=>true
 | e::es=>!isStar e && er es
theorem aO {e:Expr}{es:List Expr}{env:Env}(h:isStar e=false):starEach (e::es) env=(false,eval e env)::starEach es env:=by
 cases e <;> first | rfl | cases h
theorem d7 {pos:Pos}{env:Env}:∀ {es:List Expr},er es=true→(backTo pos (starEach es env)).any (·.1)=false
 | [],_=>rfl
 | e::es,h=>by
  unfold er at h
  rw [Bool.and_eq_true,Bool.not_eq_true'] at h
  rw [aO h.1]
  show (false || (backTo pos (starEach es env)).any (·.1))=false
  rw [d7 h.2]
  rfl
theorem eN {e:Expr}{env:Env}(h:isStar e=false):starEach [e] env=[(false,eval e env)]:=(aO h).trans rfl
theorem sU {e e2:Expr}{env:Env}(h:isStar e=false)(h2:isStar e2=false):starEach [e,e2] env=[(false,eval e env),(false,eval e2 env)]:=by rw [aO h,eN h2]
noncomputable def rE:Expr→Bool
 | .ListComp _ _ _ _=>false
 | .SetComp _ _ _ _=>false
 | .DictComp _ _ _ _ _=>false
 | _=>true
theorem gN {value:Expr}{t:Option Expr}{l:Nat}{env:Env}(h:rE value=true):swapsWith value t l env=pure false:=by
 cases value <;> first | rfl | cases h
end DL
namespace DL
open PySem PySem.Spec PyProof.Rows L2
noncomputable def vT:Expr→Bool
 | .Set _ _ _=>false
 | _=>true
theorem d9 {e:Expr}{env:Env}(h:vT e=true):∀ x,foldedSetIterable e env x=pure x:=fun x=>by
 cases e <;> first | rfl | cases h
noncomputable def plainT:Expr→Bool
 | .Call _ _ _ _=>true
 | .Name _ _=>true
 | .Subscript _ _ _=>true
 | .Attribute _ _ _=>true
 | .Constant _ _ _=>true
 | _=>false
theorem xc {e:Expr}{env:Env}(h:plainT e=true):∀ whole,isTrue e env whole=(do let v ← whole; standAt e.pos; holding [v] (truthy v)):=fun whole=>by
 cases e <;> first | rfl | cases h
noncomputable def yM:Expr→Bool
 | .Slice _ _ _ _=>false
 | .Tuple _ _ _=>false
 | _=>true
theorem uK {b:Expr}(h:yM b=true):vE b:=fun o i=>by
 cases b <;> first | rfl | cases h
end DL
end
section
namespace DL
open PySem L2
noncomputable def hJ (i j:Int):Option D:=some (.int (i - j))
noncomputable def iA (i j:Int):Option D:=if 0<j∧j<1073741824 then some (.int (i / j)) else none
noncomputable def je (i j:Int):Option D:=if 0<j then some (.int (i % j)) else none
noncomputable def yN (i j:Int):Option D:=if 0≤j∧j≤1000000∧i.natAbs<18446744073709551616 then some (.int (i ^ j.toNat)) else none
noncomputable def ltI (i j:Int):Option D:=some (.bl (decide (i<j)))
noncomputable def leI (i j:Int):Option D:=some (.bl (decide (i≤j)))
noncomputable def gtI (i j:Int):Option D:=some (.bl (decide (j<i)))
noncomputable def gT:D→D→Option D
 | .int i,.int j=>if (-18446744073709551616<i∧i<18446744073709551616)∨(-18446744073709551616<j∧j<18446744073709551616) then some (.int (i * j)) else none
 | .str z,.int k=>if z.length≤16∧-1000000000000000000≤k∧k≤1000000 then some (.str (List.replicate k.toNat z).flatten) else none
 | _,_=>none
noncomputable def yO:List D→D→Option (List D)
 | ds,.int k=>if ds.length≤16∧-1000000000000000000≤k∧k≤60000 then some (List.replicate k.toNat ds).flatten else none
 | _,_=>none
noncomputable def oS:D→Option D
 | .int i=>some (.int (-i))
 | _=>none
noncomputable def eqZ (f:D→D→Option Bool):List D→List D→Option Bool
 | a::as,b::bs=>(f a b).bind fun x=>(eqZ f as bs).map fun y=>x && y
 | _,_=>some true
noncomputable def eqN:Nat→D→D→Option Bool
 | 0,_,_=>none
 | n+1,x,y=>match x,y with
  | .non,.non=>some true
  | .bl a,.bl b=>some (a == b)
  | .int a,.int b=>some (a == b)
  | .str a,.str b=>some (a == b)
  | .tup as,.tup bs=>(eqZ (eqN n) as bs).map fun r=>r && as.length == bs.length
  | .lst as,.lst bs=>if as.length=bs.length then eqZ (eqN n) as bs else some false
  | .bl a,.int b=>some ((if a then 1 else 0) == b)
  | .int a,.bl b=>some (a == (if b then 1 else 0))
  | .ob _ _ _,_=>none
  | _,.ob _ _ _=>none
  | .dct _ _,_=>none
  | _,.dct _ _=>none
  | .exc _,_=>none
  | _,.exc _=>none
  | _,_=>some false
noncomputable def eqF (neg:Bool)(x y:D):Option D:=(eqN 100 x y).map fun b=>.bl (if neg then !b else b)
noncomputable def iX (neg:Bool)(x:D):Option D:=match x with
 | .non=>some (.bl (!neg))
 | _=>some (.bl neg)
noncomputable def maxD:List D→Option D
 | [.int i,.int j]=>some (.int (if j > i then j else i))
 | _=>none
inductive Ty where
 | int | str | bool | list | tuple | dict
 deriving DecidableEq
noncomputable def jF (t:Ty):D→Option D
 | .non=>some (.bl false)
 | .bl _=>some (.bl (t == .int || t == .bool))
 | .int _=>some (.bl (t == .int))
 | .str _=>some (.bl (t == .str))
 | .tup _=>some (.bl (t == .tuple))
 | .lst _=>some (.bl (t == .list))
 | _=>none
noncomputable def intsOf:List D→Option (List Int)
 | []=>some []
 | .int i::r=>(intsOf r).map (i::·)
 | _=>none
noncomputable def strsOf:List D→Option (List (List Nat))
 | []=>some []
 | .str i::r=>(strsOf r).map (i::·)
 | _=>none
noncomputable def sV:D→Option D
 | .lst ds=>(intsOf ds).bind fun is=>if is.length≤100000∧is.all (fun i=>decide (-1000000000000000000<i∧i<1000000000000000000)) then some (.int is.sum) else none
 | _=>none
noncomputable def iu:Int→List Int→Int
 | m,[]=>m
 | m,i::r=>iu (if i > m then i else m) r
noncomputable def gX:D→Option D
 | .lst ds=>(intsOf ds).bind fun is=>match is with
  | []=>none
  | i::r=>some (.int (iu i r))
 | _=>none
noncomputable def n0:D→D→Option D
 | .lst ds,v=>(intsOf ds).bind fun is=>match is with
  | []=>some v
  | i::r=>some (.int (iu i r))
 | _,_=>none
noncomputable def gi (sep:List Nat):List (List Nat)→List Nat
 | []=>[]
 | [x]=>x
 | x::r=>x++sep++gi sep r
end DL
end
section
namespace DL
open L2
structure Tag {α:Type}(a:α):Type where
 mk ::
noncomputable def aM {α β:Type}(a:Option α)(f:α→Option β)(_:Tag f:=Tag.mk):Option β:=a.bind f
@[simp] theorem bV {α β:Type}(a:α)(f:α→Option β):aM (some a) f=f a:=(Eq.refl _).trans (Eq.refl _)
noncomputable def omap {α β:Type}(f:α→β)(a:Option α)(_:Tag f:=Tag.mk):Option β:=a.map f
@[simp] theorem EX {α β:Type}(a:α)(f:α→β):omap f (some a)=some (f a):=(Eq.refl _).trans (Eq.refl _)
noncomputable def Cw:Option Slot→Option D
 | some (.val d)=>some d
 | _=>none
@[simp] theorem EY (d:D):Cw (some (.val d))=some d:=(Eq.refl _).trans (Eq.refl _)
noncomputable def Cy:Option Slot→Option D
 | some (.val d)=>some d
 | some (.own ds)=>some (.lst ds)
 | some (.red ds)=>some (.lst ds)
 | _=>none
@[simp] theorem EZ (d:List D):Cy (some (.own d))=some (.lst d):=(Eq.refl _).trans (Eq.refl _)
noncomputable def qE:Option Slot→Option (List D)
 | some (.own ds)=>some ds
 | _=>none
@[simp] theorem F0 (d:List D):qE (some (.own d))=some d:=(Eq.refl _).trans (Eq.refl _)
noncomputable def AZ (G:FS):DFl→Option DFl
 | .nx e=>G e
 | r=>some r
@[simp ↓] theorem HG (G:FS)(e:aN):AZ G (.nx e)=G e:=(Eq.refl _).trans (Eq.refl _)
@[simp ↓] theorem HI (G:FS)(d:D)(e:aN):AZ G (.rt d e)=some (.rt d e):=(Eq.refl _).trans (Eq.refl _)
@[simp ↓] theorem HJ (G:FS)(d:List D)(e:aN):AZ G (.rf d e)=some (.rf d e):=(Eq.refl _).trans (Eq.refl _)
noncomputable def DZ:DFl→Option D
 | .rt d _=>some d
 | .nx _=>some .non
 | _=>none
@[simp] theorem HK (d:D)(e:aN):DZ (.rt d e)=some d:=(Eq.refl _).trans (Eq.refl _)
noncomputable def Cz:DFl→Option (List D)
 | .rf d _=>some d
 | _=>none
@[simp] theorem Gq (d:List D)(e:aN):Cz (.rf d e)=some d:=(Eq.refl _).trans (Eq.refl _)
noncomputable def ifK {α:Type}(a b:Option α)(c:Bool)(_:Tag a:=Tag.mk)(_:Tag b:=Tag.mk):Option α:=if c=true then a else b
@[simp] theorem IK {α:Type}(a b:Option α):ifK a b true=a:=(Eq.refl _).trans (Eq.refl _)
@[simp] theorem IL {α:Type}(a b:Option α):ifK a b false=b:=(Eq.refl _).trans (Eq.refl _)
noncomputable def bU:FT:=fun _=>some true
section
variable {α β δ:Type}
@[simp] theorem Iz (d:D)(env:aN):feC d env=some d:=(Eq.refl _).trans (Eq.refl _)
@[simp] theorem IA (F:α→Option β)(f:FP α)(env:aN):fp1 F f env=aM (f env) (F):=(Eq.refl _).trans (Eq.refl _)
@[simp] theorem IB (F:α→β→Option δ)(f:FP α)(g:FP β)(env:aN):fp2 F f g env=aM (f env) (fun x=>aM (g env) (fun y=>F x y)):=(Eq.refl _).trans (Eq.refl _)
@[simp] theorem HL (f:FP (List D))(env:aN):df f env=omap (.lst) (f env):=(Eq.refl _).trans (Eq.refl _)
@[simp] theorem yP (env:aN):az env=some []:=(Eq.refl _).trans (Eq.refl _)
@[simp] theorem xf (f:FE)(g:FA)(env:aN):aj f g env=aM (f env) (fun x=>aM (g env) (fun r=>some (x::r))):=(Eq.refl _).trans (Eq.refl _)
@[simp] theorem Gr (f:FA)(env:aN):gh f env=aM (f env) (fun ds=>if ds.length≤1000 then some (.tup ds) else none):=(Eq.refl _).trans (Eq.refl _)
@[simp] theorem Gs (f:FA)(env:aN):gM f env=aM (f env) (fun ds=>if ds.length≤1000 then some ds else none):=(Eq.refl _).trans (Eq.refl _)
@[simp] theorem IC (f:FE)(env:aN):ftB f env=aM (f env) (blD):=(Eq.refl _).trans (Eq.refl _)
@[simp] theorem ID (b:Bool):blD (.bl b)=some b:=(Eq.refl _).trans (Eq.refl _)
@[simp] theorem Gu (c:FT)(env:aN):kM c env=aM (c env) (fun b=>some (!b)):=(Eq.refl _).trans (Eq.refl _)
@[simp] theorem Gv (c d:FT)(env:aN):nN c d env=aM (c env) (fun b=>ifK (d env) (some false) b):=(Eq.refl _).trans (Eq.refl _)
@[simp] theorem HM (c d:FT)(env:aN):nX c d env=aM (c env) (fun b=>ifK (some true) (d env) b):=(Eq.refl _).trans (Eq.refl _)
@[simp] theorem Gw (f:FE)(env:aN):vL f env=aM (f env) (fun x=>omap (fun b=>D.bl (!b)) (blD x)):=(Eq.refl _).trans (Eq.refl _)
@[simp] theorem Gx (f g:FE)(env:aN):qB f g env=aM (f env) (fun x=>aM (blD x) (fun b=>ifK (g env) (some (.bl false)) b)):=(Eq.refl _).trans (Eq.refl _)
@[simp] theorem HN (c:FT)(f g:FP α)(env:aN):nY c f g env=aM (c env) (fun b=>ifK (f env) (g env) b):=(Eq.refl _).trans (Eq.refl _)
@[simp] theorem Fb (n:Nat)(F:List D→Option α)(f:FA)(env:aN):bg n F f env=aM (f env) (fun ds=>if ds.length=n then F ds else none):=(Eq.refl _).trans (Eq.refl _)
@[simp] theorem Fc (env:aN):kX env=some none:=(Eq.refl _).trans (Eq.refl _)
@[simp] theorem Fd (f:FE)(env:aN):j8 f env=aM (f env) (DU):=(Eq.refl _).trans (Eq.refl _)
@[simp] theorem HP (i:Int):DU (.int i)=some (some i):=(Eq.refl _).trans (Eq.refl _)
@[simp] theorem HQ (F:D→Option Int→Option Int→Option α)(f:FE)(l h:FO)(env:aN):rC F f l h env=aM (f env) (fun x=>aM (l env) (fun lo=>aM (h env) (fun hi=>F x lo hi))):=(Eq.refl _).trans (Eq.refl _)
@[simp] theorem HR (g:Int→Int→Option D)(i j:Int):intD g (.int i) (.int j)=g i j:=(Eq.refl _).trans (Eq.refl _)
@[simp] theorem IE (i j:Int):ltI i j=some (.bl (decide (i<j))):=(Eq.refl _).trans (Eq.refl _)
@[simp] theorem IF (i j:Int):leI i j=some (.bl (decide (i≤j))):=(Eq.refl _).trans (Eq.refl _)
@[simp] theorem IG (i j:Int):gtI i j=some (.bl (decide (j<i))):=(Eq.refl _).trans (Eq.refl _)
@[simp] theorem HS (i j:Int):hJ i j=some (.int (i - j)):=(Eq.refl _).trans (Eq.refl _)
@[simp] theorem nP (i j:Int):bC (.int i) (.int j)=some (.int (i+j)):=(Eq.refl _).trans (Eq.refl _)
@[simp] theorem sW (a b:List Nat):bC (.str a) (.str b)=if a.length+b.length≤1000000 then some (.str (a++b)) else none:=(Eq.refl _).trans (Eq.refl _)
@[simp] theorem HU (a b:List D):xa (.lst a) (.lst b)=if a.length+b.length≤1000000 then some (a++b) else none:=(Eq.refl _).trans (Eq.refl _)
@[simp] theorem HV (i:Int):oS (.int i)=some (.int (-i)):=(Eq.refl _).trans (Eq.refl _)
@[simp] theorem CA (ds:List D):i7 (.lst ds)=some (.int ds.length):=(Eq.refl _).trans (Eq.refl _)
@[simp] theorem CB (z:List Nat):i7 (.str z)=if z.length≤1000000 then some (.int z.length) else none:=(Eq.refl _).trans (Eq.refl _)
@[simp] theorem CD (ds:List D):kW (.lst ds)=some ds:=(Eq.refl _).trans (Eq.refl _)
@[simp] theorem CF (ds:List D):kW (.tup ds)=some ds:=(Eq.refl _).trans (Eq.refl _)
@[simp] theorem E3 (ds:List D)(i:Int):ixD (.lst ds) (.int i)=atI ds i:=(Eq.refl _).trans (Eq.refl _)
@[simp] theorem E4 (ds:List D)(i:Int):ixD (.tup ds) (.int i)=atI ds i:=(Eq.refl _).trans (Eq.refl _)
@[simp] theorem E5 (z:List Nat)(i:Int):ixD (.str z) (.int i)=if z.length≤1000000 then omap (fun c=>.str [c]) (atI z i) else none:=(Eq.refl _).trans (Eq.refl _)
@[simp] theorem E6 (ds:List D)(lo hi:Option Int):slD (.lst ds) lo hi=some (.lst (cutD ds lo hi)):=(Eq.refl _).trans (Eq.refl _)
@[simp] theorem IH (neg:Bool)(x y:D):eqF neg x y=omap (fun b=>.bl (if neg then !b else b)) (eqN 100 x y):=(Eq.refl _).trans (Eq.refl _)
@[simp] theorem E7 (n:Nat)(i j:Int):eqN (n+1) (.int i) (.int j)=some (i == j):=(Eq.refl _).trans (Eq.refl _)
@[simp] theorem uL (n:Nat)(i j:List Nat):eqN (n+1) (.str i) (.str j)=some (i == j):=(Eq.refl _).trans (Eq.refl _)
@[simp] theorem B1 (neg:Bool):iX neg .non=some (.bl (!neg)):=(Eq.refl _).trans (Eq.refl _)
@[simp] theorem B2 (neg:Bool)(i:Int):iX neg (.int i)=some (.bl neg):=(Eq.refl _).trans (Eq.refl _)
@[simp] theorem HW (i j:Int):maxD [.int i,.int j]=some (.int (if j > i then j else i)):=(Eq.refl _).trans (Eq.refl _)
@[simp] theorem B3 (t:Ty)(i:Int):jF t (.int i)=some (.bl (t == .int)):=(Eq.refl _).trans (Eq.refl _)
@[simp] theorem B4 (t:Ty)(i:List Nat):jF t (.str i)=some (.bl (t == .str)):=(Eq.refl _).trans (Eq.refl _)
@[simp] theorem B5 (t:Ty)(i:List D):jF t (.lst i)=some (.bl (t == .list)):=(Eq.refl _).trans (Eq.refl _)
@[simp] theorem Fe (i:Nat)(env:aN):ab i env=Cw env[i]?:=(Eq.refl _).trans (Eq.refl _)
@[simp] theorem Ff (i:Nat)(env:aN):kU i env=Cy env[i]?:=(Eq.refl _).trans (Eq.refl _)
@[simp] theorem yQ (F G:FS)(env:aN):aB F G env=aM (F env) (AZ G):=(Eq.refl _).trans (Eq.refl _)
@[simp] theorem Fg (env:aN):bw env=some (.nx env):=(Eq.refl _).trans (Eq.refl _)
@[simp] theorem HX (c:FT)(F G:FS)(env:aN):eJ c F G env=aM (c env) (fun b=>ifK (F env) (G env) b):=(Eq.refl _).trans (Eq.refl _)
@[simp] theorem yR (f:FE)(env:aN):aT f env=omap (fun d=>.rt d env) (f env):=(Eq.refl _).trans (Eq.refl _)
@[simp] theorem Fh (f:FP (List D))(env:aN):jD f env=omap (fun d=>.rf d env) (f env):=(Eq.refl _).trans (Eq.refl _)
@[simp] theorem Fi (i:Nat)(env:aN):kY i env=omap (fun ds=>.rf ds env) (qE env[i]?):=by
 unfold kY
 cases env[i]? with
 | none=>rfl
 | some s=>cases s <;> rfl
@[simp] theorem yS (i:Nat)(f:FE)(env:aN):bG i f env=omap (fun d=>.nx (env.set i (.val d))) (f env):=(Eq.refl _).trans (Eq.refl _)
@[simp] theorem Gy (i:Nat)(f:FP (List D))(env:aN):nO i f env=omap (fun d=>.nx (env.set i (.own d))) (f env):=(Eq.refl _).trans (Eq.refl _)
@[simp] theorem Gz (i:Nat)(F:D→D→Option D)(f:FE)(env:aN):sQ i F f env=aM (ab i env) (fun x=>aM (f env) (fun y=>omap (fun d=>.nx (env.set i (.val d))) (F x y))):=(Eq.refl _).trans (Eq.refl _)
@[simp] theorem GA (tg:FG)(fi:FE)(body:FS)(env:aN):lS tg fi body env=aM (fi env) (fun x=>aM (kW x) (fun ds=>runFor tg body ds env)):=(Eq.refl _).trans (Eq.refl _)
@[simp] theorem Fj (R:List D→Option (List D))(tg:FG)(f:FA)(body:FS)(env:aN):oR R tg f body env=aM (f env) (fun ds=>aM (R ds) (fun xs=>runFor tg body xs env)):=(Eq.refl _).trans (Eq.refl _)
@[simp] theorem Fl (nt:Nat)(cap:List Nat)(tg:FG)(fi:FE)(ft:FT)(fe:FE)(env:aN):dM nt cap tg fi ft fe env=aM (fi env) (fun x=>aM (kW x) (fun ds=>if ds.length≤1000000 then bf tg ft fe (eD nt cap env) ds else none)):=(Eq.refl _).trans (Eq.refl _)
@[simp] theorem E8 (R:List D→Option (List D))(nt:Nat)(cap:List Nat)(tg:FG)(f:FA)(ft:FT)(fe:FE)(env:aN):dH R nt cap tg f ft fe env=aM (f env) (fun x=>aM (R x) (fun ds=>if ds.length≤1000000 then bf tg ft fe (eD nt cap env) ds else none)):=(Eq.refl _).trans (Eq.refl _)
@[simp] theorem Fm (i:Nat)(d:D)(env:aN):aQ i d env=some (env.set i (.val d)):=(Eq.refl _).trans (Eq.refl _)
@[simp] theorem Ab (tg:FG)(body:FS)(env:aN):runFor tg body [] env=some (.nx env):=(Eq.refl _).trans (Eq.refl _)
theorem aD (N:Nat)(F:FS)(ds:List D):bz N F ds=aM (F (envOf N ds)) DZ:=(Eq.refl _).trans (Eq.refl _)
theorem i4 (N:Nat)(F:FS)(ds:List D):iQ N F ds=aM (F (envOf N ds)) Cz:=(Eq.refl _).trans (Eq.refl _)
end
theorem jG {tg:FG}{fe:FE}{env:aN}(g:D→D):∀ (ds:List D),(∀ d∈ds, ∃ e,tg d env=some e∧fe e=some (g d))→bf tg bU fe env ds=some (ds.map g)
 | [],_=>rfl
 | d::ds,h=>by
  obtain ⟨e,h1,h2⟩:=h d List.mem_cons_self
  unfold bf
  rw [h1]; dsimp only [Option.bind_some,bU]
  rw [if_pos rfl,h2,jG g ds fun d' hd=>h d' (List.mem_cons_of_mem _ hd)]
  rfl
theorem kS {α:Type}(xs:List α)(k:Nat):atI xs (k:Int)=xs[k]?:=by
 unfold atI ixN
 rw [if_pos (by omega)]
 by_cases h:k<xs.length
 ·rw [if_pos (by omega)]; simp
 ·rw [if_neg (by omega),List.getElem?_eq_none (by omega)]; rfl
@[simp] theorem IM {α:Type}(xs:List α):atI xs 0=xs[0]?:=kS xs 0
@[simp] theorem IP {α:Type}(xs:List α):atI xs 1=xs[1]?:=kS xs 1
@[simp] theorem IQ {α:Type}(xs:List α):atI xs 2=xs[2]?:=kS xs 2
theorem oi (n d k:Nat):HT.sIx n d (some (k:Int))=min k n:=by
 show (if (k:Int)<0 then ((k:Int)+(n:Int)).toNat else min (k:Int).toNat n)=min k n
 rw [if_neg (by omega)]; rfl
theorem B6 {α:Type}(xs:List α)(i j:Nat):cutD xs (some (i:Int)) (some (j:Int))=(xs.drop i).take (j - i):=by
 unfold cutD
 rw [oi,oi]
 by_cases h:i≤xs.length
 ·rw [Nat.min_eq_left h]
  by_cases h2:j≤xs.length
  ·rw [Nat.min_eq_left h2]
  ·rw [Nat.min_eq_right (by omega)]
   rw [List.take_of_length_le (by simp),List.take_of_length_le (by simp; omega)]
 ·rw [Nat.min_eq_right (show xs.length≤i by omega),List.drop_of_length_le (Nat.le_refl _),List.drop_of_length_le (show xs.length≤i by omega)]
  simp
theorem yT {α:Type}(xs:List α)(j:Nat):cutD xs none (some (j:Int))=xs.take j:=by
 unfold cutD
 rw [oi,show HT.sIx xs.length 0 none=0 from rfl,List.drop_zero,Nat.sub_zero]
 by_cases h:j≤xs.length
 ·rw [Nat.min_eq_left h]
 ·rw [Nat.min_eq_right (by omega),List.take_of_length_le (Nat.le_refl _),List.take_of_length_le (by omega)]
theorem sX {α:Type}(xs:List α)(i:Nat):cutD xs (some (i:Int)) none=xs.drop i:=by
 unfold cutD
 rw [oi,show HT.sIx xs.length xs.length none=xs.length from rfl]
 by_cases h:i≤xs.length
 ·rw [Nat.min_eq_left h,List.take_of_length_le (by simp)]
 ·rw [Nat.min_eq_right (by omega),List.drop_of_length_le (Nat.le_refl _),List.drop_of_length_le (by omega)]; simp
end DL
namespace DL
theorem fF (a:Int)(m:Nat)(hm:0<m):∃ k:Nat,a % (m:Int)=k∧k<m:=by
 have h1:0≤a % (m:Int):=Int.emod_nonneg _ (by omega)
 have h2:a % (m:Int)<m:=Int.emod_lt_of_pos _ (by omega)
 exact ⟨(a % (m:Int)).toNat,by omega,by omega⟩
end DL
namespace DL
open L2
theorem oj {i:Int}{n:Nat}(h:i=n)(hn:n<1000000000):j9 [.int i]=some (cb 0 n):=by
 subst h
 have c:-1000000000<(n:Int)∧(n:Int)<1000000000:=by omega
 have e:j9 [.int (n:Int)]=if -1000000000<(n:Int)∧(n:Int)<1000000000 then some (cb 0 (n:Int).toNat) else none:=rfl
 rw [e,if_pos c,Int.toNat_natCast]
theorem ey (i j:Int)(h:-18446744073709551616<j∧j<18446744073709551616):gT (.int i) (.int j)=some (.int (i * j)):=if_pos (Or.inr h)
theorem sY (z:List Nat)(k:Int)(h:z.length≤16∧-1000000000000000000≤k∧k≤1000000):gT (.str z) (.int k)=some (.str (List.replicate k.toNat z).flatten):=if_pos h
theorem cY (i j:Int)(h:0<j):je i j=some (.int (i % j)):=if_pos h
theorem f7 (i j:Int)(h:0<j∧j<1073741824):iA i j=some (.int (i / j)):=if_pos h
theorem B7 (i j:Int)(h:0≤j∧j≤1000000∧i.natAbs<18446744073709551616):yN i j=some (.int (i ^ j.toNat)):=if_pos h
end DL
namespace DL
open L2
@[simp] theorem E9 (z:List Nat):rB (.str z)=true:=rfl
@[simp] theorem Ea (z:Int):rB (.int z)=true:=rfl
@[simp] theorem Fp (z:Bool):rB (.bl z)=true:=rfl
@[simp] theorem Eb:rB .non=true:=rfl
@[simp] theorem GB (x:D):DS x []=false:=rfl
@[simp] theorem Fq (x y:D)(ds:List D):DS x (y::ds)=(AL y x || DS x ds):=rfl
@[simp] theorem GC (a b:List Nat):AL (.str a) (.str b)=(a == b):=rfl
@[simp] theorem GD (a b:Int):AL (.int a) (.int b)=(a == b):=rfl
end DL
namespace DL
end DL
end
section
namespace DL
open PySem PySem.Spec PyProof.Rows L2
structure Ct where
 cl:Nat→Option Addr
 fld:Nat→Str
noncomputable abbrev tx (X:Cx)(c:Ct):Tx:=⟨X.K,c.cl,c.fld⟩
section
variable {X:Cx}
theorem PE.imp {e:Expr}{t t':TE}(h:PE X e t)(w:∀ σ H Q,t' σ H Q→t σ H Q):PE X e t':=fun pins s σ H Q I q=>h pins s σ H Q I (w σ H Q q)
theorem PT.imp {e:Expr}{t t':TT}(h:PT X e t)(w:∀ σ H Q,t' σ H Q→t σ H Q):PT X e t':=fun pins s σ H Q I q=>h pins s σ H Q I (w σ H Q q)
theorem PW.imp {e:Expr}{t t':TT}(h:PW X e t)(w:∀ σ H Q,t' σ H Q→t σ H Q):PW X e t':=fun wh pins s σ H Q I q=>h wh pins s σ H Q I (w σ H Q q)
theorem PA.imp {es:List Expr}{t t':TA}(h:PA X es t)(w:∀ σ H Q,t' σ H Q→t σ H Q):PA X es t':=fun po pins s σ H Q I q=>h po pins s σ H Q I (w σ H Q q)
theorem PS.imp {st:Stmt}{t t':TS}(h:PS X st t)(w:∀ De σ H,t' De σ H→t De σ H):PS X st t':=fun pins s σ H De I q=>h pins s σ H De I (w De σ H q)
theorem PSs.imp {st:List Stmt}{t t':TS}(h:PSs X st t)(w:∀ De σ H,t' De σ H→t De σ H):PSs X st t':=fun pins s σ H De I q=>h pins s σ H De I (w De σ H q)
theorem PO.imp {o:Option Expr}{t t':TO}(h:PO X o t)(w:∀ σ H Q,t' σ H Q→t σ H Q):PO X o t':=fun pins s σ H Q I q=>h pins s σ H Q I (w σ H Q q)
theorem iW.imp {es:List Expr}{t t':TT}(h:iW X es t)(w:∀ σ H Q,t' σ H Q→t σ H Q):iW X es t':=fun pins s σ H Q I q=>h pins s σ H Q I (w σ H Q q)
end
noncomputable abbrev PD (X:Cx)(c:Ct)(e:Expr)(f:FE):Prop:=PE X e (tP (tx X c) (kD (tx X c)) f)
noncomputable abbrev PR (X:Cx)(c:Ct)(e:Expr)(f:FE):Prop:=PE X e (tP (tx X c) (kR (tx X c)) f)
noncomputable abbrev PF (X:Cx)(c:Ct)(e:Expr)(f:FP (List D)):Prop:=PE X e (tP (tx X c) (kF (tx X c)) f)
noncomputable abbrev PDT (X:Cx)(c:Ct)(e:Expr)(f:FT):Prop:=PT X e (tP (tx X c) kB f)
noncomputable abbrev PDW (X:Cx)(c:Ct)(e:Expr)(f:FT):Prop:=PW X e (tP (tx X c) kB f)
noncomputable abbrev PDA (X:Cx)(c:Ct)(es:List Expr)(f:FA):Prop:=PA X es (tP (tx X c) (kA (tx X c)) f)
noncomputable abbrev PDO (X:Cx)(c:Ct)(o:Option Expr)(f:FO):Prop:=PO X o (tP (tx X c) kO f)
noncomputable abbrev PDS (X:Cx)(c:Ct)(x:XQ)(st:Stmt)(F:FS):Prop:=PS X st (tDs (tx X c) x F)
noncomputable abbrev oT (X:Cx)(c:Ct)(x:XQ)(st:List Stmt)(F:FS):Prop:=PSs X st (tDs (tx X c) x F)
structure Nm (X:Cx)(i:Nat)(x:Str):Prop where
 hN:X.N[i]?=some x
 hv:Vis X.env.scope x
 hd:(x == ("__debug__":Str))=false
 hc:(x == ("__classdict__":Str))=false
structure Nl (X:Cx)(i:Nat)(x:Str):Prop where
 nd:X.N.Nodup
 hN:X.N[i]?=some x
 hl:Loc X.env.scope x
 hf:X.fn x=true∨X.env.scope.names.lookup x=some .local
section
variable {X:Cx}{c:Ct}{xq:XQ}{a b e:Expr}{f g:FE}{pos:Pos}
theorem aa {i:Nat}{x:Str}(n:Nm X i x):PD X c (.Name x pos) (ab i):=PE.imp (iP n.hN n.hv n.hd n.hc) fun _ _ _ h=>AE h
theorem rF {i:Nat}{x:Str}(n:Nm X i x):PR X c (.Name x pos) (kU i):=PE.imp (iP n.hN n.hv n.hd n.hc) fun _ _ _ h=>AF h
theorem ai (h:PD X c e f):PR X c e f:=PE.imp h fun _ _ _ h=>AD (fun _ _ _ _ _ r=>aF.of r) h
theorem cm {ff:FP (List D)}(h:PF X c e ff):PD X c e (df ff):=PE.imp h fun _ _ _ h=>Cu h
theorem aq {i:Int}{j}:PD X c (.Constant (.int i) j pos) (feC (.int i)):=PE.imp D9 fun _ _ _ h=>yx (fun _ _=>.int _) h
theorem ba {x:Str}{z:List Nat}{j}(hx:x=mkS z):PD X c (.Constant (.str x) j pos) (feC (.str z)):=by
 subst hx
 exact PE.imp Dd fun _ _ _ h=>yx (fun _ _=>.str _) h
theorem nQ {i:Bool}{j}:PD X c (.Constant (.bool i) j pos) (feC (.bl i)):=PE.imp FI fun _ _ _ h=>yx (fun _ _=>.bl _) h
theorem uM {j}:PD X c (.Constant .none j pos) (feC .non):=PE.imp Dc fun _ _ _ h=>yx (fun _ _=>.non) h
structure Gc (X:Cx)(c:Ct)(x:Str)(d:D):Prop where
 ex:∃ v u,X.mg x=some u∧RelV v u∧∀ A H,Rep (tx X c) A H d v
theorem fW {x:Str}{d:D}(G:Gc X c x d)(hg:Gl X x)(hd:(x == ("__debug__":Str))=false:=by decide):PD X c (.Name x pos) (feC d):=by
 obtain ⟨v,u,hm,hr,hv⟩:=G.ex
 exact PE.imp (Ad hg hm hr hd) fun _ _ _ h=>yx hv h
theorem B8:OpR X (binaryOp .Add) (Cv X.K):=by
 intro pins s σ H x y v u Q I rx ry h
 obtain ⟨l,b,xs,zs,rfl,rfl,hH,hB,hz,q⟩:=h
 cases rx
 cases ry
 obtain ⟨its,r,p,z⟩:=I.list hH
 obtain ⟨its2,r2,p2,z2⟩:=I.list hB
 have hl:=r.length
 have hl2:=r2.length
 obtain ⟨⟨cls,dd,data,sl⟩,n,ho,hc,hdd,hd⟩:=p
 obtain ⟨⟨cls2,dd2,data2,sl2⟩,n2,ho2,hc2,hdd2,hd2⟩:=p2
 simp only at hc hd hc2 hd2
 subst hc hd hc2 hd2
 refine concat_meets ⟨_,ho,rfl⟩ ⟨_,ho2,rfl⟩ noFill_list_add seq_list_add PySem.F.slot_list_add PySem.F.entry_list_add (PySem.F.args_list_add_2 _ _) (list_addW l b its.toArray its2.toArray n n2 dd dd2 sl sl2 (by rw [List.size_toArray,List.size_toArray]; omega)) ⟨ho,ho2, ?_⟩
 have ea:its.toArray++its2.toArray=(its++its2).toArray:=by simp
 rw [ea]
 exact ⟨.ref _,_,I.Gd (t':=s.toks) (r.append r2) (by rw [List.length_append]; omega),rfl,q _ I.fresh⟩
theorem vU:OpR X (binaryOp .Add) (yy X.K):=Dq.or (uy.or (B8.or Ay))
theorem aJ (ha:PR X c a f)(hb:PR X c b g):PD X c (.BinOp a .Add b pos) (fp2 bC f g):=PE.imp (nI vU ha hb) fun _ _ _ h=>oN (ρ:=kR (tx X c)) (ρ2:=kR (tx X c)) AK h
theorem yU (ha:PR X c a f)(hb:PR X c b g):PF X c (.BinOp a .Add b pos) (fp2 xa f g):=PE.imp (nI vU ha hb) fun _ _ _ h=>oN (ρ:=kR (tx X c)) (ρ2:=kR (tx X c)) yz h
theorem d6 (ha:PD X c a f)(hb:PD X c b g):PD X c (.BinOp a .Sub b pos) (fp2 (intD hJ) f g):=PE.imp (nI Dr ha hb) fun _ _ _ h=>oN (ρ:=kD (tx X c)) (ρ2:=kD (tx X c)) (lR (g:=fun i j=>.int (i - j)) fun _ _=>rfl) h
theorem gx (ha:PD X c a f)(hb:PD X c b g):PD X c (.BinOp a .FloorDiv b pos) (fp2 (intD iA) f g) :=
 PE.imp (nI Am ha hb) fun _ _ _ h=>oN (ρ:=kD (tx X c)) (ρ2:=kD (tx X c)) (oh (g:=iA) fun i j d e=>by
  unfold iA at e
  by_cases c:0<j∧j<1073741824
  ·rw [if_pos c] at e; cases e; exact ⟨c,rfl⟩
  ·rw [if_neg c] at e; cases e) h
theorem fM (ha:PD X c a f)(hb:PD X c b g):PD X c (.BinOp a .Mod b pos) (fp2 (intD je) f g) :=
 PE.imp (nI Dt ha hb) fun _ _ _ h=>oN (ρ:=kD (tx X c)) (ρ2:=kD (tx X c)) (oh (g:=je) fun i j d e=>by
  unfold je at e
  by_cases c:0<j
  ·rw [if_pos c] at e; cases e; exact ⟨c,rfl⟩
  ·rw [if_neg c] at e; cases e) h
theorem Ed (ha:PD X c a f)(hb:PD X c b g):PD X c (.BinOp a .Pow b pos) (fp2 (intD yN) f g) :=
 PE.imp (nI Du ha hb) fun _ _ _ h=>oN (ρ:=kD (tx X c)) (ρ2:=kD (tx X c)) (oh (g:=yN) fun i j d e=>by
  unfold yN at e
  by_cases c:0≤j∧j≤1000000∧i.natAbs<18446744073709551616
  ·rw [if_pos c] at e; cases e; exact ⟨c,rfl⟩
  ·rw [if_neg c] at e; cases e) h
noncomputable def CG:R2:=fun x y H Q=>∃ (z:List Nat) (k:Int),x=.str (mkS z)∧y=.int k∧z.length≤16∧-1000000000000000000≤k∧k≤1000000∧Q (.str (mkS (List.replicate k.toNat z).flatten)) H
theorem qF (z:List Nat):∀ (k:Nat) (acc:List Nat),List.foldl (fun x1 x2=>x1++x2) acc.toArray (List.replicate k z.toArray)=(acc++(List.replicate k z).flatten).toArray
 | 0,acc=>by simp
 | k+1,acc=>by
  have e:acc.toArray++z.toArray=(acc++z).toArray:=by simp
  have e2:(acc++z)++(List.replicate k z).flatten=acc++(List.replicate (k+1) z).flatten:=by rw [List.replicate_succ,List.flatten_cons,List.append_assoc]
  rw [← e2, ← qF z k (acc++z), ← e,List.replicate_succ,List.foldl_cons]
theorem mul_list (z:List Nat)(k:Int):Txt.mul (mkS z) k=mkS (List.replicate k.toNat z).flatten:=by
 unfold Txt.mul
 by_cases h:k<1
 ·rw [if_pos h,show k.toNat=0 by omega]; rfl
 ·rw [if_neg h]
  by_cases h2:(k == 1 || (mkS z).length == 0)=true
  ·rw [if_pos h2]
   rw [Bool.or_eq_true] at h2
   rcases h2 with h2 | h2
   ·have:k=1:=by simpa using h2
    subst this
    simp
   ·have hz:z=[]:=by simpa [f6] using h2
    subst hz
    simp
  ·rw [if_neg h2]
   have:=qF z k.toNat []
   rw [List.nil_append] at this
   exact congrArg Str.mk this
theorem B9:OpR X (binaryOp .Mult) CG:=by
 intro pins s σ H x y v u Q I rx ry h
 obtain ⟨z,k,rfl,rfl,h1,h2,h3,q⟩:=h
 obtain ⟨t,rfl⟩:=rx
 obtain ⟨t',rfl⟩:=ry
 rw [← mul_list] at q
 exact SB.mul (mulOk_of 16 1048576 (by rw [f6]; exact h1) (by omega) (by omega) (by decide) (by decide)) fun t' k=>⟨.str _,H,I.tok _,⟨_,rfl⟩,q⟩
theorem Ba {T:Tx}(A:Addr→Prop)(H0 H:Hp)(x y:D)(v u:V)(d:D)(Q:VK)(nw:Nw A H)(rx:kR T A H0 H x v)(ry:kD T A H0 H y u)(e:gT x y=some d)
  (k:∀ w H',aK H H'→kD T A H H' d w→Q w H'):rI yg (fun i j=>.int (i * j)) v u H Q∨CG v u H Q:=by
 unfold gT at e
 split at e
 ·rename_i i j
  cases aF.dU rx; cases Rep.dU ry
  by_cases c:(-18446744073709551616<i∧i<18446744073709551616)∨(-18446744073709551616<j∧j<18446744073709551616)
  ·rw [if_pos c] at e; cases e
   exact .inl ⟨i,j,rfl,rfl,by unfold yg; omega,k _ H (aK.refl _) (Rep.int _)⟩
  ·rw [if_neg c] at e; cases e
 ·rename_i z n
  cases aF.h8 rx; cases Rep.dU ry
  by_cases c:z.length≤16∧-1000000000000000000≤n∧n≤1000000
  ·rw [if_pos c] at e; cases e
   exact .inr ⟨z,n,rfl,rfl,c.1,c.2.1,c.2.2,k _ H (aK.refl _) (Rep.str _)⟩
  ·rw [if_neg c] at e; cases e
 ·cases e
theorem eO (ha:PR X c a f)(hb:PD X c b g):PD X c (.BinOp a .Mult b pos) (fp2 gT f g):=PE.imp (nI (Ds.or B9) ha hb) fun _ _ _ h=>oN (ρ:=kR (tx X c)) (ρ2:=kD (tx X c)) Ba h
theorem aC.rep {T:Tx}{A:Addr→Prop}{H:Hp}{ds:List D}{vs:List V}(r:aC T A H ds vs):∀ k:Nat,aC T A H (List.replicate k ds).flatten (List.replicate k vs).flatten
 | 0=>by simpa using aC.nil
 | k+1=>by
  rw [List.replicate_succ,List.replicate_succ,List.flatten_cons,List.flatten_cons]
  exact r.append (aC.rep r k)
theorem Ee {ff:FP (List D)}(ha:PF X c a ff)(hb:PD X c b g):PF X c (.BinOp a .Mult b pos) (fp2 yO ff g):=PE.imp (nI DH ha hb) fun _ _ _ h=>oN (ρ:=kF (tx X c)) (ρ2:=kD (tx X c)) (fun A H0 H x y v u d Q nw rx ry e k=>by
 unfold yO at e
 split at e
 ·rename_i n
  cases Rep.dU ry
  by_cases c:x.length≤16∧-1000000000000000000≤n∧n≤60000
  ·rw [if_pos c] at e; cases e
   obtain ⟨l,xs,rfl,_,hl,rl⟩:=rx
   refine ⟨l,n,xs,rfl,rfl,hl,by omega,by omega,small ?_,fun p hp=>k _ _ (ck hp _) (mV (aC.rep (rl.mono (aK.refl _) fun _ z=>z.1) _) hp)⟩
   have h1:xs.length≤16:=by rw [← rl.length]; exact c.1
   have h2:n.toNat≤60000:=by omega
   exact Nat.le_trans (Nat.mul_le_mul h1 h2) (by decide)
  ·rw [if_neg c] at e; cases e
 ·cases e) h
theorem jH (ha:PD X c a f):PD X c (.UnaryOp .USub a pos) (fp1 oS f):=PE.imp (FU Dv ha) fun _ _ _ h=>rz (ρ:=kD (tx X c)) (fun A H0 H x v d Q nw rx e k=>by
 unfold oS at e
 split at e
 ·cases e; cases Rep.dU rx; exact ⟨_,rfl,k _ H (aK.refl _) (Rep.int _)⟩
 ·cases e) h
theorem Ef {ρ ρ2:RK D V}[Kd ρ][Kd ρ2]{op:CmpOp}{r:R2}{F:D→D→Option D}(ho:OpR X (compareOp op) r)
  (snd:∀ (A:Addr→Prop) (H0 H:Hp) (x y:D) (v u:V) (d:D) (Q:VK),Nw A H→ρ A H0 H x v→ρ2 A H0 H y u→F x y=some d→(∀ w H',aK H H'→kD (tx X c) A H H' d w→Q w H')→r v u H Q)
  (ha:PE X a (tP (tx X c) ρ f)) (hb:PE X b (tP (tx X c) ρ2 g)) (hm:behindInMarks op b=false):PD X c (.Compare a [op] [b] pos) (fp2 F f g):=PE.imp (An ho ha hb hm) fun _ _ _ h=>oN (ρ:=ρ) (ρ2:=ρ2) snd h
theorem lW {ρ ρ2:RK D V}[Kd ρ][Kd ρ2]{op:CmpOp}{r:R2}{F:D→D→Option D}(ho:OpR X (compareOp op) r)
  (snd:∀ (A:Addr→Prop) (H0 H:Hp) (x y:D) (v u:V) (d:D) (Q:VK),Nw A H→ρ A H0 H x v→ρ2 A H0 H y u→F x y=some d→(∀ w H',aK H H'→kD (tx X c) A H H' d w→Q w H')→r v u H Q)
  (ha:PE X a (tP (tx X c) ρ f)) (hb:PE X b (tP (tx X c) ρ2 g)) (hm:behindInMarks op b=false):PDT X c (.Compare a [op] [b] pos) (ftB (fp2 F f g)):=PT.imp (Ao ho ha hb hm) fun _ _ _ h=>oN (ρ:=ρ) (ρ2:=ρ2) (ρ3:=kD (tx X c)) snd (rA h)
theorem jI (ha:PD X c a f)(hb:PD X c b g):PDT X c (.Compare a [.Lt] [b] pos) (ftB (fp2 (intD ltI) f g)):=lW FW (lR (g:=fun i j=>.bl (decide (i<j))) fun _ _=>rfl) ha hb (mR _)
theorem uN (ha:PD X c a f)(hb:PD X c b g):PDT X c (.Compare a [.LtE] [b] pos) (ftB (fp2 (intD leI) f g)):=lW FX (lR (g:=fun i j=>.bl (decide (i≤j))) fun _ _=>rfl) ha hb (mR _)
theorem uO (ha:PD X c a f)(hb:PD X c b g):PDT X c (.Compare a [.Gt] [b] pos) (ftB (fp2 (intD gtI) f g)):=lW FY (lR (g:=fun i j=>.bl (decide (j<i))) fun _ _=>rfl) ha hb (mR _)
end
end DL
end
section
namespace DL
open PySem PySem.Spec PyProof.Rows L2
section
variable {X:Cx}{c:Ct}{xq:XQ}{a b e:Expr}{f g:FE}{pos:Pos}
theorem d5 (ha:PR X c a f)(hb:PD X c b g)(hs:yM b=true:=by rfl):PD X c (.Subscript a b pos) (fp2 ixD f g):=PE.imp (G5 DE ha hb (uK hs)) fun _ _ _ h=>oN (ρ:=kR (tx X c)) (ρ2:=kD (tx X c)) DR h
theorem lX:PDO X c none kX:=PO.imp Aw fun _ _ _ h=>yB h
theorem iY (h:PD X c e f):PDO X c (some e) (j8 f):=PO.imp (Ax h) fun _ _ _ h=>yC h
theorem ao:PDA X c [] az:=PA.imp oJ fun _ _ _ h=>DJ h
theorem ae {es:List Expr}{fs:FA}(ha:PD X c e f)(hr:PDA X c es fs)(hs:isStar e=false:=by rfl):PDA X c (e::es) (aj f fs):=PA.imp (gZ ha hr (aO hs)) fun _ _ _ h=>AG h
theorem fN {es:List Expr}{fs:FA}{x1}(h:PDA X c es fs):PD X c (.Tuple es x1 pos) (gh fs):=PE.imp (Dx h) fun _ _ _ h=>DK h
theorem fX {es:List Expr}{fs:FA}(h:PDA X c es fs):PF X c (.List es pos) (gM fs):=PE.imp (Dy h) fun _ _ _ h=>DM h
structure Def (P:Program)(w:World)(K:PySem.W.Frag)(mg:Str→Option Value)(base:Heap)(c:Ct)(x:Str)(ps:List Str)(k:Nat)(F:List D→Option D):Prop where
 ex:∃ fa fd,fz P w K mg base CX0 k fa fd ps (spD ⟨K,c.cl,c.fld⟩ ps.length F)∧mg x=some (.ref fa)∧PySem.W.keepIn K (.ref fa)=true∧Binds K fd ps []
structure qa (P:Program)(w:World)(K:PySem.W.Frag)(mg:Str→Option Value)(base:Heap)(c:Ct)(x:Str)(ps:List Str)(k:Nat)(F:List D→Option (List D)):Prop where
 ex:∃ fa fd,fz P w K mg base CX0 k fa fd ps (spF ⟨K,c.cl,c.fld⟩ ps.length F)∧mg x=some (.ref fa)∧PySem.W.keepIn K (.ref fa)=true∧Binds K fd ps []
noncomputable abbrev GF (X:Cx)(c:Ct):=Def X.prog X.w X.K X.mg X.base c
noncomputable abbrev Eg (X:Cx)(c:Ct):=qa X.prog X.w X.K X.mg X.base c
theorem bW {k j:Nat}{ps:List Str}{x:Str}{p:Pos}{es:List Expr}{fs:FA}{F:List D→Option D}(G:GF X c x ps k F)(hr:dS j X.A)(hkj:k≤j)(hg:Gl X x)
  (ha:PDA X c (e::es) fs) (hdb:(x == ("__debug__":Str))=false:=by decide) (he:isStar e=false:=by rfl) (hpl:er es=true:=by rfl) :
  PD X c (.Call (.Name x p) (e::es) [] pos) (bg ps.length F fs):=by
 obtain ⟨fa,fd,h1,h2,h3,h4⟩:=G.ex
 exact PE.imp (vA (E:=E0) h1 (hr.mono hkj) hg h2 h3 h4 .nil oM ha hdb (aO he) (d7 hpl)) fun _ _ _ h=>AX h
theorem rG {k j:Nat}{ps:List Str}{x:Str}{p:Pos}{es:List Expr}{fs:FA}{F:List D→Option (List D)}(G:Eg X c x ps k F)(hr:dS j X.A)(hkj:k≤j)(hg:Gl X x)
  (ha:PDA X c (e::es) fs) (hdb:(x == ("__debug__":Str))=false:=by decide) (he:isStar e=false:=by rfl) (hpl:er es=true:=by rfl) :
  PF X c (.Call (.Name x p) (e::es) [] pos) (bg ps.length F fs):=by
 obtain ⟨fa,fd,h1,h2,h3,h4⟩:=G.ex
 exact PE.imp (vA (E:=E0) h1 (hr.mono hkj) hg h2 h3 h4 .nil oM ha hdb (aO he) (d7 hpl)) fun _ _ _ h=>yJ h
theorem rH (ha:PR X c e f)(he:isStar e=false:=by rfl):PA X [e] (tP (tx X c) (kRA (tx X c)) (faR f)):=PA.imp (gZ ha oJ (aO he)) fun _ _ _ h=>DT h
theorem yV {α:Type}{ρ3:RK α V}[Kd ρ3]{T:Tx}{F:D→Option α}{r:List V→Hp→VK→Prop}{f:FE}{σ:L2.St}{H:Hp}{Q:VK}
  (snd:∀ (A:Addr→Prop) (H0 H:Hp) (x:D) (v:V) (d:α) (Q:VK),Nw A H→kR T A H0 H x v→F x=some d→(∀ w H',aK H H'→ρ3 A H H' d w→Q w H')→r [v] H Q)
  (h:tP T ρ3 (fp1 F f) σ H Q):tCB r (tP T (kRA T) (faR f)) σ H Q:=by
 refine rz (ρ:=kRA T) (F:=of1 F) (AM snd) ?_
 obtain ⟨W,O,env,d,E,e,q⟩:=h
 refine ⟨W,O,env,d,E, ?_,q⟩
 unfold fp1 faR at *
 cases e1:f env with
 | none=>rw [e1] at e; cases e
 | some x=>rw [e1] at e; exact e
theorem yW {α:Type}{ρ3:RK α V}[Kd ρ3]{id:String}{x:Str}{p:Pos}{r:List V→Hp→VK→Prop}{F:D→Option α}(hc:jz X (.builtin id) r)
  (snd:∀ (A:Addr→Prop) (H0 H:Hp) (x:D) (v:V) (d:α) (Q:VK),Nw A H→kR (tx X c) A H0 H x v→F x=some d→(∀ w H',aK H H'→ρ3 A H H' d w→Q w H')→r [v] H Q)
  (hg:Gl X x) (hm:X.mg x=none) (hv:bootBuiltins x=some (.builtin id)) (ha:PR X c e f) (he:isStar e=false) (hn:x≠"__name__":=by decide) (hdb:(x == ("__debug__":Str))=false:=by decide) :
  PE X (.Call (.Name x p) [e] [] pos) (tP (tx X c) ρ3 (fp1 F f)):=PE.imp (sM hc hg hm hv (rH ha he) hn hdb (aO he)) fun _ _ _ h=>yV snd h
theorem CH {α:Type}{ρ3:RK α V}[Kd ρ3]{ty:String}{x:Str}{p:Pos}{r:List V→Hp→VK→Prop}{F:D→Option α}(hc:jz X (.type ty) r)
  (snd:∀ (A:Addr→Prop) (H0 H:Hp) (x:D) (v:V) (d:α) (Q:VK),Nw A H→kR (tx X c) A H0 H x v→F x=some d→(∀ w H',aK H H'→ρ3 A H H' d w→Q w H')→r [v] H Q)
  (hg:Gl X x) (hm:X.mg x=none) (hv:bootBuiltins x=some (.type ty)) (ha:PR X c e f) (he:isStar e=false) (hn:x≠"__name__":=by decide) (hdb:(x == ("__debug__":Str))=false:=by decide) :
  PE X (.Call (.Name x p) [e] [] pos) (tP (tx X c) ρ3 (fp1 F f)):=PE.imp (wZ hc hg hm hv (rH ha he) hn hdb (aO he)) fun _ _ _ h=>yV snd h
theorem eK {p:Pos}(hg:Gl X "len")(hm:X.mg "len"=none)(ha:PR X c e f)(he:isStar e=false:=by rfl):PD X c (.Call (.Name "len" p) [e] [] pos) (fp1 i7 f):=yW yh AN hg hm PySem.boot_len ha he
theorem rJ {p:Pos}(hg:Gl X "list")(hm:X.mg "list"=none)(ha:PR X c e f)(he:isStar e=false:=by rfl):PF X c (.Call (.Name "list" p) [e] [] pos) (fp1 kW f):=CH rp AO hg hm rfl ha he
theorem GG {id:String}{x:Str}{p:Pos}{fs:FA}{r:List V→Hp→VK→Prop}{F:List D→Option D}(hc:jz X (.builtin id) r)
  (snd:∀ (A:Addr→Prop) (H0 H:Hp) (ds:List D) (vs:List V) (d:D) (Q:VK),Nw A H→kA (tx X c) A H0 H ds vs→F ds=some d→(∀ w H',aK H H'→kD (tx X c) A H H' d w→Q w H')→r vs H Q)
  (hg:Gl X x) (hm:X.mg x=none) (hv:bootBuiltins x=some (.builtin id)) (ha:PDA X c [a,b] fs) (he:isStar a=false) (hpl:er [b]=true) (hn:x≠"__name__":=by decide) (hdb:(x == ("__debug__":Str))=false:=by decide) :
  PD X c (.Call (.Name x p) [a,b] [] pos) (fp1 F fs):=PE.imp (sM hc hg hm hv ha hn hdb (aO he) (d7 hpl)) fun _ _ _ h=>rz (ρ:=kA (tx X c)) snd h
theorem GH {T:Tx}{A:Addr→Prop}{H:Hp}{d e:D}{vs:List V}(r:aC T A H [d,e] vs):∃ v u,vs=[v,u]∧Rep T A H d v∧Rep T A H e u:=by
 obtain ⟨v,t,rfl,h1,h2⟩:=r.dF
 obtain ⟨u,t,rfl,h3,h4⟩:=h2.dF
 cases h4.ju
 exact ⟨v,u,rfl,h1,h3⟩
theorem vV {p:Pos}{fs:FA}(hg:Gl X "max")(hm:X.mg "max"=none)(hc:X.calm=true)(ha:PDA X c [a,b] fs)(he:isStar a=false:=by rfl)(hpl:er [b]=true:=by rfl) :
  PD X c (.Call (.Name "max" p) [a,b] [] pos) (fp1 maxD fs) :=
 GG (wR hc) (fun A H0 H ds vs d Q nw r ee k=>by
  unfold maxD at ee
  split at ee
  ·cases ee
   obtain ⟨v,u,rfl,h1,h2⟩:=GH r
   cases h1.dU; cases h2.dU
   exact ⟨_,_,rfl,k _ H (aK.refl _) (Rep.int _)⟩
  ·cases ee) hg hm boot_max ha he hpl
noncomputable def tyS:Ty→String
 | .int=>"int" | .str=>"str" | .bool=>"bool" | .list=>"list" | .tuple=>"tuple" | .dict=>"dict"
theorem Bb (t:Ty):bootBuiltins (Str.ofString (tyS t))=some (.type (tyS t)):=by cases t <;> decide +kernel
noncomputable def CI:D→Option String
 | .non=>some "NoneType"
 | .bl _=>some "bool"
 | .int _=>some "int"
 | .str _=>some "str"
 | .tup _=>some "tuple"
 | .lst _=>some "list"
 | _=>none
theorem yX {K:PySem.W.Frag}{d:D}{t:Ty}{b:Bool}(h:jF t d=some (.bl b)):∃ s,CI d=some s∧PySem.W.kitOne K (.type s) (.type (tyS t))=some b:=by
 cases d <;> cases h <;> refine ⟨_,rfl, ?_⟩ <;> cases t <;> rfl
theorem yY {d r:D}{t:Ty}(h:jF t d=some r):∃ b,r=.bl b:=by
 cases d <;> cases h <;> exact ⟨_,rfl⟩
theorem yZ {pins:List (Addr × Obj)}{σ:L2.St}{H:Hp}{s:Shared}{A:Addr→Prop}{E:Value→Shared→Prop}{Ar:Around}{Q:Value→Shared→Prop}{d:D}{x:V}{u:Value}{t T:String}{b:Bool}(I:Inv X pins σ H s)(rx:RelV x u)(r:aF (tx X c) A H d x)(e1:CI d=some t)(e:PySem.W.kitOne X.K (.type t) (.type T)=some b)
  (h:∀ tk,Q (.bool b) { s with toks:=tk }):wpAny (model X.prog X.w) Ar (call (.builtin "isinstance") [u,.type T]) Q E s:=by
 cases d with
 | non=>cases e1; cases aF.mU r; cases rx; exact PySem.W.kia_one PySem.W.kitx_none I.kIn True.intro e (fun z=>nomatch z) h
 | bl y=>cases e1; cases aF.bl_ r; cases rx; exact PySem.W.kia_one PySem.W.kitx_bool I.kIn True.intro e (fun z=>nomatch z) h
 | int i=>cases e1; cases aF.dU r; obtain ⟨t,rfl⟩:=rx; exact PySem.W.kia_one PySem.W.kitx_int I.kIn True.intro e (fun z=>nomatch z) h
 | str y=>cases e1; cases aF.h8 r; obtain ⟨t,rfl⟩:=rx; exact PySem.W.kia_one PySem.W.kitx_str I.kIn True.intro e (fun z=>nomatch z) h
 | tup ds =>
  cases e1
  obtain ⟨a,xs,rfl,hq,_⟩:=aF.iq r
  cases rx
  obtain ⟨its,_,p,_⟩:=I.tuple hq
  obtain ⟨o,h1,h2,_⟩:=p
  exact PySem.W.kia_one PySem.W.kitx_tuple I.kIn ⟨o,h1,h2⟩ e (fun z=>nomatch z) h
 | lst ds =>
  cases e1
  obtain ⟨a,xs,rfl,hq,_⟩:=aF.fL r
  cases rx
  obtain ⟨its,_,p,_⟩:=I.list hq
  obtain ⟨o,h1,h2,_⟩:=p.isList
  exact PySem.W.kia_one PySem.W.kitx_list I.kIn ⟨o,h1,h2⟩ e (fun z=>nomatch z) h
 | ob _ _ _=>cases e1
 | dct _ _=>cases e1
 | exc _=>cases e1
theorem vals2 {x y:V}{us:List Value}(r:Vals [x,y] us):∃ u v,us=[u,v]∧RelV x u∧RelV y v:=Vals.two r
theorem iZ (t:Ty){p p2:Pos}(hg:Gl X "isinstance")(hm:X.mg "isinstance"=none)(hg2:Gl X (Str.ofString (tyS t)))(hm2:X.mg (Str.ofString (tyS t))=none)(ha:PR X c e f)
  (he:isStar e=false:=by rfl) :
  PD X c (.Call (.Name "isinstance" p) [e,.Name (Str.ofString (tyS t)) p2] [] pos) (fp1 (jF t) f):=by
 intro pins s σ H Q I h
 refine wpAny_Call_Name_kw (gS I hg hm (show bootBuiltins "isinstance"=some (.builtin "isinstance") by decide +kernel) ?_ (by decide) (by decide))
 have hA:PA X [e,.Name (Str.ofString (tyS t)) p2] (nL (tP (tx X c) (kR (tx X c)) f) (nL (tC (.ty (tyS t))) uE)):=gZ ha (gZ (Ae hg2 hm2 (Bb t) rfl (by cases t <;> decide) (by cases t <;> decide)) oJ (aO rfl)) (aO he)
 obtain ⟨W,O,env,d,E,ee,q⟩:=h
 unfold fp1 at ee
 cases e1:f env with
 | none=>rw [e1] at ee; cases ee
 | some y =>
  rw [e1] at ee
  dsimp only [Option.bind_some] at ee
  obtain ⟨bb,rfl⟩:=yY ee
  obtain ⟨st,e2,e3⟩:=yX (K:=X.K) ee
  refine PyProof.Rows.callWith_builtin1 (cD (hA pos pins s σ H (fun vs H1=>∃ v,vs=[v,.ty (tyS t)]∧aK H H1∧aF (tx X c) (Cl W O) H1 y v) I ⟨W,O,env,y,E,e1,fun v H1 s1 r1=>⟨v,rfl,s1,r1⟩⟩) fun us s1 vs H1 I1 r1 zz_=>?_) (aO he) (d7 rfl)
  obtain ⟨v,ev,s1',rv⟩:=zz_
  subst ev
  obtain ⟨u,u2,rfl,ru,ru2⟩:=vals2 r1
  cases ru2
  exact yZ I1 ru rv e2 e3 fun tk=>⟨.bl bb,H1,I1.tok _,rfl,q _ H1 s1' (Rep.bl _)⟩
theorem Eh (ha:PD X c a f):PD X c (.UnaryOp .Not a pos) (vL f):=PE.imp (Dk ha) fun _ _ _ h=>DO h
theorem za {op}(h:PD X c a f):PD X c (.BoolOp op [a] pos) f:=Di h
theorem zb {rest:List Expr}(ha:PD X c a f)(hb:PD X c (.BoolOp .And (b::rest) pos) g):PD X c (.BoolOp .And (a::b::rest) pos) (qB f g):=PE.imp (Dj ha hb) fun _ _ _ h=>DQ h
variable {t u:FT}
theorem kf (h:PD X c e f)(he:plainT e=true:=by rfl):PDT X c e (ftB f):=PT.imp (Dg h (xc he)) fun _ _ _ h=>rA h
theorem kg (ha:PDT X c a t):PDT X c (.UnaryOp .Not a pos) (kM t):=PT.imp (Dh ha) fun _ _ _ h=>AH h
theorem sZ (ha:PDT X c a t):PDW X c (.BoolOp .And [a] pos) t:=pw_and1 ha
theorem iB (ha:PDT X c a t):PDW X c (.BoolOp .Or [a] pos) t:=pw_or1 ha
theorem om {rest:List Expr}(ha:PDT X c a t)(hb:PDW X c (.BoolOp .And (b::rest) pos) u):PDW X c (.BoolOp .And (a::b::rest) pos) (nN t u):=PW.imp (pw_and ha hb) fun _ _ _ h=>AI h
theorem jJ {rest:List Expr}(ha:PDT X c a t)(hb:PDW X c (.BoolOp .Or (b::rest) pos) u):PDW X c (.BoolOp .Or (a::b::rest) pos) (nX t u):=PW.imp (pw_or ha hb) fun _ _ _ h=>DN h
theorem PDW.pt (h:PDW X c e t):PDT X c e t:=PW.pt h
theorem i8 {te:Expr}(hc:PDT X c te t)(ha:PD X c a f)(hb:PD X c b g):PD X c (.IfExp te a b pos) (nY t f g):=PE.imp (y9 hc ha hb) fun _ _ _ h=>Gk h
variable {st:Stmt}{rest:List Stmt}{F G:FS}
theorem aS:oT X c xq [] bw:=PSs.imp Ag fun _ _ _ h=>yD h
theorem ak (h1:PDS X c xq st F)(h2:oT X c xq rest G):oT X c xq (st::rest) (aB F G):=PSs.imp (ya h1 h2) fun _ _ _ h=>AQ h
theorem ar (h1:PDS X c xq st F):oT X c xq [st] F:=Ah h1
theorem aE (h:PD X c e f):PDS X c xq (.Return (some e) pos) (aT f):=PS.imp (ur h) fun _ _ _ h=>AR h
theorem lY {f:FP (List D)}(h:PF X c e f):PDS X c xq (.Return (some e) pos) (jD f):=PS.imp (ur h) fun _ _ _ h=>yE h
theorem t6 {i:Nat}{x:Str}{p2:Pos}(n:Nm X i x):PDS X c xq (.Return (some (.Name x p2)) pos) (kY i):=PS.imp (ur (iP n.hN n.hv n.hd n.hc)) fun _ _ _ h=>yF h
theorem bE {te:Expr}{as bs:List Stmt}(hc:PDT X c te t)(ha:oT X c xq as F)(hb:oT X c xq bs G):PDS X c xq (.If te as bs pos) (eJ t F G):=PS.imp (FR hc ha hb) fun _ _ _ h=>DX h
theorem aV {i:Nat}{x:Str}{pos':Pos}(n:Nl X i x)(he:PD X c e f)(hs:rE e=true:=by rfl) :
  PDS X c xq (.Assign [.Name x pos'] e pos) (bG i f):=PS.imp (yc n.nd n.hN n.hl he (gN hs) n.hf) fun _ _ _ h=>vN h
theorem oo {i:Nat}{x:Str}{pos':Pos}{f:FP (List D)}(n:Nl X i x)(he:PF X c e f)(hs:rE e=true:=by rfl) :
  PDS X c xq (.Assign [.Name x pos'] e pos) (nO i f):=PS.imp (yc n.nd n.hN n.hl he (gN hs) n.hf) fun _ _ _ h=>AS h
theorem uP {tg l:Expr}{tl:TE}(hl:PE X l tl):PI X tg l (DY X.K tl):=by
 intro pins s σ H R I h
 refine cD (hl pins s σ H _ I h) fun v s1 x H1 I1 r1 q1=>?_
 obtain ⟨a,e,q1⟩:=q1
 subst e
 cases r1
 rcases q1 with ⟨⟨xs,hq⟩,q⟩ | ⟨⟨xs,hq⟩,q⟩
 ·obtain ⟨its,rv,p,hz⟩:=I1.list hq
  refine wpAny_pyIter_list p.isList ?_
  refine ⟨s1.heap.objs.size,[s1.heap.objs.size],_,_,H1,rfl,I1.kept (t':=s1.toks) fun b o e=>Heap.get?_push_of_some _ e,wN a _,⟨_,Heap.get?_push_size _ rfl,rfl,rfl⟩,fun b hb=>?_,q⟩
  have e:b=s1.heap.objs.size:=by simpa using hb
  subst e
  exact I1.oH (Nat.le_refl _) (I1.hok.fresh (Nat.le_refl _))
 ·obtain ⟨its,rv,p,hz⟩:=I1.tuple hq
  refine wpAny_pyIter_tuple (show s1.heap.IsTuple a its.toArray from p) ?_
  refine ⟨s1.heap.objs.size,[s1.heap.objs.size],_,_,H1,rfl,I1.kept (t':=s1.toks) fun b o e=>Heap.get?_push_of_some _ e,uw a _,⟨_,Heap.get?_push_size _ rfl,rfl,rfl⟩,fun b hb=>?_,q⟩
  have e:b=s1.heap.objs.size:=by simpa using hb
  subst e
  exact I1.oH (Nat.le_refl _) (I1.hok.fresh (Nat.le_refl _))
theorem cO {i:Nat}{x:Str}(n:Nl X i x):PG X (.Name x pos) (gU i):=Aj n.nd n.hN n.hl n.hf
theorem lZ {tgE iter:Expr}{tg:FG}{gt:TG}{body:List Stmt}{fi:FE}(hp:PassesOwn (model X.prog X.w) X.A X.env X.xe)(hc:X.calm=true)(sg:gn (tx X c) tg gt)(pg:PG X tgE gt)(hi:PD X c iter fi)(hb:oT X c xq body F)
  (hs:vT iter=true:=by rfl):PDS X c xq (.For tgE iter body [] pos) (lS tg fi F) :=
 PS.imp (rh hp hc (uP hi) pg hb (d9 hs)) fun _ _ _ h=>AV sg h
theorem zc {tgE:Expr}{tg:FG}{gt:TG}{p p2:Pos}{body:List Stmt}{fs:FA}(hp:PassesOwn (model X.prog X.w) X.A X.env X.xe)(hc:X.calm=true)(sg:gn (tx X c) tg gt)(pg:PG X tgE gt)(hg:Gl X "range")(hm:X.mg "range"=none)(ha:PDA X c [a] fs)(hb:oT X c xq body F)(hst:isStar a=false:=by rfl)
  :PDS X c xq (.For tgE (.Call (.Name "range" p) [a] [] p2) body [] pos) (oR j9 tg fs F) :=
 PS.imp (rh hp hc (mP hg hm ha (eN hst)) pg hb (d9 rfl)) fun _ _ _ h=>yH sg h
end
end DL
end
section
namespace DL
open PySem PySem.Spec PyProof.Rows L2 PySem.SeqAt
theorem EqAt.of_rc {A:Around}{s:Shared}{a b:Value}{k:Bool}(hf:∀ x t,a≠.float x t)(h:RcAt A s a b k)(hs:a=b→k=true):EqAt A s a b k:=fun prog w E Q hq=>by
 unfold eqBool
 refine wpAny_holding ?_
 refine wpAny_ite_split (fun hab=>?_) (fun _=>?_)
 ·have:=hs (eq_of_beq hab)
  subst this
  exact wpAny_bind (wpAny_rule (wpAny_pure hq))
 ·cases a with
  | float x t=>exact absurd rfl (hf x t)
  | _=>exact wpAny_bind (h prog w E _ (wpAny_truthy_bool hq))
theorem rK {f:D→D→Option Bool}:∀ {as bs:List D} {r:Bool},eqZ f as bs=some r→∃ e:Nat→Bool,(∀ (j:Nat) x y,as[j]?=some x→bs[j]?=some y→f x y=some (e j))∧r=(List.range (min as.length bs.length)).all e
 | [],bs,r,h=>by
  unfold eqZ at h; cases h
  exact ⟨fun _=>true,fun j x y h=>by simp at h,by simp⟩
 | a::as,[],r,h=>by
  unfold eqZ at h; cases h
  exact ⟨fun _=>true,fun j x y _ h=>by simp at h,by simp⟩
 | a::as,b::bs,r,h=>by
  unfold eqZ at h
  cases e1:f a b with
  | none=>rw [e1] at h; cases h
  | some x0 =>
   rw [e1] at h
   dsimp only [Option.bind_some] at h
   cases e2:eqZ f as bs with
   | none=>rw [e2] at h; cases h
   | some y0 =>
    rw [e2] at h; cases h
    obtain ⟨e,h1,h2⟩:=rK e2
    refine ⟨fun j=>match j with | 0=>x0 | j+1=>e j,fun j x y hx hy=>?_, ?_⟩
    ·cases j with
     | zero=>simp at hx hy; subst hx hy; exact e1
     | succ j=>exact h1 j x y (by simpa using hx) (by simpa using hy)
    ·have hl:min (a::as).length (b::bs).length=min as.length bs.length+1:=by simp only [List.length_cons]; omega
     rw [hl,List.range_succ_eq_map,List.all_cons,List.all_map,h2]
     rfl
section
variable {X:Cx}{c:Ct}{pins:List (Addr × Obj)}{σ:L2.St}{H:Hp}{s:Shared}{A:Addr→Prop}
theorem t7 (I:Inv X pins σ H s):∀ (n:Nat) {x y:D} {v:V} {b:Bool},aF (tx X c) A H x v→aF (tx X c) A H y v→eqN n x y=some b→b=true
 | 0,_,_,_,_,_,_,h=>by cases h
 | n+1,x,y,v,b,rx,ry,h=>by
  have go:∀ {as bs:List D} {xs:List V} {r:Bool},aC (tx X c) A H as xs→aC (tx X c) A H bs xs→eqZ (eqN n) as bs=some r→r=true:=fun {as bs xs r} ra rb hz=>by
   obtain ⟨e,h1,h2⟩:=rK hz
   rw [h2,List.all_eq_true]
   intro j hj
   have hj':j<min as.length bs.length:=by simpa using hj
   have la:=ra.length
   have hx:as[j]?=some (as[j]'(by omega)):=List.getElem?_eq_getElem _
   have hy:bs[j]?=some (bs[j]'(by omega)):=List.getElem?_eq_getElem _
   obtain ⟨v1,g1,r1⟩:=ra.get hx
   obtain ⟨v2,g2,r2⟩:=rb.get hy
   rw [g1] at g2; cases g2
   exact t7 I n (aF.of r1) (aF.of r2) (h1 j _ _ hx hy)
  cases x with
  | non=>cases y <;> first | (cases h; rfl) | (cases aF.mU rx; first | cases aF.bl_ ry | cases aF.dU ry | cases aF.h8 ry | (obtain ⟨_,_,z,_⟩:=aF.iq ry; cases z) | (obtain ⟨_,_,z,_⟩:=aF.fL ry; cases z) | cases h)
  | bl p =>
   cases aF.bl_ rx
   cases y with
   | bl q=>cases h; cases aF.bl_ ry; simp
   | int q=>cases aF.dU ry
   | non=>cases aF.mU ry
   | str q=>cases aF.h8 ry
   | tup q=>obtain ⟨_,_,z,_⟩:=aF.iq ry; cases z
   | lst q=>obtain ⟨_,_,z,_⟩:=aF.fL ry; cases z
   | ob _ _ _=>cases h
   | dct _ _=>cases h
   | exc _=>cases h
  | int p =>
   cases aF.dU rx
   cases y with
   | int q=>cases h; cases aF.dU ry; simp
   | bl q=>cases aF.bl_ ry
   | non=>cases aF.mU ry
   | str q=>cases aF.h8 ry
   | tup q=>obtain ⟨_,_,z,_⟩:=aF.iq ry; cases z
   | lst q=>obtain ⟨_,_,z,_⟩:=aF.fL ry; cases z
   | ob _ _ _=>cases h
   | dct _ _=>cases h
   | exc _=>cases h
  | str p =>
   cases aF.h8 rx
   cases y with
   | str q =>
    have hz:=aF.h8 ry
    injection hz with hz
    have hz:=vJ hz
    subst hz
    cases h; simp
   | bl q=>cases aF.bl_ ry
   | non=>cases aF.mU ry
   | int q=>cases aF.dU ry
   | tup q=>obtain ⟨_,_,z,_⟩:=aF.iq ry; cases z
   | lst q=>obtain ⟨_,_,z,_⟩:=aF.fL ry; cases z
   | ob _ _ _=>cases h
   | dct _ _=>cases h
   | exc _=>cases h
  | tup p =>
   obtain ⟨a1,xs1,rfl,q1,r1⟩:=aF.iq rx
   cases y with
   | tup q =>
    obtain ⟨a2,xs2,z,q2,r2⟩:=aF.iq ry
    cases z
    have:=I.qv q1 q2
    subst this
    replace h:(eqZ (eqN n) p q).map (fun r=>r && p.length == q.length)=some b:=h
    cases e1:eqZ (eqN n) p q with
    | none=>rw [e1] at h; cases h
    | some r =>
     rw [e1] at h; cases h
     rw [go r1 r2 e1,r1.length,r2.length]; simp
   | lst q =>
    obtain ⟨a2,xs2,z,q2,r2⟩:=aF.fL ry
    cases z
    obtain ⟨_,_,p1,_⟩:=I.tuple q1
    obtain ⟨_,_,p2,_⟩:=I.list q2
    obtain ⟨o,h1,h2,_⟩:=p1
    obtain ⟨o',n',h1',h2',_⟩:=p2
    rw [h1] at h1'; cases h1'
    rw [h2] at h2'
    injection h2' with z
    exact absurd z (by decide)
   | bl q=>cases aF.bl_ ry
   | non=>cases aF.mU ry
   | int q=>cases aF.dU ry
   | str q=>cases aF.h8 ry
   | ob _ _ _=>cases h
   | dct _ _=>cases h
   | exc _=>cases h
  | lst p =>
   obtain ⟨a1,xs1,rfl,q1,r1⟩:=aF.fL rx
   cases y with
   | lst q =>
    obtain ⟨a2,xs2,z,q2,r2⟩:=aF.fL ry
    cases z
    have:=I.iU q1 q2
    subst this
    replace h:(if p.length=q.length then eqZ (eqN n) p q else some false)=some b:=h
    rw [if_pos (by rw [r1.length,r2.length])] at h
    exact go r1 r2 h
   | tup q =>
    obtain ⟨a2,xs2,z,q2,r2⟩:=aF.iq ry
    cases z
    obtain ⟨_,_,p1,_⟩:=I.tuple q2
    obtain ⟨_,_,p2,_⟩:=I.list q1
    obtain ⟨o,h1,h2,_⟩:=p1
    obtain ⟨o',n',h1',h2',_⟩:=p2
    rw [h1] at h1'; cases h1'
    rw [h2] at h2'
    injection h2' with z
    exact absurd z (by decide)
   | bl q=>cases aF.bl_ ry
   | non=>cases aF.mU ry
   | int q=>cases aF.dU ry
   | str q=>cases aF.h8 ry
   | ob _ _ _=>cases h
   | dct _ _=>cases h
   | exc _=>cases h
  | ob _ _ _=>cases y <;> cases h
  | dct _ _=>cases y <;> cases h
  | exc _=>cases y <;> cases h
theorem rL {x:D}{v:V}{a:Value}(rx:aF (tx X c) A H x v)(r:RelV v a):∀ z t,a≠.float z t:=fun z t e=>by
 subst e
 cases v with
 | flt b =>
  cases x with
  | non=>cases aF.mU rx
  | bl q=>cases aF.bl_ rx
  | int q=>cases aF.dU rx
  | str q=>cases aF.h8 rx
  | tup q=>obtain ⟨_,_,z,_⟩:=aF.iq rx; cases z
  | lst q=>obtain ⟨_,_,z,_⟩:=aF.fL rx; cases z
  | ob _ _ _=>obtain ⟨_,_,_,_,z,_⟩:=Rep.ob_ (show Rep (tx X c) A H (.ob _ _ _) _ from rx); cases z
  | dct _ _=>obtain ⟨_,_,z,_⟩:=Rep.Gg (show Rep (tx X c) A H (.dct _ _) _ from rx); cases z
  | exc _=>obtain ⟨_,_,z,_⟩:=Rep.Gh (show Rep (tx X c) A H (.exc _) _ from rx); cases z
 | non=>cases r
 | bl b=>cases r
 | int b=>obtain ⟨_,z⟩:=r; cases z
 | str b=>obtain ⟨_,z⟩:=r; cases z
 | byt b=>obtain ⟨_,z⟩:=r; cases z
 | ref b=>cases r
 | ty b=>cases r
noncomputable def Shp (T:Tx)(A:Addr→Prop)(H:Hp)(h:Heap):D→Value→Prop
 | .non,v=>v=.none
 | .bl q,v=>v=.bool q
 | .int q,v=>∃ t,v=.int q t
 | .str q,v=>∃ t,v=.str (mkS q) t
 | .tup ds,v=>∃ a xs us,v=.ref a∧aC T A H ds xs∧Vals xs us∧IsTup h a us.toArray
 | .lst ds,v=>∃ a xs us,v=.ref a∧aC T A H ds xs∧Vals xs us∧PlainL h a us.toArray
 | _,_=>True
theorem rM (I:Inv X pins σ H s):∀ {x:D} {v:V} {av:Value},aF (tx X c) A H x v→RelV v av→Shp (tx X c) A H s.heap x av
 | .non,_,_,rx,rv=>by cases aF.mU rx; cases rv; rfl
 | .bl _,_,_,rx,rv=>by cases aF.bl_ rx; cases rv; rfl
 | .int _,_,_,rx,rv=>by cases aF.dU rx; exact rv
 | .str _,_,_,rx,rv=>by cases aF.h8 rx; exact rv
 | .tup _,_,_,rx,rv=>by
  obtain ⟨a,xs,rfl,q,r⟩:=aF.iq rx
  cases rv
  obtain ⟨us,v,p,_⟩:=I.tuple q
  exact ⟨a,xs,us,rfl,r,v,p⟩
 | .lst _,_,_,rx,rv=>by
  obtain ⟨a,xs,rfl,q,r⟩:=aF.fL rx
  cases rv
  obtain ⟨us,v,p,_⟩:=I.list q
  exact ⟨a,xs,us,rfl,r,v,p⟩
 | .ob _ _ _,_,_,_,_=>trivial
 | .dct _ _,_,_,_,_=>trivial
 | .exc _,_,_,_,_=>trivial
theorem vW (p q:List Nat):(p == q)=(mkS p == mkS q):=by
 by_cases hh:p=q
 ·subst hh; simp
 ·rw [beq_eq_false_iff_ne.mpr hh,beq_eq_false_iff_ne.mpr fun e=>hh (vJ e)]
theorem t8 {T:Tx}{ds:List D}{xs:List V}{us:List Value}(r:aC T A H ds xs)(v:Vals xs us):ds.length=us.toArray.size:=by
 rw [List.size_toArray]; exact r.length.trans v.length
theorem CJ (I:Inv X pins σ H s){n:Nat}{Ar:Around}(ih:∀ {x y:D} {v u:V} {av au:Value} {b:Bool} {Ar:Around},aF (tx X c) A H x v→aF (tx X c) A H y u→RelV v av→RelV u au→eqN n x y=some b→Ar.units+n<cLine→RcAt Ar s av au b)(hu:Ar.units+(n+1)<cLine)
  {as bs:List D} {xs ys:List V} {us ws:List Value} {r:Bool} (ra:aC (tx X c) A H as xs) (rb:aC (tx X c) A H bs ys) (va:Vals xs us) (vb:Vals ys ws) (hz:eqZ (eqN n) as bs=some r) :
  ∃ e:Nat→Bool,(∀ j (h1:j<us.toArray.size) (h2:j<ws.toArray.size),EqAt Ar.in1 s us.toArray[j] ws.toArray[j] (e j))∧r=(List.range (min us.toArray.size ws.toArray.size)).all e:=by
 obtain ⟨e,h1,h2⟩:=rK hz
 have l1:=ra.length
 have l2:=va.length
 have l3:=rb.length
 have l4:=vb.length
 refine ⟨e,fun j hj1 hj2=>?_,by rw [h2]; simp only [List.size_toArray]; rw [l1,l2,l3,l4]⟩
 simp only [List.size_toArray] at hj1 hj2
 have hx:as[j]?=some (as[j]'(by omega)):=List.getElem?_eq_getElem _
 have hy:bs[j]?=some (bs[j]'(by omega)):=List.getElem?_eq_getElem _
 obtain ⟨v1,g1,r1⟩:=ra.get hx
 obtain ⟨v2,g2,r2⟩:=rb.get hy
 obtain ⟨u1,k1,s1⟩:=va.get g1
 obtain ⟨u2,k2,s2⟩:=vb.get g2
 have e1:us.toArray[j]=u1:=by
  have:=List.getElem?_eq_some_iff.mp k1
  obtain ⟨_,z⟩:=this
  simpa using z
 have e2:ws.toArray[j]=u2:=by
  have:=List.getElem?_eq_some_iff.mp k2
  obtain ⟨_,z⟩:=this
  simpa using z
 rw [e1,e2]
 have hn:=h1 j _ _ hx hy
 have hue:Ar.in1.units+n<cLine:=by show Ar.units+1+n<cLine; omega
 refine EqAt.of_rc (rL (c:=c) (A:=A) (aF.of r1) s1) (ih (aF.of r1) (aF.of r2) s1 s2 hn hue) fun ee=>?_
 subst ee
 have:=s1.inj s2
 subst this
 exact t7 I n (aF.of r1) (aF.of r2) hn
theorem Ei {n:Nat}{Ar:Around}(go:∀ {as bs:List D} {xs ys:List V} {us ws:List Value} {r:Bool},aC (tx X c) A H as xs→aC (tx X c) A H bs ys→Vals xs us→Vals ys ws→eqZ (eqN n) as bs=some r→∃ e:Nat→Bool,(∀ j (h1:j<us.toArray.size) (h2:j<ws.toArray.size),EqAt Ar.in1 s us.toArray[j] ws.toArray[j] (e j))∧r=(List.range (min us.toArray.size ws.toArray.size)).all e)(hu0:Ar.units<cLine){x y:D}{av au:Value}{b:Bool}(sx:Shp (tx X c) A H s.heap x av)(sy:Shp (tx X c) A H s.heap y au)(h:eqN (n+1) x y=some b):RcAt Ar s av au b:=by
 cases x with
 | non =>
  cases sx
  cases y with
  | non=>cases h; cases sy; exact .none_none
  | bl q=>cases h; cases sy; exact .none_bool _
  | int q=>cases h; obtain ⟨t2,rfl⟩:=sy; exact .none_int _ _
  | str q=>cases h; obtain ⟨t2,rfl⟩:=sy; exact .none_str _ _
  | tup q=>cases h; obtain ⟨a2,xs2,us2,rfl,r2,v2,p2⟩:=sy; exact .none_tuple p2 hu0
  | lst q=>cases h; obtain ⟨a2,xs2,us2,rfl,r2,v2,p2⟩:=sy; exact .none_list p2.isList hu0
  | ob _ _ _=>cases h
  | dct _ _=>cases h
  | exc _=>cases h
 | bl p =>
  cases sx
  cases y with
  | non=>cases h; cases sy; exact .bool_none _
  | bl q=>cases h; cases sy; exact .bool_bool _ _
  | int q=>cases h; obtain ⟨t2,rfl⟩:=sy; exact .bool_int _ _ _
  | str q=>cases h; obtain ⟨t2,rfl⟩:=sy; exact .bool_str _ _ _
  | tup q=>cases h; obtain ⟨a2,xs2,us2,rfl,r2,v2,p2⟩:=sy; exact .bool_tuple _ p2 hu0
  | lst q=>cases h; obtain ⟨a2,xs2,us2,rfl,r2,v2,p2⟩:=sy; exact .bool_list _ p2.isList hu0
  | ob _ _ _=>cases h
  | dct _ _=>cases h
  | exc _=>cases h
 | int p =>
  obtain ⟨t1,rfl⟩:=sx
  cases y with
  | non=>cases h; cases sy; exact .int_none _ _
  | bl q=>cases h; cases sy; exact .int_bool _ _ _
  | int q=>cases h; obtain ⟨t2,rfl⟩:=sy; exact .int_int _ _ _ _
  | str q=>cases h; obtain ⟨t2,rfl⟩:=sy; exact .int_str _ _ _ _
  | tup q=>cases h; obtain ⟨a2,xs2,us2,rfl,r2,v2,p2⟩:=sy; exact .int_tuple _ _ p2 hu0
  | lst q=>cases h; obtain ⟨a2,xs2,us2,rfl,r2,v2,p2⟩:=sy; exact .int_list _ _ p2.isList hu0
  | ob _ _ _=>cases h
  | dct _ _=>cases h
  | exc _=>cases h
 | str p =>
  obtain ⟨t1,rfl⟩:=sx
  cases y with
  | non=>cases h; cases sy; exact .str_none _ _
  | bl q=>cases h; cases sy; exact .str_bool _ _ _
  | int q=>cases h; obtain ⟨t2,rfl⟩:=sy; exact .str_int _ _ _ _
  | str q =>
   cases h; obtain ⟨t2,rfl⟩:=sy
   rw [vW]
   exact .str_str _ _ _ _
  | tup q=>cases h; obtain ⟨a2,xs2,us2,rfl,r2,v2,p2⟩:=sy; exact .str_tuple _ _ p2 hu0
  | lst q=>cases h; obtain ⟨a2,xs2,us2,rfl,r2,v2,p2⟩:=sy; exact .str_list _ _ p2.isList hu0
  | ob _ _ _=>cases h
  | dct _ _=>cases h
  | exc _=>cases h
 | tup p =>
  obtain ⟨a1,xs1,us1,rfl,r1,v1,p1⟩:=sx
  cases y with
  | non=>cases h; cases sy; exact .tuple_none p1 hu0
  | bl q=>cases h; cases sy; exact .tuple_bool _ p1 hu0
  | int q=>cases h; obtain ⟨t2,rfl⟩:=sy; exact .tuple_int _ _ p1 hu0
  | str q=>cases h; obtain ⟨t2,rfl⟩:=sy; exact .tuple_str _ _ p1 hu0
  | tup q =>
   obtain ⟨a2,xs2,us2,rfl,r2,v2,p2⟩:=sy
   replace h:(eqZ (eqN n) p q).map (fun r=>r && p.length == q.length)=some b:=h
   cases e1:eqZ (eqN n) p q with
   | none=>rw [e1] at h; cases h
   | some r =>
    rw [e1] at h; cases h
    obtain ⟨e,g1,g2⟩:=go r1 r2 v1 v2 e1
    rw [g2,t8 r1 v1,t8 r2 v2]
    exact .tuples p1 p2 hu0 g1
  | lst q=>cases h; obtain ⟨a2,xs2,us2,rfl,r2,v2,p2⟩:=sy; exact .tuple_list p1 p2.isList hu0
  | ob _ _ _=>cases h
  | dct _ _=>cases h
  | exc _=>cases h
 | lst p =>
  obtain ⟨a1,xs1,us1,rfl,r1,v1,p1⟩:=sx
  cases y with
  | non=>cases h; cases sy; exact .list_none p1.isList hu0
  | bl q=>cases h; cases sy; exact .list_bool _ p1.isList hu0
  | int q=>cases h; obtain ⟨t2,rfl⟩:=sy; exact .list_int _ _ p1.isList hu0
  | str q=>cases h; obtain ⟨t2,rfl⟩:=sy; exact .list_str _ _ p1.isList hu0
  | tup q=>cases h; obtain ⟨a2,xs2,us2,rfl,r2,v2,p2⟩:=sy; exact .list_tuple p1.isList p2 hu0
  | lst q =>
   obtain ⟨a2,xs2,us2,rfl,r2,v2,p2⟩:=sy
   replace h:(if p.length=q.length then eqZ (eqN n) p q else some false)=some b:=h
   have hl1:=t8 r1 v1
   have hl2:=t8 r2 v2
   by_cases hl:p.length=q.length
   ·rw [if_pos hl] at h
    obtain ⟨e,g1,g2⟩:=go r1 r2 v1 v2 h
    have hm:us1.toArray.size=us2.toArray.size:=hl1.symm.trans (hl.trans hl2)
    rw [g2, ← hm,Nat.min_self]
    exact .lists p1.isList p2.isList hm hu0 g1
   ·rw [if_neg hl] at h; cases h
    exact .lists_lengths p1.isList p2.isList (by rw [← hl1, ← hl2]; exact bne_iff_ne.mpr hl) hu0
  | ob _ _ _=>cases h
  | dct _ _=>cases h
  | exc _=>cases h
 | ob _ _ _=>cases y <;> cases h
 | dct _ _=>cases y <;> cases h
 | exc _=>cases y <;> cases h
theorem zd (I:Inv X pins σ H s):∀ (n:Nat) {x y:D} {v u:V} {av au:Value} {b:Bool} {Ar:Around},aF (tx X c) A H x v→aF (tx X c) A H y u→RelV v av→RelV u au→eqN n x y=some b→Ar.units+n<cLine→RcAt Ar s av au b
 | 0,_,_,_,_,_,_,_,_,_,_,_,_,h,_=>by cases h
 | n+1,_,_,_,_,_,_,_,_,rx,ry,rv,ru,h,hu=>Ei (X:=X) (c:=c) (A:=A) (H:=H) (CJ I (zd I n) hu) (Nat.lt_of_le_of_lt (Nat.le_add_right _ _) hu) (rM I rx rv) (rM I ry ru) h
theorem ze {n:Nat}{Ar:Around}(go:∀ {as bs:List D} {xs ys:List V} {us ws:List Value} {r:Bool},aC (tx X c) A H as xs→aC (tx X c) A H bs ys→Vals xs us→Vals ys ws→eqZ (eqN n) as bs=some r→∃ e:Nat→Bool,(∀ j (h1:j<us.toArray.size) (h2:j<ws.toArray.size),EqAt Ar.in1 s us.toArray[j] ws.toArray[j] (e j))∧r=(List.range (min us.toArray.size ws.toArray.size)).all e)(hu0:Ar.units<cLine){x y:D}{av au:Value}{b:Bool}(sx:Shp (tx X c) A H s.heap x av)(sy:Shp (tx X c) A H s.heap y au)(h:eqN (n+1) x y=some b):RcNeAt Ar s av au (!b):=by
 cases x with
 | non =>
  cases sx
  cases y with
  | non=>cases h; cases sy; exact .none_none
  | bl q=>cases h; cases sy; exact .none_bool _
  | int q=>cases h; obtain ⟨t2,rfl⟩:=sy; exact .none_int _ _
  | str q=>cases h; obtain ⟨t2,rfl⟩:=sy; exact .none_str _ _
  | tup q=>cases h; obtain ⟨a2,xs2,us2,rfl,r2,v2,p2⟩:=sy; exact .none_tuple p2 hu0
  | lst q=>cases h; obtain ⟨a2,xs2,us2,rfl,r2,v2,p2⟩:=sy; exact .none_list p2.isList hu0
  | ob _ _ _=>cases h
  | dct _ _=>cases h
  | exc _=>cases h
 | bl p =>
  cases sx
  cases y with
  | non=>cases h; cases sy; exact .bool_none _
  | bl q=>cases h; cases sy; exact .bool_bool _ _
  | int q=>cases h; obtain ⟨t2,rfl⟩:=sy; exact .bool_int _ _ _
  | str q=>cases h; obtain ⟨t2,rfl⟩:=sy; exact .bool_str _ _ _
  | tup q=>cases h; obtain ⟨a2,xs2,us2,rfl,r2,v2,p2⟩:=sy; exact .bool_tuple _ p2 hu0
  | lst q=>cases h; obtain ⟨a2,xs2,us2,rfl,r2,v2,p2⟩:=sy; exact .bool_list _ p2.isList hu0
  | ob _ _ _=>cases h
  | dct _ _=>cases h
  | exc _=>cases h
 | int p =>
  obtain ⟨t1,rfl⟩:=sx
  cases y with
  | non=>cases h; cases sy; exact .int_none _ _
  | bl q=>cases h; cases sy; exact .int_bool _ _ _
  | int q=>cases h; obtain ⟨t2,rfl⟩:=sy; exact .int_int _ _ _ _
  | str q=>cases h; obtain ⟨t2,rfl⟩:=sy; exact .int_str _ _ _ _
  | tup q=>cases h; obtain ⟨a2,xs2,us2,rfl,r2,v2,p2⟩:=sy; exact .int_tuple _ _ p2 hu0
  | lst q=>cases h; obtain ⟨a2,xs2,us2,rfl,r2,v2,p2⟩:=sy; exact .int_list _ _ p2.isList hu0
  | ob _ _ _=>cases h
  | dct _ _=>cases h
  | exc _=>cases h
 | str p =>
  obtain ⟨t1,rfl⟩:=sx
  cases y with
  | non=>cases h; cases sy; exact .str_none _ _
  | bl q=>cases h; cases sy; exact .str_bool _ _ _
  | int q=>cases h; obtain ⟨t2,rfl⟩:=sy; exact .str_int _ _ _ _
  | str q =>
   cases h; obtain ⟨t2,rfl⟩:=sy
   rw [vW]
   exact .str_str _ _ _ _
  | tup q=>cases h; obtain ⟨a2,xs2,us2,rfl,r2,v2,p2⟩:=sy; exact .str_tuple _ _ p2 hu0
  | lst q=>cases h; obtain ⟨a2,xs2,us2,rfl,r2,v2,p2⟩:=sy; exact .str_list _ _ p2.isList hu0
  | ob _ _ _=>cases h
  | dct _ _=>cases h
  | exc _=>cases h
 | tup p =>
  obtain ⟨a1,xs1,us1,rfl,r1,v1,p1⟩:=sx
  cases y with
  | non=>cases h; cases sy; exact .tuple_none p1 hu0
  | bl q=>cases h; cases sy; exact .tuple_bool _ p1 hu0
  | int q=>cases h; obtain ⟨t2,rfl⟩:=sy; exact .tuple_int _ _ p1 hu0
  | str q=>cases h; obtain ⟨t2,rfl⟩:=sy; exact .tuple_str _ _ p1 hu0
  | tup q =>
   obtain ⟨a2,xs2,us2,rfl,r2,v2,p2⟩:=sy
   replace h:(eqZ (eqN n) p q).map (fun r=>r && p.length == q.length)=some b:=h
   cases e1:eqZ (eqN n) p q with
   | none=>rw [e1] at h; cases h
   | some r =>
    rw [e1] at h; cases h
    obtain ⟨e,g1,g2⟩:=go r1 r2 v1 v2 e1
    rw [g2,t8 r1 v1,t8 r2 v2]
    exact .tuples p1 p2 hu0 g1
  | lst q=>cases h; obtain ⟨a2,xs2,us2,rfl,r2,v2,p2⟩:=sy; exact .tuple_list p1 p2.isList hu0
  | ob _ _ _=>cases h
  | dct _ _=>cases h
  | exc _=>cases h
 | lst p =>
  obtain ⟨a1,xs1,us1,rfl,r1,v1,p1⟩:=sx
  cases y with
  | non=>cases h; cases sy; exact .list_none p1.isList hu0
  | bl q=>cases h; cases sy; exact .list_bool _ p1.isList hu0
  | int q=>cases h; obtain ⟨t2,rfl⟩:=sy; exact .list_int _ _ p1.isList hu0
  | str q=>cases h; obtain ⟨t2,rfl⟩:=sy; exact .list_str _ _ p1.isList hu0
  | tup q=>cases h; obtain ⟨a2,xs2,us2,rfl,r2,v2,p2⟩:=sy; exact .list_tuple p1.isList p2 hu0
  | lst q =>
   obtain ⟨a2,xs2,us2,rfl,r2,v2,p2⟩:=sy
   replace h:(if p.length=q.length then eqZ (eqN n) p q else some false)=some b:=h
   have hl1:=t8 r1 v1
   have hl2:=t8 r2 v2
   by_cases hl:p.length=q.length
   ·rw [if_pos hl] at h
    obtain ⟨e,g1,g2⟩:=go r1 r2 v1 v2 h
    have hm:us1.toArray.size=us2.toArray.size:=hl1.symm.trans (hl.trans hl2)
    rw [g2, ← hm,Nat.min_self]
    exact .lists p1.isList p2.isList hm hu0 g1
   ·rw [if_neg hl] at h; cases h
    exact .lists_lengths p1.isList p2.isList (by rw [← hl1, ← hl2]; exact bne_iff_ne.mpr hl) hu0
  | ob _ _ _=>cases h
  | dct _ _=>cases h
  | exc _=>cases h
 | ob _ _ _=>cases y <;> cases h
 | dct _ _=>cases y <;> cases h
 | exc _=>cases y <;> cases h
theorem Bc (I:Inv X pins σ H s):∀ (n:Nat) {x y:D} {v u:V} {av au:Value} {b:Bool} {Ar:Around},aF (tx X c) A H x v→aF (tx X c) A H y u→RelV v av→RelV u au→eqN n x y=some b→Ar.units+n<cLine→RcNeAt Ar s av au (!b)
 | 0,_,_,_,_,_,_,_,_,_,_,_,_,h,_=>by cases h
 | n+1,_,_,_,_,_,_,_,_,rx,ry,rv,ru,h,hu=>ze (X:=X) (c:=c) (A:=A) (H:=H) (CJ I (zd I n) hu) (Nat.lt_of_le_of_lt (Nat.le_add_right _ _) hu) (rM I rx rv) (rM I ry ru) h
noncomputable def Ej (T:Tx)(neg:Bool):R2:=fun v u H Q=>∃ A x y b,aF T A H x v∧aF T A H y u∧eqN 100 x y=some b∧Q (.bl (if neg then !b else b)) H
theorem zg {k:Nat}(hr:dS k X.A):OpR X (compareOp .Eq) (Ej (tx X c) false):=by
 intro pins s σ H x y v u Q I rx ry h
 obtain ⟨A,dx,dy,b,r1,r2,e,q⟩:=h
 exact zd I 100 r1 r2 rx ry e (by have:=hr.un; omega) _ _ _ _ ⟨.bl b,H,I,rfl,q⟩
theorem Ek {k:Nat}(hr:dS k X.A):OpR X (compareOp .NotEq) (Ej (tx X c) true):=by
 intro pins s σ H x y v u Q I rx ry h
 obtain ⟨A,dx,dy,b,r1,r2,e,q⟩:=h
 exact Bc I 100 r1 r2 rx ry e (by have:=hr.un; omega) _ _ _ _ ⟨.bl (!b),H,I,rfl,q⟩
theorem uQ {T:Tx}(neg:Bool)(A:Addr→Prop)(H0 H:Hp)(x y:D)(v u:V)(d:D)(Q:VK)(nw:Nw A H)(rx:kR T A H0 H x v)(ry:kR T A H0 H y u)(e:eqF neg x y=some d)
  (k:∀ w H',aK H H'→kD T A H H' d w→Q w H'):Ej T neg v u H Q:=by
 unfold eqF at e
 cases e1:eqN 100 x y with
 | none=>rw [e1] at e; cases e
 | some b=>rw [e1] at e; cases e; exact ⟨A,x,y,b,rx,ry,e1,k _ H (aK.refl _) (Rep.bl _)⟩
variable {a b e:Expr}{f g:FE}{pos:Pos}
theorem GI {k:Nat}(hr:dS k X.A)(ha:PR X c a f)(hb:PR X c b g):PD X c (.Compare a [.Eq] [b] pos) (fp2 (eqF false) f g):=Ef (zg hr) (uQ false) ha hb (mR _)
theorem cZ {k:Nat}(hr:dS k X.A)(ha:PR X c a f)(hb:PR X c b g):PDT X c (.Compare a [.Eq] [b] pos) (ftB (fp2 (eqF false) f g)):=lW (zg hr) (uQ false) ha hb (mR _)
theorem n5 {k:Nat}(hr:dS k X.A)(ha:PR X c a f)(hb:PR X c b g):PDT X c (.Compare a [.NotEq] [b] pos) (ftB (fp2 (eqF true) f g)):=lW (Ek hr) (uQ true) ha hb (mR _)
theorem Be {T:Tx}(neg:Bool)(A:Addr→Prop)(H0 H:Hp)(x:D)(v:V)(d:D)(Q:VK)(nw:Nw A H)(rx:kR T A H0 H x v)(e:iX neg x=some d)(k:∀ w H',aK H H'→kD T A H H' d w→Q w H') :
  Q (.bl (if neg then !decide (v=.non) else decide (v=.non))) H:=by
 have hv:∃ b,(if neg then !decide (v=V.non) else decide (v=V.non))=b∧d=.bl b:=by
  cases x with
  | non=>cases e; cases aF.mU rx; cases neg <;> exact ⟨_,rfl,by simp⟩
  | bl q=>cases e; cases aF.bl_ rx; cases neg <;> exact ⟨_,rfl,by simp⟩
  | int q=>cases e; cases aF.dU rx; cases neg <;> exact ⟨_,rfl,by simp⟩
  | str q=>cases e; cases aF.h8 rx; cases neg <;> exact ⟨_,rfl,by simp⟩
  | tup q=>cases e; obtain ⟨_,_,rfl,_⟩:=aF.iq rx; cases neg <;> exact ⟨_,rfl,by simp⟩
  | lst q=>cases e; obtain ⟨_,_,rfl,_⟩:=aF.fL rx; cases neg <;> exact ⟨_,rfl,by simp⟩
  | ob _ _ _=>cases e; obtain ⟨_,_,_,_,rfl,_⟩:=Rep.ob_ (show Rep T A H (.ob _ _ _) _ from rx); cases neg <;> exact ⟨_,rfl,by simp⟩
  | dct _ _=>cases e; obtain ⟨_,_,rfl,_⟩:=Rep.Gg (show Rep T A H (.dct _ _) _ from rx); cases neg <;> exact ⟨_,rfl,by simp⟩
  | exc _=>cases e; obtain ⟨_,_,rfl,_⟩:=Rep.Gh (show Rep T A H (.exc _) _ from rx); cases neg <;> exact ⟨_,rfl,by simp⟩
 obtain ⟨b,h1,rfl⟩:=hv
 rw [h1]
 exact k _ H (aK.refl _) (Rep.bl _)
variable {j:Nat}{p2:Pos}
theorem CK {t:TE}{T:Tx}{f:FE}(h:∀ σ H Q,tP T (kD T) f σ H Q→t σ H Q){σ:L2.St}{H:Hp}{Q:Bool→Hp→Prop}(q:tP T kB (ftB f) σ H Q):tB t σ H Q:=h _ _ _ (rA q)
theorem zh {T:Tx}{neg:Bool}{σ:L2.St}{H:Hp}{Q:VK}(h:tP T (kD T) (fp1 (iX neg) f) σ H Q):tP T (kR T) f σ H fun x H1=>Q (.bl (if neg then !decide (x=.non) else decide (x=.non))) H1 :=
 rz (ρ:=kR T) (γ3:=V) (r:=fun x H1 (Q:VK)=>Q (.bl (if neg then !decide (x=.non) else decide (x=.non))) H1) (Be neg) h
theorem rN (ha:PR X c a f):PDT X c (.Compare a [.Is] [.Constant .none j p2] pos) (ftB (fp1 (iX false) f)):=PT.imp (y8 (Df ha)) fun _ _ _ h=>CK (fun _ _ _ h=>zh (neg:=false) h) h
theorem uR (ha:PR X c a f):PDT X c (.Compare a [.IsNot] [.Constant .none j p2] pos) (ftB (fp1 (iX true) f)):=PT.imp (y8 (Af ha)) fun _ _ _ h=>CK (fun _ _ _ h=>zh (neg:=true) h) h
end
end DL
end
section
namespace DL
open PySem PySem.Spec PyProof.Rows L2
theorem qG (i:Int)(n:Nat):max 0 (min (if i<0 then i+(n:Int) else i) n)=(((if i<0 then (i+(n:Int)).toNat else min i.toNat n):Nat):Int):=by
 by_cases h:i<0
 ·simp only [if_pos h]; omega
 ·simp only [if_neg h]; omega
theorem uS (lo hi:Option Int)(n:Nat):Builtin.Str.strSliceIndices lo hi 1 n=(List.range (HT.sIx n n hi - HT.sIx n 0 lo)).map fun k=>HT.sIx n 0 lo+k:=by
 unfold Builtin.Str.strSliceIndices
 have hlo:((match lo with | none=>(0:Int) | some i=>max 0 (min (if i<0 then i+(n:Int) else i) n)):Int)=((HT.sIx n 0 lo:Nat):Int):=by
  cases lo with
  | none=>rfl
  | some i=>exact qG i n
 have hhi:((match hi with | none=>(n:Int) | some i=>max 0 (min (if i<0 then i+(n:Int) else i) n)):Int)=((HT.sIx n n hi:Nat):Int):=by
  cases hi with
  | none=>rfl
  | some i=>exact qG i n
 have h1:(1:Int) > 0:=by decide
 simp only [h1,if_true]
 have go:∀ {a b a' b':Int},a=a'→b=b'→sliceRange a b 1=sliceRange a' b' 1:=fun h1 h2=>by rw [h1,h2]
 refine Eq.trans (go hlo hhi) ?_
 unfold sliceRange
 simp only [h1,if_true,Int.ediv_one,Int.one_mul]
 have hc:(if ((HT.sIx n 0 lo:Nat):Int)<((HT.sIx n n hi:Nat):Int) then ((HT.sIx n n hi:Nat):Int) - ((HT.sIx n 0 lo:Nat):Int)+1 - 1 else 0).toNat=HT.sIx n n hi - HT.sIx n 0 lo:=by
  split <;> omega
 rw [hc]
 apply List.map_congr_left
 intro k _
 omega
theorem xg (z:List Nat)(i k:Nat):((List.range k).map fun j=>i+j).filterMap (fun x=>z.toArray[x]?)=(z.drop i).take k:=by
 induction k with
 | zero=>simp
 | succ k ih =>
  rw [List.range_succ,List.map_append,List.filterMap_append,ih,List.take_add_one]
  congr 1
  rw [List.getElem?_drop]
  cases h:z[i+k]? with
  | none=>simp [h]
  | some v=>simp [h]
theorem xh (z:List Nat)(lo hi:Option Int):Txt.slice (mkS z) lo hi=mkS (cutD z lo hi):=by
 unfold Txt.slice cutD
 rw [f6,uS]
 have e:(List.map (fun k=>HT.sIx z.length 0 lo+k) (List.range (HT.sIx z.length z.length hi - HT.sIx z.length 0 lo))).filterMap (fun x=>(mkS z).cps[x]?)=(z.drop (HT.sIx z.length 0 lo)).take (HT.sIx z.length z.length hi - HT.sIx z.length 0 lo):=xg z _ _
 by_cases c:((1:Int) == 1 && (List.map (fun k=>HT.sIx z.length 0 lo+k) (List.range (HT.sIx z.length z.length hi - HT.sIx z.length 0 lo))).length == z.length)=true
 ·rw [if_pos c]
  have h:HT.sIx z.length z.length hi - HT.sIx z.length 0 lo=z.length:=by simpa using c
  have hle:=HT.yn z.length z.length (Nat.le_refl _) hi
  have h0:HT.sIx z.length 0 lo=0∨z=[]:=by
   by_cases hz:z.length=0
   ·exact .inr (List.length_eq_zero_iff.mp hz)
   ·exact .inl (by omega)
  rcases h0 with h0 | h0
  ·rw [h0] at h ⊢
   rw [h,List.drop_zero,List.take_of_length_le (Nat.le_refl _)]
  ·subst h0; simp
 ·rw [if_neg c,e]
section
variable {X:Cx}{c:Ct}{xq:XQ}{a b e:Expr}{f g:FE}{pos:Pos}
theorem El:SlR X Gn:=by
 intro pins s σ H x v vl vu lo hi sl Q I rx hs pl pu h
 obtain ⟨z,rfl,hz,q⟩:=h
 obtain ⟨t,rfl⟩:=rx
 have hz':(mkS z).length≤sizeLine:=small (by rw [f6]; exact hz)
 refine ⟨"str",_,PySem.F.slot_str_getitem.lookup,typeIs_str _ _ _, ?_⟩
 rw [← xh] at q
 cases pl with
 | none =>
  cases pu with
  | none=>exact wpAny_getItem_str_slice (l:=none) (u:=none) (st:=none) hs rfl (post_val_or_str ⟨Nat.le_trans (Txt.slice_le _ _ _) hz',fun t' k=>⟨.str _,H,I.tok _,⟨_,rfl⟩,q⟩⟩)
  | int j uj=>exact wpAny_getItem_str_slice (l:=none) (u:=some (j,uj)) (st:=none) hs rfl (post_val_or_str ⟨Nat.le_trans (Txt.slice_le _ _ _) hz',fun t' k=>⟨.str _,H,I.tok _,⟨_,rfl⟩,q⟩⟩)
 | int i ui =>
  cases pu with
  | none=>exact wpAny_getItem_str_slice (l:=some (i,ui)) (u:=none) (st:=none) hs rfl (post_val_or_str ⟨Nat.le_trans (Txt.slice_le _ _ _) hz',fun t' k=>⟨.str _,H,I.tok _,⟨_,rfl⟩,q⟩⟩)
  | int j uj=>exact wpAny_getItem_str_slice (l:=some (i,ui)) (u:=some (j,uj)) (st:=none) hs rfl (post_val_or_str ⟨Nat.le_trans (Txt.slice_le _ _ _) hz',fun t' k=>⟨.str _,H,I.tok _,⟨_,rfl⟩,q⟩⟩)
theorem II:SlR X (Gp X.K):=AB.or (DA.or El)
theorem t9 {lo hi:Option Expr}{fl fh:FO}{p2:Pos}(ha:PR X c a f)(hl:PDO X c lo fl)(hh:PDO X c hi fh):PD X c (.Subscript a (.Slice lo hi none p2) pos) (rC slD f fl fh):=PE.imp (yp II ha hl hh) fun _ _ _ h=>DV DW h
structure DefX (X:Cx)(N:List Str)(sc:Scope):Prop where
 hN:X.N=N
 hsc:X.env.scope=sc
 calm:X.calm=true
 nd:N.Nodup
structure Em (X:Cx)(N:List Str)(sc:Scope):Prop extends DefX X N sc where
 fn:∀ x,X.fn x=true
 never:PassesOwn (model X.prog X.w) X.A X.env X.xe
section
variable {N:List Str}{sc:Scope}
theorem DefX.nm (d:DefX X N sc){i:Nat}{x:Str}(h:N[i]?=some x)(hv:Vis sc x)(hd:(x == ("__debug__":Str))=false:=by decide +kernel)(hc:(x == ("__classdict__":Str))=false:=by decide +kernel):Nm X i x:=⟨by rw [d.hN]; exact h,by rw [d.hsc]; exact hv,hd,hc⟩
theorem DefX.gl (d:DefX X N sc){x:Str}(h:sc.names.lookup x=some .globalImplicit):Gl X x:=by
 show X.env.scope.names.lookup x=_
 rw [d.hsc]; exact h
theorem DefX.nlc (d:DefX X N sc){i:Nat}{x:Str}(h:N[i]?=some x)(hl:sc.names.lookup x=some .local):Nl X i x:=⟨by rw [d.hN]; exact d.nd,by rw [d.hN]; exact h,by rw [d.hsc]; exact .inl hl,by rw [d.hsc]; exact .inr hl⟩
theorem Em.nl (d:Em X N sc){i:Nat}{x:Str}(h:N[i]?=some x)(hl:Loc sc x):Nl X i x:=⟨by rw [d.hN]; exact d.nd,by rw [d.hN]; exact h,by rw [d.hsc]; exact hl,.inl (d.fn x)⟩
end
noncomputable def i9 (scope sc:Scope):Scope:={ scope with names:=scope.names.map fun (n,k)=>if (k == NameKind.free && sc.kind == .function && sc.names.lookup n == some .cell) then (n,NameKind.cell) else (n,k) }
theorem DefX.comp {N:List Str}{sc scope:Scope}{N':List Str}{cl:List (Str × Addr)}{C:Addr}{s2:Shared}{H2:Hp}{fp:List Addr}(d:DefX X N sc)(hN':N'.Nodup):DefX (aL X scope cl N' C s2 H2 fp) N' (i9 scope sc):=by
 refine ⟨rfl, ?_,d.calm,hN'⟩
 show (compEnvC scope cl C X.env).scope=_
 rw [← d.hsc]
 rfl
theorem cA:iW X [] (tP (tx X c) kB bU):=iW.imp yK fun σ H Q h=>by
 obtain ⟨W,O,env,b,E,e,q⟩:=h
 cases e
 exact q _ H (aK.refl _) rfl
theorem Bf {t:FT}(h:PDT X c e t):iW X [e] (tP (tx X c) kB t):=yL h
theorem zi {K:PySem.W.Frag}{nt n:Nat}{t:TGs}(h:∀ vs σ H Q,t vs σ H Q→t vs σ H fun σ2 H2=>((∀ j:Nat,nt≤j→σ2[j]?=σ[j]?)∧σ2.length=σ.length)∧Q σ2 H2):lg nt (Ak K n t):=fun x σ H Q q=>by
 obtain ⟨a,xs,e1,e2,e3,e4⟩:=q
 exact ⟨a,xs,e1,e2,e3,h _ _ _ _ e4⟩
theorem xi {nt:Nat}:∀ vs σ H Q,uu vs σ H Q→uu vs σ H fun σ2 H2=>((∀ j:Nat,nt≤j→σ2[j]?=σ[j]?)∧σ2.length=σ.length)∧Q σ2 H2:=fun vs σ H Q h=>⟨h.1,⟨fun _ _=>rfl,rfl⟩,h.2⟩
theorem oU {nt i:Nat}{t:TGs}(hi:i<nt)(h:∀ vs σ H Q,t vs σ H Q→t vs σ H fun σ2 H2=>((∀ j:Nat,nt≤j→σ2[j]?=σ[j]?)∧σ2.length=σ.length)∧Q σ2 H2)(mono:∀ vs σ H (Q Q':L2.St→Hp→Prop),(∀ σ H,Q σ H→Q' σ H)→t vs σ H Q→t vs σ H Q') :
  ∀ vs σ H Q,nH (gU i) t vs σ H Q→nH (gU i) t vs σ H fun σ2 H2=>((∀ j:Nat,nt≤j→σ2[j]?=σ[j]?)∧σ2.length=σ.length)∧Q σ2 H2:=fun vs σ H Q q=>by
 obtain ⟨v,r,e,q⟩:=q
 refine ⟨v,r,e,mono _ _ _ _ _ (fun σ2 H2 z=>?_) (h _ _ _ _ q)⟩
 exact ⟨⟨fun j hj=>(z.1.1 j hj).trans (List.getElem?_set_ne (by omega)),z.1.2.trans (by simp)⟩,z.2⟩
theorem qH:∀ vs σ H (Q Q':L2.St→Hp→Prop),(∀ σ H,Q σ H→Q' σ H)→uu vs σ H Q→uu vs σ H Q':=fun _ _ _ _ _ w h=>⟨h.1,w _ _ h.2⟩
theorem uT {i:Nat}{t:TGs}(mono:∀ vs σ H (Q Q':L2.St→Hp→Prop),(∀ σ H,Q σ H→Q' σ H)→t vs σ H Q→t vs σ H Q'):∀ vs σ H (Q Q':L2.St→Hp→Prop),(∀ σ H,Q σ H→Q' σ H)→nH (gU i) t vs σ H Q→nH (gU i) t vs σ H Q':=fun vs σ H Q Q' w h=>by
 obtain ⟨v,r,e,q⟩:=h
 exact ⟨v,r,e,mono _ _ _ _ _ w q⟩
theorem zj {K:PySem.W.Frag}{nt n i j:Nat}(hi:i<nt)(hj:j<nt):lg nt (Ak K n (nH (gU i) (nH (gU j) uu))):=zi (oU hi (oU hj xi qH) (uT qH))
variable {x:Str}{px:Pos}{iter elt tg:Expr}{ifs:List Expr}{scope sc:Scope}{N N':List Str}{nt:Nat}{cap:List Nat}{fi fe:FE}{ft:FT}{tgf:FG}{gt:TG}
theorem ez (d:DefX X N sc)(chk:gw sc scope N N' nt cap)(hcap:cap.Nodup)(hN':N'.Nodup)(hi:PR X c iter fi)
  (hg:∀ cl C s2 H2 fp,DefX (aL X scope cl N' C s2 H2 fp) N' (i9 scope sc)→PG (aL X scope cl N' C s2 H2 fp) tg gt) (hge:lg nt gt) (sg:gn (tx X c) tgf gt)
  (ht:∀ cl C s2 H2 fp,DefX (aL X scope cl N' C s2 H2 fp) N' (i9 scope sc)→iW (aL X scope cl N' C s2 H2 fp) ifs (tP (tx X c) kB ft))
  (he:∀ cl C s2 H2 fp,DefX (aL X scope cl N' C s2 H2 fp) N' (i9 scope sc)→PE (aL X scope cl N' C s2 H2 fp) elt (tP (tx X c) (kD (tx X c)) fe))
  (hs:vT iter=true:=by rfl):PF X c (.ListComp elt [⟨tg,iter,ifs,0⟩] scope pos) (dM nt cap tgf fi ft fe) :=
 PE.imp (lV (tt:=tP (tx X c) kB ft) (te:=tP (tx X c) (kD (tx X c)) fe) d.hsc d.hN chk d.calm (uP hi) (fun cl C s2 H2 fp=>hg cl C s2 H2 fp (d.comp hN')) hge (fun cl C s2 H2 fp=>ht cl C s2 H2 fp (d.comp hN')) (fun cl C s2 H2 fp=>he cl C s2 H2 fp (d.comp hN')) (d9 hs)) fun _ _ _ h=>vQ sg hcap h
theorem tj {p p2:Pos}{fs:FA}(d:DefX X N sc)(chk:gw sc scope N N' nt cap)(hcap:cap.Nodup)(hN':N'.Nodup)(hgr:Gl X "range")(hm:X.mg "range"=none)(ha:PDA X c [a] fs)
  (hg:∀ cl C s2 H2 fp,DefX (aL X scope cl N' C s2 H2 fp) N' (i9 scope sc)→PG (aL X scope cl N' C s2 H2 fp) tg gt) (hge:lg nt gt) (sg:gn (tx X c) tgf gt)
  (ht:∀ cl C s2 H2 fp,DefX (aL X scope cl N' C s2 H2 fp) N' (i9 scope sc)→iW (aL X scope cl N' C s2 H2 fp) ifs (tP (tx X c) kB ft))
  (he:∀ cl C s2 H2 fp,DefX (aL X scope cl N' C s2 H2 fp) N' (i9 scope sc)→PE (aL X scope cl N' C s2 H2 fp) elt (tP (tx X c) (kD (tx X c)) fe)) (hst:isStar a=false:=by rfl)
  :PF X c (.ListComp elt [⟨tg,.Call (.Name "range" p) [a] [] p2,ifs,0⟩] scope pos) (dH j9 nt cap tgf fs ft fe) :=
 PE.imp (lV (tt:=tP (tx X c) kB ft) (te:=tP (tx X c) (kD (tx X c)) fe) d.hsc d.hN chk d.calm (mP hgr hm ha (eN hst)) (fun cl C s2 H2 fp=>hg cl C s2 H2 fp (d.comp hN')) hge (fun cl C s2 H2 fp=>ht cl C s2 H2 fp (d.comp hN')) (fun cl C s2 H2 fp=>he cl C s2 H2 fp (d.comp hN')) (d9 rfl)) fun _ _ _ h=>sS sg hcap h
theorem zk {p p2:Pos}{fs:FA}(d:DefX X N sc)(chk:gw sc scope N N' nt cap)(hcap:cap.Nodup)(hN':N'.Nodup)(hgr:Gl X "range")(hm:X.mg "range"=none)(ha:PDA X c [a,b] fs)
  (hg:∀ cl C s2 H2 fp,DefX (aL X scope cl N' C s2 H2 fp) N' (i9 scope sc)→PG (aL X scope cl N' C s2 H2 fp) tg gt) (hge:lg nt gt) (sg:gn (tx X c) tgf gt)
  (ht:∀ cl C s2 H2 fp,DefX (aL X scope cl N' C s2 H2 fp) N' (i9 scope sc)→iW (aL X scope cl N' C s2 H2 fp) ifs (tP (tx X c) kB ft))
  (he:∀ cl C s2 H2 fp,DefX (aL X scope cl N' C s2 H2 fp) N' (i9 scope sc)→PE (aL X scope cl N' C s2 H2 fp) elt (tP (tx X c) (kD (tx X c)) fe)) (hst:isStar a=false:=by rfl) (hst2:isStar b=false:=by rfl)
  :PF X c (.ListComp elt [⟨tg,.Call (.Name "range" p) [a,b] [] p2,ifs,0⟩] scope pos) (dH sR nt cap tgf fs ft fe) :=
 PE.imp (lV (tt:=tP (tx X c) kB ft) (te:=tP (tx X c) (kD (tx X c)) fe) d.hsc d.hN chk d.calm (wO hgr hm ha (sU hst hst2) (eN hst2)) (fun cl C s2 H2 fp=>hg cl C s2 H2 fp (d.comp hN')) hge (fun cl C s2 H2 fp=>ht cl C s2 H2 fp (d.comp hN')) (fun cl C s2 H2 fp=>he cl C s2 H2 fp (d.comp hN')) (d9 rfl)) fun _ _ _ h=>yI sg hcap h
end
section
variable {P:Program}{w:World}{K:PySem.W.Frag}{mg:Str→Option Value}{base:Heap}{c:Ct}
structure BodyOk (P:Program)(w:World)(K:PySem.W.Frag)(mg:Str→Option Value)(base:Heap)(c:Ct)(N:List Str)(st:Stmt)(k:Nat)(F:FS):Prop where
 ok:∀ X:Cx,X.prog=P→X.w=w→X.K=K→X.mg=mg→X.base=base→Em X N (ag st)→dS k X.A→oT X c (fun _ _ _=>False) (aw st) F
theorem fO {x qual:Str}{st:Stmt}{fa:Addr}{fd:FuncData}{N ps:List Str}{k:Nat}{F:FS}(Fn:Fun K x qual st fa fd)(S:aG N ps (ag st))(hm:mg x=some (.ref fa))(hb:Binds K fd ps [])
  (body:BodyOk P w K mg base c N st k F):Def P w K mg base c x ps (k+1) (bz N.length F):=by
 refine ⟨fa,fd, ?_,hm,Fn.kp,hb⟩
 refine Fn.ok S (fun vs H Q E h=>h.1) fun cdv A outer s H vs Q E hr h=>⟨_,body.ok _ rfl rfl rfl rfl rfl ⟨⟨rfl,rfl,rfl,S.nd⟩,fun _=>rfl,PassesOwn.never⟩ hr, ?_⟩
 exact vR (E0:=E) h
theorem oq {x qual:Str}{st:Stmt}{fa:Addr}{fd:FuncData}{N ps:List Str}{k:Nat}{F:FS}(Fn:Fun K x qual st fa fd)(S:aG N ps (ag st))(hm:mg x=some (.ref fa))(hb:Binds K fd ps [])
  (body:BodyOk P w K mg base c N st k F):qa P w K mg base c x ps (k+1) (iQ N.length F):=by
 refine ⟨fa,fd, ?_,hm,Fn.kp,hb⟩
 refine Fn.ok S (fun vs H Q E h=>h.1) fun cdv A outer s H vs Q E hr h=>⟨_,body.ok _ rfl rfl rfl rfl rfl ⟨⟨rfl,rfl,rfl,S.nd⟩,fun _=>rfl,PassesOwn.never⟩ hr, ?_⟩
 exact sT (E0:=E) h
end
end DL
end
section
namespace DL
open PySem PySem.Spec PyProof.Rows L2
section
variable {P:Program}{w:World}{K:PySem.W.Frag}{mg:Str→Option Value}{base:Heap}{c:Ct}
theorem vB {x qual:Str}{st:Stmt}{fa:Addr}{fd:FuncData}{N ps:List Str}{k:Nat}{F:FS}(Fn:Fun K x qual st fa fd)(S:aG N ps (ag st))
  (body:BodyOk P w K mg base c N st k F):fz P w K mg base CX0 (k+1) fa fd ps (spD ⟨K,c.cl,c.fld⟩ ps.length (bz N.length F)):=by
 refine Fn.ok S (fun vs H Q E h=>h.1) fun cdv A outer s H vs Q E hr h=>⟨_,body.ok _ rfl rfl rfl rfl rfl ⟨⟨rfl,rfl,rfl,S.nd⟩,fun _=>rfl,PassesOwn.never⟩ hr, ?_⟩
 exact vR (E0:=E) h
noncomputable def cOk:D→Value→Bool
 | .str x,.str y _=>mkS x == y
 | .int i,.int j _=>i == j
 | _,_=>false
theorem Bg {T:Tx}{d:D}{u:Value}(h:cOk d u=true):∃ v,RelV v u∧∀ A H,Rep T A H d v:=by
 unfold cOk at h
 split at h
 ·next x y t=>exact ⟨.str y,⟨t,rfl⟩,fun A H=>by rw [← eq_of_beq h]; exact .str _⟩
 ·next i j t=>exact ⟨.int j,⟨t,rfl⟩,fun A H=>by rw [← eq_of_beq h]; exact .int _⟩
 ·cases h
theorem uU {x:Str}{u:Value}{d:D}(hm:mg x=some u)(hc:cOk d u=true):∃ v u,mg x=some u∧RelV v u∧∀ A H,Rep ⟨K,c.cl,c.fld⟩ A H d v:=by
 obtain ⟨v,r,e⟩:=Bg (T:=⟨K,c.cl,c.fld⟩) hc
 exact ⟨v,u,hm,r,e⟩
end
theorem ints_rep {T:Tx}{A:Addr→Prop}{H:Hp}:∀ ns:List Int,aC T A H (ns.map D.int) (ns.map V.int)
 | []=>.nil
 | n::ns=>.cons (.int n) (ints_rep ns)
end DL
end
section
namespace DL
open PySem PySem.Spec PyProof.Rows L2
noncomputable def xj (ds:List D):List D→Option (List D)
 | [x]=>if ds.length<1000000 then some (ds++[x]) else none
 | _=>none
noncomputable def fY (i:Nat)(f:FE):FS:=mW i xj (aj f az)
section
variable {X:Cx}{c:Ct}{xq:XQ}{e:Expr}{f:FE}{pos:Pos}
theorem uV {T:Tx}(A:Addr→Prop)(H:Hp)(a:Addr)(ds:List D)(xs:List V)(x:List D)(y:List V)(ds':List D)(Q:VK)(hl:H a=some (.lst xs))(r:aC T A H ds xs)(_:∀ b,A b→b≠a)(ra:kA T A H H x y)(e:xj ds x=some ds')
  (k:∀ ys,(∀ A' H',(∀ d v,Rep T A H d v→Rep T A' H' d v)→(∀ d v,aC T A H d v→aC T A' H' d v)→aC T A' H' ds' ys)→∀ w,Q w (upd H a (.lst ys))):vG (.ref a) y H Q:=by
 unfold xj at e
 split at e
 ·next d =>
  split at e
  ·next hz =>
   cases e
   obtain ⟨v,r1,rfl,h1,h2⟩:=aC.dF ra
   have h3:=h2.ju
   subst h3
   refine ⟨a,xs,v,rfl,rfl,hl, ?_,k _ (fun A' H' g gl=>?_) _⟩
   ·rw [← r.length]; exact Nat.lt_of_lt_of_le hz (by decide)
   ·exact (gl _ _ r).append (.cons (g _ _ h1) .nil)
  ·cases e
 ·cases e
theorem jf {i:Nat}{x:Str}{p1 p2 p3:Pos}(n:Nm X i x)(he:PD X c e f)(hs:isStar e=false:=by rfl)(hl:(p2.endLine == p3.line)=true:=by rfl) :
  PDS X c xq (.Expr (.Call (.Attribute (.Name x p1) "append" p2) [e] [] p3) pos) (fY i f):=by
 refine PS.imp (lN (vF PySem.F.plainAttrs_list PySem.F.slot_list_append PySem.F.type_list_append x3 (iP n.hN n.hv n.hd n.hc) (ae he ao hs) rfl (by rw [eN hs]; rfl) hl (aO hs) rfl) (gN rfl)) fun De σ H h=>?_
 obtain ⟨v,h1,⟨xs,_,a,rfl,ha⟩,h3⟩:=vO (tf:=tP (tx X c) (kA (tx X c)) (aj f az)) (fun Q h=>h) uV (fun _ _ _ _ _ h=>h) h
 obtain ⟨W,O,env,x,E,e1,q⟩:=h3
 exact ⟨.ref a,h1,.inl ⟨rfl,xs,SqL.of ha⟩,W,O,env,x,E,e1,fun v H' s r=>(q v H' s r).2⟩
end
end DL
end
section
namespace DL
open PySem PySem.Spec PyProof.Rows L2
section
variable {X:Cx}{c:Ct}{xq:XQ}{e elt a b iter tg:Expr}{pos:Pos}{gens:List Comprehension}{ifs:List Expr}{scope sc:Scope}{N N':List Str}{nt:Nat}{cap:List Nat}{fi fe:FE}{ft:FT}{tgf:FG}{gt:TG}
noncomputable def PFc (X:Cx)(c:Ct)(e:Expr)(ff:FP (List D)):Prop:=PF X c e ff∧∀ (i:Nat) (x:Str) (pos' spos:Pos),Nl X i x→swapsWith e (some (.Name x pos')) spos.line X.env=pure true→PS X (.Assign [.Name x pos'] e spos) (yb (tP (tx X c) (kF (tx X c)) ff) (gU i))
theorem xk {x:Str}{pos':Pos}{l:Nat}(d:DefX X N sc)(h:(sc.kind == .function && sc.names.lookup x == some .local && pos'.line == pos.line && !(scope.names.any fun (n,k)=>n == x && (k == .local || k == .cell)))=true) :
  swapsWith (.ListComp elt gens scope pos) (some (.Name x pos')) l X.env=pure true:=by
 rw [← d.hsc] at h
 have hk:X.env.scope.kind=.function:=by
  simp only [Bool.and_eq_true] at h
  exact eq_of_beq h.1.1.1
 have hb:X.env.blockKind=X.env.scope.kind:=by
  unfold Env.blockKind
  rw [hk]
  rfl
 show (pure (X.env.blockKind == .function && X.env.kindOf x == some .local && pos'.line == pos.line && !(scope.names.any fun (n,k)=>n == x && (k == .local || k == .cell))):Sem Bool)=pure true
 rw [hb]
 exact congrArg pure h
theorem tm {i:Nat}{x:Str}{pos' spos:Pos}{ff:FP (List D)}(d:DefX X N sc)(n:Nl X i x)(h:PFc X c (.ListComp elt gens scope pos) ff)(hs:(sc.kind == .function && sc.names.lookup x == some .local && pos'.line == pos.line && !(scope.names.any fun (n,k)=>n == x && (k == .local || k == .cell)))=true) :
  PDS X c xq (.Assign [.Name x pos'] (.ListComp elt gens scope pos) spos) (bG i (df ff)):=PS.imp (h.2 i x pos' spos n (xk d hs)) fun _ _ _ h=>Cu (vN h)
theorem zl (d:DefX X N sc)(chk:gw sc scope N N' nt cap)(hcap:cap.Nodup)(hN':N'.Nodup)(hi:PR X c iter fi)
  (hg:∀ cl C s2 H2 fp,DefX (aL X scope cl N' C s2 H2 fp) N' (i9 scope sc)→PG (aL X scope cl N' C s2 H2 fp) tg gt) (hge:lg nt gt) (sg:gn (tx X c) tgf gt)
  (ht:∀ cl C s2 H2 fp,DefX (aL X scope cl N' C s2 H2 fp) N' (i9 scope sc)→iW (aL X scope cl N' C s2 H2 fp) ifs (tP (tx X c) kB ft))
  (he:∀ cl C s2 H2 fp,DefX (aL X scope cl N' C s2 H2 fp) N' (i9 scope sc)→PE (aL X scope cl N' C s2 H2 fp) elt (tP (tx X c) (kD (tx X c)) fe))
  (hs:vT iter=true:=by rfl):PFc X c (.ListComp elt [⟨tg,iter,ifs,0⟩] scope pos) (dM nt cap tgf fi ft fe) :=
 ⟨ez d chk hcap hN' hi hg hge sg ht he hs,fun i x pos' spos n hsw=>PS.imp (vS (tt:=tP (tx X c) kB ft) (te:=tP (tx X c) (kD (tx X c)) fe) d.hsc d.hN chk d.calm (uP hi) (fun cl C s2 H2 fp=>hg cl C s2 H2 fp (d.comp hN')) hge (fun cl C s2 H2 fp=>ht cl C s2 H2 fp (d.comp hN')) (fun cl C s2 H2 fp=>he cl C s2 H2 fp (d.comp hN')) n.nd n.hN n.hl n.hf hsw (d9 hs)) fun _ _ _ h=>vQ sg hcap h⟩
end
end DL
end
section
namespace DL
open PySem PySem.Spec PyProof.Rows L2
section
variable {X:Cx}{c:Ct}{xq:XQ}{tg:Expr}
variable {elt iter:Expr}{pos:Pos}{ifs:List Expr}{scope sc:Scope}{N N':List Str}{nt:Nat}{cap:List Nat}{fi fe:FE}{ft:FT}{tgf:FG}{gt:TG}{F:FS}
end
end DL
end
section
namespace DL
open PySem PySem.Spec PyProof.Rows L2
noncomputable def En:D→D→Option D:=intD fun i j=>some (.int (i+j))
section
variable {X:Cx}{c:Ct}{xq:XQ}{e:Expr}{f:FE}{pos:Pos}
theorem Bh {T:Tx}{g:Int→Int→Int}(A:Addr→Prop)(H:Hp)(x y:D)(v u:V)(d:D)(Q:VK)(_:Nw A H)(rx:Rep T A H x v)(ry:Rep T A H y u)(e:intD (fun i j=>some (.int (g i j))) x y=some d)
  (k:∀ w H',aK H H'→Rep T A H' d w→Q w H'):ipI g v u H Q:=by
 unfold intD at e
 split at e
 ·next i j =>
  cases e
  cases rx.dU
  cases ry.dU
  exact ⟨i,j,rfl,rfl,k _ _ (aK.refl H) (.int _)⟩
 ·cases e
theorem tq {i:Nat}{x:Str}{p:Pos}(n:Nl X i x)(he:PD X c e f):PDS X c xq (.AugAssign (.Name x p) .Add e pos) (sQ i En f) :=
 PS.imp (Dl n.nd n.hN n.hl he Dm n.hf) fun _ _ _ h=>AU (Bh (g:=fun i j=>i+j)) h
end
end DL
end
section
namespace DL
open PySem PySem.Spec PyProof.Rows L2
section
variable {X:Cx}{c:Ct}{a b k:Expr}{f g h:FE}{pos:Pos}
end
@[simp] theorem CL (i:Nat)(f:FE)(env:aN):fY i f env=aM (qE env[i]?) fun ds=>aM (f env) fun x=>if ds.length<1000000 then some (.nx (env.set i (.own (ds++[x])))) else none:=by
 unfold fY mW
 cases h:env[i]? with
 | none=>rfl
 | some s =>
  cases s with
  | own ds =>
   show ((aj f az env).bind fun x=>(xj ds x).map fun ds'=>DFl.nx (env.set i (.own ds')))=aM (some ds) _
   rw [bV,xf]
   cases f env with
   | none=>rfl
   | some x =>
    rw [bV,bV,yP,bV]
    show (xj ds [x]).map _=_
    unfold xj
    dsimp only
    split <;> rfl
  | _=>rfl
end DL
end
section
namespace DL
open PySem PySem.Spec PyProof.Rows L2
theorem gm:∀ {ns:List Int} {us:List Value},Vals (ns.map V.int) us→IntsAre us ns
 | [],_,.nil=>.nil
 | n::ns,_,.cons r t=>by
  obtain ⟨k,rfl⟩:=r
  exact .cons n k (gm t)
section
variable {X:Cx}{c:Ct}{e:Expr}{f:FE}{pos:Pos}
theorem xl (hc:X.calm=true):jz X (.builtin "sum") (fun xs H Q=>∃ (a:Addr) (ns:List Int),xs=[.ref a]∧SqL X.K H a (ns.map V.int)∧Q (.int ns.sum) H):=by
 intro pins s σ H xs us Q I r h
 obtain ⟨a,ns,rfl,hS,q⟩:=h
 obtain ⟨u,rfl,ru⟩:=vals1 r
 cases ru
 obtain ⟨its,rv,p,hz⟩:=I.list hS
 have hi:=gm rv
 obtain ⟨ys,hy⟩:=hi.allInts.items
 have hl:s.heap.IsList a (intItems ys):=hy ▸ p.isList
 refine sum_intListG (I.ok.hd hc) hl fun h' tk t' hk=>⟨.int ns.sum,H,I.kept hk,⟨t', ?_⟩,q⟩
 have e1:ns=ys.toList.map (·.1):=by
  rw [← nums_intItems, ← hy]
  exact hi.numsOf.symm
 rw [preSum_eq,List.take_of_length_le (by simp), ← e1]
theorem jg {T:Tx}{A:Addr→Prop}{H:Hp}:∀ {ds:List D} {is:List Int} {vs:List V},intsOf ds=some is→aC T A H ds vs→vs=is.map V.int
 | [],_,_,h,r=>by
  unfold intsOf at h
  cases h
  exact r.ju
 | d::ds,_,_,h,r=>by
  unfold intsOf at h
  obtain ⟨x,t,rfl,h1,h2⟩:=r.dF
  split at h
  ·next heq=>cases heq
  ·next i r' heq =>
   cases heq
   cases e:intsOf ds with
   | none=>rw [e] at h; cases h
   | some js =>
    rw [e] at h
    cases h
    cases h1.dU
    rw [jg e h2]
    rfl
  ·cases h
theorem Bi {T:Tx}(A:Addr→Prop)(H0 H:Hp)(x:D)(v:V)(d:D)(Q:VK)(_:Nw A H)(rx:kR T A H0 H x v)(e:sV x=some d)(k:∀ w H',aK H H'→kD T A H H' d w→Q w H'):∃ (a:Addr) (ns:List Int),[v]=[.ref a]∧SqL T.K H a (ns.map V.int)∧Q (.int ns.sum) H:=by
 unfold sV at e
 split at e
 ·next ds =>
  cases e1:intsOf ds with
  | none=>rw [e1] at e; cases e
  | some is =>
   rw [e1] at e
   dsimp only [Option.bind_some] at e
   split at e
   ·cases e
    obtain ⟨a,xs,rfl,hS,hr⟩:=aF.fL rx
    cases jg e1 hr
    exact ⟨a,is,rfl,hS,k _ _ (aK.refl H) (.int _)⟩
   ·cases e
 ·cases e
theorem uW {p:Pos}(hg:Gl X "sum")(hm:X.mg "sum"=none)(hc:X.calm=true)(ha:PR X c e f)(he:isStar e=false:=by rfl):PD X c (.Call (.Name "sum" p) [e] [] pos) (fp1 sV f):=yW (xl hc) Bi hg hm boot_sum ha he
end
end DL
end
section
namespace DL
open PySem PySem.Spec PyProof.Rows L2
section
variable {X:Cx}{c:Ct}{e:Expr}{f:FE}{pos:Pos}
end
end DL
end
section
namespace DL
open PySem PySem.Spec PyProof.Rows L2
section
variable {X:Cx}{c:Ct}{xq:XQ}{e:Expr}{f:FE}{pos:Pos}
end
end DL
end
section
namespace DL
open PySem PySem.Spec PyProof.Rows L2
noncomputable def jK:D→D→Option D
 | .str sep,.lst ds=>(strsOf ds).bind fun xs=>if (xs.map List.length).sum+xs.length * sep.length≤1000000 then some (.str (gi sep xs)) else none
 | _,_=>none
theorem vX (sep:List Nat):∀ xs:List (List Nat),Str.join (mkS sep) (xs.map mkS)=mkS (gi sep xs)
 | []=>rfl
 | [x]=>rfl
 | x::y::r=>by
  have ih:=vX sep (y::r)
  show mkS x++mkS sep++Str.join (mkS sep) ((y::r).map mkS)=mkS (x++sep++gi sep (y::r))
  rw [ih]
  show (⟨(x.toArray++sep.toArray)++(gi sep (y::r)).toArray⟩:Str)=_
  simp [mkS]
theorem qI:∀ {xs:List (List Nat)} {us:List Value},Vals (xs.map fun x=>V.str (mkS x)) us→StrsAre us (xs.map mkS)
 | [],_,.nil=>.nil
 | x::xs,_,.cons r t=>by
  obtain ⟨k,rfl⟩:=r
  exact .cons _ k (qI t)
theorem oV {T:Tx}{A:Addr→Prop}{H:Hp}:∀ {ds:List D} {is:List (List Nat)} {vs:List V},strsOf ds=some is→aC T A H ds vs→vs=is.map fun x=>V.str (mkS x)
 | [],_,_,h,r=>by
  unfold strsOf at h
  cases h
  exact r.ju
 | d::ds,_,_,h,r=>by
  unfold strsOf at h
  obtain ⟨x,t,rfl,h1,h2⟩:=r.dF
  split at h
  ·next heq=>cases heq
  ·next i r' heq =>
   cases heq
   cases e:strsOf ds with
   | none=>rw [e] at h; cases h
   | some js =>
    rw [e] at h
    cases h
    cases h1.h8
    rw [oV e h2]
    rfl
  ·cases h
noncomputable def rJoin (K:PySem.W.Frag):V→List V→Hp→VK→Prop:=fun x vs H Q=>∃ (sep:List Nat) (a:Addr) (xs:List (List Nat)),x=.str (mkS sep)∧vs=[.ref a]∧SqL K H a (xs.map fun x=>V.str (mkS x))∧(xs.map List.length).sum+xs.length * sep.length≤1000000∧Q (.str (mkS (gi sep xs))) H
section
variable {X:Cx}{c:Ct}{e o:Expr}{f g:FE}{pos:Pos}
theorem Bj:MtR X "str.join" (rJoin X.K):=by
 intro pins s σ H x vs v us Q I rx rv h
 obtain ⟨sep,a,xs,rfl,rfl,hS,hz,q⟩:=h
 obtain ⟨t,rfl⟩:=rx
 obtain ⟨u,rfl,ru⟩:=vals1 rv
 cases ru
 obtain ⟨its,r,p,_⟩:=I.list hS
 refine join_list (ys:=xs.map mkS) p.isList (by simpa using qI r) ?_ fun t' k=>⟨.str (mkS (gi sep xs)),H,I.tok _,⟨t', ?_⟩,q⟩
 ·have e1:((xs.map mkS).map (·.length))=xs.map List.length:=by
   rw [List.map_map]
   exact List.map_congr_left fun x _=>f6 x
  rw [e1,List.length_map,f6]
  omega
 ·show Value.str (Txt.join (mkS sep) (xs.map mkS)) t'=_
  have:Txt.join (mkS sep) (xs.map mkS)=mkS (gi sep xs):=(StrLaws.glued_eq_join _ _).trans (vX sep xs)
  rw [this]
theorem Bk {T:Tx}{σ:L2.St}{H:Hp}{Q:VK}(h:tP T (kD T) (fp2 jK f g) σ H Q):tBM T.K "str" (rJoin T.K) (tP T (kD T) f) (tP T (kRA T) (faR g)) σ H Q:=by
 obtain ⟨W,O,env,d,E,e,q⟩:=h
 unfold fp2 at e
 cases e1:f env with
 | none=>rw [e1] at e; cases e
 | some x =>
  rw [e1] at e
  dsimp only [Option.bind_some] at e
  cases e2:g env with
  | none=>rw [e2] at e; cases e
  | some y =>
   rw [e2] at e
   dsimp only [Option.bind_some] at e
   unfold jK at e
   split at e
   ·next sep ds =>
    cases e3:strsOf ds with
    | none=>rw [e3] at e; cases e
    | some xs =>
     rw [e3] at e
     dsimp only [Option.bind_some] at e
     split at e
     ·next hz =>
      cases e
      refine ⟨W,O,env,_,E,e1,fun v1 H1 s1 r1=>?_⟩
      cases Rep.h8 r1
      refine ⟨rfl,W,O,env,[.lst ds],E.mono s1,by unfold faR; rw [e2]; rfl,fun vs H2 s2 r2=>?_⟩
      obtain ⟨v,rfl,rv⟩:=r2
      obtain ⟨a,us,rfl,hS,hr⟩:=aF.fL rv
      cases oV e3 hr
      exact ⟨sep,a,xs,rfl,rfl,hS,hz,q _ _ (s1.trans s2) (.str _)⟩
     ·cases e
   ·cases e
theorem ou {p2 p3:Pos}(ho:PD X c o f)(ha:PR X c e g)(hb:attributeBase o "join" X.env (eval o X.env)=eval o X.env:=by rfl)(hs:isStar e=false:=by rfl)(hl:(p2.endLine == p3.line)=true:=by rfl) :
  PD X c (.Call (.Attribute o "join" p2) [e] [] p3) (fp2 jK f g) :=
 PE.imp (vF PySem.F.plainAttrs_str PySem.F.slot_str_join PySem.F.type_str_join Bj ho (rH ha hs) hb (by rw [eN hs]; rfl) hl (aO hs) rfl) fun _ _ _ h=>Bk h
end
end DL
end
section
namespace DL
open L2
noncomputable def oW (F:List Nat→D→Option D):D→D→Option D
 | .str z,y=>F z y
 | _,_=>none
noncomputable def ljustF (z:List Nat):D→Option D
 | .int i=>if -1000000≤i∧i≤1000000 then some (.str (z++List.replicate (i.toNat - z.length) 32)) else none
 | _=>none
noncomputable def rjustF (z:List Nat):D→Option D
 | .int i=>if -1000000≤i∧i≤1000000 then some (.str (List.replicate (i.toNat - z.length) 32++z)) else none
 | _=>none
@[simp] theorem GJ (F:List Nat→D→Option D)(z:List Nat)(y:D):oW F (.str z) y=F z y:=(Eq.refl _).trans (Eq.refl _)
@[simp] theorem Fs (z:List Nat)(i:Int):ljustF z (.int i)=if -1000000≤i∧i≤1000000 then some (.str (z++List.replicate (i.toNat - z.length) 32)) else none:=(Eq.refl _).trans (Eq.refl _)
@[simp] theorem Ft (z:List Nat)(i:Int):rjustF z (.int i)=if -1000000≤i∧i≤1000000 then some (.str (List.replicate (i.toNat - z.length) 32++z)) else none:=(Eq.refl _).trans (Eq.refl _)
@[simp] theorem ia (sep:List Nat)(ds:List D):jK (.str sep) (.lst ds)=aM (strsOf ds) fun xs=>if (xs.map List.length).sum+xs.length * sep.length≤1000000 then some (.str (gi sep xs)) else none:=(Eq.refl _).trans (Eq.refl _)
theorem lh (xs:List (List Nat)):strsOf (xs.map D.str)=some xs:=by
 induction xs with
 | nil=>rfl
 | cons x r ih=>show (strsOf (r.map D.str)).map (x::·)=_; rw [ih]; rfl
@[simp] theorem HY (i j:Int):En (.int i) (.int j)=some (.int (i+j)):=(Eq.refl _).trans (Eq.refl _)
theorem Eo (a:Int):cb a 0=[]:=rfl
theorem oX (tg:FG)(body:FS)(d:D)(ds:List D)(env:aN):runFor tg body (d::ds) env=aM (tg d env) fun env1=>aM (body env1) fun r=>match r with
  | .nx e=>runFor tg body ds e
  | .ct e=>runFor tg body ds e
  | .bk e=>some (.nx e)
  | r=>some r:=rfl
theorem fQ {tg:FG}{body:FS}{d:D}{ds:List D}{env e1 e2:aN}(h1:tg d env=some e1)(h2:body e1=some (.nx e2)):runFor tg body (d::ds) env=runFor tg body ds e2:=by
 rw [oX,h1,bV,h2,bV]
noncomputable def xm:D→Option (List D)
 | .lst ds=>some ds
 | _=>none
noncomputable def jr (ds:List D):List D:=ds.zipIdx.map fun p=>.tup [.int (p.2:Nat),p.1]
noncomputable def oY (tg:FG)(fi:FE)(body:FS):FS:=fun env=>(fi env).bind fun x=>(xm x).bind fun ds=>runFor tg body (jr ds) env
@[simp] theorem HZ (ds:List D):xm (.lst ds)=some ds:=(Eq.refl _).trans (Eq.refl _)
@[simp] theorem Fu (tg:FG)(fi:FE)(body:FS)(env:aN):oY tg fi body env=aM (fi env) (fun x=>aM (xm x) (fun ds=>runFor tg body (jr ds) env)):=(Eq.refl _).trans (Eq.refl _)
theorem Fv:jr []=[]:=rfl
theorem xn (ds:List D):(jr ds).length=ds.length:=by simp [jr]
noncomputable def qJ (i:Nat)(ds:List D):List D:=(ds.zipIdx i).map fun p=>.tup [.int (p.2:Nat),p.1]
theorem I9 (ds:List D):jr ds=qJ 0 ds:=rfl
theorem uX (i:Nat)(d:D)(ds:List D):qJ i (d::ds)=.tup [.int (i:Nat),d]::qJ (i+1) ds:=rfl
theorem xo (i:Nat):qJ i []=[]:=rfl
@[simp] theorem Fw (i j:Nat)(a b:D)(env:aN):kN [i,j] (.tup [a,b]) env=some ((env.set i (.val a)).set j (.val b)):=(Eq.refl _).trans (Eq.refl _)
theorem tu (n:Nat):∀ a b:List (List Nat),a.length=b.length→eqZ (eqN (n+1)) (a.map D.str) (b.map D.str)=some (a == b)
 | [],[],_=>rfl
 | x::a,y::b,h=>by
  have ih:=tu n a b (by simpa using h)
  show ((eqN (n+1) (.str x) (.str y)).bind fun p=>(eqZ (eqN (n+1)) (a.map D.str) (b.map D.str)).map fun q=>p && q)=_
  rw [ih,uL]; rfl
 | [],y::b,h=>absurd h (by simp)
 | x::a,[],h=>absurd h (by simp)
theorem vY (a b:List (List Nat)):eqN 100 (.lst (a.map D.str)) (.lst (b.map D.str))=some (a == b):=by
 show (if (a.map D.str).length=(b.map D.str).length then eqZ (eqN 99) (a.map D.str) (b.map D.str) else some false)=_
 by_cases h:a.length=b.length
 ·rw [if_pos (by simpa using h)]; exact tu 98 a b h
 ·rw [if_neg (by simpa using h)]
  have:(a == b)=false:=by
   rw [beq_eq_false_iff_ne]; intro e; exact h (by rw [e])
  rw [this]
theorem Ep (z:List Nat)(c:Int)(hz:0<z.length):∃ (k:Nat) (x:Nat),c % (z.length:Int)=k∧z[k]?=some x∧x∈z:=by
 obtain ⟨k,hk,hl⟩:=fF c z.length hz
 exact ⟨k,z[k],hk,List.getElem?_eq_getElem hl,List.getElem_mem hl⟩
theorem Bl (z:List Nat)(m:Nat)(c:Int)(hm:z.length=m)(hz:0<m):∃ (k:Nat) (x:Nat),c % (m:Int)=k∧z[k]?=some x∧x∈z:=by
 subst hm; exact Ep z c hz
theorem CM {tg:FG}{ft:FT}{fe:FE}{env:aN}:bf tg ft fe env []=some []:=rfl
theorem bP {tg:FG}{ft:FT}{fe:FE}{env e:aN}{d y:D}{ds ys:List D}(h1:tg d env=some e)(h2:ft e=some true)(h3:fe e=some y)(h4:bf tg ft fe env ds=some ys):bf tg ft fe env (d::ds)=some (y::ys):=by
 rw [bf,h1]; dsimp only [Option.bind_some]; rw [h2]; dsimp only [Option.bind_some]; rw [if_pos rfl,h3,h4]; rfl
theorem kh {tg:FG}{ft:FT}{fe:FE}{env e:aN}{d:D}{ds ys:List D}(h1:tg d env=some e)(h2:ft e=some false)(h4:bf tg ft fe env ds=some ys):bf tg ft fe env (d::ds)=some ys:=by
 rw [bf,h1]; dsimp only [Option.bind_some]; rw [h2]; dsimp only [Option.bind_some]; rw [if_neg (by simp),h4]
end DL
end
section
namespace DL
open PySem PySem.Spec PyProof.Rows L2
noncomputable def rSM (F:List Nat→D→Option D):V→List V→Hp→VK→Prop:=fun x vs H Q=>∃ (z:List Nat) (y d:D) (u w:V),x=.str (mkS z)∧vs=[u]∧flat y=some u∧F z y=some d∧flat d=some w∧Q w H
structure SmK (X:Cx)(name:Str)(F:List Nat→D→Option D):Prop where
 fl:∀ z y d,F z y=some d→(∃ u,flat y=some u)∧∃ w,flat d=some w
 mt:∃ id:String,PySem.Slot "str" name id∧typeOf (.builtin id)=pure (.type "method_descriptor")∧MtR X id (rSM F)
section
variable {X:Cx}{c:Ct}{e o:Expr}{f g:FE}{pos:Pos}
theorem Es {T:Tx}{F:List Nat→D→Option D}{σ:L2.St}{H:Hp}{Q:VK}(fl:∀ z y d,F z y=some d→(∃ u,flat y=some u)∧∃ w,flat d=some w)(h:tP T (kD T) (fp2 (oW F) f g) σ H Q) :
  tBM T.K "str" (rSM F) (tP T (kD T) f) (tP T (kA T) (aj g az)) σ H Q:=by
 obtain ⟨W,O,env,d,E,e,q⟩:=h
 unfold fp2 at e
 cases e1:f env with
 | none=>rw [e1] at e; cases e
 | some x =>
  rw [e1] at e
  dsimp only [Option.bind_some] at e
  cases e2:g env with
  | none=>rw [e2] at e; cases e
  | some y =>
   rw [e2] at e
   dsimp only [Option.bind_some] at e
   cases x with
   | str z =>
    have e:F z y=some d:=e
    obtain ⟨⟨u,hu⟩,⟨w,hw⟩⟩:=fl _ _ _ e
    refine ⟨W,O,env,_,E,e1,fun v1 H1 s1 r1=>?_⟩
    cases Rep.h8 r1
    refine ⟨rfl,W,O,env,[y],E.mono s1,by unfold aj az; rw [e2]; rfl,fun vs H2 s2 r2=>?_⟩
    obtain ⟨v,r,rfl,rv,rr⟩:=aC.dF r2
    cases rr.ju
    have:=(yA (A':=Cl W O) (H':=H2) hu (aF.of rv)).1
    subst this
    exact ⟨z,y,d,_,w,rfl,rfl,hu,e,hw,q _ _ (s1.trans s2) (vM hw)⟩
   | _=>cases e
theorem uY {name:Str}{F:List Nat→D→Option D}{p2 p3:Pos}(K:SmK X name F)(ho:PD X c o f)(ha:PD X c e g)(hb:attributeBase o name X.env (eval o X.env)=eval o X.env:=by rfl)(hs:isStar e=false:=by rfl)(hl:(p2.endLine == p3.line)=true:=by rfl) :
  PD X c (.Call (.Attribute o name p2) [e] [] p3) (fp2 (oW F) f g):=by
 obtain ⟨fl,id,s1,s2,m⟩:=K
 exact PE.imp (vF PySem.F.plainAttrs_str s1 s2 m ho (ae ha ao hs) hb (by rw [eN hs]; rfl) hl (aO hs) rfl) fun _ _ _ h=>Es fl h
end
end DL
end
section
namespace DL
open PySem PySem.Spec PyProof.Rows L2
section
variable {X:Cx}{c:Ct}{xq:XQ}{e k:Expr}{f g:FE}{pos:Pos}
end
end DL
end
section
namespace L2
open PySem PySem.Spec PyProof.Rows
section
variable {X:Cx}{pins:List (Addr × Obj)}{σ:List (Option V)}{H H':Hp}{s:Shared}{h':Heap}
theorem Inv.Bm {t':Nat}{e it p:Addr}{vs:List V}(I:Inv X pins σ H s)(k:∀ b o,b≠e→b≠it→s.heap.get? b=some o→h'.get? b=some o)(fe:kx X pins H e)(fi:kx X pins H it)(fp:kx X pins H p)
  (hp:s.heap.get? p=none) (new:fy X.prog X.w (upd H p (.tup vs)) h' p (.tup vs)):Inv X pins σ (upd H p (.tup vs)) { s with heap:=h',toks:=t' }:=by
 have ne:∀ b u,H b=some u→b≠e:=fun b u q z=>by rw [z,fe.1] at q; cases q
 have ni:∀ b u,H b=some u→b≠it:=fun b u q z=>by rw [z,fi.1] at q; cases q
 have np:∀ b u,H b=some u→b≠p:=fun b u q z=>by rw [z,fp.1] at q; cases q
 have kk:∀ b o,b ∉ [e,it,p]→s.heap.get? b=some o→h'.get? b=some o:=fun b o hb q=>k b o (fun z=>hb (by simp [z])) (fun z=>hb (by simp [z])) q
 refine I.step (g':=s.gens) (d':=s.drawn) (ch:=[e,it,p]) (fun b hb=>?_) (fun b o _ _ hc q _=>kk b o hc q) (fun b o _ _ hc q _=>⟨o.slots,kk b o hc q⟩) (fun b _ hc _ n=>by rw [aH (fun z=>hc (by simp [z]))]; exact n)
  (fun b o hc q=>⟨o,kk b o hc q⟩) (fun b xs q=>by rw [aH (np b _ q)]; exact q) (fun b _ _ q=>by rw [aH (np b _ q)]; exact q) (fun b ps q=>⟨#[],by rw [aH (np b _ q),q]; simp⟩) (fun m hm=>?_) (fun b u q=>?_) I.bare
 ·have:b=e∨b=it∨b=p:=by simpa using hb
  rcases this with rfl | rfl | rfl
  ·exact ⟨fe.2.2.2.1,fe.2.1,fe.2.2.2.2.1,fe.2.2.2.2.2⟩
  ·exact ⟨fi.2.2.2.1,fi.2.1,fi.2.2.2.2.1,fi.2.2.2.2.2⟩
  ·exact ⟨fp.2.2.2.1,fp.2.1,fp.2.2.2.2.1,fp.2.2.2.2.2⟩
 ·obtain ⟨o,es,ep,ho,r⟩:=hm
  exact ⟨o,es,ep,k _ o (Ne.symm fe.2.1) (Ne.symm fi.2.1) ho,r⟩
 ·by_cases hb:b=p
  ·subst hb; rw [bD] at q; cases q; exact new
  ·rw [aH hb] at q
   refine (I.hok b u q).oE (fun c v hc z=>k c v ?_ ?_ z) (fun c z=>by rw [aH (np c _ z)]; exact z) fun c xs z=>by rw [aH (np c _ z)]; exact z
   ·rcases hc with z | z
    ·rw [z]; exact ne b u q
    ·exact ne c _ z
   ·rcases hc with z | z
    ·rw [z]; exact ni b u q
    ·exact ni c _ z
end
noncomputable def Ite (K:PySem.W.Frag)(a:Addr):It :=
 ⟨fun i H=>∃ xs x,SqL K H a xs∧xs[i]?=some x,fun i H v H'=>∃ p y,H p=none∧v=.ref p∧H'=upd H p (.tup [.int (i:Nat),y])∧∀ xs,SqL K H a xs→xs[i]?=some y,fun i H=>∃ xs,SqL K H a xs∧xs.length≤i⟩
theorem xp {P:Program}{w:World}{K:PySem.W.Frag}{ts:List Expr}{tk:Nat}{tp:Pos}(a e it:Addr)(hne:e≠it):Turn P w K (.Tuple ts tk tp) (Ite K a) [e,it] e (fun i h=>(∃ old,IsEnum h e it (i:Nat) old)∧h.IsListIter it a i) where
 mem:=by simp
 obj:=fun i h st b hb=>by
  obtain ⟨⟨old,he⟩,o,ho,c,d⟩:=st
  have:b=e∨b=it:=by simpa using hb
  rcases this with rfl | rfl
  ·exact ⟨_,he,fun v z=>by cases z⟩
  ·exact ⟨o,ho,fun v z=>by rw [d] at z; cases z⟩
 keep:=fun i h h' st k=>⟨let ⟨old,he⟩:=st.1; ⟨old,k e (by simp) _ he⟩,st.2.at fun o q=>k it (by simp) o q⟩
 item:=by
  intro X hP hw hK hc i pins s σ H E I hf st hg
  subst hP hw hK
  obtain ⟨⟨old,he⟩,hit⟩:=st
  obtain ⟨xs,x,hq,hx⟩:=hg
  obtain ⟨its,rv,p,hz⟩:=I.list hq
  obtain ⟨u,hu,ru⟩:=rv.get hx
  have fe:=hf e (by simp)
  have fi:=hf it (by simp)
  refine wpAny_pyNext_enum_item he hit p.isList (x:=u) (by simpa using hu) hne fun h₁ heo hit₁ ht₁ hz₁ hk₁=>?_
  refine ⟨_,rfl,wpAny_letOwnedTupleGo_enum heo fun h₂ he₂ hs₂=>?_⟩
  have helt:e<s.heap.objs.size:=Heap.lt_size he
  have hilt:it<s.heap.objs.size:=by obtain ⟨o,ho,_⟩:=hit; exact Heap.lt_size ho
  have keep:∀ b o,b≠e→b≠it→s.heap.get? b=some o→h₂.get? b=some o:=fun b o h1 h2 q=>(hs₂.2 b h1).trans (hk₁ b o h1 h2 q)
  have htup:IsTup h₂ s.heap.objs.size #[.int (i:Nat) s.toks,u]:=⟨_,(hs₂.2 _ (Nat.ne_of_gt helt)).trans ht₁,rfl,_,rfl⟩
  have hit₂:h₂.IsListIter it a (i+1):=hit₁.at fun o q=>(hs₂.2 it (Ne.symm hne)).trans q
  have fp:=I.oH (Nat.le_refl _) (I.hok.fresh (Nat.le_refl _))
  refine ⟨.ref s.heap.objs.size,upd H s.heap.objs.size (.tup [.int (i:Nat),x]), ?_,rfl,⟨_,x,I.hok.fresh (Nat.le_refl _),rfl,rfl,fun ys hy=>by rw [I.iU hy hq]; exact hx⟩,⟨⟨_,by simpa using he₂⟩,hit₂⟩,fun b hb=>?_⟩
  ·exact I.Bm (t':=s.toks+1) keep fe fi fp (Heap.get?_none_of_le (Nat.le_refl _)) ⟨(show (2:Nat)≤sizeLine by decide),[.int (i:Nat) s.toks,u],.cons ⟨_,rfl⟩ (.cons ru .nil),htup⟩
  ·have:b=e∨b=it:=by simpa using hb
   rcases this with rfl | rfl
   ·rw [aH (Nat.ne_of_lt helt)]; exact fe.1
   ·rw [aH (Nat.ne_of_lt hilt)]; exact fi.1
 done:=by
  intro X hP hw hK hc i pins s σ H E I hf st hg
  subst hP hw hK
  obtain ⟨⟨old,he⟩,hit⟩:=st
  obtain ⟨xs,hq,hx⟩:=hg
  obtain ⟨its,rv,p,hz⟩:=I.list hq
  obtain ⟨f0,f1,f2,f3,f4,f5⟩:=hf it (by simp)
  have hl:=rv.length
  exact wpAny_pyNext_enum_end (I.ok.hd hc) he hit p.isList (by simp; omega) fun h' eb=>⟨rfl,I.turned (t':=s.toks) (fun b o hb q=>eb b o hb q) f0 f1 f3 f4 f5⟩
 self:=fun _ _ _ _ _ st h=>by
  obtain ⟨⟨old,he⟩,_⟩:=st
  exact wpAny_pyIter_enum he h
noncomputable def CN (K:PySem.W.Frag)(ta:TA):TI:=fun σ H R=>ta σ H fun vs H1=>∃ a,vs=[.ref a]∧(∃ xs,SqL K H1 a xs)∧R (Ite K a) H1
theorem Bn {X:Cx}{a:Expr}{ta:TA}{p pos:Pos}{ts:List Expr}{tk:Nat}{tp:Pos}(hg:Gl X "enumerate")(hm:X.mg "enumerate"=none)(ha:PA X [a] ta)(hs:starEach [a] X.env=[(false,eval a X.env)]:=by rfl) :
  PI X (.Tuple ts tk tp) (.Call (.Name "enumerate" p) [a] [] pos) (CN X.K ta):=by
 intro pins s σ H R I h
 refine Call_ (gS I hg hm boot_enumerate (PyProof.Rows.callWith_type1 (cD (ha pos pins s σ H _ I h) fun us s1 vs H1 I1 r1 q1=>?_) hs rfl))
 obtain ⟨l,e,⟨xs,hq⟩,q⟩:=q1
 subst e
 cases r1 with
 | cons r rr =>
  cases rr
  cases r
  obtain ⟨its,rv,pl,hz⟩:=I1.list hq
  refine call_enumerate_list pl.isList fun h' he hit hsz hk=>?_
  refine wpAny_pyIter_enum he ?_
  refine ⟨s1.heap.objs.size+1,[s1.heap.objs.size+1,s1.heap.objs.size],_,_,H1,rfl,I1.kept (t':=s1.toks) hk,xp l _ _ (Nat.succ_ne_self _),⟨⟨_,by simpa using he⟩,hit⟩,fun b hb=>?_,q⟩
  have:b=s1.heap.objs.size+1∨b=s1.heap.objs.size:=by simpa using hb
  rcases this with rfl | rfl
  ·exact I1.oH (Nat.le_succ _) (I1.hok.fresh (Nat.le_succ _))
  ·exact I1.oH (Nat.le_refl _) (I1.hok.fresh (Nat.le_refl _))
end L2
end
section
namespace DL
open PySem PySem.Spec PyProof.Rows L2
theorem xr {x:D}{ds:List D}(h:xm x=some ds):x=.lst ds:=by
 unfold xm at h
 split at h
 ·cases h; rfl
 ·cases h
theorem xt {ds:List D}{j:Nat}{d:D}(h:ds[j]?=some d):(jr ds)[j]?=some (.tup [.int (j:Nat),d]):=by
 unfold jr
 rw [List.getElem?_map,List.getElem?_zipIdx,h]
 simp
section
variable {T:Tx}{X:XQ}{F:FS}{fi fe:FE}{ft:FT}{De:Ends}{σ:L2.St}{H:Hp}{tg:FG}{g:TG}
theorem zm (hg:gn T tg g)(h:tDs T X (oY tg fi F) De σ H):ye (CN T.K (tP T (kA T) (aj fi az))) g (tDs T X F) De σ H:=by
 obtain ⟨W,O,env,fl,E,e,q⟩:=h
 unfold oY at e
 cases e1:fi env with
 | none=>rw [e1] at e; cases e
 | some x =>
  rw [e1] at e
  dsimp only [Option.bind_some] at e
  cases e2:xm x with
  | none=>rw [e2] at e; cases e
  | some ds =>
   rw [e2] at e
   dsimp only [Option.bind_some] at e
   cases xr e2
   refine ⟨W,O,env,[.lst ds],E,by unfold aj az; rw [e1]; rfl,fun vs H1 s1 r1=>?_⟩
   obtain ⟨v,r,rfl,rv,rr⟩:=aC.dF r1
   cases rr.ju
   have E1:=E.mono s1
   have q1:jC T X W O H1 De fl:=q.fr (Fr.same s1)
   obtain ⟨a,xs,rfl,hl,rl⟩:=Rep.fL rv
   have hlen:=rl.length
   refine ⟨a,rfl,⟨xs,hl.sq⟩,fun j m σ' H'=>m=ds.length - j∧j≤ds.length∧∃ env' O',bN T W O' H' env' σ'∧Fr O H1 O' H'∧runFor tg F ((jr ds).drop j) env'=some fl,⟨ds.length,by simp,Nat.zero_le _,env,O,E1,Fr.refl _ _,e⟩, ?_⟩
   rintro j m σ' H' ⟨rfl,hj,env',O',E',f,e'⟩
   have hlH:=((E1.kp f).ls hl).sq
   by_cases hlt:j<ds.length
   ·refine .inr ⟨⟨xs,xs[j]'(by omega),hlH,by simp [show j<xs.length by omega]⟩,fun σ2 H2=>∃ env' O',bN T W O' H2 env' σ2∧Fr O H1 O' H2∧runFor tg F ((jr ds).drop (j+1)) env'=some fl,fun σ2 H2 p=>⟨ds.length - (j+1),by omega,rfl,hlt,p⟩,fun x H2 y=>?_⟩
    obtain ⟨p,y,hp,rfl,rfl,hy⟩:=y
    obtain ⟨d,hd,rd⟩:=rl.rq (hy xs hlH)
    have s2:aK H' (L2.upd H' p (.tup [.int (j:Nat),y])):=ck hp _
    rw [drop_cons (xt hd)] at e'
    have rd':Rep T (Cl W O') H' d y:=E1.vK f rd
    exact jE hg q1 _ ((jr ds).drop (j+1)) (fun env2 O2 σ2 H2 E2 g2 e2=>⟨env2,O2,E2,g2,e2⟩) (E'.mono s2) (f.trans (Fr.same s2)) e' (Rep.x8 (.cons (.int _) (.cons rd' .nil)) hp)
   ·refine .inl ⟨⟨xs,hlH,by omega⟩, ?_⟩
    rw [List.drop_eq_nil_of_le (by rw [xn]; omega)] at e'
    cases e'
    exact q1 σ' H' O' E' f
end
section
variable {X:Cx}{c:Ct}{xq:XQ}{ts:List Expr}{tk:Nat}{tp p ip pos:Pos}{elt iter:Expr}{ifs:List Expr}{scope sc:Scope}{N N':List Str}{nt:Nat}{cap:List Nat}{fi fe:FE}{ft:FT}{tgf:FG}{gt:TG}{F:FS}
theorem zo {body:List Stmt}(hp:PassesOwn (model X.prog X.w) X.A X.env X.xe)(hc:X.calm=true)(sg:gn (tx X c) tgf gt)(pg:PG X (.Tuple ts tk tp) gt)(hgl:Gl X "enumerate")(hm:X.mg "enumerate"=none)(hi:PD X c iter fi)(hb:oT X c xq body F)(hst:isStar iter=false:=by rfl) :
  PDS X c xq (.For (.Tuple ts tk tp) (.Call (.Name "enumerate" p) [iter] [] ip) body [] pos) (oY tgf fi F) :=
 PS.imp (rh hp hc (Bn hgl hm (ae hi ao hst) (eN hst)) pg hb (d9 rfl)) fun _ _ _ h=>zm sg h
end
end DL
end
section
namespace L2
open PySem PySem.Spec PyProof.Rows
end L2
namespace DL
open PySem PySem.Spec PyProof.Rows L2
section
variable {X:Cx}{c:Ct}{e a b:Expr}{f g h:FE}{pos p2:Pos}
end
end DL
end
section
namespace DL
open PySem PySem.Spec PyProof.Rows L2
theorem vZ {a:Str}{z:List Nat}(h:a.cps.toList=z):a=mkS z:=by
 obtain ⟨⟨l⟩⟩:=a
 cases h; rfl
section
variable {X:Cx}
end
end DL
end
section
namespace DL
open L2
theorem ow:∀ (r:List Int) (m:Int),m≤iu m r∧∀ i∈r,i≤iu m r
 | [],m=>⟨Int.le_refl _,by simp⟩
 | i::r,m=>by
  have ih:=ow r (if i > m then i else m)
  unfold iu
  refine ⟨Int.le_trans ?_ ih.1,fun j hj=>?_⟩
  ·split <;> omega
  ·rcases List.mem_cons.mp hj with rfl | hj
   ·exact Int.le_trans (by split <;> omega) ih.1
   ·exact ih.2 j hj
theorem m5:∀ (r:List Int) (m:Int),iu m r∈m::r
 | [],m=>by simp [iu]
 | i::r,m=>by
  have ih:=m5 r (if i > m then i else m)
  unfold iu
  rcases List.mem_cons.mp ih with e | e
  ·rw [e]
   split
   ·exact List.mem_cons_of_mem _ List.mem_cons_self
   ·exact List.mem_cons_self
  ·exact List.mem_cons_of_mem _ (List.mem_cons_of_mem _ e)
theorem lj (is:List Int):intsOf (is.map D.int)=some is:=by
 induction is with
 | nil=>rfl
 | cons x r ih=>show (intsOf (r.map D.int)).map (x::·)=_; rw [ih]; rfl
theorem zp (is:List Int)(M:Int)(hm:M∈is)(hM:∀ i∈is,i≤M):gX (.lst (is.map D.int))=some (.int M):=by
 show (intsOf (is.map D.int)).bind _=_
 rw [lj]
 cases is with
 | nil=>cases hm
 | cons i r =>
  have h1:=m5 r i
  have h2:=ow r i
  have h3:=hM _ h1
  have h4:M≤iu i r:=by
   rcases List.mem_cons.mp hm with rfl | hm
   ·exact h2.1
   ·exact h2.2 M hm
  show some (D.int (iu i r))=_
  rw [Int.le_antisymm h3 h4]
end DL
namespace DL
open L2
noncomputable def lq (lo st:Int)(n:Nat):List D:=(List.range n).map fun k=>D.int (lo+st * (k:Nat))
noncomputable def uZ:List D→Option (List D)
 | [.int lo,.int hi,.int st]=>if (-1000000000<lo∧lo<1000000000)∧(-1000000000<hi∧hi<1000000000)∧0<st∧st<1000000000 then some (lq lo st ((hi - lo+st - 1) / st).toNat) else none
 | _=>none
theorem w9 (lo hi st:Int):uZ [.int lo,.int hi,.int st]=if (-1000000000<lo∧lo<1000000000)∧(-1000000000<hi∧hi<1000000000)∧0<st∧st<1000000000 then some (lq lo st ((hi - lo+st - 1) / st).toNat) else none:=rfl
end DL
end
section
namespace DL
open PySem PySem.Spec PyProof.Rows L2
section
variable {X:Cx}{c:Ct}{e:Expr}{f:FE}{pos:Pos}
theorem xu (hc:X.calm=true):jz X (.builtin "max") (fun xs H Q=>∃ (a:Addr) (i:Int) (ns:List Int),xs=[.ref a]∧SqL X.K H a ((i::ns).map V.int)∧Q (.int (iu i ns)) H):=by
 intro pins s σ H xs us Q I r h
 obtain ⟨a,i,ns,rfl,hS,q⟩:=h
 obtain ⟨u,rfl,ru⟩:=vals1 r
 cases ru
 obtain ⟨its,rv,p,hz⟩:=I.list hS
 have hi:=gm rv
 obtain ⟨ys,hy⟩:=hi.allInts.items
 have hl:s.heap.IsList a (intItems ys):=hy ▸ p.isList
 have e1:(i::ns)=ys.toList.map (·.1):=by
  rw [← nums_intItems, ← hy]
  exact hi.numsOf.symm
 have hsz:0<ys.size:=by
  have:=congrArg List.length e1
  simp at this; omega
 refine max_intList (I.ok.hd hc) hl hsz fun v h' tk hv hk=>?_
 obtain ⟨t,rfl⟩:=intItems_at hv
 obtain ⟨h1,h2⟩:=argBest_gt (numAt ys) (ys.size - 1)
 generalize argBest (fun i j=>decide (numAt ys i > numAt ys j)) (ys.size - 1)=k at h1 h2
 have hm:numAt ys k=iu i ns:=by
  have m1:numAt ys k∈i::ns:=by rw [e1,numAt_eq]; exact getD_mem (by rw [List.length_map,Array.length_toList]; omega)
  have m2:∀ j∈i::ns,j≤numAt ys k:=fun j hj=>by
   rw [e1] at hj
   obtain ⟨q,hq,rfl⟩:=mem_getD hj
   rw [List.length_map,Array.length_toList] at hq
   rw [← numAt_eq]; exact h2 q (by omega)
  have m3:=ow ns i
  refine Int.le_antisymm ?_ (m2 _ (m5 ns i))
  rcases List.mem_cons.mp m1 with e | e
  ·rw [e]; exact m3.1
  ·exact m3.2 _ e
 exact ⟨.int (iu i ns),H,I.kept hk,⟨t,by rw [hm]⟩,q⟩
theorem zq {T:Tx}(A:Addr→Prop)(H0 H:Hp)(x:D)(v:V)(d:D)(Q:VK)(_:Nw A H)(rx:kR T A H0 H x v)(e:gX x=some d)(k:∀ w H',aK H H'→kD T A H H' d w→Q w H'):∃ (a:Addr) (i:Int) (ns:List Int),[v]=[.ref a]∧SqL T.K H a ((i::ns).map V.int)∧Q (.int (iu i ns)) H:=by
 unfold gX at e
 split at e
 ·next ds =>
  cases e1:intsOf ds with
  | none=>rw [e1] at e; cases e
  | some is =>
   rw [e1] at e
   dsimp only [Option.bind_some] at e
   split at e
   ·cases e
   ·next i ns =>
    cases e
    obtain ⟨a,xs,rfl,hS,hr⟩:=aF.fL rx
    cases jg e1 hr
    exact ⟨a,i,ns,rfl,hS,k _ _ (aK.refl H) (.int _)⟩
 ·cases e
theorem oZ {p:Pos}(hg:Gl X "max")(hm:X.mg "max"=none)(hc:X.calm=true)(ha:PR X c e f)(he:isStar e=false:=by rfl):PD X c (.Call (.Name "max" p) [e] [] pos) (fp1 gX f):=yW (xu hc) zq hg hm boot_max ha he
end
end DL
end
section
namespace L2
open PySem PySem.Spec PyProof.Rows
section
variable {κ:Type}[DecidableEq κ]
end
section
variable {P:Program}{w:World}{H:Hp}{h:Heap}{a:Addr}
end
section
variable {X:Cx}{pins:List (Addr × Obj)}{σ:St}{H:Hp}{s:Shared}{a:Addr}{y v:V}{u r:Value}{o:Option V}{A:Around}{E:Value→Shared→Prop}
end
section
variable {X:Cx}{pins:List (Addr × Obj)}{σ:St}{H:Hp}{s:Shared}{a:Addr}{kvs:List (Key × V)}{k:Key}{u:Value}{A:Around}{E:Value→Shared→Prop}
end
section
variable {X:Cx}{o i e value:Expr}{pos pos' tpos:Pos}{td ty tv:TE}
end
section
variable {X:Cx}{pos:Pos}
end
section
variable {X:Cx}{pins:List (Addr × Obj)}{σ:St}{H:Hp}{s:Shared}{a:Addr}{y d:V}{u r:Value}{o:Option V}{A:Around}{E:Value→Shared→Prop}
end
section
variable {X:Cx}{o e f:Expr}{apos cpos:Pos}{td ty tx:TE}
end
end L2
end
section
namespace DL
open PySem PySem.Spec PyProof.Rows L2
section
variable {X:Cx}{c:Ct}{a b e o:Expr}{f g h:FE}{pos:Pos}
end
end DL
end
section
namespace L2
open PySem PySem.Spec PyProof.Rows
noncomputable def Et (lo st:Int)(n:Nat):It:=⟨fun i _=>i<n,fun i H x H'=>H'=H∧x=.int (lo+st * (i:Nat)),fun i _=>n≤i⟩
theorem tw {P:Program}{w:World}{K:PySem.W.Frag}{tg:Expr}(it:Addr)(lo st:Int)(n:Nat):Turn P w K tg (Et lo st n) [it] it (fun i h=>IsRangeIter h it (lo+(i:Nat) * st) ((n:Int) - (i:Nat)) st) where
 mem:=by simp
 obj:=fun i h s b hb=>by
  have e:b=it:=by simpa using hb
  subst e
  exact ⟨_,s,fun v z=>by
   have z':Data.fields _=Data.cell v:=z
   cases z'⟩
 keep:=fun i h h' s k=>k it (by simp) _ s
 item:=by
  intro X hP hw hK hc i pins s σ H E I hf stt hg
  subst hP hw hK
  obtain ⟨f0,f1,f2,f3,f4,f5⟩:=hf it (by simp)
  have W:=Walks.range (prog:=X.prog) (w:=X.w) (I.ok.hd hc) it lo st n
  refine W.item i s _ _ hg stt fun v h' tk hv st' kk=>?_
  obtain ⟨t,rfl⟩:=hv
  have I1:Inv X pins σ H { s with heap:=h',toks:=tk }:=I.turned (fun b o hb e=>kk b o (by simpa using hb) e) f0 f1 f3 f4 f5
  refine ⟨_,rfl,vy (s:={ s with heap:=h',toks:=tk }) (n:="range_iterator") st' rfl rfl (by decide) ⟨.int (lo+st * (i:Nat)),H,I1,⟨t, ?_⟩,⟨rfl,rfl⟩,st',fun b hb=>(hf b hb).1⟩⟩
  rw [Int.mul_comm]
 done:=by
  intro X hP hw hK hc i pins s σ H E I hf stt hg
  subst hP hw hK
  obtain ⟨f0,f1,f2,f3,f4,f5⟩:=hf it (by simp)
  exact wpAny_pyNext_range_end (I.ok.hd hc) stt (by have:n≤i:=hg; omega) fun h' eb=>⟨rfl,I.turned (t':=s.toks) (fun b o hb e=>eb b o hb e) f0 f1 f3 f4 f5⟩
 self:=fun _ _ _ _ _ s h=>wpAny_pyIter_rangeiter s h
theorem m6 {a b c:Int}(hc:0<c):Builtin.Range.rangeSize a b c=(((b - a+c - 1) / c).toNat:Nat):=by
 unfold Builtin.Range.rangeSize
 rw [if_pos hc]
 by_cases h:a<b
 ·rw [if_pos h]
  have e:b - a+c - 1=(b - a - 1)+c * 1:=by omega
  rw [e,Int.add_mul_ediv_left _ _ (by omega)]
  have:0≤(b - a - 1) / c:=Int.ediv_nonneg (by omega) (by omega)
  omega
 ·rw [if_neg h]
  have:(b - a+c - 1) / c≤0:=by
   have:=Int.ediv_lt_of_lt_mul (a:=b - a+c - 1) (b:=1) hc (by omega)
   omega
  omega
theorem zr {a b c:Int}(ha:-1000000000<a∧a<1000000000)(hb:-1000000000<b∧b<1000000000)(hc:0<c∧c<1000000000):Builtin.Range.small a b c=true:=by
 have e:=m6 (a:=a) (b:=b) hc.1
 have h1:((b - a+c - 1) / c)≤3000000000:=by
  apply Int.ediv_le_of_le_mul hc.1
  have:(3000000000:Int) * 1≤3000000000 * c:=Int.mul_le_mul_of_nonneg_left (by omega) (by omega)
  omega
 unfold Builtin.Range.small
 rw [e]
 generalize ((b - a+c - 1) / c)=q at h1
 have h0:c > 0:=hc.1
 simp only [Builtin.Range.rangeFitsLong,Bool.and_eq_true,Bool.or_eq_true,decide_eq_true_eq,beq_iff_eq,h0,if_true]
 omega
theorem xv {X:Cx}{tg:Expr}{pins:List (Addr × Obj)}{σ:St}{H:Hp}{s:Shared}{R:It→Hp→Prop}{E:Value→Shared→Prop}{lo hi st:Int}{t u v:Tok}{tk:Nat}(I:Inv X pins σ H s)(h1:-1000000000<lo∧lo<1000000000)(h2:-1000000000<hi∧hi<1000000000)(h3:0<st∧st<1000000000)
  (q:R (Et lo st ((hi - lo+st - 1) / st).toNat) H):wpAny (model X.prog X.w) X.A (pyIter (.ref s.heap.objs.size)) (PIE X pins σ tg R) E { s with heap:=s.heap.push { cls:=.type "range",data:=.fields #[.int lo t,.int hi u,.int st v] },toks:=tk }:=by
 refine wpAny_pyIter_range (IsRange.new ..) (zr h1 h2 h3) ?_
 have I1:Inv X pins σ H { s with heap:=s.heap.push { cls:=.type "range",data:=.fields #[.int lo t,.int hi u,.int st v] },toks:=tk }:=I.kept fun b o e=>Heap.get?_push_of_some _ e
 refine ⟨(s.heap.push { cls:=.type "range",data:=.fields #[.int lo t,.int hi u,.int st v] }).objs.size,[(s.heap.push { cls:=.type "range",data:=.fields #[.int lo t,.int hi u,.int st v] }).objs.size],_,_,H,rfl,
  I1.kept (t':=tk) fun b o e=>Heap.get?_push_of_some _ e,tw _ lo st ((hi - lo+st - 1) / st).toNat, ?_,fun b hb=>?_,q⟩
 ·have e1:lo+((0:Nat):Int) * st=lo:=by simp
  have e2:((((hi - lo+st - 1) / st).toNat:Nat):Int) - ((0:Nat):Int)=Builtin.Range.rangeSize lo hi st:=by rw [m6 h3.1]; simp
  show IsRangeIter _ _ (lo+((0:Nat):Int) * st) (((((hi - lo+st - 1) / st).toNat:Nat):Int) - ((0:Nat):Int)) st
  rw [e1,e2]
  exact Heap.get?_push_size _ rfl
 ·have e:b=(s.heap.push { cls:=.type "range",data:=.fields #[.int lo t,.int hi u,.int st v] }).objs.size:=by simpa using hb
  subst e
  exact I1.oH (Nat.le_refl _) (I1.hok.fresh (Nat.le_refl _))
noncomputable def CO (ta:TA):TI:=fun σ H R=>ta σ H fun vs H1=>∃ i j k:Int,vs=[.int i,.int j,.int k]∧(-1000000000<i∧i<1000000000)∧(-1000000000<j∧j<1000000000)∧(0<k∧k<1000000000)∧R (Et i k ((j - i+k - 1) / k).toNat) H1
theorem qK {X:Cx}{tg a b d:Expr}{ta:TA}{p pos:Pos}(hg:Gl X "range")(hm:X.mg "range"=none)(ha:PA X [a,b,d] ta)(h1:starEach [a,b,d] X.env=(false,eval a X.env)::starEach [b,d] X.env)(h2:(backTo pos (starEach [b,d] X.env)).any (·.1)=false) :
  PI X tg (.Call (.Name "range" p) [a,b,d] [] pos) (CO ta):=by
 intro pins s σ H R I h
 refine Call_ (gS I hg hm boot_range (PyProof.Rows.callWith_type1 (cD (ha pos pins s σ H _ I h) fun us s1 vs H1 I1 r1 q1=>?_) h1 h2))
 obtain ⟨i,j,k,e,q1,q2,q3,q⟩:=q1
 subst e
 cases r1 with
 | cons r rr =>
  cases rr with
  | cons r' rr =>
   cases rr with
   | cons r'' rr =>
    cases rr
    obtain ⟨t,rfl⟩:=r
    obtain ⟨t',rfl⟩:=r'
    obtain ⟨t'',rfl⟩:=r''
    exact call_range_3 (by omega) (xv I1 q1 q2 q3 q) (.inl (PyProof.noPylong_small (by omega)))
end L2
namespace DL
open PySem PySem.Spec PyProof.Rows L2
theorem p4 (lo st:Int)(n:Nat):(lq lo st n).length=n:=by simp [lq]
theorem v5 {lo st:Int}{n j:Nat}{d:D}(h:(lq lo st n)[j]?=some d):d=.int (lo+st * (j:Nat)):=by
 unfold lq at h
 rw [List.getElem?_map] at h
 cases e:(List.range n)[j]? with
 | none=>rw [e] at h; cases h
 | some k =>
  rw [e] at h
  have:k=j:=by
   have hj:=(List.getElem?_eq_some_iff.mp e).1
   rw [List.getElem?_range (by simpa using hj)] at e
   exact (Option.some.inj e).symm
  subst this
  cases h; rfl
section
variable {T:Tx}{ft:FT}{fe:FE}{σ:L2.St}{H:Hp}{Q:VK}{tg:FG}{g:TG}
theorem tD (hg:gn T tg g){nt:Nat}{cap:List Nat}{f:FA}(hc:cap.Nodup)(h:tP T (kF T) (dH uZ nt cap tg f ft fe) σ H Q):kP nt cap (CO (tP T (kA T) f)) g (tP T kB ft) (tP T (kD T) fe) σ H Q:=by
 obtain ⟨W,O,env,d,E,e,q⟩:=h
 unfold dH at e
 cases e1:f env with
 | none=>rw [e1] at e; cases e
 | some x =>
  rw [e1] at e
  dsimp only [Option.bind_some] at e
  cases e2:uZ x with
  | none=>rw [e2] at e; cases e
  | some ds =>
   rw [e2] at e
   dsimp only [Option.bind_some] at e
   unfold uZ at e2
   split at e2
   ·next lo hi st =>
    split at e2
    ·next c =>
     cases e2
     by_cases cn:(lq lo st ((hi - lo+st - 1) / st).toNat).length≤1000000
     ·rw [if_pos cn] at e
      refine ⟨W,O,env,_,E,e1,fun vs H1 s1 r1=>?_⟩
      obtain ⟨v,r,rfl,h1,h2⟩:=aC.dF r1
      obtain ⟨v2,r2,rfl,h3,h4⟩:=h2.dF
      obtain ⟨v3,r3,rfl,h5,h6⟩:=h4.dF
      cases h6.ju
      cases h1.dU
      cases h3.dU
      cases h5.dU
      exact ⟨lo,hi,st,rfl,c.1,c.2.1,c.2.2,mZ hg hc (E.mono s1) cn (fun j H' h=>by rw [p4] at h; exact h) (fun j H' h=>by rw [p4] at h; exact h) (fun j H' x H2 d hd y=>by
       obtain ⟨rfl,rfl⟩:=y
       rw [v5 hd]
       exact ⟨rfl,fun _=>Rep.int _⟩) e fun v H' s r=>q v H' (s1.trans s) (Kd.an _ _ _ _ _ _ s1 r)⟩
     ·rw [if_neg cn] at e; cases e
    ·cases e2
   ·cases e2
end
section
variable {X:Cx}{c:Ct}{pos:Pos}{elt tg a b e3:Expr}{ifs:List Expr}{scope sc:Scope}{N N':List Str}{nt:Nat}{cap:List Nat}{fe:FE}{ft:FT}{tgf:FG}{gt:TG}
theorem p5 {env:Env}(h:isStar a=false)(h2:isStar b=false)(h3:isStar e3=false){q:Pos}:(backTo q (starEach [b,e3] env)).any (·.1)=false:=by
 rw [sU h2 h3]; rfl
theorem xw {p p2:Pos}{fs:FA}(d:DefX X N sc)(chk:gw sc scope N N' nt cap)(hcap:cap.Nodup)(hN':N'.Nodup)(hgr:Gl X "range")(hm:X.mg "range"=none)(ha:PDA X c [a,b,e3] fs)
  (hg:∀ cl C s2 H2 fp,DefX (aL X scope cl N' C s2 H2 fp) N' (i9 scope sc)→PG (aL X scope cl N' C s2 H2 fp) tg gt) (hge:lg nt gt) (sg:gn (tx X c) tgf gt)
  (ht:∀ cl C s2 H2 fp,DefX (aL X scope cl N' C s2 H2 fp) N' (i9 scope sc)→iW (aL X scope cl N' C s2 H2 fp) ifs (tP (tx X c) kB ft))
  (he:∀ cl C s2 H2 fp,DefX (aL X scope cl N' C s2 H2 fp) N' (i9 scope sc)→PE (aL X scope cl N' C s2 H2 fp) elt (tP (tx X c) (kD (tx X c)) fe)) (hst:isStar a=false:=by rfl) (hst2:isStar b=false:=by rfl) (hst3:isStar e3=false:=by rfl)
  :PFc X c (.ListComp elt [⟨tg,.Call (.Name "range" p) [a,b,e3] [] p2,ifs,0⟩] scope pos) (dH uZ nt cap tgf fs ft fe) :=
 ⟨PE.imp (lV (tt:=tP (tx X c) kB ft) (te:=tP (tx X c) (kD (tx X c)) fe) d.hsc d.hN chk d.calm (qK hgr hm ha (aO hst) (p5 hst hst2 hst3)) (fun cl C s2 H2 fp=>hg cl C s2 H2 fp (d.comp hN')) hge (fun cl C s2 H2 fp=>ht cl C s2 H2 fp (d.comp hN')) (fun cl C s2 H2 fp=>he cl C s2 H2 fp (d.comp hN')) (d9 rfl)) fun _ _ _ h=>tD sg hcap h,
  fun i x pos' spos n hsw=>PS.imp (vS (tt:=tP (tx X c) kB ft) (te:=tP (tx X c) (kD (tx X c)) fe) d.hsc d.hN chk d.calm (qK hgr hm ha (aO hst) (p5 hst hst2 hst3)) (fun cl C s2 H2 fp=>hg cl C s2 H2 fp (d.comp hN')) hge (fun cl C s2 H2 fp=>ht cl C s2 H2 fp (d.comp hN')) (fun cl C s2 H2 fp=>he cl C s2 H2 fp (d.comp hN')) n.nd n.hN n.hl n.hf hsw (d9 rfl)) fun _ _ _ h=>tD sg hcap h⟩
end
end DL
end
section
namespace L2
open PySem PySem.Spec PyProof.Rows
section
variable {pr:Program}{wd:World}{Ar:Around}{Rs:Result→Shared→Prop}{it:Addr}{fs ws:List Addr}{m:Nat}{Pv:Nat→Value→Prop}{Sv:Nat→Heap→Prop}{kw:List (Str × Value)}
theorem ki:(toString "max"++toString ".loop":String)="max.loop":=by decide
theorem xx (Wk:Walks pr wd Ar.in1 it fs ws m Pv Sv)(bt:Nat→Nat→Bool)(cmp:CmpOf pr wd Ar.in1 .Gt Pv bt)(B:Addr)(hB:B ∉ fs) :
  ∀ (k j:Nat) (sh:Shared) (vb:Value) (c:Nat),m - (j+1)=k→j+1≤m→Sv (j+1) sh.heap→Pv (argBest bt j) vb →
  sh.heap.get? B=some { cls:=.type "list",dict:=none,data:=.seq #[vb,vb] c,slots:=#[] } →
  (∀ v hp tk,Pv (argBest bt (m - 1)) v→(∀ b o,b ∉ ws→b≠B→sh.heap.get? b=some o→hp.get? b=some o)→Rs (.ok (.ret v)) { sh with heap:=hp,toks:=tk }) →
  codeAny (model pr wd) Ar (.builtin "max.loop" ⟨[.ref it,.none,.ref B],kw⟩) Rs sh:=by
 have hBw:B ∉ ws:=fun z=>hB (Wk.sub _ z)
 intro k
 induction k with
 | zero =>
  intro j sh vb c e1 e2 st pb gB fin
  have em:j+1=m:=by omega
  refine codeAny_builtin F.entry_max_loop ?_
  rw [Around.under_plainId F.plain_max_loop _]
  show wpAny _ Ar.in1 (seqItems? (.ref B) >>= _) _ _ sh
  refine wpAny_bind (wpAny_seqItems gB rfl ?_)
  show wpAny _ Ar.in1 (tryCatch (pyNext (.ref it)) _ >>= _) _ _ sh
  refine wpAny_bind (wpAny_tryCatch (Wk.done sh _ _ (em ▸ st) fun hp tk kp=>?_))
  have gB':=kp B _ hBw gB
  show wpAny _ Ar.in1 (updateSeq B (fun _=>#[]) >>= _) _ _ _
  refine wpAny_bind (wpAny_updateSeq gB' rfl (wpAny_bind (wpAny_letGo (wpAny_pure ?_))))
  exact fin vb _ tk (by rw [← em]; exact pb) fun b o hb hb2 e=>(Heap.get?_update_other _ _ (Ne.symm hb2)).trans (kp b o hb e)
 | succ k ih =>
  intro j sh vb c e1 e2 st pb gB fin
  have lt:j+1<m:=by omega
  refine codeAny_builtin F.entry_max_loop ?_
  rw [Around.under_plainId F.plain_max_loop _]
  show wpAny _ Ar.in1 (seqItems? (.ref B) >>= _) _ _ sh
  refine wpAny_bind (wpAny_seqItems gB rfl ?_)
  show wpAny _ Ar.in1 (tryCatch (pyNext (.ref it)) _ >>= _) _ _ sh
  refine wpAny_bind (wpAny_tryCatch (Wk.item (j+1) sh _ _ lt st fun v hp tk pv st' kp=>?_))
  have gB':=kp B _ hBw gB
  show wpAny _ Ar.in1 (tryCatch (holding [v,v] (richCompare .Gt v vb >>= _)) _ >>= _) _ _ _
  refine wpAny_bind (wpAny_tryCatch (wpAny_holding (wpAny_bind (cmp (j+1) (argBest bt j) v vb _ _ _ pv pb ?_))))
  refine wpAny_bind (wpAny_holding (wpAny_truthy_bool (wpAny_bind (wpAny_letGo (wpAny_pure ?_)))))
  cases hb:bt (j+1) (argBest bt j) with
  | true =>
   simp only [if_true]
   refine wpAny_bind (wpAny_updateSeq gB' rfl (wpAny_bind (wpAny_letGo ?_)))
   rw [ki]
   refine wpAny_pure ⟨plainId_quiet F.plain_max_loop _,ih (j+1) _ v _ (by omega) lt (Wk.frame _ _ _ st' fun b hbf o e=>(Heap.get?_update_other _ _ (fun z:B=b=>hB (by rw [z]; exact hbf))).trans e) (by simp only [argBest,hb,if_true]; exact pv) (Heap.get?_update_self _ gB' rfl) fun v' hp2 tk2 pv' kp2=>?_⟩
   exact fin v' hp2 tk2 pv' fun b o hbw hbB e=>kp2 b o hbw hbB ((Heap.get?_update_other _ _ (Ne.symm hbB)).trans (kp b o hbw e))
  | false =>
   simp only [Bool.false_eq_true,if_false]
   refine wpAny_bind (wpAny_letGo ?_)
   rw [ki]
   refine wpAny_pure ⟨plainId_quiet F.plain_max_loop _,ih (j+1) _ vb c (by omega) lt st' (by simp only [argBest,hb,Bool.false_eq_true,if_false]; exact pb) gB' fun v' hp2 tk2 pv' kp2=>?_⟩
   exact fin v' hp2 tk2 pv' fun b o hbw hbB e=>kp2 b o hbw hbB (kp b o hbw e)
theorem v7 (Wk:Walks pr wd Ar.in1 it fs ws m Pv Sv)(bt:Nat→Nat→Bool)(cmp:CmpOf pr wd Ar.in1 .Gt Pv bt)(B:Addr)(hB:B ∉ fs){nm:Str}{dv:Value}{sh:Shared}{c:Nat}(st:Sv 0 sh.heap)
  (gB:sh.heap.get? B=some { cls:=.type "list",dict:=none,data:=.seq #[] c,slots:=#[] })
  (fin:∀ v hp tk,(0<m→Pv (argBest bt (m - 1)) v)→(m=0→v=dv)→(∀ b o,b ∉ ws→b≠B→sh.heap.get? b=some o→hp.get? b=some o)→Rs (.ok (.ret v)) { sh with heap:=hp,toks:=tk }) :
  codeAny (model pr wd) Ar (.builtin "max.loop" ⟨[.ref it,.none,.ref B],[(nm,dv)]⟩) Rs sh:=by
 have hBw:B ∉ ws:=fun z=>hB (Wk.sub _ z)
 refine codeAny_builtin F.entry_max_loop ?_
 rw [Around.under_plainId F.plain_max_loop _]
 show wpAny _ Ar.in1 (seqItems? (.ref B) >>= _) _ _ sh
 refine wpAny_bind (wpAny_seqItems gB rfl ?_)
 show wpAny _ Ar.in1 (tryCatch (pyNext (.ref it)) _ >>= _) _ _ sh
 by_cases h0:m=0
 ·refine wpAny_bind (wpAny_tryCatch (Wk.done sh _ _ (by rw [h0]; exact st) fun hp tk kp=>?_))
  show wpAny _ Ar.in1 (do rule _; ret dv) _ _ _
  exact wpAny_bind (wpAny_rule (wpAny_pure (fin dv hp tk (fun z=>absurd z (by omega)) (fun _=>rfl) fun b o hb _ e=>kp b o hb e)))
 ·have hm:0<m:=by omega
  refine wpAny_bind (wpAny_tryCatch (Wk.item 0 sh _ _ hm st fun v hp tk pv st' kp=>?_))
  have gB':=kp B _ hBw gB
  show wpAny _ Ar.in1 (updateSeq B (fun _=>#[v,v]) >>= _) _ _ _
  refine wpAny_bind (wpAny_updateSeq gB' rfl ?_)
  rw [ki]
  refine wpAny_pure ⟨plainId_quiet F.plain_max_loop _,xx Wk bt cmp B hB _ 0 _ v _ rfl hm (Wk.frame _ _ _ st' fun b hbf o e=>(Heap.get?_update_other _ _ (fun z:B=b=>hB (by rw [z]; exact hbf))).trans e) pv (Heap.get?_update_self _ gB' rfl) fun v' hp2 tk2 pv' kp2=>?_⟩
  exact fin v' hp2 tk2 (fun _=>pv') (fun z=>absurd z h0) fun b o hbw hbB e=>kp2 b o hbw hbB ((Heap.get?_update_other _ _ (Ne.symm hbB)).trans (kp b o hbw e))
end
section
variable {pr:Program}{wd:World}{Ar:Around}{Er:Value→Shared→Prop}{sh:Shared}
theorem Bo {id:String}{b:Builtin}{args:List Value}{kw:List (Str × Value)}{Q:Value→Shared→Prop}(hk:builtinKind id=none)(hp:plainId id=true)(hb:entryFor table id=some b)(ha:argsOk id ⟨args,kw⟩)
  (hc:wpAny (model pr wd) Ar.in1 (b ⟨args,kw⟩) (fun fin s'=>match fin with
   | .done f=>(match (Except.ok f:Result) with | .ok (.ret v)=>Q v s' | .ok _=>False | .error e=>Er e s')
   | .again c'=>c'.quiet=true∧codeAny (model pr wd) Ar c' (fun r s'=>match r with | .ok (.ret v)=>Q v s' | .ok _=>False | .error e=>Er e s') s') Er sh) :
  wpAny (model pr wd) Ar (call (.builtin id) args kw) Q Er sh:=by
 refine wpAny_call (codeAny_call_builtin hp hb ?_)
 simp only [checkBuiltinCall,hk]
 cases hsig:Manifest.signature? id with
 | none=>exact wpAny_pure hc
 | some sig =>
  have ha':Bind.checkArgs id sig ⟨args,kw⟩=pure ():=by simpa only [argsOk,hsig] using ha
  simp only [ha']
  exact wpAny_pure hc
theorem xy (x d:Value):argsOk "max" ⟨[x],[("default",d)]⟩:=by unfold argsOk; kernel_rfl
theorem xA {l:Addr}{xs:Array (Int × Tok)}{dv:Value}{Q:Value→Shared→Prop}(hh:Ar.handled=none)(hl:sh.heap.IsList l (intItems xs))
  (h:∀ v hp tk,(0<xs.size→(intItems xs)[argBest (fun i j=>decide (numAt xs i > numAt xs j)) (xs.size - 1)]?=some v)→(xs.size=0→v=dv)→(∀ b o,sh.heap.get? b=some o→hp.get? b=some o)→Q v { sh with heap:=hp,toks:=tk }) :
  wpAny (model pr wd) Ar (call (.builtin "max") [.ref l] [("default",dv)]) Q Er sh:=by
 refine Bo F.kind_max F.plain_max F.entry_max (xy _ _) ?_
 show wpAny _ Ar.in1 (Builtin.Builtins.bindParams "max" ["key", "default"] 0 ⟨[],[("default",dv)]⟩ >>= _) _ _ sh
 refine wpAny_bind (wpAny_of_eq (show Builtin.Builtins.bindParams "max" ["key", "default"] 0 ⟨[],[("default",dv)]⟩=pure [none,some dv] from rfl) ?_)
 refine wpAny_bind (wpAny_pure ?_)
 refine wpAny_bind (iter_intList hl fun s2 e st hfp hlI=>?_)
 subst e
 refine wpAny_bind (wpAny_newObj_type ?_)
 have W:=Walks.list (prog:=pr) (w:=wd) (A:=Ar.in1) hh _ l hlI (intItems xs)
 rw [ki]
 refine wpAny_pure ⟨plainId_quiet F.plain_max_loop _,v7 W _ (CmpOf.ints_gt (numAt xs) (fun _ _=>intItems_at)) _ (fun hm=>Nat.lt_irrefl _ (hfp _ hm)) (W.frame _ _ _ st fun b _ o e=>Heap.get?_push_of_some _ e) (Heap.get?_push_size _ rfl) fun v hp tk hP h0 hk=>?_⟩
 have hsz:(intItems xs).size=xs.size:=by simp [intItems]
 refine h v hp tk (fun z=>?_) (fun z=>h0 (by rw [hsz]; exact z)) ?_
 ·have:=hP (by rw [hsz]; exact z)
  rw [hsz] at this
  exact this
 ·intro b o e
  have lt:=Heap.lt_size e
  have e1:(sh.heap.push { cls:=.type "list_iterator",data:=.fields #[.ref l,.int 0 0] }).get? b=some o:=Heap.get?_push_of_some _ e
  refine hk b o (fun z=>?_) (Nat.ne_of_lt (Heap.lt_size e1)) (Heap.get?_push_of_some _ e1)
  have:b=sh.heap.objs.size:=by simpa using z
  rw [this] at lt
  exact Nat.lt_irrefl _ lt
end
section
variable {X:Cx}{a b:Expr}{ta tb:TE}{p pos kp:Pos}
noncomputable def GK (K:PySem.W.Frag)(ta:TA)(tb:TE):TE:=fun σ H Q=>ta σ H fun vs H1=>tb σ H1 fun y H2=>∃ (l:Addr) (is:List Int),vs=[.ref l]∧SqL K H2 l (is.map V.int)∧Q (match is with | []=>y | i::r=>.int (DL.iu i r)) H2
theorem Bp {ta:TA}(hc:X.calm=true)(hg:Gl X "max")(hm:X.mg "max"=none)(ha:PA X [a] ta)(hb:PE X b tb)(hs:starEach [a] X.env=[(false,eval a X.env)]) :
  PE X (.Call (.Name "max" p) [a] [⟨some "default",b,kp⟩] pos) (GK X.K ta tb):=by
 intro pins s σ H Q I h
 refine wpAny_Call_Name_kw (gS I hg hm boot_max ?_)
 refine callWith_kw (cD (ha pos pins s σ H _ I h) fun us s1 vs H1 I1 r1 q1=>kws_cons (cD (hb pins s1 σ H1 _ I1 q1) fun y s2 yv H2 I2 ry q2=>kws_nil ?_)) (by rw [hs]; rfl) (by rw [hs]; rfl) rfl rfl
 obtain ⟨l,is,rfl,hS,q⟩:=q2
 obtain ⟨u,rfl,ru⟩:=vals1 r1
 cases ru
 obtain ⟨its,rv,pl,hz⟩:=I2.list hS
 have hi:=DL.gm rv
 obtain ⟨ys,hy⟩:=hi.allInts.items
 have hl:s2.heap.IsList l (intItems ys):=hy ▸ pl.isList
 have e1:is=ys.toList.map (·.1):=by
  rw [← nums_intItems, ← hy]
  exact hi.numsOf.symm
 have e2:is.length=ys.size:=by rw [e1]; simp
 show wpAny (model X.prog X.w) X.A (call (.builtin "max") [.ref l] [("default",y)]) _ _ _
 refine xA (I2.ok.hd hc) hl fun v hp tk hv h0 hk=>?_
 cases is with
 | nil =>
  have:=h0 (by simpa using e2.symm)
  subst this
  exact ⟨yv,H2,I2.kept hk,ry,q⟩
 | cons i ns =>
  have hsz:0<ys.size:=by simp at e2; omega
  obtain ⟨t,rfl⟩:=intItems_at (hv hsz)
  obtain ⟨h1,h2⟩:=argBest_gt (numAt ys) (ys.size - 1)
  generalize argBest (fun i j=>decide (numAt ys i > numAt ys j)) (ys.size - 1)=k at h1 h2
  have hm:numAt ys k=DL.iu i ns:=by
   have m1:numAt ys k∈i::ns:=by rw [e1,numAt_eq]; exact getD_mem (by rw [List.length_map,Array.length_toList]; omega)
   have m2:∀ j∈i::ns,j≤numAt ys k:=fun j hj=>by
    rw [e1] at hj
    obtain ⟨q,hq,rfl⟩:=mem_getD hj
    rw [List.length_map,Array.length_toList] at hq
    rw [← numAt_eq]; exact h2 q (by omega)
   have m3:=DL.ow ns i
   refine Int.le_antisymm ?_ (m2 _ (DL.m5 ns i))
   rcases List.mem_cons.mp m1 with e | e
   ·rw [e]; exact m3.1
   ·exact m3.2 _ e
  exact ⟨.int (DL.iu i ns),H2,I2.kept hk,⟨t,by rw [hm]⟩,q⟩
end
end L2
namespace DL
open PySem PySem.Spec PyProof.Rows L2
section
variable {X:Cx}{c:Ct}{a b:Expr}{f g:FE}{p pos kp:Pos}
theorem tE (hg:Gl X "max")(hm:X.mg "max"=none)(hc:X.calm=true)(ha:PR X c a f)(hb:PD X c b g)(hs:isStar a=false:=by rfl):PD X c (.Call (.Name "max" p) [a] [⟨some "default",b,kp⟩] pos) (fp2 n0 f g) :=
 PE.imp (Bp hc hg hm (rH ha hs) hb (eN hs)) fun σ H Q h=>by
 obtain ⟨W,O,env,d,E,e,q⟩:=h
 unfold fp2 at e
 cases e1:f env with
 | none=>rw [e1] at e; cases e
 | some x =>
  rw [e1] at e
  dsimp only [Option.bind_some] at e
  cases e2:g env with
  | none=>rw [e2] at e; cases e
  | some y =>
   rw [e2] at e
   dsimp only [Option.bind_some] at e
   cases x with
   | lst ds =>
    have e:(intsOf ds).bind (fun is=>match is with | []=>some y | i::r=>some (.int (iu i r)))=some d:=e
    cases e3:intsOf ds with
    | none=>rw [e3] at e; cases e
    | some is =>
     rw [e3] at e
     dsimp only [Option.bind_some] at e
     refine ⟨W,O,env,[.lst ds],E,by unfold faR; rw [e1]; rfl,fun vs H1 s1 r1=>?_⟩
     obtain ⟨v,rfl,rv⟩:=r1
     obtain ⟨l,us,rfl,hS,hr⟩:=aF.fL rv
     cases jg e3 hr
     refine ⟨W,O,env,y,E.mono s1,e2,fun w H2 s2 r2=>⟨l,is,rfl,s2.seq hS, ?_⟩⟩
     cases is with
     | nil=>cases e; exact q _ _ (s1.trans s2) r2
     | cons i r=>cases e; exact q _ _ (s1.trans s2) (.int _)
   | _=>cases e
end
end DL
end
section
namespace DL
open L2
end DL
end
section
namespace L2
open PySem PySem.Spec PyProof.Rows
section
variable {X:Cx}
end
end L2
namespace DL
open PySem PySem.Spec PyProof.Rows L2
section
variable {X:Cx}{c:Ct}{xq:XQ}{e:Expr}{f:FE}{pos:Pos}
end
end DL
end
section
namespace L2
open PySem PySem.Spec PyProof.Rows DL
noncomputable def cB (X:Cx)(scope:Scope)(x0:Str)(cl:List (Str × Addr))(N':List Str)(C:Addr)(s2:Shared)(H2:Hp)(fp:List Addr):Cx:={ aL X scope cl N' C s2 H2 fp with fn:=fun y=>y == x0 }
structure m7 (sc scope:Scope)(N N':List Str)(nt:Nat)(cap:List Nat)(x0:Str):Prop where
 kind:scope.kind=.function
 one:(scope.names.filter fun y=>y.2 == .cell)=[(x0,.cell)]
 GL:scope.names.lookup x0=some .cell
 names:∀ y∈scope.names,y.2=.local→scope.names.lookup y.1=some .local
 fr:∀ y∈scope.names,y.2=.free→sc.names.lookup y.1=some .cell∨sc.names.lookup y.1=some .free
 len:N'.length=nt+cap.length
 cap:∀ j∈List.range cap.length, ∀ x∈N'[nt+j]?, ∀ i∈cap[j]?,N[i]?=some x∧scope.names.lookup x=some .free
theorem jL {env:Env}:∀ {names:List (Str × NameKind)} {x:Str} {k0:NameKind},
  (names.map fun (n,k)=>if (k == NameKind.free && env.scope.kind == .function && env.kindOf n == some .cell) then (n,NameKind.cell) else (n,k)).lookup x=some k0→(k0=.cell∨k0=.free)→names.lookup x=some .free∨names.lookup x=some .cell
 | [],_,_,h,_=>by simp at h
 | (n,k)::r,x,k0,h,hk=>by
  have ih:=@jL env r x k0
  rw [List.map_cons] at h
  cases hx:x == n with
  | true =>
   rw [List.lookup_cons,hx]
   dsimp only at h
   by_cases c:(k == NameKind.free && env.scope.kind == .function && env.kindOf n == some .cell)=true
   ·have:k=.free:=by
     have:=(Bool.and_eq_true_iff.mp (Bool.and_eq_true_iff.mp c).1).1
     simpa using this
    rw [this]; exact .inl rfl
   ·rw [if_neg c,List.lookup_cons,hx] at h
    cases h
    rcases hk with rfl | rfl
    ·exact .inr rfl
    ·exact .inl rfl
  | false =>
   rw [List.lookup_cons,hx]
   dsimp only at h
   by_cases c:(k == NameKind.free && env.scope.kind == .function && env.kindOf n == some .cell)=true
   ·rw [if_pos c,List.lookup_cons,hx] at h; exact ih h hk
   ·rw [if_neg c,List.lookup_cons,hx] at h; exact ih h hk
theorem p6:∀ (l:List (Str × NameKind)) (a:Addr) (acc:List (Str × Addr)) (h:Heap),(l.filter fun y=>y.2 == .cell)=[]→cellsFrom a l acc=acc∧pushCells h l=h
 | [],a,acc,h,_=>⟨rfl,rfl⟩
 | (n,k)::r,a,acc,h,e=>by
  cases hk:(k == NameKind.cell) with
  | true=>simp [hk] at e
  | false =>
   have e':(r.filter fun y=>y.2 == .cell)=[]:=by simpa [hk] using e
   unfold cellsFrom pushCells
   simp only [hk,Bool.false_eq_true,if_false]
   exact p6 r a acc h e'
theorem qL:∀ (l:List (Str × NameKind)) (x0:Str) (a:Addr) (acc:List (Str × Addr)) (h:Heap),(l.filter fun y=>y.2 == .cell)=[(x0,.cell)]→cellsFrom a l acc=(x0,a)::acc∧pushCells h l=h.push { cls:=.type "cell",data:=.cell none }
 | [],_,a,acc,h,e=>by simp at e
 | (n,k)::r,x0,a,acc,h,e=>by
  cases hk:(k == NameKind.cell) with
  | true =>
   have e':n=x0∧(r.filter fun y=>y.2 == .cell)=[]:=by
    rw [List.filter_cons,if_pos (by simpa using hk)] at e
    injection e with e1 e2
    exact ⟨(Prod.mk.inj e1).1,e2⟩
   unfold cellsFrom pushCells
   simp only [hk,if_true]
   rw [e'.1]
   exact p6 r _ _ _ e'.2
  | false =>
   have e':(r.filter fun y=>y.2 == .cell)=[(x0,.cell)]:=by simpa [hk] using e
   unfold cellsFrom pushCells
   simp only [hk,Bool.false_eq_true,if_false]
   exact qL r x0 a acc h e'
theorem lu {M:Model}{A:Around}{E:Value→Shared→Prop}{s:Shared}{scope:Scope}{globals:Addr}{cl:List (Str × Addr)}{qual:Str}{env:Env}{x0:Str}{Q:Env→Shared→Prop}
  (hc:(scope.names.filter fun y=>y.2 == .cell)=[(x0,.cell)])
  (hQ:∀ h':Heap,h'.Ns s.heap.objs.size (fun _=>none)→h'.IsCell (s.heap.objs.size+1) none→(∀ b o,s.heap.get? b=some o→h'.get? b=some o) →
   Q (newEnv scope s.heap.objs.size globals ((x0,s.heap.objs.size+1)::cl) qual none .none (some env) builtinsNs) { s with heap:=h' }) :
  wpAny M A (newFunctionEnv scope globals cl [] qual none .none (some env)) Q E s:=by
 simp only [newFunctionEnv,Option.isSome_some,if_true]
 refine wpAny_bind (wpAny_alloc ?_)
 refine wpAny_bind (wpAny_layCells _ (fun name kind cells=>by cases hkc:kind == NameKind.cell <;> simp [hkc]) _ _ _ _ ?_)
 obtain ⟨e1,e2⟩:=qL scope.names x0 (s.heap.push { cls:=.type "dict",data:=.dict #[] }).objs.size cl (s.heap.push { cls:=.type "dict",data:=.dict #[] }) hc
 dsimp only
 rw [e1,e2,Heap.size_push]
 rw [List.forIn_nil]
 refine wpAny_bind (wpAny_pure (wpAny_pure ?_))
 refine hQ _ ((Heap.Ns.new s.heap (.type "dict")).keeps fun b o e=>Heap.get?_push_of_some _ e) ⟨{ cls:=.type "cell",data:=.cell none }, ?_,rfl⟩ fun b o e=>Heap.get?_push_of_some _ (Heap.get?_push_of_some _ e)
 rw [show s.heap.objs.size+1=(s.heap.push { cls:=.type "dict",data:=.dict #[] }).objs.size from (Heap.size_push ..).symm]
 exact Heap.get?_push_size _ rfl
section
variable {X:Cx}{elt iter tg:Expr}{ifs:List Expr}{scope:Scope}{pos:Pos}{wi:TI}{g:TG}{tt:TT}{te:TE}{sc:Scope}{N N':List Str}{nt:Nat}{cap:List Nat}{x0:Str}
theorem zt {pins:List (Addr × Obj)}{σ:St}{H2:Hp}{s2:Shared}{fp:List Addr}{h1:Heap}{C D:Addr}{o:Obj}{tk:Nat}(hsc:X.env.scope=sc)(hN:X.N=N)(chk:m7 sc scope N N' nt cap x0)
  (I2:Inv X pins σ H2 s2) (f2:∀ b∈fp,kx X pins H2 b) (hD:s2.heap.objs.size=D) (hC:s2.heap.objs.size<C) (hns:h1.Ns C fun _=>none) (old:∀ b o,s2.heap.get? b=some o→h1.get? b=some o)
  (hfp:∀ b∈fp,b<s2.heap.objs.size) (ho:h1.get? D=some o) (hod:∀ v,o.data≠.cell v) {c0:Addr} (hc0:h1.IsCell c0 none) (hCc:C<c0) :
  Inv (cB X scope x0 ((x0,c0)::cw X.env.cells scope.names []) N' C s2 H2 fp) [(D,o)] (fV nt cap σ) H2 { s2 with heap:=h1,toks:=tk }:=by
 have hcells:∀ y∈scope.names,y.2=.free→∃ c,X.env.cells.lookup y.1=some c:=fun y hy hk=>I2.ok.has y.1 (by show X.env.scope.names.lookup y.1=_∨X.env.scope.names.lookup y.1=_; rw [hsc]; exact chk.fr y hy hk)
 have hsub:∀ x c,(cw X.env.cells scope.names []).lookup x=some c→X.env.cells.lookup x=some c:=jb X.env.cells scope.names [] hcells (fun x c e=>by simp at e)
 have hhas:∀ x,scope.names.lookup x=some .free→∃ c,(cw X.env.cells scope.names []).lookup x=some c:=fun x e=>jc X.env.cells scope.names [] x (PySem.mem_of_lookup e)
 have nst:∀ b,s2.heap.objs.size≤b→b ∉ frs X.stack:=fun b hb hm=>by
  rcases List.mem_cons.mp (I2.mO b hm) with e | e
  ·rw [e] at hb; exact absurd (Nat.lt_of_lt_of_le I2.lt hb) (Nat.lt_irrefl _)
  ·exact I2.D8 hb e
 have nC:∀ x c,X.env.cells.lookup x=some c→c<s2.heap.objs.size:=fun x c e=>by
  obtain ⟨v,q⟩:=I2.cell x c e
  exact q.lt
 have hsp:∀ x c,((x0,c0)::cw X.env.cells scope.names []).lookup x=some c→(x=x0∧c=c0)∨X.env.cells.lookup x=some c:=fun x c e=>by
  cases hx:x == x0 with
  | true =>
   rw [List.lookup_cons,hx] at e
   cases e
   exact .inl ⟨eq_of_beq hx,rfl⟩
  | false =>
   rw [List.lookup_cons,hx] at e
   exact .inr (hsub x c e)
 have hbig:s2.heap.objs.size<c0:=Nat.lt_trans hC hCc
 have nC0:∀ x,X.env.cells.lookup x≠some c0:=fun x e=>Nat.lt_irrefl _ (Nat.lt_trans (nC x c0 e) hbig)
 have hcons:∀ x c,(cw X.env.cells scope.names []).lookup x=some c→∃ c',((x0,c0)::cw X.env.cells scope.names []).lookup x=some c':=fun x c e=>by
  cases hx:x == x0 with
  | true=>exact ⟨c0,by rw [List.lookup_cons,hx]⟩
  | false=>exact ⟨c,by rw [List.lookup_cons,hx]; exact e⟩
 have hinj:∀ x y c,((x0,c0)::cw X.env.cells scope.names []).lookup x=some c→((x0,c0)::cw X.env.cells scope.names []).lookup y=some c→x=y:=fun x y c e1 e2=>by
  rcases hsp x c e1 with ⟨rfl,rfl⟩ | f1
  ·rcases hsp y _ e2 with ⟨rfl,_⟩ | f2
   ·rfl
   ·exact absurd f2 (nC0 y)
  ·rcases hsp y c e2 with ⟨rfl,rfl⟩ | f2
   ·exact absurd f1 (nC0 x)
   ·exact I2.ok.inj x y c f1 f2
 refine ⟨⟨I2.ok.mod,chk.kind,I2.ok.glob,I2.ok.blt,Nat.le_of_lt hC,hinj,fun x hk=>?_,fun x c z e=>?_,fun hc=>I2.ok.hd hc,I2.ok.frames,.inl rfl,
  fun b hb=>⟨Nat.ne_of_lt (Nat.lt_trans (hfp b hb) hC),fun x c e=>(by
   rcases hsp x c e with ⟨_,rfl⟩ | f
   ·exact fun z=>Nat.lt_irrefl _ (Nat.lt_trans hbig (z ▸ hfp b hb))
   ·exact (f2 b hb).2.2.2.2.1 x c f)⟩,I2.bs,Nat.le_trans I2.ok.bsz I2.sz,fun b ob e hb=>?_,fun b hb hm=>?_,I2.stack,I2.r9⟩,
  rfl,I2.bare,Un.kept old,⟨_,hns,fun j x v e1 e2 e3=>?_⟩,fun x c e=>?_,I2.hok.fresh (Nat.le_of_lt hC),fun x c e=>(by
   rcases hsp x c e with ⟨_,rfl⟩ | f
   ·exact I2.hok.fresh (Nat.le_of_lt hbig)
   ·exact I2.jq x c f),fun p hp=>?_,I2.hok.kept old, ?_⟩
 ·
  have hk':(relabel scope X.env).names.lookup x=some .cell∨(relabel scope X.env).names.lookup x=some .free:=hk
  have ff:scope.names.lookup x=some .free∨scope.names.lookup x=some .cell:=by
   rcases hk' with e | e
   ·exact jL e (.inl rfl)
   ·exact jL e (.inr rfl)
  rcases ff with e | e
  ·obtain ⟨c,q⟩:=hhas x e
   exact hcons x c q
  ·have:(x,NameKind.cell)∈scope.names.filter fun y=>y.2 == .cell:=List.mem_filter.mpr ⟨PySem.mem_of_lookup e,rfl⟩
   rw [chk.one,List.mem_singleton] at this
   cases this
   exact ⟨c0,List.lookup_cons_self⟩
 ·
  rcases hsp x c e with ⟨_,rfl⟩ | f
  ·exact Nat.le_of_lt hbig
  ·have zx:x=x0:=eq_of_beq z
   subst zx
   have e':((x,c0)::cw X.env.cells scope.names []).lookup x=some c:=e
   rw [List.lookup_cons_self] at e'
   cases e'
   exact absurd f (nC0 x)
 ·
  rcases (f2 b hb).2.2.2.1 with z | z
  ·exact I2.ok.wL b ob e z
  ·exact absurd (Nat.lt_of_lt_of_le (Heap.lt_size e) (Nat.le_trans I2.ok.bsz z)) (Nat.lt_irrefl _)
 ·
  rcases List.mem_cons.mp (I2.mO b hm) with e | e
  ·exact (f2 b hb).2.1 e
  ·exact (f2 b hb).2.2.1 e
 ·
  have hj:nt≤j:=by
   apply Nat.le_of_not_lt
   intro hj
   unfold fV at e2
   rw [List.getElem?_append_left (by simpa using hj),List.getElem?_replicate,if_pos hj] at e2
   cases e2
  obtain ⟨l,rfl⟩:∃ l,j=nt+l:=⟨j - nt,by omega⟩
  unfold fV at e2
  rw [List.getElem?_append_right (by simp),List.length_replicate,Nat.add_sub_cancel_left,List.getElem?_map] at e2
  cases ec:cap[l]? with
  | none=>rw [ec] at e2; cases e2
  | some i =>
   rw [ec,Option.map_some] at e2
   have hl:l<cap.length:=(List.getElem?_eq_some_iff.mp ec).1
   have e1':N'[nt+l]?=some x:=e1
   obtain ⟨h3,h4⟩:=chk.cap l (List.mem_range.mpr hl) x (by rw [e1']; rfl) i (by rw [ec]; rfl)
   have e2' : σ[i]?=some (some v):=by
    cases es:σ[i]? with
    | none=>rw [es] at e2; cases e2
    | some ov =>
     rw [es] at e2
     cases ov with
     | none=>cases e2
     | some v'=>cases e2; rfl
   obtain ⟨m,hm,hl'⟩:=I2.loc
   have hkk:X.env.scope.names.lookup x=some .cell∨X.env.scope.names.lookup x=some .free:=by rw [hsc]; exact chk.fr (x,.free) (PySem.mem_of_lookup h4) rfl
   obtain ⟨u,ru,lk⟩:=hl' i x v (by rw [hN]; exact h3) e2' (.inr hkk)
   refine ⟨u,ru,.inr ⟨jd h4, ?_⟩⟩
   rcases lk with ⟨hk,_⟩ | ⟨_,c,hc,hcell⟩
   ·have hk':X.env.scope.names.lookup x=some .local:=hk
    rcases hkk with z | z <;> (rw [hk'] at z; cases z)
   ·obtain ⟨c',e'⟩:=hhas x h4
    have:=hsub x c' e'
    rw [hc] at this; cases this
    obtain ⟨oc,h5,h6⟩:=hcell
    have hx0:(x == x0)=false:=by
     cases hx:x == x0 with
     | false=>rfl
     | true =>
      rw [eq_of_beq hx,chk.GL] at h4
      cases h4
    exact ⟨c,(by show ((x0,c0)::cw X.env.cells scope.names []).lookup x=_; rw [List.lookup_cons,hx0]; exact e'),oc,old c oc h5,h6⟩
 ·
  rcases hsp x c e with ⟨_,rfl⟩ | f
  ·exact ⟨none,hc0⟩
  ·obtain ⟨v,oc,h5,h6⟩:=I2.cell x c f
   exact ⟨v,oc,old c oc h5,h6⟩
 ·
  have hp':p=(D,o):=by simpa [cB,aL] using hp
  subst hp'
  refine ⟨ho,I2.hok.fresh (Nat.le_of_eq hD), ?_,nst D (Nat.le_of_eq hD),hod⟩
  show D≠C
  exact Nat.ne_of_lt (by rw [← hD]; exact hC)
 ·show (fV nt cap σ).length=N'.length
  rw [chk.len]
  simp [fV]
theorem v8 (hsc:X.env.scope=sc)(hN:X.N=N)(chk:m7 sc scope N N' nt cap x0)(hc:X.calm=true)(hi:PI X tg iter wi)
  (hg:∀ cl C s2 H2 fp,PG (cB X scope x0 cl N' C s2 H2 fp) tg g) (hge:lg nt g) (ht:∀ cl C s2 H2 fp,iW (cB X scope x0 cl N' C s2 H2 fp) ifs tt) (he:∀ cl C s2 H2 fp,PE (cB X scope x0 cl N' C s2 H2 fp) elt te)
  (hs:∀ x,foldedSetIterable iter X.env x=pure x) {use:Option (Value→Sem Unit)} {QQ:Value→Shared→Prop} {pins:List (Addr × Obj)} {s:Shared} {σ:St} {H:Hp} {p0:Pos} (I:Inv X pins σ H s) (Q:VK)
  (fin:∀ (s4:Shared) (D C:Addr) (H4:Hp),C≠D→H4 C=none→(∃ m,s4.heap.Ns C m)→(∀ h',Heap.SameBut C s4.heap h'→Inv X pins σ H4 { s4 with heap:=h' }) →
   ((C∈X.ex∨X.s₀.heap.objs.size≤C)∧C≠X.env.locals∧(∀ x c,X.env.cells.lookup x=some c→c≠C)∧∀ p∈X.pn++pins,p.1≠C)→Q (.ref D) H4→compPost (model X.prog X.w) X.A X.xe use QQ (.ref D) C (.ok .next) s4)
  (h:kP nt cap wi g tt te σ H Q):wpAny (model X.prog X.w) X.A (comprehension (.ListComp elt [⟨tg,iter,ifs,0⟩] scope pos) scope X.env p0 (newList []) false (eval iter X.env) use) QQ X.xe s:=by
 have hcells:∀ y∈scope.names,y.2=.free→∃ c,X.env.cells.lookup y.1=some c:=fun y hy hk=>I.ok.has y.1 (by show X.env.scope.names.lookup y.1=_∨X.env.scope.names.lookup y.1=_; rw [hsc]; exact chk.fr y hy hk)
 refine wpAny_comprehension_free (use:=use) rfl hs (kQ hcells) chk.kind chk.names ?_
 refine thn (hi pins s σ H _ I h) fun v s1 h1=>thn h1 fun itv s2 h2=>?_
 obtain ⟨it,fp,tn,J,H2,e,I2,T,st2,f2,W,⟨m0,w0⟩,turn⟩:=h2
 subst e
 refine wpAny_newObj_type (lu chk.one fun h₁ hns hcell old₁=>?_)
 dsimp only at hns hcell old₁ ⊢
 generalize hG:s2.heap.push { cls:=.type "list",dict:=none,data:=.seq ([]:List Value).toArray }=G at hns hcell old₁ ⊢
 have hCs:G.objs.size=s2.heap.objs.size+1:=by rw [← hG,Heap.size_push]
 have hDC:s2.heap.objs.size≠G.objs.size:=by rw [hCs]; exact Nat.ne_of_lt (Nat.lt_succ_self _)
 have old:∀ b o,s2.heap.get? b=some o→h₁.get? b=some o:=fun b o e=>old₁ b o (hG ▸ Heap.get?_push_of_some _ e)
 have hacc:h₁.get? s2.heap.objs.size=some { cls:=.type "list",dict:=none,data:=.seq ([]:List Value).toArray }:=old₁ _ _ (hG ▸ Heap.get?_push_size _ rfl)
 have hfp:∀ b∈fp,b<s2.heap.objs.size:=fun b hb=>by
  obtain ⟨o,e,_⟩:=T.obj 0 _ st2 b hb
  exact Heap.lt_size e
 generalize hD:s2.heap.objs.size=D at hacc hDC ⊢
 generalize hC:G.objs.size=C at hns hcell hDC ⊢
 have hDC':s2.heap.objs.size<C:=by rw [← hC,hCs]; exact Nat.lt_succ_self _
 let cl:=(x0,C+1)::cw X.env.cells scope.names []
 let X':=cB X scope x0 cl N' C s2 H2 fp
 let ob:List Value→Nat→Obj:=fun its n=>{ cls:=.type "list",dict:=none,data:=.seq its.toArray n }
 have I0:Inv X' [(D,ob [] 0)] (fV nt cap σ) H2 { s2 with heap:=h₁ }:=zt hsc hN chk I2 f2 hD hDC' hns old hfp hacc (fun v z=>nomatch z) hcell (Nat.lt_succ_self C)
 have fpD:∀ b∈fp,b≠D:=fun b hb z=>by have:=hfp b hb; rw [z,hD] at this; exact Nat.lt_irrefl _ this
 have stat:∀ {H':Hp} {its:List Value} {n:Nat},(∀ b∈fp,H' b=none)→∀ b∈fp,kx X' [(D,ob its n)] H' b:=fun {H' its n} hn b hb=>by
  obtain ⟨_,f1,f2',f3,f4,f5⟩:=f2 b hb
  refine ⟨hn b hb,Nat.ne_of_lt (Nat.lt_trans (hfp b hb) hDC'),I0.ok.wM b hb,.inl hb,(I0.ok.exf b hb).2,fun p hp=>?_⟩
  have hp':p=(D,ob its n):=by simpa [X',cB,aL] using hp
  subst hp'
  exact Ne.symm (fpD b hb)
 have st0:tn 0 h₁:=T.keep 0 _ _ st2 fun b hb o e=>old b o e
 have loop:codeAny (model X.prog X.w) X.A (.compLoop (.ListComp elt [⟨tg,iter,ifs,0⟩] scope pos) 0 (.ref it) (.ref D) (compEnvC scope cl C X.env))
   (compPost (model X.prog X.w) X.A X.xe use QQ (.ref D) C) { s2 with heap:=h₁ }:=by
  refine lU (fun k s'=>∃ i ys its n H',Inv X' [(D,ob its n)] (fV nt cap σ) H' s'∧tn i s'.heap∧(∀ b∈fp,H' b=none)∧Vals ys its∧W i k ys H') ?_ m0 ⟨0,[],[],0,H2,I0,st0,fun b hb=>(f2 b hb).1,.nil,w0⟩
  rintro k s3 ⟨i,ys,its,n,H3,I3,st3,fr3,rv3,w3⟩
  have pD:=I3.pin (D,ob its n) (by simp)
  rcases turn i k ys H3 w3 with ⟨stop,hz,qn⟩ | ⟨go,step⟩
  ·refine wpAny_mono (T.done X' rfl rfl rfl hc i _ s3 _ H3 (fun _ _=>False) I3 (stat fr3) st3 stop) (fun r s4 zz_=>?_) fun _ _ z=>False.elim z
   obtain ⟨hr,I4⟩:=zz_
   subst hr
   have pD4:=I4.pin (D,ob its n) (by simp)
   obtain ⟨mC,hnC,_⟩:=I4.loc
   have J:∀ h',Heap.SameBut C s4.heap h'→Inv X pins σ (upd H3 D (.lst ys)) { s4 with heap:=h' }:=fun h' sb=>by
    have hfree:H3 D=none:=pD4.2.1
    have neC:∀ b u,H3 b=some u→b≠C:=fun b u e z=>by
     have:H3 C=none:=I4.free
     rw [z,this] at e; cases e
    have neD:∀ b u,H3 b=some u→b≠D:=fun b u e z=>by rw [z,hfree] at e; cases e
    have hltC:∀ b,b<s2.heap.objs.size→b≠C:=fun b hb=>by omega
    have hltD:∀ b,b<s2.heap.objs.size→b≠D:=fun b hb=>by omega
    have hgD:h'.get? D=some (ob its n):=sb.extBut D _ hDC pD4.1
    have un:Un (frs X.stack) fp H2 (upd H3 D (.lst ys)) s2.heap h':=by
     have bs:Un (frs X.stack) fp H2 H3 s2.heap s4.heap:=I4.base
     refine ⟨fun b o e n hb hx=>?_,fun b o e n hb hx=>?_,fun b o e n hx=>?_,fun b o e hx=>?_,fun b xs e=>?_,fun b o u e=>?_,fun b ps e=>?_⟩
     ·exact sb.extBut b o (hltC b (Heap.lt_size e)) (bs.keep b o e n hb hx)
     ·obtain ⟨sl,q⟩:=bs.slot b o e n hb hx
      exact ⟨sl,sb.extBut b _ (hltC b (Heap.lt_size e)) q⟩
     ·rw [aH (hltD b (Heap.lt_size e))]; exact bs.free b o e n hx
     ·obtain ⟨o',q⟩:=bs.there b o e hx
      exact ⟨o',sb.extBut b _ (hltC b (Heap.lt_size e)) q⟩
     ·have q:=bs.pY b xs e
      rw [aH (neD b _ q)]; exact q
     ·have q:=bs.oF b o u e
      rw [aH (neD b _ q)]; exact q
     ·obtain ⟨more,q⟩:=bs.pZ b ps e
      exact ⟨more,by rw [aH (neD b _ q)]; exact q⟩
    have hok:HOk X.prog X.w (upd H3 D (.lst ys)) h':=fun b u e=>by
     by_cases hb:b=D
     ·subst hb
      rw [bD] at e; cases e
      exact ⟨hz,its,n,rv3,hgD⟩
     ·rw [aH hb] at e
      refine (I4.hok b u e).oE (fun c v hcc q=>sb.extBut c v ?_ q) (fun c q=>by rw [aH (neD c _ q)]; exact q) fun c xs q=>by rw [aH (neD c _ q)]; exact q
      rcases hcc with rfl | hcc
      ·exact neC _ _ e
      ·exact neC _ _ hcc
    have hch:∀ b∈fp,(b∈X.ex∨X.s₀.heap.objs.size≤b)∧b≠X.env.locals∧(∀ x c,X.env.cells.lookup x=some c→c≠b)∧∀ p∈X.pn++pins,p.1≠b:=fun b hb=>by
     obtain ⟨_,f1,_,f3,f4,f5⟩:=f2 b hb
     exact ⟨f3,f1,f4,f5⟩
    have os4:s4.os=s2.os:=I4.os
    have I5:Inv X pins σ (upd H3 D (.lst ys)) { s4 with heap:=h' }:=I2.xZ (s':={ s4 with heap:=h' }) os4 un hok I4.bare hch
    exact I5
   have hfree:H3 D=none:=pD4.2.1
   have hfC:H3 C=none:=I4.free
   exact fin s4 D C _ (Ne.symm hDC) (by rw [aH (Ne.symm hDC)]; exact hfC) ⟨mC,hnC⟩ J
    ⟨.inr (Nat.le_trans I2.sz (Nat.le_of_lt hDC')),fun z=>Nat.lt_irrefl _ (Nat.lt_trans hDC' (z ▸ I2.lt)),fun x c e z=>(by
     obtain ⟨v',oc,h5,h6⟩:=I2.cell x c e
     exact Nat.lt_irrefl _ (Nat.lt_trans hDC' (z ▸ Heap.lt_size h5))),fun p hp z=>Nat.lt_irrefl _ (Nat.lt_trans hDC' (z ▸ Heap.lt_size (I2.pin p hp).1))⟩ (qn D hfree)
  ·refine wpAny_mono (T.item X' rfl rfl rfl hc i _ s3 _ H3 (fun _ _=>False) I3 (stat fr3) st3 go) (fun r s4 zz_=>?_) fun _ _ z=>False.elim z
   obtain ⟨u,hr,h4⟩:=zz_
   subst hr
   refine wpAny_mono h4 (fun _ s5 zz_=>?_) fun _ _ z=>False.elim z
   obtain ⟨x,H5,I5,r5,y5,st5,fr5⟩:=zz_
   have I5':=I5.pinned (stat fr5) (T.obj _ _ st5)
   refine wpAny_mono (hg cl C s2 H2 fp _ s5 _ H5 x u _ I5' r5 (hge _ _ _ _ (step x H5 y5))) (fun _ s6 zz_=>?_) fun _ _ z=>False.elim z
   obtain ⟨σ6,H6,I6,⟨ext,exl⟩,q6⟩:=zz_
   refine wpAny_mono (ht cl C s2 H2 fp _ s6 σ6 H6 _ I6 q6) (fun b s7 zz_=>?_) fun _ _ z=>False.elim z
   obtain ⟨H7,I7,q7⟩:=zz_
   have back:∀ {s':Shared} {H':Hp},Inv X' ([(D,ob its n)]++mQ fp s5.heap) σ6 H' s'→Inv X' [(D,ob its n)] (fV nt cap σ) H' s'∧tn (i+1) s'.heap∧∀ b∈fp,H' b=none:=fun {s' H'} J=>by
    refine ⟨J.jy.weak (by rw [exl]) fun j w e=>?_,T.keep _ _ _ st5 fun b hb o e=>(J.pin (b,o) (List.mem_append_right _ (List.mem_append_right _ (gk hb e)))).1,fun b hb=>?_⟩
    ·have hj:nt≤j:=by
      apply Nat.le_of_not_lt
      intro hj
      unfold fV at e
      rw [List.getElem?_append_left (by simpa using hj),List.getElem?_replicate,if_pos hj] at e
      cases e
     rw [ext j hj]; exact e
    ·obtain ⟨o,e,d⟩:=T.obj _ _ st5 b hb
     exact (J.pin (b,o) (List.mem_append_right _ (List.mem_append_right _ (gk hb e)))).2.1
   cases b with
   | false =>
    rw [if_neg Bool.false_ne_true] at q7 ⊢
    obtain ⟨m',hm,w7⟩:=q7
    obtain ⟨J,st7,fr7⟩:=back I7
    exact ⟨m',hm,i+1,ys,its,n,H7,J,st7,fr7,rv3,w7⟩
   | true =>
    rw [if_pos rfl] at q7 ⊢
    refine wpAny_mono (he cl C s2 H2 fp _ s7 σ6 H7 _ I7 q7) (fun y s8 zz_=>?_) fun _ _ z=>False.elim z
    obtain ⟨yv,H8,I8,r8,hz8,m',hm,w8⟩:=zz_
    obtain ⟨J,st8,fr8⟩:=back I8
    have pD8:=J.pin (D,ob its n) (by simp)
    have hsz:its.toArray.size≤sizeLine:=by
     have:=rv3.length
     rw [List.size_toArray]; omega
    refine wpAny_list_append_plain (l:=D) (items:=its.toArray) ⟨n,pD8.1⟩ (fun h9 pl sb9=>?_) hsz
    obtain ⟨n9,e9⟩:=pl
    refine ⟨m',hm,i+1,ys++[yv],its++[y],n9,H8, ?_,T.keep _ _ _ st8 fun b hb o e=>sb9.extBut b o (fpD b hb) e,fr8,rv3.append (.cons r8 .nil),w8⟩
    have J0:Inv X' [] (fV nt cap σ) H8 s8:=J.ka fun p hp=>absurd hp (by simp)
    have cellsD:∀ x c,X'.env.cells.lookup x=some c→c≠D:=fun x c e z=>by
     obtain ⟨v',oc,h5,h6⟩:=J.cell x c e
     rw [z,pD8.1] at h5; cases h5
     exact absurd h6 (fun z=>nomatch z)
    have J1:Inv X' [] (fV nt cap σ) H8 { s8 with heap:=h9 }:=J0.turned (t':=s8.toks) (fun b o hb e=>sb9.extBut b o hb e) pD8.2.1 pD8.2.2.1 (.inr (Nat.le_of_eq hD)) cellsD (fun p hp=>absurd hp (by simp [X',cB,aL]))
    refine J1.ka fun p hp=>?_
    have hp':p=(D,ob (its++[y]) n9):=by simpa using hp
    subst hp'
    refine ⟨?_,pD8.2.1,pD8.2.2.1,pD8.2.2.2.1,fun v z=>nomatch z⟩
    show h9.get? D=some (ob (its++[y]) n9)
    rw [e9]
    simp [ob]
 refine codeAny_compStart_list loop ?_
 exact T.self X.A 0 _ _ _ st0 loop
theorem zu (hsc:X.env.scope=sc)(hN:X.N=N)(chk:m7 sc scope N N' nt cap x0)(hc:X.calm=true)(hi:PI X tg iter wi)
  (hg:∀ cl C s2 H2 fp,PG (cB X scope x0 cl N' C s2 H2 fp) tg g) (hge:lg nt g) (ht:∀ cl C s2 H2 fp,iW (cB X scope x0 cl N' C s2 H2 fp) ifs tt) (he:∀ cl C s2 H2 fp,PE (cB X scope x0 cl N' C s2 H2 fp) elt te)
  (hs:∀ x,foldedSetIterable iter X.env x=pure x:=by intro _; rfl):PE X (.ListComp elt [⟨tg,iter,ifs,0⟩] scope pos) (kP nt cap wi g tt te):=by
 intro pins s σ H Q I h
 rw [eval_ListComp]
 exact v8 (use:=none) hsc hN chk hc hi hg hge ht he hs I Q (fun s4 D C H4 _ _ hn J _ q=>by
  obtain ⟨m,hm⟩:=hn
  exact ⟨m,hm,fun h' sb=>⟨.ref D,_,J h' sb,rfl,q⟩⟩) h
end
end L2
end
section
namespace DL
open PySem PySem.Spec PyProof.Rows L2
section
variable {X:Cx}{c:Ct}{pos:Pos}{a b:Expr}{x0:Str}{iter elt tg:Expr}{ifs:List Expr}{scope sc:Scope}{N N':List Str}{nt:Nat}{cap:List Nat}{fi fe:FE}{ft:FT}{tgf:FG}{gt:TG}
theorem DefX.zw {cl:List (Str × Addr)}{C:Addr}{s2:Shared}{H2:Hp}{fp:List Addr}(d:DefX X N sc)(hN':N'.Nodup):DefX (cB X scope x0 cl N' C s2 H2 fp) N' (i9 scope sc):=by
 refine ⟨rfl, ?_,d.calm,hN'⟩
 show (compEnvC scope cl C X.env).scope=_
 rw [← d.hsc]
 rfl
theorem DefX.nlk {cl:List (Str × Addr)}{C:Addr}{s2:Shared}{H2:Hp}{fp:List Addr}{sc2:Scope}(d:DefX (cB X scope x0 cl N' C s2 H2 fp) N' sc2){i:Nat}(h:N'[i]?=some x0)(hl:sc2.names.lookup x0=some .cell):Nl (cB X scope x0 cl N' C s2 H2 fp) i x0 :=
 ⟨by rw [d.hN]; exact d.nd,by rw [d.hN]; exact h,by rw [d.hsc]; exact .inr hl,.inl (beq_self_eq_true x0)⟩
theorem xB {p p2:Pos}{fs:FA}(d:DefX X N sc)(chk:m7 sc scope N N' nt cap x0)(hcap:cap.Nodup)(hN':N'.Nodup)(hgr:Gl X "range")(hm:X.mg "range"=none)(ha:PDA X c [a] fs)
  (hg:∀ cl C s2 H2 fp,DefX (cB X scope x0 cl N' C s2 H2 fp) N' (i9 scope sc)→PG (cB X scope x0 cl N' C s2 H2 fp) tg gt) (hge:lg nt gt) (sg:gn (tx X c) tgf gt)
  (ht:∀ cl C s2 H2 fp,DefX (cB X scope x0 cl N' C s2 H2 fp) N' (i9 scope sc)→iW (cB X scope x0 cl N' C s2 H2 fp) ifs (tP (tx X c) kB ft))
  (he:∀ cl C s2 H2 fp,DefX (cB X scope x0 cl N' C s2 H2 fp) N' (i9 scope sc)→PE (cB X scope x0 cl N' C s2 H2 fp) elt (tP (tx X c) (kD (tx X c)) fe)) (hst:isStar a=false:=by rfl)
  :PF X c (.ListComp elt [⟨tg,.Call (.Name "range" p) [a] [] p2,ifs,0⟩] scope pos) (dH j9 nt cap tgf fs ft fe) :=
 PE.imp (zu (tt:=tP (tx X c) kB ft) (te:=tP (tx X c) (kD (tx X c)) fe) d.hsc d.hN chk d.calm (mP hgr hm ha (eN hst)) (fun cl C s2 H2 fp=>hg cl C s2 H2 fp (d.zw hN')) hge (fun cl C s2 H2 fp=>ht cl C s2 H2 fp (d.zw hN')) (fun cl C s2 H2 fp=>he cl C s2 H2 fp (d.zw hN')) (d9 rfl)) fun _ _ _ h=>sS sg hcap h
end
end DL
end
section
namespace DL
open L2
end DL
end
section
namespace DL
open PySem PySem.Spec PyProof.Rows L2
section
variable {T:Tx}{X:XQ}{F:FS}{fi fe:FE}{ft:FT}{De:Ends}{σ:L2.St}{H:Hp}{tg:FG}{g:TG}
end
section
variable {X:Cx}{c:Ct}{xq:XQ}{ts:List Expr}{tk:Nat}{tp p ip pos:Pos}{iter:Expr}{fi:FE}{tgf:FG}{gt:TG}{F:FS}
end
end DL
end
section
namespace DL
open L2
end DL
end
section
namespace DL
open PySem PySem.Spec PyProof.Rows L2
section
variable {X:Cx}{c:Ct}{a:Expr}{ta:TE}{f:FE}{pos p2:Pos}{j:Nat}{q:Bool}
end
end DL
end
section
namespace DL
open PySem PySem.Spec PyProof.Rows L2
section
variable {X:Cx}{c:Ct}{a:Expr}{ta:TE}{f:FE}{pos p:Pos}{x:Str}{tb:List (List Nat × Int)}
end
end DL
end
section
namespace DL
open L2
end DL
end
section
namespace L2
open PySem PySem.Spec PyProof.Rows DL
section
variable {X:Cx}{st:Stmt}{rest:List Stmt}{t u:TS}{pos:Pos}
end
end L2
namespace DL
open PySem PySem.Spec PyProof.Rows L2
section
variable {X:Cx}{c:Ct}{xq:XQ}{st:Stmt}{rest:List Stmt}{a b o:Expr}{f g fe:FE}{F G:FS}{t:FT}{pos:Pos}
end
end DL
end
section
namespace DL
open L2
end DL
end
section
namespace L2
open PySem PySem.Spec PyProof.Rows DL Builtin
section
variable {X:Cx}
end
end L2
namespace DL
open PySem PySem.Spec PyProof.Rows L2
section
variable {X:Cx}{c:Ct}{a b:Expr}{f g:FE}{pos:Pos}
end
end DL
end
section
namespace DL
open L2
noncomputable def p7 (k:Nat):List Nat→List D→Option D
 | k'::ks,d::ds=>if k'=k then some d else p7 k ks ds
 | _,_=>none
noncomputable def aU (k:Nat):D→Option D
 | .ob _ ks ds=>p7 k ks ds
 | _=>none
noncomputable abbrev iv (α:Type):=Nat→Option (List Nat × (List D→Option α))
noncomputable def dW {α:Type}(n:Nat)(tab:iv α):D→List D→Option α
 | .ob c ks ds,as=>(tab c).bind fun p=>if ks=p.1∧as.length=n then p.2 (.ob c ks ds::as) else none
 | _,_=>none
noncomputable def bA {α:Type}(n:Nat)(tab:iv α)(fo:FE)(fa:FA):FP α:=fun env=>(fo env).bind fun d=>(fa env).bind fun as=>dW n tab d as
noncomputable abbrev IFn:=Nat→List D→Option (List Nat × List D)
noncomputable def fw (k n:Nat)(I:IFn)(fa:FA):FE:=fun env=>(fa env).bind fun as=>if as.length=n then (I k as).map fun p=>.ob k p.1 p.2 else none
noncomputable def eL (i k:Nat)(f:FE):FS:=fun env=>match env[i]? with
 | some (.obj c ks ds)=>if k∈ks∨100≤ks.length then none else (f env).map fun d=>.nx (env.set i (.obj c (ks++[k]) (ds++[d])))
 | _=>none
noncomputable def ib (i n:Nat)(I:IFn)(fa:FA):FS:=fun env=>match env[i]? with
 | some (.obj c [] [])=>(fa env).bind fun as=>if as.length=n then (I c as).map fun p=>.nx (env.set i (.obj c p.1 p.2)) else none
 | _=>none
noncomputable def gY (N:Nat)(F:FS):IFn:=fun k ds=>(F (.obj k [] []::envOf N ds)).bind fun r=>match r with
 | .nx env'=>match (env'[0]?:Option Slot) with
  | some (.obj k' ks es)=>if k'=k then some (ks,es) else none
  | _=>none
 | _=>none
end DL
end
section
namespace DL
open PySem PySem.Spec PyProof.Rows L2
noncomputable def wc:Expr→Bool
 | .Call _ _ _ _=>false
 | _=>true
theorem we {e:Expr}{f:Str}{env:Env}(h:wc e=true):attributeBase e f env (eval e env)=eval e env:=by
 cases e <;> first | rfl | cases h
structure fv (K:PySem.W.Frag)(c:Ct)(k:Nat):Prop where
 cls:∀ n C,c.cl n=some C→Cls K C∧j6 K C (c.fld k)
 inj:∀ k',c.fld k'=c.fld k→k'=k
theorem p9 {T:Tx}{A:Addr→Prop}{H:Hp}{k:Nat}(inj:∀ k',T.fld k'=T.fld k→k'=k):∀ {ks:List Nat} {ds:List D} {fs:List (Str × V)} {d:D},fs.map (·.1)=ks.map T.fld→aC T A H ds (fs.map (·.2))→p7 k ks ds=some d →
  ∃ v,fs.lookup (T.fld k)=some v∧Rep T A H d v
 | [],_,_,_,_,_,e=>by simp [p7] at e
 | k'::ks,[],_,_,_,_,e=>by simp [p7] at e
 | k'::ks,d'::ds,[],_,h,_,e=>by simp at h
 | k'::ks,d'::ds,(x,u)::fs,d,h,r,e=>by
  simp only [List.map_cons,List.cons.injEq] at h
  obtain ⟨v,r1,e2,h1,h2⟩:=r.dF
  simp only [List.map_cons,List.cons.injEq] at e2
  obtain ⟨rfl,rfl⟩:=e2
  unfold p7 at e
  by_cases hk:k'=k
  ·rw [if_pos hk] at e; cases e
   subst hk
   refine ⟨u, ?_,h1⟩
   rw [List.lookup,h.1]; simp
  ·rw [if_neg hk] at e
   obtain ⟨v,l,q⟩:=p9 inj h.2 h2 e
   refine ⟨v, ?_,q⟩
   have hb:(T.fld k == x)=false:=by
    rw [beq_eq_false_iff_ne,h.1]
    intro z; exact hk (inj _ z.symm)
   rw [List.lookup,hb]; exact l
theorem tF {f:Str}{v:V}:∀ {fs:List (Str × V)},f ∉ fs.map (·.1)→jA f v fs=fs++[(f,v)]
 | [],_=>rfl
 | (g,x)::r,h=>by
  simp only [List.map_cons,List.mem_cons,not_or] at h
  show (if g=f then _ else _)=_
  rw [if_neg (fun z=>h.1 z.symm),tF h.2]; rfl
section
variable {X:Cx}{c:Ct}{xq:XQ}{o e:Expr}{es:List Expr}{f fo:FE}{fa:FA}{pos apos:Pos}{m:Str}
theorem aA {k:Nat}{nm:Str}(F:fv X.K c k)(hn:nm=c.fld k)(ho:PD X c o f)(hb:wc o=true:=by rfl):PD X c (.Attribute o nm pos) (fp1 (aU k) f):=by
 subst hn
 refine PE.imp (yk ho (we hb)) fun σ H Q h=>?_
 obtain ⟨W,O,env,d,E,e1,q⟩:=h
 unfold fp1 at e1
 cases e2:f env with
 | none=>rw [e2] at e1; cases e1
 | some x =>
  rw [e2] at e1
  dsimp only [Option.bind_some] at e1
  refine ⟨W,O,env,x,E,e2,fun v H1 s1 r1=>?_⟩
  unfold aU at e1
  split at e1
  ·next n ks ds =>
   have r2:Rep (tx X c) (Cl W O) H1 (.ob n ks ds) v:=r1
   simp only [Rep] at r2
   obtain ⟨a,C,dx,fs,rfl,ha,hC,hH,hk,hr⟩:=r2
   obtain ⟨u,l,ru⟩:=p9 F.inj hk hr e1
   obtain ⟨h1,h2⟩:=F.cls n C hC
   exact ⟨a,C,dx,fs,u,rfl,hH,h1,h2,l,q u H1 s1 ru⟩
  ·cases e1
theorem tG {i k:Nat}{x nm:Str}{p1 p2:Pos}(F:fv X.K c k)(hn:nm=c.fld k)(n:Nm X i x)(hv:PD X c e f)(hs:swapsWith e (some (.Attribute (.Name x p1) nm p2)) pos.line X.env=pure false:=by rfl) :
  PDS X c xq (.Assign [.Attribute (.Name x p1) nm p2] e pos) (eL i k f):=by
 subst hn
 refine PS.imp (Dw (iP n.hN n.hv n.hd n.hc) hv hs) fun De σ H h=>?_
 obtain ⟨W,O,env,fl,E,e1,q⟩:=h
 unfold eL at e1
 split at e1
 ·next n ks ds hi =>
  by_cases hc:k∈ks∨100≤ks.length
  ·rw [if_pos hc] at e1; cases e1
  ·rw [if_neg hc] at e1
   rw [not_or] at hc
   cases e2:f env with
   | none=>rw [e2] at e1; cases e1
   | some d =>
    rw [e2] at e1; cases e1
    refine ⟨W,O,env,d,E,e2,fun v H1 s1 r1=>?_⟩
    have E1:=E.mono s1
    obtain ⟨a,C,dx,fs,h1,h2,h3,h4,h5,h6,h7⟩:=E1.obj hi
    obtain ⟨g1,g2⟩:=F.cls n C h4
    have hlen:fs.length=ks.length:=by have:=congrArg List.length h6; simpa using this
    have hnew:c.fld k ∉ fs.map (·.1):=by
     rw [h6]
     intro z
     obtain ⟨k',hk',ek⟩:=List.mem_map.mp z
     exact hc.1 (F.inj k' ek ▸ hk')
    refine ⟨.ref a,h1,a,C,dx,fs,rfl,h5,g1,g2,by rw [hlen]; omega, ?_⟩
    rw [tF hnew]
    have fr:Fr O H1 O (L2.upd H1 a (.ins C dx (fs++[(c.fld k,v)]))):=⟨fun b u h n=>by rw [aH (by rintro rfl; exact n h2)]; exact h,fun b h=>.inl h,fun b h=>by
     by_cases z:b=a
     ·subst z; rw [bD] at h; cases h
     ·rw [aH z] at h; exact h⟩
    have up:=E1.upd (o:=.ins C dx (fs++[(c.fld k,v)])) (t:=.obj n (ks++[k]) (ds++[d])) hi rfl h1 trivial ⟨a,C,dx,fs++[(c.fld k,v)],rfl,h2,h3,h4,bD,by
     rw [List.map_append,List.map_append,h6]; rfl,by
     rw [List.map_append]
     exact (aC.kp (E1.kp fr) h7).append (.cons (Rep.kp (E1.kp fr) r1) .nil)⟩
    exact q σ _ O up.1 ((Fr.same s1).trans up.2)
 ·cases e1
end
theorem d4 {i k:Nat}{x nm:Str}{p1 p2:Pos}(F:fv X.K c k)(hn:nm=c.fld k)(n:Nm X i x)(hv:PD X c e f)(hs:rE e=true:=by rfl) :
  PDS X c xq (.Assign [.Attribute (.Name x p1) nm p2] e pos) (eL i k f):=tG F hn n hv (gN hs)
structure ic (P:Program)(w:World)(K:PySem.W.Frag)(mg:Str→Option Value)(base:Heap)(c:Ct)(m:Str)(n k:Nat)(tab:iv D):Prop where
 ex:∀ j lay F,tab j=some (lay,F)→∃ C f fd ps,c.cl j=some C∧Cls K C∧Meth K C m f∧fz P w K mg base CX0 k f fd ps (spD ⟨K,c.cl,c.fld⟩ (n+1) F)∧Binds K fd ps []∧∀ i∈lay,c.fld i≠m
structure pd (P:Program)(w:World)(K:PySem.W.Frag)(mg:Str→Option Value)(base:Heap)(c:Ct)(m:Str)(n k:Nat)(tab:iv (List D)):Prop where
 ex:∀ j lay F,tab j=some (lay,F)→∃ C f fd ps,c.cl j=some C∧Cls K C∧Meth K C m f∧fz P w K mg base CX0 k f fd ps (spF ⟨K,c.cl,c.fld⟩ (n+1) F)∧Binds K fd ps []∧∀ i∈lay,c.fld i≠m
theorem kj {m:Str}:∀ {fs:List (Str × V)},m ∉ fs.map (·.1)→fs.lookup m=none
 | [],_=>rfl
 | (g,x)::r,h=>by
  simp only [List.map_cons,List.mem_cons,not_or] at h
  have hb:(m == g)=false:=beq_eq_false_iff_ne.mpr h.1
  rw [List.lookup,hb]; exact kj h.2
theorem lx {α:Type}{n:Nat}{tab:iv α}{x:D}{as:List D}{d:α}(h:dW n tab x as=some d):∃ cn ks ds F,x=.ob cn ks ds∧tab cn=some (ks,F)∧as.length=n∧F (x::as)=some d:=by
 cases x with
 | ob cn ks ds =>
  simp only [dW] at h
  cases e4:tab cn with
  | none=>rw [e4] at h; cases h
  | some p =>
   rw [e4] at h
   dsimp only [Option.bind_some] at h
   by_cases hc:ks=p.1∧as.length=n
   ·rw [if_pos hc] at h
    exact ⟨cn,ks,ds,p.2,rfl,by rw [e4,hc.1],hc.2,h⟩
   ·rw [if_neg hc] at h; cases h
 | _=>simp [dW] at h
theorem jM {α:Type}{n:Nat}{tab:iv α}{fo:FE}{fa:FA}{env:aN}{d:α}(h:bA n tab fo fa env=some d):∃ x as,fo env=some x∧fa env=some as∧dW n tab x as=some d:=by
 unfold bA at h
 cases e2:fo env with
 | none=>rw [e2] at h; cases h
 | some x =>
  rw [e2] at h
  dsimp only [Option.bind_some] at h
  cases e3:fa env with
  | none=>rw [e3] at h; cases h
  | some as=>rw [e3] at h; exact ⟨x,as,rfl,rfl,h⟩
section
variable {X:Cx}{c:Ct}{xq:XQ}{o e:Expr}{es:List Expr}{f fo:FE}{fa:FA}{pos apos:Pos}{m:Str}
theorem cN {n k j:Nat}{tab:iv D}{pl:Sem Bool}(G:ic X.prog X.w X.K X.mg X.base c m n k tab)(hr:dS j X.A)(hkj:k≤j)(ho:PD X c o fo)(ha:PDA X c (e::es) fa)(he:isStar e=false:=by rfl)(hpl:er es=true:=by rfl)
  (ht:eval (.Call (.Attribute o m apos) (e::es) [] pos) X.env=(do
   let ov ← eval o X.env
   standAt apos.atName
   let (f,first) ← holding [ov] (getMethod ov m pl)
   callWith pos f first (backTo pos (starEach (e::es) X.env)) (backToKw pos (keywordEach [] X.env))):=by rfl) :
  PD X c (.Call (.Attribute o m apos) (e::es) [] pos) (bA n tab fo fa):=by
 intro pins s σ H Q I h
 obtain ⟨W,O,env,d,E,e1,q⟩:=h
 obtain ⟨x,as,e2,e3,e4⟩:=jM e1
 obtain ⟨cn,ks,ds,F,rfl,e5,hl,e6⟩:=lx e4
 obtain ⟨C,f,fd,ps,h1,h2,h3,h4,h5,h6⟩:=G.ex cn ks F e5
 refine As (E:=E0) ho h2 h3 h4 (hr.mono hkj) h5 .nil oM ha (aO he) (d7 hpl) ht pins s σ H Q I ?_
 refine ⟨W,O,env,.ob cn ks ds,E,e2,fun v H1 s1 r1=>?_⟩
 have r2:Rep (tx X c) (Cl W O) H1 (.ob cn ks ds) v:=r1
 have r3:=r2
 simp only [Rep] at r3
 obtain ⟨a,C',dx,fs,rfl,ha',hC,hH,hk,hrr⟩:=r3
 have hC2:c.cl cn=some C':=hC
 rw [h1] at hC2
 cases hC2
 refine ⟨a,dx,fs,rfl,hH,kj ?_,W,O,env,as,E.mono s1,e3,fun vs H2 s2 r4=>?_⟩
 ·rw [hk]
  intro z
  obtain ⟨i,hi,ei⟩:=List.mem_map.mp z
  exact h6 i hi ei
 ·show spD _ _ _ (.ref a::(vs++[])) H2 Q E0
  rw [List.append_nil]
  exact ⟨by rw [List.length_cons, ← aC.length r4,hl],Cl W O,.ob cn ks ds::as,d,fun b nb=>((E.mono s1).mono s2).lQ nb,.cons (r2.mono s2 fun _ z=>z) r4,e6,fun w H' s3 r5=>q w H' (s1.trans (s2.trans s3)) r5⟩
theorem tH {k j:Nat}{tab:iv D}{pl:Sem Bool}(G:ic X.prog X.w X.K X.mg X.base c m 0 k tab)(hr:dS j X.A)(hkj:k≤j)(ho:PD X c o fo)
  (ht:eval (.Call (.Attribute o m apos) [] [] pos) X.env=(do
   let ov ← eval o X.env
   standAt apos.atName
   let (f,first) ← holding [ov] (getMethod ov m pl)
   callWith pos f first (backTo pos (starEach [] X.env)) (backToKw pos (keywordEach [] X.env))):=by rfl) :
  PD X c (.Call (.Attribute o m apos) [] [] pos) (bA 0 tab fo az):=by
 intro pins s σ H Q I h
 obtain ⟨W,O,env,d,E,e1,q⟩:=h
 obtain ⟨x,as,e2,e3,e4⟩:=jM e1
 obtain ⟨cn,ks,ds,F,rfl,e5,hl,e6⟩:=lx e4
 obtain ⟨C,f,fd,ps,h1,h2,h3,h4,h5,h6⟩:=G.ex cn ks F e5
 cases e3
 refine sJ (E:=E0) ho h2 h3 h4 (hr.mono hkj) h5 .nil oM ht pins s σ H Q I ?_
 refine ⟨W,O,env,.ob cn ks ds,E,e2,fun v H1 s1 r1=>?_⟩
 have r2:Rep (tx X c) (Cl W O) H1 (.ob cn ks ds) v:=r1
 have r3:=r2
 simp only [Rep] at r3
 obtain ⟨a,C',dx,fs,rfl,ha',hC,hH,hk,hrr⟩:=r3
 have hC2:c.cl cn=some C':=hC
 rw [h1] at hC2
 cases hC2
 refine ⟨a,dx,fs,rfl,hH,kj ?_, ?_⟩
 ·rw [hk]
  intro z
  obtain ⟨i,hi,ei⟩:=List.mem_map.mp z
  exact h6 i hi ei
 ·show spD _ _ _ (.ref a::[]) H1 Q E0
  exact ⟨rfl,Cl W O,[.ob cn ks ds],d,fun b nb=>(E.mono s1).lQ nb,.cons r2 .nil,e6,fun w H' s3 r5=>q w H' (s1.trans s3) r5⟩
theorem m9 {k j:Nat}{tab:iv (List D)}{pl:Sem Bool}(G:pd X.prog X.w X.K X.mg X.base c m 0 k tab)(hr:dS j X.A)(hkj:k≤j)(ho:PD X c o fo)
  (ht:eval (.Call (.Attribute o m apos) [] [] pos) X.env=(do
   let ov ← eval o X.env
   standAt apos.atName
   let (f,first) ← holding [ov] (getMethod ov m pl)
   callWith pos f first (backTo pos (starEach [] X.env)) (backToKw pos (keywordEach [] X.env))):=by rfl) :
  PF X c (.Call (.Attribute o m apos) [] [] pos) (bA 0 tab fo az):=by
 intro pins s σ H Q I h
 obtain ⟨W,O,env,d,E,e1,q⟩:=h
 obtain ⟨x,as,e2,e3,e4⟩:=jM e1
 obtain ⟨cn,ks,ds,F,rfl,e5,hl,e6⟩:=lx e4
 obtain ⟨C,f,fd,ps,h1,h2,h3,h4,h5,h6⟩:=G.ex cn ks F e5
 cases e3
 refine sJ (E:=E0) ho h2 h3 h4 (hr.mono hkj) h5 .nil oM ht pins s σ H Q I ?_
 refine ⟨W,O,env,.ob cn ks ds,E,e2,fun v H1 s1 r1=>?_⟩
 have r2:Rep (tx X c) (Cl W O) H1 (.ob cn ks ds) v:=r1
 have r3:=r2
 simp only [Rep] at r3
 obtain ⟨a,C',dx,fs,rfl,ha',hC,hH,hk,hrr⟩:=r3
 have hC2:c.cl cn=some C':=hC
 rw [h1] at hC2
 cases hC2
 refine ⟨a,dx,fs,rfl,hH,kj ?_, ?_⟩
 ·rw [hk]
  intro z
  obtain ⟨i,hi,ei⟩:=List.mem_map.mp z
  exact h6 i hi ei
 ·show spF _ _ _ (.ref a::[]) H1 Q E0
  exact ⟨rfl,Cl W O,[.ob cn ks ds],d,fun b nb=>(E.mono s1).lQ nb,.cons r2 .nil,e6,fun w H' s3 r5=>q w H' (s1.trans s3) (Kd.an (ρ:=kF (tx X c)) _ _ _ _ _ _ s1 r5)⟩
end
noncomputable def spI (T:Tx)(n:Nat)(I:IFn):Sp:=fun vs H Q _=>vs.length=n+1∧∃ (A:Addr→Prop) (x:Addr) (us:List V) (C dx:Addr) (k:Nat) (ds:List D) (p:List Nat × List D),vs=.ref x::us∧T.cl k=some C∧H x=some (.ins C dx [])∧¬ A x∧Nw A H∧aC T A H ds us∧I k ds=some p ∧
 ∀ (H':Hp) (dx':Addr) (fs:List (Str × V)),(∀ b o,H b=some o→b≠x→H' b=some o)→(∀ b,H' b=none→H b=none)→H' x=some (.ins C dx' fs)→fs.map (·.1)=p.1.map T.fld→aC T A H' p.2 (fs.map (·.2))→Q .non H'
structure fA (P:Program)(w:World)(K:PySem.W.Frag)(mg:Str→Option Value)(base:Heap)(c:Ct)(x:Str)(n k kc:Nat)(I:IFn):Prop where
 ex:∃ C f fd ps,mg x=some (.ref C)∧c.cl kc=some C∧Mk K C f∧fz P w K mg base CX0 k f fd ps (spI ⟨K,c.cl,c.fld⟩ n I)∧Binds K fd ps []
theorem bN.GN {T:Tx}{W:Wf}{O:Addr→Prop}{H H':Hp}{env:aN}{σ:L2.St}(E:bN T W O H env σ){i:Nat}{s t:Slot}{a:Addr}(e:env[i]?=some s)(hs:s.gW=true)(ev:σ[i]?=some (some (.ref a)))
  (keep:∀ b o,H b=some o→b≠a→H' b=some o) (dom:∀ b,H' b=none→H b=none) (hm:Mu (H' a)) (r:jB T W O H' t (some (.ref a))) (hn:∀ dss,t≠.lP dss:=by exact fun _ z=>nomatch z):bN T W O H' (env.set i t) σ∧Fr O H O H':=by
 have oa:O a:=by
  obtain ⟨b,eb,o⟩:=(E.slot i s e).j7 hs
  rw [ev] at eb; cases eb; exact o
 have f:Fr O H O H':=⟨fun b u h n=>keep b u h (by rintro rfl; exact n oa),fun b h=>.inl h,dom⟩
 have same:∀ b,O b→b≠a→H' b=H b:=fun b ob hb=>by
  have:=E.mu b ob
  cases eb:H b with
  | none=>rw [eb] at this; exact this.elim
  | some u=>exact keep b u eb hb
 refine ⟨⟨E.fr.trans f,E.new,fun b z=>?_,fun j u e'=>?_,fun j k t' u b e1 e2 o1 o2 s1 s2=>?_,by simp [E.len],fun j k dss u c bs b e1 e2 q hb e3 o3=>?_⟩,f⟩
 ·by_cases h:b=a
  ·subst h; exact hm
  ·rw [same b z h]; exact E.mu b z
 ·rcases set_slot e' with ⟨rfl,rfl,hl⟩ | ⟨h,e'⟩
  ·rw [ev]; exact r
  ·refine (E.slot j u e').kp (E.kp f) (fun _ z=>z) (fun b hs' ev'=>?_) fun dss c bs b eu ev' q hb=>?_
   ·have hb:b≠a:=fun z=>by subst z; exact h (E.inj i j s u b e e' hs hs' ev (join_some ev'))
    obtain ⟨b',eb',ob'⟩:=(E.slot j u e').j7 hs'
    rw [ev'] at eb'; cases eb'
    exact same b ob' hb
   ·subst eu
    obtain ⟨ob,_,_⟩:=(E.slot j _ e').inner ev' q hb
    exact same b ob fun w=>E.nW j i dss s c bs b e' (join_some ev') q hb e hs (w ▸ ev)
 ·have old:∀ {j:Nat} {u:Slot},(env.set i t)[j]?=some u→u.gW=true→∃ u',env[j]?=some u'∧u'.gW=true:=fun {j u} e' o'=>by
   rcases set_slot e' with ⟨rfl,rfl,hl⟩ | ⟨h,e'⟩
   ·exact ⟨s,e,hs⟩
   ·exact ⟨u,e',o'⟩
  obtain ⟨t1,h1,h2⟩:=old e1 o1
  obtain ⟨t2,h3,h4⟩:=old e2 o2
  exact E.inj j k t1 t2 b h1 h3 h2 h4 s1 s2
 ·rcases set_slot e1 with ⟨h1,h2,hl⟩ | ⟨h,q1⟩
  ·exact absurd h2.symm (hn dss)
  ·have hca:c≠a:=fun w=>by subst w; exact h (E.inj i j s _ c e q1 hs rfl ev e2)
   obtain ⟨c',ec,oc⟩:=(E.slot j _ q1).j7 rfl
   rw [e2] at ec; cases ec
   rw [same c oc hca] at q
   rcases set_slot e3 with ⟨rfl,rfl,hl⟩ | ⟨h',q2⟩
   ·exact E.nW j i dss s c bs b q1 e2 q hb e hs
   ·exact E.nW j k dss u c bs b q1 e2 q hb q2 o3
section
variable {X:Cx}{c:Ct}{xq:XQ}{o e:Expr}{es:List Expr}{f fo:FE}{fa:FA}{pos apos:Pos}{m:Str}
theorem Bq {T:Tx}{C:Addr}{n kc:Nat}{I:IFn}{σ:L2.St}{H:Hp}{Q:VK}(hC:T.cl kc=some C)(h:tP T (kD T) (fw kc n I fa) σ H Q):Cq C (spI T n I) [] E0 (tP T (kA T) fa) σ H Q:=by
 obtain ⟨W,O,env,d,E,e1,q⟩:=h
 unfold fw at e1
 cases e2:fa env with
 | none=>rw [e2] at e1; cases e1
 | some as =>
  rw [e2] at e1
  dsimp only [Option.bind_some] at e1
  by_cases hl:as.length=n
  ·rw [if_pos hl] at e1
   cases e3:I kc as with
   | none=>rw [e3] at e1; cases e1
   | some p =>
    rw [e3] at e1; cases e1
    refine ⟨W,O,env,as,E,e2,fun vs H1 s1 r1=>?_⟩
    intro x dx hx hdx hne
    have hsame:aK H1 (upd (upd H1 dx (.own x)) x (.ins C dx [])):=fun b u hb=>by
     rw [aH (dz hb hx),aH (dz hb hdx)]; exact hb
    have E1:=E.mono s1
    refine ⟨?_,fun b=>Cl W O b∧b≠x,x,vs,C,dx,kc,as,p, ?_,hC,bD,fun z=>z.2 rfl,fun b hb=>?_, ?_,e3, ?_⟩
    ·rw [List.length_cons,List.length_append,List.length_nil, ← aC.length r1,hl]
    ·rw [List.append_nil]
    ·have hbx:b≠x:=fun z=>by subst z; rw [bD] at hb; cases hb
     rw [aH hbx] at hb
     have hbd:b≠dx:=fun z=>by subst z; rw [bD] at hb; cases hb
     rw [aH hbd] at hb
     exact ⟨E1.lQ hb,hbx⟩
    ·exact aC.kp (Kp.same hsame fun b u z hb=>⟨z,dz hb hx⟩) r1
    ·intro H' dx' fs kp dm hx' hn hr
     refine ⟨rfl,q (.ref x) H' (fun b u hb=>?_) ?_⟩
     ·have hb1:=s1 b u hb
      exact kp b u (hsame b u hb1) (dz hb1 hx)
     ·show Rep T (Cl W O) H' (.ob kc p.1 p.2) (.ref x)
      simp only [Rep]
      exact ⟨x,C,dx',fs,rfl,E1.lQ hx,hC,hx',hn,hr.mono (aK.refl _) fun _ z=>z.1⟩
  ·rw [if_neg hl] at e1; cases e1
theorem fG {n k j kc:Nat}{I:IFn}{x:Str}{p:Pos}(G:fA X.prog X.w X.K X.mg X.base c x n k kc I)(hr:dS j X.A)(hkj:k+1≤j)(hg:Gl X x)(ha:PDA X c (e::es) fa)
  (hdb:(x == ("__debug__":Str))=false:=by decide) (he:isStar e=false:=by rfl) (hpl:er es=true:=by rfl):PD X c (.Call (.Name x p) (e::es) [] pos) (fw kc n I fa):=by
 obtain ⟨C,f,fd,ps,h1,h2,h3,h4,h5⟩:=G.ex
 exact PE.imp (Au (E:=E0) h3 h4 (hr.mono hkj) hg h1 h5 .nil oM ha hdb (aO he) (d7 hpl)) fun _ _ _ h=>Bq (T:=tx X c) h2 h
structure qM (K:PySem.W.Frag)(C:Addr)(m:Str)(f:Addr):Prop where
 sp:PySem.W.specialIn K (.ref C) "__getattribute__"=some (some (.builtin "type.__getattribute__"))
 ex:∃ mc,PySem.W.readsIn K C mc=true∧PySem.W.findCls K (.ref C) mc m=some (.val (.ref f))
 hd:PySem.W.handedIn (.ref f)=true
 kp:PySem.W.keepIn K (.ref f)=true
structure kT (P:Program)(w:World)(K:PySem.W.Frag)(mg:Str→Option Value)(base:Heap)(c:Ct)(x:Str)(n k:Nat)(I:IFn):Prop where
 ex:∃ C f fd ps,mg x=some (.ref C)∧qM K C "__init__" f∧fz P w K mg base CX0 k f fd ps (spI ⟨K,c.cl,c.fld⟩ n I)∧Binds K fd ps []
theorem pe {C f:Addr}{fd:FuncData}{ps:List Str}{sp:Sp}{k:Nat}{x:Str}{p:Pos}{pl:Sem Bool}{t:TA}(cf:qM X.K C m f)(F:fz X.prog X.w X.K X.mg X.base CX0 k f fd ps sp)(hr:dS k X.A)(hg:Gl X x)(hm:X.mg x=some (.ref C))(hb:Binds X.K fd ps [])
  (ha:PA X (e::es) t) (hst:starEach (e::es) X.env=(false,eval e X.env)::starEach es X.env) (hpl:(backTo pos (starEach es X.env)).any (·.1)=false) (hdb:(x == ("__debug__":Str))=false:=by decide)
  (ht:eval (.Call (.Attribute (.Name x p) m apos) (e::es) [] pos) X.env=(do
   let ov ← eval (.Name x p) X.env
   standAt apos.atName
   let (f,first) ← holding [ov] (getMethod ov m pl)
   callWith pos f first (backTo pos (starEach (e::es) X.env)) (backToKw pos (keywordEach [] X.env))):=by rfl) :
  PE X (.Call (.Attribute (.Name x p) m apos) (e::es) [] pos) (vz sp [] E0 t):=by
 intro pins s σ H Q I h
 obtain ⟨mc,h1,h2⟩:=cf.ex
 refine PySem.W.methodCall_KW (pl:=pl) (lM I hg hm ?_ hdb) ht
 refine PySem.W.method_cls I.kIn cf.sp (PySem.W.cls_value I.kIn h1 h2 cf.hd ?_)
 have I1:=I.tok (s.toks+1)
 refine PySem.W.callWith_K (first:=[]) (h₀:=X.base) I.ok.mod.kin cf.kp (cD (ha pos pins _ σ H _ I1 h) fun us s2 vs H2 I2 r q2=>⟨I2.kIn, ?_⟩) hst hpl
 exact rk F hr hb .nil oM I2 r q2
theorem ie {n k j i:Nat}{I:IFn}{x y:Str}{p p2 p3:Pos}{pl:Sem Bool}(G:kT X.prog X.w X.K X.mg X.base c x n k I)(hr:dS j X.A)(hkj:k≤j)(hg:Gl X x)(nm:Nm X i y)(ha:PDA X c es fa)
  (hpl:er es=true:=by rfl) (hdb:(x == ("__debug__":Str))=false:=by decide)
  (ht:eval (.Call (.Attribute (.Name x p) "__init__" apos) (.Name y p2::es) [] p3) X.env=(do
   let ov ← eval (.Name x p) X.env
   standAt apos.atName
   let (f,first) ← holding [ov] (getMethod ov "__init__" pl)
   callWith p3 f first (backTo p3 (starEach (.Name y p2::es) X.env)) (backToKw p3 (keywordEach [] X.env))):=by rfl) :
  PDS X c xq (.Expr (.Call (.Attribute (.Name x p) "__init__" apos) (.Name y p2::es) [] p3) pos) (ib i n I fa):=by
 obtain ⟨C,f,fd,ps,h1,h2,h4,h5⟩:=G.ex
 refine PS.imp (lN (pe h2 h4 (hr.mono hkj) hg h1 h5 (gZ (iP nm.hN nm.hv nm.hd nm.hc) ha (aO rfl)) (aO rfl) (d7 hpl) hdb ht) (gN rfl)) fun De σ H h=>?_
 obtain ⟨W,O,env,fl,E,e1,q⟩:=h
 unfold ib at e1
 split at e1
 ·next cn hi =>
  cases e2:fa env with
  | none=>rw [e2] at e1; cases e1
  | some as =>
   rw [e2] at e1
   dsimp only [Option.bind_some] at e1
   by_cases hl:as.length=n
   ·rw [if_pos hl] at e1
    cases e3:I cn as with
    | none=>rw [e3] at e1; cases e1
    | some pr =>
     rw [e3] at e1; cases e1
     obtain ⟨a,C',dx,fs,g1,g2,g3,g4,g5,g6,g7⟩:=E.obj hi
     have hfs:fs=[]:=by simpa using g6
     subst hfs
     refine ⟨.ref a,g1,W,O,env,as,E,e2,fun vs H1 s1 r1=>?_⟩
     have E1:=E.mono s1
     refine ⟨?_,Cl W O,a,vs,C',dx,cn,as,pr, ?_,g4,s1 a _ g5,fun z=>z.2 g2,fun b hb=>E1.lQ hb,r1,e3, ?_⟩
     ·rw [List.length_append,List.length_cons,List.length_nil, ← aC.length r1,hl]
     ·rw [List.append_nil]
     ·intro H' dx' fs' kp dm hx' hn hr'
      have up:=E1.GN (t:=.obj cn pr.1 pr.2) hi rfl g1 kp dm (by rw [hx']; trivial) ⟨a,C',dx',fs',rfl,g2,g3,g4,hx',hn,hr'⟩
      exact q σ H' O up.1 ((Fr.same s1).trans up.2)
   ·rw [if_neg hl] at e1; cases e1
 ·cases e1
end
theorem xC {T:Tx}{N n:Nat}{F:FS}{vs:List V}{H:Hp}{Q:VK}{E0:XK}(h:spI T n (gY N F) vs H Q E0):tDs T (fun _ _ _=>False) F { nx:=fun _ H'=>Q .non H',rt:=Q } (vs.map some++List.replicate (N+1 - vs.length) none) H:=by
 obtain ⟨hn,A,x,us,C,dx,k,ds,p,rfl,hC,hx,hA,nw,r,e,q⟩:=h
 unfold gY at e
 cases e1:F (.obj k [] []::envOf N ds) with
 | none=>rw [e1] at e; cases e
 | some fl =>
  rw [e1] at e
  have B:=ja (n:=N) nw r
  have es:(V.ref x::us).map some++List.replicate (N+1 - (V.ref x::us).length) none=some (.ref x)::(us.map some++List.replicate (N - us.length) none):=by
   rw [List.map_cons,List.cons_append,List.length_cons,Nat.add_sub_add_right]
  rw [es]
  have nown:∀ (j:Nat) (s:Slot),(envOf N ds)[j]?=some s→s.gW=false:=fun j s ej=>by
   unfold envOf at ej
   by_cases hj:j<ds.length
   ·rw [List.getElem?_append_left (by simpa using hj),List.getElem?_map] at ej
    cases e2:ds[j]? with
    | none=>rw [e2] at ej; cases ej
    | some d=>rw [e2] at ej; cases ej; rfl
   ·rw [List.getElem?_append_right (by simpa using hj),List.getElem?_replicate] at ej
    split at ej
    ·cases ej; rfl
    ·cases ej
  have start:bN T ⟨A,H,fun b=>b=x⟩ (fun b=>b=x) H (.obj k [] []::envOf N ds) (some (.ref x)::(us.map some++List.replicate (N - us.length) none)):=by
   refine ⟨Fr.refl _ _,nw,fun a z=>by rw [z,hx]; trivial,fun j s ej=>?_,fun j l s t a e1 e2 o1 o2 _ _=>?_, ?_,fun j l dss t a bs b e1 _ _ _ _ _=>?_⟩
   ·cases j with
    | zero =>
     cases ej
     exact ⟨x,C,dx,[],rfl,rfl,(by show H x≠none; rw [hx]; simp),hC,hx,rfl,.nil⟩
    | succ j =>
     have ej':(envOf N ds)[j]?=some s:=by simpa using ej
     have hs:=B.slot j s ej'
     rw [List.getElem?_cons_succ]
     cases s with
     | no=>trivial
     | val d=>obtain ⟨u,eu,ru⟩:=hs; exact ⟨u,eu,ru.mono (aK.refl _) fun b z=>⟨z.1,fun w=>hA (w ▸ z.1)⟩⟩
     | own _=>have:=nown j _ ej'; cases this
     | obj _ _ _=>have:=nown j _ ej'; cases this
     | red _ =>
      unfold envOf at ej'
      by_cases hj:j<ds.length
      ·rw [List.getElem?_append_left (by simpa using hj),List.getElem?_map] at ej'
       cases e2:ds[j]? with
       | none=>rw [e2] at ej'; cases ej'
       | some d=>rw [e2] at ej'; cases ej'
      ·rw [List.getElem?_append_right (by simpa using hj),List.getElem?_replicate] at ej'
       split at ej' <;> cases ej'
     | x9 _ =>
      unfold envOf at ej'
      by_cases hj:j<ds.length
      ·rw [List.getElem?_append_left (by simpa using hj),List.getElem?_map] at ej'
       cases e2:ds[j]? with
       | none=>rw [e2] at ej'; cases ej'
       | some d=>rw [e2] at ej'; cases ej'
      ·rw [List.getElem?_append_right (by simpa using hj),List.getElem?_replicate] at ej'
       split at ej' <;> cases ej'
     | lP _=>have:=nown j _ ej'; cases this
     | uI _=>have:=nown j _ ej'; cases this
   ·cases j with
    | succ j=>have:=nown j s (by simpa using e1); rw [o1] at this; cases this
    | zero=>cases l with
     | succ l=>have:=nown l t (by simpa using e2); rw [o2] at this; cases this
     | zero=>rfl
   ·rw [List.length_cons,List.length_cons,B.len]
   ·cases j with
    | zero=>cases e1
    | succ j=>have:=nown j _ (by simpa using e1); cases this
  refine ⟨⟨A,H,fun b=>b=x⟩,fun b=>b=x,.obj k [] []::envOf N ds,fl,start,e1, ?_⟩
  cases fl with
  | nx env' =>
   intro σ' H' O' E' g
   dsimp only [Option.bind_some] at e
   split at e
   ·next k' ks es' h0 =>
    by_cases hk:k'=k
    ·rw [if_pos hk] at e; cases e
     subst hk
     obtain ⟨a,C',dx',fs,g1,g2,g3,g4,g5,g6,g7⟩:=E'.obj h0
     have ha:a=x:=by
      rcases g.more a g2 with z | z
      ·exact z
      ·exact absurd z g3
     subst ha
     rw [hC] at g4; cases g4
     exact q H' dx' fs (fun b o hb hne=>g.keep b o hb hne) g.dom g5 g6 (g7.mono (aK.refl _) fun _ z=>z.1)
    ·rw [if_neg hk] at e; cases e
   ·cases e
  | rt _ _=>cases e
  | rf _ _=>cases e
  | bk _=>cases e
  | ct _=>cases e
  | ex _ _=>cases e
section
variable {P:Program}{w:World}{K:PySem.W.Frag}{mg:Str→Option Value}{base:Heap}{c:Ct}
theorem wg {x qual:Str}{st:Stmt}{fa:Addr}{fd:FuncData}{y:Str}{N ps:List Str}{k:Nat}{F:FS}(Fn:Fun K x qual st fa fd)(S:aG (y::N) (y::ps) (ag st))
  (body:BodyOk P w K mg base c (y::N) st k F):fz P w K mg base CX0 (k+1) fa fd (y::ps) (spI ⟨K,c.cl,c.fld⟩ ps.length (gY N.length F)):=by
 refine Fn.ok S (fun vs H Q E h=>h.1) fun cdv A outer s H vs Q E hr h=>⟨_,body.ok _ rfl rfl rfl rfl rfl ⟨⟨rfl,rfl,rfl,S.nd⟩,fun _=>rfl,PassesOwn.never⟩ hr, ?_⟩
 exact xC (E0:=E) h
end
end DL
end
section
namespace DL
open L2
noncomputable def fU (as bs:List D):List D:=(as.zip bs).map fun p=>.tup [p.1,p.2]
noncomputable def v9:List D→Option (List D)
 | [.lst xs,.lst ys]=>some (fU xs ys)
 | _=>none
noncomputable def pf:List D→Option (List D)
 | [.str z,.lst ys]=>if z.length≤1000000 then some (fU (z.map fun c=>.str [c]) ys) else none
 | _=>none
noncomputable def ph (zf:List D→Option (List D))(tg:FG)(fa:FA)(body:FS):FS:=fun env=>(fa env).bind fun as=>(zf as).bind fun ds=>runFor tg body ds env
noncomputable def tI (cs:List Nat):D→Option D
 | .ob c _ _=>some (.bl (cs.contains c))
 | _=>none
theorem zy (bs:List D):fU [] bs=[]:=rfl
theorem qN (a b:D)(as bs:List D):fU (a::as) (b::bs)=.tup [a,b]::fU as bs:=rfl
theorem pj (as bs:List D):(fU as bs).length=min as.length bs.length:=by unfold fU; simp
theorem tJ {as bs:List D}{j:Nat}{a b:D}(h1:as[j]?=some a)(h2:bs[j]?=some b):(fU as bs)[j]?=some (.tup [a,b]):=by
 unfold fU
 rw [List.getElem?_map,List.getElem?_zip_eq_some.mpr (show as[j]?=some (a,b).1∧bs[j]?=some (a,b).2 from ⟨h1,h2⟩)]; rfl
@[simp] theorem Ia (xs ys:List D):v9 [.lst xs,.lst ys]=some (fU xs ys):=(Eq.refl _).trans (Eq.refl _)
@[simp] theorem GO (z:List Nat)(ys:List D):pf [.str z,.lst ys]=if z.length≤1000000 then some (fU (z.map fun c=>.str [c]) ys) else none:=(Eq.refl _).trans (Eq.refl _)
@[simp] theorem Fx (zf:List D→Option (List D))(tg:FG)(fa:FA)(body:FS)(env:aN):ph zf tg fa body env=aM (fa env) (fun as=>aM (zf as) fun ds=>runFor tg body ds env):=(Eq.refl _).trans (Eq.refl _)
@[simp] theorem GP (cs:List Nat)(c:Nat)(ks:List Nat)(ds:List D):tI cs (.ob c ks ds)=some (.bl (cs.contains c)):=(Eq.refl _).trans (Eq.refl _)
@[simp] theorem Ib (k c:Nat)(ks:List Nat)(ds:List D):aU k (.ob c ks ds)=p7 k ks ds:=(Eq.refl _).trans (Eq.refl _)
@[simp] theorem Ic (k k':Nat)(ks:List Nat)(d:D)(ds:List D):p7 k (k'::ks) (d::ds)=if k'=k then some d else p7 k ks ds:=(Eq.refl _).trans (Eq.refl _)
@[simp] theorem jN {α:Type}(n:Nat)(tab:iv α)(c:Nat)(ks:List Nat)(ds as:List D):dW n tab (.ob c ks ds) as=aM (tab c) fun p=>if ks=p.1∧as.length=n then p.2 (.ob c ks ds::as) else none:=(Eq.refl _).trans (Eq.refl _)
@[simp] theorem qO {α:Type}(n:Nat)(tab:iv α)(fo:FE)(fa:FA)(env:aN):bA n tab fo fa env=aM (fo env) fun d=>aM (fa env) fun as=>dW n tab d as:=(Eq.refl _).trans (Eq.refl _)
@[simp] theorem Fy (k n:Nat)(I:IFn)(fa:FA)(env:aN):fw k n I fa env=aM (fa env) fun as=>if as.length=n then omap (fun p:List Nat × List D=>.ob k p.1 p.2) (I k as) else none:=(Eq.refl _).trans (Eq.refl _)
noncomputable def fZ:Option Slot→Option (Nat × List Nat × List D)
 | some (.obj c ks ds)=>some (c,ks,ds)
 | _=>none
@[simp] theorem xD (c:Nat)(ks:List Nat)(ds:List D):fZ (some (.obj c ks ds))=some (c,ks,ds):=(Eq.refl _).trans (Eq.refl _)
@[simp] theorem GQ (i k:Nat)(f:FE)(env:aN):eL i k f env=aM (fZ env[i]?) fun p=>if k∈p.2.1∨100≤p.2.1.length then none else omap (fun d=>.nx (env.set i (.obj p.1 (p.2.1++[k]) (p.2.2++[d])))) (f env):=by
 unfold eL fZ
 cases h:env[i]? with
 | none=>rfl
 | some s=>cases s <;> rfl
@[simp] theorem Fz (i n:Nat)(I:IFn)(fa:FA)(env:aN):ib i n I fa env=aM (fZ env[i]?) fun p=>if p.2.1=[]∧p.2.2=[] then aM (fa env) fun as=>if as.length=n then omap (fun r:List Nat × List D=>.nx (env.set i (.obj p.1 r.1 r.2))) (I p.1 as) else none else none:=by
 unfold ib fZ
 cases h:env[i]? with
 | none=>rfl
 | some s =>
  cases s with
  | obj c ks ds =>
   cases ks with
   | nil=>cases ds <;> rfl
   | cons a b=>rfl
  | no=>rfl
  | val d=>rfl
  | own d=>rfl
  | red d=>rfl
  | lP d=>rfl
  | x9 d=>rfl
  | uI d=>rfl
noncomputable def xE (k:Nat):DFl→Option (List Nat × List D)
 | .nx env'=>aM (fZ env'[0]?) fun p=>if p.1=k then some (p.2.1,p.2.2) else none
 | _=>none
@[simp] theorem Br (k:Nat)(env':aN):xE k (.nx env')=aM (fZ env'[0]?) fun p=>if p.1=k then some (p.2.1,p.2.2) else none:=(Eq.refl _).trans (Eq.refl _)
theorem eE (N:Nat)(F:FS)(k:Nat)(ds:List D):gY N F k ds=aM (F (.obj k [] []::envOf N ds)) (xE k):=by
 unfold gY xE
 cases h:F (.obj k [] []::envOf N ds) with
 | none=>rfl
 | some r =>
  cases r with
  | nx env' =>
   show (match (env'[0]?:Option Slot) with
    | some (.obj k' ks es)=>if k'=k then some (ks,es) else none
    | _=>none)=_
   cases h2:env'[0]? with
   | none=>show none=aM (fZ env'[0]?) _; rw [h2]; rfl
   | some s =>
    cases s with
    | obj c ks es=>show _=aM (fZ env'[0]?) _; rw [h2]; rfl
    | no=>show none=aM (fZ env'[0]?) _; rw [h2]; rfl
    | val d=>show none=aM (fZ env'[0]?) _; rw [h2]; rfl
    | own d=>show none=aM (fZ env'[0]?) _; rw [h2]; rfl
    | red d=>show none=aM (fZ env'[0]?) _; rw [h2]; rfl
    | lP d=>show none=aM (fZ env'[0]?) _; rw [h2]; rfl
    | x9 d=>show none=aM (fZ env'[0]?) _; rw [h2]; rfl
    | uI d=>show none=aM (fZ env'[0]?) _; rw [h2]; rfl
  | _=>rfl
end DL
end
section
namespace L2
open PySem PySem.Spec PyProof.Rows
section
variable {X:Cx}{pins:List (Addr × Obj)}{σ:List (Option V)}{H H':Hp}{s:Shared}{h':Heap}
theorem Inv.wj {t':Nat}{fp:List Addr}{p:Addr}{vs:List V}(I:Inv X pins σ H s)(k:∀ b o,b ∉ fp→s.heap.get? b=some o→h'.get? b=some o)(hf:∀ b∈fp,kx X pins H b)(fq:kx X pins H p)
  (hp:s.heap.get? p=none) (new:fy X.prog X.w (upd H p (.tup vs)) h' p (.tup vs)):Inv X pins σ (upd H p (.tup vs)) { s with heap:=h',toks:=t' }:=by
 have ne:∀ b u,H b=some u→b ∉ fp:=fun b u q z=>by rw [(hf b z).1] at q; cases q
 have np:∀ b u,H b=some u→b≠p:=fun b u q z=>by rw [z,fq.1] at q; cases q
 have kk:∀ b o,b ∉ p::fp→s.heap.get? b=some o→h'.get? b=some o:=fun b o hb q=>k b o (fun z=>hb (List.mem_cons_of_mem _ z)) q
 refine I.step (g':=s.gens) (d':=s.drawn) (ch:=p::fp) (fun b hb=>?_) (fun b o _ _ hc q _=>kk b o hc q) (fun b o _ _ hc q _=>⟨o.slots,kk b o hc q⟩) (fun b _ hc _ n=>by rw [aH (fun z=>hc (by simp [z]))]; exact n)
  (fun b o hc q=>⟨o,kk b o hc q⟩) (fun b xs q=>by rw [aH (np b _ q)]; exact q) (fun b _ _ q=>by rw [aH (np b _ q)]; exact q) (fun b ps q=>⟨#[],by rw [aH (np b _ q),q]; simp⟩) (fun m hm=>?_) (fun b u q=>?_) I.bare
 ·rcases List.mem_cons.mp hb with rfl | hb
  ·exact ⟨fq.2.2.2.1,fq.2.1,fq.2.2.2.2.1,fq.2.2.2.2.2⟩
  ·have fe:=hf b hb; exact ⟨fe.2.2.2.1,fe.2.1,fe.2.2.2.2.1,fe.2.2.2.2.2⟩
 ·obtain ⟨o,es,ep,ho,r⟩:=hm
  exact ⟨o,es,ep,k _ o (fun z=>(hf _ z).2.1 rfl) ho,r⟩
 ·by_cases hb:b=p
  ·subst hb; rw [bD] at q; cases q; exact new
  ·rw [aH hb] at q
   refine (I.hok b u q).oE (fun c v hc z=>k c v ?_ z) (fun c z=>by rw [aH (np c _ z)]; exact z) fun c xs z=>by rw [aH (np c _ z)]; exact z
   rcases hc with z | z
   ·rw [z]; exact ne b u q
   ·exact ne c _ z
theorem Inv.wk {t':Nat}{fp:List Addr}(I:Inv X pins σ H s)(k:∀ b o,b ∉ fp→s.heap.get? b=some o→h'.get? b=some o)(hf:∀ b∈fp,kx X pins H b):Inv X pins σ H { s with heap:=h',toks:=t' }:=by
 have ne:∀ b u,H b=some u→b ∉ fp:=fun b u q z=>by rw [(hf b z).1] at q; cases q
 refine I.step (g':=s.gens) (d':=s.drawn) (ch:=fp) (fun b hb=>?_) (fun b o _ _ hc e _=>k b o hc e) (fun b o _ _ hc e _=>⟨o.slots,k b o hc e⟩) (fun _ _ _ _ n=>n)
  (fun b o hc e=>⟨o,k b o hc e⟩) (fun _ _ e=>e) (fun _ _ _ e=>e) (fun b ps e=>⟨#[],by rw [e]; simp⟩) (fun m hm=>?_) (fun b u e=>?_) I.bare
 ·have fe:=hf b hb; exact ⟨fe.2.2.2.1,fe.2.1,fe.2.2.2.2.1,fe.2.2.2.2.2⟩
 ·obtain ⟨o,es,ep,ho,r⟩:=hm
  exact ⟨o,es,ep,k _ o (fun z=>(hf _ z).2.1 rfl) ho,r⟩
 ·refine (I.hok b u e).oE (fun c v hc q=>k c v ?_ q) (fun _ q=>q) fun _ _ q=>q
  rcases hc with z | z
  ·rw [z]; exact ne b u e
  ·exact ne c _ z
end
noncomputable def Itz (K:PySem.W.Frag)(l1 l2:Addr):It :=
 ⟨fun i H=>∃ xs ys x y,SqL K H l1 xs∧SqL K H l2 ys∧xs[i]?=some x∧ys[i]?=some y,
  fun i H v H'=>∃ p x y,H p=none∧v=.ref p∧H'=upd H p (.tup [x,y])∧(∀ xs,SqL K H l1 xs→xs[i]?=some x)∧∀ ys,SqL K H l2 ys→ys[i]?=some y,
  fun i H=>∃ xs ys,SqL K H l1 xs∧SqL K H l2 ys∧(xs.length≤i∨ys.length≤i)⟩
structure n6 (z TI TO i1 i2:Addr):Prop where
 TIz:TI≠z
 TOz:TO≠z
 i1z:i1≠z
 i2z:i2≠z
 TITO:TI≠TO
 TIi1:TI≠i1
 TIi2:TI≠i2
 TOi1:TO≠i1
 TOi2:TO≠i2
 i12:i1≠i2
theorem n6.all {h:Heap}{z TI TO i1 i2 l1 l2:Addr}{xs ys:Array Value}{a b:Value}{k1 k2:Nat}{f0:Value}(D:n6 z TI TO i1 i2)(hz:IsZip h z TI TO f0)(hTO:IsPair h TO a b)(h1:h.IsListIter i1 l1 k1)(h2:h.IsListIter i2 l2 k2)(p1:h.IsList l1 xs)(p2:h.IsList l2 ys):ZipApart z TI TO i1 i2 l1 l2:=by
 obtain ⟨o1,e1,c1,_⟩:=p1
 obtain ⟨o2,e2,c2,_⟩:=p2
 obtain ⟨q1,f1,d1,_⟩:=h1
 obtain ⟨q2,f2,d2,_⟩:=h2
 refine ⟨D.TIz,D.TOz,D.i1z,D.i2z,D.TITO,D.TIi1,D.TIi2,D.TOi1,D.TOi2,D.i12, ?_, ?_, ?_, ?_, ?_, ?_, ?_, ?_⟩
 ·rintro rfl; have:=e1.symm.trans hz; cases this; simp at c1
 ·rintro rfl; have:=e1.symm.trans hTO; cases this; simp at c1
 ·rintro rfl; rw [e1] at f1; cases f1; rw [c1] at d1; simp at d1
 ·rintro rfl; rw [e1] at f2; cases f2; rw [c1] at d2; simp at d2
 ·rintro rfl; have:=e2.symm.trans hz; cases this; simp at c2
 ·rintro rfl; have:=e2.symm.trans hTO; cases this; simp at c2
 ·rintro rfl; rw [e2] at f1; cases f1; rw [c2] at d1; simp at d1
 ·rintro rfl; rw [e2] at f2; cases f2; rw [c2] at d2; simp at d2
theorem zA {P:Program}{w:World}{K:PySem.W.Frag}{ts:List Expr}{tk:Nat}{tp:Pos}(l1 l2 z TI TO i1 i2:Addr)(D:n6 z TI TO i1 i2):Turn P w K (.Tuple ts tk tp) (Itz K l1 l2) [z,TI,TO,i1,i2] z
  (fun i h=>IsZip h z TI TO .none∧IsPair h TI (.ref i1) (.ref i2)∧(∃ a b,IsPair h TO a b)∧h.IsListIter i1 l1 i∧h.IsListIter i2 l2 i) where
 mem:=by simp
 obj:=fun i h st b hb=>by
  obtain ⟨hz,hTI,⟨a,c,hTO⟩,⟨o1,e1,c1,d1⟩,⟨o2,e2,c2,d2⟩⟩:=st
  have:b=z∨b=TI∨b=TO∨b=i1∨b=i2:=by simpa using hb
  rcases this with rfl | rfl | rfl | rfl | rfl
  ·exact ⟨_,hz,fun v q=>by cases q⟩
  ·exact ⟨_,hTI,fun v q=>by cases q⟩
  ·exact ⟨_,hTO,fun v q=>by cases q⟩
  ·exact ⟨o1,e1,fun v q=>by rw [d1] at q; cases q⟩
  ·exact ⟨o2,e2,fun v q=>by rw [d2] at q; cases q⟩
 keep:=fun i h h' st k=>by
  obtain ⟨hz,hTI,⟨a,c,hTO⟩,h1,h2⟩:=st
  exact ⟨k z (by simp) _ hz,k TI (by simp) _ hTI,⟨a,c,k TO (by simp) _ hTO⟩,h1.at fun o q=>k i1 (by simp) o q,h2.at fun o q=>k i2 (by simp) o q⟩
 item:=by
  intro X hP hw hK hc i pins s σ H E I hf st hg
  subst hP hw hK
  obtain ⟨hz,hTI,⟨a,c,hTO⟩,h1,h2⟩:=st
  obtain ⟨xs,ys,x,y,hq1,hq2,hx,hy⟩:=hg
  obtain ⟨its1,rv1,p1,hz1⟩:=I.list hq1
  obtain ⟨its2,rv2,p2,hz2⟩:=I.list hq2
  obtain ⟨u,hu,ru⟩:=rv1.get hx
  obtain ⟨v,hv,rv⟩:=rv2.get hy
  have DD:=D.all hz hTO h1 h2 p1.isList p2.isList
  refine wpAny_pyNext_zip_item DD hz hTI hTO h1 h2 p1.isList p2.isList (x:=u) (y:=v) (by simpa using hu) (by simpa using hv) fun h₁ hzo hTO₁ h1₁ h2₁ hT₁ hsz₁ hk₁=>?_
  refine ⟨_,rfl,wpAny_letOwnedTupleGo_zip hzo fun h₂ hz₂ hs₂=>?_⟩
  have hzlt:z<s.heap.objs.size:=Heap.lt_size hz
  have keep:∀ b o,b ∉ [z,TI,TO,i1,i2]→s.heap.get? b=some o→h₂.get? b=some o:=fun b o hb q=>by
   have n1:b≠z:=fun e=>hb (by simp [e])
   have n2:b≠TO:=fun e=>hb (by simp [e])
   have n3:b≠i1:=fun e=>hb (by simp [e])
   have n4:b≠i2:=fun e=>hb (by simp [e])
   exact (hs₂.2 b n1).trans (hk₁ b o n1 n2 n3 n4 q)
  have htup:IsTup h₂ s.heap.objs.size #[u,v]:=⟨_,(hs₂.2 _ (Nat.ne_of_gt hzlt)).trans hT₁,rfl,_,rfl⟩
  have fp:=I.oH (Nat.le_refl _) (I.hok.fresh (Nat.le_refl _))
  have lt:∀ b∈[z,TI,TO,i1,i2],b<s.heap.objs.size:=fun b hb=>by
   have:b=z∨b=TI∨b=TO∨b=i1∨b=i2:=by simpa using hb
   rcases this with rfl | rfl | rfl | rfl | rfl
   ·exact hzlt
   ·exact Heap.lt_size hTI
   ·exact Heap.lt_size hTO
   ·obtain ⟨o,ho,_⟩:=h1; exact Heap.lt_size ho
   ·obtain ⟨o,ho,_⟩:=h2; exact Heap.lt_size ho
  refine ⟨.ref s.heap.objs.size,upd H s.heap.objs.size (.tup [x,y]), ?_,rfl,⟨_,x,y,I.hok.fresh (Nat.le_refl _),rfl,rfl,fun zs hzs=>by rw [I.iU hzs hq1]; exact hx,fun zs hzs=>by rw [I.iU hzs hq2]; exact hy⟩, ?_,fun b hb=>?_⟩
  ·exact I.wj (t':=s.toks) keep hf fp (Heap.get?_none_of_le (Nat.le_refl _)) ⟨(show (2:Nat)≤sizeLine by decide),[u,v],.cons ru (.cons rv .nil),htup⟩
  ·refine ⟨hz₂,(hs₂.2 TI D.TIz).trans (hk₁ TI _ D.TIz D.TITO D.TIi1 D.TIi2 hTI),⟨u,v,(hs₂.2 TO D.TOz).trans hTO₁⟩,h1₁.at fun o q=>(hs₂.2 i1 D.i1z).trans q,h2₁.at fun o q=>(hs₂.2 i2 D.i2z).trans q⟩
  ·rw [aH (Nat.ne_of_lt (lt b hb))]; exact (hf b hb).1
 done:=by
  intro X hP hw hK hc i pins s σ H E I hf st hg
  subst hP hw hK
  obtain ⟨hz,hTI,⟨a,c,hTO⟩,h1,h2⟩:=st
  obtain ⟨xs,ys,hq1,hq2,hx⟩:=hg
  obtain ⟨its1,rv1,p1,hz1⟩:=I.list hq1
  obtain ⟨its2,rv2,p2,hz2⟩:=I.list hq2
  have hl1:=rv1.length
  have hl2:=rv2.length
  have DD:=D.all hz hTO h1 h2 p1.isList p2.isList
  refine wpAny_pyNext_zip_end (I.ok.hd hc) DD hz hTI hTO h1 h2 p1.isList p2.isList ?_ fun h' hk=>⟨rfl,I.wk (t':=s.toks) (fun b o hb q=>?_) hf⟩
  ·rcases hx with hx | hx
   ·exact .inl (by simp; omega)
   ·exact .inr (by simp; omega)
  ·exact hk b o (fun e=>hb (by simp [e])) (fun e=>hb (by simp [e])) (fun e=>hb (by simp [e])) (fun e=>hb (by simp [e])) q
 self:=fun _ _ _ _ _ st h=>wpAny_pyIter_zip st.1 h
noncomputable def GS (K:PySem.W.Frag)(ta:TA):TI:=fun σ H R=>ta σ H fun vs H1=>∃ a b,vs=[.ref a,.ref b]∧(∃ xs,SqL K H1 a xs)∧(∃ xs,SqL K H1 b xs)∧R (Itz K a b) H1
theorem Eu {X:Cx}{a b:Expr}{ta:TA}{p pos:Pos}{ts:List Expr}{tk:Nat}{tp:Pos}(hg:Gl X "zip")(hm:X.mg "zip"=none)(ha:PA X [a,b] ta)(hs:DL.isStar a=false)(hs2:DL.er [b]=true) :
  PI X (.Tuple ts tk tp) (.Call (.Name "zip" p) [a,b] [] pos) (GS X.K ta):=by
 intro pins s σ H R I h
 refine Call_ (gS I hg hm boot_zip (PyProof.Rows.callWith_type1 (cD (ha pos pins s σ H _ I h) fun us s1 vs H1 I1 r1 q1=>?_) (DL.aO hs) (DL.d7 hs2)))
 obtain ⟨l1,l2,e,⟨xs,hq1⟩,⟨ys,hq2⟩,q⟩:=q1
 subst e
 cases r1 with
 | cons r rr =>
  cases rr with
  | cons r2 rr2 =>
  cases rr2
  cases r
  cases r2
  obtain ⟨its1,rv1,p1,hz1⟩:=I1.list hq1
  obtain ⟨its2,rv2,p2,hz2⟩:=I1.list hq2
  refine call_zip_2 p1.isList p2.isList fun h' hz hTI hTO h1 h2 hsz hk=>?_
  refine wpAny_pyIter_zip hz ?_
  refine ⟨s1.heap.objs.size+4,[s1.heap.objs.size+4,s1.heap.objs.size+2,s1.heap.objs.size+3,s1.heap.objs.size,s1.heap.objs.size+1],_,_,H1,rfl,I1.kept (t':=s1.toks) hk,zA l1 l2 (s1.heap.objs.size+4) (s1.heap.objs.size+2) (s1.heap.objs.size+3) s1.heap.objs.size (s1.heap.objs.size+1) ⟨Nat.ne_of_lt (by omega),Nat.ne_of_lt (by omega),Nat.ne_of_lt (by omega),Nat.ne_of_lt (by omega),Nat.ne_of_lt (by omega),Nat.ne_of_gt (by omega),Nat.ne_of_gt (by omega),Nat.ne_of_gt (by omega),Nat.ne_of_gt (by omega),Nat.ne_of_lt (by omega)⟩,⟨hz,hTI,⟨_,_,hTO⟩,h1,h2⟩,fun b hb=>?_,q⟩
  have hb':b=s1.heap.objs.size+4∨b=s1.heap.objs.size+2∨b=s1.heap.objs.size+3∨b=s1.heap.objs.size∨b=s1.heap.objs.size+1:=by simpa using hb
  have:s1.heap.objs.size≤b:=by rcases hb' with rfl | rfl | rfl | rfl | rfl <;> first | exact Nat.le_add_right _ _ | exact Nat.le_refl _
  exact I1.oH this (I1.hok.fresh this)
end L2
namespace DL
open PySem PySem.Spec PyProof.Rows L2
theorem xF {as:List D}{ds:List D}(h:v9 as=some ds):∃ xs ys,as=[.lst xs,.lst ys]∧ds=fU xs ys:=by
 unfold v9 at h
 split at h
 ·cases h; exact ⟨_,_,rfl,rfl⟩
 ·cases h
section
variable {T:Tx}{X:XQ}{F:FS}{fa:FA}{De:Ends}{σ:L2.St}{H:Hp}{tg:FG}{g:TG}
end
section
variable {X:Cx}{c:Ct}{xq:XQ}{ts:List Expr}{tk:Nat}{tp p ip pos:Pos}{a b:Expr}{fa:FA}{tgf:FG}{gt:TG}{F:FS}{f:FE}{e:Expr}
end
end DL
end
section
namespace DL
open PySem PySem.Spec PyProof.Rows L2
structure CP (K:PySem.W.Frag)(mg:Str→Option Value)(c:Ct)(x:Str)(cs:List Nat):Prop where
 ex:∃ C,mg x=some (.ref C)∧∀ n Cn,c.cl n=some Cn→Cls K Cn∧PySem.W.findIn K (.ref Cn) "__class__"=some (some (.builtin "object.__class__"))∧PySem.W.specialIn K (.builtin "object.__class__") "__get__"=some (some (.builtin "getset_descriptor.__get__")) ∧
  PySem.W.takesIn K (.builtin "object.__class__")=some true∧PySem.W.mroIn K Cn (.type "object")=some true∧PySem.W.kitOne K (.ref Cn) (.ref C)=some (cs.contains n)
section
variable {X:Cx}{c:Ct}{e:Expr}{f:FE}{pos:Pos}
theorem vc {x:Str}{cs:List Nat}{p p2:Pos}(G:CP X.K X.mg c x cs)(hg:Gl X "isinstance")(hm:X.mg "isinstance"=none)(hg2:Gl X x)(ha:PD X c e f)(he:isStar e=false:=by rfl)(hdb:(x == ("__debug__":Str))=false:=by decide) :
  PD X c (.Call (.Name "isinstance" p) [e,.Name x p2] [] pos) (fp1 (tI cs) f):=by
 obtain ⟨C,hC,hall⟩:=G.ex
 intro pins s σ H Q I h
 refine wpAny_Call_Name_kw (gS I hg hm (show bootBuiltins "isinstance"=some (.builtin "isinstance") by decide +kernel) ?_ (by decide) (by decide))
 have hN:PE X (.Name x p2) (tC (.ref C)):=fun pins s σ H Q I h=>lM I hg2 hC ⟨.ref C,H,I,rfl,h⟩ hdb
 have hA:PA X [e,.Name x p2] (nL (tP (tx X c) (kD (tx X c)) f) (nL (tC (.ref C)) uE)):=gZ ha (gZ hN oJ (aO rfl)) (aO he)
 obtain ⟨W,O,env,d,E,ee,q⟩:=h
 unfold fp1 at ee
 cases e1:f env with
 | none=>rw [e1] at ee; cases ee
 | some y =>
  rw [e1] at ee
  dsimp only [Option.bind_some] at ee
  cases y with
  | ob n ks ds =>
   cases ee
   refine PyProof.Rows.callWith_builtin1 (cD (hA pos pins s σ H (fun vs H1=>∃ v,vs=[v,.ref C]∧aK H H1∧Rep (tx X c) (Cl W O) H1 (.ob n ks ds) v) I ⟨W,O,env,.ob n ks ds,E,e1,fun v H1 s1 r1=>⟨v,rfl,s1,r1⟩⟩) fun us s1 vs H1 I1 r1 zz_=>?_) (aO he) (d7 rfl)
   obtain ⟨v,ev,s1',rv⟩:=zz_
   subst ev
   obtain ⟨u,u2,rfl,ru,ru2⟩:=vals2 r1
   cases ru2
   simp only [Rep] at rv
   obtain ⟨a,Cn,dx,fs,rfl,ha',hCn,hH,hk,hrr⟩:=rv
   obtain ⟨g1,g2,g3,g4,g5,g6⟩:=hall n Cn hCn
   exact wW I1 ru (.ins hH g1 g2 g3 g4 g5) g6 fun tk=>⟨.bl _,H1,I1.tok _,rfl,q _ H1 s1' (Rep.bl _)⟩
  | non=>cases ee
  | bl _=>cases ee
  | int _=>cases ee
  | str _=>cases ee
  | tup _=>cases ee
  | lst _=>cases ee
  | dct _ _=>cases ee
  | exc _=>cases ee
theorem eP {K:PySem.W.Frag}{cs:List Addr}{nms:List Str}{k:Nat}{nm:Str}(hk:nms[k]?=some nm)(hne:nm≠"!")(hd:nms.Nodup)(h:∀ C∈cs,Cls K C∧j6 K C nm):fv K ⟨fun n=>cs[n]?,fun i=>nms.getD i "!"⟩ k:=by
 have e:nms.getD k "!"=nm:=by rw [List.getD_eq_getElem?_getD,hk]; rfl
 refine ⟨fun n C hn=>?_,fun k' hk'=>?_⟩
 ·have:=h C (List.mem_of_getElem? hn)
  show Cls K C∧j6 K C (nms.getD k "!")
  rw [e]; exact this
 ·have hk2:nms.getD k' "!"=nm:=by rw [← e]; exact hk'
  rw [List.getD_eq_getElem?_getD] at hk2
  cases h2:nms[k']? with
  | none=>rw [h2] at hk2; exact absurd hk2.symm hne
  | some y =>
   rw [h2] at hk2
   have hy:y=nm:=hk2
   subst hy
   obtain ⟨l1,g1⟩:=List.getElem?_eq_some_iff.mp h2
   obtain ⟨l2,g2⟩:=List.getElem?_eq_some_iff.mp hk
   have pw:=List.pairwise_iff_getElem.mp hd
   rcases Nat.lt_trichotomy k' k with lt | eq | gt
   ·exact absurd (g1.trans g2.symm) (pw k' k l1 l2 lt)
   ·exact eq
   ·exact absurd (g2.trans g1.symm) (pw k k' l2 l1 gt)
noncomputable def spL (K:PySem.W.Frag)(F:List D→Option D):Sp:=fun vs H Q _=>∃ (a:Addr) (ns:List Int),vs=[.ref a]∧SqL K H a (ns.map V.int)∧F [.lst (ns.map .int)]=some (.bl true)∧∀ H',aK H H'→Q (.bl true) H'
theorem GU {T:Tx}{F:List D→Option D}{vs:List V}{H:Hp}{Q:VK}{E:XK}(h:spL T.K F vs H Q E):spD T 1 F vs H Q E:=by
 obtain ⟨a,ns,rfl,hS,hF,q⟩:=h
 exact ⟨rfl,fun _=>True,[.lst (ns.map .int)],.bl true,fun _ _=>trivial,.cons (.lst (hS.imp (fun h=>⟨h,trivial⟩) id) (ints_rep ns)) .nil,hF,fun v H' s r=>by rw [r.bl_]; exact q H' s⟩
end
end DL
end
section
namespace DL
open PySem PySem.Spec PyProof.Rows L2
structure UnD (P:Program)(w:World)(K:PySem.W.Frag)(mg:Str→Option Value)(base:Heap)(c:Ct)(f:Addr)(ps:List Str)(k:Nat)(F:List D→Option D):Prop where
 ex:∃ fd,fz P w K mg base CX0 k f fd ps (spD ⟨K,c.cl,c.fld⟩ ps.length F)∧Binds K fd ps []
structure UnF (P:Program)(w:World)(K:PySem.W.Frag)(mg:Str→Option Value)(base:Heap)(c:Ct)(f:Addr)(ps:List Str)(k:Nat)(F:List D→Option (List D)):Prop where
 ex:∃ fd,fz P w K mg base CX0 k f fd ps (spF ⟨K,c.cl,c.fld⟩ ps.length F)∧Binds K fd ps []
section
variable {P:Program}{w:World}{K:PySem.W.Frag}{mg:Str→Option Value}{base:Heap}{c:Ct}
theorem iC {x qual:Str}{st:Stmt}{fa:Addr}{fd:FuncData}{N ps:List Str}{k:Nat}{F:FS}(Fn:Fun K x qual st fa fd)(S:aG N ps (ag st))(hb:Binds K fd ps [])
  (body:BodyOk P w K mg base c N st k F):UnD P w K mg base c fa ps (k+1) (bz N.length F):=⟨fd,vB Fn S body,hb⟩
theorem Ew {x qual:Str}{st:Stmt}{fa:Addr}{fd:FuncData}{N ps:List Str}{k:Nat}{F:FS}(Fn:Fun K x qual st fa fd)(S:aG N ps (ag st))(hb:Binds K fd ps [])
  (body:BodyOk P w K mg base c N st k F):UnF P w K mg base c fa ps (k+1) (iQ N.length F):=by
 refine ⟨fd, ?_,hb⟩
 refine Fn.ok S (fun vs H Q E h=>h.1) fun cdv A outer s H vs Q E hr h=>⟨_,body.ok _ rfl rfl rfl rfl rfl ⟨⟨rfl,rfl,rfl,S.nd⟩,fun _=>rfl,PassesOwn.never⟩ hr, ?_⟩
 exact sT (E0:=E) h
theorem gy {fa:Addr}{fd:FuncData}{ps:List Str}{k:Nat}(hb:Binds K fd ps []):UnD P w K mg base c fa ps k (fun _=>none) :=
 ⟨fd,⟨fun vs H Q E h=>(by obtain ⟨_,_,_,_,_,_,h,_⟩:=h; cases h),fun A outer s H args us vs Q E _ _ _ _ h=>(by obtain ⟨_,_,_,_,_,_,h,_⟩:=h; cases h)⟩,hb⟩
theorem UnD.fB {C f:Addr}{m:Str}{ps:List Str}{n k j i:Nat}{F:List D→Option D}{lay:List Nat}(G:UnD P w K mg base c f ps k F)(hl:ps.length=n+1)(hC:c.cl i=some C)(h1:Cls K C)(h2:Meth K C m f)(hk:k≤j)(hf:∀ i∈lay,c.fld i≠m) :
  ∃ C f fd ps,c.cl i=some C∧Cls K C∧Meth K C m f∧fz P w K mg base CX0 j f fd ps (spD ⟨K,c.cl,c.fld⟩ (n+1) F)∧Binds K fd ps []∧∀ i∈lay,c.fld i≠m:=by
 obtain ⟨fd,g1,g2⟩:=G.ex
 rw [hl] at g1
 exact ⟨C,f,fd,ps,hC,h1,h2,g1.mono hk,g2,hf⟩
theorem UnF.fB {C f:Addr}{m:Str}{ps:List Str}{n k j i:Nat}{F:List D→Option (List D)}{lay:List Nat}(G:UnF P w K mg base c f ps k F)(hl:ps.length=n+1)(hC:c.cl i=some C)(h1:Cls K C)(h2:Meth K C m f)(hk:k≤j)(hf:∀ i∈lay,c.fld i≠m) :
  ∃ C f fd ps,c.cl i=some C∧Cls K C∧Meth K C m f∧fz P w K mg base CX0 j f fd ps (spF ⟨K,c.cl,c.fld⟩ (n+1) F)∧Binds K fd ps []∧∀ i∈lay,c.fld i≠m:=by
 obtain ⟨fd,g1,g2⟩:=G.ex
 rw [hl] at g1
 exact ⟨C,f,fd,ps,hC,h1,h2,g1.mono hk,g2,hf⟩
theorem hV {z x qual:Str}{st:Stmt}{C fa:Addr}{fd:FuncData}{y:Str}{N ps:List Str}{k kc:Nat}{F:FS}(Fn:Fun K x qual st fa fd)(S:aG (y::N) (y::ps) (ag st))(hb:Binds K fd (y::ps) [])
  (body:BodyOk P w K mg base c (y::N) st k F) (hm:mg z=some (.ref C)) (hC:c.cl kc=some C) (M:Mk K C fa):fA P w K mg base c z ps.length (k+1) kc (gY N.length F):=⟨C,fa,fd,_,hm,hC,M,wg Fn S body,hb⟩
theorem og {z x qual:Str}{st:Stmt}{C fa:Addr}{fd:FuncData}{y:Str}{N ps:List Str}{k:Nat}{F:FS}(Fn:Fun K x qual st fa fd)(S:aG (y::N) (y::ps) (ag st))(hb:Binds K fd (y::ps) [])
  (body:BodyOk P w K mg base c (y::N) st k F) (hm:mg z=some (.ref C)) (M:qM K C "__init__" fa):kT P w K mg base c z ps.length (k+1) (gY N.length F):=⟨C,fa,fd,_,hm,M,wg Fn S body,hb⟩
end
end DL
end
section
namespace DL
open L2
noncomputable def kl (j:Nat):FS:=fun env=>match env[j]? with
 | some (.own _)=>some (.nx (env.set j (.own [])))
 | _=>none
@[simp] theorem Ex (j:Nat)(env:aN):kl j env=aM (qE env[j]?) fun _=>some (.nx (env.set j (.own []))):=by
 unfold kl qE
 cases h:env[j]? with
 | none=>rfl
 | some s=>cases s <;> rfl
noncomputable def vd (i:Int):List Nat:=(toString i).toList.map Char.toNat
noncomputable def wm:D→Option D
 | .int i=>if 0≤i∧i<1000000000000 then some (.str (vd i)) else none
 | _=>none
@[simp] theorem GV (i:Int):wm (.int i)=if 0≤i∧i<1000000000000 then some (.str (vd i)) else none:=(Eq.refl _).trans (Eq.refl _)
end DL
end
section
namespace DL
open PySem PySem.Spec PyProof.Rows L2
section
variable {X:Cx}{c:Ct}{xq:XQ}{e:Expr}{f:FE}{pos:Pos}
theorem xG {T:Tx}{De:Ends}{σ:L2.St}{H:Hp}{j:Nat}(h:tDs T xq (kl j) De σ H):Ck (Gb T.K "list" yt (y6 j)) De σ H:=by
 obtain ⟨W,O,env,fl,E,e,q⟩:=h
 unfold kl at e
 split at e
 ·rename_i ds es
  cases e
  obtain ⟨a,xs,e1,o,n,hl,rl⟩:=E.own es
  refine ⟨.ref a,e1,.inl ⟨rfl,xs,SqL.of hl⟩,a,xs,rfl,rfl,hl, ?_⟩
  obtain ⟨E2,f2⟩:=E.upd (t:=.own []) (o:=.lst []) es rfl e1 trivial ⟨a,_,rfl,o,n,bD,.nil⟩
  exact q _ _ O E2 f2
 ·cases e
theorem xH {j:Nat}{y:Str}{p1 p2 p3:Pos}(m:Nm X j y)(hl:(p2.endLine == p3.line)=true:=by rfl) :
  PDS X c xq (.Expr (.Call (.Attribute (.Name y p1) "clear" p2) [] [] p3) pos) (kl j) :=
 PS.imp (lN (DF PySem.F.plainAttrs_list PySem.F.slot_list_clear PySem.F.type_list_clear yu (iP m.hN m.hv m.hd m.hc) rfl hl) (gN rfl)) fun _ _ _ h=>xG h
theorem Ey (i:Int):mkS (vd i)=(toString i:Str):=by
 unfold vd
 exact (Str.ofString_eq_toList _).symm
theorem Bs {p:Pos}(hg:Gl X "str")(hm:X.mg "str"=none)(ha:PR X c e f)(he:isStar e=false:=by rfl):PD X c (.Call (.Name "str" p) [e] [] pos) (fp1 wm f) :=
 CH (r:=fun xs H Q=>∃ i,xs=[.int i]∧i.natAbs.log2<1920∧Q (.str (toString i)) H) rj (fun A H0 H x v d Q nw r ee k=>by
  unfold wm at ee
  split at ee
  ·next i =>
   by_cases hc:0≤i∧i<1000000000000
   ·rw [if_pos hc] at ee
    cases ee; cases aF.dU r
    refine ⟨i,rfl, ?_,k _ H (aK.refl _) (by rw [← Ey]; exact Rep.str _)⟩
    have h1:i.natAbs<2 ^ 1000:=Nat.lt_trans (show i.natAbs<2 ^ 40 by omega) (by decide)
    by_cases h0:i.natAbs=0
    ·rw [h0]; decide
    ·have:=(Nat.log2_lt h0).mpr h1; omega
   ·rw [if_neg hc] at ee; cases ee
  ·cases ee) hg hm rfl ha he
end
end DL
end
section
namespace L2
open PySem PySem.Spec PyProof.Rows
section
variable {prog:Program}{w:World}{A:Around}{E:Value→Shared→Prop}{s:Shared}
theorem tK {it:Addr}{x:Str}{t:Tok}{i c:Nat}{Q:Value→Shared→Prop}(a:s.heap.IsStrIter it (strIterType x) x t i)(b:x.cps[i]?=some c)
  (go:∀ h',h'.IsStrIter it (strIterType x) x t (i+1)→Heap.SameBut it s.heap h'→Q (.str ⟨#[c]⟩ s.toks) { s with heap:=h',toks:=s.toks+1 }):wpAny (model prog w) A (Builtin.SmallTypes.nextOf (.ref it)) Q E s:=by
 unfold strIterType at a go
 split at a
 ·next q=>rw [if_pos q] at go; exact wpAny_nextOf_ascii_item a b go
 ·next q=>rw [if_neg q] at go; exact wpAny_nextOf_wide_item a b go
theorem Bt {it:Addr}{x:Str}{t:Tok}{i:Nat}{Q:Value→Shared→Prop}(ah:A.handled=none)(a:s.heap.IsStrIter it (strIterType x) x t i)(b:x.cps[i]?=none)
  (go:∀ h' e,Heap.ExtBut it s.heap h'→(∃ o,h'.get? e=some o∧o.cls=.type "StopIteration")→E (.ref e) { s with heap:=h' }):wpAny (model prog w) A (Builtin.SmallTypes.nextOf (.ref it)) Q E s:=by
 unfold strIterType at a
 split at a
 ·exact wpAny_nextOf_ascii_end ah a b go
 ·exact wpAny_nextOf_wide_end ah a b go
theorem km {h h':Heap}{it b:Addr}{T:String}{x:Str}{t:Tok}{i:Nat}(a:h.IsStrIter it T x t i)(k:Heap.ExtBut b h h')(n:it≠b):h'.IsStrIter it T x t i:=by
 obtain ⟨o,ho,r⟩:=a
 exact ⟨o,k it o n ho,r⟩
structure GW (s:Shared)(z TI TO i1 i2 l2:Addr)(x:Str)(t:Tok)(k:Nat)(u v:Value)(h':Heap):Prop where
 zz:IsZip h' z TI TO (rawInt s.heap.objs.size)
 to:IsPair h' TO u v
 a1:h'.IsStrIter i1 (strIterType x) x t (k+1)
 a2:h'.IsListIter i2 l2 (k+1)
 tp:IsPair h' s.heap.objs.size u v
 kp:∀ c o,c≠z→c≠TO→c≠i1→c≠i2→s.heap.get? c=some o→h'.get? c=some o
theorem Bu {z TI TO i1 i2 l2:Addr}{x:Str}{t:Tok}{k c:Nat}{ys:Array Value}{y p q:Value}{Q:Value→Shared→Prop}(D:n6 z TI TO i1 i2)(m1:l2≠z)(m2:l2≠TO)(m3:l2≠i1)
  (zz:IsZip s.heap z TI TO .none) (ti:IsPair s.heap TI (.ref i1) (.ref i2)) (to:IsPair s.heap TO p q) (a1:s.heap.IsStrIter i1 (strIterType x) x t k) (a2:s.heap.IsListIter i2 l2 k) (b2:s.heap.IsList l2 ys) (cx:x.cps[k]?=some c) (cy:ys[k]?=some y)
  (go:∀ h',GW s z TI TO i1 i2 l2 x t k (.str ⟨#[c]⟩ s.toks) y h'→Q (.ref s.heap.objs.size) { s with heap:=h',toks:=s.toks+1 }) :
  wpAny (model prog w) A (Builtin.«zip.__next__» ⟨[.ref z],[]⟩) (fun fin s'=>∃ v,fin=.done (.ret v)∧Q v s') E s:=by
 show wpAny _ _ (field (.ref z) 2 >>= fun _=>_) _ _ _
 refine wpAny_bind (wpAny_field zz rfl (x:=.bool false) rfl (wpAny_bind (wpAny_field zz rfl (x:=.ref TI) rfl (wpAny_bind (wpAny_seqItems ti rfl (wpAny_bind ?_))))))
 unfold Builtin.SmallTypes.ownedTupleIsFree
 refine wpAny_bind (wpAny_field zz rfl (x:=.none) rfl (wpAny_pure ?_))
 simp only [if_true]
 refine wpAny_bind (wpAny_rule (wpAny_bind (wpAny_field zz rfl (x:=.ref TO) rfl (wpAny_bind (wpAny_setField_rec zz (by simp) fun g1 zz1 s1=>?_)))))
 replace zz1:IsZip g1 z TI TO .ellipsis:=zz1
 refine wpAny_bind ?_
 simp only [List.zipIdx_cons,List.zipIdx_nil,List.forIn_cons,List.forIn_nil]
 refine wpAny_bind (wpAny_bind (wpAny_onRaise (wpAny_bind (tK (s:={ s with heap:=g1 }) (km a1 s1.extBut D.i1z) cx fun g2 a12 s2=>wpAny_pure ?_))))
 have to2:IsPair g2 TO p q:=s2.extBut _ _ D.TOi1 (s1.extBut _ _ D.TOz to)
 refine wpAny_bind (wpAny_seqItems to2 rfl (wpAny_bind (wpAny_updateSeq_pair to2 fun g3 to3 s3=>wpAny_bind (wpAny_letGo (wpAny_pure ?_)))))
 replace to3:IsPair g3 TO (.str ⟨#[c]⟩ s.toks) q:=to3
 have a23:g3.IsListIter i2 l2 k:=((a2.extBut s1.extBut D.i2z).extBut s2.extBut D.i12.symm).extBut s3.extBut D.TOi2.symm
 have b23:g3.IsList l2 ys:=((b2.extBut s1.extBut m1).extBut s2.extBut m3).extBut s3.extBut m2
 refine wpAny_bind (wpAny_bind (wpAny_onRaise (wpAny_bind (wpAny_nextOf_list_item a23 b23 cy fun g4 a24 s4=>wpAny_pure ?_))))
 have to4:IsPair g4 TO (.str ⟨#[c]⟩ s.toks) q:=s4.extBut _ _ D.TOi2 to3
 refine wpAny_bind (wpAny_seqItems to4 rfl (wpAny_bind (wpAny_updateSeq_pair to4 fun g5 to5 s5=>wpAny_bind (wpAny_letGo (wpAny_pure (wpAny_pure ?_))))))
 replace to5:IsPair g5 TO (.str ⟨#[c]⟩ s.toks) y:=to5
 refine wpAny_bind (wpAny_seqItems to5 rfl (wpAny_bind (wpAny_newTuple ?_)))
 have sz:g5.objs.size=s.heap.objs.size:=by rw [s5.1,s4.1,s3.1,s2.1,s1.1]
 have zz5:IsZip g5 z TI TO .ellipsis:=s5.extBut _ _ D.TOz.symm (s4.extBut _ _ D.i2z.symm (s3.extBut _ _ D.TOz.symm (s2.extBut _ _ D.i1z.symm zz1)))
 have kp5:∀ b o,b≠z→b≠TO→b≠i1→b≠i2→s.heap.get? b=some o→g5.get? b=some o:=fun b o n1 n2 n3 n4 e=>s5.extBut _ _ n2 (s4.extBut _ _ n4 (s3.extBut _ _ n2 (s2.extBut _ _ n3 (s1.extBut _ _ n1 e))))
 have a15:g5.IsStrIter i1 (strIterType x) x t (k+1):=km (km (km a12 s3.extBut D.TOi1.symm) s4.extBut D.i12) s5.extBut D.TOi1.symm
 have a25:g5.IsListIter i2 l2 (k+1):=a24.extBut s5.extBut D.TOi2.symm
 have lz:z<g5.objs.size:=Heap.lt_size zz5
 refine wpAny_bind ?_
 unfold Builtin.SmallTypes.ownedTupleHandOut
 have zz6:IsZip (g5.push { cls:=.type "tuple",data:=.seq #[.str ⟨#[c]⟩ s.toks,y] }) z TI TO .ellipsis:=Heap.get?_push_of_some _ zz5
 refine wpAny_bind (wpAny_setField_rec zz6 (by simp) fun g7 zz7 s7=>?_)
 replace zz7:IsZip g7 z TI TO (rawInt g5.objs.size):=zz7
 refine wpAny_setField_rec zz7 (by simp) fun g8 zz8 s8=>?_
 replace zz8:IsZip g8 z TI TO (rawInt g5.objs.size):=zz8
 have up:∀ b o,b≠z→g5.get? b=some o→g8.get? b=some o:=fun b o n e=>s8.extBut _ _ n (s7.extBut _ _ n (Heap.get?_push_of_some _ e))
 have tp8:IsPair g8 g5.objs.size (.str ⟨#[c]⟩ s.toks) y:=s8.extBut _ _ (Nat.ne_of_gt lz) (s7.extBut _ _ (Nat.ne_of_gt lz) (Heap.get?_push_size _ rfl))
 rw [sz] at zz8 tp8
 refine wpAny_pure ⟨_,rfl, ?_⟩
 show Q (.ref g5.objs.size) _
 rw [sz]
 obtain ⟨o1,e1,r1⟩:=a15
 exact go g8 ⟨zz8,up _ _ D.TOz to5,⟨o1,up _ _ D.i1z e1,r1⟩,a25.at fun o e=>up _ o D.i2z e,tp8,fun b o n1 n2 n3 n4 e=>up b o n1 (kp5 b o n1 n2 n3 n4 e)⟩
theorem Ez {z TI TO i1 i2 l2:Addr}{x:Str}{t:Tok}{k:Nat}{ys:Array Value}{p q:Value}{Q:Fin→Shared→Prop}(ah:A.handled=none)(D:n6 z TI TO i1 i2)(m1:l2≠z)(m2:l2≠TO)(m3:l2≠i1)
  (zz:IsZip s.heap z TI TO .none) (ti:IsPair s.heap TI (.ref i1) (.ref i2)) (to:IsPair s.heap TO p q) (a1:s.heap.IsStrIter i1 (strIterType x) x t k) (a2:s.heap.IsListIter i2 l2 k) (b2:s.heap.IsList l2 ys) (cc:x.cps[k]?=none∨ys[k]?=none)
  (go:∀ h' e tk,(∀ b o,b≠z→b≠TO→b≠i1→b≠i2→s.heap.get? b=some o→h'.get? b=some o)→(∃ o,h'.get? e=some o∧o.cls=.type "StopIteration")→E (.ref e) { s with heap:=h',toks:=tk }) :
  wpAny (model prog w) A (Builtin.«zip.__next__» ⟨[.ref z],[]⟩) Q E s:=by
 show wpAny _ _ (field (.ref z) 2 >>= fun _=>_) _ _ _
 refine wpAny_bind (wpAny_field zz rfl (x:=.bool false) rfl (wpAny_bind (wpAny_field zz rfl (x:=.ref TI) rfl (wpAny_bind (wpAny_seqItems ti rfl (wpAny_bind ?_))))))
 unfold Builtin.SmallTypes.ownedTupleIsFree
 refine wpAny_bind (wpAny_field zz rfl (x:=.none) rfl (wpAny_pure ?_))
 simp only [if_true]
 refine wpAny_bind (wpAny_rule (wpAny_bind (wpAny_field zz rfl (x:=.ref TO) rfl (wpAny_bind (wpAny_setField_rec zz (by simp) fun g1 zz1 s1=>?_)))))
 replace zz1:IsZip g1 z TI TO .ellipsis:=zz1
 refine wpAny_bind ?_
 simp only [List.zipIdx_cons,List.zipIdx_nil,List.forIn_cons,List.forIn_nil]
 refine wpAny_bind (wpAny_bind (wpAny_onRaise (wpAny_bind ?_)))
 cases cx:x.cps[k]? with
 | none =>
  refine Bt (s:={ s with heap:=g1 }) ah (km a1 s1.extBut D.i1z) cx fun g2 e s2 he=>?_
  obtain ⟨oe,hoe,hce⟩:=he
  have zz2:IsZip g2 z TI TO .ellipsis:=s2 _ _ D.i1z.symm zz1
  have nez:e≠z:=fun f=>by subst f; rw [zz2] at hoe; cases hoe; simp at hce
  exact wpAny_setField_rec zz2 (by simp) fun g3 _ s3=>go g3 e _ (fun b o n1 _ n3 _ f=>s3.extBut _ _ n1 (s2 _ _ n3 (s1.extBut _ _ n1 f))) ⟨oe,s3.extBut _ _ nez hoe,hce⟩
 | some c =>
  have cy:ys[k]?=none:=by rcases cc with f | f; rw [cx] at f; cases f; exact f
  refine tK (s:={ s with heap:=g1 }) (km a1 s1.extBut D.i1z) cx fun g2 a12 s2=>wpAny_pure ?_
  have to2:IsPair g2 TO p q:=s2.extBut _ _ D.TOi1 (s1.extBut _ _ D.TOz to)
  refine wpAny_bind (wpAny_seqItems to2 rfl (wpAny_bind (wpAny_updateSeq_pair to2 fun g3 to3 s3=>wpAny_bind (wpAny_letGo (wpAny_pure ?_)))))
  have a23:g3.IsListIter i2 l2 k:=((a2.extBut s1.extBut D.i2z).extBut s2.extBut D.i12.symm).extBut s3.extBut D.TOi2.symm
  have b23:g3.IsList l2 ys:=((b2.extBut s1.extBut m1).extBut s2.extBut m3).extBut s3.extBut m2
  refine wpAny_bind (wpAny_bind (wpAny_onRaise (wpAny_bind (wpAny_nextOf_list_end ah a23 b23 cy fun g4 e s4 he=>?_))))
  obtain ⟨oe,hoe,hce⟩:=he
  have zz4:IsZip g4 z TI TO .ellipsis:=s4 _ _ D.i2z.symm (s3.extBut _ _ D.TOz.symm (s2.extBut _ _ D.i1z.symm zz1))
  have nez:e≠z:=fun f=>by subst f; rw [zz4] at hoe; cases hoe; simp at hce
  exact wpAny_setField_rec zz4 (by simp) fun g5 _ s5=>go g5 e _ (fun b o n1 n2 n3 n4 f=>s5.extBut _ _ n1 (s4 _ _ n4 (s3.extBut _ _ n2 (s2.extBut _ _ n3 (s1.extBut _ _ n1 f))))) ⟨oe,s5.extBut _ _ nez hoe,hce⟩
end
section
noncomputable abbrev zsA (h:Heap)(x:Str)(t:Tok):Heap:=h.push { cls:=.type (strIterType x),data:=.fields #[.str x t,.int 0 0] }
noncomputable abbrev zsB (h:Heap)(x:Str)(t:Tok)(l:Addr):Heap:=(zsA h x t).push { cls:=.type "list_iterator",data:=.fields #[.ref l,.int 0 0] }
noncomputable abbrev zsC (h:Heap)(x:Str)(t:Tok)(l:Addr):Heap:=(zsB h x t l).push { cls:=.type "tuple",data:=.seq #[.ref h.objs.size,.ref (zsA h x t).objs.size] }
noncomputable abbrev zsD (h:Heap)(x:Str)(t:Tok)(l:Addr):Heap:=(zsC h x t l).push { cls:=.type "tuple",data:=.seq #[.none,.none] }
noncomputable abbrev zsE (h:Heap)(x:Str)(t:Tok)(l:Addr):Heap:=(zsD h x t l).push { cls:=.type "zip",data:=.fields #[.none,.bool false,.bool false,.ref (zsB h x t l).objs.size,.ref (zsC h x t l).objs.size] }
set_option maxHeartbeats 4000000 in
theorem Bv (x:Str)(t:Tok)(l:Addr)(ys:Array Value):Meets (Builtin.«zip.__new__» ⟨[.type "zip",.str x t,.ref l],[]⟩) (fun _ R s=>s.heap.IsList l ys∧R (.ok (.ret (.ref (zsD s.heap x t l).objs.size))) { s with heap:=zsE s.heap x t l }) :=
 .of_wp fun prog w A R s h=>by
  obtain ⟨hp,g,d,tk,os⟩:=s
  obtain ⟨b2,h⟩:=h
  have sub:=sub_zip
  have lst:Heap.IsList (Shared.heap ⟨zsA hp x t,g,d,tk,os⟩) l ys:=Heap.IsList.push b2 _
  wp_walk using (wpAny_pyIter_strU (x:=x) (t:=t)),wpAny_pyIter_list lst
  exact ⟨_,rfl,h⟩
variable {prog:Program}{w:World}{A:Around}{E:Value→Shared→Prop}{s:Shared}
theorem Bw {x:Str}{t:Tok}{l:Addr}{ys:Array Value}{Q:Value→Shared→Prop}(b2:s.heap.IsList l ys)
  (go:∀ h',IsZip h' (s.heap.objs.size+4) (s.heap.objs.size+2) (s.heap.objs.size+3) .none→IsPair h' (s.heap.objs.size+2) (.ref s.heap.objs.size) (.ref (s.heap.objs.size+1))→IsPair h' (s.heap.objs.size+3) .none .none →
   h'.IsStrIter s.heap.objs.size (strIterType x) x t 0→h'.IsListIter (s.heap.objs.size+1) l 0→(∀ c o,s.heap.get? c=some o→h'.get? c=some o)→Q (.ref (s.heap.objs.size+4)) { s with heap:=h' }) :
  wpAny (model prog w) A (call (.type "zip") [.str x t,.ref l]) Q E s:=by
 refine callType_new F.called_zip (by decide) (F.typeCall_zip_2 _ _) (F.newCall_zip_2 _ _) (fun obj=>F.args_object_init_3 obj _ _) F.entry_zip_new (Bv x t l ys) ⟨b2, ?_⟩
 have y1:(zsA s.heap x t).objs.size=s.heap.objs.size+1:=Heap.size_push ..
 have y2:(zsB s.heap x t l).objs.size=s.heap.objs.size+2:=by rw [Heap.size_push,y1]
 have y3:(zsC s.heap x t l).objs.size=s.heap.objs.size+3:=by rw [Heap.size_push,y2]
 have y4:(zsD s.heap x t l).objs.size=s.heap.objs.size+4:=by rw [Heap.size_push,y3]
 have q5:(zsE s.heap x t l).get? (zsD s.heap x t l).objs.size=some _:=Heap.get?_push_size _ rfl
 have q4:(zsE s.heap x t l).get? (zsC s.heap x t l).objs.size=some _:=Heap.get?_push_of_some _ (Heap.get?_push_size _ rfl)
 have q3:(zsE s.heap x t l).get? (zsB s.heap x t l).objs.size=some _:=Heap.get?_push_of_some _ (Heap.get?_push_of_some _ (Heap.get?_push_size _ rfl))
 have q2:(zsE s.heap x t l).get? (zsA s.heap x t).objs.size=some _:=Heap.get?_push_of_some _ (Heap.get?_push_of_some _ (Heap.get?_push_of_some _ (Heap.get?_push_size _ rfl)))
 have q1:(zsE s.heap x t l).get? s.heap.objs.size=some _:=Heap.get?_push_of_some _ (Heap.get?_push_of_some _ (Heap.get?_push_of_some _ (Heap.get?_push_of_some _ (Heap.get?_push_size _ rfl))))
 show _∧_
 rw [y2,y3,y4] at q5
 rw [y1,y2] at q3
 rw [y3] at q4
 rw [y1] at q2
 rw [y4]
 exact ⟨⟨_,q5,rfl⟩,go _ q5 q3 q4 ⟨_,q1,rfl,rfl⟩ ⟨_,q2,rfl,rfl⟩ fun c o f=>Heap.get?_push_of_some _ (Heap.get?_push_of_some _ (Heap.get?_push_of_some _ (Heap.get?_push_of_some _ (Heap.get?_push_of_some _ f))))⟩
end
noncomputable def GX (K:PySem.W.Frag)(zx:List Nat)(l2:Addr):It :=
 ⟨fun i H=>i<zx.length∧∃ ys y,SqL K H l2 ys∧ys[i]?=some y,
  fun i H v H'=>∃ p c y,H p=none∧v=.ref p∧zx[i]?=some c∧H'=upd H p (.tup [.str (DL.mkS [c]),y])∧∀ ys,SqL K H l2 ys→ys[i]?=some y,
  fun i H=>∃ ys,SqL K H l2 ys∧(zx.length≤i∨ys.length≤i)⟩
theorem tL {h:Heap}{z TI TO i1 l2:Addr}{ys:Array Value}{a b:Value}{k1:Nat}{f0:Value}{x:Str}{t:Tok}(hz:IsZip h z TI TO f0)(hTO:IsPair h TO a b)(h1:h.IsStrIter i1 (strIterType x) x t k1)(p2:h.IsList l2 ys):l2≠z∧l2≠TO∧l2≠i1:=by
 obtain ⟨o2,e2,c2,_⟩:=p2
 obtain ⟨q1,f1,d1,_⟩:=h1
 refine ⟨?_, ?_, ?_⟩
 ·rintro rfl; have:=e2.symm.trans hz; cases this; simp at c2
 ·rintro rfl; have:=e2.symm.trans hTO; cases this; simp at c2
 ·rintro rfl
  rw [e2] at f1; cases f1
  rw [c2] at d1
  unfold strIterType at d1
  split at d1 <;> simp at d1
theorem xI {P:Program}{w:World}{K:PySem.W.Frag}{ts:List Expr}{tk:Nat}{tp:Pos}(zx:List Nat)(t:Tok)(l2 z TI TO i1 i2:Addr)(D:n6 z TI TO i1 i2):Turn P w K (.Tuple ts tk tp) (GX K zx l2) [z,TI,TO,i1,i2] z
  (fun i h=>IsZip h z TI TO .none∧IsPair h TI (.ref i1) (.ref i2)∧(∃ a b,IsPair h TO a b)∧h.IsStrIter i1 (strIterType (DL.mkS zx)) (DL.mkS zx) t i∧h.IsListIter i2 l2 i) where
 mem:=by simp
 obj:=fun i h st b hb=>by
  obtain ⟨hz,hTI,⟨a,c,hTO⟩,⟨o1,e1,c1,d1⟩,⟨o2,e2,c2,d2⟩⟩:=st
  have:b=z∨b=TI∨b=TO∨b=i1∨b=i2:=by simpa using hb
  rcases this with rfl | rfl | rfl | rfl | rfl
  ·exact ⟨_,hz,fun v q=>by cases q⟩
  ·exact ⟨_,hTI,fun v q=>by cases q⟩
  ·exact ⟨_,hTO,fun v q=>by cases q⟩
  ·exact ⟨o1,e1,fun v q=>by rw [d1] at q; cases q⟩
  ·exact ⟨o2,e2,fun v q=>by rw [d2] at q; cases q⟩
 keep:=fun i h h' st k=>by
  obtain ⟨hz,hTI,⟨a,c,hTO⟩,⟨o1,e1,r1⟩,h2⟩:=st
  exact ⟨k z (by simp) _ hz,k TI (by simp) _ hTI,⟨a,c,k TO (by simp) _ hTO⟩,⟨o1,k i1 (by simp) o1 e1,r1⟩,h2.at fun o q=>k i2 (by simp) o q⟩
 item:=by
  intro X hP hw hK hc i pins s σ H E I hf st hg
  subst hP hw hK
  obtain ⟨hz,hTI,⟨a,c0,hTO⟩,h1,h2⟩:=st
  obtain ⟨hi,ys,y,hq2,hy⟩:=hg
  obtain ⟨its2,rv2,p2,hz2⟩:=I.list hq2
  obtain ⟨v,hv,rv⟩:=rv2.get hy
  obtain ⟨m1,m2,m3⟩:=tL hz hTO h1 p2.isList
  have hT:s.TypeIs (.ref z) "zip":=⟨_,hz,rfl⟩
  unfold pyNext
  refine wpAny_bind (wpAny_attempt (wpAny_callSpecial?_slot (name:=Str.ofString "__next__") hT F.slot_zip_next (wpAny_call_entry F.slot_zip_next hT F.entry_zip_next (Bu D m1 m2 m3 hz hTI hTO h1 h2 p2.isList (c:=zx[i]) (by simp [hi]) (y:=v) (by simpa using hv) fun h₁ af=>wpAny_pure ?_) (F.args_zip_next_1 _))))
  refine ⟨_,rfl,wpAny_letOwnedTupleGo_zip af.zz fun h₂ hz₂ hs₂=>?_⟩
  have hzlt:z<s.heap.objs.size:=Heap.lt_size hz
  have keep:∀ b o,b ∉ [z,TI,TO,i1,i2]→s.heap.get? b=some o→h₂.get? b=some o:=fun b o hb q=>by
   have n1:b≠z:=fun e=>hb (by simp [e])
   have n2:b≠TO:=fun e=>hb (by simp [e])
   have n3:b≠i1:=fun e=>hb (by simp [e])
   have n4:b≠i2:=fun e=>hb (by simp [e])
   exact (hs₂.2 b n1).trans (af.kp b o n1 n2 n3 n4 q)
  have htup:IsTup h₂ s.heap.objs.size #[.str ⟨#[zx[i]]⟩ s.toks,v]:=⟨_,(hs₂.2 _ (Nat.ne_of_gt hzlt)).trans af.tp,rfl,_,rfl⟩
  have fp:=I.oH (Nat.le_refl _) (I.hok.fresh (Nat.le_refl _))
  have lt:∀ b∈[z,TI,TO,i1,i2],b<s.heap.objs.size:=fun b hb=>by
   have:b=z∨b=TI∨b=TO∨b=i1∨b=i2:=by simpa using hb
   rcases this with rfl | rfl | rfl | rfl | rfl
   ·exact hzlt
   ·exact Heap.lt_size hTI
   ·exact Heap.lt_size hTO
   ·obtain ⟨o,ho,_⟩:=h1; exact Heap.lt_size ho
   ·obtain ⟨o,ho,_⟩:=h2; exact Heap.lt_size ho
  refine ⟨.ref s.heap.objs.size,upd H s.heap.objs.size (.tup [.str (DL.mkS [zx[i]]),y]), ?_,rfl,⟨_,zx[i],y,I.hok.fresh (Nat.le_refl _),rfl,by simp [hi],rfl,fun zs hzs=>by rw [I.iU hzs hq2]; exact hy⟩, ?_,fun b hb=>?_⟩
  ·exact I.wj (t':=s.toks+1) keep hf fp (Heap.get?_none_of_le (Nat.le_refl _)) ⟨(show (2:Nat)≤sizeLine by decide),[.str ⟨#[zx[i]]⟩ s.toks,v],.cons ⟨_,rfl⟩ (.cons rv .nil),htup⟩
  ·obtain ⟨o1,e1,r1⟩:=af.a1
   refine ⟨hz₂,(hs₂.2 TI D.TIz).trans (af.kp TI _ D.TIz D.TITO D.TIi1 D.TIi2 hTI),⟨_,v,(hs₂.2 TO D.TOz).trans af.to⟩,⟨o1,(hs₂.2 i1 D.i1z).trans e1,r1⟩,af.a2.at fun o q=>(hs₂.2 i2 D.i2z).trans q⟩
  ·rw [aH (Nat.ne_of_lt (lt b hb))]; exact (hf b hb).1
 done:=by
  intro X hP hw hK hc i pins s σ H E I hf st hg
  subst hP hw hK
  obtain ⟨hz,hTI,⟨a,c0,hTO⟩,h1,h2⟩:=st
  obtain ⟨ys,hq2,hx⟩:=hg
  obtain ⟨its2,rv2,p2,hz2⟩:=I.list hq2
  have hl2:=rv2.length
  obtain ⟨m1,m2,m3⟩:=tL hz hTO h1 p2.isList
  have hT:s.TypeIs (.ref z) "zip":=⟨_,hz,rfl⟩
  unfold pyNext
  refine wpAny_bind (wpAny_attempt (wpAny_callSpecial?_slot (name:=Str.ofString "__next__") hT F.slot_zip_next (wpAny_call_entry F.slot_zip_next hT F.entry_zip_next (Ez (I.ok.hd hc) D m1 m2 m3 hz hTI hTO h1 h2 p2.isList ?_ fun h' e tk hk he=>?_) (F.args_zip_next_1 _))))
  ·rcases hx with hx | hx
   ·exact .inl (by simp; omega)
   ·exact .inr (by simp; omega)
  ·obtain ⟨o,ho,hcl⟩:=he
   refine wpAny_bind (wpAny_isInstance (T:="StopIteration") (b:=true) ⟨o,ho,hcl⟩ isSubtype_stop (wpAny_pure ⟨rfl,I.wk (t':=tk) (fun b o hb q=>?_) hf⟩))
   exact hk b o (fun e=>hb (by simp [e])) (fun e=>hb (by simp [e])) (fun e=>hb (by simp [e])) (fun e=>hb (by simp [e])) q
 self:=fun _ _ _ _ _ st h=>wpAny_pyIter_zip st.1 h
noncomputable def CQ (K:PySem.W.Frag)(ta:TA):TI:=fun σ H R=>ta σ H fun vs H1=>∃ (zx:List Nat) (b:Addr),vs=[.str (DL.mkS zx),.ref b]∧(∃ xs,SqL K H1 b xs)∧R (GX K zx b) H1
theorem Bx {X:Cx}{a b:Expr}{ta:TA}{p pos:Pos}{ts:List Expr}{tk:Nat}{tp:Pos}(hg:Gl X "zip")(hm:X.mg "zip"=none)(ha:PA X [a,b] ta)(hs:DL.isStar a=false)(hs2:DL.er [b]=true) :
  PI X (.Tuple ts tk tp) (.Call (.Name "zip" p) [a,b] [] pos) (CQ X.K ta):=by
 intro pins s σ H R I h
 refine Call_ (gS I hg hm boot_zip (PyProof.Rows.callWith_type1 (cD (ha pos pins s σ H _ I h) fun us s1 vs H1 I1 r1 q1=>?_) (DL.aO hs) (DL.d7 hs2)))
 obtain ⟨zx,l2,e,⟨ys,hq2⟩,q⟩:=q1
 subst e
 cases r1 with
 | cons r rr =>
  cases rr with
  | cons r2 rr2 =>
  cases rr2
  obtain ⟨t,rfl⟩:=r
  cases r2
  obtain ⟨its2,rv2,p2,hz2⟩:=I1.list hq2
  refine Bw p2.isList fun h' hz hTI hTO h1 h2 hk=>?_
  refine wpAny_pyIter_zip hz ?_
  refine ⟨s1.heap.objs.size+4,[s1.heap.objs.size+4,s1.heap.objs.size+2,s1.heap.objs.size+3,s1.heap.objs.size,s1.heap.objs.size+1],_,_,H1,rfl,I1.kept (t':=s1.toks) hk,xI zx t l2 (s1.heap.objs.size+4) (s1.heap.objs.size+2) (s1.heap.objs.size+3) s1.heap.objs.size (s1.heap.objs.size+1) ⟨Nat.ne_of_lt (by omega),Nat.ne_of_lt (by omega),Nat.ne_of_lt (by omega),Nat.ne_of_lt (by omega),Nat.ne_of_lt (by omega),Nat.ne_of_gt (by omega),Nat.ne_of_gt (by omega),Nat.ne_of_gt (by omega),Nat.ne_of_gt (by omega),Nat.ne_of_lt (by omega)⟩,⟨hz,hTI,⟨_,_,hTO⟩,h1,h2⟩,fun b hb=>?_,q⟩
  have hb':b=s1.heap.objs.size+4∨b=s1.heap.objs.size+2∨b=s1.heap.objs.size+3∨b=s1.heap.objs.size∨b=s1.heap.objs.size+1:=by simpa using hb
  have:s1.heap.objs.size≤b:=by rcases hb' with rfl | rfl | rfl | rfl | rfl <;> first | exact Nat.le_add_right _ _ | exact Nat.le_refl _
  exact I1.oH this (I1.hok.fresh this)
end L2
namespace DL
open PySem PySem.Spec PyProof.Rows L2
theorem ve {as:List D}{ds:List D}(h:pf as=some ds):∃ zx ys,as=[.str zx,.lst ys]∧ds=fU (zx.map fun c=>.str [c]) ys:=by
 unfold pf at h
 split at h
 ·split at h
  ·cases h; exact ⟨_,_,rfl,rfl⟩
  ·cases h
 ·cases h
section
variable {T:Tx}{X:XQ}{F:FS}{fa:FA}{De:Ends}{σ:L2.St}{H:Hp}{tg:FG}{g:TG}
theorem xJ (hg:gn T tg g)(h:tDs T X (ph pf tg fa F) De σ H):ye (CQ T.K (tP T (kA T) fa)) g (tDs T X F) De σ H:=by
 obtain ⟨W,O,env,fl,E,e,q⟩:=h
 unfold ph at e
 cases e1:fa env with
 | none=>rw [e1] at e; cases e
 | some as =>
  rw [e1] at e
  dsimp only [Option.bind_some] at e
  cases e2:pf as with
  | none=>rw [e2] at e; cases e
  | some zs =>
   rw [e2] at e
   dsimp only [Option.bind_some] at e
   obtain ⟨zx,es,rfl,rfl⟩:=ve e2
   refine ⟨W,O,env,[.str zx,.lst es],E,e1,fun vs H1 s1 r1=>?_⟩
   obtain ⟨v,r,rfl,rv,rr⟩:=aC.dF r1
   obtain ⟨v2,r2,rfl,rv2,rr2⟩:=aC.dF rr
   cases rr2.ju
   have E1:=E.mono s1
   have q1:jC T X W O H1 De fl:=q.fr (Fr.same s1)
   cases Rep.h8 rv
   obtain ⟨b,ys,rfl,hl2,rl2⟩:=Rep.fL rv2
   have hlen2:=rl2.length
   have hzl:=pj (zx.map fun c=>D.str [c]) es
   rw [List.length_map] at hzl
   refine ⟨zx,b,rfl,⟨ys,hl2.sq⟩,fun j m σ' H'=>m=(fU (zx.map fun c=>D.str [c]) es).length - j∧j≤(fU (zx.map fun c=>D.str [c]) es).length∧∃ env' O',bN T W O' H' env' σ'∧Fr O H1 O' H'∧runFor tg F ((fU (zx.map fun c=>D.str [c]) es).drop j) env'=some fl,⟨(fU (zx.map fun c=>D.str [c]) es).length,by simp,Nat.zero_le _,env,O,E1,Fr.refl _ _,e⟩, ?_⟩
   rintro j m σ' H' ⟨rfl,hj,env',O',E',f,e'⟩
   have hlH2:=((E1.kp f).ls hl2).sq
   by_cases hlt:j<(fU (zx.map fun c=>D.str [c]) es).length
   ·have j1:j<zx.length:=by omega
    have j2:j<ys.length:=by omega
    refine .inr ⟨⟨j1,ys,ys[j],hlH2,by simp [j2]⟩,fun σ2 H2=>∃ env' O',bN T W O' H2 env' σ2∧Fr O H1 O' H2∧runFor tg F ((fU (zx.map fun c=>D.str [c]) es).drop (j+1)) env'=some fl,fun σ2 H2 p=>⟨(fU (zx.map fun c=>D.str [c]) es).length - (j+1),by omega,rfl,hlt,p⟩,fun x H2 y=>?_⟩
    obtain ⟨p,c,y,hp,rfl,hcx,rfl,hy⟩:=y
    obtain ⟨d2,hd2,rd2⟩:=rl2.rq (hy ys hlH2)
    have s2:aK H' (L2.upd H' p (.tup [.str (mkS [c]),y])):=ck hp _
    have hd:(zx.map fun c=>D.str [c])[j]?=some (.str [c]):=by rw [List.getElem?_map,hcx]; rfl
    rw [drop_cons (tJ hd hd2)] at e'
    have rd2':Rep T (Cl W O') H' d2 y:=E1.vK f rd2
    exact jE hg q1 _ ((fU (zx.map fun c=>D.str [c]) es).drop (j+1)) (fun env2 O2 σ2 H2 E2 g2 e2=>⟨env2,O2,E2,g2,e2⟩) (E'.mono s2) (f.trans (Fr.same s2)) e' (Rep.x8 (.cons (.str _) (.cons rd2' .nil)) hp)
   ·refine .inl ⟨⟨ys,hlH2,by omega⟩, ?_⟩
    rw [List.drop_eq_nil_of_le (by omega)] at e'
    cases e'
    exact q1 σ' H' O' E' f
end
section
variable {X:Cx}{c:Ct}{xq:XQ}{ts:List Expr}{tk:Nat}{tp p ip pos:Pos}{a b:Expr}{fa:FA}{tgf:FG}{gt:TG}{F:FS}
theorem xM {body:List Stmt}(hp:PassesOwn (model X.prog X.w) X.A X.env X.xe)(hc:X.calm=true)(sg:gn (tx X c) tgf gt)(pg:PG X (.Tuple ts tk tp) gt)(hgl:Gl X "zip")(hm:X.mg "zip"=none)(hi:PDA X c [a,b] fa)(hb:oT X c xq body F)(hst:isStar a=false:=by rfl)(hst2:er [b]=true:=by rfl) :
  PDS X c xq (.For (.Tuple ts tk tp) (.Call (.Name "zip" p) [a,b] [] ip) body [] pos) (ph pf tgf fa F) :=
 PS.imp (rh hp hc (Bx hgl hm hi hst hst2) pg hb (d9 rfl)) fun _ _ _ h=>xJ sg h
end
end DL
end
section
namespace DL
open PySem PySem.Spec PyProof.Rows L2
theorem zB (z:List Nat)(i:Int):Txt.ljust (mkS z) i=mkS (z++List.replicate (i.toNat - z.length) 32):=by
 apply vZ
 have e:Txt.ljust (mkS z) i=Txt.ljustF (mkS z) i 32:=rfl
 rw [e,ljustF_list,f6]
theorem zC (z:List Nat)(i:Int):Txt.rjust (mkS z) i=mkS (List.replicate (i.toNat - z.length) 32++z):=by
 apply vZ
 have e:Txt.rjust (mkS z) i=Txt.rjustF (mkS z) i 32:=rfl
 rw [e,rjustF_list,f6]
theorem zD (i:Int)(h1:-1000000≤i)(h2:i≤1000000):PadOk i=true:=by
 unfold PadOk fitsSsize
 have e1:(decide (i < -(2 ^ 63:Int)) || decide (i ≥ 2 ^ 63))=false:=by simp; omega
 have e2:Builtin.Str.tooLong i.toNat=false:=by
  unfold Builtin.Str.tooLong
  have:(1000000:Nat)≤sizeLine:=by decide
  simp; omega
 rw [e2]
 simp only [Bool.not_false,Bool.and_true]
 rw [e1]; rfl
section
variable {X:Cx}
theorem zE:SmK X "ljust" ljustF where
 fl:=fun z y d e=>by
  unfold ljustF at e
  split at e
  ·split at e
   ·cases e; exact ⟨⟨_,rfl⟩,⟨_,rfl⟩⟩
   ·cases e
  ·cases e
 mt:=⟨"str.ljust",PySem.F.slot_str_ljust,PySem.F.type_str_ljust,by
  intro pins s σ H x vs v us Q I rx rv h
  obtain ⟨z,y,d,u,w,rfl,rfl,hy,hF,hd,q⟩:=h
  obtain ⟨t,rfl⟩:=rx
  obtain ⟨u',rfl,ru⟩:=vals1 rv
  unfold ljustF at hF
  split at hF
  ·next ii =>
   split at hF
   ·next hz =>
    cases hF; cases hy; cases hd
    obtain ⟨k,rfl⟩:=ru
    refine SC.ljust (zD _ hz.1 hz.2) (fun t' k'=>?_)
    rw [zB]
    exact ⟨.str _,H,I.tok _,⟨_,rfl⟩,q⟩
   ·cases hF
  ·cases hF⟩
theorem EA:SmK X "rjust" rjustF where
 fl:=fun z y d e=>by
  unfold rjustF at e
  split at e
  ·split at e
   ·cases e; exact ⟨⟨_,rfl⟩,⟨_,rfl⟩⟩
   ·cases e
  ·cases e
 mt:=⟨"str.rjust",PySem.F.slot_str_rjust,PySem.F.type_str_rjust,by
  intro pins s σ H x vs v us Q I rx rv h
  obtain ⟨z,y,d,u,w,rfl,rfl,hy,hF,hd,q⟩:=h
  obtain ⟨t,rfl⟩:=rx
  obtain ⟨u',rfl,ru⟩:=vals1 rv
  unfold rjustF at hF
  split at hF
  ·next ii =>
   split at hF
   ·next hz =>
    cases hF; cases hy; cases hd
    obtain ⟨k,rfl⟩:=ru
    refine SC.rjust (zD _ hz.1 hz.2) (fun t' k'=>?_)
    rw [zC]
    exact ⟨.str _,H,I.tok _,⟨_,rfl⟩,q⟩
   ·cases hF
  ·cases hF⟩
end
end DL
end
section
namespace DL
open L2
noncomputable def iR (i k:Nat):FE:=fun env=>match env[i]? with
 | some (.obj _ ks ds)=>p7 k ks ds
 | _=>none
@[simp] theorem FC (i k:Nat)(env:aN):iR i k env=aM (fZ env[i]?) fun p=>p7 k p.2.1 p.2.2:=by
 unfold iR fZ
 cases h:env[i]? with
 | none=>rfl
 | some s=>cases s <;> rfl
end DL
end
section
namespace DL
open PySem PySem.Spec PyProof.Rows L2
section
variable {X:Cx}{c:Ct}{xq:XQ}{pos:Pos}
theorem ko {i k:Nat}{x nm:Str}{p1:Pos}(F:fv X.K c k)(hn:nm=c.fld k)(n:Nm X i x):PD X c (.Attribute (.Name x p1) nm pos) (iR i k):=by
 subst hn
 refine PE.imp (yk (iP n.hN n.hv n.hd n.hc) (we rfl)) fun σ H Q h=>?_
 obtain ⟨W,O,env,d,E,e1,q⟩:=h
 unfold iR at e1
 split at e1
 ·next n ks ds hi =>
  obtain ⟨a,C,dx,fs,h1,h2,h3,h4,h5,h6,h7⟩:=E.obj hi
  obtain ⟨u,l,ru⟩:=p9 F.inj h6 h7 e1
  obtain ⟨g1,g2⟩:=F.cls n C h4
  exact ⟨.ref a,h1,a,C,dx,fs,u,rfl,h5,g1,g2,l,q u H (aK.refl _) ru⟩
 ·cases e1
end
end DL
end
section
namespace DL
open L2
noncomputable def By (c:Nat)(f:FE):FS:=fun env=>(f env).map fun _=>.ex c env
@[simp] theorem EB (c:Nat)(f:FE)(env:aN):By c f env=omap (fun _=>DFl.ex c env) (f env):=rfl
noncomputable def wo:DFl→Option Nat
 | .ex c _=>some c
 | _=>none
@[simp] theorem GY (c:Nat)(e:aN):wo (.ex c e)=some c:=rfl
@[simp] theorem GZ (d:D)(e:aN):wo (.rt d e)=none:=rfl
@[simp] theorem H9 (d:List D)(e:aN):wo (.rf d e)=none:=rfl
@[simp] theorem Ha (e:aN):wo (.nx e)=none:=rfl
@[simp] theorem Ie (c:Nat)(e:aN):DZ (.ex c e)=none:=rfl
noncomputable def xK (env:aN)(ok:Option DFl)(x:Option Nat):Option DFl:=match ok with
 | some r=>some r
 | none=>x.map fun c=>.ex c env
@[simp] theorem Ig (env:aN)(r:DFl)(x:Option Nat):xK env (some r) x=some r:=rfl
@[simp] theorem Ih (env:aN)(c:Nat):xK env none (some c)=some (.ex c env):=rfl
noncomputable def Bz {α:Type}(k:α→aN→DFl)(n:Nat)(F:List D→Option α)(Xf:List D→Option Nat)(f:FA):FS:=fun env=>(f env).bind fun ds=>if ds.length=n then xK env ((F ds).map fun d=>k d env) (Xf ds) else none
theorem EC {α:Type}(k:α→aN→DFl)(n:Nat)(F:List D→Option α)(Xf:List D→Option Nat)(f:FA)(env:aN):Bz k n F Xf f env=aM (f env) (fun ds=>if ds.length=n then xK env (omap (fun d=>k d env) (F ds)) (Xf ds) else none):=rfl
end DL
end
section
namespace DL
open PySem PySem.Spec PyProof.Rows L2
section
variable {M:Model}{A:Around}{E:Value→Shared→Prop}{s:Shared}{Q:Unit→Shared→Prop}{base:Heap}{env:Env}{outer:List Env}{L e t C:Addr}{fl:Value}
end
section
variable {P:Program}{w:World}{K:PySem.W.Frag}{mg:Str→Option Value}{base:Heap}{c:Ct}
end
end DL
end
section
namespace DL
open PySem PySem.Spec PyProof.Rows L2
section
variable {X:Cx}{c:Ct}{xq:XQ}{a b e:Expr}{f g:FE}{pos:Pos}
end
section
variable {K:PySem.W.Frag}{prog:Program}{w:World}{A:Around}{E:Value→Shared→Prop}{s:Shared}{x Cn:Addr}{ox:Obj}
 (hga:PySem.W.findIn K (.ref Cn) "__getattribute__"=some (some (.builtin "BaseException.__getattribute__"))) (hgt:PySem.W.findIn K (.ref Cn) "__getattr__"=some none)
 (hm:PySem.W.mroIn K Cn (.type "object")=some true) (hmB:PySem.W.mroIn K Cn (.type "BaseException")=some true)
 (hf:PySem.W.findObj K Cn none "__class__"=some (.bind (.builtin "getset_descriptor.__get__") (.builtin "object.__class__"))) (X:K.In s.heap) (I:PySem.W.InstAt s.heap x ox Cn none)
include hga hgt hm hmB hf X I
end
section
variable {X:Cx}{c:Ct}{xq:XQ}{a b e:Expr}{f g:FE}{pos:Pos}
end
end DL
end
section
namespace L2
open PySem PySem.Spec PyProof.Rows
section
variable {prog:Program}{w:World}{A:Around}{E:Value→Shared→Prop}{s:Shared}{Q:Value→Shared→Prop}
end
section
variable {X:Cx}
end
section
variable {X:Cx}
end
end L2
namespace DL
open PySem PySem.Spec PyProof.Rows L2
section
variable {X:Cx}{c:Ct}{xq:XQ}{a b e o:Expr}{f g:FE}{pos:Pos}
section
variable {prog:Program}{w:World}{A:Around}{E:Value→Shared→Prop}{s:Shared}{Q:Value→Shared→Prop}
end
end
end DL
end
section
namespace DL
open PySem PySem.Spec PyProof.Rows L2
section
variable {X:Cx}{c:Ct}{xq:XQ}{e:Expr}{pos:Pos}{α:Type}{ρ:RK α V}{k kk:Nat}{x:Str}{ps:List Str}{F:List D→Option α}{Xf:List D→Option Nat}{es:List Expr}{fs:FA}{p1 p2:Pos}
end
section
variable {X:Cx}{c:Ct}{xq:XQ}{e:Expr}{pos:Pos}{k kk:Nat}{x:Str}{ps:List Str}{Xf:List D→Option Nat}{es:List Expr}{fs:FA}{p1 p2:Pos}
end
end DL
end
section
namespace DL
open PySem PySem.Spec PyProof.Rows L2
section
variable {X:Cx}{c:Ct}{xq:XQ}{a b e:Expr}{f g:FE}{pos:Pos}
end
end DL
end
section
namespace DL
open L2
end DL
end
section
namespace DL
open PySem PySem.Spec PyProof.Rows L2
section
variable {X:Cx}{c:Ct}{xq:XQ}{e:Expr}{es:List Expr}{fa:FA}{pos:Pos}
end
theorem pk {N:Nat}{ds:List D}{j:Nat}{s:Slot}(ej:(envOf N ds)[j]?=some s):s=.no∨∃ d,s=.val d:=by
 unfold envOf at ej
 by_cases hj:j<ds.length
 ·rw [List.getElem?_append_left (by simpa using hj),List.getElem?_map] at ej
  cases e2:ds[j]? with
  | none=>rw [e2] at ej; cases ej
  | some d=>rw [e2] at ej; cases ej; exact .inr ⟨d,rfl⟩
 ·rw [List.getElem?_append_right (by simpa using hj),List.getElem?_replicate] at ej
  split at ej
  ·cases ej; exact .inl rfl
  ·cases ej
section
variable {P:Program}{w:World}{K:PySem.W.Frag}{mg:Str→Option Value}{base:Heap}{c:Ct}
end
end DL
end
section
namespace DL
open L2
noncomputable abbrev JFn:=Nat→List Nat→List D→List D→Option (List Nat × List D)
noncomputable def ma (i n:Nat)(J:JFn)(fa:FA):FS:=fun env=>match env[i]? with
 | some (.obj c ks ds)=>(fa env).bind fun as=>if as.length=n then (J c ks ds as).map fun p=>.nx (env.set i (.obj c p.1 p.2)) else none
 | _=>none
noncomputable def wq (N:Nat)(F:FS):JFn:=fun k ks ds as=>(F (.obj k ks ds::envOf N as)).bind (xE k)
theorem tM (N:Nat)(F:FS)(k:Nat)(ks:List Nat)(ds as:List D):wq N F k ks ds as=aM (F (.obj k ks ds::envOf N as)) (xE k):=(Eq.refl _).trans (Eq.refl _)
@[simp] theorem ED (i n:Nat)(J:JFn)(fa:FA)(env:aN):ma i n J fa env=aM (fZ env[i]?) fun p=>aM (fa env) fun as=>if as.length=n then omap (fun r:List Nat × List D=>.nx (env.set i (.obj p.1 r.1 r.2))) (J p.1 p.2.1 p.2.2 as) else none:=by
 unfold ma
 cases env[i]? with
 | none=>rfl
 | some s =>
  cases s with
  | obj c ks ds =>
   show (fa env).bind _=aM (some _) _
   rw [bV]
   cases fa env <;> rfl
  | _=>rfl
noncomputable def me (zf:List D→Option (List D))(nt:Nat)(cap:List Nat)(tg:FG)(fa:FA)(fe:FE):FP (List D):=fun env=>(fa env).bind fun as=>(zf as).bind fun ds=>if ds.length≤1000000 then bf tg bU fe (eD nt cap env) ds else none
@[simp] theorem EF (zf:List D→Option (List D))(nt:Nat)(cap:List Nat)(tg:FG)(fa:FA)(fe:FE)(env:aN):me zf nt cap tg fa fe env=aM (fa env) (fun as=>aM (zf as) (fun ds=>if ds.length≤1000000 then bf tg bU fe (eD nt cap env) ds else none)):=(Eq.refl _).trans (Eq.refl _)
noncomputable def tN (ds es:List D):Option (List D):=if ds.length+es.length≤1000000 then some (ds++es) else none
noncomputable def rO (i:Nat)(f:FP (List D)):FS:=mW i tN f
@[simp] theorem FD (i:Nat)(f:FP (List D))(env:aN):rO i f env=aM (qE env[i]?) fun ds=>aM (f env) fun es=>if ds.length+es.length≤1000000 then some (.nx (env.set i (.own (ds++es)))) else none:=by
 unfold rO mW
 cases env[i]? with
 | none=>rfl
 | some s =>
  cases s with
  | own ds =>
   show (f env).bind _=aM (some ds) _
   rw [bV]
   cases f env with
   | none=>rfl
   | some es =>
    show (tN ds es).map _=_
    unfold tN
    rw [bV]
    split <;> rfl
  | _=>rfl
end DL
end
section
namespace DL
open PySem PySem.Spec PyProof.Rows L2
section
variable {T:Tx}{W:Wf}{O O':Addr→Prop}{H H':Hp}{env:aN}{σ:L2.St}
end
end DL
end
section
namespace DL
open PySem PySem.Spec PyProof.Rows L2
section
variable {X:Cx}{c:Ct}{xq:XQ}{e k:Expr}{f g:FE}{pos:Pos}
end
section
variable {T:Tx}{fi:FE}{fe:FP (List D)}{σ:L2.St}{H:Hp}{Q:VK}{tg:FG}{g:TG}
end
section
variable {X:Cx}{c:Ct}{xq:XQ}{e elt a b iter tg:Expr}{pos:Pos}{gens:List Comprehension}{scope sc:Scope}{N N':List Str}{nt:Nat}{cap:List Nat}{fi fe:FE}{fe2:FP (List D)}{tgf:FG}{gt:TG}
end
end DL
end
section
namespace DL
open PySem PySem.Spec PyProof.Rows L2
noncomputable def kL (T:Tx):RK (List D) (List V):=fun A _ H es vs=>∃ b zs,vs=[.ref b]∧H b=some (.lst zs)∧aC T A H es zs
noncomputable instance {T:Tx}:Kd (kL T):=⟨fun _ _ _ _ _ _ s ⟨b,zs,e,q,r⟩=>⟨b,zs,e,s _ _ q,r.mono s fun _ z=>z⟩,fun _ _ _ _ _ _ _ h=>h⟩
section
variable {X:Cx}{c:Ct}{xq:XQ}{e:Expr}{f:FP (List D)}{pos:Pos}
theorem zF {T:Tx}(A:Addr→Prop)(H:Hp)(a:Addr)(ds:List D)(xs:List V)(x:List D)(y:List V)(ds':List D)(Q:VK)(hl:H a=some (.lst xs))(r:aC T A H ds xs)(_:∀ b,A b→b≠a)(ra:kL T A H H x y)(e:tN ds x=some ds')
  (k:∀ ys,(∀ A' H',(∀ d v,Rep T A H d v→Rep T A' H' d v)→(∀ d v,aC T A H d v→aC T A' H' d v)→aC T A' H' ds' ys)→∀ w,Q w (upd H a (.lst ys))):vH (.ref a) y H Q:=by
 unfold tN at e
 split at e
 ·next hz =>
  cases e
  obtain ⟨b,zs,rfl,hb,rb⟩:=ra
  refine ⟨a,b,xs,zs,rfl,rfl,hl,hb, ?_,k _ (fun A' H' g gl=>(gl _ _ r).append (gl _ _ rb)) _⟩
  rw [← r.length, ← rb.length]; exact Nat.le_trans hz (by decide)
 ·cases e
theorem Hb {T:Tx}{σ:L2.St}{H:Hp}{Q:List V→Hp→Prop}(h:tP T (kL T) f σ H Q):nL (tP T (kF T) f) uE σ H Q:=by
 obtain ⟨W,O,env,d,E,e,q⟩:=h
 refine ⟨W,O,env,d,E,e,fun v H' s r=>?_⟩
 obtain ⟨a,xs,rfl,n,hl,r⟩:=r
 exact q _ H' s ⟨a,xs,rfl,hl,r.mono (aK.refl _) fun _ z=>z.1⟩
theorem zG {i:Nat}{x:Str}{p1 p2 p3:Pos}(n:Nm X i x)(he:PF X c e f)(hs:isStar e=false:=by rfl)(hl:(p2.endLine == p3.line)=true:=by rfl) :
  PDS X c xq (.Expr (.Call (.Attribute (.Name x p1) "extend" p2) [e] [] p3) pos) (rO i f):=by
 refine PS.imp (lN (vF PySem.F.plainAttrs_list PySem.F.slot_list_extend PySem.F.type_list_extend x4 (iP n.hN n.hv n.hd n.hc) (gZ he oJ (aO hs)) rfl (by rw [eN hs]; rfl) hl (aO hs) rfl) (gN rfl)) fun De σ H h=>?_
 obtain ⟨v,h1,⟨xs,_,a,rfl,ha⟩,h3⟩:=vO (ρ:=kL (tx X c)) (tf:=tP (tx X c) (kL (tx X c)) f) (fun Q h=>h) zF (fun _ _ _ _ _ h=>h) h
 obtain ⟨W,O,env,x,E,e1,q⟩:=h3
 exact ⟨.ref a,h1,.inl ⟨rfl,xs,SqL.of ha⟩,Hb ⟨W,O,env,x,E,e1,fun v H' s r=>(q v H' s r).2⟩⟩
end
section
variable {T:Tx}{fe:FE}{fa:FA}{σ:L2.St}{H:Hp}{Q:VK}{tg:FG}{g:TG}
theorem zH (hg:gn T tg g){nt:Nat}{cap:List Nat}(hc:cap.Nodup)(h:tP T (kF T) (me v9 nt cap tg fa fe) σ H Q):kP nt cap (GS T.K (tP T (kA T) fa)) g (tP T kB bU) (tP T (kD T) fe) σ H Q:=by
 obtain ⟨W,O,env,d,E,e,q⟩:=h
 unfold me at e
 cases e1:fa env with
 | none=>rw [e1] at e; cases e
 | some as =>
  rw [e1] at e
  dsimp only [Option.bind_some] at e
  cases e2:v9 as with
  | none=>rw [e2] at e; cases e
  | some zs =>
   rw [e2] at e
   dsimp only [Option.bind_some] at e
   obtain ⟨ds,es,rfl,rfl⟩:=xF e2
   by_cases cn:(fU ds es).length≤1000000
   ·rw [if_pos cn] at e
    refine ⟨W,O,env,[.lst ds,.lst es],E,e1,fun vs H1 s1 r1=>?_⟩
    obtain ⟨v,r,rfl,rv,rr⟩:=aC.dF r1
    obtain ⟨v2,r2,rfl,rv2,rr2⟩:=aC.dF rr
    cases rr2.ju
    have E1:=E.mono s1
    obtain ⟨a,xs,rfl,hl,rl⟩:=Rep.fL rv
    obtain ⟨b,ys,rfl,hl2,rl2⟩:=Rep.fL rv2
    have hlen:=rl.length
    have hlen2:=rl2.length
    have hzl:=pj ds es
    have q' : ∀ v H',aK H1 H'→kF T (Cl W O) H1 H' d v→Q v H':=fun v H' s r=>q v H' (s1.trans s) (Kd.an (ρ:=kF T) _ _ _ _ _ _ s1 r)
    refine ⟨a,b,rfl,⟨xs,hl.sq⟩,⟨ys,hl2.sq⟩,WC T (Cl W O) tg bU fe (eD nt cap env) (fU ds es) H1 d,⟨(fU ds es).length,by simp,Nat.zero_le _,aK.refl _,Nat.zero_le _,[],d,.nil,e,rfl⟩, ?_⟩
    intro j k zs H' w
    have s:aK H1 H':=w.2.2.1
    have hlH:SqL T.K H' a xs:=s.seq hl.sq
    have hlH2:SqL T.K H' b ys:=s.seq hl2.sq
    by_cases hlt:j<(fU ds es).length
    ·have j1:j<xs.length:=by omega
     have j2:j<ys.length:=by omega
     refine .inr ⟨⟨xs,ys,xs[j],ys[j],hlH,hlH2,by simp [j1],by simp [j2]⟩,fun x H2 y=>?_⟩
     obtain ⟨p,x',y',hp,rfl,rfl,hx,hy⟩:=y
     obtain ⟨d1,hd,rd⟩:=rl.rq (hx xs hlH)
     obtain ⟨d2,hd2,rd2⟩:=rl2.rq (hy ys hlH2)
     have s2:aK H' (L2.upd H' p (.tup [x',y'])):=ck hp _
     have w2:WC T (Cl W O) tg bU fe (eD nt cap env) (fU ds es) H1 d j k zs (L2.upd H' p (.tup [x',y'])):=by
      obtain ⟨w1,w2,w3,w4,zz,rest,w5,w6,w7⟩:=w
      exact ⟨w1,w2,w3.trans s2,w4,zz,rest,w5.mono s2 fun _ z=>z,w6,w7⟩
     exact ke hg hc E1 cn hlt w2 (tJ hd hd2) (Rep.x8 (.cons (rd.mono s fun _ z=>z) (.cons (rd2.mono s fun _ z=>z) .nil)) hp)
    ·exact .inl ⟨⟨xs,ys,hlH,hlH2,by omega⟩,lT (by omega) w cn q'⟩
   ·rw [if_neg cn] at e; cases e
end
section
variable {X:Cx}{c:Ct}{xq:XQ}{elt a b:Expr}{ts:List Expr}{tk:Nat}{tp p ip pos:Pos}{scope sc:Scope}{N N':List Str}{nt:Nat}{cap:List Nat}{fa:FA}{fe:FE}{tgf:FG}{gt:TG}
theorem zI (d:DefX X N sc)(chk:gw sc scope N N' nt cap)(hcap:cap.Nodup)(hN':N'.Nodup)(hgl:Gl X "zip")(hm:X.mg "zip"=none)(hi:PDA X c [a,b] fa)
  (hg:∀ cl C s2 H2 fp,DefX (aL X scope cl N' C s2 H2 fp) N' (i9 scope sc)→PG (aL X scope cl N' C s2 H2 fp) (.Tuple ts tk tp) gt) (hge:lg nt gt) (sg:gn (tx X c) tgf gt)
  (ht:∀ cl C s2 H2 fp,DefX (aL X scope cl N' C s2 H2 fp) N' (i9 scope sc)→iW (aL X scope cl N' C s2 H2 fp) [] (tP (tx X c) kB bU))
  (he:∀ cl C s2 H2 fp,DefX (aL X scope cl N' C s2 H2 fp) N' (i9 scope sc)→PE (aL X scope cl N' C s2 H2 fp) elt (tP (tx X c) (kD (tx X c)) fe)) (hst:isStar a=false:=by rfl) (hst2:er [b]=true:=by rfl) :
  PF X c (.ListComp elt [⟨.Tuple ts tk tp,.Call (.Name "zip" p) [a,b] [] ip,[],0⟩] scope pos) (me v9 nt cap tgf fa fe) :=
 PE.imp (lV (tt:=tP (tx X c) kB bU) (te:=tP (tx X c) (kD (tx X c)) fe) d.hsc d.hN chk d.calm (Eu hgl hm hi hst hst2) (fun cl C s2 H2 fp=>hg cl C s2 H2 fp (d.comp hN')) hge (fun cl C s2 H2 fp=>ht cl C s2 H2 fp (d.comp hN')) (fun cl C s2 H2 fp=>he cl C s2 H2 fp (d.comp hN')) (d9 rfl)) fun _ _ _ h=>zH sg hcap h
end
end DL
end
section
namespace DL
open PySem PySem.Spec PyProof.Rows L2
section
variable {X:Cx}{c:Ct}{xq:XQ}{e k:Expr}{f g:FE}{pos:Pos}
end
end DL
end
section
namespace DL
open PySem PySem.Spec PyProof.Rows L2
section
variable {X:Cx}{c:Ct}{xq:XQ}{e:Expr}{es:List Expr}{fa:FA}{pos apos:Pos}
end
theorem zJ {T:Tx}{A:Addr→Prop}{H:Hp}{x C:Addr}{k:Nat}{p:List Nat × List D}{fl:DFl}{Q:VK}(hC:T.cl k=some C)(e:xE k fl=some p)
  (q:∀ (H':Hp) (dx':Addr) (fs:List (Str × V)),(∀ b o,H b=some o→b≠x→H' b=some o)→(∀ b,H' b=none→H b=none)→H' x=some (.ins C dx' fs)→fs.map (·.1)=p.1.map T.fld→aC T A H' p.2 (fs.map (·.2))→Q .non H') :
  jC T (fun _ _ _=>False) ⟨A,H,fun b=>b=x⟩ (fun b=>b=x) H { nx:=fun _ H'=>Q .non H',rt:=Q } fl:=by
 cases fl with
 | nx env' =>
  intro σ' H' O' E' g
  rw [Br] at e
  cases h0:env'[0]? with
  | none=>rw [h0] at e; cases e
  | some s =>
   cases s with
   | obj k' ks es' =>
    rw [h0,xD,bV] at e
    by_cases hk:k'=k
    ·rw [if_pos hk] at e; cases e
     subst hk
     obtain ⟨a,C',dx',fs,g1,g2,g3,g4,g5,g6,g7⟩:=E'.obj h0
     have ha:a=x:=by
      rcases g.more a g2 with z | z
      ·exact z
      ·exact absurd z g3
     subst ha
     rw [hC] at g4; cases g4
     exact q H' dx' fs (fun b o hb hne=>g.keep b o hb hne) g.dom g5 g6 (g7.mono (aK.refl _) fun _ z=>z.1)
    ·rw [if_neg hk] at e; cases e
   | _=>rw [h0] at e; cases e
 | rt _ _=>cases e
 | rf _ _=>cases e
 | bk _=>cases e
 | ct _=>cases e
 | ex _ _=>cases e
noncomputable def spJ (T:Tx)(n:Nat)(J:JFn):Sp:=fun vs H Q _=>vs.length=n+1∧∃ (A:Addr→Prop) (x:Addr) (us:List V) (C dx:Addr) (fs0:List (Str × V)) (k:Nat) (ks:List Nat) (ds0 ds:List D) (p:List Nat × List D),vs=.ref x::us∧T.cl k=some C∧H x=some (.ins C dx fs0)∧fs0.map (·.1)=ks.map T.fld∧aC T A H ds0 (fs0.map (·.2))∧¬ A x∧Nw A H∧aC T A H ds us∧J k ks ds0 ds=some p ∧
 ∀ (H':Hp) (dx':Addr) (fs:List (Str × V)),(∀ b o,H b=some o→b≠x→H' b=some o)→(∀ b,H' b=none→H b=none)→H' x=some (.ins C dx' fs)→fs.map (·.1)=p.1.map T.fld→aC T A H' p.2 (fs.map (·.2))→Q .non H'
structure rP (P:Program)(w:World)(K:PySem.W.Frag)(mg:Str→Option Value)(base:Heap)(c:Ct)(x:Str)(n k:Nat)(J:JFn):Prop where
 ex:∃ C f fd ps,mg x=some (.ref C)∧qM K C "__init__" f∧fz P w K mg base CX0 k f fd ps (spJ ⟨K,c.cl,c.fld⟩ n J)∧Binds K fd ps []
section
variable {X:Cx}{c:Ct}{xq:XQ}{e:Expr}{es:List Expr}{fa:FA}{pos apos:Pos}
theorem xN {n k j i:Nat}{J:JFn}{x y:Str}{p p2 p3:Pos}{pl:Sem Bool}(G:rP X.prog X.w X.K X.mg X.base c x n k J)(hr:dS j X.A)(hkj:k≤j)(hg:Gl X x)(nm:Nm X i y)(ha:PDA X c es fa)
  (hpl:er es=true:=by rfl) (hdb:(x == ("__debug__":Str))=false:=by decide)
  (ht:eval (.Call (.Attribute (.Name x p) "__init__" apos) (.Name y p2::es) [] p3) X.env=(do
   let ov ← eval (.Name x p) X.env
   standAt apos.atName
   let (f,first) ← holding [ov] (getMethod ov "__init__" pl)
   callWith p3 f first (backTo p3 (starEach (.Name y p2::es) X.env)) (backToKw p3 (keywordEach [] X.env))):=by rfl) :
  PDS X c xq (.Expr (.Call (.Attribute (.Name x p) "__init__" apos) (.Name y p2::es) [] p3) pos) (ma i n J fa):=by
 obtain ⟨C,f,fd,ps,h1,h2,h4,h5⟩:=G.ex
 refine PS.imp (lN (pe h2 h4 (hr.mono hkj) hg h1 h5 (gZ (iP nm.hN nm.hv nm.hd nm.hc) ha (aO rfl)) (aO rfl) (d7 hpl) hdb ht) (gN rfl)) fun De σ H h=>?_
 obtain ⟨W,O,env,fl,E,e1,q⟩:=h
 unfold ma at e1
 split at e1
 ·next cn ks ds0 hi =>
  cases e2:fa env with
  | none=>rw [e2] at e1; cases e1
  | some as =>
   rw [e2] at e1
   dsimp only [Option.bind_some] at e1
   by_cases hl:as.length=n
   ·rw [if_pos hl] at e1
    cases e3:J cn ks ds0 as with
    | none=>rw [e3] at e1; cases e1
    | some pr =>
     rw [e3] at e1; cases e1
     obtain ⟨a,C',dx,fs,g1,g2,g3,g4,g5,g6,g7⟩:=E.obj hi
     refine ⟨.ref a,g1,W,O,env,as,E,e2,fun vs H1 s1 r1=>?_⟩
     have E1:=E.mono s1
     refine ⟨?_,Cl W O,a,vs,C',dx,fs,cn,ks,ds0,as,pr, ?_,g4,s1 a _ g5,g6,g7.mono s1 fun _ z=>z,fun z=>z.2 g2,fun b hb=>E1.lQ hb,r1,e3, ?_⟩
     ·rw [List.length_append,List.length_cons,List.length_nil, ← aC.length r1,hl]
     ·rw [List.append_nil]
     ·intro H' dx' fs' kp dm hx' hn hr'
      have up:=E1.GN (t:=.obj cn pr.1 pr.2) hi rfl g1 kp dm (by rw [hx']; trivial) ⟨a,C',dx',fs',rfl,g2,g3,g4,hx',hn,hr'⟩
      exact q σ H' O up.1 ((Fr.same s1).trans up.2)
   ·rw [if_neg hl] at e1; cases e1
 ·cases e1
end
theorem vf {T:Tx}{N n:Nat}{F:FS}{vs:List V}{H:Hp}{Q:VK}{E0:XK}(h:spJ T n (wq N F) vs H Q E0):tDs T (fun _ _ _=>False) F { nx:=fun _ H'=>Q .non H',rt:=Q } (vs.map some++List.replicate (N+1 - vs.length) none) H:=by
 obtain ⟨hn,A,x,us,C,dx,fs0,k,ks,ds0,ds,p,rfl,hC,hx,hks,r0,hA,nw,r,e,q⟩:=h
 rw [tM] at e
 cases e1:F (.obj k ks ds0::envOf N ds) with
 | none=>rw [e1] at e; cases e
 | some fl =>
  rw [e1,bV] at e
  have B:=ja (n:=N) nw r
  have es:(V.ref x::us).map some++List.replicate (N+1 - (V.ref x::us).length) none=some (.ref x)::(us.map some++List.replicate (N - us.length) none):=by
   rw [List.map_cons,List.cons_append,List.length_cons,Nat.add_sub_add_right]
  rw [es]
  have own0:∀ (j:Nat) (s:Slot),(.obj k ks ds0::envOf N ds:aN)[j]?=some s→s.gW=true→j=0:=fun j s ej o=>by
   match j,ej with
   | 0,_=>rfl
   | j+1,ej =>
    have ej':(envOf N ds)[j]?=some s:=by simpa using ej
    rcases pk ej' with rfl | ⟨d,rfl⟩ <;> cases o
  have start:bN T ⟨A,H,fun b=>b=x⟩ (fun b=>b=x) H (.obj k ks ds0::envOf N ds) (some (.ref x)::(us.map some++List.replicate (N - us.length) none)):=by
   refine ⟨Fr.refl _ _,nw,fun a z=>by rw [z,hx]; trivial,fun j s ej=>?_,fun j l s t a e1 e2 o1 o2 _ _=>(own0 j s e1 o1).trans (own0 l t e2 o2).symm, ?_,fun j l dss t a bs b e1 _ _ _ _ _=>(by have:=own0 j _ e1 rfl; subst this; cases e1)⟩
   ·match j,ej with
    | 0,ej =>
     cases ej
     exact ⟨x,C,dx,fs0,rfl,rfl,(by show H x≠none; rw [hx]; simp),hC,hx,hks,r0.mono (aK.refl _) fun b z=>⟨z,fun w=>hA (w ▸ z)⟩⟩
    | j+1,ej =>
     have ej':(envOf N ds)[j]?=some s:=by simpa using ej
     have hs:=B.slot j s ej'
     rw [List.getElem?_cons_succ]
     rcases pk ej' with rfl | ⟨d,rfl⟩
     ·trivial
     ·obtain ⟨u,eu,ru⟩:=hs; exact ⟨u,eu,ru.mono (aK.refl _) fun b z=>⟨z.1,fun w=>hA (w ▸ z.1)⟩⟩
   ·rw [List.length_cons,List.length_cons,B.len]
  refine ⟨⟨A,H,fun b=>b=x⟩,fun b=>b=x,.obj k ks ds0::envOf N ds,fl,start,e1, ?_⟩
  exact zJ hC e q
section
variable {P:Program}{w:World}{K:PySem.W.Frag}{mg:Str→Option Value}{base:Heap}{c:Ct}
theorem zK {z x qual:Str}{st:Stmt}{C fa:Addr}{fd:FuncData}{y:Str}{N ps:List Str}{k:Nat}{F:FS}(Fn:Fun K x qual st fa fd)(S:aG (y::N) (y::ps) (ag st))(hb:Binds K fd (y::ps) [])
  (body:BodyOk P w K mg base c (y::N) st k F) (hm:mg z=some (.ref C)) (M:qM K C "__init__" fa):rP P w K mg base c z ps.length (k+1) (wq N.length F):=by
 refine ⟨C,fa,fd,_,hm,M, ?_,hb⟩
 refine Fn.ok S (fun vs H Q E h=>h.1) fun cdv A outer s H vs Q E hr h=>⟨_,body.ok _ rfl rfl rfl rfl rfl ⟨⟨rfl,rfl,rfl,S.nd⟩,fun _=>rfl,PassesOwn.never⟩ hr, ?_⟩
 exact vf (E0:=E) h
end
end DL
end
section
set_option maxHeartbeats 4000000
namespace K18
open DL L2
noncomputable def aW:D:=.str [32]
def dI:FS:=(aT (fp2 gT (feC aW) (fp1 (aU 0) (ab 0))))
def cK:List D→Option (D):=bz 2 dI
def eM:FS:=(aT (fp1 (aU 3) (ab 0)))
def dg:List D→Option (D):=bz 2 eM
def kq:FS:=(aT (fp2 (intD iA) (fp2 (intD hJ) (ab 1) (ab 0)) (feC (.int 2))))
def j0:List D→Option (D):=bz 2 kq
def rQ:FS:=(aT (fp2 (oW ljustF) (fp2 bC (fp2 gT (feC aW) (bg 2 j0 (aj (fp1 i7 (ab 0)) (aj (ab 1) az)))) (ab 0)) (ab 1)))
def n8:List D→Option (D):=bz 2 rQ
def dJ:FS:=(aT (fp2 (intD hJ) (fp2 (intD hJ) (fp1 oS (fp1 (aU 1) (fp1 (aU 10) (ab 0)))) (feC (.int 1))) (fp1 (aU 2) (fp1 (aU 11) (ab 0)))))
def cL:List D→Option (D):=bz 1 dJ
def eH:iv (D):=fun c=>match c with
 | 6=>some ([0,1,2,10,11,12],cL)
 | _=>none
def dh:FS:=(aT (fp2 bC (fp2 bC (fp1 (aU 2) (fp1 (aU 10) (ab 0))) (feC (.int 1))) (fp1 (aU 1) (fp1 (aU 12) (ab 0)))))
def cz:List D→Option (D):=bz 1 dh
def dN:iv (D):=fun c=>match c with
 | 6=>some ([0,1,2,10,11,12],cz)
 | _=>none
structure fx where
 aR:List D→Option (D)
 cp:List D→Option (D)
 cE:List D→Option (D)
 cF:List D→Option (D)
 d0:List D→Option (D)
 bX:List D→Option (D)
 cG:List D→Option (D)
 cH:List D→Option (D)
 cI:List D→Option (D)
 dA:List D→Option (D)
def bT (R:fx):iv (D):=fun c=>match c with
 | 0=>some ([0,1,2],R.aR)
 | 1=>some ([0,1,2,3],R.aR)
 | 2=>some ([0,1,2,4,5],R.aR)
 | 3=>some ([0,1,2,6,7],R.aR)
 | 4=>some ([0,1,2,8],R.aR)
 | 5=>some ([0,1,2,9,8],R.aR)
 | 6=>some ([0,1,2,10,11,12],R.aR)
 | 7=>some ([0,1,2,8],R.aR)
 | 8=>some ([13,14,15,0,1,2,16],R.aR)
 | _=>none
def aP (R:fx):iv (D):=fun c=>match c with
 | 0=>some ([0,1,2],cK)
 | 1=>some ([0,1,2,3],dg)
 | 2=>some ([0,1,2,4,5],R.cp)
 | 3=>some ([0,1,2,6,7],R.cE)
 | 4=>some ([0,1,2,8],R.cF)
 | 5=>some ([0,1,2,9,8],R.d0)
 | 6=>some ([0,1,2,10,11,12],R.bX)
 | 7=>some ([0,1,2,8],R.cH)
 | 8=>some ([13,14,15,0,1,2,16],R.cI)
 | _=>none
def iD (R:fx):iv (D):=fun c=>match c with
 | 6=>some ([0,1,2,10,11,12],R.cG)
 | _=>none
def fR (R:fx):iv (D):=fun c=>match c with
 | 8=>some ([13,14,15,0,1,2,16],R.dA)
 | _=>none
def g9 (R:fx):FS:=(aB (eJ (nX (ftB (fp2 (intD ltI) (ab 1) (fp1 oS (fp1 (aU 1) (ab 0))))) (ftB (fp2 (intD gtI) (ab 1) (fp1 (aU 2) (ab 0))))) (aT (fp2 gT (feC aW) (fp1 (aU 0) (ab 0)))) bw) (aT (bA 1 (aP R) (ab 0) (aj (ab 1) az))))
def d3 (R:fx):FS:=(aB (nO 2 (gM (aj (bA 1 (bT R) (fp2 ixD (fp1 (aU 4) (ab 0)) (feC (.int 0))) (aj (ab 1) az)) az))) (aB (ph pf (kN [3,4]) (aj (fp1 (aU 5) (ab 0)) (aj (rC slD (fp1 (aU 4) (ab 0)) (j8 (feC (.int 1))) kX) az)) (aB (fY 2 (fp2 bC (fp2 bC (feC aW) (nY (ftB (fp2 (eqF false) (ab 1) (feC (.int 0)))) (ab 3) (feC aW))) (feC aW))) (fY 2 (bA 1 (bT R) (ab 4) (aj (ab 1) az))))) (aT (fp2 jK (feC (.str [])) (kU 2)))))
def di (R:fx):FS:=(aB (eJ (ftB (fp2 (eqF false) (ab 1) (feC (.int 0)))) (aT (fp2 gT (feC (.str [45])) (fp1 (aU 0) (ab 0)))) bw) (aB (eJ (ftB (fp2 (intD ltI) (ab 1) (feC (.int 0)))) (aT (bg 2 n8 (aj (bA 1 (bT R) (fp1 (aU 6) (ab 0)) (aj (fp2 bC (fp2 bC (ab 1) (feC (.int 1))) (fp1 (aU 2) (fp1 (aU 6) (ab 0)))) az)) (aj (fp1 (aU 0) (ab 0)) az)))) bw) (aT (bg 2 n8 (aj (bA 1 (bT R) (fp1 (aU 7) (ab 0)) (aj (fp2 (intD hJ) (fp2 (intD hJ) (ab 1) (feC (.int 1))) (fp1 (aU 1) (fp1 (aU 7) (ab 0)))) az)) (aj (fp1 (aU 0) (ab 0)) az))))))
def dj (R:fx):FS:=(aB (eJ (ftB (fp2 (eqF false) (ab 1) (fp1 oS (fp1 (aU 1) (ab 0))))) (aT (fp2 bC (fp2 gT (feC aW) (feC (.int 2))) (fp2 gT (feC (.str [95])) (fp1 (aU 0) (fp1 (aU 8) (ab 0)))))) bw) (aT (fp2 bC (nY (ftB (fp2 (eqF false) (ab 1) (feC (.int 0)))) (feC (.str [86,124])) (fp2 bC (feC aW) (feC (.str [124])))) (bA 1 (bT R) (fp1 (aU 8) (ab 0)) (aj (ab 1) az)))))
def dO (R:fx):FS:=(aT (fp2 bC (fp2 bC (nY (ftB (fp2 (eqF false) (ab 1) (feC (.int 0)))) (fp1 (aU 9) (ab 0)) (feC aW)) (feC aW)) (bA 1 (bT R) (fp1 (aU 8) (ab 0)) (aj (ab 1) az))))
def bZ (R:fx):FS:=(aT (fp2 (oW ljustF) (fp2 bC (bA 1 (bT R) (fp1 (aU 10) (ab 0)) (aj (ab 1) az)) (bA 1 (iD R) (ab 0) (aj (ab 1) az))) (fp1 (aU 0) (ab 0))))
def bY (R:fx):FS:=(aB (eJ (ftB (fp2 (intD ltI) (ab 1) (fp1 oS (fp1 (aU 1) (fp1 (aU 10) (ab 0)))))) (aT (bA 1 (bT R) (fp1 (aU 11) (ab 0)) (aj (fp2 (intD hJ) (ab 1) (bA 0 eH (ab 0) az)) az))) bw) (aB (eJ (ftB (fp2 (intD gtI) (ab 1) (fp1 (aU 2) (fp1 (aU 10) (ab 0))))) (aT (bA 1 (bT R) (fp1 (aU 12) (ab 0)) (aj (fp2 (intD hJ) (ab 1) (bA 0 dN (ab 0) az)) az))) bw) (aT (feC (.str [])))))
def dk (R:fx):FS:=(aB (eJ (ftB (fp2 (eqF false) (ab 1) (feC (.int 0)))) (aT (fp2 bC (fp2 bC (feC (.str [40])) (bA 1 (bT R) (fp1 (aU 8) (ab 0)) (aj (ab 1) az))) (feC (.str [41])))) bw) (aB (eJ (ftB (fp2 (intD ltI) (ab 1) (feC (.int 0)))) (aT (fp2 bC (fp2 bC (feC (.str [47])) (bA 1 (bT R) (fp1 (aU 8) (ab 0)) (aj (ab 1) az))) (feC (.str [92])))) bw) (aT (fp2 bC (fp2 bC (feC (.str [92])) (bA 1 (bT R) (fp1 (aU 8) (ab 0)) (aj (ab 1) az))) (feC (.str [47]))))))
def cC (R:fx):FS:=(aB (bG 2 (fp2 ixD (fp1 (aU 15) (ab 0)) (fp2 bC (ab 1) (fp1 (aU 1) (ab 0))))) (aB (bG 3 (nY (ftB (fp1 (iX false) (ab 2))) (fp2 gT (feC aW) (fp2 (intD hJ) (fp1 (aU 0) (ab 0)) (feC (.int 2)))) (bA 2 (fR R) (ab 0) (aj (ab 2) (aj (ab 1) az))))) (aT (nY (ftB (fp2 (eqF false) (ab 1) (feC (.int 0)))) (fp2 bC (fp2 bC (feC (.str [91])) (ab 3)) (feC (.str [93]))) (fp2 bC (fp2 bC (feC (.str [124])) (ab 3)) (feC (.str [124])))))))
def eF (R:fx):FS:=(aB (bG 3 (fp2 (intD hJ) (ab 2) (fp2 ixD (fp1 (aU 16) (ab 0)) (ab 1)))) (aT (fp2 jK (feC (.str [32,32])) (df (me v9 2 [3] (kN [0,1]) (aj (fp2 ixD (fp1 (aU 13) (ab 0)) (ab 1)) (aj (fp1 (aU 14) (ab 0)) az)) (fp2 (oW rjustF) (bA 1 (bT R) (ab 0) (aj (ab 2) az)) (ab 1)))))))
def DN0:Nat→fx
 | 0=>⟨fun _=>none,fun _=>none,fun _=>none,fun _=>none,fun _=>none,fun _=>none,fun _=>none,fun _=>none,fun _=>none,fun _=>none⟩
 | n+1=>⟨bz 2 (g9 (DN0 n)),bz 5 (d3 (DN0 n)),bz 2 (di (DN0 n)),bz 2 (dj (DN0 n)),bz 2 (dO (DN0 n)),bz 2 (bZ (DN0 n)),bz 2 (bY (DN0 n)),bz 2 (dk (DN0 n)),bz 4 (cC (DN0 n)),bz 4 (eF (DN0 n))⟩
abbrev dG:Nat:=40
abbrev rR:List D→Option (D):=(DN0 dG).aR
abbrev ly:List D→Option (D):=(DN0 dG).cp
abbrev mh:List D→Option (D):=(DN0 dG).cE
abbrev mi:List D→Option (D):=(DN0 dG).cF
abbrev nc:List D→Option (D):=(DN0 dG).d0
abbrev ky:List D→Option (D):=(DN0 dG).bX
abbrev ml:List D→Option (D):=(DN0 dG).cG
abbrev mv:List D→Option (D):=(DN0 dG).cH
abbrev my:List D→Option (D):=(DN0 dG).cI
abbrev nZ:List D→Option (D):=(DN0 dG).dA
abbrev ku:iv (D):=bT (DN0 dG)
abbrev zL:iv (D):=aP (DN0 dG)
abbrev BA:iv (D):=iD (DN0 dG)
abbrev BC:iv (D):=fR (DN0 dG)
def f9:FE:=(bA 1 ku (ab 1) (aj (ab 0) az))
def gz:FS:=(jD (dH sR 1 [0] (aQ 0) (aj (fp1 oS (fp1 (aU 1) (ab 0))) (aj (fp2 bC (fp1 (aU 2) (ab 0)) (feC (.int 1))) az)) bU f9))
def b0:List D→Option (List D):=iQ 1 gz
def cv:iv (List D):=fun c=>match c with
 | 0=>some ([0,1,2],b0)
 | 1=>some ([0,1,2,3],b0)
 | 2=>some ([0,1,2,4,5],b0)
 | 3=>some ([0,1,2,6,7],b0)
 | 4=>some ([0,1,2,8],b0)
 | 5=>some ([0,1,2,9,8],b0)
 | 6=>some ([0,1,2,10,11,12],b0)
 | 7=>some ([0,1,2,8],b0)
 | 8=>some ([13,14,15,0,1,2,16],b0)
 | _=>none
def eI:FS:=(aB (eL 0 0 (ab 1)) (aB (eL 0 1 (ab 2)) (eL 0 2 (ab 3))))
def bQ:IFn:=gY 3 eI
def jO:JFn:=wq 3 eI
def iE:FS:=(aB (ib 0 3 bQ (aj (fp1 i7 (ab 1)) (aj (feC (.int 0)) (aj (feC (.int 0)) az)))) (eL 0 3 (ab 1)))
def jP:IFn:=gY 1 iE
def jh:FS:=(aB (bG 1 (feC (.str [33,34,35,36,38,39,40,41,42,43,44,45,46,47,48,49,50,51,52,53,54,55,56,57,58,59,60,61,62,63,64,65,66,67,68,69,70,71,72,73,74,75,76,77,78,79,80,81,82,83,84,85,86,87,88,89,90,91,92,93,94,95,96]))) (aB (bG 1 (fp2 bC (ab 1) (feC (.str [97,98,99,100,101,102,103,104,105,106,107,108,109,110,111,112,113,114,115,116,117,118,119,120,121,122,123,124,125,126])))) (aT (fp2 ixD (ab 1) (fp2 (intD je) (fp2 (intD je) (fp2 gT (ab 0) (feC (.int 48271))) (feC (.int 2147483647))) (feC (.int 93)))))))
def cq:List D→Option (D):=bz 2 jh
def gb:FE:=(bg 1 cq (aj (fp2 bC (ab 1) (fp2 gT (fp2 gT (feC (.int 97)) (ab 0)) (ab 0))) az))
def iF:FS:=(aT (fp2 jK (feC (.str [])) (df (dH j9 1 [0] (aQ 0) (aj (ab 1) az) bU gb))))
def gO:List D→Option (D):=bz 2 iF
def fH:FE:=(fp1 (aU 0) (ab 0))
def fI:FE:=(fp1 (aU 1) (ab 0))
def fJ:FE:=(fp1 (aU 2) (ab 0))
def hX:FS:=(aB (bG 3 (fp2 bC (fp1 sV (df (dM 1 [] (aQ 0) (ab 1) bU fH))) (fp2 gT (feC (.int 3)) (fp2 (intD hJ) (fp1 i7 (ab 1)) (feC (.int 1)))))) (aB (bG 4 (fp1 gX (df (dM 1 [] (aQ 0) (ab 1) bU fI)))) (aB (bG 5 (fp1 gX (df (dM 1 [] (aQ 0) (ab 1) bU fJ)))) (aB (ib 0 3 bQ (aj (ab 3) (aj (ab 4) (aj (ab 5) az)))) (aB (eL 0 4 (df (fp1 kW (ab 1)))) (eL 0 5 (ab 2)))))))
def mz:IFn:=gY 5 hX
def fc:FE:=(fp2 ixD (ab 0) (feC (.int 1)))
def gA:FS:=(aB (bG 2 (bg 2 gO (aj (ab 1) (aj (fp2 (intD hJ) (fp1 i7 (ab 0)) (feC (.int 1))) az)))) (aT (gh (aj (feC (.str [99,104,97,105,110])) (aj (fw 2 2 mz (aj (df (dM 1 [] (aQ 0) (ab 0) bU fc)) (aj (ab 2) az))) (aj (ab 0) (aj (ab 2) az)))))))
def dB:List D→Option (D):=bz 3 gA
def eA:FS:=(aB (eJ (ftB (fp2 (eqF false) (ab 0) (feC (.int 0)))) (aT (fp2 bC (feC (.int 2)) (fp2 (intD je) (ab 1) (feC (.int 4))))) bw) (aB (eJ (nX (ftB (fp2 (eqF false) (ab 0) (feC (.int 1)))) (ftB (fp2 (eqF false) (ab 0) (feC (.int 4))))) (aT (feC (.int 2))) bw) (aB (eJ (ftB (fp2 (eqF false) (ab 0) (feC (.int 6)))) (aT (fp2 gT (fp2 bC (feC (.int 1)) (fp2 (intD je) (ab 1) (feC (.int 2)))) (fp2 bC (feC (.int 1)) (fp2 (intD je) (fp2 (intD iA) (ab 1) (feC (.int 2))) (feC (.int 3)))))) bw) (aB (eJ (ftB (fp2 (eqF false) (ab 0) (feC (.int 7)))) (aT (feC (.int 3))) bw) (aT (feC (.int 1)))))))
def dC:List D→Option (D):=bz 2 eA
def eB:FE:=(fp1 (aU 0) (fp2 ixD (ab 0) (ab 1)))
def eC:FE:=(fp1 gX (df (dM 1 [0] (aQ 0) (ab 1) bU eB)))
def fK:FS:=(jD (dH j9 1 [0] (aQ 0) (aj (fp1 i7 (fp2 ixD (ab 0) (feC (.int 0)))) az) bU eC))
def eG:List D→Option (List D):=iQ 1 fK
def fg:FE:=(fp1 (aU 1) (ab 0))
def gC:FS:=(aT (fp1 gX (df (dM 1 [] (aQ 0) (ab 0) bU fg))))
def cP:List D→Option (D):=bz 1 gC
def fj:FE:=(fp1 (aU 2) (ab 0))
def gD:FS:=(aT (fp2 bC (fp2 bC (bg 1 cP (aj (ab 0) az)) (feC (.int 1))) (fp1 gX (df (dM 1 [] (aQ 0) (ab 0) bU fj)))))
def cQ:List D→Option (D):=bz 1 gD
def cM:FS:=(aB (eJ (ftB (fp2 (intD gtI) (ab 2) (feC (.int 0)))) (fY 1 (feC .non)) bw) (rO 1 (fp2 yO (gM (aj (ab 2) az)) (bg 1 cQ (aj (ab 3) az)))))
def fk:FS:=(aB (nO 1 (gM az)) (aB (oY (kN [2,3]) (ab 0) cM) (kY 1)))
def dP:List D→Option (List D):=iQ 4 fk
def gc:FS:=(aB (fY 2 (fp2 bC (ab 3) (bg 1 cP (aj (ab 4) az)))) (sQ 3 En (fp2 bC (bg 1 cQ (aj (ab 4) az)) (feC (.int 1)))))
def iG:FS:=(aB (nO 2 (gM az)) (aB (bG 3 (fp1 oS (ab 1))) (aB (lS (aQ 4) (ab 0) gc) (kY 2))))
def gP:List D→Option (List D):=iQ 5 iG
def eQ:FE:=(df (fp1 kW (ab 0)))
def iH:FS:=(aB (eL 0 13 (df (dM 1 [] (aQ 0) (ab 1) bU eQ))) (aB (eL 0 14 (df (bg 1 eG (aj (iR 0 13) az)))) (aB (eL 0 15 (df (bg 1 dP (aj (iR 0 13) az)))) (aB (bG 2 (fp1 i7 (iR 0 15))) (aB (bG 3 (fp2 (intD iA) (fp2 (intD hJ) (ab 2) (feC (.int 1))) (feC (.int 2)))) (aB (ma 0 3 jO (aj (fp2 bC (fp1 sV (iR 0 14)) (fp2 gT (feC (.int 2)) (fp1 i7 (iR 0 14)))) (aj (ab 3) (aj (fp2 (intD hJ) (fp2 (intD hJ) (ab 2) (feC (.int 1))) (ab 3)) az)))) (eL 0 16 (df (bg 2 gP (aj (iR 0 13) (aj (ab 3) az)))))))))))
def lA:IFn:=gY 3 iH
def iI:FS:=(aT (fp2 bC (fp2 bC (fp1 (aU 1) (ab 0)) (feC (.int 1))) (fp1 (aU 2) (ab 0))))
def dn:List D→Option (D):=bz 1 iI
def iJ:FS:=(aB (ib 0 3 bQ (aj (fp2 bC (fp1 maxD (aj (fp1 (aU 0) (ab 1)) (aj (fp1 (aU 0) (ab 2)) az))) (feC (.int 2))) (aj (bg 1 dn (aj (ab 1) az)) (aj (bg 1 dn (aj (ab 2) az)) az)))) (aB (eL 0 6 (ab 1)) (eL 0 7 (ab 2))))
def pq:IFn:=gY 2 iJ
def iK:FS:=(aB (ib 0 3 bQ (aj (fp2 bC (fp1 (aU 0) (ab 1)) (feC (.int 2))) (aj (fp2 bC (fp1 (aU 1) (ab 1)) (feC (.int 1))) (aj (fp1 (aU 2) (ab 1)) az)))) (eL 0 8 (ab 1)))
def pA:IFn:=gY 1 iK
def ji:FS:=(aB (ib 0 3 bQ (aj (fp2 bC (fp1 (aU 0) (ab 2)) (feC (.int 2))) (aj (fp1 (aU 1) (ab 2)) (aj (fp1 (aU 2) (ab 2)) az)))) (aB (eL 0 9 (ab 1)) (eL 0 8 (ab 2))))
def tO:IFn:=gY 2 ji
def dQ:FE:=(ab 0)
def cu:FT:=(ftB (fp1 (iX true) (ab 0)))
def dR:FE:=(fp1 (aU 0) (ab 0))
def dD:FS:=(aB (bG 4 (df (dM 1 [] (aQ 0) (gh (aj (ab 2) (aj (ab 3) az))) cu dQ))) (aB (bG 5 (fp2 n0 (df (dM 1 [] (aQ 0) (ab 4) bU dR)) (feC (.int 0)))) (aB (bG 6 (fp2 bC (fp1 (aU 1) (ab 1)) (nY (ftB (fp1 (iX false) (ab 2))) (feC (.int 0)) (bg 1 dn (aj (ab 2) az))))) (aB (bG 7 (fp2 bC (fp1 (aU 2) (ab 1)) (nY (ftB (fp1 (iX false) (ab 3))) (feC (.int 0)) (bg 1 dn (aj (ab 3) az))))) (aB (ib 0 3 bQ (aj (fp2 bC (fp1 (aU 0) (ab 1)) (ab 5)) (aj (ab 6) (aj (ab 7) az)))) (aB (eL 0 10 (ab 1)) (aB (eL 0 11 (ab 2)) (eL 0 12 (ab 3)))))))))
def fC:IFn:=gY 7 dD
def iL:FS:=(aB (ib 0 3 bQ (aj (fp2 bC (fp1 (aU 0) (ab 1)) (feC (.int 2))) (aj (fp1 (aU 1) (ab 1)) (aj (fp1 (aU 2) (ab 1)) az)))) (eL 0 8 (ab 1)))
def pB:IFn:=gY 1 iL
def gF:FE:=(fp2 ixD (ab 0) (feC (.int 1)))
def fD:FE:=(df (dM 1 [] (aQ 0) (rC slD (ab 1) (j8 (ab 0)) (j8 (fp2 bC (ab 0) (ab 2)))) bU gF))
def cJ:FS:=(aB (bG 3 (fp2 ixD (fp2 ixD (ab 1) (feC (.int 0))) (feC (.int 1)))) (aB (eJ (ftB (fp2 (eqF false) (ab 0) (feC (.int 0)))) (aT (bg 2 dB (aj (ab 1) (aj (ab 2) az)))) bw) (aB (eJ (ftB (fp2 (eqF false) (ab 0) (feC (.int 1)))) (aT (gh (aj (feC (.str [111,118,101,114])) (aj (fw 3 2 pq (aj (ab 3) (aj (fp2 ixD (fp2 ixD (ab 1) (feC (.int 1))) (feC (.int 1))) az))) (aj (ab 1) (aj (feC (.str [])) az)))))) bw) (aB (eJ (ftB (fp2 (eqF false) (ab 0) (feC (.int 2)))) (aT (gh (aj (feC (.str [114,111,111,116])) (aj (fw 4 1 pA (aj (ab 3) az)) (aj (ab 1) (aj (feC (.str [])) az)))))) bw) (aB (eJ (ftB (fp2 (eqF false) (ab 0) (feC (.int 3)))) (aT (gh (aj (feC (.str [108,101,100])) (aj (fw 5 2 tO (aj (bg 1 cq (aj (ab 2) az)) (aj (ab 3) az))) (aj (ab 1) (aj (bg 1 cq (aj (ab 2) az)) az)))))) bw) (aB (eJ (nN (ftB (fp2 (eqF false) (ab 0) (feC (.int 4)))) (ftB (fp2 (eqF false) (fp2 (intD je) (ab 2) (feC (.int 2))) (feC (.int 0))))) (aT (gh (aj (feC (.str [109,97,114,107,101,100])) (aj (fw 6 3 fC (aj (ab 3) (aj (fp2 ixD (fp2 ixD (ab 1) (feC (.int 1))) (feC (.int 1))) (aj (feC .non) az)))) (aj (ab 1) (aj (feC (.str [114,97,105,115,101,100])) az)))))) bw) (aB (eJ (ftB (fp2 (eqF false) (ab 0) (feC (.int 4)))) (aT (gh (aj (feC (.str [109,97,114,107,101,100])) (aj (fw 6 3 fC (aj (ab 3) (aj (feC .non) (aj (fp2 ixD (fp2 ixD (ab 1) (feC (.int 1))) (feC (.int 1))) az)))) (aj (ab 1) (aj (feC (.str [108,111,119,101,114,101,100])) az)))))) bw) (aB (eJ (ftB (fp2 (eqF false) (ab 0) (feC (.int 5)))) (aT (gh (aj (feC (.str [104,101,108,100])) (aj (fw 7 1 pB (aj (ab 3) az)) (aj (ab 1) (aj (feC (.str [])) az)))))) bw) (aB (eJ (ftB (fp2 (eqF false) (ab 0) (feC (.int 7)))) (aT (gh (aj (feC (.str [109,97,114,107,101,100])) (aj (fw 6 3 fC (aj (ab 3) (aj (fp2 ixD (fp2 ixD (ab 1) (feC (.int 1))) (feC (.int 1))) (aj (fp2 ixD (fp2 ixD (ab 1) (feC (.int 2))) (feC (.int 1))) az)))) (aj (ab 1) (aj (feC (.str [114,97,105,115,101,100,32,108,111,119,101,114,101,100])) az)))))) bw) (aB (bG 4 (fp2 bC (feC (.int 1)) (fp2 (intD je) (fp2 (intD iA) (ab 2) (feC (.int 2))) (feC (.int 3))))) (aB (bG 5 (df (dH uZ 1 [1,4] (aQ 0) (aj (feC (.int 0)) (aj (fp1 i7 (ab 1)) (aj (ab 4) az))) bU fD))) (aT (gh (aj (feC (.str [103,114,105,100])) (aj (fw 8 1 lA (aj (ab 5) az)) (aj (ab 1) (aj (fp1 wm (ab 4)) az)))))))))))))))))
def aY:List D→Option (D):=bz 6 cJ
def gG:FE:=(bg 1 cq (aj (fp2 bC (fp2 (intD iA) (ab 1) (feC (.int 32))) (fp2 gT (fp2 gT (feC (.int 37)) (ab 0)) (ab 0))) az))
def ig:FS:=(aB (bG 1 (fp2 (intD je) (fp2 gT (ab 0) (feC (.int 1099087573))) (feC (.int 10000000000037)))) (aB (eJ (ftB (fp2 (intD ltI) (fp2 (intD je) (ab 1) (feC (.int 4))) (feC (.int 3)))) (aB (bG 2 (fp2 jK (feC (.str [])) (df (dH j9 1 [1] (aQ 0) (aj (fp2 bC (feC (.int 1)) (fp2 (intD je) (fp2 (intD iA) (ab 1) (feC (.int 4))) (feC (.int 8)))) az) bU gG)))) (aT (gh (aj (gh (aj (feC (.str [119,111,114,100])) (aj (fw 1 1 jP (aj (ab 2) az)) (aj (df (gM az)) (aj (ab 2) az))))) (aj (feC (.int 1)) (aj (feC (.int 1)) az)))))) bw) (aB (bG 3 (fp2 (intD je) (fp2 (intD iA) (ab 1) (feC (.int 28))) (feC (.int 3)))) (aB (bG 4 (fp2 (intD je) (fp2 (intD iA) (ab 1) (feC (.int 84))) (feC (.int 3)))) (aT (gh (aj (gh (aj (feC (.str [112,108,97,105,110])) (aj (fw 0 3 bQ (aj (fp2 (intD je) (fp2 (intD iA) (ab 1) (feC (.int 4))) (feC (.int 7))) (aj (ab 3) (aj (ab 4) az)))) (aj (df (gM az)) (aj (feC (.str [])) az))))) (aj (feC (.int 1)) (aj (fp2 bC (fp2 bC (ab 3) (ab 4)) (feC (.int 1))) az)))))))))
def eR:List D→Option (D):=bz 5 ig
def gH:FE:=(fp2 ixD (ab 0) (feC (.int 1)))
def gI:FE:=(fp2 ixD (ab 0) (feC (.int 2)))
def gJ:FE:=(fp2 ixD (ab 0) (feC (.int 0)))
def ij:FS:=(aB (bG 2 (fp2 (intD je) (ab 1) (feC (.int 16)))) (aB (bG 3 (fp2 (intD iA) (ab 1) (feC (.int 16)))) (aB (bG 4 (bg 2 dC (aj (ab 2) (aj (ab 3) az)))) (aB (bG 5 (rC slD (ab 0) (j8 (fp1 maxD (aj (feC (.int 0)) (aj (fp2 (intD hJ) (fp1 i7 (ab 0)) (ab 4)) az)))) kX)) (aB (bG 6 (fp2 n0 (df (dM 1 [] (aQ 0) (ab 5) bU gH)) (feC (.int 99)))) (aB (bG 7 (fp2 bC (fp1 sV (df (dM 1 [] (aQ 0) (ab 5) bU gI))) (feC (.int 1)))) (aB (eJ (nN (ftB (fp2 (intD ltI) (ab 2) (feC (.int 8)))) (nN (ftB (fp2 (intD leI) (ab 4) (fp1 i7 (ab 0)))) (nN (ftB (fp2 (intD leI) (ab 6) (feC (.int 7)))) (ftB (fp2 (intD leI) (ab 7) (feC (.int 40))))))) (aB (bG 8 (bg 3 aY (aj (ab 2) (aj (df (dM 1 [] (aQ 0) (ab 5) bU gJ)) (aj (ab 3) az))))) (jD (fp2 xa (rC slD (ab 0) kX (j8 (fp2 (intD hJ) (fp1 i7 (ab 0)) (ab 4)))) (df (gM (aj (gh (aj (ab 8) (aj (fp2 bC (ab 6) (feC (.int 1))) (aj (ab 7) az)))) az)))))) bw) (jD (fp2 xa (ab 0) (df (gM (aj (bg 1 eR (aj (ab 3) az)) az))))))))))))
def gq:List D→Option (List D):=iQ 9 ij
def gK:FS:=(bG 1 (df (bg 2 gq (aj (ab 1) (aj (ab 2) az)))))
def gL:FE:=(fp2 ixD (ab 0) (feC (.int 0)))
def gr:FS:=(aB (bG 1 (df (gM az))) (aB (lS (aQ 2) (rC slD (ab 0) kX (j8 (feC (.int 40)))) gK) (aB (eJ (ftB (fp2 (eqF false) (ab 1) (df (gM az)))) (bG 1 (df (gM (aj (bg 1 eR (aj (feC (.int 0)) az)) az)))) bw) (aB (eJ (ftB (fp2 (eqF false) (fp1 i7 (ab 1)) (feC (.int 1)))) (aT (fp2 ixD (fp2 ixD (ab 1) (feC (.int 0))) (feC (.int 0)))) bw) (aT (bg 2 dB (aj (df (dM 1 [] (aQ 0) (ab 1) bU gL)) (aj (fp1 i7 (ab 1)) az))))))))
def fP:List D→Option (D):=bz 3 gr
def fE:FS:=(aB (eJ (ftB (fp2 (intD ltI) (ab 1) (fp1 i7 (ab 0)))) (aT (fp2 ixD (ab 0) (ab 1))) bw) (aT (feC (.int 0))))
def dE:List D→Option (D):=bz 2 fE
def iM:FS:=(aT (qB (fp1 (jF .int) (ab 0)) (vL (fp1 (jF .bool) (ab 0)))))
def gQ:List D→Option (D):=bz 1 iM
def gd:FS:=(eJ (nX (kM (ftB (bg 1 gQ (aj (ab 1) az)))) (ftB (fp2 (intD ltI) (ab 1) (feC (.int 0))))) (aT (feC (.bl false))) bw)
def gf:FS:=(eJ (nX (kM (ftB (fp1 (jF .str) (ab 3)))) (ftB (fp2 (eqF true) (fp1 i7 (ab 3)) (fp1 (aU 0) (ab 0))))) (aT (feC (.bl false))) bw)
def iN:FS:=(aB (lS (aQ 1) (df (gM (aj (fp1 (aU 0) (ab 0)) (aj (fp1 (aU 1) (ab 0)) (aj (fp1 (aU 2) (ab 0)) az))))) gd) (aB (bG 2 (df (bA 0 cv (ab 0) az))) (aB (eJ (nX (kM (ftB (fp1 (jF .list) (ab 2)))) (ftB (fp2 (eqF true) (fp1 i7 (ab 2)) (fp2 bC (fp2 bC (fp1 (aU 1) (ab 0)) (feC (.int 1))) (fp1 (aU 2) (ab 0)))))) (aT (feC (.bl false))) bw) (aB (lS (aQ 3) (ab 2) gf) (aT (feC (.bl true)))))))
def fS:List D→Option (D):=bz 4 iN
def mB:FS:=(aB (bG 5 (bA 1 ku (ab 1) (aj (fp2 (intD hJ) (fp1 (aU 2) (ab 1)) (ab 4)) az))) (eJ (nX (kM (ftB (fp1 (jF .str) (ab 5)))) (ftB (fp2 (eqF true) (ab 5) (fp2 ixD (ab 3) (fp2 (intD hJ) (fp2 (intD hJ) (fp1 i7 (ab 3)) (feC (.int 1))) (ab 4)))))) (aT (feC (.bl false))) bw))
def mD:FS:=(eJ (ftB (fp2 (eqF true) (bA 1 ku (ab 1) (aj (ab 4) az)) (fp2 gT (feC (.str [32])) (fp1 (aU 0) (ab 1))))) (aT (feC (.bl false))) bw)
def wt:FS:=(aB (bG 1 (fp2 ixD (bg 1 fP (aj (ab 0) az)) (feC (.int 1)))) (aB (eJ (nX (kM (ftB (fp1 (tI [0,1,2,3,4,5,6,7,8]) (ab 1)))) (kM (ftB (bg 1 fS (aj (ab 1) az))))) (aT (feC (.bl false))) bw) (aB (nO 2 (bA 0 cv (ab 1) az)) (aB (bG 3 (df (fp1 kW (kU 2)))) (aB (oR j9 (aQ 4) (aj (fp1 i7 (ab 3)) az) mB) (aB (bG 6 (fp2 (intD je) (bg 2 dE (aj (ab 0) (aj (feC (.int 0)) az))) (fp2 (intD yN) (feC (.int 10)) (feC (.int 8))))) (aB (lS (aQ 4) (df (gM (aj (fp2 bC (fp1 (aU 2) (ab 1)) (feC (.int 1))) (aj (fp2 (intD hJ) (fp1 oS (fp1 (aU 1) (ab 1))) (feC (.int 1))) (aj (fp2 bC (fp2 bC (fp1 (aU 2) (ab 1)) (feC (.int 1))) (ab 6)) (aj (fp2 (intD hJ) (fp2 (intD hJ) (fp1 oS (fp1 (aU 1) (ab 1))) (feC (.int 1))) (ab 6)) az)))))) mD) (aB (bG 7 (fw 1 1 jP (aj (fp2 bC (feC (.str [120])) (bg 1 cq (aj (ab 6) az))) az))) (aB (eJ (nX (ftB (fp2 (eqF true) (df (bA 0 cv (ab 7) az)) (df (gM (aj (fp2 bC (feC (.str [120])) (bg 1 cq (aj (ab 6) az))) az))))) (ftB (fp2 (eqF true) (kU 2) (ab 3)))) (aT (feC (.bl false))) bw) (aB (kl 2) (aT (qB (fp2 (eqF false) (df (bA 0 cv (ab 1) az)) (ab 3)) (bg 1 fS (aj (ab 1) az))))))))))))))
def tQ:List D→Option (D):=bz 8 wt
def blank (w:Nat):List Nat:=List.replicate w 32
theorem qP (w:Nat):(blank w).length=w:=by simp [blank]
theorem pC (w:Nat)(hw:w≤100000):gT (.str [32]) (.int (w:Int))=some (.str (blank w)):=by
 rw [sY _ _ ⟨by decide,by omega,by omega⟩]; simp [blank]
theorem zM (x w:Nat)(hw:w≤100000):gT (.str [x]) (.int (w:Int))=some (.str (List.replicate w x)):=by
 rw [sY _ _ ⟨by simp,by omega,by omega⟩]; simp
structure Sk (n:Nat)(o:D)(f:Int→List Nat)(u d w:Nat):Prop where
 f0:aU 0 o=some (.int (w:Nat))
 f1:aU 1 o=some (.int (u:Nat))
 f2:aU 2 o=some (.int (d:Nat))
 mr:∀ (R:fx) (k:Int),dW 1 (bT R) o [.int k]=R.aR [o,.int k]
 ms:dW 0 cv o []=b0 [o]
 inst:tI [0,1,2,3,4,5,6,7,8] o=some (.bl true)
 non:∀ b,iX b o=some (.bl b)
 row:∀ m,n≤m→∀ k:Int,(DN0 m).aR [o,.int k]=some (.str (f k))
 len:∀ k,(f k).length=w
 out:∀ k:Int,k < -(u:Int)∨(d:Int)<k→f k=blank w
 hw:w≤10000
 hl:u+d+1≤10000
theorem Sk.mono {n m:Nat}{o:D}{f:Int→List Nat}{u d w:Nat}(h:Sk n o f u d w)(hm:n≤m):Sk m o f u d w:={ h with row:=fun j hj k=>h.row j (by omega) k }
theorem dq {n m:Nat}{o:D}{f:Int→List Nat}{u d w:Nat}(h:Sk n o f u d w)(hm:n≤m)(k:Int):dW 1 (bT (DN0 m)) o [.int k]=some (.str (f k)):=by
 rw [h.mr,h.row m hm k]
def fIn (g:Int→List Nat)(u d w:Nat)(k:Int):List Nat:=if k < -(u:Int)∨(d:Int)<k then blank w else g k
theorem mE {n:Nat}{o:D}{u d w:Nat}(g:Int→List Nat)
  (f0:aU 0 o=some (.int (w:Nat))) (f1:aU 1 o=some (.int (u:Nat))) (f2:aU 2 o=some (.int (d:Nat)))
  (mr:∀ (R:fx) (k:Int),dW 1 (bT R) o [.int k]=R.aR [o,.int k]) (ms:dW 0 cv o []=b0 [o])
  (inst:tI [0,1,2,3,4,5,6,7,8] o=some (.bl true)) (non:∀ b,iX b o=some (.bl b)) (hw:w≤10000) (hl:u+d+1≤10000)
  (hg:∀ k:Int, -(u:Int)≤k→k≤(d:Int)→(g k).length=w)
  (h:∀ m,n≤m→∀ k:Int, -(u:Int)≤k→k≤(d:Int)→dW 1 (aP (DN0 m)) o [.int k]=some (.str (g k))):Sk (n+1) o (fIn g u d w) u d w:=by
 refine ⟨f0,f1,f2,mr,ms,inst,non,fun m hm k=>?_,fun k=>?_,fun k hk=>by unfold fIn; rw [if_pos hk],hw,hl⟩
 ·obtain ⟨m,rfl⟩:∃ j,m=j+1:=⟨m - 1,by omega⟩
  have mb:=pC w (by omega)
  show bz 2 (g9 (DN0 m)) _=_
  simp only [aD,g9,envOf,aW]
  by_cases h1:k < -(u:Int)
  ·have e:fIn g u d w k=blank w:=by unfold fIn; rw [if_pos (.inl h1)]
   rw [e]
   simp [f0,f1,f2,h1,mb]
  ·by_cases h2:(d:Int)<k
   ·have e:fIn g u d w k=blank w:=by unfold fIn; rw [if_pos (.inr h2)]
    rw [e]
    simp [f0,f1,f2,h1,h2,mb]
   ·have e:fIn g u d w k=g k:=by unfold fIn; rw [if_neg (by omega)]
    have e2:=h m (by omega) k (by omega) (by omega)
    rw [e]
    simp [f0,f1,f2,h1,h2,e2]
 ·unfold fIn
  split
  ·exact qP w
  ·exact hg k (by omega) (by omega)
theorem BD (u d:Nat)(hu:u+d≤1000000):sR [.int (-(u:Int)),.int ((d:Int)+1)]=some (cb (-(u:Int)) (u+d+1)):=by
 have e:((d:Int)+1 - -(u:Int)).toNat=u+d+1:=by omega
 have h:(-1000000000 < -(u:Int)∧-(u:Int)<1000000000)∧(-1000000000<(d:Int)+1∧(d:Int)+1<1000000000):=by omega
 simp only [sR]
 rw [if_pos ⟨h.2,h.1⟩,e]
def dt (f:Int→List Nat)(u d:Nat):List (List Nat):=(List.range (u+d+1)).map fun i=>f (-(u:Int)+(i:Nat))
theorem ng (f:Int→List Nat)(u d:Nat):(dt f u d).length=u+d+1:=by simp [dt]
theorem xO (f:Int→List Nat)(u d i:Nat)(h:i<u+d+1):(dt f u d)[i]?=some (f (-(u:Int)+(i:Nat))):=by
 unfold dt
 rw [List.getElem?_map,List.getElem?_range h]; rfl
theorem Sk.rows {n:Nat}{o:D}{f:Int→List Nat}{u d w:Nat}(h:Sk n o f u d w)(hn:n≤dG):b0 [o]=some ((dt f u d).map .str):=by
 have hl':=h.hl
 have hr:=BD u d (by omega)
 have hcm:=jG (tg:=aQ 0) (fe:=f9) (env:=[.no,.val o]) (fun x=>match x with | .int k=>.str (f k) | _=>.non) (cb (-(u:Int)) (u+d+1)) (by
  intro d' hd'
  obtain ⟨i,hi,rfl⟩:=List.mem_map.mp hd'
  have:=dq h hn (-(u:Int)+(i:Nat))
  exact ⟨_,rfl,by simp [f9,this]⟩)
 have hm:(cb (-(u:Int)) (u+d+1)).map (fun x=>match x with | .int k=>D.str (f k) | _=>.non)=(dt f u d).map .str:=by
  unfold cb dt
  rw [List.map_map,List.map_map]
  rfl
 rw [hm] at hcm
 have hlr:(cb (-(u:Int)) (u+d+1)).length≤1000000:=by unfold cb; simp; omega
 have hcap:∀ a:Slot,eD 1 [0] [a]=[.no,a]:=fun _=>rfl
 have f1:=h.f1
 have f2:=h.f2
 generalize (dt f u d).map D.str=RR at hcm ⊢
 simp only [b0,i4,gz,envOf]
 simp [f1,f2,hr,hlr,hcap,hcm]
theorem Sk.zN {n:Nat}{o:D}{f:Int→List Nat}{u d w:Nat}(h:Sk n o f u d w)(hn:n≤dG):dW 0 cv o []=some ((dt f u d).map .str):=h.ms.trans (h.rows hn)
def oSk (w u d:Nat):D:=.ob 0 [0,1,2] [.int (w:Nat),.int (u:Nat),.int (d:Nat)]
def oWd (z:List Nat):D:=.ob 1 [0,1,2,3] [.int (z.length:Nat),.int ((0:Nat):Int),.int ((0:Nat):Int),.str z]
theorem jQ (c:Nat)(w u d:Int):bQ c [.int w,.int u,.int d]=some ([0,1,2],[.int w,.int u,.int d]):=by
 simp [bQ,eE,eI,envOf]
theorem CT (z:List Nat)(hz:z.length≤1000000):jP 1 [.str z]=some ([0,1,2,3],[.int (z.length:Nat),.int 0,.int 0,.str z]):=by
 simp [jP,eE,iE,envOf,jQ,hz]
theorem zO (w u d:Nat)(hw:w≤10000)(hl:u+d+1≤10000):Sk 1 (oSk w u d) (fIn (fun _=>blank w) u d w) u d w:=by
 have mb:=pC w (by omega)
 exact mE _ (by simp [oSk]) (by simp [oSk]) (by simp [oSk]) (fun R k=>by simp [oSk,bT]) (by simp [oSk,cv]) (by simp [oSk]) (fun b=>by cases b <;> rfl) hw hl (fun k _ _=>qP w) fun m hm k _ _=>by
  simp [oSk,aP,cK,aD,dI,envOf,aW,mb]
theorem wu (z:List Nat)(hz:z.length≤10000):Sk 1 (oWd z) (fIn (fun _=>z) 0 0 z.length) 0 0 z.length :=
 mE _ (by simp [oWd]) (by simp [oWd]) (by simp [oWd]) (fun R k=>by simp [oWd,bT]) (by simp [oWd,cv]) (by simp [oWd]) (fun b=>by cases b <;> rfl) hz (by decide) (fun k _ _=>rfl) fun m hm k _ _=>by
  simp [oWd,aP,dg,aD,eM,envOf]
def oRt (w u d:Nat)(o:D):D:=.ob 4 [0,1,2,8] [.int (w:Nat),.int (u:Nat),.int (d:Nat),o]
def gRt (f:Int→List Nat)(u w:Nat)(k:Int):List Nat:=if k=-((u:Int)+1) then [32,32]++List.replicate w 95 else (if k=0 then [86,124] else [32,124])++f k
theorem Hc {n:Nat}{o:D}{f:Int→List Nat}{u d w:Nat}(h:Sk n o f u d w):pA 4 [o]=some ([0,1,2,8],[.int ((w+2:Nat):Int),.int ((u+1:Nat):Int),.int (d:Nat),o]):=by
 have f0:=h.f0
 have f1:=h.f1
 have f2:=h.f2
 simp [pA,eE,iK,envOf,f0,f1,f2,jQ]
theorem BE {n:Nat}{o:D}{f:Int→List Nat}{u d w:Nat}(h:Sk n o f u d w)(hw:w+2≤10000)(hl:u+d+2≤10000):Sk (n+2) (oRt (w+2) (u+1) d o) (fIn (gRt f u w) (u+1) d (w+2)) (u+1) d (w+2):=by
 refine mE (n:=n+1) _ (by simp [oRt]) (by simp [oRt]) (by simp [oRt]) (fun R k=>by simp [oRt,bT]) (by simp [oRt,cv]) (by simp [oRt]) (fun b=>by cases b <;> rfl) hw (by omega) (fun k _ _=>?_) fun m hm k h1 h2=>?_
 ·have:=h.len k
  unfold gRt
  split
  ·simp
  ·split <;> simp <;> omega
 ·obtain ⟨m,rfl⟩:∃ j,m=j+1:=⟨m - 1,by omega⟩
  have f0:=h.f0
  have mu:=zM 95 w (by omega)
  have m2:gT (.str [32]) (.int 2)=some (.str [32,32]):=rfl
  have mr:=dq h (show n≤m by omega) k
  have hwr:=h.len k
  have hwi:=h.hw
  have hme:dW 1 (aP (DN0 (m+1))) (oRt (w+2) (u+1) d o) [.int k]=(DN0 (m+1)).cF [oRt (w+2) (u+1) d o,.int k]:=by simp [oRt,aP]
  rw [hme]
  show bz 2 (dj (DN0 m)) [.ob 4 [0,1,2,8] [.int ((w+2:Nat):Int),.int ((u+1:Nat):Int),.int (d:Nat),o],.int k]=_
  simp only [aD,dj,envOf,aW]
  unfold gRt
  have lw:2+w≤1000000:=by omega
  have l2:2+(f k).length≤1000000:=by omega
  by_cases hk:k=-((u:Int)+1)
  ·have kb:(k == -((u:Int)+1))=true:=by simpa using hk
   rw [if_pos hk]
   simp [kb,f0,mu,m2,lw]
  ·have kb:(k == -((u:Int)+1))=false:=by simpa using hk
   rw [if_neg hk]
   by_cases k0:k=0
   ·subst k0
    simp [kb,mr,l2]
   ·have kz:(k == 0)=false:=by simpa using k0
    rw [if_neg k0]
    simp [kb,kz,mr,l2]
def oLd (w u d x:Nat)(o:D):D:=.ob 5 [0,1,2,9,8] [.int (w:Nat),.int (u:Nat),.int (d:Nat),.str [x],o]
def gLd (f:Int→List Nat)(x:Nat)(k:Int):List Nat:=(if k=0 then [x,32] else [32,32])++f k
theorem Hd {n:Nat}{o:D}{f:Int→List Nat}{u d w:Nat}(x:Nat)(h:Sk n o f u d w):tO 5 [.str [x],o]=some ([0,1,2,9,8],[.int ((w+2:Nat):Int),.int (u:Nat),.int (d:Nat),.str [x],o]):=by
 have f0:=h.f0
 have f1:=h.f1
 have f2:=h.f2
 simp [tO,eE,ji,envOf,f0,f1,f2,jQ]
theorem EG {n:Nat}{o:D}{f:Int→List Nat}{u d w:Nat}(x:Nat)(h:Sk n o f u d w)(hw:w+2≤10000):Sk (n+2) (oLd (w+2) u d x o) (fIn (gLd f x) u d (w+2)) u d (w+2):=by
 refine mE (n:=n+1) _ (by simp [oLd]) (by simp [oLd]) (by simp [oLd]) (fun R k=>by simp [oLd,bT]) (by simp [oLd,cv]) (by simp [oLd]) (fun b=>by cases b <;> rfl) hw h.hl (fun k _ _=>?_) fun m hm k h1 h2=>?_
 ·have:=h.len k
  unfold gLd
  split <;> simp <;> omega
 ·obtain ⟨m,rfl⟩:∃ j,m=j+1:=⟨m - 1,by omega⟩
  have mr:=dq h (show n≤m by omega) k
  have hwr:=h.len k
  have hwi:=h.hw
  have hme:dW 1 (aP (DN0 (m+1))) (oLd (w+2) u d x o) [.int k]=(DN0 (m+1)).d0 [oLd (w+2) u d x o,.int k]:=by simp [oLd,aP]
  rw [hme]
  show bz 2 (dO (DN0 m)) [.ob 5 [0,1,2,9,8] [.int ((w+2:Nat):Int),.int (u:Nat),.int (d:Nat),.str [x],o],.int k]=_
  simp only [aD,dO,envOf,aW]
  unfold gLd
  have l2:2+(f k).length≤1000000:=by omega
  by_cases k0:k=0
  ·subst k0
   simp [mr,l2]
  ·have kz:(k == 0)=false:=by simpa using k0
   rw [if_neg k0]
   simp [kz,mr,l2]
def oHe (w u d:Nat)(o:D):D:=.ob 7 [0,1,2,8] [.int (w:Nat),.int (u:Nat),.int (d:Nat),o]
def gHe (f:Int→List Nat)(k:Int):List Nat:=if k=0 then [40]++f k++[41] else if k<0 then [47]++f k++[92] else [92]++f k++[47]
theorem He {n:Nat}{o:D}{f:Int→List Nat}{u d w:Nat}(h:Sk n o f u d w):pB 7 [o]=some ([0,1,2,8],[.int ((w+2:Nat):Int),.int (u:Nat),.int (d:Nat),o]):=by
 have f0:=h.f0
 have f1:=h.f1
 have f2:=h.f2
 simp [pB,eE,iL,envOf,f0,f1,f2,jQ]
theorem BF {n:Nat}{o:D}{f:Int→List Nat}{u d w:Nat}(h:Sk n o f u d w)(hw:w+2≤10000):Sk (n+2) (oHe (w+2) u d o) (fIn (gHe f) u d (w+2)) u d (w+2):=by
 refine mE (n:=n+1) _ (by simp [oHe]) (by simp [oHe]) (by simp [oHe]) (fun R k=>by simp [oHe,bT]) (by simp [oHe,cv]) (by simp [oHe]) (fun b=>by cases b <;> rfl) hw h.hl (fun k _ _=>?_) fun m hm k h1 h2=>?_
 ·have:=h.len k
  unfold gHe
  split
  ·simp; omega
  ·split <;> simp <;> omega
 ·obtain ⟨m,rfl⟩:∃ j,m=j+1:=⟨m - 1,by omega⟩
  have mr:=dq h (show n≤m by omega) k
  have hwr:=h.len k
  have hwi:=h.hw
  have hme:dW 1 (aP (DN0 (m+1))) (oHe (w+2) u d o) [.int k]=(DN0 (m+1)).cH [oHe (w+2) u d o,.int k]:=by simp [oHe,aP]
  rw [hme]
  show bz 2 (dk (DN0 m)) [.ob 7 [0,1,2,8] [.int ((w+2:Nat):Int),.int (u:Nat),.int (d:Nat),o],.int k]=_
  simp only [aD,dk,envOf]
  unfold gHe
  have l1:1+(f k).length≤1000000:=by omega
  have l2:(f k).length+1+1≤1000000:=by omega
  by_cases k0:k=0
  ·subst k0
   simp [mr,l1,l2]
  ·have kz:(k == 0)=false:=by simpa using k0
   rw [if_neg k0]
   by_cases kn:k<0
   ·rw [if_pos kn]
    simp [kz,kn,mr,l1,l2]
   ·rw [if_neg kn]
    simp [kz,kn,mr,l1,l2]
def qQ (W:Nat)(r:List Nat):List Nat:=blank ((W - r.length) / 2)++r++blank (W - (W - r.length) / 2 - r.length)
theorem qR (W:Nat)(r:List Nat)(h:r.length≤W):(qQ W r).length=W:=by
 unfold qQ blank; simp; omega
theorem BG (a W:Nat)(h:a≤W):j0 [.int (a:Nat),.int (W:Nat)]=some (.int (((W - a) / 2:Nat):Int)):=by
 have f:=f7 ((W:Int) - (a:Int)) 2 (by decide)
 have e:((W:Int) - (a:Int)) / 2=(((W - a) / 2:Nat):Int):=by omega
 rw [e] at f
 simp [j0,aD,kq,envOf,f]
theorem wx (r:List Nat)(W:Nat)(h:r.length≤W)(hW:W≤10000):n8 [.str r,.int (W:Nat)]=some (.str (qQ W r)):=by
 have hl:=BG r.length W h
 have mb:=pC ((W - r.length) / 2) (by omega)
 have h1:r.length≤1000000:=by omega
 have hb:(blank ((W - r.length) / 2)).length=(W - r.length) / 2:=by simp [blank]
 have h2:(W - r.length) / 2+r.length≤1000000:=by omega
 have h3:-1000000≤(W:Int)∧(W:Int)≤1000000:=by omega
 have h4:W - ((W - r.length) / 2+r.length)=W - (W - r.length) / 2 - r.length:=by omega
 unfold qQ
 generalize (W - r.length) / 2=l at *
 simp only [n8,aD,rQ,envOf,aW]
 simp [h1,hl,mb,hb,h2,h3,h4]
 rfl
def oOv (W p q:Nat)(a b:D):D:=.ob 3 [0,1,2,6,7] [.int (W:Nat),.int (p:Nat),.int (q:Nat),a,b]
theorem j3 {n:Nat}{o:D}{f:Int→List Nat}{u d w:Nat}(h:Sk n o f u d w):dn [o]=some (.int ((u+d+1:Nat):Int)):=by
 have f1:=h.f1
 have f2:=h.f2
 have e:(u:Int)+1+(d:Int)=((u+d+1:Nat):Int):=by omega
 simp [dn,aD,iI,envOf,f1,f2]
 omega
theorem EH (a b:Nat):bC (.int (if a<b then (b:Int) else (a:Int))) (.int 2)=some (.int ((max a b+2:Nat):Int)):=by
 have:(if a<b then (b:Int) else (a:Int))+2=((max a b+2:Nat):Int):=by split <;> omega
 rw [nP,this]
section
variable {n:Nat}{o a b S1 S2:D}{f fa fb f1 f2:Int→List Nat}{u d w ua da wa ub db wb v1 e1 y1 v2 e2 y2:Nat}
theorem Hf (ha:Sk n a fa ua da wa)(hb:Sk n b fb ub db wb):pq 3 [a,b]=some ([0,1,2,6,7],[.int ((max wa wb+2:Nat):Int),.int ((ua+da+1:Nat):Int),.int ((ub+db+1:Nat):Int),a,b]):=by
 have f0:=ha.f0
 have g0:=hb.f0
 have h1:=j3 ha
 have h2:=j3 hb
 have mx:=EH wa wb
 generalize max wa wb+2=W at *
 generalize ua+da+1=A at *
 generalize ub+db+1=B at *
 simp [-nP,pq,eE,iJ,envOf,f0,g0,mx,h1,h2,jQ]
def gOv (fa fb:Int→List Nat)(W da ub:Nat)(k:Int):List Nat:=if k=0 then List.replicate W 45 else if k<0 then qQ W (fa (k+1+(da:Int))) else qQ W (fb (k - 1 - (ub:Int)))
theorem BH (ha:Sk n a fa ua da wa)(hb:Sk n b fb ub db wb)(hW:max wa wb+2≤10000)(hl:ua+da+1+(ub+db+1)+1≤10000):Sk (n+2) (oOv (max wa wb+2) (ua+da+1) (ub+db+1) a b) (fIn (gOv fa fb (max wa wb+2) da ub) (ua+da+1) (ub+db+1) (max wa wb+2)) (ua+da+1) (ub+db+1) (max wa wb+2):=by
 obtain ⟨W,hWe⟩:∃ W,W=max wa wb+2:=⟨_,rfl⟩
 have hwa:wa≤W:=by omega
 have hwb:wb≤W:=by omega
 rw [← hWe] at hW ⊢
 refine mE (n:=n+1) _ (by simp [oOv]) (by simp [oOv]) (by simp [oOv]) (fun R k=>by simp [oOv,bT]) (by simp [oOv,cv]) (by simp [oOv]) (fun b=>by cases b <;> rfl) hW hl (fun k _ _=>?_) fun m hm k h1 h2=>?_
 ·unfold gOv
  have l1:=ha.len (k+1+(da:Int))
  have l2:=hb.len (k - 1 - (ub:Int))
  split
  ·simp
  ·split
   ·exact qR _ _ (by omega)
   ·exact qR _ _ (by omega)
 ·obtain ⟨m,rfl⟩:∃ j,m=j+1:=⟨m - 1,by omega⟩
  have fd:=ha.f2
  have fu:=hb.f1
  have mr:=dq ha (show n≤m by omega) (k+1+(da:Int))
  have ms:=dq hb (show n≤m by omega) (k - 1 - (ub:Int))
  have l1:=ha.len (k+1+(da:Int))
  have l2:=hb.len (k - 1 - (ub:Int))
  have hme:dW 1 (aP (DN0 (m+1))) (oOv W (ua+da+1) (ub+db+1) a b) [.int k]=(DN0 (m+1)).cE [oOv W (ua+da+1) (ub+db+1) a b,.int k]:=by simp [oOv,aP]
  rw [hme]
  show bz 2 (di (DN0 m)) _=_
  unfold gOv oOv
  simp only [aD,di,envOf]
  by_cases k0:k=0
  ·subst k0
   have mu:=zM 45 W (by omega)
   simp [mu]
  ·have kz:(k == 0)=false:=by simpa using k0
   rw [if_neg k0]
   by_cases kn:k<0
   ·have am:=wx (fa (k+1+(da:Int))) W (by omega) hW
    rw [if_pos kn]
    simp [kz,kn,fd,mr,am]
   ·have am:=wx (fb (k - 1 - (ub:Int))) W (by omega) hW
    rw [if_neg kn]
    simp [kz,kn,fu,ms,am]
structure Mq (n:Nat)(S:D)(f:Int→List Nat)(v e y h:Nat):Prop where
 or:(S=.non∧h=0∧y=0)∨(h=v+e+1∧Sk n S f v e y)
variable {h1 h2:Nat}
theorem zP (m1:Mq n S1 f1 v1 e1 y1 h1)(m2:Mq n S2 f2 v2 e2 y2 h2):∃ L:List D,bf (aQ 0) cu dQ [.no] [S1,S2]=some L∧L.length≤1000000∧∃ L2,bf (aQ 0) bU dR [.no] L=some L2∧n0 (.lst L2) (.int 0)=some (.int ((max y1 y2:Nat):Int)):=by
 have tn:∀ x:D,iX true x=some (.bl true)→cu [.val x]=some true:=fun x hx=>by simp [cu,hx]
 have fn:cu [.val .non]=some false:=by simp [cu]
 have ev:∀ x:D,dQ [.val x]=some x:=fun x=>by simp [dQ]
 have ew:∀ {x:D} {i:Int},aU 0 x=some (.int i)→dR [.val x]=some (.int i):=fun hx=>by simp [dR,hx]
 rcases m1.or with ⟨rfl,_,rfl⟩ | ⟨_,g1⟩
 ·rcases m2.or with ⟨rfl,_,rfl⟩ | ⟨_,g2⟩
  ·exact ⟨[],kh (by simp) fn (kh (by simp) fn rfl),by simp,[],rfl,rfl⟩
  ·refine ⟨[S2],kh (by simp) fn (bP (by simp) (tn _ (g2.non true)) (ev _) rfl),by simp,[.int (y2:Nat)],bP (by simp) rfl (ew g2.f0) rfl, ?_⟩
   rw [Nat.zero_max]; rfl
 ·rcases m2.or with ⟨rfl,_,rfl⟩ | ⟨_,g2⟩
  ·refine ⟨[S1],bP (by simp) (tn _ (g1.non true)) (ev _) (kh (by simp) fn rfl),by simp,[.int (y1:Nat)],bP (by simp) rfl (ew g1.f0) rfl, ?_⟩
   rw [Nat.max_zero]; rfl
  ·refine ⟨[S1,S2],bP (by simp) (tn _ (g1.non true)) (ev _) (bP (by simp) (tn _ (g2.non true)) (ev _) rfl),by simp,[.int (y1:Nat),.int (y2:Nat)],bP (by simp) rfl (ew g1.f0) (bP (by simp) rfl (ew g2.f0) rfl), ?_⟩
   show some (D.int (iu (y1:Int) [(y2:Int)]))=_
   have:iu (y1:Int) [(y2:Int)]=((max y1 y2:Nat):Int):=by
    simp only [iu]; split <;> omega
   rw [this]
def oMa (W U V:Nat)(o S1 S2:D):D:=.ob 6 [0,1,2,10,11,12] [.int (W:Nat),.int (U:Nat),.int (V:Nat),o,S1,S2]
theorem zQ (h:Sk n o f u d w)(m1:Mq n S1 f1 v1 e1 y1 h1)(m2:Mq n S2 f2 v2 e2 y2 h2):fC 6 [o,S1,S2]=some ([0,1,2,10,11,12],[.int ((w+max y1 y2:Nat):Int),.int ((u+h1:Nat):Int),.int ((d+h2:Nat):Int),o,S1,S2]):=by
 obtain ⟨L,hL,hLl,L2,hL2,hm⟩:=zP m1 m2
 have f0:=h.f0
 have f1:=h.f1
 have f2:=h.f2
 have hcap0:∀ l,eD 1 [] l=[.no]:=fun _=>rfl
 generalize max y1 y2=Y at *
 rcases m1.or with ⟨rfl,rfl,_⟩ | ⟨q1,g1⟩
 ·rcases m2.or with ⟨rfl,rfl,_⟩ | ⟨q2,g2⟩
  ·simp [fC,eE,dD,envOf,hcap0,hL,hLl,hL2,hm,f0,f1,f2,jQ]
  ·have i2:=g2.non false
   have t2:=j3 g2
   rw [← q2] at t2
   simp [fC,eE,dD,envOf,hcap0,hL,hLl,hL2,hm,f0,f1,f2,jQ,i2,t2]
 ·have i1:=g1.non false
  have t1:=j3 g1
  rw [← q1] at t1
  rcases m2.or with ⟨rfl,rfl,_⟩ | ⟨q2,g2⟩
  ·simp [fC,eE,dD,envOf,hcap0,hL,hLl,hL2,hm,f0,f1,f2,jQ,i1,t1]
  ·have i2:=g2.non false
   have t2:=j3 g2
   rw [← q2] at t2
   simp [fC,eE,dD,envOf,hcap0,hL,hLl,hL2,hm,f0,f1,f2,jQ,i1,t1,i2,t2]
def pad (W:Nat)(r:List Nat):List Nat:=r++blank (W - r.length)
theorem BI (W:Nat)(r:List Nat)(h:r.length≤W):(pad W r).length=W:=by unfold pad blank; simp; omega
theorem Hg (h:Sk n o f u d w)(g:Sk n S1 f1 v1 e1 y1)(W U V:Nat)(S2:D):dW 0 eH (oMa W U V o S1 S2) []=some (.int (-(u:Int) - 1 - (e1:Int))):=by
 have f1:=h.f1
 have f2:=g.f2
 have:cL [oMa W U V o S1 S2]=some (.int (-(u:Int) - 1 - (e1:Int))):=by
  simp [cL,aD,dJ,envOf,oMa,f1,f2]
 unfold oMa at this ⊢
 simp [eH,this]
theorem Hh (h:Sk n o f u d w)(g:Sk n S2 f2 v2 e2 y2)(W U V:Nat)(S1:D):dW 0 dN (oMa W U V o S1 S2) []=some (.int ((d:Int)+1+(v2:Int))):=by
 have f1:=g.f1
 have f2:=h.f2
 have:cz [oMa W U V o S1 S2]=some (.int ((d:Int)+1+(v2:Int))):=by
  simp [cz,aD,dh,envOf,oMa,f1,f2]
 unfold oMa at this ⊢
 simp [dN,this]
def gMa (f f1 f2:Int→List Nat)(W u d e1 v2:Nat)(k:Int):List Nat:=pad W (f k++(if k < -(u:Int) then f1 (k - (-(u:Int) - 1 - (e1:Int))) else if (d:Int)<k then f2 (k - ((d:Int)+1+(v2:Int))) else []))
theorem nh (h:Sk n o f u d w)(m1:Mq n S1 f1 v1 e1 y1 h1)(m2:Mq n S2 f2 v2 e2 y2 h2)(hW:w+max y1 y2≤10000)(hl:u+h1+(d+h2)+1≤10000):Sk (n+3) (oMa (w+max y1 y2) (u+h1) (d+h2) o S1 S2) (fIn (gMa f f1 f2 (w+max y1 y2) u d e1 v2) (u+h1) (d+h2) (w+max y1 y2)) (u+h1) (d+h2) (w+max y1 y2):=by
 obtain ⟨W,hWe⟩:∃ W,W=w+max y1 y2:=⟨_,rfl⟩
 have hy1:w+y1≤W:=by omega
 have hy2:w+y2≤W:=by omega
 rw [← hWe] at hW ⊢
 have g1:∀ k:Int, -((u+h1:Nat):Int)≤k→k < -(u:Int)→Sk n S1 f1 v1 e1 y1:=fun k hk hk2=>by
  rcases m1.or with ⟨_,rfl,_⟩ | ⟨_,g⟩
  ·omega
  ·exact g
 have g2:∀ k:Int,k≤((d+h2:Nat):Int)→(d:Int)<k→Sk n S2 f2 v2 e2 y2:=fun k hk hk2=>by
  rcases m2.or with ⟨_,rfl,_⟩ | ⟨_,g⟩
  ·omega
  ·exact g
 refine mE (n:=n+2) _ (by simp [oMa]) (by simp [oMa]) (by simp [oMa]) (fun R k=>by simp [oMa,bT]) (by simp [oMa,cv]) (by simp [oMa]) (fun b=>by cases b <;> rfl) hW hl (fun k k1 k2=>?_) fun m hm k k1 k2=>?_
 ·have hfl:=h.len k
  unfold gMa
  refine BI _ _ ?_
  rw [List.length_append,hfl]
  split
  ·rename_i z
   rw [(g1 k k1 z).len]; exact hy1
  ·split
   ·rename_i z
    rw [(g2 k k2 z).len]; exact hy2
   ·simp; omega
 ·obtain ⟨m,rfl⟩:∃ j,m=j+1+1:=⟨m - 2,by omega⟩
  have mr:=dq h (show n≤m+1 by omega) k
  have q1:=h.f1
  have q2:=h.f2
  have hfl:=h.len k
  have hW3:-1000000≤(W:Int)∧(W:Int)≤1000000:=by omega
  have hwh:=h.hw
  have hme:dW 1 (aP (DN0 (m+1+1))) (oMa W (u+h1) (d+h2) o S1 S2) [.int k]=(DN0 (m+1+1)).bX [oMa W (u+h1) (d+h2) o S1 S2,.int k]:=by simp [oMa,aP]
  rw [hme]
  generalize u+h1=U at *
  generalize d+h2=V at *
  have key:∀ z2:List Nat,(DN0 (m+1)).cG [oMa W U V o S1 S2,.int k]=some (.str z2)→z2.length≤100000→bz 2 (bZ (DN0 (m+1))) [oMa W U V o S1 S2,.int k]=some (.str (pad W (f k++z2))):=by
   intro z2 e2 e3
   have e4:(f k).length+z2.length≤1000000:=by omega
   unfold oMa at e2 ⊢
   simp only [aD,bZ,envOf]
   simp [mr,iD,e2,e4,hW3,pad,blank]
  show bz 2 (bZ (DN0 (m+1))) _=_
  unfold gMa
  refine key _ ?_ ?_
  ·show bz 2 (bY (DN0 m)) _=_
   by_cases z1:k < -(u:Int)
   ·have g:=g1 k k1 z1
    have rl:=Hg h g W U V S2
    have mq:=dq g (show n≤m by omega) (k - (-(u:Int) - 1 - (e1:Int)))
    rw [if_pos z1]
    unfold oMa at rl ⊢
    simp only [aD,bY,envOf]
    simp [-jN,q1,z1,rl,mq]
   ·rw [if_neg z1]
    by_cases z2:(d:Int)<k
    ·have g:=g2 k k2 z2
     have ll:=Hh h g W U V S1
     have mq:=dq g (show n≤m by omega) (k - ((d:Int)+1+(v2:Int)))
     rw [if_pos z2]
     unfold oMa at ll ⊢
     simp only [aD,bY,envOf]
     simp [-jN,q1,q2,z1,z2,ll,mq]
    ·rw [if_neg z2]
     unfold oMa
     simp only [aD,bY,envOf]
     simp [q1,q2,z1,z2]
  ·split
   ·rename_i z
    have g:=g1 k k1 z
    rw [g.len]; have:=g.hw; omega
   ·split
    ·rename_i z
     have g:=g2 k k2 z
     rw [g.len]; have:=g.hw; omega
    ·simp
end
structure Pz where
 o:D
 f:Int→List Nat
 u:Nat
 d:Nat
 w:Nat
structure Pz.Ok (N:Nat)(p:Pz):Prop where
 sk:Sk N p.o p.f p.u p.d p.w
 hl:p.u+p.d+1≤200
 hw:p.w≤600
theorem Pz.Ok.mono {N M:Nat}{p:Pz}(h:p.Ok N)(hm:N≤M):p.Ok M:=⟨h.sk.mono hm,h.hl,h.hw⟩
def ik:List Nat→Nat
 | []=>0
 | a::r=>max a (ik r)
theorem oy:∀ (l:List Nat) (a:Nat),a∈l→a≤ik l
 | b::r,a,h=>by
  rcases List.mem_cons.mp h with rfl | h
  ·simp only [ik]; omega
  ·have:=oy r a h; simp only [ik]; omega
theorem jR:∀ (a:Nat) (r:List Nat),ik (a::r)∈a::r
 | a,[]=>by simp [ik]
 | a,b::r=>by
  have:=jR b r
  show max a (ik (b::r))∈_
  by_cases h:a≤ik (b::r)
  ·rw [Nat.max_eq_right h]; exact List.mem_cons_of_mem _ this
  ·rw [Nat.max_eq_left (by omega)]; exact List.mem_cons_self
theorem rS (l:List Nat)(m:Nat)(h:∀ a∈l,a≤m):ik l≤m:=by
 cases l with
 | nil=>exact Nat.zero_le _
 | cons a r=>exact h _ (jR a r)
theorem i5 (a:Nat)(r:List Nat):gX (.lst ((a::r).map fun i=>.int (i:Nat)))=some (.int (ik (a::r):Nat)):=by
 have:=zp ((a::r).map fun i:Nat=>(i:Int)) (ik (a::r):Nat) (List.mem_map.mpr ⟨_,jR a r,rfl⟩) (fun i hi=>by
  obtain ⟨j,hj,rfl⟩:=List.mem_map.mp hi
  have:=oy _ j hj
  omega)
 rw [List.map_map] at this
 exact this
theorem pE (l:List Nat)(h:∀ a∈l,a≤1000)(hl:l.length≤1000):sV (.lst (l.map fun i=>.int (i:Nat)))=some (.int (l.sum:Nat)):=by
 have e:(l.map fun i:Nat=>D.int (i:Nat))=(l.map fun i:Nat=>(i:Int)).map D.int:=by rw [List.map_map]; rfl
 rw [e]
 show (intsOf _).bind _=_
 rw [lj]
 show (if _ then _ else _)=_
 rw [if_pos]
 ·congr 2
  clear h hl e
  induction l with
  | nil=>rfl
  | cons a r ih=>rw [List.map_cons,List.sum_cons,List.sum_cons,ih]; omega
 ·refine ⟨by simp; omega, ?_⟩
  rw [List.all_eq_true]
  intro i hi
  obtain ⟨j,hj,rfl⟩:=List.mem_map.mp hi
  have:=h j hj
  exact decide_eq_true (by omega)
def hZ (ps:List Pz):Nat:=ik (ps.map Pz.u)
def kC (ps:List Pz):Nat:=ik (ps.map Pz.d)
section
variable {N:Nat}
theorem nj {fe:FE}{env:aN}(g:Pz→D)(h:∀ p:Pz,p.Ok N→∃ e,aQ 0 p.o env=some e∧fe e=some (g p)):∀ ps:List Pz,(∀ p∈ps,p.Ok N)→bf (aQ 0) bU fe env (ps.map Pz.o)=some (ps.map g)
 | [],_=>rfl
 | p::ps,ok=>by
  obtain ⟨e,h1,h2⟩:=h p (ok p List.mem_cons_self)
  exact bP h1 rfl h2 (nj g h ps fun q hq=>ok q (List.mem_cons_of_mem _ hq))
theorem CU (ps:List Pz)(ok:∀ q∈ps,q.Ok N):hZ ps≤200:=rS _ _ fun a ha=>by
 obtain ⟨q,hq,rfl⟩:=List.mem_map.mp ha
 have:=(ok q hq).hl; omega
theorem CV (ps:List Pz)(ok:∀ q∈ps,q.Ok N):kC ps≤200:=rS _ _ fun a ha=>by
 obtain ⟨q,hq,rfl⟩:=List.mem_map.mp ha
 have:=(ok q hq).hl; omega
def gap (k:Int)(x:Nat):List Nat:=[32,if k=0 then x else 32,32]
def jt (k:Int):List Nat→List Pz→List (List Nat)
 | x::xs,p::ps=>gap k x::p.f k::jt k xs ps
 | _,_=>[]
def wOf (ps:List Pz):Nat:=(ps.map fun p=>3+p.w).sum
def wy (p:Pz)(ps:List Pz)(xs:List Nat)(k:Int):List Nat:=(p.f k::jt k xs ps).flatten
theorem w_sum:∀ ps:List Pz,(ps.map Pz.w).sum+3 * ps.length=wOf ps
 | []=>rfl
 | p::ps=>by
  have:=w_sum ps
  simp only [wOf,List.map_cons,List.sum_cons,List.length_cons] at this ⊢
  omega
theorem pF (k:Int):∀ (xs:List Nat) (ps:List Pz),xs.length=ps.length→(∀ p∈ps,p.Ok N)→(jt k xs ps).flatten.length=wOf ps
 | [],[],_,_=>rfl
 | x::xs,p::ps,h,ok=>by
  have ih:=pF k xs ps (by simpa using h) fun q hq=>ok q (List.mem_cons_of_mem _ hq)
  have hp:=(ok p List.mem_cons_self).sk.len k
  simp only [jt,List.flatten_cons,List.length_append,ih,hp,gap,wOf,List.map_cons,List.sum_cons] at *
  simp; omega
 | [],_::_,h,_=>by simp at h
 | _::_,[],h,_=>by simp at h
def oCh (w u d:Nat)(os:List D)(xs:List Nat):D:=.ob 2 [0,1,2,4,5] [.int (w:Nat),.int (u:Nat),.int (d:Nat),.lst os,.str xs]
theorem Hi (p:Pz)(ps:List Pz)(xs:List Nat)(ok:∀ q∈p::ps,q.Ok N)(hl:ps.length≤100):mz 2 [.lst ((p::ps).map Pz.o),.str xs]=some ([0,1,2,4,5],[.int ((p.w+wOf ps:Nat):Int),.int (hZ (p::ps):Nat),.int (kC (p::ps):Nat),.lst ((p::ps).map Pz.o),.str xs]):=by
 have c0:=nj (fe:=fH) (env:=[.no]) (fun p=>.int (p.w:Nat)) (fun p hp=>⟨[.val p.o],rfl,by simp [fH,hp.sk.f0]⟩) (p::ps) ok
 have c1:=nj (fe:=fI) (env:=[.no]) (fun p=>.int (p.u:Nat)) (fun p hp=>⟨[.val p.o],rfl,by simp [fI,hp.sk.f1]⟩) (p::ps) ok
 have c2:=nj (fe:=fJ) (env:=[.no]) (fun p=>.int (p.d:Nat)) (fun p hp=>⟨[.val p.o],rfl,by simp [fJ,hp.sk.f2]⟩) (p::ps) ok
 have m0:=pE (p.w::ps.map Pz.w) (fun a ha=>by
  rcases List.mem_cons.mp ha with rfl | ha
  ·have:=(ok p List.mem_cons_self).hw; omega
  ·obtain ⟨q,hq,rfl⟩:=List.mem_map.mp ha
   have:=(ok q (List.mem_cons_of_mem _ hq)).hw; omega) (by simp; omega)
 have m1:=i5 p.u (ps.map Pz.u)
 have m2:=i5 p.d (ps.map Pz.d)
 have e0:((p.w::ps.map Pz.w).map fun i:Nat=>D.int (i:Nat))=(p::ps).map fun p=>.int (p.w:Nat):=by simp
 have e1:((p.u::ps.map Pz.u).map fun i:Nat=>D.int (i:Nat))=(p::ps).map fun p=>.int (p.u:Nat):=by simp
 have e2:((p.d::ps.map Pz.d).map fun i:Nat=>D.int (i:Nat))=(p::ps).map fun p=>.int (p.d:Nat):=by simp
 rw [e0] at m0
 rw [e1] at m1
 rw [e2] at m2
 change gX _=some (.int (hZ (p::ps):Nat)) at m1
 change gX _=some (.int (kC (p::ps):Nat)) at m2
 have hcap0:∀ l,eD 1 [] l=[.no]:=fun _=>rfl
 have hlen:((p::ps).map Pz.o).length≤1000000:=by simp; omega
 have hle:(((p::ps).map Pz.o).length:Int) - 1=(ps.length:Int):=by simp
 have hm:=ey 3 (ps.length:Int) (by omega)
 have hs:((p.w::ps.map Pz.w).sum:Int)+3 * (ps.length:Int)=((p.w+wOf ps:Nat):Int):=by
  have:=w_sum ps
  rw [List.sum_cons]; omega
 clear e0 e1 e2
 generalize ((p::ps).map fun p:Pz=>D.int (p.w:Nat))=L0 at *
 generalize ((p::ps).map fun p:Pz=>D.int (p.u:Nat))=L1 at *
 generalize ((p::ps).map fun p:Pz=>D.int (p.d:Nat))=L2 at *
 generalize hZ (p::ps)=U at *
 generalize kC (p::ps)=DD at *
 generalize (p::ps).map Pz.o=PS at *
 generalize p.w+wOf ps=W at *
 generalize (p.w::ps.map Pz.w).sum=SS at *
 simp only [mz,eE,hX,envOf]
 simp [hlen,hcap0,c0,c1,c2,m0,m1,m2,hle,hm,hs,jQ]
theorem qS:∀ L:List (List Nat),gi [] L=L.flatten
 | []=>rfl
 | [x]=>by simp [gi]
 | x::y::L=>by
  have:=qS (y::L)
  show x++[]++gi [] (y::L)=_
  rw [this]; simp
def sgn (x:Nat):D:=.str [x]
def LBc (R:fx):FS:=(aB (fY 2 (fp2 bC (fp2 bC (feC aW) (nY (ftB (fp2 (eqF false) (ab 1) (feC (.int 0)))) (ab 3) (feC aW))) (feC aW))) (fY 2 (bA 1 (bT R) (ab 4) (aj (ab 1) az))))
theorem wz (s0:Slot)(k:Int)(m:Nat)(hm:N≤m):∀ (xs:List Nat) (ps:List Pz) (acc:List D) (s3 s4:Slot),xs.length=ps.length→(∀ p∈ps,p.Ok N)→acc.length+2 * ps.length≤10000→∃ t3 t4,runFor (kN [3,4]) (LBc (DN0 m)) (fU (xs.map sgn) (ps.map Pz.o)) [s0,.val (.int k),.own acc,s3,s4]=some (.nx [s0,.val (.int k),.own (acc++(jt k xs ps).map .str),t3,t4])
 | [],[],acc,s3,s4,_,_,_=>⟨s3,s4,by simp [jt,zy,runFor]⟩
 | x::xs,p::ps,acc,s3,s4,h,ok,hl=>by
  have hp:=ok p List.mem_cons_self
  have hr:=dq hp.sk hm k
  simp only [List.length_cons] at hl
  obtain ⟨t3,t4,ih⟩:=wz s0 k m hm xs ps (acc++[.str (gap k x)]++[.str (p.f k)]) (.val (sgn x)) (.val p.o) (by simpa using h) (fun q hq=>ok q (List.mem_cons_of_mem _ hq)) (by simp; omega)
  refine ⟨t3,t4, ?_⟩
  have e:acc++(jt k (x::xs) (p::ps)).map D.str=acc++[.str (gap k x)]++[.str (p.f k)]++(jt k xs ps).map .str:=by simp [jt]
  rw [e, ← ih,List.map_cons,List.map_cons,qN]
  have l1:acc.length<1000000:=by omega
  have l2:acc.length+1<1000000:=by omega
  refine fQ (e1:=[s0,.val (.int k),.own acc,.val (sgn x),.val p.o]) (by simp) ?_
  by_cases k0:k=0
  ·subst k0
   simp [LBc,sgn,gap,hr,l1,l2,aW]
  ·have kz:(k == 0)=false:=by simpa using k0
   simp [LBc,sgn,gap,hr,l1,l2,k0,kz,aW]
theorem tR:∀ L:List (List Nat),(L.map List.length).sum=L.flatten.length
 | []=>rfl
 | x::L=>by rw [List.map_cons,List.sum_cons,tR L,List.flatten_cons,List.length_append]
theorem xP (p:Pz)(ps:List Pz)(xs:List Nat)(h:xs.length=ps.length)(ok:∀ q∈p::ps,q.Ok N)(hl:ps.length≤100)(hW:p.w+wOf ps≤10000)(m:Nat)(hm:N≤m)(w u d:Nat)(k:Int):(DN0 (m+1)).cp [oCh w u d ((p::ps).map Pz.o) xs,.int k]=some (.str (wy p ps xs k)):=by
 have hp:=ok p List.mem_cons_self
 have hr:=dq hp.sk hm k
 obtain ⟨t3,t4,lp⟩:=wz (.val (oCh w u d ((p::ps).map Pz.o) xs)) k m hm xs ps [.str (p.f k)] .no .no h (fun q hq=>ok q (List.mem_cons_of_mem _ hq)) (by simp; omega)
 have tl:=pF k xs ps h fun q hq=>ok q (List.mem_cons_of_mem _ hq)
 have hrl:=hp.sk.len k
 have hj:jK (.str []) (.lst ((p.f k::jt k xs ps).map .str))=some (.str (wy p ps xs k)):=by
  rw [ia,lh,bV,tR,qS,if_pos]
  ·rfl
  ·rw [List.flatten_cons,List.length_append,tl,hrl]; simp; omega
 have lp':runFor (kN [3,4]) (LBc (DN0 m)) (fU (xs.map fun c=>.str [c]) (ps.map Pz.o)) [.val (oCh w u d ((p::ps).map Pz.o) xs),.val (.int k),.own [.str (p.f k)],.no,.no]=some (.nx [.val (oCh w u d ((p::ps).map Pz.o) xs),.val (.int k),.own ((p.f k::jt k xs ps).map .str),t3,t4]):=lp
 have hsl:=sX ((p::ps).map Pz.o) 1
 have hdr:((p::ps).map Pz.o).drop 1=ps.map Pz.o:=rfl
 rw [hdr,show ((1:Nat):Int)=1 from rfl] at hsl
 have h0:((p::ps).map Pz.o)[0]?=some p.o:=rfl
 have hz:xs.length≤1000000:=by omega
 clear lp
 show bz 5 (d3 (DN0 m)) _=_
 generalize (p.f k::jt k xs ps).map D.str=TL at *
 generalize (p::ps).map Pz.o=PS at *
 generalize ps.map Pz.o=QS at *
 unfold oCh at *
 simp only [aD,d3,envOf]
 unfold LBc at lp'
 simp [-ia,h0,hr,hsl,hz,lp',hj]
theorem zR (p:Pz)(ps:List Pz)(xs:List Nat)(h:xs.length=ps.length)(ok:∀ q∈p::ps,q.Ok N)(hl:ps.length≤100)(hW:p.w+wOf ps≤10000):Sk (N+2) (oCh (p.w+wOf ps) (hZ (p::ps)) (kC (p::ps)) ((p::ps).map Pz.o) xs) (fIn (wy p ps xs) (hZ (p::ps)) (kC (p::ps)) (p.w+wOf ps)) (hZ (p::ps)) (kC (p::ps)) (p.w+wOf ps):=by
 have hu:=CU (p::ps) ok
 have hd:=CV (p::ps) ok
 refine mE (n:=N+1) _ (by simp [oCh]) (by simp [oCh]) (by simp [oCh]) (fun R k=>by simp [oCh,bT]) (by simp [oCh,cv]) (by simp [oCh]) (fun b=>by cases b <;> rfl) hW (by omega) (fun k _ _=>?_) fun m hm k k1 k2=>?_
 ·have tl:=pF k xs ps h fun q hq=>ok q (List.mem_cons_of_mem _ hq)
  have:=(ok p List.mem_cons_self).sk.len k
  unfold wy
  rw [List.flatten_cons,List.length_append,tl,this]
 ·obtain ⟨m,rfl⟩:∃ j,m=j+1:=⟨m - 1,by omega⟩
  have hw:=xP p ps xs h ok hl hW m (by omega) (p.w+wOf ps) (hZ (p::ps)) (kC (p::ps)) k
  rw [← hw]
  simp [oCh,aP]
end
section
variable {N:Nat}
theorem zS (d:D)(t:Nat)(ht:t≤60000):yO [d] (.int (t:Int))=some (List.replicate t d):=by
 show (if _ then _ else _)=_
 rw [if_pos ⟨by simp,by omega,by omega⟩]
 simp
def hgt (b:List Pz):Nat:=hZ b+1+kC b
theorem zT (p:Pz)(ps:List Pz)(ok:∀ q∈p::ps,q.Ok N)(hl:ps.length≤100):cP [.lst ((p::ps).map Pz.o)]=some (.int (hZ (p::ps):Nat)):=by
 have c1:=nj (fe:=fg) (env:=[.no]) (fun p=>.int (p.u:Nat)) (fun p hp=>⟨[.val p.o],rfl,by simp [fg,hp.sk.f1]⟩) (p::ps) ok
 have m1:=i5 p.u (ps.map Pz.u)
 have e1:((p.u::ps.map Pz.u).map fun i:Nat=>D.int (i:Nat))=(p::ps).map fun p=>.int (p.u:Nat):=by simp
 rw [e1] at m1
 change gX _=some (.int (hZ (p::ps):Nat)) at m1
 have hcap0:∀ l,eD 1 [] l=[.no]:=fun _=>rfl
 have hlen:((p::ps).map Pz.o).length≤1000000:=by simp; omega
 clear e1
 generalize ((p::ps).map fun p:Pz=>D.int (p.u:Nat))=L1 at *
 generalize (p::ps).map Pz.o=PS at *
 simp only [cP,aD,gC,envOf]
 simp [hlen,hcap0,c1,m1]
theorem EI (p:Pz)(ps:List Pz)(ok:∀ q∈p::ps,q.Ok N)(hl:ps.length≤100):cQ [.lst ((p::ps).map Pz.o)]=some (.int (hgt (p::ps):Nat)):=by
 have g:=zT p ps ok hl
 have c1:=nj (fe:=fj) (env:=[.no]) (fun p=>.int (p.d:Nat)) (fun p hp=>⟨[.val p.o],rfl,by simp [fj,hp.sk.f2]⟩) (p::ps) ok
 have m1:=i5 p.d (ps.map Pz.d)
 have e1:((p.d::ps.map Pz.d).map fun i:Nat=>D.int (i:Nat))=(p::ps).map fun p=>.int (p.d:Nat):=by simp
 rw [e1] at m1
 change gX _=some (.int (kC (p::ps):Nat)) at m1
 have hcap0:∀ l,eD 1 [] l=[.no]:=fun _=>rfl
 have hlen:((p::ps).map Pz.o).length≤1000000:=by simp; omega
 have hh:(hZ (p::ps):Int)+1+(kC (p::ps):Int)=(hgt (p::ps):Nat):=by unfold hgt; omega
 clear e1
 generalize ((p::ps).map fun p:Pz=>D.int (p.d:Nat))=L1 at *
 generalize (p::ps).map Pz.o=PS at *
 generalize hZ (p::ps)=U at *
 generalize kC (p::ps)=DD at *
 generalize hgt (p::ps)=HH at *
 simp only [cQ,aD,gD,envOf]
 simp [hlen,hcap0,g,c1,m1,hh]
structure Bd (N:Nat)(n:Nat)(b:List Pz):Prop where
 len:b.length=n
 ok:∀ q∈b,q.Ok N
theorem Bd.cons {n:Nat}{b:List Pz}(h:Bd N n b)(hn:1≤n):∃ p ps,b=p::ps:=by
 cases b with
 | nil=>have:=h.len; simp at this; omega
 | cons p ps=>exact ⟨p,ps,rfl⟩
theorem Bd.gup {n:Nat}{b:List Pz}(h:Bd N n b)(hn:1≤n)(h9:n≤9):cP [.lst (b.map Pz.o)]=some (.int (hZ b:Nat)):=by
 obtain ⟨p,ps,rfl⟩:=h.cons hn
 have:=h.len
 exact zT p ps h.ok (by simp at this; omega)
theorem Bd.hgt {n:Nat}{b:List Pz}(h:Bd N n b)(hn:1≤n)(h9:n≤9):cQ [.lst (b.map Pz.o)]=some (.int (K18.hgt b:Nat)):=by
 obtain ⟨p,ps,rfl⟩:=h.cons hn
 have:=h.len
 exact EI p ps h.ok (by simp at this; omega)
theorem Bd.hle {n:Nat}{b:List Pz}(h:Bd N n b)(hn:1≤n):K18.hgt b≤401∧1≤K18.hgt b∧hZ b≤200:=by
 obtain ⟨p,ps,rfl⟩:=h.cons hn
 have h1:=CU (p::ps) h.ok
 have h2:=CV (p::ps) h.ok
 unfold K18.hgt
 omega
def NBx (n:Nat):List (List Pz)→List D
 | []=>[]
 | [b]=>List.replicate (hgt b) (.int (n:Nat))
 | b::b'::r=>List.replicate (hgt b) (.int (n:Nat))++.non::NBx (n+1) (b'::r)
def tS (n:Nat)(bs:List (List Pz)):List D:=match bs with
 | []=>[]
 | b::r=>if n=0 then NBx n (b::r) else .non::NBx n (b::r)
theorem wA {m:Nat}(hm:1≤m)(h9:m≤9)(s0:Slot):∀ (bs:List (List Pz)) (n:Nat) (acc:List D) (s2 s3:Slot),(∀ b∈bs,Bd N m b)→acc.length+402 * bs.length≤10000→∃ t2 t3,runFor (kN [2,3]) cM (qJ n (bs.map fun b=>.lst (b.map Pz.o))) [s0,.own acc,s2,s3]=some (.nx [s0,.own (acc++tS n bs),t2,t3])
 | [],n,acc,s2,s3,_,_=>⟨s2,s3,by simp [tS,xo,runFor]⟩
 | b::r,n,acc,s2,s3,h,hl=>by
  have hb:=(h b List.mem_cons_self)
  have hh:=hb.hgt hm h9
  have hle:=hb.hle hm
  have hl':acc.length+402 * r.length+402≤10000:=by simp only [List.length_cons] at hl; omega
  have mf:=zS (.int (n:Nat)) (hgt b) (by omega)
  obtain ⟨t2,t3,ih⟩:=wA hm h9 s0 r (n+1) (acc++((if n=0 then [] else [D.non])++List.replicate (hgt b) (.int (n:Nat)))) (.val (.int (n:Nat))) (.val (.lst (b.map Pz.o))) (fun q hq=>h q (List.mem_cons_of_mem _ hq)) (by
   simp only [List.length_append,List.length_replicate]
   split <;> simp <;> omega)
  refine ⟨t2,t3, ?_⟩
  have e:acc++tS n (b::r)=acc++((if n=0 then [] else [D.non])++List.replicate (hgt b) (.int (n:Nat)))++tS (n+1) r:=by
   cases r with
   | nil=>by_cases h0:n=0 <;> simp [tS,NBx,h0]
   | cons b' r=>by_cases h0:n=0 <;> simp [tS,NBx,h0]
  rw [e, ← ih,List.map_cons,uX]
  refine fQ (e1:=[s0,.own acc,.val (.int (n:Nat)),.val (.lst (b.map Pz.o))]) (by simp) ?_
  generalize b.map Pz.o=PB at *
  have l1:acc.length<1000000:=by omega
  have l2:acc.length+hgt b≤1000000:=by omega
  have l3:acc.length+1+hgt b≤1000000:=by omega
  have lr:(List.replicate (hgt b) (D.int (n:Nat))).length=hgt b:=by simp
  generalize List.replicate (hgt b) (D.int (n:Nat))=RR at *
  by_cases h0:n=0
  ·subst h0
   have mf':yO [.int 0] (.int (hgt b:Nat))=some RR:=mf
   simp [cM,hh,mf',lr,l2]
  ·have h0' : 0<n:=by omega
   simp [cM,hh,mf,lr,l1,l3,h0,h0']
theorem Hj {m:Nat}(hm:1≤m)(h9:m≤9)(bs:List (List Pz))(h:∀ b∈bs,Bd N m b)(hl:bs.length≤9):dP [.lst (bs.map fun b=>.lst (b.map Pz.o))]=some (NBx 0 bs):=by
 obtain ⟨t2,t3,lp⟩:=wA hm h9 (.val (.lst (bs.map fun b=>.lst (b.map Pz.o)))) bs 0 [] .no .no h (by simp; omega)
 have e:tS 0 bs=NBx 0 bs:=by cases bs <;> simp [tS,NBx]
 rw [List.nil_append,e] at lp
 have he:jr (bs.map fun b=>D.lst (b.map Pz.o))=qJ 0 (bs.map fun b=>D.lst (b.map Pz.o)):=rfl
 generalize NBx 0 bs=NN at *
 generalize (bs.map fun b=>D.lst (b.map Pz.o))=BB at *
 simp only [dP,i4,fk,envOf]
 simp [he,lp]
def LW (top:Int):List (List Pz)→List Int
 | []=>[]
 | b::r=>(top+(hZ b:Nat))::LW (top+(hgt b:Nat)+1) r
theorem wB {m:Nat}(hm:1≤m)(h9:m≤9)(s0 s1:Slot):∀ (bs:List (List Pz)) (top:Int) (acc:List D) (s4:Slot),(∀ b∈bs,Bd N m b)→acc.length+bs.length≤10000→∃ t3 t4,runFor (aQ 4) gc (bs.map fun b=>.lst (b.map Pz.o)) [s0,s1,.own acc,.val (.int top),s4]=some (.nx [s0,s1,.own (acc++(LW top bs).map .int),t3,t4])
 | [],top,acc,s4,_,_=>⟨_,s4,by simp [LW,runFor]; rfl⟩
 | b::r,top,acc,s4,h,hl=>by
  have hb:=(h b List.mem_cons_self)
  have hh:=hb.hgt hm h9
  have hg:=hb.gup hm h9
  simp only [List.length_cons] at hl
  obtain ⟨t3,t4,ih⟩:=wB hm h9 s0 s1 r (top+(hgt b:Nat)+1) (acc++[.int (top+(hZ b:Nat))]) (.val (.lst (b.map Pz.o))) (fun q hq=>h q (List.mem_cons_of_mem _ hq)) (by simp; omega)
  refine ⟨t3,t4, ?_⟩
  have e:acc++(LW top (b::r)).map D.int=acc++[.int (top+(hZ b:Nat))]++(LW (top+(hgt b:Nat)+1) r).map .int:=by simp [LW]
  rw [e, ← ih,List.map_cons]
  refine fQ (e1:=[s0,s1,.own acc,.val (.int top),.val (.lst (b.map Pz.o))]) (by simp) ?_
  generalize b.map Pz.o=PB at *
  have l1:acc.length<1000000:=by omega
  have e2:top+((hgt b:Int)+1)=top+(hgt b:Int)+1:=by omega
  simp [gc,hh,hg,l1,e2]
theorem Hk {m:Nat}(hm:1≤m)(h9:m≤9)(bs:List (List Pz))(h:∀ b∈bs,Bd N m b)(hl:bs.length≤9)(up:Int):gP [.lst (bs.map fun b=>.lst (b.map Pz.o)),.int up]=some ((LW (-up) bs).map .int):=by
 obtain ⟨t3,t4,lp⟩:=wB hm h9 (.val (.lst (bs.map fun b=>.lst (b.map Pz.o)))) (.val (.int up)) bs (-up) [] .no h (by simp; omega)
 rw [List.nil_append] at lp
 generalize (LW (-up) bs).map D.int=NN at *
 generalize (bs.map fun b=>D.lst (b.map Pz.o))=BB at *
 simp only [gP,i4,iG,envOf]
 simp [lp]
theorem Hl (n:Nat)(h:n≤9):j9 [.int (n:Nat)]=some (cb 0 n):=oj (by omega) (by omega)
theorem BJ (n:Nat)(h:n≤9):(cb 0 n).length≤1000000:=by unfold cb; simp; omega
def wAt (i:Nat)(b:List Pz):Nat:=((b[i]?).map Pz.w).getD 0
def iw (n:Nat)(bs:List (List Pz)):List Nat:=(List.range n).map fun i=>ik (bs.map (wAt i))
theorem zU {n:Nat}{fe:FE}{env:aN}(pr g:List Pz→D)(h:∀ b,Bd N n b→∃ e,aQ 0 (pr b) env=some e∧fe e=some (g b)):∀ bs:List (List Pz),(∀ b∈bs,Bd N n b)→bf (aQ 0) bU fe env (bs.map pr)=some (bs.map g)
 | [],_=>rfl
 | b::bs,ok=>by
  obtain ⟨e,h1,h2⟩:=h b (ok b List.mem_cons_self)
  exact bP h1 rfl h2 (zU pr g h bs fun q hq=>ok q (List.mem_cons_of_mem _ hq))
theorem Bd.at {n:Nat}{b:List Pz}(h:Bd N n b){i:Nat}(hi:i<n):∃ p,b[i]?=some p∧p.Ok N∧wAt i b=p.w:=by
 have hl:=h.len
 have e:b[i]?=some (b[i]'(by omega)):=List.getElem?_eq_getElem _
 exact ⟨_,e,h.ok _ (List.mem_of_getElem? e),by unfold wAt; rw [e]; rfl⟩
theorem zV (i:Nat)(b:List Pz)(r:List (List Pz)):gX (.lst ((b::r).map fun b=>.int (wAt i b:Nat)))=some (.int (ik ((b::r).map (wAt i)):Nat)):=by
 have:=i5 (wAt i b) (r.map (wAt i))
 have e1:((wAt i b::r.map (wAt i)).map fun i:Nat=>D.int (i:Nat))=(b::r).map fun b=>.int (wAt i b:Nat):=by simp
 rw [e1] at this
 exact this
theorem BK {n:Nat}{fe:FE}{env:aN}(b:List Pz)(r:List (List Pz))(h:∀ i,i<n→∃ e,aQ 0 (.int (i:Nat)) env=some e∧fe e=some (.int (ik ((b::r).map (wAt i)):Nat))):bf (aQ 0) bU fe env (cb 0 n)=some ((iw n (b::r)).map fun i=>.int (i:Nat)):=by
 have:=jG (tg:=aQ 0) (fe:=fe) (env:=env) (fun x=>match x with | .int k=>.int (ik ((b::r).map (wAt k.toNat)):Nat) | _=>.non) (cb 0 n) (by
  intro d hd
  unfold cb at hd
  obtain ⟨i,hi,rfl⟩:=List.mem_map.mp hd
  obtain ⟨e,h1,h2⟩:=h i (List.mem_range.mp hi)
  refine ⟨e, ?_, ?_⟩
  ·rw [show (0:Int)+((i:Nat):Int)=(i:Nat) by omega]; exact h1
  ·rw [h2]
   show _=some (D.int (ik ((b::r).map (wAt ((0:Int)+((i:Nat):Int)).toNat)):Nat))
   rw [show ((0:Int)+((i:Nat):Int)).toNat=i by omega])
 rw [this]
 unfold cb iw
 rw [List.map_map,List.map_map]
 congr 1
 apply List.map_congr_left
 intro i _
 show D.int (ik ((b::r).map (wAt ((0:Int)+((i:Nat):Int)).toNat)):Nat)=_
 rw [show ((0:Int)+((i:Nat):Int)).toNat=i by omega]; rfl
theorem cw_ok {n:Nat}(hn:1≤n)(h9:n≤9)(b:List Pz)(r:List (List Pz))(h:∀ q∈b::r,Bd N n q)(hl:r.length≤8):eG [.lst ((b::r).map fun b=>.lst (b.map Pz.o))]=some ((iw n (b::r)).map fun i=>.int (i:Nat)):=by
 have hlen:((b::r).map fun b=>D.lst (b.map Pz.o)).length≤1000000:=by simp; omega
 have hr:=Hl n h9
 have hc:=BK (n:=n) (fe:=eC) (env:=[.no,.val (.lst ((b::r).map fun b=>.lst (b.map Pz.o)))]) b r (by
  intro i hi
  refine ⟨_,rfl, ?_⟩
  have c1:=zU (n:=n) (fe:=eB) (env:=[.no,.val (.int (i:Nat))]) (fun b=>.lst (b.map Pz.o)) (fun b=>.int (wAt i b:Nat)) (by
   intro q hq
   obtain ⟨p,e1,e2,e3⟩:=hq.at hi
   have ha:atI (q.map Pz.o) (i:Int)=some p.o:=by rw [kS,List.getElem?_map,e1]; rfl
   refine ⟨[.val (.lst (q.map Pz.o)),.val (.int (i:Nat))],rfl, ?_⟩
   rw [e3]
   generalize q.map Pz.o=QQ at *
   simp [eB,ha,e2.sk.f0]) (b::r) h
  have mx:=zV i b r
  have hcap:∀ a c:Slot,eD 1 [0] [a,c]=[.no,a]:=fun _ _=>rfl
  generalize ((b::r).map fun b=>D.int (wAt i b:Nat))=W1 at *
  generalize ((b::r).map fun b=>D.lst (b.map Pz.o))=BB at *
  simp [eC,hlen,hcap,c1,mx])
 have h0:((b::r).map fun b=>D.lst (b.map Pz.o))[0]?=some (.lst (b.map Pz.o)):=rfl
 have hbl:(b.map Pz.o).length=n:=by rw [List.length_map]; exact (h b List.mem_cons_self).len
 have hcap:∀ a:Slot,eD 1 [0] [a]=[.no,a]:=fun _=>rfl
 have hlr:=BJ n h9
 generalize ((iw n (b::r)).map fun i=>D.int (i:Nat))=WW at *
 generalize ((b::r).map fun b=>D.lst (b.map Pz.o))=BB at *
 generalize b.map Pz.o=B0 at *
 simp only [eG,i4,fK,envOf]
 simp [h0,hbl,hr,hlr,hcap,hc]
def Fit (N:Nat):List Pz→List Nat→Prop
 | [],[]=>True
 | p::ps,w::ws=>p.Ok N∧p.w≤w∧w≤600∧Fit N ps ws
 | _,_=>False
theorem zW:∀ (ps:List Pz) (ws:List Nat),ps.length=ws.length→(∀ (i:Nat) (p:Pz) (w:Nat),ps[i]?=some p→ws[i]?=some w→p.Ok N∧p.w≤w∧w≤600)→Fit N ps ws
 | [],[],_,_=>trivial
 | p::ps,w::ws,h,g=>by
  obtain ⟨h1,h2,h3⟩:=g 0 p w rfl rfl
  exact ⟨h1,h2,h3,zW ps ws (by simpa using h) fun i q v e1 e2=>g (i+1) q v (by simpa using e1) (by simpa using e2)⟩
 | [],_::_,h,_=>by simp at h
 | _::_,[],h,_=>by simp at h
theorem vg (n:Nat)(bs:List (List Pz)):(iw n bs).length=n:=by simp [iw]
theorem Bd.fit {n:Nat}{b:List Pz}{bs:List (List Pz)}(h:∀ q∈bs,Bd N n q)(hb:b∈bs):Fit N b (iw n bs):=by
 have hl:=(h b hb).len
 refine zW b _ (by rw [vg,hl]) fun i p w e1 e2=>?_
 have hi:i<n:=by have:=(List.getElem?_eq_some_iff.mp e1).1; omega
 obtain ⟨q,e3,e4,e5⟩:=(h b hb).at hi
 rw [e1] at e3; cases e3
 unfold iw at e2
 rw [List.getElem?_map,List.getElem?_range hi] at e2
 have ew:w=ik (bs.map (wAt i)):=(Option.some.inj e2).symm
 refine ⟨e4, ?_, ?_⟩
 ·rw [ew, ← e5]; exact oy _ _ (List.mem_map.mpr ⟨b,hb,rfl⟩)
 ·rw [ew]
  refine rS _ _ fun a ha=>?_
  obtain ⟨c,hc,rfl⟩:=List.mem_map.mp ha
  obtain ⟨q',e6,e7,e8⟩:=(h c hc).at hi
  rw [e8]; exact e7.hw
def jj (k:Int):List Pz→List Nat→List (List Nat)
 | p::ps,w::ws=>(blank (w - p.w)++p.f k)::jj k ps ws
 | _,_=>[]
def gg (b:List Pz)(ws:List Nat)(k:Int):List Nat:=gi [32,32] (jj k b ws)
theorem nk (k:Int):∀ (ps:List Pz) (ws:List Nat),Fit N ps ws→(jj k ps ws).map List.length=ws
 | [],[],_=>rfl
 | p::ps,w::ws,h=>by
  obtain ⟨h1,h2,h3,h4⟩:=h
  have hr:=h1.sk.len k
  rw [jj,List.map_cons,nk k ps ws h4,List.length_append,hr]
  congr 1
  simp [blank]; omega
theorem rT:∀ (ps:List Pz) (ws:List Nat),Fit N ps ws→ps.length=ws.length∧∀ w∈ws,w≤600
 | [],[],_=>⟨rfl,fun w hw=>nomatch hw⟩
 | p::ps,w::ws,h=>by
  obtain ⟨h1,h2,h3,h4⟩:=h
  obtain ⟨g1,g2⟩:=rT ps ws h4
  refine ⟨by simp [g1],fun v hv=>?_⟩
  rcases List.mem_cons.mp hv with rfl | hv
  ·exact h3
  ·exact g2 v hv
theorem qT (sep:List Nat):∀ (x:List Nat) (L:List (List Nat)),(gi sep (x::L)).length=((x::L).map List.length).sum+L.length * sep.length
 | x,[]=>by simp [gi]
 | x,y::L=>by
  have:=qT sep y L
  show (x++sep++gi sep (y::L)).length=_
  rw [List.length_append,List.length_append,this]
  simp [Nat.add_mul]; omega
theorem vh (m:Nat):∀ l:List Nat,(∀ a∈l,a≤m)→l.sum≤m * l.length
 | [],_=>by simp
 | a::l,h=>by
  have:=vh m l fun b hb=>h b (List.mem_cons_of_mem _ hb)
  have:=h a List.mem_cons_self
  rw [List.sum_cons,List.length_cons,Nat.mul_succ]; omega
theorem nR {b:List Pz}{ws:List Nat}(h:Fit N b ws)(hn:1≤ws.length)(k:Int):(gg b ws k).length+2=ws.sum+2 * ws.length:=by
 have hc:=nk k b ws h
 unfold gg
 cases e:jj k b ws with
 | nil=>rw [e] at hc; rw [← hc] at hn; simp at hn
 | cons x L =>
  rw [e] at hc
  have hl:(x::L).length=ws.length:=by rw [← hc,List.length_map]
  rw [qT,hc]
  simp at hl ⊢; omega
theorem xQ {b:List Pz}{ws:List Nat}(h:Fit N b ws)(h9:ws.length≤9)(k:Int):jK (.str [32,32]) (.lst ((jj k b ws).map .str))=some (.str (gg b ws k)):=by
 have hc:=nk k b ws h
 have hs:=vh 600 ws (rT b ws h).2
 have hl:(jj k b ws).length=ws.length:=by rw [← List.length_map (f:=List.length),hc]
 rw [ia,lh,bV,hc,if_pos (by rw [hl]; simp; omega)]
 rfl
def oGr (bO wD nD lD:List D)(w u d:Nat):D:=.ob 8 [13,14,15,0,1,2,16] [.lst bO,.lst wD,.lst nD,.int (w:Nat),.int (u:Nat),.int (d:Nat),.lst lD]
theorem EJ (c:Nat)(ks:List Nat)(ds:List D)(w u d:Int)(h0:0 ∉ ks)(h1:1 ∉ ks)(h2:2 ∉ ks)(hl:ks.length≤10):jO c ks ds [.int w,.int u,.int d]=some (ks++[0,1,2],ds++[.int w,.int u,.int d]):=by
 have l1:¬ 100≤ks.length:=by omega
 have l2:¬ 100≤ks.length+1:=by omega
 have l3:¬ 100≤ks.length+1+1:=by omega
 simp [jO,tM,eI,envOf,h0,h1,h2,l1,l2,l3]
theorem qU:∀ dss:List (List D),(∀ ds∈dss,ds.length≤1000)→bf (aQ 0) bU eQ [.no] (dss.map .lst)=some (dss.map .lst)
 | [],_=>rfl
 | ds::r,h=>by
  have:=h ds List.mem_cons_self
  rw [List.map_cons]
  refine bP (e:=[.val (.lst ds)]) rfl rfl ?_ (qU r fun q hq=>h q (List.mem_cons_of_mem _ hq))
  have h6:ds.length≤1000000:=by omega
  simp [eQ,h6]
theorem Hm {n:Nat}(hn:1≤n)(h9:n≤9)(b:List Pz)(r:List (List Pz))(h:∀ q∈b::r,Bd N n q)(hl:r.length≤8)(H:Nat)(hH:(NBx 0 (b::r)).length=H)(hH1:1≤H)(hH2:H≤4000) :
  lA 8 [.lst ((b::r).map fun b=>.lst (b.map Pz.o))]=some ([13,14,15,0,1,2,16],[.lst ((b::r).map fun b=>.lst (b.map Pz.o)),.lst ((iw n (b::r)).map fun i=>.int (i:Nat)),.lst (NBx 0 (b::r)),.int (((iw n (b::r)).sum+2 * n:Nat):Int),.int (((H - 1) / 2:Nat):Int),.int ((H - 1 - (H - 1) / 2:Nat):Int),.lst ((LW (-(((H - 1) / 2:Nat):Int)) (b::r)).map .int)]):=by
 have hcw:=cw_ok hn h9 b r h hl
 have hnb:=Hj hn h9 (b::r) h (by simp; omega)
 have hlw:=Hk hn h9 (b::r) h (by simp; omega) (((H - 1) / 2:Nat):Int)
 have hws:=vg n (b::r)
 have hw8:=(rT b _ (Bd.fit h List.mem_cons_self)).2
 have sm:=pE (iw n (b::r)) (fun a ha=>by have:=hw8 a ha; omega) (by omega)
 have cc:=qU ((b::r).map fun b=>b.map Pz.o) (by
  intro ds hd
  obtain ⟨q,hq,rfl⟩:=List.mem_map.mp hd
  rw [List.length_map,(h q hq).len]; omega)
 have ce:((b::r).map fun b=>b.map Pz.o).map D.lst=(b::r).map fun b=>.lst (b.map Pz.o):=by rw [List.map_map]; rfl
 have ld:((b::r).map fun b=>b.map Pz.o).length≤1000000:=by simp; omega
 have lw1:((iw n (b::r)).map fun i=>D.int (i:Nat)).length=n:=by rw [List.length_map,hws]
 have m2:=ey 2 (n:Int) (by omega)
 have f:=f7 ((H:Int) - 1) 2 (by decide)
 obtain ⟨U,hU⟩:∃ U,U=(H - 1) / 2:=⟨_,rfl⟩
 rw [← hU] at hlw ⊢
 rw [show ((H:Int) - 1) / 2=(U:Nat) by omega] at f
 have hUl:U<H:=by omega
 clear hU
 have hd:(H:Int) - 1 - (U:Nat)=((H - 1 - U:Nat):Int):=by omega
 have hW:((iw n (b::r)).sum:Int)+2 * (n:Int)=(((iw n (b::r)).sum+2 * n:Nat):Int):=by omega
 have hcap0:∀ l,eD 1 [] l=[.no]:=fun _=>rfl
 have mj:=EJ 8 [13,14,15] [.lst ((b::r).map fun b=>.lst (b.map Pz.o)),.lst ((iw n (b::r)).map fun i=>.int (i:Nat)),.lst (NBx 0 (b::r))] (((iw n (b::r)).sum+2 * n:Nat):Int) (U:Nat) ((H - 1 - U:Nat):Int) (by decide) (by decide) (by decide) (by decide)
 have hN6:(NBx 0 (b::r)).length≤1000000:=by omega
 have cc':bf (aQ 0) bU eQ [.no] ((b::r).map fun b=>.lst (b.map Pz.o))=some ((b::r).map fun b=>.lst (b.map Pz.o)):=by rw [← ce,cc]
 have ld':((b::r).map fun b=>D.lst (b.map Pz.o)).length≤1000000:=by simp; omega
 simp only [lA,eE,iH,envOf]
 clear ce cc
 generalize (LW (-((U:Nat):Int)) (b::r)).map D.int=LL at *
 generalize ((b::r).map fun b=>D.lst (b.map Pz.o))=BO at *
 generalize hWW:((iw n (b::r)).map fun i=>D.int (i:Nat))=WW at *
 generalize NBx 0 (b::r)=NN at *
 generalize (iw n (b::r)).sum=SS at *
 generalize hTT:SS+2 * n=TT at *
 simp [ld',hcap0,cc',hcw,hnb,hH,f,sm,lw1,m2,hW,hd,mj,hlw]
theorem qV (m:Nat)(hm:N≤m)(k:Int):∀ (ps:List Pz) (ws:List Nat),Fit N ps ws→bf (kN [0,1]) bU (fp2 (oW rjustF) (bA 1 (bT (DN0 m)) (ab 0) (aj (ab 2) az)) (ab 1)) [.no,.no,.val (.int k)] (fU (ps.map Pz.o) (ws.map fun i=>.int (i:Nat)))=some ((jj k ps ws).map .str)
 | [],[],_=>rfl
 | p::ps,w::ws,h=>by
  obtain ⟨h1,h2,h3,h4⟩:=h
  have hr:=h1.sk.len k
  have mr:=dq h1.sk hm k
  change dW 1 (bT (DN0 m)) p.o [.int k]=some (.str (p.f k)) at mr
  rw [List.map_cons,List.map_cons,qN]
  refine bP (e:=[.val p.o,.val (.int (w:Nat)),.val (.int k)]) (by simp) rfl ?_ (qV m hm k ps ws h4)
  have hb:-1000000≤(w:Int)∧(w:Int)≤1000000:=by omega
  unfold blank
  generalize p.f k=PR at *
  simp [mr,hb,hr]
theorem BL (top:Int):∀ (bs:List (List Pz)) (m:Nat) (low:Int),(LW top bs)[m]?=some low→atI ((LW top bs).map D.int) (m:Int)=some (.int low):=fun bs m low h=>by
 rw [kS,List.getElem?_map,h]; rfl
theorem tT {n:Nat}{bs:List (List Pz)}{b:List Pz}{ws:List Nat}(hf:Fit N b ws)(h9:ws.length≤9)(m:Nat)(hm:N≤m)(i:Nat)(low:Int)(top:Int)(hb:bs[i]?=some b)(hlo:(LW top bs)[i]?=some low)(nD:List D)(w u d:Nat)(k:Int) :
  dW 2 (fR (DN0 (m+1))) (oGr (bs.map fun b=>.lst (b.map Pz.o)) (ws.map fun i=>.int (i:Nat)) nD ((LW top bs).map .int) w u d) [.int (i:Nat),.int k]=some (.str (gg b ws (k - low))):=by
 have e:dW 2 (fR (DN0 (m+1))) (oGr (bs.map fun b=>.lst (b.map Pz.o)) (ws.map fun i=>.int (i:Nat)) nD ((LW top bs).map .int) w u d) [.int (i:Nat),.int k]=(DN0 (m+1)).dA [oGr (bs.map fun b=>.lst (b.map Pz.o)) (ws.map fun i=>.int (i:Nat)) nD ((LW top bs).map .int) w u d,.int (i:Nat),.int k]:=by simp [oGr,fR]
 rw [e]
 have ha:atI (bs.map fun b=>D.lst (b.map Pz.o)) (i:Int)=some (.lst (b.map Pz.o)):=by rw [kS,List.getElem?_map,hb]; rfl
 have hlw:=BL top bs i low hlo
 have bc:=qV m hm (k - low) b ws hf
 have bj:=xQ hf h9 (k - low)
 have hzl:(fU (b.map Pz.o) (ws.map fun i=>D.int (i:Nat))).length≤1000000:=by rw [pj]; simp; omega
 have hcap:∀ a b c d:Slot,eD 2 [3] [a,b,c,d]=[.no,.no,d]:=fun _ _ _ _=>rfl
 show bz 4 (eF (DN0 m)) _=_
 unfold oGr
 generalize (LW top bs).map D.int=LL at *
 generalize (bs.map fun b=>D.lst (b.map Pz.o))=BO at *
 generalize (jj (k - low) b ws).map D.str=CC at *
 generalize b.map Pz.o=BB at *
 generalize (ws.map fun i=>D.int (i:Nat))=WW at *
 simp only [aD,eF,envOf]
 simp only [yQ,yS,yR]
 simp [-ia,hlw,ha,hzl,hcap,bc,bj]
theorem wC:∀ (bs:List (List Pz)) (n:Nat) (top:Int) (i:Nat),i<(NBx n bs).length →
  (NBx n bs)[i]?=some .non∨∃ (m:Nat) (b:List Pz) (low:Int),bs[m]?=some b∧(NBx n bs)[i]?=some (.int ((n+m:Nat):Int))∧(LW top bs)[m]?=some low
 | [],n,top,i,h=>by simp [NBx] at h
 | [b],n,top,i,h=>by
  have hi:i<hgt b:=by simpa [NBx] using h
  refine .inr ⟨0,b,top+(hZ b:Nat),rfl, ?_,rfl⟩
  rw [NBx,List.getElem?_replicate,if_pos hi]; rfl
 | b::b'::r,n,top,i,h=>by
  by_cases hi:i<hgt b
  ·refine .inr ⟨0,b,top+(hZ b:Nat),rfl, ?_,rfl⟩
   rw [NBx,List.getElem?_append_left (by simpa using hi),List.getElem?_replicate,if_pos hi]; rfl
  ·by_cases he:i=hgt b
   ·refine .inl ?_
    rw [NBx,List.getElem?_append_right (by simp; omega),List.length_replicate,he,Nat.sub_self]; rfl
   ·obtain ⟨j,hj⟩:∃ j,i=hgt b+1+j:=⟨i - hgt b - 1,by omega⟩
    have e1:i - hgt b=j+1:=by omega
    have a1:(NBx n (b::b'::r))[i]?=(NBx (n+1) (b'::r))[j]?:=by
     rw [NBx,List.getElem?_append_right (by simp; omega),List.length_replicate,e1,List.getElem?_cons_succ]
    have hj':j<(NBx (n+1) (b'::r)).length:=by
     simp only [NBx,List.length_append,List.length_cons,List.length_replicate] at h
     omega
    rcases wC (b'::r) (n+1) (top+(hgt b:Nat)+1) j hj' with h1 | ⟨m,c,low,h1,h2,h3⟩
    ·exact .inl (a1.trans h1)
    ·refine .inr ⟨m+1,c,low,by simpa using h1, ?_, ?_⟩
     ·rw [a1,h2,show n+1+m=n+(m+1) by omega]
     ·rw [LW,List.getElem?_cons_succ]; exact h3
def jS (ws:List Nat):Nat:=ws.sum+2 * ws.length - 2
def gGr (bs:List (List Pz))(ws:List Nat)(U:Nat)(k:Int):List Nat :=
 let r:=match (NBx 0 bs)[(k+(U:Int)).toNat]? with
  | some (.int m)=>gg ((bs[m.toNat]?).getD []) ws (k - ((LW (-(U:Int)) bs)[m.toNat]?).getD 0)
  | _=>blank (jS ws)
 if k=0 then [91]++r++[93] else [124]++r++[124]
theorem BM {n:Nat}(hn:1≤n)(h9:n≤9)(b:List Pz)(r:List (List Pz))(h:∀ q∈b::r,Bd N n q)(hl:r.length≤8)(H:Nat)(hH:(NBx 0 (b::r)).length=H)(hH1:1≤H)(hH2:H≤4000)(ws:List Nat)(hws:ws=iw n (b::r))(U:Nat)(hU:U=(H - 1) / 2) :
  Sk (N+3) (oGr ((b::r).map fun b=>.lst (b.map Pz.o)) (ws.map fun i=>.int (i:Nat)) (NBx 0 (b::r)) ((LW (-((U:Nat):Int)) (b::r)).map .int) (ws.sum+2 * n) U (H - 1 - U)) (fIn (gGr (b::r) ws U) U (H - 1 - U) (ws.sum+2 * n)) U (H - 1 - U) (ws.sum+2 * n):=by
 have hUl:U<H:=by omega
 clear hU
 have hwl:ws.length=n:=by rw [hws]; exact vg n _
 have fit:∀ q∈b::r,Fit N q ws:=fun q hq=>by rw [hws]; exact Bd.fit h hq
 have hw8:=(rT b ws (fit b List.mem_cons_self)).2
 have hsum:=vh 600 ws hw8
 have lt:(blank (jS ws)).length=jS ws:=by simp [blank]
 have at2:∀ (k:Int), -(U:Int)≤k→k≤((H - 1 - U:Nat):Int)→(gGr (b::r) ws U k=(if k=0 then [91]++blank (jS ws)++[93] else [124]++blank (jS ws)++[124])∧atI (NBx 0 (b::r)) (k+(U:Int))=some .non)∨∃ (m:Nat) (c:List Pz) (low:Int),(b::r)[m]?=some c∧(LW (-(U:Int)) (b::r))[m]?=some low∧atI (NBx 0 (b::r)) (k+(U:Int))=some (.int (m:Nat))∧gGr (b::r) ws U k=(if k=0 then [91]++gg c ws (k - low)++[93] else [124]++gg c ws (k - low)++[124]):=by
  intro k k1 k2
  obtain ⟨i,hi'⟩:∃ i:Nat,k+(U:Int)=i:=⟨(k+(U:Int)).toNat,by omega⟩
  have ei:(k+(U:Int)).toNat=i:=by omega
  have hi:i<(NBx 0 (b::r)).length:=by omega
  unfold gGr
  rw [ei,hi',kS]
  rcases wC (b::r) 0 (-((U:Nat):Int)) i hi with h1 | ⟨m,c,low,h1,h2,h3⟩
  ·rw [h1]
   exact .inl ⟨rfl,rfl⟩
  ·rw [Nat.zero_add] at h2
   refine .inr ⟨m,c,low,h1,h3,h2, ?_⟩
   rw [h2]
   simp only [Int.toNat_natCast,h1,h3,Option.getD_some]
 refine mE (n:=N+2) _ (by simp [oGr]) (by simp [oGr]) (by simp [oGr]) (fun R k=>by simp [oGr,bT]) (by simp [oGr,cv]) (by simp [oGr]) (fun b=>by cases b <;> rfl) (by omega) (by omega) (fun k k1 k2=>?_) fun m hm k k1 k2=>?_
 ·have tl:jS ws+2=ws.sum+2 * n:=by unfold jS; omega
  rcases at2 k k1 k2 with ⟨e,_⟩ | ⟨m,c,low,h1,_,_,e⟩
  ·rw [e]; split <;> simp <;> omega
  ·have:=nR (fit c (List.mem_of_getElem? h1)) (by omega) (k - low)
   rw [e]; split <;> simp <;> omega
 ·obtain ⟨m,rfl⟩:∃ j,m=j+1+1:=⟨m - 2,by omega⟩
  have hme:dW 1 (aP (DN0 (m+1+1))) (oGr ((b::r).map fun b=>.lst (b.map Pz.o)) (ws.map fun i=>.int (i:Nat)) (NBx 0 (b::r)) ((LW (-((U:Nat):Int)) (b::r)).map .int) (ws.sum+2 * n) U (H - 1 - U)) [.int k]=(DN0 (m+1+1)).cI [oGr ((b::r).map fun b=>.lst (b.map Pz.o)) (ws.map fun i=>.int (i:Nat)) (NBx 0 (b::r)) ((LW (-((U:Nat):Int)) (b::r)).map .int) (ws.sum+2 * n) U (H - 1 - U),.int k]:=by simp [oGr,aP]
  rw [hme]
  show bz 4 (cC (DN0 (m+1))) _=_
  have eT:((ws.sum+2 * n:Nat):Int) - 2=(jS ws:Nat):=by unfold jS; omega
  rcases at2 k k1 k2 with ⟨e,ha⟩ | ⟨m',c,low,h1,h3,ha,e⟩
  ·have mb:=pC (jS ws) (by unfold jS; omega)
   have tl:jS ws≤10000:=by unfold jS; omega
   have l1:1+jS ws≤1000000:=by omega
   have l2:1+jS ws+1≤1000000:=by omega
   have l3:jS ws+1+1≤1000000:=by omega
   rw [e]
   unfold oGr
   generalize (LW (-((U:Nat):Int)) (b::r)).map D.int=LL at *
   generalize ((b::r).map fun b=>D.lst (b.map Pz.o))=BO at *
   generalize (ws.map fun i=>D.int (i:Nat))=WW at *
   generalize NBx 0 (b::r)=NN at *
   generalize blank (jS ws)=BT at *
   generalize ws.sum+2 * n=W at *
   simp only [aD,cC,envOf,aW]
   by_cases kz:k=0
   ·have kb:(k == 0)=true:=by simpa using kz
    rw [if_pos kz]
    simp [ha,eT,mb,kb,lt,l1,l2,l3]
   ·have kb:(k == 0)=false:=by simpa using kz
    rw [if_neg kz]
    simp [ha,eT,mb,kb,lt,l1,l2,l3]
  ·have hfc:=fit c (List.mem_of_getElem? h1)
   have br:=tT (n:=n) (bs:=b::r) hfc (by omega) m (by omega) m' low (-((U:Nat):Int)) h1 h3 (NBx 0 (b::r)) (ws.sum+2 * n) U (H - 1 - U) k
   have lb:=nR hfc (by omega) (k - low)
   have l1:1+(gg c ws (k - low)).length≤1000000:=by omega
   have l2:1+(gg c ws (k - low)).length+1≤1000000:=by omega
   have l3:(gg c ws (k - low)).length+1+1≤1000000:=by omega
   rw [e]
   unfold oGr at br ⊢
   generalize (LW (-((U:Nat):Int)) (b::r)).map D.int=LL at *
   generalize ((b::r).map fun b=>D.lst (b.map Pz.o))=BO at *
   generalize (ws.map fun i=>D.int (i:Nat))=WW at *
   generalize NBx 0 (b::r)=NN at *
   generalize gg c ws (k - low)=BT at *
   generalize ws.sum+2 * n=W at *
   simp only [aD,cC,envOf,aW]
   by_cases kz:k=0
   ·have kb:(k == 0)=true:=by simpa using kz
    rw [if_pos kz]
    simp [-jN, -qO,bA,ha,kb,br,l1,l2,l3]
   ·have kb:(k == 0)=false:=by simpa using kz
    rw [if_neg kz]
    simp [-jN, -qO,bA,ha,kb,br,l1,l2,l3]
end
def pG:List Nat:=[33,34,35,36,38,39,40,41,42,43,44,45,46,47,48,49,50,51,52,53,54,55,56,57,58,59,60,61,62,63,64,65,66,67,68,69,70,71,72,73,74,75,76,77,78,79,80,81,82,83,84,85,86,87,88,89,90,91,92,93,94,95,96]++[97,98,99,100,101,102,103,104,105,106,107,108,109,110,111,112,113,114,115,116,117,118,119,120,121,122,123,124,125,126]
theorem oz (c:Int):∃ x:Nat,cq [.int c]=some (.str [x]):=by
 have m1:=ey c 48271 (by decide)
 have m2:=cY (c * 48271) 2147483647 (by decide)
 have m3:=cY (c * 48271 % 2147483647) 93 (by decide)
 obtain ⟨k,x,hk,hx, -⟩:=Bl pG 93 (c * 48271 % 2147483647) (by decide) (by decide)
 simp only [Int.cast_ofNat_Int] at hk
 rw [hk] at m3
 generalize c * 48271 % 2147483647=N at m2 m3
 generalize c * 48271=N' at m1 m2
 have ax:=(kS pG k).trans hx
 refine ⟨x, ?_⟩
 have ha:bC (.str [33,34,35,36,38,39,40,41,42,43,44,45,46,47,48,49,50,51,52,53,54,55,56,57,58,59,60,61,62,63,64,65,66,67,68,69,70,71,72,73,74,75,76,77,78,79,80,81,82,83,84,85,86,87,88,89,90,91,92,93,94,95,96]) (.str [97,98,99,100,101,102,103,104,105,106,107,108,109,110,111,112,113,114,115,116,117,118,119,120,121,122,123,124,125,126])=some (.str pG):=rfl
 have hl:pG.length≤1000000:=by decide
 generalize pG=SS at ha ax hl
 simp only [cq,aD,jh,envOf]
 simp [-sW,ha,m1,m2,m3,ax,hl]
theorem join_one:∀ zs:List Nat,gi [] (zs.map fun x=>[x])=zs
 | []=>rfl
 | [x]=>rfl
 | x::y::zs=>by
  have:=join_one (y::zs)
  show [x]++[]++gi [] ((y::zs).map fun x=>[x])=_
  rw [this]; rfl
theorem zX (xs:List Nat)(h:xs.length≤1000):jK (.str []) (.lst ((xs.map fun x=>[x]).map .str))=some (.str xs):=by
 have hs:((xs.map fun x=>[x]).map List.length).sum=xs.length:=by
  rw [List.map_map]
  have:(List.length ∘ fun x:Nat=>[x])=fun _=>1:=rfl
  rw [this,List.map_const',List.sum_replicate_nat]; simp
 rw [ia,lh,bV,hs,if_pos (by simp; omega),join_one]
theorem wF {fe:FE}{env:aN}(h:∀ k:Nat,k<100→∃ e x,aQ 0 (.int (k:Nat)) env=some e∧fe e=some (.str [x])):∀ ks:List Nat,(∀ k∈ks,k<100)→∃ zs:List Nat,zs.length=ks.length∧bf (aQ 0) bU fe env (ks.map fun k=>.int (k:Nat))=some ((zs.map fun x=>[x]).map .str)
 | [],_=>⟨[],rfl,rfl⟩
 | k::ks,hk=>by
  obtain ⟨e,x,h1,h2⟩:=h k (hk k List.mem_cons_self)
  obtain ⟨zs,g1,g2⟩:=wF h ks fun j hj=>hk j (List.mem_cons_of_mem _ hj)
  exact ⟨x::zs,by simp [g1],by rw [List.map_cons]; exact bP h1 rfl h2 g2⟩
theorem wG {fe:FE}{env:aN}(h:∀ k:Nat,k<100→∃ e x,aQ 0 (.int (k:Nat)) env=some e∧fe e=some (.str [x]))(m:Nat)(hm:m≤100):∃ zs:List Nat,zs.length=m∧bf (aQ 0) bU fe env (cb 0 m)=some ((zs.map fun x=>[x]).map .str):=by
 obtain ⟨zs,h1,h2⟩:=wF h (List.range m) (fun k hk=>by have:=List.mem_range.mp hk; omega)
 have e:cb 0 m=(List.range m).map fun k=>D.int (k:Nat):=by unfold cb; simp
 exact ⟨zs,by simpa using h1,by rw [e]; exact h2⟩
theorem zY (m:Nat)(hm:m≤100):(cb 0 m).length≤1000000:=by unfold cb; simp; omega
theorem zZ (c:Int)(m:Nat)(hm:m≤100):∃ xs:List Nat,xs.length=m∧gO [.int c,.int (m:Nat)]=some (.str xs):=by
 obtain ⟨xs,h1,h2⟩:=wG (fe:=gb) (env:=[.no,.val (.int c)]) (fun k hk=>by
  obtain ⟨x,hx⟩:=oz (c+97 * (k:Int) * (k:Int))
  have m1:=ey 97 (k:Int) (by omega)
  have m2:=ey (97 * (k:Int)) (k:Int) (by omega)
  exact ⟨[.val (.int (k:Nat)),.val (.int c)],x,by simp,by simp [gb,m1,m2,hx]⟩) m hm
 have hr:j9 [.int (m:Nat)]=some (cb 0 m):=oj rfl (by omega)
 have hl:=zY m hm
 have hj:=zX xs (by omega)
 have hcap:∀ a b:Slot,eD 1 [0] [a,b]=[.no,a]:=fun _ _=>rfl
 refine ⟨xs,h1, ?_⟩
 generalize (xs.map fun x=>[x]).map D.str=XX at *
 simp only [gO,aD,iF,envOf]
 simp [-ia,hr,hl,hcap,h2,hj]
structure St where
 kd:D
 p:Pz
 sm:D
 x:D
 dp:Nat
 sz:Nat
def St.e (t:St):D:=.tup [t.kd,t.p.o,t.sm,t.x]
def St.dat (t:St):D:=.tup [t.e,.int (t.dp:Nat),.int (t.sz:Nat)]
structure St.Ok (t:St):Prop where
 sk:Sk (3 * t.dp) t.p.o t.p.f t.p.u t.p.d t.p.w
 hw:t.p.w≤12 * t.sz
 hl:t.p.u+t.p.d+1≤t.sz
 d1:1≤t.dp
 d8:t.dp≤8
 s40:t.sz≤40
theorem St.Ok.pz {t:St}(h:t.Ok){M:Nat}(hM:t.dp≤M):t.p.Ok (3 * M):=⟨h.sk.mono (by omega),by have:=h.hl; have:=h.s40; omega,by have:=h.hw; have:=h.s40; omega⟩
theorem wH (c:Int):∃ t:St,t.Ok∧t.sz≤5∧eR [.int c]=some t.dat:=by
 have m1:=ey c 1099087573 (by decide)
 have m2:=cY (c * 1099087573) 10000000000037 (by decide)
 generalize c * 1099087573=N' at m1 m2
 generalize N' % 10000000000037=n at m2
 obtain ⟨w,hw,hw7⟩:=fF (n / 4) 7 (by decide)
 obtain ⟨z8,hz8,hz88⟩:=fF (n / 4) 8 (by decide)
 obtain ⟨u,hu,hu4⟩:=fF (n / 28) 3 (by decide)
 obtain ⟨d,hd,hd4⟩:=fF (n / 84) 3 (by decide)
 obtain ⟨q,hq,hq4⟩:=fF n 4 (by decide)
 simp only [Int.cast_ofNat_Int] at hw hu hd hq hz8
 have a1:=f7 n 4 (by decide)
 have a2:=f7 n 28 (by decide)
 have a3:=f7 n 84 (by decide)
 have b1:=cY (n / 4) 7 (by decide)
 have b5:=cY (n / 4) 8 (by decide)
 have b2:=cY (n / 28) 3 (by decide)
 have b3:=cY (n / 84) 3 (by decide)
 have b4:=cY n 4 (by decide)
 rw [hw] at b1; rw [hu] at b2; rw [hd] at b3; rw [hq] at b4; rw [hz8] at b5
 by_cases h2:q<3
 ·have h2':(q:Int)<3:=by omega
  obtain ⟨xs,h1,hc⟩:=wG (fe:=gG) (env:=[.no,.val (.int n)]) (fun k hk=>by
   obtain ⟨x,hx⟩:=oz (n / 32+37 * (k:Int) * (k:Int))
   have f1:=f7 n 32 (by decide)
   have m1:=ey 37 (k:Int) (by omega)
   have m2:=ey (37 * (k:Int)) (k:Int) (by omega)
   exact ⟨[.val (.int (k:Nat)),.val (.int n)],x,by simp,by simp [gG,f1,m1,m2,hx]⟩) (z8+1) (by omega)
  have hr:j9 [.int (1+(z8:Int))]=some (cb 0 (z8+1)):=oj (by omega) (by omega)
  have hl:=zY (z8+1) (by omega)
  have hj:=zX xs (by omega)
  have mk:=CT xs (by omega)
  have hcap:∀ a b:Slot, ∀ l,eD 1 [1] (a::b::l)=[.no,b]:=fun _ _ _=>rfl
  refine ⟨⟨.str [119,111,114,100],⟨oWd xs,_,0,0,xs.length⟩,.lst [],.str xs,1,1⟩,⟨(wu xs (by omega)).mono (show 1≤3 * 1 by decide),by show xs.length≤12 * 1; omega,by show 0+0+1≤1; decide,by show 1≤1; decide,by show 1≤8; decide,by show 1≤40; decide⟩,by show 1≤5; decide, ?_⟩
  generalize (xs.map fun x=>[x]).map D.str=XX at *
  simp only [eR,aD,ig,envOf]
  simp [-ia,m1,m2,a1,b4,b5,h2',hr,hl,hcap,hc,hj,mk]
  rfl
 ·have h2' : ¬ (q:Int)<3:=by omega
  have mk:=jQ 0 w u d
  refine ⟨⟨.str [112,108,97,105,110],⟨oSk w u d,_,u,d,w⟩,.lst [],.str [],1,u+d+1⟩,⟨(zO w u d (by omega) (by omega)).mono (show 1≤3 * 1 by decide),by show w≤12 * (u+d+1); omega,by show u+d+1≤u+d+1; omega,by show 1≤1; decide,by show 1≤8; decide,by show u+d+1≤40; omega⟩,by show u+d+1≤5; omega, ?_⟩
  simp only [eR,aD,ig,envOf]
  simp [m1,m2,a1,a2,a3,b1,b2,b3,b4,h2',mk]
  rfl
theorem lB {fe:FE}{env:aN}(pr g:St→D)(h:∀ t:St, ∃ e,aQ 0 (pr t) env=some e∧fe e=some (g t)):∀ ts:List St,bf (aQ 0) bU fe env (ts.map pr)=some (ts.map g)
 | []=>rfl
 | t::ts=>by
  obtain ⟨e,h1,h2⟩:=h t
  exact bP h1 rfl h2 (lB pr g h ts)
def bu (ts:List St):Nat:=(ts.map St.sz).sum
theorem CW:∀ ts:List St,(∀ t∈ts,t.Ok)→wOf (ts.map St.p)≤12 * bu ts+3 * ts.length
 | [],_=>by simp [wOf,bu]
 | t::ts,h=>by
  have ih:=CW ts fun q hq=>h q (List.mem_cons_of_mem _ hq)
  have:=(h t List.mem_cons_self).hw
  simp only [wOf,bu,List.map_cons,List.sum_cons,List.length_cons] at *
  omega
theorem A0:∀ (ts:List St) (t:St),t∈ts→t.sz≤bu ts
 | s::ts,t,h=>by
  simp only [bu,List.map_cons,List.sum_cons]
  rcases List.mem_cons.mp h with rfl | h
  ·omega
  ·have:=A0 ts t h
   simp only [bu] at this
   omega
theorem CY (ts:List St)(h:∀ t∈ts,t.Ok)(h0:ts≠[]):hZ (ts.map St.p)+kC (ts.map St.p)+1≤bu ts:=by
 obtain ⟨t0,r,rfl⟩:∃ t r,ts=t::r:=by cases ts with | nil=>exact absurd rfl h0 | cons t r=>exact ⟨t,r,rfl⟩
 have hu:hZ ((t0::r).map St.p)∈(((t0::r).map St.p).map Pz.u):=by rw [List.map_cons,List.map_cons]; exact jR _ _
 have hd:kC ((t0::r).map St.p)∈(((t0::r).map St.p).map Pz.d):=by rw [List.map_cons,List.map_cons]; exact jR _ _
 rw [List.map_map] at hu hd
 obtain ⟨a,ha,ea⟩:=List.mem_map.mp hu
 obtain ⟨b,hb,eb⟩:=List.mem_map.mp hd
 rw [← ea, ← eb]
 show a.p.u+b.p.d+1≤_
 generalize t0::r=ts at *
 clear hu hd ea eb h0
 induction ts with
 | nil=>cases ha
 | cons s ts ih =>
  have hs:=h s List.mem_cons_self
  have ht:∀ t∈ts,t.Ok:=fun t q=>h t (List.mem_cons_of_mem _ q)
  simp only [bu,List.map_cons,List.sum_cons]
  rcases List.mem_cons.mp ha with rfl | ha'
  ·rcases List.mem_cons.mp hb with rfl | hb'
   ·have:=hs.hl; omega
   ·have:=A0 ts b hb'
    have:=(ht b hb').hl
    have:=hs.hl
    simp only [bu] at *
    omega
  ·rcases List.mem_cons.mp hb with rfl | hb'
   ·have:=A0 ts a ha'
    have:=(ht a ha').hl
    have:=hs.hl
    simp only [bu] at *
    omega
   ·have:=ih ht ha' hb'
    simp only [bu] at *
    omega
theorem pH (t:St)(ts:List St)(c:Int)(ok:∀ s∈t::ts,s.Ok)(hl:ts.length≤60)(hs:bu (t::ts)≤300)(M:Nat)(hM:∀ s∈t::ts,s.dp≤M):∃ s:St,dB [.lst ((t::ts).map St.e),.int c]=some s.e∧Sk (3 * M+2) s.p.o s.p.f s.p.u s.p.d s.p.w∧s.p.w≤12 * bu (t::ts)+3 * ts.length∧s.p.u+s.p.d+1≤bu (t::ts):=by
 obtain ⟨xs,hx,sg⟩:=zZ c ts.length (by omega)
 have okp:∀ q∈t.p::ts.map St.p,q.Ok (3 * M):=fun q hq=>by
  rw [← List.map_cons (f:=St.p)] at hq
  obtain ⟨s,h1,rfl⟩:=List.mem_map.mp hq
  exact (ok s h1).pz (hM s h1)
 have hw:t.p.w+wOf (ts.map St.p)≤12 * bu (t::ts)+3 * ts.length:=by
  have:=CW ts fun q hq=>ok q (List.mem_cons_of_mem _ hq)
  have:=(ok t List.mem_cons_self).hw
  simp only [bu,List.map_cons,List.sum_cons] at *
  omega
 have mk:=Hi t.p (ts.map St.p) xs okp (by simp; omega)
 have sk:=zR t.p (ts.map St.p) xs (by simp [hx]) okp (by simp; omega) (by omega)
 have ud:=CY (t::ts) ok (by simp)
 have ce:=lB (fe:=fc) (env:=[.no]) St.e (fun s=>s.p.o) (fun s=>⟨[.val s.e],rfl,by simp [fc,St.e]⟩) (t::ts)
 have ee:((t::ts).map fun s=>s.p.o)=(t.p::ts.map St.p).map Pz.o:=by simp
 rw [ee] at ce
 rw [List.map_cons] at ud
 refine ⟨⟨.str [99,104,97,105,110],⟨oCh (t.p.w+wOf (ts.map St.p)) (hZ (t.p::ts.map St.p)) (kC (t.p::ts.map St.p)) ((t.p::ts.map St.p).map Pz.o) xs,_,_,_,_⟩,.lst ((t::ts).map St.e),.str xs,0,0⟩, ?_,sk,hw,ud⟩
 have hcap0:∀ l,eD 1 [] l=[.no]:=fun _=>rfl
 have hlen:((t::ts).map St.e).length≤1000000:=by simp; omega
 have hle:(((t::ts).map St.e).length:Int) - 1=(ts.length:Int):=by simp
 unfold St.e oCh
 generalize hE:(t::ts).map St.e=EE at *
 generalize (t.p::ts.map St.p).map Pz.o=PO at *
 generalize hZ (t.p::ts.map St.p)=U at *
 generalize kC (t.p::ts.map St.p)=V at *
 generalize t.p.w+wOf (ts.map St.p)=W at *
 have hE':(t::ts).map (fun t=>D.tup [t.kd,t.p.o,t.sm,t.x])=EE:=hE
 rw [hE']
 simp only [dB,aD,gA,envOf]
 simp [hlen,hle,sg,hcap0,ce,mk]
structure Md (e:D)(M S:Nat):Prop where
 ex:∃ (kd sm x:D) (p:Pz),e=.tup [kd,p.o,sm,x]∧Sk (3 * M+3) p.o p.f p.u p.d p.w∧p.w≤12 * S+12∧p.u+p.d+1≤S+1
theorem nS {M S:Nat}{kd sm x o:D}{f:Int→List Nat}{u d w:Nat}(sk:Sk (3 * M+3) o f u d w)(hw:w≤12 * S+12)(hl:u+d+1≤S+1):Md (.tup [kd,o,sm,x]) M S:=⟨kd,sm,x,⟨o,f,u,d,w⟩,rfl,sk,hw,hl⟩
section
variable {M:Nat}{c:Int}
theorem o4 (t:St):ixD t.e (.int 1)=some t.p.o:=by simp [St.e]
theorem iO {n:Nat}{o:D}{f:Int→List Nat}{u d w:Nat}(h:Sk n o f u d w):Mq n o f u d w (u+d+1):=⟨.inr ⟨rfl,h⟩⟩
theorem oA (n:Nat):Mq n .non (fun _=>[]) 0 0 0 0:=⟨.inl ⟨rfl,rfl,rfl⟩⟩
theorem Hn (t:St)(ts:List St)(ok:∀ s∈t::ts,s.Ok)(hl:ts.length≤4)(hs:bu (t::ts)≤39)(hM:∀ s∈t::ts,s.dp≤M):∃ e,aY [.int 0,.lst ((t::ts).map St.e),.int c]=some e∧Md e M (bu (t::ts)):=by
 obtain ⟨s,h1,h2,h3,h4⟩:=pH t ts c ok (by omega) (by omega) M hM
 refine ⟨s.e, ?_,⟨s.kd,s.sm,s.x,s.p,rfl,h2.mono (by omega),by omega,by omega⟩⟩
 have e0:((t::ts).map St.e)[0]?=some t.e:=rfl
 have ix:=o4 t
 generalize s.e=E at *
 generalize (t::ts).map St.e=EE at *
 generalize t.e=E0 at *
 simp only [aY,aD,cJ,envOf]
 simp [e0,ix,h1]
theorem Ho (t s:St)(ht:t.Ok)(hs:s.Ok)(h1:t.dp≤M)(h2:s.dp≤M):∃ e,aY [.int 1,.lst [t.e,s.e],.int c]=some e∧Md e M (bu [t,s]):=by
 have a:=(ht.pz h1).sk
 have b:=(hs.pz h2).sk
 have w1:=ht.hw; have w2:=hs.hw; have l1:=ht.hl; have l2:=hs.hl; have s1:=ht.s40; have s2:=hs.s40
 have mk:=Hf a b
 have sk:=BH a b (by omega) (by omega)
 refine ⟨_, ?_,nS (kd:=.str [111,118,101,114]) (sm:=.lst [t.e,s.e]) (x:=.str []) (sk.mono (by omega)) (by simp [bu]; omega) (by simp [bu]; omega)⟩
 have ix:=o4 t
 have iy:=o4 s
 unfold oOv
 generalize max t.p.w s.p.w+2=W at *
 generalize t.p.u+t.p.d+1=A at *
 generalize s.p.u+s.p.d+1=B at *
 generalize t.e=E0 at *
 generalize s.e=E1 at *
 simp only [aY,aD,cJ,envOf]
 simp [ix,iy,mk]
theorem Hq (t:St)(ht:t.Ok)(h1:t.dp≤M):∃ e,aY [.int 2,.lst [t.e],.int c]=some e∧Md e M (bu [t]):=by
 have a:=(ht.pz h1).sk
 have w1:=ht.hw; have l1:=ht.hl; have s1:=ht.s40
 have mk:=Hc a
 have sk:=BE a (by omega) (by omega)
 refine ⟨_, ?_,nS (kd:=.str [114,111,111,116]) (sm:=.lst [t.e]) (x:=.str []) (sk.mono (by omega)) (by simp [bu]; omega) (by simp [bu]; omega)⟩
 have ix:=o4 t
 unfold oRt
 generalize t.p.w+2=W at *
 generalize t.p.u+1=A at *
 generalize t.e=E0 at *
 simp only [aY,aD,cJ,envOf]
 simp [ix,mk]
theorem Hr (t:St)(ht:t.Ok)(h1:t.dp≤M):∃ e,aY [.int 3,.lst [t.e],.int c]=some e∧Md e M (bu [t]):=by
 have a:=(ht.pz h1).sk
 have w1:=ht.hw; have l1:=ht.hl; have s1:=ht.s40
 obtain ⟨x,hx⟩:=oz c
 have mk:=Hd x a
 have sk:=EG x a (by omega)
 refine ⟨_, ?_,nS (kd:=.str [108,101,100]) (sm:=.lst [t.e]) (x:=.str [x]) (sk.mono (by omega)) (by simp [bu]; omega) (by simp [bu]; omega)⟩
 have ix:=o4 t
 unfold oLd
 generalize t.p.w+2=W at *
 generalize t.e=E0 at *
 simp only [aY,aD,cJ,envOf]
 simp [ix,hx,mk]
theorem Hs (t:St)(ht:t.Ok)(h1:t.dp≤M):∃ e,aY [.int 5,.lst [t.e],.int c]=some e∧Md e M (bu [t]):=by
 have a:=(ht.pz h1).sk
 have w1:=ht.hw; have l1:=ht.hl; have s1:=ht.s40
 have mk:=He a
 have sk:=BF a (by omega)
 refine ⟨_, ?_,nS (kd:=.str [104,101,108,100]) (sm:=.lst [t.e]) (x:=.str []) (sk.mono (by omega)) (by simp [bu]; omega) (by simp [bu]; omega)⟩
 have ix:=o4 t
 unfold oHe
 generalize t.p.w+2=W at *
 generalize t.e=E0 at *
 simp only [aY,aD,cJ,envOf]
 simp [ix,mk]
theorem Ht (t s:St)(ht:t.Ok)(hs:s.Ok)(h1:t.dp≤M)(h2:s.dp≤M):∃ e,aY [.int 4,.lst [t.e,s.e],.int c]=some e∧Md e M (bu [t,s]):=by
 have a:=(ht.pz h1).sk
 have b:=(hs.pz h2).sk
 have w1:=ht.hw; have w2:=hs.hw; have l1:=ht.hl; have l2:=hs.hl; have s1:=ht.s40; have s2:=hs.s40
 have ix:=o4 t
 have iy:=o4 s
 obtain ⟨q,hq,hq2⟩:=fF c 2 (by decide)
 have m2:=cY c 2 (by decide)
 simp only [Int.cast_ofNat_Int] at hq
 rw [hq] at m2
 by_cases z:q=0
 ·subst z
  have mk:=zQ a (iO b) (oA _)
  have sk:=nh a (iO b) (oA _) (by omega) (by omega)
  refine ⟨_, ?_,nS (kd:=.str [109,97,114,107,101,100]) (sm:=.lst [t.e,s.e]) (x:=.str [114,97,105,115,101,100]) (sk.mono (by omega)) (by simp [bu]; omega) (by simp [bu]; omega)⟩
  unfold oMa
  generalize t.p.w+max s.p.w 0=W at *
  generalize t.p.u+(s.p.u+s.p.d+1)=A at *
  generalize t.p.d+0=B at *
  generalize t.e=E0 at *
  generalize s.e=E1 at *
  simp only [aY,aD,cJ,envOf]
  simp [ix,iy,mk,m2]
 ·have qz:((q:Int) == 0)=false:=by simp; omega
  have mk:=zQ a (oA _) (iO b)
  have sk:=nh a (oA _) (iO b) (by omega) (by omega)
  refine ⟨_, ?_,nS (kd:=.str [109,97,114,107,101,100]) (sm:=.lst [t.e,s.e]) (x:=.str [108,111,119,101,114,101,100]) (sk.mono (by omega)) (by simp [bu]; omega) (by simp [bu]; omega)⟩
  unfold oMa
  generalize t.p.w+max 0 s.p.w=W at *
  generalize t.p.d+(s.p.u+s.p.d+1)=A at *
  generalize t.p.u+0=B at *
  generalize t.e=E0 at *
  generalize s.e=E1 at *
  simp only [aY,aD,cJ,envOf]
  simp [ix,iy,mk,m2,qz]
theorem Hu (t s r:St)(ht:t.Ok)(hs:s.Ok)(hr:r.Ok)(h1:t.dp≤M)(h2:s.dp≤M)(h3:r.dp≤M):∃ e,aY [.int 7,.lst [t.e,s.e,r.e],.int c]=some e∧Md e M (bu [t,s,r]):=by
 have a:=(ht.pz h1).sk
 have b:=(hs.pz h2).sk
 have g:=(hr.pz h3).sk
 have w1:=ht.hw; have w2:=hs.hw; have l1:=ht.hl; have l2:=hs.hl; have s1:=ht.s40; have s2:=hs.s40; have w3:=hr.hw; have l3:=hr.hl; have s3:=hr.s40
 have ix:=o4 t
 have iy:=o4 s
 have iz:=o4 r
 have mk:=zQ a (iO b) (iO g)
 have sk:=nh a (iO b) (iO g) (by omega) (by omega)
 refine ⟨_, ?_,nS (kd:=.str [109,97,114,107,101,100]) (sm:=.lst [t.e,s.e,r.e]) (x:=.str [114,97,105,115,101,100,32,108,111,119,101,114,101,100]) (sk.mono (by omega)) (by simp [bu]; omega) (by simp [bu]; omega)⟩
 unfold oMa
 generalize t.p.w+max s.p.w r.p.w=W at *
 generalize t.p.u+(s.p.u+s.p.d+1)=A at *
 generalize t.p.d+(r.p.u+r.p.d+1)=B at *
 generalize t.e=E0 at *
 generalize s.e=E1 at *
 generalize r.e=E2 at *
 simp only [aY,aD,cJ,envOf]
 simp [ix,iy,iz,mk]
end
theorem rV (b:List Pz):(List.range b.length).map (fun i=>wAt i b)=b.map Pz.w:=by
 apply List.ext_getElem?
 intro i
 rw [List.getElem?_map,List.getElem?_map]
 by_cases h:i<b.length
 ·rw [List.getElem?_range h,List.getElem?_eq_getElem h]
  simp [wAt,h]
 ·rw [List.getElem?_eq_none (by simp; omega),List.getElem?_eq_none (by omega)]; rfl
theorem rW (f g:Nat→Nat)(h:∀ i,f i≤g i):∀ l:List Nat,(l.map f).sum≤(l.map g).sum
 | []=>by simp
 | a::l=>by
  have:=rW f g h l
  have:=h a
  simp only [List.map_cons,List.sum_cons]; omega
theorem sum_add (f g:Nat→Nat):∀ l:List Nat,(l.map fun i=>f i+g i).sum=(l.map f).sum+(l.map g).sum
 | []=>rfl
 | a::l=>by
  have:=sum_add f g l
  simp only [List.map_cons,List.sum_cons,this]; omega
theorem ws1 (n:Nat)(b:List Pz)(h:b.length=n):(iw n [b]).sum≤(b.map Pz.w).sum:=by
 rw [← rV b,h]
 exact rW _ _ (fun i=>by simp [ik]) _
theorem ws2 (n:Nat)(b c:List Pz)(h:b.length=n)(h':c.length=n):(iw n [b,c]).sum≤(b.map Pz.w).sum+(c.map Pz.w).sum:=by
 have e1:=rV b
 have e2:=rV c
 rw [h] at e1
 rw [h'] at e2
 rw [← e1, ← e2, ← sum_add]
 exact rW _ _ (fun i=>by simp [ik]; omega) _
theorem rX:∀ ts:List St,(∀ t∈ts,t.Ok)→((ts.map St.p).map Pz.w).sum≤12 * bu ts
 | [],_=>by simp [bu]
 | t::ts,h=>by
  have ih:=rX ts fun q hq=>h q (List.mem_cons_of_mem _ hq)
  have:=(h t List.mem_cons_self).hw
  simp only [bu,List.map_cons,List.sum_cons] at *
  omega
theorem mF (a b:List St):bu (a++b)=bu a+bu b:=by simp [bu]
theorem wI {M S n:Nat}(hn:1≤n)(h3:n≤3)(b:List Pz)(r:List (List Pz))(hb:∀ q∈b::r,Bd (3 * M) n q)(hr:r.length≤8)(H:Nat)(hH:(NBx 0 (b::r)).length=H)(H1:1≤H)(hS:H≤S+1)(hS9:S≤39)(hW:(iw n (b::r)).sum≤12 * S)(kd sm x:D) :
  ∃ o,lA 8 [.lst ((b::r).map fun b=>.lst (b.map Pz.o))]=some ([13,14,15,0,1,2,16],o)∧Md (.tup [kd,.ob 8 [13,14,15,0,1,2,16] o,sm,x]) M S:=by
 have mk:=Hm hn (by omega) b r hb hr H hH H1 (by omega)
 have sk:=BM hn (by omega) b r hb hr H hH H1 (by omega) _ rfl _ rfl
 exact ⟨_,mk,nS (sk.mono (by omega)) (by omega) (by omega)⟩
section
variable {M:Nat}{c:Int}
theorem rY (ts:List St)(n:Nat)(hl:ts.length=n)(ok:∀ t∈ts,t.Ok)(hM:∀ t∈ts,t.dp≤M):Bd (3 * M) n (ts.map St.p):=⟨by rw [List.length_map,hl],fun q hq=>by
 obtain ⟨t,ht,rfl⟩:=List.mem_map.mp hq
 exact (ok t ht).pz (hM t ht)⟩
theorem vi (ts:List St)(h:∀ t∈ts,t.Ok)(h0:ts≠[]):hgt (ts.map St.p)≤bu ts:=by
 have:=CY ts h h0
 unfold hgt; omega
theorem ce2 (ts us:List St)(at_ W:Nat)(h:(ts.drop at_).take W=us)(hl:ts.length≤100):fD [.val (.int (at_:Nat)),.val (.lst (ts.map St.e)),.val (.int (W:Nat))]=some (.lst (us.map fun t=>t.p.o)):=by
 have ce:=lB (fe:=gF) (env:=[.no]) St.e (fun s=>s.p.o) (fun s=>⟨[.val s.e],rfl,by simp [gF,St.e]⟩) us
 have ct:cutD (ts.map St.e) (some ((at_:Nat):Int)) (some ((at_:Int)+(W:Int)))=us.map St.e:=by
  have:=B6 (ts.map St.e) at_ (at_+W)
  rw [show ((at_+W:Nat):Int)=(at_:Int)+(W:Int) by omega] at this
  rw [this,Nat.add_sub_cancel_left, ← List.map_drop, ← List.map_take,h]
 have hcap0:∀ l,eD 1 [] l=[.no]:=fun _=>rfl
 have hul:(us.map St.e).length≤1000000:=by rw [← h]; simp; omega
 generalize (us.map fun t=>t.p.o)=UO at *
 generalize us.map St.e=UE at *
 generalize ts.map St.e=TE at *
 simp [fD,ct,hul,hcap0,ce]
theorem Hv (ts:List St)(R W:Nat)(hR:(1+c % 2:Int)=R)(hW:(1+c / 2 % 3:Int)=W)(hl:ts.length=R * W)(ok:∀ t∈ts,t.Ok)(hs:bu ts≤39)(hM:∀ t∈ts,t.dp≤M):∃ e,aY [.int 6,.lst (ts.map St.e),.int c]=some e∧Md e M (bu ts):=by
 have a1:=f7 c 2 (by decide)
 have a2:=cY (c / 2) 3 (by decide)
 have hW1:1≤W:=by omega
 have hW3:W≤3:=by omega
 have hR12:R=1∨R=2:=by omega
 have hts:ts.length≤6:=by
  rw [hl]
  rcases hR12 with rfl | rfl <;> omega
 obtain ⟨t0,tr,e0⟩:∃ t r,ts=t::r:=by
  cases ts with
  | nil=>rcases hR12 with rfl | rfl <;> simp at hl <;> omega
  | cons t r=>exact ⟨t,r,rfl⟩
 have ix:=o4 t0
 have hi0:(ts.map St.e)[0]?=some t0.e:=by rw [e0]; rfl
 have hel:(ts.map St.e).length=R * W:=by rw [List.length_map,hl]
 have hst:(0:Int)≤(W:Int)∧(W:Int)<1000000000000:=by omega
 have hcap:∀ a b c' d e f:Slot,eD 1 [1,4] [a,b,c',d,e,f]=[.no,b,e]:=fun _ _ _ _ _ _=>rfl
 have fin:∀ (L BO:List D),uZ [.int 0,.int ((R * W:Nat):Int),.int (W:Nat)]=some L→L.length≤1000000→bf (aQ 0) bU fD [.no,.val (.lst (ts.map St.e)),.val (.int (W:Nat))] L=some BO→∀ o,lA 8 [.lst BO]=some ([13,14,15,0,1,2,16],o)→aY [.int 6,.lst (ts.map St.e),.int c]=some (.tup [.str [103,114,105,100],.ob 8 [13,14,15,0,1,2,16] o,.lst (ts.map St.e),.str (vd (W:Int))]):=by
  intro L BO h1 h2 h3 o h4
  have hel':((ts.map St.e).length:Int)=((R * W:Nat):Int):=by rw [hel]
  have hel6:(ts.map St.e).length≤1000000:=by rw [List.length_map]; omega
  generalize ts.map St.e=TE at *
  generalize t0.e=E0 at *
  generalize R * W=RW at *
  simp only [aY,aD,cJ,envOf]
  simp [hi0,ix,a1,a2,hW,hel',hel6,h1,h2,hcap,h3,h4,hst]
 have hok:=ok
 rcases hR12 with rfl | rfl
 ·have hl1:ts.length=W:=by omega
  have hb:=rY ts W hl1 ok hM
  obtain ⟨o,g1,g2⟩:=wI (M:=M) (S:=bu ts) hW1 hW3 (ts.map St.p) [] (fun q hq=>by rw [List.mem_singleton.mp hq]; exact hb) (by simp) _ rfl (by
   have:=(hb.hle hW1).2.1
   simpa [NBx] using this) (by
   have:=vi ts ok (by rw [e0]; simp)
   simp [NBx]; omega) hs (by
   have:=ws1 W (ts.map St.p) (by simp [hl1])
   have:=rX ts ok
   omega) (.str [103,114,105,100]) (.lst (ts.map St.e)) (.str (vd (W:Int)))
  refine ⟨_,fin [.int ((0:Nat):Int)] [.lst ((ts.map St.p).map Pz.o)] ?_ (by simp) ?_ o g1,g2⟩
  ·have c:(-1000000000<(0:Int)∧(0:Int)<1000000000)∧(-1000000000<((1 * W:Nat):Int)∧((1 * W:Nat):Int)<1000000000)∧0<(W:Int)∧(W:Int)<1000000000:=by omega
   rw [w9,if_pos c]
   have:W=1∨W=2∨W=3:=by omega
   rcases this with rfl | rfl | rfl <;> rfl
  ·have:=ce2 ts ts 0 W (by rw [List.drop_zero,List.take_of_length_le (by omega)]) (by omega)
   rw [show ((ts.map St.p).map Pz.o)=ts.map fun t=>t.p.o by simp]
   exact bP rfl rfl this rfl
 ·have hl1:(ts.take W).length=W:=by rw [List.length_take]; omega
  have hl2:(ts.drop W).length=W:=by rw [List.length_drop]; omega
  have ok1:∀ t∈ts.take W,t.Ok:=fun t ht=>ok t (List.mem_of_mem_take ht)
  have ok2:∀ t∈ts.drop W,t.Ok:=fun t ht=>ok t (List.mem_of_mem_drop ht)
  have hb1:=rY (ts.take W) W hl1 ok1 fun t ht=>hM t (List.mem_of_mem_take ht)
  have hb2:=rY (ts.drop W) W hl2 ok2 fun t ht=>hM t (List.mem_of_mem_drop ht)
  have hsum:bu ts=bu (ts.take W)+bu (ts.drop W):=by rw [← mF,List.take_append_drop]
  obtain ⟨o,g1,g2⟩:=wI (M:=M) (S:=bu ts) hW1 hW3 ((ts.take W).map St.p) [(ts.drop W).map St.p] (fun q hq=>by
   rcases List.mem_cons.mp hq with rfl | hq
   ·exact hb1
   ·rw [List.mem_singleton.mp hq]; exact hb2) (by simp) _ rfl (by
   have:=(hb1.hle hW1).2.1
   simp only [NBx,List.length_append,List.length_replicate,List.length_cons]; omega) (by
   have h1:=vi (ts.take W) ok1 (by intro z; rw [z] at hl1; simp at hl1; omega)
   have h2:=vi (ts.drop W) ok2 (by intro z; rw [z] at hl2; simp at hl2; omega)
   simp only [NBx,List.length_append,List.length_replicate,List.length_cons]; omega) hs (by
   have:=ws2 W ((ts.take W).map St.p) ((ts.drop W).map St.p) (by simpa using hl1) (by simpa using hl2)
   have:=rX _ ok1
   have:=rX _ ok2
   omega) (.str [103,114,105,100]) (.lst (ts.map St.e)) (.str (vd (W:Int)))
  refine ⟨_,fin [.int ((0:Nat):Int),.int (W:Nat)] [.lst (((ts.take W).map St.p).map Pz.o),.lst (((ts.drop W).map St.p).map Pz.o)] ?_ (by simp) ?_ o g1,g2⟩
  ·have c:(-1000000000<(0:Int)∧(0:Int)<1000000000)∧(-1000000000<((2 * W:Nat):Int)∧((2 * W:Nat):Int)<1000000000)∧0<(W:Int)∧(W:Int)<1000000000:=by omega
   rw [w9,if_pos c]
   have:W=1∨W=2∨W=3:=by omega
   rcases this with rfl | rfl | rfl <;> rfl
  ·have q1:=ce2 ts (ts.take W) 0 W (by rw [List.drop_zero]) (by omega)
   have q2:=ce2 ts (ts.drop W) W W (by rw [List.take_of_length_le (by omega)]) (by omega)
   rw [show (((ts.take W).map St.p).map Pz.o)=(ts.take W).map fun t=>t.p.o by rw [List.map_map]; rfl,show (((ts.drop W).map St.p).map Pz.o)=(ts.drop W).map fun t=>t.p.o by rw [List.map_map]; rfl]
   exact bP rfl rfl q1 (bP rfl rfl q2 rfl)
end
structure Mn (q:Nat)(c:Int)(m:Nat):Prop where
 one:1≤m
 six:m≤6
 z0:q=0→2≤m∧m≤5
 z1:q=1→m=2
 z4:q=4→m=2
 z7:q=7→m=3
 zs:q=2∨q=3∨q=5→m=1
 z6:q=6→∃ R W:Nat,(1+c % 2:Int)=R∧(1+c / 2 % 3:Int)=W∧m=R * W
theorem BN (q:Nat)(c:Int):∃ m:Nat,dC [.int (q:Nat),.int c]=some (.int (m:Nat))∧Mn q c m:=by
 obtain ⟨a,ha,ha4⟩:=fF c 4 (by decide)
 obtain ⟨b,hb,hb2⟩:=fF c 2 (by decide)
 obtain ⟨w,hw,hw3⟩:=fF (c / 2) 3 (by decide)
 simp only [Int.cast_ofNat_Int] at ha hb hw
 have m1:=cY c 4 (by decide)
 have m2:=cY c 2 (by decide)
 have m3:=f7 c 2 (by decide)
 have m4:=cY (c / 2) 3 (by decide)
 rw [ha] at m1; rw [hb] at m2; rw [hw] at m4
 by_cases q0:q=0
 ·subst q0
  refine ⟨2+a, ?_,by omega,by omega,fun _=>by omega,by simp,by simp,by simp,by simp,by simp⟩
  simp [dC,aD,eA,envOf,m1]
 have q0':((q:Int) == 0)=false:=by simpa using q0
 by_cases q1:q=1
 ·subst q1
  exact ⟨2,by simp [dC,aD,eA,envOf],by decide,by decide,by simp,by simp,by simp,by simp,by simp,by simp⟩
 have q1':((q:Int) == 1)=false:=by simp; omega
 by_cases q4:q=4
 ·subst q4
  exact ⟨2,by simp [dC,aD,eA,envOf],by decide,by decide,by simp,by simp,by simp,by simp,by simp,by simp⟩
 have q4':((q:Int) == 4)=false:=by simp; omega
 by_cases q6:q=6
 ·subst q6
  have mm:=ey (1+(b:Int)) (1+(w:Int)) (by omega)
  have e:(1+(b:Int)) * (1+(w:Int))=(((1+b) * (1+w):Nat):Int):=by rw [Int.natCast_mul]; rfl
  rw [e] at mm
  have hb':b=0∨b=1:=by omega
  refine ⟨(1+b) * (1+w), ?_, ?_, ?_,by simp,by simp,by simp,by simp,by simp,fun _=>⟨1+b,1+w,by omega,by omega,rfl⟩⟩
  ·generalize (1+b) * (1+w)=Z at *
   simp [dC,aD,eA,envOf,m2,m3,m4,mm]
  ·rcases hb' with rfl | rfl <;> omega
  ·rcases hb' with rfl | rfl <;> omega
 have q6':((q:Int) == 6)=false:=by simp; omega
 by_cases q7:q=7
 ·subst q7
  exact ⟨3,by simp [dC,aD,eA,envOf],by decide,by decide,by simp,by simp,by simp,by simp,by simp,by simp⟩
 have q7':((q:Int) == 7)=false:=by simp; omega
 exact ⟨1,by simp [dC,aD,eA,envOf,q0',q1',q4',q6',q7'],by decide,by decide,fun z=>absurd z q0,fun z=>absurd z q1,fun z=>absurd z q4,fun z=>absurd z q7,fun _=>rfl,fun z=>absurd z q6⟩
theorem BP {M q m:Nat}{c:Int}(hq:q<8)(mn:Mn q c m)(ss:List St)(hl:ss.length=m)(ok:∀ t∈ss,t.Ok)(hs:bu ss≤39)(hM:∀ t∈ss,t.dp≤M):∃ e,aY [.int (q:Nat),.lst (ss.map St.e),.int c]=some e∧Md e M (bu ss):=by
 have:q=0∨q=1∨q=2∨q=3∨q=4∨q=5∨q=6∨q=7:=by omega
 rcases this with rfl | rfl | rfl | rfl | rfl | rfl | rfl | rfl
 ·obtain ⟨h1,h2⟩:=mn.z0 rfl
  match ss,hl,ok,hs,hM with
  | t::ts,hl,ok,hs,hM=>exact Hn t ts ok (by simp at hl; omega) hs hM
  | [],hl,_,_,_=>simp at hl; omega
 ·have h1:=mn.z1 rfl
  match ss,hl.trans h1,ok,hM with
  | [t,s],_,ok,hM=>exact Ho t s (ok t (by simp)) (ok s (by simp)) (hM t (by simp)) (hM s (by simp))
 ·have h1:=mn.zs (by simp)
  match ss,hl.trans h1,ok,hM with
  | [t],_,ok,hM=>exact Hq t (ok t (by simp)) (hM t (by simp))
 ·have h1:=mn.zs (by simp)
  match ss,hl.trans h1,ok,hM with
  | [t],_,ok,hM=>exact Hr t (ok t (by simp)) (hM t (by simp))
 ·have h1:=mn.z4 rfl
  match ss,hl.trans h1,ok,hM with
  | [t,s],_,ok,hM=>exact Ht t s (ok t (by simp)) (ok s (by simp)) (hM t (by simp)) (hM s (by simp))
 ·have h1:=mn.zs (by simp)
  match ss,hl.trans h1,ok,hM with
  | [t],_,ok,hM=>exact Hs t (ok t (by simp)) (hM t (by simp))
 ·obtain ⟨R,W,h1,h2,h3⟩:=mn.z6 rfl
  exact Hv ss R W h1 h2 (hl.trans h3) ok hs hM
 ·have h1:=mn.z7 rfl
  match ss,hl.trans h1,ok,hM with
  | [t,s,r],_,ok,hM=>exact Hu t s r (ok t (by simp)) (ok s (by simp)) (ok r (by simp)) (hM t (by simp)) (hM s (by simp)) (hM r (by simp))
def dpM (ss:List St):Nat:=if ss=[] then 99 else ik (ss.map St.dp)
theorem EK (ss:List St):n0 (.lst (ss.map fun t=>.int (t.dp:Nat))) (.int 99)=some (.int (dpM ss:Nat)):=by
 cases ss with
 | nil=>rfl
 | cons t r =>
  have:=i5 t.dp (r.map St.dp)
  have e:((t.dp::r.map St.dp).map fun i:Nat=>D.int (i:Nat))=(t::r).map fun t=>.int (t.dp:Nat):=by simp
  rw [e] at this
  have h2:n0 (.lst ((t::r).map fun t=>.int (t.dp:Nat))) (.int 99)=gX (.lst ((t::r).map fun t=>.int (t.dp:Nat))):=by
   show (intsOf _).bind _=(intsOf _).bind _
   have:intsOf ((t::r).map fun t:St=>D.int (t.dp:Nat))=some ((t::r).map fun t=>(t.dp:Int)):=by
    have:=lj ((t::r).map fun t=>(t.dp:Int))
    rw [List.map_map] at this
    exact this
   rw [this]; rfl
  rw [h2,this]; rfl
theorem BQ (ts:List St)(c:Int)(ok:∀ t∈ts,t.Ok)(hl:ts.length≤100):∃ ts':List St,gq [.lst (ts.map St.dat),.int c]=some (ts'.map St.dat)∧(∀ t∈ts',t.Ok)∧ts'.length≤ts.length+1∧bu ts'≤bu ts+5:=by
 obtain ⟨q,hq,hq16⟩:=fF c 16 (by decide)
 simp only [Int.cast_ofNat_Int] at hq
 have m1:=cY c 16 (by decide)
 rw [hq] at m1
 have m2:=f7 c 16 (by decide)
 generalize c / 16=b at m2
 obtain ⟨m,hm,mn⟩:=BN q b
 obtain ⟨L,hL⟩:∃ L:Nat,L=ts.length - m:=⟨_,rfl⟩
 have hmx:(if (ts.length:Int) - (m:Int) > 0 then (ts.length:Int) - (m:Int) else 0)=(L:Int):=by split <;> omega
 have hmy:(if m<ts.length then (ts.length:Int) - (m:Int) else 0)=(L:Int):=by split <;> omega
 obtain ⟨ss,hss⟩:∃ ss,ss=ts.drop L:=⟨_,rfl⟩
 have hsub:∀ t∈ss,t∈ts:=fun t ht=>by rw [hss] at ht; exact List.mem_of_mem_drop ht
 have ct:cutD (ts.map St.dat) (some ((L:Nat):Int)) none=ss.map St.dat:=by rw [sX, ← List.map_drop, ← hss]
 have hsl:ss.length≤100:=by rw [hss,List.length_drop]; omega
 have c1:=lB (fe:=gH) (env:=[.no]) St.dat (fun t=>.int (t.dp:Nat)) (fun t=>⟨[.val t.dat],rfl,by simp [gH,St.dat]⟩) ss
 have c2:=lB (fe:=gI) (env:=[.no]) St.dat (fun t=>.int (t.sz:Nat)) (fun t=>⟨[.val t.dat],rfl,by simp [gI,St.dat]⟩) ss
 have c3:=lB (fe:=gJ) (env:=[.no]) St.dat St.e (fun t=>⟨[.val t.dat],rfl,by simp [gJ,St.dat]⟩) ss
 have dm:=EK ss
 have sm:=pE (ss.map St.sz) (fun a ha=>by
  obtain ⟨t,ht,rfl⟩:=List.mem_map.mp ha
  have:=(ok t (hsub t ht)).s40; omega) (by simp; omega)
 rw [List.map_map] at sm
 change sV (.lst (ss.map fun t=>.int (t.sz:Nat)))=some (.int (bu ss:Nat)) at sm
 obtain ⟨lf,lf1,lf2,lf3⟩:=wH b
 have hcap0:∀ l,eD 1 [] l=[.no]:=fun _=>rfl
 have hdl:(ts.map St.dat).length=ts.length:=by simp
 have hdl6:ts.length≤1000000:=by omega
 have hsl6:(ss.map St.dat).length≤1000000:=by simp; omega
 have hl1:ts.length+1≤1000000:=by omega
 by_cases hc:q<8∧m≤ts.length∧dpM ss≤7∧bu ss+1≤40
 ·obtain ⟨h1,h2,h3,h4⟩:=hc
  have hLe:(ts.length:Int) - (m:Int)=(L:Int):=by omega
  have hsm:ss.length=m:=by rw [hss,List.length_drop]; omega
  have hne:ss≠[]:=fun z=>by rw [z] at hsm; have:=mn.one; simp at hsm; omega
  have hM:∀ t∈ss,t.dp≤dpM ss:=fun t ht=>by
   unfold dpM; rw [if_neg hne]; exact oy _ _ (List.mem_map.mpr ⟨t,ht,rfl⟩)
  obtain ⟨e,he,md⟩:=BP (M:=dpM ss) h1 mn ss hsm (fun t ht=>ok t (hsub t ht)) (by omega) hM
  obtain ⟨kd,sm',x,p,rfl,sk,g1,g2⟩:=md.ex
  have ct2:cutD (ts.map St.dat) none (some ((L:Nat):Int))=(ts.take L).map St.dat:=by rw [yT,List.map_take]
  have hsum:bu ts=bu (ts.take L)+bu ss:=by rw [hss, ← mF,List.take_append_drop]
  refine ⟨ts.take L++[⟨kd,p,sm',x,dpM ss+1,bu ss+1⟩], ?_,fun t ht=>?_,by simp; omega,by rw [mF,hsum]; simp [bu]; omega⟩
  ·have hq8:(q:Int)<8:=by omega
   have hml:(m:Int)≤(ts.length:Int):=by omega
   have hd7:(dpM ss:Int)≤7:=by omega
   have hs4:(bu ss:Int)+1≤40:=by omega
   have htl:((ts.take L).map St.dat).length+1≤1000000:=by simp; omega
   have hm2:(if 0<L then (L:Int) else 0)=(L:Int):=by split <;> omega
   rw [List.map_append]
   show _=some ((ts.take L).map St.dat++[.tup [.tup [kd,p.o,sm',x],.int ((dpM ss+1:Nat):Int),.int ((bu ss+1:Nat):Int)]])
   generalize ss.map St.e=SE at *
   generalize (ss.map fun t:St=>D.int (t.dp:Nat))=SD at *
   generalize (ss.map fun t:St=>D.int (t.sz:Nat))=SZ at *
   generalize ss.map St.dat=SS at *
   generalize (ts.take L).map St.dat=TL at *
   generalize ts.map St.dat=TT at *
   generalize dpM ss=DP at *
   generalize bu ss=SU at *
   simp only [gq,i4,ij,envOf]
   simp [m1,m2,hm,hdl,hdl6,hmx,hmy,ct,hsl6,hcap0,c1,dm,c2,sm,hq8,hml,hd7,hs4,c3,he,hLe,hm2,ct2,htl]
  ·rcases List.mem_append.mp ht with ht | ht
   ·exact ok t (List.mem_of_mem_take ht)
   ·rw [List.mem_singleton.mp ht]
    exact ⟨sk,by show p.w≤12 * (bu ss+1); omega,g2,by show 1≤dpM ss+1; omega,by show dpM ss+1≤8; omega,h4⟩
 ·refine ⟨ts++[lf], ?_,fun t ht=>?_,by simp,by rw [mF]; simp [bu]; omega⟩
  ·rw [List.map_append]
   show _=some (ts.map St.dat++[lf.dat])
   generalize ss.map St.e=SE at *
   generalize (ss.map fun t:St=>D.int (t.dp:Nat))=SD at *
   generalize (ss.map fun t:St=>D.int (t.sz:Nat))=SZ at *
   generalize ss.map St.dat=SS at *
   generalize ts.map St.dat=TT at *
   generalize lf.dat=LF at *
   generalize dpM ss=DP at *
   generalize bu ss=SU at *
   simp only [gq,i4,ij,envOf]
   by_cases h1:q<8
   ·have hq8:(q:Int)<8:=by omega
    by_cases h2:m≤ts.length
    ·have hml:(m:Int)≤(ts.length:Int):=by omega
     by_cases h3:DP≤7
     ·have hd7:(DP:Int)≤7:=by omega
      have hs4:¬ ((SU:Int)+1≤40):=by omega
      simp [m1,m2,hm,hdl,hdl6,hmx,hmy,ct,hsl6,hcap0,c1,dm,c2,sm,hq8,hml,hd7,hs4,lf3,hl1]
     ·have hd7:¬ ((DP:Int)≤7):=by omega
      simp [m1,m2,hm,hdl,hdl6,hmx,hmy,ct,hsl6,hcap0,c1,dm,c2,sm,hq8,hml,hd7,lf3,hl1]
    ·have hml:¬ ((m:Int)≤(ts.length:Int)):=by omega
     simp [m1,m2,hm,hdl,hdl6,hmx,hmy,ct,hsl6,hcap0,c1,dm,c2,sm,hq8,hml,lf3,hl1]
   ·have hq8:¬ ((q:Int)<8):=by omega
    simp [m1,m2,hm,hdl,hdl6,hmx,hmy,ct,hsl6,hcap0,c1,dm,c2,sm,hq8,lf3,hl1]
  ·rcases List.mem_append.mp ht with ht | ht
   ·exact ok t ht
   ·rw [List.mem_singleton.mp ht]; exact lf1
theorem qW (s0:Slot):∀ (cs:List Int) (ts:List St) (s2:Slot),(∀ t∈ts,t.Ok)→ts.length+cs.length≤100→∃ (ts':List St) (t2:Slot),runFor (aQ 2) gK (cs.map .int) [s0,.val (.lst (ts.map St.dat)),s2]=some (.nx [s0,.val (.lst (ts'.map St.dat)),t2])∧(∀ t∈ts',t.Ok)∧ts'.length≤ts.length+cs.length∧bu ts'≤bu ts+5 * cs.length
 | [],ts,s2,ok,_=>⟨ts,s2,rfl,ok,by simp,by simp⟩
 | c::cs,ts,s2,ok,hl=>by
  simp only [List.length_cons] at hl
  obtain ⟨t1,h1,h2,h3,h4⟩:=BQ ts c ok (by omega)
  obtain ⟨t3,s3,g1,g2,g3,g4⟩:=qW s0 cs t1 (.val (.int c)) h2 (by omega)
  refine ⟨t3,s3, ?_,g2,by simp only [List.length_cons]; omega,by simp only [List.length_cons]; omega⟩
  rw [← g1,List.map_cons]
  refine fQ (e1:=[s0,.val (.lst (ts.map St.dat)),.val (.int c)]) (by simp) ?_
  generalize ts.map St.dat=TS at *
  generalize t1.map St.dat=T1 at *
  simp [gK,h1]
theorem BR (ns:List Int):∃ (kd sm x o:D) (f:Int→List Nat) (u d w:Nat),fP [.lst (ns.map .int)]=some (.tup [kd,o,sm,x])∧Sk 30 o f u d w:=by
 have hcut:cutD (ns.map D.int) none (some 40)=(ns.take 40).map .int:=by rw [List.map_take]; exact yT (ns.map D.int) 40
 have hcl:(ns.take 40).length≤40:=by rw [List.length_take]; omega
 generalize ns.take 40=cs at hcut hcl
 obtain ⟨ts,t2,lp,ok,hl,hs⟩:=qW (.val (.lst (ns.map .int))) cs [] .no (fun t ht=>nomatch ht) (by simp; omega)
 simp only [List.length_nil,List.map_nil,bu,List.sum_nil] at lp hl hs
 have hs':bu ts≤200:=by unfold bu; omega
 obtain ⟨lf,lf1, -,lf3⟩:=wH 0
 have fs:∀ t:St,t.Ok→∃ (kd sm x o:D) (f:Int→List Nat) (u d w:Nat),t.e=.tup [kd,o,sm,x]∧Sk 30 o f u d w:=fun t h=>⟨t.kd,t.sm,t.x,t.p.o,t.p.f,t.p.u,t.p.d,t.p.w,rfl,h.sk.mono (by have:=h.d8; omega)⟩
 match ts,ok,hl,lp,hs' with
 | [],_,_,lp,_ =>
  obtain ⟨kd,sm,x,o,f,u,d,w,e,sk⟩:=fs lf lf1
  refine ⟨kd,sm,x,o,f,u,d,w, ?_,sk⟩
  rw [← e]
  have i0:ixD lf.dat (.int 0)=some lf.e:=by simp [St.dat]
  have eq0:eqN 100 (.lst []) (.lst [])=some true:=rfl
  generalize ns.map D.int=NS at *
  generalize cs.map D.int=CS at *
  generalize lf.e=E at *
  generalize lf.dat=F at *
  simp only [List.map_nil] at lp
  simp only [fP,aD,gr,envOf]
  simp [hcut,lp,eq0,lf3,i0]
 | [t],ok,_,lp,_ =>
  obtain ⟨kd,sm,x,o,f,u,d,w,e,sk⟩:=fs t (ok t List.mem_cons_self)
  refine ⟨kd,sm,x,o,f,u,d,w, ?_,sk⟩
  rw [← e]
  have i0:ixD t.dat (.int 0)=some t.e:=by simp [St.dat]
  have eq0:eqN 100 (.lst [t.dat]) (.lst [])=some false:=rfl
  generalize ns.map D.int=NS at *
  generalize cs.map D.int=CS at *
  generalize t.e=E at *
  simp only [List.map_cons,List.map_nil] at lp
  generalize t.dat=F at *
  simp only [fP,aD,gr,envOf]
  simp [hcut,lp,eq0,i0]
 | t::s::r,ok,hl,lp,hs' =>
  simp only [List.length_cons] at hl
  obtain ⟨q,h1,h2,h3,h4⟩:=pH t (s::r) ((r.length+2:Nat):Int) ok (by simp; omega) (by omega) 8 (fun q hq=>(ok q hq).d8)
  refine ⟨q.kd,q.sm,q.x,q.p.o,q.p.f,q.p.u,q.p.d,q.p.w, ?_,h2.mono (by omega)⟩
  have ce:=lB (fe:=gL) (env:=[.no]) St.dat St.e (fun t=>⟨[.val t.dat],rfl,by simp [gL,St.dat]⟩) (t::s::r)
  have eq0:eqN 100 (.lst ((t::s::r).map St.dat)) (.lst [])=some false:=rfl
  have hcap0:∀ l,eD 1 [] l=[.no]:=fun _=>rfl
  have hdl:((t::s::r).map St.dat).length=r.length+2:=by simp
  have hd6:r.length+2≤1000000:=by omega
  have hne:(((r.length:Int)+2) == 1)=false:=by simp; omega
  show _=some q.e
  rw [show ((r.length+2:Nat):Int)=(r.length:Int)+2 by omega] at h1
  generalize ns.map D.int=NS at *
  generalize cs.map D.int=CS at *
  generalize q.e=E at *
  generalize (t::s::r).map St.e=SE at *
  generalize (t::s::r).map St.dat=SD at *
  simp only [fP,aD,gr,envOf]
  simp [hcut,lp,eq0,hdl,hd6,hne,hcap0,ce,h1]
theorem A1 (i:Int):gQ [.int i]=some (.bl true):=by
 have ei:(Ty.bool == Ty.int)=false:=rfl
 have ej:(Ty.int == Ty.bool)=false:=rfl
 simp [gQ,aD,iM,envOf,ei,ej]
theorem tU (s0 s2 s3:Slot):∀ (is:List Nat) (s1:Slot), ∃ t1,runFor (aQ 1) gd (is.map fun i=>.int (i:Nat)) [s0,s1,s2,s3]=some (.nx [s0,t1,s2,s3])
 | [],s1=>⟨s1,rfl⟩
 | i::is,s1=>by
  obtain ⟨t1,ih⟩:=tU s0 s2 s3 is (.val (.int (i:Nat)))
  refine ⟨t1, ?_⟩
  have hw:=A1 (i:Int)
  have hn:¬ ((i:Int)<0):=by omega
  rw [← ih,List.map_cons]
  refine fQ (e1:=[s0,.val (.int (i:Nat)),s2,s3]) (by simp) ?_
  simp [gd,hw,hn]
theorem tV {o:D}{w:Nat}(f0:aU 0 o=some (.int (w:Nat)))(hw:w≤10000)(s1 s2:Slot):∀ (rs:List (List Nat)) (s3:Slot),(∀ r∈rs,r.length=w)→∃ t3,runFor (aQ 3) gf (rs.map .str) [.val o,s1,s2,s3]=some (.nx [.val o,s1,s2,t3])
 | [],s3,_=>⟨s3,rfl⟩
 | r::rs,s3,h=>by
  obtain ⟨t3,ih⟩:=tV f0 hw s1 s2 rs (.val (.str r)) fun q hq=>h q (List.mem_cons_of_mem _ hq)
  refine ⟨t3, ?_⟩
  have hr:=h r List.mem_cons_self
  have h6:w≤1000000:=by omega
  rw [← ih,List.map_cons]
  refine fQ (e1:=[.val o,s1,s2,.val (.str r)]) (by simp) ?_
  simp [gf,f0,h6,hr]
theorem xR {f:Int→List Nat}{u d w:Nat}(h:∀ k,(f k).length=w):∀ r∈dt f u d,r.length=w:=fun r hr=>by
 unfold dt at hr
 obtain ⟨i, -,rfl⟩:=List.mem_map.mp hr
 exact h _
theorem A2 {o:D}{f:Int→List Nat}{u d w:Nat}(h:Sk 30 o f u d w):fS [o]=some (.bl true):=by
 have f0:=h.f0
 have f1:=h.f1
 have f2:=h.f2
 have hm:=h.zN (show 30≤40 by decide)
 have hw:=h.hw
 have hl:=h.hl
 obtain ⟨t1,l1⟩:=tU (.val o) .no .no [w,u,d] .no
 simp only [List.map_cons,List.map_nil] at l1
 obtain ⟨t3,l2⟩:=tV f0 hw t1 (.val (.lst ((dt f u d).map .str))) (dt f u d) .no (xR h.len)
 have hrl:((dt f u d).map D.str).length=u+d+1:=by rw [List.length_map,ng]
 have h6:u+d+1≤1000000:=by omega
 have he:(u:Int)+(d:Int)+1=(u:Int)+1+(d:Int):=by omega
 generalize (dt f u d).map D.str=RR at *
 simp only [fS,aD,iN,envOf]
 simp [f0,f1,f2,l1,hm,hrl,h6,he,l2]
theorem BS (ns:List Int)(k:Nat):∃ c,dE [.lst (ns.map .int),.int k]=some (.int c):=by
 by_cases h:k<ns.length
 ·have h':(k:Int)<(ns.length:Int):=by omega
  refine ⟨ns[k], ?_⟩
  simp [dE,aD,fE,envOf,h',kS,h]
 ·have h' : ¬ (k:Int)<(ns.length:Int):=by omega
  exact ⟨0,by simp [dE,aD,fE,envOf,h']⟩
theorem BU (ns:List Int):∃ c,dE [.lst (ns.map .int),.int 0]=some (.int c):=BS ns 0
theorem CZ {o:D}{f:Int→List Nat}{u d w:Nat}(h:Sk 30 o f u d w)(s0 s2 s6 s7:Slot):∀ (ks:List Nat) (s4 s5:Slot),(∀ k∈ks,k<u+d+1)→∃ t4 t5,runFor (aQ 4) mB (ks.map fun k=>.int (k:Nat)) [s0,.val o,s2,.val (.lst ((dt f u d).map .str)),s4,s5,s6,s7]=some (.nx [s0,.val o,s2,.val (.lst ((dt f u d).map .str)),t4,t5,s6,s7])
 | [],s4,s5,_=>⟨s4,s5,rfl⟩
 | k::ks,s4,s5,hk=>by
  have h1:=hk k List.mem_cons_self
  have hl:=h.hl
  have f2:=h.f2
  have mr:=dq h (show 30≤40 by decide) ((d:Int) - (k:Int))
  obtain ⟨t4,t5,ih⟩:=CZ h s0 s2 s6 s7 ks (.val (.int (k:Nat))) (.val (.str (f ((d:Int) - (k:Int))))) fun j hj=>hk j (List.mem_cons_of_mem _ hj)
  refine ⟨t4,t5, ?_⟩
  rw [← ih,List.map_cons]
  refine fQ (e1:=[s0,.val o,s2,.val (.lst ((dt f u d).map .str)),.val (.int (k:Nat)),s5,s6,s7]) (by simp) ?_
  have hrl:((dt f u d).map D.str).length=u+d+1:=by rw [List.length_map,ng]
  have h6:u+d+1≤1000000:=by omega
  have ha:atI ((dt f u d).map D.str) ((u:Int)+(d:Int) - (k:Int))=some (.str (f ((d:Int) - (k:Int)))):=by
   rw [show (u:Int)+(d:Int) - (k:Int)=((u+d - k:Nat):Int) by omega,kS,List.getElem?_map,xO f u d (u+d - k) (by omega),show -(u:Int)+((u+d - k:Nat):Int)=(d:Int) - (k:Int) by omega]; rfl
  generalize (dt f u d).map D.str=RR at *
  generalize f ((d:Int) - (k:Int))=FF at *
  simp [mB,f2,mr,hrl,h6,ha]
theorem D0 {o:D}{f:Int→List Nat}{u d w:Nat}(h:Sk 30 o f u d w)(s0 s2 s3 s5 s6 s7:Slot):∀ (ks:List Int) (s4:Slot),(∀ k∈ks,k < -(u:Int)∨(d:Int)<k)→∃ t4,runFor (aQ 4) mD (ks.map .int) [s0,.val o,s2,s3,s4,s5,s6,s7]=some (.nx [s0,.val o,s2,s3,t4,s5,s6,s7])
 | [],s4,_=>⟨s4,rfl⟩
 | k::ks,s4,hk=>by
  have h1:=hk k List.mem_cons_self
  have mr:=dq h (show 30≤40 by decide) k
  rw [h.out k h1] at mr
  have f0:=h.f0
  have hw:=h.hw
  have mb:=pC w (by omega)
  obtain ⟨t4,ih⟩:=D0 h s0 s2 s3 s5 s6 s7 ks (.val (.int k)) fun j hj=>hk j (List.mem_cons_of_mem _ hj)
  refine ⟨t4, ?_⟩
  rw [← ih,List.map_cons]
  refine fQ (e1:=[s0,.val o,s2,s3,.val (.int k),s5,s6,s7]) (by simp) ?_
  generalize blank w=BB at *
  simp [mD,mr,f0,mb]
theorem EL (ns:List Int):tQ [.lst (ns.map .int)]=some (.bl true):=by
 obtain ⟨kd,sm,x,o,f,u,d,w,hne,sk⟩:=BR ns
 obtain ⟨c0,hc⟩:=BU ns
 have m8:=cY c0 100000000 (by decide)
 have p8:=B7 10 8 (by decide)
 obtain ⟨far,hfar, -⟩:=fF c0 100000000 (by decide)
 simp only [Int.cast_ofNat_Int] at hfar
 rw [hfar] at m8
 have hi:=sk.inst
 have hsz:=A2 sk
 have hm:=sk.zN (show 30≤40 by decide)
 have f1:=sk.f1
 have f2:=sk.f2
 have hl:=sk.hl
 obtain ⟨y,hy⟩:=oz (far:Int)
 have mk:=CT [120,y] (by simp)
 have mw:=(wu [120,y] (by simp)).zN (show 1≤40 by decide)
 have hrw:(dt (fIn (fun _=>[120,y]) 0 0 [120,y].length) 0 0).map D.str=[.str [120,y]]:=rfl
 rw [hrw] at mw
 have hrl:((dt f u d).map D.str).length=u+d+1:=by rw [List.length_map,ng]
 have h6:u+d+1≤1000000:=by omega
 have hrg:j9 [.int ((u:Int)+(d:Int)+1)]=some (cb 0 (u+d+1)):=oj (by omega) (by omega)
 have erg:cb 0 (u+d+1)=(List.range (u+d+1)).map fun k=>D.int (k:Nat):=by unfold cb; simp
 obtain ⟨t4,t5,l1⟩:=CZ sk (.val (.lst (ns.map .int))) (.own ((dt f u d).map .str)) .no .no (List.range (u+d+1)) .no .no (fun k hk=>List.mem_range.mp hk)
 rw [← erg] at l1
 obtain ⟨s4,l2⟩:=D0 sk (.val (.lst (ns.map .int))) (.own ((dt f u d).map .str)) (.val (.lst ((dt f u d).map .str))) t5 (.val (.int (far:Nat))) .no [(d:Int)+1, -(u:Int) - 1,(d:Int)+1+(far:Int), -(u:Int) - 1 - (far:Int)] t4 (by
  intro k hk
  simp at hk
  omega)
 simp only [List.map_cons,List.map_nil] at l2
 have eqr:eqN 100 (.lst ((dt f u d).map D.str)) (.lst ((dt f u d).map D.str))=some true:=by rw [vY,beq_self_eq_true]
 have eqw:eqN 100 (.lst [.str [120,y]]) (.lst [.str [120,y]])=some true:=by
  have:=vY [[120,y]] [[120,y]]
  rw [beq_self_eq_true] at this
  exact this
 have mw':dW 0 cv (.ob 1 [0,1,2,3] [.int 2,.int 0,.int 0,.str [120,y]]) []=some [.str [120,y]]:=mw
 have mk':jP 1 [.str [120,y]]=some ([0,1,2,3],[.int 2,.int 0,.int 0,.str [120,y]]):=mk
 clear mw mk hrw
 generalize (dt f u d).map D.str=RR at *
 generalize cb 0 (u+d+1)=RI at *
 generalize ns.map D.int=NS at *
 simp only [tQ,aD,wt,envOf]
 simp [-jN,hne,hi,hsz,hm,hrl,h6,hrg,l1,hc,p8,m8,f1,f2,l2,hy,mk',mw',eqw,eqr]
end K18
end
section
set_option maxHeartbeats 4000000
namespace K18
open PySem PySem.Spec PyProof.Rows L2 DL
open PySem.W (findIn keepIn fnOf codeIn nsIn isFn plainOver plainGet mroIn makesIn kitOne hasDictIn Frag)
local macro_rules | `(tactic| w_fin)=>`(tactic| first | exact .inl rfl | exact .inr (.inl rfl) | exact .inr (.inr rfl))
local macro_rules | `(tactic| w_left)=>`(tactic| decide +kernel)
theorem ex0 {us:List Value}(h:us.length=0):us=[]:=List.length_eq_zero_iff.mp h
theorem exS {n:Nat}{us:List Value}(h:us.length=n+1):∃ a t,us=a::t∧t.length=n:=by cases us with | nil=>cases h | cons a t=>exact ⟨a,t,rfl,Nat.succ.inj h⟩
theorem ex1 {us:List Value}(h:us.length=1):∃ a,us=[a]:=by obtain ⟨a,t,rfl,k⟩:=exS h; cases ex0 k; exact ⟨a,rfl⟩
theorem ex2 {us:List Value}(h:us.length=2):∃ a0 a1,us=[a0,a1]:=by obtain ⟨a0,t,rfl,k⟩:=exS h; obtain ⟨a1,rfl⟩:=ex1 k; exact ⟨a0,a1,rfl⟩
theorem ex3 {us:List Value}(h:us.length=3):∃ a0 a1 a2,us=[a0,a1,a2]:=by obtain ⟨a0,t,rfl,k⟩:=exS h; obtain ⟨a1,a2,rfl⟩:=ex2 k; exact ⟨a0,a1,a2,rfl⟩
theorem ex4 {us:List Value}(h:us.length=4):∃ a0 a1 a2 a3,us=[a0,a1,a2,a3]:=by obtain ⟨a0,t,rfl,k⟩:=exS h; obtain ⟨a1,a2,a3,rfl⟩:=ex3 k; exact ⟨a0,a1,a2,a3,rfl⟩
noncomputable def top (i:Nat):Stmt:=PySem.Challenge.pw_inkform_k18_rows_of_any_nest.main.body.getD i (.Pass ⟨0,0,0,0⟩)
abbrev bo:Stmt:=inClass (top 3) 2
abbrev bH:Stmt:=inClass (top 4) 1
abbrev fT:Stmt:=top 10
abbrev jT:Stmt:=top 11
abbrev bp:Stmt:=inClass (top 13) 3
abbrev bh:Stmt:=inClass (top 13) 4
abbrev du:Stmt:=inClass (top 3) 1
abbrev bB:Stmt:=inClass (top 5) 1
abbrev bI:Stmt:=inClass (top 6) 1
abbrev bJ:Stmt:=inClass (top 7) 1
abbrev bR:Stmt:=inClass (top 8) 1
abbrev bq:Stmt:=inClass (top 13) 1
abbrev bK:Stmt:=inClass (top 13) 2
abbrev bL:Stmt:=inClass (top 14) 1
abbrev bM:Stmt:=inClass (top 15) 1
abbrev cg:Stmt:=inClass (top 15) 2
abbrev cR:Stmt:=inClass (top 3) 3
abbrev cS:Stmt:=inClass (top 3) 0
abbrev dX:Stmt:=inClass (top 4) 0
abbrev eS:Stmt:=top 23
abbrev dY:Stmt:=top 25
abbrev dw:Stmt:=inClass (top 5) 0
abbrev cT:Stmt:=top 27
abbrev eU:Stmt:=top 26
abbrev cj:Stmt:=top 16
abbrev cU:Stmt:=top 20
abbrev cV:Stmt:=top 19
abbrev bS:Stmt:=top 17
abbrev dZ:Stmt:=top 18
abbrev ed:Stmt:=inClass (top 15) 0
abbrev ef:Stmt:=top 9
abbrev eg:Stmt:=inClass (top 6) 0
abbrev eh:Stmt:=inClass (top 7) 0
abbrev eV:Stmt:=inClass (top 8) 0
abbrev cW:Stmt:=inClass (top 13) 0
abbrev el:Stmt:=inClass (top 14) 0
abbrev eW:Stmt:=top 28
abbrev eX:Stmt:=top 24
abbrev eY:Stmt:=top 29
abbrev eZ:Stmt:=top 30
abbrev cX:Stmt:=top 22
abbrev en:Stmt:=top 31
abbrev eo:Stmt:=top 32
abbrev jU:Stmt:=top 33
theorem kE:aG ["self", "k"] ["self", "k"] (ag bo):=⟨rfl,rfl,rfl,by w_left,rfl,by w_left,by w_left⟩
theorem mG:aG ["self", "k"] ["self", "k"] (ag bH):=⟨rfl,rfl,rfl,by w_left,rfl,by w_left,by w_left⟩
theorem xS:aG ["narrow", "wide"] ["narrow", "wide"] (ag fT):=⟨rfl,rfl,rfl,by w_left,rfl,by w_left,by w_left⟩
theorem EM:aG ["text", "wide"] ["text", "wide"] (ag jT):=⟨rfl,rfl,rfl,by w_left,rfl,by w_left,by w_left⟩
theorem kG:aG ["self"] ["self"] (ag bp):=⟨rfl,rfl,rfl,by w_left,rfl,by w_left,by w_left⟩
theorem jV:aG ["self"] ["self"] (ag bh):=⟨rfl,rfl,rfl,by w_left,rfl,by w_left,by w_left⟩
theorem rZ:aG ["self", "k"] ["self", "k"] (ag du):=⟨rfl,rfl,rfl,by w_left,rfl,by w_left,by w_left⟩
theorem lC:aG ["self", "k", "pieces", "sign", "part"] ["self", "k"] (ag bB):=⟨rfl,rfl,rfl,by w_left,rfl,by w_left,by w_left⟩
theorem mH:aG ["self", "k"] ["self", "k"] (ag bI):=⟨rfl,rfl,rfl,by w_left,rfl,by w_left,by w_left⟩
theorem mI:aG ["self", "k"] ["self", "k"] (ag bJ):=⟨rfl,rfl,rfl,by w_left,rfl,by w_left,by w_left⟩
theorem nq:aG ["self", "k"] ["self", "k"] (ag bR):=⟨rfl,rfl,rfl,by w_left,rfl,by w_left,by w_left⟩
theorem kH:aG ["self", "k"] ["self", "k"] (ag bq):=⟨rfl,rfl,rfl,by w_left,rfl,by w_left,by w_left⟩
theorem mJ:aG ["self", "k"] ["self", "k"] (ag bK):=⟨rfl,rfl,rfl,by w_left,rfl,by w_left,by w_left⟩
theorem mK:aG ["self", "k"] ["self", "k"] (ag bL):=⟨rfl,rfl,rfl,by w_left,rfl,by w_left,by w_left⟩
theorem mL:aG ["self", "k", "number", "inside"] ["self", "k"] (ag bM):=⟨rfl,rfl,rfl,by w_left,rfl,by w_left,by w_left⟩
theorem o5:aG ["self", "number", "k", "own"] ["self", "number", "k"] (ag cg):=⟨rfl,rfl,rfl,by w_left,rfl,by w_left,by w_left⟩
theorem qb:aG ["self"] ["self"] (ag cR):=⟨rfl,rfl,rfl,by w_left,rfl,by w_left,by w_left⟩
theorem iS:aG ["self", "wide", "up", "down"] ["self", "wide", "up", "down"] (ag cS):=⟨rfl,rfl,rfl,by w_left,rfl,by w_left,by w_left⟩
theorem tW:aG ["self", "word"] ["self", "word"] (ag dX):=⟨rfl,rfl,rfl,by w_left,rfl,by w_left,by w_left⟩
theorem vj:aG ["cell", "some"] ["cell"] (ag eS):=⟨rfl,rfl,rfl,by w_left,rfl,by w_left,by w_left⟩
theorem tX:aG ["cell", "many"] ["cell", "many"] (ag dY):=⟨rfl,rfl,rfl,by w_left,rfl,by w_left,by w_left⟩
theorem s9:aG ["self", "parts", "signs", "wide", "up", "down"] ["self", "parts", "signs"] (ag dw):=⟨rfl,rfl,rfl,by w_left,rfl,by w_left,by w_left⟩
theorem qc:aG ["some", "by", "signs"] ["some", "by"] (ag cT):=⟨rfl,rfl,rfl,by w_left,rfl,by w_left,by w_left⟩
theorem vk:aG ["way", "by"] ["way", "by"] (ag eU):=⟨rfl,rfl,rfl,by w_left,rfl,by w_left,by w_left⟩
theorem o6:aG ["bands"] ["bands"] (ag cj):=⟨rfl,rfl,rfl,by w_left,rfl,by w_left,by w_left⟩
theorem qd:aG ["band"] ["band"] (ag cU):=⟨rfl,rfl,rfl,by w_left,rfl,by w_left,by w_left⟩
theorem qe:aG ["band"] ["band"] (ag cV):=⟨rfl,rfl,rfl,by w_left,rfl,by w_left,by w_left⟩
theorem nr:aG ["bands", "numbers", "n", "band"] ["bands"] (ag bS):=⟨rfl,rfl,rfl,by w_left,rfl,by w_left,by w_left⟩
theorem tY:aG ["bands", "up", "lows", "top", "band"] ["bands", "up"] (ag dZ):=⟨rfl,rfl,rfl,by w_left,rfl,by w_left,by w_left⟩
theorem tZ:aG ["self", "bands", "high", "up"] ["self", "bands"] (ag ed):=⟨rfl,rfl,rfl,by w_left,rfl,by w_left,by w_left⟩
theorem u0:aG ["sketch"] ["sketch"] (ag ef):=⟨rfl,rfl,rfl,by w_left,rfl,by w_left,by w_left⟩
theorem u3:aG ["self", "above", "beneath"] ["self", "above", "beneath"] (ag eg):=⟨rfl,rfl,rfl,by w_left,rfl,by w_left,by w_left⟩
theorem u4:aG ["self", "inner"] ["self", "inner"] (ag eh):=⟨rfl,rfl,rfl,by w_left,rfl,by w_left,by w_left⟩
theorem vm:aG ["self", "sign", "inner"] ["self", "sign", "inner"] (ag eV):=⟨rfl,rfl,rfl,by w_left,rfl,by w_left,by w_left⟩
theorem qf:aG ["self", "item", "raised", "lowered", "marks", "room", "up", "down"] ["self", "item", "raised", "lowered"] (ag cW):=⟨rfl,rfl,rfl,by w_left,rfl,by w_left,by w_left⟩
theorem u5:aG ["self", "inner"] ["self", "inner"] (ag el):=⟨rfl,rfl,rfl,by w_left,rfl,by w_left,by w_left⟩
theorem vn:aG ["way", "some", "by", "first", "wide", "bands"] ["way", "some", "by"] (ag eW):=⟨rfl,rfl,rfl,by w_left,rfl,by w_left,by w_left⟩
theorem vo:aG ["cell", "n", "signs", "up", "down"] ["cell"] (ag eX):=⟨rfl,rfl,rfl,by w_left,rfl,by w_left,by w_left⟩
theorem vp:aG ["stack", "cell", "way", "by", "many", "some", "deep", "size", "made"] ["stack", "cell"] (ag eY):=⟨rfl,rfl,rfl,by w_left,rfl,by w_left,by w_left⟩
theorem vq:aG ["script", "stack", "cell"] ["script"] (ag eZ):=⟨rfl,rfl,rfl,by w_left,rfl,by w_left,by w_left⟩
theorem qg:aG ["script", "k"] ["script", "k"] (ag cX):=⟨rfl,rfl,rfl,by w_left,rfl,by w_left,by w_left⟩
theorem u6:aG ["found"] ["found"] (ag en):=⟨rfl,rfl,rfl,by w_left,rfl,by w_left,by w_left⟩
theorem u7:aG ["found", "number", "told", "row"] ["found"] (ag eo):=⟨rfl,rfl,rfl,by w_left,rfl,by w_left,by w_left⟩
theorem Hw:aG ["script", "found", "told", "kept", "k", "row", "far", "other"] ["script"] (ag jU):=⟨rfl,rfl,rfl,by w_left,rfl,by w_left,by w_left⟩
abbrev ct (C0 C1 C2 C3 C4 C5 C6 C7 C8:Addr):Ct:=⟨fun n=>[C0,C1,C2,C3,C4,C5,C6,C7,C8][n]?,fun i=>(["wide", "up", "down", "word", "parts", "signs", "above", "beneath", "inner", "sign", "item", "raised", "lowered", "bands", "widths", "band_numbers", "lows"]:List Str).getD i "!"⟩
structure Txt (P:Program)(w:World)(K:Frag)(mg:Str→Option Value)(C0 C1 C2 C3 C4 C5 C6 C7 C8 m_Sketch_row_within m_Word_row_within m_Marked_raised_low m_Marked_lowered_low m_Sketch_row m_Chain_row_within m_Over_row_within m_Root_row_within m_Led_row_within m_Marked_row_within m_Marked_mark_row m_Held_row_within m_Grid_row_within m_Grid_band_row m_Sketch_rows m_Sketch_init m_Word_init m_Chain_init m_Grid_init m_Over_init m_Root_init m_Led_init m_Marked_init m_Held_init:Addr):Prop where
 gj:mg "len"=none
 D1:mg "zip"=none
 kv:mg "range"=none
 A3:mg "sum"=none
 mM:mg "max"=none
 sd:mg "list"=none
 u9:mg "enumerate"=none
 A4:mg "str"=none
 fm:mg "isinstance"=none
 Hx:mg "int"=none
 EN:mg "bool"=none
 aW:∃ v u,mg "BLANK"=some u∧RelV v u∧∀ A H,Rep ⟨K,(ct C0 C1 C2 C3 C4 C5 C6 C7 C8).cl,(ct C0 C1 C2 C3 C4 C5 C6 C7 C8).fld⟩ A H aW v
 nu:Cls K C0
 nv:mg "Sketch"=some (.ref C0)
 qh:Meth K C0 "row" m_Sketch_row
 jW:Meth K C0 "row_within" m_Sketch_row_within
 pI:Meth K C0 "rows" m_Sketch_rows
 se:Cls K C1
 BV:mg "Word"=some (.ref C1)
 uc:Meth K C1 "row" m_Sketch_row
 lE:Meth K C1 "row_within" m_Word_row_within
 sf:Meth K C1 "rows" m_Sketch_rows
 pJ:Cls K C2
 A5:mg "Chain"=some (.ref C2)
 si:Meth K C2 "row" m_Sketch_row
 kI:Meth K C2 "row_within" m_Chain_row_within
 qi:Meth K C2 "rows" m_Sketch_rows
 sj:Cls K C3
 BW:mg "Over"=some (.ref C3)
 ue:Meth K C3 "row" m_Sketch_row
 lF:Meth K C3 "row_within" m_Over_row_within
 so:Meth K C3 "rows" m_Sketch_rows
 sr:Cls K C4
 BX:mg "Root"=some (.ref C4)
 uf:Meth K C4 "row" m_Sketch_row
 lG:Meth K C4 "row_within" m_Root_row_within
 su:Meth K C4 "rows" m_Sketch_rows
 vt:Cls K C5
 EO:mg "Led"=some (.ref C5)
 vv:Meth K C5 "row" m_Sketch_row
 mN:Meth K C5 "row_within" m_Led_row_within
 ug:Meth K C5 "rows" m_Sketch_rows
 i6:Cls K C6
 xT:mg "Marked"=some (.ref C6)
 qj:Meth K C6 "row" m_Sketch_row
 jX:Meth K C6 "row_within" m_Marked_row_within
 pK:Meth K C6 "rows" m_Sketch_rows
 lH:Meth K C6 "mark_row" m_Marked_mark_row
 jY:Meth K C6 "raised_low" m_Marked_raised_low
 jv:Meth K C6 "lowered_low" m_Marked_lowered_low
 sv:Cls K C7
 BY:mg "Held"=some (.ref C7)
 uh:Meth K C7 "row" m_Sketch_row
 lI:Meth K C7 "row_within" m_Held_row_within
 sA:Meth K C7 "rows" m_Sketch_rows
 oB:Cls K C8
 BZ:mg "Grid"=some (.ref C8)
 uk:Meth K C8 "row" m_Sketch_row
 lJ:Meth K C8 "row_within" m_Grid_row_within
 sC:Meth K C8 "rows" m_Sketch_rows
 ny:Meth K C8 "band_row" m_Grid_band_row
 xU:Mk K C0 m_Sketch_init
 C9:Mk K C1 m_Word_init
 A6:Mk K C2 m_Chain_init
 Ca:Mk K C3 m_Over_init
 Cb:Mk K C4 m_Root_init
 ER:Mk K C5 m_Led_init
 xV:Mk K C6 m_Marked_init
 Cc:Mk K C7 m_Held_init
 Cd:Mk K C8 m_Grid_init
 qX:qM K C0 "__init__" m_Sketch_init
 iT:fv K (ct C0 C1 C2 C3 C4 C5 C6 C7 C8) 0
 j4:fv K (ct C0 C1 C2 C3 C4 C5 C6 C7 C8) 1
 jk:fv K (ct C0 C1 C2 C3 C4 C5 C6 C7 C8) 2
 Hy:fv K (ct C0 C1 C2 C3 C4 C5 C6 C7 C8) 3
 ES:fv K (ct C0 C1 C2 C3 C4 C5 C6 C7 C8) 4
 Hz:fv K (ct C0 C1 C2 C3 C4 C5 C6 C7 C8) 5
 ET:fv K (ct C0 C1 C2 C3 C4 C5 C6 C7 C8) 6
 EU:fv K (ct C0 C1 C2 C3 C4 C5 C6 C7 C8) 7
 sD:fv K (ct C0 C1 C2 C3 C4 C5 C6 C7 C8) 8
 HA:fv K (ct C0 C1 C2 C3 C4 C5 C6 C7 C8) 9
 qY:fv K (ct C0 C1 C2 C3 C4 C5 C6 C7 C8) 10
 A7:fv K (ct C0 C1 C2 C3 C4 C5 C6 C7 C8) 11
 A8:fv K (ct C0 C1 C2 C3 C4 C5 C6 C7 C8) 12
 um:fv K (ct C0 C1 C2 C3 C4 C5 C6 C7 C8) 13
 wJ:fv K (ct C0 C1 C2 C3 C4 C5 C6 C7 C8) 14
 A9:fv K (ct C0 C1 C2 C3 C4 C5 C6 C7 C8) 15
 D2:fv K (ct C0 C1 C2 C3 C4 C5 C6 C7 C8) 16
 vw:CP K mg (ct C0 C1 C2 C3 C4 C5 C6 C7 C8) "Sketch" [0,1,2,3,4,5,6,7,8]
theorem gR {P:Addr→Prop}:∀ C∈([]:List Addr),P C:=fun C h=>nomatch h
theorem ay {P:Addr→Prop}{a:Addr}{l:List Addr}(h:P a)(r:∀ C∈l,P C):∀ C∈a::l,P C:=fun C hC=>(List.mem_cons.mp hC).elim (fun e=>e ▸ h) (r C)
def qZ (P:Nat→Addr→Prop):Nat→List Addr→Prop
 | _,[]=>True
 | n,a::l=>P n a∧qZ P (n+1) l
theorem IJ {P:Nat→Addr→Prop}{n:Nat}:qZ P n []:=trivial
theorem sE {P:Nat→Addr→Prop}{n:Nat}{a:Addr}{l:List Addr}(h:P n a)(r:qZ P (n+1) l):qZ P n (a::l):=⟨h,r⟩
theorem D3 {P:Nat→Addr→Prop}:∀ {l:List Addr} {m:Nat},qZ P m l→∀ n C,l[n]?=some C→P (m+n) C
 | [],_,_,n,C,h=>by simp at h
 | a::l,m,⟨h1,h2⟩,0,C,h=>by simp at h; subst h; exact h1
 | a::l,m,⟨h1,h2⟩,n+1,C,h=>by
  have:=D3 h2 n C (by simpa using h)
  rwa [show m+1+n=m+(n+1) by omega] at this
theorem EV {P:Nat→Addr→Prop}{l:List Addr}(h:qZ P 0 l):∀ n C,l[n]?=some C→P n C:=fun n C e=>by
 have:=D3 h n C e
 rwa [Nat.zero_add] at this
section
variable {P:Program}{w:World}{K:Frag}{mg:Str→Option Value}{base:Heap}{C0 C1 C2 C3 C4 C5 C6 C7 C8 m_Sketch_row_within m_Word_row_within m_Marked_raised_low m_Marked_lowered_low m_Sketch_row m_Chain_row_within m_Over_row_within m_Root_row_within m_Led_row_within m_Marked_row_within m_Marked_mark_row m_Held_row_within m_Grid_row_within m_Grid_band_row m_Sketch_rows m_Sketch_init m_Word_init m_Chain_init m_Grid_init m_Over_init m_Root_init m_Led_init m_Marked_init m_Held_init:Addr}
structure il (P:Program)(w:World)(K:Frag)(mg:Str→Option Value)(base:Heap)(C0 C1 C2 C3 C4 C5 C6 C7 C8 m_Sketch_row_within m_Word_row_within m_Marked_raised_low m_Marked_lowered_low m_Sketch_row m_Chain_row_within m_Over_row_within m_Root_row_within m_Led_row_within m_Marked_row_within m_Marked_mark_row m_Held_row_within m_Grid_row_within m_Grid_band_row m_Sketch_rows m_Sketch_init m_Word_init m_Chain_init m_Grid_init m_Over_init m_Root_init m_Led_init m_Marked_init m_Held_init:Addr)  (k:Nat) (R:fx):Prop where
 aR:UnD P w K mg base (ct C0 C1 C2 C3 C4 C5 C6 C7 C8) m_Sketch_row ["self", "k"] k R.aR
 cp:UnD P w K mg base (ct C0 C1 C2 C3 C4 C5 C6 C7 C8) m_Chain_row_within ["self", "k"] k R.cp
 cE:UnD P w K mg base (ct C0 C1 C2 C3 C4 C5 C6 C7 C8) m_Over_row_within ["self", "k"] k R.cE
 cF:UnD P w K mg base (ct C0 C1 C2 C3 C4 C5 C6 C7 C8) m_Root_row_within ["self", "k"] k R.cF
 d0:UnD P w K mg base (ct C0 C1 C2 C3 C4 C5 C6 C7 C8) m_Led_row_within ["self", "k"] k R.d0
 bX:UnD P w K mg base (ct C0 C1 C2 C3 C4 C5 C6 C7 C8) m_Marked_row_within ["self", "k"] k R.bX
 cG:UnD P w K mg base (ct C0 C1 C2 C3 C4 C5 C6 C7 C8) m_Marked_mark_row ["self", "k"] k R.cG
 cH:UnD P w K mg base (ct C0 C1 C2 C3 C4 C5 C6 C7 C8) m_Held_row_within ["self", "k"] k R.cH
 cI:UnD P w K mg base (ct C0 C1 C2 C3 C4 C5 C6 C7 C8) m_Grid_row_within ["self", "k"] k R.cI
 dA:UnD P w K mg base (ct C0 C1 C2 C3 C4 C5 C6 C7 C8) m_Grid_band_row ["self", "number", "k"] k R.dA
section
variable (T:Txt P w K mg C0 C1 C2 C3 C4 C5 C6 C7 C8 m_Sketch_row_within m_Word_row_within m_Marked_raised_low m_Marked_lowered_low m_Sketch_row m_Chain_row_within m_Over_row_within m_Root_row_within m_Led_row_within m_Marked_row_within m_Marked_mark_row m_Held_row_within m_Grid_row_within m_Grid_band_row m_Sketch_rows m_Sketch_init m_Word_init m_Chain_init m_Grid_init m_Over_init m_Root_init m_Led_init m_Marked_init m_Held_init)
include T
theorem jl {kr:Nat}(hk:2≤kr){R:fx}(GR:il P w K mg base C0 C1 C2 C3 C4 C5 C6 C7 C8 m_Sketch_row_within m_Word_row_within m_Marked_raised_low m_Marked_lowered_low m_Sketch_row m_Chain_row_within m_Over_row_within m_Root_row_within m_Led_row_within m_Marked_row_within m_Marked_mark_row m_Held_row_within m_Grid_row_within m_Grid_band_row m_Sketch_rows m_Sketch_init m_Word_init m_Chain_init m_Grid_init m_Over_init m_Root_init m_Led_init m_Marked_init m_Held_init kr R):ic P w K mg base (ct C0 C1 C2 C3 C4 C5 C6 C7 C8) "row" 1 kr (bT R):=by
 refine ⟨fun j lay F h=>?_⟩
 rcases j with _ | _ | _ | _ | _ | _ | _ | _ | _ | j
 ·cases h
  exact GR.aR.fB rfl rfl T.nu T.qh (by first | decide | omega) (show ∀ i∈[0,1,2],(["wide", "up", "down", "word", "parts", "signs", "above", "beneath", "inner", "sign", "item", "raised", "lowered", "bands", "widths", "band_numbers", "lows"]:List Str).getD i "!"≠"row" by w_left)
 ·cases h
  exact GR.aR.fB rfl rfl T.se T.uc (by first | decide | omega) (show ∀ i∈[0,1,2,3],(["wide", "up", "down", "word", "parts", "signs", "above", "beneath", "inner", "sign", "item", "raised", "lowered", "bands", "widths", "band_numbers", "lows"]:List Str).getD i "!"≠"row" by w_left)
 ·cases h
  exact GR.aR.fB rfl rfl T.pJ T.si (by first | decide | omega) (show ∀ i∈[0,1,2,4,5],(["wide", "up", "down", "word", "parts", "signs", "above", "beneath", "inner", "sign", "item", "raised", "lowered", "bands", "widths", "band_numbers", "lows"]:List Str).getD i "!"≠"row" by w_left)
 ·cases h
  exact GR.aR.fB rfl rfl T.sj T.ue (by first | decide | omega) (show ∀ i∈[0,1,2,6,7],(["wide", "up", "down", "word", "parts", "signs", "above", "beneath", "inner", "sign", "item", "raised", "lowered", "bands", "widths", "band_numbers", "lows"]:List Str).getD i "!"≠"row" by w_left)
 ·cases h
  exact GR.aR.fB rfl rfl T.sr T.uf (by first | decide | omega) (show ∀ i∈[0,1,2,8],(["wide", "up", "down", "word", "parts", "signs", "above", "beneath", "inner", "sign", "item", "raised", "lowered", "bands", "widths", "band_numbers", "lows"]:List Str).getD i "!"≠"row" by w_left)
 ·cases h
  exact GR.aR.fB rfl rfl T.vt T.vv (by first | decide | omega) (show ∀ i∈[0,1,2,9,8],(["wide", "up", "down", "word", "parts", "signs", "above", "beneath", "inner", "sign", "item", "raised", "lowered", "bands", "widths", "band_numbers", "lows"]:List Str).getD i "!"≠"row" by w_left)
 ·cases h
  exact GR.aR.fB rfl rfl T.i6 T.qj (by first | decide | omega) (show ∀ i∈[0,1,2,10,11,12],(["wide", "up", "down", "word", "parts", "signs", "above", "beneath", "inner", "sign", "item", "raised", "lowered", "bands", "widths", "band_numbers", "lows"]:List Str).getD i "!"≠"row" by w_left)
 ·cases h
  exact GR.aR.fB rfl rfl T.sv T.uh (by first | decide | omega) (show ∀ i∈[0,1,2,8],(["wide", "up", "down", "word", "parts", "signs", "above", "beneath", "inner", "sign", "item", "raised", "lowered", "bands", "widths", "band_numbers", "lows"]:List Str).getD i "!"≠"row" by w_left)
 ·cases h
  exact GR.aR.fB rfl rfl T.oB T.uk (by first | decide | omega) (show ∀ i∈[13,14,15,0,1,2,16],(["wide", "up", "down", "word", "parts", "signs", "above", "beneath", "inner", "sign", "item", "raised", "lowered", "bands", "widths", "band_numbers", "lows"]:List Str).getD i "!"≠"row" by w_left)
 ·cases h
theorem qk (G_Sketch_row_within:UnD P w K mg base (ct C0 C1 C2 C3 C4 C5 C6 C7 C8) m_Sketch_row_within ["self", "k"] 1 cK)(G_Word_row_within:UnD P w K mg base (ct C0 C1 C2 C3 C4 C5 C6 C7 C8) m_Word_row_within ["self", "k"] 1 dg){kr:Nat}(hk:2≤kr){R:fx}(GR:il P w K mg base C0 C1 C2 C3 C4 C5 C6 C7 C8 m_Sketch_row_within m_Word_row_within m_Marked_raised_low m_Marked_lowered_low m_Sketch_row m_Chain_row_within m_Over_row_within m_Root_row_within m_Led_row_within m_Marked_row_within m_Marked_mark_row m_Held_row_within m_Grid_row_within m_Grid_band_row m_Sketch_rows m_Sketch_init m_Word_init m_Chain_init m_Grid_init m_Over_init m_Root_init m_Led_init m_Marked_init m_Held_init kr R):ic P w K mg base (ct C0 C1 C2 C3 C4 C5 C6 C7 C8) "row_within" 1 kr (aP R):=by
 refine ⟨fun j lay F h=>?_⟩
 rcases j with _ | _ | _ | _ | _ | _ | _ | _ | _ | j
 ·cases h
  exact G_Sketch_row_within.fB rfl rfl T.nu T.jW (by first | decide | omega) (show ∀ i∈[0,1,2],(["wide", "up", "down", "word", "parts", "signs", "above", "beneath", "inner", "sign", "item", "raised", "lowered", "bands", "widths", "band_numbers", "lows"]:List Str).getD i "!"≠"row_within" by w_left)
 ·cases h
  exact G_Word_row_within.fB rfl rfl T.se T.lE (by first | decide | omega) (show ∀ i∈[0,1,2,3],(["wide", "up", "down", "word", "parts", "signs", "above", "beneath", "inner", "sign", "item", "raised", "lowered", "bands", "widths", "band_numbers", "lows"]:List Str).getD i "!"≠"row_within" by w_left)
 ·cases h
  exact GR.cp.fB rfl rfl T.pJ T.kI (by first | decide | omega) (show ∀ i∈[0,1,2,4,5],(["wide", "up", "down", "word", "parts", "signs", "above", "beneath", "inner", "sign", "item", "raised", "lowered", "bands", "widths", "band_numbers", "lows"]:List Str).getD i "!"≠"row_within" by w_left)
 ·cases h
  exact GR.cE.fB rfl rfl T.sj T.lF (by first | decide | omega) (show ∀ i∈[0,1,2,6,7],(["wide", "up", "down", "word", "parts", "signs", "above", "beneath", "inner", "sign", "item", "raised", "lowered", "bands", "widths", "band_numbers", "lows"]:List Str).getD i "!"≠"row_within" by w_left)
 ·cases h
  exact GR.cF.fB rfl rfl T.sr T.lG (by first | decide | omega) (show ∀ i∈[0,1,2,8],(["wide", "up", "down", "word", "parts", "signs", "above", "beneath", "inner", "sign", "item", "raised", "lowered", "bands", "widths", "band_numbers", "lows"]:List Str).getD i "!"≠"row_within" by w_left)
 ·cases h
  exact GR.d0.fB rfl rfl T.vt T.mN (by first | decide | omega) (show ∀ i∈[0,1,2,9,8],(["wide", "up", "down", "word", "parts", "signs", "above", "beneath", "inner", "sign", "item", "raised", "lowered", "bands", "widths", "band_numbers", "lows"]:List Str).getD i "!"≠"row_within" by w_left)
 ·cases h
  exact GR.bX.fB rfl rfl T.i6 T.jX (by first | decide | omega) (show ∀ i∈[0,1,2,10,11,12],(["wide", "up", "down", "word", "parts", "signs", "above", "beneath", "inner", "sign", "item", "raised", "lowered", "bands", "widths", "band_numbers", "lows"]:List Str).getD i "!"≠"row_within" by w_left)
 ·cases h
  exact GR.cH.fB rfl rfl T.sv T.lI (by first | decide | omega) (show ∀ i∈[0,1,2,8],(["wide", "up", "down", "word", "parts", "signs", "above", "beneath", "inner", "sign", "item", "raised", "lowered", "bands", "widths", "band_numbers", "lows"]:List Str).getD i "!"≠"row_within" by w_left)
 ·cases h
  exact GR.cI.fB rfl rfl T.oB T.lJ (by first | decide | omega) (show ∀ i∈[13,14,15,0,1,2,16],(["wide", "up", "down", "word", "parts", "signs", "above", "beneath", "inner", "sign", "item", "raised", "lowered", "bands", "widths", "band_numbers", "lows"]:List Str).getD i "!"≠"row_within" by w_left)
 ·cases h
theorem Ce (G_Sketch_rows:UnF P w K mg base (ct C0 C1 C2 C3 C4 C5 C6 C7 C8) m_Sketch_rows ["self"] 43 b0):pd P w K mg base (ct C0 C1 C2 C3 C4 C5 C6 C7 C8) "rows" 0 43 cv:=by
 refine ⟨fun j lay F h=>?_⟩
 rcases j with _ | _ | _ | _ | _ | _ | _ | _ | _ | j
 ·cases h
  exact G_Sketch_rows.fB rfl rfl T.nu T.pI (by first | decide | omega) (show ∀ i∈[0,1,2],(["wide", "up", "down", "word", "parts", "signs", "above", "beneath", "inner", "sign", "item", "raised", "lowered", "bands", "widths", "band_numbers", "lows"]:List Str).getD i "!"≠"rows" by w_left)
 ·cases h
  exact G_Sketch_rows.fB rfl rfl T.se T.sf (by first | decide | omega) (show ∀ i∈[0,1,2,3],(["wide", "up", "down", "word", "parts", "signs", "above", "beneath", "inner", "sign", "item", "raised", "lowered", "bands", "widths", "band_numbers", "lows"]:List Str).getD i "!"≠"rows" by w_left)
 ·cases h
  exact G_Sketch_rows.fB rfl rfl T.pJ T.qi (by first | decide | omega) (show ∀ i∈[0,1,2,4,5],(["wide", "up", "down", "word", "parts", "signs", "above", "beneath", "inner", "sign", "item", "raised", "lowered", "bands", "widths", "band_numbers", "lows"]:List Str).getD i "!"≠"rows" by w_left)
 ·cases h
  exact G_Sketch_rows.fB rfl rfl T.sj T.so (by first | decide | omega) (show ∀ i∈[0,1,2,6,7],(["wide", "up", "down", "word", "parts", "signs", "above", "beneath", "inner", "sign", "item", "raised", "lowered", "bands", "widths", "band_numbers", "lows"]:List Str).getD i "!"≠"rows" by w_left)
 ·cases h
  exact G_Sketch_rows.fB rfl rfl T.sr T.su (by first | decide | omega) (show ∀ i∈[0,1,2,8],(["wide", "up", "down", "word", "parts", "signs", "above", "beneath", "inner", "sign", "item", "raised", "lowered", "bands", "widths", "band_numbers", "lows"]:List Str).getD i "!"≠"rows" by w_left)
 ·cases h
  exact G_Sketch_rows.fB rfl rfl T.vt T.ug (by first | decide | omega) (show ∀ i∈[0,1,2,9,8],(["wide", "up", "down", "word", "parts", "signs", "above", "beneath", "inner", "sign", "item", "raised", "lowered", "bands", "widths", "band_numbers", "lows"]:List Str).getD i "!"≠"rows" by w_left)
 ·cases h
  exact G_Sketch_rows.fB rfl rfl T.i6 T.pK (by first | decide | omega) (show ∀ i∈[0,1,2,10,11,12],(["wide", "up", "down", "word", "parts", "signs", "above", "beneath", "inner", "sign", "item", "raised", "lowered", "bands", "widths", "band_numbers", "lows"]:List Str).getD i "!"≠"rows" by w_left)
 ·cases h
  exact G_Sketch_rows.fB rfl rfl T.sv T.sA (by first | decide | omega) (show ∀ i∈[0,1,2,8],(["wide", "up", "down", "word", "parts", "signs", "above", "beneath", "inner", "sign", "item", "raised", "lowered", "bands", "widths", "band_numbers", "lows"]:List Str).getD i "!"≠"rows" by w_left)
 ·cases h
  exact G_Sketch_rows.fB rfl rfl T.oB T.sC (by first | decide | omega) (show ∀ i∈[13,14,15,0,1,2,16],(["wide", "up", "down", "word", "parts", "signs", "above", "beneath", "inner", "sign", "item", "raised", "lowered", "bands", "widths", "band_numbers", "lows"]:List Str).getD i "!"≠"rows" by w_left)
 ·cases h
theorem uo {kr:Nat}(hk:2≤kr){R:fx}(GR:il P w K mg base C0 C1 C2 C3 C4 C5 C6 C7 C8 m_Sketch_row_within m_Word_row_within m_Marked_raised_low m_Marked_lowered_low m_Sketch_row m_Chain_row_within m_Over_row_within m_Root_row_within m_Led_row_within m_Marked_row_within m_Marked_mark_row m_Held_row_within m_Grid_row_within m_Grid_band_row m_Sketch_rows m_Sketch_init m_Word_init m_Chain_init m_Grid_init m_Over_init m_Root_init m_Led_init m_Marked_init m_Held_init kr R):ic P w K mg base (ct C0 C1 C2 C3 C4 C5 C6 C7 C8) "mark_row" 1 kr (iD R):=by
 refine ⟨fun j lay F h=>?_⟩
 rcases j with _ | _ | _ | _ | _ | _ | _ | _ | _ | j
 ·cases h
 ·cases h
 ·cases h
 ·cases h
 ·cases h
 ·cases h
 ·cases h
  exact GR.cG.fB rfl rfl T.i6 T.lH (by first | decide | omega) (show ∀ i∈[0,1,2,10,11,12],(["wide", "up", "down", "word", "parts", "signs", "above", "beneath", "inner", "sign", "item", "raised", "lowered", "bands", "widths", "band_numbers", "lows"]:List Str).getD i "!"≠"mark_row" by w_left)
 ·cases h
 ·cases h
 ·cases h
theorem ql (G_Marked_raised_low:UnD P w K mg base (ct C0 C1 C2 C3 C4 C5 C6 C7 C8) m_Marked_raised_low ["self"] 1 cL):ic P w K mg base (ct C0 C1 C2 C3 C4 C5 C6 C7 C8) "raised_low" 0 1 eH:=by
 refine ⟨fun j lay F h=>?_⟩
 rcases j with _ | _ | _ | _ | _ | _ | _ | _ | _ | j
 ·cases h
 ·cases h
 ·cases h
 ·cases h
 ·cases h
 ·cases h
 ·cases h
  exact G_Marked_raised_low.fB rfl rfl T.i6 T.jY (by first | decide | omega) (show ∀ i∈[0,1,2,10,11,12],(["wide", "up", "down", "word", "parts", "signs", "above", "beneath", "inner", "sign", "item", "raised", "lowered", "bands", "widths", "band_numbers", "lows"]:List Str).getD i "!"≠"raised_low" by w_left)
 ·cases h
 ·cases h
 ·cases h
theorem pL (G_Marked_lowered_low:UnD P w K mg base (ct C0 C1 C2 C3 C4 C5 C6 C7 C8) m_Marked_lowered_low ["self"] 1 cz):ic P w K mg base (ct C0 C1 C2 C3 C4 C5 C6 C7 C8) "lowered_low" 0 1 dN:=by
 refine ⟨fun j lay F h=>?_⟩
 rcases j with _ | _ | _ | _ | _ | _ | _ | _ | _ | j
 ·cases h
 ·cases h
 ·cases h
 ·cases h
 ·cases h
 ·cases h
 ·cases h
  exact G_Marked_lowered_low.fB rfl rfl T.i6 T.jv (by first | decide | omega) (show ∀ i∈[0,1,2,10,11,12],(["wide", "up", "down", "word", "parts", "signs", "above", "beneath", "inner", "sign", "item", "raised", "lowered", "bands", "widths", "band_numbers", "lows"]:List Str).getD i "!"≠"lowered_low" by w_left)
 ·cases h
 ·cases h
 ·cases h
theorem uq {kr:Nat}(hk:2≤kr){R:fx}(GR:il P w K mg base C0 C1 C2 C3 C4 C5 C6 C7 C8 m_Sketch_row_within m_Word_row_within m_Marked_raised_low m_Marked_lowered_low m_Sketch_row m_Chain_row_within m_Over_row_within m_Root_row_within m_Led_row_within m_Marked_row_within m_Marked_mark_row m_Held_row_within m_Grid_row_within m_Grid_band_row m_Sketch_rows m_Sketch_init m_Word_init m_Chain_init m_Grid_init m_Over_init m_Root_init m_Led_init m_Marked_init m_Held_init kr R):ic P w K mg base (ct C0 C1 C2 C3 C4 C5 C6 C7 C8) "band_row" 2 kr (fR R):=by
 refine ⟨fun j lay F h=>?_⟩
 rcases j with _ | _ | _ | _ | _ | _ | _ | _ | _ | j
 ·cases h
 ·cases h
 ·cases h
 ·cases h
 ·cases h
 ·cases h
 ·cases h
 ·cases h
 ·cases h
  exact GR.dA.fB rfl rfl T.oB T.ny (by first | decide | omega) (show ∀ i∈[13,14,15,0,1,2,16],(["wide", "up", "down", "word", "parts", "signs", "above", "beneath", "inner", "sign", "item", "raised", "lowered", "bands", "widths", "band_numbers", "lows"]:List Str).getD i "!"≠"band_row" by w_left)
 ·cases h
theorem jm:BodyOk P w K mg base (ct C0 C1 C2 C3 C4 C5 C6 C7 C8) ["self", "k"] bo 0 dI:=by
 refine ⟨fun X hP hw hK hmg hb d hr=>?_⟩
 subst hP hw hK hmg hb
 have hS:ag bo=_:=(by (conv=>lhs; whnf))
 rw [hS] at d
 have hB:aw bo=_:=(by (conv=>lhs; whnf))
 rw [hB]
 have n_0:Nm X 0 "self":=d.nm rfl (by w_fin)
 have g_BLANK:Gl X "BLANK":=d.gl rfl
 have hu:=bF hr
 delta dI
 refine ar ?_
 refine aE ?_
 refine eO ?_ ?_
 refine ai ?_
 refine fW ⟨T.aW⟩ ?_
 exact g_BLANK
 refine aA T.iT rfl ?_
 exact aa n_0
theorem jZ:BodyOk P w K mg base (ct C0 C1 C2 C3 C4 C5 C6 C7 C8) ["self", "k"] bH 0 eM:=by
 refine ⟨fun X hP hw hK hmg hb d hr=>?_⟩
 subst hP hw hK hmg hb
 have hS:ag bH=_:=(by (conv=>lhs; whnf))
 rw [hS] at d
 have hB:aw bH=_:=(by (conv=>lhs; whnf))
 rw [hB]
 have n_0:Nm X 0 "self":=d.nm rfl (by w_fin)
 have hu:=bF hr
 delta eM
 refine ar ?_
 refine aE ?_
 refine aA T.Hy rfl ?_
 exact aa n_0
theorem sF:BodyOk P w K mg base (ct C0 C1 C2 C3 C4 C5 C6 C7 C8) ["narrow", "wide"] fT 0 kq:=by
 refine ⟨fun X hP hw hK hmg hb d hr=>?_⟩
 subst hP hw hK hmg hb
 have hS:ag fT=_:=(by (conv=>lhs; whnf))
 rw [hS] at d
 have hB:aw fT=_:=(by (conv=>lhs; whnf))
 rw [hB]
 have n_0:Nm X 0 "narrow":=d.nm rfl (by w_fin)
 have n_1:Nm X 1 "wide":=d.nm rfl (by w_fin)
 have hu:=bF hr
 delta kq
 refine ar ?_
 refine aE ?_
 refine gx ?_ ?_
 refine d6 ?_ ?_
 exact aa n_1
 exact aa n_0
 exact aq
theorem xW (G_left_of:Def P w K mg base (ct C0 C1 C2 C3 C4 C5 C6 C7 C8) "left_of" ["narrow", "wide"] 1 j0):BodyOk P w K mg base (ct C0 C1 C2 C3 C4 C5 C6 C7 C8) ["text", "wide"] jT 1 rQ:=by
 refine ⟨fun X hP hw hK hmg hb d hr=>?_⟩
 subst hP hw hK hmg hb
 have hS:ag jT=_:=(by (conv=>lhs; whnf))
 rw [hS] at d
 have hB:aw jT=_:=(by (conv=>lhs; whnf))
 rw [hB]
 have n_0:Nm X 0 "text":=d.nm rfl (by w_fin)
 have n_1:Nm X 1 "wide":=d.nm rfl (by w_fin)
 have g_BLANK:Gl X "BLANK":=d.gl rfl
 have g_left_of:Gl X "left_of":=d.gl rfl
 have g_len:Gl X "len":=d.gl rfl
 have hu:=bF hr
 delta rQ
 refine ar ?_
 refine aE ?_
 refine uY zE ?_ ?_
 refine aJ ?_ ?_
 refine ai ?_
 refine eO ?_ ?_
 refine ai ?_
 refine fW ⟨T.aW⟩ ?_
 exact g_BLANK
 refine bW G_left_of hr ?s1 ?_ ?_
 case s1=>decide
 exact g_left_of
 refine ae ?_ ?_
 refine eK ?_ ?_ ?_
 exact g_len
 exact T.gj
 refine ai ?_
 exact aa n_0
 refine ae ?_ ?_
 exact aa n_1
 exact ao
 refine ai ?_
 exact aa n_0
 exact aa n_1
theorem jn:BodyOk P w K mg base (ct C0 C1 C2 C3 C4 C5 C6 C7 C8) ["self"] bp 0 dJ:=by
 refine ⟨fun X hP hw hK hmg hb d hr=>?_⟩
 subst hP hw hK hmg hb
 have hS:ag bp=_:=(by (conv=>lhs; whnf))
 rw [hS] at d
 have hB:aw bp=_:=(by (conv=>lhs; whnf))
 rw [hB]
 have n_0:Nm X 0 "self":=d.nm rfl (by w_fin)
 have hu:=bF hr
 delta dJ
 refine ar ?_
 refine aE ?_
 refine d6 ?_ ?_
 refine d6 ?_ ?_
 refine jH ?_
 refine aA T.j4 rfl ?_
 refine aA T.qY rfl ?_
 exact aa n_0
 exact aq
 refine aA T.jk rfl ?_
 refine aA T.A7 rfl ?_
 exact aa n_0
theorem j5:BodyOk P w K mg base (ct C0 C1 C2 C3 C4 C5 C6 C7 C8) ["self"] bh 0 dh:=by
 refine ⟨fun X hP hw hK hmg hb d hr=>?_⟩
 subst hP hw hK hmg hb
 have hS:ag bh=_:=(by (conv=>lhs; whnf))
 rw [hS] at d
 have hB:aw bh=_:=(by (conv=>lhs; whnf))
 rw [hB]
 have n_0:Nm X 0 "self":=d.nm rfl (by w_fin)
 have hu:=bF hr
 delta dh
 refine ar ?_
 refine aE ?_
 refine aJ ?_ ?_
 refine ai ?_
 refine aJ ?_ ?_
 refine ai ?_
 refine aA T.jk rfl ?_
 refine aA T.qY rfl ?_
 exact aa n_0
 exact ai aq
 refine ai ?_
 refine aA T.j4 rfl ?_
 refine aA T.A8 rfl ?_
 exact aa n_0
theorem o7 {kr:Nat}(hk:2≤kr){R:fx}(GR:il P w K mg base C0 C1 C2 C3 C4 C5 C6 C7 C8 m_Sketch_row_within m_Word_row_within m_Marked_raised_low m_Marked_lowered_low m_Sketch_row m_Chain_row_within m_Over_row_within m_Root_row_within m_Led_row_within m_Marked_row_within m_Marked_mark_row m_Held_row_within m_Grid_row_within m_Grid_band_row m_Sketch_rows m_Sketch_init m_Word_init m_Chain_init m_Grid_init m_Over_init m_Root_init m_Led_init m_Marked_init m_Held_init kr R)(G_Sketch_row_within:UnD P w K mg base (ct C0 C1 C2 C3 C4 C5 C6 C7 C8) m_Sketch_row_within ["self", "k"] 1 cK)(G_Word_row_within:UnD P w K mg base (ct C0 C1 C2 C3 C4 C5 C6 C7 C8) m_Word_row_within ["self", "k"] 1 dg):BodyOk P w K mg base (ct C0 C1 C2 C3 C4 C5 C6 C7 C8) ["self", "k"] du kr (g9 R):=by
 have Q_row_within:=qk T G_Sketch_row_within G_Word_row_within hk GR
 refine ⟨fun X hP hw hK hmg hb d hr=>?_⟩
 subst hP hw hK hmg hb
 have hS:ag du=_:=(by (conv=>lhs; whnf))
 rw [hS] at d
 have hB:aw du=_:=(by (conv=>lhs; whnf))
 rw [hB]
 have n_0:Nm X 0 "self":=d.nm rfl (by w_fin)
 have n_1:Nm X 1 "k":=d.nm rfl (by w_fin)
 have g_BLANK:Gl X "BLANK":=d.gl rfl
 have hu:=bF hr
 delta g9
 refine ak ?_ ?_
 refine bE ?_ ?_ ?_
 refine PDW.pt ?_
 refine jJ ?_ ?_
 refine jI ?_ ?_
 exact aa n_1
 refine jH ?_
 refine aA T.j4 rfl ?_
 exact aa n_0
 refine iB ?_
 refine uO ?_ ?_
 exact aa n_1
 refine aA T.jk rfl ?_
 exact aa n_0
 refine ar ?_
 refine aE ?_
 refine eO ?_ ?_
 refine ai ?_
 refine fW ⟨T.aW⟩ ?_
 exact g_BLANK
 refine aA T.iT rfl ?_
 exact aa n_0
 exact aS
 refine ar ?_
 refine aE ?_
 refine cN Q_row_within hr ?s1 ?_ ?_
 case s1=>first | decide | omega
 exact aa n_0
 refine ae ?_ ?_
 exact aa n_1
 exact ao
theorem jw {kr:Nat}(hk:2≤kr){R:fx}(GR:il P w K mg base C0 C1 C2 C3 C4 C5 C6 C7 C8 m_Sketch_row_within m_Word_row_within m_Marked_raised_low m_Marked_lowered_low m_Sketch_row m_Chain_row_within m_Over_row_within m_Root_row_within m_Led_row_within m_Marked_row_within m_Marked_mark_row m_Held_row_within m_Grid_row_within m_Grid_band_row m_Sketch_rows m_Sketch_init m_Word_init m_Chain_init m_Grid_init m_Over_init m_Root_init m_Led_init m_Marked_init m_Held_init kr R):BodyOk P w K mg base (ct C0 C1 C2 C3 C4 C5 C6 C7 C8) ["self", "k", "pieces", "sign", "part"] bB kr (d3 R):=by
 have Q_row:=jl T  hk GR
 refine ⟨fun X hP hw hK hmg hb d hr=>?_⟩
 subst hP hw hK hmg hb
 have hS:ag bB=_:=(by (conv=>lhs; whnf))
 rw [hS] at d
 have hB:aw bB=_:=(by (conv=>lhs; whnf))
 rw [hB]
 have n_0:Nm X 0 "self":=d.nm rfl (by w_fin)
 have n_1:Nm X 1 "k":=d.nm rfl (by w_fin)
 have n_2:Nm X 2 "pieces":=d.nm rfl (by w_fin)
 have n_3:Nm X 3 "sign":=d.nm rfl (by w_fin)
 have n_4:Nm X 4 "part":=d.nm rfl (by w_fin)
 have l_2:Nl X 2 "pieces":=d.nl rfl (by first | exact .inl rfl | exact .inr rfl)
 have l_3:Nl X 3 "sign":=d.nl rfl (by first | exact .inl rfl | exact .inr rfl)
 have l_4:Nl X 4 "part":=d.nl rfl (by first | exact .inl rfl | exact .inr rfl)
 have g_BLANK:Gl X "BLANK":=d.gl rfl
 have g_zip:Gl X "zip":=d.gl rfl
 have hu:=bF hr
 delta d3
 refine ak ?_ ?_
 refine oo ?_ ?_
 exact l_2
 refine fX ?_
 refine ae ?_ ?_
 refine cN Q_row hr ?s1 ?_ ?_
 case s1=>first | decide | omega
 refine d5 ?_ ?_
 refine ai ?_
 refine aA T.ES rfl ?_
 exact aa n_0
 exact aq
 refine ae ?_ ?_
 exact aa n_1
 exact ao
 exact ao
 refine ak ?_ ?_
 refine xM d.never d.calm (oQ (gp 3 (gp 4 mX))) ?_ ?_ ?_ ?_ ?_
 refine uv d.calm ?_
 refine iV ?_ ?_
 exact cO l_3
 refine iV ?_ ?_
 exact cO l_4
 exact rg
 exact g_zip
 exact T.D1
 refine ae ?_ ?_
 refine aA T.Hz rfl ?_
 exact aa n_0
 refine ae ?_ ?_
 refine t9 ?_ ?_ ?_
 refine ai ?_
 refine aA T.ES rfl ?_
 exact aa n_0
 exact iY aq
 exact lX
 exact ao
 refine ak ?_ ?_
 refine jf ?_ ?_
 exact n_2
 refine aJ ?_ ?_
 refine ai ?_
 refine aJ ?_ ?_
 refine ai ?_
 refine fW ⟨T.aW⟩ ?_
 exact g_BLANK
 refine ai ?_
 refine i8 ?_ ?_ ?_
 refine cZ hr ?_ ?_
 refine ai ?_
 exact aa n_1
 exact ai aq
 exact aa n_3
 refine fW ⟨T.aW⟩ ?_
 exact g_BLANK
 refine ai ?_
 refine fW ⟨T.aW⟩ ?_
 exact g_BLANK
 refine ar ?_
 refine jf ?_ ?_
 exact n_2
 refine cN Q_row hr ?s1 ?_ ?_
 case s1=>first | decide | omega
 exact aa n_4
 refine ae ?_ ?_
 exact aa n_1
 exact ao
 refine ar ?_
 refine aE ?_
 refine ou ?_ ?_
 exact ba (by w_left)
 exact rF n_2
theorem k5 (G_amid:Def P w K mg base (ct C0 C1 C2 C3 C4 C5 C6 C7 C8) "amid" ["text", "wide"] 2 n8){kr:Nat}(hk:2≤kr){R:fx}(GR:il P w K mg base C0 C1 C2 C3 C4 C5 C6 C7 C8 m_Sketch_row_within m_Word_row_within m_Marked_raised_low m_Marked_lowered_low m_Sketch_row m_Chain_row_within m_Over_row_within m_Root_row_within m_Led_row_within m_Marked_row_within m_Marked_mark_row m_Held_row_within m_Grid_row_within m_Grid_band_row m_Sketch_rows m_Sketch_init m_Word_init m_Chain_init m_Grid_init m_Over_init m_Root_init m_Led_init m_Marked_init m_Held_init kr R):BodyOk P w K mg base (ct C0 C1 C2 C3 C4 C5 C6 C7 C8) ["self", "k"] bI kr (di R):=by
 have Q_row:=jl T  hk GR
 refine ⟨fun X hP hw hK hmg hb d hr=>?_⟩
 subst hP hw hK hmg hb
 have hS:ag bI=_:=(by (conv=>lhs; whnf))
 rw [hS] at d
 have hB:aw bI=_:=(by (conv=>lhs; whnf))
 rw [hB]
 have n_0:Nm X 0 "self":=d.nm rfl (by w_fin)
 have n_1:Nm X 1 "k":=d.nm rfl (by w_fin)
 have g_amid:Gl X "amid":=d.gl rfl
 have hu:=bF hr
 delta di
 refine ak ?_ ?_
 refine bE ?_ ?_ ?_
 refine cZ hr ?_ ?_
 refine ai ?_
 exact aa n_1
 exact ai aq
 refine ar ?_
 refine aE ?_
 refine eO ?_ ?_
 refine ai ?_
 exact ba (by w_left)
 refine aA T.iT rfl ?_
 exact aa n_0
 exact aS
 refine ak ?_ ?_
 refine bE ?_ ?_ ?_
 refine jI ?_ ?_
 exact aa n_1
 exact aq
 refine ar ?_
 refine aE ?_
 refine bW G_amid hr ?s1 ?_ ?_
 case s1=>first | decide | omega
 exact g_amid
 refine ae ?_ ?_
 refine cN Q_row hr ?s1 ?_ ?_
 case s1=>first | decide | omega
 refine aA T.ET rfl ?_
 exact aa n_0
 refine ae ?_ ?_
 refine aJ ?_ ?_
 refine ai ?_
 refine aJ ?_ ?_
 refine ai ?_
 exact aa n_1
 exact ai aq
 refine ai ?_
 refine aA T.jk rfl ?_
 refine aA T.ET rfl ?_
 exact aa n_0
 exact ao
 refine ae ?_ ?_
 refine aA T.iT rfl ?_
 exact aa n_0
 exact ao
 exact aS
 refine ar ?_
 refine aE ?_
 refine bW G_amid hr ?s1 ?_ ?_
 case s1=>first | decide | omega
 exact g_amid
 refine ae ?_ ?_
 refine cN Q_row hr ?s1 ?_ ?_
 case s1=>first | decide | omega
 refine aA T.EU rfl ?_
 exact aa n_0
 refine ae ?_ ?_
 refine d6 ?_ ?_
 refine d6 ?_ ?_
 exact aa n_1
 exact aq
 refine aA T.j4 rfl ?_
 refine aA T.EU rfl ?_
 exact aa n_0
 exact ao
 refine ae ?_ ?_
 refine aA T.iT rfl ?_
 exact aa n_0
 exact ao
theorem k6 {kr:Nat}(hk:2≤kr){R:fx}(GR:il P w K mg base C0 C1 C2 C3 C4 C5 C6 C7 C8 m_Sketch_row_within m_Word_row_within m_Marked_raised_low m_Marked_lowered_low m_Sketch_row m_Chain_row_within m_Over_row_within m_Root_row_within m_Led_row_within m_Marked_row_within m_Marked_mark_row m_Held_row_within m_Grid_row_within m_Grid_band_row m_Sketch_rows m_Sketch_init m_Word_init m_Chain_init m_Grid_init m_Over_init m_Root_init m_Led_init m_Marked_init m_Held_init kr R):BodyOk P w K mg base (ct C0 C1 C2 C3 C4 C5 C6 C7 C8) ["self", "k"] bJ kr (dj R):=by
 have Q_row:=jl T  hk GR
 refine ⟨fun X hP hw hK hmg hb d hr=>?_⟩
 subst hP hw hK hmg hb
 have hS:ag bJ=_:=(by (conv=>lhs; whnf))
 rw [hS] at d
 have hB:aw bJ=_:=(by (conv=>lhs; whnf))
 rw [hB]
 have n_0:Nm X 0 "self":=d.nm rfl (by w_fin)
 have n_1:Nm X 1 "k":=d.nm rfl (by w_fin)
 have g_BLANK:Gl X "BLANK":=d.gl rfl
 have hu:=bF hr
 delta dj
 refine ak ?_ ?_
 refine bE ?_ ?_ ?_
 refine cZ hr ?_ ?_
 refine ai ?_
 exact aa n_1
 refine ai ?_
 refine jH ?_
 refine aA T.j4 rfl ?_
 exact aa n_0
 refine ar ?_
 refine aE ?_
 refine aJ ?_ ?_
 refine ai ?_
 refine eO ?_ ?_
 refine ai ?_
 refine fW ⟨T.aW⟩ ?_
 exact g_BLANK
 exact aq
 refine ai ?_
 refine eO ?_ ?_
 refine ai ?_
 exact ba (by w_left)
 refine aA T.iT rfl ?_
 refine aA T.sD rfl ?_
 exact aa n_0
 exact aS
 refine ar ?_
 refine aE ?_
 refine aJ ?_ ?_
 refine ai ?_
 refine i8 ?_ ?_ ?_
 refine cZ hr ?_ ?_
 refine ai ?_
 exact aa n_1
 exact ai aq
 exact ba (by w_left)
 refine aJ ?_ ?_
 refine ai ?_
 refine fW ⟨T.aW⟩ ?_
 exact g_BLANK
 refine ai ?_
 exact ba (by w_left)
 refine ai ?_
 refine cN Q_row hr ?s1 ?_ ?_
 case s1=>first | decide | omega
 refine aA T.sD rfl ?_
 exact aa n_0
 refine ae ?_ ?_
 exact aa n_1
 exact ao
theorem kJ {kr:Nat}(hk:2≤kr){R:fx}(GR:il P w K mg base C0 C1 C2 C3 C4 C5 C6 C7 C8 m_Sketch_row_within m_Word_row_within m_Marked_raised_low m_Marked_lowered_low m_Sketch_row m_Chain_row_within m_Over_row_within m_Root_row_within m_Led_row_within m_Marked_row_within m_Marked_mark_row m_Held_row_within m_Grid_row_within m_Grid_band_row m_Sketch_rows m_Sketch_init m_Word_init m_Chain_init m_Grid_init m_Over_init m_Root_init m_Led_init m_Marked_init m_Held_init kr R):BodyOk P w K mg base (ct C0 C1 C2 C3 C4 C5 C6 C7 C8) ["self", "k"] bR kr (dO R):=by
 have Q_row:=jl T  hk GR
 refine ⟨fun X hP hw hK hmg hb d hr=>?_⟩
 subst hP hw hK hmg hb
 have hS:ag bR=_:=(by (conv=>lhs; whnf))
 rw [hS] at d
 have hB:aw bR=_:=(by (conv=>lhs; whnf))
 rw [hB]
 have n_0:Nm X 0 "self":=d.nm rfl (by w_fin)
 have n_1:Nm X 1 "k":=d.nm rfl (by w_fin)
 have g_BLANK:Gl X "BLANK":=d.gl rfl
 have hu:=bF hr
 delta dO
 refine ar ?_
 refine aE ?_
 refine aJ ?_ ?_
 refine ai ?_
 refine aJ ?_ ?_
 refine ai ?_
 refine i8 ?_ ?_ ?_
 refine cZ hr ?_ ?_
 refine ai ?_
 exact aa n_1
 exact ai aq
 refine aA T.HA rfl ?_
 exact aa n_0
 refine fW ⟨T.aW⟩ ?_
 exact g_BLANK
 refine ai ?_
 refine fW ⟨T.aW⟩ ?_
 exact g_BLANK
 refine ai ?_
 refine cN Q_row hr ?s1 ?_ ?_
 case s1=>first | decide | omega
 refine aA T.sD rfl ?_
 exact aa n_0
 refine ae ?_ ?_
 exact aa n_1
 exact ao
theorem jo {kr:Nat}(hk:2≤kr){R:fx}(GR:il P w K mg base C0 C1 C2 C3 C4 C5 C6 C7 C8 m_Sketch_row_within m_Word_row_within m_Marked_raised_low m_Marked_lowered_low m_Sketch_row m_Chain_row_within m_Over_row_within m_Root_row_within m_Led_row_within m_Marked_row_within m_Marked_mark_row m_Held_row_within m_Grid_row_within m_Grid_band_row m_Sketch_rows m_Sketch_init m_Word_init m_Chain_init m_Grid_init m_Over_init m_Root_init m_Led_init m_Marked_init m_Held_init kr R):BodyOk P w K mg base (ct C0 C1 C2 C3 C4 C5 C6 C7 C8) ["self", "k"] bq kr (bZ R):=by
 have Q_row:=jl T  hk GR
 have Q_mark_row:=uo T  hk GR
 refine ⟨fun X hP hw hK hmg hb d hr=>?_⟩
 subst hP hw hK hmg hb
 have hS:ag bq=_:=(by (conv=>lhs; whnf))
 rw [hS] at d
 have hB:aw bq=_:=(by (conv=>lhs; whnf))
 rw [hB]
 have n_0:Nm X 0 "self":=d.nm rfl (by w_fin)
 have n_1:Nm X 1 "k":=d.nm rfl (by w_fin)
 have hu:=bF hr
 delta bZ
 refine ar ?_
 refine aE ?_
 refine uY zE ?_ ?_
 refine aJ ?_ ?_
 refine ai ?_
 refine cN Q_row hr ?s1 ?_ ?_
 case s1=>first | decide | omega
 refine aA T.qY rfl ?_
 exact aa n_0
 refine ae ?_ ?_
 exact aa n_1
 exact ao
 refine ai ?_
 refine cN Q_mark_row hr ?s1 ?_ ?_
 case s1=>first | decide | omega
 exact aa n_0
 refine ae ?_ ?_
 exact aa n_1
 exact ao
 refine aA T.iT rfl ?_
 exact aa n_0
theorem k7 {kr:Nat}(hk:2≤kr){R:fx}(GR:il P w K mg base C0 C1 C2 C3 C4 C5 C6 C7 C8 m_Sketch_row_within m_Word_row_within m_Marked_raised_low m_Marked_lowered_low m_Sketch_row m_Chain_row_within m_Over_row_within m_Root_row_within m_Led_row_within m_Marked_row_within m_Marked_mark_row m_Held_row_within m_Grid_row_within m_Grid_band_row m_Sketch_rows m_Sketch_init m_Word_init m_Chain_init m_Grid_init m_Over_init m_Root_init m_Led_init m_Marked_init m_Held_init kr R)(Q_raised_low:ic P w K mg base (ct C0 C1 C2 C3 C4 C5 C6 C7 C8) "raised_low" 0 1 eH)(Q_lowered_low:ic P w K mg base (ct C0 C1 C2 C3 C4 C5 C6 C7 C8) "lowered_low" 0 1 dN):BodyOk P w K mg base (ct C0 C1 C2 C3 C4 C5 C6 C7 C8) ["self", "k"] bK kr (bY R):=by
 have Q_row:=jl T  hk GR
 refine ⟨fun X hP hw hK hmg hb d hr=>?_⟩
 subst hP hw hK hmg hb
 have hS:ag bK=_:=(by (conv=>lhs; whnf))
 rw [hS] at d
 have hB:aw bK=_:=(by (conv=>lhs; whnf))
 rw [hB]
 have n_0:Nm X 0 "self":=d.nm rfl (by w_fin)
 have n_1:Nm X 1 "k":=d.nm rfl (by w_fin)
 have hu:=bF hr
 delta bY
 refine ak ?_ ?_
 refine bE ?_ ?_ ?_
 refine jI ?_ ?_
 exact aa n_1
 refine jH ?_
 refine aA T.j4 rfl ?_
 refine aA T.qY rfl ?_
 exact aa n_0
 refine ar ?_
 refine aE ?_
 refine cN Q_row hr ?s1 ?_ ?_
 case s1=>first | decide | omega
 refine aA T.A7 rfl ?_
 exact aa n_0
 refine ae ?_ ?_
 refine d6 ?_ ?_
 exact aa n_1
 refine tH Q_raised_low hr ?s1 ?_
 case s1=>first | decide | omega
 exact aa n_0
 exact ao
 exact aS
 refine ak ?_ ?_
 refine bE ?_ ?_ ?_
 refine uO ?_ ?_
 exact aa n_1
 refine aA T.jk rfl ?_
 refine aA T.qY rfl ?_
 exact aa n_0
 refine ar ?_
 refine aE ?_
 refine cN Q_row hr ?s1 ?_ ?_
 case s1=>first | decide | omega
 refine aA T.A8 rfl ?_
 exact aa n_0
 refine ae ?_ ?_
 refine d6 ?_ ?_
 exact aa n_1
 refine tH Q_lowered_low hr ?s1 ?_
 case s1=>first | decide | omega
 exact aa n_0
 exact ao
 exact aS
 refine ar ?_
 refine aE ?_
 exact ba (by w_left)
theorem k8 {kr:Nat}(hk:2≤kr){R:fx}(GR:il P w K mg base C0 C1 C2 C3 C4 C5 C6 C7 C8 m_Sketch_row_within m_Word_row_within m_Marked_raised_low m_Marked_lowered_low m_Sketch_row m_Chain_row_within m_Over_row_within m_Root_row_within m_Led_row_within m_Marked_row_within m_Marked_mark_row m_Held_row_within m_Grid_row_within m_Grid_band_row m_Sketch_rows m_Sketch_init m_Word_init m_Chain_init m_Grid_init m_Over_init m_Root_init m_Led_init m_Marked_init m_Held_init kr R):BodyOk P w K mg base (ct C0 C1 C2 C3 C4 C5 C6 C7 C8) ["self", "k"] bL kr (dk R):=by
 have Q_row:=jl T  hk GR
 refine ⟨fun X hP hw hK hmg hb d hr=>?_⟩
 subst hP hw hK hmg hb
 have hS:ag bL=_:=(by (conv=>lhs; whnf))
 rw [hS] at d
 have hB:aw bL=_:=(by (conv=>lhs; whnf))
 rw [hB]
 have n_0:Nm X 0 "self":=d.nm rfl (by w_fin)
 have n_1:Nm X 1 "k":=d.nm rfl (by w_fin)
 have hu:=bF hr
 delta dk
 refine ak ?_ ?_
 refine bE ?_ ?_ ?_
 refine cZ hr ?_ ?_
 refine ai ?_
 exact aa n_1
 exact ai aq
 refine ar ?_
 refine aE ?_
 refine aJ ?_ ?_
 refine ai ?_
 refine aJ ?_ ?_
 refine ai ?_
 exact ba (by w_left)
 refine ai ?_
 refine cN Q_row hr ?s1 ?_ ?_
 case s1=>first | decide | omega
 refine aA T.sD rfl ?_
 exact aa n_0
 refine ae ?_ ?_
 exact aa n_1
 exact ao
 refine ai ?_
 exact ba (by w_left)
 exact aS
 refine ak ?_ ?_
 refine bE ?_ ?_ ?_
 refine jI ?_ ?_
 exact aa n_1
 exact aq
 refine ar ?_
 refine aE ?_
 refine aJ ?_ ?_
 refine ai ?_
 refine aJ ?_ ?_
 refine ai ?_
 exact ba (by w_left)
 refine ai ?_
 refine cN Q_row hr ?s1 ?_ ?_
 case s1=>first | decide | omega
 refine aA T.sD rfl ?_
 exact aa n_0
 refine ae ?_ ?_
 exact aa n_1
 exact ao
 refine ai ?_
 exact ba (by w_left)
 exact aS
 refine ar ?_
 refine aE ?_
 refine aJ ?_ ?_
 refine ai ?_
 refine aJ ?_ ?_
 refine ai ?_
 exact ba (by w_left)
 refine ai ?_
 refine cN Q_row hr ?s1 ?_ ?_
 case s1=>first | decide | omega
 refine aA T.sD rfl ?_
 exact aa n_0
 refine ae ?_ ?_
 exact aa n_1
 exact ao
 refine ai ?_
 exact ba (by w_left)
theorem k9 {kr:Nat}(hk:2≤kr){R:fx}(GR:il P w K mg base C0 C1 C2 C3 C4 C5 C6 C7 C8 m_Sketch_row_within m_Word_row_within m_Marked_raised_low m_Marked_lowered_low m_Sketch_row m_Chain_row_within m_Over_row_within m_Root_row_within m_Led_row_within m_Marked_row_within m_Marked_mark_row m_Held_row_within m_Grid_row_within m_Grid_band_row m_Sketch_rows m_Sketch_init m_Word_init m_Chain_init m_Grid_init m_Over_init m_Root_init m_Led_init m_Marked_init m_Held_init kr R):BodyOk P w K mg base (ct C0 C1 C2 C3 C4 C5 C6 C7 C8) ["self", "k", "number", "inside"] bM kr (cC R):=by
 have Q_band_row:=uq T  hk GR
 refine ⟨fun X hP hw hK hmg hb d hr=>?_⟩
 subst hP hw hK hmg hb
 have hS:ag bM=_:=(by (conv=>lhs; whnf))
 rw [hS] at d
 have hB:aw bM=_:=(by (conv=>lhs; whnf))
 rw [hB]
 have n_0:Nm X 0 "self":=d.nm rfl (by w_fin)
 have n_1:Nm X 1 "k":=d.nm rfl (by w_fin)
 have n_2:Nm X 2 "number":=d.nm rfl (by w_fin)
 have n_3:Nm X 3 "inside":=d.nm rfl (by w_fin)
 have l_2:Nl X 2 "number":=d.nl rfl (by first | exact .inl rfl | exact .inr rfl)
 have l_3:Nl X 3 "inside":=d.nl rfl (by first | exact .inl rfl | exact .inr rfl)
 have g_BLANK:Gl X "BLANK":=d.gl rfl
 have hu:=bF hr
 delta cC
 refine ak ?_ ?_
 refine aV ?_ ?_
 exact l_2
 refine d5 ?_ ?_
 refine ai ?_
 refine aA T.A9 rfl ?_
 exact aa n_0
 refine aJ ?_ ?_
 refine ai ?_
 exact aa n_1
 refine ai ?_
 refine aA T.j4 rfl ?_
 exact aa n_0
 refine ak ?_ ?_
 refine aV ?_ ?_
 exact l_3
 refine i8 ?_ ?_ ?_
 refine rN ?_
 refine ai ?_
 exact aa n_2
 refine eO ?_ ?_
 refine ai ?_
 refine fW ⟨T.aW⟩ ?_
 exact g_BLANK
 refine d6 ?_ ?_
 refine aA T.iT rfl ?_
 exact aa n_0
 exact aq
 refine cN Q_band_row hr ?s1 ?_ ?_
 case s1=>first | decide | omega
 exact aa n_0
 refine ae ?_ ?_
 exact aa n_2
 refine ae ?_ ?_
 exact aa n_1
 exact ao
 refine ar ?_
 refine aE ?_
 refine i8 ?_ ?_ ?_
 refine cZ hr ?_ ?_
 refine ai ?_
 exact aa n_1
 exact ai aq
 refine aJ ?_ ?_
 refine ai ?_
 refine aJ ?_ ?_
 refine ai ?_
 exact ba (by w_left)
 refine ai ?_
 exact aa n_3
 refine ai ?_
 exact ba (by w_left)
 refine aJ ?_ ?_
 refine ai ?_
 refine aJ ?_ ?_
 refine ai ?_
 exact ba (by w_left)
 refine ai ?_
 exact aa n_3
 refine ai ?_
 exact ba (by w_left)
theorem lK {kr:Nat}(hk:2≤kr){R:fx}(GR:il P w K mg base C0 C1 C2 C3 C4 C5 C6 C7 C8 m_Sketch_row_within m_Word_row_within m_Marked_raised_low m_Marked_lowered_low m_Sketch_row m_Chain_row_within m_Over_row_within m_Root_row_within m_Led_row_within m_Marked_row_within m_Marked_mark_row m_Held_row_within m_Grid_row_within m_Grid_band_row m_Sketch_rows m_Sketch_init m_Word_init m_Chain_init m_Grid_init m_Over_init m_Root_init m_Led_init m_Marked_init m_Held_init kr R):BodyOk P w K mg base (ct C0 C1 C2 C3 C4 C5 C6 C7 C8) ["self", "number", "k", "own"] cg kr (eF R):=by
 have Q_row:=jl T  hk GR
 refine ⟨fun X hP hw hK hmg hb d hr=>?_⟩
 subst hP hw hK hmg hb
 have hS:ag cg=_:=(by (conv=>lhs; whnf))
 rw [hS] at d
 have hB:aw cg=_:=(by (conv=>lhs; whnf))
 rw [hB]
 have n_0:Nm X 0 "self":=d.nm rfl (by w_fin)
 have n_1:Nm X 1 "number":=d.nm rfl (by w_fin)
 have n_2:Nm X 2 "k":=d.nm rfl (by w_fin)
 have l_3:Nl X 3 "own":=d.nl rfl (by first | exact .inl rfl | exact .inr rfl)
 have g_zip:Gl X "zip":=d.gl rfl
 have hu:=bF hr
 delta eF
 refine ak ?_ ?_
 refine aV ?_ ?_
 exact l_3
 refine d6 ?_ ?_
 exact aa n_2
 refine d5 ?_ ?_
 refine ai ?_
 refine aA T.D2 rfl ?_
 exact aa n_0
 exact aa n_1
 refine ar ?_
 refine aE ?_
 refine ou ?_ ?_
 exact ba (by w_left)
 refine ai ?_
 refine cm ?_
 refine zI (N':=["sketch", "wide", "own"]) (nt:=2) (cap:=[3]) d.toDefX ?s1 ?s2 ?s3 ?_ ?_ ?_ ?_ (zj (by first | decide | omega) (by decide)) (oQ (gp 0 (gp 1 mX))) ?_ ?_
 case s1=>exact ⟨by rfl,by w_left,by w_left,by w_left,by rfl,by w_left⟩
 case s2=>first | decide | omega
 case s3=>decide +kernel
 exact g_zip
 exact T.D1
 refine ae ?_ ?_
 refine d5 ?_ ?_
 refine ai ?_
 refine aA T.um rfl ?_
 exact aa n_0
 exact aa n_1
 refine ae ?_ ?_
 refine aA T.wJ rfl ?_
 exact aa n_0
 exact ao
 intro cl C s2 H2 fp d1
 refine uv d1.calm ?_
 refine iV ?_ ?_
 exact cO (d1.nlc (i:=0) rfl rfl)
 refine iV ?_ ?_
 exact cO (d1.nlc (i:=1) rfl rfl)
 exact rg
 intro cl C s2 H2 fp d1
 exact cA
 intro cl C s2 H2 fp d1
 refine uY EA ?_ ?_
 refine cN (X:=aL _ _ _ _ _ _ _ _) Q_row hr ?s1 ?_ ?_
 case s1=>first | decide | omega
 exact aa (d1.nm (i:=0) rfl (by w_fin))
 refine ae ?_ ?_
 exact aa (d1.nm (i:=2) rfl (by w_fin))
 exact ao
 exact aa (d1.nm (i:=1) rfl (by w_fin))
theorem nz (Q_row:ic P w K mg base (ct C0 C1 C2 C3 C4 C5 C6 C7 C8) "row" 1 42 ku):BodyOk P w K mg base (ct C0 C1 C2 C3 C4 C5 C6 C7 C8) ["self"] cR 42 gz:=by
 refine ⟨fun X hP hw hK hmg hb d hr=>?_⟩
 subst hP hw hK hmg hb
 have hS:ag cR=_:=(by (conv=>lhs; whnf))
 rw [hS] at d
 have hB:aw cR=_:=(by (conv=>lhs; whnf))
 rw [hB]
 have n_0:Nm X 0 "self":=d.nm rfl (by w_fin)
 have g_range:Gl X "range":=d.gl rfl
 have hu:=bF hr
 delta gz f9
 refine ar ?_
 refine lY ?_
 refine zk (N':=["k", "self"]) (nt:=1) (cap:=[0]) d.toDefX ?s1 ?s2 ?s3 ?_ ?_ ?_ ?_ (bx (by decide)) (aX 0) ?_ ?_
 case s1=>exact ⟨by rfl,by w_left,by w_left,by w_left,by rfl,by w_left⟩
 case s2=>decide
 case s3=>decide +kernel
 exact g_range
 exact T.kv
 refine ae ?_ ?_
 refine jH ?_
 refine aA T.j4 rfl ?_
 exact aa n_0
 refine ae ?_ ?_
 refine aJ ?_ ?_
 refine ai ?_
 refine aA T.jk rfl ?_
 exact aa n_0
 exact ai aq
 exact ao
 intro cl C s2 H2 fp d1
 exact cO (d1.nlc (i:=0) rfl rfl)
 intro cl C s2 H2 fp d1
 exact cA
 intro cl C s2 H2 fp d1
 refine cN (X:=aL _ _ _ _ _ _ _ _) Q_row hr ?s1 ?_ ?_
 case s1=>decide
 exact aa (d1.nm (i:=1) rfl (by w_fin))
 refine ae ?_ ?_
 exact aa (d1.nm (i:=0) rfl (by w_fin))
 exact ao
theorem gu:BodyOk P w K mg base (ct C0 C1 C2 C3 C4 C5 C6 C7 C8) ["self", "wide", "up", "down"] cS 0 eI:=by
 refine ⟨fun X hP hw hK hmg hb d hr=>?_⟩
 subst hP hw hK hmg hb
 have hS:ag cS=_:=(by (conv=>lhs; whnf))
 rw [hS] at d
 have hB:aw cS=_:=(by (conv=>lhs; whnf))
 rw [hB]
 have n_0:Nm X 0 "self":=d.nm rfl (by w_fin)
 have n_1:Nm X 1 "wide":=d.nm rfl (by w_fin)
 have n_2:Nm X 2 "up":=d.nm rfl (by w_fin)
 have n_3:Nm X 3 "down":=d.nm rfl (by w_fin)
 have hu:=bF hr
 delta eI
 refine ak ?_ ?_
 refine d4 T.iT rfl ?_ ?_
 exact n_0
 exact aa n_1
 refine ak ?_ ?_
 refine d4 T.j4 rfl ?_ ?_
 exact n_0
 exact aa n_2
 refine ar ?_
 refine d4 T.jk rfl ?_ ?_
 exact n_0
 exact aa n_3
theorem pM (B_Sketch:kT P w K mg base (ct C0 C1 C2 C3 C4 C5 C6 C7 C8) "Sketch" 3 1 bQ):BodyOk P w K mg base (ct C0 C1 C2 C3 C4 C5 C6 C7 C8) ["self", "word"] dX 2 iE:=by
 refine ⟨fun X hP hw hK hmg hb d hr=>?_⟩
 subst hP hw hK hmg hb
 have hS:ag dX=_:=(by (conv=>lhs; whnf))
 rw [hS] at d
 have hB:aw dX=_:=(by (conv=>lhs; whnf))
 rw [hB]
 have n_0:Nm X 0 "self":=d.nm rfl (by w_fin)
 have n_1:Nm X 1 "word":=d.nm rfl (by w_fin)
 have g_Sketch:Gl X "Sketch":=d.gl rfl
 have g_len:Gl X "len":=d.gl rfl
 have hu:=bF hr
 delta iE
 refine ak ?_ ?_
 refine ie B_Sketch hr ?s1 ?_ ?_ ?_
 case s1=>decide
 exact g_Sketch
 exact n_0
 refine ae ?_ ?_
 refine eK ?_ ?_ ?_
 exact g_len
 exact T.gj
 refine ai ?_
 exact aa n_1
 refine ae ?_ ?_
 exact aq
 refine ae ?_ ?_
 exact aq
 exact ao
 refine ar ?_
 refine d4 T.Hy rfl ?_ ?_
 exact n_0
 exact aa n_1
theorem qm:BodyOk P w K mg base (ct C0 C1 C2 C3 C4 C5 C6 C7 C8) ["cell", "some"] eS 0 jh:=by
 refine ⟨fun X hP hw hK hmg hb d hr=>?_⟩
 subst hP hw hK hmg hb
 have hS:ag eS=_:=(by (conv=>lhs; whnf))
 rw [hS] at d
 have hB:aw eS=_:=(by (conv=>lhs; whnf))
 rw [hB]
 have n_0:Nm X 0 "cell":=d.nm rfl (by w_fin)
 have n_1:Nm X 1 "some":=d.nm rfl (by w_fin)
 have l_1:Nl X 1 "some":=d.nl rfl (by first | exact .inl rfl | exact .inr rfl)
 have hu:=bF hr
 delta jh
 refine ak ?_ ?_
 refine aV ?_ ?_
 exact l_1
 exact ba (by w_left)
 refine ak ?_ ?_
 refine aV ?_ ?_
 exact l_1
 refine aJ ?_ ?_
 refine ai ?_
 exact aa n_1
 refine ai ?_
 exact ba (by w_left)
 refine ar ?_
 refine aE ?_
 refine d5 ?_ ?_
 refine ai ?_
 exact aa n_1
 refine fM ?_ ?_
 refine fM ?_ ?_
 refine eO ?_ ?_
 refine ai ?_
 exact aa n_0
 exact aq
 exact aq
 exact aq
theorem pN (G_law_sign:Def P w K mg base (ct C0 C1 C2 C3 C4 C5 C6 C7 C8) "_law_sign" ["cell"] 1 cq):BodyOk P w K mg base (ct C0 C1 C2 C3 C4 C5 C6 C7 C8) ["cell", "many"] dY 1 iF:=by
 refine ⟨fun X hP hw hK hmg hb d hr=>?_⟩
 subst hP hw hK hmg hb
 have hS:ag dY=_:=(by (conv=>lhs; whnf))
 rw [hS] at d
 have hB:aw dY=_:=(by (conv=>lhs; whnf))
 rw [hB]
 have n_1:Nm X 1 "many":=d.nm rfl (by w_fin)
 have g_range:Gl X "range":=d.gl rfl
 have hu:=bF hr
 delta iF gb
 refine ar ?_
 refine aE ?_
 refine ou ?_ ?_
 exact ba (by w_left)
 refine ai ?_
 refine cm ?_
 refine tj (N':=["k", "cell"]) (nt:=1) (cap:=[0]) d.toDefX ?s1 ?s2 ?s3 ?_ ?_ ?_ ?_ (bx (by decide)) (aX 0) ?_ ?_
 case s1=>exact ⟨by rfl,by w_left,by w_left,by w_left,by rfl,by w_left⟩
 case s2=>decide
 case s3=>decide +kernel
 exact g_range
 exact T.kv
 refine ae ?_ ?_
 exact aa n_1
 exact ao
 intro cl C s2 H2 fp d1
 exact cO (d1.nlc (i:=0) rfl rfl)
 intro cl C s2 H2 fp d1
 exact cA
 intro cl C s2 H2 fp d1
 refine bW (X:=aL _ _ _ _ _ _ _ _) G_law_sign hr ?s1 (d1.gl rfl) ?_
 case s1=>decide
 refine ae ?_ ?_
 refine aJ ?_ ?_
 refine ai ?_
 exact aa (d1.nm (i:=1) rfl (by w_fin))
 refine ai ?_
 refine eO ?_ ?_
 refine ai ?_
 refine eO ?_ ?_
 exact ai aq
 exact aa (d1.nm (i:=0) rfl (by w_fin))
 exact aa (d1.nm (i:=0) rfl (by w_fin))
 exact ao
theorem o8 (B_Sketch:kT P w K mg base (ct C0 C1 C2 C3 C4 C5 C6 C7 C8) "Sketch" 3 1 bQ):BodyOk P w K mg base (ct C0 C1 C2 C3 C4 C5 C6 C7 C8) ["self", "parts", "signs", "wide", "up", "down"] dw 2 hX:=by
 refine ⟨fun X hP hw hK hmg hb d hr=>?_⟩
 subst hP hw hK hmg hb
 have hS:ag dw=_:=(by (conv=>lhs; whnf))
 rw [hS] at d
 have hB:aw dw=_:=(by (conv=>lhs; whnf))
 rw [hB]
 have n_0:Nm X 0 "self":=d.nm rfl (by w_fin)
 have n_1:Nm X 1 "parts":=d.nm rfl (by w_fin)
 have n_2:Nm X 2 "signs":=d.nm rfl (by w_fin)
 have n_3:Nm X 3 "wide":=d.nm rfl (by w_fin)
 have n_4:Nm X 4 "up":=d.nm rfl (by w_fin)
 have n_5:Nm X 5 "down":=d.nm rfl (by w_fin)
 have l_3:Nl X 3 "wide":=d.nl rfl (by first | exact .inl rfl | exact .inr rfl)
 have l_4:Nl X 4 "up":=d.nl rfl (by first | exact .inl rfl | exact .inr rfl)
 have l_5:Nl X 5 "down":=d.nl rfl (by first | exact .inl rfl | exact .inr rfl)
 have g_Sketch:Gl X "Sketch":=d.gl rfl
 have g_len:Gl X "len":=d.gl rfl
 have g_list:Gl X "list":=d.gl rfl
 have g_max:Gl X "max":=d.gl rfl
 have g_sum:Gl X "sum":=d.gl rfl
 have hu:=bF hr
 delta hX fJ fI fH
 refine ak ?_ ?_
 refine aV ?_ ?_
 exact l_3
 refine aJ ?_ ?_
 refine ai ?_
 refine uW ?_ ?_ d.calm ?_
 exact g_sum
 exact T.A3
 refine ai ?_
 refine cm ?_
 refine ez (N':=["part"]) (nt:=1) (cap:=[]) d.toDefX ?s1 ?s2 ?s3 ?_ ?_ (bx (by decide)) (aX 0) ?_ ?_
 case s1=>exact ⟨by rfl,by w_left,by w_left,by w_left,by rfl,by w_left⟩
 case s2=>decide
 case s3=>decide +kernel
 refine ai ?_
 exact aa n_1
 intro cl C s2 H2 fp d1
 exact cO (d1.nlc (i:=0) rfl rfl)
 intro cl C s2 H2 fp d1
 exact cA
 intro cl C s2 H2 fp d1
 refine aA T.iT rfl ?_
 exact aa (d1.nm (i:=0) rfl (by w_fin))
 refine ai ?_
 refine eO ?_ ?_
 exact ai aq
 refine d6 ?_ ?_
 refine eK ?_ ?_ ?_
 exact g_len
 exact T.gj
 refine ai ?_
 exact aa n_1
 exact aq
 refine ak ?_ ?_
 refine aV ?_ ?_
 exact l_4
 refine oZ ?_ ?_ d.calm ?_
 exact g_max
 exact T.mM
 refine ai ?_
 refine cm ?_
 refine ez (N':=["part"]) (nt:=1) (cap:=[]) d.toDefX ?s1 ?s2 ?s3 ?_ ?_ (bx (by decide)) (aX 0) ?_ ?_
 case s1=>exact ⟨by rfl,by w_left,by w_left,by w_left,by rfl,by w_left⟩
 case s2=>decide
 case s3=>decide +kernel
 refine ai ?_
 exact aa n_1
 intro cl C s2 H2 fp d1
 exact cO (d1.nlc (i:=0) rfl rfl)
 intro cl C s2 H2 fp d1
 exact cA
 intro cl C s2 H2 fp d1
 refine aA T.j4 rfl ?_
 exact aa (d1.nm (i:=0) rfl (by w_fin))
 refine ak ?_ ?_
 refine aV ?_ ?_
 exact l_5
 refine oZ ?_ ?_ d.calm ?_
 exact g_max
 exact T.mM
 refine ai ?_
 refine cm ?_
 refine ez (N':=["part"]) (nt:=1) (cap:=[]) d.toDefX ?s1 ?s2 ?s3 ?_ ?_ (bx (by decide)) (aX 0) ?_ ?_
 case s1=>exact ⟨by rfl,by w_left,by w_left,by w_left,by rfl,by w_left⟩
 case s2=>decide
 case s3=>decide +kernel
 refine ai ?_
 exact aa n_1
 intro cl C s2 H2 fp d1
 exact cO (d1.nlc (i:=0) rfl rfl)
 intro cl C s2 H2 fp d1
 exact cA
 intro cl C s2 H2 fp d1
 refine aA T.jk rfl ?_
 exact aa (d1.nm (i:=0) rfl (by w_fin))
 refine ak ?_ ?_
 refine ie B_Sketch hr ?s1 ?_ ?_ ?_
 case s1=>decide
 exact g_Sketch
 exact n_0
 refine ae ?_ ?_
 exact aa n_3
 refine ae ?_ ?_
 exact aa n_4
 refine ae ?_ ?_
 exact aa n_5
 exact ao
 refine ak ?_ ?_
 refine d4 T.ES rfl ?_ ?_
 exact n_0
 refine cm ?_
 refine rJ ?_ ?_ ?_
 exact g_list
 exact T.sd
 refine ai ?_
 exact aa n_1
 refine ar ?_
 refine d4 T.Hz rfl ?_ ?_
 exact n_0
 exact aa n_2
theorem nA (G_law_signs:Def P w K mg base (ct C0 C1 C2 C3 C4 C5 C6 C7 C8) "_law_signs" ["cell", "many"] 2 gO)(M_Chain:fA P w K mg base (ct C0 C1 C2 C3 C4 C5 C6 C7 C8) "Chain" 2 3 2 mz):BodyOk P w K mg base (ct C0 C1 C2 C3 C4 C5 C6 C7 C8) ["some", "by", "signs"] cT 4 gA:=by
 refine ⟨fun X hP hw hK hmg hb d hr=>?_⟩
 subst hP hw hK hmg hb
 have hS:ag cT=_:=(by (conv=>lhs; whnf))
 rw [hS] at d
 have hB:aw cT=_:=(by (conv=>lhs; whnf))
 rw [hB]
 have n_0:Nm X 0 "some":=d.nm rfl (by w_fin)
 have n_1:Nm X 1 "by":=d.nm rfl (by w_fin)
 have n_2:Nm X 2 "signs":=d.nm rfl (by w_fin)
 have l_2:Nl X 2 "signs":=d.nl rfl (by first | exact .inl rfl | exact .inr rfl)
 have g_Chain:Gl X "Chain":=d.gl rfl
 have g_law_signs:Gl X "_law_signs":=d.gl rfl
 have g_len:Gl X "len":=d.gl rfl
 have hu:=bF hr
 delta gA fc
 refine ak ?_ ?_
 refine aV ?_ ?_
 exact l_2
 refine bW G_law_signs hr ?s1 ?_ ?_
 case s1=>decide
 exact g_law_signs
 refine ae ?_ ?_
 exact aa n_1
 refine ae ?_ ?_
 refine d6 ?_ ?_
 refine eK ?_ ?_ ?_
 exact g_len
 exact T.gj
 refine ai ?_
 exact aa n_0
 exact aq
 exact ao
 refine ar ?_
 refine aE ?_
 refine fN ?_
 refine ae ?_ ?_
 exact ba (by w_left)
 refine ae ?_ ?_
 refine fG M_Chain hr ?s1 ?_ ?_
 case s1=>decide
 exact g_Chain
 refine ae ?_ ?_
 refine cm ?_
 refine ez (N':=["one"]) (nt:=1) (cap:=[]) d.toDefX ?s1 ?s2 ?s3 ?_ ?_ (bx (by decide)) (aX 0) ?_ ?_
 case s1=>exact ⟨by rfl,by w_left,by w_left,by w_left,by rfl,by w_left⟩
 case s2=>decide
 case s3=>decide +kernel
 refine ai ?_
 exact aa n_0
 intro cl C s2 H2 fp d1
 exact cO (d1.nlc (i:=0) rfl rfl)
 intro cl C s2 H2 fp d1
 exact cA
 intro cl C s2 H2 fp d1
 refine d5 ?_ ?_
 refine ai ?_
 exact aa (d1.nm (i:=0) rfl (by w_fin))
 exact aq
 refine ae ?_ ?_
 exact aa n_2
 exact ao
 refine ae ?_ ?_
 exact aa n_0
 refine ae ?_ ?_
 exact aa n_2
 exact ao
theorem qo:BodyOk P w K mg base (ct C0 C1 C2 C3 C4 C5 C6 C7 C8) ["way", "by"] eU 0 eA:=by
 refine ⟨fun X hP hw hK hmg hb d hr=>?_⟩
 subst hP hw hK hmg hb
 have hS:ag eU=_:=(by (conv=>lhs; whnf))
 rw [hS] at d
 have hB:aw eU=_:=(by (conv=>lhs; whnf))
 rw [hB]
 have n_0:Nm X 0 "way":=d.nm rfl (by w_fin)
 have n_1:Nm X 1 "by":=d.nm rfl (by w_fin)
 have hu:=bF hr
 delta eA
 refine ak ?_ ?_
 refine bE ?_ ?_ ?_
 refine cZ hr ?_ ?_
 refine ai ?_
 exact aa n_0
 exact ai aq
 refine ar ?_
 refine aE ?_
 refine aJ ?_ ?_
 exact ai aq
 refine ai ?_
 refine fM ?_ ?_
 exact aa n_1
 exact aq
 exact aS
 refine ak ?_ ?_
 refine bE ?_ ?_ ?_
 refine PDW.pt ?_
 refine jJ ?_ ?_
 refine cZ hr ?_ ?_
 refine ai ?_
 exact aa n_0
 exact ai aq
 refine iB ?_
 refine cZ hr ?_ ?_
 refine ai ?_
 exact aa n_0
 exact ai aq
 refine ar ?_
 exact aE aq
 exact aS
 refine ak ?_ ?_
 refine bE ?_ ?_ ?_
 refine cZ hr ?_ ?_
 refine ai ?_
 exact aa n_0
 exact ai aq
 refine ar ?_
 refine aE ?_
 refine eO ?_ ?_
 refine ai ?_
 refine aJ ?_ ?_
 exact ai aq
 refine ai ?_
 refine fM ?_ ?_
 exact aa n_1
 exact aq
 refine aJ ?_ ?_
 exact ai aq
 refine ai ?_
 refine fM ?_ ?_
 refine gx ?_ ?_
 exact aa n_1
 exact aq
 exact aq
 exact aS
 refine ak ?_ ?_
 refine bE ?_ ?_ ?_
 refine cZ hr ?_ ?_
 refine ai ?_
 exact aa n_0
 exact ai aq
 refine ar ?_
 exact aE aq
 exact aS
 refine ar ?_
 exact aE aq
theorem lL:BodyOk P w K mg base (ct C0 C1 C2 C3 C4 C5 C6 C7 C8) ["bands"] cj 0 fK:=by
 refine ⟨fun X hP hw hK hmg hb d hr=>?_⟩
 subst hP hw hK hmg hb
 have hS:ag cj=_:=(by (conv=>lhs; whnf))
 rw [hS] at d
 have hB:aw cj=_:=(by (conv=>lhs; whnf))
 rw [hB]
 have n_0:Nm X 0 "bands":=d.nm rfl (by w_fin)
 have g_len:Gl X "len":=d.gl rfl
 have g_range:Gl X "range":=d.gl rfl
 have hu:=bF hr
 delta fK eC eB
 refine ar ?_
 refine lY ?_
 refine xB (x0:="n") (N':=["n", "bands"]) (nt:=1) (cap:=[0]) d.toDefX ?s1 ?s2 ?s3 ?_ ?_ ?_ ?_ (bx (by decide)) (aX 0) ?_ ?_
 case s1=>exact ⟨by rfl,by first | rfl | decide +kernel,by rfl,by w_left,by w_left,by rfl,by w_left⟩
 case s2=>decide
 case s3=>decide +kernel
 exact g_range
 exact T.kv
 refine ae ?_ ?_
 refine eK ?_ ?_ ?_
 exact g_len
 exact T.gj
 refine ai ?_
 refine d5 ?_ ?_
 refine ai ?_
 exact aa n_0
 exact aq
 exact ao
 intro cl C s2 H2 fp d1
 exact cO (d1.nlk (i:=0) rfl rfl)
 intro cl C s2 H2 fp d1
 exact cA
 intro cl C s2 H2 fp d1
 refine oZ (d1.gl rfl) ?_ d1.calm ?_
 exact T.mM
 refine ai ?_
 refine cm ?_
 refine ez (N':=["band", "n"]) (nt:=1) (cap:=[0]) d1 ?s1 ?s2 ?s3 ?_ ?_ (bx (by decide)) (aX 0) ?_ ?_
 case s1=>exact ⟨by rfl,by w_left,by w_left,by w_left,by rfl,by w_left⟩
 case s2=>decide
 case s3=>decide +kernel
 refine ai ?_
 exact aa (d1.nm (i:=1) rfl (by w_fin))
 intro cl C s2 H2 fp d2
 exact cO (d2.nlc (i:=0) rfl rfl)
 intro cl C s2 H2 fp d2
 exact cA
 intro cl C s2 H2 fp d2
 refine aA T.iT rfl ?_
 refine d5 ?_ ?_
 refine ai ?_
 exact aa (d2.nm (i:=0) rfl (by w_fin))
 exact aa (d2.nm (i:=1) rfl (by w_fin))
theorem nB:BodyOk P w K mg base (ct C0 C1 C2 C3 C4 C5 C6 C7 C8) ["band"] cU 0 gC:=by
 refine ⟨fun X hP hw hK hmg hb d hr=>?_⟩
 subst hP hw hK hmg hb
 have hS:ag cU=_:=(by (conv=>lhs; whnf))
 rw [hS] at d
 have hB:aw cU=_:=(by (conv=>lhs; whnf))
 rw [hB]
 have n_0:Nm X 0 "band":=d.nm rfl (by w_fin)
 have g_max:Gl X "max":=d.gl rfl
 have hu:=bF hr
 delta gC fg
 refine ar ?_
 refine aE ?_
 refine oZ ?_ ?_ d.calm ?_
 exact g_max
 exact T.mM
 refine ai ?_
 refine cm ?_
 refine ez (N':=["sketch"]) (nt:=1) (cap:=[]) d.toDefX ?s1 ?s2 ?s3 ?_ ?_ (bx (by decide)) (aX 0) ?_ ?_
 case s1=>exact ⟨by rfl,by w_left,by w_left,by w_left,by rfl,by w_left⟩
 case s2=>decide
 case s3=>decide +kernel
 refine ai ?_
 exact aa n_0
 intro cl C s2 H2 fp d1
 exact cO (d1.nlc (i:=0) rfl rfl)
 intro cl C s2 H2 fp d1
 exact cA
 intro cl C s2 H2 fp d1
 refine aA T.j4 rfl ?_
 exact aa (d1.nm (i:=0) rfl (by w_fin))
theorem nE (G_greatest_up:Def P w K mg base (ct C0 C1 C2 C3 C4 C5 C6 C7 C8) "greatest_up" ["band"] 1 cP):BodyOk P w K mg base (ct C0 C1 C2 C3 C4 C5 C6 C7 C8) ["band"] cV 1 gD:=by
 refine ⟨fun X hP hw hK hmg hb d hr=>?_⟩
 subst hP hw hK hmg hb
 have hS:ag cV=_:=(by (conv=>lhs; whnf))
 rw [hS] at d
 have hB:aw cV=_:=(by (conv=>lhs; whnf))
 rw [hB]
 have n_0:Nm X 0 "band":=d.nm rfl (by w_fin)
 have g_greatest_up:Gl X "greatest_up":=d.gl rfl
 have g_max:Gl X "max":=d.gl rfl
 have hu:=bF hr
 delta gD fj
 refine ar ?_
 refine aE ?_
 refine aJ ?_ ?_
 refine ai ?_
 refine aJ ?_ ?_
 refine ai ?_
 refine bW G_greatest_up hr ?s1 ?_ ?_
 case s1=>decide
 exact g_greatest_up
 refine ae ?_ ?_
 exact aa n_0
 exact ao
 exact ai aq
 refine ai ?_
 refine oZ ?_ ?_ d.calm ?_
 exact g_max
 exact T.mM
 refine ai ?_
 refine cm ?_
 refine ez (N':=["sketch"]) (nt:=1) (cap:=[]) d.toDefX ?s1 ?s2 ?s3 ?_ ?_ (bx (by decide)) (aX 0) ?_ ?_
 case s1=>exact ⟨by rfl,by w_left,by w_left,by w_left,by rfl,by w_left⟩
 case s2=>decide
 case s3=>decide +kernel
 refine ai ?_
 exact aa n_0
 intro cl C s2 H2 fp d1
 exact cO (d1.nlc (i:=0) rfl rfl)
 intro cl C s2 H2 fp d1
 exact cA
 intro cl C s2 H2 fp d1
 refine aA T.jk rfl ?_
 exact aa (d1.nm (i:=0) rfl (by w_fin))
theorem kK (G_band_height:Def P w K mg base (ct C0 C1 C2 C3 C4 C5 C6 C7 C8) "band_height" ["band"] 2 cQ):BodyOk P w K mg base (ct C0 C1 C2 C3 C4 C5 C6 C7 C8) ["bands", "numbers", "n", "band"] bS 2 fk:=by
 refine ⟨fun X hP hw hK hmg hb d hr=>?_⟩
 subst hP hw hK hmg hb
 have hS:ag bS=_:=(by (conv=>lhs; whnf))
 rw [hS] at d
 have hB:aw bS=_:=(by (conv=>lhs; whnf))
 rw [hB]
 have n_0:Nm X 0 "bands":=d.nm rfl (by w_fin)
 have n_1:Nm X 1 "numbers":=d.nm rfl (by w_fin)
 have n_2:Nm X 2 "n":=d.nm rfl (by w_fin)
 have n_3:Nm X 3 "band":=d.nm rfl (by w_fin)
 have l_1:Nl X 1 "numbers":=d.nl rfl (by first | exact .inl rfl | exact .inr rfl)
 have l_2:Nl X 2 "n":=d.nl rfl (by first | exact .inl rfl | exact .inr rfl)
 have l_3:Nl X 3 "band":=d.nl rfl (by first | exact .inl rfl | exact .inr rfl)
 have g_band_height:Gl X "band_height":=d.gl rfl
 have g_enumerate:Gl X "enumerate":=d.gl rfl
 have hu:=bF hr
 delta fk cM
 refine ak ?_ ?_
 refine oo ?_ ?_
 exact l_1
 exact fX ao
 refine ak ?_ ?_
 refine zo d.never d.calm (oQ (gp 2 (gp 3 mX))) ?_ ?_ ?_ ?_ ?_
 refine uv d.calm ?_
 refine iV ?_ ?_
 exact cO l_2
 refine iV ?_ ?_
 exact cO l_3
 exact rg
 exact g_enumerate
 exact T.u9
 exact aa n_0
 refine ak ?_ ?_
 refine bE ?_ ?_ ?_
 refine uO ?_ ?_
 exact aa n_2
 exact aq
 refine ar ?_
 refine jf ?_ ?_
 exact n_1
 exact uM
 exact aS
 refine ar ?_
 refine zG ?_ ?_
 exact n_1
 refine Ee ?_ ?_
 refine fX ?_
 refine ae ?_ ?_
 exact aa n_2
 exact ao
 refine bW G_band_height hr ?s1 ?_ ?_
 case s1=>decide
 exact g_band_height
 refine ae ?_ ?_
 exact aa n_3
 exact ao
 refine ar ?_
 exact t6 n_1
theorem pO (G_band_height:Def P w K mg base (ct C0 C1 C2 C3 C4 C5 C6 C7 C8) "band_height" ["band"] 2 cQ)(G_greatest_up:Def P w K mg base (ct C0 C1 C2 C3 C4 C5 C6 C7 C8) "greatest_up" ["band"] 1 cP):BodyOk P w K mg base (ct C0 C1 C2 C3 C4 C5 C6 C7 C8) ["bands", "up", "lows", "top", "band"] dZ 2 iG:=by
 refine ⟨fun X hP hw hK hmg hb d hr=>?_⟩
 subst hP hw hK hmg hb
 have hS:ag dZ=_:=(by (conv=>lhs; whnf))
 rw [hS] at d
 have hB:aw dZ=_:=(by (conv=>lhs; whnf))
 rw [hB]
 have n_0:Nm X 0 "bands":=d.nm rfl (by w_fin)
 have n_1:Nm X 1 "up":=d.nm rfl (by w_fin)
 have n_2:Nm X 2 "lows":=d.nm rfl (by w_fin)
 have n_3:Nm X 3 "top":=d.nm rfl (by w_fin)
 have n_4:Nm X 4 "band":=d.nm rfl (by w_fin)
 have l_2:Nl X 2 "lows":=d.nl rfl (by first | exact .inl rfl | exact .inr rfl)
 have l_3:Nl X 3 "top":=d.nl rfl (by first | exact .inl rfl | exact .inr rfl)
 have l_4:Nl X 4 "band":=d.nl rfl (by first | exact .inl rfl | exact .inr rfl)
 have g_band_height:Gl X "band_height":=d.gl rfl
 have g_greatest_up:Gl X "greatest_up":=d.gl rfl
 have hu:=bF hr
 delta iG gc
 refine ak ?_ ?_
 refine oo ?_ ?_
 exact l_2
 exact fX ao
 refine ak ?_ ?_
 refine aV ?_ ?_
 exact l_3
 refine jH ?_
 exact aa n_1
 refine ak ?_ ?_
 refine lZ d.never d.calm (aX 4) ?_ ?_ ?_
 exact cO l_4
 exact aa n_0
 refine ak ?_ ?_
 refine jf ?_ ?_
 exact n_2
 refine aJ ?_ ?_
 refine ai ?_
 exact aa n_3
 refine ai ?_
 refine bW G_greatest_up hr ?s1 ?_ ?_
 case s1=>decide
 exact g_greatest_up
 refine ae ?_ ?_
 exact aa n_4
 exact ao
 refine ar ?_
 refine tq ?_ ?_
 exact l_3
 refine aJ ?_ ?_
 refine ai ?_
 refine bW G_band_height hr ?s1 ?_ ?_
 case s1=>decide
 exact g_band_height
 refine ae ?_ ?_
 exact aa n_4
 exact ao
 exact ai aq
 refine ar ?_
 exact t6 n_2
theorem pP (G_column_widths:qa P w K mg base (ct C0 C1 C2 C3 C4 C5 C6 C7 C8) "column_widths" ["bands"] 1 eG)(G_numbers_by_row:qa P w K mg base (ct C0 C1 C2 C3 C4 C5 C6 C7 C8) "numbers_by_row" ["bands"] 3 dP)(G_band_lows:qa P w K mg base (ct C0 C1 C2 C3 C4 C5 C6 C7 C8) "band_lows" ["bands", "up"] 3 gP)(BJ_Sketch:rP P w K mg base (ct C0 C1 C2 C3 C4 C5 C6 C7 C8) "Sketch" 3 1 jO):BodyOk P w K mg base (ct C0 C1 C2 C3 C4 C5 C6 C7 C8) ["self", "bands", "high", "up"] ed 3 iH:=by
 refine ⟨fun X hP hw hK hmg hb d hr=>?_⟩
 subst hP hw hK hmg hb
 have hS:ag ed=_:=(by (conv=>lhs; whnf))
 rw [hS] at d
 have hB:aw ed=_:=(by (conv=>lhs; whnf))
 rw [hB]
 have n_0:Nm X 0 "self":=d.nm rfl (by w_fin)
 have n_1:Nm X 1 "bands":=d.nm rfl (by w_fin)
 have n_2:Nm X 2 "high":=d.nm rfl (by w_fin)
 have n_3:Nm X 3 "up":=d.nm rfl (by w_fin)
 have l_2:Nl X 2 "high":=d.nl rfl (by first | exact .inl rfl | exact .inr rfl)
 have l_3:Nl X 3 "up":=d.nl rfl (by first | exact .inl rfl | exact .inr rfl)
 have g_Sketch:Gl X "Sketch":=d.gl rfl
 have g_band_lows:Gl X "band_lows":=d.gl rfl
 have g_column_widths:Gl X "column_widths":=d.gl rfl
 have g_len:Gl X "len":=d.gl rfl
 have g_numbers_by_row:Gl X "numbers_by_row":=d.gl rfl
 have g_sum:Gl X "sum":=d.gl rfl
 have hu:=bF hr
 delta iH eQ
 refine ak ?_ ?_
 refine tG T.um rfl ?_ ?_
 exact n_0
 refine cm ?_
 refine ez (N':=["band"]) (nt:=1) (cap:=[]) d.toDefX ?s1 ?s2 ?s3 ?_ ?_ (bx (by decide)) (aX 0) ?_ ?_
 case s1=>exact ⟨by rfl,by w_left,by w_left,by w_left,by rfl,by w_left⟩
 case s2=>decide
 case s3=>decide +kernel
 refine ai ?_
 exact aa n_1
 intro cl C s2 H2 fp d1
 exact cO (d1.nlc (i:=0) rfl rfl)
 intro cl C s2 H2 fp d1
 exact cA
 intro cl C s2 H2 fp d1
 refine cm ?_
 refine rJ (d1.gl rfl) ?_ ?_
 exact T.sd
 refine ai ?_
 exact aa (d1.nm (i:=0) rfl (by w_fin))
 refine ak ?_ ?_
 refine d4 T.wJ rfl ?_ ?_
 exact n_0
 refine cm ?_
 refine rG G_column_widths hr ?s1 ?_ ?_
 case s1=>decide
 exact g_column_widths
 refine ae ?_ ?_
 refine ko T.um rfl ?_
 exact n_0
 exact ao
 refine ak ?_ ?_
 refine d4 T.A9 rfl ?_ ?_
 exact n_0
 refine cm ?_
 refine rG G_numbers_by_row hr ?s1 ?_ ?_
 case s1=>decide
 exact g_numbers_by_row
 refine ae ?_ ?_
 refine ko T.um rfl ?_
 exact n_0
 exact ao
 refine ak ?_ ?_
 refine aV ?_ ?_
 exact l_2
 refine eK ?_ ?_ ?_
 exact g_len
 exact T.gj
 refine ai ?_
 refine ko T.A9 rfl ?_
 exact n_0
 refine ak ?_ ?_
 refine aV ?_ ?_
 exact l_3
 refine gx ?_ ?_
 refine d6 ?_ ?_
 exact aa n_2
 exact aq
 exact aq
 refine ak ?_ ?_
 refine xN BJ_Sketch hr ?s1 ?_ ?_ ?_
 case s1=>decide
 exact g_Sketch
 exact n_0
 refine ae ?_ ?_
 refine aJ ?_ ?_
 refine ai ?_
 refine uW ?_ ?_ d.calm ?_
 exact g_sum
 exact T.A3
 refine ai ?_
 refine ko T.wJ rfl ?_
 exact n_0
 refine ai ?_
 refine eO ?_ ?_
 exact ai aq
 refine eK ?_ ?_ ?_
 exact g_len
 exact T.gj
 refine ai ?_
 refine ko T.wJ rfl ?_
 exact n_0
 refine ae ?_ ?_
 exact aa n_3
 refine ae ?_ ?_
 refine d6 ?_ ?_
 refine d6 ?_ ?_
 exact aa n_2
 exact aq
 exact aa n_3
 exact ao
 refine ar ?_
 refine d4 T.D2 rfl ?_ ?_
 exact n_0
 refine cm ?_
 refine rG G_band_lows hr ?s1 ?_ ?_
 case s1=>decide
 exact g_band_lows
 refine ae ?_ ?_
 refine ko T.um rfl ?_
 exact n_0
 refine ae ?_ ?_
 exact aa n_3
 exact ao
theorem pQ:BodyOk P w K mg base (ct C0 C1 C2 C3 C4 C5 C6 C7 C8) ["sketch"] ef 0 iI:=by
 refine ⟨fun X hP hw hK hmg hb d hr=>?_⟩
 subst hP hw hK hmg hb
 have hS:ag ef=_:=(by (conv=>lhs; whnf))
 rw [hS] at d
 have hB:aw ef=_:=(by (conv=>lhs; whnf))
 rw [hB]
 have n_0:Nm X 0 "sketch":=d.nm rfl (by w_fin)
 have hu:=bF hr
 delta iI
 refine ar ?_
 refine aE ?_
 refine aJ ?_ ?_
 refine ai ?_
 refine aJ ?_ ?_
 refine ai ?_
 refine aA T.j4 rfl ?_
 exact aa n_0
 exact ai aq
 refine ai ?_
 refine aA T.jk rfl ?_
 exact aa n_0
theorem pR (G_height_of:Def P w K mg base (ct C0 C1 C2 C3 C4 C5 C6 C7 C8) "height_of" ["sketch"] 1 dn)(B_Sketch:kT P w K mg base (ct C0 C1 C2 C3 C4 C5 C6 C7 C8) "Sketch" 3 1 bQ):BodyOk P w K mg base (ct C0 C1 C2 C3 C4 C5 C6 C7 C8) ["self", "above", "beneath"] eg 2 iJ:=by
 refine ⟨fun X hP hw hK hmg hb d hr=>?_⟩
 subst hP hw hK hmg hb
 have hS:ag eg=_:=(by (conv=>lhs; whnf))
 rw [hS] at d
 have hB:aw eg=_:=(by (conv=>lhs; whnf))
 rw [hB]
 have n_0:Nm X 0 "self":=d.nm rfl (by w_fin)
 have n_1:Nm X 1 "above":=d.nm rfl (by w_fin)
 have n_2:Nm X 2 "beneath":=d.nm rfl (by w_fin)
 have g_Sketch:Gl X "Sketch":=d.gl rfl
 have g_height_of:Gl X "height_of":=d.gl rfl
 have g_max:Gl X "max":=d.gl rfl
 have hu:=bF hr
 delta iJ
 refine ak ?_ ?_
 refine ie B_Sketch hr ?s1 ?_ ?_ ?_
 case s1=>decide
 exact g_Sketch
 exact n_0
 refine ae ?_ ?_
 refine aJ ?_ ?_
 refine ai ?_
 refine vV ?_ ?_ d.calm ?_
 exact g_max
 exact T.mM
 refine ae ?_ ?_
 refine aA T.iT rfl ?_
 exact aa n_1
 refine ae ?_ ?_
 refine aA T.iT rfl ?_
 exact aa n_2
 exact ao
 exact ai aq
 refine ae ?_ ?_
 refine bW G_height_of hr ?s1 ?_ ?_
 case s1=>decide
 exact g_height_of
 refine ae ?_ ?_
 exact aa n_1
 exact ao
 refine ae ?_ ?_
 refine bW G_height_of hr ?s1 ?_ ?_
 case s1=>decide
 exact g_height_of
 refine ae ?_ ?_
 exact aa n_2
 exact ao
 exact ao
 refine ak ?_ ?_
 refine d4 T.ET rfl ?_ ?_
 exact n_0
 exact aa n_1
 refine ar ?_
 refine d4 T.EU rfl ?_ ?_
 exact n_0
 exact aa n_2
theorem pS (B_Sketch:kT P w K mg base (ct C0 C1 C2 C3 C4 C5 C6 C7 C8) "Sketch" 3 1 bQ):BodyOk P w K mg base (ct C0 C1 C2 C3 C4 C5 C6 C7 C8) ["self", "inner"] eh 2 iK:=by
 refine ⟨fun X hP hw hK hmg hb d hr=>?_⟩
 subst hP hw hK hmg hb
 have hS:ag eh=_:=(by (conv=>lhs; whnf))
 rw [hS] at d
 have hB:aw eh=_:=(by (conv=>lhs; whnf))
 rw [hB]
 have n_0:Nm X 0 "self":=d.nm rfl (by w_fin)
 have n_1:Nm X 1 "inner":=d.nm rfl (by w_fin)
 have g_Sketch:Gl X "Sketch":=d.gl rfl
 have hu:=bF hr
 delta iK
 refine ak ?_ ?_
 refine ie B_Sketch hr ?s1 ?_ ?_ ?_
 case s1=>decide
 exact g_Sketch
 exact n_0
 refine ae ?_ ?_
 refine aJ ?_ ?_
 refine ai ?_
 refine aA T.iT rfl ?_
 exact aa n_1
 exact ai aq
 refine ae ?_ ?_
 refine aJ ?_ ?_
 refine ai ?_
 refine aA T.j4 rfl ?_
 exact aa n_1
 exact ai aq
 refine ae ?_ ?_
 refine aA T.jk rfl ?_
 exact aa n_1
 exact ao
 refine ar ?_
 refine d4 T.sD rfl ?_ ?_
 exact n_0
 exact aa n_1
theorem qp (B_Sketch:kT P w K mg base (ct C0 C1 C2 C3 C4 C5 C6 C7 C8) "Sketch" 3 1 bQ):BodyOk P w K mg base (ct C0 C1 C2 C3 C4 C5 C6 C7 C8) ["self", "sign", "inner"] eV 2 ji:=by
 refine ⟨fun X hP hw hK hmg hb d hr=>?_⟩
 subst hP hw hK hmg hb
 have hS:ag eV=_:=(by (conv=>lhs; whnf))
 rw [hS] at d
 have hB:aw eV=_:=(by (conv=>lhs; whnf))
 rw [hB]
 have n_0:Nm X 0 "self":=d.nm rfl (by w_fin)
 have n_1:Nm X 1 "sign":=d.nm rfl (by w_fin)
 have n_2:Nm X 2 "inner":=d.nm rfl (by w_fin)
 have g_Sketch:Gl X "Sketch":=d.gl rfl
 have hu:=bF hr
 delta ji
 refine ak ?_ ?_
 refine ie B_Sketch hr ?s1 ?_ ?_ ?_
 case s1=>decide
 exact g_Sketch
 exact n_0
 refine ae ?_ ?_
 refine aJ ?_ ?_
 refine ai ?_
 refine aA T.iT rfl ?_
 exact aa n_2
 exact ai aq
 refine ae ?_ ?_
 refine aA T.j4 rfl ?_
 exact aa n_2
 refine ae ?_ ?_
 refine aA T.jk rfl ?_
 exact aa n_2
 exact ao
 refine ak ?_ ?_
 refine d4 T.HA rfl ?_ ?_
 exact n_0
 exact aa n_1
 refine ar ?_
 refine d4 T.sD rfl ?_ ?_
 exact n_0
 exact aa n_2
theorem nF (G_height_of:Def P w K mg base (ct C0 C1 C2 C3 C4 C5 C6 C7 C8) "height_of" ["sketch"] 1 dn)(B_Sketch:kT P w K mg base (ct C0 C1 C2 C3 C4 C5 C6 C7 C8) "Sketch" 3 1 bQ):BodyOk P w K mg base (ct C0 C1 C2 C3 C4 C5 C6 C7 C8) ["self", "item", "raised", "lowered", "marks", "room", "up", "down"] cW 2 dD:=by
 refine ⟨fun X hP hw hK hmg hb d hr=>?_⟩
 subst hP hw hK hmg hb
 have hS:ag cW=_:=(by (conv=>lhs; whnf))
 rw [hS] at d
 have hB:aw cW=_:=(by (conv=>lhs; whnf))
 rw [hB]
 have n_0:Nm X 0 "self":=d.nm rfl (by w_fin)
 have n_1:Nm X 1 "item":=d.nm rfl (by w_fin)
 have n_2:Nm X 2 "raised":=d.nm rfl (by w_fin)
 have n_3:Nm X 3 "lowered":=d.nm rfl (by w_fin)
 have n_4:Nm X 4 "marks":=d.nm rfl (by w_fin)
 have n_5:Nm X 5 "room":=d.nm rfl (by w_fin)
 have n_6:Nm X 6 "up":=d.nm rfl (by w_fin)
 have n_7:Nm X 7 "down":=d.nm rfl (by w_fin)
 have l_4:Nl X 4 "marks":=d.nl rfl (by first | exact .inl rfl | exact .inr rfl)
 have l_5:Nl X 5 "room":=d.nl rfl (by first | exact .inl rfl | exact .inr rfl)
 have l_6:Nl X 6 "up":=d.nl rfl (by first | exact .inl rfl | exact .inr rfl)
 have l_7:Nl X 7 "down":=d.nl rfl (by first | exact .inl rfl | exact .inr rfl)
 have g_Sketch:Gl X "Sketch":=d.gl rfl
 have g_height_of:Gl X "height_of":=d.gl rfl
 have g_max:Gl X "max":=d.gl rfl
 have hu:=bF hr
 delta dD dR cu dQ
 refine ak ?_ ?_
 refine tm d.toDefX ?_ ?_ ?s1
 case s1=>decide +kernel
 exact l_4
 refine zl (N':=["mark"]) (nt:=1) (cap:=[]) d.toDefX ?s1 ?s2 ?s3 ?_ ?_ (bx (by decide)) (aX 0) ?_ ?_
 case s1=>exact ⟨by rfl,by w_left,by w_left,by w_left,by rfl,by w_left⟩
 case s2=>decide
 case s3=>decide +kernel
 refine ai ?_
 refine fN ?_
 refine ae ?_ ?_
 exact aa n_2
 refine ae ?_ ?_
 exact aa n_3
 exact ao
 intro cl C s2 H2 fp d1
 exact cO (d1.nlc (i:=0) rfl rfl)
 intro cl C s2 H2 fp d1
 refine Bf ?_
 refine uR ?_
 refine ai ?_
 exact aa (d1.nm (i:=0) rfl (by w_fin))
 intro cl C s2 H2 fp d1
 exact aa (d1.nm (i:=0) rfl (by w_fin))
 refine ak ?_ ?_
 refine aV ?_ ?_
 exact l_5
 refine tE ?_ ?_ d.calm ?_ ?_
 exact g_max
 exact T.mM
 refine ai ?_
 refine cm ?_
 refine ez (N':=["mark"]) (nt:=1) (cap:=[]) d.toDefX ?s1 ?s2 ?s3 ?_ ?_ (bx (by decide)) (aX 0) ?_ ?_
 case s1=>exact ⟨by rfl,by w_left,by w_left,by w_left,by rfl,by w_left⟩
 case s2=>decide
 case s3=>decide +kernel
 refine ai ?_
 exact aa n_4
 intro cl C s2 H2 fp d1
 exact cO (d1.nlc (i:=0) rfl rfl)
 intro cl C s2 H2 fp d1
 exact cA
 intro cl C s2 H2 fp d1
 refine aA T.iT rfl ?_
 exact aa (d1.nm (i:=0) rfl (by w_fin))
 exact aq
 refine ak ?_ ?_
 refine aV ?_ ?_
 exact l_6
 refine aJ ?_ ?_
 refine ai ?_
 refine aA T.j4 rfl ?_
 exact aa n_1
 refine ai ?_
 refine i8 ?_ ?_ ?_
 refine rN ?_
 refine ai ?_
 exact aa n_2
 exact aq
 refine bW G_height_of hr ?s1 ?_ ?_
 case s1=>decide
 exact g_height_of
 refine ae ?_ ?_
 exact aa n_2
 exact ao
 refine ak ?_ ?_
 refine aV ?_ ?_
 exact l_7
 refine aJ ?_ ?_
 refine ai ?_
 refine aA T.jk rfl ?_
 exact aa n_1
 refine ai ?_
 refine i8 ?_ ?_ ?_
 refine rN ?_
 refine ai ?_
 exact aa n_3
 exact aq
 refine bW G_height_of hr ?s1 ?_ ?_
 case s1=>decide
 exact g_height_of
 refine ae ?_ ?_
 exact aa n_3
 exact ao
 refine ak ?_ ?_
 refine ie B_Sketch hr ?s1 ?_ ?_ ?_
 case s1=>decide
 exact g_Sketch
 exact n_0
 refine ae ?_ ?_
 refine aJ ?_ ?_
 refine ai ?_
 refine aA T.iT rfl ?_
 exact aa n_1
 refine ai ?_
 exact aa n_5
 refine ae ?_ ?_
 exact aa n_6
 refine ae ?_ ?_
 exact aa n_7
 exact ao
 refine ak ?_ ?_
 refine d4 T.qY rfl ?_ ?_
 exact n_0
 exact aa n_1
 refine ak ?_ ?_
 refine d4 T.A7 rfl ?_ ?_
 exact n_0
 exact aa n_2
 refine ar ?_
 refine d4 T.A8 rfl ?_ ?_
 exact n_0
 exact aa n_3
theorem pT (B_Sketch:kT P w K mg base (ct C0 C1 C2 C3 C4 C5 C6 C7 C8) "Sketch" 3 1 bQ):BodyOk P w K mg base (ct C0 C1 C2 C3 C4 C5 C6 C7 C8) ["self", "inner"] el 2 iL:=by
 refine ⟨fun X hP hw hK hmg hb d hr=>?_⟩
 subst hP hw hK hmg hb
 have hS:ag el=_:=(by (conv=>lhs; whnf))
 rw [hS] at d
 have hB:aw el=_:=(by (conv=>lhs; whnf))
 rw [hB]
 have n_0:Nm X 0 "self":=d.nm rfl (by w_fin)
 have n_1:Nm X 1 "inner":=d.nm rfl (by w_fin)
 have g_Sketch:Gl X "Sketch":=d.gl rfl
 have hu:=bF hr
 delta iL
 refine ak ?_ ?_
 refine ie B_Sketch hr ?s1 ?_ ?_ ?_
 case s1=>decide
 exact g_Sketch
 exact n_0
 refine ae ?_ ?_
 refine aJ ?_ ?_
 refine ai ?_
 refine aA T.iT rfl ?_
 exact aa n_1
 exact ai aq
 refine ae ?_ ?_
 refine aA T.j4 rfl ?_
 exact aa n_1
 refine ae ?_ ?_
 refine aA T.jk rfl ?_
 exact aa n_1
 exact ao
 refine ar ?_
 refine d4 T.sD rfl ?_ ?_
 exact n_0
 exact aa n_1
theorem qq (G_law_chained:Def P w K mg base (ct C0 C1 C2 C3 C4 C5 C6 C7 C8) "_law_chained" ["some", "by"] 5 dB)(G_law_sign:Def P w K mg base (ct C0 C1 C2 C3 C4 C5 C6 C7 C8) "_law_sign" ["cell"] 1 cq)(M_Over:fA P w K mg base (ct C0 C1 C2 C3 C4 C5 C6 C7 C8) "Over" 2 3 3 pq)(M_Root:fA P w K mg base (ct C0 C1 C2 C3 C4 C5 C6 C7 C8) "Root" 1 3 4 pA)(M_Led:fA P w K mg base (ct C0 C1 C2 C3 C4 C5 C6 C7 C8) "Led" 2 3 5 tO)(M_Marked:fA P w K mg base (ct C0 C1 C2 C3 C4 C5 C6 C7 C8) "Marked" 3 3 6 fC)(M_Held:fA P w K mg base (ct C0 C1 C2 C3 C4 C5 C6 C7 C8) "Held" 1 3 7 pB)(M_Grid:fA P w K mg base (ct C0 C1 C2 C3 C4 C5 C6 C7 C8) "Grid" 1 4 8 lA):BodyOk P w K mg base (ct C0 C1 C2 C3 C4 C5 C6 C7 C8) ["way", "some", "by", "first", "wide", "bands"] eW 5 cJ:=by
 refine ⟨fun X hP hw hK hmg hb d hr=>?_⟩
 subst hP hw hK hmg hb
 have hS:ag eW=_:=(by (conv=>lhs; whnf))
 rw [hS] at d
 have hB:aw eW=_:=(by (conv=>lhs; whnf))
 rw [hB]
 have n_0:Nm X 0 "way":=d.nm rfl (by w_fin)
 have n_1:Nm X 1 "some":=d.nm rfl (by w_fin)
 have n_2:Nm X 2 "by":=d.nm rfl (by w_fin)
 have n_3:Nm X 3 "first":=d.nm rfl (by w_fin)
 have n_4:Nm X 4 "wide":=d.nm rfl (by w_fin)
 have n_5:Nm X 5 "bands":=d.nm rfl (by w_fin)
 have l_3:Nl X 3 "first":=d.nl rfl (by first | exact .inl rfl | exact .inr rfl)
 have l_4:Nl X 4 "wide":=d.nl rfl (by first | exact .inl rfl | exact .inr rfl)
 have l_5:Nl X 5 "bands":=d.nl rfl (by first | exact .inl rfl | exact .inr rfl)
 have g_Grid:Gl X "Grid":=d.gl rfl
 have g_Held:Gl X "Held":=d.gl rfl
 have g_Led:Gl X "Led":=d.gl rfl
 have g_Marked:Gl X "Marked":=d.gl rfl
 have g_Over:Gl X "Over":=d.gl rfl
 have g_Root:Gl X "Root":=d.gl rfl
 have g_law_chained:Gl X "_law_chained":=d.gl rfl
 have g_law_sign:Gl X "_law_sign":=d.gl rfl
 have g_len:Gl X "len":=d.gl rfl
 have g_range:Gl X "range":=d.gl rfl
 have g_str:Gl X "str":=d.gl rfl
 have hu:=bF hr
 delta cJ fD gF
 refine ak ?_ ?_
 refine aV ?_ ?_
 exact l_3
 refine d5 ?_ ?_
 refine ai ?_
 refine d5 ?_ ?_
 refine ai ?_
 exact aa n_1
 exact aq
 exact aq
 refine ak ?_ ?_
 refine bE ?_ ?_ ?_
 refine cZ hr ?_ ?_
 refine ai ?_
 exact aa n_0
 exact ai aq
 refine ar ?_
 refine aE ?_
 refine bW G_law_chained hr ?s1 ?_ ?_
 case s1=>decide
 exact g_law_chained
 refine ae ?_ ?_
 exact aa n_1
 refine ae ?_ ?_
 exact aa n_2
 exact ao
 exact aS
 refine ak ?_ ?_
 refine bE ?_ ?_ ?_
 refine cZ hr ?_ ?_
 refine ai ?_
 exact aa n_0
 exact ai aq
 refine ar ?_
 refine aE ?_
 refine fN ?_
 refine ae ?_ ?_
 exact ba (by w_left)
 refine ae ?_ ?_
 refine fG M_Over hr ?s1 ?_ ?_
 case s1=>decide
 exact g_Over
 refine ae ?_ ?_
 exact aa n_3
 refine ae ?_ ?_
 refine d5 ?_ ?_
 refine ai ?_
 refine d5 ?_ ?_
 refine ai ?_
 exact aa n_1
 exact aq
 exact aq
 exact ao
 refine ae ?_ ?_
 exact aa n_1
 refine ae ?_ ?_
 exact ba (by w_left)
 exact ao
 exact aS
 refine ak ?_ ?_
 refine bE ?_ ?_ ?_
 refine cZ hr ?_ ?_
 refine ai ?_
 exact aa n_0
 exact ai aq
 refine ar ?_
 refine aE ?_
 refine fN ?_
 refine ae ?_ ?_
 exact ba (by w_left)
 refine ae ?_ ?_
 refine fG M_Root hr ?s1 ?_ ?_
 case s1=>decide
 exact g_Root
 refine ae ?_ ?_
 exact aa n_3
 exact ao
 refine ae ?_ ?_
 exact aa n_1
 refine ae ?_ ?_
 exact ba (by w_left)
 exact ao
 exact aS
 refine ak ?_ ?_
 refine bE ?_ ?_ ?_
 refine cZ hr ?_ ?_
 refine ai ?_
 exact aa n_0
 exact ai aq
 refine ar ?_
 refine aE ?_
 refine fN ?_
 refine ae ?_ ?_
 exact ba (by w_left)
 refine ae ?_ ?_
 refine fG M_Led hr ?s1 ?_ ?_
 case s1=>decide
 exact g_Led
 refine ae ?_ ?_
 refine bW G_law_sign hr ?s1 ?_ ?_
 case s1=>decide
 exact g_law_sign
 refine ae ?_ ?_
 exact aa n_2
 exact ao
 refine ae ?_ ?_
 exact aa n_3
 exact ao
 refine ae ?_ ?_
 exact aa n_1
 refine ae ?_ ?_
 refine bW G_law_sign hr ?s1 ?_ ?_
 case s1=>decide
 exact g_law_sign
 refine ae ?_ ?_
 exact aa n_2
 exact ao
 exact ao
 exact aS
 refine ak ?_ ?_
 refine bE ?_ ?_ ?_
 refine PDW.pt ?_
 refine om ?_ ?_
 refine cZ hr ?_ ?_
 refine ai ?_
 exact aa n_0
 exact ai aq
 refine sZ ?_
 refine cZ hr ?_ ?_
 refine ai ?_
 refine fM ?_ ?_
 exact aa n_2
 exact aq
 exact ai aq
 refine ar ?_
 refine aE ?_
 refine fN ?_
 refine ae ?_ ?_
 exact ba (by w_left)
 refine ae ?_ ?_
 refine fG M_Marked hr ?s1 ?_ ?_
 case s1=>decide
 exact g_Marked
 refine ae ?_ ?_
 exact aa n_3
 refine ae ?_ ?_
 refine d5 ?_ ?_
 refine ai ?_
 refine d5 ?_ ?_
 refine ai ?_
 exact aa n_1
 exact aq
 exact aq
 refine ae ?_ ?_
 exact uM
 exact ao
 refine ae ?_ ?_
 exact aa n_1
 refine ae ?_ ?_
 exact ba (by w_left)
 exact ao
 exact aS
 refine ak ?_ ?_
 refine bE ?_ ?_ ?_
 refine cZ hr ?_ ?_
 refine ai ?_
 exact aa n_0
 exact ai aq
 refine ar ?_
 refine aE ?_
 refine fN ?_
 refine ae ?_ ?_
 exact ba (by w_left)
 refine ae ?_ ?_
 refine fG M_Marked hr ?s1 ?_ ?_
 case s1=>decide
 exact g_Marked
 refine ae ?_ ?_
 exact aa n_3
 refine ae ?_ ?_
 exact uM
 refine ae ?_ ?_
 refine d5 ?_ ?_
 refine ai ?_
 refine d5 ?_ ?_
 refine ai ?_
 exact aa n_1
 exact aq
 exact aq
 exact ao
 refine ae ?_ ?_
 exact aa n_1
 refine ae ?_ ?_
 exact ba (by w_left)
 exact ao
 exact aS
 refine ak ?_ ?_
 refine bE ?_ ?_ ?_
 refine cZ hr ?_ ?_
 refine ai ?_
 exact aa n_0
 exact ai aq
 refine ar ?_
 refine aE ?_
 refine fN ?_
 refine ae ?_ ?_
 exact ba (by w_left)
 refine ae ?_ ?_
 refine fG M_Held hr ?s1 ?_ ?_
 case s1=>decide
 exact g_Held
 refine ae ?_ ?_
 exact aa n_3
 exact ao
 refine ae ?_ ?_
 exact aa n_1
 refine ae ?_ ?_
 exact ba (by w_left)
 exact ao
 exact aS
 refine ak ?_ ?_
 refine bE ?_ ?_ ?_
 refine cZ hr ?_ ?_
 refine ai ?_
 exact aa n_0
 exact ai aq
 refine ar ?_
 refine aE ?_
 refine fN ?_
 refine ae ?_ ?_
 exact ba (by w_left)
 refine ae ?_ ?_
 refine fG M_Marked hr ?s1 ?_ ?_
 case s1=>decide
 exact g_Marked
 refine ae ?_ ?_
 exact aa n_3
 refine ae ?_ ?_
 refine d5 ?_ ?_
 refine ai ?_
 refine d5 ?_ ?_
 refine ai ?_
 exact aa n_1
 exact aq
 exact aq
 refine ae ?_ ?_
 refine d5 ?_ ?_
 refine ai ?_
 refine d5 ?_ ?_
 refine ai ?_
 exact aa n_1
 exact aq
 exact aq
 exact ao
 refine ae ?_ ?_
 exact aa n_1
 refine ae ?_ ?_
 exact ba (by w_left)
 exact ao
 exact aS
 refine ak ?_ ?_
 refine aV ?_ ?_
 exact l_4
 refine aJ ?_ ?_
 exact ai aq
 refine ai ?_
 refine fM ?_ ?_
 refine gx ?_ ?_
 exact aa n_2
 exact aq
 exact aq
 refine ak ?_ ?_
 refine tm d.toDefX ?_ ?_ ?s1
 case s1=>decide +kernel
 exact l_5
 refine xw (N':=["at", "some", "wide"]) (nt:=1) (cap:=[1,4]) d.toDefX ?s1 ?s2 ?s3 ?_ ?_ ?_ ?_ (bx (by decide)) (aX 0) ?_ ?_
 case s1=>exact ⟨by rfl,by w_left,by w_left,by w_left,by rfl,by w_left⟩
 case s2=>decide
 case s3=>decide +kernel
 exact g_range
 exact T.kv
 refine ae ?_ ?_
 exact aq
 refine ae ?_ ?_
 refine eK ?_ ?_ ?_
 exact g_len
 exact T.gj
 refine ai ?_
 exact aa n_1
 refine ae ?_ ?_
 exact aa n_4
 exact ao
 intro cl C s2 H2 fp d1
 exact cO (d1.nlc (i:=0) rfl rfl)
 intro cl C s2 H2 fp d1
 exact cA
 intro cl C s2 H2 fp d1
 refine cm ?_
 refine ez (N':=["one"]) (nt:=1) (cap:=[]) d1 ?s1 ?s2 ?s3 ?_ ?_ (bx (by decide)) (aX 0) ?_ ?_
 case s1=>exact ⟨by rfl,by w_left,by w_left,by w_left,by rfl,by w_left⟩
 case s2=>decide
 case s3=>decide +kernel
 refine ai ?_
 refine t9 ?_ ?_ ?_
 refine ai ?_
 exact aa (d1.nm (i:=1) rfl (by w_fin))
 refine iY ?_
 exact aa (d1.nm (i:=0) rfl (by w_fin))
 refine iY ?_
 refine aJ ?_ ?_
 refine ai ?_
 exact aa (d1.nm (i:=0) rfl (by w_fin))
 refine ai ?_
 exact aa (d1.nm (i:=2) rfl (by w_fin))
 intro cl C s2 H2 fp d2
 exact cO (d2.nlc (i:=0) rfl rfl)
 intro cl C s2 H2 fp d2
 exact cA
 intro cl C s2 H2 fp d2
 refine d5 ?_ ?_
 refine ai ?_
 exact aa (d2.nm (i:=0) rfl (by w_fin))
 exact aq
 refine ar ?_
 refine aE ?_
 refine fN ?_
 refine ae ?_ ?_
 exact ba (by w_left)
 refine ae ?_ ?_
 refine fG M_Grid hr ?s1 ?_ ?_
 case s1=>decide
 exact g_Grid
 refine ae ?_ ?_
 exact aa n_5
 exact ao
 refine ae ?_ ?_
 exact aa n_1
 refine ae ?_ ?_
 refine Bs ?_ ?_ ?_
 exact g_str
 exact T.A4
 refine ai ?_
 exact aa n_4
 exact ao
theorem qr (G_law_sign:Def P w K mg base (ct C0 C1 C2 C3 C4 C5 C6 C7 C8) "_law_sign" ["cell"] 1 cq)(M_Word:fA P w K mg base (ct C0 C1 C2 C3 C4 C5 C6 C7 C8) "Word" 1 3 1 jP)(M_Sketch:fA P w K mg base (ct C0 C1 C2 C3 C4 C5 C6 C7 C8) "Sketch" 3 1 0 bQ):BodyOk P w K mg base (ct C0 C1 C2 C3 C4 C5 C6 C7 C8) ["cell", "n", "signs", "up", "down"] eX 4 ig:=by
 refine ⟨fun X hP hw hK hmg hb d hr=>?_⟩
 subst hP hw hK hmg hb
 have hS:ag eX=_:=(by (conv=>lhs; whnf))
 rw [hS] at d
 have hB:aw eX=_:=(by (conv=>lhs; whnf))
 rw [hB]
 have n_0:Nm X 0 "cell":=d.nm rfl (by w_fin)
 have n_1:Nm X 1 "n":=d.nm rfl (by w_fin)
 have n_2:Nm X 2 "signs":=d.nm rfl (by w_fin)
 have n_3:Nm X 3 "up":=d.nm rfl (by w_fin)
 have n_4:Nm X 4 "down":=d.nm rfl (by w_fin)
 have l_1:Nl X 1 "n":=d.nl rfl (by first | exact .inl rfl | exact .inr rfl)
 have l_2:Nl X 2 "signs":=d.nl rfl (by first | exact .inl rfl | exact .inr rfl)
 have l_3:Nl X 3 "up":=d.nl rfl (by first | exact .inl rfl | exact .inr rfl)
 have l_4:Nl X 4 "down":=d.nl rfl (by first | exact .inl rfl | exact .inr rfl)
 have g_Sketch:Gl X "Sketch":=d.gl rfl
 have g_Word:Gl X "Word":=d.gl rfl
 have g_range:Gl X "range":=d.gl rfl
 have hu:=bF hr
 delta ig gG
 refine ak ?_ ?_
 refine aV ?_ ?_
 exact l_1
 refine fM ?_ ?_
 refine eO ?_ ?_
 refine ai ?_
 exact aa n_0
 exact aq
 exact aq
 refine ak ?_ ?_
 refine bE ?_ ?_ ?_
 refine jI ?_ ?_
 refine fM ?_ ?_
 exact aa n_1
 exact aq
 exact aq
 refine ak ?_ ?_
 refine aV ?_ ?_
 exact l_2
 refine ou ?_ ?_
 exact ba (by w_left)
 refine ai ?_
 refine cm ?_
 refine tj (N':=["k", "n"]) (nt:=1) (cap:=[1]) d.toDefX ?s1 ?s2 ?s3 ?_ ?_ ?_ ?_ (bx (by decide)) (aX 0) ?_ ?_
 case s1=>exact ⟨by rfl,by w_left,by w_left,by w_left,by rfl,by w_left⟩
 case s2=>decide
 case s3=>decide +kernel
 exact g_range
 exact T.kv
 refine ae ?_ ?_
 refine aJ ?_ ?_
 exact ai aq
 refine ai ?_
 refine fM ?_ ?_
 refine gx ?_ ?_
 exact aa n_1
 exact aq
 exact aq
 exact ao
 intro cl C s2 H2 fp d1
 exact cO (d1.nlc (i:=0) rfl rfl)
 intro cl C s2 H2 fp d1
 exact cA
 intro cl C s2 H2 fp d1
 refine bW (X:=aL _ _ _ _ _ _ _ _) G_law_sign hr ?s1 (d1.gl rfl) ?_
 case s1=>decide
 refine ae ?_ ?_
 refine aJ ?_ ?_
 refine ai ?_
 refine gx ?_ ?_
 exact aa (d1.nm (i:=1) rfl (by w_fin))
 exact aq
 refine ai ?_
 refine eO ?_ ?_
 refine ai ?_
 refine eO ?_ ?_
 exact ai aq
 exact aa (d1.nm (i:=0) rfl (by w_fin))
 exact aa (d1.nm (i:=0) rfl (by w_fin))
 exact ao
 refine ar ?_
 refine aE ?_
 refine fN ?_
 refine ae ?_ ?_
 refine fN ?_
 refine ae ?_ ?_
 exact ba (by w_left)
 refine ae ?_ ?_
 refine fG M_Word hr ?s1 ?_ ?_
 case s1=>decide
 exact g_Word
 refine ae ?_ ?_
 exact aa n_2
 exact ao
 refine ae ?_ ?_
 refine cm ?_
 exact fX ao
 refine ae ?_ ?_
 exact aa n_2
 exact ao
 refine ae ?_ ?_
 exact aq
 refine ae ?_ ?_
 exact aq
 exact ao
 exact aS
 refine ak ?_ ?_
 refine aV ?_ ?_
 exact l_3
 refine fM ?_ ?_
 refine gx ?_ ?_
 exact aa n_1
 exact aq
 exact aq
 refine ak ?_ ?_
 refine aV ?_ ?_
 exact l_4
 refine fM ?_ ?_
 refine gx ?_ ?_
 exact aa n_1
 exact aq
 exact aq
 refine ar ?_
 refine aE ?_
 refine fN ?_
 refine ae ?_ ?_
 refine fN ?_
 refine ae ?_ ?_
 exact ba (by w_left)
 refine ae ?_ ?_
 refine fG M_Sketch hr ?s1 ?_ ?_
 case s1=>decide
 exact g_Sketch
 refine ae ?_ ?_
 refine fM ?_ ?_
 refine gx ?_ ?_
 exact aa n_1
 exact aq
 exact aq
 refine ae ?_ ?_
 exact aa n_3
 refine ae ?_ ?_
 exact aa n_4
 exact ao
 refine ae ?_ ?_
 refine cm ?_
 exact fX ao
 refine ae ?_ ?_
 exact ba (by w_left)
 exact ao
 refine ae ?_ ?_
 exact aq
 refine ae ?_ ?_
 refine aJ ?_ ?_
 refine ai ?_
 refine aJ ?_ ?_
 refine ai ?_
 exact aa n_3
 refine ai ?_
 exact aa n_4
 exact ai aq
 exact ao
theorem qs (G_law_many:Def P w K mg base (ct C0 C1 C2 C3 C4 C5 C6 C7 C8) "_law_many" ["way", "by"] 1 dC)(G_law_made:Def P w K mg base (ct C0 C1 C2 C3 C4 C5 C6 C7 C8) "_law_made" ["way", "some", "by"] 6 aY)(G_law_leaf:Def P w K mg base (ct C0 C1 C2 C3 C4 C5 C6 C7 C8) "_law_leaf" ["cell"] 5 eR):BodyOk P w K mg base (ct C0 C1 C2 C3 C4 C5 C6 C7 C8) ["stack", "cell", "way", "by", "many", "some", "deep", "size", "made"] eY 6 ij:=by
 refine ⟨fun X hP hw hK hmg hb d hr=>?_⟩
 subst hP hw hK hmg hb
 have hS:ag eY=_:=(by (conv=>lhs; whnf))
 rw [hS] at d
 have hB:aw eY=_:=(by (conv=>lhs; whnf))
 rw [hB]
 have n_0:Nm X 0 "stack":=d.nm rfl (by w_fin)
 have n_1:Nm X 1 "cell":=d.nm rfl (by w_fin)
 have n_2:Nm X 2 "way":=d.nm rfl (by w_fin)
 have n_3:Nm X 3 "by":=d.nm rfl (by w_fin)
 have n_4:Nm X 4 "many":=d.nm rfl (by w_fin)
 have n_5:Nm X 5 "some":=d.nm rfl (by w_fin)
 have n_6:Nm X 6 "deep":=d.nm rfl (by w_fin)
 have n_7:Nm X 7 "size":=d.nm rfl (by w_fin)
 have n_8:Nm X 8 "made":=d.nm rfl (by w_fin)
 have l_2:Nl X 2 "way":=d.nl rfl (by first | exact .inl rfl | exact .inr rfl)
 have l_3:Nl X 3 "by":=d.nl rfl (by first | exact .inl rfl | exact .inr rfl)
 have l_4:Nl X 4 "many":=d.nl rfl (by first | exact .inl rfl | exact .inr rfl)
 have l_5:Nl X 5 "some":=d.nl rfl (by first | exact .inl rfl | exact .inr rfl)
 have l_6:Nl X 6 "deep":=d.nl rfl (by first | exact .inl rfl | exact .inr rfl)
 have l_7:Nl X 7 "size":=d.nl rfl (by first | exact .inl rfl | exact .inr rfl)
 have l_8:Nl X 8 "made":=d.nl rfl (by first | exact .inl rfl | exact .inr rfl)
 have g_law_leaf:Gl X "_law_leaf":=d.gl rfl
 have g_law_made:Gl X "_law_made":=d.gl rfl
 have g_law_many:Gl X "_law_many":=d.gl rfl
 have g_len:Gl X "len":=d.gl rfl
 have g_max:Gl X "max":=d.gl rfl
 have g_sum:Gl X "sum":=d.gl rfl
 have hu:=bF hr
 delta ij gJ gI gH
 refine ak ?_ ?_
 refine aV ?_ ?_
 exact l_2
 refine fM ?_ ?_
 exact aa n_1
 exact aq
 refine ak ?_ ?_
 refine aV ?_ ?_
 exact l_3
 refine gx ?_ ?_
 exact aa n_1
 exact aq
 refine ak ?_ ?_
 refine aV ?_ ?_
 exact l_4
 refine bW G_law_many hr ?s1 ?_ ?_
 case s1=>decide
 exact g_law_many
 refine ae ?_ ?_
 exact aa n_2
 refine ae ?_ ?_
 exact aa n_3
 exact ao
 refine ak ?_ ?_
 refine aV ?_ ?_
 exact l_5
 refine t9 ?_ ?_ ?_
 refine ai ?_
 exact aa n_0
 refine iY ?_
 refine vV ?_ ?_ d.calm ?_
 exact g_max
 exact T.mM
 refine ae ?_ ?_
 exact aq
 refine ae ?_ ?_
 refine d6 ?_ ?_
 refine eK ?_ ?_ ?_
 exact g_len
 exact T.gj
 refine ai ?_
 exact aa n_0
 exact aa n_4
 exact ao
 exact lX
 refine ak ?_ ?_
 refine aV ?_ ?_
 exact l_6
 refine tE ?_ ?_ d.calm ?_ ?_
 exact g_max
 exact T.mM
 refine ai ?_
 refine cm ?_
 refine ez (N':=["one"]) (nt:=1) (cap:=[]) d.toDefX ?s1 ?s2 ?s3 ?_ ?_ (bx (by decide)) (aX 0) ?_ ?_
 case s1=>exact ⟨by rfl,by w_left,by w_left,by w_left,by rfl,by w_left⟩
 case s2=>decide
 case s3=>decide +kernel
 refine ai ?_
 exact aa n_5
 intro cl C s2 H2 fp d1
 exact cO (d1.nlc (i:=0) rfl rfl)
 intro cl C s2 H2 fp d1
 exact cA
 intro cl C s2 H2 fp d1
 refine d5 ?_ ?_
 refine ai ?_
 exact aa (d1.nm (i:=0) rfl (by w_fin))
 exact aq
 exact aq
 refine ak ?_ ?_
 refine aV ?_ ?_
 exact l_7
 refine aJ ?_ ?_
 refine ai ?_
 refine uW ?_ ?_ d.calm ?_
 exact g_sum
 exact T.A3
 refine ai ?_
 refine cm ?_
 refine ez (N':=["one"]) (nt:=1) (cap:=[]) d.toDefX ?s1 ?s2 ?s3 ?_ ?_ (bx (by decide)) (aX 0) ?_ ?_
 case s1=>exact ⟨by rfl,by w_left,by w_left,by w_left,by rfl,by w_left⟩
 case s2=>decide
 case s3=>decide +kernel
 refine ai ?_
 exact aa n_5
 intro cl C s2 H2 fp d1
 exact cO (d1.nlc (i:=0) rfl rfl)
 intro cl C s2 H2 fp d1
 exact cA
 intro cl C s2 H2 fp d1
 refine d5 ?_ ?_
 refine ai ?_
 exact aa (d1.nm (i:=0) rfl (by w_fin))
 exact aq
 exact ai aq
 refine ak ?_ ?_
 refine bE ?_ ?_ ?_
 refine PDW.pt ?_
 refine om ?_ ?_
 refine jI ?_ ?_
 exact aa n_2
 exact aq
 refine om ?_ ?_
 refine uN ?_ ?_
 exact aa n_4
 refine eK ?_ ?_ ?_
 exact g_len
 exact T.gj
 refine ai ?_
 exact aa n_0
 refine om ?_ ?_
 refine uN ?_ ?_
 exact aa n_6
 exact aq
 refine sZ ?_
 refine uN ?_ ?_
 exact aa n_7
 exact aq
 refine ak ?_ ?_
 refine aV ?_ ?_
 exact l_8
 refine bW G_law_made hr ?s1 ?_ ?_
 case s1=>decide
 exact g_law_made
 refine ae ?_ ?_
 exact aa n_2
 refine ae ?_ ?_
 refine cm ?_
 refine ez (N':=["one"]) (nt:=1) (cap:=[]) d.toDefX ?s1 ?s2 ?s3 ?_ ?_ (bx (by decide)) (aX 0) ?_ ?_
 case s1=>exact ⟨by rfl,by w_left,by w_left,by w_left,by rfl,by w_left⟩
 case s2=>decide
 case s3=>decide +kernel
 refine ai ?_
 exact aa n_5
 intro cl C s2 H2 fp d1
 exact cO (d1.nlc (i:=0) rfl rfl)
 intro cl C s2 H2 fp d1
 exact cA
 intro cl C s2 H2 fp d1
 refine d5 ?_ ?_
 refine ai ?_
 exact aa (d1.nm (i:=0) rfl (by w_fin))
 exact aq
 refine ae ?_ ?_
 exact aa n_3
 exact ao
 refine ar ?_
 refine lY ?_
 refine yU ?_ ?_
 refine ai ?_
 refine t9 ?_ ?_ ?_
 refine ai ?_
 exact aa n_0
 exact lX
 refine iY ?_
 refine d6 ?_ ?_
 refine eK ?_ ?_ ?_
 exact g_len
 exact T.gj
 refine ai ?_
 exact aa n_0
 exact aa n_4
 refine ai ?_
 refine cm ?_
 refine fX ?_
 refine ae ?_ ?_
 refine fN ?_
 refine ae ?_ ?_
 exact aa n_8
 refine ae ?_ ?_
 refine aJ ?_ ?_
 refine ai ?_
 exact aa n_6
 exact ai aq
 refine ae ?_ ?_
 exact aa n_7
 exact ao
 exact ao
 exact aS
 refine ar ?_
 refine lY ?_
 refine yU ?_ ?_
 refine ai ?_
 exact aa n_0
 refine ai ?_
 refine cm ?_
 refine fX ?_
 refine ae ?_ ?_
 refine bW G_law_leaf hr ?s1 ?_ ?_
 case s1=>decide
 exact g_law_leaf
 refine ae ?_ ?_
 exact aa n_3
 exact ao
 exact ao
theorem qt (G_law_chained:Def P w K mg base (ct C0 C1 C2 C3 C4 C5 C6 C7 C8) "_law_chained" ["some", "by"] 5 dB)(G_law_step:qa P w K mg base (ct C0 C1 C2 C3 C4 C5 C6 C7 C8) "_law_step" ["stack", "cell"] 7 gq)(G_law_leaf:Def P w K mg base (ct C0 C1 C2 C3 C4 C5 C6 C7 C8) "_law_leaf" ["cell"] 5 eR):BodyOk P w K mg base (ct C0 C1 C2 C3 C4 C5 C6 C7 C8) ["script", "stack", "cell"] eZ 7 gr:=by
 refine ⟨fun X hP hw hK hmg hb d hr=>?_⟩
 subst hP hw hK hmg hb
 have hS:ag eZ=_:=(by (conv=>lhs; whnf))
 rw [hS] at d
 have hB:aw eZ=_:=(by (conv=>lhs; whnf))
 rw [hB]
 have n_0:Nm X 0 "script":=d.nm rfl (by w_fin)
 have n_1:Nm X 1 "stack":=d.nm rfl (by w_fin)
 have n_2:Nm X 2 "cell":=d.nm rfl (by w_fin)
 have l_1:Nl X 1 "stack":=d.nl rfl (by first | exact .inl rfl | exact .inr rfl)
 have l_2:Nl X 2 "cell":=d.nl rfl (by first | exact .inl rfl | exact .inr rfl)
 have g_law_chained:Gl X "_law_chained":=d.gl rfl
 have g_law_leaf:Gl X "_law_leaf":=d.gl rfl
 have g_law_step:Gl X "_law_step":=d.gl rfl
 have g_len:Gl X "len":=d.gl rfl
 have hu:=bF hr
 delta gr gL gK
 refine ak ?_ ?_
 refine aV ?_ ?_
 exact l_1
 refine cm ?_
 exact fX ao
 refine ak ?_ ?_
 refine lZ d.never d.calm (aX 2) ?_ ?_ ?_
 exact cO l_2
 refine t9 ?_ ?_ ?_
 refine ai ?_
 exact aa n_0
 exact lX
 exact iY aq
 refine ar ?_
 refine aV ?_ ?_
 exact l_1
 refine cm ?_
 refine rG G_law_step hr ?s1 ?_ ?_
 case s1=>decide
 exact g_law_step
 refine ae ?_ ?_
 exact aa n_1
 refine ae ?_ ?_
 exact aa n_2
 exact ao
 refine ak ?_ ?_
 refine bE ?_ ?_ ?_
 refine cZ hr ?_ ?_
 refine ai ?_
 exact aa n_1
 refine ai ?_
 refine cm ?_
 exact fX ao
 refine ar ?_
 refine aV ?_ ?_
 exact l_1
 refine cm ?_
 refine fX ?_
 refine ae ?_ ?_
 refine bW G_law_leaf hr ?s1 ?_ ?_
 case s1=>decide
 exact g_law_leaf
 refine ae ?_ ?_
 exact aq
 exact ao
 exact ao
 exact aS
 refine ak ?_ ?_
 refine bE ?_ ?_ ?_
 refine cZ hr ?_ ?_
 refine ai ?_
 refine eK ?_ ?_ ?_
 exact g_len
 exact T.gj
 refine ai ?_
 exact aa n_1
 exact ai aq
 refine ar ?_
 refine aE ?_
 refine d5 ?_ ?_
 refine ai ?_
 refine d5 ?_ ?_
 refine ai ?_
 exact aa n_1
 exact aq
 exact aq
 exact aS
 refine ar ?_
 refine aE ?_
 refine bW G_law_chained hr ?s1 ?_ ?_
 case s1=>decide
 exact g_law_chained
 refine ae ?_ ?_
 refine cm ?_
 refine ez (N':=["one"]) (nt:=1) (cap:=[]) d.toDefX ?s1 ?s2 ?s3 ?_ ?_ (bx (by decide)) (aX 0) ?_ ?_
 case s1=>exact ⟨by rfl,by w_left,by w_left,by w_left,by rfl,by w_left⟩
 case s2=>decide
 case s3=>decide +kernel
 refine ai ?_
 exact aa n_1
 intro cl C s2 H2 fp d1
 exact cO (d1.nlc (i:=0) rfl rfl)
 intro cl C s2 H2 fp d1
 exact cA
 intro cl C s2 H2 fp d1
 refine d5 ?_ ?_
 refine ai ?_
 exact aa (d1.nm (i:=0) rfl (by w_fin))
 exact aq
 refine ae ?_ ?_
 refine eK ?_ ?_ ?_
 exact g_len
 exact T.gj
 refine ai ?_
 exact aa n_1
 exact ao
theorem nG:BodyOk P w K mg base (ct C0 C1 C2 C3 C4 C5 C6 C7 C8) ["script", "k"] cX 0 fE:=by
 refine ⟨fun X hP hw hK hmg hb d hr=>?_⟩
 subst hP hw hK hmg hb
 have hS:ag cX=_:=(by (conv=>lhs; whnf))
 rw [hS] at d
 have hB:aw cX=_:=(by (conv=>lhs; whnf))
 rw [hB]
 have n_0:Nm X 0 "script":=d.nm rfl (by w_fin)
 have n_1:Nm X 1 "k":=d.nm rfl (by w_fin)
 have g_len:Gl X "len":=d.gl rfl
 have hu:=bF hr
 delta fE
 refine ak ?_ ?_
 refine bE ?_ ?_ ?_
 refine jI ?_ ?_
 exact aa n_1
 refine eK ?_ ?_ ?_
 exact g_len
 exact T.gj
 refine ai ?_
 exact aa n_0
 refine ar ?_
 refine aE ?_
 refine d5 ?_ ?_
 refine ai ?_
 exact aa n_0
 exact aa n_1
 exact aS
 refine ar ?_
 exact aE aq
theorem pU:BodyOk P w K mg base (ct C0 C1 C2 C3 C4 C5 C6 C7 C8) ["found"] en 0 iM:=by
 refine ⟨fun X hP hw hK hmg hb d hr=>?_⟩
 subst hP hw hK hmg hb
 have hS:ag en=_:=(by (conv=>lhs; whnf))
 rw [hS] at d
 have hB:aw en=_:=(by (conv=>lhs; whnf))
 rw [hB]
 have n_0:Nm X 0 "found":=d.nm rfl (by w_fin)
 have g_bool:Gl X "bool":=d.gl rfl
 have g_int:Gl X "int":=d.gl rfl
 have g_isinstance:Gl X "isinstance":=d.gl rfl
 have hu:=bF hr
 delta iM
 refine ar ?_
 refine aE ?_
 refine zb ?_ ?_
 refine iZ .int ?_ ?_ ?_ ?_ ?_
 exact g_isinstance
 exact T.fm
 exact g_int
 exact T.Hx
 refine ai ?_
 exact aa n_0
 refine za ?_
 refine Eh ?_
 refine iZ .bool ?_ ?_ ?_ ?_ ?_
 exact g_isinstance
 exact T.fm
 exact g_bool
 exact T.EN
 refine ai ?_
 exact aa n_0
theorem pV (G_law_whole:Def P w K mg base (ct C0 C1 C2 C3 C4 C5 C6 C7 C8) "_law_whole" ["found"] 1 gQ)(Q_rows:pd P w K mg base (ct C0 C1 C2 C3 C4 C5 C6 C7 C8) "rows" 0 43 cv):BodyOk P w K mg base (ct C0 C1 C2 C3 C4 C5 C6 C7 C8) ["found", "number", "told", "row"] eo 43 iN:=by
 refine ⟨fun X hP hw hK hmg hb d hr=>?_⟩
 subst hP hw hK hmg hb
 have hS:ag eo=_:=(by (conv=>lhs; whnf))
 rw [hS] at d
 have hB:aw eo=_:=(by (conv=>lhs; whnf))
 rw [hB]
 have n_0:Nm X 0 "found":=d.nm rfl (by w_fin)
 have n_1:Nm X 1 "number":=d.nm rfl (by w_fin)
 have n_2:Nm X 2 "told":=d.nm rfl (by w_fin)
 have n_3:Nm X 3 "row":=d.nm rfl (by w_fin)
 have l_1:Nl X 1 "number":=d.nl rfl (by first | exact .inl rfl | exact .inr rfl)
 have l_2:Nl X 2 "told":=d.nl rfl (by first | exact .inl rfl | exact .inr rfl)
 have l_3:Nl X 3 "row":=d.nl rfl (by first | exact .inl rfl | exact .inr rfl)
 have g_law_whole:Gl X "_law_whole":=d.gl rfl
 have g_isinstance:Gl X "isinstance":=d.gl rfl
 have g_len:Gl X "len":=d.gl rfl
 have g_list:Gl X "list":=d.gl rfl
 have g_str:Gl X "str":=d.gl rfl
 have hu:=bF hr
 delta iN gf gd
 refine ak ?_ ?_
 refine lZ d.never d.calm (aX 1) ?_ ?_ ?_
 exact cO l_1
 refine cm ?_
 refine fX ?_
 refine ae ?_ ?_
 refine aA T.iT rfl ?_
 exact aa n_0
 refine ae ?_ ?_
 refine aA T.j4 rfl ?_
 exact aa n_0
 refine ae ?_ ?_
 refine aA T.jk rfl ?_
 exact aa n_0
 exact ao
 refine ar ?_
 refine bE ?_ ?_ ?_
 refine PDW.pt ?_
 refine jJ ?_ ?_
 refine kg ?_
 refine kf ?_
 refine bW G_law_whole hr ?s1 ?_ ?_
 case s1=>decide
 exact g_law_whole
 refine ae ?_ ?_
 exact aa n_1
 exact ao
 refine iB ?_
 refine jI ?_ ?_
 exact aa n_1
 exact aq
 refine ar ?_
 exact aE nQ
 exact aS
 refine ak ?_ ?_
 refine aV ?_ ?_
 exact l_2
 refine cm ?_
 refine m9 Q_rows hr ?s1 ?_
 case s1=>decide
 exact aa n_0
 refine ak ?_ ?_
 refine bE ?_ ?_ ?_
 refine PDW.pt ?_
 refine jJ ?_ ?_
 refine kg ?_
 refine kf ?_
 refine iZ .list ?_ ?_ ?_ ?_ ?_
 exact g_isinstance
 exact T.fm
 exact g_list
 exact T.sd
 refine ai ?_
 exact aa n_2
 refine iB ?_
 refine n5 hr ?_ ?_
 refine ai ?_
 refine eK ?_ ?_ ?_
 exact g_len
 exact T.gj
 refine ai ?_
 exact aa n_2
 refine ai ?_
 refine aJ ?_ ?_
 refine ai ?_
 refine aJ ?_ ?_
 refine ai ?_
 refine aA T.j4 rfl ?_
 exact aa n_0
 exact ai aq
 refine ai ?_
 refine aA T.jk rfl ?_
 exact aa n_0
 refine ar ?_
 exact aE nQ
 exact aS
 refine ak ?_ ?_
 refine lZ d.never d.calm (aX 3) ?_ ?_ ?_
 exact cO l_3
 exact aa n_2
 refine ar ?_
 refine bE ?_ ?_ ?_
 refine PDW.pt ?_
 refine jJ ?_ ?_
 refine kg ?_
 refine kf ?_
 refine iZ .str ?_ ?_ ?_ ?_ ?_
 exact g_isinstance
 exact T.fm
 exact g_str
 exact T.A4
 refine ai ?_
 exact aa n_3
 refine iB ?_
 refine n5 hr ?_ ?_
 refine ai ?_
 refine eK ?_ ?_ ?_
 exact g_len
 exact T.gj
 refine ai ?_
 exact aa n_3
 refine ai ?_
 refine aA T.iT rfl ?_
 exact aa n_0
 refine ar ?_
 exact aE nQ
 exact aS
 refine ar ?_
 exact aE nQ
theorem Aa (G_law_nest:Def P w K mg base (ct C0 C1 C2 C3 C4 C5 C6 C7 C8) "_law_nest" ["script"] 8 fP)(G_law_cell_at:Def P w K mg base (ct C0 C1 C2 C3 C4 C5 C6 C7 C8) "_law_cell_at" ["script", "k"] 1 dE)(G_law_sized:Def P w K mg base (ct C0 C1 C2 C3 C4 C5 C6 C7 C8) "_law_sized" ["found"] 44 fS)(G_law_sign:Def P w K mg base (ct C0 C1 C2 C3 C4 C5 C6 C7 C8) "_law_sign" ["cell"] 1 cq)(M_Word:fA P w K mg base (ct C0 C1 C2 C3 C4 C5 C6 C7 C8) "Word" 1 3 1 jP)(Q_rows:pd P w K mg base (ct C0 C1 C2 C3 C4 C5 C6 C7 C8) "rows" 0 43 cv)(Q_row:ic P w K mg base (ct C0 C1 C2 C3 C4 C5 C6 C7 C8) "row" 1 42 ku):BodyOk P w K mg base (ct C0 C1 C2 C3 C4 C5 C6 C7 C8) ["script", "found", "told", "kept", "k", "row", "far", "other"] jU 44 wt:=by
 refine ⟨fun X hP hw hK hmg hb d hr=>?_⟩
 subst hP hw hK hmg hb
 have hS:ag jU=_:=(by (conv=>lhs; whnf))
 rw [hS] at d
 have hB:aw jU=_:=(by (conv=>lhs; whnf))
 rw [hB]
 have n_0:Nm X 0 "script":=d.nm rfl (by w_fin)
 have n_1:Nm X 1 "found":=d.nm rfl (by w_fin)
 have n_2:Nm X 2 "told":=d.nm rfl (by w_fin)
 have n_3:Nm X 3 "kept":=d.nm rfl (by w_fin)
 have n_4:Nm X 4 "k":=d.nm rfl (by w_fin)
 have n_5:Nm X 5 "row":=d.nm rfl (by w_fin)
 have n_6:Nm X 6 "far":=d.nm rfl (by w_fin)
 have n_7:Nm X 7 "other":=d.nm rfl (by w_fin)
 have l_1:Nl X 1 "found":=d.nl rfl (by first | exact .inl rfl | exact .inr rfl)
 have l_2:Nl X 2 "told":=d.nl rfl (by first | exact .inl rfl | exact .inr rfl)
 have l_3:Nl X 3 "kept":=d.nl rfl (by first | exact .inl rfl | exact .inr rfl)
 have l_4:Nl X 4 "k":=d.nl rfl (by first | exact .inl rfl | exact .inr rfl)
 have l_5:Nl X 5 "row":=d.nl rfl (by first | exact .inl rfl | exact .inr rfl)
 have l_6:Nl X 6 "far":=d.nl rfl (by first | exact .inl rfl | exact .inr rfl)
 have l_7:Nl X 7 "other":=d.nl rfl (by first | exact .inl rfl | exact .inr rfl)
 have g_Sketch:Gl X "Sketch":=d.gl rfl
 have g_Word:Gl X "Word":=d.gl rfl
 have g_law_cell_at:Gl X "_law_cell_at":=d.gl rfl
 have g_law_nest:Gl X "_law_nest":=d.gl rfl
 have g_law_sign:Gl X "_law_sign":=d.gl rfl
 have g_law_sized:Gl X "_law_sized":=d.gl rfl
 have g_isinstance:Gl X "isinstance":=d.gl rfl
 have g_len:Gl X "len":=d.gl rfl
 have g_list:Gl X "list":=d.gl rfl
 have g_range:Gl X "range":=d.gl rfl
 have g_str:Gl X "str":=d.gl rfl
 have hu:=bF hr
 delta wt mD mB
 refine ak ?_ ?_
 refine aV ?_ ?_
 exact l_1
 refine d5 ?_ ?_
 refine ai ?_
 refine bW G_law_nest hr ?s1 ?_ ?_
 case s1=>decide
 exact g_law_nest
 refine ae ?_ ?_
 exact aa n_0
 exact ao
 exact aq
 refine ak ?_ ?_
 refine bE ?_ ?_ ?_
 refine PDW.pt ?_
 refine jJ ?_ ?_
 refine kg ?_
 refine kf ?_
 refine vc T.vw ?_ ?_ ?_ ?_
 exact g_isinstance
 exact T.fm
 exact g_Sketch
 exact aa n_1
 refine iB ?_
 refine kg ?_
 refine kf ?_
 refine bW G_law_sized hr ?s1 ?_ ?_
 case s1=>decide
 exact g_law_sized
 refine ae ?_ ?_
 exact aa n_1
 exact ao
 refine ar ?_
 exact aE nQ
 exact aS
 refine ak ?_ ?_
 refine oo ?_ ?_
 exact l_2
 refine m9 Q_rows hr ?s1 ?_
 case s1=>decide
 exact aa n_1
 refine ak ?_ ?_
 refine aV ?_ ?_
 exact l_3
 refine cm ?_
 refine rJ ?_ ?_ ?_
 exact g_list
 exact T.sd
 exact rF n_2
 refine ak ?_ ?_
 refine zc d.never d.calm (aX 4) ?_ ?_ ?_ ?_ ?_
 exact cO l_4
 exact g_range
 exact T.kv
 refine ae ?_ ?_
 refine eK ?_ ?_ ?_
 exact g_len
 exact T.gj
 refine ai ?_
 exact aa n_3
 exact ao
 refine ak ?_ ?_
 refine aV ?_ ?_
 exact l_5
 refine cN Q_row hr ?s1 ?_ ?_
 case s1=>decide
 exact aa n_1
 refine ae ?_ ?_
 refine d6 ?_ ?_
 refine aA T.jk rfl ?_
 exact aa n_1
 exact aa n_4
 exact ao
 refine ar ?_
 refine bE ?_ ?_ ?_
 refine PDW.pt ?_
 refine jJ ?_ ?_
 refine kg ?_
 refine kf ?_
 refine iZ .str ?_ ?_ ?_ ?_ ?_
 exact g_isinstance
 exact T.fm
 exact g_str
 exact T.A4
 refine ai ?_
 exact aa n_5
 refine iB ?_
 refine n5 hr ?_ ?_
 refine ai ?_
 exact aa n_5
 refine ai ?_
 refine d5 ?_ ?_
 refine ai ?_
 exact aa n_3
 refine d6 ?_ ?_
 refine d6 ?_ ?_
 refine eK ?_ ?_ ?_
 exact g_len
 exact T.gj
 refine ai ?_
 exact aa n_3
 exact aq
 exact aa n_4
 refine ar ?_
 exact aE nQ
 exact aS
 refine ak ?_ ?_
 refine aV ?_ ?_
 exact l_6
 refine fM ?_ ?_
 refine bW G_law_cell_at hr ?s1 ?_ ?_
 case s1=>decide
 exact g_law_cell_at
 refine ae ?_ ?_
 exact aa n_0
 refine ae ?_ ?_
 exact aq
 exact ao
 refine Ed ?_ ?_
 exact aq
 exact aq
 refine ak ?_ ?_
 refine lZ d.never d.calm (aX 4) ?_ ?_ ?_
 exact cO l_4
 refine cm ?_
 refine fX ?_
 refine ae ?_ ?_
 refine aJ ?_ ?_
 refine ai ?_
 refine aA T.jk rfl ?_
 exact aa n_1
 exact ai aq
 refine ae ?_ ?_
 refine d6 ?_ ?_
 refine jH ?_
 refine aA T.j4 rfl ?_
 exact aa n_1
 exact aq
 refine ae ?_ ?_
 refine aJ ?_ ?_
 refine ai ?_
 refine aJ ?_ ?_
 refine ai ?_
 refine aA T.jk rfl ?_
 exact aa n_1
 exact ai aq
 refine ai ?_
 exact aa n_6
 refine ae ?_ ?_
 refine d6 ?_ ?_
 refine d6 ?_ ?_
 refine jH ?_
 refine aA T.j4 rfl ?_
 exact aa n_1
 exact aq
 exact aa n_6
 exact ao
 refine ar ?_
 refine bE ?_ ?_ ?_
 refine n5 hr ?_ ?_
 refine ai ?_
 refine cN Q_row hr ?s1 ?_ ?_
 case s1=>decide
 exact aa n_1
 refine ae ?_ ?_
 exact aa n_4
 exact ao
 refine ai ?_
 refine eO ?_ ?_
 refine ai ?_
 exact ba (by w_left)
 refine aA T.iT rfl ?_
 exact aa n_1
 refine ar ?_
 exact aE nQ
 exact aS
 refine ak ?_ ?_
 refine aV ?_ ?_
 exact l_7
 refine fG M_Word hr ?s1 ?_ ?_
 case s1=>decide
 exact g_Word
 refine ae ?_ ?_
 refine aJ ?_ ?_
 refine ai ?_
 exact ba (by w_left)
 refine ai ?_
 refine bW G_law_sign hr ?s1 ?_ ?_
 case s1=>decide
 exact g_law_sign
 refine ae ?_ ?_
 exact aa n_6
 exact ao
 exact ao
 refine ak ?_ ?_
 refine bE ?_ ?_ ?_
 refine PDW.pt ?_
 refine jJ ?_ ?_
 refine n5 hr ?_ ?_
 refine ai ?_
 refine cm ?_
 refine m9 Q_rows hr ?s1 ?_
 case s1=>decide
 exact aa n_7
 refine ai ?_
 refine cm ?_
 refine fX ?_
 refine ae ?_ ?_
 refine aJ ?_ ?_
 refine ai ?_
 exact ba (by w_left)
 refine ai ?_
 refine bW G_law_sign hr ?s1 ?_ ?_
 case s1=>decide
 exact g_law_sign
 refine ae ?_ ?_
 exact aa n_6
 exact ao
 exact ao
 refine iB ?_
 refine n5 hr ?_ ?_
 exact rF n_2
 refine ai ?_
 exact aa n_3
 refine ar ?_
 exact aE nQ
 exact aS
 refine ak ?_ ?_
 exact xH n_2
 refine ar ?_
 refine aE ?_
 refine zb ?_ ?_
 refine GI hr ?_ ?_
 refine ai ?_
 refine cm ?_
 refine m9 Q_rows hr ?s1 ?_
 case s1=>decide
 exact aa n_1
 refine ai ?_
 exact aa n_3
 refine za ?_
 refine bW G_law_sized hr ?s1 ?_ ?_
 case s1=>decide
 exact g_law_sized
 refine ae ?_ ?_
 exact aa n_1
 exact ao
end
end
theorem all_mk {l:PySem.W.OpenLaw}{w:World}{K:Frag}{h:Heap}{mg:Str→Option Value}{fa f3 f4 f20 f21 f23 f24 f25 f26 f27 f28 f29 f31 f37 f38 f39 f40 f41 f42 f43 f44 C0 C1 C2 C3 C4 C5 C6 C7 C8 m_Sketch_row_within m_Word_row_within m_Marked_raised_low m_Marked_lowered_low m_Sketch_row m_Chain_row_within m_Over_row_within m_Root_row_within m_Led_row_within m_Marked_row_within m_Marked_mark_row m_Held_row_within m_Grid_row_within m_Grid_band_row m_Sketch_rows m_Sketch_init m_Word_init m_Chain_init m_Grid_init m_Over_init m_Root_init m_Led_init m_Marked_init m_Held_init:Addr}(X:K.In h)(G:h.Ns mainGlobals mg)(hfa:mg "law"=some (.ref fa))
  (aC0:nsIn K mainGlobals "Sketch"=some (some (.ref C0)))
  (aC1:nsIn K mainGlobals "Word"=some (some (.ref C1)))
  (aC2:nsIn K mainGlobals "Chain"=some (some (.ref C2)))
  (aC3:nsIn K mainGlobals "Over"=some (some (.ref C3)))
  (aC4:nsIn K mainGlobals "Root"=some (some (.ref C4)))
  (aC5:nsIn K mainGlobals "Led"=some (some (.ref C5)))
  (aC6:nsIn K mainGlobals "Marked"=some (some (.ref C6)))
  (aC7:nsIn K mainGlobals "Held"=some (some (.ref C7)))
  (aC8:nsIn K mainGlobals "Grid"=some (some (.ref C8)))
  {oc1 kV1 dc1 pm1 cd1 ct1:Value} {od1 an1:Option Addr} {sl1:Array (Option Value)}
  (a1:findIn K (.ref C0) "row_within"=some (some (.ref m_Sketch_row_within)))
  (i_Sketch_row_within:isFn K (.ref m_Sketch_row_within)=true)
  (k_Sketch_row_within:keepIn K (.ref m_Sketch_row_within)=true)
  (l1:K.lookup m_Sketch_row_within=some ⟨oc1,od1,.func (fnOf "row_within" "Sketch.row_within" (aI bo) (aw bo) (ag bo) .none kV1 dc1 pm1 an1 cd1 ct1),sl1⟩)
  (c1:codeIn K cd1 "Sketch.row_within"=true)
  {oc2 kV2 dc2 pm2 cd2 ct2:Value} {od2 an2:Option Addr} {sl2:Array (Option Value)}
  (a2:findIn K (.ref C1) "row_within"=some (some (.ref m_Word_row_within)))
  (i_Word_row_within:isFn K (.ref m_Word_row_within)=true)
  (k_Word_row_within:keepIn K (.ref m_Word_row_within)=true)
  (l2:K.lookup m_Word_row_within=some ⟨oc2,od2,.func (fnOf "row_within" "Word.row_within" (aI bH) (aw bH) (ag bH) .none kV2 dc2 pm2 an2 cd2 ct2),sl2⟩)
  (c2:codeIn K cd2 "Word.row_within"=true)
  {oc3 kV3 dc3 pm3 cd3 ct3:Value} {od3 an3:Option Addr} {sl3:Array (Option Value)}
  (a3:nsIn K mainGlobals "left_of"=some (some (.ref f3)))
  (l3:K.lookup f3=some ⟨oc3,od3,.func (fnOf "left_of" "left_of" (aI fT) (aw fT) (ag fT) .none kV3 dc3 pm3 an3 cd3 ct3),sl3⟩)
  (c3:codeIn K cd3 "left_of"=true)
  (k3:keepIn K (.ref f3)=true)
  {oc4 kV4 dc4 pm4 cd4 ct4:Value} {od4 an4:Option Addr} {sl4:Array (Option Value)}
  (a4:nsIn K mainGlobals "amid"=some (some (.ref f4)))
  (l4:K.lookup f4=some ⟨oc4,od4,.func (fnOf "amid" "amid" (aI jT) (aw jT) (ag jT) .none kV4 dc4 pm4 an4 cd4 ct4),sl4⟩)
  (c4:codeIn K cd4 "amid"=true)
  (k4:keepIn K (.ref f4)=true)
  {oc5 kV5 dc5 pm5 cd5 ct5:Value} {od5 an5:Option Addr} {sl5:Array (Option Value)}
  (a5:findIn K (.ref C6) "raised_low"=some (some (.ref m_Marked_raised_low)))
  (i_Marked_raised_low:isFn K (.ref m_Marked_raised_low)=true)
  (k_Marked_raised_low:keepIn K (.ref m_Marked_raised_low)=true)
  (l5:K.lookup m_Marked_raised_low=some ⟨oc5,od5,.func (fnOf "raised_low" "Marked.raised_low" (aI bp) (aw bp) (ag bp) .none kV5 dc5 pm5 an5 cd5 ct5),sl5⟩)
  (c5:codeIn K cd5 "Marked.raised_low"=true)
  {oc6 kV6 dc6 pm6 cd6 ct6:Value} {od6 an6:Option Addr} {sl6:Array (Option Value)}
  (a6:findIn K (.ref C6) "lowered_low"=some (some (.ref m_Marked_lowered_low)))
  (i_Marked_lowered_low:isFn K (.ref m_Marked_lowered_low)=true)
  (k_Marked_lowered_low:keepIn K (.ref m_Marked_lowered_low)=true)
  (l6:K.lookup m_Marked_lowered_low=some ⟨oc6,od6,.func (fnOf "lowered_low" "Marked.lowered_low" (aI bh) (aw bh) (ag bh) .none kV6 dc6 pm6 an6 cd6 ct6),sl6⟩)
  (c6:codeIn K cd6 "Marked.lowered_low"=true)
  {oc7 kV7 dc7 pm7 cd7 ct7:Value} {od7 an7:Option Addr} {sl7:Array (Option Value)}
  (a7:findIn K (.ref C0) "row"=some (some (.ref m_Sketch_row)))
  (i_Sketch_row:isFn K (.ref m_Sketch_row)=true)
  (k_Sketch_row:keepIn K (.ref m_Sketch_row)=true)
  (l7:K.lookup m_Sketch_row=some ⟨oc7,od7,.func (fnOf "row" "Sketch.row" (aI du) (aw du) (ag du) .none kV7 dc7 pm7 an7 cd7 ct7),sl7⟩)
  (c7:codeIn K cd7 "Sketch.row"=true)
  {oc8 kV8 dc8 pm8 cd8 ct8:Value} {od8 an8:Option Addr} {sl8:Array (Option Value)}
  (a8:findIn K (.ref C2) "row_within"=some (some (.ref m_Chain_row_within)))
  (i_Chain_row_within:isFn K (.ref m_Chain_row_within)=true)
  (k_Chain_row_within:keepIn K (.ref m_Chain_row_within)=true)
  (l8:K.lookup m_Chain_row_within=some ⟨oc8,od8,.func (fnOf "row_within" "Chain.row_within" (aI bB) (aw bB) (ag bB) .none kV8 dc8 pm8 an8 cd8 ct8),sl8⟩)
  (c8:codeIn K cd8 "Chain.row_within"=true)
  {oc9 kV9 dc9 pm9 cd9 ct9:Value} {od9 an9:Option Addr} {sl9:Array (Option Value)}
  (a9:findIn K (.ref C3) "row_within"=some (some (.ref m_Over_row_within)))
  (i_Over_row_within:isFn K (.ref m_Over_row_within)=true)
  (k_Over_row_within:keepIn K (.ref m_Over_row_within)=true)
  (l9:K.lookup m_Over_row_within=some ⟨oc9,od9,.func (fnOf "row_within" "Over.row_within" (aI bI) (aw bI) (ag bI) .none kV9 dc9 pm9 an9 cd9 ct9),sl9⟩)
  (c9:codeIn K cd9 "Over.row_within"=true)
  {oc10 kV10 dc10 pm10 cd10 ct10:Value} {od10 an10:Option Addr} {sl10:Array (Option Value)}
  (a10:findIn K (.ref C4) "row_within"=some (some (.ref m_Root_row_within)))
  (i_Root_row_within:isFn K (.ref m_Root_row_within)=true)
  (k_Root_row_within:keepIn K (.ref m_Root_row_within)=true)
  (l10:K.lookup m_Root_row_within=some ⟨oc10,od10,.func (fnOf "row_within" "Root.row_within" (aI bJ) (aw bJ) (ag bJ) .none kV10 dc10 pm10 an10 cd10 ct10),sl10⟩)
  (c10:codeIn K cd10 "Root.row_within"=true)
  {oc11 kV11 dc11 pm11 cd11 ct11:Value} {od11 an11:Option Addr} {sl11:Array (Option Value)}
  (a11:findIn K (.ref C5) "row_within"=some (some (.ref m_Led_row_within)))
  (i_Led_row_within:isFn K (.ref m_Led_row_within)=true)
  (k_Led_row_within:keepIn K (.ref m_Led_row_within)=true)
  (l11:K.lookup m_Led_row_within=some ⟨oc11,od11,.func (fnOf "row_within" "Led.row_within" (aI bR) (aw bR) (ag bR) .none kV11 dc11 pm11 an11 cd11 ct11),sl11⟩)
  (c11:codeIn K cd11 "Led.row_within"=true)
  {oc12 kV12 dc12 pm12 cd12 ct12:Value} {od12 an12:Option Addr} {sl12:Array (Option Value)}
  (a12:findIn K (.ref C6) "row_within"=some (some (.ref m_Marked_row_within)))
  (i_Marked_row_within:isFn K (.ref m_Marked_row_within)=true)
  (k_Marked_row_within:keepIn K (.ref m_Marked_row_within)=true)
  (l12:K.lookup m_Marked_row_within=some ⟨oc12,od12,.func (fnOf "row_within" "Marked.row_within" (aI bq) (aw bq) (ag bq) .none kV12 dc12 pm12 an12 cd12 ct12),sl12⟩)
  (c12:codeIn K cd12 "Marked.row_within"=true)
  {oc13 kV13 dc13 pm13 cd13 ct13:Value} {od13 an13:Option Addr} {sl13:Array (Option Value)}
  (a13:findIn K (.ref C6) "mark_row"=some (some (.ref m_Marked_mark_row)))
  (i_Marked_mark_row:isFn K (.ref m_Marked_mark_row)=true)
  (k_Marked_mark_row:keepIn K (.ref m_Marked_mark_row)=true)
  (l13:K.lookup m_Marked_mark_row=some ⟨oc13,od13,.func (fnOf "mark_row" "Marked.mark_row" (aI bK) (aw bK) (ag bK) .none kV13 dc13 pm13 an13 cd13 ct13),sl13⟩)
  (c13:codeIn K cd13 "Marked.mark_row"=true)
  {oc14 kV14 dc14 pm14 cd14 ct14:Value} {od14 an14:Option Addr} {sl14:Array (Option Value)}
  (a14:findIn K (.ref C7) "row_within"=some (some (.ref m_Held_row_within)))
  (i_Held_row_within:isFn K (.ref m_Held_row_within)=true)
  (k_Held_row_within:keepIn K (.ref m_Held_row_within)=true)
  (l14:K.lookup m_Held_row_within=some ⟨oc14,od14,.func (fnOf "row_within" "Held.row_within" (aI bL) (aw bL) (ag bL) .none kV14 dc14 pm14 an14 cd14 ct14),sl14⟩)
  (c14:codeIn K cd14 "Held.row_within"=true)
  {oc15 kV15 dc15 pm15 cd15 ct15:Value} {od15 an15:Option Addr} {sl15:Array (Option Value)}
  (a15:findIn K (.ref C8) "row_within"=some (some (.ref m_Grid_row_within)))
  (i_Grid_row_within:isFn K (.ref m_Grid_row_within)=true)
  (k_Grid_row_within:keepIn K (.ref m_Grid_row_within)=true)
  (l15:K.lookup m_Grid_row_within=some ⟨oc15,od15,.func (fnOf "row_within" "Grid.row_within" (aI bM) (aw bM) (ag bM) .none kV15 dc15 pm15 an15 cd15 ct15),sl15⟩)
  (c15:codeIn K cd15 "Grid.row_within"=true)
  {oc16 kV16 dc16 pm16 cd16 ct16:Value} {od16 an16:Option Addr} {sl16:Array (Option Value)}
  (a16:findIn K (.ref C8) "band_row"=some (some (.ref m_Grid_band_row)))
  (i_Grid_band_row:isFn K (.ref m_Grid_band_row)=true)
  (k_Grid_band_row:keepIn K (.ref m_Grid_band_row)=true)
  (l16:K.lookup m_Grid_band_row=some ⟨oc16,od16,.func (fnOf "band_row" "Grid.band_row" (aI cg) (aw cg) (ag cg) .none kV16 dc16 pm16 an16 cd16 ct16),sl16⟩)
  (c16:codeIn K cd16 "Grid.band_row"=true)
  {oc17 kV17 dc17 pm17 cd17 ct17:Value} {od17 an17:Option Addr} {sl17:Array (Option Value)}
  (a17:findIn K (.ref C0) "rows"=some (some (.ref m_Sketch_rows)))
  (i_Sketch_rows:isFn K (.ref m_Sketch_rows)=true)
  (k_Sketch_rows:keepIn K (.ref m_Sketch_rows)=true)
  (l17:K.lookup m_Sketch_rows=some ⟨oc17,od17,.func (fnOf "rows" "Sketch.rows" (aI cR) (aw cR) (ag cR) .none kV17 dc17 pm17 an17 cd17 ct17),sl17⟩)
  (c17:codeIn K cd17 "Sketch.rows"=true)
  {oc18 kV18 dc18 pm18 cd18 ct18:Value} {od18 an18:Option Addr} {sl18:Array (Option Value)}
  (a18:findIn K (.ref C0) "__init__"=some (some (.ref m_Sketch_init)))
  (i_Sketch_init:isFn K (.ref m_Sketch_init)=true)
  (k_Sketch_init:keepIn K (.ref m_Sketch_init)=true)
  (l18:K.lookup m_Sketch_init=some ⟨oc18,od18,.func (fnOf "__init__" "Sketch.__init__" (aI cS) (aw cS) (ag cS) .none kV18 dc18 pm18 an18 cd18 ct18),sl18⟩)
  (c18:codeIn K cd18 "Sketch.__init__"=true)
  {oc19 kV19 dc19 pm19 cd19 ct19:Value} {od19 an19:Option Addr} {sl19:Array (Option Value)}
  (a19:findIn K (.ref C1) "__init__"=some (some (.ref m_Word_init)))
  (i_Word_init:isFn K (.ref m_Word_init)=true)
  (k_Word_init:keepIn K (.ref m_Word_init)=true)
  (l19:K.lookup m_Word_init=some ⟨oc19,od19,.func (fnOf "__init__" "Word.__init__" (aI dX) (aw dX) (ag dX) .none kV19 dc19 pm19 an19 cd19 ct19),sl19⟩)
  (c19:codeIn K cd19 "Word.__init__"=true)
  {oc20 kV20 dc20 pm20 cd20 ct20:Value} {od20 an20:Option Addr} {sl20:Array (Option Value)}
  (a20:nsIn K mainGlobals "_law_sign"=some (some (.ref f20)))
  (l20:K.lookup f20=some ⟨oc20,od20,.func (fnOf "_law_sign" "_law_sign" (aI eS) (aw eS) (ag eS) .none kV20 dc20 pm20 an20 cd20 ct20),sl20⟩)
  (c20:codeIn K cd20 "_law_sign"=true)
  (k20:keepIn K (.ref f20)=true)
  {oc21 kV21 dc21 pm21 cd21 ct21:Value} {od21 an21:Option Addr} {sl21:Array (Option Value)}
  (a21:nsIn K mainGlobals "_law_signs"=some (some (.ref f21)))
  (l21:K.lookup f21=some ⟨oc21,od21,.func (fnOf "_law_signs" "_law_signs" (aI dY) (aw dY) (ag dY) .none kV21 dc21 pm21 an21 cd21 ct21),sl21⟩)
  (c21:codeIn K cd21 "_law_signs"=true)
  (k21:keepIn K (.ref f21)=true)
  {oc22 kV22 dc22 pm22 cd22 ct22:Value} {od22 an22:Option Addr} {sl22:Array (Option Value)}
  (a22:findIn K (.ref C2) "__init__"=some (some (.ref m_Chain_init)))
  (i_Chain_init:isFn K (.ref m_Chain_init)=true)
  (k_Chain_init:keepIn K (.ref m_Chain_init)=true)
  (l22:K.lookup m_Chain_init=some ⟨oc22,od22,.func (fnOf "__init__" "Chain.__init__" (aI dw) (aw dw) (ag dw) .none kV22 dc22 pm22 an22 cd22 ct22),sl22⟩)
  (c22:codeIn K cd22 "Chain.__init__"=true)
  {oc23 kV23 dc23 pm23 cd23 ct23:Value} {od23 an23:Option Addr} {sl23:Array (Option Value)}
  (a23:nsIn K mainGlobals "_law_chained"=some (some (.ref f23)))
  (l23:K.lookup f23=some ⟨oc23,od23,.func (fnOf "_law_chained" "_law_chained" (aI cT) (aw cT) (ag cT) .none kV23 dc23 pm23 an23 cd23 ct23),sl23⟩)
  (c23:codeIn K cd23 "_law_chained"=true)
  (k23:keepIn K (.ref f23)=true)
  {oc24 kV24 dc24 pm24 cd24 ct24:Value} {od24 an24:Option Addr} {sl24:Array (Option Value)}
  (a24:nsIn K mainGlobals "_law_many"=some (some (.ref f24)))
  (l24:K.lookup f24=some ⟨oc24,od24,.func (fnOf "_law_many" "_law_many" (aI eU) (aw eU) (ag eU) .none kV24 dc24 pm24 an24 cd24 ct24),sl24⟩)
  (c24:codeIn K cd24 "_law_many"=true)
  (k24:keepIn K (.ref f24)=true)
  {oc25 kV25 dc25 pm25 cd25 ct25:Value} {od25 an25:Option Addr} {sl25:Array (Option Value)}
  (a25:nsIn K mainGlobals "column_widths"=some (some (.ref f25)))
  (l25:K.lookup f25=some ⟨oc25,od25,.func (fnOf "column_widths" "column_widths" (aI cj) (aw cj) (ag cj) .none kV25 dc25 pm25 an25 cd25 ct25),sl25⟩)
  (c25:codeIn K cd25 "column_widths"=true)
  (k25:keepIn K (.ref f25)=true)
  {oc26 kV26 dc26 pm26 cd26 ct26:Value} {od26 an26:Option Addr} {sl26:Array (Option Value)}
  (a26:nsIn K mainGlobals "greatest_up"=some (some (.ref f26)))
  (l26:K.lookup f26=some ⟨oc26,od26,.func (fnOf "greatest_up" "greatest_up" (aI cU) (aw cU) (ag cU) .none kV26 dc26 pm26 an26 cd26 ct26),sl26⟩)
  (c26:codeIn K cd26 "greatest_up"=true)
  (k26:keepIn K (.ref f26)=true)
  {oc27 kV27 dc27 pm27 cd27 ct27:Value} {od27 an27:Option Addr} {sl27:Array (Option Value)}
  (a27:nsIn K mainGlobals "band_height"=some (some (.ref f27)))
  (l27:K.lookup f27=some ⟨oc27,od27,.func (fnOf "band_height" "band_height" (aI cV) (aw cV) (ag cV) .none kV27 dc27 pm27 an27 cd27 ct27),sl27⟩)
  (c27:codeIn K cd27 "band_height"=true)
  (k27:keepIn K (.ref f27)=true)
  {oc28 kV28 dc28 pm28 cd28 ct28:Value} {od28 an28:Option Addr} {sl28:Array (Option Value)}
  (a28:nsIn K mainGlobals "numbers_by_row"=some (some (.ref f28)))
  (l28:K.lookup f28=some ⟨oc28,od28,.func (fnOf "numbers_by_row" "numbers_by_row" (aI bS) (aw bS) (ag bS) .none kV28 dc28 pm28 an28 cd28 ct28),sl28⟩)
  (c28:codeIn K cd28 "numbers_by_row"=true)
  (k28:keepIn K (.ref f28)=true)
  {oc29 kV29 dc29 pm29 cd29 ct29:Value} {od29 an29:Option Addr} {sl29:Array (Option Value)}
  (a29:nsIn K mainGlobals "band_lows"=some (some (.ref f29)))
  (l29:K.lookup f29=some ⟨oc29,od29,.func (fnOf "band_lows" "band_lows" (aI dZ) (aw dZ) (ag dZ) .none kV29 dc29 pm29 an29 cd29 ct29),sl29⟩)
  (c29:codeIn K cd29 "band_lows"=true)
  (k29:keepIn K (.ref f29)=true)
  {oc30 kV30 dc30 pm30 cd30 ct30:Value} {od30 an30:Option Addr} {sl30:Array (Option Value)}
  (a30:findIn K (.ref C8) "__init__"=some (some (.ref m_Grid_init)))
  (i_Grid_init:isFn K (.ref m_Grid_init)=true)
  (k_Grid_init:keepIn K (.ref m_Grid_init)=true)
  (l30:K.lookup m_Grid_init=some ⟨oc30,od30,.func (fnOf "__init__" "Grid.__init__" (aI ed) (aw ed) (ag ed) .none kV30 dc30 pm30 an30 cd30 ct30),sl30⟩)
  (c30:codeIn K cd30 "Grid.__init__"=true)
  {oc31 kV31 dc31 pm31 cd31 ct31:Value} {od31 an31:Option Addr} {sl31:Array (Option Value)}
  (a31:nsIn K mainGlobals "height_of"=some (some (.ref f31)))
  (l31:K.lookup f31=some ⟨oc31,od31,.func (fnOf "height_of" "height_of" (aI ef) (aw ef) (ag ef) .none kV31 dc31 pm31 an31 cd31 ct31),sl31⟩)
  (c31:codeIn K cd31 "height_of"=true)
  (k31:keepIn K (.ref f31)=true)
  {oc32 kV32 dc32 pm32 cd32 ct32:Value} {od32 an32:Option Addr} {sl32:Array (Option Value)}
  (a32:findIn K (.ref C3) "__init__"=some (some (.ref m_Over_init)))
  (i_Over_init:isFn K (.ref m_Over_init)=true)
  (k_Over_init:keepIn K (.ref m_Over_init)=true)
  (l32:K.lookup m_Over_init=some ⟨oc32,od32,.func (fnOf "__init__" "Over.__init__" (aI eg) (aw eg) (ag eg) .none kV32 dc32 pm32 an32 cd32 ct32),sl32⟩)
  (c32:codeIn K cd32 "Over.__init__"=true)
  {oc33 kV33 dc33 pm33 cd33 ct33:Value} {od33 an33:Option Addr} {sl33:Array (Option Value)}
  (a33:findIn K (.ref C4) "__init__"=some (some (.ref m_Root_init)))
  (i_Root_init:isFn K (.ref m_Root_init)=true)
  (k_Root_init:keepIn K (.ref m_Root_init)=true)
  (l33:K.lookup m_Root_init=some ⟨oc33,od33,.func (fnOf "__init__" "Root.__init__" (aI eh) (aw eh) (ag eh) .none kV33 dc33 pm33 an33 cd33 ct33),sl33⟩)
  (c33:codeIn K cd33 "Root.__init__"=true)
  {oc34 kV34 dc34 pm34 cd34 ct34:Value} {od34 an34:Option Addr} {sl34:Array (Option Value)}
  (a34:findIn K (.ref C5) "__init__"=some (some (.ref m_Led_init)))
  (i_Led_init:isFn K (.ref m_Led_init)=true)
  (k_Led_init:keepIn K (.ref m_Led_init)=true)
  (l34:K.lookup m_Led_init=some ⟨oc34,od34,.func (fnOf "__init__" "Led.__init__" (aI eV) (aw eV) (ag eV) .none kV34 dc34 pm34 an34 cd34 ct34),sl34⟩)
  (c34:codeIn K cd34 "Led.__init__"=true)
  {oc35 kV35 dc35 pm35 cd35 ct35:Value} {od35 an35:Option Addr} {sl35:Array (Option Value)}
  (a35:findIn K (.ref C6) "__init__"=some (some (.ref m_Marked_init)))
  (i_Marked_init:isFn K (.ref m_Marked_init)=true)
  (k_Marked_init:keepIn K (.ref m_Marked_init)=true)
  (l35:K.lookup m_Marked_init=some ⟨oc35,od35,.func (fnOf "__init__" "Marked.__init__" (aI cW) (aw cW) (ag cW) .none kV35 dc35 pm35 an35 cd35 ct35),sl35⟩)
  (c35:codeIn K cd35 "Marked.__init__"=true)
  {oc36 kV36 dc36 pm36 cd36 ct36:Value} {od36 an36:Option Addr} {sl36:Array (Option Value)}
  (a36:findIn K (.ref C7) "__init__"=some (some (.ref m_Held_init)))
  (i_Held_init:isFn K (.ref m_Held_init)=true)
  (k_Held_init:keepIn K (.ref m_Held_init)=true)
  (l36:K.lookup m_Held_init=some ⟨oc36,od36,.func (fnOf "__init__" "Held.__init__" (aI el) (aw el) (ag el) .none kV36 dc36 pm36 an36 cd36 ct36),sl36⟩)
  (c36:codeIn K cd36 "Held.__init__"=true)
  {oc37 kV37 dc37 pm37 cd37 ct37:Value} {od37 an37:Option Addr} {sl37:Array (Option Value)}
  (a37:nsIn K mainGlobals "_law_made"=some (some (.ref f37)))
  (l37:K.lookup f37=some ⟨oc37,od37,.func (fnOf "_law_made" "_law_made" (aI eW) (aw eW) (ag eW) .none kV37 dc37 pm37 an37 cd37 ct37),sl37⟩)
  (c37:codeIn K cd37 "_law_made"=true)
  (k37:keepIn K (.ref f37)=true)
  {oc38 kV38 dc38 pm38 cd38 ct38:Value} {od38 an38:Option Addr} {sl38:Array (Option Value)}
  (a38:nsIn K mainGlobals "_law_leaf"=some (some (.ref f38)))
  (l38:K.lookup f38=some ⟨oc38,od38,.func (fnOf "_law_leaf" "_law_leaf" (aI eX) (aw eX) (ag eX) .none kV38 dc38 pm38 an38 cd38 ct38),sl38⟩)
  (c38:codeIn K cd38 "_law_leaf"=true)
  (k38:keepIn K (.ref f38)=true)
  {oc39 kV39 dc39 pm39 cd39 ct39:Value} {od39 an39:Option Addr} {sl39:Array (Option Value)}
  (a39:nsIn K mainGlobals "_law_step"=some (some (.ref f39)))
  (l39:K.lookup f39=some ⟨oc39,od39,.func (fnOf "_law_step" "_law_step" (aI eY) (aw eY) (ag eY) .none kV39 dc39 pm39 an39 cd39 ct39),sl39⟩)
  (c39:codeIn K cd39 "_law_step"=true)
  (k39:keepIn K (.ref f39)=true)
  {oc40 kV40 dc40 pm40 cd40 ct40:Value} {od40 an40:Option Addr} {sl40:Array (Option Value)}
  (a40:nsIn K mainGlobals "_law_nest"=some (some (.ref f40)))
  (l40:K.lookup f40=some ⟨oc40,od40,.func (fnOf "_law_nest" "_law_nest" (aI eZ) (aw eZ) (ag eZ) .none kV40 dc40 pm40 an40 cd40 ct40),sl40⟩)
  (c40:codeIn K cd40 "_law_nest"=true)
  (k40:keepIn K (.ref f40)=true)
  {oc41 kV41 dc41 pm41 cd41 ct41:Value} {od41 an41:Option Addr} {sl41:Array (Option Value)}
  (a41:nsIn K mainGlobals "_law_cell_at"=some (some (.ref f41)))
  (l41:K.lookup f41=some ⟨oc41,od41,.func (fnOf "_law_cell_at" "_law_cell_at" (aI cX) (aw cX) (ag cX) .none kV41 dc41 pm41 an41 cd41 ct41),sl41⟩)
  (c41:codeIn K cd41 "_law_cell_at"=true)
  (k41:keepIn K (.ref f41)=true)
  {oc42 kV42 dc42 pm42 cd42 ct42:Value} {od42 an42:Option Addr} {sl42:Array (Option Value)}
  (a42:nsIn K mainGlobals "_law_whole"=some (some (.ref f42)))
  (l42:K.lookup f42=some ⟨oc42,od42,.func (fnOf "_law_whole" "_law_whole" (aI en) (aw en) (ag en) .none kV42 dc42 pm42 an42 cd42 ct42),sl42⟩)
  (c42:codeIn K cd42 "_law_whole"=true)
  (k42:keepIn K (.ref f42)=true)
  {oc43 kV43 dc43 pm43 cd43 ct43:Value} {od43 an43:Option Addr} {sl43:Array (Option Value)}
  (a43:nsIn K mainGlobals "_law_sized"=some (some (.ref f43)))
  (l43:K.lookup f43=some ⟨oc43,od43,.func (fnOf "_law_sized" "_law_sized" (aI eo) (aw eo) (ag eo) .none kV43 dc43 pm43 an43 cd43 ct43),sl43⟩)
  (c43:codeIn K cd43 "_law_sized"=true)
  (k43:keepIn K (.ref f43)=true)
  {oc44 kV44 dc44 pm44 cd44 ct44:Value} {od44 an44:Option Addr} {sl44:Array (Option Value)}
  (a44:nsIn K mainGlobals "law"=some (some (.ref f44)))
  (l44:K.lookup f44=some ⟨oc44,od44,.func (fnOf "law" "law" (aI jU) (aw jU) (ag jU) .none kV44 dc44 pm44 an44 cd44 ct44),sl44⟩)
  (c44:codeIn K cd44 "law"=true)
  (k44:keepIn K (.ref f44)=true)
  (z1:nsIn K mainGlobals "len"=some none)
  (z2:nsIn K mainGlobals "zip"=some none)
  (z3:nsIn K mainGlobals "range"=some none)
  (z4:nsIn K mainGlobals "sum"=some none)
  (z5:nsIn K mainGlobals "max"=some none)
  (z6:nsIn K mainGlobals "list"=some none)
  (z7:nsIn K mainGlobals "enumerate"=some none)
  (z8:nsIn K mainGlobals "str"=some none)
  (z9:nsIn K mainGlobals "isinstance"=some none)
  (z10:nsIn K mainGlobals "int"=some none)
  (z11:nsIn K mainGlobals "bool"=some none)
  {u1:Value}
  (ua1:nsIn K mainGlobals "BLANK"=some (some u1))
  (ue1:cOk aW u1=true)
  (pg0:plainGet K C0 Str.empty=true)
  (hd0:hasDictIn K C0=true)
  (po0:plainOver K C0=true)
  (sa0:findIn K (.ref C0) "__setattr__"=some (some (.builtin "object.__setattr__")))
  (fm0_row:findIn K (.ref C0) "row"=some (some (.ref m_Sketch_row)))
  (fm0_row_within:findIn K (.ref C0) "row_within"=some (some (.ref m_Sketch_row_within)))
  (fm0_rows:findIn K (.ref C0) "rows"=some (some (.ref m_Sketch_rows)))
  (nf0_0:findIn K (.ref C0) "wide"=some none)
  (nf0_1:findIn K (.ref C0) "up"=some none)
  (nf0_2:findIn K (.ref C0) "down"=some none)
  (nf0_3:findIn K (.ref C0) "word"=some none)
  (nf0_4:findIn K (.ref C0) "parts"=some none)
  (nf0_5:findIn K (.ref C0) "signs"=some none)
  (nf0_6:findIn K (.ref C0) "above"=some none)
  (nf0_7:findIn K (.ref C0) "beneath"=some none)
  (nf0_8:findIn K (.ref C0) "inner"=some none)
  (nf0_9:findIn K (.ref C0) "sign"=some none)
  (nf0_10:findIn K (.ref C0) "item"=some none)
  (nf0_11:findIn K (.ref C0) "raised"=some none)
  (nf0_12:findIn K (.ref C0) "lowered"=some none)
  (nf0_13:findIn K (.ref C0) "bands"=some none)
  (nf0_14:findIn K (.ref C0) "widths"=some none)
  (nf0_15:findIn K (.ref C0) "band_numbers"=some none)
  (nf0_16:findIn K (.ref C0) "lows"=some none)
  (pg1:plainGet K C1 Str.empty=true)
  (hd1:hasDictIn K C1=true)
  (po1:plainOver K C1=true)
  (sa1:findIn K (.ref C1) "__setattr__"=some (some (.builtin "object.__setattr__")))
  (fm1_row:findIn K (.ref C1) "row"=some (some (.ref m_Sketch_row)))
  (fm1_row_within:findIn K (.ref C1) "row_within"=some (some (.ref m_Word_row_within)))
  (fm1_rows:findIn K (.ref C1) "rows"=some (some (.ref m_Sketch_rows)))
  (nf1_0:findIn K (.ref C1) "wide"=some none)
  (nf1_1:findIn K (.ref C1) "up"=some none)
  (nf1_2:findIn K (.ref C1) "down"=some none)
  (nf1_3:findIn K (.ref C1) "word"=some none)
  (nf1_4:findIn K (.ref C1) "parts"=some none)
  (nf1_5:findIn K (.ref C1) "signs"=some none)
  (nf1_6:findIn K (.ref C1) "above"=some none)
  (nf1_7:findIn K (.ref C1) "beneath"=some none)
  (nf1_8:findIn K (.ref C1) "inner"=some none)
  (nf1_9:findIn K (.ref C1) "sign"=some none)
  (nf1_10:findIn K (.ref C1) "item"=some none)
  (nf1_11:findIn K (.ref C1) "raised"=some none)
  (nf1_12:findIn K (.ref C1) "lowered"=some none)
  (nf1_13:findIn K (.ref C1) "bands"=some none)
  (nf1_14:findIn K (.ref C1) "widths"=some none)
  (nf1_15:findIn K (.ref C1) "band_numbers"=some none)
  (nf1_16:findIn K (.ref C1) "lows"=some none)
  (pg2:plainGet K C2 Str.empty=true)
  (hd2:hasDictIn K C2=true)
  (po2:plainOver K C2=true)
  (sa2:findIn K (.ref C2) "__setattr__"=some (some (.builtin "object.__setattr__")))
  (fm2_row:findIn K (.ref C2) "row"=some (some (.ref m_Sketch_row)))
  (fm2_row_within:findIn K (.ref C2) "row_within"=some (some (.ref m_Chain_row_within)))
  (fm2_rows:findIn K (.ref C2) "rows"=some (some (.ref m_Sketch_rows)))
  (nf2_0:findIn K (.ref C2) "wide"=some none)
  (nf2_1:findIn K (.ref C2) "up"=some none)
  (nf2_2:findIn K (.ref C2) "down"=some none)
  (nf2_3:findIn K (.ref C2) "word"=some none)
  (nf2_4:findIn K (.ref C2) "parts"=some none)
  (nf2_5:findIn K (.ref C2) "signs"=some none)
  (nf2_6:findIn K (.ref C2) "above"=some none)
  (nf2_7:findIn K (.ref C2) "beneath"=some none)
  (nf2_8:findIn K (.ref C2) "inner"=some none)
  (nf2_9:findIn K (.ref C2) "sign"=some none)
  (nf2_10:findIn K (.ref C2) "item"=some none)
  (nf2_11:findIn K (.ref C2) "raised"=some none)
  (nf2_12:findIn K (.ref C2) "lowered"=some none)
  (nf2_13:findIn K (.ref C2) "bands"=some none)
  (nf2_14:findIn K (.ref C2) "widths"=some none)
  (nf2_15:findIn K (.ref C2) "band_numbers"=some none)
  (nf2_16:findIn K (.ref C2) "lows"=some none)
  (pg3:plainGet K C3 Str.empty=true)
  (hd3:hasDictIn K C3=true)
  (po3:plainOver K C3=true)
  (sa3:findIn K (.ref C3) "__setattr__"=some (some (.builtin "object.__setattr__")))
  (fm3_row:findIn K (.ref C3) "row"=some (some (.ref m_Sketch_row)))
  (fm3_row_within:findIn K (.ref C3) "row_within"=some (some (.ref m_Over_row_within)))
  (fm3_rows:findIn K (.ref C3) "rows"=some (some (.ref m_Sketch_rows)))
  (nf3_0:findIn K (.ref C3) "wide"=some none)
  (nf3_1:findIn K (.ref C3) "up"=some none)
  (nf3_2:findIn K (.ref C3) "down"=some none)
  (nf3_3:findIn K (.ref C3) "word"=some none)
  (nf3_4:findIn K (.ref C3) "parts"=some none)
  (nf3_5:findIn K (.ref C3) "signs"=some none)
  (nf3_6:findIn K (.ref C3) "above"=some none)
  (nf3_7:findIn K (.ref C3) "beneath"=some none)
  (nf3_8:findIn K (.ref C3) "inner"=some none)
  (nf3_9:findIn K (.ref C3) "sign"=some none)
  (nf3_10:findIn K (.ref C3) "item"=some none)
  (nf3_11:findIn K (.ref C3) "raised"=some none)
  (nf3_12:findIn K (.ref C3) "lowered"=some none)
  (nf3_13:findIn K (.ref C3) "bands"=some none)
  (nf3_14:findIn K (.ref C3) "widths"=some none)
  (nf3_15:findIn K (.ref C3) "band_numbers"=some none)
  (nf3_16:findIn K (.ref C3) "lows"=some none)
  (pg4:plainGet K C4 Str.empty=true)
  (hd4:hasDictIn K C4=true)
  (po4:plainOver K C4=true)
  (sa4:findIn K (.ref C4) "__setattr__"=some (some (.builtin "object.__setattr__")))
  (fm4_row:findIn K (.ref C4) "row"=some (some (.ref m_Sketch_row)))
  (fm4_row_within:findIn K (.ref C4) "row_within"=some (some (.ref m_Root_row_within)))
  (fm4_rows:findIn K (.ref C4) "rows"=some (some (.ref m_Sketch_rows)))
  (nf4_0:findIn K (.ref C4) "wide"=some none)
  (nf4_1:findIn K (.ref C4) "up"=some none)
  (nf4_2:findIn K (.ref C4) "down"=some none)
  (nf4_3:findIn K (.ref C4) "word"=some none)
  (nf4_4:findIn K (.ref C4) "parts"=some none)
  (nf4_5:findIn K (.ref C4) "signs"=some none)
  (nf4_6:findIn K (.ref C4) "above"=some none)
  (nf4_7:findIn K (.ref C4) "beneath"=some none)
  (nf4_8:findIn K (.ref C4) "inner"=some none)
  (nf4_9:findIn K (.ref C4) "sign"=some none)
  (nf4_10:findIn K (.ref C4) "item"=some none)
  (nf4_11:findIn K (.ref C4) "raised"=some none)
  (nf4_12:findIn K (.ref C4) "lowered"=some none)
  (nf4_13:findIn K (.ref C4) "bands"=some none)
  (nf4_14:findIn K (.ref C4) "widths"=some none)
  (nf4_15:findIn K (.ref C4) "band_numbers"=some none)
  (nf4_16:findIn K (.ref C4) "lows"=some none)
  (pg5:plainGet K C5 Str.empty=true)
  (hd5:hasDictIn K C5=true)
  (po5:plainOver K C5=true)
  (sa5:findIn K (.ref C5) "__setattr__"=some (some (.builtin "object.__setattr__")))
  (fm5_row:findIn K (.ref C5) "row"=some (some (.ref m_Sketch_row)))
  (fm5_row_within:findIn K (.ref C5) "row_within"=some (some (.ref m_Led_row_within)))
  (fm5_rows:findIn K (.ref C5) "rows"=some (some (.ref m_Sketch_rows)))
  (nf5_0:findIn K (.ref C5) "wide"=some none)
  (nf5_1:findIn K (.ref C5) "up"=some none)
  (nf5_2:findIn K (.ref C5) "down"=some none)
  (nf5_3:findIn K (.ref C5) "word"=some none)
  (nf5_4:findIn K (.ref C5) "parts"=some none)
  (nf5_5:findIn K (.ref C5) "signs"=some none)
  (nf5_6:findIn K (.ref C5) "above"=some none)
  (nf5_7:findIn K (.ref C5) "beneath"=some none)
  (nf5_8:findIn K (.ref C5) "inner"=some none)
  (nf5_9:findIn K (.ref C5) "sign"=some none)
  (nf5_10:findIn K (.ref C5) "item"=some none)
  (nf5_11:findIn K (.ref C5) "raised"=some none)
  (nf5_12:findIn K (.ref C5) "lowered"=some none)
  (nf5_13:findIn K (.ref C5) "bands"=some none)
  (nf5_14:findIn K (.ref C5) "widths"=some none)
  (nf5_15:findIn K (.ref C5) "band_numbers"=some none)
  (nf5_16:findIn K (.ref C5) "lows"=some none)
  (pg6:plainGet K C6 Str.empty=true)
  (hd6:hasDictIn K C6=true)
  (po6:plainOver K C6=true)
  (sa6:findIn K (.ref C6) "__setattr__"=some (some (.builtin "object.__setattr__")))
  (fm6_row:findIn K (.ref C6) "row"=some (some (.ref m_Sketch_row)))
  (fm6_row_within:findIn K (.ref C6) "row_within"=some (some (.ref m_Marked_row_within)))
  (fm6_rows:findIn K (.ref C6) "rows"=some (some (.ref m_Sketch_rows)))
  (fm6_mark_row:findIn K (.ref C6) "mark_row"=some (some (.ref m_Marked_mark_row)))
  (fm6_raised_low:findIn K (.ref C6) "raised_low"=some (some (.ref m_Marked_raised_low)))
  (fm6_lowered_low:findIn K (.ref C6) "lowered_low"=some (some (.ref m_Marked_lowered_low)))
  (nf6_0:findIn K (.ref C6) "wide"=some none)
  (nf6_1:findIn K (.ref C6) "up"=some none)
  (nf6_2:findIn K (.ref C6) "down"=some none)
  (nf6_3:findIn K (.ref C6) "word"=some none)
  (nf6_4:findIn K (.ref C6) "parts"=some none)
  (nf6_5:findIn K (.ref C6) "signs"=some none)
  (nf6_6:findIn K (.ref C6) "above"=some none)
  (nf6_7:findIn K (.ref C6) "beneath"=some none)
  (nf6_8:findIn K (.ref C6) "inner"=some none)
  (nf6_9:findIn K (.ref C6) "sign"=some none)
  (nf6_10:findIn K (.ref C6) "item"=some none)
  (nf6_11:findIn K (.ref C6) "raised"=some none)
  (nf6_12:findIn K (.ref C6) "lowered"=some none)
  (nf6_13:findIn K (.ref C6) "bands"=some none)
  (nf6_14:findIn K (.ref C6) "widths"=some none)
  (nf6_15:findIn K (.ref C6) "band_numbers"=some none)
  (nf6_16:findIn K (.ref C6) "lows"=some none)
  (pg7:plainGet K C7 Str.empty=true)
  (hd7:hasDictIn K C7=true)
  (po7:plainOver K C7=true)
  (sa7:findIn K (.ref C7) "__setattr__"=some (some (.builtin "object.__setattr__")))
  (fm7_row:findIn K (.ref C7) "row"=some (some (.ref m_Sketch_row)))
  (fm7_row_within:findIn K (.ref C7) "row_within"=some (some (.ref m_Held_row_within)))
  (fm7_rows:findIn K (.ref C7) "rows"=some (some (.ref m_Sketch_rows)))
  (nf7_0:findIn K (.ref C7) "wide"=some none)
  (nf7_1:findIn K (.ref C7) "up"=some none)
  (nf7_2:findIn K (.ref C7) "down"=some none)
  (nf7_3:findIn K (.ref C7) "word"=some none)
  (nf7_4:findIn K (.ref C7) "parts"=some none)
  (nf7_5:findIn K (.ref C7) "signs"=some none)
  (nf7_6:findIn K (.ref C7) "above"=some none)
  (nf7_7:findIn K (.ref C7) "beneath"=some none)
  (nf7_8:findIn K (.ref C7) "inner"=some none)
  (nf7_9:findIn K (.ref C7) "sign"=some none)
  (nf7_10:findIn K (.ref C7) "item"=some none)
  (nf7_11:findIn K (.ref C7) "raised"=some none)
  (nf7_12:findIn K (.ref C7) "lowered"=some none)
  (nf7_13:findIn K (.ref C7) "bands"=some none)
  (nf7_14:findIn K (.ref C7) "widths"=some none)
  (nf7_15:findIn K (.ref C7) "band_numbers"=some none)
  (nf7_16:findIn K (.ref C7) "lows"=some none)
  (pg8:plainGet K C8 Str.empty=true)
  (hd8:hasDictIn K C8=true)
  (po8:plainOver K C8=true)
  (sa8:findIn K (.ref C8) "__setattr__"=some (some (.builtin "object.__setattr__")))
  (fm8_row:findIn K (.ref C8) "row"=some (some (.ref m_Sketch_row)))
  (fm8_row_within:findIn K (.ref C8) "row_within"=some (some (.ref m_Grid_row_within)))
  (fm8_rows:findIn K (.ref C8) "rows"=some (some (.ref m_Sketch_rows)))
  (fm8_band_row:findIn K (.ref C8) "band_row"=some (some (.ref m_Grid_band_row)))
  (nf8_0:findIn K (.ref C8) "wide"=some none)
  (nf8_1:findIn K (.ref C8) "up"=some none)
  (nf8_2:findIn K (.ref C8) "down"=some none)
  (nf8_3:findIn K (.ref C8) "word"=some none)
  (nf8_4:findIn K (.ref C8) "parts"=some none)
  (nf8_5:findIn K (.ref C8) "signs"=some none)
  (nf8_6:findIn K (.ref C8) "above"=some none)
  (nf8_7:findIn K (.ref C8) "beneath"=some none)
  (nf8_8:findIn K (.ref C8) "inner"=some none)
  (nf8_9:findIn K (.ref C8) "sign"=some none)
  (nf8_10:findIn K (.ref C8) "item"=some none)
  (nf8_11:findIn K (.ref C8) "raised"=some none)
  (nf8_12:findIn K (.ref C8) "lowered"=some none)
  (nf8_13:findIn K (.ref C8) "bands"=some none)
  (nf8_14:findIn K (.ref C8) "widths"=some none)
  (nf8_15:findIn K (.ref C8) "band_numbers"=some none)
  (nf8_16:findIn K (.ref C8) "lows"=some none)
  (mk0:makesIn K C0=true)
  (fi0:findIn K (.ref C0) "__init__"=some (some (.ref m_Sketch_init)))
  (kc0:keepIn K (.ref C0)=true)
  (mk1:makesIn K C1=true)
  (fi1:findIn K (.ref C1) "__init__"=some (some (.ref m_Word_init)))
  (kc1:keepIn K (.ref C1)=true)
  (mk2:makesIn K C2=true)
  (fi2:findIn K (.ref C2) "__init__"=some (some (.ref m_Chain_init)))
  (kc2:keepIn K (.ref C2)=true)
  (mk3:makesIn K C3=true)
  (fi3:findIn K (.ref C3) "__init__"=some (some (.ref m_Over_init)))
  (kc3:keepIn K (.ref C3)=true)
  (mk4:makesIn K C4=true)
  (fi4:findIn K (.ref C4) "__init__"=some (some (.ref m_Root_init)))
  (kc4:keepIn K (.ref C4)=true)
  (mk5:makesIn K C5=true)
  (fi5:findIn K (.ref C5) "__init__"=some (some (.ref m_Led_init)))
  (kc5:keepIn K (.ref C5)=true)
  (mk6:makesIn K C6=true)
  (fi6:findIn K (.ref C6) "__init__"=some (some (.ref m_Marked_init)))
  (kc6:keepIn K (.ref C6)=true)
  (mk7:makesIn K C7=true)
  (fi7:findIn K (.ref C7) "__init__"=some (some (.ref m_Held_init)))
  (kc7:keepIn K (.ref C7)=true)
  (mk8:makesIn K C8=true)
  (fi8:findIn K (.ref C8) "__init__"=some (some (.ref m_Grid_init)))
  (kc8:keepIn K (.ref C8)=true)
  (sg0:PySem.W.specialIn K (.ref C0) "__getattribute__"=some (some (.builtin "type.__getattribute__")))
  (rd0:PySem.W.readsIn K C0 (.type "type")=true)
  (fc0:PySem.W.findCls K (.ref C0) (.type "type") "__init__"=some (.val (.ref m_Sketch_init)))
  (is0:PySem.W.specialIn K (.builtin "object.__class__") "__get__"=some (some (.builtin "getset_descriptor.__get__")))
  (it0:PySem.W.takesIn K (.builtin "object.__class__")=some true)
  (ic0:findIn K (.ref C0) "__class__"=some (some (.builtin "object.__class__")))
  (im0:mroIn K C0 (.type "object")=some true)
  (ik0_0:kitOne K (.ref C0) (.ref C0)=some true)
  (ic1:findIn K (.ref C1) "__class__"=some (some (.builtin "object.__class__")))
  (im1:mroIn K C1 (.type "object")=some true)
  (ik1_0:kitOne K (.ref C1) (.ref C0)=some true)
  (ic2:findIn K (.ref C2) "__class__"=some (some (.builtin "object.__class__")))
  (im2:mroIn K C2 (.type "object")=some true)
  (ik2_0:kitOne K (.ref C2) (.ref C0)=some true)
  (ic3:findIn K (.ref C3) "__class__"=some (some (.builtin "object.__class__")))
  (im3:mroIn K C3 (.type "object")=some true)
  (ik3_0:kitOne K (.ref C3) (.ref C0)=some true)
  (ic4:findIn K (.ref C4) "__class__"=some (some (.builtin "object.__class__")))
  (im4:mroIn K C4 (.type "object")=some true)
  (ik4_0:kitOne K (.ref C4) (.ref C0)=some true)
  (ic5:findIn K (.ref C5) "__class__"=some (some (.builtin "object.__class__")))
  (im5:mroIn K C5 (.type "object")=some true)
  (ik5_0:kitOne K (.ref C5) (.ref C0)=some true)
  (ic6:findIn K (.ref C6) "__class__"=some (some (.builtin "object.__class__")))
  (im6:mroIn K C6 (.type "object")=some true)
  (ik6_0:kitOne K (.ref C6) (.ref C0)=some true)
  (ic7:findIn K (.ref C7) "__class__"=some (some (.builtin "object.__class__")))
  (im7:mroIn K C7 (.type "object")=some true)
  (ik7_0:kitOne K (.ref C7) (.ref C0)=some true)
  (ic8:findIn K (.ref C8) "__class__"=some (some (.builtin "object.__class__")))
  (im8:mroIn K C8 (.type "object")=some true)
  (ik8_0:kitOne K (.ref C8) (.ref C0)=some true)
  : ∃ fd:FuncData,(∀ (s:Shared) (v:Value),BindsTo s fd ⟨[v],[]⟩ [("script",v)])∧∀ base:Heap,K.In base→base.Ns mainGlobals mg→fz l.prog w K mg base CX0 45 fa fd ["script"] (spL K tQ):=by
 have e:=hfa.symm.trans (PySem.W.mg_of X G a44)
 cases e
 have T:Txt l.prog w K mg C0 C1 C2 C3 C4 C5 C6 C7 C8 m_Sketch_row_within m_Word_row_within m_Marked_raised_low m_Marked_lowered_low m_Sketch_row m_Chain_row_within m_Over_row_within m_Root_row_within m_Led_row_within m_Marked_row_within m_Marked_mark_row m_Held_row_within m_Grid_row_within m_Grid_band_row m_Sketch_rows m_Sketch_init m_Word_init m_Chain_init m_Grid_init m_Over_init m_Root_init m_Led_init m_Marked_init m_Held_init:=⟨PySem.W.mg_none_of X G z1,PySem.W.mg_none_of X G z2,PySem.W.mg_none_of X G z3,PySem.W.mg_none_of X G z4,PySem.W.mg_none_of X G z5,PySem.W.mg_none_of X G z6,PySem.W.mg_none_of X G z7,PySem.W.mg_none_of X G z8,PySem.W.mg_none_of X G z9,PySem.W.mg_none_of X G z10,PySem.W.mg_none_of X G z11,uU (PySem.W.mg_of X G ua1) ue1,⟨pg0,hd0,po0,sa0⟩,PySem.W.mg_of X G aC0,⟨fm0_row,i_Sketch_row,k_Sketch_row⟩,⟨fm0_row_within,i_Sketch_row_within,k_Sketch_row_within⟩,⟨fm0_rows,i_Sketch_rows,k_Sketch_rows⟩,⟨pg1,hd1,po1,sa1⟩,PySem.W.mg_of X G aC1,⟨fm1_row,i_Sketch_row,k_Sketch_row⟩,⟨fm1_row_within,i_Word_row_within,k_Word_row_within⟩,⟨fm1_rows,i_Sketch_rows,k_Sketch_rows⟩,⟨pg2,hd2,po2,sa2⟩,PySem.W.mg_of X G aC2,⟨fm2_row,i_Sketch_row,k_Sketch_row⟩,⟨fm2_row_within,i_Chain_row_within,k_Chain_row_within⟩,⟨fm2_rows,i_Sketch_rows,k_Sketch_rows⟩,⟨pg3,hd3,po3,sa3⟩,PySem.W.mg_of X G aC3,⟨fm3_row,i_Sketch_row,k_Sketch_row⟩,⟨fm3_row_within,i_Over_row_within,k_Over_row_within⟩,⟨fm3_rows,i_Sketch_rows,k_Sketch_rows⟩,⟨pg4,hd4,po4,sa4⟩,PySem.W.mg_of X G aC4,⟨fm4_row,i_Sketch_row,k_Sketch_row⟩,⟨fm4_row_within,i_Root_row_within,k_Root_row_within⟩,⟨fm4_rows,i_Sketch_rows,k_Sketch_rows⟩,⟨pg5,hd5,po5,sa5⟩,PySem.W.mg_of X G aC5,⟨fm5_row,i_Sketch_row,k_Sketch_row⟩,⟨fm5_row_within,i_Led_row_within,k_Led_row_within⟩,⟨fm5_rows,i_Sketch_rows,k_Sketch_rows⟩,⟨pg6,hd6,po6,sa6⟩,PySem.W.mg_of X G aC6,⟨fm6_row,i_Sketch_row,k_Sketch_row⟩,⟨fm6_row_within,i_Marked_row_within,k_Marked_row_within⟩,⟨fm6_rows,i_Sketch_rows,k_Sketch_rows⟩,⟨fm6_mark_row,i_Marked_mark_row,k_Marked_mark_row⟩,⟨fm6_raised_low,i_Marked_raised_low,k_Marked_raised_low⟩,⟨fm6_lowered_low,i_Marked_lowered_low,k_Marked_lowered_low⟩,⟨pg7,hd7,po7,sa7⟩,PySem.W.mg_of X G aC7,⟨fm7_row,i_Sketch_row,k_Sketch_row⟩,⟨fm7_row_within,i_Held_row_within,k_Held_row_within⟩,⟨fm7_rows,i_Sketch_rows,k_Sketch_rows⟩,⟨pg8,hd8,po8,sa8⟩,PySem.W.mg_of X G aC8,⟨fm8_row,i_Sketch_row,k_Sketch_row⟩,⟨fm8_row_within,i_Grid_row_within,k_Grid_row_within⟩,⟨fm8_rows,i_Sketch_rows,k_Sketch_rows⟩,⟨fm8_band_row,i_Grid_band_row,k_Grid_band_row⟩,⟨mk0,fi0,i_Sketch_init,kc0⟩,⟨mk1,fi1,i_Word_init,kc1⟩,⟨mk2,fi2,i_Chain_init,kc2⟩,⟨mk3,fi3,i_Over_init,kc3⟩,⟨mk4,fi4,i_Root_init,kc4⟩,⟨mk5,fi5,i_Led_init,kc5⟩,⟨mk6,fi6,i_Marked_init,kc6⟩,⟨mk7,fi7,i_Held_init,kc7⟩,⟨mk8,fi8,i_Grid_init,kc8⟩,⟨sg0,⟨_,rd0,fc0⟩,rfl,k_Sketch_init⟩,eP (nm:="wide") rfl (by w_left) (by w_left) (ay ⟨⟨pg0,hd0,po0,sa0⟩,nf0_0⟩ (ay ⟨⟨pg1,hd1,po1,sa1⟩,nf1_0⟩ (ay ⟨⟨pg2,hd2,po2,sa2⟩,nf2_0⟩ (ay ⟨⟨pg3,hd3,po3,sa3⟩,nf3_0⟩ (ay ⟨⟨pg4,hd4,po4,sa4⟩,nf4_0⟩ (ay ⟨⟨pg5,hd5,po5,sa5⟩,nf5_0⟩ (ay ⟨⟨pg6,hd6,po6,sa6⟩,nf6_0⟩ (ay ⟨⟨pg7,hd7,po7,sa7⟩,nf7_0⟩ (ay ⟨⟨pg8,hd8,po8,sa8⟩,nf8_0⟩ gR))))))))),eP (nm:="up") rfl (by w_left) (by w_left) (ay ⟨⟨pg0,hd0,po0,sa0⟩,nf0_1⟩ (ay ⟨⟨pg1,hd1,po1,sa1⟩,nf1_1⟩ (ay ⟨⟨pg2,hd2,po2,sa2⟩,nf2_1⟩ (ay ⟨⟨pg3,hd3,po3,sa3⟩,nf3_1⟩ (ay ⟨⟨pg4,hd4,po4,sa4⟩,nf4_1⟩ (ay ⟨⟨pg5,hd5,po5,sa5⟩,nf5_1⟩ (ay ⟨⟨pg6,hd6,po6,sa6⟩,nf6_1⟩ (ay ⟨⟨pg7,hd7,po7,sa7⟩,nf7_1⟩ (ay ⟨⟨pg8,hd8,po8,sa8⟩,nf8_1⟩ gR))))))))),eP (nm:="down") rfl (by w_left) (by w_left) (ay ⟨⟨pg0,hd0,po0,sa0⟩,nf0_2⟩ (ay ⟨⟨pg1,hd1,po1,sa1⟩,nf1_2⟩ (ay ⟨⟨pg2,hd2,po2,sa2⟩,nf2_2⟩ (ay ⟨⟨pg3,hd3,po3,sa3⟩,nf3_2⟩ (ay ⟨⟨pg4,hd4,po4,sa4⟩,nf4_2⟩ (ay ⟨⟨pg5,hd5,po5,sa5⟩,nf5_2⟩ (ay ⟨⟨pg6,hd6,po6,sa6⟩,nf6_2⟩ (ay ⟨⟨pg7,hd7,po7,sa7⟩,nf7_2⟩ (ay ⟨⟨pg8,hd8,po8,sa8⟩,nf8_2⟩ gR))))))))),eP (nm:="word") rfl (by w_left) (by w_left) (ay ⟨⟨pg0,hd0,po0,sa0⟩,nf0_3⟩ (ay ⟨⟨pg1,hd1,po1,sa1⟩,nf1_3⟩ (ay ⟨⟨pg2,hd2,po2,sa2⟩,nf2_3⟩ (ay ⟨⟨pg3,hd3,po3,sa3⟩,nf3_3⟩ (ay ⟨⟨pg4,hd4,po4,sa4⟩,nf4_3⟩ (ay ⟨⟨pg5,hd5,po5,sa5⟩,nf5_3⟩ (ay ⟨⟨pg6,hd6,po6,sa6⟩,nf6_3⟩ (ay ⟨⟨pg7,hd7,po7,sa7⟩,nf7_3⟩ (ay ⟨⟨pg8,hd8,po8,sa8⟩,nf8_3⟩ gR))))))))),eP (nm:="parts") rfl (by w_left) (by w_left) (ay ⟨⟨pg0,hd0,po0,sa0⟩,nf0_4⟩ (ay ⟨⟨pg1,hd1,po1,sa1⟩,nf1_4⟩ (ay ⟨⟨pg2,hd2,po2,sa2⟩,nf2_4⟩ (ay ⟨⟨pg3,hd3,po3,sa3⟩,nf3_4⟩ (ay ⟨⟨pg4,hd4,po4,sa4⟩,nf4_4⟩ (ay ⟨⟨pg5,hd5,po5,sa5⟩,nf5_4⟩ (ay ⟨⟨pg6,hd6,po6,sa6⟩,nf6_4⟩ (ay ⟨⟨pg7,hd7,po7,sa7⟩,nf7_4⟩ (ay ⟨⟨pg8,hd8,po8,sa8⟩,nf8_4⟩ gR))))))))),eP (nm:="signs") rfl (by w_left) (by w_left) (ay ⟨⟨pg0,hd0,po0,sa0⟩,nf0_5⟩ (ay ⟨⟨pg1,hd1,po1,sa1⟩,nf1_5⟩ (ay ⟨⟨pg2,hd2,po2,sa2⟩,nf2_5⟩ (ay ⟨⟨pg3,hd3,po3,sa3⟩,nf3_5⟩ (ay ⟨⟨pg4,hd4,po4,sa4⟩,nf4_5⟩ (ay ⟨⟨pg5,hd5,po5,sa5⟩,nf5_5⟩ (ay ⟨⟨pg6,hd6,po6,sa6⟩,nf6_5⟩ (ay ⟨⟨pg7,hd7,po7,sa7⟩,nf7_5⟩ (ay ⟨⟨pg8,hd8,po8,sa8⟩,nf8_5⟩ gR))))))))),eP (nm:="above") rfl (by w_left) (by w_left) (ay ⟨⟨pg0,hd0,po0,sa0⟩,nf0_6⟩ (ay ⟨⟨pg1,hd1,po1,sa1⟩,nf1_6⟩ (ay ⟨⟨pg2,hd2,po2,sa2⟩,nf2_6⟩ (ay ⟨⟨pg3,hd3,po3,sa3⟩,nf3_6⟩ (ay ⟨⟨pg4,hd4,po4,sa4⟩,nf4_6⟩ (ay ⟨⟨pg5,hd5,po5,sa5⟩,nf5_6⟩ (ay ⟨⟨pg6,hd6,po6,sa6⟩,nf6_6⟩ (ay ⟨⟨pg7,hd7,po7,sa7⟩,nf7_6⟩ (ay ⟨⟨pg8,hd8,po8,sa8⟩,nf8_6⟩ gR))))))))),eP (nm:="beneath") rfl (by w_left) (by w_left) (ay ⟨⟨pg0,hd0,po0,sa0⟩,nf0_7⟩ (ay ⟨⟨pg1,hd1,po1,sa1⟩,nf1_7⟩ (ay ⟨⟨pg2,hd2,po2,sa2⟩,nf2_7⟩ (ay ⟨⟨pg3,hd3,po3,sa3⟩,nf3_7⟩ (ay ⟨⟨pg4,hd4,po4,sa4⟩,nf4_7⟩ (ay ⟨⟨pg5,hd5,po5,sa5⟩,nf5_7⟩ (ay ⟨⟨pg6,hd6,po6,sa6⟩,nf6_7⟩ (ay ⟨⟨pg7,hd7,po7,sa7⟩,nf7_7⟩ (ay ⟨⟨pg8,hd8,po8,sa8⟩,nf8_7⟩ gR))))))))),eP (nm:="inner") rfl (by w_left) (by w_left) (ay ⟨⟨pg0,hd0,po0,sa0⟩,nf0_8⟩ (ay ⟨⟨pg1,hd1,po1,sa1⟩,nf1_8⟩ (ay ⟨⟨pg2,hd2,po2,sa2⟩,nf2_8⟩ (ay ⟨⟨pg3,hd3,po3,sa3⟩,nf3_8⟩ (ay ⟨⟨pg4,hd4,po4,sa4⟩,nf4_8⟩ (ay ⟨⟨pg5,hd5,po5,sa5⟩,nf5_8⟩ (ay ⟨⟨pg6,hd6,po6,sa6⟩,nf6_8⟩ (ay ⟨⟨pg7,hd7,po7,sa7⟩,nf7_8⟩ (ay ⟨⟨pg8,hd8,po8,sa8⟩,nf8_8⟩ gR))))))))),eP (nm:="sign") rfl (by w_left) (by w_left) (ay ⟨⟨pg0,hd0,po0,sa0⟩,nf0_9⟩ (ay ⟨⟨pg1,hd1,po1,sa1⟩,nf1_9⟩ (ay ⟨⟨pg2,hd2,po2,sa2⟩,nf2_9⟩ (ay ⟨⟨pg3,hd3,po3,sa3⟩,nf3_9⟩ (ay ⟨⟨pg4,hd4,po4,sa4⟩,nf4_9⟩ (ay ⟨⟨pg5,hd5,po5,sa5⟩,nf5_9⟩ (ay ⟨⟨pg6,hd6,po6,sa6⟩,nf6_9⟩ (ay ⟨⟨pg7,hd7,po7,sa7⟩,nf7_9⟩ (ay ⟨⟨pg8,hd8,po8,sa8⟩,nf8_9⟩ gR))))))))),eP (nm:="item") rfl (by w_left) (by w_left) (ay ⟨⟨pg0,hd0,po0,sa0⟩,nf0_10⟩ (ay ⟨⟨pg1,hd1,po1,sa1⟩,nf1_10⟩ (ay ⟨⟨pg2,hd2,po2,sa2⟩,nf2_10⟩ (ay ⟨⟨pg3,hd3,po3,sa3⟩,nf3_10⟩ (ay ⟨⟨pg4,hd4,po4,sa4⟩,nf4_10⟩ (ay ⟨⟨pg5,hd5,po5,sa5⟩,nf5_10⟩ (ay ⟨⟨pg6,hd6,po6,sa6⟩,nf6_10⟩ (ay ⟨⟨pg7,hd7,po7,sa7⟩,nf7_10⟩ (ay ⟨⟨pg8,hd8,po8,sa8⟩,nf8_10⟩ gR))))))))),eP (nm:="raised") rfl (by w_left) (by w_left) (ay ⟨⟨pg0,hd0,po0,sa0⟩,nf0_11⟩ (ay ⟨⟨pg1,hd1,po1,sa1⟩,nf1_11⟩ (ay ⟨⟨pg2,hd2,po2,sa2⟩,nf2_11⟩ (ay ⟨⟨pg3,hd3,po3,sa3⟩,nf3_11⟩ (ay ⟨⟨pg4,hd4,po4,sa4⟩,nf4_11⟩ (ay ⟨⟨pg5,hd5,po5,sa5⟩,nf5_11⟩ (ay ⟨⟨pg6,hd6,po6,sa6⟩,nf6_11⟩ (ay ⟨⟨pg7,hd7,po7,sa7⟩,nf7_11⟩ (ay ⟨⟨pg8,hd8,po8,sa8⟩,nf8_11⟩ gR))))))))),eP (nm:="lowered") rfl (by w_left) (by w_left) (ay ⟨⟨pg0,hd0,po0,sa0⟩,nf0_12⟩ (ay ⟨⟨pg1,hd1,po1,sa1⟩,nf1_12⟩ (ay ⟨⟨pg2,hd2,po2,sa2⟩,nf2_12⟩ (ay ⟨⟨pg3,hd3,po3,sa3⟩,nf3_12⟩ (ay ⟨⟨pg4,hd4,po4,sa4⟩,nf4_12⟩ (ay ⟨⟨pg5,hd5,po5,sa5⟩,nf5_12⟩ (ay ⟨⟨pg6,hd6,po6,sa6⟩,nf6_12⟩ (ay ⟨⟨pg7,hd7,po7,sa7⟩,nf7_12⟩ (ay ⟨⟨pg8,hd8,po8,sa8⟩,nf8_12⟩ gR))))))))),eP (nm:="bands") rfl (by w_left) (by w_left) (ay ⟨⟨pg0,hd0,po0,sa0⟩,nf0_13⟩ (ay ⟨⟨pg1,hd1,po1,sa1⟩,nf1_13⟩ (ay ⟨⟨pg2,hd2,po2,sa2⟩,nf2_13⟩ (ay ⟨⟨pg3,hd3,po3,sa3⟩,nf3_13⟩ (ay ⟨⟨pg4,hd4,po4,sa4⟩,nf4_13⟩ (ay ⟨⟨pg5,hd5,po5,sa5⟩,nf5_13⟩ (ay ⟨⟨pg6,hd6,po6,sa6⟩,nf6_13⟩ (ay ⟨⟨pg7,hd7,po7,sa7⟩,nf7_13⟩ (ay ⟨⟨pg8,hd8,po8,sa8⟩,nf8_13⟩ gR))))))))),eP (nm:="widths") rfl (by w_left) (by w_left) (ay ⟨⟨pg0,hd0,po0,sa0⟩,nf0_14⟩ (ay ⟨⟨pg1,hd1,po1,sa1⟩,nf1_14⟩ (ay ⟨⟨pg2,hd2,po2,sa2⟩,nf2_14⟩ (ay ⟨⟨pg3,hd3,po3,sa3⟩,nf3_14⟩ (ay ⟨⟨pg4,hd4,po4,sa4⟩,nf4_14⟩ (ay ⟨⟨pg5,hd5,po5,sa5⟩,nf5_14⟩ (ay ⟨⟨pg6,hd6,po6,sa6⟩,nf6_14⟩ (ay ⟨⟨pg7,hd7,po7,sa7⟩,nf7_14⟩ (ay ⟨⟨pg8,hd8,po8,sa8⟩,nf8_14⟩ gR))))))))),eP (nm:="band_numbers") rfl (by w_left) (by w_left) (ay ⟨⟨pg0,hd0,po0,sa0⟩,nf0_15⟩ (ay ⟨⟨pg1,hd1,po1,sa1⟩,nf1_15⟩ (ay ⟨⟨pg2,hd2,po2,sa2⟩,nf2_15⟩ (ay ⟨⟨pg3,hd3,po3,sa3⟩,nf3_15⟩ (ay ⟨⟨pg4,hd4,po4,sa4⟩,nf4_15⟩ (ay ⟨⟨pg5,hd5,po5,sa5⟩,nf5_15⟩ (ay ⟨⟨pg6,hd6,po6,sa6⟩,nf6_15⟩ (ay ⟨⟨pg7,hd7,po7,sa7⟩,nf7_15⟩ (ay ⟨⟨pg8,hd8,po8,sa8⟩,nf8_15⟩ gR))))))))),eP (nm:="lows") rfl (by w_left) (by w_left) (ay ⟨⟨pg0,hd0,po0,sa0⟩,nf0_16⟩ (ay ⟨⟨pg1,hd1,po1,sa1⟩,nf1_16⟩ (ay ⟨⟨pg2,hd2,po2,sa2⟩,nf2_16⟩ (ay ⟨⟨pg3,hd3,po3,sa3⟩,nf3_16⟩ (ay ⟨⟨pg4,hd4,po4,sa4⟩,nf4_16⟩ (ay ⟨⟨pg5,hd5,po5,sa5⟩,nf5_16⟩ (ay ⟨⟨pg6,hd6,po6,sa6⟩,nf6_16⟩ (ay ⟨⟨pg7,hd7,po7,sa7⟩,nf7_16⟩ (ay ⟨⟨pg8,hd8,po8,sa8⟩,nf8_16⟩ gR))))))))),⟨C0,PySem.W.mg_of X G aC0,EV (sE ⟨⟨pg0,hd0,po0,sa0⟩,ic0,is0,it0,im0,ik0_0⟩ (sE ⟨⟨pg1,hd1,po1,sa1⟩,ic1,is0,it0,im1,ik1_0⟩ (sE ⟨⟨pg2,hd2,po2,sa2⟩,ic2,is0,it0,im2,ik2_0⟩ (sE ⟨⟨pg3,hd3,po3,sa3⟩,ic3,is0,it0,im3,ik3_0⟩ (sE ⟨⟨pg4,hd4,po4,sa4⟩,ic4,is0,it0,im4,ik4_0⟩ (sE ⟨⟨pg5,hd5,po5,sa5⟩,ic5,is0,it0,im5,ik5_0⟩ (sE ⟨⟨pg6,hd6,po6,sa6⟩,ic6,is0,it0,im6,ik6_0⟩ (sE ⟨⟨pg7,hd7,po7,sa7⟩,ic7,is0,it0,im7,ik7_0⟩ (sE ⟨⟨pg8,hd8,po8,sa8⟩,ic8,is0,it0,im8,ik8_0⟩ IJ)))))))))⟩⟩
 have F1:=aZ (st:=bo) l1 c1 k_Sketch_row_within
 have b1:=F1.binds (ps:=["self", "k"]) fun _ _ _ _ _ _ us hl=>(by obtain ⟨y0,y1,rfl⟩:=ex2 hl; rfl)
 have F2:=aZ (st:=bH) l2 c2 k_Word_row_within
 have b2:=F2.binds (ps:=["self", "k"]) fun _ _ _ _ _ _ us hl=>(by obtain ⟨y0,y1,rfl⟩:=ex2 hl; rfl)
 have F3:=aZ (st:=fT) l3 c3 k3
 have b3:=F3.binds (ps:=["narrow", "wide"]) fun _ _ _ _ _ _ us hl=>(by obtain ⟨y0,y1,rfl⟩:=ex2 hl; rfl)
 have F4:=aZ (st:=jT) l4 c4 k4
 have b4:=F4.binds (ps:=["text", "wide"]) fun _ _ _ _ _ _ us hl=>(by obtain ⟨y0,y1,rfl⟩:=ex2 hl; rfl)
 have F5:=aZ (st:=bp) l5 c5 k_Marked_raised_low
 have b5:=F5.binds (ps:=["self"]) fun _ _ _ _ _ _ us hl=>(by obtain ⟨y0,rfl⟩:=ex1 hl; rfl)
 have F6:=aZ (st:=bh) l6 c6 k_Marked_lowered_low
 have b6:=F6.binds (ps:=["self"]) fun _ _ _ _ _ _ us hl=>(by obtain ⟨y0,rfl⟩:=ex1 hl; rfl)
 have F7:=aZ (st:=du) l7 c7 k_Sketch_row
 have b7:=F7.binds (ps:=["self", "k"]) fun _ _ _ _ _ _ us hl=>(by obtain ⟨y0,y1,rfl⟩:=ex2 hl; rfl)
 have F8:=aZ (st:=bB) l8 c8 k_Chain_row_within
 have b8:=F8.binds (ps:=["self", "k"]) fun _ _ _ _ _ _ us hl=>(by obtain ⟨y0,y1,rfl⟩:=ex2 hl; rfl)
 have F9:=aZ (st:=bI) l9 c9 k_Over_row_within
 have b9:=F9.binds (ps:=["self", "k"]) fun _ _ _ _ _ _ us hl=>(by obtain ⟨y0,y1,rfl⟩:=ex2 hl; rfl)
 have F10:=aZ (st:=bJ) l10 c10 k_Root_row_within
 have b10:=F10.binds (ps:=["self", "k"]) fun _ _ _ _ _ _ us hl=>(by obtain ⟨y0,y1,rfl⟩:=ex2 hl; rfl)
 have F11:=aZ (st:=bR) l11 c11 k_Led_row_within
 have b11:=F11.binds (ps:=["self", "k"]) fun _ _ _ _ _ _ us hl=>(by obtain ⟨y0,y1,rfl⟩:=ex2 hl; rfl)
 have F12:=aZ (st:=bq) l12 c12 k_Marked_row_within
 have b12:=F12.binds (ps:=["self", "k"]) fun _ _ _ _ _ _ us hl=>(by obtain ⟨y0,y1,rfl⟩:=ex2 hl; rfl)
 have F13:=aZ (st:=bK) l13 c13 k_Marked_mark_row
 have b13:=F13.binds (ps:=["self", "k"]) fun _ _ _ _ _ _ us hl=>(by obtain ⟨y0,y1,rfl⟩:=ex2 hl; rfl)
 have F14:=aZ (st:=bL) l14 c14 k_Held_row_within
 have b14:=F14.binds (ps:=["self", "k"]) fun _ _ _ _ _ _ us hl=>(by obtain ⟨y0,y1,rfl⟩:=ex2 hl; rfl)
 have F15:=aZ (st:=bM) l15 c15 k_Grid_row_within
 have b15:=F15.binds (ps:=["self", "k"]) fun _ _ _ _ _ _ us hl=>(by obtain ⟨y0,y1,rfl⟩:=ex2 hl; rfl)
 have F16:=aZ (st:=cg) l16 c16 k_Grid_band_row
 have b16:=F16.binds (ps:=["self", "number", "k"]) fun _ _ _ _ _ _ us hl=>(by obtain ⟨y0,y1,y2,rfl⟩:=ex3 hl; rfl)
 have F17:=aZ (st:=cR) l17 c17 k_Sketch_rows
 have b17:=F17.binds (ps:=["self"]) fun _ _ _ _ _ _ us hl=>(by obtain ⟨y0,rfl⟩:=ex1 hl; rfl)
 have F18:=aZ (st:=cS) l18 c18 k_Sketch_init
 have b18:=F18.binds (ps:=["self", "wide", "up", "down"]) fun _ _ _ _ _ _ us hl=>(by obtain ⟨y0,y1,y2,y3,rfl⟩:=ex4 hl; rfl)
 have F19:=aZ (st:=dX) l19 c19 k_Word_init
 have b19:=F19.binds (ps:=["self", "word"]) fun _ _ _ _ _ _ us hl=>(by obtain ⟨y0,y1,rfl⟩:=ex2 hl; rfl)
 have F20:=aZ (st:=eS) l20 c20 k20
 have b20:=F20.binds (ps:=["cell"]) fun _ _ _ _ _ _ us hl=>(by obtain ⟨y0,rfl⟩:=ex1 hl; rfl)
 have F21:=aZ (st:=dY) l21 c21 k21
 have b21:=F21.binds (ps:=["cell", "many"]) fun _ _ _ _ _ _ us hl=>(by obtain ⟨y0,y1,rfl⟩:=ex2 hl; rfl)
 have F22:=aZ (st:=dw) l22 c22 k_Chain_init
 have b22:=F22.binds (ps:=["self", "parts", "signs"]) fun _ _ _ _ _ _ us hl=>(by obtain ⟨y0,y1,y2,rfl⟩:=ex3 hl; rfl)
 have F23:=aZ (st:=cT) l23 c23 k23
 have b23:=F23.binds (ps:=["some", "by"]) fun _ _ _ _ _ _ us hl=>(by obtain ⟨y0,y1,rfl⟩:=ex2 hl; rfl)
 have F24:=aZ (st:=eU) l24 c24 k24
 have b24:=F24.binds (ps:=["way", "by"]) fun _ _ _ _ _ _ us hl=>(by obtain ⟨y0,y1,rfl⟩:=ex2 hl; rfl)
 have F25:=aZ (st:=cj) l25 c25 k25
 have b25:=F25.binds (ps:=["bands"]) fun _ _ _ _ _ _ us hl=>(by obtain ⟨y0,rfl⟩:=ex1 hl; rfl)
 have F26:=aZ (st:=cU) l26 c26 k26
 have b26:=F26.binds (ps:=["band"]) fun _ _ _ _ _ _ us hl=>(by obtain ⟨y0,rfl⟩:=ex1 hl; rfl)
 have F27:=aZ (st:=cV) l27 c27 k27
 have b27:=F27.binds (ps:=["band"]) fun _ _ _ _ _ _ us hl=>(by obtain ⟨y0,rfl⟩:=ex1 hl; rfl)
 have F28:=aZ (st:=bS) l28 c28 k28
 have b28:=F28.binds (ps:=["bands"]) fun _ _ _ _ _ _ us hl=>(by obtain ⟨y0,rfl⟩:=ex1 hl; rfl)
 have F29:=aZ (st:=dZ) l29 c29 k29
 have b29:=F29.binds (ps:=["bands", "up"]) fun _ _ _ _ _ _ us hl=>(by obtain ⟨y0,y1,rfl⟩:=ex2 hl; rfl)
 have F30:=aZ (st:=ed) l30 c30 k_Grid_init
 have b30:=F30.binds (ps:=["self", "bands"]) fun _ _ _ _ _ _ us hl=>(by obtain ⟨y0,y1,rfl⟩:=ex2 hl; rfl)
 have F31:=aZ (st:=ef) l31 c31 k31
 have b31:=F31.binds (ps:=["sketch"]) fun _ _ _ _ _ _ us hl=>(by obtain ⟨y0,rfl⟩:=ex1 hl; rfl)
 have F32:=aZ (st:=eg) l32 c32 k_Over_init
 have b32:=F32.binds (ps:=["self", "above", "beneath"]) fun _ _ _ _ _ _ us hl=>(by obtain ⟨y0,y1,y2,rfl⟩:=ex3 hl; rfl)
 have F33:=aZ (st:=eh) l33 c33 k_Root_init
 have b33:=F33.binds (ps:=["self", "inner"]) fun _ _ _ _ _ _ us hl=>(by obtain ⟨y0,y1,rfl⟩:=ex2 hl; rfl)
 have F34:=aZ (st:=eV) l34 c34 k_Led_init
 have b34:=F34.binds (ps:=["self", "sign", "inner"]) fun _ _ _ _ _ _ us hl=>(by obtain ⟨y0,y1,y2,rfl⟩:=ex3 hl; rfl)
 have F35:=aZ (st:=cW) l35 c35 k_Marked_init
 have b35:=F35.binds (ps:=["self", "item", "raised", "lowered"]) fun _ _ _ _ _ _ us hl=>(by obtain ⟨y0,y1,y2,y3,rfl⟩:=ex4 hl; rfl)
 have F36:=aZ (st:=el) l36 c36 k_Held_init
 have b36:=F36.binds (ps:=["self", "inner"]) fun _ _ _ _ _ _ us hl=>(by obtain ⟨y0,y1,rfl⟩:=ex2 hl; rfl)
 have F37:=aZ (st:=eW) l37 c37 k37
 have b37:=F37.binds (ps:=["way", "some", "by"]) fun _ _ _ _ _ _ us hl=>(by obtain ⟨y0,y1,y2,rfl⟩:=ex3 hl; rfl)
 have F38:=aZ (st:=eX) l38 c38 k38
 have b38:=F38.binds (ps:=["cell"]) fun _ _ _ _ _ _ us hl=>(by obtain ⟨y0,rfl⟩:=ex1 hl; rfl)
 have F39:=aZ (st:=eY) l39 c39 k39
 have b39:=F39.binds (ps:=["stack", "cell"]) fun _ _ _ _ _ _ us hl=>(by obtain ⟨y0,y1,rfl⟩:=ex2 hl; rfl)
 have F40:=aZ (st:=eZ) l40 c40 k40
 have b40:=F40.binds (ps:=["script"]) fun _ _ _ _ _ _ us hl=>(by obtain ⟨y0,rfl⟩:=ex1 hl; rfl)
 have F41:=aZ (st:=cX) l41 c41 k41
 have b41:=F41.binds (ps:=["script", "k"]) fun _ _ _ _ _ _ us hl=>(by obtain ⟨y0,y1,rfl⟩:=ex2 hl; rfl)
 have F42:=aZ (st:=en) l42 c42 k42
 have b42:=F42.binds (ps:=["found"]) fun _ _ _ _ _ _ us hl=>(by obtain ⟨y0,rfl⟩:=ex1 hl; rfl)
 have F43:=aZ (st:=eo) l43 c43 k43
 have b43:=F43.binds (ps:=["found"]) fun _ _ _ _ _ _ us hl=>(by obtain ⟨y0,rfl⟩:=ex1 hl; rfl)
 have F44:=aZ (st:=jU) l44 c44 k44
 have b44:=F44.binds (ps:=["script"]) fun _ _ _ _ _ _ us hl=>(by obtain ⟨y0,rfl⟩:=ex1 hl; rfl)
 refine ⟨fnOf "law" "law" (aI jU) (aw jU) (ag jU) .none kV44 dc44 pm44 an44 cd44 ct44,fun s v=>.of_eq rfl,fun base _ _=>?_⟩
 have G_Sketch_row_within:UnD l.prog w K mg base (ct C0 C1 C2 C3 C4 C5 C6 C7 C8) m_Sketch_row_within ["self", "k"] 1 cK:=iC F1 kE b1 (jm T  )
 have G_Word_row_within:UnD l.prog w K mg base (ct C0 C1 C2 C3 C4 C5 C6 C7 C8) m_Word_row_within ["self", "k"] 1 dg:=iC F2 mG b2 (jZ T  )
 have G_left_of:Def l.prog w K mg base (ct C0 C1 C2 C3 C4 C5 C6 C7 C8) "left_of" ["narrow", "wide"] 1 j0:=fO F3 xS (PySem.W.mg_of X G a3) b3 (sF T  )
 have G_amid:Def l.prog w K mg base (ct C0 C1 C2 C3 C4 C5 C6 C7 C8) "amid" ["text", "wide"] 2 n8:=fO F4 EM (PySem.W.mg_of X G a4) b4 (xW T G_left_of )
 have G_Marked_raised_low:UnD l.prog w K mg base (ct C0 C1 C2 C3 C4 C5 C6 C7 C8) m_Marked_raised_low ["self"] 1 cL:=iC F5 kG b5 (jn T  )
 have G_Marked_lowered_low:UnD l.prog w K mg base (ct C0 C1 C2 C3 C4 C5 C6 C7 C8) m_Marked_lowered_low ["self"] 1 cz:=iC F6 jV b6 (j5 T  )
 have Q_raised_low:ic l.prog w K mg base (ct C0 C1 C2 C3 C4 C5 C6 C7 C8) "raised_low" 0 1 eH:=ql T G_Marked_raised_low
 have Q_lowered_low:ic l.prog w K mg base (ct C0 C1 C2 C3 C4 C5 C6 C7 C8) "lowered_low" 0 1 dN:=pL T G_Marked_lowered_low
 have RG0:∀ n:Nat,il l.prog w K mg base C0 C1 C2 C3 C4 C5 C6 C7 C8 m_Sketch_row_within m_Word_row_within m_Marked_raised_low m_Marked_lowered_low m_Sketch_row m_Chain_row_within m_Over_row_within m_Root_row_within m_Led_row_within m_Marked_row_within m_Marked_mark_row m_Held_row_within m_Grid_row_within m_Grid_band_row m_Sketch_rows m_Sketch_init m_Word_init m_Chain_init m_Grid_init m_Over_init m_Root_init m_Led_init m_Marked_init m_Held_init (2+n) (DN0 n):=fun n=>Nat.rec ⟨gy b7,gy b8,gy b9,gy b10,gy b11,gy b12,gy b13,gy b14,gy b15,gy b16⟩ (fun n ih=>⟨iC F7 rZ b7 (o7 T  (Nat.le_add_right 2 n) ih  G_Sketch_row_within G_Word_row_within),iC F8 lC b8 (jw T  (Nat.le_add_right 2 n) ih  ),iC F9 mH b9 (k5 T G_amid (Nat.le_add_right 2 n) ih  ),iC F10 mI b10 (k6 T  (Nat.le_add_right 2 n) ih  ),iC F11 nq b11 (kJ T  (Nat.le_add_right 2 n) ih  ),iC F12 kH b12 (jo T  (Nat.le_add_right 2 n) ih  ),iC F13 mJ b13 (k7 T  (Nat.le_add_right 2 n) ih Q_raised_low Q_lowered_low ),iC F14 mK b14 (k8 T  (Nat.le_add_right 2 n) ih  ),iC F15 mL b15 (k9 T  (Nat.le_add_right 2 n) ih  ),iC F16 o5 b16 (lK T  (Nat.le_add_right 2 n) ih  )⟩) n
 have G_Sketch_row:UnD l.prog w K mg base (ct C0 C1 C2 C3 C4 C5 C6 C7 C8) m_Sketch_row ["self", "k"] 42 rR:=(RG0 dG).aR
 have G_Chain_row_within:UnD l.prog w K mg base (ct C0 C1 C2 C3 C4 C5 C6 C7 C8) m_Chain_row_within ["self", "k"] 42 ly:=(RG0 dG).cp
 have G_Over_row_within:UnD l.prog w K mg base (ct C0 C1 C2 C3 C4 C5 C6 C7 C8) m_Over_row_within ["self", "k"] 42 mh:=(RG0 dG).cE
 have G_Root_row_within:UnD l.prog w K mg base (ct C0 C1 C2 C3 C4 C5 C6 C7 C8) m_Root_row_within ["self", "k"] 42 mi:=(RG0 dG).cF
 have G_Led_row_within:UnD l.prog w K mg base (ct C0 C1 C2 C3 C4 C5 C6 C7 C8) m_Led_row_within ["self", "k"] 42 nc:=(RG0 dG).d0
 have G_Marked_row_within:UnD l.prog w K mg base (ct C0 C1 C2 C3 C4 C5 C6 C7 C8) m_Marked_row_within ["self", "k"] 42 ky:=(RG0 dG).bX
 have G_Marked_mark_row:UnD l.prog w K mg base (ct C0 C1 C2 C3 C4 C5 C6 C7 C8) m_Marked_mark_row ["self", "k"] 42 ml:=(RG0 dG).cG
 have G_Held_row_within:UnD l.prog w K mg base (ct C0 C1 C2 C3 C4 C5 C6 C7 C8) m_Held_row_within ["self", "k"] 42 mv:=(RG0 dG).cH
 have G_Grid_row_within:UnD l.prog w K mg base (ct C0 C1 C2 C3 C4 C5 C6 C7 C8) m_Grid_row_within ["self", "k"] 42 my:=(RG0 dG).cI
 have G_Grid_band_row:UnD l.prog w K mg base (ct C0 C1 C2 C3 C4 C5 C6 C7 C8) m_Grid_band_row ["self", "number", "k"] 42 nZ:=(RG0 dG).dA
 have Q_row:ic l.prog w K mg base (ct C0 C1 C2 C3 C4 C5 C6 C7 C8) "row" 1 42 ku:=jl T  (Nat.le_add_right 2 dG) (RG0 dG)
 have G_Sketch_rows:UnF l.prog w K mg base (ct C0 C1 C2 C3 C4 C5 C6 C7 C8) m_Sketch_rows ["self"] 43 b0:=Ew F17 qb b17 (nz T  Q_row)
 have M_Sketch:fA l.prog w K mg base (ct C0 C1 C2 C3 C4 C5 C6 C7 C8) "Sketch" 3 1 0 bQ:=hV F18 iS b18 (gu T  ) T.nv rfl T.xU
 have BJ_Sketch:rP l.prog w K mg base (ct C0 C1 C2 C3 C4 C5 C6 C7 C8) "Sketch" 3 1 jO:=zK F18 iS b18 (gu T  ) T.nv T.qX
 have B_Sketch:kT l.prog w K mg base (ct C0 C1 C2 C3 C4 C5 C6 C7 C8) "Sketch" 3 1 bQ:=og F18 iS b18 (gu T  ) T.nv T.qX
 have M_Word:fA l.prog w K mg base (ct C0 C1 C2 C3 C4 C5 C6 C7 C8) "Word" 1 3 1 jP:=hV F19 tW b19 (pM T B_Sketch ) T.BV rfl T.C9
 have G_law_sign:Def l.prog w K mg base (ct C0 C1 C2 C3 C4 C5 C6 C7 C8) "_law_sign" ["cell"] 1 cq:=fO F20 vj (PySem.W.mg_of X G a20) b20 (qm T  )
 have G_law_signs:Def l.prog w K mg base (ct C0 C1 C2 C3 C4 C5 C6 C7 C8) "_law_signs" ["cell", "many"] 2 gO:=fO F21 tX (PySem.W.mg_of X G a21) b21 (pN T G_law_sign )
 have M_Chain:fA l.prog w K mg base (ct C0 C1 C2 C3 C4 C5 C6 C7 C8) "Chain" 2 3 2 mz:=hV F22 s9 b22 (o8 T B_Sketch ) T.A5 rfl T.A6
 have G_law_chained:Def l.prog w K mg base (ct C0 C1 C2 C3 C4 C5 C6 C7 C8) "_law_chained" ["some", "by"] 5 dB:=fO F23 qc (PySem.W.mg_of X G a23) b23 (nA T G_law_signs M_Chain )
 have G_law_many:Def l.prog w K mg base (ct C0 C1 C2 C3 C4 C5 C6 C7 C8) "_law_many" ["way", "by"] 1 dC:=fO F24 vk (PySem.W.mg_of X G a24) b24 (qo T  )
 have G_column_widths:qa l.prog w K mg base (ct C0 C1 C2 C3 C4 C5 C6 C7 C8) "column_widths" ["bands"] 1 eG:=oq F25 o6 (PySem.W.mg_of X G a25) b25 (lL T  )
 have G_greatest_up:Def l.prog w K mg base (ct C0 C1 C2 C3 C4 C5 C6 C7 C8) "greatest_up" ["band"] 1 cP:=fO F26 qd (PySem.W.mg_of X G a26) b26 (nB T  )
 have G_band_height:Def l.prog w K mg base (ct C0 C1 C2 C3 C4 C5 C6 C7 C8) "band_height" ["band"] 2 cQ:=fO F27 qe (PySem.W.mg_of X G a27) b27 (nE T G_greatest_up )
 have G_numbers_by_row:qa l.prog w K mg base (ct C0 C1 C2 C3 C4 C5 C6 C7 C8) "numbers_by_row" ["bands"] 3 dP:=oq F28 nr (PySem.W.mg_of X G a28) b28 (kK T G_band_height )
 have G_band_lows:qa l.prog w K mg base (ct C0 C1 C2 C3 C4 C5 C6 C7 C8) "band_lows" ["bands", "up"] 3 gP:=oq F29 tY (PySem.W.mg_of X G a29) b29 (pO T G_band_height G_greatest_up )
 have M_Grid:fA l.prog w K mg base (ct C0 C1 C2 C3 C4 C5 C6 C7 C8) "Grid" 1 4 8 lA:=hV F30 tZ b30 (pP T G_column_widths G_numbers_by_row G_band_lows BJ_Sketch ) T.BZ rfl T.Cd
 have G_height_of:Def l.prog w K mg base (ct C0 C1 C2 C3 C4 C5 C6 C7 C8) "height_of" ["sketch"] 1 dn:=fO F31 u0 (PySem.W.mg_of X G a31) b31 (pQ T  )
 have M_Over:fA l.prog w K mg base (ct C0 C1 C2 C3 C4 C5 C6 C7 C8) "Over" 2 3 3 pq:=hV F32 u3 b32 (pR T G_height_of B_Sketch ) T.BW rfl T.Ca
 have M_Root:fA l.prog w K mg base (ct C0 C1 C2 C3 C4 C5 C6 C7 C8) "Root" 1 3 4 pA:=hV F33 u4 b33 (pS T B_Sketch ) T.BX rfl T.Cb
 have M_Led:fA l.prog w K mg base (ct C0 C1 C2 C3 C4 C5 C6 C7 C8) "Led" 2 3 5 tO:=hV F34 vm b34 (qp T B_Sketch ) T.EO rfl T.ER
 have M_Marked:fA l.prog w K mg base (ct C0 C1 C2 C3 C4 C5 C6 C7 C8) "Marked" 3 3 6 fC:=hV F35 qf b35 (nF T G_height_of B_Sketch ) T.xT rfl T.xV
 have M_Held:fA l.prog w K mg base (ct C0 C1 C2 C3 C4 C5 C6 C7 C8) "Held" 1 3 7 pB:=hV F36 u5 b36 (pT T B_Sketch ) T.BY rfl T.Cc
 have G_law_made:Def l.prog w K mg base (ct C0 C1 C2 C3 C4 C5 C6 C7 C8) "_law_made" ["way", "some", "by"] 6 aY:=fO F37 vn (PySem.W.mg_of X G a37) b37 (qq T G_law_chained G_law_sign M_Over M_Root M_Led M_Marked M_Held M_Grid )
 have G_law_leaf:Def l.prog w K mg base (ct C0 C1 C2 C3 C4 C5 C6 C7 C8) "_law_leaf" ["cell"] 5 eR:=fO F38 vo (PySem.W.mg_of X G a38) b38 (qr T G_law_sign M_Word M_Sketch )
 have G_law_step:qa l.prog w K mg base (ct C0 C1 C2 C3 C4 C5 C6 C7 C8) "_law_step" ["stack", "cell"] 7 gq:=oq F39 vp (PySem.W.mg_of X G a39) b39 (qs T G_law_many G_law_made G_law_leaf )
 have G_law_nest:Def l.prog w K mg base (ct C0 C1 C2 C3 C4 C5 C6 C7 C8) "_law_nest" ["script"] 8 fP:=fO F40 vq (PySem.W.mg_of X G a40) b40 (qt T G_law_chained G_law_step G_law_leaf )
 have G_law_cell_at:Def l.prog w K mg base (ct C0 C1 C2 C3 C4 C5 C6 C7 C8) "_law_cell_at" ["script", "k"] 1 dE:=fO F41 qg (PySem.W.mg_of X G a41) b41 (nG T  )
 have G_law_whole:Def l.prog w K mg base (ct C0 C1 C2 C3 C4 C5 C6 C7 C8) "_law_whole" ["found"] 1 gQ:=fO F42 u6 (PySem.W.mg_of X G a42) b42 (pU T  )
 have Q_rows:pd l.prog w K mg base (ct C0 C1 C2 C3 C4 C5 C6 C7 C8) "rows" 0 43 cv:=Ce T G_Sketch_rows
 have G_law_sized:Def l.prog w K mg base (ct C0 C1 C2 C3 C4 C5 C6 C7 C8) "_law_sized" ["found"] 44 fS:=fO F43 u7 (PySem.W.mg_of X G a43) b43 (pV T G_law_whole Q_rows)
 exact (vB F44 Hw (Aa T G_law_nest G_law_cell_at G_law_sized G_law_sign M_Word Q_rows Q_row)).imp fun vs H Q E h=>GU h
theorem walk {l:PySem.W.OpenLaw}{q:Program}{loose:List Str}{XP:(Str→Option Value)→Heap→Prop}{YP:World→Heap→Prop}{d:DefRec}{K:Params→Frag}(hn:l.most=some 63)(hdf:d.params.defaults=[])(hY:∀ (w:World) (h:Heap),YP w h→(K w.params).In h)
  (F:∀ (w:World) (mg:Str→Option Value) (fa:Addr) (h:Heap),(K w.params).In h→h.Ns mainGlobals mg→mg d.name=some (.ref fa)→∃ fd:FuncData,(∀ (s:Shared) (u:Value),BindsTo s fd ⟨[u],[]⟩ [("script",u)])∧∀ base:Heap,(K w.params).In base→base.Ns mainGlobals mg→fz l.prog w (K w.params) mg base CX0 45 fa fd ["script"] (spL (K w.params) tQ)) :
  PySem.W.WalkO q loose XP YP l.row.toRowW d [] (fun f vs=>PySem.call f vs) :=
 L2.vI (n:=63) (k:=45) (x:="script") (CX:=fun _=>CX0) (sp:=fun w=>spL (K w.params) tQ) hn (by decide) hdf ⟨rfl,by decide,by decide⟩ hY F (fun w H a ns hl _ hS=>⟨a,ns,rfl,hS,EL ns,fun _ _=>rfl⟩) fun _ _ _ _ _ z=>z
end K18
end
section
namespace HD
open PySem PySem.W
noncomputable def oC (tb:String→Option Builtin)(p:Program)(w:World)(n₀:Nat)(ann:Option Value):Nat→SharedT→Thread→Option SharedT
 | 0,_,_=>none
 | n+1,s,t=>match through t with
  | true=>some s
  | false=>match stepOk n₀ ann t with
   | false=>none
   | true=>match stepT (denote tb) p w s t with
    | some (s',t')=>oC tb p w n₀ ann n s' t'
    | none=>none
theorem pW {tb:String→Option Builtin}{p:Program}{w:World}{n₀:Nat}{ann:Option Value}:∀ {n:Nat} {s s':SharedT} {t:Thread},oC tb p w n₀ ann n s t=some s'→topRun tb p w n₀ ann n s.abs t=some s'.abs
 | 0,s,s',t,h=>by cases h
 | n+1,s,s',t,h=>by
  unfold oC at h
  unfold topRun
  cases h1:through t with
  | true=>rw [h1] at h; cases h; rfl
  | false =>
   rw [h1] at h
   cases h2:stepOk n₀ ann t with
   | false=>rw [h2] at h; cases h
   | true =>
    rw [h2] at h
    cases hs:stepT (denote tb) p w s t with
    | none=>rw [hs] at h; cases h
    | some r=>obtain ⟨s₂,t₂⟩:=r; rw [hs] at h; dsimp only; rw [stepT_spec hs]; exact pW h
def treeOf:Nat→List Obj→BT→BT
 | _,[],t=>t
 | i,o::l,t=>treeOf (i+1) l (t.ins i o)
noncomputable def S0 (w:World)(os:OsState):SharedT:=⟨treeOf 0 (boot_heap w.params).objs.toList .nil,(boot_heap w.params).objs.size,(boot_heap w.params).life, #[],boot_drawn,boot_toks,os⟩
theorem EW (w:World)(os:OsState):(S0 w os).abs=⟨boot_heap w.params,Array.mk [],boot_drawn,boot_toks,os⟩:=by kernel_rfl
theorem HB (w:World):((boot_heap w.params).isNs mainGlobals && (Array.mk []:Array GenState).size == 0)=true∧(boot_heap w.params).objs.size=11∧(boot_heap w.params).nsMap mainGlobals "__annotations__"=some (.ref 6):=⟨by kernel_rfl,by kernel_rfl,by kernel_rfl⟩
abbrev obs (as:List Addr)(s:Shared):List (Option Obj):=as.map s.heap.get?
abbrev val (K:Params→Frag)(w:World):List (Option Obj):=(K w.params).map fun p=>some p.2
noncomputable def lk (p q:Program)(loose:List Str)(Xt:Shared→Bool)(as:List Addr)(B:Heap)(s:Shared) :=
 (staticsOk (importedModules p.main.body) B s.heap && namesBound p s.heap && gensDone s && laidKept B s.heap,openSeen q loose (importedModules p.main.body) Xt true s,as.map s.heap.get?)
noncomputable def all (p q:Program)(loose:List Str)(lv:List (Str × WData))(rc:WRecords)(as:List Addr)(B:Heap)(w:World)(s:SharedT)(N:Nat) :=
 (oC treeTable p w 11 (some (.ref 6)) N s (topStub p)).map fun s=>lk p q loose (fun s=>xlAt q lv s && recOk rc s) as B s.abs
noncomputable def due (q:Program)(loose:List Str)(y:List (Option Obj)):=some (true,openGood q loose,y)
theorem HC {p q:Program}{loose:List Str}{lv:List (Str × WData)}{rc:WRecords}{as:List Addr}{K:Params→Frag}{N:Nat}
  (e:opening p=plainProg p.main.scope.names) (hN:Nat.ble 600 N=true) (f:∀ s,fenceModules? p s=some s)
  (run:∀ w os,all p q loose lv rc as (boot_heap w.params) w (S0 w os) N=due q loose ((K w.params).map fun p=>some p.2)) :
  LeftO p q loose (fun s=>xlAt q lv s && recOk rc s) (obs as) (val K) N:=fun w=>by
 obtain ⟨⟨h,gs,d,k,os⟩,e1,e2⟩:=Option.map_eq_some_iff.mp (boot_open (N:=N) e hN f w)
 obtain ⟨rfl,rfl,rfl,rfl⟩:h=boot_heap w.params∧gs=Array.mk []∧d=boot_drawn∧k=boot_toks:=by simpa using e2
 obtain ⟨z1,z2,z3⟩:=HB w
 obtain ⟨s,r1,r2⟩:=Option.map_eq_some_iff.mp (run w os)
 obtain ⟨l1,l2,l3⟩:_∧_∧_:=by simpa only [lk,Prod.mk.injEq] using r2
 have r:=pW r1
 rw [EW] at r
 have t:topFrom treeTable p w N ⟨boot_heap w.params,Array.mk [],boot_drawn,boot_toks,os⟩=some s.abs:=by
  unfold topFrom
  dsimp only
  rw [z1,z2,z3,r]
  show (match staticsOk (importedModules p.main.body) (boot_heap w.params) s.abs.heap && namesBound p s.abs.heap && gensDone s.abs && laidKept (boot_heap w.params) s.abs.heap with | true=>_ | false=>_)=_
  rw [l1]
 unfold openEnds
 rw [e1]
 show (topFrom treeTable p w N _).map _=_
 rw [t]
 exact congrArg some (Prod.ext l2 l3)
lay_quick HD.all
lay_quick HD.due
end HD
namespace HD
open PySem PySem.W PySem.W.X PyProof.Rows
def dr (s:Stmt):DefRec:=match s with
 | .FunctionDef _ a b _ _ _ sc _ _ p=>⟨"law",a,b,sc,p⟩
 | _=>⟨"law",⟨[],[],none,[],[],none,[]⟩,[],default,⟨0,0,0,0⟩⟩
theorem xX {q:Program}{loose:List Str}{XP:(Str→Option Value)→Heap→Prop}{as:List Addr}{K:Params→Frag}{r:RowW}{d:DefRec}{kwd:List (Str × Expr)}{run:Value→List Value→Sem Value}
  (e:∀ P,as=(K P).map (·.1)) (h:WalkO q loose XP (InK K) r d kwd run):WalkX q loose XP (obs as) (val K) r d kwd run :=
 fun w s₀ s₁ mg mb G y a o pm cd doc dV kV ho hd hcd hD hmg hg args vals as' L hpre hlay hrd hwl hlo=>h w s₀ s₁ mg mb G (InK.keeps w _ _ (InK.of e w s₀ y) L.keeps) a o pm cd doc dV kV ho hd hcd hD hmg hg args vals as' hpre hlay hrd hwl hlo
end HD
end
section
namespace HD
open PySem PySem.W L2 DL
abbrev PW:Program:=PySem.Challenge.pw_inkform_k18_rows_of_any_nest
noncomputable def top (i:Nat):Stmt:=PW.main.body.getD i (.Pass ⟨0,0,0,0⟩)
noncomputable def de (P:Params)(s:Str)(n:Nat)(v:Value):DictEntry:=⟨PyData.keyHash P s,.str s n,v⟩
def fo (n q:Str)(s:Stmt)(pm cd:Value):Obj:=⟨.type "function",none,.func (fnOf n q (aI s) (aw s) (ag s) .none .none .none pm none cd .none), #[]⟩
def co (n q:Str)(a b c i j k l m o p r t:Nat)(u v x y z e f:Value):Obj:=⟨.type "code",none,.fields #[.str n a,.str q b,.str "/claim/cut.py" c,.int i 0,.int j 0,.int k 0,.int l 0,.int m 0,u,v,.int o 0,x,y,z,e,f,.int p 0,.int r 0,.str "/claim/cut.py" t], #[]⟩
noncomputable def K:Params→Frag:=fun P =>
(nat_lit 0,boot_o_0 P) ::
(nat_lit 1,boot_o_1 P) ::
(nat_lit 2,boot_o_2 P) ::
(nat_lit 3, { cls:=.type "dict",data:=Data.dict #[de P "__name__" 165 (.str "law_inkform_k18_rows_of_any_nest" 674),de P "__doc__" 166 .none,de P "__package__" 167 .none,de P "__loader__" 168 (.builtin "__main__.__loader__#opaque"),de P "__spec__" 169 .none,de P "__annotations__" 170 (.ref 6),de P "__builtins__" 171 (.ref 4),de P "__file__" 173 (.str "/claim/cut.py" 172),de P "__cached__" 174 .none,de P "_wall" 193 (.ref 21),de P "BLANK" 197 (.str " " 196),de P "Sketch" 259 (.ref 64),de P "Word" 292 (.ref 92),de P "Chain" 334 (.ref 123),de P "Over" 376 (.ref 156),de P "Root" 416 (.ref 189),de P "Led" 458 (.ref 222),de P "height_of" 465 (.ref 231),de P "left_of" 473 (.ref 238),de P "amid" 481 (.ref 245),de P "Marked" 545 (.ref 295),de P "Held" 585 (.ref 328),de P "Grid" 634 (.ref 364),de P "column_widths" 640 (.ref 371),de P "numbers_by_row" 650 (.ref 378),de P "band_lows" 661 (.ref 385),de P "band_height" 667 (.ref 390),de P "greatest_up" 673 (.ref 395),de P "_law_cell_at" 683 (.ref 402),de P "_law_sign" 691 (.ref 409),de P "_law_leaf" 697 (.ref 414),de P "_law_signs" 703 (.ref 419),de P "_law_many" 711 (.ref 426),de P "_law_chained" 717 (.ref 431),de P "_law_made" 723 (.ref 436),de P "_law_step" 729 (.ref 441),de P "_law_nest" 735 (.ref 446),de P "_law_whole" 742 (.ref 453),de P "_law_sized" 752 (.ref 460),de P "law" 766 (.ref 467)] 40 }) ::
(nat_lit 4,boot_o_4 P) ::
(nat_lit 5,boot_o_5 P) ::
(nat_lit 6,boot_o_6 P) ::
(nat_lit 7,boot_o_7 P) ::
(nat_lit 8,boot_o_8 P) ::
(nat_lit 9,boot_o_9 P) ::
(nat_lit 10,boot_o_10 P) ::
(nat_lit 13,co "<module>" "<module>" 182 183 184 1 0 0 0 0 181 185 1 186 (.ref 11) (.bool false) (.ref 12) .none .none .none .none) ::
(nat_lit 17, { cls:=.type "tuple",data:=Data.seq #[.str "k" 190] }) ::
(nat_lit 20,co "_wall" "_wall" 187 188 189 1 1 0 0 3 181 191 1 192 (.ref 15) (.bool true) (.ref 16) .none (.ref 17) (.ref 18) (.ref 19)) ::
(nat_lit 21,fo "_wall" "_wall" (top 0) (.str "__main__" 164) (.ref 20)) ::
(nat_lit 24, { cls:=.type "dict",data:=Data.dict #[de P "__module__" 205 (.str "inkform.sketches" 194),de P "__qualname__" 207 (.str "Sketch" 206),de P "__firstlineno__" 209 (.int 6 208),de P "__init__" 219 (.ref 35),de P "row" 227 (.ref 42),de P "row_within" 235 (.ref 49),de P "rows" 241 (.ref 54),de P "spots" 248 (.ref 61),de P "__static_attributes__" 252 (.ref 62)] 9 }) ::
(nat_lit 27,co "Sketch" "Sketch" 200 201 202 6 0 0 0 0 181 203 6 204 (.ref 25) (.bool false) (.ref 26) .none .none .none .none) ::
(nat_lit 31, { cls:=.type "tuple",data:=Data.seq #[.str "self" 213,.str "wide" 214,.str "up" 215,.str "down" 216] }) ::
(nat_lit 34,co "__init__" "Sketch.__init__" 210 211 212 8 4 0 0 3 181 217 8 218 (.ref 29) (.bool true) (.ref 30) .none (.ref 31) (.ref 32) (.ref 33)) ::
(nat_lit 35,fo "__init__" "Sketch.__init__" (inClass (top 3) 0) (.str "inkform.sketches" 194) (.ref 34)) ::
(nat_lit 38, { cls:=.type "tuple",data:=Data.seq #[.str "self" 223,.str "k" 224] }) ::
(nat_lit 41,co "row" "Sketch.row" 220 221 222 13 2 0 0 3 181 225 13 226 (.ref 36) (.bool true) (.ref 37) .none (.ref 38) (.ref 39) (.ref 40)) ::
(nat_lit 42,fo "row" "Sketch.row" (inClass (top 3) 1) (.str "inkform.sketches" 194) (.ref 41)) ::
(nat_lit 45, { cls:=.type "tuple",data:=Data.seq #[.str "self" 231,.str "k" 232] }) ::
(nat_lit 48,co "row_within" "Sketch.row_within" 228 229 230 18 2 0 0 3 181 233 18 234 (.ref 43) (.bool true) (.ref 44) .none (.ref 45) (.ref 46) (.ref 47)) ::
(nat_lit 49,fo "row_within" "Sketch.row_within" (inClass (top 3) 2) (.str "inkform.sketches" 194) (.ref 48)) ::
(nat_lit 53,co "rows" "Sketch.rows" 236 237 238 21 1 0 0 3 181 239 21 240 (.ref 50) (.bool true) (.ref 51) .none .none .none (.ref 52)) ::
(nat_lit 54,fo "rows" "Sketch.rows" (inClass (top 3) 3) (.str "inkform.sketches" 194) (.ref 53)) ::
(nat_lit 57, { cls:=.type "tuple",data:=Data.seq #[.str "self" 245] }) ::
(nat_lit 60,co "spots" "Sketch.spots" 242 243 244 24 1 0 0 3 181 246 24 247 (.ref 55) (.bool true) (.ref 56) .none (.ref 57) (.ref 58) (.ref 59)) ::
(nat_lit 61,fo "spots" "Sketch.spots" (inClass (top 3) 4) (.str "inkform.sketches" 194) (.ref 60)) ::
(nat_lit 62, { cls:=.type "tuple",data:=Data.seq #[.str "down" 249,.str "up" 250,.str "wide" 251] }) ::
(nat_lit 63, { cls:=.type "dict",data:=Data.dict #[de P "__module__" 205 (.str "inkform.sketches" 194),de P "__firstlineno__" 209 (.int 6 208),de P "__init__" 219 (.ref 35),de P "row" 227 (.ref 42),de P "row_within" 235 (.ref 49),de P "rows" 241 (.ref 54),de P "spots" 248 (.ref 61),de P "__static_attributes__" 252 (.ref 62),de P "__dict__" 254 (.ref 65),de P "__weakref__" 256 (.ref 66),de P "__doc__" 257 .none] 4 }) ::
(nat_lit 64, { cls:=.type "type",data:=Data.cls { name:="Sketch",bases:=[.type "object"],mro:=[.ref 64,.type "object"],ns:=63,qualname:="Sketch",subclasses:=[.ref 92,.ref 123,.ref 156,.ref 189,.ref 222,.ref 295,.ref 328,.ref 364] },slots:=#[none,none,some (.str "Sketch" 198),some (.str "Sketch" 206),some (.builtin "object.__new__"),some (.bool true)] }) ::
(nat_lit 69, { cls:=.type "tuple",data:=Data.seq #[.ref 64] }) ::
(nat_lit 71, { cls:=.type "dict",data:=Data.dict #[de P "__module__" 267 (.str "inkform.sketches" 194),de P "__qualname__" 269 (.str "Word" 268),de P "__firstlineno__" 271 (.int 26 270),de P "__init__" 279 (.ref 82),de P "row_within" 287 (.ref 89),de P "__static_attributes__" 289 (.ref 90)] 6 }) ::
(nat_lit 74,co "Word" "Word" 262 263 264 26 0 0 0 0 181 265 26 266 (.ref 72) (.bool false) (.ref 73) .none .none .none .none) ::
(nat_lit 78, { cls:=.type "tuple",data:=Data.seq #[.str "self" 275,.str "word" 276] }) ::
(nat_lit 81,co "__init__" "Word.__init__" 272 273 274 28 2 0 0 3 181 277 28 278 (.ref 76) (.bool true) (.ref 77) .none (.ref 78) (.ref 79) (.ref 80)) ::
(nat_lit 82,fo "__init__" "Word.__init__" (inClass (top 4) 0) (.str "inkform.sketches" 194) (.ref 81)) ::
(nat_lit 85, { cls:=.type "tuple",data:=Data.seq #[.str "self" 283,.str "k" 284] }) ::
(nat_lit 88,co "row_within" "Word.row_within" 280 281 282 32 2 0 0 3 181 285 32 286 (.ref 83) (.bool true) (.ref 84) .none (.ref 85) (.ref 86) (.ref 87)) ::
(nat_lit 89,fo "row_within" "Word.row_within" (inClass (top 4) 1) (.str "inkform.sketches" 194) (.ref 88)) ::
(nat_lit 90, { cls:=.type "tuple",data:=Data.seq #[.str "word" 288] }) ::
(nat_lit 91, { cls:=.type "dict",data:=Data.dict #[de P "__module__" 267 (.str "inkform.sketches" 194),de P "__firstlineno__" 271 (.int 26 270),de P "__init__" 279 (.ref 82),de P "row_within" 287 (.ref 89),de P "__static_attributes__" 289 (.ref 90),de P "__doc__" 290 .none] 2 }) ::
(nat_lit 92, { cls:=.type "type",data:=Data.cls { name:="Word",bases:=[.ref 64],mro:=[.ref 92,.ref 64,.type "object"],ns:=91,qualname:="Word" },slots:=#[some (.ref 69),none,some (.str "Word" 260),some (.str "Word" 268),some (.builtin "object.__new__"),some (.bool true)] }) ::
(nat_lit 95, { cls:=.type "tuple",data:=Data.seq #[.ref 64] }) ::
(nat_lit 97, { cls:=.type "dict",data:=Data.dict #[de P "__module__" 300 (.str "inkform.sketches" 194),de P "__qualname__" 302 (.str "Chain" 301),de P "__firstlineno__" 304 (.int 34 303),de P "__init__" 310 (.ref 106),de P "row_within" 321 (.ref 113),de P "spots" 328 (.ref 120),de P "__static_attributes__" 331 (.ref 121)] 7 }) ::
(nat_lit 100,co "Chain" "Chain" 295 296 297 34 0 0 0 0 181 298 34 299 (.ref 98) (.bool false) (.ref 99) .none .none .none .none) ::
(nat_lit 105,co "__init__" "Chain.__init__" 305 306 307 36 3 0 0 3 181 308 36 309 (.ref 102) (.bool true) (.ref 103) .none .none .none (.ref 104)) ::
(nat_lit 106,fo "__init__" "Chain.__init__" (inClass (top 5) 0) (.str "inkform.sketches" 194) (.ref 105)) ::
(nat_lit 109, { cls:=.type "tuple",data:=Data.seq #[.str "self" 314,.str "k" 315,.str "pieces" 316,.str "sign" 317,.str "part" 318] }) ::
(nat_lit 112,co "row_within" "Chain.row_within" 311 312 313 44 2 0 0 3 181 319 44 320 (.ref 107) (.bool true) (.ref 108) .none (.ref 109) (.ref 110) (.ref 111)) ::
(nat_lit 113,fo "row_within" "Chain.row_within" (inClass (top 5) 1) (.str "inkform.sketches" 194) (.ref 112)) ::
(nat_lit 116, { cls:=.type "tuple",data:=Data.seq #[.str "self" 325] }) ::
(nat_lit 119,co "spots" "Chain.spots" 322 323 324 51 1 0 0 3 181 326 51 327 (.ref 114) (.bool true) (.ref 115) .none (.ref 116) (.ref 117) (.ref 118)) ::
(nat_lit 120,fo "spots" "Chain.spots" (inClass (top 5) 2) (.str "inkform.sketches" 194) (.ref 119)) ::
(nat_lit 121, { cls:=.type "tuple",data:=Data.seq #[.str "parts" 329,.str "signs" 330] }) ::
(nat_lit 122, { cls:=.type "dict",data:=Data.dict #[de P "__module__" 300 (.str "inkform.sketches" 194),de P "__firstlineno__" 304 (.int 34 303),de P "__init__" 310 (.ref 106),de P "row_within" 321 (.ref 113),de P "spots" 328 (.ref 120),de P "__static_attributes__" 331 (.ref 121),de P "__doc__" 332 .none] 2 }) ::
(nat_lit 123, { cls:=.type "type",data:=Data.cls { name:="Chain",bases:=[.ref 64],mro:=[.ref 123,.ref 64,.type "object"],ns:=122,qualname:="Chain" },slots:=#[some (.ref 95),none,some (.str "Chain" 293),some (.str "Chain" 301),some (.builtin "object.__new__"),some (.bool true)] }) ::
(nat_lit 126, { cls:=.type "tuple",data:=Data.seq #[.ref 64] }) ::
(nat_lit 128, { cls:=.type "dict",data:=Data.dict #[de P "__module__" 342 (.str "inkform.sketches" 194),de P "__qualname__" 344 (.str "Over" 343),de P "__firstlineno__" 346 (.int 53 345),de P "__init__" 355 (.ref 139),de P "row_within" 363 (.ref 146),de P "spots" 370 (.ref 153),de P "__static_attributes__" 373 (.ref 154)] 7 }) ::
(nat_lit 131,co "Over" "Over" 337 338 339 53 0 0 0 0 181 340 53 341 (.ref 129) (.bool false) (.ref 130) .none .none .none .none) ::
(nat_lit 135, { cls:=.type "tuple",data:=Data.seq #[.str "self" 350,.str "above" 351,.str "beneath" 352] }) ::
(nat_lit 138,co "__init__" "Over.__init__" 347 348 349 55 3 0 0 3 181 353 55 354 (.ref 133) (.bool true) (.ref 134) .none (.ref 135) (.ref 136) (.ref 137)) ::
(nat_lit 139,fo "__init__" "Over.__init__" (inClass (top 6) 0) (.str "inkform.sketches" 194) (.ref 138)) ::
(nat_lit 142, { cls:=.type "tuple",data:=Data.seq #[.str "self" 359,.str "k" 360] }) ::
(nat_lit 145,co "row_within" "Over.row_within" 356 357 358 60 2 0 0 3 181 361 60 362 (.ref 140) (.bool true) (.ref 141) .none (.ref 142) (.ref 143) (.ref 144)) ::
(nat_lit 146,fo "row_within" "Over.row_within" (inClass (top 6) 1) (.str "inkform.sketches" 194) (.ref 145)) ::
(nat_lit 149, { cls:=.type "tuple",data:=Data.seq #[.str "self" 367] }) ::
(nat_lit 152,co "spots" "Over.spots" 364 365 366 67 1 0 0 3 181 368 67 369 (.ref 147) (.bool true) (.ref 148) .none (.ref 149) (.ref 150) (.ref 151)) ::
(nat_lit 153,fo "spots" "Over.spots" (inClass (top 6) 2) (.str "inkform.sketches" 194) (.ref 152)) ::
(nat_lit 154, { cls:=.type "tuple",data:=Data.seq #[.str "above" 371,.str "beneath" 372] }) ::
(nat_lit 155, { cls:=.type "dict",data:=Data.dict #[de P "__module__" 342 (.str "inkform.sketches" 194),de P "__firstlineno__" 346 (.int 53 345),de P "__init__" 355 (.ref 139),de P "row_within" 363 (.ref 146),de P "spots" 370 (.ref 153),de P "__static_attributes__" 373 (.ref 154),de P "__doc__" 374 .none] 2 }) ::
(nat_lit 156, { cls:=.type "type",data:=Data.cls { name:="Over",bases:=[.ref 64],mro:=[.ref 156,.ref 64,.type "object"],ns:=155,qualname:="Over" },slots:=#[some (.ref 126),none,some (.str "Over" 335),some (.str "Over" 343),some (.builtin "object.__new__"),some (.bool true)] }) ::
(nat_lit 159, { cls:=.type "tuple",data:=Data.seq #[.ref 64] }) ::
(nat_lit 161, { cls:=.type "dict",data:=Data.dict #[de P "__module__" 384 (.str "inkform.sketches" 194),de P "__qualname__" 386 (.str "Root" 385),de P "__firstlineno__" 388 (.int 69 387),de P "__init__" 396 (.ref 172),de P "row_within" 404 (.ref 179),de P "spots" 411 (.ref 186),de P "__static_attributes__" 413 (.ref 187)] 7 }) ::
(nat_lit 164,co "Root" "Root" 379 380 381 69 0 0 0 0 181 382 69 383 (.ref 162) (.bool false) (.ref 163) .none .none .none .none) ::
(nat_lit 168, { cls:=.type "tuple",data:=Data.seq #[.str "self" 392,.str "inner" 393] }) ::
(nat_lit 171,co "__init__" "Root.__init__" 389 390 391 71 2 0 0 3 181 394 71 395 (.ref 166) (.bool true) (.ref 167) .none (.ref 168) (.ref 169) (.ref 170)) ::
(nat_lit 172,fo "__init__" "Root.__init__" (inClass (top 7) 0) (.str "inkform.sketches" 194) (.ref 171)) ::
(nat_lit 175, { cls:=.type "tuple",data:=Data.seq #[.str "self" 400,.str "k" 401] }) ::
(nat_lit 178,co "row_within" "Root.row_within" 397 398 399 75 2 0 0 3 181 402 75 403 (.ref 173) (.bool true) (.ref 174) .none (.ref 175) (.ref 176) (.ref 177)) ::
(nat_lit 179,fo "row_within" "Root.row_within" (inClass (top 7) 1) (.str "inkform.sketches" 194) (.ref 178)) ::
(nat_lit 182, { cls:=.type "tuple",data:=Data.seq #[.str "self" 408] }) ::
(nat_lit 185,co "spots" "Root.spots" 405 406 407 80 1 0 0 3 181 409 80 410 (.ref 180) (.bool true) (.ref 181) .none (.ref 182) (.ref 183) (.ref 184)) ::
(nat_lit 186,fo "spots" "Root.spots" (inClass (top 7) 2) (.str "inkform.sketches" 194) (.ref 185)) ::
(nat_lit 187, { cls:=.type "tuple",data:=Data.seq #[.str "inner" 412] }) ::
(nat_lit 188, { cls:=.type "dict",data:=Data.dict #[de P "__module__" 384 (.str "inkform.sketches" 194),de P "__firstlineno__" 388 (.int 69 387),de P "__init__" 396 (.ref 172),de P "row_within" 404 (.ref 179),de P "spots" 411 (.ref 186),de P "__static_attributes__" 413 (.ref 187),de P "__doc__" 414 .none] 2 }) ::
(nat_lit 189, { cls:=.type "type",data:=Data.cls { name:="Root",bases:=[.ref 64],mro:=[.ref 189,.ref 64,.type "object"],ns:=188,qualname:="Root" },slots:=#[some (.ref 159),none,some (.str "Root" 377),some (.str "Root" 385),some (.builtin "object.__new__"),some (.bool true)] }) ::
(nat_lit 192, { cls:=.type "tuple",data:=Data.seq #[.ref 64] }) ::
(nat_lit 194, { cls:=.type "dict",data:=Data.dict #[de P "__module__" 424 (.str "inkform.sketches" 194),de P "__qualname__" 426 (.str "Led" 425),de P "__firstlineno__" 428 (.int 82 427),de P "__init__" 437 (.ref 205),de P "row_within" 445 (.ref 212),de P "spots" 452 (.ref 219),de P "__static_attributes__" 455 (.ref 220)] 7 }) ::
(nat_lit 197,co "Led" "Led" 419 420 421 82 0 0 0 0 181 422 82 423 (.ref 195) (.bool false) (.ref 196) .none .none .none .none) ::
(nat_lit 201, { cls:=.type "tuple",data:=Data.seq #[.str "self" 432,.str "sign" 433,.str "inner" 434] }) ::
(nat_lit 204,co "__init__" "Led.__init__" 429 430 431 84 3 0 0 3 181 435 84 436 (.ref 199) (.bool true) (.ref 200) .none (.ref 201) (.ref 202) (.ref 203)) ::
(nat_lit 205,fo "__init__" "Led.__init__" (inClass (top 8) 0) (.str "inkform.sketches" 194) (.ref 204)) ::
(nat_lit 208, { cls:=.type "tuple",data:=Data.seq #[.str "self" 441,.str "k" 442] }) ::
(nat_lit 211,co "row_within" "Led.row_within" 438 439 440 89 2 0 0 3 181 443 89 444 (.ref 206) (.bool true) (.ref 207) .none (.ref 208) (.ref 209) (.ref 210)) ::
(nat_lit 212,fo "row_within" "Led.row_within" (inClass (top 8) 1) (.str "inkform.sketches" 194) (.ref 211)) ::
(nat_lit 215, { cls:=.type "tuple",data:=Data.seq #[.str "self" 449] }) ::
(nat_lit 218,co "spots" "Led.spots" 446 447 448 92 1 0 0 3 181 450 92 451 (.ref 213) (.bool true) (.ref 214) .none (.ref 215) (.ref 216) (.ref 217)) ::
(nat_lit 219,fo "spots" "Led.spots" (inClass (top 8) 2) (.str "inkform.sketches" 194) (.ref 218)) ::
(nat_lit 220, { cls:=.type "tuple",data:=Data.seq #[.str "inner" 453,.str "sign" 454] }) ::
(nat_lit 221, { cls:=.type "dict",data:=Data.dict #[de P "__module__" 424 (.str "inkform.sketches" 194),de P "__firstlineno__" 428 (.int 82 427),de P "__init__" 437 (.ref 205),de P "row_within" 445 (.ref 212),de P "spots" 452 (.ref 219),de P "__static_attributes__" 455 (.ref 220),de P "__doc__" 456 .none] 2 }) ::
(nat_lit 222, { cls:=.type "type",data:=Data.cls { name:="Led",bases:=[.ref 64],mro:=[.ref 222,.ref 64,.type "object"],ns:=221,qualname:="Led" },slots:=#[some (.ref 192),none,some (.str "Led" 417),some (.str "Led" 425),some (.builtin "object.__new__"),some (.bool true)] }) ::
(nat_lit 227, { cls:=.type "tuple",data:=Data.seq #[.str "sketch" 462] }) ::
(nat_lit 230,co "height_of" "height_of" 459 460 461 94 1 0 0 3 181 463 94 464 (.ref 225) (.bool true) (.ref 226) .none (.ref 227) (.ref 228) (.ref 229)) ::
(nat_lit 231,fo "height_of" "height_of" (top 9) (.str "inkform.sketches" 194) (.ref 230)) ::
(nat_lit 234, { cls:=.type "tuple",data:=Data.seq #[.str "narrow" 469,.str "wide" 470] }) ::
(nat_lit 237,co "left_of" "left_of" 466 467 468 96 2 0 0 3 181 471 96 472 (.ref 232) (.bool true) (.ref 233) .none (.ref 234) (.ref 235) (.ref 236)) ::
(nat_lit 238,fo "left_of" "left_of" (top 10) (.str "inkform.sketches" 194) (.ref 237)) ::
(nat_lit 241, { cls:=.type "tuple",data:=Data.seq #[.str "text" 477,.str "wide" 478] }) ::
(nat_lit 244,co "amid" "amid" 474 475 476 98 2 0 0 3 181 479 98 480 (.ref 239) (.bool true) (.ref 240) .none (.ref 241) (.ref 242) (.ref 243)) ::
(nat_lit 245,fo "amid" "amid" (top 11) (.str "inkform.sketches" 194) (.ref 244)) ::
(nat_lit 246, { cls:=.type "tuple",data:=Data.seq #[.ref 64] }) ::
(nat_lit 248, { cls:=.type "dict",data:=Data.dict #[de P "__module__" 491 (.str "inkform.grown" 482),de P "__qualname__" 493 (.str "Marked" 492),de P "__firstlineno__" 495 (.int 101 494),de P "__init__" 501 (.ref 257),de P "row_within" 509 (.ref 264),de P "mark_row" 517 (.ref 271),de P "raised_low" 524 (.ref 278),de P "lowered_low" 531 (.ref 285),de P "spots" 538 (.ref 292),de P "__static_attributes__" 542 (.ref 293)] 10 }) ::
(nat_lit 251,co "Marked" "Marked" 486 487 488 101 0 0 0 0 181 489 101 490 (.ref 249) (.bool false) (.ref 250) .none .none .none .none) ::
(nat_lit 256,co "__init__" "Marked.__init__" 496 497 498 103 4 0 0 3 181 499 103 500 (.ref 253) (.bool true) (.ref 254) .none .none .none (.ref 255)) ::
(nat_lit 257,fo "__init__" "Marked.__init__" (inClass (top 13) 0) (.str "inkform.grown" 482) (.ref 256)) ::
(nat_lit 260, { cls:=.type "tuple",data:=Data.seq #[.str "self" 505,.str "k" 506] }) ::
(nat_lit 263,co "row_within" "Marked.row_within" 502 503 504 113 2 0 0 3 181 507 113 508 (.ref 258) (.bool true) (.ref 259) .none (.ref 260) (.ref 261) (.ref 262)) ::
(nat_lit 264,fo "row_within" "Marked.row_within" (inClass (top 13) 1) (.str "inkform.grown" 482) (.ref 263)) ::
(nat_lit 267, { cls:=.type "tuple",data:=Data.seq #[.str "self" 513,.str "k" 514] }) ::
(nat_lit 270,co "mark_row" "Marked.mark_row" 510 511 512 116 2 0 0 3 181 515 116 516 (.ref 265) (.bool true) (.ref 266) .none (.ref 267) (.ref 268) (.ref 269)) ::
(nat_lit 271,fo "mark_row" "Marked.mark_row" (inClass (top 13) 2) (.str "inkform.grown" 482) (.ref 270)) ::
(nat_lit 274, { cls:=.type "tuple",data:=Data.seq #[.str "self" 521] }) ::
(nat_lit 277,co "raised_low" "Marked.raised_low" 518 519 520 123 1 0 0 3 181 522 123 523 (.ref 272) (.bool true) (.ref 273) .none (.ref 274) (.ref 275) (.ref 276)) ::
(nat_lit 278,fo "raised_low" "Marked.raised_low" (inClass (top 13) 3) (.str "inkform.grown" 482) (.ref 277)) ::
(nat_lit 281, { cls:=.type "tuple",data:=Data.seq #[.str "self" 528] }) ::
(nat_lit 284,co "lowered_low" "Marked.lowered_low" 525 526 527 126 1 0 0 3 181 529 126 530 (.ref 279) (.bool true) (.ref 280) .none (.ref 281) (.ref 282) (.ref 283)) ::
(nat_lit 285,fo "lowered_low" "Marked.lowered_low" (inClass (top 13) 4) (.str "inkform.grown" 482) (.ref 284)) ::
(nat_lit 288, { cls:=.type "tuple",data:=Data.seq #[.str "self" 535] }) ::
(nat_lit 291,co "spots" "Marked.spots" 532 533 534 129 1 0 0 3 181 536 129 537 (.ref 286) (.bool true) (.ref 287) .none (.ref 288) (.ref 289) (.ref 290)) ::
(nat_lit 292,fo "spots" "Marked.spots" (inClass (top 13) 5) (.str "inkform.grown" 482) (.ref 291)) ::
(nat_lit 293, { cls:=.type "tuple",data:=Data.seq #[.str "item" 539,.str "lowered" 540,.str "raised" 541] }) ::
(nat_lit 294, { cls:=.type "dict",data:=Data.dict #[de P "__module__" 491 (.str "inkform.grown" 482),de P "__firstlineno__" 495 (.int 101 494),de P "__init__" 501 (.ref 257),de P "row_within" 509 (.ref 264),de P "mark_row" 517 (.ref 271),de P "raised_low" 524 (.ref 278),de P "lowered_low" 531 (.ref 285),de P "spots" 538 (.ref 292),de P "__static_attributes__" 542 (.ref 293),de P "__doc__" 543 .none] 2 }) ::
(nat_lit 295, { cls:=.type "type",data:=Data.cls { name:="Marked",bases:=[.ref 64],mro:=[.ref 295,.ref 64,.type "object"],ns:=294,qualname:="Marked" },slots:=#[some (.ref 246),none,some (.str "Marked" 484),some (.str "Marked" 492),some (.builtin "object.__new__"),some (.bool true)] }) ::
(nat_lit 298, { cls:=.type "tuple",data:=Data.seq #[.ref 64] }) ::
(nat_lit 300, { cls:=.type "dict",data:=Data.dict #[de P "__module__" 553 (.str "inkform.grown" 482),de P "__qualname__" 555 (.str "Held" 554),de P "__firstlineno__" 557 (.int 131 556),de P "__init__" 565 (.ref 311),de P "row_within" 573 (.ref 318),de P "spots" 580 (.ref 325),de P "__static_attributes__" 582 (.ref 326)] 7 }) ::
(nat_lit 303,co "Held" "Held" 548 549 550 131 0 0 0 0 181 551 131 552 (.ref 301) (.bool false) (.ref 302) .none .none .none .none) ::
(nat_lit 307, { cls:=.type "tuple",data:=Data.seq #[.str "self" 561,.str "inner" 562] }) ::
(nat_lit 310,co "__init__" "Held.__init__" 558 559 560 133 2 0 0 3 181 563 133 564 (.ref 305) (.bool true) (.ref 306) .none (.ref 307) (.ref 308) (.ref 309)) ::
(nat_lit 311,fo "__init__" "Held.__init__" (inClass (top 14) 0) (.str "inkform.grown" 482) (.ref 310)) ::
(nat_lit 314, { cls:=.type "tuple",data:=Data.seq #[.str "self" 569,.str "k" 570] }) ::
(nat_lit 317,co "row_within" "Held.row_within" 566 567 568 137 2 0 0 3 181 571 137 572 (.ref 312) (.bool true) (.ref 313) .none (.ref 314) (.ref 315) (.ref 316)) ::
(nat_lit 318,fo "row_within" "Held.row_within" (inClass (top 14) 1) (.str "inkform.grown" 482) (.ref 317)) ::
(nat_lit 321, { cls:=.type "tuple",data:=Data.seq #[.str "self" 577] }) ::
(nat_lit 324,co "spots" "Held.spots" 574 575 576 144 1 0 0 3 181 578 144 579 (.ref 319) (.bool true) (.ref 320) .none (.ref 321) (.ref 322) (.ref 323)) ::
(nat_lit 325,fo "spots" "Held.spots" (inClass (top 14) 2) (.str "inkform.grown" 482) (.ref 324)) ::
(nat_lit 326, { cls:=.type "tuple",data:=Data.seq #[.str "inner" 581] }) ::
(nat_lit 327, { cls:=.type "dict",data:=Data.dict #[de P "__module__" 553 (.str "inkform.grown" 482),de P "__firstlineno__" 557 (.int 131 556),de P "__init__" 565 (.ref 311),de P "row_within" 573 (.ref 318),de P "spots" 580 (.ref 325),de P "__static_attributes__" 582 (.ref 326),de P "__doc__" 583 .none] 2 }) ::
(nat_lit 328, { cls:=.type "type",data:=Data.cls { name:="Held",bases:=[.ref 64],mro:=[.ref 328,.ref 64,.type "object"],ns:=327,qualname:="Held" },slots:=#[some (.ref 298),none,some (.str "Held" 546),some (.str "Held" 554),some (.builtin "object.__new__"),some (.bool true)] }) ::
(nat_lit 331, { cls:=.type "tuple",data:=Data.seq #[.ref 64] }) ::
(nat_lit 333, { cls:=.type "dict",data:=Data.dict #[de P "__module__" 593 (.str "inkform.grown" 482),de P "__qualname__" 595 (.str "Grid" 594),de P "__firstlineno__" 597 (.int 146 596),de P "__init__" 603 (.ref 342),de P "row_within" 613 (.ref 349),de P "band_row" 619 (.ref 354),de P "spots" 626 (.ref 361),de P "__static_attributes__" 631 (.ref 362)] 8 }) ::
(nat_lit 336,co "Grid" "Grid" 588 589 590 146 0 0 0 0 181 591 146 592 (.ref 334) (.bool false) (.ref 335) .none .none .none .none) ::
(nat_lit 341,co "__init__" "Grid.__init__" 598 599 600 148 2 0 0 3 181 601 148 602 (.ref 338) (.bool true) (.ref 339) .none .none .none (.ref 340)) ::
(nat_lit 342,fo "__init__" "Grid.__init__" (inClass (top 15) 0) (.str "inkform.grown" 482) (.ref 341)) ::
(nat_lit 345, { cls:=.type "tuple",data:=Data.seq #[.str "self" 607,.str "k" 608,.str "number" 609,.str "inside" 610] }) ::
(nat_lit 348,co "row_within" "Grid.row_within" 604 605 606 157 2 0 0 3 181 611 157 612 (.ref 343) (.bool true) (.ref 344) .none (.ref 345) (.ref 346) (.ref 347)) ::
(nat_lit 349,fo "row_within" "Grid.row_within" (inClass (top 15) 1) (.str "inkform.grown" 482) (.ref 348)) ::
(nat_lit 353,co "band_row" "Grid.band_row" 614 615 616 162 3 0 0 3 181 617 162 618 (.ref 350) (.bool true) (.ref 351) .none .none .none (.ref 352)) ::
(nat_lit 354,fo "band_row" "Grid.band_row" (inClass (top 15) 2) (.str "inkform.grown" 482) (.ref 353)) ::
(nat_lit 357, { cls:=.type "tuple",data:=Data.seq #[.str "self" 623] }) ::
(nat_lit 360,co "spots" "Grid.spots" 620 621 622 166 1 0 0 3 181 624 166 625 (.ref 355) (.bool true) (.ref 356) .none (.ref 357) (.ref 358) (.ref 359)) ::
(nat_lit 361,fo "spots" "Grid.spots" (inClass (top 15) 3) (.str "inkform.grown" 482) (.ref 360)) ::
(nat_lit 362, { cls:=.type "tuple",data:=Data.seq #[.str "band_numbers" 627,.str "bands" 628,.str "lows" 629,.str "widths" 630] }) ::
(nat_lit 363, { cls:=.type "dict",data:=Data.dict #[de P "__module__" 593 (.str "inkform.grown" 482),de P "__firstlineno__" 597 (.int 146 596),de P "__init__" 603 (.ref 342),de P "row_within" 613 (.ref 349),de P "band_row" 619 (.ref 354),de P "spots" 626 (.ref 361),de P "__static_attributes__" 631 (.ref 362),de P "__doc__" 632 .none] 2 }) ::
(nat_lit 364, { cls:=.type "type",data:=Data.cls { name:="Grid",bases:=[.ref 64],mro:=[.ref 364,.ref 64,.type "object"],ns:=363,qualname:="Grid" },slots:=#[some (.ref 331),none,some (.str "Grid" 586),some (.str "Grid" 594),some (.builtin "object.__new__"),some (.bool true)] }) ::
(nat_lit 370,co "column_widths" "column_widths" 635 636 637 168 1 0 0 3 181 638 168 639 (.ref 367) (.bool true) (.ref 368) .none .none .none (.ref 369)) ::
(nat_lit 371,fo "column_widths" "column_widths" (top 16) (.str "inkform.grown" 482) (.ref 370)) ::
(nat_lit 374, { cls:=.type "tuple",data:=Data.seq #[.str "bands" 644,.str "numbers" 645,.str "n" 646,.str "band" 647] }) ::
(nat_lit 377,co "numbers_by_row" "numbers_by_row" 641 642 643 170 1 0 0 3 181 648 170 649 (.ref 372) (.bool true) (.ref 373) .none (.ref 374) (.ref 375) (.ref 376)) ::
(nat_lit 378,fo "numbers_by_row" "numbers_by_row" (top 17) (.str "inkform.grown" 482) (.ref 377)) ::
(nat_lit 381, { cls:=.type "tuple",data:=Data.seq #[.str "bands" 654,.str "up" 655,.str "lows" 656,.str "top" 657,.str "band" 658] }) ::
(nat_lit 384,co "band_lows" "band_lows" 651 652 653 177 2 0 0 3 181 659 177 660 (.ref 379) (.bool true) (.ref 380) .none (.ref 381) (.ref 382) (.ref 383)) ::
(nat_lit 385,fo "band_lows" "band_lows" (top 18) (.str "inkform.grown" 482) (.ref 384)) ::
(nat_lit 389,co "band_height" "band_height" 662 663 664 184 1 0 0 3 181 665 184 666 (.ref 386) (.bool true) (.ref 387) .none .none .none (.ref 388)) ::
(nat_lit 390,fo "band_height" "band_height" (top 19) (.str "inkform.grown" 482) (.ref 389)) ::
(nat_lit 394,co "greatest_up" "greatest_up" 668 669 670 186 1 0 0 3 181 671 186 672 (.ref 391) (.bool true) (.ref 392) .none .none .none (.ref 393)) ::
(nat_lit 395,fo "greatest_up" "greatest_up" (top 20) (.str "inkform.grown" 482) (.ref 394)) ::
(nat_lit 398, { cls:=.type "tuple",data:=Data.seq #[.str "script" 679,.str "k" 680] }) ::
(nat_lit 401,co "_law_cell_at" "_law_cell_at" 676 677 678 189 2 0 0 3 181 681 189 682 (.ref 396) (.bool true) (.ref 397) .none (.ref 398) (.ref 399) (.ref 400)) ::
(nat_lit 402,fo "_law_cell_at" "_law_cell_at" (top 22) (.str "law_inkform_k18_rows_of_any_nest" 674) (.ref 401)) ::
(nat_lit 405, { cls:=.type "tuple",data:=Data.seq #[.str "cell" 687,.str "some" 688] }) ::
(nat_lit 408,co "_law_sign" "_law_sign" 684 685 686 193 1 0 0 3 181 689 193 690 (.ref 403) (.bool true) (.ref 404) .none (.ref 405) (.ref 406) (.ref 407)) ::
(nat_lit 409,fo "_law_sign" "_law_sign" (top 23) (.str "law_inkform_k18_rows_of_any_nest" 674) (.ref 408)) ::
(nat_lit 413,co "_law_leaf" "_law_leaf" 692 693 694 197 1 0 0 3 181 695 197 696 (.ref 410) (.bool true) (.ref 411) .none .none .none (.ref 412)) ::
(nat_lit 414,fo "_law_leaf" "_law_leaf" (top 24) (.str "law_inkform_k18_rows_of_any_nest" 674) (.ref 413)) ::
(nat_lit 418,co "_law_signs" "_law_signs" 698 699 700 205 2 0 0 3 181 701 205 702 (.ref 415) (.bool true) (.ref 416) .none .none .none (.ref 417)) ::
(nat_lit 419,fo "_law_signs" "_law_signs" (top 25) (.str "law_inkform_k18_rows_of_any_nest" 674) (.ref 418)) ::
(nat_lit 422, { cls:=.type "tuple",data:=Data.seq #[.str "way" 707,.str "by" 708] }) ::
(nat_lit 425,co "_law_many" "_law_many" 704 705 706 207 2 0 0 3 181 709 207 710 (.ref 420) (.bool true) (.ref 421) .none (.ref 422) (.ref 423) (.ref 424)) ::
(nat_lit 426,fo "_law_many" "_law_many" (top 26) (.str "law_inkform_k18_rows_of_any_nest" 674) (.ref 425)) ::
(nat_lit 430,co "_law_chained" "_law_chained" 712 713 714 217 2 0 0 3 181 715 217 716 (.ref 427) (.bool true) (.ref 428) .none .none .none (.ref 429)) ::
(nat_lit 431,fo "_law_chained" "_law_chained" (top 27) (.str "law_inkform_k18_rows_of_any_nest" 674) (.ref 430)) ::
(nat_lit 435,co "_law_made" "_law_made" 718 719 720 220 3 0 0 3 181 721 220 722 (.ref 432) (.bool true) (.ref 433) .none .none .none (.ref 434)) ::
(nat_lit 436,fo "_law_made" "_law_made" (top 28) (.str "law_inkform_k18_rows_of_any_nest" 674) (.ref 435)) ::
(nat_lit 440,co "_law_step" "_law_step" 724 725 726 241 2 0 0 3 181 727 241 728 (.ref 437) (.bool true) (.ref 438) .none .none .none (.ref 439)) ::
(nat_lit 441,fo "_law_step" "_law_step" (top 29) (.str "law_inkform_k18_rows_of_any_nest" 674) (.ref 440)) ::
(nat_lit 445,co "_law_nest" "_law_nest" 730 731 732 252 1 0 0 3 181 733 252 734 (.ref 442) (.bool true) (.ref 443) .none .none .none (.ref 444)) ::
(nat_lit 446,fo "_law_nest" "_law_nest" (top 30) (.str "law_inkform_k18_rows_of_any_nest" 674) (.ref 445)) ::
(nat_lit 449, { cls:=.type "tuple",data:=Data.seq #[.str "found" 739] }) ::
(nat_lit 452,co "_law_whole" "_law_whole" 736 737 738 261 1 0 0 3 181 740 261 741 (.ref 447) (.bool true) (.ref 448) .none (.ref 449) (.ref 450) (.ref 451)) ::
(nat_lit 453,fo "_law_whole" "_law_whole" (top 31) (.str "law_inkform_k18_rows_of_any_nest" 674) (.ref 452)) ::
(nat_lit 456, { cls:=.type "tuple",data:=Data.seq #[.str "found" 746,.str "number" 747,.str "told" 748,.str "row" 749] }) ::
(nat_lit 459,co "_law_sized" "_law_sized" 743 744 745 263 1 0 0 3 181 750 263 751 (.ref 454) (.bool true) (.ref 455) .none (.ref 456) (.ref 457) (.ref 458)) ::
(nat_lit 460,fo "_law_sized" "_law_sized" (top 32) (.str "law_inkform_k18_rows_of_any_nest" 674) (.ref 459)) ::
(nat_lit 463, { cls:=.type "tuple",data:=Data.seq #[.str "script" 756,.str "found" 757,.str "told" 758,.str "kept" 759,.str "k" 760,.str "row" 761,.str "far" 762,.str "other" 763] }) ::
(nat_lit 466,co "law" "law" 753 754 755 274 1 0 0 3 181 764 274 765 (.ref 461) (.bool true) (.ref 462) .none (.ref 463) (.ref 464) (.ref 465)) ::
(nat_lit 467,fo "law" "law" (top 33) (.str "law_inkform_k18_rows_of_any_nest" 674) (.ref 466))::[]
def as:List Addr:=[0,1,2,3,4,5,6,7,8,9,10,13,17,20,21,24,27,31,34,35,38,41,42,45,48,49,53,54,57,60,61,62,63,64,69,71,74,78,81,82,85,88,89,90,91,92,95,97,100,105,106,109,112,113,116,119,120,121,122,123,126,128,131,135,138,139,142,145,146,149,152,153,154,155,156,159,161,164,168,171,172,175,178,179,182,185,186,187,188,189,192,194,197,201,204,205,208,211,212,215,218,219,220,221,222,227,230,231,234,237,238,241,244,245,246,248,251,256,257,260,263,264,267,270,271,274,277,278,281,284,285,288,291,292,293,294,295,298,300,303,307,310,311,314,317,318,321,324,325,326,327,328,331,333,336,341,342,345,348,349,353,354,357,360,361,362,363,364,370,371,374,377,378,381,384,385,389,390,394,395,398,401,402,405,408,409,413,414,418,419,422,425,426,430,431,435,436,440,441,445,446,449,452,453,456,459,460,463,466,467]
theorem HE (P:Params):as=(K P).map (·.1):=by kernel_rfl
def Q:Program:=view PW [33]
def lo:List Str:=(PW.main.scope.names.map (·.1)).filter fun n=>n != "law"
theorem HF (w:World)(os:OsState):PySem.W.Fast.tw3607735241503979981 PW Q lo [] [] as (boot_heap w.params) w (S0 w os) 100000=PySem.W.Fast.tw20032997767342111 Q lo ((K w.params).map fun p=>some p.2):=by kernel_rfl
theorem run (w:World):∀ os,all PW Q lo [] [] as (boot_heap w.params) w (S0 w os) 100000=due Q lo ((K w.params).map fun p=>some p.2):=by
 rw [PySem.W.Fast.te3607735241503979981,PySem.W.Fast.te20032997767342111]
 exact HF w
theorem left:LeftO PW Q lo (fun s=>xlAt Q [] s && recOk [] s) (obs as) (val K) 100000 :=
 HC (by kernel_rfl) (by decide) (fun s=>by kernel_rfl) run
end HD
end
end
open PySem PySem.W PyProof.Rows
set_option maxRecDepth 100000 in
set_option maxHeartbeats 0 in
theorem PySem.Challenge.cw_inkform_k18_rows_of_any_nest_holds : PySem.Challenge.rw_inkform_k18_rows_of_any_nest.Holds := by
 w_on
 refine holds_law (by rw [PySem.W.Fast.te9446332074065402090]; kernel_rfl) fun said => ?_
 refine holds_openX (q := HD.Q) (loose := HD.lo) (Xt := fun s => xlAt HD.Q [] s && recOk [] s) (XP := XL HD.Q []) (Yf := HD.obs HD.as) (Ya := HD.val HD.K) (d := HD.dr (HD.top 33)) (kwd := []) (N := 100000) HD.left (fun s e => xl_of s (Bool.and_eq_true_iff.mp e).1) XL.keeps (by kernel_rfl) (by kernel_rfl) (by kernel_rfl) (fun s e => recFacts_of (Bool.and_eq_true_iff.mp e).2) (by rfl) said (by decide +kernel) ⟨rfl, rfl, rfl, rfl, rfl, by decide +kernel⟩ ?hw ?hc
 case hw => w_witness2
 case hc =>
  k_fill
  refine HD.xX HD.HE ?_
  refine K18.walk (l := PySem.Challenge.rw_inkform_k18_rows_of_any_nest) rfl (by kernel_rfl) (fun w h Y => Y) ?F
  case F =>
   intro w mg fa h KX G hmg
   refine' K18.all_mk KX G hmg ?_ ?_ ?_ ?_ ?_ ?_ ?_ ?_ ?_ ?_ ?_ ?_ ?_ ?_ ?_ ?_ ?_ ?_ ?_ ?_ ?_ ?_ ?_ ?_ ?_ ?_ ?_ ?_ ?_ ?_ ?_ ?_ ?_ ?_ ?_ ?_ ?_ ?_ ?_ ?_ ?_ ?_ ?_ ?_ ?_ ?_ ?_ ?_ ?_ ?_ ?_ ?_ ?_ ?_ ?_ ?_ ?_ ?_ ?_ ?_ ?_ ?_ ?_ ?_ ?_ ?_ ?_ ?_ ?_ ?_ ?_ ?_ ?_ ?_ ?_ ?_ ?_ ?_ ?_ ?_ ?_ ?_ ?_ ?_ ?_ ?_ ?_ ?_ ?_ ?_ ?_ ?_ ?_ ?_ ?_ ?_ ?_ ?_ ?_ ?_ ?_ ?_ ?_ ?_ ?_ ?_ ?_ ?_ ?_ ?_ ?_ ?_ ?_ ?_ ?_ ?_ ?_ ?_ ?_ ?_ ?_ ?_ ?_ ?_ ?_ ?_ ?_ ?_ ?_ ?_ ?_ ?_ ?_ ?_ ?_ ?_ ?_ ?_ ?_ ?_ ?_ ?_ ?_ ?_ ?_ ?_ ?_ ?_ ?_ ?_ ?_ ?_ ?_ ?_ ?_ ?_ ?_ ?_ ?_ ?_ ?_ ?_ ?_ ?_ ?_ ?_ ?_ ?_ ?_ ?_ ?_ ?_ ?_ ?_ ?_ ?_ ?_ ?_ ?_ ?_ ?_ ?_ ?_ ?_ ?_ ?_ ?_ ?_ ?_ ?_ ?_ ?_ ?_ ?_ ?_ ?_ ?_ ?_ ?_ ?_ ?_ ?_ ?_ ?_ ?_ ?_ ?_ ?_ ?_ ?_ ?_ ?_ ?_ ?_ ?_ ?_ ?_ ?_ ?_ ?_ ?_ ?_ ?_ ?_ ?_ ?_ ?_ ?_ ?_ ?_ ?_ ?_ ?_ ?_ ?_ ?_ ?_ ?_ ?_ ?_ ?_ ?_ ?_ ?_ ?_ ?_ ?_ ?_ ?_ ?_ ?_ ?_ ?_ ?_ ?_ ?_ ?_ ?_ ?_ ?_ ?_ ?_ ?_ ?_ ?_ ?_ ?_ ?_ ?_ ?_ ?_ ?_ ?_ ?_ ?_ ?_ ?_ ?_ ?_ ?_ ?_ ?_ ?_ ?_ ?_ ?_ ?_ ?_ ?_ ?_ ?_ ?_ ?_ ?_ ?_ ?_ ?_ ?_ ?_ ?_ ?_ ?_ ?_ ?_ ?_ ?_ ?_ ?_ ?_ ?_ ?_ ?_ ?_ ?_ ?_ ?_ ?_ ?_ ?_ ?_ ?_ ?_ ?_ ?_ ?_ ?_ ?_ ?_ ?_ ?_ ?_ ?_ ?_ ?_ ?_ ?_ ?_ ?_ ?_ ?_ ?_ ?_ ?_ ?_ ?_ ?_ ?_ ?_ ?_ ?_ ?_ ?_ ?_ ?_ ?_ ?_ ?_ ?_ ?_ ?_ ?_ ?_ ?_ ?_ ?_ ?_ ?_ ?_ ?_ ?_ ?_ ?_ ?_ ?_ ?_ ?_ ?_ ?_ ?_ ?_ ?_ ?_ ?_ ?_ ?_ ?_ ?_ ?_ ?_ ?_ ?_ ?_ ?_ ?_ ?_ ?_ ?_ ?_ ?_ ?_ ?_ ?_ ?_ ?_ ?_ ?_ ?_ ?_ ?_ ?_ ?_ ?_ ?_ ?_ ?_ ?_ ?_ ?_ ?_ ?_ ?_ ?_ ?_ ?_ ?_ ?_ ?_ ?_ ?_ ?_ ?_ ?_ ?_ ?_ ?_ ?_ ?_ ?_ ?_ ?_ ?_ ?_ ?_ ?_ ?_ ?_ ?_ ?_ ?_ ?_ ?_ ?_ ?_ ?_ ?_ ?_ ?_ ?_ ?_ ?_ ?_ ?_ ?_ ?_ ?_ ?_ ?_ ?_ ?_ ?_ ?_ ?_ ?_ ?_ ?_ ?_ ?_ ?_ ?_ ?_ ?_ ?_ ?_ ?_ ?_ ?_ ?_ ?_ ?_ ?_ ?_ ?_ ?_ ?_ ?_ ?_ ?_ ?_ ?_ ?_ ?_
   all_goals try first | k_is | kernel_rfl | decide +kernel
#print axioms PySem.Challenge.cw_inkform_k18_rows_of_any_nest_holds