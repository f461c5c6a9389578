import PyProof.Rows.All
import Wide.All
import OpenK.AllK
import Wide.FinOn
import Lean
import PyProof.EqAt
import PyProof.EqKinds
import PyProof.TupleCall
import PyProof.StrWalks
import PyProof.Rows.SumAny
import PyProof.ConsumeWalk
import PyProof.Rows.StrJoin2
import PyProof.StrLaws
import PyProof.StrCalls
import PyProof.Rows.StrCountLaw
import Wide.Txt
import PyProof.EnumMake
import PyProof.Rows.EnumRows
import PyProof.Rows.StrRev
import PyProof.Rows.MinMaxN
import PyProof.Rows.Range3
import PyProof.MinMaxWalk
import PyProof.Rows.CallKwBuiltin
import PyProof.AutoSeq1
import PyProof.Draws
import PyProof.ToksMono
import PyProof.StrCalls6
import PyProof.Rows.StrStrike
import PyProof.ListMulRoad
import PyProof.FactsAll.tuple_2
import OpenK.KCls
import PyProof.ZipIter
import PyProof.Rows.StrPadWhole
import PyProof.StationsW
import PyProof.RulesAs
import PyProof.NsDelKeeps
import PyProof.ExcBaseAll.ValueError
import OpenK.KOwn
import KE.KIsAll
import PyProof.ExcArgs
import PyProof.StrLawsTight
import PyProof.StrLawsChain
import PyProof.StrCalls2
import PyProof.Rows.StrItems
import PyProof.Rows.RuleDivmod
import OpenK.ZGo
import PySem.Challenge.RW_inkform_k36_whole_pointed
set_option genSizeOf false
set_option Elab.async false
set_option linter.all false
set_option maxRecDepth 100000
section
theorem zEr {α:Sort _}{a:α}:a=a:=(Eq.refl a).trans (Eq.refl a)
namespace L2
open PySem PySem.Spec PyProof.Rows
abbrev Key:=Sum Int Str
def qp:Key→Value→Bool
 | .inl k,v=>Value.isInt k v
 | .inr x,v=>Value.isStrOf x v
def Jb (w:World):Key→Int
 | .inl k=>hashInt k
 | .inr x=>hashStr w x
theorem d3:∀ {k:Key} {v:Value},qp k v=true→(∃ i t,k=Sum.inl i∧v=Value.int i t)∨(∃ x t,k=Sum.inr x∧v=Value.str x t)
 | .inl i,v,h=>by
  obtain ⟨t,e⟩:=Value.isInt_shape (k:=i) (v:=v) h
  exact .inl ⟨i,t,rfl,e⟩
 | .inr x,v,h=>by
  obtain ⟨t,e⟩:=Value.isStrOf_shape (x:=x) (v:=v) h
  exact .inr ⟨x,t,rfl,e⟩
theorem x4 (i:Int)(t:Tok):qp (.inl i) (.int i t)=true:=by simp [qp,Value.isInt]
theorem x5 (x:Str)(t:Tok):qp (.inr x) (.str x t)=true:=by simp [qp,Value.isStrOf]
theorem DV (a b:Int):decide ((Sum.inl a:Key)=Sum.inl b)=(a == b):=by
 by_cases e:a=b
 ·subst e; simp
 ·have h:¬ (Sum.inl a:Key)=Sum.inl b:=fun q=>e (Sum.inl.inj q)
  rw [decide_eq_false h]
  exact (beq_eq_false_iff_ne.mpr e).symm
theorem DW (a b:Str):decide ((Sum.inr a:Key)=Sum.inr b)=decide (a=b):=by
 by_cases e:a=b
 ·subst e; simp
 ·have h:¬ (Sum.inr a:Key)=Sum.inr b:=fun q=>e (Sum.inr.inj q)
  rw [decide_eq_false h,decide_eq_false e]
theorem DX (a:Int)(b:Str):decide ((Sum.inl a:Key)=Sum.inr b)=false:=decide_eq_false (fun q=>nomatch q)
theorem DY (a:Str)(b:Int):decide ((Sum.inr a:Key)=Sum.inl b)=false:=decide_eq_false (fun q=>nomatch q)
def dB (prog:Program)(w:World):PySem.KeyKind prog w Key where
 is:=qp
 hash:=Jb w
 inj:=fun v a b ha hb=>by
  rcases d3 ha with ⟨i,t,rfl,rfl⟩ | ⟨x,t,rfl,rfl⟩
  ·rcases d3 hb with ⟨j,u,rfl,e⟩ | ⟨y,u,rfl,e⟩
   ·injection e with e1 _; rw [e1]
   ·exact nomatch e
  ·rcases d3 hb with ⟨j,u,rfl,e⟩ | ⟨y,u,rfl,e⟩
   ·exact nomatch e
   ·injection e with e1 _; rw [e1]
 byValue:=fun k v h=>by
  rcases d3 h with ⟨i,t,rfl,rfl⟩ | ⟨x,t,rfl,rfl⟩ <;> rfl
 pyHash:=fun hv h=>by
  rcases d3 hv with ⟨i,t,rfl,rfl⟩ | ⟨x,t,rfl,rfl⟩
  ·exact wpAny_pyHash_int h
  ·exact wpAny_pyHash_str h
 eqBool:=fun hu hv h=>by
  rcases d3 hu with ⟨i,t,rfl,rfl⟩ | ⟨x,t,rfl,rfl⟩
  ·rcases d3 hv with ⟨j,u,rfl,rfl⟩ | ⟨y,u,rfl,rfl⟩
   ·rw [DV] at h; exact wpAny_eqBool_int h
   ·rw [DX] at h; exact SeqAt.EqAt.int_str i t y u _ _ _ _ h
  ·rcases d3 hv with ⟨j,u,rfl,rfl⟩ | ⟨y,u,rfl,rfl⟩
   ·rw [DY] at h; exact SeqAt.EqAt.str_int x t j u _ _ _ _ h
   ·rw [DW] at h; exact wpAny_eqBool_str h
 «strs»:=fun k x t v h=>by
  rcases d3 h with ⟨i,u,rfl,e⟩ | ⟨y,u,rfl,e⟩
  ·exact nomatch e
  ·injection e with e1 _
   subst e1
   cases v <;> rfl
theorem sL (prog:Program)(w:World)(i:Int)(t:Tok):(dB prog w).is (.inl i) (.int i t)=true:=x4 i t
theorem sM (prog:Program)(w:World)(x:Str)(t:Tok):(dB prog w).is (.inr x) (.str x t)=true:=x5 x t
end L2
namespace L2
open PySem PySem.Spec PyProof.Rows
inductive V where
 | non | bl (b:Bool) | int (i:Int) | str (x:Str) | byt (b:Array UInt8) | flt (b:UInt64) | ref (a:Addr) | ty (n:String)
 deriving DecidableEq
def RelV:V→Value→Prop
 | .non,u=>u=Value.none
 | .bl b,u=>u=Value.bool b
 | .int i,u=>∃ t,u=Value.int i t
 | .str x,u=>∃ t,u=Value.str x t
 | .byt b,u=>∃ t,u=Value.bytes b t
 | .flt b,u=>∃ t,u=Value.float b t
 | .ref a,u=>u=Value.ref a
 | .ty n,u=>u=Value.type n
abbrev Vals:List V→List Value→Prop:=Paired RelV
theorem Vals.length {xs:List V}{us:List Value}(r:Vals xs us):xs.length=us.length:=Paired.length r
theorem Vals.get:∀ {xs:List V} {us:List Value} {i:Nat} {x:V},Vals xs us→xs[i]?=some x→∃ u,us[i]?=some u∧RelV x u
 | _,_,_,_,.nil,e=>by simp at e
 | _,_,0,_,.cons r _,e=>by simp at e; subst e; exact ⟨_,rfl,r⟩
 | _,_,i+1,x,.cons _ t,e=>by
  obtain ⟨u,h1,h2⟩:=Vals.get (i:=i) (x:=x) t (by simpa using e)
  exact ⟨u,by simpa using h1,h2⟩
theorem Vals.append:∀ {xs ys:List V} {us ws:List Value},Vals xs us→Vals ys ws→Vals (xs++ys) (us++ws)
 | _,_,_,_,.nil,s=>s
 | _,_,_,_,.cons r t,s=>.cons r (Vals.append t s)
theorem Vals.take:∀ {xs:List V} {us:List Value} (n:Nat),Vals xs us→Vals (xs.take n) (us.take n)
 | _,_,0,_=>.nil
 | _,_,_+1,.nil=>.nil
 | _,_,n+1,.cons r t=>.cons r (Vals.take n t)
theorem Vals.drop:∀ {xs:List V} {us:List Value} (n:Nat),Vals xs us→Vals (xs.drop n) (us.drop n)
 | _,_,0,r=>r
 | _,_,_+1,.nil=>.nil
 | _,_,n+1,.cons _ t=>Vals.drop n t
def kG:Option V→Option Value→Prop
 | some v,some u=>RelV v u
 | none,none=>True
 | _,_=>False
def KV {κ:Type}:List (κ × V)→List (κ × Value)→Prop:=Paired fun (p:κ × V) (q:κ × Value)=>p.1=q.1∧RelV p.2 q.2
def kV:Key→V
 | .inl i=>.int i
 | .inr x=>.str x
inductive HO where
  | lst (xs:List V)
  | tup (xs:List V)
  | dK (kvs:List (Key × V)) | dT (kvs:List (List Key × V))
  | set (S:Int→Bool) (n:Nat)
  | ins (C dx:Addr) (fs:List (Str × V))
  | own (x:Addr)
  | xd (fs:List (Str × V))
  | met (f x:Addr)
  | rng (lo hi:Int)
  | frz (o:Obj) (u:HO)
  | tbl (ps:Array Value)
  | ext (φ:Heap→Prop)
abbrev Hp:=Addr→Option HO
def upd (H:Hp)(a:Addr)(o:HO):Hp:=fun b=>if b=a then some o else H b
theorem bu {H:Hp}{a:Addr}{o:HO}:upd H a o a=some o:=by unfold upd; rw [if_pos rfl]
theorem aC {H:Hp}{a b:Addr}{o:HO}(h:b≠a):upd H a o b=H b:=by unfold upd; rw [if_neg h]
theorem dk {H:Hp}{a b:Addr}{o:HO}(h:H a=some o)(h':H b=none):a≠b:=by
 intro e; subst e; rw [h] at h'; cases h'
section
variable (P:Program)(w:World)
def eG (H:Hp)(h:Heap)(a:Addr):HO→Prop
 | .lst xs=>xs.length≤sizeLine∧∃ (its:List Value) (n:Nat),Vals xs its∧h.get? a=some { cls:=.type "list",data:=.seq its.toArray n }
 | .tup xs=>xs.length≤sizeLine∧∃ its:List Value,Vals xs its∧IsTup h a its.toArray
 | .dK kvs=>kvs.length≤sizeLine∧(a == sysModules)=false∧∃ vs,KV kvs vs∧h.DictOf (dB P w) a vs
 | .dT kvs=>kvs.length≤sizeLine∧(a == sysModules)=false∧∃ xs:List (List Key × Addr × Value),
   Paired (fun (p:List Key × V) (q:List Key × Addr × Value)=>p.1=q.1∧H q.2.1=some (.tup (p.1.map kV))∧RelV p.2 q.2.2) kvs xs ∧
   ∃ o es ep,h.get? a=some o∧o.ExactDict∧o.data=.dict es ep∧es.toList=xs.map (entryOfKey (tupleKind (dB P w)))∧(xs.map (·.1)).Nodup
 | .set S n=>h.SetOf (intKind P w) a S n
 | .ins C dx fs=>H dx=some (.own a)∧fs.length≤1000∧dx≠a∧h.get? a=some (PySem.W.instObj C dx) ∧
   ∃ mA,h.Ns1 dx mA∧(∀ f,kG (fs.lookup f) (mA f))∧PySem.Within mA (fs.map (·.1))
 | .own _=>∃ o,h.get? a=some o
 | .xd fs=>∃ mA,h.Ns1 a mA∧∀ f,kG (fs.lookup f) (mA f)
 | .rng lo hi=>∃ t u v,h.get? a=some { cls:=.type "range",data:=.fields #[.int lo t,.int hi u,.int 1 v] }
 | .frz o u=>h.get? a=some o∧eG H h a u
 | .tbl ps=>h.get? a=some { cls:=.none,data:=.fields ps }
 | .met f x=>h.get? a=some (PySem.W.methodObj (.ref f) (.ref x))
 | .ext φ=>φ h∧(∃ o,h.get? a=some o)∧∀ h1 h2:Heap, φ h1→(∀ o,h1.get? a=some o→h2.get? a=some o)→φ h2
def HOk (H:Hp)(h:Heap):Prop:=∀ a o,H a=some o→eG P w H h a o
end
section
variable {P:Program}{w:World}{H H':Hp}{h h':Heap}{a:Addr}{o:HO}
theorem eG.lt (x:eG P w H h a o):a<h.objs.size:=by
 cases o with
 | lst xs=>obtain ⟨_,_,_,_,e⟩:=x; exact Heap.lt_size e
 | tup xs=>obtain ⟨_,_,_,p⟩:=x; exact p.lt
 | dK kvs=>obtain ⟨_,_,_,_,o,_,_,e,_⟩:=x; exact Heap.lt_size e
 | dT kvs=>obtain ⟨_,_,_,_,o,_,_,e,_⟩:=x; exact Heap.lt_size e
 | set S n=>obtain ⟨o,_,_,_,e,_⟩:=x; exact Heap.lt_size e
 | ins C dx fs=>obtain ⟨_,_,_,e,_⟩:=x; exact Heap.lt_size e
 | own y=>obtain ⟨_,e⟩:=x; exact Heap.lt_size e
 | xd fs=>obtain ⟨_,⟨_,_,_,e,_⟩,_⟩:=x; exact Heap.lt_size e
 | rng lo hi=>obtain ⟨_,_,_,e⟩:=x; exact Heap.lt_size e
 | frz ob u=>obtain ⟨e,_⟩:=x; exact Heap.lt_size e
 | tbl ps=>exact Heap.lt_size (show h.get? a=some _ from x)
 | met f y=>exact Heap.lt_size (show h.get? a=some _ from x)
 | ext φ=>obtain ⟨_,⟨_,e⟩,_⟩:=x; exact Heap.lt_size e
theorem Paired.Gy {α β:Type}{F G:α→β→Prop}:∀ {l₁:List α} {l₂:List β},Paired F l₁ l₂→(∀ a b,F a b→G a b)→Paired G l₁ l₂
 | _,_,.nil,_=>.nil
 | _,_,.cons r t,f=>.cons (f _ _ r) (Paired.Gy t f)
theorem eG.nV (x:eG P w H h a o)(k:∀ b u,(b=a∨H b=some (.own a))→h.get? b=some u→h'.get? b=some u)
  (ho:∀ b,H b=some (.own a)→H' b=some (.own a)) (ht:∀ b xs,H b=some (.tup xs)→H' b=some (.tup xs)):eG P w H' h' a o:=by
 induction o with
 | lst xs=>obtain ⟨z,its,n,r,e⟩:=x; exact ⟨z,its,n,r,k _ _ (.inl rfl) e⟩
 | tup xs=>obtain ⟨z,its,r,ob,e,c⟩:=x; exact ⟨z,its,r,ob,k _ _ (.inl rfl) e,c⟩
 | dK kvs=>obtain ⟨z,y,vs,r,ob,es,ep,e,c⟩:=x; exact ⟨z,y,vs,r,ob,es,ep,k _ _ (.inl rfl) e,c⟩
 | dT kvs =>
  obtain ⟨z,y,xs,r,ob,es,ep,e,c⟩:=x
  exact ⟨z,y,xs,Paired.Gy r fun p q z=>⟨z.1,ht _ _ z.2.1,z.2.2⟩,ob,es,ep,k _ _ (.inl rfl) e,c⟩
 | set S n=>obtain ⟨ob,es,ep,t,e,c⟩:=x; exact ⟨ob,es,ep,t,k _ _ (.inl rfl) e,c⟩
 | ins C dx fs =>
  obtain ⟨d,z,ne,e,mA,⟨od,es,ep,e2,c⟩,r⟩:=x
  exact ⟨ho _ d,z,ne,k _ _ (.inl rfl) e,mA,⟨od,es,ep,k _ _ (.inr d) e2,c⟩,r⟩
 | own y=>obtain ⟨ob,e⟩:=x; exact ⟨ob,k _ _ (.inl rfl) e⟩
 | xd fs=>obtain ⟨mA,⟨od,es,ep,e,c⟩,r⟩:=x; exact ⟨mA,⟨od,es,ep,k _ _ (.inl rfl) e,c⟩,r⟩
 | rng lo hi=>obtain ⟨t,u,v,e⟩:=x; exact ⟨t,u,v,k _ _ (.inl rfl) e⟩
 | frz ob u ih=>obtain ⟨e,q⟩:=x; exact ⟨k _ _ (.inl rfl) e,ih q⟩
 | tbl ps =>
  have e:h.get? a=some { cls:=.none,data:=.fields ps }:=x
  show h'.get? a=some { cls:=.none,data:=.fields ps }
  exact k a _ (.inl rfl) e
 | met f y =>
  have e:h.get? a=some (PySem.W.methodObj (.ref f) (.ref y)):=x
  show h'.get? a=some (PySem.W.methodObj (.ref f) (.ref y))
  exact k a _ (.inl rfl) e
 | ext φ=>obtain ⟨p,⟨o,e⟩,st⟩:=x; exact ⟨st _ _ p fun o q=>k _ _ (.inl rfl) q,⟨o,k _ _ (.inl rfl) e⟩,st⟩
theorem HOk.lt (x:HOk P w H h)(e:H a=some o):a<h.objs.size:=(x a o e).lt
theorem HOk.fresh (x:HOk P w H h)(e:h.objs.size≤a):H a=none:=by
 cases q:H a with
 | none=>rfl
 | some u=>exact absurd (Nat.lt_of_lt_of_le (x.lt q) e) (Nat.lt_irrefl _)
theorem HOk.kept (x:HOk P w H h)(k:∀ b u,h.get? b=some u→h'.get? b=some u):HOk P w H h':=fun a o e =>
 (x a o e).nV (fun b u _ q=>k b u q) (fun _ q=>q) fun _ _ q=>q
theorem HOk.laid (x:HOk P w H h)(k:∀ b u,h.get? b=some u→h'.get? b=some u)(hp:h.objs.size≤a)(new:eG P w (upd H a o) h' a o):HOk P w (upd H a o) h':=fun b u e=>by
 have hn:=x.fresh hp
 by_cases hb:b=a
 ·subst hb; rw [bu] at e; cases e; exact new
 ·rw [aC hb] at e
  exact (x b u e).nV (fun c v _ q=>k c v q) (fun c q=>by rw [aC (dk q hn)]; exact q) fun c xs q=>by rw [aC (dk q hn)]; exact q
end
def Rd (H:Hp)(a:Addr)(u:HO):Prop:=H a=some u∨∃ o,H a=some (.frz o u)
theorem Rd.ok {P:Program}{w:World}{H:Hp}{h:Heap}{a:Addr}{u:HO}(r:Rd H a u)(x:HOk P w H h):eG P w H h a u:=by
 rcases r with r | ⟨o,r⟩
 ·exact x a u r
 ·obtain ⟨_,q⟩:=x a _ r
  exact q
def Mut:Option HO→Prop
 | some (.lst _)=>True
 | some (.dK _)=>True
 | some (.dT _)=>True
 | some (.set _ _)=>True
 | some (.ins _ _ _)=>True
 | some (.ext _)=>True
 | _=>False
section
variable {P:Program}{w:World}{H:Hp}{h h':Heap}{x e:Addr}{o':HO}
theorem HOk.write (ok:HOk P w H h)(mu:Mut (H x))(he:e=x∨H e=some (.own x))(k:∀ b u,b≠e→h.get? b=some u→h'.get? b=some u)(heo:∃ u,h'.get? e=some u)
  (new:eG P w (upd H x o') h' x o'):HOk P w (upd H x o') h':=fun b u q=>by
 have nown:∀ c y,H c=some (.own y)→c≠x:=fun c y r z=>by subst z; rw [r] at mu; exact mu
 have ntup:∀ c xs,H c=some (.tup xs)→c≠x:=fun c xs r z=>by subst z; rw [r] at mu; exact mu
 by_cases hb:b=x
 ·subst hb; rw [bu] at q; cases q; exact new
 ·rw [aC hb] at q
  by_cases hbe:b=e
  ·have q':H b=some (.own x):=by
    rcases he with z | z
    ·exact absurd (hbe.trans z) hb
    ·rw [hbe]; exact z
   rw [q] at q'; cases q'
   obtain ⟨v,hv⟩:=heo
   exact ⟨v,by rw [hbe]; exact hv⟩
  ·refine (ok b u q).nV (fun c v hc r=>k c v ?_ r) (fun c r=>by rw [aC (nown c b r)]; exact r) fun c xs r=>by rw [aC (ntup c xs r)]; exact r
   rcases hc with rfl | hc
   ·exact hbe
   ·rintro rfl
    rcases he with z | z
    ·exact nown c b hc z
    ·rw [hc] at z; cases z; exact hb rfl
end
structure Un (fs ex:List Addr)(H H':Hp)(h h':Heap):Prop where
 keep:∀ b o,h.get? b=some o→H b=none→b ∉ fs→b ∉ ex→h'.get? b=some o
 slot:∀ b o,h.get? b=some o→H b=none→b∈fs→b ∉ ex→∃ sl,h'.get? b=some { o with slots:=sl }
 free:∀ b o,h.get? b=some o→H b=none→b ∉ ex→H' b=none
 there:∀ b o,h.get? b=some o→b ∉ ex→∃ o',h'.get? b=some o'
 pN:∀ b xs,H b=some (.tup xs)→H' b=some (.tup xs)
 nW:∀ b o u,H b=some (.frz o u)→H' b=some (.frz o u)
 pO:∀ b ps,H b=some (.tbl ps)→∃ more,H' b=some (.tbl (ps++more))
section
variable {fs fs' ex ex':List Addr}{H H1 H2:Hp}{h h1 h2 h':Heap}{a x e:Addr}{o:HO}
theorem Un.any (u:Un fs ex H H1 h h1){b:Addr}{ob:Obj}(q:h.get? b=some ob)(n:H b=none)(hx:b ∉ ex):∃ sl,h1.get? b=some { ob with slots:=sl }:=by
 by_cases hb:b∈fs
 ·exact u.slot b ob q n hb hx
 ·exact ⟨ob.slots,u.keep b ob q n hb hx⟩
theorem Un.kept (k:∀ b u,h.get? b=some u→h'.get? b=some u):Un fs ex H H h h' :=
 ⟨fun b ob q _ _ _=>k b ob q,fun b ob q _ _ _=>⟨ob.slots,k b ob q⟩,fun _ _ _ n _=>n,fun b ob q _=>⟨ob,k b ob q⟩,fun _ _ q=>q,fun _ _ _ q=>q,fun _ ps q=>⟨#[],by rw [q]; simp⟩⟩
theorem Un.refl:Un fs ex H H h h:=Un.kept fun _ _ q=>q
theorem Un.laid (k:∀ b u,h.get? b=some u→h'.get? b=some u)(hp:h.objs.size≤a)(hn:H a=none):Un fs ex H (upd H a o) h h' where
 keep:=fun b u q _ _ _=>k b u q
 slot:=fun b u q _ _ _=>⟨u.slots,k b u q⟩
 free:=fun b u q n _=>by rw [aC (Nat.ne_of_lt (Nat.lt_of_lt_of_le (Heap.lt_size q) hp))]; exact n
 there:=fun b u q _=>⟨u,k b u q⟩
 pN:=fun b xs q=>by rw [aC (dk q hn)]; exact q
 nW:=fun b u xs q=>by rw [aC (dk q hn)]; exact q
 pO:=fun b ps q=>⟨#[],by rw [aC (dk q hn),q]; simp⟩
theorem Un.write (mu:Mut (H x))(he:e=x∨H e=some (.own x))(k:∀ b u,b≠e→h.get? b=some u→h'.get? b=some u)(heo:∃ u,h'.get? e=some u):Un fs ex H (upd H x o) h h':=by
 have hx:∀ b,H b=none→b≠x:=fun b n z=>by subst z; rw [n] at mu; exact mu
 have hb:∀ b,H b=none→b≠e:=fun b n z=>by
  subst z
  rcases he with r | r
  ·exact hx b n r
  ·rw [n] at r; cases r
 have hm:∀ b u,H b=some u→¬ Mut (some u)→b≠x:=fun b u q nm z=>by subst z; rw [q] at mu; exact nm mu
 refine ⟨fun b u q n _ _=>k b u (hb b n) q,fun b u q n _ _=>⟨u.slots,k b u (hb b n) q⟩,fun b u q n _=>by rw [aC (hx b n)]; exact n,fun b u q _=>?_,
  fun b xs q=>by rw [aC (hm b _ q fun z=>z)]; exact q,fun b u xs q=>by rw [aC (hm b _ q fun z=>z)]; exact q,fun b ps q=>⟨#[],by rw [aC (hm b _ q fun z=>z),q]; simp⟩⟩
 by_cases hbe:b=e
 ·subst hbe; exact heo
 ·exact ⟨u,k b u hbe q⟩
end
def trk (h:Heap)(H:Hp):List Addr:=(List.range h.objs.size).filter fun a=>(H a).isSome
def rg (h:Heap)(H:Hp):Heap:=PySem.W.hideAll h (trk h H)
theorem x6 (h:Heap)(H:Hp):(rg h H).objs.size=h.objs.size:=PySem.W.hideAll_size _ _
theorem yu {h:Heap}{H:Hp}{b:Addr}{o:Obj}(e:h.get? b=some o)(n:H b=none):(rg h H).get? b=some o :=
 PySem.W.hideAll_get _ e fun hm=>by
  have q:(H b).isSome=true:=(List.mem_filter.mp hm).2
  rw [n] at q; simp at q
theorem AE {h:Heap}{H:Hp}{b:Addr}{o:Obj}(e:(rg h H).get? b=some o):h.get? b=some o∧H b=none:=by
 have e':h.get? b=some o:=PySem.W.of_hideAll (trk h H) e
 refine ⟨e', ?_⟩
 cases q:H b with
 | none=>rfl
 | some x =>
  have hm:b∈trk h H:=List.mem_filter.mpr ⟨List.mem_range.mpr (Heap.lt_size e'),by simp [q]⟩
  have z:(rg h H).get? b=none:=PySem.W.hideAll_none (trk h H) hm
  rw [z] at e; cases e
end L2
namespace L2
open PySem PySem.Spec PyProof.Rows
structure Mod (K:PySem.W.Frag)(mg:Str→Option Value)(base:Heap):Prop where
 kin:K.In base
 glob:base.Ns mainGlobals mg
 blt:∃ mb,base.Ns builtinsNs mb∧∀ x:Str,x≠"__name__"→mb x=bootBuiltins x
 nolimit:base.NoLimit
structure Cx where
 prog:Program
 w:World
 K:PySem.W.Frag
 mg:Str→Option Value
 base:Heap
 A:Around
 N:List Str
 s₀:Shared
 H₀:Hp
 env:Env
 outer:List Env
 stack:List Env
 ex:List Addr
 fn:Str→Bool
 calm:Bool
 pn:List (Addr × Obj)
 xe:Value→Shared→Prop
def frs (l:List Env):List Addr:=l.filterMap (·.frame)
abbrev Cx.fs (X:Cx):List Addr:=frs X.outer
def Vis (sc:Scope)(x:Str):Prop:=sc.names.lookup x=some .local∨sc.names.lookup x=some .cell∨sc.names.lookup x=some .free
def Loc (sc:Scope)(x:Str):Prop:=sc.names.lookup x=some .local∨sc.names.lookup x=some .cell
def Look (env:Env)(h:Heap)(m:Str→Option Value)(x:Str)(u:Value):Prop :=
 (env.kindOf x=some .local∧m x=some u)∨((env.kindOf x=some .cell∨env.kindOf x=some .free)∧∃ c,env.cells.lookup x=some c∧h.IsCell c (some u))
structure Cx.Ok (X:Cx):Prop where
 mod:Mod X.K X.mg X.base
 kind:X.env.scope.kind=.function
 glob:X.env.globals=mainGlobals
 blt:X.env.builtins=builtinsNs
 above:X.s₀.heap.objs.size≤X.env.locals
 inj:∀ x y c,X.env.cells.lookup x=some c→X.env.cells.lookup y=some c→x=y
 has:∀ x,(X.env.kindOf x=some .cell∨X.env.kindOf x=some .free)→∃ c,X.env.cells.lookup x=some c
 cab:∀ x c,X.fn x=true→X.env.cells.lookup x=some c→X.s₀.heap.objs.size≤c
 hd:X.calm=true→X.A.handled=none
 frames:X.A.frames=some X.stack
 stk:X.stack=X.outer∨(X.stack=X.env::X.outer∧X.env.frame=some X.env.locals)
 exf:∀ b∈X.ex,b≠X.env.locals∧∀ x c,X.env.cells.lookup x=some c→c≠b
 bs:∀ b o,X.base.get? b=some o→X.s₀.heap.get? b=some o∧X.H₀ b=none
 bsz:X.base.objs.size≤X.s₀.heap.objs.size
 x8:∀ b o,X.base.get? b=some o→b ∉ X.ex
 x9:∀ b∈X.ex,b ∉ X.fs
 nq:X.s₀.heap.FunFrames X.base X.outer
 frf:∀ b∈X.fs,X.H₀ b=none
structure Inv (X:Cx)(pins:List (Addr × Obj))(σ:List (Option V))(H:Hp)(s:Shared):Prop where
 ok:X.Ok
 os:s.os=X.s₀.os
 bare:AllBare s.gens
 base:Un X.fs X.ex X.H₀ H X.s₀.heap s.heap
 loc:∃ m,s.heap.Ns X.env.locals m∧∀ (i:Nat) (x:Str) (v:V),X.N[i]?=some x→σ[i]?=some (some v)→Vis X.env.scope x→∃ u,RelV v u∧Look X.env s.heap m x u
 cell:∀ x c,X.env.cells.lookup x=some c→∃ v,s.heap.IsCell c v
 free:H X.env.locals=none
 jz:∀ x c,X.env.cells.lookup x=some c→H c=none
 pin:∀ p∈X.pn++pins,s.heap.get? p.1=some p.2∧H p.1=none∧p.1≠X.env.locals∧p.1 ∉ X.fs∧∀ v,p.2.data≠.cell v
 hok:HOk X.prog X.w H s.heap
 len:σ.length=X.N.length
section
variable {X:Cx}{pins:List (Addr × Obj)}{σ:List (Option V)}{H H':Hp}{s:Shared}{h':Heap}
theorem Cx.Ok.Jc (ok:X.Ok){b:Addr}{o:Obj}(e:X.base.get? b=some o):b ∉ X.fs:=fun hb=>by
 have:=(ok.nq.mem hb).1
 rw [e] at this; cases this
theorem Inv.bs (I:Inv X pins σ H s):∀ b o,X.base.get? b=some o→s.heap.get? b=some o∧H b=none:=fun b o e =>
 ⟨I.base.keep b o (I.ok.bs b o e).1 (I.ok.bs b o e).2 (I.ok.Jc e) (I.ok.x8 b o e),I.base.free b o (I.ok.bs b o e).1 (I.ok.bs b o e).2 (I.ok.x8 b o e)⟩
theorem Inv.bk (I:Inv X pins σ H s):∀ b o,X.base.get? b=some o→s.heap.get? b=some o:=fun b o e=>(I.bs b o e).1
theorem Inv.mod (I:Inv X pins σ H s):Mod X.K X.mg X.base:=I.ok.mod
theorem Inv.kIn (I:Inv X pins σ H s):X.K.In s.heap:=I.ok.mod.kin.keeps I.bk
theorem Inv.lt (I:Inv X pins σ H s):X.env.locals<s.heap.objs.size:=let ⟨_,hn,_⟩:=I.loc; hn.lt
theorem Inv.sz (I:Inv X pins σ H s):X.s₀.heap.objs.size≤s.heap.objs.size:=Nat.le_trans I.ok.above (Nat.le_of_lt I.lt)
theorem Inv.DZ (I:Inv X pins σ H s){a:Addr}(h:s.heap.objs.size≤a):a ∉ X.fs:=fun hb=>by
 obtain ⟨_,o,ho,_⟩:=I.ok.nq.mem hb
 exact absurd (Nat.lt_of_lt_of_le (Heap.lt_size ho) (Nat.le_trans I.sz h)) (Nat.lt_irrefl _)
theorem Inv.cne (I:Inv X pins σ H s):∀ x c,X.env.cells.lookup x=some c→c≠X.env.locals:=fun x c e z=>by
 obtain ⟨v,o,ho,hd⟩:=I.cell x c e
 obtain ⟨m,⟨o',es,ep,ho',hd',_⟩,_⟩:=I.loc
 rw [z,ho'] at ho; cases ho; rw [hd'] at hd; cases hd
theorem Inv.nq (I:Inv X pins σ H s):s.heap.FunFrames X.base X.outer:=by
 have all:∀ (l:List Env),(∀ b∈frs l,b∈X.fs)→X.s₀.heap.FunFrames X.base l→s.heap.FunFrames X.base l:=by
  intro l
  induction l with
  | nil=>intro _ _; trivial
  | cons env r ih =>
   intro hs hl
   obtain ⟨hk,⟨L,o,hf,hn,ho,hd⟩,hr⟩:=hl
   have hL:L∈X.fs:=hs L (by unfold frs; rw [List.filterMap_cons,hf]; exact List.mem_cons_self)
   obtain ⟨sl,e⟩:=I.base.slot L o ho (I.ok.frf L hL) hL fun z=>I.ok.x9 L z hL
   exact ⟨hk,⟨L,_,hf,hn,e,hd⟩,ih (fun b hb=>hs b (by unfold frs; rw [List.filterMap_cons,hf]; exact List.mem_cons_of_mem _ hb)) hr⟩
 exact all X.outer (fun _ hb=>hb) I.ok.nq
theorem Inv.stack (I:Inv X pins σ H s):s.heap.FunFrames X.base X.stack:=by
 rcases I.ok.stk with e | ⟨e,hf⟩
 ·rw [e]; exact I.nq
 ·rw [e]
  obtain ⟨m,hn,_⟩:=I.loc
  refine .cons (by rw [I.ok.kind]; decide) hf hn ?_ I.nq
  exact Heap.get?_none_of_le (Nat.le_trans I.ok.bsz I.ok.above)
theorem Inv.mn (I:Inv X pins σ H s):∀ b∈frs X.stack,b∈X.env.locals::X.fs:=fun b hb=>by
 rcases I.ok.stk with e | ⟨e,hf⟩
 ·rw [e] at hb; exact List.mem_cons_of_mem _ hb
 ·rw [e] at hb
  unfold frs at hb
  rw [List.filterMap_cons,hf] at hb
  exact hb
theorem Inv.rh (I:Inv X pins σ H s):∀ b∈frs X.stack,H b=none:=fun b hb=>by
 rcases List.mem_cons.mp (I.mn b hb) with e | hb
 ·rw [e]; exact I.free
 ·obtain ⟨_,o,ho,_⟩:=I.ok.nq.mem hb
  exact I.base.free b o ho (I.ok.frf b hb) fun z=>I.ok.x9 b z hb
theorem Inv.step {g':Array GenState}{t':Nat}{d':Drawn}{ch:List Addr}(I:Inv X pins σ H s)
  (hch:∀ b∈ch,(b∈X.ex∨X.s₀.heap.objs.size≤b)∧b≠X.env.locals∧(∀ x c,X.env.cells.lookup x=some c→c≠b)∧∀ p∈X.pn++pins,p.1≠b)
  (keep:∀ b o,b≠X.env.locals→b ∉ X.fs→b ∉ ch→s.heap.get? b=some o→H b=none→h'.get? b=some o)
  (slot:∀ b o,b≠X.env.locals→b∈X.fs→b ∉ ch→s.heap.get? b=some o→H b=none→∃ sl,h'.get? b=some { o with slots:=sl }) (free:∀ b o,b ∉ ch→s.heap.get? b=some o→H b=none→H' b=none)
  (there:∀ b o,b ∉ ch→s.heap.get? b=some o→∃ o',h'.get? b=some o')
  (pN:∀ b xs,H b=some (.tup xs)→H' b=some (.tup xs)) (nW:∀ b o u,H b=some (.frz o u)→H' b=some (.frz o u)) (pO:∀ b ps,H b=some (.tbl ps)→∃ more,H' b=some (.tbl (ps++more)))
  (ns:∀ m,s.heap.Ns X.env.locals m→h'.Ns X.env.locals m) (hok:HOk X.prog X.w H' h') (hg:AllBare g') :
  Inv X pins σ H' { s with heap:=h',gens:=g',drawn:=d',toks:=t' }:=by
 have neL:∀ b o,X.s₀.heap.get? b=some o→b≠X.env.locals:=fun b o e=>Nat.ne_of_lt (Nat.lt_of_lt_of_le (Heap.lt_size e) I.ok.above)
 have neC:∀ b o,X.s₀.heap.get? b=some o→b ∉ X.ex→b ∉ ch:=fun b o e hx hb=>by
  rcases (hch b hb).1 with z | z
  ·exact hx z
  ·exact absurd (Nat.lt_of_lt_of_le (Heap.lt_size e) z) (Nat.lt_irrefl _)
 have cellK:∀ x c,X.env.cells.lookup x=some c→∀ v,s.heap.IsCell c v→h'.IsCell c v:=fun x c e v ⟨o,ho,hd⟩=>by
  have nch:c ∉ ch:=fun z=>(hch c z).2.2.1 x c e rfl
  by_cases hc:c∈X.fs
  ·obtain ⟨sl,q⟩:=slot c o (I.cne x c e) hc nch ho (I.jz x c e)
   exact ⟨_,q,hd⟩
  ·exact ⟨o,keep c o (I.cne x c e) hc nch ho (I.jz x c e),hd⟩
 refine ⟨I.ok,I.os,hg,⟨fun b o e n hb hx=>?_,fun b o e n hb hx=>?_,fun b o e n hx=>?_,fun b o e hx=>?_,fun b xs e=>pN b xs (I.base.pN b xs e),fun b o xs e=>nW b o xs (I.base.nW b o xs e),fun b ps e=>?_⟩, ?_,fun x c e=>?_, ?_,fun x c e=>?_,fun p hp=>?_,hok,I.len⟩
 ·exact keep b o (neL b o e) hb (neC b o e hx) (I.base.keep b o e n hb hx) (I.base.free b o e n hx)
 ·obtain ⟨sl,e1⟩:=I.base.slot b o e n hb hx
  obtain ⟨sl',e2⟩:=slot b _ (neL b o e) hb (neC b o e hx) e1 (I.base.free b o e n hx)
  exact ⟨sl',e2⟩
 ·obtain ⟨o',e1⟩:=I.base.there b o e hx
  exact free b o' (neC b o e hx) e1 (I.base.free b o e n hx)
 ·obtain ⟨o',e1⟩:=I.base.there b o e hx
  exact there b o' (neC b o e hx) e1
 ·obtain ⟨m1,e1⟩:=I.base.pO b ps e
  obtain ⟨m2,e2⟩:=pO b _ e1
  exact ⟨m1++m2,by rw [e2,Array.append_assoc]⟩
 ·obtain ⟨m,hn,hl⟩:=I.loc
  refine ⟨m,ns m hn,fun i x v e1 e2 e3=>?_⟩
  obtain ⟨u,r,l⟩:=hl i x v e1 e2 e3
  refine ⟨u,r, ?_⟩
  rcases l with l | ⟨k,c,e,z⟩
  ·exact .inl l
  ·exact .inr ⟨k,c,e,cellK x c e _ z⟩
 ·obtain ⟨v,z⟩:=I.cell x c e
  exact ⟨v,cellK x c e v z⟩
 ·obtain ⟨m,⟨o,_,_,ho,_⟩,_⟩:=I.loc
  exact free _ o (fun z=>(hch _ z).2.1 rfl) ho I.free
 ·obtain ⟨v,o,ho,hd⟩:=I.cell x c e
  exact free c o (fun z=>(hch c z).2.2.1 x c e rfl) ho (I.jz x c e)
 ·obtain ⟨e,n,ne,nf,d⟩:=I.pin p hp
  have nch:p.1 ∉ ch:=fun z=>(hch p.1 z).2.2.2 p hp rfl
  exact ⟨keep p.1 p.2 ne nf nch e n,free p.1 p.2 nch e n,ne,nf,d⟩
theorem Inv.un {t':Nat}(I:Inv X pins σ H s)(u:Un X.fs [] H H' s.heap h')(hok:HOk X.prog X.w H' h'):Inv X pins σ H' { s with heap:=h',toks:=t' }:=by
 obtain ⟨m,⟨o,es,ep,ho,r⟩,_⟩:=id I.loc
 obtain ⟨sl,hL⟩:=u.any ho I.free (by simp)
 exact I.step (g':=s.gens) (d':=s.drawn) (ch:=[]) (fun _ z=>nomatch z) (fun b o _ hb _ e n=>u.keep b o e n hb (by simp)) (fun b o _ hb _ e n=>u.slot b o e n hb (by simp)) (fun b o _ e n=>u.free b o e n (by simp)) (fun b o _ e=>u.there b o e (by simp)) u.pN u.nW u.pO (fun m' hm=>by
  obtain ⟨o',es',ep',ho',r'⟩:=hm
  rw [ho] at ho'; cases ho'
  exact ⟨_,es',ep',hL,r'⟩) hok I.bare
theorem Inv.call {g':Array GenState}{t':Nat}{d':Drawn}{ch:List Addr}(I:Inv X pins σ H s)(u:Un (frs X.stack) ch H H' s.heap h')(hok:HOk X.prog X.w H' h')(hg:AllBare g')
  (hch:∀ b∈ch,(b∈X.ex∨X.s₀.heap.objs.size≤b)∧b≠X.env.locals∧(∀ x c,X.env.cells.lookup x=some c→c≠b)∧∀ p∈X.pn++pins,p.1≠b) :
  Inv X pins σ H' { s with heap:=h',gens:=g',drawn:=d',toks:=t' }:=by
 obtain ⟨m,⟨o,es,ep,ho,r⟩,_⟩:=id I.loc
 obtain ⟨sl,hL⟩:=u.any ho I.free fun z=>(hch _ z).2.1 rfl
 exact I.step (ch:=ch) hch (fun b o hL hb hc e n=>u.keep b o e n (fun z=>(List.mem_cons.mp (I.mn b z)).elim hL hb) hc) (fun b o _ _ hc e n=>u.any e n hc) (fun b o hc e n=>u.free b o e n hc) (fun b o hc e=>u.there b o e hc) u.pN u.nW u.pO (fun m' hm=>by
  obtain ⟨o',es',ep',ho',r'⟩:=hm
  rw [ho] at ho'; cases ho'
  exact ⟨_,es',ep',hL,r'⟩) hok hg
theorem Inv.turned {t':Nat}{it:Addr}(I:Inv X pins σ H s)(k:∀ b o,b≠it→s.heap.get? b=some o→h'.get? b=some o)(hn:H it=none)(hL:it≠X.env.locals)
  (h1:it∈X.ex∨X.s₀.heap.objs.size≤it) (h2:∀ x c,X.env.cells.lookup x=some c→c≠it) (h3:∀ p∈X.pn++pins,p.1≠it):Inv X pins σ H { s with heap:=h',toks:=t' }:=by
 have nit:∀ b u,H b=some u→b≠it:=fun b u e z=>by rw [z,hn] at e; cases e
 refine I.step (g':=s.gens) (d':=s.drawn) (ch:=[it]) (fun b hb=>?_) (fun b o _ _ hc e _=>k b o (fun z=>hc (by simp [z])) e) (fun b o _ _ hc e _=>⟨o.slots,k b o (fun z=>hc (by simp [z])) e⟩) (fun _ _ _ _ n=>n)
  (fun b o hc e=>⟨o,k b o (fun z=>hc (by simp [z])) e⟩) (fun _ _ e=>e) (fun _ _ _ e=>e) (fun b ps e=>⟨#[],by rw [e]; simp⟩) (fun m hm=>?_) (fun b u e=>?_) I.bare
 ·have e:b=it:=by simpa using hb
  subst e
  exact ⟨h1,hL,h2,h3⟩
 ·obtain ⟨o,es,ep,ho,r⟩:=hm
  exact ⟨o,es,ep,k _ o (Ne.symm hL) ho,r⟩
 ·refine (I.hok b u e).nV (fun c v hc q=>k c v ?_ q) (fun _ q=>q) fun _ _ q=>q
  rcases hc with z | z
  ·rw [z]; exact nit b u e
  ·exact nit c _ z
theorem Inv.tok (I:Inv X pins σ H s)(t:Nat):Inv X pins σ H { s with toks:=t }:=I.un (h':=s.heap) (t':=t) Un.refl I.hok
theorem Inv.kept {t':Nat}(I:Inv X pins σ H s)(k:∀ b u,s.heap.get? b=some u→h'.get? b=some u):Inv X pins σ H { s with heap:=h',toks:=t' }:=I.un (Un.kept k) (I.hok.kept k)
theorem Inv.laid {a:Addr}{o:HO}{t':Nat}(I:Inv X pins σ H s)(k:∀ b u,s.heap.get? b=some u→h'.get? b=some u)(hp:s.heap.objs.size≤a)(new:eG X.prog X.w (upd H a o) h' a o) :
  Inv X pins σ (upd H a o) { s with heap:=h',toks:=t' }:=I.un (Un.laid k hp (I.hok.fresh hp)) (I.hok.laid k hp new)
theorem Inv.write {x e:Addr}{o:HO}{t':Nat}(I:Inv X pins σ H s)(mu:Mut (H x))(he:e=x∨H e=some (.own x))(k:∀ b u,b≠e→s.heap.get? b=some u→h'.get? b=some u)(heo:∃ u,h'.get? e=some u)
  (new:eG X.prog X.w (upd H x o) h' x o):Inv X pins σ (upd H x o) { s with heap:=h',toks:=t' }:=I.un (Un.write mu he k heo) (I.hok.write mu he k heo new)
theorem Inv.weak {σ':List (Option V)}(I:Inv X pins σ H s)(hl:σ'.length=σ.length)(w:∀ (i:Nat) v, σ'[i]?=some (some v)→σ[i]?=some (some v)):Inv X pins σ' H s :=
 ⟨I.ok,I.os,I.bare,I.base,let ⟨m,hn,hl'⟩:=I.loc; ⟨m,hn,fun i x v e1 e2 e3=>hl' i x v e1 (w i v e2) e3⟩,I.cell,I.free,I.jz,I.pin,I.hok,hl.trans I.len⟩
theorem Inv.km {pins':List (Addr × Obj)}(I:Inv X pins σ H s)(h:∀ p∈pins',s.heap.get? p.1=some p.2∧H p.1=none∧p.1≠X.env.locals∧p.1 ∉ X.fs∧∀ v,p.2.data≠.cell v):Inv X pins' σ H s :=
 ⟨I.ok,I.os,I.bare,I.base,I.loc,I.cell,I.free,I.jz,fun p hp=>(List.mem_append.mp hp).elim (fun z=>I.pin p (List.mem_append_left _ z)) (h p),I.hok,I.len⟩
theorem sN {N:List Str}(hN:N.Nodup){i j:Nat}{x:Str}(a:N[i]?=some x)(b:N[j]?=some x):i=j:=by
 obtain ⟨h1,e1⟩:=List.getElem?_eq_some_iff.mp a
 obtain ⟨h2,e2⟩:=List.getElem?_eq_some_iff.mp b
 exact (List.getElem_inj hN).mp (e1.trans e2.symm)
theorem qq {M:Model}{A:Around}{E:Value→Shared→Prop}{i:Nat}{x:Str}{v:V}{u:Value}{Q:Unit→Shared→Prop}(I:Inv X pins σ H s)(hN:X.N.Nodup)(hi:X.N[i]?=some x)(hx:Loc X.env.scope x)(r:RelV v u)
  (h:∀ s',Inv X pins (σ.set i (some v)) H s'→(∃ a,Heap.SameBut a s.heap s'.heap∧(a=X.env.locals∨X.env.cells.lookup x=some a))→Q () s') (hf:X.fn x=true∨X.env.scope.names.lookup x=some .local:=by first | exact .inl rfl | exact .inr rfl | assumption):wpAny M A (storeName X.env x u) Q E s:=by
 obtain ⟨m,hn,hl⟩:=id I.loc
 have hcls:(X.env.scope.kind == .class || (X.env.scope.kind == .module && X.env.locals != X.env.globals))=false:=by rw [I.ok.kind]; rfl
 have hiσ:i < σ.length:=by rw [I.len]; exact (List.getElem?_eq_some_iff.mp hi).1
 have cne:=I.cne
 have tracked:∀ {a:Addr} {h':Heap},(∃ o,s.heap.get? a=some o∧H a=none)→Heap.SameBut a s.heap h'→HOk X.prog X.w H h':=fun {a h'} ha hs b ob e=>by
  obtain ⟨_,_,hfree⟩:=ha
  refine (I.hok b ob e).nV (fun c w' hc q=>(hs.2 c ?_).trans q) (fun _ q=>q) fun _ _ q=>q
  rintro rfl
  rcases hc with rfl | hc
  ·rw [hfree] at e; cases e
  ·rw [hfree] at hc; cases hc
 rcases hx with hk | hk
 ·refine wpAny_storeName_local hk hn (fun h' hn' hs=>?_) hcls
  obtain ⟨oL,_,_,hoL,_⟩:=id hn
  refine h _ ⟨I.ok,I.os,I.bare,⟨fun b o e n hb hx=>?_,fun b o e n hb hx=>?_,I.base.free,fun b o e hx=>?_,I.base.pN,I.base.nW,I.base.pO⟩,⟨_,hn',fun j y v' e1 e2 e3=>?_⟩,fun y c e=>?_,I.free,I.jz,fun p hp=>?_,tracked ⟨oL,hoL,I.free⟩ hs,by simpa using I.len⟩ ⟨_,hs,.inl rfl⟩
  ·exact (hs.2 b (Nat.ne_of_lt (Nat.lt_of_lt_of_le (Heap.lt_size e) I.ok.above))).trans (I.base.keep b o e n hb hx)
  ·obtain ⟨sl,e1⟩:=I.base.slot b o e n hb hx
   exact ⟨sl,(hs.2 b (Nat.ne_of_lt (Nat.lt_of_lt_of_le (Heap.lt_size e) I.ok.above))).trans e1⟩
  ·obtain ⟨o',e1⟩:=I.base.there b o e hx
   exact ⟨o',(hs.2 b (Nat.ne_of_lt (Nat.lt_of_lt_of_le (Heap.lt_size e) I.ok.above))).trans e1⟩
  ·by_cases hj:j=i
   ·subst hj
    rw [hi] at e1; cases e1
    rw [List.getElem?_set_self hiσ] at e2
    cases e2
    exact ⟨u,r,.inl ⟨hk,by simp⟩⟩
   ·rw [List.getElem?_set_ne (Ne.symm hj)] at e2
    obtain ⟨u',r',q⟩:=hl j y v' e1 e2 e3
    refine ⟨u',r', ?_⟩
    rcases q with ⟨k,e⟩ | ⟨k,c,e,z⟩
    ·refine .inl ⟨k, ?_⟩
     have:y≠x:=fun e=>hj (sN hN e1 (e ▸ hi))
     simp [this,e]
    ·exact .inr ⟨k,c,e,z.sameBut hs (cne y c e)⟩
  ·obtain ⟨w',z⟩:=I.cell y c e
   exact ⟨w',z.sameBut hs (cne y c e)⟩
  ·obtain ⟨e,n,ne,nf,d⟩:=I.pin p hp
   exact ⟨(hs.2 p.1 ne).trans e,n,ne,nf,d⟩
 ·have hfn:X.fn x=true:=by
   rcases hf with z | z
   ·exact z
   ·rw [z] at hk; cases hk
  obtain ⟨c,hc⟩:=I.ok.has x (.inl hk)
  obtain ⟨w',z⟩:=I.cell x c hc
  refine wpAny_storeName_cell I.ok.kind hk hc z (fun h' hc' hs=>?_)
  obtain ⟨oc,hoc,hocd⟩:=id z
  refine h { s with heap:=h' } ⟨I.ok,I.os,I.bare,⟨fun b o e n hb hx=>?_,fun b o e n hb hx=>?_,I.base.free,fun b o e hx=>?_,I.base.pN,I.base.nW,I.base.pO⟩,⟨m,hn.sameBut hs (Ne.symm (cne x c hc)),fun j y v' e1 e2 e3=>?_⟩,fun y c' e=>?_,I.free,I.jz,fun p hp=>?_,tracked ⟨oc,hoc,I.jz x c hc⟩ hs,by simpa using I.len⟩ ⟨c,hs,.inr hc⟩
  ·exact (hs.2 b (Nat.ne_of_lt (Nat.lt_of_lt_of_le (Heap.lt_size e) (I.ok.cab x c hfn hc)))).trans (I.base.keep b o e n hb hx)
  ·obtain ⟨sl,e1⟩:=I.base.slot b o e n hb hx
   exact ⟨sl,(hs.2 b (Nat.ne_of_lt (Nat.lt_of_lt_of_le (Heap.lt_size e) (I.ok.cab x c hfn hc)))).trans e1⟩
  ·obtain ⟨o',e1⟩:=I.base.there b o e hx
   exact ⟨o',(hs.2 b (Nat.ne_of_lt (Nat.lt_of_lt_of_le (Heap.lt_size e) (I.ok.cab x c hfn hc)))).trans e1⟩
  ·by_cases hj:j=i
   ·subst hj
    rw [hi] at e1; cases e1
    rw [List.getElem?_set_self hiσ] at e2
    cases e2
    exact ⟨u,r,.inr ⟨.inl hk,c,hc,hc'⟩⟩
   ·rw [List.getElem?_set_ne (Ne.symm hj)] at e2
    obtain ⟨u',r',q⟩:=hl j y v' e1 e2 e3
    refine ⟨u',r', ?_⟩
    rcases q with q | ⟨k,c',e,z'⟩
    ·exact .inl q
    ·refine .inr ⟨k,c',e,z'.sameBut hs ?_⟩
     rintro rfl
     exact hj (sN hN e1 (I.ok.inj _ _ _ e hc ▸ hi))
  ·by_cases hcc:c'=c
   ·subst hcc; exact ⟨_,hc'⟩
   ·obtain ⟨w2,z2⟩:=I.cell y c' e
    exact ⟨w2,z2.sameBut hs hcc⟩
  ·obtain ⟨e,n,ne,nf,d⟩:=I.pin p hp
   refine ⟨(hs.2 p.1 ?_).trans e,n,ne,nf,d⟩
   intro q
   rw [q,hoc] at e
   have q':oc=p.2:=Option.some.inj e
   exact d w' (by rw [← q']; exact hocd)
theorem nX {M:Model}{A:Around}{E:Value→Shared→Prop}{i:Nat}{x:Str}{v:V}{u:Value}{Q:Unit→Shared→Prop}(I:Inv X pins σ H s)(hN:X.N.Nodup)(hi:X.N[i]?=some x)(hx:Loc X.env.scope x)(r:RelV v u)
  (h:∀ s',Inv X pins (σ.set i (some v)) H s'→Q () s') (hf:X.fn x=true∨X.env.scope.names.lookup x=some .local:=by first | exact .inl rfl | exact .inr rfl | assumption):wpAny M A (storeName X.env x u) Q E s :=
 qq I hN hi hx r (fun s' I' _=>h s' I') hf
theorem Inv.yw {s':Shared}{ch:List Addr}(I:Inv X pins σ H s)(ho:s'.os=s.os)(u:Un (frs X.stack) ch H H' s.heap s'.heap)(hok:HOk X.prog X.w H' s'.heap)(hg:AllBare s'.gens)
  (hch:∀ b∈ch,(b∈X.ex∨X.s₀.heap.objs.size≤b)∧b≠X.env.locals∧(∀ x c,X.env.cells.lookup x=some c→c≠b)∧∀ p∈X.pn++pins,p.1≠b):Inv X pins σ H' s':=by
 obtain ⟨h',g',d',t',o'⟩:=s'
 have e:o'=s.os:=ho
 subst e
 exact I.call (g':=g') (t':=t') (d':=d') u hok hg hch
end
abbrev XK:=Value→Option Addr→Hp→Prop
abbrev St:=List (Option V)
abbrev VK:=V→Hp→Prop
abbrev TE:=St→Hp→VK→Prop
abbrev TT:=St→Hp→(Bool→Hp→Prop)→Prop
abbrev TA:=St→Hp→(List V→Hp→Prop)→Prop
structure Ends where
 nx:St→Hp→Prop
 rt:VK
 bk:St→Hp→Prop:=fun _ _=>False
 ct:St→Hp→Prop:=fun _ _=>False
abbrev TS:=Ends→St→Hp→Prop
def EP (X:Cx)(pins:List (Addr × Obj))(σ:St)(Q:VK)(u:Value)(s':Shared):Prop:=∃ v H',Inv X pins σ H' s'∧RelV v u∧Q v H'
def TP (X:Cx)(pins:List (Addr × Obj))(σ:St)(Q:Bool→Hp→Prop)(b:Bool)(s':Shared):Prop:=∃ H',Inv X pins σ H' s'∧Q b H'
def AP (X:Cx)(pins:List (Addr × Obj))(σ:St)(Q:List V→Hp→Prop)(us:List Value)(s':Shared):Prop:=∃ vs H',Inv X pins σ H' s'∧Vals vs us∧Q vs H'
def SP (X:Cx)(pins:List (Addr × Obj))(D:Ends)(f:Flow)(s':Shared):Prop :=
 match f with
 | .next=>∃ σ' H',Inv X pins σ' H' s'∧D.nx σ' H'
 | .brk=>∃ σ' H',Inv X pins σ' H' s'∧D.bk σ' H'
 | .cont=>∃ σ' H',Inv X pins σ' H' s'∧D.ct σ' H'
 | .ret u=>∃ v σ' H',Inv X pins σ' H' s'∧RelV v u∧D.rt v H'
def PE (X:Cx)(e:Expr)(t:TE):Prop :=
 ∀ (pins:List (Addr × Obj)) (s:Shared) (σ:St) (H:Hp) (Q:VK),Inv X pins σ H s→t σ H Q→wpAny (model X.prog X.w) X.A (eval e X.env) (EP X pins σ Q) X.xe s
def PT (X:Cx)(e:Expr)(t:TT):Prop :=
 ∀ (pins:List (Addr × Obj)) (s:Shared) (σ:St) (H:Hp) (Q:Bool→Hp→Prop),Inv X pins σ H s→t σ H Q→wpAny (model X.prog X.w) X.A (isTrue e X.env (eval e X.env)) (TP X pins σ Q) X.xe s
def PW (X:Cx)(e:Expr)(t:TT):Prop :=
 ∀ (whole:Sem Value) (pins:List (Addr × Obj)) (s:Shared) (σ:St) (H:Hp) (Q:Bool→Hp→Prop),Inv X pins σ H s→t σ H Q→wpAny (model X.prog X.w) X.A (isTrue e X.env whole) (TP X pins σ Q) X.xe s
theorem PW.pt {X:Cx}{e:Expr}{t:TT}(h:PW X e t):PT X e t:=h _
def PA (X:Cx)(es:List Expr)(t:TA):Prop :=
 ∀ (pos:Pos) (pins:List (Addr × Obj)) (s:Shared) (σ:St) (H:Hp) (Q:List V→Hp→Prop),Inv X pins σ H s→t σ H Q→wpAny (model X.prog X.w) X.A (spliced (backTo pos (starEach es X.env))) (AP X pins σ Q) X.xe s
def PS (X:Cx)(st:Stmt)(t:TS):Prop :=
 ∀ (pins:List (Addr × Obj)) (s:Shared) (σ:St) (H:Hp) (D:Ends),Inv X pins σ H s→t D σ H→wpAny (model X.prog X.w) X.A (exec st X.env) (SP X pins D) X.xe s
def PSs (X:Cx)(st:List Stmt)(t:TS):Prop :=
 ∀ (pins:List (Addr × Obj)) (s:Shared) (σ:St) (H:Hp) (D:Ends),Inv X pins σ H s→t D σ H→wpAny (model X.prog X.w) X.A (execs st X.env) (SP X pins D) X.xe s
theorem thn {α:Type}{t:Sem α}{Q Q' : α→Shared→Prop}{M:Model}{A:Around}{E:Value→Shared→Prop}{s:Shared}(h:wpAny M A t Q E s)(hQ:∀ a s,Q a s→Q' a s):wpAny M A t Q' E s:=wpAny_mono h hQ fun _ _ x=>x
theorem bC {α β γ:Type}{t:Sem α}{P1 P2 P3:α→Shared→β→γ→Prop}{Q' : α→Shared→Prop}{M:Model}{A:Around}{E:Value→Shared→Prop}{s:Shared}(h:wpAny M A t (fun a s=>∃ x y,P1 a s x y∧P2 a s x y∧P3 a s x y) E s)(hQ:∀ a s x y,P1 a s x y→P2 a s x y→P3 a s x y→Q' a s):wpAny M A t Q' E s:=wpAny_mono h (fun a s h=>Exists.elim h fun x h=>Exists.elim h fun y h=>hQ a s x y h.1 h.2.1 h.2.2) fun _ _ x=>x
end L2
namespace L2
open PySem PySem.Spec PyProof.Rows
section
variable {X:Cx}
def AF (i:Nat):TE:=fun σ H Q=>∃ v, σ[i]?=some (some v)∧Q v H
def tC (v:V):TE:=fun _ H Q=>Q v H
theorem iW {i:Nat}{x:Str}{pos:Pos}(hN:X.N[i]?=some x)(hv:Vis X.env.scope x)(hd:(x == ("__debug__":Str))=false:=by decide)(hcd:(x == ("__classdict__":Str))=false:=by decide):PE X (.Name x pos) (AF i):=by
 intro pins s σ H Q I h
 obtain ⟨v,e,h⟩:=h
 obtain ⟨m,hn,hl⟩:=I.loc
 obtain ⟨u,r,l⟩:=hl i x v hN e hv
 have fin:EP X pins σ Q u s:=⟨v,H,I,r,h⟩
 rcases l with ⟨hk,hm⟩ | ⟨hk,c,hc,hcell⟩
 ·exact wpAny_Name (wpAny_loadName_local I.ok.kind hk hn hm fin) hd
 ·rcases hk with hk | hk
  ·exact wpAny_Name (wpAny_loadName_cell I.ok.kind hk hc hcell fin) hd
  ·exact wpAny_Name (wpAny_loadName_free I.ok.kind hk hc hcell fin hcd) hd
theorem yx {i j pos}:PE X (.Constant (.int i) j pos) (tC (.int i)):=fun _ _ _ H _ I h=>wpAny_Constant_int ⟨.int i,H,I.tok _,⟨_,rfl⟩,h⟩
theorem Gz {b j pos}:PE X (.Constant (.bool b) j pos) (tC (.bl b)):=fun _ _ _ H _ I h=>Constant_bool ⟨.bl b,H,I,rfl,h⟩
theorem E3 {j pos}:PE X (.Constant .none j pos) (tC .non):=fun _ _ _ H _ I h=>Constant_none ⟨.non,H,I,rfl,h⟩
theorem yy {x j pos}:PE X (.Constant (.str x) j pos) (tC (.str x)):=fun _ _ _ H _ I h=>Calls.Constant_str ⟨.str x,H,I.tok _,⟨_,rfl⟩,h⟩
def Gl (X:Cx)(x:Str):Prop:=X.env.kindOf x=some .globalImplicit
theorem nN {E:Value→Shared→Prop}{pins:List (Addr × Obj)}{s:Shared}{σ:St}{H:Hp}{x:Str}{u:Value}{pos:Pos}{Q:Value→Shared→Prop}(I:Inv X pins σ H s)(hg:Gl X x)(hm:X.mg x=some u)(h:Q u s)
  (hd:(x == ("__debug__":Str))=false:=by decide):wpAny (model X.prog X.w) X.A (eval (.Name x pos) X.env) Q E s :=
 Calls.Name_function_global I.ok.kind hg (Calls.loadGlobal_global (by rw [I.ok.glob]; exact I.mod.glob.keeps I.bk) hm h) hd
theorem je {E:Value→Shared→Prop}{pins:List (Addr × Obj)}{s:Shared}{σ:St}{H:Hp}{x:Str}{u:Value}{pos:Pos}{Q:Value→Shared→Prop}(I:Inv X pins σ H s)(hg:Gl X x)(hm:X.mg x=none)(hv:bootBuiltins x=some u)(h:Q u s)
  (hn:x≠"__name__":=by decide) (hd:(x == ("__debug__":Str))=false:=by decide):wpAny (model X.prog X.w) X.A (eval (.Name x pos) X.env) Q E s:=by
 obtain ⟨mb,h1,h2⟩:=I.mod.blt
 exact Calls.Name_function_global I.ok.kind hg (Calls.loadGlobal_builtin (by rw [I.ok.glob]; exact I.mod.glob.keeps I.bk) hm (by rw [I.ok.blt]; exact h1.keeps I.bk) ((h2 x hn).trans hv) h) hd
theorem AG {x:Str}{v:V}{u:Value}{pos:Pos}(hg:Gl X x)(hm:X.mg x=some u)(r:RelV v u)(hd:(x == ("__debug__":Str))=false:=by decide):PE X (.Name x pos) (tC v) :=
 fun _ _ _ H _ I h=>nN I hg hm ⟨v,H,I,r,h⟩ hd
theorem AH {x:Str}{v:V}{u:Value}{pos:Pos}(hg:Gl X x)(hm:X.mg x=none)(hv:bootBuiltins x=some u)(r:RelV v u)(hn:x≠"__name__":=by decide)(hd:(x == ("__debug__":Str))=false:=by decide):PE X (.Name x pos) (tC v) :=
 fun _ _ _ H _ I h=>je I hg hm hv ⟨v,H,I,r,h⟩ hn hd
variable {a b:Expr}{ta tb:TE}{pos:Pos}
def PC (X:Cx)(op:CmpOp)(a b:Expr)(t:TE):Prop :=
 ∀ (pins:List (Addr × Obj)) (s:Shared) (σ:St) (H:Hp) (Q:VK),Inv X pins σ H s→t σ H Q →
  wpAny (model X.prog X.w) X.A (eval a X.env) (fun v s₁=>wpAny (model X.prog X.w) X.A (eval b X.env) (fun u s₂=>wpAny (model X.prog X.w) X.A (compareOp op v u) (EP X pins σ Q) X.xe s₂) X.xe s₁) X.xe s
theorem yz (b:Expr){op:CmpOp}(h:op≠.In)(h2:op≠.NotIn):behindInMarks op b=false:=by
 have e1:(op == CmpOp.In)=false:=by cases op <;> first | rfl | exact absurd rfl h
 have e2:(op == CmpOp.NotIn)=false:=by cases op <;> first | rfl | exact absurd rfl h2
 cases b <;> simp [behindInMarks,e1,e2]
def Jd (ta:TE):TE:=fun σ H Q=>ta σ H fun x H1=>Q (.bl (decide (x=.non))) H1
def GA (ta:TE):TE:=fun σ H Q=>ta σ H fun x H1=>Q (.bl (!decide (x=.non))) H1
theorem RelV.sO {x:V}{v:Value}(r:RelV x v):(v == Value.none)=decide (x=.non):=by
 cases x with
 | non=>cases r; rfl
 | bl _=>cases r; rfl
 | int _=>obtain ⟨t,rfl⟩:=r; rfl
 | str _=>obtain ⟨t,rfl⟩:=r; rfl
 | byt _=>obtain ⟨t,rfl⟩:=r; rfl
 | flt _=>obtain ⟨t,rfl⟩:=r; rfl
 | ref _=>cases r; rfl
 | ty _=>cases r; rfl
theorem E4 {j pos'}(ha:PE X a ta):PC X .Is a (.Constant .none j pos') (Jd ta):=by
 intro pins s σ H Q I h
 refine bC (ha pins s σ H _ I h) fun v s1 x H1 I1 r1 q1=>?_
 exact Constant_none (is_none_gen ⟨.bl _,H1,I1,by rw [r1.sO]; rfl,q1⟩)
theorem AI {j pos'}(ha:PE X a ta):PC X .IsNot a (.Constant .none j pos') (GA ta):=by
 intro pins s σ H Q I h
 refine bC (ha pins s σ H _ I h) fun v s1 x H1 I1 r1 q1=>?_
 exact Constant_none (isnot_none_gen ⟨.bl _,H1,I1,by rw [r1.sO]; rfl,q1⟩)
def tB (t:TE):TT:=fun σ H Q=>t σ H fun x H1=>∃ c,x=.bl c∧Q c H1
theorem yA {op:CmpOp}{t:TE}(h:PC X op a b t)(h1:behindInMarks op b=false:=by first | exact yz _ (by decide) (by decide) | rfl):PT X (.Compare a [op] [b] pos) (tB t):=by
 intro pins s σ H Q I hw
 refine wpAny_isTrue_Compare1 (thn (h pins s σ H _ I hw) fun v s1 h1=>thn h1 fun u s2 h2=>bC h2 fun c s3 x H1 I1 r1 q1=>?_) h1
 obtain ⟨d,rfl,q⟩:=q1
 cases r1
 exact wpAny_truthy_bool ⟨H1,I1,q⟩
theorem E5 {e:Expr}{t:TE}(h:PE X e t)(he:∀ whole,isTrue e X.env whole=(do let v ← whole; standAt e.pos; holding [v] (truthy v)):=by intro _; rfl):PT X e (tB t):=by
 intro pins s σ H Q I hw
 refine isTrue_plain (bC (h pins s σ H _ I hw) fun v s1 x H1 I1 r1 q1=>?_) (he _)
 obtain ⟨d,rfl,q⟩:=q1
 cases r1
 exact wpAny_truthy_bool ⟨H1,I1,q⟩
variable {tA tB':TT}{rest:List Expr}
def GB (t u:TT):TT:=fun σ H Q=>t σ H fun c H1=>if c=true then u σ H1 Q else Q false H1
def tOr (t u:TT):TT:=fun σ H Q=>t σ H fun c H1=>if c=true then Q true H1 else u σ H1 Q
def GC (t:TT):TT:=fun σ H Q=>t σ H fun c H1=>Q (!c) H1
theorem pw_and1 (ha:PT X a tA):PW X (.BoolOp .And [a] pos) tA:=by
 intro wh pins s σ H Q I h
 refine isTrue_and (thn (ha pins s σ H Q I h) fun c s1 e=>?_)
 cases c with
 | true=>exact isTrue_and_nil e
 | false=>exact e
theorem pw_or1 (ha:PT X a tA):PW X (.BoolOp .Or [a] pos) tA:=by
 intro wh pins s σ H Q I h
 refine isTrue_or (thn (ha pins s σ H Q I h) fun c s1 e=>?_)
 cases c with
 | false=>exact isTrue_or_nil e
 | true=>exact e
theorem pw_and (ha:PT X a tA)(hb:PW X (.BoolOp .And (b::rest) pos) tB'):PW X (.BoolOp .And (a::b::rest) pos) (GB tA tB'):=by
 intro wh pins s σ H Q I h
 refine isTrue_and (thn (ha pins s σ H _ I h) fun c s1 zz_=>?_)
 obtain ⟨H1,I1,q1⟩:=zz_
 cases c with
 | true=>exact hb wh pins s1 σ H1 Q I1 q1
 | false=>exact ⟨H1,I1,q1⟩
theorem pw_or (ha:PT X a tA)(hb:PW X (.BoolOp .Or (b::rest) pos) tB'):PW X (.BoolOp .Or (a::b::rest) pos) (tOr tA tB'):=by
 intro wh pins s σ H Q I h
 refine isTrue_or (thn (ha pins s σ H _ I h) fun c s1 zz_=>?_)
 obtain ⟨H1,I1,q1⟩:=zz_
 cases c with
 | true=>exact ⟨H1,I1,q1⟩
 | false=>exact hb wh pins s1 σ H1 Q I1 q1
theorem E6 (ha:PT X a tA):PT X (.UnaryOp .Not a pos) (GC tA):=by
 intro pins s σ H Q I h
 exact isTrue_not (ha pins s σ H (fun c H1=>Q (!c) H1) I h)
def D4 (ta tb:TE):TE:=fun σ H Q=>ta σ H fun x H1=>∃ c,x=.bl c∧if c=true then tb σ H1 Q else Q (.bl false) H1
def GD (ta tb:TE):TE:=fun σ H Q=>ta σ H fun x H1=>∃ c,x=.bl c∧if c=true then Q (.bl true) H1 else tb σ H1 Q
theorem E7 {op}{t:TE}(h:PE X a t):PE X (.BoolOp op [a] pos) t:=fun pins s σ H Q I hw=>BoolOp_one (h pins s σ H Q I hw)
theorem E8 (ha:PE X a ta)(hb:PE X (.BoolOp .And (b::rest) pos) tb):PE X (.BoolOp .And (a::b::rest) pos) (D4 ta tb):=by
 intro pins s σ H Q I h
 refine BoolOp_and (bC (ha pins s σ H _ I h) fun v s1 x H1 I1 r1 q1=>?_)
 obtain ⟨c,rfl,q1⟩:=q1
 cases r1
 refine wpAny_truthy_bool ?_
 cases c with
 | true=>exact hb pins s1 σ H1 Q I1 q1
 | false=>exact ⟨.bl false,H1,I1,rfl,q1⟩
theorem GF (ha:PE X a ta)(hb:PE X (.BoolOp .Or (b::rest) pos) tb):PE X (.BoolOp .Or (a::b::rest) pos) (GD ta tb):=by
 intro pins s σ H Q I h
 refine BoolOp_or (bC (ha pins s σ H _ I h) fun v s1 x H1 I1 r1 q1=>?_)
 obtain ⟨c,rfl,q1⟩:=q1
 cases r1
 refine wpAny_truthy_bool ?_
 cases c with
 | false=>exact hb pins s1 σ H1 Q I1 q1
 | true=>exact ⟨.bl true,H1,I1,rfl,q1⟩
def tIf (t:TT)(ta tb:TE):TE:=fun σ H Q=>t σ H fun c H1=>if c=true then ta σ H1 Q else tb σ H1 Q
theorem yB {c:Expr}(hc:PT X c tA)(ha:PE X a ta)(hb:PE X b tb):PE X (.IfExp c a b pos) (tIf tA ta tb):=by
 intro pins s σ H Q I h
 refine wpAny_IfExp (thn (hc pins s σ H _ I h) fun d s1 zz_=>?_)
 obtain ⟨H1,I1,q1⟩:=zz_
 cases d with
 | true=>exact ha pins s1 σ H1 Q I1 q1
 | false=>exact hb pins s1 σ H1 Q I1 q1
end
end L2
namespace L2
open PySem PySem.Spec PyProof.Rows
def SqL (K:PySem.W.Frag)(H:Hp)(a:Addr)(xs:List V):Prop :=
 Rd H a (.lst xs) ∨
  ∃ (o:Obj) (its:Array Value) (n:Nat),K.lookup a=some o∧o.cls=.type "list"∧o.dict=none∧o.data=.seq its n∧its.size≤sizeLine∧Vals xs its.toList
def SqT (K:PySem.W.Frag)(H:Hp)(a:Addr)(xs:List V):Prop :=
 Rd H a (.tup xs) ∨
  ∃ (o:Obj) (its:Array Value) (n:Nat),K.lookup a=some o∧o.cls=.type "tuple"∧o.data=.seq its n∧its.size≤sizeLine∧Vals xs its.toList
def Je:Value→Option V
 | .none=>some .non
 | .bool b=>some (.bl b)
 | .int i _=>some (.int i)
 | .str x _=>some (.str x)
 | .bytes b _=>some (.byt b)
 | .float b _=>some (.flt b)
 | .ref a=>some (.ref a)
 | .type n=>some (.ty n)
 | _=>none
theorem RelV.abs {x:V}{u:Value}(r:RelV x u):Je u=some x:=by
 cases x with
 | non=>cases r; rfl
 | bl _=>cases r; rfl
 | int _=>obtain ⟨t,rfl⟩:=r; rfl
 | str _=>obtain ⟨t,rfl⟩:=r; rfl
 | byt _=>obtain ⟨t,rfl⟩:=r; rfl
 | flt _=>obtain ⟨t,rfl⟩:=r; rfl
 | ref _=>cases r; rfl
 | ty _=>cases r; rfl
theorem RelV.inj {x y:V}{u:Value}(r:RelV x u)(q:RelV y u):x=y:=Option.some.inj (r.abs.symm.trans q.abs)
theorem Vals.inj:∀ {xs ys:List V} {us:List Value},Vals xs us→Vals ys us→xs=ys
 | _,_,_,.nil,.nil=>rfl
 | _,_,_,.cons r t,.cons r' t'=>by rw [r.inj r',Vals.inj t t']
section
variable {X:Cx}{pins:List (Addr × Obj)}{σ:St}{H:Hp}{s:Shared}{a:Addr}{xs ys:List V}
theorem SqL.of {K:PySem.W.Frag}(h:H a=some (.lst xs)):SqL K H a xs:=.inl (.inl h)
theorem SqT.of {K:PySem.W.Frag}(h:H a=some (.tup xs)):SqT K H a xs:=.inl (.inl h)
theorem Inv.list (I:Inv X pins σ H s)(h:SqL X.K H a xs):∃ its:List Value,Vals xs its∧PlainL s.heap a its.toArray∧xs.length≤sizeLine:=by
 rcases h with h | ⟨o,its,n,hk,hc,hd,hs,hz,r⟩
 ·obtain ⟨z,its,n,r,e⟩:=h.ok I.hok
  exact ⟨its,r,⟨_,n,e,rfl,rfl,rfl⟩,z⟩
 ·refine ⟨its.toList,r,⟨o,n,I.kIn a o hk,hc,hd,by simpa using hs⟩, ?_⟩
  have e:=r.length
  simp only [Array.length_toList] at e
  omega
theorem Inv.tuple (I:Inv X pins σ H s)(h:SqT X.K H a xs):∃ its:List Value,Vals xs its∧IsTup s.heap a its.toArray∧xs.length≤sizeLine:=by
 rcases h with h | ⟨o,its,n,hk,hc,hs,hz,r⟩
 ·obtain ⟨z,its,r,p⟩:=h.ok I.hok
  exact ⟨its,r,p,z⟩
 ·refine ⟨its.toList,r,⟨o,I.kIn a o hk,hc,n,by simpa using hs⟩, ?_⟩
  have e:=r.length
  simp only [Array.length_toList] at e
  omega
theorem Inv.jH (I:Inv X pins σ H s)(h:SqL X.K H a xs)(h':SqL X.K H a ys):xs=ys:=by
 obtain ⟨its,r,⟨o,n,e,_,_,d⟩,_⟩:=I.list h
 obtain ⟨its',r',⟨o',n',e',_,_,d'⟩,_⟩:=I.list h'
 rw [e] at e'; cases e'
 rw [d] at d'
 injection d' with d1 _
 have:its=its':=by simpa using congrArg Array.toList d1
 subst this
 exact r.inj r'
theorem Inv.qr (I:Inv X pins σ H s)(h:SqT X.K H a xs)(h':SqT X.K H a ys):xs=ys:=by
 obtain ⟨its,r,⟨o,e,_,n,d⟩,_⟩:=I.tuple h
 obtain ⟨its',r',⟨o',e',_,n',d'⟩,_⟩:=I.tuple h'
 rw [e] at e'; cases e'
 rw [d] at d'
 injection d' with d1 _
 have:its=its':=by simpa using congrArg Array.toList d1
 subst this
 exact r.inj r'
end
abbrev Cx.pP (X:Cx)(E:Value→Shared→Prop):Cx:={ X with xe:=E }
abbrev Cx.nox (X:Cx):Cx:=X.pP fun _ _=>False
theorem Cx.Ok.pP {X:Cx}(ok:X.Ok)(E:Value→Shared→Prop):(X.pP E).Ok :=
 ⟨ok.mod,ok.kind,ok.glob,ok.blt,ok.above,ok.inj,ok.has,ok.cab,ok.hd,ok.frames,ok.stk,ok.exf,ok.bs,ok.bsz,ok.x8,ok.x9,ok.nq,ok.frf⟩
theorem Cx.Ok.jI {X:Cx}{E:Value→Shared→Prop}(ok:(X.pP E).Ok):X.Ok :=
 ⟨ok.mod,ok.kind,ok.glob,ok.blt,ok.above,ok.inj,ok.has,ok.cab,ok.hd,ok.frames,ok.stk,ok.exf,ok.bs,ok.bsz,ok.x8,ok.x9,ok.nq,ok.frf⟩
section
variable {X:Cx}{pins:List (Addr × Obj)}{σ:St}{H:Hp}{s:Shared}{E:Value→Shared→Prop}
theorem Inv.pP (I:Inv X pins σ H s)(E:Value→Shared→Prop):Inv (X.pP E) pins σ H s:=⟨I.ok.pP E,I.os,I.bare,I.base,I.loc,I.cell,I.free,I.jz,I.pin,I.hok,I.len⟩
theorem Inv.jI (I:Inv (X.pP E) pins σ H s):Inv X pins σ H s:=⟨I.ok.jI,I.os,I.bare,I.base,I.loc,I.cell,I.free,I.jz,I.pin,I.hok,I.len⟩
theorem SP.jI {D:Ends}{f:Flow}{s':Shared}(h:SP (X.pP E) pins D f s'):SP X pins D f s':=by
 cases f with
 | next=>obtain ⟨σ',H',I,q⟩:=h; exact ⟨σ',H',I.jI,q⟩
 | brk=>obtain ⟨σ',H',I,q⟩:=h; exact ⟨σ',H',I.jI,q⟩
 | cont=>obtain ⟨σ',H',I,q⟩:=h; exact ⟨σ',H',I.jI,q⟩
 | ret u=>obtain ⟨v, σ',H',I,r,q⟩:=h; exact ⟨v, σ',H',I.jI,r,q⟩
theorem PSs.nox {st:List Stmt}{t:TS}(h:PSs X.nox st t):PSs X st t:=fun pins s σ H D I hw =>
 wpAny_mono (h pins s σ H D (I.pP _) hw) (fun _ _ q=>q.jI) fun _ _ z=>False.elim z
end
section
variable {X:Cx}{st:Stmt}{rest:List Stmt}{t u:TS}{e:Expr}{te:TE}{pos:Pos}
def D5:TS:=fun D σ H=>D.nx σ H
def GG (t u:TS):TS:=fun D σ H=>t { D with nx:=u D } σ H
theorem AJ:PSs X [] D5:=fun _ _ σ H _ I h=>wpAny_execs_nil ⟨σ,H,I,h⟩
theorem yC (h1:PS X st t)(h2:PSs X rest u):PSs X (st::rest) (GG t u):=by
 intro pins s σ H D I h
 refine wpAny_execs_cons (thn (h1 pins s σ H { D with nx:=u D } I h) fun f s1 q=>?_)
 cases f with
 | next =>
  obtain ⟨σ',H',I',q⟩:=q
  exact h2 pins s1 σ' H' D I' q
 | ret v=>exact q
 | brk=>exact q
 | cont=>exact q
theorem AK (h1:PS X st t):PSs X [st] t:=by
 intro pins s σ H D I h
 refine wpAny_execs_cons (thn (h1 pins s σ H D I h) fun f s1 q=>?_)
 cases f with
 | next=>exact wpAny_execs_nil q
 | ret v=>exact q
 | brk=>exact q
 | cont=>exact q
theorem Inv.quiet {pins:List (Addr × Obj)}{σ:St}{H:Hp}{s:Shared}(I:Inv X pins σ H s):interactive X.env=false:=by simp [interactive,I.ok.kind]
def GH (te:TE):TS:=fun D σ H=>te σ H fun _ H1=>D.nx σ H1
theorem lI (he:PE X e te)(hs:swapsWith e none pos.line X.env=pure false:=by rfl):PS X (.Expr e pos) (GH te):=by
 intro pins s σ H D I h
 exact wpAny_Expr_any (bC (he pins s σ H _ I h) fun v s1 x H1 I1 r1 q1=>⟨σ,H1,I1,q1⟩) I.quiet hs
def AL (te:TE):TS:=fun D σ H=>te σ H D.rt
theorem uH (he:PE X e te):PS X (.Return (some e) pos) (AL te):=by
 intro pins s σ H D I h
 exact wpAny_Return_some (bC (he pins s σ H _ I h) fun v s1 x H1 I1 r1 q1=>⟨x, σ,H1,I1,r1,q1⟩)
def GI (c:TT)(t u:TS):TS:=fun D σ H=>c σ H fun b H1=>if b=true then t D σ H1 else u D σ H1
theorem GJ {c:Expr}{a b:List Stmt}{tc:TT}(hc:PT X c tc)(ha:PSs X a t)(hb:PSs X b u):PS X (.If c a b pos) (GI tc t u):=by
 intro pins s σ H D I h
 refine wpAny_If (thn (hc pins s σ H _ I h) fun d s1 zz_=>?_)
 obtain ⟨H1,I1,q1⟩:=zz_
 cases d with
 | true=>exact ha pins s1 σ H1 D I1 q1
 | false=>exact hb pins s1 σ H1 D I1 q1
end
abbrev TG:=V→St→Hp→(St→Hp→Prop)→Prop
abbrev TGs:=List V→St→Hp→(St→Hp→Prop)→Prop
def PG (X:Cx)(target:Expr)(t:TG):Prop :=
 ∀ (pins:List (Addr × Obj)) (s:Shared) (σ:St) (H:Hp) (v:V) (u:Value) (Q:St→Hp→Prop),Inv X pins σ H s→RelV v u→t v σ H Q →
  wpAny (model X.prog X.w) X.A (assign target X.env u) (fun _ s'=>∃ σ' H',Inv X pins σ' H' s'∧Q σ' H') X.xe s
def PGs (X:Cx)(ts:List Expr)(t:TGs):Prop :=
 ∀ (pins:List (Addr × Obj)) (s:Shared) (σ:St) (H:Hp) (vs:List V) (us:List Value) (Q:St→Hp→Prop),Inv X pins σ H s→Vals vs us→t vs σ H Q →
  wpAny (model X.prog X.w) X.A (assignInOrder ((assignEach ts X.env).map (·.2)) us) (fun _ s'=>∃ σ' H',Inv X pins σ' H' s'∧Q σ' H') X.xe s
abbrev TIp:=V→V→Hp→VK→Prop
def PIp (X:Cx)(op:Operator)(t:TIp):Prop :=
 ∀ (pins:List (Addr × Obj)) (s:Shared) (σ:St) (H:Hp) (x y:V) (v u:Value) (Q:VK),Inv X pins σ H s→RelV x v→RelV y u→t x y H Q →
  wpAny (model X.prog X.w) X.A (inplaceOp op v u) (EP X pins σ Q) X.xe s
section
variable {X:Cx}{pos:Pos}
def gX (i:Nat):TG:=fun v σ H Q=>Q (σ.set i (some v)) H
theorem AM {i:Nat}{x:Str}(hN:X.N.Nodup)(hi:X.N[i]?=some x)(hx:Loc X.env.scope x)(hf:X.fn x=true∨X.env.scope.names.lookup x=some .local:=by first | exact .inl rfl | exact .inr rfl | assumption):PG X (.Name x pos) (gX i):=by
 intro pins s σ H v u Q I r h
 exact wpAny_assign_Name (nX I hN hi hx r (fun s' I'=>⟨_,H,I',h⟩) hf)
def uI:TGs:=fun vs σ H Q=>vs=[]∧Q σ H
def n5 (t:TG)(u:TGs):TGs:=fun vs σ H Q=>∃ v r,vs=v::r∧t v σ H fun σ' H'=>u r σ' H' Q
theorem gz:PGs X [] uI:=by
 intro pins s σ H vs us Q I r h
 obtain ⟨e,h⟩:=h
 subst e
 cases r
 exact assignInOrder_nil ⟨σ,H,I,h⟩
theorem bq {e:Expr}{es:List Expr}{t:TG}{u:TGs}(h1:PG X e t)(h2:PGs X es u)
  (hs:(assignEach (e::es) X.env).map (·.2)=assign e X.env::(assignEach es X.env).map (·.2):=by rfl):PGs X (e::es) (n5 t u):=by
 intro pins s σ H vs us Q I r h
 obtain ⟨v,vr,e1,h⟩:=h
 subst e1
 cases r with
 | cons r rr =>
  rw [hs]
  refine assignInOrder_cons (thn (h1 pins s σ H _ _ _ I r h) fun _ s1 zz_=>?_)
  obtain ⟨σ1,H1,I1,q1⟩:=zz_
  exact h2 pins s1 σ1 H1 _ _ Q I1 rr q1
def AN (K:PySem.W.Frag)(n:Nat)(t:TGs):TG:=fun v σ H Q=>∃ a xs,v=.ref a∧SqT K H a xs∧xs.length=n∧t xs σ H Q
theorem iX {es:List Expr}{k:Nat}{t:TGs}{n:Nat}(hc:X.calm=true)(h:PGs X es t)
  (hn:(assignEach es X.env).length=n:=by rfl) (hst:(assignEach es X.env).findIdx? (·.1)=none:=by rfl):PG X (.Tuple es k pos) (AN X.K n t):=by
 intro pins s σ H v u Q I r hw
 obtain ⟨a,xs,e1,hq,hl,hw⟩:=hw
 subst e1
 cases r
 obtain ⟨its,rv,ht,hz⟩:=I.tuple hq
 refine assign_Tuple_tuple (I.ok.hd hc) ht (by simp [hn, ← hl,rv.length]) hst fun h' hx=>?_
 have I1:Inv X pins σ H { s with heap:=h' }:=I.kept (t':=s.toks) fun b o e=>hx b o (Nat.ne_of_lt (Heap.lt_size e)) e
 exact h pins _ σ H xs _ Q I1 (by simpa using rv) hw
def uJ (te:TE)(g:TG):TS:=fun D σ H=>te σ H fun x H1=>g x σ H1 D.nx
theorem E9 {tg e:Expr}{te:TE}{g:TG}(he:PE X e te)(hg:PG X tg g)(hs:swapsWithSole [tg] e pos.line X.env=pure false:=by rfl)(hw:swappedStores [tg] e X.env=pure none:=by rfl)
  (h1:(assignEach [tg] X.env).map (·.2)=[assign tg X.env]:=by rfl):PS X (.Assign [tg] e pos) (uJ te g):=by
 intro pins s σ H D I h
 refine wpAny_Assign_stores (bC (he pins s σ H _ I h) fun v s1 x H1 I1 r1 q1=>?_) hs hw
 rw [h1]
 exact thn (hg pins s1 σ H1 x v _ I1 r1 q1) fun _ s2 q=>q
theorem yD {i:Nat}{x:Str}{e:Expr}{te:TE}{pos':Pos}(hN:X.N.Nodup)(hi:X.N[i]?=some x)(hx:Loc X.env.scope x)(he:PE X e te)(hs:swapsWith e (some (.Name x pos')) pos.line X.env=pure false:=by rfl)(hf:X.fn x=true∨X.env.scope.names.lookup x=some .local:=by first | exact .inl rfl | exact .inr rfl | assumption) :
  PS X (.Assign [.Name x pos'] e pos) (uJ te (gX i)):=by
 intro pins s σ H D I h
 refine wpAny_Assign_Name (bC (he pins s σ H _ I h) fun v s1 y H1 I1 r1 q1=>?_) hs
 exact nX I1 hN hi hx r1 (fun s2 I2=>⟨_,H1,I2,q1⟩) hf
def Jf (i:Nat)(te:TE)(ti:TIp):TS:=fun D σ H=>∃ x, σ[i]?=some (some x)∧te σ H fun y H1=>ti x y H1 fun z H2=>D.nx (σ.set i (some z)) H2
theorem Ea {i:Nat}{x:Str}{e:Expr}{te:TE}{op:Operator}{ti:TIp}{pos':Pos}(hN:X.N.Nodup)(hi:X.N[i]?=some x)(hx:Loc X.env.scope x)(he:PE X e te)(ho:PIp X op ti)(hf:X.fn x=true∨X.env.scope.names.lookup x=some .local:=by first | exact .inl rfl | exact .inr rfl | assumption) :
  PS X (.AugAssign (.Name x pos') op e pos) (Jf i te ti):=by
 intro pins s σ H D I h
 obtain ⟨v,e1,h⟩:=h
 obtain ⟨m,hn,hl⟩:=I.loc
 have vis:Vis X.env.scope x:=by rcases hx with k | k; exact .inl k; exact .inr (.inl k)
 obtain ⟨u,r,l⟩:=hl i x v hi e1 vis
 refine wpAny_AugAssign_Name ?_
 have go:wpAny (model X.prog X.w) X.A (eval e X.env) (fun w s₂=>wpAny (model X.prog X.w) X.A (inplaceOp op u w) (fun r s₃=>wpAny (model X.prog X.w) X.A (storeName X.env x r) (fun _=>SP X pins D .next) X.xe s₃) X.xe s₂) X.xe s:=by
  refine bC (he pins s σ H _ I h) fun w s1 y H1 I1 r1 q1=>?_
  refine bC (ho pins s1 σ H1 v y u w _ I1 r r1 q1) fun z s2 zv H2 I2 r2 q2=>?_
  exact nX I2 hN hi hx r2 (fun s3 I3=>⟨_,H2,I3,q2⟩) hf
 rcases l with ⟨hk,hm⟩ | ⟨hk,c,hc,hcell⟩
 ·exact wpAny_loadName_local I.ok.kind hk hn hm go
 ·rcases hk with hk | hk
  ·exact wpAny_loadName_cell I.ok.kind hk hc hcell go
  ·rcases hx with k | k
   ·have:X.env.scope.names.lookup x=some .free:=hk
    rw [k] at this; cases this
   ·have:X.env.scope.names.lookup x=some .free:=hk
    rw [k] at this; cases this
def ipI (f:Int→Int→Int):TIp:=fun x y H Q=>∃ i j,x=.int i∧y=.int j∧Q (.int (f i j)) H
theorem Eb:PIp X .Add (ipI fun i j=>i+j):=by
 intro pins s σ H x y v u Q I r1 r2 h
 obtain ⟨i,j,e1,e2,q⟩:=h
 subst e1; subst e2
 obtain ⟨t,rfl⟩:=r1
 obtain ⟨t',rfl⟩:=r2
 exact iadd_int ⟨.int _,H,I.tok _,⟨_,rfl⟩,q⟩
end
section
variable {X:Cx}{pos:Pos}
end
structure It where
 go:Nat→Hp→Prop
 yld:Nat→Hp→V→Hp→Prop
 stop:Nat→Hp→Prop
def kH (X:Cx)(pins:List (Addr × Obj))(H:Hp)(b:Addr):Prop :=
 H b=none∧b≠X.env.locals∧b ∉ X.fs∧(b∈X.ex∨X.s₀.heap.objs.size≤b)∧(∀ x c,X.env.cells.lookup x=some c→c≠b)∧∀ p∈X.pn++pins,p.1≠b
theorem Inv.rj {X:Cx}{pins:List (Addr × Obj)}{σ:St}{H H':Hp}{s:Shared}{b:Addr}(I:Inv X pins σ H s)(hb:s.heap.objs.size≤b)(hn:H' b=none):kH X pins H' b:=by
 refine ⟨hn,Nat.ne_of_gt (Nat.lt_of_lt_of_le I.lt hb),I.DZ hb,.inr (Nat.le_trans I.sz hb),fun x c e z=>?_,fun p hp z=>?_⟩
 ·obtain ⟨v,q⟩:=I.cell x c e
  exact absurd (Nat.lt_of_lt_of_le q.lt (by rw [z]; exact hb)) (Nat.lt_irrefl _)
 ·exact absurd (Nat.lt_of_lt_of_le (Heap.lt_size (I.pin p hp).1) (by rw [z]; exact hb)) (Nat.lt_irrefl _)
structure Turn (P:Program)(w:World)(K:PySem.W.Frag)(tg:Expr)(J:It)(fp:List Addr)(it:Addr)(tn:Nat→Heap→Prop):Prop where
 mem:it∈fp
 obj:∀ i h,tn i h→∀ b∈fp, ∃ o,h.get? b=some o∧∀ v,o.data≠.cell v
 keep:∀ i h h',tn i h→(∀ b∈fp, ∀ o,h.get? b=some o→h'.get? b=some o)→tn i h'
 item:∀ (X:Cx),X.prog=P→X.w=w→X.K=K→X.calm=true→∀ (i:Nat) (pins:List (Addr × Obj)) (s:Shared) (σ:St) (H:Hp) (E:Value→Shared→Prop),Inv X pins σ H s→(∀ b∈fp,kH X pins H b)→tn i s.heap→J.go i H →
  wpAny (model P w) X.A (pyNext (.ref it)) (fun r s1=>∃ u,r=some u ∧
   wpAny (model P w) X.A (letOwnedTupleGo tg (.ref it) u) (fun _ s2=>∃ x H',Inv X pins σ H' s2∧RelV x u∧J.yld i H x H'∧tn (i+1) s2.heap∧∀ b∈fp,H' b=none) E s1) E s
 done:∀ (X:Cx),X.prog=P→X.w=w→X.K=K→X.calm=true→∀ (i:Nat) (pins:List (Addr × Obj)) (s:Shared) (σ:St) (H:Hp) (E:Value→Shared→Prop),Inv X pins σ H s→(∀ b∈fp,kH X pins H b)→tn i s.heap→J.stop i H →
  wpAny (model P w) X.A (pyNext (.ref it)) (fun r s1=>r=none∧Inv X pins σ H s1) E s
 self:∀ (A:Around) (i:Nat) (s:Shared) (Q:Value→Shared→Prop) (E:Value→Shared→Prop),tn i s.heap→Q (.ref it) s→wpAny (model P w) A (pyIter (.ref it)) Q E s
abbrev TI:=St→Hp→(It→Hp→Prop)→Prop
def PIE (X:Cx)(pins:List (Addr × Obj))(σ:St)(tg:Expr)(R:It→Hp→Prop)(itv:Value)(s2:Shared):Prop :=
 ∃ (it:Addr) (fp:List Addr) (tn:Nat→Heap→Prop) (J:It) (H':Hp),itv=.ref it∧Inv X pins σ H' s2∧Turn X.prog X.w X.K tg J fp it tn∧tn 0 s2.heap∧(∀ b∈fp,kH X pins H' b)∧R J H'
def PI (X:Cx)(tg iter:Expr)(wi:TI):Prop :=
 ∀ (pins:List (Addr × Obj)) (s:Shared) (σ:St) (H:Hp) (R:It→Hp→Prop),Inv X pins σ H s→wi σ H R →
  wpAny (model X.prog X.w) X.A (eval iter X.env) (fun v s1=>wpAny (model X.prog X.w) X.A (pyIter v) (PIE X pins σ tg R) X.xe s1) X.xe s
theorem vM {M:Model}{A:Around}{E:Value→Shared→Prop}{s:Shared}{tg:Expr}{it:Addr}{u:Value}{o:Obj}{n:String}{vs:Array Value}{Q:Unit→Shared→Prop}(ho:s.heap.get? it=some o)(hc:o.cls=.type n)(hd:o.data=.fields vs)
  (hn:["enumerate", "zip", "dict_itemiterator", "dict_reverseitemiterator", "odict_iterator", "itertools.zip_longest", "itertools.pairwise"].contains n=false) (hQ:Q () s):wpAny M A (letOwnedTupleGo tg (.ref it) u) Q E s:=by
 unfold letOwnedTupleGo
 cases tg <;> first
  | exact wpAny_pure hQ
  | (cases u <;> first
    | exact wpAny_pure hQ
    | (refine wpAny_bind (wpAny_load ho ?_)
       rw [hc,hd]
       show wpAny M A (if (["enumerate", "zip", "dict_itemiterator", "dict_reverseitemiterator", "odict_iterator", "itertools.zip_longest", "itertools.pairwise"].contains n && vs[0]? == some (rawInt _))=true then _ else _) Q E s
       rw [if_neg (by intro h; rw [hn,Bool.false_and] at h; cases h)]
       exact wpAny_pure hQ))
def Itl (K:PySem.W.Frag)(a:Addr):It :=
 ⟨fun i H=>∃ xs x,SqL K H a xs∧xs[i]?=some x,fun i H x H'=>H'=H∧∀ xs,SqL K H a xs→xs[i]?=some x,fun i H=>∃ xs,SqL K H a xs∧xs.length≤i⟩
def Itt (K:PySem.W.Frag)(a:Addr):It :=
 ⟨fun i H=>∃ xs x,SqT K H a xs∧xs[i]?=some x,fun i H x H'=>H'=H∧∀ xs,SqT K H a xs→xs[i]?=some x,fun i H=>∃ xs,SqT K H a xs∧xs.length≤i⟩
def Itr (lo:Int)(n:Nat):It:=⟨fun i _=>i<n,fun i H x H'=>H'=H∧x=.int (lo+i),fun i _=>n≤i⟩
theorem xa {P:Program}{w:World}{K:PySem.W.Frag}{tg:Expr}(a it:Addr):Turn P w K tg (Itl K a) [it] it (fun i h=>h.IsListIter it a i) where
 mem:=by simp
 obj:=fun i h st b hb=>by
  have e:b=it:=by simpa using hb
  subst e
  obtain ⟨o,e,c,d⟩:=st
  exact ⟨o,e,fun v z=>by rw [d] at z; cases z⟩
 keep:=fun i h h' st k=>st.at fun o e=>k it (by simp) o e
 item:=by
  intro X hP hw hK hc i pins s σ H E I hf st hg
  subst hP hw hK
  obtain ⟨xs,x,hq,hx⟩:=hg
  obtain ⟨its,rv,p,hz⟩:=I.list hq
  obtain ⟨u,hu,ru⟩:=rv.get hx
  obtain ⟨f0,f1,f2,f3,f4,f5⟩:=hf it (by simp)
  refine wpAny_pyNext_list_item st p.isList (x:=u) (by simpa using hu) fun h' st' sb=>?_
  have I1:Inv X pins σ H { s with heap:=h' }:=I.turned (t':=s.toks) (fun b o hb e=>(sb.2 b hb).trans e) f0 f1 f3 f4 f5
  obtain ⟨o,e,c,d⟩:=id st'
  exact ⟨u,rfl,vM (s:={ s with heap:=h' }) e c d (by decide) ⟨x,H,I1,ru,⟨rfl,fun ys hy=>by rw [I.jH hy hq]; exact hx⟩,st',fun b hb=>(hf b hb).1⟩⟩
 done:=by
  intro X hP hw hK hc i pins s σ H E I hf st hg
  subst hP hw hK
  obtain ⟨xs,hq,hx⟩:=hg
  obtain ⟨its,rv,p,hz⟩:=I.list hq
  obtain ⟨f0,f1,f2,f3,f4,f5⟩:=hf it (by simp)
  have hl:=rv.length
  exact wpAny_pyNext_list_end (I.ok.hd hc) st p.isList (by simp; omega) fun h' eb=>⟨rfl,I.turned (t':=s.toks) (fun b o hb e=>eb b o hb e) f0 f1 f3 f4 f5⟩
 self:=fun _ _ _ _ _ st h=>wpAny_pyIter_listiter st h
theorem uK {P:Program}{w:World}{K:PySem.W.Frag}{tg:Expr}(a it:Addr):Turn P w K tg (Itt K a) [it] it (fun i h=>h.IsTupleIter it a i) where
 mem:=by simp
 obj:=fun i h st b hb=>by
  have e:b=it:=by simpa using hb
  subst e
  obtain ⟨o,e,c,d⟩:=st
  exact ⟨o,e,fun v z=>by rw [d] at z; cases z⟩
 keep:=fun i h h' st k=>st.at fun o e=>k it (by simp) o e
 item:=by
  intro X hP hw hK hc i pins s σ H E I hf st hg
  subst hP hw hK
  obtain ⟨xs,x,hq,hx⟩:=hg
  obtain ⟨its,rv,p,hz⟩:=I.tuple hq
  obtain ⟨u,hu,ru⟩:=rv.get hx
  obtain ⟨f0,f1,f2,f3,f4,f5⟩:=hf it (by simp)
  refine wpAny_pyNext_tuple_item st (show s.heap.IsTuple a its.toArray from p) (x:=u) (by simpa using hu) fun h' st' sb=>?_
  have I1:Inv X pins σ H { s with heap:=h' }:=I.turned (t':=s.toks) (fun b o hb e=>(sb.2 b hb).trans e) f0 f1 f3 f4 f5
  obtain ⟨o,e,c,d⟩:=id st'
  exact ⟨u,rfl,vM (s:={ s with heap:=h' }) e c d (by decide) ⟨x,H,I1,ru,⟨rfl,fun ys hy=>by rw [I.qr hy hq]; exact hx⟩,st',fun b hb=>(hf b hb).1⟩⟩
 done:=by
  intro X hP hw hK hc i pins s σ H E I hf st hg
  subst hP hw hK
  obtain ⟨xs,hq,hx⟩:=hg
  obtain ⟨its,rv,p,hz⟩:=I.tuple hq
  obtain ⟨f0,f1,f2,f3,f4,f5⟩:=hf it (by simp)
  have hl:=rv.length
  exact wpAny_pyNext_tuple_end (I.ok.hd hc) st (show s.heap.IsTuple a its.toArray from p) (by simp; omega) fun h' eb=>⟨rfl,I.turned (t':=s.toks) (fun b o hb e=>eb b o hb e) f0 f1 f3 f4 f5⟩
 self:=fun _ _ _ _ _ st h=>wpAny_pyIter_tupleiter st h
theorem uL {P:Program}{w:World}{K:PySem.W.Frag}{tg:Expr}(it:Addr)(lo:Int)(n:Nat):Turn P w K tg (Itr lo n) [it] it (fun i h=>IsRangeIter h it (lo+(i:Nat) * 1) ((n:Int) - (i:Nat)) 1) where
 mem:=by simp
 obj:=fun i h st b hb=>by
  have e:b=it:=by simpa using hb
  subst e
  exact ⟨_,st,fun v z=>by
   have z':Data.fields _=Data.cell v:=z
   cases z'⟩
 keep:=fun i h h' st k=>k it (by simp) _ st
 item:=by
  intro X hP hw hK hc i pins s σ H E I hf st hg
  subst hP hw hK
  obtain ⟨f0,f1,f2,f3,f4,f5⟩:=hf it (by simp)
  have W:=Walks.range (prog:=X.prog) (w:=X.w) (I.ok.hd hc) it lo 1 n
  refine W.item i s _ _ hg st fun v h' tk hv st' kk=>?_
  obtain ⟨t,rfl⟩:=hv
  have I1:Inv X pins σ H { s with heap:=h',toks:=tk }:=I.turned (fun b o hb e=>kk b o (by simpa using hb) e) f0 f1 f3 f4 f5
  refine ⟨_,rfl,vM (s:={ s with heap:=h',toks:=tk }) (n:="range_iterator") st' rfl rfl (by decide) ⟨.int (lo+i),H,I1,⟨t, ?_⟩,⟨rfl,rfl⟩,st',fun b hb=>(hf b hb).1⟩⟩
  rw [Int.mul_one]
 done:=by
  intro X hP hw hK hc i pins s σ H E I hf st hg
  subst hP hw hK
  obtain ⟨f0,f1,f2,f3,f4,f5⟩:=hf it (by simp)
  exact wpAny_pyNext_range_end (I.ok.hd hc) st (by have:n≤i:=hg; omega) fun h' eb=>⟨rfl,I.turned (t':=s.toks) (fun b o hb e=>eb b o hb e) f0 f1 f3 f4 f5⟩
 self:=fun _ _ _ _ _ st h=>wpAny_pyIter_rangeiter st h
end L2
namespace L2
open PySem PySem.Spec PyProof.Rows
section
variable {X:Cx}{tg:Expr}
theorem yE {pins:List (Addr × Obj)}{σ:St}{H:Hp}{s:Shared}{R:It→Hp→Prop}{E:Value→Shared→Prop}{lo hi:Int}{t u v:Tok}{tk:Nat}(I:Inv X pins σ H s)(h1:-(2 ^ 62)≤lo)(h2:lo<2 ^ 62)(h3:-(2 ^ 62)≤hi)(h4:hi<2 ^ 62)
  (q:R (Itr lo (hi - lo).toNat) H):wpAny (model X.prog X.w) X.A (pyIter (.ref s.heap.objs.size)) (PIE X pins σ tg R) E { s with heap:=s.heap.push { cls:=.type "range",data:=.fields #[.int lo t,.int hi u,.int 1 v] },toks:=tk }:=by
 refine wpAny_pyIter_range (IsRange.new ..) (small_one h1 h2 h3 h4) ?_
 have I1:Inv X pins σ H { s with heap:=s.heap.push { cls:=.type "range",data:=.fields #[.int lo t,.int hi u,.int 1 v] },toks:=tk }:=I.kept fun b o e=>Heap.get?_push_of_some _ e
 refine ⟨(s.heap.push { cls:=.type "range",data:=.fields #[.int lo t,.int hi u,.int 1 v] }).objs.size,[(s.heap.push { cls:=.type "range",data:=.fields #[.int lo t,.int hi u,.int 1 v] }).objs.size],_,_,H,rfl,
  I1.kept (t':=tk) fun b o e=>Heap.get?_push_of_some _ e,uL _ lo (hi - lo).toNat, ?_,fun b hb=>?_,q⟩
 ·have e1:lo+((0:Nat):Int) * 1=lo:=by simp
  have e2:(((hi - lo).toNat:Nat):Int) - ((0:Nat):Int)=Builtin.Range.rangeSize lo hi 1:=by rw [rangeSize_one]; split <;> omega
  show IsRangeIter _ _ (lo+((0:Nat):Int) * 1) ((((hi - lo).toNat:Nat):Int) - ((0:Nat):Int)) 1
  rw [e1,e2]
  exact Heap.get?_push_size _ rfl
 ·have e:b=(s.heap.push { cls:=.type "range",data:=.fields #[.int lo t,.int hi u,.int 1 v] }).objs.size:=by simpa using hb
  subst e
  exact I1.rj (Nat.le_refl _) (I1.hok.fresh (Nat.le_refl _))
def yF (ta:TA):TI:=fun σ H R=>ta σ H fun vs H1=>∃ j:Int,vs=[.int j]∧-(2 ^ 62)≤j∧j<2 ^ 62∧R (Itr 0 j.toNat) H1
theorem qt {a:Expr}{ta:TA}{p pos:Pos}(hg:Gl X "range")(hm:X.mg "range"=none)(ha:PA X [a] ta)(hs:starEach [a] X.env=[(false,eval a X.env)]:=by rfl):PI X tg (.Call (.Name "range" p) [a] [] pos) (yF ta):=by
 intro pins s σ H R I h
 refine Call_ (je I hg hm boot_range (PyProof.Rows.callWith_type1 (bC (ha pos pins s σ H _ I h) fun us s1 vs H1 I1 r1 q1=>?_) hs rfl))
 obtain ⟨j,e,q1,q2,q⟩:=q1
 subst e
 cases r1 with
 | cons r rr =>
  cases rr
  obtain ⟨t,rfl⟩:=r
  exact call_range_1 (yE I1 (by omega) (by omega) q1 q2 (by simpa using q))
def yG (wi:TI)(g:TG)(tb:TS):TS:=fun D σ H=>wi σ H fun J H1=>∃ W:Nat→Nat→St→Hp→Prop,(∃ m,W 0 m σ H1)∧∀ i m σ H,W i m σ H →
 (J.stop i H∧D.nx σ H)∨(J.go i H∧∃ N:St→Hp→Prop,(∀ σ' H',N σ' H'→∃ m',m'<m∧W (i+1) m' σ' H')∧∀ x H',J.yld i H x H'→g x σ H' fun σ2 H2=>tb { D with nx:=N,ct:=N,bk:=D.nx } σ2 H2)
def mq (fp:List Addr)(h:Heap):List (Addr × Obj):=fp.filterMap fun b=>(h.get? b).map fun o=>(b,o)
theorem gq {fp:List Addr}{h:Heap}{b:Addr}{o:Obj}(hb:b∈fp)(e:h.get? b=some o):(b,o)∈mq fp h:=List.mem_filterMap.mpr ⟨b,hb,by rw [e]; rfl⟩
theorem xb {fp:List Addr}{h:Heap}{p:Addr × Obj}(hp:p∈mq fp h):p.1∈fp∧h.get? p.1=some p.2:=by
 obtain ⟨b,hb,e⟩:=List.mem_filterMap.mp hp
 cases q:h.get? b with
 | none=>rw [q] at e; cases e
 | some o =>
  rw [q] at e
  have e':(b,o)=p:=Option.some.inj e
  subst e'
  exact ⟨hb,q⟩
theorem Inv.pinned {pins:List (Addr × Obj)}{σ:St}{H:Hp}{s:Shared}{fp:List Addr}(I:Inv X pins σ H s)(hf:∀ b∈fp,kH X pins H b)(ho:∀ b∈fp, ∃ o,s.heap.get? b=some o∧∀ v,o.data≠.cell v):Inv X (pins++mq fp s.heap) σ H s :=
 I.km fun p hp=>(List.mem_append.mp hp).elim (fun z=>I.pin p (List.mem_append_right _ z)) fun z=>by
  obtain ⟨hb,e⟩:=xb z
  obtain ⟨f0,f1,f2,_⟩:=hf p.1 hb
  obtain ⟨o,e',d⟩:=ho p.1 hb
  rw [e] at e'; cases e'
  exact ⟨e,f0,f1,f2,d⟩
theorem Inv.jJ {pins pl:List (Addr × Obj)}{σ:St}{H:Hp}{s:Shared}(I:Inv X (pins++pl) σ H s):Inv X pins σ H s:=I.km fun p hp=>I.pin p (List.mem_append_right _ (List.mem_append_left _ hp))
theorem rm {iter:Expr}{body:List Stmt}{wi:TI}{g:TG}{tb:TS}{pos:Pos}(hp:PassesOwn (model X.prog X.w) X.A X.env X.xe)(hc:X.calm=true)(hi:PI X tg iter wi)(hg:PG X tg g)(hb:PSs X body tb)
  (hs:∀ x,foldedSetIterable iter X.env x=pure x:=by intro _; rfl):PS X (.For tg iter body [] pos) (yG wi g tb):=by
 intro pins s σ H D I h
 refine wpAny_For (thn (hi pins s σ H _ I h) fun v s1 h1=>thn h1 fun itv s2 h2=>?_) hs
 obtain ⟨it,fp,tn,J,H2,e,I2,T,st2,f2,W,⟨m0,w0⟩,turn⟩:=h2
 subst e
 have stat:∀ {H':Hp},(∀ b∈fp,H' b=none)→∀ b∈fp,kH X pins H' b:=fun hn b hb=>⟨hn b hb,(f2 b hb).2⟩
 refine codeAny_forLoop_any (fun n s'=>∃ i σ' H',Inv X pins σ' H' s'∧tn i s'.heap∧(∀ b∈fp,H' b=none)∧W i n σ' H') ?_ m0 ⟨0, σ,H2,I2,st2,fun b hb=>(f2 b hb).1,w0⟩
 rintro n s3 ⟨i, σ3,H3,I3,st3,fr3,w3⟩
 rcases turn i n σ3 H3 w3 with ⟨stop,qn⟩ | ⟨go,N,hN,step⟩
 ·refine wpAny_passesOwn hp (thn (T.done X rfl rfl rfl hc i pins s3 σ3 H3 X.xe I3 (stat fr3) st3 stop) fun r s4 zz_=>?_)
  obtain ⟨hr,I4⟩:=zz_
  subst hr
  exact wpAny_execs_nil ⟨σ3,H3,I4,qn⟩
 ·refine wpAny_passesOwn hp (thn (T.item X rfl rfl rfl hc i pins s3 σ3 H3 X.xe I3 (stat fr3) st3 go) fun r s4 zz_=>?_)
  obtain ⟨u,hr,h4⟩:=zz_
  subst hr
  refine wpAny_passesOwn hp (bC h4 fun _ s5 x H5 I5 r5 zz_=>?_)
  obtain ⟨y5,st5,fr5⟩:=zz_
  have I5':=I5.pinned (stat fr5) (T.obj _ _ st5)
  refine wpAny_passesOwn hp (thn (hg _ s5 σ3 H5 x u _ I5' r5 (step x H5 y5)) fun _ s6 zz_=>?_)
  obtain ⟨σ6,H6,I6,q6⟩:=zz_
  refine wpAny_passesOwn hp (thn (hb _ s6 σ6 H6 _ I6 q6) fun f s7 q7=>?_)
  have again:∀ {σ7:St} {H7:Hp},Inv X (pins++mq fp s5.heap) σ7 H7 s7→N σ7 H7→∃ m,m<n∧∃ i σ' H',Inv X pins σ' H' s7∧tn i s7.heap∧(∀ b∈fp,H' b=none)∧W i m σ' H':=fun {σ7 H7} I7 n7=>by
   obtain ⟨m',hm,w7⟩:=hN σ7 H7 n7
   refine ⟨m',hm,i+1, σ7,H7,I7.jJ,T.keep _ _ _ st5 fun b hb o e=>(I7.pin (b,o) (List.mem_append_right _ (List.mem_append_right _ (gq hb e)))).1,fun b hb=>?_,w7⟩
   obtain ⟨o,e,d⟩:=T.obj _ _ st5 b hb
   exact (I7.pin (b,o) (List.mem_append_right _ (List.mem_append_right _ (gq hb e)))).2.1
  cases f with
  | next=>obtain ⟨σ7,H7,I7,n7⟩:=q7; exact again I7 n7
  | cont=>obtain ⟨σ7,H7,I7,n7⟩:=q7; exact again I7 n7
  | brk=>obtain ⟨σ7,H7,I7,q7⟩:=q7; exact ⟨σ7,H7,I7.jJ,q7⟩
  | ret v=>obtain ⟨x7, σ7,H7,I7,r7,q7⟩:=q7; exact ⟨x7, σ7,H7,I7.jJ,r7,q7⟩
end
theorem yH {K:PySem.W.Frag}{a:Addr}{xs:List V}{g:TG}{tb:TS}{D:Ends}{σ:St}{H:Hp}(Pv:Nat→St→Hp→Prop)(h0:Pv 0 σ H)(hl:∀ i σ H,i≤xs.length→Pv i σ H→SqL K H a xs)
  (hs:∀ i x σ H,xs[i]?=some x→Pv i σ H→g x σ H fun σ2 H2=>tb { D with nx:=Pv (i+1),ct:=Pv (i+1),bk:=D.nx } σ2 H2) (hd:∀ σ H,Pv xs.length σ H→D.nx σ H) :
  ∃ W:Nat→Nat→St→Hp→Prop,(∃ m,W 0 m σ H)∧∀ i m σ H,W i m σ H →
   ((Itl K a).stop i H∧D.nx σ H)∨((Itl K a).go i H∧∃ N:St→Hp→Prop,(∀ σ' H',N σ' H'→∃ m',m'<m∧W (i+1) m' σ' H')∧∀ x H',(Itl K a).yld i H x H'→g x σ H' fun σ2 H2=>tb { D with nx:=N,ct:=N,bk:=D.nx } σ2 H2):=by
 refine ⟨fun i m σ H=>m=xs.length - i∧i≤xs.length∧Pv i σ H,⟨xs.length,by simp,Nat.zero_le _,h0⟩, ?_⟩
 rintro i m σ H ⟨rfl,hi,p⟩
 have q:=hl i σ H hi p
 by_cases hlt:i<xs.length
 ·refine .inr ⟨⟨xs,xs[i],q,by simp [hlt]⟩,Pv (i+1),fun σ' H' p'=>⟨xs.length - (i+1),by omega,rfl,hlt,p'⟩,fun x H' y=>?_⟩
  obtain ⟨e,y⟩:=y
  subst e
  exact hs i x σ _ (y xs q) p
 ·have e:i=xs.length:=by omega
  subst e
  exact .inl ⟨⟨xs,q,Nat.le_refl _⟩,hd σ H p⟩
theorem AO {K:PySem.W.Frag}{a:Addr}{xs:List V}{g:TG}{tb:TS}{D:Ends}{σ:St}{H:Hp}(Pv:Nat→St→Hp→Prop)(h0:Pv 0 σ H)(hl:∀ i σ H,i≤xs.length→Pv i σ H→SqT K H a xs)
  (hs:∀ i x σ H,xs[i]?=some x→Pv i σ H→g x σ H fun σ2 H2=>tb { D with nx:=Pv (i+1),ct:=Pv (i+1),bk:=D.nx } σ2 H2) (hd:∀ σ H,Pv xs.length σ H→D.nx σ H) :
  ∃ W:Nat→Nat→St→Hp→Prop,(∃ m,W 0 m σ H)∧∀ i m σ H,W i m σ H →
   ((Itt K a).stop i H∧D.nx σ H)∨((Itt K a).go i H∧∃ N:St→Hp→Prop,(∀ σ' H',N σ' H'→∃ m',m'<m∧W (i+1) m' σ' H')∧∀ x H',(Itt K a).yld i H x H'→g x σ H' fun σ2 H2=>tb { D with nx:=N,ct:=N,bk:=D.nx } σ2 H2):=by
 refine ⟨fun i m σ H=>m=xs.length - i∧i≤xs.length∧Pv i σ H,⟨xs.length,by simp,Nat.zero_le _,h0⟩, ?_⟩
 rintro i m σ H ⟨rfl,hi,p⟩
 have q:=hl i σ H hi p
 by_cases hlt:i<xs.length
 ·refine .inr ⟨⟨xs,xs[i],q,by simp [hlt]⟩,Pv (i+1),fun σ' H' p'=>⟨xs.length - (i+1),by omega,rfl,hlt,p'⟩,fun x H' y=>?_⟩
  obtain ⟨e,y⟩:=y
  subst e
  exact hs i x σ _ (y xs q) p
 ·have e:i=xs.length:=by omega
  subst e
  exact .inl ⟨⟨xs,q,Nat.le_refl _⟩,hd σ H p⟩
end L2
namespace L2
open PySem PySem.Spec PyProof.Rows
abbrev R2:=V→V→Hp→VK→Prop
def OpR (X:Cx)(f:Value→Value→Sem Value)(r:R2):Prop :=
 ∀ (pins:List (Addr × Obj)) (s:Shared) (σ:St) (H:Hp) (x y:V) (v u:Value) (Q:VK),Inv X pins σ H s→RelV x v→RelV y u→r x y H Q →
  wpAny (model X.prog X.w) X.A (f v u) (EP X pins σ Q) X.xe s
def UnR (X:Cx)(f:Value→Sem Value)(r:V→Hp→VK→Prop):Prop :=
 ∀ (pins:List (Addr × Obj)) (s:Shared) (σ:St) (H:Hp) (x:V) (v:Value) (Q:VK),Inv X pins σ H s→RelV x v→r x H Q →
  wpAny (model X.prog X.w) X.A (f v) (EP X pins σ Q) X.xe s
def iI (X:Cx)(f:Value)(r:List V→Hp→VK→Prop):Prop :=
 ∀ (pins:List (Addr × Obj)) (s:Shared) (σ:St) (H:Hp) (xs:List V) (us:List Value) (Q:VK),Inv X pins σ H s→Vals xs us→r xs H Q →
  wpAny (model X.prog X.w) X.A (call f us) (EP X pins σ Q) X.xe s
def tOp (r:R2)(ta tb:TE):TE:=fun σ H Q=>ta σ H fun x H1=>tb σ H1 fun y H2=>r x y H2 Q
def tUn (r:V→Hp→VK→Prop)(ta:TE):TE:=fun σ H Q=>ta σ H fun x H1=>r x H1 Q
def rI (C:Int→Int→Prop)(g:Int→Int→V):R2:=fun x y H Q=>∃ i j,x=.int i∧y=.int j∧C i j∧Q (g i j) H
def rI0 (g:Int→Int→V):R2:=fun x y H Q=>∃ i j,x=.int i∧y=.int j∧Q (g i j) H
def rU (g:Int→V):V→Hp→VK→Prop:=fun x H Q=>∃ i,x=.int i∧Q (g i) H
section
variable {X:Cx}{a b c:Expr}{ta tb tc:TE}{pos:Pos}
theorem Ed (ha:PE X a ta)(hb:PE X b tb){pins:List (Addr × Obj)}{s:Shared}{σ:St}{H:Hp}{R:V→V→Hp→Prop}(I:Inv X pins σ H s)
  (h:ta σ H fun x H1=>tb σ H1 fun y H2=>R x y H2) {Q:Value→Shared→Prop} {f:Value→Value→Sem Value}
  (hf:∀ v u s2 x y H2,Inv X pins σ H2 s2→RelV x v→RelV y u→R x y H2→wpAny (model X.prog X.w) X.A (f v u) Q X.xe s2) :
  wpAny (model X.prog X.w) X.A (eval a X.env) (fun v s₁=>wpAny (model X.prog X.w) X.A (eval b X.env) (fun u s₂=>wpAny (model X.prog X.w) X.A (f v u) Q X.xe s₂) X.xe s₁) X.xe s:=by
 refine bC (ha pins s σ H _ I h) fun v s1 x H1 I1 r1 q1=>?_
 refine bC (hb pins s1 σ H1 _ I1 q1) fun u s2 y H2 I2 r2 q2=>?_
 exact hf v u s2 x y H2 I2 r1 r2 q2
theorem lJ {op:Operator}{r:R2}(ho:OpR X (binaryOp op) r)(ha:PE X a ta)(hb:PE X b tb):PE X (.BinOp a op b pos) (tOp r ta tb):=by
 intro pins s σ H Q I h
 exact wpAny_BinOp (Ed ha hb I h fun v u s2 x y H2 I2 rx ry q=>ho pins s2 σ H2 x y v u Q I2 rx ry q)
theorem GK {op:UnaryOp}{r:V→Hp→VK→Prop}(ho:UnR X (unaryOp op) r)(ha:PE X a ta):PE X (.UnaryOp op a pos) (tUn r ta):=by
 intro pins s σ H Q I h
 exact UnaryOp_ (bC (ha pins s σ H _ I h) fun v s1 x H1 I1 r1 q1=>ho pins s1 σ H1 x v Q I1 r1 q1)
theorem opI {f:Value→Value→Sem Value}{C:Int→Int→Prop}{g:Int→Int→Int}
  (rule:∀ (i j:Int) (t u:Tok) (s:Shared) (Q:Value→Shared→Prop) (E:Value→Shared→Prop),C i j→Q (.int (g i j) s.toks) { s with toks:=s.toks+1 }→wpAny (model X.prog X.w) X.A (f (.int i t) (.int j u)) Q E s) :
  OpR X f (rI C fun i j=>.int (g i j)):=by
 intro pins s σ H x y v u Q I rx ry h
 obtain ⟨i,j,rfl,rfl,hc,q⟩:=h
 obtain ⟨t,rfl⟩:=rx
 obtain ⟨t',rfl⟩:=ry
 exact rule i j t t' s _ _ hc ⟨.int (g i j),H,I.tok _,⟨_,rfl⟩,q⟩
theorem GL {f:Value→Value→Sem Value}{g:Int→Int→Int}
  (rule:∀ (i j:Int) (t u:Tok) (s:Shared) (Q:Value→Shared→Prop) (E:Value→Shared→Prop),Q (.int (g i j) s.toks) { s with toks:=s.toks+1 }→wpAny (model X.prog X.w) X.A (f (.int i t) (.int j u)) Q E s) :
  OpR X f (rI0 fun i j=>.int (g i j)):=by
 intro pins s σ H x y v u Q I rx ry h
 obtain ⟨i,j,rfl,rfl,q⟩:=h
 obtain ⟨t,rfl⟩:=rx
 obtain ⟨t',rfl⟩:=ry
 exact rule i j t t' s _ _ ⟨.int (g i j),H,I.tok _,⟨_,rfl⟩,q⟩
theorem AQ {f:Value→Value→Sem Value}{g:Int→Int→Bool}
  (rule:∀ (i j:Int) (t u:Tok) (s:Shared) (Q:Value→Shared→Prop) (E:Value→Shared→Prop),Q (.bool (g i j)) s→wpAny (model X.prog X.w) X.A (f (.int i t) (.int j u)) Q E s) :
  OpR X f (rI0 fun i j=>.bl (g i j)):=by
 intro pins s σ H x y v u Q I rx ry h
 obtain ⟨i,j,rfl,rfl,q⟩:=h
 obtain ⟨t,rfl⟩:=rx
 obtain ⟨t',rfl⟩:=ry
 exact rule i j t t' s _ _ ⟨.bl (g i j),H,I,rfl,q⟩
def Jg (i j:Int):Prop:=0<j∧j<1073741824
def Jh (i j:Int):Prop:=0≤j∧j≤1000000∧i.natAbs<2 ^ 64
def yI (i j:Int):Prop:=(-(2 ^ 64)<i∧i<2 ^ 64)∨(-(2 ^ 64)<j∧j<2 ^ 64)
theorem yI.ok {i j:Int}(h:yI i j):IntMulOk i j:=by
 rcases h with ⟨h1,h2⟩ | ⟨h1,h2⟩
 ·exact .of_left (intBits_le_64 h1 h2)
 ·exact .of_right (intBits_le_64 h1 h2)
theorem Ee:OpR X (binaryOp .Add) (rI0 fun i j=>.int (i+j)):=GL fun _ _ _ _ _ _ _ q=>add_int q
theorem Ef:OpR X (binaryOp .Sub) (rI0 fun i j=>.int (i - j)):=GL fun _ _ _ _ _ _ _ q=>sub_int q
theorem Eg:OpR X (binaryOp .Mult) (rI yI fun i j=>.int (i * j)):=opI fun _ _ _ _ _ _ _ hc q=>mul_int q hc.ok
theorem AR:OpR X (binaryOp .FloorDiv) (rI Jg fun i j=>.int (i / j)):=opI fun i j _ _ _ _ _ hc q=>by
 have h1:(0:Int)<j:=hc.1
 have h2:j<1073741824:=hc.2
 exact floordiv_int (by omega) (by rw [Int.fdiv_eq_ediv_of_nonneg i (by omega)]; exact q) (.inl (PyProof.noPylong_small (by omega)))
theorem Eh:OpR X (binaryOp .Mod) (rI (fun _ j=>0<j) fun i j=>.int (i % j)):=opI fun i j _ _ _ _ _ hc q=>by
 have h1:(0:Int)<j:=hc
 exact mod_int' (by omega) (by rw [Int.fmod_eq_emod_of_nonneg i (by omega)]; exact q)
theorem Ei:OpR X (binaryOp .Pow) (rI Jh fun i j=>.int (i ^ j.toNat)):=opI fun _ _ _ _ _ _ _ hc q=>pow_int_small hc.1 hc.2.1 hc.2.2 q
theorem unI {f:Value→Sem Value}{g:Int→Int}
  (rule:∀ (i:Int) (t:Tok) (s:Shared) (Q:Value→Shared→Prop) (E:Value→Shared→Prop),Q (.int (g i) s.toks) { s with toks:=s.toks+1 }→wpAny (model X.prog X.w) X.A (f (.int i t)) Q E s) :
  UnR X f (rU fun i=>.int (g i)):=by
 intro pins s σ H x v Q I rx h
 obtain ⟨i,rfl,q⟩:=h
 obtain ⟨t,rfl⟩:=rx
 exact rule i t s _ _ ⟨.int (g i),H,I.tok _,⟨_,rfl⟩,q⟩
theorem Ej:UnR X (unaryOp .USub) (rU fun i=>.int (-i)):=unI fun _ _ _ _ _ q=>neg_int q
end
section
variable {X:Cx}{a b c:Expr}{ta tb tc:TE}{pos:Pos}
theorem yJ {pins:List (Addr × Obj)}{σ:St}{H:Hp}{s:Shared}{Q:VK}{k k':Bool}(I:Inv X pins σ H s)(q:Q (.bl k) H)(e:k=k'):EP X pins σ Q (.bool k') s:=by
 subst e
 exact ⟨.bl k,H,I,rfl,q⟩
theorem yK:OpR X (compareOp .Lt) (rI0 fun i j=>.bl (decide (i<j))):=AQ fun _ _ _ _ _ _ _ q=>lt_int q
theorem D6:OpR X (compareOp .LtE) (rI0 fun i j=>.bl (decide (i≤j))):=AQ fun _ _ _ _ _ _ _ q=>le_int q
theorem D7:OpR X (compareOp .Gt) (rI0 fun i j=>.bl (decide (j<i))):=AQ fun _ _ _ _ _ _ _ q=>gt_int q
theorem GN:OpR X (compareOp .GtE) (rI0 fun i j=>.bl (decide (j≤i))):=AQ fun _ _ _ _ _ _ _ q=>ge_int q
theorem xc:OpR X (compareOp .In) (fun x y H Q=>∃ i j,x=.str i∧y=.str j∧Q (.bl (!(Builtin.Str.occurrences j i 0 j.length 1).isEmpty)) H):=by
 intro pins s σ H x y v u Q I rx ry h
 obtain ⟨i,j,rfl,rfl,q⟩:=h
 obtain ⟨t,rfl⟩:=rx
 obtain ⟨t',rfl⟩:=ry
 exact in_str (yJ I q rfl)
theorem rn:OpR X (compareOp .NotIn) (fun x y H Q=>∃ i j,x=.str i∧y=.str j∧Q (.bl (!(!(Builtin.Str.occurrences j i 0 j.length 1).isEmpty))) H):=by
 intro pins s σ H x y v u Q I rx ry h
 obtain ⟨i,j,rfl,rfl,q⟩:=h
 obtain ⟨t,rfl⟩:=rx
 obtain ⟨t',rfl⟩:=ry
 exact notIn_str (yJ I q rfl)
theorem OpR.or {f:Value→Value→Sem Value}{r r':R2}(h:OpR X f r)(h':OpR X f r'):OpR X f (fun x y H Q=>r x y H Q∨r' x y H Q):=by
 intro pins s σ H x y v u Q I rx ry q
 rcases q with q | q
 ·exact h pins s σ H x y v u Q I rx ry q
 ·exact h' pins s σ H x y v u Q I rx ry q
theorem kY (b:Expr){op:CmpOp}(h:op≠.In:=by decide)(h2:op≠.NotIn:=by decide):behindInMarks op b=false:=by
 have e1:(op == CmpOp.In)=false:=by cases op <;> first | rfl | exact absurd rfl h
 have e2:(op == CmpOp.NotIn)=false:=by cases op <;> first | rfl | exact absurd rfl h2
 cases b <;> simp [behindInMarks,e1,e2]
theorem AU {op:CmpOp}{r:R2}(ho:OpR X (compareOp op) r)(ha:PE X a ta)(hb:PE X b tb)(hm:behindInMarks op b=false):PE X (.Compare a [op] [b] pos) (tOp r ta tb):=by
 intro pins s σ H Q I h
 exact wpAny_Compare1 (Ed ha hb I h fun v u s2 x y H2 I2 rx ry q=>ho pins s2 σ H2 x y v u Q I2 rx ry q) hm
def yL (t:TE):TT:=fun σ H Q=>t σ H fun x H'=>∃ k,x=.bl k∧Q k H'
theorem AV {op:CmpOp}{r:R2}(ho:OpR X (compareOp op) r)(ha:PE X a ta)(hb:PE X b tb)(hm:behindInMarks op b=false):PT X (.Compare a [op] [b] pos) (yL (tOp r ta tb)):=by
 intro pins s σ H Q I h
 refine wpAny_isTrue_Compare1 (bC (ha pins s σ H _ I h) fun v s1 x H1 I1 r1 q1=>bC (hb pins s1 σ H1 _ I1 q1) fun u s2 y H2 I2 r2 q2 =>
  bC (ho pins s2 σ H2 x y v u _ I2 r1 r2 q2) fun c s3 z H3 I3 r3 ⟨k,e,q3⟩=>?_) hm
 subst e
 cases r3
 exact wpAny_truthy_bool ⟨H3,I3,q3⟩
def uM (r r':R2)(ta tb tc:TE):TE:=fun σ H Q=>ta σ H fun x H1=>tb σ H1 fun y H2=>r x y H2 fun z H3=>∃ k,z=.bl k ∧
 (if k=true then tc σ H3 fun w' H4=>r' y w' H4 Q else Q (.bl false) H3)
theorem yM {op op':CmpOp}{r r':R2}(ho:OpR X (compareOp op) r)(ho':OpR X (compareOp op') r')(ha:PE X a ta)(hb:PE X b tb)(hc:PE X c tc)
  (hm:lastMarks [op,op'] [b,c]=false:=by with_unfolding_all rfl):PE X (.Compare a [op,op'] [b,c] pos) (uM r r' ta tb tc):=by
 intro pins s σ H Q I h
 refine Compare_chain (bC (ha pins s σ H _ I h) fun v s1 x H1 I1 r1 q1=>chain_link (bC (hb pins s1 σ H1 _ I1 q1) fun u s2 y H2 I2 r2 q2 =>
  bC (ho pins s2 σ H2 x y v u _ I2 r1 r2 q2) fun d s3 z H3 I3 r3 ⟨k,e,q3⟩=>?_)) hm
 subst e
 cases r3
 refine wpAny_truthy_bool ?_
 cases k with
 | false=>exact ite_ff ⟨.bl false,H3,I3,rfl,q3⟩
 | true=>exact ite_tt (chain_last (bC (hc pins s3 σ H3 _ I3 q3) fun w' s4 z' H4 I4 r4 q4=>ho' pins s4 σ H4 y z' u w' Q I4 r2 r4 q4))
theorem yN {op op':CmpOp}{r r':R2}(ho:OpR X (compareOp op) r)(ho':OpR X (compareOp op') r')(ha:PE X a ta)(hb:PE X b tb)(hc:PE X c tc)
  (hm:lastMarks [op,op'] [b,c]=false:=by with_unfolding_all rfl):PT X (.Compare a [op,op'] [b,c] pos) (yL (uM r r' ta tb tc)):=by
 intro pins s σ H Q I h
 refine isTrue_chain (bC (ha pins s σ H _ I h) fun v s1 x H1 I1 r1 q1=>test_link (bC (hb pins s1 σ H1 _ I1 q1) fun u s2 y H2 I2 r2 q2 =>
  bC (ho pins s2 σ H2 x y v u _ I2 r1 r2 q2) fun d s3 z H3 I3 r3 ⟨k,e,q3⟩=>?_)) hm
 subst e
 cases r3
 refine wpAny_truthy_bool ?_
 cases k with
 | false =>
  obtain ⟨k',e',q'⟩:=q3
  cases e'
  exact ite_ff ⟨H3,I3,q'⟩
 | true =>
  refine ite_tt (test_last (bC (hc pins s3 σ H3 _ I3 q3) fun w' s4 z' H4 I4 r4 q4=>bC (ho' pins s4 σ H4 y z' u w' _ I4 r2 r4 q4) fun d' s5 z2 H5 I5 r5 zz_=>?_))
  obtain ⟨k2,e2,q5⟩:=zz_
  subst e2
  cases r5
  exact wpAny_truthy_bool ⟨H5,I5,q5⟩
theorem ro:(sizeLine:Nat)<2 ^ 63:=by rw [sizeLine_eq]; decide
theorem uN:OpR X (binaryOp .Add) (fun x y H Q=>∃ i j,x=.str i∧y=.str j∧i.length+j.length≤sizeLine∧Q (.str (i++j)) H):=by
 intro pins s σ H x y v u Q I rx ry h
 obtain ⟨i,j,rfl,rfl,hz,q⟩:=h
 obtain ⟨t,rfl⟩:=rx
 obtain ⟨t',rfl⟩:=ry
 exact add_str (fun t' tk=>⟨.str (i++j),H,I.tok _,⟨_,rfl⟩,q⟩) hz
theorem vals1 {x:V}{us:List Value}(r:Vals [x] us):∃ u,us=[u]∧RelV x u:=by
 cases r with
 | cons r1 r2=>cases r2; exact ⟨_,rfl,r1⟩
theorem vals2 {x y:V}{us:List Value}(r:Vals [x,y] us):∃ u w',us=[u,w']∧RelV x u∧RelV y w':=by
 cases r with
 | cons r1 r2 =>
  cases r2 with
  | cons r3 r4=>cases r4; exact ⟨_,_,rfl,r1,r3⟩
theorem xf (hc:X.calm=true):iI X (.builtin "max") (fun xs H Q=>∃ i j,xs=[.int i,.int j]∧Q (.int (if j > i then j else i)) H):=by
 intro pins s σ H xs us Q I r h
 obtain ⟨i,j,rfl,q⟩:=h
 obtain ⟨u,w',rfl,⟨t,rfl⟩,⟨t',rfl⟩⟩:=vals2 r
 refine max_two_ints (I.ok.hd hc) fun h' tk k=>⟨_,H,I.kept k, ?_,q⟩
 by_cases hj:j > i
 ·rw [if_pos hj,if_pos hj]; exact ⟨_,rfl⟩
 ·rw [if_neg hj,if_neg hj]; exact ⟨_,rfl⟩
theorem xg:iI X (.type "int") (fun xs H Q=>(∃ i,xs=[.int i]∧Q (.int i) H)∨∃ k,xs=[.bl k]∧Q (.int (if k then 1 else 0)) H):=by
 intro pins s σ H xs us Q I r h
 rcases h with ⟨i,rfl,q⟩ | ⟨k,rfl,q⟩
 ·obtain ⟨u,rfl,t,rfl⟩:=vals1 r
  exact call_int_int ⟨.int i,H,I,⟨_,rfl⟩,q⟩
 ·obtain ⟨u,rfl,r1⟩:=vals1 r
  cases r1
  exact call_int_bool ⟨.int (if k then 1 else 0),H,I.tok _,⟨_,rfl⟩,q⟩
theorem rp:iI X (.type "str") (fun xs H Q=>∃ i,xs=[.int i]∧i.natAbs.log2<1920∧Q (.str (toString i)) H):=by
 intro pins s σ H xs us Q I r h
 obtain ⟨i,rfl,hz,q⟩:=h
 obtain ⟨u,rfl,t,rfl⟩:=vals1 r
 exact PySem.P.str_of_int hz ⟨.str _,H,I.tok _,⟨_,rfl⟩,q⟩
def GO (K:PySem.W.Frag)(x:V)(H:Hp)(n:Nat):Prop :=
 match x with
 | .str y=>y.length≤sizeLine∧n=y.length
 | .byt y=>y.size≤sizeLine∧n=y.size
 | .ref p=>(∃ xs,SqL K H p xs∧n=xs.length)∨∃ xs,SqT K H p xs∧n=xs.length
 | _=>False
theorem yO:iI X (.builtin "len") (fun xs H Q=>∃ x n,xs=[x]∧GO X.K x H n∧Q (.int n) H):=by
 intro pins s σ H xs us Q I r h
 obtain ⟨x,n,rfl,e,q⟩:=h
 obtain ⟨u,rfl,rx⟩:=vals1 r
 have hl:=ro
 have hs:sizeLine=16777216:=sizeLine_eq
 cases x with
 | str y =>
  obtain ⟨t,rfl⟩:=rx
  obtain ⟨hy,e'⟩:y.length≤sizeLine∧n=y.length:=e
  subst e'
  exact len_str (by omega) ⟨.int _,H,I.tok _,⟨_,rfl⟩,q⟩
 | byt y =>
  obtain ⟨t,rfl⟩:=rx
  obtain ⟨hy,e'⟩:y.size≤sizeLine∧n=y.size:=e
  subst e'
  exact PySem.W.len_bytes (by omega) ⟨.int _,H,I.tok _,⟨_,rfl⟩,q⟩
 | ref p =>
  cases rx
  have e':(∃ xs,SqL X.K H p xs∧n=xs.length)∨∃ xs,SqT X.K H p xs∧n=xs.length:=e
  rcases e' with ⟨xs,hx,e'⟩ | ⟨xs,hx,e'⟩
  ·subst e'
   obtain ⟨its,r',pl,hz⟩:=I.list hx
   have hlen:=r'.length
   exact Calls.call_len_list pl.isList (by simp only [List.size_toArray]; omega) ⟨.int xs.length,H,I.tok _,⟨_,by simp only [List.size_toArray]; rw [hlen]⟩,q⟩
  ·subst e'
   obtain ⟨its,r',pl,hz⟩:=I.tuple hx
   have hlen:=r'.length
   exact len_tuple pl (by simp only [List.size_toArray]; omega) ⟨.int xs.length,H,I.tok _,⟨_,by simp only [List.size_toArray]; rw [hlen]⟩,q⟩
 | _=>exact (show False from e).elim
end
end L2
namespace L2
open PySem PySem.Spec PyProof.Rows
structure uO (h:Heap)(x dx C:Addr)(mA:Str→Option Value):Prop where
 obj:h.get? x=some (PySem.W.instObj C dx)
 ns:h.Ns1 dx mA
 ne:dx≠x
theorem xh {h:Heap}{dx:Addr}{mA:Str→Option Value}(n:h.Ns1 dx mA):∃ od,h.get? dx=some od∧∀ name,PySem.W.lookIn name od=some (mA name):=by
 obtain ⟨o,es,ep,ho,hd,hk,_,hm⟩:=n
 refine ⟨o,ho,fun name=>?_⟩
 have e:=hm name
 unfold nsFind findBy at e
 rw [← Array.find?_toList] at e
 unfold PySem.W.lookIn
 rw [hd]
 dsimp only
 split
 ·rename_i y q
  rw [q] at e
  exact congrArg some e
 ·rename_i q
  rw [q] at e
  have a:es.toList.any (·.refKey)=false:=by
   rw [List.any_eq_false]
   intro y hy
   obtain ⟨z,t,hkey⟩:=hk y (Array.mem_toList_iff.mp hy)
   simp [DictEntry.refKey,hkey]
  have a' : ¬ es.toList.any (·.refKey)=true:=by rw [a]; exact Bool.false_ne_true
  rw [if_neg a']
  exact congrArg some e
theorem uO.look {h:Heap}{x dx C:Addr}{mA:Str→Option Value}(I:uO h x dx C mA):∃ od,PySem.W.InstAt h x (PySem.W.instObj C dx) C (some od)∧∀ name,PySem.W.lookIn name od=some (mA name) :=
 let ⟨od,ho,hl⟩:=xh I.ns
 ⟨od,⟨I.obj,rfl,rfl,ho⟩,hl⟩
section
variable {prog:Program}{w:World}{A:Around}{E:Value→Shared→Prop}{s:Shared}{K:PySem.W.Frag}{x dx C f:Addr}{mA:Str→Option Value}{name:Str}{v:Value}
theorem get_map {expr:Bool}{Q:Value→Shared→Prop}(X:K.In s.heap)(I:uO s.heap x dx C mA)(hg:PySem.W.plainGet K C name=true)(hh:PySem.W.hasDictIn K C=true)
  (ha:PySem.W.findIn K (.ref C) name=some none) (hv:mA name=some v) (hv':PySem.W.handedIn v=true) (h:Q v { s with toks:=s.toks+1 }) :
  wpAny (model prog w) A (getAttr (.ref x) name expr) Q E s:=by
 obtain ⟨od,J,hl⟩:=I.look
 exact PySem.W.get_value X J (PySem.W.plainGet_of hg).1 (PySem.W.findObj_own hh ha rfl (by rw [hl,hv])) hv' h
theorem yP {pl:Sem Bool}{Q:Value × List Value→Shared→Prop}(X:K.In s.heap)(I:uO s.heap x dx C mA)(hg:PySem.W.plainGet K C name=true)
  (hf:PySem.W.findIn K (.ref C) name=some (some (.ref f))) (ht:PySem.W.isFn K (.ref f)=true) (hv:mA name=none) (h:Q (.ref f,[.ref x]) s) :
  wpAny (model prog w) A (getMethod (.ref x) name pl) Q E s:=by
 obtain ⟨od,J,hl⟩:=I.look
 exact PySem.W.method_fn X J (PySem.W.plainGet_of hg).1 (PySem.W.plainGet_of hg).2 hf (beq_iff_eq.mp ht) (by show (PySem.W.lookIn name od).map (·.isSome)=some false; rw [hl,hv]; rfl) h
theorem AW {ns:List Str}{Q:Unit→Shared→Prop}(X:K.In s.heap)(I:uO s.heap x dx C mA)
  (hs:PySem.W.findIn K (.ref C) "__setattr__"=some (some (.builtin "object.__setattr__"))) (hp:PySem.W.plainOver K C=true) (ht:PySem.W.takerIn K C name=some none) (hh:PySem.W.hasDictIn K C=true)
  (hw:PySem.Within mA ns) (hsz:ns.length≤sizeLine)
  (h:∀ h',uO h' x dx C (fun y=>if y=name then some v else mA y)→Heap.SameBut dx s.heap h'→Q () { s with heap:=h',toks:=s.toks+2 }) :
  wpAny (model prog w) A (setAttr (.ref x) name v) Q E s:=by
 obtain ⟨od,J,hl⟩:=I.look
 refine PySem.W.set_plain X J hs (PySem.W.osa_open (s:={ s with toks:=s.toks+1 }) (r:=none) X J hp ht fun b=>?_)
 obtain ⟨cd,hc,hd'⟩:=PySem.W.any_some hh
 have hx:s.heap.get? x=some ⟨.ref C,some dx,.plain, #[]⟩:=I.obj
 refine wpAny_bind (wpAny_pure (wpAny_bind (wpAny_bind (wpAny_loadPart hx (wpAny_bind (PySem.W.Looks.here (s:={ s with toks:=s.toks+1 }) (PySem.W.looks_clsIn X hc) ?_))))))
 rw [hd']
 refine wpAny_pure (a:=some dx) (wpAny_bind (wpAny_pure (wpAny_bind ?_)))
 refine wpAny_nsSet1 (s:={ s with toks:=s.toks+1 }) I.ns fun h' hn2 hs2=>?_
 obtain ⟨oD,esD,epD,hoD,hdD,hcD⟩:=hn2.count (PySem.Within.cons name v hw)
 refine wpAny_bind (wpAny_lookBehind hoD (by rw [hdD]; exact pastItsLine_dict (Nat.le_trans hcD (by rw [List.length_cons]; omega))) ?_)
 exact wpAny_pure (h _ ⟨(hs2.2 _ (Ne.symm I.ne)).trans I.obj,hn2,I.ne⟩ hs2)
theorem yQ {R:Result→Shared→Prop}{vs:List Value}{kw:List (Str × Value)}(X:K.In s.heap)(hm:PySem.W.makesIn K C=true)
  (hi:PySem.W.findIn K (.ref C) "__init__"=some (some (.ref f))) (hf:PySem.W.typeIn K (.ref f)=some (.type "function"))
  (h:codeAny (model prog w) (A.under (.builtin "type.__call__" ⟨.ref C::vs,kw⟩)) (.call (.ref f) ⟨.ref (s.heap.objs.size+1)::vs,kw⟩) (PySem.W.InitBack (s.heap.objs.size+1) R)
   { s with heap:=(s.heap.push PySem.W.emptyDict).push (PySem.W.instObj C s.heap.objs.size) }) :
  codeAny (model prog w) A (.call (.ref C) ⟨vs,kw⟩) R s:=by
 obtain ⟨hh,g,d,t,os⟩:=s
 exact PySem.W.make_core (PySem.W.makes_of X hm) (PySem.W.looks_findIn X hi) (fun self=>PySem.W.bind_fn X self hf) (.inl rfl) h
end
def jK (f:Str)(v:V):List (Str × V)→List (Str × V)
 | []=>[(f,v)]
 | (g,x)::r=>if g=f then (g,v)::r else (g,x)::jK f v r
theorem n6 (f g:Str)(v:V):∀ fs:List (Str × V),(jK f v fs).lookup g=if g=f then some v else fs.lookup g
 | []=>by
  show List.lookup g [(f,v)]=_
  by_cases h:g=f
  ·have hb:(g == f)=true:=beq_iff_eq.mpr h
   simp only [List.lookup,hb,if_pos h]
  ·have hb:(g == f)=false:=beq_eq_false_iff_ne.mpr h
   simp only [List.lookup,hb,if_neg h]
 | (k,x)::r=>by
  have ih:=n6 f g v r
  rw [show jK f v ((k,x)::r)=(if k=f then (k,v)::r else (k,x)::jK f v r) from rfl]
  by_cases hk:k=f
  ·rw [if_pos hk]
   by_cases h:g=k
   ·have hb:(g == k)=true:=beq_iff_eq.mpr h
    simp only [List.lookup,hb,if_pos (h.trans hk)]
   ·have hb:(g == k)=false:=beq_eq_false_iff_ne.mpr h
    simp only [List.lookup,hb,if_neg (fun e:g=f=>h (e.trans hk.symm))]
  ·rw [if_neg hk]
   by_cases h:g=k
   ·have hb:(g == k)=true:=beq_iff_eq.mpr h
    simp only [List.lookup,hb,if_neg (fun e:g=f=>hk (h.symm.trans e))]
   ·have hb:(g == k)=false:=beq_eq_false_iff_ne.mpr h
    simp only [List.lookup,hb]
    exact ih
theorem mr (f:Str)(v:V):∀ fs:List (Str × V),f∈(jK f v fs).map (·.1)∧∀ g,g∈fs.map (·.1)→g∈(jK f v fs).map (·.1)
 | []=>⟨by simp [jK],fun g h=>by simp at h⟩
 | (k,x)::r=>by
  obtain ⟨i1,i2⟩:=mr f v r
  rw [show jK f v ((k,x)::r)=(if k=f then (k,v)::r else (k,x)::jK f v r) from rfl]
  by_cases hk:k=f
  ·rw [if_pos hk]
   subst hk
   exact ⟨by simp,fun g h=>by simpa using h⟩
  ·rw [if_neg hk]
   refine ⟨?_,fun g h=>?_⟩
   ·rw [List.map_cons]
    exact List.mem_cons_of_mem _ i1
   ·rw [List.map_cons] at h ⊢
    rcases List.mem_cons.mp h with e | e
    ·exact List.mem_cons.mpr (.inl e)
    ·exact List.mem_cons_of_mem _ (i2 g e)
theorem n8 (f:Str)(v:V):∀ fs:List (Str × V),(jK f v fs).length≤fs.length+1
 | []=>by simp [jK]
 | (k,x)::r=>by
  have ih:=n8 f v r
  rw [show jK f v ((k,x)::r)=(if k=f then (k,v)::r else (k,x)::jK f v r) from rfl]
  by_cases hk:k=f
  ·rw [if_pos hk,List.length_cons,List.length_cons]; omega
  ·rw [if_neg hk,List.length_cons,List.length_cons]; omega
theorem kG.some_of {v:V}{o:Option Value}(r:kG (some v) o):∃ u,o=some u∧RelV v u:=by
 cases o with
 | none=>exact (show False from r).elim
 | some u=>exact ⟨u,rfl,r⟩
theorem kG.none_of {o:Option Value}(r:kG none o):o=none:=by
 cases o with
 | none=>rfl
 | some u=>exact (show False from r).elim
theorem xi {v:V}{u:Value}(r:RelV v u):PySem.W.handedIn u=true:=by
 cases v with
 | non=>cases (show u=Value.none from r); rfl
 | bl b=>cases (show u=Value.bool b from r); rfl
 | int i=>obtain ⟨t,e⟩:=(show ∃ t,u=Value.int i t from r); cases e; rfl
 | str x=>obtain ⟨t,e⟩:=(show ∃ t,u=Value.str x t from r); cases e; rfl
 | byt b=>obtain ⟨t,e⟩:=(show ∃ t,u=Value.bytes b t from r); cases e; rfl
 | flt b=>obtain ⟨t,e⟩:=(show ∃ t,u=Value.float b t from r); cases e; rfl
 | ref a=>cases (show u=Value.ref a from r); rfl
 | ty n=>cases (show u=Value.type n from r); rfl
section
variable {P:Program}{w:World}{H H':Hp}{h h':Heap}{a C dx:Addr}{fs fs':List (Str × V)}
theorem rq (hok:HOk P w H h)(e:H a=some (.ins C dx fs)):∃ mA,uO h a dx C mA∧(∀ f,kG (fs.lookup f) (mA f))∧PySem.Within mA (fs.map (·.1))∧fs.length≤1000∧H dx=some (.own a):=by
 obtain ⟨d,z,ne,ob,mA,n,r,q⟩:=(show eG P w H h a (.ins C dx fs) from hok a _ e)
 exact ⟨mA,⟨ob,n,ne⟩,r,q,z,d⟩
end
structure Cls (K:PySem.W.Frag)(C:Addr):Prop where
 pg:PySem.W.plainGet K C Str.empty=true
 hd:PySem.W.hasDictIn K C=true
 po:PySem.W.plainOver K C=true
 sa:PySem.W.findIn K (.ref C) "__setattr__"=some (some (.builtin "object.__setattr__"))
theorem Cls.get {K:PySem.W.Frag}{C:Addr}(c:Cls K C)(f:Str):PySem.W.plainGet K C f=true:=c.pg
def jf (K:PySem.W.Frag)(C:Addr)(f:Str):Prop:=PySem.W.findIn K (.ref C) f=some none
theorem jf.GP {K:PySem.W.Frag}{C:Addr}{f:Str}(n:jf K C f):PySem.W.takerIn K C f=some none:=by
 unfold PySem.W.takerIn
 rw [show PySem.W.findIn K (.ref C) f=some none from n]
 rfl
structure Meth (K:PySem.W.Frag)(C:Addr)(m:Str)(f:Addr):Prop where
 at_:PySem.W.findIn K (.ref C) m=some (some (.ref f))
 fn:PySem.W.isFn K (.ref f)=true
 kp:PySem.W.keepIn K (.ref f)=true
section
variable {X:Cx}{pins:List (Addr × Obj)}{σ:St}{H:Hp}{s:Shared}{a C dx:Addr}{fs:List (Str × V)}{f:Str}{v:V}{A:Around}{E:Value→Shared→Prop}
theorem uP {b:Bool}{Q:Value→Shared→Prop}(I:Inv X pins σ H s)(e:H a=some (.ins C dx fs))(c:Cls X.K C)(n:jf X.K C f)(l:fs.lookup f=some v)
  (h:∀ u s',Inv X pins σ H s'→RelV v u→Q u s'):wpAny (model X.prog X.w) A (getAttr (.ref a) f b) Q E s:=by
 obtain ⟨mA,O,r,_,_,_⟩:=rq I.hok e
 obtain ⟨u,hu,ru⟩:=kG.some_of (v:=v) (o:=mA f) (by rw [← l]; exact r f)
 exact get_map I.kIn O (c.get f) c.hd n hu (xi ru) (h u _ (I.tok _) ru)
theorem uQ {m:Str}{g:Addr}{pl:Sem Bool}{Q:Value × List Value→Shared→Prop}(I:Inv X pins σ H s)(e:H a=some (.ins C dx fs))(c:Cls X.K C)(k:Meth X.K C m g)(l:fs.lookup m=none)
  (h:Q (.ref g,[.ref a]) s):wpAny (model X.prog X.w) A (getMethod (.ref a) m pl) Q E s:=by
 obtain ⟨mA,O,r,_,_,_⟩:=rq I.hok e
 have hn:mA m=none:=kG.none_of (by rw [← l]; exact r m)
 exact yP I.kIn O (c.get m) k.at_ k.fn hn h
theorem uR {y:V}{u:Value}{Q:Unit→Shared→Prop}(I:Inv X pins σ H s)(e:H a=some (.ins C dx fs))(c:Cls X.K C)(n:jf X.K C f)(hl:fs.length<1000)(ry:RelV y u)
  (h:∀ s',Inv X pins σ (upd H a (.ins C dx (jK f y fs))) s'→Q () s'):wpAny (model X.prog X.w) A (setAttr (.ref a) f u) Q E s:=by
 obtain ⟨mA,O,r,wi,_,ho⟩:=rq I.hok e
 have hz:(fs.map (·.1)).length≤sizeLine:=by rw [List.length_map,sizeLine_eq]; omega
 refine AW I.kIn O c.sa c.po n.GP c.hd wi hz fun h' O' sb=>h _ ?_
 have hd:∃ o,h'.get? dx=some o:=let ⟨o,_,_,e',_⟩:=O'.ns; ⟨o,e'⟩
 refine I.write (x:=a) (e:=dx) (by rw [e]; exact True.intro) (.inr ho) (fun b q hb z=>(sb.2 b hb).trans z) hd ?_
 refine ⟨by rw [aC O.ne]; exact ho, ?_,O.ne,O'.obj,_,O'.ns,fun g=>?_,fun g hg=>?_⟩
 ·have:=n8 f y fs; omega
 ·show kG ((jK f y fs).lookup g) (if g=f then some u else mA g)
  rw [n6]
  by_cases q:g=f
  ·rw [if_pos q,if_pos q]; exact ry
  ·rw [if_neg q,if_neg q]; exact r g
 ·by_cases q:g=f
  ·rw [q]; exact (mr f y fs).1
  ·refine (mr f y fs).2 g (wi g fun z=>hg ?_)
   show (if g=f then some u else mA g)=none
   rw [if_neg q]; exact z
theorem Inv.made (I:Inv X pins σ H s):Inv X pins σ (upd (upd H s.heap.objs.size (.own (s.heap.objs.size+1))) (s.heap.objs.size+1) (.ins C s.heap.objs.size []))
  { s with heap:=(s.heap.push PySem.W.emptyDict).push (PySem.W.instObj C s.heap.objs.size) }:=by
 have e1:(s.heap.push PySem.W.emptyDict).get? s.heap.objs.size=some PySem.W.emptyDict:=Heap.get?_push_size s.heap rfl
 have e2:((s.heap.push PySem.W.emptyDict).push (PySem.W.instObj C s.heap.objs.size)).get? (s.heap.objs.size+1)=some (PySem.W.instObj C s.heap.objs.size):=by
  have:=Heap.get?_push_size (s.heap.push PySem.W.emptyDict) (o:=PySem.W.instObj C s.heap.objs.size) rfl
  rwa [Heap.size_push] at this
 have e3:(s.heap.push PySem.W.emptyDict).Ns s.heap.objs.size (fun _=>none):=⟨PySem.W.emptyDict, #[],_,e1,rfl,(fun e he=>absurd he (by simp)),fun _=>rfl⟩
 have I1:=I.laid (a:=s.heap.objs.size) (o:=.own (s.heap.objs.size+1)) (h':=s.heap.push PySem.W.emptyDict) (t':=s.toks) (fun b u q=>Heap.get?_push_of_some _ q) (Nat.le_refl _) ⟨_,e1⟩
 refine I1.laid (a:=s.heap.objs.size+1) (o:=.ins C s.heap.objs.size []) (t':=s.toks) (fun b u q=>Heap.get?_push_of_some _ q) (Nat.le_of_eq (Heap.size_push _ _)) ?_
 have ne:s.heap.objs.size≠s.heap.objs.size+1:=Nat.ne_of_lt (Nat.lt_succ_self _)
 refine ⟨by rw [aC ne,bu],Nat.zero_le _,ne,e2,fun _=>none,(Heap.Ns1.of_empty e3).at fun o q=>Heap.get?_push_of_some _ q,fun _=>True.intro,fun y hy=>absurd rfl hy⟩
theorem AX {prog:Program}{w:World}{env:Env}{e:Expr}{f:Str}{pos:Pos}{s:Shared}{Q:Value→Shared→Prop}(hb:attributeBase e f env (eval e env)=eval e env)
  (h:wpAny (model prog w) A (eval e env) (fun o s₁=>wpAny (model prog w) A (getAttr o f true) Q E s₁) E s):wpAny (model prog w) A (eval (.Attribute e f pos) env) Q E s :=
 Attribute_any_ h (by rw [arm_eval_Attribute,hb])
end
def Ji (K:PySem.W.Frag)(ta:TE)(f:Str):TE:=fun σ H Q=>ta σ H fun x H1=>∃ a C dx fs v,x=.ref a∧H1 a=some (.ins C dx fs)∧Cls K C∧jf K C f∧fs.lookup f=some v∧Q v H1
def Jj (K:PySem.W.Frag)(ta tv:TE)(f:Str):TS:=fun D σ H=>tv σ H fun y H1=>ta σ H1 fun x H2=>∃ a C dx fs,x=.ref a∧H2 a=some (.ins C dx fs)∧Cls K C∧jf K C f∧fs.length<1000 ∧
 D.nx σ (upd H2 a (.ins C dx (jK f y fs)))
section
variable {X:Cx}{o e value:Expr}{f:Str}{pos pos' tpos:Pos}{ta tv:TE}
theorem yR (he:PE X e ta)(hb:attributeBase e f X.env (eval e X.env)=eval e X.env):PE X (.Attribute e f pos) (Ji X.K ta f):=by
 intro pins s σ H Q I h
 refine AX hb (bC (he pins s σ H _ I h) fun u s1 x H1 I1 rx zz_=>?_)
 obtain ⟨a,C,dx,fs,v,ex,ea,c,n,l,q⟩:=zz_
 subst ex
 obtain rfl:u=Value.ref a:=rx
 exact uP I1 ea c n l fun u' s2 I2 ru=>⟨v,H1,I2,ru,q⟩
theorem Ek (ha:PE X o ta)(hv:PE X value tv)(hs:swapsWith value (some (.Attribute o f pos')) pos.line X.env=pure false):PS X (.Assign [.Attribute o f pos'] value pos) (Jj X.K ta tv f):=by
 intro pins s σ H D I h
 refine plainObj_wpAny_Assign_Attribute (bC (hv pins s σ H _ I h) fun u s1 y H1 I1 ry q=>bC (ha pins s1 σ H1 _ I1 q) fun ov s2 x H2 I2 rx zz_=>?_) hs
 obtain ⟨a,C,dx,fs,ex,ea,c,n,l,q2⟩:=zz_
 subst ex
 obtain rfl:ov=Value.ref a:=rx
 exact uR I2 ea c n l ry fun s3 I3=>⟨σ,_,I3,q2⟩
end
section
variable {X:Cx}{pins:List (Addr × Obj)}{σ:St}{H:Hp}{s:Shared}{A:Around}{E:Value→Shared→Prop}{Q:Value→Shared→Prop}{c:Value}{b:Bool}
end
end L2
namespace L2
open PySem PySem.Spec PyProof.Rows
structure el (k:Nat)(A:Around):Prop where
 hd:A.handled=none
 dp:A.depth+3 * k+5<recursionLimit
 un:A.units+16 * k+200<cLine
theorem el.mono {j k:Nat}{A:Around}(r:el k A)(h:j≤k):el j A:=⟨r.hd,by have:=r.dp; omega,by have:=r.un; omega⟩
theorem el.deeper {k:Nat}{A:Around}(r:el (k+1) A)(env:Env):el k (A.deeper env) :=
 ⟨r.hd,by have:=r.dp; show A.depth+1+3 * k+5 < _; omega,by have:=r.un; show A.units+3+16 * k+200 < _; omega⟩
theorem uS {A:Around}{C:Addr}{us:List Value}{kw:List (Str × Value)}:(A.under (.builtin "type.__call__" ⟨.ref C::us,kw⟩)).depth=A.depth+1:=by
 first | rfl | simp [Around.under,Code.weight,Code.isCreation,Code.isGuard,Code.isCaller,Code.frames,Code.isFrame,guardIds]
theorem uT {A:Around}{C:Addr}{us:List Value}{kw:List (Str × Value)}:(A.under (.builtin "type.__call__" ⟨.ref C::us,kw⟩)).units=A.units+1:=by
 first | rfl | simp [Around.under,Code.cUnits,Code.frames,Code.isFrame]
theorem el.make {k:Nat}{A:Around}(r:el (k+1) A)(C:Addr)(us:List Value)(kw:List (Str × Value)):el k (A.under (.builtin "type.__call__" ⟨.ref C::us,kw⟩)) :=
 ⟨r.hd,by have:=r.dp; rw [uS]; omega,by have:=r.un; rw [uT]; omega⟩
theorem el.depth {k:Nat}{A:Around}(r:el k A):A.depth<recursionLimit:=by have:=r.dp; omega
theorem el.units {k:Nat}{A:Around}(r:el k A):A.units+64<cLine:=by have:=r.un; omega
def xj:TA:=fun _ H Q=>Q [] H
def qu (ta:TE)(tr:TA):TA:=fun σ H Q=>ta σ H fun x H1=>tr σ H1 fun xs H2=>Q (x::xs) H2
section
variable {X:Cx}{e:Expr}{es:List Expr}{te:TE}{t:TA}{pos:Pos}
theorem rA:PA X [] xj:=fun _ _ _ _ H Q I h=>Calls.spliced_nil ⟨[],H,I,.nil,h⟩
theorem jg (ha:PE X e te)(hr:PA X es t)(hs:starEach (e::es) X.env=(false,eval e X.env)::starEach es X.env:=by rfl):PA X (e::es) (qu te t):=by
 intro pos pins s σ H Q I h
 rw [hs]
 show wpAny _ _ (spliced ((false,eval e X.env)::backTo pos (starEach es X.env))) _ _ s
 refine Calls.spliced_cons (bC (ha pins s σ H _ I h) fun u s1 x H1 I1 r1 q1=>?_)
 exact bC (hr pos pins s1 σ H1 _ I1 q1) fun us s2 xs H2 I2 r2 q2=>⟨x::xs,H2,I2,.cons r1 r2,q2⟩
def GQ (t:TA):TE:=fun σ H Q=>t σ H fun xs H1=>xs.length≤sizeLine∧∀ p,H1 p=none→Q (.ref p) (upd H1 p (.tup xs))
def GS (t:TA):TE:=fun σ H Q=>t σ H fun xs H1=>xs.length≤sizeLine∧∀ p,H1 p=none→Q (.ref p) (upd H1 p (.lst xs))
theorem El {x1}(h:PA X es t):PE X (.Tuple es x1 pos) (GQ t):=by
 intro pins s σ H Q I hq
 refine wpAny_Tuple_spliced (bC (h pos pins s σ H _ I hq) fun us s1 xs H1 I1 r ⟨z,q⟩=>⟨by rw [← r.length]; exact z, ?_⟩)
 have hf:H1 s1.heap.objs.size=none:=I1.hok.fresh (Nat.le_refl _)
 refine ⟨.ref s1.heap.objs.size,upd H1 s1.heap.objs.size (.tup xs),I1.laid (t':=s1.toks) (fun b u e=>Heap.get?_push_of_some _ e) (Nat.le_refl _) ?_,rfl,q _ hf⟩
 exact ⟨z,us,r,⟨_,Heap.get?_push_size _ rfl,rfl,_,rfl⟩⟩
theorem Em (h:PA X es t):PE X (.List es pos) (GS t):=by
 intro pins s σ H Q I hq
 refine wpAny_List_spliced (bC (h pos pins s σ H _ I hq) fun us s1 xs H1 I1 r ⟨z,q⟩=>⟨by rw [← r.length]; exact z, ?_⟩)
 have hf:H1 s1.heap.objs.size=none:=I1.hok.fresh (Nat.le_refl _)
 refine ⟨.ref s1.heap.objs.size,upd H1 s1.heap.objs.size (.lst xs),I1.laid (t':=s1.toks) (fun b u e=>Heap.get?_push_of_some _ e) (Nat.le_refl _) ?_,rfl,q _ hf⟩
 exact ⟨z,us,0,r,Heap.get?_push_size _ rfl⟩
end
abbrev Sp:=List V→Hp→VK→XK→Prop
abbrev CXT:=List Env→Hp→Shared→XK→Value→Shared→Prop
structure uU (P:Program)(w:World)(K:PySem.W.Frag)(mg:Str→Option Value)(base:Heap)(A:Around)(outer:List Env)(s:Shared)(H:Hp):Prop where
 frames:A.frames=some outer
 mod:Mod K mg base
 bs:∀ b o,base.get? b=some o→s.heap.get? b=some o∧H b=none
 bsz:base.objs.size≤s.heap.objs.size
 nq:s.heap.FunFrames base outer
 frf:∀ b∈frs outer,H b=none
 hok:HOk P w H s.heap
 bare:AllBare s.gens
def CE (outer:List Env)(P:Program)(w:World)(H:Hp)(s:Shared)(Q:VK)(u:Value)(s':Shared):Prop :=
 ∃ v H',s'.os=s.os∧AllBare s'.gens∧Un (frs outer) [] H H' s.heap s'.heap∧HOk P w H' s'.heap∧RelV v u∧Q v H'
def CR (CX:CXT)(outer:List Env)(P:Program)(w:World)(H:Hp)(s:Shared)(Q:VK)(E:XK)(r:Result)(s':Shared):Prop :=
 match r with
 | .ok (.ret u)=>CE outer P w H s Q u s'
 | .ok _=>False
 | .error e=>CX outer H s E e s'
structure fR (P:Program)(w:World)(K:PySem.W.Frag)(mg:Str→Option Value)(base:Heap)(CX:CXT)(k:Nat)(f:Addr)(fd:FuncData)(ps:List Str)(sp:Sp):Prop where
 len:∀ vs H Q E,sp vs H Q E→vs.length=ps.length
 run:∀ (A:Around) (outer:List Env) (s:Shared) (H:Hp) (args:Args) (us:List Value) (vs:List V) (Q:VK) (E:XK),el k A→uU P w K mg base A outer s H→BindsTo s fd args (ps.zip us)→Vals vs us→sp vs H Q E →
  codeAny (model P w) A (.call (.ref f) args) (CR CX outer P w H s Q E) s
theorem fR.mono {P:Program}{w:World}{K:PySem.W.Frag}{mg:Str→Option Value}{base:Heap}{CX:CXT}{j k:Nat}{f:Addr}{fd:FuncData}{ps:List Str}{sp:Sp}(F:fR P w K mg base CX j f fd ps sp)(h:j≤k) :
  fR P w K mg base CX k f fd ps sp:=⟨F.len,fun A outer s H args us vs Q E hr=>F.run A outer s H args us vs Q E (hr.mono h)⟩
theorem fR.imp {P:Program}{w:World}{K:PySem.W.Frag}{mg:Str→Option Value}{base:Heap}{CX:CXT}{k:Nat}{f:Addr}{fd:FuncData}{ps:List Str}{sp sp':Sp}(F:fR P w K mg base CX k f fd ps sp)
  (h:∀ vs H Q E,sp' vs H Q E→sp vs H Q E):fR P w K mg base CX k f fd ps sp' :=
 ⟨fun vs H Q E q=>F.len vs H Q E (h _ _ _ _ q),fun A outer s H args us vs Q E hr he hb hv hs=>F.run A outer s H args us vs Q E hr he hb hv (h _ _ _ _ hs)⟩
theorem uU.make {P:Program}{w:World}{K:PySem.W.Frag}{mg:Str→Option Value}{base:Heap}{A:Around}{outer:List Env}{s:Shared}{H:Hp}(e:uU P w K mg base A outer s H)(C:Addr)(us:List Value)(kw:List (Str × Value)) :
  uU P w K mg base (A.under (.builtin "type.__call__" ⟨.ref C::us,kw⟩)) outer s H:=⟨by first | exact e.frames | (simpa [Around.under,Code.envs,Code.isFrame,pushEnvs] using e.frames),e.mod,e.bs,e.bsz,e.nq,e.frf,e.hok,e.bare⟩
section
variable {X:Cx}{pins:List (Addr × Obj)}{σ:St}{H:Hp}{s s':Shared}
theorem Inv.GU (I:Inv X pins σ H s):uU X.prog X.w X.K X.mg X.base X.A X.stack s H :=
 ⟨I.ok.frames,I.ok.mod,I.bs,Nat.le_trans I.ok.bsz I.sz,I.stack,I.rh,I.hok,I.bare⟩
theorem Inv.after {Q:VK}{u:Value}(I:Inv X pins σ H s)(h:CE X.stack X.prog X.w H s Q u s'):EP X pins σ Q u s':=by
 obtain ⟨v,H',os,bare,un,hok,r,q⟩:=h
 obtain ⟨hh,g,d,t,os'⟩:=s'
 obtain rfl:os'=s.os:=os
 exact ⟨v,H',I.call (h':=hh) (g':=g) (d':=d) (t':=t) (ch:=[]) un hok bare (fun b z=>absurd z (by simp)),r,q⟩
end
def vN (sp:Sp)(dvs:List V)(E:XK)(t:TA):TE:=fun σ H Q=>t σ H fun vs H1=>sp (vs++dvs) H1 Q E
def GV (C:Addr)(m:Str)(sp:Sp)(dvs:List V)(E:XK)(ta:TE)(t:TA):TE:=fun σ H Q=>ta σ H fun x H1=>∃ a dx fs,x=.ref a∧H1 a=some (.ins C dx fs)∧fs.lookup m=none ∧
 t σ H1 fun vs H2=>sp (x::(vs++dvs)) H2 Q E
def D8 (C:Addr)(sp:Sp)(dvs:List V)(E:XK)(t:TA):TE:=fun σ H Q=>t σ H fun vs H1=>∀ x dx,H1 x=none→H1 dx=none→dx≠x →
 sp (.ref x::(vs++dvs)) (upd (upd H1 dx (.own x)) x (.ins C dx [])) (fun v H2=>v=.non∧Q (.ref x) H2) E
def Binds (K:PySem.W.Frag)(fd:FuncData)(ps:List Str)(ds:List Value):Prop :=
 ∀ (s:Shared) (us:List Value),K.In s.heap→(us++ds).length=ps.length→BindsTo s fd ⟨us,[]⟩ (ps.zip (us++ds))
theorem Binds.all {K:PySem.W.Frag}{fd:FuncData}{ps:List Str}(h:∀ us:List Value,us.length=ps.length→bindArgs fd ⟨us,[]⟩=pure (ps.zip us)):Binds K fd ps []:=fun s us _ hl=>by
 rw [List.append_nil] at hl ⊢
 exact .of_eq (h us hl)
def Passes (CX:CXT)(X:Cx)(E:XK):Prop:=∀ (pins:List (Addr × Obj)) (σ:St) (H:Hp) (s:Shared) (e:Value) (s':Shared),Inv X pins σ H s→CX X.stack H s E e s'→X.xe e s'
section
variable {X:Cx}{CX:CXT}{k:Nat}{f C:Addr}{fd:FuncData}{ps:List Str}{sp:Sp}{dvs:List V}{ds:List Value}{E:XK}{x m:Str}{p pos apos:Pos}{e o:Expr}{es:List Expr}{ta:TE}{t:TA}
theorem uV {pins:List (Addr × Obj)}{σ:St}{H:Hp}{s:Shared}{Q:VK}{us:List Value}{vs:List V}(F:fR X.prog X.w X.K X.mg X.base CX k f fd ps sp)(hr:el k X.A)(hb:Binds X.K fd ps ds)(hd:Vals dvs ds)(hx:Passes CX X E)
  (I:Inv X pins σ H s) (r:Vals vs us) (h:sp (vs++dvs) H Q E):wpAny (model X.prog X.w) X.A (call (.ref f) us) (EP X pins σ Q) X.xe s:=by
 have r2:Vals (vs++dvs) (us++ds):=r.append hd
 have hl:(us++ds).length=ps.length:=by rw [← r2.length]; exact F.len _ _ _ _ h
 refine wpAny_call (codeAny_mono (F.run X.A X.stack s H ⟨us,[]⟩ (us++ds) (vs++dvs) Q E hr I.GU (hb s us I.kIn hl) r2 h) fun r s' hq=>?_)
 cases r with
 | error e=>exact hx pins σ H s e s' I hq
 | ok fl =>
  cases fl with
  | ret u=>exact I.after hq
  | next=>exact False.elim hq
  | brk=>exact False.elim hq
  | cont=>exact False.elim hq
theorem vO (F:fR X.prog X.w X.K X.mg X.base CX k f fd ps sp)(hr:el k X.A)(hg:Gl X x)(hm:X.mg x=some (.ref f))(hk:PySem.W.keepIn X.K (.ref f)=true)(hb:Binds X.K fd ps ds)(hd:Vals dvs ds)(hx:Passes CX X E)
  (ha:PA X (e::es) t) (hdb:(x == ("__debug__":Str))=false:=by decide) (he:starEach (e::es) X.env=(false,eval e X.env)::starEach es X.env:=by rfl) (hpl:(backTo pos (starEach es X.env)).any (·.1)=false:=by rfl) :
  PE X (.Call (.Name x p) (e::es) [] pos) (vN sp dvs E t):=by
 intro pins s σ H Q I h
 refine wpAny_Call_Name_kw (nN I hg hm ?_ hdb)
 refine PySem.W.callWith_K (h₀:=X.base) I.ok.mod.kin hk (bC (ha pos pins s σ H _ I h) fun us s1 vs H1 I1 r q=>⟨I1.kIn, ?_⟩) he hpl
 exact uV F hr hb hd hx I1 r q
theorem sP {pl:Sem Bool}(he:PE X o ta)(c:Cls X.K C)(hm:Meth X.K C m f)(F:fR X.prog X.w X.K X.mg X.base CX k f fd ps sp)(hr:el k X.A)(hb:Binds X.K fd ps ds)(hd:Vals dvs ds)(hx:Passes CX X E)
  (ht:eval (.Call (.Attribute o m apos) [] [] pos) X.env=(do
   let ov ← eval o X.env
   standAt apos.atName
   let (f,first) ← holding [ov] (getMethod ov m pl)
   callWith pos f first (backTo pos (starEach [] X.env)) (backToKw pos (keywordEach [] X.env))):=by rfl) :
  PE X (.Call (.Attribute o m apos) [] [] pos) (GV C m sp dvs E ta xj):=by
 intro pins s σ H Q I h
 refine PySem.W.methodCall_KW (pl:=pl) (bC (he pins s σ H _ I h) fun u s1 x H1 I1 rx zz_=>?_) ht
 obtain ⟨a,dx,fs,ex,ea,l,q⟩:=zz_
 subst ex
 obtain rfl:u=Value.ref a:=rx
 refine uQ I1 ea c hm l ?_
 exact PySem.W.callWith_K0 (first:=[.ref a]) I1.kIn hm.kp (uV (us:=[.ref a]) (vs:=[.ref a]) F hr hb hd hx I1 (.cons rfl .nil) q)
structure Mk (K:PySem.W.Frag)(C f:Addr):Prop where
 makes:PySem.W.makesIn K C=true
 init:PySem.W.findIn K (.ref C) "__init__"=some (some (.ref f))
 fn:PySem.W.isFn K (.ref f)=true
 kp:PySem.W.keepIn K (.ref C)=true
theorem yS {pins:List (Addr × Obj)}{σ:St}{H:Hp}{s:Shared}{Q:VK}{us:List Value}{vs:List V}(M:Mk X.K C f)(F:fR X.prog X.w X.K X.mg X.base CX k f fd ps sp)(hr:el (k+1) X.A)(hb:Binds X.K fd ps ds)(hd:Vals dvs ds)
  (hx:Passes CX X E) (I:Inv X pins σ H s) (r:Vals vs us)
  (h:∀ x dx,H x=none→H dx=none→dx≠x→sp (.ref x::(vs++dvs)) (upd (upd H dx (.own x)) x (.ins C dx [])) (fun v H2=>v=.non∧Q (.ref x) H2) E) :
  wpAny (model X.prog X.w) X.A (call (.ref C) us) (EP X pins σ Q) X.xe s:=by
 have hq:=h (s.heap.objs.size+1) s.heap.objs.size (I.hok.fresh (Nat.le_succ _)) (I.hok.fresh (Nat.le_refl _)) (Nat.ne_of_lt (Nat.lt_succ_self _))
 have I2:=Inv.made (C:=C) I
 have r2:Vals (V.ref (s.heap.objs.size+1)::(vs++dvs)) (Value.ref (s.heap.objs.size+1)::(us++ds)):=.cons rfl (r.append hd)
 have hl:(Value.ref (s.heap.objs.size+1)::us++ds).length=ps.length:=by
  have e:=r2.length
  rw [F.len _ _ _ _ hq] at e
  exact e.symm
 refine wpAny_call (yQ (f:=f) I.kIn M.makes M.init (beq_iff_eq.mp M.fn) (codeAny_mono (F.run _ X.stack _ _ ⟨Value.ref (s.heap.objs.size+1)::us,[]⟩ (Value.ref (s.heap.objs.size+1)::(us++ds)) _ _ E (hr.make C us [])
  (I2.GU.make C us []) (hb _ (Value.ref (s.heap.objs.size+1)::us) I2.kIn hl) r2 hq) fun r s' hq'=>?_))
 cases r with
 | error e=>exact hx pins σ _ _ e s' I2 hq'
 | ok fl =>
  cases fl with
  | ret u =>
   obtain ⟨v,H',I3,rv,ev,q3⟩:=I2.after hq'
   subst ev
   exact ⟨rv,⟨V.ref (s.heap.objs.size+1),H',I3,rfl,q3⟩⟩
  | next=>exact False.elim hq'
  | brk=>exact False.elim hq'
  | cont=>exact False.elim hq'
theorem AY (M:Mk X.K C f)(F:fR X.prog X.w X.K X.mg X.base CX k f fd ps sp)(hr:el (k+1) X.A)(hg:Gl X x)(hm:X.mg x=some (.ref C))(hb:Binds X.K fd ps ds)(hd:Vals dvs ds)(hx:Passes CX X E)
  (ha:PA X (e::es) t) (hdb:(x == ("__debug__":Str))=false:=by decide) (he:starEach (e::es) X.env=(false,eval e X.env)::starEach es X.env:=by rfl) (hpl:(backTo pos (starEach es X.env)).any (·.1)=false:=by rfl) :
  PE X (.Call (.Name x p) (e::es) [] pos) (D8 C sp dvs E t):=by
 intro pins s σ H Q I h
 refine wpAny_Call_Name_kw (nN I hg hm ?_ hdb)
 refine PySem.W.callWith_K (h₀:=X.base) I.ok.mod.kin M.kp (bC (ha pos pins s σ H _ I h) fun us s1 vs H1 I1 r q=>⟨I1.kIn, ?_⟩) he hpl
 exact yS M F hr hb hd hx I1 r q
end
section
variable {X:Cx}{CX:CXT}{k:Nat}{f C:Addr}{fd:FuncData}{ps ks:List Str}{sp:Sp}{E:XK}{x m:Str}{p pos apos kpos:Pos}{e o:Expr}{es:List Expr}{kws:List Keyword}{te ta:TE}{t tk:TA}{nm:Option Str}
variable {g:List Value→List Value→List Value}{gV:List V→List V→List V}
end
structure aB (N P:List Str)(sc:Scope):Prop where
 kind:sc.kind=.function
 co:sc.isCoroutine=false
 gen:sc.isGenerator=false
 nd:N.Nodup
 pre:N.take P.length=P
 par:∀ x∈P,sc.names.lookup x=some .local∨sc.names.lookup x=some .cell
 En:∀ y∈sc.names,y.2≠.free
theorem qv {kindOf:Str→Option NameKind}{x:Str}:∀ {binds:List (Str × Value)} {m:Str→Option Value},(∀ v,(x,v) ∉ binds)→bindL kindOf binds m x=m x
 | [],_,_=>rfl
 | (n,v)::r,m,h=>by
  unfold bindL
  rw [qv fun w hw=>h w (List.mem_cons_of_mem _ hw)]
  split
  ·have:x≠n:=by rintro rfl; exact h v List.mem_cons_self
   simp [this]
  ·rfl
theorem qw {kindOf:Str→Option NameKind}{x:Str}:∀ {binds:List (Str × Value)} {m:Str→Option Value},(∀ v,(x,v) ∉ binds)→bindC kindOf binds m x=m x
 | [],_,_=>rfl
 | (n,v)::r,m,h=>by
  unfold bindC
  rw [qw fun w hw=>h w (List.mem_cons_of_mem _ hw)]
  split
  ·rfl
  ·have:x≠n:=by rintro rfl; exact h v List.mem_cons_self
   simp [this]
theorem qx {kindOf:Str→Option NameKind}{x:Str}{v:Value}:∀ {P:List Str} {vs:List Value} {i:Nat} {m:Str→Option Value},P.Nodup→P[i]?=some x→vs[i]?=some v→kindOf x=some .local →
  bindL kindOf (P.zip vs) m x=some v
 | [],_,_,_,_,h,_,_=>by simp at h
 | _::_,[],_,_,_,_,h,_=>by simp at h
 | p::P,w::vs,0,m,nd,h1,h2,hk=>by
  simp at h1 h2; subst h1; subst h2
  show bindL kindOf ((p,w)::P.zip vs) m p=_
  unfold bindL
  rw [qv fun v hv=>(List.nodup_cons.mp nd).1 (List.of_mem_zip hv).1,if_pos hk]
  simp
 | p::P,w::vs,i+1,m,nd,h1,h2,hk=>by
  show bindL kindOf ((p,w)::P.zip vs) m x=_
  unfold bindL
  exact qx (i:=i) (List.nodup_cons.mp nd).2 (by simpa using h1) (by simpa using h2) hk
theorem qy {kindOf:Str→Option NameKind}{x:Str}{v:Value}:∀ {P:List Str} {vs:List Value} {i:Nat} {m:Str→Option Value},P.Nodup→P[i]?=some x→vs[i]?=some v→kindOf x≠some .local →
  bindC kindOf (P.zip vs) m x=some v
 | [],_,_,_,_,h,_,_=>by simp at h
 | _::_,[],_,_,_,_,h,_=>by simp at h
 | p::P,w::vs,0,m,nd,h1,h2,hk=>by
  simp at h1 h2; subst h1; subst h2
  show bindC kindOf ((p,w)::P.zip vs) m p=_
  unfold bindC
  rw [qw fun v hv=>(List.nodup_cons.mp nd).1 (List.of_mem_zip hv).1,if_neg hk]
  simp
 | p::P,w::vs,i+1,m,nd,h1,h2,hk=>by
  show bindC kindOf ((p,w)::P.zip vs) m x=_
  unfold bindC
  exact qy (i:=i) (List.nodup_cons.mp nd).2 (by simpa using h1) (by simpa using h2) hk
def start (N:List Str)(vs:List V):St:=vs.map some++List.replicate (N.length - vs.length) none
def xk (CX:CXT)(P:Program)(w:World)(K:PySem.W.Frag)(mg:Str→Option Value)(base:Heap)(N:List Str)(qual:Str)(scope:Scope)(f:Addr)(cd:Value)(A:Around)(outer:List Env)(s:Shared)(H:Hp)(E:XK):Cx where
 prog:=P
 w:=w
 K:=K
 mg:=mg
 base:=base
 A:=A.deeper (envOfC qual scope s.heap.objs.size f cd)
 N:=N
 s₀:=s
 H₀:=H
 env:=envOfC qual scope s.heap.objs.size f cd
 outer:=outer
 stack:=envOfC qual scope s.heap.objs.size f cd::outer
 ex:=[]
 calm:=true
 fn:=fun _=>true
 pn:=[]
 xe:=fun e s'=>wpAny (model P w) (A.deeper (envOfC qual scope s.heap.objs.size f cd)) (leaving (envOfC qual scope s.heap.objs.size f cd) e) (fun _ s''=>CX outer H s E e s'') (fun e' s''=>CX outer H s E e' s'') s'
theorem sQ {sc:Scope}{n:Nat}{x:Str}(h:sc.names.lookup x=some .cell):∃ c,(cellsFrom n sc.names []).lookup x=some c:=by
 have q:=PySem.W.cellsFrom_some sc.names n [] (.inl h)
 exact Option.isSome_iff_exists.mp q
theorem xl {CX:CXT}{P:Program}{w:World}{K:PySem.W.Frag}{mg:Str→Option Value}{base:Heap}{N ps:List Str}{qual:Str}{scope:Scope}{f:Addr}{cd:Value}{A:Around}{outer:List Env}{s s1:Shared}{H:Hp}{E:XK}{us:List Value}{vs:List V}
  (S:aB N ps scope) (hd:A.handled=none) (e0:uU P w K mg base A outer s H) (hl:vs.length=ps.length) (r:Vals vs us)
  (x:InCallC s s.heap.objs.size (bindL (envOfC qual scope s.heap.objs.size f cd).kindOf (ps.zip us) fun _=>none) (cellsFrom (s.heap.objs.size+1) scope.names []) (bindC (envOfC qual scope s.heap.objs.size f cd).kindOf (ps.zip us) fun _=>none) s1) :
  Inv (xk CX P w K mg base N qual scope f cd A outer s H E) [] (start N vs) H s1:=by
 have hpl:ps.length≤N.length:=by have:=congrArg List.length S.pre; rw [List.length_take] at this; omega
 obtain ⟨h1,tk,rfl,hk⟩:=x.done
 have noA:∀ b:Addr,b ∉ (xk CX P w K mg base N qual scope f cd A outer s H E).ex:=fun b z=>absurd (show b∈([]:List Addr) from z) (by simp)
 refine ⟨⟨e0.mod,S.kind,rfl,rfl,Nat.le_refl _,fun y z c h1 h2=>?_,fun y hy=>?_,fun y c _ h=>?_,fun _=>hd,Around.frames_deeper e0.frames,.inr ⟨rfl,rfl⟩,fun b z=>absurd z (noA b),e0.bs,e0.bsz,fun b _ _=>noA b,fun b z=>absurd z (noA b),e0.nq,e0.frf⟩,
  rfl,e0.bare,Un.kept hk,⟨_,x.toInCall.ns,fun i y v h1 h2 h3=>?_⟩,fun y c h=>⟨_,x.cell y c h⟩,e0.hok.fresh (Nat.le_refl _),fun y c h=>?_,fun p hp=>absurd (show p∈([]:List (Addr × Obj)) from hp) (by simp),e0.hok.kept hk, ?_⟩
 ·exact name_of_addr x.apart (PySem.mem_of_lookup h1) (PySem.mem_of_lookup h2)
 ·have hy:scope.names.lookup y=some .cell∨scope.names.lookup y=some .free:=hy
  rcases hy with hy | hy
  ·exact sQ hy
  ·exact absurd rfl (S.En _ (PySem.mem_of_lookup hy))
 ·exact Nat.le_of_lt (x.above y c (PySem.mem_of_lookup h))
 ·have hi:i<vs.length:=by
   unfold start at h2
   by_cases hi:i<vs.length
   ·exact hi
   ·rw [List.getElem?_append_right (by simpa using hi)] at h2
    rw [List.getElem?_replicate] at h2
    split at h2 <;> cases h2
  have ha:vs[i]?=some v:=by
   unfold start at h2
   rw [List.getElem?_append_left (by simpa using hi),List.getElem?_map] at h2
   cases e:vs[i]? with
   | none=>rw [e] at h2; cases h2
   | some a=>rw [e] at h2; cases h2; rfl
  obtain ⟨u,hu,rv⟩:=r.get ha
  have hp:ps[i]?=some y:=by
   rw [← S.pre,List.getElem?_take_of_lt (by omega)]; exact h1
  have ndP:ps.Nodup:=by rw [← S.pre]; exact S.nd.sublist (List.take_sublist _ _)
  refine ⟨u,rv, ?_⟩
  rcases S.par y (List.mem_of_getElem? hp) with k | k
  ·exact .inl ⟨k,qx ndP hp hu k⟩
  ·obtain ⟨c,e⟩:=sQ (n:=s.heap.objs.size+1) k
   refine .inr ⟨.inl k,c,e, ?_⟩
   have q:=x.cell y c e
   rw [qy ndP hp hu (by show scope.names.lookup y≠_; rw [k]; decide)] at q
   exact q
 ·exact e0.hok.fresh (Nat.le_of_lt (x.above y c (PySem.mem_of_lookup h)))
 ·unfold start
  show _=N.length
  rw [List.length_append,List.length_map,List.length_replicate]
  omega
theorem vP {CX:CXT}{P:Program}{w:World}{K:PySem.W.Frag}{mg:Str→Option Value}{base:Heap}{k:Nat}{f:Addr}{name qual:Str}{params:Arguments}{body:List Stmt}{scope:Scope}{dV kV doc pm cdv ct oc:Value}{an od:Option Addr}
  {osl:Array (Option Value)} {N ps:List Str} {sp:Sp} (lk:K.lookup f=some ⟨oc,od,.func (PySem.W.fnOf name qual params body scope dV kV doc pm an cdv ct),osl⟩) (hcd:PySem.W.codeIn K cdv qual=true) (S:aB N ps scope)
  (len:∀ vs H Q E,sp vs H Q E→vs.length=ps.length)
  (yT:∀ (A:Around) (outer:List Env) (s:Shared) (H:Hp) (vs:List V) (Q:VK) (E:XK),el k (A.deeper (envOfC qual scope s.heap.objs.size f cdv))→sp vs H Q E →
   ∃ t,PSs (xk CX P w K mg base N qual scope f cdv A outer s H E) body t∧t { nx:=fun _ H'=>Q .non H',rt:=Q } (start N vs) H) :
  fR P w K mg base CX (k+1) f (PySem.W.fnOf name qual params body scope dV kV doc pm an cdv ct) ps sp:=by
 refine ⟨len,fun A outer s H args us vs Q E hr e0 hb r hsp=>?_⟩
 have hl:=len _ _ _ _ hsp
 have KX:K.In s.heap:=e0.mod.kin.keeps fun b o e=>(e0.bs b o e).1
 have lim:s.heap.NoLimit:=e0.mod.nolimit.keeps fun b o e=>(e0.bs b o e).1
 have hkind:∀ y∈ps.zip us,scope.names.lookup y.1=some .local∨(scope.names.lookup y.1=some .cell∧((cellsFrom (s.heap.objs.size+1) scope.names []).lookup y.1).isSome=true):=fun ⟨n,v⟩ hy=>by
  rcases S.par n (List.of_mem_zip hy).1 with q | q
  ·exact .inl q
  ·exact .inr ⟨q,PySem.W.cellsFrom_some _ _ _ (.inl q)⟩
 refine codeAny_call_function hr.depth (KX _ _ lk) rfl S.co S.gen rfl (PySem.W.codeRec_of KX hcd) (hb _ _ _ _ ?_)
 refine wpAny_newFunctionEnv_cells S.kind hkind fun env he s1 x=>?_
 subst he
 refine ⟨lim.keeps x.toInCall.keep,codeAny_func ?_⟩
 obtain ⟨t,ht,hq⟩:=yT A outer s H vs Q E (hr.deeper _) hsp
 have I:Inv (xk CX P w K mg base N qual scope f cdv A outer s H E) [] (start N vs) H s1:=xl S hr.hd e0 hl r x
 refine wpAny_mono (ht [] s1 (start N vs) H _ I hq) (fun fl s' hs=>?_) fun e s' hs=>hs
 have fin:∀ {σ':St} {H':Hp} {v:V} {u:Value},Inv (xk CX P w K mg base N qual scope f cdv A outer s H E) [] σ' H' s'→RelV v u→Q v H'→CE outer P w H s Q u s' :=
  fun {σ' H' v u} J rv q=>⟨v,H',J.os,J.bare,J.base,J.hok,rv,q⟩
 cases fl with
 | ret u =>
  obtain ⟨v, σ',H',J,rv,q⟩:=hs
  exact fin J rv q
 | next =>
  obtain ⟨σ',H',J,q⟩:=hs
  exact fin (v:=V.non) (u:=Value.none) J rfl q
 | brk =>
  obtain ⟨_,_,_,q⟩:=hs
  exact False.elim q
 | cont =>
  obtain ⟨_,_,_,q⟩:=hs
  exact False.elim q
end L2
namespace L2
open PySem PySem.Spec PyProof.Rows
section
variable {X:Cx}{x:Str}{p pos:Pos}{e:Expr}{es:List Expr}{t:TA}{id T:String}{r:List V→Hp→VK→Prop}
def tCB (r:List V→Hp→VK→Prop)(t:TA):TE:=fun σ H Q=>t σ H fun vs H1=>r vs H1 Q
theorem sR (hc:iI X (.builtin id) r)(hg:Gl X x)(hm:X.mg x=none)(hv:bootBuiltins x=some (.builtin id))(ha:PA X (e::es) t)(hn:x≠"__name__":=by decide)(hdb:(x == ("__debug__":Str))=false:=by decide)
  (he:starEach (e::es) X.env=(false,eval e X.env)::starEach es X.env:=by rfl) (hpl:(backTo pos (starEach es X.env)).any (·.1)=false:=by rfl):PE X (.Call (.Name x p) (e::es) [] pos) (tCB r t):=by
 intro pins s σ H Q I h
 refine wpAny_Call_Name_kw (je I hg hm hv ?_ hn hdb)
 exact PyProof.Rows.callWith_builtin1 (bC (ha pos pins s σ H _ I h) fun us s1 vs H1 I1 r1 q1=>hc pins s1 σ H1 vs us Q I1 r1 q1) he hpl
theorem xm (hc:iI X (.type T) r)(hg:Gl X x)(hm:X.mg x=none)(hv:bootBuiltins x=some (.type T))(ha:PA X (e::es) t)(hn:x≠"__name__":=by decide)(hdb:(x == ("__debug__":Str))=false:=by decide)
  (he:starEach (e::es) X.env=(false,eval e X.env)::starEach es X.env:=by rfl) (hpl:(backTo pos (starEach es X.env)).any (·.1)=false:=by rfl):PE X (.Call (.Name x p) (e::es) [] pos) (tCB r t):=by
 intro pins s σ H Q I h
 refine wpAny_Call_Name_kw (je I hg hm hv ?_ hn hdb)
 exact PyProof.Rows.callWith_type1 (bC (ha pos pins s σ H _ I h) fun us s1 vs H1 I1 r1 q1=>hc pins s1 σ H1 vs us Q I1 r1 q1) he hpl
end
end L2
namespace HT
open PySem PyProof.Rows
section
open PySem.SeqAt
open PySem.AutoSeq1 (wpAny_loadPart')
open PySem.MeetsSeq PySem.MeetsSeq2 PySem.MeetsSeq3
end
section
variable {prog:Program}{w:World}{A:Around}{E:Value→Shared→Prop}{s:Shared}
theorem AZ {t b:Addr}{vs ws:List Value}{Q:Value→Shared→Prop}(ht:IsTup s.heap t vs.toArray)(hb:IsTup s.heap b ws.toArray)(hv:vs≠[])
  (h1:ws=[]→Q (.ref t) s) (h2:ws≠[]→Q (.ref s.heap.objs.size) { s with heap:=s.heap.push { cls:=.type "tuple",data:=.seq (vs++ws).toArray } })
  (hsz:vs.length+ws.length≤sizeLine):wpAny (model prog w) A (binaryOp .Add (.ref t) (.ref b)) Q E s:=by
 obtain ⟨⟨cls,dd,data,sl⟩,ho,hc,n,hd⟩:=id ht
 obtain ⟨⟨cls2,dd2,data2,sl2⟩,ho2,hc2,n2,hd2⟩:=id hb
 simp only at hc hd hc2 hd2
 subst hc hd hc2 hd2
 have e:vs.toArray++ws.toArray=(vs++ws).toArray:=by simp
 by_cases hw:ws=[]
 ·exact concat_meets ⟨_,ho,rfl⟩ ⟨_,ho2,rfl⟩ noFill_tuple_add seq_tuple_add PySem.F.slot_tuple_add PySem.F.entry_tuple_add (PySem.F.args_tuple_add_2 _ _)
   (tuple_addW1 t b vs.toArray ws.toArray n n2 dd dd2 sl sl2 (by simpa using hv) (by simp [hw])) ⟨ho,ho2,h1 hw⟩
 ·refine concat_meets ⟨_,ho,rfl⟩ ⟨_,ho2,rfl⟩ noFill_tuple_add seq_tuple_add PySem.F.slot_tuple_add PySem.F.entry_tuple_add (PySem.F.args_tuple_add_2 _ _)
   (tuple_addW2 t b vs.toArray ws.toArray n n2 dd dd2 sl sl2 (by simpa using hv) (by simpa using hw) (by rw [List.size_toArray,List.size_toArray]; exact hsz)) ⟨ho,ho2, ?_⟩
  rw [e]
  exact h2 hw
def sIx (n d:Nat):Option Int→Nat
 | none=>d
 | some v=>if v<0 then (v+(n:Int)).toNat else min v.toNat n
theorem yU (n d:Nat)(hd:d≤n)(o:Option Int):sIx n d o≤n:=by
 cases o with
 | none=>exact hd
 | some v =>
  show (if v<0 then (v+(n:Int)).toNat else min v.toNat n)≤n
  by_cases hv:v<0
  ·rw [if_pos hv]; omega
  ·rw [if_neg hv]; exact Nat.min_le_right _ _
theorem vQ (v:Int)(n d:Nat):(if v<0 then max (v+(n:Int)) 0 else min v (n:Int))=((sIx n d (some v):Nat):Int):=by
 show (if v<0 then max (v+(n:Int)) 0 else min v (n:Int))=(((if v<0 then (v+(n:Int)).toNat else min v.toNat n):Nat):Int)
 by_cases hv:v<0
 ·simp only [if_pos hv]; omega
 ·simp only [if_neg hv]; omega
theorem uW (lo hi:Option Int)(n:Nat):Builtin.Slice.sliceAdjust lo hi 1 (n:Int)=(((sIx n 0 lo:Nat):Int),((sIx n n hi:Nat):Int)):=by
 have h1:¬ ((1:Int)<0):=by omega
 unfold Builtin.Slice.sliceAdjust
 simp only [h1,if_false]
 refine Prod.ext ?_ ?_
 ·cases lo with
  | none=>rfl
  | some v=>exact vQ v n 0
 ·cases hi with
  | none=>rfl
  | some v=>exact vQ v n n
theorem uX (i j:Nat):Builtin.Slice.slicePlaces (i:Int) (j:Int) 1=j - i:=by
 unfold Builtin.Slice.slicePlaces
 have h1:(1:Int) > 0:=by omega
 simp only [h1,if_true,Int.ediv_one]
 split <;> omega
theorem nY {v:Value}{o:Option Int}{Q:Option Int→Shared→Prop}(p:IsPart v o)(h:Q o s):wpAny (model prog w) A (Builtin.Slice.slicePartIndex v) Q E s:=by
 cases p with
 | none=>exact slicePart_none h
 | int i t=>exact slicePart_int h
theorem mv {sl:Addr}{vl vu:Value}{lo hi:Option Int}{n:Nat}{Q:Int × Int × Nat→Shared→Prop}(hs:s.heap.IsSliceOf sl vl vu .none)(pl:IsPart vl lo)(pu:IsPart vu hi)
  (h:Q (((sIx n 0 lo:Nat):Int),1,sIx n n hi - sIx n 0 lo) s):wpAny (model prog w) A (Builtin.Slice.sliceApplied (.ref sl) (pure (n:Int))) Q E s:=by
 obtain ⟨os,hos,hcs,hds⟩:=id hs
 unfold Builtin.Slice.sliceApplied Builtin.Slice.sliceFields
 refine wpAny_bind (wpAny_bind (wpAny_field hos hds (x:=vl) rfl (wpAny_bind (wpAny_field hos hds (x:=vu) rfl (wpAny_bind (wpAny_field hos hds (x:=.none) rfl (wpAny_pure ?_)))))))
 refine wpAny_bind (slicePart_none ?_)
 show wpAny _ _ (if ((1:Int) == 0)=true then _ else _) _ _ s
 rw [if_neg (by decide)]
 refine wpAny_bind (nY pl (wpAny_bind (nY pu (wpAny_bind (wpAny_pure ?_)))))
 show wpAny _ _ (match Builtin.Slice.sliceAdjust lo hi 1 (n:Int) with | (lo,hi)=>pure (lo,(1:Int),Builtin.Slice.slicePlaces lo hi 1)) _ _ s
 rw [uW lo hi n]
 show wpAny _ _ (pure (((sIx n 0 lo:Nat):Int),(1:Int),Builtin.Slice.slicePlaces ((sIx n 0 lo:Nat):Int) ((sIx n n hi:Nat):Int) 1)) _ _ s
 rw [uX]
 exact wpAny_pure h
theorem yV (xs:Array Value)(i k:Nat):((List.range k).filterMap fun (m:Nat)=>xs[((i:Int)+(m:Int) * 1).toNat]?).toArray=((xs.toList.drop i).take k).toArray:=by
 have e:(fun (m:Nat)=>xs[((i:Int)+(m:Int) * 1).toNat]?)=fun m=>xs[i+m]?:=by
  funext m
  have:((i:Int)+(m:Int) * 1).toNat=i+m:=by omega
  rw [this]
 rw [e]
 have:=pick_run xs i k
 rw [List.filterMap_map] at this
 have e2:((fun x=>xs[x]?) ∘ fun x=>i+x)=fun m=>xs[i+m]?:=rfl
 rw [e2] at this
 rw [this]
theorem lK {t sl:Addr}{items:Array Value}{vl vu:Value}{lo hi:Option Int}{Q:Value→Shared→Prop}(ht:IsTup s.heap t items)(hs:s.heap.IsSliceOf sl vl vu .none)(pl:IsPart vl lo)(pu:IsPart vu hi)
  (hw:¬ (sIx items.size 0 lo=0∧sIx items.size items.size hi=items.size))
  (h:Q (.ref s.heap.objs.size) { s with heap:=s.heap.push { cls:=.type "tuple",data:=.seq ((items.toList.drop (sIx items.size 0 lo)).take (sIx items.size items.size hi - sIx items.size 0 lo)).toArray } })
  (hsz:items.size≤sizeLine):wpAny (model prog w) A (getItem (.ref t) (.ref sl)) Q E s:=by
 have htake:sizeOk (.seq ((items.toList.drop (sIx items.size 0 lo)).take (sIx items.size items.size hi - sIx items.size 0 lo)).toArray):=by
  show ((items.toList.drop (sIx items.size 0 lo)).take (sIx items.size items.size hi - sIx items.size 0 lo)).toArray.size≤sizeLine
  rw [List.size_toArray,List.length_take,List.length_drop,Array.length_toList]
  omega
 have hj:sIx items.size items.size hi≤items.size:=yU _ _ (Nat.le_refl _) hi
 obtain ⟨os,hos,hcs,hds⟩:=id hs
 have hTs:s.TypeIs (.ref sl) "slice":=⟨os,hos,hcs⟩
 unfold getItem
 try with_reducible refine wpAny_holding ?_
 first | refine wpAny_bind (wpAny_pure ?_) | skip
 refine wpAny_bind (wpAny_sequenceKey ht.typeIs (by decide) ?_)
 refine wpAny_bind (wpAny_callSpecial?_slot (name:=Str.ofString "__getitem__") ht.typeIs PyProof.Rows.slot_tuple_getitem
  (wpAny_call_entry PyProof.Rows.slot_tuple_getitem ht.typeIs entry_tuple_getitem ?_ (args_tuple_getitem _ _)))
 show wpAny _ _ (Builtin.Tuple.tupleItemsOf (.ref t) >>= _) _ _ s
 refine wpAny_bind (tupleItemsOf_ ht ?_)
 refine wpAny_bind (wpAny_typeOf hTs ?_)
 rw [if_pos (by decide)]
 refine wpAny_bind (mv hs pl pu ?_)
 have hno:¬ ((((sIx items.size 0 lo:Nat):Int) == 0 && (1:Int) == 1 && (sIx items.size items.size hi - sIx items.size 0 lo) == items.size)=true):=by
  intro q
  rw [Bool.and_eq_true,Bool.and_eq_true] at q
  have q1:((sIx items.size 0 lo:Nat):Int)=0:=eq_of_beq q.1.1
  have q2:sIx items.size items.size hi - sIx items.size 0 lo=items.size:=eq_of_beq q.2
  exact hw ⟨by omega,by omega⟩
 show wpAny _ _ (if (((sIx items.size 0 lo:Nat):Int) == 0 && (1:Int) == 1 && (sIx items.size items.size hi - sIx items.size 0 lo) == items.size)=true then _ else _) _ _ s
 rw [if_neg hno,yV]
 first
  | exact wpAny_bind (m:=Builtin.Tuple.tupleExact _) (wpAny_newObj_type (wpAny_pure ⟨_,rfl,wpAny_pure h⟩) htake)
  | exact wpAny_bind (m:=Builtin.Tuple.tupleExact _) (wpAny_newObj_type (wpAny_bind (wpAny_pure (wpAny_pure ⟨_,rfl,wpAny_pure h⟩))) htake)
  | exact wpAny_bind (wpAny_bind (m:=Builtin.Tuple.tupleExact _) (wpAny_newObj_type (wpAny_pure (wpAny_pure ⟨_,rfl,wpAny_pure h⟩)) htake))
  | exact wpAny_bind (wpAny_bind (m:=Builtin.Tuple.tupleExact _) (wpAny_newObj_type (wpAny_pure ⟨_,rfl,wpAny_pure h⟩) htake))
end
end HT
namespace L2
open PySem PySem.Spec PyProof.Rows
abbrev TO:=St→Hp→(Option Int→Hp→Prop)→Prop
def PO (X:Cx)(e:Option Expr)(t:TO):Prop :=
 ∀ (pins:List (Addr × Obj)) (s:Shared) (σ:St) (H:Hp) (Q:Option Int→Hp→Prop),Inv X pins σ H s→t σ H Q →
  wpAny (model X.prog X.w) X.A (evalPart e X.env) (fun u s'=>∃ o H',Inv X pins σ H' s'∧IsPart u o∧Q o H') X.xe s
def vR:TO:=fun _ H Q=>Q none H
def D9 (t:TE):TO:=fun σ H Q=>t σ H fun x H1=>∃ i,x=.int i∧Q (some i) H1
section
variable {X:Cx}{e:Expr}{te:TE}{lo hi:Option Expr}{tl th:TO}{pos p2:Pos}
theorem B1:PO X none vR:=by
 intro pins s σ H Q I h
 rw [evalPart_none]
 exact wpAny_pure ⟨none,H,I,.none,h⟩
theorem B2 (h:PE X e te):PO X (some e) (D9 te):=by
 intro pins s σ H Q I hw
 rw [evalPart_some]
 refine bC (h pins s σ H _ I hw) fun u s1 x H1 I1 r1 q1=>?_
 obtain ⟨i,rfl,q⟩:=q1
 obtain ⟨t,rfl⟩:=r1
 exact ⟨some i,H1,I1,.int i t,q⟩
def SlR (X:Cx)(r:V→Option Int→Option Int→Hp→VK→Prop):Prop :=
 ∀ (pins:List (Addr × Obj)) (s:Shared) (σ:St) (H:Hp) (x:V) (v vl vu:Value) (lo hi:Option Int) (sl:Addr) (Q:VK),Inv X pins σ H s→RelV x v→s.heap.IsSliceOf sl vl vu .none→IsPart vl lo→IsPart vu hi→r x lo hi H Q →
  ∃ T id,typeLookup (.type T) "__getitem__"=pure (some (.builtin id))∧s.TypeIs v T∧wpAny (model X.prog X.w) X.A (getItem v (.ref sl)) (EP X pins σ Q) X.xe s
theorem SlR.or {r r':V→Option Int→Option Int→Hp→VK→Prop}(h:SlR X r)(h':SlR X r'):SlR X (fun x lo hi H Q=>r x lo hi H Q∨r' x lo hi H Q):=by
 intro pins s σ H x v vl vu lo hi sl Q I rx hs pl pu q
 rcases q with q | q
 ·exact h pins s σ H x v vl vu lo hi sl Q I rx hs pl pu q
 ·exact h' pins s σ H x v vl vu lo hi sl Q I rx hs pl pu q
def tSl (r:V→Option Int→Option Int→Hp→VK→Prop)(te:TE)(tl th:TO):TE:=fun σ H Q=>te σ H fun x H1=>tl σ H1 fun l H2=>th σ H2 fun u H3=>r x l u H3 Q
theorem yW {r:V→Option Int→Option Int→Hp→VK→Prop}(hr:SlR X r)(he:PE X e te)(hl:PO X lo tl)(hu:PO X hi th):PE X (.Subscript e (.Slice lo hi none p2) pos) (tSl r te tl th):=by
 intro pins s σ H Q I h
 refine Subscript_ (bC (he pins s σ H _ I h) fun v s1 x H1 I1 r1 q1=>?_)
 refine wpAny_Slice (bC (hl pins s1 σ H1 _ I1 q1) fun vl s2 l H2 I2 pl q2=>bC (hu pins s2 σ H2 _ I2 q2) fun vu s3 u H3 I3 pu q3=>?_)
 rw [evalPart_none]
 refine wpAny_pure ?_
 have I4:Inv X pins σ H3 { s3 with heap:=s3.heap.push { cls:=.type "slice",data:=.fields #[vl,vu,.none] } }:=I3.kept (t':=s3.toks) fun b ob q=>Heap.get?_push_of_some _ q
 obtain ⟨T,id,hT,ht,hg⟩:=hr pins { s3 with heap:=s3.heap.push { cls:=.type "slice",data:=.fields #[vl,vu,.none] } } σ H3 x v vl vu l u s3.heap.objs.size Q I4 r1 (Heap.IsSliceOf.new ..) pl pu q3
 show wpAny (model X.prog X.w) X.A (subscriptTail e (.Slice lo hi none p2) v (.ref s3.heap.objs.size)) (EP X pins σ Q) X.xe { s3 with heap:=s3.heap.push { cls:=.type "slice",data:=.fields #[vl,vu,.none] } }
 exact tail_any (ops:=[.ref s3.heap.objs.size,v]) ht hT hg (by with_unfolding_all rfl)
def sS (xs:List V)(lo hi:Option Int):List V:=(xs.drop (HT.sIx xs.length 0 lo)).take (HT.sIx xs.length xs.length hi - HT.sIx xs.length 0 lo)
theorem nc (xs:List V)(lo hi:Option Int):(sS xs lo hi).length≤xs.length:=by
 unfold sS
 rw [List.length_take,List.length_drop]
 omega
def GW (K:PySem.W.Frag):V→Option Int→Option Int→Hp→VK→Prop:=fun x lo hi H Q=>∃ a xs,x=.ref a∧SqT K H a xs ∧
 ¬ (HT.sIx xs.length 0 lo=0∧HT.sIx xs.length xs.length hi=xs.length)∧∀ p,H p=none→Q (.ref p) (upd H p (.tup (sS xs lo hi)))
theorem Eo:SlR X (GW X.K):=by
 intro pins s σ H x v vl vu lo hi sl Q I rx hs pl pu h
 obtain ⟨a,xs,rfl,hx,hw,q⟩:=h
 cases rx
 obtain ⟨its,r,ht,hz⟩:=I.tuple hx
 have hlen:its.toArray.size=xs.length:=by rw [List.size_toArray]; exact r.length.symm
 refine ⟨"tuple",_,PyProof.Rows.slot_tuple_getitem.lookup,ht.typeIs, ?_⟩
 refine HT.lK ht hs pl pu (by rw [hlen]; exact hw) ?_ (by rw [hlen]; exact hz)
 rw [hlen]
 refine ⟨.ref s.heap.objs.size,_,I.laid (t':=s.toks) (o:=.tup (sS xs lo hi)) (fun b ob q=>Heap.get?_push_of_some _ q) (Nat.le_refl _) ?_,rfl,q _ (I.hok.fresh (Nat.le_refl _))⟩
 exact ⟨Nat.le_trans (nc xs lo hi) hz,_,(r.drop (HT.sIx xs.length 0 lo)).take (HT.sIx xs.length xs.length hi - HT.sIx xs.length 0 lo),IsTup.new _ _⟩
def yX (K:PySem.W.Frag):R2:=fun x y H Q=>∃ a b xs ys,x=.ref a∧y=.ref b∧SqT K H a xs∧SqT K H b ys∧xs≠[]∧xs.length+ys.length≤sizeLine ∧
 (ys=[]→Q (.ref a) H)∧(ys≠[]→∀ p,H p=none→Q (.ref p) (upd H p (.tup (xs++ys))))
theorem Vals.rB {xs:List V}{us:List Value}(r:Vals xs us):us=[]↔xs=[]:=by
 cases r with
 | nil=>simp
 | cons _ _=>simp
theorem vS:OpR X (binaryOp .Add) (yX X.K):=by
 intro pins s σ H x y v u Q I rx ry h
 obtain ⟨a,b,xs,ys,rfl,rfl,ha,hb,hx,hz,q1,q2⟩:=h
 cases rx
 cases ry
 obtain ⟨its,r1,p1,_⟩:=I.tuple ha
 obtain ⟨its2,r2,p2,_⟩:=I.tuple hb
 refine HT.AZ p1 p2 (fun z=>hx (r1.rB.mp z)) (fun z=>⟨.ref a,H,I,rfl,q1 (r2.rB.mp z)⟩) (fun z=>?_) (by rw [← r1.length, ← r2.length]; exact hz)
 refine ⟨.ref s.heap.objs.size,_,I.laid (t':=s.toks) (o:=.tup (xs++ys)) (fun b ob q=>Heap.get?_push_of_some _ q) (Nat.le_refl _) ?_,rfl,q2 (fun w=>z (r2.rB.mpr w)) _ (I.hok.fresh (Nat.le_refl _))⟩
 exact ⟨by rw [List.length_append]; exact hz,_,r1.append r2,IsTup.new _ _⟩
end
end L2
namespace L2
open PySem PySem.Spec PyProof.Rows
def ixN (n:Nat)(i:Int):Option Nat:=if 0≤i then (if i<n then some i.toNat else none) else if -(n:Int)≤i then some (i+n).toNat else none
def atI {α:Type}(xs:List α)(i:Int):Option α:=(ixN xs.length i).bind fun j=>xs[j]?
theorem B3 {n:Nat}{i:Int}{j:Nat}(h:ixN n i=some j):seqIndex? i n=some j∧j<n∧-(n:Int)≤i∧i<n:=by
 unfold ixN at h
 by_cases h0:0≤i
 ·rw [if_pos h0] at h
  by_cases h1:i<n
  ·rw [if_pos h1] at h
   have e:i.toNat=j:=Option.some.inj h
   exact ⟨by rw [seqIndex_of h0 h1,e],by omega,by omega,h1⟩
  ·rw [if_neg h1] at h; cases h
 ·rw [if_neg h0] at h
  by_cases h1:-(n:Int)≤i
  ·rw [if_pos h1] at h
   have e:(i+n).toNat=j:=Option.some.inj h
   exact ⟨by rw [seqIndex_neg (by omega) h1,e],by omega,h1,by omega⟩
  ·rw [if_neg h1] at h; cases h
theorem rC {α:Type}{xs:List α}{i:Int}{v:α}(h:atI xs i=some v):∃ j,seqIndex? i xs.length=some j∧xs[j]?=some v∧j<xs.length∧-(xs.length:Int)≤i∧i<xs.length:=by
 unfold atI at h
 cases e:ixN xs.length i with
 | none=>rw [e] at h; cases h
 | some j =>
  rw [e] at h
  obtain ⟨h1,h2,h3,h4⟩:=B3 e
  exact ⟨j,h1,h,h2,h3,h4⟩
def vT (b:Expr):Prop:=∀ o i,subscripted b false o i=operate [o,i] (getItem o i)
def IxR (X:Cx)(r:R2):Prop :=
 ∀ (value slice:Expr) (pins:List (Addr × Obj)) (s:Shared) (σ:St) (H:Hp) (x y:V) (v u:Value) (Q:VK),Inv X pins σ H s→RelV x v→RelV y u→r x y H Q →
  subscripted slice false v u=operate [v,u] (getItem v u)→wpAny (model X.prog X.w) X.A (subscriptTail value slice v u) (EP X pins σ Q) X.xe s
def MtR (X:Cx)(id:String)(r:V→List V→Hp→VK→Prop):Prop :=
 ∀ (pins:List (Addr × Obj)) (s:Shared) (σ:St) (H:Hp) (x:V) (xs:List V) (v:Value) (us:List Value) (Q:VK),Inv X pins σ H s→RelV x v→Vals xs us→r x xs H Q →
  wpAny (model X.prog X.w) X.A (call (.builtin id) (v::us)) (EP X pins σ Q) X.xe s
section
variable {X:Cx}{a b:Expr}{ta tb:TE}{pos:Pos}
theorem IxR.or {r r':R2}(h:IxR X r)(h':IxR X r'):IxR X (fun x y H Q=>r x y H Q∨r' x y H Q):=by
 intro value slice pins s σ H x y v u Q I rx ry q hs
 rcases q with q | q
 ·exact h value slice pins s σ H x y v u Q I rx ry q hs
 ·exact h' value slice pins s σ H x y v u Q I rx ry q hs
theorem GX {r:R2}(hr:IxR X r)(ha:PE X a ta)(hb:PE X b tb)(hs:vT b):PE X (.Subscript a b pos) (tOp r ta tb):=by
 intro pins s σ H Q I h
 exact Subscript_ (Ed ha hb I h fun v u s2 x y H2 I2 rx ry q=>hr a b pins s2 σ H2 x y v u Q I2 rx ry q (hs _ _))
def GY (K:PySem.W.Frag):R2:=fun x y H Q=>∃ p xs i v,x=.ref p∧y=.int i∧SqL K H p xs∧atI xs i=some v∧Q v H
def GZ (K:PySem.W.Frag):R2:=fun x y H Q=>∃ p xs i v,x=.ref p∧y=.int i∧SqT K H p xs∧atI xs i=some v∧Q v H
def H9:R2:=fun x y H Q=>∃ z i c,x=.str z∧y=.int i∧z.length≤sizeLine∧atI z.cps.toList i=some c∧Q (.str ⟨#[c]⟩) H
theorem B4:IxR X (GY X.K):=by
 intro value slice pins s σ H x y v u Q I rx ry h hs
 obtain ⟨p,xs,i,z,rfl,rfl,hq,he,q⟩:=h
 cases rx
 obtain ⟨t,rfl⟩:=ry
 obtain ⟨its,r,pl,hz⟩:=I.list hq
 obtain ⟨j,h1,h2,h3,h4,h5⟩:=rC he
 obtain ⟨w,ew,rw'⟩:=r.get h2
 have hl:=r.length
 have hn:=ro
 have fin:EP X pins σ Q w s:=⟨z,H,I,rw',q⟩
 by_cases h0:0≤i
 ·have hj:i.toNat=j:=by
   rw [seqIndex_of h0 h5] at h1
   exact Option.some.inj h1
  exact item_listR pl.isList h0 (by omega) (by rw [hj]; simpa using ew) fin hs
 ·have hj:(i+(its.toArray.size:Int)).toNat=j:=by
   rw [seqIndex_neg (by omega) h4] at h1
   rw [List.size_toArray, ← hl]
   exact Option.some.inj h1
  exact subscriptTail_builtinR (x:=w) pl.isList.typeIs slot_list_getitem.lookup
   (wpAny_getItem_list_neg (Q:=fun r s'=>r=w∧EP X pins σ Q r s') pl.isList (by omega) (by rw [List.size_toArray] <;> omega) (by omega) (by rw [hj]; simpa using ew) ⟨rfl,fin⟩) hs
theorem Ep:IxR X (GZ X.K):=by
 intro value slice pins s σ H x y v u Q I rx ry h hs
 obtain ⟨p,xs,i,z,rfl,rfl,hq,he,q⟩:=h
 cases rx
 obtain ⟨t,rfl⟩:=ry
 obtain ⟨its,r,pl,hz⟩:=I.tuple hq
 obtain ⟨j,h1,h2,h3,h4,h5⟩:=rC he
 obtain ⟨w,ew,rw'⟩:=r.get h2
 have hl:=r.length
 have hn:=ro
 have fin:EP X pins σ Q w s:=⟨z,H,I,rw',q⟩
 exact subscriptTail_builtinR (x:=w) pl.typeIs slot_tuple_getitem.lookup
  (getItem_tuple (j:=j) (Q:=fun r s'=>r=w∧EP X pins σ Q r s') pl (by omega) (by omega) (by rw [List.size_toArray, ← hl]; exact h1) (by simpa using ew) ⟨rfl,fin⟩) hs
theorem Es:IxR X H9:=by
 intro value slice pins s σ H x y v u Q I rx ry h hs
 obtain ⟨z,i,c,rfl,rfl,hz,he,q⟩:=h
 obtain ⟨t,rfl⟩:=rx
 obtain ⟨t',rfl⟩:=ry
 obtain ⟨j,h1,h2,h3,h4,h5⟩:=rC he
 have hl:z.cps.toList.length=z.length:=by simp [Str.length]
 rw [hl] at h1 h4 h5
 have hn:=ro
 exact tail_any (typeIs_str s z t) slot_str_getitem.lookup (getItem_str (c:=c) (by
  have e1:decide (i < -(2 ^ 63:Int))=false:=decide_eq_false (by omega)
  have e2:decide (i ≥ 2 ^ 63)=false:=decide_eq_false (by omega)
  rw [e1,e2,Bool.or_false]) (by rw [h1]; simpa using h2) ⟨.str ⟨#[c]⟩,H,I.tok _,⟨_,rfl⟩,q⟩) hs
def rIx (K:PySem.W.Frag):R2:=fun x y H Q=>GY K x y H Q∨GZ K x y H Q∨H9 x y H Q
theorem Et:IxR X (rIx X.K):=B4.or (Ep.or Es)
theorem rD (lo hi:Option Int)(n:Nat):(sliceBounds lo hi none n).1=((HT.sIx n 0 lo:Nat):Int)∧(sliceBounds lo hi none n).2.1=((HT.sIx n n hi:Nat):Int)∧(sliceBounds lo hi none n).2.2=1:=by
 refine ⟨?_, ?_,rfl⟩
 ·cases lo with
  | none=>simp [sliceBounds,HT.sIx]
  | some i =>
   simp only [sliceBounds,HT.sIx,Option.getD_none,show (1:Int) > 0 by decide,if_true]
   by_cases h:i<0
   ·simp only [h,if_true] <;> omega
   ·simp only [h,if_false] <;> omega
 ·cases hi with
  | none=>simp [sliceBounds,HT.sIx]
  | some i =>
   simp only [sliceBounds,HT.sIx,Option.getD_none,show (1:Int) > 0 by decide,if_true]
   by_cases h:i<0
   ·simp only [h,if_true] <;> omega
   ·simp only [h,if_false] <;> omega
theorem pQ (its:List Value)(lo hi:Option Int):slicePick its.toArray lo hi none=((its.drop (HT.sIx its.length 0 lo)).take (HT.sIx its.length its.length hi - HT.sIx its.length 0 lo)).toArray:=by
 obtain ⟨h1,h2,h3⟩:=rD lo hi its.toArray.size
 unfold slicePick
 rw [h1,h2,h3]
 simp only [sliceRange_one,pick_run,List.size_toArray] <;> rfl
def Ha (K:PySem.W.Frag):V→Option Int→Option Int→Hp→VK→Prop:=fun x lo hi H Q=>∃ a xs,x=.ref a∧SqL K H a xs∧∀ p,H p=none→Q (.ref p) (upd H p (.lst (sS xs lo hi)))
theorem B5:SlR X (Ha X.K):=by
 intro pins s σ H x v vl vu lo hi sl Q I rx hs pl pu h
 obtain ⟨a,xs,rfl,hx,q⟩:=h
 cases rx
 obtain ⟨its,r,ht,hz⟩:=I.list hx
 have hlen:=r.length
 refine ⟨"list",_,slot_list_getitem.lookup,ht.isList.typeIs, ?_⟩
 refine wpAny_getItem_list_slice ht.isList hs pl pu .none (by simp) ?_ (by rw [List.size_toArray] <;> omega)
 rw [pQ, ← hlen]
 refine ⟨.ref s.heap.objs.size,_,I.laid (t':=s.toks) (o:=.lst (sS xs lo hi)) (fun b ob q=>Heap.get?_push_of_some _ q) (Nat.le_refl _) ?_,rfl,q _ (I.hok.fresh (Nat.le_refl _))⟩
 exact ⟨Nat.le_trans (nc xs lo hi) hz,_,0,(r.drop (HT.sIx xs.length 0 lo)).take (HT.sIx xs.length xs.length hi - HT.sIx xs.length 0 lo),Heap.get?_push_size _ rfl⟩
def kM:V→Bool
 | .non=>true
 | .bl _=>true
 | .int _=>true
 | .str _=>true
 | _=>false
def eqV:V→V→Bool
 | .non,.non=>true
 | .bl a,.bl b=>a == b
 | .bl a,.int b=>(if a then 1 else 0) == b
 | .int a,.bl b=>a == (if b then 1 else 0)
 | .int a,.int b=>a == b
 | .str a,.str b=>a == b
 | _,_=>false
theorem Eu {A:Around}{s:Shared}{y x:V}{u v:Value}(ry:RelV y u)(rx:RelV x v)(fy:kM y=true)(fx:kM x=true):SeqAt.EqAt A s u v (eqV y x):=by
 cases y with
 | non =>
  cases ry
  cases x with
  | non=>cases rx; exact SeqAt.EqAt.same _
  | bl b=>cases rx; exact SeqAt.EqAt.none_bool b
  | int b=>obtain ⟨t,rfl⟩:=rx; exact SeqAt.EqAt.none_int b t
  | str b=>obtain ⟨t,rfl⟩:=rx; exact SeqAt.EqAt.none_str b t
  | _=>exact absurd (show false=true from fx) Bool.false_ne_true
 | bl a =>
  cases ry
  cases x with
  | non=>cases rx; exact SeqAt.EqAt.bool_none a
  | bl b=>cases rx; exact SeqAt.EqAt.bool_bool a b
  | int b=>obtain ⟨t,rfl⟩:=rx; exact SeqAt.EqAt.bool_int a b t
  | str b=>obtain ⟨t,rfl⟩:=rx; exact SeqAt.EqAt.bool_str a b t
  | _=>exact absurd (show false=true from fx) Bool.false_ne_true
 | int a =>
  obtain ⟨t',rfl⟩:=ry
  cases x with
  | non=>cases rx; exact SeqAt.EqAt.int_none a t'
  | bl b=>cases rx; exact SeqAt.EqAt.int_bool a t' b
  | int b=>obtain ⟨t,rfl⟩:=rx; exact SeqAt.EqAt.int_int a t' b t
  | str b=>obtain ⟨t,rfl⟩:=rx; exact SeqAt.EqAt.int_str a t' b t
  | _=>exact absurd (show false=true from fx) Bool.false_ne_true
 | str a =>
  obtain ⟨t',rfl⟩:=ry
  cases x with
  | non=>cases rx; exact SeqAt.EqAt.str_none a t'
  | bl b=>cases rx; exact SeqAt.EqAt.str_bool a t' b
  | int b=>obtain ⟨t,rfl⟩:=rx; exact SeqAt.EqAt.str_int a t' b t
  | str b=>obtain ⟨t,rfl⟩:=rx; exact SeqAt.EqAt.str_str a t' b t
  | _=>exact absurd (show false=true from fx) Bool.false_ne_true
 | _=>exact absurd (show false=true from fy) Bool.false_ne_true
def eqU (x:V)(u:Value):Bool:=match u with
 | .none=>eqV .non x
 | .bool b=>eqV (.bl b) x
 | .int i _=>eqV (.int i) x
 | .str z _=>eqV (.str z) x
 | _=>false
theorem yY {x y:V}{u:Value}(r:RelV y u)(f:kM y=true):eqU x u=eqV y x:=by
 cases y with
 | non=>cases r; rfl
 | bl b=>cases r; rfl
 | int i=>obtain ⟨t,rfl⟩:=r; rfl
 | str z=>obtain ⟨t,rfl⟩:=r; rfl
 | _=>exact absurd (show false=true from f) Bool.false_ne_true
theorem rE {x:V}:∀ {xs:List V} {us:List Value},Vals xs us→xs.all kM=true→us.any (eqU x)=xs.any fun y=>eqV y x
 | _,_,.nil,_=>rfl
 | y::xs,u::us,.cons r t,f=>by
  rw [List.all_cons,Bool.and_eq_true] at f
  rw [List.any_cons,List.any_cons,yY r f.1,rE t f.2]
theorem nZ {A:Around}{s:Shared}{x:V}{v:Value}(rx:RelV x v)(fx:kM x=true):∀ {xs:List V} {us:List Value},Vals xs us→xs.all kM=true→∀ u∈us,SeqAt.EqAt A s u v (eqU x u)
 | _,_,.nil,_=>fun u hu=>by cases hu
 | y::xs,u::us,.cons r t,f=>fun u' hu=>by
  rw [List.all_cons,Bool.and_eq_true] at f
  rcases List.mem_cons.mp hu with rfl | hu
  ·rw [yY r f.1]; exact Eu r rx f.1 fx
  ·exact nZ rx fx t f.2 u' hu
def inV (x:V)(xs:List V):Bool:=xs.any fun y=>eqV y x
def rIn (K:PySem.W.Frag)(neg:Bool):R2:=fun x y H Q=>∃ p xs,y=.ref p∧(SqL K H p xs∨SqT K H p xs)∧kM x=true∧xs.all kM=true∧Q (.bl (if neg then !inV x xs else inV x xs)) H
theorem xn:OpR X (compareOp .In) (rIn X.K false):=by
 intro pins s σ H x y v u Q I rx ry h
 obtain ⟨p,xs,rfl,hq,fx,fs,q⟩:=h
 cases ry
 rcases hq with hq | hq
 ·obtain ⟨its,r,pl,hz⟩:=I.list hq
  refine SeqAt.in_listAt (eqU x) pl.isList (fun w hw=>nZ rx fx r fs w (by simpa using hw)) ⟨.bl _,H,I,rfl, ?_⟩
  rw [show its.toArray.any (eqU x)=its.any (eqU x) by simp,rE r fs]
  exact q
 ·obtain ⟨its,r,pl,hz⟩:=I.tuple hq
  refine SeqAt.in_tupleAt (eqU x) pl (fun w hw=>nZ rx fx r fs w (by simpa using hw)) ⟨.bl _,H,I,rfl, ?_⟩
  rw [show its.toArray.any (eqU x)=its.any (eqU x) by simp,rE r fs]
  exact q
theorem rF:iI X (.type "list") (fun xs H Q=>∃ p ys,xs=[.ref p]∧(SqL X.K H p ys∨SqT X.K H p ys)∧∀ l,H l=none→Q (.ref l) (upd H l (.lst ys))):=by
 intro pins s σ H xs us Q I r h
 obtain ⟨p,ys,rfl,hq,q⟩:=h
 obtain ⟨u,rfl,rx⟩:=vals1 r
 cases rx
 have fin:∀ (its:List Value),Vals ys its→ys.length≤sizeLine→∀ (h':Heap) (c':Nat),(∀ b o',s.heap.get? b=some o'→h'.get? b=some o') →
   h'.get? s.heap.objs.size=some { cls:=.type "list",dict:=none,data:=.seq its.toArray c',slots:=#[] }→EP X pins σ Q (.ref s.heap.objs.size) { s with heap:=h' }:=fun its r' hz h' c' kp e =>
  ⟨.ref s.heap.objs.size,_,I.laid (t':=s.toks) kp (Nat.le_refl _) (show eG X.prog X.w _ h' _ (.lst ys) from ⟨hz,its,c',r',e⟩),rfl,q _ (I.hok.fresh (Nat.le_refl _))⟩
 rcases hq with hq | hq
 ·obtain ⟨its,r',pl,hz⟩:=I.list hq
  have hlen:=r'.length
  obtain ⟨o,ho,hc,n,hd⟩:=pl.isList
  exact call_list_seq p (.inl rfl) ho hc hd (fun h' c' kp e=>fin its r' hz h' c' kp e) (by simp only [List.size_toArray] <;> omega)
 ·obtain ⟨its,r',pl,hz⟩:=I.tuple hq
  have hlen:=r'.length
  obtain ⟨o,ho,hc,n,hd⟩:=pl
  exact call_list_seq p (.inr rfl) ho hc hd (fun h' c' kp e=>fin its r' hz h' c' kp e) (by simp only [List.size_toArray] <;> omega)
theorem pR:iI X (.type "tuple") (fun xs H Q=>∃ p ys,xs=[.ref p]∧((SqL X.K H p ys∧∀ l,H l=none→Q (.ref l) (upd H l (.tup ys)))∨(SqT X.K H p ys∧Q (.ref p) H))):=by
 intro pins s σ H xs us Q I r h
 obtain ⟨p,ys,rfl,h⟩:=h
 obtain ⟨u,rfl,rx⟩:=vals1 r
 cases rx
 rcases h with ⟨hq,q⟩ | ⟨hq,q⟩
 ·obtain ⟨its,r',pl,hz⟩:=I.list hq
  have hlen:=r'.length
  refine call_tuple_list pl.isList (fun h' kp=>?_) (by simp only [List.size_toArray] <;> omega)
  have I1:Inv X pins σ H { s with heap:=h' }:=I.kept (t':=s.toks) kp
  have I2:Inv X pins σ (upd H h'.objs.size (.tup ys)) { s with heap:=h'.push { cls:=.type "tuple",data:=.seq its.toArray } } :=
   I1.laid (t':=s.toks) (fun b o e=>Heap.get?_push_of_some _ e) (Nat.le_refl _) (show eG X.prog X.w _ _ _ (.tup ys) from ⟨hz,its,r',IsTup.new _ _⟩)
  exact ⟨.ref h'.objs.size,_,I2,rfl,q _ (I1.hok.fresh (Nat.le_refl _))⟩
 ·obtain ⟨its,r',pl,hz⟩:=I.tuple hq
  exact call_tuple_same pl ⟨.ref p,H,I,rfl,q⟩
def tyV (K:PySem.W.Frag)(T:String)(x:V)(H:Hp):Prop:=match x with
 | .str _=>T="str"
 | .int _=>T="int"
 | .ref p=>(T="list"∧∃ xs,SqL K H p xs)∨(T="tuple"∧∃ o,K.lookup p=some o∧o.cls=.type "tuple"∧o.dict=none) ∨
   (T="dict"∧((∃ kvs,H p=some (.dK kvs))∨∃ kvs,H p=some (.dT kvs)))∨(T="set"∧∃ S n,H p=some (.set S n))
 | _=>False
theorem Ew {pins:List (Addr × Obj)}{σ:St}{H:Hp}{s:Shared}{T:String}{x:V}{v:Value}(I:Inv X pins σ H s)(r:RelV x v)(ty:tyV X.K T x H) :
  s.TypeIs v T∧∀ a,v=.ref a→∃ ob,s.heap.get? a=some ob∧ob.dict=none:=by
 cases x with
 | str z =>
  obtain ⟨t,rfl⟩:=r
  cases (show T="str" from ty)
  exact ⟨typeIs_str s z t,fun _ e=>nomatch e⟩
 | int i =>
  obtain ⟨t,rfl⟩:=r
  cases (show T="int" from ty)
  exact ⟨typeIs_int s i t,fun _ e=>nomatch e⟩
 | ref p =>
  cases r
  rcases ty with ⟨rfl,xs,hq⟩ | ⟨rfl,o,hk,hc,hd⟩ | ⟨rfl,hk⟩ | ⟨rfl,S,n,hk⟩
  ·obtain ⟨its,_,pl,_⟩:=I.list hq
   refine ⟨pl.isList.typeIs,fun a e=>?_⟩
   cases e
   obtain ⟨o,n,e,c,hd,_⟩:=pl
   exact ⟨o,e,hd⟩
  ·refine ⟨⟨o,I.kIn p o hk,hc⟩,fun a e=>?_⟩
   cases e
   exact ⟨o,I.kIn _ o hk,hd⟩
  ·have z:∃ o,s.heap.get? p=some o∧o.ExactDict:=by
    rcases hk with ⟨kvs,hk⟩ | ⟨kvs,hk⟩
    ·obtain ⟨_,_,_,_,o,_,_,e,ex,_⟩:=I.hok p _ hk
     exact ⟨o,e,ex⟩
    ·obtain ⟨_,_,_,_,o,_,_,e,ex,_⟩:=I.hok p _ hk
     exact ⟨o,e,ex⟩
   obtain ⟨o,e,ex⟩:=z
   refine ⟨⟨o,e,ex.1⟩,fun a e2=>?_⟩
   cases e2
   exact ⟨o,e,ex.2.1⟩
  ·obtain ⟨o,_,_,_,e,ex,_⟩:=I.hok p _ hk
   refine ⟨⟨o,e,ex.1⟩,fun a e2=>?_⟩
   cases e2
   exact ⟨o,e,ex.2.1⟩
 | _=>exact False.elim ty
def tBM (K:PySem.W.Frag)(T:String)(r:V→List V→Hp→VK→Prop)(to:TE)(t:TA):TE:=fun σ H Q=>to σ H fun x H1=>tyV K T x H1∧t σ H1 fun xs H2=>r x xs H2 Q
variable {o e:Expr}{es:List Expr}{to:TE}{t:TA}{name:Str}{apos cpos:Pos}{T id:String}{r:V→List V→Hp→VK→Prop}
theorem yZ (pa:PlainAttrs T)(slot:Slot T name id)(hty:typeOf (.builtin id)=pure (.type "method_descriptor"))(hm:MtR X id r)(ho:PE X o to)(ha:PA X (e::es) t)
  (hbase:attributeBase o name X.env (eval o X.env)=eval o X.env:=by rfl)
  (hfew:((backTo cpos (starEach (e::es) X.env)).all (fun x=>!x.1) && (backToKw cpos (keywordEach [] X.env)).all (fun x=>x.1.isSome)
   && decide ((e::es).length+([]:List Keyword).length+(if ([]:List Keyword).isEmpty then 0 else 1)<30))=true:=by rfl)
  (hline:(apos.endLine == cpos.line)=true:=by rfl) (hs:starEach (e::es) X.env=(false,eval e X.env)::starEach es X.env:=by rfl) (hplain:(backTo cpos (starEach es X.env)).any (·.1)=false:=by rfl) :
  PE X (.Call (.Attribute o name apos) (e::es) [] cpos) (tBM X.K T r to t):=by
 intro pins s σ H Q I h
 refine wpAny_Call_method_late hbase hfew hline rfl (bC (ho pins s σ H _ I h) fun v s1 x H1 I1 r1 zz_=>?_)
 obtain ⟨ty,q1⟩:=zz_
 obtain ⟨h1,h2⟩:=Ew I1 r1 ty
 refine ⟨T,id,pa,slot,hty,h1,h2, ?_⟩
 have hA:=ha cpos pins s1 σ H1 _ I1 q1
 rw [hs] at hA ⊢
 refine Calls.callWith_builtin (by show (false || (backTo cpos (starEach es X.env)).any (·.1))=false; rw [hplain] <;> rfl) (Calls.evalArgs_plain ?_)
 exact bC hA fun us s2 vs H2 I2 r2 q2=>hm pins s2 σ H2 x vs v us Q I2 r1 r2 q2
end
end L2
namespace L2
open PySem PySem.Spec PyProof.Rows
def MtM (X:Cx)(id:String)(r:V→List V→Hp→VK→Prop):Prop :=
 ∀ (pins:List (Addr × Obj)) (s:Shared) (σ:St) (H:Hp) (x:V) (xs:List V) (v:Value) (us:List Value) (Q:VK),Inv X pins σ H s→RelV x v→Vals xs us→r x xs H Q →
  wpAny (model X.prog X.w) X.A (call (.builtin id) (v::us)) (EP X pins σ Q) X.xe s
theorem Vals.one:∀ {x:V} {us:List Value},Vals [x] us→∃ u,us=[u]∧RelV x u
 | _,_,.cons r .nil=>⟨_,rfl,r⟩
theorem Vals.two:∀ {x y:V} {us:List Value},Vals [x,y] us→∃ u v,us=[u,v]∧RelV x u∧RelV y v
 | _,_,_,.cons r (.cons q .nil)=>⟨_,_,rfl,r,q⟩
theorem Vals.rep {xs:List V}{us:List Value}(h:Vals xs us):∀ k:Nat,Vals (List.replicate k xs).flatten (List.replicate k us).flatten
 | 0=>.nil
 | k+1=>by
  rw [List.replicate_succ,List.replicate_succ,List.flatten_cons,List.flatten_cons]
  exact Vals.append h (Vals.rep h k)
theorem foldl_rep (its:List Value):∀ (k:Nat) (acc:List Value),
  List.foldl (fun x1 x2=>x1++x2) acc.toArray (List.replicate k its.toArray)=(acc++(List.replicate k its).flatten).toArray
 | 0,acc=>by simp
 | k+1,acc=>by
  have e:acc.toArray++its.toArray=(acc++its).toArray:=by simp
  have e2:(acc++its)++(List.replicate k its).flatten=acc++(List.replicate (k+1) its).flatten:=by
   rw [List.replicate_succ,List.flatten_cons,List.append_assoc]
  rw [← e2, ← foldl_rep its k (acc++its), ← e,List.replicate_succ,List.foldl_cons]
section
variable {X:Cx}{pins:List (Addr × Obj)}{σ:St}{H:Hp}{s:Shared}{l b:Addr}{xs ys zs:List V}
theorem Inv.Ex {its its':List Value}{n:Nat}{f:Array Value→Array Value}{t':Nat}(I:Inv X pins σ H s)(hH:H l=some (.lst xs))
  (e:s.heap.get? l=some { cls:=.type "list",data:=.seq its.toArray n }) (hf:f its.toArray=its'.toArray) (hv:Vals ys its') (hz:ys.length≤sizeLine) :
  Inv X pins σ (upd H l (.lst ys)) { s with heap:=s.heap.update l (Obj.mapSeq f),toks:=t' }:=by
 have q:=PySem.IsL.update e f
 rw [hf] at q
 refine I.write (x:=l) (e:=l) (by rw [hH]; exact trivial) (.inl rfl) (fun b' u hb hu=>(Heap.get?_update_other s.heap (Obj.mapSeq f) (Ne.symm hb)).trans hu) ⟨_,q⟩ ?_
 exact ⟨hz,its',_,hv,q⟩
theorem Inv.Hb {its:List Value}{t':Nat}(I:Inv X pins σ H s)(hv:Vals ys its)(hz:ys.length≤sizeLine) :
  Inv X pins σ (upd H s.heap.objs.size (.lst ys)) { s with heap:=s.heap.push { cls:=.type "list",data:=.seq its.toArray },toks:=t' } :=
 I.laid (fun _ _ q=>Heap.get?_push_of_some _ q) (Nat.le_refl _) ⟨hz,its,0,hv,Heap.get?_push_size _ rfl⟩
theorem Inv.fresh (I:Inv X pins σ H s):H s.heap.objs.size=none:=I.hok.fresh (Nat.le_refl _)
theorem Inv.z0 (I:Inv X pins σ H s)(hH:H l=some (.lst xs)):xs.length≤sizeLine∧∃ (its:List Value) (n:Nat),Vals xs its∧xs.length=its.length∧s.heap.get? l=some { cls:=.type "list",data:=.seq its.toArray n }:=by
 obtain ⟨z,its,n,r,e⟩:=I.hok l _ hH
 exact ⟨z,its,n,r,r.length,e⟩
theorem o4 {n:Nat}(h:n≤sizeLine):Builtin.List.listTooLong n=false:=by
 unfold Builtin.List.listTooLong
 exact decide_eq_false (by omega)
end
section
variable {X:Cx}
def vU:V→List V→Hp→VK→Prop:=fun x vs H Q=>∃ l xs y,x=.ref l∧vs=[y]∧H l=some (.lst xs)∧xs.length<sizeLine∧Q .non (upd H l (.lst (xs++[y])))
theorem xo:MtM X "list.append" vU:=by
 intro pins s σ H x vs v us Q I rx rv h
 obtain ⟨l,xs,y,rfl,rfl,hH,hz,q⟩:=h
 cases rx
 obtain ⟨u,rfl,ru⟩:=rv.one
 obtain ⟨z,its,n,r,hl,e⟩:=I.z0 hH
 refine call_meets F.slot_list_append ⟨_,e,rfl⟩ F.entry_list_append (F.args_list_append_2 _ _) (PySem.list_append l its.toArray n u (by rw [List.size_toArray]; omega)) ⟨e, ?_⟩
 refine ⟨.non,_,I.Ex (its':=its++[u]) hH e (by simp) (r.append (.cons ru .nil)) ?_,rfl,q⟩
 rw [List.length_append,List.length_singleton]
 omega
def vV:V→List V→Hp→VK→Prop:=fun x vs H Q=>∃ l b xs zs,x=.ref l∧vs=[.ref b]∧H l=some (.lst xs)∧H b=some (.lst zs)∧xs.length+zs.length≤sizeLine∧Q .non (upd H l (.lst (xs++zs)))
theorem xp:MtM X "list.extend" vV:=by
 intro pins s σ H x vs v us Q I rx rv h
 obtain ⟨l,b,xs,zs,rfl,rfl,hH,hB,hz,q⟩:=h
 cases rx
 obtain ⟨u,rfl,ru⟩:=rv.one
 cases ru
 obtain ⟨z,its,n,r,hl,e⟩:=I.z0 hH
 obtain ⟨z2,its2,n2,r2,hl2,e2⟩:=I.z0 hB
 have hsz:its.toArray.size+its2.toArray.size≤sizeLine:=by rw [List.size_toArray,List.size_toArray]; omega
 have hlong:¬ (!its.toArray.isEmpty && Builtin.List.listTooLong (its.toArray.size+its2.toArray.size))=true:=by
  rw [o4 hsz,Bool.and_false]
  exact Bool.false_ne_true
 refine call_meets F.slot_list_extend ⟨_,e,rfl⟩ F.entry_list_extend (F.args_list_extend_2 _ _)
  (AutoSeq1.list_extend_list_list_0 l its.toArray n b its2.toArray n2 hlong (by rw [List.size_toArray]; omega) (by omega)) ⟨e,e2, ?_⟩
 refine ⟨.non,_,I.Ex (its':=its++its2) hH e (by simp) (r.append r2) ?_,rfl,q⟩
 rw [List.length_append]
 omega
def Jk:R2:=fun x y H Q=>∃ l k xs,x=.ref l∧y=.int k∧H l=some (.lst xs)∧-(2 ^ 63)≤k∧k<2 ^ 63∧xs.length * k.toNat≤sizeLine ∧
 ∀ p,H p=none→Q (.ref p) (upd H p (.lst (List.replicate k.toNat xs).flatten))
theorem len_rep {α:Type}(xs:List α)(k:Nat):(List.replicate k xs).flatten.length=k * xs.length:=by
 induction k with
 | zero=>simp
 | succ k ih=>rw [List.replicate_succ,List.flatten_cons,List.length_append,ih,Nat.succ_mul,Nat.add_comm]
theorem Ey:OpR X (binaryOp .Mult) Jk:=by
 intro pins s σ H x y v u Q I rx ry h
 obtain ⟨l,k,xs,rfl,rfl,hH,h1,h2,hz,q⟩:=h
 cases rx
 obtain ⟨t,rfl⟩:=ry
 obtain ⟨z,its,n,r,hl,e⟩:=I.z0 hH
 have hlen:its.toArray.size * k.toNat≤sizeLine:=by rw [List.size_toArray, ← hl]; exact hz
 have hcap:¬ its.toArray.size * k.toNat > (2 ^ 63 - 1) / 8:=by
  have:(sizeLine:Nat)≤(2 ^ 63 - 1) / 8:=by decide
  omega
 have hfit:¬ (!Builtin.List.listFitsIndex k)=true:=by
  rw [fitsIndex_both h1 h2]
  exact Bool.false_ne_true
 have hlong:¬ Builtin.List.listTooLong (its.toArray.size * k.toNat)=true:=by
  rw [o4 hlen]
  exact Bool.false_ne_true
 have hnew:List.foldl (fun x1 x2=>x1++x2) #[] (List.replicate (if its.toArray.isEmpty=true then 0 else k.toNat) its.toArray)=(List.replicate k.toNat its).flatten.toArray:=by
  have f0:∀ m:Nat,List.foldl (fun x1 x2=>x1++x2) #[] (List.replicate m its.toArray)=(List.replicate m its).flatten.toArray:=fun m=>by
   have:=foldl_rep its m []
   rw [List.nil_append] at this
   exact this
  rw [f0]
  cases its with
  | nil=>simp
  | cons a r'=>rw [if_neg (by simp)]
 refine wpAny_binaryOp_repeat_ref (T:="list") (U:="int") (by decide) ⟨_,e,rfl⟩ (fun s'=>typeIs_int s' k t) noFill_list_mul F.fills_int_mul F.slot_int_rmul repeat_list F.slot_int_index.lookup
  (call_meets F.slot_int_rmul (typeIs_int s k t) F.entry_int_rmul (F.args_int_rmul_2 _ _) (int___rmul___int_list k t l its.toArray n)
   ⟨e,rfl,⟨_,e,rfl⟩,call_meets F.slot_list_mul ⟨_,e,rfl⟩ F.entry_list_mul (F.args_list_mul_2 _ _) (AutoListH.list___mul___list_int_3 l its.toArray n k t hfit hcap hlong) ⟨e, ?_⟩⟩)
 rw [hnew]
 exact ⟨.ref _,_,I.Hb (t':=s.toks) (r.rep k.toNat) (by rw [len_rep,Nat.mul_comm]; exact hz),rfl,q _ I.fresh⟩
end
section
variable {prog:Program}{w:World}{A:Around}{E:Value→Shared→Prop}{s:Shared}
end
section
variable {X:Cx}
end
end L2
namespace Att
open PySem PySem.W PySem.Calls PyProof.Rows
theorem nr {P:Params}{h:Heap}:∀ (ns:List Int) (vs:List Value),WellAll P h vs (ns.map WData.int)→IntsAre vs ns:=by
 intro ns
 induction ns with
 | nil =>
  intro vs w
  rw [List.map_nil] at w
  cases w
  exact .nil
 | cons n ns ih =>
  intro vs w
  rw [List.map_cons] at w
  cases w with
  | cons a b =>
   cases a
   exact .cons _ _ (ih _ b)
theorem xr {l:OpenLaw}{n:Nat}(hn:l.most=some n){P:Params}{h:Heap}{args:List WData}{vals:List Value}
  (hpre:l.row.toRowW.claim.pre args=true) (hwl:WellAll P h vals args) :
  ∃ a vs ns,vals=[Value.ref a]∧args=[WData.list (ns.map WData.int)]∧h.get? a=some { cls:=.type "list",data:=.seq vs.toArray }∧IntsAre vs ns∧ns.length≤n:=by
 have hsh:WShape.hasAll [] args [.list .int]=true:=(pre_splitW hpre).1
 have hc:l.pre.holds [] { args:=args }=true:=(pre_splitW hpre).2
 obtain ⟨d,r,rfl,h1,h2⟩:=hasAllW_cons hsh
 obtain rfl:=hasAllW_nil h2
 obtain ⟨xs,rfl,h3⟩:=hasW_list h1
 obtain ⟨ns,rfl⟩:=items_int h3
 have hlen:ns.length≤n:=by
  unfold OpenLaw.pre at hc
  have h4:(WTm.not (.lt (.lit (.int (n:Int))) (.len (.arg 0)))).holds [] { args:=[.list (ns.map .int)] }=true:=by
   have h4:=(holds_andW hc).1
   rw [hn] at h4
   exact h4
  have h5:=condW_of h4 (w_not (w_lt w_lit (w_len_list (w_arg rfl))))
  rw [List.length_map] at h5
  refine Nat.le_of_not_lt fun q=>?_
  have q':(n:Int)<((ns.length:Nat):Int):=by omega
  first
   | (rw [decide_eq_true q'] at h5; exact absurd h5 (by decide))
   | (simp at h5; omega)
 cases hwl with
 | cons w1 w2 =>
  cases w2
  cases w1 with
  | list ho hall=>exact ⟨_,_,ns,rfl,rfl,ho,nr ns _ hall,hlen⟩
theorem xt (l:OpenLaw)(args:List WData):l.row.toRowW.claim.post args (.bool true) args=true :=
 postW_of (r:=l.row.toRowW) (X:=(true == true))
  (show WShape.has [] (.bool true) .bool=true by first | rfl | decide | simp [WShape.has,WShape.arms,WShape.armsAll])
  (show (WTm.eq .res (.lit (.bool true))).value [] { args:=args,res:=some (.bool true),after:=args }=some (.bool (true == true)) from w_eq_bool (w_res rfl) w_lit) rfl
theorem sT {l:OpenLaw}{n:Nat}{q:Program}{loose:List Str}{XP:(Str→Option Value)→Heap→Prop}{YP:World→Heap→Prop}{d:DefRec}
  (hn:l.most=some n) (hdf:d.params.defaults=[])
  (call:∀ (w:World) (s₀ s₁:Shared) (mg mb:Str→Option Value) (fa:Addr) (o:Obj) (pm cd doc:Value) (a:Addr) (vs:List Value) (ns:List Int),
   Ground q loose [] XP w s₀ mg mb s₁.heap→YP w s₁.heap →
   s₁.heap.get? fa=some o→o.data=.func (docDef d.name d.params d.body d.scope pm cd doc)→s₁.heap.CodeRec cd d.name→mg d.name=some (.ref fa) →
   s₁.heap.get? a=some { cls:=.type "list",data:=.seq vs.toArray }→IntsAre vs ns→ns.length≤n→s₁.gens=#[] →
   codeAny (model l.prog w) callerA (.call (.ref fa) ⟨[.ref a],[]⟩) (fun r s'=>r=.ok (.ret (.bool true))∧OldK s₁.heap s'.heap∧s'.os=s₁.os∧AllBare s'.gens) s₁) :
  WalkO q loose XP YP l.row.toRowW d [] (fun f vs=>PySem.call f vs):=by
 intro w s₀ s₁ mg mb G Y fa o pm cd doc dV kV ho hd hcd hD hmg hg args vals as hpre hlay hrd hwl hlo
 obtain rfl:dV=.none:=Dflts.none hD hdf
 obtain rfl:kV=.none:=Dflts.noKw hD
 obtain ⟨a,vs,ns,rfl,rfl,hobj,hints,hlen⟩:=xr hn hpre hwl
 refine enter_call (codeAny_mono (call w s₀ s₁ mg mb fa o pm cd doc a vs ns G Y ho (fd_plain hd) hcd hmg hobj hints hlen hg) fun r s' hq=>?_)
 obtain ⟨rfl,h2,h3,h4⟩:=hq
 exact ⟨.inl ⟨.bool true,.bool true,[],rfl,fun _=>rfl,.bool true,xt l _,fun _=>⟨List.Pairwise.nil,fun _ hm=>(nomatch hm)⟩⟩,h2,h3,h4⟩
section
variable {prog:Program}{w:World}{A:Around}{E:Value→Shared→Prop}{s:Shared}{K:Frag}
end
end Att
namespace L2
open PySem PySem.Spec PyProof.Rows
theorem gr:∀ {vs:List Value} {ns:List Int},IntsAre vs ns→Vals (ns.map V.int) vs
 | _,_,.nil=>.nil
 | _,_,.cons n t h=>.cons ⟨t,rfl⟩ (gr h)
def Ez (H:Hp):Prop:=∀ b,H b=none∨∃ o xs,H b=some (.frz o (.lst xs))
theorem za {P:Program}{w:World}{K:PySem.W.Frag}{mg mb:Str→Option Value}{CX:CXT}{k:Nat}{fa a:Addr}{fd:FuncData}{x:Str}{sp:Sp}{s₁:Shared}{vs:List Value}{ns:List Int}
  (KX:K.In s₁.heap) (hns:s₁.heap.Ns mainGlobals mg) (hb:s₁.heap.Ns builtinsNs mb) (hbb:∀ x:Str,x≠"__name__"→mb x=bootBuiltins x) (hlim:s₁.heap.NoLimit) (hg:s₁.gens=#[])
  (ha:s₁.heap.get? a=some { cls:=.type "list",data:=.seq vs.toArray }) (hi:IntsAre vs ns) (hl:ns.length≤sizeLine) (hr:el k callerA)
  (F:∀ base:Heap,K.In base→base.Ns mainGlobals mg→fR P w K mg base CX k fa fd [x] sp) (Hc:∀ (s:Shared) (u:Value),BindsTo s fd ⟨[u],[]⟩ [(x,u)])
  (hsp:∀ H:Hp,Ez H→SqL K H a (ns.map V.int)→sp [.ref a] H (fun v _=>v=.bl true) fun _ _ _=>False)
  (hCX:∀ H e s',CX [] H s₁ (fun _ _ _=>False) e s'→False) :
  codeAny (model P w) callerA (.call (.ref fa) ⟨[.ref a],[]⟩) (fun r s'=>r=.ok (.ret (.bool true))∧OldK s₁.heap s'.heap∧s'.os=s₁.os∧AllBare s'.gens) s₁:=by
 have rv:=gr hi
 have lenV:=hi.length
 have core:∀ H:Hp,Ez H→SqL K H a (ns.map V.int)→HOk P w H s₁.heap→(∀ b,H b≠none→b=a)→(H a≠none→K.lookup a=none) →
   codeAny (model P w) callerA (.call (.ref fa) ⟨[.ref a],[]⟩) (fun r s'=>r=.ok (.ret (.bool true))∧OldK s₁.heap s'.heap∧s'.os=s₁.os∧AllBare s'.gens) s₁:=by
  intro H hO hS hok hA hK
  have nO:∀ {b:Addr} {o:Obj},s₁.heap.get? b=some o→H b=none→(rg s₁.heap H).get? b=some o:=fun e n=>yu e n
  have noA:∀ {b:Addr} {o:Obj} {es:Array DictEntry} {ep:Nat},s₁.heap.get? b=some o→o.data=.dict es ep→H b=none:=fun {b o es ep} e d=>by
   cases q:H b with
   | none=>rfl
   | some u =>
    have e':b=a:=hA b (by rw [q]; simp)
    subst e'
    rw [ha] at e; cases e
    have d':Data.seq vs.toArray _=Data.dict es ep:=d
    cases d'
  have nsK:∀ {b:Addr} {m:Str→Option Value},s₁.heap.Ns b m→(rg s₁.heap H).Ns b m:=fun {b m} ⟨o,es,ep,e,d,r⟩=>⟨o,es,ep,nO e (noA e d),d,r⟩
  have hKb:K.In (rg s₁.heap H):=fun b o e=>nO (KX b o e) (by
   cases q:H b with
   | none=>rfl
   | some u =>
    have e':b=a:=hA b (by rw [q]; simp)
    subst e'
    rw [hK (by rw [q]; simp)] at e; cases e)
  have hM:Mod K mg (rg s₁.heap H):=⟨hKb,nsK hns,⟨mb,nsK hb,hbb⟩,let ⟨mc,h1,h2⟩:=hlim; ⟨mc,nsK h1,h2⟩⟩
  have e0:uU P w K mg (rg s₁.heap H) callerA [] s₁ H:=⟨rfl,hM,fun b o e=>AE e,Nat.le_of_eq (x6 _ _),trivial,fun b hb=>absurd (show b∈([]:List Addr) from hb) (by simp),hok,.of_eq hg⟩
  refine codeAny_mono ((F _ hKb (nsK hns)).run callerA [] s₁ H ⟨[.ref a],[]⟩ [.ref a] [.ref a] _ _ hr e0 (Hc s₁ (.ref a)) (.cons rfl .nil) (hsp H hO hS)) fun r s' h=>?_
  cases r with
  | error e=>exact (hCX H e s' h).elim
  | ok fl =>
   cases fl with
   | next=>exact False.elim h
   | brk=>exact False.elim h
   | cont=>exact False.elim h
   | ret u =>
    obtain ⟨v,H',os,bare,un,hok',r',q⟩:=h
    have q':v=.bl true:=q
    subst q'
    obtain rfl:u=Value.bool true:=r'
    refine ⟨rfl,OldK.of_keep fun b o e=>?_,os,bare⟩
    cases q:H b with
    | none=>exact un.keep b o e q (by intro z; exact absurd (show b∈([]:List Addr) from z) (by simp)) (by simp)
    | some u =>
     rcases hO b with z | ⟨ob,xs,z⟩
     ·rw [q] at z; cases z
     ·have z2:=un.nW b ob _ z
      obtain ⟨e1,_⟩:=hok b _ z
      obtain ⟨e2,_⟩:=hok' b _ z2
      rw [e] at e1; cases e1
      exact e2
 cases hk:K.lookup a with
 | some o =>
  have e:=KX a o hk
  rw [ha] at e
  cases e
  refine core (fun _=>none) (fun _=>.inl rfl) (.inr ⟨_,vs.toArray,_,hk,rfl,rfl,rfl,by rw [List.size_toArray,lenV]; exact hl,by simpa using rv⟩) (fun b u z=>by have z':(none:Option HO)=some u:=z; cases z') (fun b z=>absurd rfl z) fun z=>absurd rfl z
 | none =>
  refine core (fun b=>if b=a then some (.frz { cls:=.type "list",data:=.seq vs.toArray } (.lst (ns.map V.int))) else none) (fun b=>?_) (.inl (.inr ⟨{ cls:=.type "list",data:=.seq vs.toArray },if_pos rfl⟩)) (fun b u z=>?_) (fun b z=>?_) fun _=>hk
  ·by_cases hb:b=a
   ·exact .inr ⟨_,_,if_pos hb⟩
   ·exact .inl (if_neg hb)
  ·by_cases hb:b=a
   ·have z':=(if_pos hb).symm.trans z
    cases z'
    subst hb
    exact ⟨ha,by rw [List.length_map]; exact hl,vs,_,rv,ha⟩
   ·have z':=(if_neg hb).symm.trans z
    cases z'
  ·by_cases hb:b=a
   ·exact hb
   ·exact absurd (if_neg hb) z
end L2
namespace L2
open PySem PySem.Spec PyProof.Rows
theorem vW {l:PySem.W.OpenLaw}{n k:Nat}{q:Program}{loose:List Str}{XP:(Str→Option Value)→Heap→Prop}{YP:World→Heap→Prop}{d:DefRec}{K:Params→PySem.W.Frag}{CX:World→CXT}{sp:World→Sp}{x:Str}
  (hn:l.most=some n) (hn2:n≤sizeLine) (hdf:d.params.defaults=[]) (hr:el k callerA)
  (hY:∀ (w:World) (h:Heap),YP w h→(K w.params).In h)
  (F:∀ (w:World) (mg:Str→Option Value) (fa:Addr) (h:Heap),(K w.params).In h→h.Ns mainGlobals mg→mg d.name=some (.ref fa) →
   ∃ fd:FuncData,(∀ (s:Shared) (u:Value),BindsTo s fd ⟨[u],[]⟩ [(x,u)]) ∧
    ∀ base:Heap,(K w.params).In base→base.Ns mainGlobals mg→fR l.prog w (K w.params) mg base (CX w) k fa fd [x] (sp w))
  (hsp:∀ (w:World) (H:Hp) (a:Addr) (ns:List Int),ns.length≤n→Ez H→SqL (K w.params) H a (ns.map V.int)→sp w [.ref a] H (fun v _=>v=.bl true) fun _ _ _=>False)
  (hCX:∀ (w:World) (H:Hp) (s:Shared) (e:Value) (s':Shared),CX w [] H s (fun _ _ _=>False) e s'→False) :
  PySem.W.WalkO q loose XP YP l.row.toRowW d [] (fun f vs=>PySem.call f vs):=by
 refine Att.sT hn hdf fun w s₀ s₁ mg mb fa o pm cd doc a vs ns G Y ho hd hcd hmg hobj hints hlen hg=>?_
 have KX:=hY w _ Y
 obtain ⟨fd,hb,hF⟩:=F w mg fa _ KX G.T.g hmg
 exact za KX G.T.g G.T.b G.T.builtins G.T.nolimit hg hobj hints (Nat.le_trans hlen hn2) hr hF hb (fun H hO hS=>hsp w H a ns hlen hO hS) fun H e s'=>hCX w H s₁ e s'
end L2
namespace L2
open PySem PySem.Spec PyProof.Rows
def inClass (s:Stmt)(j:Nat):Stmt:=match s with
 | .ClassDef _ _ _ body _ _ _ _ _ _ _=>body.getD j (.Pass ⟨0,0,0,0⟩)
 | _=>.Pass ⟨0,0,0,0⟩
def aE (s:Stmt):Arguments:=match s with
 | .FunctionDef _ a _ _ _ _ _ _ _ _=>a
 | _=>{ posonlyargs:=[],args:=[],vararg:=none,kwonlyargs:=[],kw_defaults:=[],kwarg:=none,defaults:=[] }
def aq (s:Stmt):List Stmt:=match s with
 | .FunctionDef _ _ b _ _ _ _ _ _ _=>b
 | _=>[]
def ag (s:Stmt):Scope:=match s with
 | .FunctionDef _ _ _ _ _ _ sc _ _ _=>sc
 | _=>{ kind:=.function,names:=[],isGenerator:=false,isCoroutine:=false }
abbrev CX0:CXT:=fun _ _ _ _ _ _=>False
abbrev E0:XK:=fun _ _ _=>False
theorem qz {X:Cx}:Passes CX0 X E0:=fun _ _ _ _ _ _ _ h=>h.elim
structure Fun (K:PySem.W.Frag)(x qual:Str)(st:Stmt)(f:Addr)(fd:FuncData):Prop where
 ex:∃ (oc:Value) (od:Option Addr) (kV doc pm:Value) (an:Option Addr) (cdv ct:Value) (osl:Array (Option Value)),
  fd=PySem.W.fnOf x qual (aE st) (aq st) (ag st) .none kV doc pm an cdv ct∧K.lookup f=some ⟨oc,od,.func fd,osl⟩∧PySem.W.codeIn K cdv qual=true
 kp:PySem.W.keepIn K (.ref f)=true
section
variable {P:Program}{w:World}{K:PySem.W.Frag}{mg:Str→Option Value}{base:Heap}
theorem Fun.ok {x qual:Str}{st:Stmt}{f:Addr}{fd:FuncData}{N ps:List Str}{k:Nat}{sp:Sp}(F:Fun K x qual st f fd)(S:aB N ps (ag st))(len:∀ vs H Q E,sp vs H Q E→vs.length=ps.length)
  (yT:∀ (cdv:Value) (A:Around) (outer:List Env) (s:Shared) (H:Hp) (vs:List V) (Q:VK) (E:XK),el k (A.deeper (envOfC qual (ag st) s.heap.objs.size f cdv))→sp vs H Q E →
   ∃ t,PSs (xk CX0 P w K mg base N qual (ag st) f cdv A outer s H E).nox (aq st) t∧t { nx:=fun _ H'=>Q .non H',rt:=Q } (start N vs) H):fR P w K mg base CX0 (k+1) f fd ps sp:=by
 obtain ⟨oc,od,kV,doc,pm,an,cdv,ct,osl,rfl,lk,hcd⟩:=F.ex
 refine vP lk hcd S len fun A outer s H vs Q E hr hsp=>?_
 obtain ⟨t,h,q⟩:=yT cdv A outer s H vs Q E hr hsp
 exact ⟨t,h.nox,q⟩
theorem Fun.binds {x qual:Str}{st:Stmt}{f:Addr}{fd:FuncData}{ps:List Str}(F:Fun K x qual st f fd)
  (h:∀ (kV doc pm:Value) (an:Option Addr) (cdv ct:Value) (us:List Value),us.length=ps.length→bindArgs (PySem.W.fnOf x qual (aE st) (aq st) (ag st) .none kV doc pm an cdv ct) ⟨us,[]⟩=pure (ps.zip us)):Binds K fd ps []:=by
 obtain ⟨oc,od,kV,doc,pm,an,cdv,ct,osl,rfl,lk,hcd⟩:=F.ex
 exact .all (h kV doc pm an cdv ct)
theorem aR {x qual:Str}{st:Stmt}{f:Addr}{oc:Value}{od an:Option Addr}{osl:Array (Option Value)}{kV doc pm cdv ct:Value}(l:K.lookup f=some ⟨oc,od,.func (PySem.W.fnOf x qual (aE st) (aq st) (ag st) .none kV doc pm an cdv ct),osl⟩)
  (c:PySem.W.codeIn K cdv qual=true) (k:PySem.W.keepIn K (.ref f)=true):Fun K x qual st f (PySem.W.fnOf x qual (aE st) (aq st) (ag st) .none kV doc pm an cdv ct):=⟨⟨oc,od,kV,doc,pm,an,cdv,ct,osl,rfl,l,c⟩,k⟩
end
theorem bw {A:Around}{k:Nat}(hr:el k A):A.units+1<cLine:=Nat.lt_of_le_of_lt (Nat.add_le_add_left (by decide:1≤64) _) hr.units
section
variable {X:Cx}
end
def aG (H H':Hp):Prop:=∀ b o,H b=some o→H' b=some o
theorem aG.refl (H:Hp):aG H H:=fun _ _ h=>h
theorem aG.trans {H H1 H2:Hp}(a:aG H H1)(b:aG H1 H2):aG H H2:=fun c o h=>b c o (a c o h)
theorem aG.free {H H':Hp}(e:aG H H'){l:Addr}(h:H' l=Option.none):H l=Option.none:=by
 cases q:H l with
 | none=>rfl
 | some o =>
  rw [e l o q] at h
  cases h
theorem aG.seq {K:PySem.W.Frag}{H H':Hp}{a:Addr}{xs:List V}(e:aG H H')(h:SqL K H a xs):SqL K H' a xs:=by
 rcases h with (h | ⟨o,h⟩) | h
 ·exact .inl (.inl (e _ _ h))
 ·exact .inl (.inr ⟨o,e _ _ h⟩)
 ·exact .inr h
end L2
end
section
namespace DL
open PySem L2
inductive D where
 | non
 | bl (b:Bool)
 | int (i:Int)
 | str (x:List Nat)
 | tup (ds:List D)
 | lst (ds:List D)
 | ob (c:Nat) (ks:List Nat) (ds:List D)
 | dct (ks:List (List Nat)) (ds:List D)
 | exc (c:Nat)
 deriving Inhabited
abbrev mkS (x:List Nat):Str:=⟨x.toArray⟩
theorem lL {x y:List Nat}(h:mkS x=mkS y):x=y:=by
 have:=congrArg (fun s:Str=>s.cps.toList) h
 simpa using this
theorem hV (x:List Nat):(mkS x).length=x.length:=by simp [Str.length]
structure Tx where
 K:PySem.W.Frag
 cl:Nat→Option Addr
 fld:Nat→Str
def LsA (T:Tx)(A:Addr→Prop)(H:Hp)(a:Addr)(xs:List V):Prop :=
 (Rd H a (.lst xs)∧A a) ∨
  ∃ (o:Obj) (its:Array Value) (n:Nat),T.K.lookup a=some o∧o.cls=.type "list"∧o.dict=none∧o.data=.seq its n∧its.size≤sizeLine∧Vals xs its.toList
def XO (a C:Addr):HO:=.ext fun h=>∃ o:Obj,h.get? a=some o∧o.cls=.ref C∧o.dict=none∧∃ vs,o.data=.fields vs
mutual
def Rep (T:Tx)(A:Addr→Prop)(H:Hp):D→V→Prop
 | .non,v=>v=.non
 | .bl b,v=>v=.bl b
 | .int i,v=>v=.int i
 | .str x,v=>v=.str (mkS x)
 | .tup ds,v=>∃ a xs,v=.ref a∧SqT T.K H a xs∧az T A H ds xs
 | .lst ds,v=>∃ a xs,v=.ref a∧LsA T A H a xs∧az T A H ds xs
 | .ob c ks ds,v=>∃ a C dx fs,v=.ref a∧A a∧T.cl c=some C∧H a=some (.ins C dx fs)∧fs.map (·.1)=ks.map T.fld∧az T A H ds (fs.map (·.2))
 | .dct ks ds,v=>∃ a kvs,v=.ref a∧A a∧H a=some (.dK kvs)∧kvs.map (·.1)=ks.map (fun k=>(Sum.inr (mkS k):Key))∧az T A H ds (kvs.map (·.2))
 | .exc c,v=>∃ a C,v=.ref a∧T.cl c=some C∧H a=some (XO a C)
def az (T:Tx)(A:Addr→Prop)(H:Hp):List D→List V→Prop
 | [],xs=>xs=[]
 | d::ds,xs=>∃ x r,xs=x::r∧Rep T A H d x∧az T A H ds r
end
def Mu:Option HO→Prop
 | some (.lst _)=>True
 | some (.ins _ _ _)=>True
 | some (.dK _)=>True
 | _=>False
theorem LsA.sq {T:Tx}{A:Addr→Prop}{H:Hp}{a:Addr}{xs:List V}(h:LsA T A H a xs):SqL T.K H a xs:=by
 rcases h with h | h
 ·exact .inl h.1
 ·exact .inr h
section
variable {T:Tx}{A A' O:Addr→Prop}{H H':Hp}
structure Kp (A A' O:Addr→Prop)(H H':Hp):Prop where
 keep:∀ b o,H b=some o→¬ O b→H' b=some o
 mu:∀ b,O b→Mu (H b)
 cl:∀ b o,A b→H b=some o→¬ O b
 to:∀ b o,A b→H b=some o→A' b
theorem Kp.sqT (k:Kp A A' O H H'){a:Addr}{xs:List V}(h:SqT T.K H a xs):SqT T.K H' a xs:=by
 rcases h with (h | ⟨o,h⟩) | h
 ·exact .inl (.inl (k.keep _ _ h fun z=>by have:=k.mu _ z; rw [h] at this; exact this))
 ·exact .inl (.inr ⟨o,k.keep _ _ h fun z=>by have:=k.mu _ z; rw [h] at this; exact this⟩)
 ·exact .inr h
theorem Kp.ls (k:Kp A A' O H H'){a:Addr}{xs:List V}(h:LsA T A H a xs):LsA T A' H' a xs:=by
 rcases h with ⟨h | ⟨o,h⟩,z⟩ | h
 ·exact .inl ⟨.inl (k.keep _ _ h (k.cl _ _ z h)),k.to _ _ z h⟩
 ·exact .inl ⟨.inr ⟨o,k.keep _ _ h (k.cl _ _ z h)⟩,k.to _ _ z h⟩
 ·exact .inr h
mutual
theorem Rep.kp (k:Kp A A' O H H'):∀ {d:D} {v:V},Rep T A H d v→Rep T A' H' d v
 | .non,_,h=>by simp only [Rep] at h ⊢; exact h
 | .bl _,_,h=>by simp only [Rep] at h ⊢; exact h
 | .int _,_,h=>by simp only [Rep] at h ⊢; exact h
 | .str _,_,h=>by simp only [Rep] at h ⊢; exact h
 | .tup ds,_,h=>by
  simp only [Rep] at h ⊢
  obtain ⟨a,xs,e,q,r⟩:=h
  exact ⟨a,xs,e,k.sqT q,az.kp k r⟩
 | .lst ds,_,h=>by
  simp only [Rep] at h ⊢
  obtain ⟨a,xs,e,q,r⟩:=h
  exact ⟨a,xs,e,k.ls q,az.kp k r⟩
 | .ob c ks ds,_,h=>by
  simp only [Rep] at h ⊢
  obtain ⟨a,C,dx,fs,e,z,c,q,n,r⟩:=h
  exact ⟨a,C,dx,fs,e,k.to _ _ z q,c,k.keep _ _ q (k.cl _ _ z q),n,az.kp k r⟩
 | .dct ks ds,_,h=>by
  simp only [Rep] at h ⊢
  obtain ⟨a,kvs,e,z,q,n,r⟩:=h
  exact ⟨a,kvs,e,k.to _ _ z q,k.keep _ _ q (k.cl _ _ z q),n,az.kp k r⟩
 | .exc c,_,h=>by
  simp only [Rep] at h ⊢
  obtain ⟨a,C,e,c,q⟩:=h
  exact ⟨a,C,e,c,k.keep _ _ q fun z=>by have:=k.mu _ z; rw [q] at this; exact this⟩
theorem az.kp (k:Kp A A' O H H'):∀ {ds:List D} {vs:List V},az T A H ds vs→az T A' H' ds vs
 | [],_,h=>by simp only [az] at h ⊢; exact h
 | d::ds,_,h=>by
  simp only [az] at h ⊢
  obtain ⟨x,r,e,h1,h2⟩:=h
  exact ⟨x,r,e,Rep.kp k h1,az.kp k h2⟩
end
theorem Kp.same (s:aG H H')(hA:∀ b o,A b→H b=some o→A' b):Kp A A' (fun _=>False) H H':=⟨fun b o h _=>s b o h,fun _ z=>z.elim,fun _ _ _ _ z=>z,hA⟩
theorem Rep.mono (s:aG H H')(hA:∀ b,A b→A' b){d:D}{v:V}(h:Rep T A H d v):Rep T A' H' d v:=h.kp (Kp.same s fun b _ z _=>hA b z)
theorem az.mono (s:aG H H')(hA:∀ b,A b→A' b){d:List D}{v:List V}(h:az T A H d v):az T A' H' d v:=h.kp (Kp.same s fun b _ z _=>hA b z)
theorem az.nil:az T A H [] []:=by simp only [az]
theorem az.cons {d:D}{v:V}{ds:List D}{vs:List V}(h:Rep T A H d v)(r:az T A H ds vs):az T A H (d::ds) (v::vs):=by
 simp only [az]; exact ⟨v,vs,rfl,h,r⟩
theorem az.jh {vs:List V}(h:az T A H [] vs):vs=[]:=by simpa only [az] using h
theorem az.dN {d:D}{ds:List D}{vs:List V}(h:az T A H (d::ds) vs):∃ x r,vs=x::r∧Rep T A H d x∧az T A H ds r:=by simpa only [az] using h
theorem az.length:∀ {ds:List D} {vs:List V},az T A H ds vs→ds.length=vs.length
 | [],_,h=>by rw [h.jh]; rfl
 | d::ds,_,h=>by
  obtain ⟨x,r,rfl,_,h2⟩:=h.dN
  simp [az.length h2]
theorem az.get:∀ {ds:List D} {vs:List V} {i:Nat} {d:D},az T A H ds vs→ds[i]?=some d→∃ v,vs[i]?=some v∧Rep T A H d v
 | [],_,_,_,h,e=>by simp at e
 | d::ds,_,0,_,h,e=>by
  obtain ⟨x,r,rfl,h1,_⟩:=h.dN
  simp at e; subst e
  exact ⟨x,rfl,h1⟩
 | d::ds,_,i+1,c,h,e=>by
  obtain ⟨x,r,rfl,_,h2⟩:=h.dN
  obtain ⟨v,e1,e2⟩:=az.get (i:=i) (d:=c) h2 (by simpa using e)
  exact ⟨v,by simpa using e1,e2⟩
theorem az.sU:∀ {ds:List D} {vs:List V} {i:Nat} {v:V},az T A H ds vs→vs[i]?=some v→∃ d,ds[i]?=some d∧Rep T A H d v
 | [],_,_,_,h,e=>by rw [h.jh] at e; simp at e
 | d::ds,_,0,_,h,e=>by
  obtain ⟨x,r,rfl,h1,_⟩:=h.dN
  simp at e; subst e
  exact ⟨d,rfl,h1⟩
 | d::ds,_,i+1,c,h,e=>by
  obtain ⟨x,r,rfl,_,h2⟩:=h.dN
  obtain ⟨v,e1,e2⟩:=az.sU (i:=i) (v:=c) h2 (by simpa using e)
  exact ⟨v,by simpa using e1,e2⟩
theorem az.append:∀ {ds es:List D} {vs us:List V},az T A H ds vs→az T A H es us→az T A H (ds++es) (vs++us)
 | [],_,_,_,h,g=>by rw [h.jh]; simpa using g
 | d::ds,_,_,_,h,g=>by
  obtain ⟨x,r,rfl,h1,h2⟩:=h.dN
  exact .cons h1 (az.append h2 g)
theorem az.take:∀ {ds:List D} {vs:List V} (n:Nat),az T A H ds vs→az T A H (ds.take n) (vs.take n)
 | _,_,0,_=>by simp only [List.take_zero]; exact .nil
 | [],_,n+1,h=>by rw [h.jh]; simp only [List.take_nil]; exact .nil
 | d::ds,_,n+1,h=>by
  obtain ⟨x,r,rfl,h1,h2⟩:=h.dN
  exact .cons h1 (az.take n h2)
theorem az.drop:∀ {ds:List D} {vs:List V} (n:Nat),az T A H ds vs→az T A H (ds.drop n) (vs.drop n)
 | _,_,0,h=>by simpa using h
 | [],_,n+1,h=>by rw [h.jh]; simp only [List.drop_nil]; exact .nil
 | d::ds,_,n+1,h=>by
  obtain ⟨x,r,rfl,h1,h2⟩:=h.dN
  exact az.drop n h2
theorem az.Dc:∀ ns:List Int,az T A H (ns.map D.int) (ns.map V.int)
 | []=>.nil
 | n::r=>.cons (by simp only [Rep]) (az.Dc r)
theorem Rep.fz {ds:List D}{v:V}(h:Rep T A H (.lst ds) v):∃ a xs,v=.ref a∧LsA T A H a xs∧az T A H ds xs:=by simpa only [Rep] using h
theorem Rep.gu {ds:List D}{v:V}(h:Rep T A H (.tup ds) v):∃ a xs,v=.ref a∧SqT T.K H a xs∧az T A H ds xs:=by simpa only [Rep] using h
theorem Rep.ob_ {c:Nat}{ks:List Nat}{ds:List D}{v:V}(h:Rep T A H (.ob c ks ds) v):∃ a C dx fs,v=.ref a∧A a∧T.cl c=some C∧H a=some (.ins C dx fs)∧fs.map (·.1)=ks.map T.fld∧az T A H ds (fs.map (·.2)):=by simpa only [Rep] using h
theorem Rep.B6 {ks:List (List Nat)}{ds:List D}{v:V}(h:Rep T A H (.dct ks ds) v):∃ a kvs,v=.ref a∧A a∧H a=some (.dK kvs)∧kvs.map (·.1)=ks.map (fun k=>(Sum.inr (mkS k):Key))∧az T A H ds (kvs.map (·.2)):=by simpa only [Rep] using h
theorem Rep.Hd {c:Nat}{v:V}(h:Rep T A H (.exc c) v):∃ a C,v=.ref a∧T.cl c=some C∧H a=some (XO a C):=by simpa only [Rep] using h
theorem Rep.dA {i:Int}{v:V}(h:Rep T A H (.int i) v):v=.int i:=by simpa only [Rep] using h
theorem Rep.hX {i:List Nat}{v:V}(h:Rep T A H (.str i) v):v=.str (mkS i):=by simpa only [Rep] using h
theorem Rep.bl_ {i:Bool}{v:V}(h:Rep T A H (.bl i) v):v=.bl i:=by simpa only [Rep] using h
theorem Rep.mw {v:V}(h:Rep T A H .non v):v=.non:=by simpa only [Rep] using h
theorem Rep.int (i:Int):Rep T A H (.int i) (.int i):=by simp only [Rep]
theorem Rep.str (i:List Nat):Rep T A H (.str i) (.str (mkS i)):=by simp only [Rep]
theorem Rep.bl (i:Bool):Rep T A H (.bl i) (.bl i):=by simp only [Rep]
theorem Rep.non:Rep T A H .non .non:=by simp only [Rep]
theorem Rep.lst {a:Addr}{xs:List V}{ds:List D}(h:LsA T A H a xs)(r:az T A H ds xs):Rep T A H (.lst ds) (.ref a):=by simp only [Rep]; exact ⟨a,xs,rfl,h,r⟩
theorem Rep.tup {a:Addr}{xs:List V}{ds:List D}(h:SqT T.K H a xs)(r:az T A H ds xs):Rep T A H (.tup ds) (.ref a):=by simp only [Rep]; exact ⟨a,xs,rfl,h,r⟩
theorem bG {H:Hp}{p:Addr}(h:H p=none)(o:HO):aG H (upd H p o):=fun b u q=>by rw [aC (dk q h)]; exact q
theorem Rep.uY {ds:List D}{vs:List V}(r:az T A H ds vs){p:Addr}(hp:H p=none):Rep T A (upd H p (.tup vs)) (.tup ds) (.ref p) :=
 .tup (SqT.of bu) (r.mono (bG hp _) fun _ z=>z)
theorem Rep.He {ds:List D}{vs:List V}(r:az T A H ds vs){p:Addr}(hp:H p=none)(a:A p):Rep T A (upd H p (.lst vs)) (.lst ds) (.ref p) :=
 .lst (.inl ⟨.inl bu,a⟩) (r.mono (bG hp _) fun _ z=>z)
end
structure Fr (O:Addr→Prop)(H:Hp)(O':Addr→Prop)(H':Hp):Prop where
 keep:∀ b o,H b=some o→¬ O b→H' b=some o
 more:∀ b,O' b→O b∨H b=none
 dom:∀ b,H' b=none→H b=none
theorem Fr.refl (O:Addr→Prop)(H:Hp):Fr O H O H:=⟨fun _ _ h _=>h,fun _ h=>.inl h,fun _ h=>h⟩
theorem Fr.same {O:Addr→Prop}{H H':Hp}(s:aG H H'):Fr O H O H':=⟨fun b o h _=>s b o h,fun _ h=>.inl h,fun _ h=>s.free h⟩
theorem Fr.trans {O O1 O2:Addr→Prop}{H H1 H2:Hp}(a:Fr O H O1 H1)(b:Fr O1 H1 O2 H2):Fr O H O2 H2 where
 keep:=fun c o h n=>b.keep c o (a.keep c o h n) fun z=>(a.more c z).elim n fun e=>by rw [h] at e; cases e
 more:=fun c z=>by
  rcases b.more c z with q | q
  ·exact a.more c q
  ·exact .inr (a.dom c q)
 dom:=fun c z=>a.dom c (b.dom c z)
inductive Slot where
 | no
 | val (d:D)
 | own (ds:List D)
 | obj (c:Nat) (ks:List Nat) (ds:List D)
 | red (ds:List D)
 | lM (dss:List (List D))
 | xu (dss:List (List D))
 | uZ (n:Nat)
 deriving Inhabited
abbrev aN:=List Slot
def Slot.gY:Slot→Bool
 | .own _=>true
 | .obj _ _ _=>true
 | .lM _=>true
 | .uZ _=>true
 | _=>false
structure Wf where
 A:Addr→Prop
 H0:Hp
 O0:Addr→Prop
abbrev Cl (W:Wf)(O:Addr→Prop):Addr→Prop:=fun b=>W.A b∧¬ O b
structure Inl (P:List D→Addr→Prop)(dss:List (List D))(bs:List Addr):Prop where
 len:dss.length=bs.length
 at_:∀ (k:Nat) (ds:List D) (b:Addr),dss[k]?=some ds→bs[k]?=some b→P ds b
theorem Inl.imp {P P':List D→Addr→Prop}{dss:List (List D)}{bs:List Addr}(h:Inl P dss bs)(g:∀ ds b,b∈bs→P ds b→P' ds b):Inl P' dss bs :=
 ⟨h.len,fun k ds b e1 e2=>g ds b (List.mem_of_getElem? e2) (h.at_ k ds b e1 e2)⟩
theorem Inl.mem {P:List D→Addr→Prop}{dss:List (List D)}{bs:List Addr}(h:Inl P dss bs){b:Addr}(hb:b∈bs):∃ ds,P ds b:=by
 obtain ⟨k,hk,e⟩:=List.getElem_of_mem hb
 exact ⟨_,h.at_ k (dss[k]'(h.len ▸ hk)) b (List.getElem?_eq_getElem _) (by rw [List.getElem?_eq_getElem hk,e])⟩
def jL (T:Tx)(W:Wf)(O:Addr→Prop)(H:Hp):Slot→Option V→Prop
 | .no,_=>True
 | .val d,v=>∃ u,v=some u∧Rep T (Cl W O) H d u
 | .own ds,v=>∃ a xs,v=some (.ref a)∧O a∧W.H0 a=none∧H a=some (.lst xs)∧az T (Cl W O) H ds xs
 | .obj c ks ds,v=>∃ a C dx fs,v=some (.ref a)∧O a∧W.H0 a≠none∧T.cl c=some C∧H a=some (.ins C dx fs)∧fs.map (·.1)=ks.map T.fld∧az T (Cl W O) H ds (fs.map (·.2))
 | .red ds,v=>∃ a xs,v=some (.ref a)∧¬ W.O0 a∧W.H0 a=some (.lst xs)∧az T (Cl W O) H ds xs
 | .lM dss,v=>∃ a bs,v=some (.ref a)∧O a∧W.H0 a=none∧H a=some (.lst (bs.map V.ref))∧Inl (fun ds b=>O b∧W.H0 b=none∧∃ ys,H b=some (.lst ys)∧az T (Cl W O) H ds ys) dss bs
 | .xu dss,v=>∃ a bs,v=some (.ref a)∧¬ W.O0 a∧W.H0 a=some (.lst (bs.map V.ref))∧Inl (fun ds b=>¬ W.O0 b∧∃ ys,W.H0 b=some (.lst ys)∧az T (Cl W O) H ds ys) dss bs
 | .uZ n,v=>∃ a xs,v=some (.ref a)∧O a∧W.H0 a=none∧H a=some (.lst xs)∧xs.length=n
structure bz (T:Tx)(W:Wf)(O:Addr→Prop)(H:Hp)(env:aN)(σ:St):Prop where
 fr:Fr W.O0 W.H0 O H
 new:∀ a,W.H0 a=none→W.A a
 mu:∀ a,O a→Mu (H a)
 slot:∀ (i:Nat) (s:Slot),env[i]?=some s→jL T W O H s (σ[i]?).join
 inj:∀ (i j:Nat) (s t:Slot) (a:Addr),env[i]?=some s→env[j]?=some t→s.gY=true→t.gY=true→σ[i]?=some (some (.ref a))→σ[j]?=some (some (.ref a))→i=j
 len:env.length=σ.length
 nu:∀ (i j:Nat) (dss:List (List D)) (t:Slot) (a:Addr) (bs:List Addr) (b:Addr),env[i]?=some (.lM dss)→σ[i]?=some (some (.ref a))→H a=some (.lst (bs.map V.ref))→b∈bs→env[j]?=some t→t.gY=true→σ[j]?≠some (some (.ref b))
section
variable {T:Tx}{W:Wf}{O O':Addr→Prop}{H H':Hp}{env:aN}{σ:St}
theorem bz.lN (E:bz T W O H env σ){a:Addr}(h:H a=none):Cl W O a :=
 ⟨E.new a (E.fr.dom a h),fun o=>by have:=E.mu a o; rw [h] at this; exact this⟩
theorem bz.kp (E:bz T W O H env σ)(f:Fr O H O' H'):Kp (Cl W O) (Cl W O') O H H' :=
 ⟨f.keep,E.mu,fun _ _ z _=>z.2,fun b o z e=>⟨z.1,fun q=>(f.more b q).elim z.2 fun w=>by rw [e] at w; cases w⟩⟩
theorem bz.sV (E:bz T W O H env σ)(f:Fr O H O' H'){d:D}{v:V}(r:Rep T (Cl W O) H d v):Rep T (Cl W O') H' d v:=r.kp (E.kp f)
theorem jL.kp (k:Kp (Cl W O) (Cl W O') O H H')(hO:∀ a,O a→O' a):∀ {s:Slot} {v:Option V},(∀ a,s.gY=true→v=some (.ref a)→H' a=H a)→(∀ (dss:List (List D)) (a:Addr) (bs:List Addr) (b:Addr),s=.lM dss→v=some (.ref a)→H a=some (.lst (bs.map V.ref))→b∈bs→H' b=H b)→jL T W O H s v→jL T W O' H' s v
 | .no,_,_,_,_=>trivial
 | .val d,_,_,_,h=>by obtain ⟨u,e,r⟩:=h; exact ⟨u,e,r.kp k⟩
 | .own ds,_,g,_,h=>by
  obtain ⟨a,xs,e,o,n,q,r⟩:=h
  exact ⟨a,xs,e,hO a o,n,(g a rfl e).trans q,r.kp k⟩
 | .obj c ks ds,_,g,_,h=>by
  obtain ⟨a,C,dx,fs,e,o,nn,n,q,m,r⟩:=h
  exact ⟨a,C,dx,fs,e,hO a o,nn,n,(g a rfl e).trans q,m,r.kp k⟩
 | .red ds,_,_,_,h=>by obtain ⟨a,xs,e,o,n,r⟩:=h; exact ⟨a,xs,e,o,n,r.kp k⟩
 | .lM dss,_,g,g2,h=>by
  obtain ⟨a,bs,e,o,n,q,r⟩:=h
  refine ⟨a,bs,e,hO a o,n,(g a rfl e).trans q,r.imp fun ds b hb z=>?_⟩
  obtain ⟨z1,z2,ys,z3,z4⟩:=z
  exact ⟨hO b z1,z2,ys,(g2 dss a bs b rfl e q hb).trans z3,z4.kp k⟩
 | .uZ n,_,g,_,h=>by obtain ⟨a,xs,e,o,m,q,l⟩:=h; exact ⟨a,xs,e,hO a o,m,(g a rfl e).trans q,l⟩
 | .xu dss,_,_,_,h=>by
  obtain ⟨a,bs,e,o,n,r⟩:=h
  refine ⟨a,bs,e,o,n,r.imp fun ds b hb z=>?_⟩
  obtain ⟨z1,ys,z3,z4⟩:=z
  exact ⟨z1,ys,z3,z4.kp k⟩
theorem join_some {σ:St}{i:Nat}{v:V}(h:(σ[i]?).join=some v):σ[i]?=some (some v):=by
 cases e:σ[i]? with
 | none=>rw [e] at h; cases h
 | some o=>rw [e] at h; cases o with
  | none=>cases h
  | some w=>cases h; rfl
theorem jL.ji {s:Slot}{v:Option V}(h:jL T W O H s v)(hs:s.gY=true):∃ a,v=some (.ref a)∧O a:=by
 cases s with
 | no=>cases hs
 | val d=>cases hs
 | own ds=>obtain ⟨a,xs,e,o,_⟩:=h; exact ⟨a,e,o⟩
 | obj c ks ds=>obtain ⟨a,C,dx,fs,e,o,_⟩:=h; exact ⟨a,e,o⟩
 | red ds=>cases hs
 | lM dss=>obtain ⟨a,bs,e,o,_⟩:=h; exact ⟨a,e,o⟩
 | xu dss=>cases hs
 | uZ n=>obtain ⟨a,xs,e,o,_⟩:=h; exact ⟨a,e,o⟩
theorem jL.inner {dss:List (List D)}{v:Option V}(h:jL T W O H (.lM dss) v){a:Addr}{bs:List Addr}{b:Addr}(e:v=some (.ref a))(q:H a=some (.lst (bs.map V.ref)))(hb:b∈bs):O b∧W.H0 b=none∧∃ ys,H b=some (.lst ys):=by
 obtain ⟨a',bs',e',o,n,q',r⟩:=h
 rw [e] at e'; cases e'
 rw [q] at q'
 have hm:V.ref b∈bs'.map V.ref:=by
  have:=HO.lst.inj (Option.some.inj q')
  rw [← this]; exact List.mem_map.mpr ⟨b,hb,rfl⟩
 obtain ⟨b',hb',eb⟩:=List.mem_map.mp hm
 cases eb
 obtain ⟨ds,z1,z2,ys,z3,_⟩:=r.mem hb'
 exact ⟨z1,z2,ys,z3⟩
theorem bz.mono (E:bz T W O H env σ)(s:aG H H'):bz T W O H' env σ where
 fr:=E.fr.trans (Fr.same s)
 new:=E.new
 mu:=fun a o=>by
  have:=E.mu a o
  cases e:H a with
  | none=>rw [e] at this; exact this.elim
  | some u=>rw [s a u e]; rw [e] at this; exact this
 slot:=fun i t e=>(E.slot i t e).kp (E.kp (Fr.same s)) (fun _ z=>z) (fun a hs ev=>by
  obtain ⟨b,eb,o⟩:=(E.slot i t e).ji hs
  rw [ev] at eb; cases eb
  have:=E.mu a o
  cases e:H a with
  | none=>rw [e] at this; exact this.elim
  | some u=>exact s a u e) fun dss a bs b et ev q hb=>by
  subst et
  obtain ⟨_,_,ys,z⟩:=(E.slot i _ e).inner ev q hb
  rw [z]; exact s b _ z
 inj:=E.inj
 len:=E.len
 nu:=fun i j dss t a bs b e1 e2 q hb e3 o3=>by
  obtain ⟨a',eb,o⟩:=(E.slot i _ e1).ji rfl
  rw [e2] at eb; cases eb
  refine E.nu i j dss t a bs b e1 e2 ?_ hb e3 o3
  have:=E.mu a o
  cases e:H a with
  | none=>rw [e] at this; exact this.elim
  | some u=>rw [s a u e] at q; exact q
theorem bz.val (E:bz T W O H env σ){i:Nat}{d:D}(e:env[i]?=some (.val d)):∃ v, σ[i]?=some (some v)∧Rep T (Cl W O) H d v:=by
 obtain ⟨u,e1,r⟩:=E.slot i _ e
 exact ⟨u,join_some e1,r⟩
theorem bz.own (E:bz T W O H env σ){i:Nat}{ds:List D}(e:env[i]?=some (.own ds)):∃ a xs, σ[i]?=some (some (.ref a))∧O a∧W.H0 a=none∧H a=some (.lst xs)∧az T (Cl W O) H ds xs:=by
 obtain ⟨a,xs,e1,r⟩:=E.slot i _ e
 exact ⟨a,xs,join_some e1,r⟩
theorem bz.red (E:bz T W O H env σ){i:Nat}{ds:List D}(e:env[i]?=some (.red ds)):∃ a xs, σ[i]?=some (some (.ref a))∧H a=some (.lst xs)∧az T (Cl W O) H ds xs:=by
 obtain ⟨a,xs,e1,o,n,r⟩:=E.slot i _ e
 exact ⟨a,xs,join_some e1,E.fr.keep _ _ n o,r⟩
theorem bz.obj (E:bz T W O H env σ){i c:Nat}{ks:List Nat}{ds:List D}(e:env[i]?=some (.obj c ks ds)):∃ a C dx fs, σ[i]?=some (some (.ref a))∧O a∧W.H0 a≠none∧T.cl c=some C∧H a=some (.ins C dx fs)∧fs.map (·.1)=ks.map T.fld∧az T (Cl W O) H ds (fs.map (·.2)):=by
 obtain ⟨a,C,dx,fs,e1,r⟩:=E.slot i _ e
 exact ⟨a,C,dx,fs,join_some e1,r⟩
theorem set_slot {env:aN}{i j:Nat}{s t:Slot}(e:(env.set i s)[j]?=some t):(i=j∧t=s∧i<env.length)∨(i≠j∧env[j]?=some t):=by
 by_cases h:i=j
 ·subst h
  by_cases hl:i<env.length
  ·rw [List.getElem?_set_self hl] at e; cases e; exact .inl ⟨rfl,rfl,hl⟩
  ·rw [List.getElem?_eq_none (by simp; omega)] at e; cases e
 ·rw [List.getElem?_set_ne h] at e; exact .inr ⟨h,e⟩
theorem bz.Hf (E:bz T W O H env σ)(i:Nat){s:Slot}{v:V}(r:jL T W O H s (some v))
  (hj:s.gY=true→∀ (j:Nat) (t:Slot) (a:Addr),i≠j→env[j]?=some t→t.gY=true→v=.ref a→σ[j]?≠some (some (.ref a)))
  (hk:s.gY=true→∀ (j:Nat) (dss:List (List D)) (a:Addr) (bs:List Addr) (b:Addr),env[j]?=some (.lM dss)→σ[j]?=some (some (.ref a))→H a=some (.lst (bs.map V.ref))→b∈bs→v≠.ref b)
  (hn:∀ dss,s≠.lM dss):bz T W O H (env.set i s) (σ.set i (some v)) where
 fr:=E.fr
 new:=E.new
 mu:=E.mu
 slot:=fun j t e=>by
  rcases set_slot e with ⟨rfl,rfl,hl⟩ | ⟨h,e⟩
  ·rw [List.getElem?_set_self (by rw [← E.len]; exact hl)]; exact r
  ·rw [List.getElem?_set_ne h]; exact E.slot j t e
 inj:=fun j k t u a e1 e2 o1 o2 s1 s2=>by
  rcases set_slot e1 with ⟨h1,h2,hl⟩ | ⟨h,q1⟩
  ·subst h1 h2
   rcases set_slot e2 with ⟨h3,h4,_⟩ | ⟨h',q2⟩
   ·exact h3
   ·rw [List.getElem?_set_self (by rw [← E.len]; exact hl)] at s1
    cases s1
    rw [List.getElem?_set_ne h'] at s2
    exact absurd s2 (hj o1 k u a h' q2 o2 rfl)
  ·rw [List.getElem?_set_ne h] at s1
   rcases set_slot e2 with ⟨h3,h4,hl⟩ | ⟨h',q2⟩
   ·subst h3 h4
    rw [List.getElem?_set_self (by rw [← E.len]; exact hl)] at s2
    cases s2
    exact absurd s1 (hj o2 j t a h q1 o1 rfl)
   ·rw [List.getElem?_set_ne h'] at s2
    exact E.inj j k t u a q1 q2 o1 o2 s1 s2
 len:=by simp [E.len]
 nu:=fun j k dss t a bs b e1 e2 q hb e3 o3=>by
  rcases set_slot e1 with ⟨h1,h2,hl⟩ | ⟨h,q1⟩
  ·exact absurd h2.symm (hn dss)
  ·rw [List.getElem?_set_ne h] at e2
   rcases set_slot e3 with ⟨h3,h4,hl⟩ | ⟨h',q2⟩
   ·subst h3 h4
    rw [List.getElem?_set_self (by rw [← E.len]; exact hl)]
    intro z
    exact hk o3 j dss a bs b q1 e2 q hb (Option.some.inj (Option.some.inj z))
   ·rw [List.getElem?_set_ne h']
    exact E.nu j k dss t a bs b q1 e2 q hb q2 o3
theorem bz.set (E:bz T W O H env σ)(i:Nat){d:D}{v:V}(r:Rep T (Cl W O) H d v):bz T W O H (env.set i (.val d)) (σ.set i (some v)) :=
 E.Hf i ⟨v,rfl,r⟩ (fun z=>nomatch z) (fun z=>nomatch z) fun _ z=>nomatch z
theorem bz.claim (E:bz T W O H env σ){a:Addr}(n:H a=none){o:HO}(hm:Mu (some o)):bz T W (fun b=>O b∨b=a) (upd H a o) env σ:=by
 have s:aG H (upd H a o):=bG n o
 have f:Fr O H (fun b=>O b∨b=a) (upd H a o):=⟨fun b u h _=>s b u h,fun b h=>h.elim .inl fun e=>.inr (e ▸ n),fun b h=>s.free h⟩
 refine ⟨E.fr.trans f,E.new,fun b z=>?_,fun i t e=>(E.slot i t e).kp (E.kp f) (fun _ z=>.inl z) (fun b hs ev=>?_) (fun dss c bs b et ev q hb=>?_),E.inj,E.len,(E.mono s).nu⟩
 ·rcases z with z | rfl
  ·exact (E.mono s).mu b z
  ·rw [bu]; exact hm
 ·obtain ⟨c,eb,o⟩:=(E.slot i t e).ji hs
  rw [ev] at eb; cases eb
  have hb:b≠a:=fun z=>by subst z; have:=E.mu b o; rw [n] at this; exact this
  exact aC hb
 ·subst et
  obtain ⟨_,_,ys,z⟩:=(E.slot i _ e).inner ev q hb
  exact aC fun w=>by rw [w,n] at z; cases z
theorem bz.upd (E:bz T W O H env σ){i:Nat}{s t:Slot}{a:Addr}{o:HO}(e:env[i]?=some s)(hs:s.gY=true)(ev:σ[i]?=some (some (.ref a)))(hm:Mu (some o))(r:jL T W O (L2.upd H a o) t (some (.ref a)))(hn:∀ dss,t≠.lM dss:=by exact fun _ z=>nomatch z) :
  bz T W O (L2.upd H a o) (env.set i t) σ∧Fr O H O (L2.upd H a o):=by
 have oa:O a:=by
  obtain ⟨b,eb,o⟩:=(E.slot i s e).ji hs
  rw [ev] at eb; cases eb; exact o
 have f:Fr O H O (L2.upd H a o):=⟨fun b u h n=>by rw [aC (by rintro rfl; exact n oa)]; exact h,fun b h=>.inl h,fun b h=>by
  by_cases z:b=a
  ·subst z; rw [bu] at h; cases h
  ·rw [aC z] at h; exact h⟩
 refine ⟨⟨E.fr.trans f,E.new,fun b z=>?_,fun j u e'=>?_,fun j k t' u b e1 e2 o1 o2 s1 s2=>?_,by simp [E.len],fun j k dss u c bs b e1 e2 q hb e3 o3=>?_⟩,f⟩
 ·by_cases h:b=a
  ·subst h; rw [bu]; exact hm
  ·rw [aC h]; exact E.mu b z
 ·rcases set_slot e' with ⟨rfl,rfl,hl⟩ | ⟨h,e'⟩
  ·rw [ev]; exact r
  ·refine (E.slot j u e').kp (E.kp f) (fun _ z=>z) (fun b hs' ev'=>?_) fun dss c bs b eu ev' q hb=>?_
   ·have hb:b≠a:=fun z=>by subst z; exact h (E.inj i j s u b e e' hs hs' ev (join_some ev'))
    exact aC hb
   ·subst eu
    exact aC fun w=>E.nu j i dss s c bs b e' (join_some ev') q hb e hs (w ▸ ev)
 ·have old:∀ {j:Nat} {u:Slot},(env.set i t)[j]?=some u→u.gY=true→∃ u',env[j]?=some u'∧u'.gY=true:=fun {j u} e' o'=>by
   rcases set_slot e' with ⟨rfl,rfl,hl⟩ | ⟨h,e'⟩
   ·exact ⟨s,e,hs⟩
   ·exact ⟨u,e',o'⟩
  obtain ⟨t1,h1,h2⟩:=old e1 o1
  obtain ⟨t2,h3,h4⟩:=old e2 o2
  exact E.inj j k t1 t2 b h1 h3 h2 h4 s1 s2
 ·rcases set_slot e1 with ⟨h1,h2,hl⟩ | ⟨h,q1⟩
  ·exact absurd h2.symm (hn dss)
  ·have hca:c≠a:=fun w=>by subst w; exact h (E.inj i j s _ c e q1 hs rfl ev e2)
   rw [aC hca] at q
   rcases set_slot e3 with ⟨rfl,rfl,hl⟩ | ⟨h',q2⟩
   ·exact E.nu j i dss s c bs b q1 e2 q hb e hs
   ·exact E.nu j k dss u c bs b q1 e2 q hb q2 o3
end
end DL
end
section
namespace DL
open PySem L2
abbrev FP (α:Type):=aN→Option α
abbrev FE:=FP D
abbrev RK (α γ:Type):=(Addr→Prop)→Hp→Hp→α→γ→Prop
class Kd {α γ:Type} (ρ:RK α γ):Prop where
 st:∀ A H0 H H' x v,aG H H'→ρ A H0 H x v→ρ A H0 H' x v
 an:∀ A H0 H1 H x v,aG H0 H1→ρ A H1 H x v→ρ A H0 H x v
def kD (T:Tx):RK D V:=fun A _ H d v=>Rep T A H d v
def aA (T:Tx)(A:Addr→Prop)(H:Hp)(d:D)(v:V):Prop:=match d with
 | .lst ds=>∃ a xs,v=.ref a∧SqL T.K H a xs∧az T A H ds xs
 | d=>Rep T A H d v
def kR (T:Tx):RK D V:=fun A _ H d v=>aA T A H d v
def kF (T:Tx):RK (List D) V:=fun A H0 H ds v=>∃ a xs,v=.ref a∧H0 a=none∧H a=some (.lst xs)∧az T (fun b=>A b∧b≠a) H ds xs
def kB:RK Bool Bool:=fun _ _ _ b c=>b=c
def kO:RK (Option Int) (Option Int):=fun _ _ _ b c=>b=c
def kA (T:Tx):RK (List D) (List V):=fun A _ H ds vs=>az T A H ds vs
section
variable {T:Tx}{A:Addr→Prop}{H H':Hp}
theorem aA.of {d:D}{v:V}(h:Rep T A H d v):aA T A H d v:=by
 cases d with
 | lst ds=>obtain ⟨a,xs,e,q,r⟩:=h.fz; exact ⟨a,xs,e,q.sq,r⟩
 | _=>exact h
theorem SqT.mono {K:PySem.W.Frag}(s:aG H H'){a:Addr}{xs:List V}(h:SqT K H a xs):SqT K H' a xs:=by
 rcases h with (h | ⟨o,h⟩) | h
 ·exact .inl (.inl (s _ _ h))
 ·exact .inl (.inr ⟨o,s _ _ h⟩)
 ·exact .inr h
theorem aA.mono (s:aG H H'){d:D}{v:V}(h:aA T A H d v):aA T A H' d v:=by
 cases d with
 | lst ds=>obtain ⟨a,xs,e,q,r⟩:=h; exact ⟨a,xs,e,s.seq q,r.mono s fun _ z=>z⟩
 | _=>exact Rep.mono s (fun _ z=>z) h
theorem aA.fz {ds:List D}{v:V}(h:aA T A H (.lst ds) v):∃ a xs,v=.ref a∧SqL T.K H a xs∧az T A H ds xs:=h
theorem aA.gu {ds:List D}{v:V}(h:aA T A H (.tup ds) v):∃ a xs,v=.ref a∧SqT T.K H a xs∧az T A H ds xs:=Rep.gu (show Rep T A H (.tup ds) v from h)
theorem aA.dA {i:Int}{v:V}(h:aA T A H (.int i) v):v=.int i:=Rep.dA (show Rep T A H (.int i) v from h)
theorem aA.hX {i:List Nat}{v:V}(h:aA T A H (.str i) v):v=.str (mkS i):=Rep.hX (show Rep T A H (.str i) v from h)
theorem aA.bl_ {i:Bool}{v:V}(h:aA T A H (.bl i) v):v=.bl i:=Rep.bl_ (show Rep T A H (.bl i) v from h)
theorem aA.mw {v:V}(h:aA T A H .non v):v=.non:=Rep.mw (show Rep T A H .non v from h)
instance:Kd (kD T):=⟨fun _ _ _ _ _ _ s h=>Rep.mono s (fun _ z=>z) h,fun _ _ _ _ _ _ _ h=>h⟩
instance:Kd (kR T):=⟨fun _ _ _ _ _ _ s h=>aA.mono s h,fun _ _ _ _ _ _ _ h=>h⟩
instance:Kd (kA T):=⟨fun _ _ _ _ _ _ s h=>az.mono s (fun _ z=>z) h,fun _ _ _ _ _ _ _ h=>h⟩
instance:Kd kB:=⟨fun _ _ _ _ _ _ _ h=>h,fun _ _ _ _ _ _ _ h=>h⟩
instance:Kd kO:=⟨fun _ _ _ _ _ _ _ h=>h,fun _ _ _ _ _ _ _ h=>h⟩
instance:Kd (kF T):=⟨fun _ _ _ _ _ _ s ⟨a,xs,e,n,q,r⟩=>⟨a,xs,e,n,s _ _ q,r.mono s fun _ z=>z⟩,fun _ _ _ _ _ _ s ⟨a,xs,e,n,q,r⟩=>⟨a,xs,e,s.free n,q,r⟩⟩
end
def tP {α γ:Type}(T:Tx)(ρ:RK α γ)(f:FP α):St→Hp→(γ→Hp→Prop)→Prop:=fun σ H Q =>
 ∃ W O env d,bz T W O H env σ∧f env=some d∧∀ v H',aG H H'→ρ (Cl W O) H H' d v→Q v H'
abbrev Nw (A:Addr→Prop)(H:Hp):Prop:=∀ a,H a=none→A a
section
variable {α β δ γ γ2 γ3:Type}{T:Tx}{ρ ρ':RK α γ}{f:FP α}{σ:St}{H:Hp}{Q:γ→Hp→Prop}
theorem B7 (w:∀ A H0 H x v, ρ A H0 H x v→ρ' A H0 H x v)(h:tP T ρ' f σ H Q):tP T ρ f σ H Q:=by
 obtain ⟨W,O,env,d,E,e,q⟩:=h
 exact ⟨W,O,env,d,E,e,fun v H' s r=>q v H' s (w _ _ _ _ _ r)⟩
def fp1 (F:α→Option β)(f:FP α):FP β:=fun env=>(f env).bind F
def fp2 (F:α→β→Option δ)(f:FP α)(g:FP β):FP δ:=fun env=>(f env).bind fun x=>(g env).bind fun y=>F x y
theorem nv {ρ2:RK β γ2}{ρ3:RK δ V}[Kd ρ][Kd ρ2][Kd ρ3]{F:α→β→Option δ}{g:FP β}{Q3:VK}{r:γ→γ2→Hp→VK→Prop}
  (snd:∀ (A:Addr→Prop) (H0 H:Hp) (x:α) (y:β) (v:γ) (u:γ2) (d:δ) (Q:VK),Nw A H→ρ A H0 H x v→ρ2 A H0 H y u→F x y=some d→(∀ w H',aG H H'→ρ3 A H H' d w→Q w H')→r v u H Q)
  (h:tP T ρ3 (fp2 F f g) σ H Q3):tP T ρ f σ H fun v H1=>tP T ρ2 g σ H1 fun u H2=>r v u H2 Q3:=by
 obtain ⟨W,O,env,d,E,e,q⟩:=h
 unfold fp2 at e
 cases e1:f env with
 | none=>rw [e1] at e; cases e
 | some x =>
  rw [e1] at e
  cases e2:g env with
  | none=>rw [e2] at e; cases e
  | some y =>
   rw [e2] at e
   refine ⟨W,O,env,x,E,e1,fun v H1 s1 r1=>⟨W,O,env,y,E.mono s1,e2,fun u H2 s2 r2=>?_⟩⟩
   have s:=s1.trans s2
   exact snd (Cl W O) H H2 x y v u d Q3 (fun a n=>(E.mono s).lN n) (Kd.st _ _ _ _ _ _ s2 r1) (Kd.an _ _ _ _ _ _ s1 r2) e fun w H' s3 r3=>q w H' (s.trans s3) (Kd.an _ _ _ _ _ _ s r3)
theorem sW {ρ3:RK δ γ3}[Kd ρ3]{F:α→Option δ}{Q3:γ3→Hp→Prop}{r:γ→Hp→(γ3→Hp→Prop)→Prop}
  (snd:∀ (A:Addr→Prop) (H0 H:Hp) (x:α) (v:γ) (d:δ) (Q:γ3→Hp→Prop),Nw A H→ρ A H0 H x v→F x=some d→(∀ w H',aG H H'→ρ3 A H H' d w→Q w H')→r v H Q)
  (h:tP T ρ3 (fp1 F f) σ H Q3):tP T ρ f σ H fun v H1=>r v H1 Q3:=by
 obtain ⟨W,O,env,d,E,e,q⟩:=h
 unfold fp1 at e
 cases e1:f env with
 | none=>rw [e1] at e; cases e
 | some x =>
  rw [e1] at e
  refine ⟨W,O,env,x,E,e1,fun v H1 s1 r1=>?_⟩
  exact snd (Cl W O) H H1 x v d Q3 (fun a n=>(E.mono s1).lN n) r1 e fun w H' s3 r3=>q w H' (s1.trans s3) (Kd.an _ _ _ _ _ _ s1 r3)
end
def ab (i:Nat):FE:=fun env=>match env[i]? with
 | some (.val d)=>some d
 | _=>none
def kZ (i:Nat):FE:=fun env=>match env[i]? with
 | some (.val d)=>some d
 | some (.own ds)=>some (.lst ds)
 | some (.red ds)=>some (.lst ds)
 | _=>none
def feC (d:D):FE:=fun _=>some d
section
variable {T:Tx}{f g:FE}{σ:St}{H:Hp}{Q:VK}
theorem B8 {i:Nat}(h:tP T (kD T) (ab i) σ H Q):AF i σ H Q:=by
 obtain ⟨W,O,env,d,E,e,q⟩:=h
 unfold ab at e
 split at e
 ·rename_i d' es
  cases e
  obtain ⟨v,e1,r⟩:=E.val es
  exact ⟨v,e1,q v H (aG.refl _) r⟩
 ·cases e
theorem B9 {i:Nat}(h:tP T (kR T) (kZ i) σ H Q):AF i σ H Q:=by
 obtain ⟨W,O,env,d,E,e,q⟩:=h
 unfold kZ at e
 split at e
 ·rename_i d' es
  cases e
  obtain ⟨v,e1,r⟩:=E.val es
  exact ⟨v,e1,q v H (aG.refl _) (aA.of r)⟩
 ·rename_i ds es
  cases e
  obtain ⟨a,xs,e1,_,_,hl,r⟩:=E.own es
  exact ⟨.ref a,e1,q _ H (aG.refl _) ⟨a,xs,rfl,.inl (.inl hl),r⟩⟩
 ·rename_i ds es
  cases e
  obtain ⟨a,xs,e1,hl,r⟩:=E.red es
  exact ⟨.ref a,e1,q _ H (aG.refl _) ⟨a,xs,rfl,.inl (.inl hl),r⟩⟩
 ·cases e
theorem zb {d:D}{v:V}(hv:∀ A H,Rep T A H d v)(h:tP T (kD T) (feC d) σ H Q):tC v σ H Q:=by
 obtain ⟨W,O,env,d',E,e,q⟩:=h
 cases e
 exact q v H (aG.refl _) (hv _ _)
def cV (f:FP (List D)):FE:=fun env=>(f env).map .lst
theorem Dd {f:FP (List D)}(h:tP T (kD T) (cV f) σ H Q):tP T (kF T) f σ H Q:=by
 obtain ⟨W,O,env,d,E,e,q⟩:=h
 unfold cV at e
 cases e1:f env with
 | none=>rw [e1] at e; cases e
 | some ds =>
  rw [e1] at e
  cases e
  refine ⟨W,O,env,ds,E,e1,fun v H' s ⟨a,xs,ev,n,hl,r⟩=>q v H' s ?_⟩
  subst ev
  exact Rep.lst (.inl ⟨.inl hl,E.lN n⟩) (r.mono (aG.refl _) fun _ z=>z.1)
abbrev FA:=FP (List D)
def ar:FA:=fun _=>some []
def af (f:FE)(g:FA):FA:=fun env=>(f env).bind fun x=>(g env).bind fun r=>some (x::r)
theorem EA {Q:List V→Hp→Prop}(h:tP T (kA T) ar σ H Q):xj σ H Q:=by
 obtain ⟨W,O,env,ds,E,e,q⟩:=h
 cases e
 exact q [] H (aG.refl _) .nil
theorem Ba {g:FA}{Q:List V→Hp→Prop}(h:tP T (kA T) (af f g) σ H Q):qu (tP T (kD T) f) (tP T (kA T) g) σ H Q:=by
 obtain ⟨W,O,env,ds,E,e,q⟩:=h
 unfold af at e
 cases e1:f env with
 | none=>rw [e1] at e; cases e
 | some x =>
  rw [e1] at e
  cases e2:g env with
  | none=>rw [e2] at e; cases e
  | some y =>
   rw [e2] at e
   cases e
   refine ⟨W,O,env,x,E,e1,fun v H1 s1 r1=>⟨W,O,env,y,E.mono s1,e2,fun vs H2 s2 r2=>?_⟩⟩
   exact q (v::vs) H2 (s1.trans s2) (.cons (Rep.mono s2 (fun _ z=>z) r1) r2)
theorem small {n:Nat}(h:n≤1000000):n≤sizeLine:=Nat.le_trans h (by decide)
def cy (f:FA):FE:=fp1 (fun ds=>if ds.length≤1000 then some (.tup ds) else none) f
def en (f:FA):FP (List D):=fp1 (fun ds=>if ds.length≤1000 then some ds else none) f
theorem EB {f:FA}(h:tP T (kD T) (cy f) σ H Q):GQ (tP T (kA T) f) σ H Q :=
 sW (ρ:=kA T) (γ3:=V) (r:=fun xs H1 (Q:VK)=>xs.length≤sizeLine∧∀ p,H1 p=none→Q (.ref p) (upd H1 p (.tup xs))) (fun A H0 H x v d Q nw r e k=>by
  by_cases c:x.length≤1000
  ·rw [if_pos c] at e; cases e
   have r:az T A H x v:=r
   exact ⟨small (by rw [← r.length]; omega),fun p hp=>k _ _ (bG hp _) (Rep.uY r hp)⟩
  ·rw [if_neg c] at e; cases e) h
theorem my {A:Addr→Prop}{ds:List D}{xs:List V}(r:az T A H ds xs){p:Addr}(hp:H p=none):kF T A H (upd H p (.lst xs)) ds (.ref p):=by
 refine ⟨p,xs,rfl,hp,bu,r.kp (Kp.same (bG hp _) fun b o z e=>⟨z,fun w=>?_⟩)⟩
 subst w; rw [hp] at e; cases e
theorem EC {f:FA}(h:tP T (kF T) (en f) σ H Q):GS (tP T (kA T) f) σ H Q :=
 sW (ρ:=kA T) (γ3:=V) (r:=fun xs H1 (Q:VK)=>xs.length≤sizeLine∧∀ p,H1 p=none→Q (.ref p) (upd H1 p (.lst xs))) (fun A H0 H x v d Q nw r e k=>by
  by_cases c:x.length≤1000
  ·rw [if_pos c] at e; cases e
   have r:az T A H x v:=r
   exact ⟨small (by rw [← r.length]; omega),fun p hp=>k _ _ (bG hp _) (my r hp)⟩
  ·rw [if_neg c] at e; cases e) h
end
abbrev FT:=FP Bool
def blD:D→Option Bool
 | .bl b=>some b
 | _=>none
def ftB (f:FE):FT:=fp1 blD f
def o5 (c:FT):FT:=fun env=>(c env).bind fun b=>some (!b)
def jA (c d:FT):FT:=fun env=>(c env).bind fun b=>if b=true then d env else some false
def zc (c d:FT):FT:=fun env=>(c env).bind fun b=>if b=true then some true else d env
def sX (f g:FE):FE:=fun env=>(f env).bind fun x=>(blD x).bind fun b=>if b=true then g env else some (.bl false)
def xv (f g:FE):FE:=fun env=>(f env).bind fun x=>(blD x).bind fun b=>if b=true then some (.bl true) else g env
def sY {α:Type}(c:FT)(f g:FP α):FP α:=fun env=>(c env).bind fun b=>if b=true then f env else g env
theorem o6 {d:D}{b:Bool}(h:blD d=some b):d=.bl b:=by
 cases d with
 | bl c=>cases h; rfl
 | _=>cases h
section
variable {T:Tx}{f g:FE}{c d:FT}{σ:St}{H:Hp}
theorem nP {Q:Bool→Hp→Prop}(h:tP T kB (ftB f) σ H Q):yL (tP T (kD T) f) σ H Q :=
 sW (ρ:=kD T) (r:=fun x H' Q=>∃ k,x=.bl k∧Q k H') (fun A H0 H x v d Q nw r e k=>by
  cases o6 e
  exact ⟨d,Rep.bl_ r,k _ H (aG.refl _) rfl⟩) h
theorem Bb {Q:Bool→Hp→Prop}(h:tP T kB (o5 c) σ H Q):GC (tP T kB c) σ H Q:=by
 obtain ⟨W,O,env,b,E,e,q⟩:=h
 unfold o5 at e
 cases e1:c env with
 | none=>rw [e1] at e; cases e
 | some x =>
  rw [e1] at e
  cases e
  exact ⟨W,O,env,x,E,e1,fun v H' s r=>by cases r; exact q _ H' s rfl⟩
theorem Bc {Q:Bool→Hp→Prop}(h:tP T kB (jA c d) σ H Q):GB (tP T kB c) (tP T kB d) σ H Q:=by
 obtain ⟨W,O,env,b,E,e,q⟩:=h
 unfold jA at e
 cases e1:c env with
 | none=>rw [e1] at e; cases e
 | some x =>
  rw [e1] at e
  refine ⟨W,O,env,x,E,e1,fun v H' s r=>?_⟩
  cases r
  cases x with
  | true=>exact ⟨W,O,env,b,E.mono s,e,fun v2 H2 s2 r2=>q v2 H2 (s.trans s2) r2⟩
  | false=>cases e; exact q _ H' s rfl
theorem ED {Q:Bool→Hp→Prop}(h:tP T kB (zc c d) σ H Q):tOr (tP T kB c) (tP T kB d) σ H Q:=by
 obtain ⟨W,O,env,b,E,e,q⟩:=h
 unfold zc at e
 cases e1:c env with
 | none=>rw [e1] at e; cases e
 | some x =>
  rw [e1] at e
  refine ⟨W,O,env,x,E,e1,fun v H' s r=>?_⟩
  cases r
  cases x with
  | false=>exact ⟨W,O,env,b,E.mono s,e,fun v2 H2 s2 r2=>q v2 H2 (s.trans s2) r2⟩
  | true=>cases e; exact q _ H' s rfl
theorem EE {Q:VK}(h:tP T (kD T) (sX f g) σ H Q):D4 (tP T (kD T) f) (tP T (kD T) g) σ H Q:=by
 obtain ⟨W,O,env,d,E,e,q⟩:=h
 unfold sX at e
 cases e1:f env with
 | none=>rw [e1] at e; cases e
 | some x =>
  rw [e1] at e
  dsimp only [Option.bind_some] at e
  cases e2:blD x with
  | none=>rw [e2] at e; cases e
  | some b =>
   rw [e2] at e
   cases o6 e2
   refine ⟨W,O,env,_,E,e1,fun v H' s r=>⟨b,Rep.bl_ r, ?_⟩⟩
   cases b with
   | true=>exact ⟨W,O,env,d,E.mono s,e,fun v2 H2 s2 r2=>q v2 H2 (s.trans s2) r2⟩
   | false=>cases e; exact q _ H' s (Rep.bl _)
theorem Hg {Q:VK}(h:tP T (kD T) (xv f g) σ H Q):GD (tP T (kD T) f) (tP T (kD T) g) σ H Q:=by
 obtain ⟨W,O,env,d,E,e,q⟩:=h
 unfold xv at e
 cases e1:f env with
 | none=>rw [e1] at e; cases e
 | some x =>
  rw [e1] at e
  dsimp only [Option.bind_some] at e
  cases e2:blD x with
  | none=>rw [e2] at e; cases e
  | some b =>
   rw [e2] at e
   cases o6 e2
   refine ⟨W,O,env,_,E,e1,fun v H' s r=>⟨b,Rep.bl_ r, ?_⟩⟩
   cases b with
   | false=>exact ⟨W,O,env,d,E.mono s,e,fun v2 H2 s2 r2=>q v2 H2 (s.trans s2) r2⟩
   | true=>cases e; exact q _ H' s (Rep.bl _)
theorem Hh {α:Type}{ρ:RK α V}[Kd ρ]{f g:FP α}{Q:VK}(h:tP T ρ (sY c f g) σ H Q):tIf (tP T kB c) (tP T ρ f) (tP T ρ g) σ H Q:=by
 obtain ⟨W,O,env,d,E,e,q⟩:=h
 unfold sY at e
 cases e1:c env with
 | none=>rw [e1] at e; cases e
 | some b =>
  rw [e1] at e
  refine ⟨W,O,env,b,E,e1,fun v H' s r=>?_⟩
  cases r
  have q' : ∀ v2 H2,aG H' H2→ρ (Cl W O) H' H2 d v2→Q v2 H2:=fun v2 H2 s2 r2=>q v2 H2 (s.trans s2) (Kd.an _ _ _ _ _ _ s r2)
  cases b with
  | true=>exact ⟨W,O,env,d,E.mono s,e,q'⟩
  | false=>exact ⟨W,O,env,d,E.mono s,e,q'⟩
end
end DL
end
section
namespace DL
open PySem L2
section
variable {T:Tx}
def Df (K:PySem.W.Frag):R2:=fun x y H Q=>∃ l b xs zs,x=.ref l∧y=.ref b∧SqL K H l xs∧SqL K H b zs∧xs.length+zs.length≤sizeLine∧∀ p,H p=none→Q (.ref p) (upd H p (.lst (xs++zs)))
def Hi:R2:=fun x y H Q=>∃ i j,x=.str i∧y=.str j∧i.length+j.length≤sizeLine∧Q (.str (i++j)) H
def zd (K:PySem.W.Frag):R2:=fun x y H Q=>rI0 (fun i j=>.int (i+j)) x y H Q∨Hi x y H Q∨Df K x y H Q∨yX K x y H Q
def cz:D→D→Option D
 | .int i,.int j=>some (.int (i+j))
 | .str a,.str b=>if a.length+b.length≤1000000 then some (.str (a++b)) else none
 | .lst xs,.lst ys=>if xs.length+ys.length≤1000000 then some (.lst (xs++ys)) else none
 | .tup (x::xs),.tup ys=>if (x::xs).length+ys.length≤1000000 then some (.tup ((x::xs)++ys)) else none
 | _,_=>none
def v5:D→D→Option (List D)
 | .lst xs,.lst ys=>if xs.length+ys.length≤1000000 then some (xs++ys) else none
 | _,_=>none
theorem Be (a b:List Nat):mkS (a++b)=mkS a++mkS b:=by
 show (⟨(a++b).toArray⟩:Str)=⟨a.toArray++b.toArray⟩
 simp
theorem Bf (A:Addr→Prop)(H0 H:Hp)(x y:D)(v u:V)(d:D)(Q:VK)(nw:Nw A H)(rx:kR T A H0 H x v)(ry:kR T A H0 H y u)(e:cz x y=some d)
  (k:∀ w H',aG H H'→kD T A H H' d w→Q w H'):zd T.K v u H Q:=by
 unfold cz at e
 split at e
 ·cases e; cases aA.dA rx; cases aA.dA ry
  exact .inl ⟨_,_,rfl,rfl,k _ H (aG.refl _) (Rep.int _)⟩
 ·rename_i i j
  cases aA.hX rx; cases aA.hX ry
  by_cases c:i.length+j.length≤1000000
  ·rw [if_pos c] at e; cases e
   exact .inr (.inl ⟨_,_,rfl,rfl,small (by rw [hV,hV]; exact c),k _ H (aG.refl _) (by rw [← Be]; exact Rep.str _)⟩)
  ·rw [if_neg c] at e; cases e
 ·rename_i xs ys
  by_cases c:xs.length+ys.length≤1000000
  ·rw [if_pos c] at e; cases e
   obtain ⟨l,vs,rfl,hl,rl⟩:=aA.fz rx
   obtain ⟨b,us,rfl,hb,rb⟩:=aA.fz ry
   exact .inr (.inr (.inl ⟨l,b,vs,us,rfl,rfl,hl,hb,small (by rw [← rl.length, ← rb.length]; exact c),fun p hp=>k _ _ (bG hp _) (Rep.He (rl.append rb) hp (nw p hp))⟩))
  ·rw [if_neg c] at e; cases e
 ·rename_i x0 xs ys
  by_cases c:(x0::xs).length+ys.length≤1000000
  ·rw [if_pos c] at e; cases e
   obtain ⟨l,vs,rfl,hl,rl⟩:=aA.gu rx
   obtain ⟨b,us,rfl,hb,rb⟩:=aA.gu ry
   have ne:vs≠[]:=by
    have:=rl.length
    intro z; subst z; simp at this
   refine .inr (.inr (.inr ⟨l,b,vs,us,rfl,rfl,hl,hb,ne,small (by rw [← rl.length, ← rb.length]; exact c),fun e0=>k _ _ (aG.refl _) ?_,fun _ p hp=>k _ _ (bG hp _) (Rep.uY (rl.append rb) hp)⟩))
   subst e0
   exact Rep.tup hl (by simpa using rl.append rb)
  ·rw [if_neg c] at e; cases e
 ·cases e
theorem ze (A:Addr→Prop)(H0 H:Hp)(x y:D)(v u:V)(d:List D)(Q:VK)(nw:Nw A H)(rx:kR T A H0 H x v)(ry:kR T A H0 H y u)(e:v5 x y=some d)
  (k:∀ w H',aG H H'→kF T A H H' d w→Q w H'):zd T.K v u H Q:=by
 unfold v5 at e
 split at e
 ·rename_i xs ys
  by_cases c:xs.length+ys.length≤1000000
  ·rw [if_pos c] at e; cases e
   obtain ⟨l,vs,rfl,hl,rl⟩:=aA.fz rx
   obtain ⟨b,us,rfl,hb,rb⟩:=aA.fz ry
   exact .inr (.inr (.inl ⟨l,b,vs,us,rfl,rfl,hl,hb,small (by rw [← rl.length, ← rb.length]; exact c),fun p hp=>k _ _ (bG hp _) (my (rl.append rb) hp)⟩))
  ·rw [if_neg c] at e; cases e
 ·cases e
def intD (g:Int→Int→Option D):D→D→Option D
 | .int i,.int j=>g i j
 | _,_=>none
def flat:D→Option V
 | .non=>some .non
 | .bl b=>some (.bl b)
 | .int i=>some (.int i)
 | .str x=>some (.str (mkS x))
 | _=>none
theorem o7 {A A':Addr→Prop}{H H':Hp}{d:D}{v w:V}(h:flat d=some v)(r:aA T A H d w):w=v∧kM v=true∧Rep T A' H' d v:=by
 cases d with
 | non=>cases h; exact ⟨aA.mw r,rfl,.non⟩
 | bl b=>cases h; exact ⟨aA.bl_ r,rfl,.bl _⟩
 | int b=>cases h; exact ⟨aA.dA r,rfl,.int _⟩
 | str b=>cases h; exact ⟨aA.hX r,rfl,.str _⟩
 | _=>cases h
theorem Bg {A:Addr→Prop}{H:Hp}{d:D}{v:V}(h:flat d=some v):Rep T A H d v:=by
 cases d with
 | non=>cases h; exact .non
 | bl b=>cases h; exact .bl _
 | int b=>cases h; exact .int _
 | str b=>cases h; exact .str _
 | _=>cases h
theorem nQ {C:Int→Int→Prop}{gv:Int→Int→V}{g:Int→Int→Option D}(hg:∀ i j d,g i j=some d→C i j∧flat d=some (gv i j))
  (A:Addr→Prop) (H0 H:Hp) (x y:D) (v u:V) (d:D) (Q:VK) (nw:Nw A H) (rx:kD T A H0 H x v) (ry:kD T A H0 H y u) (e:intD g x y=some d)
  (k:∀ w H',aG H H'→kD T A H H' d w→Q w H'):rI C gv v u H Q:=by
 unfold intD at e
 split at e
 ·rename_i i j
  cases Rep.dA rx; cases Rep.dA ry
  obtain ⟨h1,h2⟩:=hg i j d e
  exact ⟨i,j,rfl,rfl,h1,k _ H (aG.refl _) (Bg h2)⟩
 ·cases e
theorem jM {gv:Int→Int→V}{g:Int→Int→D}(hg:∀ i j,flat (g i j)=some (gv i j))
  (A:Addr→Prop) (H0 H:Hp) (x y:D) (v u:V) (d:D) (Q:VK) (nw:Nw A H) (rx:kD T A H0 H x v) (ry:kD T A H0 H y u) (e:intD (fun i j=>some (g i j)) x y=some d)
  (k:∀ w H',aG H H'→kD T A H H' d w→Q w H'):rI0 gv v u H Q:=by
 obtain ⟨i,j,h1,h2,_,h3⟩:=nQ (T:=T) (C:=fun _ _=>True) (gv:=gv) (g:=fun i j=>some (g i j)) (fun i j d e=>by cases e; exact ⟨True.intro,hg i j⟩) A H0 H x y v u d Q nw rx ry e k
 exact ⟨i,j,h1,h2,h3⟩
def ixD:D→D→Option D
 | .lst ds,.int i=>atI ds i
 | .tup ds,.int i=>atI ds i
 | .str z,.int i=>if z.length≤1000000 then (atI z i).map fun c=>.str [c] else none
 | _,_=>none
theorem az.at {A:Addr→Prop}{H:Hp}{ds:List D}{vs:List V}{i:Int}{d:D}(r:az T A H ds vs)(e:atI ds i=some d):∃ v,atI vs i=some v∧Rep T A H d v:=by
 unfold atI at e ⊢
 rw [← r.length]
 cases q:ixN ds.length i with
 | none=>rw [q] at e; cases e
 | some j =>
  rw [q] at e
  exact r.get e
theorem EF (A:Addr→Prop)(H0 H:Hp)(x y:D)(v u:V)(d:D)(Q:VK)(nw:Nw A H)(rx:kR T A H0 H x v)(ry:kD T A H0 H y u)(e:ixD x y=some d)
  (k:∀ w H',aG H H'→kD T A H H' d w→Q w H'):rIx T.K v u H Q:=by
 unfold ixD at e
 split at e
 ·rename_i ds i
  cases Rep.dA ry
  obtain ⟨l,vs,rfl,hl,rl⟩:=aA.fz rx
  obtain ⟨w,e2,r2⟩:=rl.at e
  exact .inl ⟨l,vs,i,w,rfl,rfl,hl,e2,k _ H (aG.refl _) r2⟩
 ·rename_i ds i
  cases Rep.dA ry
  obtain ⟨l,vs,rfl,hl,rl⟩:=aA.gu rx
  obtain ⟨w,e2,r2⟩:=rl.at e
  exact .inr (.inl ⟨l,vs,i,w,rfl,rfl,hl,e2,k _ H (aG.refl _) r2⟩)
 ·rename_i z i
  cases aA.hX rx; cases Rep.dA ry
  by_cases c:z.length≤1000000
  ·rw [if_pos c] at e
   cases e1:atI z i with
   | none=>rw [e1] at e; cases e
   | some d' =>
    rw [e1] at e; cases e
    exact .inr (.inr ⟨_,i,d',rfl,rfl,small (by rw [hV]; exact c),by simpa using e1,k _ H (aG.refl _) (Rep.str [d'])⟩)
  ·rw [if_neg c] at e; cases e
 ·cases e
def lO:List D→Option (List V)
 | []=>some []
 | d::ds=>(flat d).bind fun v=>(lO ds).bind fun r=>some (v::r)
theorem mz {A:Addr→Prop}{H:Hp}:∀ {ds:List D} {vs ws:List V},lO ds=some vs→az T A H ds ws→ws=vs∧vs.all kM=true
 | [],_,_,h,r=>by
  cases h
  exact ⟨r.jh,rfl⟩
 | d::ds,_,_,h,r=>by
  unfold lO at h
  cases e1:flat d with
  | none=>rw [e1] at h; cases h
  | some v =>
   rw [e1] at h
   cases e2:lO ds with
   | none=>rw [e2] at h; cases h
   | some r' =>
    rw [e2] at h; cases h
    obtain ⟨x,t,rfl,h1,h2⟩:=r.dN
    obtain ⟨h3,h4,_⟩:=o7 (A':=A) (H':=H) e1 (aA.of h1)
    obtain ⟨h5,h6⟩:=mz e2 h2
    subst h3 h5
    exact ⟨rfl,by rw [List.all_cons,h4,h6]; rfl⟩
def zg:D→D→Bool
 | .non,.non=>true
 | .bl a,.bl b=>a == b
 | .bl a,.int b=>(if a then 1 else 0) == b
 | .int a,.bl b=>a == (if b then 1 else 0)
 | .int a,.int b=>a == b
 | .str a,.str b=>a == b
 | _,_=>false
theorem zh {x y:D}{v u:V}(h1:flat x=some v)(h2:flat y=some u):zg x y=eqV v u:=by
 have hs:∀ a b:List Nat,(a == b)=(mkS a == mkS b):=fun a b=>by
  by_cases h:a=b
  ·subst h; simp
  ·rw [beq_eq_false_iff_ne.mpr h,beq_eq_false_iff_ne.mpr fun e=>h (lL e)]
 cases x <;> cases h1 <;> cases y <;> cases h2 <;> first | rfl | exact hs _ _
def o8 (x:D)(ds:List D):Bool:=ds.any fun y=>zg y x
theorem o9 {x:D}{v:V}(h1:flat x=some v):∀ {ds:List D} {vs:List V},lO ds=some vs→o8 x ds=inV v vs
 | [],_,h=>by cases h; rfl
 | d::ds,_,h=>by
  unfold lO at h
  cases e1:flat d with
  | none=>rw [e1] at h; cases h
  | some w =>
   rw [e1] at h
   cases e2:lO ds with
   | none=>rw [e2] at h; cases h
   | some r' =>
    rw [e2] at h; cases h
    have ih:=o9 h1 e2
    unfold o8 inV at ih ⊢
    rw [List.any_cons,List.any_cons,zh e1 h1,ih]
def fu (d:D):Bool:=(flat d).isSome
theorem jN {d:D}(h:fu d=true):∃ v,flat d=some v:=Option.isSome_iff_exists.mp h
theorem l0:∀ {ds:List D},ds.all fu=true→∃ vs,lO ds=some vs
 | [],_=>⟨[],rfl⟩
 | d::ds,h=>by
  rw [List.all_cons,Bool.and_eq_true] at h
  obtain ⟨v,e⟩:=jN h.1
  obtain ⟨vs,e2⟩:=l0 h.2
  exact ⟨v::vs,by unfold lO; rw [e,e2]; rfl⟩
def Hj (K:PySem.W.Frag)(neg:Bool):R2:=fun x y H Q=>(∃ (c:Nat) (j:List Nat),x=.str (mkS [c])∧y=.str (mkS j)∧Q (.bl (if neg then !(j.contains c) else j.contains c)) H)∨rIn K neg x y H Q
def inD (neg:Bool):D→D→Option D
 | .str [c],.str j=>some (.bl (if neg then !(j.contains c) else j.contains c))
 | x,.tup ds=>if fu x && ds.all fu then some (.bl (if neg then !o8 x ds else o8 x ds)) else none
 | x,.lst ds=>if fu x && ds.all fu then some (.bl (if neg then !o8 x ds else o8 x ds)) else none
 | _,_=>none
theorem EG (neg:Bool)(A:Addr→Prop)(H0 H:Hp)(x y:D)(v u:V)(d:D)(Q:VK)(nw:Nw A H)(rx:kD T A H0 H x v)(ry:kR T A H0 H y u)(e:inD neg x y=some d)
  (k:∀ w H',aG H H'→kD T A H H' d w→Q w H'):Hj T.K neg v u H Q:=by
 unfold inD at e
 split at e
 ·rename_i c j
  cases Rep.hX rx; cases aA.hX ry; cases e
  exact .inl ⟨c,j,rfl,rfl,k _ H (aG.refl _) (Rep.bl _)⟩
 ·rename_i ds
  by_cases c:(fu x && ds.all fu)=true
  ·rw [if_pos c] at e; cases e
   rw [Bool.and_eq_true] at c
   obtain ⟨w,e1⟩:=jN c.1
   obtain ⟨ws,e2⟩:=l0 c.2
   obtain ⟨l,vs,rfl,hl,rl⟩:=aA.gu ry
   obtain ⟨h3,h4,_⟩:=o7 (A':=A) (H':=H) e1 (aA.of rx)
   obtain ⟨h5,h6⟩:=mz e2 rl
   subst h3 h5
   rw [o9 e1 e2] at k
   exact .inr ⟨l,vs,rfl,.inr hl,h4,h6,k _ H (aG.refl _) (Rep.bl _)⟩
  ·rw [if_neg c] at e; cases e
 ·rename_i ds
  by_cases c:(fu x && ds.all fu)=true
  ·rw [if_pos c] at e; cases e
   rw [Bool.and_eq_true] at c
   obtain ⟨w,e1⟩:=jN c.1
   obtain ⟨ws,e2⟩:=l0 c.2
   obtain ⟨l,vs,rfl,hl,rl⟩:=aA.fz ry
   obtain ⟨h3,h4,_⟩:=o7 (A':=A) (H':=H) e1 (aA.of rx)
   obtain ⟨h5,h6⟩:=mz e2 rl
   subst h3 h5
   rw [o9 e1 e2] at k
   exact .inr ⟨l,vs,rfl,.inl hl,h4,h6,k _ H (aG.refl _) (Rep.bl _)⟩
  ·rw [if_neg c] at e; cases e
 ·cases e
def kRA (T:Tx):RK (List D) (List V):=fun A _ H ds vs=>match ds with
 | [d]=>∃ v,vs=[v]∧aA T A H d v
 | ds=>az T A H ds vs
instance:Kd (kRA T):=⟨fun A _ H H' ds vs s h=>by
  unfold kRA at h ⊢
  split at h
  ·obtain ⟨v,e,r⟩:=h; exact ⟨v,e,aA.mono s r⟩
  ·exact az.mono s (fun _ z=>z) h,fun _ _ _ _ _ _ _ h=>h⟩
def gI:D→Option D
 | .lst ds=>some (.int ds.length)
 | .tup ds=>some (.int ds.length)
 | .str z=>if z.length≤1000000 then some (.int z.length) else none
 | _=>none
def faR (f:FE):FA:=fun env=>(f env).map fun d=>[d]
theorem EH {f:FE}{σ:St}{H:Hp}{Q:List V→Hp→Prop}(h:tP T (kRA T) (faR f) σ H Q):qu (tP T (kR T) f) xj σ H Q:=by
 obtain ⟨W,O,env,ds,E,e,q⟩:=h
 unfold faR at e
 cases e1:f env with
 | none=>rw [e1] at e; cases e
 | some x =>
  rw [e1] at e; cases e
  exact ⟨W,O,env,x,E,e1,fun v H1 s1 r1=>q [v] H1 s1 ⟨v,rfl,r1⟩⟩
def of1 {α:Type}(F:D→Option α):List D→Option α
 | [d]=>F d
 | _=>none
theorem Bh {α:Type}{ρ3:RK α V}{F:D→Option α}{r:List V→Hp→VK→Prop}
  (snd:∀ (A:Addr→Prop) (H0 H:Hp) (x:D) (v:V) (d:α) (Q:VK),Nw A H→kR T A H0 H x v→F x=some d→(∀ w H',aG H H'→ρ3 A H H' d w→Q w H')→r [v] H Q)
  (A:Addr→Prop) (H0 H:Hp) (ds:List D) (vs:List V) (d:α) (Q:VK) (nw:Nw A H) (rr:kRA T A H0 H ds vs) (e:of1 F ds=some d) (k:∀ w H',aG H H'→ρ3 A H H' d w→Q w H'):r vs H Q:=by
 unfold of1 at e
 split at e
 ·obtain ⟨v,rfl,h⟩:=rr
  exact snd A H0 H _ v d Q nw h e k
 ·cases e
def Jl (K:PySem.W.Frag):List V→Hp→VK→Prop:=fun xs H Q=>∃ x n,xs=[x]∧GO K x H n∧Q (.int n) H
theorem Bi (A:Addr→Prop)(H0 H:Hp)(x:D)(v:V)(d:D)(Q:VK)(nw:Nw A H)(r:kR T A H0 H x v)(e:gI x=some d)(k:∀ w H',aG H H'→kD T A H H' d w→Q w H'):Jl T.K [v] H Q:=by
 unfold gI at e
 split at e
 ·cases e
  obtain ⟨l,xs,rfl,hl,rl⟩:=aA.fz r
  exact ⟨_,xs.length,rfl,.inl ⟨xs,hl,rfl⟩,k _ H (aG.refl _) (by rw [rl.length]; exact Rep.int _)⟩
 ·cases e
  obtain ⟨l,xs,rfl,hl,rl⟩:=aA.gu r
  exact ⟨_,xs.length,rfl,.inr ⟨xs,hl,rfl⟩,k _ H (aG.refl _) (by rw [rl.length]; exact Rep.int _)⟩
 ·rename_i z
  by_cases c:z.length≤1000000
  ·rw [if_pos c] at e; cases e
   cases aA.hX r
   exact ⟨_,z.length,rfl,⟨small (by rw [hV]; exact c),(hV z).symm⟩,k _ H (aG.refl _) (Rep.int _)⟩
  ·rw [if_neg c] at e; cases e
 ·cases e
def Jm (K:PySem.W.Frag):List V→Hp→VK→Prop:=fun xs H Q=>∃ p ys,xs=[.ref p]∧(SqL K H p ys∨SqT K H p ys)∧∀ l,H l=none→Q (.ref l) (upd H l (.lst ys))
def Jn (K:PySem.W.Frag):List V→Hp→VK→Prop:=fun xs H Q=>∃ p ys,xs=[.ref p]∧((SqL K H p ys∧∀ l,H l=none→Q (.ref l) (upd H l (.tup ys)))∨(SqT K H p ys∧Q (.ref p) H))
def kI:D→Option (List D)
 | .lst ds=>some ds
 | .tup ds=>some ds
 | _=>none
def v7:D→Option D
 | .lst ds=>some (.tup ds)
 | .tup ds=>some (.tup ds)
 | _=>none
theorem Bj (A:Addr→Prop)(H0 H:Hp)(x:D)(v:V)(d:List D)(Q:VK)(nw:Nw A H)(r:kR T A H0 H x v)(e:kI x=some d)(k:∀ w H',aG H H'→kF T A H H' d w→Q w H'):Jm T.K [v] H Q:=by
 unfold kI at e
 split at e
 ·cases e
  obtain ⟨l,xs,rfl,hl,rl⟩:=aA.fz r
  exact ⟨l,xs,rfl,.inl hl,fun p hp=>k _ _ (bG hp _) (my rl hp)⟩
 ·cases e
  obtain ⟨l,xs,rfl,hl,rl⟩:=aA.gu r
  exact ⟨l,xs,rfl,.inr hl,fun p hp=>k _ _ (bG hp _) (my rl hp)⟩
 ·cases e
theorem Bk (A:Addr→Prop)(H0 H:Hp)(x:D)(v:V)(d:D)(Q:VK)(nw:Nw A H)(r:kR T A H0 H x v)(e:v7 x=some d)(k:∀ w H',aG H H'→kD T A H H' d w→Q w H'):Jn T.K [v] H Q:=by
 unfold v7 at e
 split at e
 ·cases e
  obtain ⟨l,xs,rfl,hl,rl⟩:=aA.fz r
  exact ⟨l,xs,rfl,.inl ⟨hl,fun p hp=>k _ _ (bG hp _) (Rep.uY rl hp)⟩⟩
 ·cases e
  obtain ⟨l,xs,rfl,hl,rl⟩:=aA.gu r
  exact ⟨l,xs,rfl,.inr ⟨hl,k _ _ (aG.refl _) (Rep.tup hl rl)⟩⟩
 ·cases e
def cutD {α:Type}(xs:List α)(lo hi:Option Int):List α:=(xs.drop (HT.sIx xs.length 0 lo)).take (HT.sIx xs.length xs.length hi - HT.sIx xs.length 0 lo)
abbrev FO:=FP (Option Int)
def EI:D→Option (Option Int)
 | .int i=>some (some i)
 | _=>none
def iY:FO:=fun _=>some none
def gb (f:FE):FO:=fp1 EI f
def slD (x:D)(lo hi:Option Int):Option D:=match x with
 | .lst ds=>some (.lst (cutD ds lo hi))
 | .tup ds=>if HT.sIx ds.length 0 lo=0∧HT.sIx ds.length ds.length hi=ds.length then none else some (.tup (cutD ds lo hi))
 | .str z=>if z.length≤1000000 then some (.str (cutD z lo hi)) else none
 | _=>none
def mB {α:Type}(F:D→Option Int→Option Int→Option α)(f:FE)(l h:FO):FP α:=fun env=>(f env).bind fun x=>(l env).bind fun lo=>(h env).bind fun hi=>F x lo hi
def Hk:V→Option Int→Option Int→Hp→VK→Prop:=fun x lo hi H Q=>∃ z:List Nat,x=.str (mkS z)∧z.length≤1000000∧Q (.str (mkS (cutD z lo hi))) H
def Hl (K:PySem.W.Frag):V→Option Int→Option Int→Hp→VK→Prop:=fun x lo hi H Q=>Ha K x lo hi H Q∨GW K x lo hi H Q∨Hk x lo hi H Q
variable {σ:St}{H:Hp}{f:FE}
theorem zi {Q:Option Int→Hp→Prop}(h:tP T kO iY σ H Q):vR σ H Q:=by
 obtain ⟨W,O,env,i,E,e,q⟩:=h
 cases e
 exact q none H (aG.refl _) rfl
theorem zj {Q:Option Int→Hp→Prop}(h:tP T kO (gb f) σ H Q):D9 (tP T (kD T) f) σ H Q :=
 sW (ρ:=kD T) (ρ3:=kO) (r:=fun x H1 Q=>∃ i,x=.int i∧Q (some i) H1) (fun A H0 H x v d Q nw r e k=>by
  cases x with
  | int j=>cases e; exact ⟨j,Rep.dA r,k _ H (aG.refl _) rfl⟩
  | _=>cases e) h
theorem az.cut {A:Addr→Prop}{ds:List D}{vs:List V}(lo hi:Option Int)(r:az T A H ds vs):az T A H (cutD ds lo hi) (sS vs lo hi):=by
 unfold cutD sS
 rw [← r.length]
 exact (r.drop _).take _
theorem EJ {α:Type}{ρ3:RK α V}[Kd ρ3]{F:D→Option Int→Option Int→Option α}{l h:FO}{Q:VK}{r:V→Option Int→Option Int→Hp→VK→Prop}
  (snd:∀ (A:Addr→Prop) (H0 H:Hp) (x:D) (v:V) (lo hi:Option Int) (d:α) (Q:VK),Nw A H→kR T A H0 H x v→F x lo hi=some d→(∀ w H',aG H H'→ρ3 A H H' d w→Q w H')→r v lo hi H Q)
  (hh:tP T ρ3 (mB F f l h) σ H Q):tSl r (tP T (kR T) f) (tP T kO l) (tP T kO h) σ H Q:=by
 obtain ⟨W,O,env,d,E,e,q⟩:=hh
 unfold mB at e
 cases e1:f env with
 | none=>rw [e1] at e; cases e
 | some x =>
  rw [e1] at e
  dsimp only [Option.bind_some] at e
  cases e2:l env with
  | none=>rw [e2] at e; cases e
  | some lo =>
   rw [e2] at e
   dsimp only [Option.bind_some] at e
   cases e3:h env with
   | none=>rw [e3] at e; cases e
   | some hi =>
    rw [e3] at e
    dsimp only [Option.bind_some] at e
    refine ⟨W,O,env,x,E,e1,fun v H1 s1 r1=>⟨W,O,env,lo,E.mono s1,e2,fun lo' H2 s2 c2=>⟨W,O,env,hi,E.mono (s1.trans s2),e3,fun hi' H3 s3 c3=>?_⟩⟩⟩
    cases c2; cases c3
    have s:=s1.trans (s2.trans s3)
    exact snd (Cl W O) H H3 x v lo hi d Q (fun a n=>(E.mono s).lN n) (aA.mono (s2.trans s3) r1) e fun w H' s4 r4=>q w H' (s.trans s4) (Kd.an _ _ _ _ _ _ s r4)
theorem EK (A:Addr→Prop)(H0 H:Hp)(x:D)(v:V)(lo hi:Option Int)(d:D)(Q:VK)(nw:Nw A H)(r:kR T A H0 H x v)(e:slD x lo hi=some d)(k:∀ w H',aG H H'→kD T A H H' d w→Q w H'):Hl T.K v lo hi H Q:=by
 unfold slD at e
 split at e
 ·cases e
  obtain ⟨a,xs,rfl,hl,rl⟩:=aA.fz r
  exact .inl ⟨a,xs,rfl,hl,fun p hp=>k _ _ (bG hp _) (Rep.He (rl.cut lo hi) hp (nw p hp))⟩
 ·rename_i ds
  by_cases c:HT.sIx ds.length 0 lo=0∧HT.sIx ds.length ds.length hi=ds.length
  ·rw [if_pos c] at e; cases e
  ·rw [if_neg c] at e; cases e
   obtain ⟨a,xs,rfl,hl,rl⟩:=aA.gu r
   exact .inr (.inl ⟨a,xs,rfl,hl,by rw [← rl.length]; exact c,fun p hp=>k _ _ (bG hp _) (Rep.uY (rl.cut lo hi) hp)⟩)
 ·rename_i z
  by_cases c:z.length≤1000000
  ·rw [if_pos c] at e; cases e
   exact .inr (.inr ⟨z,aA.hX r,c,k _ H (aG.refl _) (Rep.str _)⟩)
  ·rw [if_neg c] at e; cases e
 ·cases e
end
end DL
end
section
namespace DL
open PySem L2
inductive DFl where
 | nx (env:aN)
 | bk (env:aN)
 | ct (env:aN)
 | rt (d:D) (env:aN)
 | rf (ds:List D) (env:aN)
 | ex (c:Nat) (env:aN)
abbrev FS:=aN→Option DFl
abbrev XQ:=Nat→St→Hp→Prop
def jO (T:Tx)(X:XQ)(W:Wf)(O:Addr→Prop)(H:Hp)(De:Ends):DFl→Prop
 | .nx env'=>∀ σ' H' O',bz T W O' H' env' σ'→Fr O H O' H'→De.nx σ' H'
 | .bk env'=>∀ σ' H' O',bz T W O' H' env' σ'→Fr O H O' H'→De.bk σ' H'
 | .ct env'=>∀ σ' H' O',bz T W O' H' env' σ'→Fr O H O' H'→De.ct σ' H'
 | .rt d env'=>∀ v σ' H' O',bz T W O' H' env' σ'→Fr O H O' H'→Rep T (Cl W O') H' d v→De.rt v H'
 | .rf ds env'=>∀ a xs σ' H' O',bz T W O' H' env' σ'→Fr O H O' H'→W.H0 a=none→H' a=some (.lst xs)→az T (fun b=>W.A b∧b≠a) H' ds xs→De.rt (.ref a) H'
 | .ex c env'=>∀ σ' H' O',bz T W O' H' env' σ'→Fr O H O' H'→X c σ' H'
def tDs (T:Tx)(X:XQ)(F:FS):TS:=fun De σ H=>∃ W O env fl,bz T W O H env σ∧F env=some fl∧jO T X W O H De fl
theorem jO.fr {T:Tx}{X:XQ}{W:Wf}{H H1:Hp}{O O1:Addr→Prop}{De:Ends}(f:Fr O H O1 H1):∀ {fl:DFl},jO T X W O H De fl→jO T X W O1 H1 De fl
 | .nx _,h=>fun σ' H' O' E g=>h σ' H' O' E (f.trans g)
 | .bk _,h=>fun σ' H' O' E g=>h σ' H' O' E (f.trans g)
 | .ct _,h=>fun σ' H' O' E g=>h σ' H' O' E (f.trans g)
 | .rt _ _,h=>fun v σ' H' O' E g r=>h v σ' H' O' E (f.trans g) r
 | .rf _ _,h=>fun a xs σ' H' O' E g n e r=>h a xs σ' H' O' E (f.trans g) n e r
 | .ex _ _,h=>fun σ' H' O' E g=>h σ' H' O' E (f.trans g)
def aw (F G:FS):FS:=fun env=>(F env).bind fun r=>match r with
 | .nx env'=>G env'
 | r=>some r
def aU:FS:=fun env=>some (.nx env)
def cW (c:FT)(F G:FS):FS:=fun env=>(c env).bind fun b=>if b=true then F env else G env
def aW (f:FE):FS:=fun env=>(f env).map fun d=>.rt d env
def eE (f:FP (List D)):FS:=fun env=>(f env).map fun ds=>.rf ds env
def gR (i:Nat):FS:=fun env=>match env[i]? with
 | some (.own ds)=>some (.rf ds env)
 | _=>none
def aY (i:Nat)(f:FE):FS:=fun env=>(f env).map fun d=>.nx (env.set i (.val d))
def jB (i:Nat)(f:FP (List D)):FS:=fun env=>(f env).map fun ds=>.nx (env.set i (.own ds))
section
variable {T:Tx}{X:XQ}{F G:FS}{f:FE}{De:Ends}{σ:St}{H:Hp}
theorem Bl (h:tDs T X (aw F G) De σ H):GG (tDs T X F) (tDs T X G) De σ H:=by
 obtain ⟨W,O,env,fl,E,e,q⟩:=h
 unfold aw at e
 cases e1:F env with
 | none=>rw [e1] at e; cases e
 | some r =>
  rw [e1] at e
  refine ⟨W,O,env,r,E,e1, ?_⟩
  cases r with
  | nx env'=>exact fun σ' H' O' E' g=>⟨W,O',env',fl,E',e,q.fr g⟩
  | bk env'=>cases e; exact q
  | ct env'=>cases e; exact q
  | rt d env'=>cases e; exact q
  | rf d env'=>cases e; exact q
  | ex d env'=>cases e; exact q
theorem zk (h:tDs T X aU De σ H):D5 De σ H:=by
 obtain ⟨W,O,env,fl,E,e,q⟩:=h
 cases e
 exact q σ H O E (Fr.refl _ _)
theorem Bm (h:tDs T X (aW f) De σ H):AL (tP T (kD T) f) De σ H:=by
 obtain ⟨W,O,env,fl,E,e,q⟩:=h
 unfold aW at e
 cases e1:f env with
 | none=>rw [e1] at e; cases e
 | some x =>
  rw [e1] at e
  cases e
  exact ⟨W,O,env,x,E,e1,fun v H' s r=>q v σ H' O (E.mono s) (Fr.same s) r⟩
theorem zl {f:FP (List D)}(h:tDs T X (eE f) De σ H):AL (tP T (kF T) f) De σ H:=by
 obtain ⟨W,O,env,fl,E,e,q⟩:=h
 unfold eE at e
 cases e1:f env with
 | none=>rw [e1] at e; cases e
 | some x =>
  rw [e1] at e
  cases e
  refine ⟨W,O,env,x,E,e1,fun v H' s r=>?_⟩
  obtain ⟨a,xs,rfl,n,hl,r⟩:=r
  exact q a xs σ H' O (E.mono s) (Fr.same s) (E.fr.dom a n) hl (r.mono (aG.refl _) fun b z=>⟨z.1.1,z.2⟩)
theorem zm {i:Nat}(h:tDs T X (gR i) De σ H):AL (AF i) De σ H:=by
 obtain ⟨W,O,env,fl,E,e,q⟩:=h
 unfold gR at e
 split at e
 ·rename_i ds es
  cases e
  obtain ⟨a,xs,e1,o,n,hl,r⟩:=E.own es
  exact ⟨.ref a,e1,q a xs σ H O E (Fr.refl _ _) n hl (r.mono (aG.refl _) fun b z=>⟨z.1,fun w=>z.2 (w ▸ o)⟩)⟩
 ·cases e
theorem EL {c:FT}(h:tDs T X (cW c F G) De σ H):GI (tP T kB c) (tDs T X F) (tDs T X G) De σ H:=by
 obtain ⟨W,O,env,fl,E,e,q⟩:=h
 unfold cW at e
 cases e1:c env with
 | none=>rw [e1] at e; cases e
 | some b =>
  rw [e1] at e
  refine ⟨W,O,env,b,E,e1,fun v H' s r=>?_⟩
  cases r
  cases b with
  | true=>exact ⟨W,O,env,fl,E.mono s,e,q.fr (Fr.same s)⟩
  | false=>exact ⟨W,O,env,fl,E.mono s,e,q.fr (Fr.same s)⟩
theorem vX {i:Nat}(h:tDs T X (aY i f) De σ H):uJ (tP T (kD T) f) (gX i) De σ H:=by
 obtain ⟨W,O,env,fl,E,e,q⟩:=h
 unfold aY at e
 cases e1:f env with
 | none=>rw [e1] at e; cases e
 | some x =>
  rw [e1] at e
  cases e
  exact ⟨W,O,env,x,E,e1,fun v H' s r=>q (σ.set i (some v)) H' O ((E.mono s).set i r) (Fr.same s)⟩
theorem bz.take {W:Wf}{O:Addr→Prop}{env:aN}{H':Hp}(E:bz T W O H env σ)(s:aG H H'){a:Addr}{xs:List V}(n:H a=none)(hl:H' a=some (.lst xs)) :
  bz T W (fun b=>O b∨b=a) H' env σ:=by
 have E1:=E.claim n (o:=.lst xs) trivial
 have s1:aG (L2.upd H a (.lst xs)) H':=fun b u h=>by
  by_cases z:b=a
  ·subst z; rw [bu] at h; cases h; exact hl
  ·rw [aC z] at h; exact s b u h
 exact E1.mono s1
theorem Bn {i:Nat}{f:FP (List D)}(h:tDs T X (jB i f) De σ H):uJ (tP T (kF T) f) (gX i) De σ H:=by
 obtain ⟨W,O,env,fl,E,e,q⟩:=h
 unfold jB at e
 cases e1:f env with
 | none=>rw [e1] at e; cases e
 | some x =>
  rw [e1] at e
  cases e
  refine ⟨W,O,env,x,E,e1,fun v H' s r=>?_⟩
  obtain ⟨a,xs,rfl,n,hl,r⟩:=r
  have E':=E.take s n hl
  have hoa:¬ O a:=fun z=>by have:=E.mu a z; rw [n] at this; exact this
  refine q (σ.set i (some (.ref a))) H' (fun b=>O b∨b=a) (E'.Hf i ⟨a,xs,rfl,.inr rfl,E.fr.dom a n,hl,r.mono (aG.refl _) fun b z=>⟨z.1.1,fun w=>w.elim z.1.2 z.2⟩⟩ ?_ ?_ (fun _ z=>nomatch z)) ⟨fun b o h _=>s b o h,fun b z=>z.elim .inl fun w=>.inr (w ▸ n),fun b h=>s.free h⟩
  ·intro _ j t b hij et ot eb ej
   cases eb
   obtain ⟨c,ec,oc⟩:=(E.slot j t et).ji ot
   rw [ej] at ec
   cases ec
   exact hoa oc
  ·intro _ j dss c bs b ej ev hq hb eb
   cases eb
   obtain ⟨c',ec,oc⟩:=(E.slot j _ ej).ji rfl
   rw [ev] at ec; cases ec
   have hc:H c=some (.lst (bs.map V.ref)):=by
    have:=E.mu c oc
    cases e:H c with
    | none=>rw [e] at this; exact this.elim
    | some u=>rw [s c u e] at hq; exact hq
   obtain ⟨_,_,ys,z⟩:=(E.slot j _ ej).inner (by rw [ev]; rfl) hc hb
   rw [n] at z; cases z
def oe (i:Nat)(F:D→D→Option D)(f:FE):FS:=fun env=>(ab i env).bind fun x=>(f env).bind fun y=>(F x y).map fun d=>.nx (env.set i (.val d))
theorem Bo {i:Nat}{Fo:D→D→Option D}{ti:V→V→Hp→VK→Prop}
  (snd:∀ (A:Addr→Prop) (H:Hp) (x y:D) (v u:V) (d:D) (Q:VK),Nw A H→Rep T A H x v→Rep T A H y u→Fo x y=some d→(∀ w H',aG H H'→Rep T A H' d w→Q w H')→ti v u H Q)
  (h:tDs T X (oe i Fo f) De σ H):∃ x, σ[i]?=some (some x)∧tP T (kD T) f σ H fun y H1=>ti x y H1 fun z H2=>De.nx (σ.set i (some z)) H2:=by
 obtain ⟨W,O,env,fl,E,e,q⟩:=h
 unfold oe ab at e
 split at e
 ·rename_i d es
  obtain ⟨v,e1,r⟩:=E.val es
  dsimp only [Option.bind_some] at e
  cases e2:f env with
  | none=>rw [e2] at e; cases e
  | some y =>
   rw [e2] at e
   dsimp only [Option.bind_some] at e
   cases e3:Fo d y with
   | none=>rw [e3] at e; cases e
   | some z =>
    rw [e3] at e
    cases e
    refine ⟨v,e1,W,O,env,y,E,e2,fun u H1 s1 r1=>?_⟩
    refine snd (Cl W O) H1 d y v u z _ (fun a n=>(E.mono s1).lN n) (Rep.mono s1 (fun _ z=>z) r) r1 e3 fun w H' s2 r2=>?_
    exact q _ H' O ((E.mono (s1.trans s2)).set i r2) (Fr.same (s1.trans s2))
 ·cases e
def lg {α:Type}(i:Nat)(G:List D→α→Option (List D))(f:FP α):FS:=fun env=>match env[i]? with
 | some (.own ds)=>(f env).bind fun x=>(G ds x).map fun ds'=>.nx (env.set i (.own ds'))
 | _=>none
theorem rG {α γ:Type}{ρ:RK α γ}[Kd ρ]{i:Nat}{Gf:List D→α→Option (List D)}{f:FP α}{tf:St→Hp→(γ→Hp→Prop)→Prop}{r:V→γ→Hp→VK→Prop}
  (ht:∀ Q,tP T ρ f σ H Q→tf σ H Q)
  (snd:∀ (A:Addr→Prop) (H:Hp) (a:Addr) (ds:List D) (xs:List V) (x:α) (y:γ) (ds':List D) (Q:VK),H a=some (.lst xs)→az T A H ds xs→(∀ b,A b→b≠a)→ρ A H H x y→Gf ds x=some ds' →
   (∀ ys,(∀ A' H',(∀ d v,Rep T A H d v→Rep T A' H' d v)→(∀ d v,az T A H d v→az T A' H' d v)→az T A' H' ds' ys)→∀ w,Q w (upd H a (.lst ys)))→r (.ref a) y H Q)
  (hh:∀ A H0 H x y, ρ A H0 H x y→ρ A H H x y)
  (h:tDs T X (lg i Gf f) De σ H):∃ v, σ[i]?=some (some v)∧(∃ xs,H=H∧∃ a,v=.ref a∧H a=some (.lst xs))∧tf σ H fun y H1=>(∃ a xs,v=.ref a∧H1 a=some (.lst xs))∧r v y H1 fun _ H2=>De.nx σ H2:=by
 obtain ⟨W,O,env,fl,E,e,q⟩:=h
 unfold lg at e
 split at e
 ·rename_i ds es
  cases e2:f env with
  | none=>rw [e2] at e; cases e
  | some x =>
   rw [e2] at e
   dsimp only [Option.bind_some] at e
   cases e3:Gf ds x with
   | none=>rw [e3] at e; cases e
   | some ds' =>
    rw [e3] at e
    cases e
    obtain ⟨a,xs,e1,o,n,hl,rl⟩:=E.own es
    refine ⟨.ref a,e1,⟨xs,rfl,a,rfl,hl⟩,ht _ ⟨W,O,env,x,E,e2,fun y H1 s1 r1=>⟨⟨a,xs,rfl,s1 _ _ hl⟩, ?_⟩⟩⟩
    have E1:=E.mono s1
    have hl1:=s1 _ _ hl
    refine snd (Cl W O) H1 a ds xs x y ds' _ hl1 (rl.mono s1 fun _ z=>z) (fun b z w=>z.2 (w ▸ o)) (hh _ _ _ _ _ r1) e3 fun ys hy _=>?_
    have f1:Fr O H1 O (L2.upd H1 a (.lst ys)):=⟨fun b u h nn=>by rw [aC (by rintro rfl; exact nn o)]; exact h,fun b h=>.inl h,fun b h=>by
     by_cases z:b=a
     ·subst z; rw [bu] at h; cases h
     ·rw [aC z] at h; exact h⟩
    have k:=E1.kp f1
    obtain ⟨E2,f2⟩:=E1.upd (t:=.own ds') (o:=.lst ys) es rfl e1 trivial ⟨a,ys,rfl,o,n,bu,hy _ _ (fun d v h=>h.kp k) (fun d v h=>h.kp k)⟩
    exact q σ _ O E2 ((Fr.same s1).trans f2)
 ·cases e
end
end DL
end
section
namespace DL
open PySem L2
abbrev FG:=D→aN→Option aN
def aM (i:Nat):FG:=fun d env=>some (env.set i (.val d))
def rH:List Nat→List D→aN→Option aN
 | [],[],env=>some env
 | i::is,d::ds,env=>rH is ds (env.set i (.val d))
 | _,_,_=>none
def fU (is:List Nat):FG:=fun d env=>match d with
 | .tup ds=>rH is ds env
 | _=>none
def gS (T:Tx)(tg:FG)(g:TG):Prop:=∀ (W:Wf) (O:Addr→Prop) (H:Hp) (env env':aN) (σ:St) (d:D) (v:V) (Q:St→Hp→Prop),bz T W O H env σ→Rep T (Cl W O) H d v→tg d env=some env'→(∀ σ',bz T W O H env' σ'→Q σ' H)→g v σ H Q
theorem aO {T:Tx}(i:Nat):gS T (aM i) (gX i):=fun W O H env env' σ d v Q E r e q=>by
 cases e
 exact q _ (E.set i r)
def vY (T:Tx)(is:List Nat)(g:TGs):Prop:=∀ (W:Wf) (O:Addr→Prop) (H:Hp) (env env':aN) (σ:St) (ds:List D) (vs:List V) (Q:St→Hp→Prop),bz T W O H env σ→az T (Cl W O) H ds vs→rH is ds env=some env'→(∀ σ',bz T W O H env' σ'→Q σ' H)→g vs σ H Q
theorem eA {T:Tx}:vY T [] uI:=fun W O H env env' σ ds vs Q E r e q=>by
 cases ds with
 | nil=>cases e; exact ⟨r.jh,q _ E⟩
 | cons d ds=>cases e
theorem aP {T:Tx}(i:Nat){is:List Nat}{g:TGs}(h:vY T is g):vY T (i::is) (n5 (gX i) g):=fun W O H env env' σ ds vs Q E r e q=>by
 cases ds with
 | nil=>cases e
 | cons d ds =>
  obtain ⟨x,xs,rfl,r1,r2⟩:=r.dN
  exact ⟨x,xs,rfl,h W O H _ env' _ ds xs Q (E.set i r1) r2 e q⟩
theorem og:∀ {is:List Nat} {ds:List D} {env env':aN},rH is ds env=some env'→ds.length=is.length
 | [],[],_,_,_=>rfl
 | [],_::_,_,_,h=>by cases h
 | _::_,[],_,_,h=>by cases h
 | i::is,d::ds,env,env',h=>by simp [og (is:=is) (ds:=ds) h]
theorem fA {T:Tx}{is:List Nat}{g:TGs}(h:vY T is g):gS T (fU is) (AN T.K is.length g):=fun W O H env env' σ d v Q E r e q=>by
 unfold fU at e
 split at e
 ·obtain ⟨a,xs,rfl,hq,rl⟩:=r.gu
  exact ⟨a,xs,rfl,hq,by rw [← rl.length]; exact og e,h W O H env env' σ _ xs Q E rl e q⟩
 ·cases e
def EM (K:PySem.W.Frag)(tl:TE):TI:=fun σ H R=>tl σ H fun x H1=>∃ a,x=.ref a∧(((∃ xs,SqL K H1 a xs)∧R (Itl K a) H1)∨((∃ xs,SqT K H1 a xs)∧R (Itt K a) H1))
def runFor (tg:FG)(body:FS):List D→FS
 | [],env=>some (.nx env)
 | d::ds,env=>(tg d env).bind fun env1=>(body env1).bind fun r=>match r with
  | .nx e=>runFor tg body ds e
  | .ct e=>runFor tg body ds e
  | .bk e=>some (.nx e)
  | r=>some r
def kN (tg:FG)(fi:FE)(body:FS):FS:=fun env=>(fi env).bind fun x=>(kI x).bind fun ds=>runFor tg body ds env
section
variable {T:Tx}{X:XQ}{F:FS}{fi:FE}{De:Ends}{σ:St}{H:Hp}{tg:FG}{g:TG}
theorem jP (hg:gS T tg g){W:Wf}{H1:Hp}{O:Addr→Prop}{fl:DFl}(q:jO T X W O H1 De fl)(Nx:St→Hp→Prop)(rest:List D)
  (hN:∀ env' O' σ' H',bz T W O' H' env' σ'→Fr O H1 O' H'→runFor tg F rest env'=some fl→Nx σ' H')
  {d:D} {v:V} {env':aN} {O':Addr→Prop} {σ':St} {H':Hp} (E:bz T W O' H' env' σ') (f:Fr O H1 O' H') (e:runFor tg F (d::rest) env'=some fl)
  (r:Rep T (Cl W O') H' d v):g v σ' H' fun σ2 H2=>tDs T X F { De with nx:=Nx,ct:=Nx,bk:=De.nx } σ2 H2:=by
 unfold runFor at e
 cases e0:tg d env' with
 | none=>rw [e0] at e; cases e
 | some env1 =>
  rw [e0] at e
  dsimp only [Option.bind_some] at e
  cases e1:F env1 with
  | none=>rw [e1] at e; cases e
  | some fl' =>
   rw [e1] at e
   refine hg W O' H' env' env1 σ' d v _ E r e0 fun σ1 E1=>⟨W,O',env1,fl',E1,e1, ?_⟩
   cases fl' with
   | nx e'=>exact fun σ2 H2 O2 E2 g2=>hN e' O2 σ2 H2 E2 (f.trans g2) e
   | ct e'=>exact fun σ2 H2 O2 E2 g2=>hN e' O2 σ2 H2 E2 (f.trans g2) e
   | bk e'=>cases e; exact fun σ2 H2 O2 E2 g2=>q σ2 H2 O2 E2 (f.trans g2)
   | rt d' m'=>cases e; exact q.fr f
   | rf d' m'=>cases e; exact q.fr f
   | ex c m'=>cases e; exact q.fr f
theorem drop_cons {α:Type}{l:List α}{j:Nat}{d:α}(h:l[j]?=some d):l.drop j=d::l.drop (j+1):=by
 obtain ⟨hj,hdj⟩:=List.getElem?_eq_some_iff.mp h
 rw [← hdj]
 exact List.drop_eq_getElem_cons hj
theorem Bp (hg:gS T tg g)(h:tDs T X (kN tg fi F) De σ H):yG (EM T.K (tP T (kD T) fi)) g (tDs T X F) De σ H:=by
 obtain ⟨W,O,env,fl,E,e,q⟩:=h
 unfold kN at e
 cases e1:fi env with
 | none=>rw [e1] at e; cases e
 | some x =>
  rw [e1] at e
  dsimp only [Option.bind_some] at e
  refine ⟨W,O,env,x,E,e1,fun v H1 s1 r1=>?_⟩
  have E1:=E.mono s1
  have q1:jO T X W O H1 De fl:=q.fr (Fr.same s1)
  cases x with
  | lst ds =>
   simp only [kI,Option.bind_some] at e
   obtain ⟨a,xs,rfl,hl,rl⟩:=Rep.fz r1
   refine ⟨a,rfl,.inl ⟨⟨xs,hl.sq⟩, ?_⟩⟩
   refine yH (xs:=xs) (fun j σ' H'=>∃ env' O',bz T W O' H' env' σ'∧Fr O H1 O' H'∧runFor tg F (ds.drop j) env'=some fl) ⟨env,O,E1,Fr.refl _ _,e⟩ ?_ ?_ ?_
   ·rintro j σ' H' _ ⟨env',O',E',f,_⟩
    exact ((E1.kp f).ls hl).sq
   ·rintro j x σ' H' hx ⟨env',O',E',f,e'⟩
    obtain ⟨d,hd,rd⟩:=rl.sU hx
    rw [drop_cons hd] at e'
    exact jP hg q1 _ (ds.drop (j+1)) (fun env2 O2 σ2 H2 E2 g2 e2=>⟨env2,O2,E2,g2,e2⟩) E' f e' (E1.sV f rd)
   ·rintro σ' H' ⟨env',O',E',f,e'⟩
    rw [← rl.length,List.drop_length] at e'
    cases e'
    exact q1 σ' H' O' E' f
  | tup ds =>
   simp only [kI,Option.bind_some] at e
   obtain ⟨a,xs,rfl,hl,rl⟩:=Rep.gu r1
   refine ⟨a,rfl,.inr ⟨⟨xs,hl⟩, ?_⟩⟩
   refine AO (xs:=xs) (fun j σ' H'=>∃ env' O',bz T W O' H' env' σ'∧Fr O H1 O' H'∧runFor tg F (ds.drop j) env'=some fl) ⟨env,O,E1,Fr.refl _ _,e⟩ ?_ ?_ ?_
   ·rintro j σ' H' _ ⟨env',O',E',f,_⟩
    exact (E1.kp f).sqT hl
   ·rintro j x σ' H' hx ⟨env',O',E',f,e'⟩
    obtain ⟨d,hd,rd⟩:=rl.sU hx
    rw [drop_cons hd] at e'
    exact jP hg q1 _ (ds.drop (j+1)) (fun env2 O2 σ2 H2 E2 g2 e2=>⟨env2,O2,E2,g2,e2⟩) E' f e' (E1.sV f rd)
   ·rintro σ' H' ⟨env',O',E',f,e'⟩
    rw [← rl.length,List.drop_length] at e'
    cases e'
    exact q1 σ' H' O' E' f
  | _=>cases e
def cX (lo:Int)(n:Nat):List D:=(List.range n).map fun k=>D.int (lo+(k:Nat))
def jC:List D→Option (List D)
 | [.int j]=>if -1000000000<j∧j<1000000000 then some (cX 0 j.toNat) else none
 | _=>none
theorem qA {ds:List D}{xs:List D}(h:jC ds=some xs):∃ j,ds=[.int j]∧(-1000000000<j∧j<1000000000)∧xs=cX 0 j.toNat:=by
 unfold jC at h
 split at h
 ·rename_i j
  by_cases c:-1000000000<j∧j<1000000000
  ·rw [if_pos c] at h; cases h; exact ⟨j,rfl,c,rfl⟩
  ·rw [if_neg c] at h; cases h
 ·cases h
def lh (R:List D→Option (List D))(tg:FG)(f:FA)(body:FS):FS:=fun env=>(f env).bind fun ds=>(R ds).bind fun xs=>runFor tg body xs env
theorem Bq (hg:gS T tg g){J:It}{items:List D}{W:Wf}{H1:Hp}{O:Addr→Prop}{fl:DFl}{env:aN}(E1:bz T W O H1 env σ)(q1:jO T X W O H1 De fl)
  (hgo:∀ j H',j<items.length→J.go j H') (hst:∀ j H',items.length≤j→J.stop j H') (hy:∀ j H' x H2 d,items[j]?=some d→J.yld j H' x H2→H2=H'∧∀ A,Rep T A H' d x)
  (e:runFor tg F items env=some fl) :
  ∃ W:Nat→Nat→St→Hp→Prop,(∃ m,W 0 m σ H1)∧∀ j m σ H,W j m σ H →
   (J.stop j H∧De.nx σ H)∨(J.go j H∧∃ N:St→Hp→Prop,(∀ σ' H',N σ' H'→∃ m',m'<m∧W (j+1) m' σ' H')∧∀ x H',J.yld j H x H'→g x σ H' fun σ2 H2=>tDs T X F { De with nx:=N,ct:=N,bk:=De.nx } σ2 H2):=by
 let Pv:Nat→St→Hp→Prop:=fun j σ' H'=>∃ env' O',bz T W O' H' env' σ'∧Fr O H1 O' H'∧runFor tg F (items.drop j) env'=some fl
 refine ⟨fun j m σ' H'=>m=items.length - j∧j≤items.length∧Pv j σ' H',⟨_,rfl,Nat.zero_le _,env,O,E1,Fr.refl _ _,by simpa using e⟩, ?_⟩
 rintro j m σ' H' ⟨rfl,hj,env',O',E',f,e'⟩
 by_cases hlt:j<items.length
 ·refine .inr ⟨hgo j H' hlt,Pv (j+1),fun σ2 H2 p=>⟨items.length - (j+1),by omega,rfl,hlt,p⟩,fun x H2 y=>?_⟩
  have hd:items[j]?=some items[j]:=List.getElem?_eq_getElem hlt
  obtain ⟨rfl,r⟩:=hy j H' x H2 _ hd y
  rw [drop_cons hd] at e'
  exact jP hg q1 _ _ (fun env2 O2 σ2 H2 E2 g2 e2=>⟨env2,O2,E2,g2,e2⟩) E' f e' (r _)
 ·rw [List.drop_eq_nil_of_le (by omega)] at e'
  cases e'
  exact .inl ⟨hst j H' (by omega),q1 σ' H' O' E' f⟩
theorem qB {lo:Int}{n j:Nat}{d:D}(h:(cX lo n)[j]?=some d):d=.int (lo+(j:Nat)):=by
 unfold cX at h
 rw [List.getElem?_map] at h
 cases e:(List.range n)[j]? with
 | none=>rw [e] at h; cases h
 | some k =>
  rw [e] at h
  obtain ⟨_,hk⟩:=List.getElem?_eq_some_iff.mp e
  simp at hk
  subst hk
  cases h; rfl
theorem kn (lo:Int)(n:Nat):(cX lo n).length=n:=by simp [cX]
theorem zo (hg:gS T tg g){lo:Int}{n:Nat}{W:Wf}{H1:Hp}{O:Addr→Prop}{fl:DFl}{env:aN}(E1:bz T W O H1 env σ)(q1:jO T X W O H1 De fl)(e:runFor tg F (cX lo n) env=some fl) :
  ∃ W:Nat→Nat→St→Hp→Prop,(∃ m,W 0 m σ H1)∧∀ j m σ H,W j m σ H →
   ((Itr lo n).stop j H∧De.nx σ H)∨((Itr lo n).go j H∧∃ N:St→Hp→Prop,(∀ σ' H',N σ' H'→∃ m',m'<m∧W (j+1) m' σ' H')∧∀ x H',(Itr lo n).yld j H x H'→g x σ H' fun σ2 H2=>tDs T X F { De with nx:=N,ct:=N,bk:=De.nx } σ2 H2) :=
 Bq hg E1 q1 (fun j H' h=>by rw [kn] at h; exact h) (fun j H' h=>by rw [kn] at h; exact h) (fun j H' x H2 d hd y=>by
  obtain ⟨rfl,rfl⟩:=y
  rw [qB hd]
  exact ⟨rfl,fun _=>Rep.int _⟩) e
theorem zp (hg:gS T tg g){f:FA}(h:tDs T X (lh jC tg f F) De σ H):yG (yF (tP T (kA T) f)) g (tDs T X F) De σ H:=by
 obtain ⟨W,O,env,fl,E,e,q⟩:=h
 unfold lh at e
 cases e1:f env with
 | none=>rw [e1] at e; cases e
 | some ds =>
  rw [e1] at e
  dsimp only [Option.bind_some] at e
  cases e2:jC ds with
  | none=>rw [e2] at e; cases e
  | some xs =>
   rw [e2] at e
   obtain ⟨j,rfl,c,rfl⟩:=qA e2
   refine ⟨W,O,env,_,E,e1,fun vs H1 s1 r1=>?_⟩
   obtain ⟨v,r,rfl,h1,h2⟩:=az.dN r1
   cases h2.jh
   cases h1.dA
   exact ⟨j,rfl,by omega,by omega,zo hg (E.mono s1) (q.fr (Fr.same s1)) e⟩
end
def gc (nt:Nat)(cap:List Nat)(σ:St):St:=List.replicate nt none++cap.map fun i=>(σ[i]?).join
def eW (nt:Nat)(cap:List Nat)(env:aN):aN:=List.replicate nt .no++cap.map fun i=>(env[i]?).getD .no
def ng (nt:Nat)(cap:List Nat)(wi:TI)(g:TG)(tt:TT)(te:TE):TE:=fun σ H Q=>wi σ H fun J H1=>∃ W:Nat→Nat→List V→Hp→Prop,(∃ m,W 0 m [] H1)∧∀ i m ys H,W i m ys H →
 (J.stop i H∧ys.length≤sizeLine∧∀ l,H l=none→Q (.ref l) (upd H l (.lst ys))) ∨
 (J.go i H∧∀ x H',J.yld i H x H'→g x (gc nt cap σ) H' fun σ2 H2=>tt σ2 H2 fun b H3 =>
  if b=true then te σ2 H3 fun y H4=>ys.length<sizeLine∧∃ m',m'<m∧W (i+1) m' (ys++[y]) H4 else ∃ m',m'<m∧W (i+1) m' ys H3)
def aS (tg:FG)(ft:FT)(fe:FE)(env:aN):List D→Option (List D)
 | []=>some []
 | d::ds=>(tg d env).bind fun e=>(ft e).bind fun b=>if b=true then (fe e).bind fun y=>(aS tg ft fe env ds).bind fun r=>some (y::r) else aS tg ft fe env ds
def cu (nt:Nat)(cap:List Nat)(tg:FG)(fi:FE)(ft:FT)(fe:FE):FP (List D):=fun env=>(fi env).bind fun x=>(kI x).bind fun ds=>if ds.length≤1000000 then aS tg ft fe (eW nt cap env) ds else none
def gA (R:List D→Option (List D))(nt:Nat)(cap:List Nat)(tg:FG)(f:FA)(ft:FT)(fe:FE):FP (List D):=fun env=>(f env).bind fun x=>(R x).bind fun ds=>if ds.length≤1000000 then aS tg ft fe (eW nt cap env) ds else none
section
variable {T:Tx}{ft:FT}{fe fi:FE}{σ:St}{H:Hp}{Q:VK}{tg:FG}{g:TG}
theorem bz.cap {W:Wf}{O:Addr→Prop}{env:aN}(E:bz T W O H env σ){nt:Nat}{cap:List Nat}(hc:cap.Nodup):bz T W O H (eW nt cap env) (gc nt cap σ):=by
 have gE:∀ (j:Nat) (s:Slot),(eW nt cap env)[j]?=some s→s=.no∨∃ k i,j=nt+k∧cap[k]?=some i∧env[i]?=some s∧((gc nt cap σ)[j]?).join=(σ[i]?).join:=fun j s h=>by
  unfold eW at h
  by_cases hj:j<nt
  ·rw [List.getElem?_append_left (by simpa using hj),List.getElem?_replicate,if_pos hj] at h
   cases h; exact .inl rfl
  ·rw [List.getElem?_append_right (by simpa using hj),List.length_replicate,List.getElem?_map] at h
   cases e:cap[j - nt]? with
   | none=>rw [e] at h; cases h
   | some i =>
    rw [e,Option.map_some] at h
    cases e2:env[i]? with
    | none=>rw [e2] at h; cases h; exact .inl rfl
    | some s' =>
     rw [e2] at h; cases h
     refine .inr ⟨j - nt,i,by omega,e,e2, ?_⟩
     unfold gc
     rw [List.getElem?_append_right (by simpa using hj),List.length_replicate,List.getElem?_map,e]
     rfl
 refine ⟨E.fr,E.new,E.mu,fun j s e=>?_,fun j l s t a e1 e2 o1 o2 s1 s2=>?_,by simp [eW,gc],fun j l dss t a bs b e1 e2 q hb e3 o3 z=>?_⟩
 ·rcases gE j s e with rfl | ⟨k,i,_,_,h2,h3⟩
  ·trivial
  ·rw [h3]; exact E.slot i s h2
 ·rcases gE j s e1 with rfl | ⟨k,i,hj,hk,h2,h3⟩
  ·cases o1
  ·rcases gE l t e2 with rfl | ⟨k',i',hj',hk',h2',h3'⟩
   ·cases o2
   ·rw [s1] at h3
    rw [s2] at h3'
    have:=E.inj i i' s t a h2 h2' o1 o2 (join_some h3.symm) (join_some h3'.symm)
    subst this
    have kk:k=k':=by
     obtain ⟨hk1,hk2⟩:=List.getElem?_eq_some_iff.mp hk
     obtain ⟨hk3,hk4⟩:=List.getElem?_eq_some_iff.mp hk'
     exact (List.getElem_inj hc).mp (hk2.trans hk4.symm)
    omega
 ·rcases gE j _ e1 with w | ⟨k,i,hj,hk,h2,h3⟩
  ·cases w
  ·rcases gE l t e3 with rfl | ⟨k',i',hj',hk',h2',h3'⟩
   ·cases o3
   ·rw [e2] at h3
    rw [z] at h3'
    exact E.nu i i' dss t a bs b h2 (join_some h3.symm) q hb h2' o3 (join_some h3'.symm)
def WC (T:Tx)(A:Addr→Prop)(tg:FG)(ft:FT)(fe:FE)(env:aN)(all':List D)(H1:Hp)(all:List D)(j k:Nat)(ys:List V)(H':Hp):Prop :=
 k=all'.length - j∧j≤all'.length∧aG H1 H'∧ys.length≤j∧∃ zs rest,az T A H' zs ys∧aS tg ft fe env (all'.drop j)=some rest∧zs++rest=all
theorem mD (hg:gS T tg g){W:Wf}{H1:Hp}{O:Addr→Prop}{env:aN}{nt:Nat}{cap:List Nat}(hc:cap.Nodup)(E1:bz T W O H1 env σ){all' all:List D}{j k:Nat}{ys:List V}{H':Hp}{d:D}{x:V}(cn:all'.length≤1000000)
  (hlt:j<all'.length) (w:WC T (Cl W O) tg ft fe (eW nt cap env) all' H1 all j k ys H') (hd:all'[j]?=some d) (r:Rep T (Cl W O) H' d x) :
  g x (gc nt cap σ) H' fun σ2 H2=>tP T kB ft σ2 H2 fun b H3 =>
   if b=true then tP T (kD T) fe σ2 H3 fun y H4=>ys.length<sizeLine∧∃ m',m'<k∧WC T (Cl W O) tg ft fe (eW nt cap env) all' H1 all (j+1) m' (ys++[y]) H4 else ∃ m',m'<k∧WC T (Cl W O) tg ft fe (eW nt cap env) all' H1 all (j+1) m' ys H3:=by
 obtain ⟨rfl,hj,s,hyl,zs,rest,hz,e,ea⟩:=w
 rw [drop_cons hd] at e
 unfold aS at e
 cases e0:tg d (eW nt cap env) with
 | none=>rw [e0] at e; cases e
 | some env1 =>
  rw [e0] at e
  dsimp only [Option.bind_some] at e
  refine hg W O H' _ env1 _ d x _ ((E1.mono s).cap hc) r e0 fun σ1 Ec=>?_
  cases e1:ft env1 with
  | none=>rw [e1] at e; cases e
  | some b =>
   rw [e1] at e
   dsimp only [Option.bind_some] at e
   refine ⟨W,O,env1,b,Ec,e1,fun b' H3 s3 c3=>?_⟩
   cases c3
   cases b with
   | false =>
    exact ⟨all'.length - (j+1),by omega,rfl,by omega,s.trans s3,by omega,zs,rest,hz.mono s3 (fun _ z=>z),e,ea⟩
   | true =>
    rw [if_pos rfl] at e ⊢
    cases e2:fe env1 with
    | none=>rw [e2] at e; cases e
    | some y =>
     rw [e2] at e
     dsimp only [Option.bind_some] at e
     cases e3:aS tg ft fe (eW nt cap env) (all'.drop (j+1)) with
     | none=>rw [e3] at e; cases e
     | some rest' =>
      rw [e3] at e
      cases e
      refine ⟨W,O,env1,y,Ec.mono s3,e2,fun w H4 s4 r4=>⟨Nat.lt_of_lt_of_le (show ys.length<1000001 by omega) (by decide),all'.length - (j+1),by omega, ?_⟩⟩
      refine ⟨rfl,by omega,s.trans (s3.trans s4),by simp; omega,zs++[y],rest',(hz.mono (s3.trans s4) fun _ z=>z).append (.cons r4 .nil),e3, ?_⟩
      rw [List.append_assoc]
      exact ea
theorem oh {A:Addr→Prop}{H1:Hp}{env':aN}{all' all:List D}{j k:Nat}{ys:List V}{H':Hp}(hj:all'.length≤j)(w:WC T A tg ft fe env' all' H1 all j k ys H')(hl:all'.length≤1000000)
  (q:∀ v H',aG H1 H'→kF T A H1 H' all v→Q v H'):ys.length≤sizeLine∧∀ l,H' l=none→Q (.ref l) (upd H' l (.lst ys)):=by
 obtain ⟨hk,hj2,s,hyl,zs,rest,hz,e,ea⟩:=w
 rw [List.drop_eq_nil_of_le hj] at e
 cases e
 rw [List.append_nil] at ea
 subst ea
 exact ⟨small (by omega),fun l hl=>q _ _ (s.trans (bG hl _)) (Kd.an _ _ _ _ _ _ s (my hz hl))⟩
theorem vZ (hg:gS T tg g){nt:Nat}{cap:List Nat}(hc:cap.Nodup)(h:tP T (kF T) (cu nt cap tg fi ft fe) σ H Q):ng nt cap (EM T.K (tP T (kR T) fi)) g (tP T kB ft) (tP T (kD T) fe) σ H Q:=by
 obtain ⟨W,O,env,d,E,e,q⟩:=h
 unfold cu at e
 cases e1:fi env with
 | none=>rw [e1] at e; cases e
 | some x =>
  rw [e1] at e
  dsimp only [Option.bind_some] at e
  refine ⟨W,O,env,x,E,e1,fun v H1 s1 r1=>?_⟩
  have E1:=E.mono s1
  cases e2:kI x with
  | none=>rw [e2] at e; cases e
  | some ds =>
   rw [e2] at e
   dsimp only [Option.bind_some] at e
   by_cases cn:ds.length≤1000000
   ·rw [if_pos cn] at e
    have q' : ∀ v H',aG H1 H'→kF T (Cl W O) H1 H' d v→Q v H':=fun v H' s r=>q v H' (s1.trans s) (Kd.an _ _ _ _ _ _ s1 r)
    have w0:WC T (Cl W O) tg ft fe (eW nt cap env) ds H1 d 0 ds.length [] H1:=⟨by simp,Nat.zero_le _,aG.refl _,Nat.zero_le _,[],d,.nil,e,rfl⟩
    cases x with
    | lst es =>
     have ee:es=ds:=Option.some.inj e2
     subst ee
     obtain ⟨a,xs,rfl,hl,rl⟩:=aA.fz r1
     have len:=rl.length
     refine ⟨a,rfl,.inl ⟨⟨xs,hl⟩,WC T (Cl W O) tg ft fe (eW nt cap env) es H1 d,⟨es.length,w0⟩, ?_⟩⟩
     intro j k ys H' w
     have s:aG H1 H':=w.2.2.1
     have hlH:SqL T.K H' a xs:=s.seq hl
     by_cases hlt:j<es.length
     ·refine .inr ⟨⟨xs,xs[j]'(by omega),hlH,by simp [show j<xs.length by omega]⟩,fun x H2 y=>?_⟩
      obtain ⟨e5,y⟩:=y
      subst e5
      obtain ⟨d',hd,rd⟩:=rl.sU (y xs hlH)
      exact mD hg hc E1 cn hlt w hd (rd.mono s fun _ z=>z)
     ·exact .inl ⟨⟨xs,hlH,by omega⟩,oh (by omega) w cn q'⟩
    | tup es =>
     have ee:es=ds:=Option.some.inj e2
     subst ee
     obtain ⟨a,xs,rfl,hl,rl⟩:=aA.gu r1
     have len:=rl.length
     refine ⟨a,rfl,.inr ⟨⟨xs,hl⟩,WC T (Cl W O) tg ft fe (eW nt cap env) es H1 d,⟨es.length,w0⟩, ?_⟩⟩
     intro j k ys H' w
     have s:aG H1 H':=w.2.2.1
     have hlH:SqT T.K H' a xs:=SqT.mono s hl
     by_cases hlt:j<es.length
     ·refine .inr ⟨⟨xs,xs[j]'(by omega),hlH,by simp [show j<xs.length by omega]⟩,fun x H2 y=>?_⟩
      obtain ⟨e5,y⟩:=y
      subst e5
      obtain ⟨d',hd,rd⟩:=rl.sU (y xs hlH)
      exact mD hg hc E1 cn hlt w hd (rd.mono s fun _ z=>z)
     ·exact .inl ⟨⟨xs,hlH,by omega⟩,oh (by omega) w cn q'⟩
    | _=>cases e2
   ·rw [if_neg cn] at e; cases e
theorem qC (hg:gS T tg g){J:It}{items:List D}{W:Wf}{H1:Hp}{O:Addr→Prop}{env:aN}{nt:Nat}{cap:List Nat}(hc:cap.Nodup)(E1:bz T W O H1 env σ){all:List D}(cn:items.length≤1000000)
  (hgo:∀ j H',j<items.length→J.go j H') (hst:∀ j H',items.length≤j→J.stop j H') (hy:∀ j H' x H2 d,items[j]?=some d→J.yld j H' x H2→H2=H'∧∀ A,Rep T A H' d x)
  (e3:aS tg ft fe (eW nt cap env) items=some all) (q:∀ v H',aG H1 H'→kF T (Cl W O) H1 H' all v→Q v H') :
  ∃ W:Nat→Nat→List V→Hp→Prop,(∃ m,W 0 m [] H1)∧∀ i m ys H,W i m ys H →
   (J.stop i H∧ys.length≤sizeLine∧∀ l,H l=none→Q (.ref l) (upd H l (.lst ys))) ∨
   (J.go i H∧∀ x H',J.yld i H x H'→g x (gc nt cap σ) H' fun σ2 H2=>tP T kB ft σ2 H2 fun b H3 =>
    if b=true then tP T (kD T) fe σ2 H3 fun y H4=>ys.length<sizeLine∧∃ m',m'<m∧W (i+1) m' (ys++[y]) H4 else ∃ m',m'<m∧W (i+1) m' ys H3):=by
 refine ⟨WC T (Cl W O) tg ft fe (eW nt cap env) items H1 all,⟨items.length,by simp,Nat.zero_le _,aG.refl _,Nat.zero_le _,[],all,.nil,e3,rfl⟩, ?_⟩
 intro j k ys H' w
 by_cases hlt:j<items.length
 ·refine .inr ⟨hgo j H' hlt,fun x H2 y=>?_⟩
  have hd:items[j]?=some items[j]:=List.getElem?_eq_getElem hlt
  obtain ⟨rfl,r⟩:=hy j H' x H2 _ hd y
  exact mD hg hc E1 cn hlt w hd (r _)
 ·exact .inl ⟨hst j H' (by omega),oh (by omega) w cn q⟩
theorem zq (hg:gS T tg g){nt:Nat}{cap:List Nat}{f:FA}(hc:cap.Nodup)(h:tP T (kF T) (gA jC nt cap tg f ft fe) σ H Q):ng nt cap (yF (tP T (kA T) f)) g (tP T kB ft) (tP T (kD T) fe) σ H Q:=by
 obtain ⟨W,O,env,d,E,e,q⟩:=h
 unfold gA at e
 cases e1:f env with
 | none=>rw [e1] at e; cases e
 | some x =>
  rw [e1] at e
  dsimp only [Option.bind_some] at e
  cases e2:jC x with
  | none=>rw [e2] at e; cases e
  | some ds =>
   rw [e2] at e
   dsimp only [Option.bind_some] at e
   obtain ⟨j,rfl,c,rfl⟩:=qA e2
   by_cases cn:(cX 0 j.toNat).length≤1000000
   ·rw [if_pos cn] at e
    refine ⟨W,O,env,_,E,e1,fun vs H1 s1 r1=>?_⟩
    obtain ⟨v,r,rfl,h1,h2⟩:=az.dN r1
    cases h2.jh
    cases h1.dA
    exact ⟨j,rfl,by omega,by omega,qC hg hc (E.mono s1) cn (fun j H' h=>by rw [kn] at h; exact h) (fun j H' h=>by rw [kn] at h; exact h) (fun j H' x H2 d hd y=>by
     obtain ⟨rfl,rfl⟩:=y
     rw [qB hd]
     exact ⟨rfl,fun _=>Rep.int _⟩) e fun v H' s r=>q v H' (s1.trans s) (Kd.an _ _ _ _ _ _ s1 r)⟩
   ·rw [if_neg cn] at e; cases e
end
def spD (T:Tx)(n:Nat)(F:List D→Option D):Sp:=fun vs H Q _=>vs.length=n∧∃ A ds d,Nw A H∧az T A H ds vs∧F ds=some d∧∀ v H',aG H H'→Rep T A H' d v→Q v H'
def spF (T:Tx)(n:Nat)(F:List D→Option (List D)):Sp:=fun vs H Q _=>vs.length=n∧∃ A ds d,Nw A H∧az T A H ds vs∧F ds=some d∧∀ v H',aG H H'→kF T A H H' d v→Q v H'
def aF {α:Type}(n:Nat)(F:List D→Option α)(f:FA):FP α:=fun env=>(f env).bind fun ds=>if ds.length=n then F ds else none
section
variable {T:Tx}{σ:St}{H:Hp}{Q:VK}
theorem Br {n:Nat}{F:List D→Option D}{f:FA}{E0:XK}(h:tP T (kD T) (aF n F f) σ H Q):vN (spD T n F) [] E0 (tP T (kA T) f) σ H Q:=by
 obtain ⟨W,O,env,d,E,e,q⟩:=h
 unfold aF at e
 cases e1:f env with
 | none=>rw [e1] at e; cases e
 | some ds =>
  rw [e1] at e
  dsimp only [Option.bind_some] at e
  by_cases c:ds.length=n
  ·rw [if_pos c] at e
   refine ⟨W,O,env,ds,E,e1,fun vs H1 s1 r1=>?_⟩
   show spD T n F (vs++[]) H1 Q E0
   rw [List.append_nil]
   exact ⟨by rw [← az.length r1]; exact c,Cl W O,ds,d,fun a n=>(E.mono s1).lN n,r1,e,fun v H' s r=>q v H' (s1.trans s) r⟩
  ·rw [if_neg c] at e; cases e
theorem zr {n:Nat}{F:List D→Option (List D)}{f:FA}{E0:XK}(h:tP T (kF T) (aF n F f) σ H Q):vN (spF T n F) [] E0 (tP T (kA T) f) σ H Q:=by
 obtain ⟨W,O,env,d,E,e,q⟩:=h
 unfold aF at e
 cases e1:f env with
 | none=>rw [e1] at e; cases e
 | some ds =>
  rw [e1] at e
  dsimp only [Option.bind_some] at e
  by_cases c:ds.length=n
  ·rw [if_pos c] at e
   refine ⟨W,O,env,ds,E,e1,fun vs H1 s1 r1=>?_⟩
   show spF T n F (vs++[]) H1 Q E0
   rw [List.append_nil]
   exact ⟨by rw [← az.length r1]; exact c,Cl W O,ds,d,fun a n=>(E.mono s1).lN n,r1,e,fun v H' s r=>q v H' (s1.trans s) (Kd.an _ _ _ _ _ _ s1 r)⟩
  ·rw [if_neg c] at e; cases e
def envOf (n:Nat)(ds:List D):aN:=ds.map Slot.val++List.replicate (n - ds.length) .no
def bH (N:Nat)(F:FS):List D→Option D:=fun ds=>(F (envOf N ds)).bind fun r=>match r with
 | .rt d _=>some d
 | .nx _=>some .non
 | _=>none
def cC (N:Nat)(F:FS):List D→Option (List D):=fun ds=>(F (envOf N ds)).bind fun r=>match r with
 | .rf ds _=>some ds
 | _=>none
theorem jj {A:Addr→Prop}(nw:Nw A H){vs:List V}{ds:List D}{n:Nat}(h:az T A H ds vs):bz T ⟨A,H,fun _=>False⟩ (fun _=>False) H (envOf n ds) (vs.map some++List.replicate (n - vs.length) none):=by
 have len:=h.length
 have gE:∀ (j:Nat) (s:Slot),(envOf n ds)[j]?=some s→s=.no∨∃ d,ds[j]?=some d∧s=.val d:=fun j s e=>by
  unfold envOf at e
  by_cases hj:j<ds.length
  ·rw [List.getElem?_append_left (by simpa using hj),List.getElem?_map] at e
   cases e2:ds[j]? with
   | none=>rw [e2] at e; cases e
   | some d=>rw [e2] at e; cases e; exact .inr ⟨d,rfl,rfl⟩
  ·rw [List.getElem?_append_right (by simpa using hj),List.getElem?_replicate] at e
   split at e
   ·cases e; exact .inl rfl
   ·cases e
 refine ⟨Fr.refl _ _,nw,fun _ z=>z.elim,fun j s e=>?_,fun j l s t a e1 _ o1 _ _ _=>?_, ?_,fun j l dss t a bs b e1 _ _ _ _ _=>?_⟩
 ·rcases gE j s e with rfl | ⟨d,e1,rfl⟩
  ·trivial
  ·obtain ⟨v,e3,r⟩:=h.get e1
   refine ⟨v, ?_,r.mono (aG.refl _) fun _ z=>⟨z,fun w=>w⟩⟩
   have hj:j<vs.length:=(List.getElem?_eq_some_iff.mp e3).1
   rw [List.getElem?_append_left (by simpa using hj),List.getElem?_map,e3]
   rfl
 ·rcases gE j s e1 with rfl | ⟨d,_,rfl⟩ <;> cases o1
 ·simp [envOf,len]
 ·rcases gE j _ e1 with w | ⟨d,_,w⟩ <;> cases w
theorem w4 {N n:Nat}{F:FS}{vs:List V}{E0:XK}(h:spD T n (bH N F) vs H Q E0):tDs T (fun _ _ _=>False) F { nx:=fun _ H'=>Q .non H',rt:=Q } (vs.map some++List.replicate (N - vs.length) none) H:=by
 obtain ⟨hn,A,ds,d,nw,r,e,q⟩:=h
 unfold bH at e
 cases e1:F (envOf N ds) with
 | none=>rw [e1] at e; cases e
 | some fl =>
  rw [e1] at e
  refine ⟨⟨A,H,fun _=>False⟩,fun _=>False,envOf N ds,fl,jj nw r,e1, ?_⟩
  have sm:∀ {O':Addr→Prop} {H':Hp},Fr (fun _=>False) H O' H'→aG H H':=fun f b o h=>f.keep b o h fun z=>z
  cases fl with
  | nx env'=>cases e; exact fun σ' H' O' E' g=>q .non H' (sm g) Rep.non
  | rt d' m=>cases e; exact fun v σ' H' O' E' g r'=>q v H' (sm g) (r'.mono (aG.refl _) fun a z=>z.1)
  | rf _ _=>cases e
  | bk _=>cases e
  | ct _=>cases e
  | ex _ _=>cases e
theorem sZ {N n:Nat}{F:FS}{vs:List V}{E0:XK}(h:spF T n (cC N F) vs H Q E0):tDs T (fun _ _ _=>False) F { nx:=fun _ H'=>Q .non H',rt:=Q } (vs.map some++List.replicate (N - vs.length) none) H:=by
 obtain ⟨hn,A,ds,d,nw,r,e,q⟩:=h
 unfold cC at e
 cases e1:F (envOf N ds) with
 | none=>rw [e1] at e; cases e
 | some fl =>
  rw [e1] at e
  refine ⟨⟨A,H,fun _=>False⟩,fun _=>False,envOf N ds,fl,jj nw r,e1, ?_⟩
  have sm:∀ {O':Addr→Prop} {H':Hp},Fr (fun _=>False) H O' H'→aG H H':=fun f b o h=>f.keep b o h fun z=>z
  cases fl with
  | rf d' m=>cases e; exact fun a xs σ' H' O' E' g n hl r'=>q _ H' (sm g) ⟨a,xs,rfl,n,hl,r'⟩
  | nx _=>cases e
  | rt _ _=>cases e
  | bk _=>cases e
  | ct _=>cases e
  | ex _ _=>cases e
end
end DL
end
section
namespace L2
open PySem PySem.Spec PyProof.Rows DL
section
variable {prog:Program}{w:World}{A:Around}{R:Result→Shared→Prop}{s:Shared}
theorem lP {elt target iter:Expr}{ifs:List Expr}{scope:Scope}{pos:Pos}{it acc:Value}{env:Env}(I:Nat→Shared→Prop)
  (turn:∀ n s,I n s→wpAny (model prog w) A (pyNext it) (fun r s₁=>match r with
   | none=>R (.ok .next) s₁
   | some v=>wpAny (model prog w) A (letOwnedTupleGo target it v) (fun _ s₁'=>wpAny (model prog w) A (assign target env v) (fun _ s₂ =>
     wpAny (model prog w) A (forIn ifs true fun c r=>if r=true then do let ok ← isTrue c env (eval c env); pure (ForInStep.yield ok) else pure (ForInStep.yield r)) (fun ok s₃ =>
      if ok=true then wpAny (model prog w) A (eval elt env) (fun x s₄ =>
       wpAny (model prog w) A (call (.builtin "list.append") [acc,x]) (fun _ s₅=>∃ m,m<n∧I m s₅) (notedBy (model prog w) A env fun e s'=>R (.error e) s') s₄) (notedBy (model prog w) A env fun e s'=>R (.error e) s') s₃
      else ∃ m,m<n∧I m s₃) (notedBy (model prog w) A env fun e s'=>R (.error e) s') s₂) (notedBy (model prog w) A env fun e s'=>R (.error e) s') s₁') (notedBy (model prog w) A env fun e s'=>R (.error e) s') s₁) (notedBy (model prog w) A env fun e s'=>R (.error e) s') s)
  (n:Nat) (h:I n s):codeAny (model prog w) A (.compLoop (.ListComp elt [⟨target,iter,ifs,0⟩] scope pos) 0 it acc env) R s:=by
 refine codeAny_loop rfl I (fun n s hI=>?_) n h
 show wpAny _ A ((compTurn (.ListComp elt [⟨target,iter,ifs,0⟩] scope pos) 0 it acc env).onRaise (fun x=>do noteFrame x env; theTreesLotGoes x)) _ _ s
 refine wpAny_noted ?_
 rw [compTurn_list]
 refine wpAny_bind (wpAny_standAt (wpAny_bind (wpAny_mono (turn n s hI) (fun r s₁ h₁=>?_) fun _ _ h'=>h')))
 cases r with
 | none=>exact wpAny_pure h₁
 | some v =>
  refine wpAny_bind (wpAny_mono h₁ (fun _ s₁' h₁'=>?_) fun _ _ h'=>h')
  refine wpAny_bind (wpAny_mono h₁' (fun _ s₂ h₂=>wpAny_bind (wpAny_mono h₂ (fun ok s₃ h₃=>?_) fun _ _ h'=>h')) fun _ _ h'=>h')
  cases ok with
  | false=>exact wpAny_pure ⟨rfl,h₃⟩
  | true =>
   exact wpAny_bind (wpAny_bind (wpAny_mono h₃ (fun x s₄ h₄=>wpAny_bind (wpAny_mono h₄ (fun _ s₅ h₅=>wpAny_pure (wpAny_pure ⟨rfl,h₅⟩)) fun _ _ h'=>h')) fun _ _ h'=>h'))
end
def bZ (cells:List (Str × Addr)):List (Str × NameKind)→List (Str × Addr)→List (Str × Addr)
 | [],acc=>acc
 | (n,k)::r,acc=>if (k == .free)=true then bZ cells r ((n,(cells.lookup n).getD 0)::acc) else bZ cells r acc
theorem jk (cells:List (Str × Addr)):∀ (l:List (Str × NameKind)) (acc:List (Str × Addr)),(∀ y∈l,y.2=.free→∃ c,cells.lookup y.1=some c)→(∀ x c,acc.lookup x=some c→cells.lookup x=some c) →
  ∀ x c,(bZ cells l acc).lookup x=some c→cells.lookup x=some c
 | [],acc,_,ha=>ha
 | (n,k)::r,acc,h,ha=>by
  unfold bZ
  split
  ·rename_i hk
   have hk':k=.free:=by simpa using hk
   obtain ⟨c0,e0⟩:=h (n,k) List.mem_cons_self hk'
   refine jk cells r _ (fun y hy=>h y (List.mem_cons_of_mem _ hy)) fun x c e=>?_
   dsimp only at e0
   rw [e0,Option.getD_some] at e
   by_cases hx:x=n
   ·subst hx
    rw [List.lookup_cons_self] at e
    rw [e0]; exact e
   ·have hb:(x == n)=false:=by simpa using hx
    rw [List.lookup_cons,hb] at e
    exact ha x c e
  ·exact jk cells r acc (fun y hy=>h y (List.mem_cons_of_mem _ hy)) ha
theorem lj (cells:List (Str × Addr)):∀ (l:List (Str × NameKind)) (acc:List (Str × Addr)) (x:Str),(∃ c,acc.lookup x=some c)→∃ c,(bZ cells l acc).lookup x=some c
 | [],acc,x,h=>h
 | (n,k)::r,acc,x,h=>by
  unfold bZ
  split
  ·refine lj cells r _ x ?_
   cases hb:x == n with
   | true=>exact ⟨_,by rw [List.lookup_cons,hb]⟩
   | false=>obtain ⟨c,e⟩:=h; exact ⟨c,by rw [List.lookup_cons,hb]; exact e⟩
  ·exact lj cells r acc x h
theorem jl (cells:List (Str × Addr)):∀ (l:List (Str × NameKind)) (acc:List (Str × Addr)) (x:Str),(x,NameKind.free)∈l→∃ c,(bZ cells l acc).lookup x=some c
 | (n,k)::r,acc,x,h=>by
  unfold bZ
  rcases List.mem_cons.mp h with e | h
  ·cases e
   rw [if_pos (by simp)]
   exact lj cells r ((n,(cells.lookup n).getD 0)::acc) n ⟨_,by rw [List.lookup_cons_self]⟩
  ·split
   ·exact jl cells r _ x h
   ·exact jl cells r _ x h
theorem kP {scope:Scope}{env:Env}(h:∀ y∈scope.names,y.2=.free→∃ c,env.cells.lookup y.1=some c):closureFor scope env=pure (bZ env.cells scope.names []):=by
 unfold closureFor
 have go:∀ (l:List (Str × NameKind)) (acc:List (Str × Addr)),(∀ y∈l,y.2=.free→∃ c,env.cells.lookup y.1=some c) →
   (forIn (m:=Sem) l acc fun x r=>match x with
    | (name,kind)=>if (kind == NameKind.free)=true then do let a ← cellOf env name; pure (ForInStep.yield ((name,a)::r)) else pure (ForInStep.yield r))=pure (bZ env.cells l acc):=by
  intro l
  induction l with
  | nil=>intro acc _; rfl
  | cons y r ih =>
   intro acc hl
   obtain ⟨n,k⟩:=y
   rw [List.forIn_cons]
   unfold bZ
   cases hk:(k == NameKind.free) with
   | true =>
    obtain ⟨c,e⟩:=hl (n,k) List.mem_cons_self (by simpa using hk)
    dsimp only at e
    have hc:cellOf env n=pure c:=by unfold cellOf; rw [e]
    simp only [hc,hk,if_true,e,Option.getD_some]
    exact ih _ fun y hy=>hl y (List.mem_cons_of_mem _ hy)
   | false =>
    simp only [hk,Bool.false_eq_true,if_false]
    exact ih _ fun y hy=>hl y (List.mem_cons_of_mem _ hy)
 exact (congrArg (fun m=>m >>= fun cs=>pure cs) (go scope.names [] h)).trans rfl
theorem jm {env:Env}:∀ {names:List (Str × NameKind)} {x:Str},names.lookup x=some .free →
  (names.map fun (n,k)=>if (k == NameKind.free && env.scope.kind == .function && env.kindOf n == some .cell) then (n,NameKind.cell) else (n,k)).lookup x=some .cell ∨
  (names.map fun (n,k)=>if (k == NameKind.free && env.scope.kind == .function && env.kindOf n == some .cell) then (n,NameKind.cell) else (n,k)).lookup x=some .free
 | [],_,h=>by simp at h
 | (n,k)::r,x,h=>by
  have ih:=@jm env r x
  rw [List.map_cons]
  cases hx:x == n with
  | true =>
   rw [List.lookup_cons,hx] at h
   cases h
   dsimp only
   split <;> simp [List.lookup_cons,hx]
  | false =>
   rw [List.lookup_cons,hx] at h
   dsimp only
   split <;> simp only [List.lookup_cons,hx] <;> exact ih h
theorem lq {env:Env}:∀ {names:List (Str × NameKind)} {x:Str} {k0:NameKind},(∀ y∈names,y.2≠.cell) →
  (names.map fun (n,k)=>if (k == NameKind.free && env.scope.kind == .function && env.kindOf n == some .cell) then (n,NameKind.cell) else (n,k)).lookup x=some k0→(k0=.cell∨k0=.free)→names.lookup x=some .free
 | [],_,_,_,h,_=>by simp at h
 | (n,k)::r,x,k0,hn,h,hk=>by
  have ih:=@lq env r x k0 (fun y hy=>hn y (List.mem_cons_of_mem _ hy))
  rw [List.map_cons] at h
  cases hx:x == n with
  | true =>
   rw [List.lookup_cons,hx]
   have h0:=hn (n,k) List.mem_cons_self
   dsimp only at h h0
   by_cases c:(k == NameKind.free && env.scope.kind == .function && env.kindOf n == some .cell)=true
   ·have:k=.free:=by
     have:=(Bool.and_eq_true_iff.mp (Bool.and_eq_true_iff.mp c).1).1
     simpa using this
    rw [this]
   ·rw [if_neg c,List.lookup_cons,hx] at h
    cases h
    rcases hk with rfl | rfl
    ·exact absurd rfl h0
    ·rfl
  | false =>
   rw [List.lookup_cons,hx]
   dsimp only at h
   by_cases c:(k == NameKind.free && env.scope.kind == .function && env.kindOf n == some .cell)=true
   ·rw [if_pos c,List.lookup_cons,hx] at h; exact ih h hk
   ·rw [if_neg c,List.lookup_cons,hx] at h; exact ih h hk
def aQ (X:Cx)(scope:Scope)(cl:List (Str × Addr))(N':List Str)(C:Addr)(s2:Shared)(H2:Hp)(fp:List Addr):Cx :=
 { X with N:=N',s₀:=s2,H₀:=H2,env:=compEnvC scope cl C X.env,outer:=X.stack,stack:=X.stack,ex:=fp,fn:=fun _=>false,pn:=[],xe:=fun _ _=>False }
structure iJ (sc scope:Scope)(N N':List Str)(nt:Nat)(cap:List Nat):Prop where
 kind:scope.kind=.function
 v8:∀ y∈scope.names,y.2≠.cell
 names:∀ y∈scope.names,y.2=.local→scope.names.lookup y.1=some .local
 fr:∀ y∈scope.names,y.2=.free→sc.names.lookup y.1=some .cell∨sc.names.lookup y.1=some .free
 len:N'.length=nt+cap.length
 cap:∀ j∈List.range cap.length, ∀ x∈N'[nt+j]?, ∀ i∈cap[j]?,N[i]?=some x∧scope.names.lookup x=some .free
def jD (X:Cx)(ifs:List Expr)(t:TT):Prop :=
 ∀ (pins:List (Addr × Obj)) (s:Shared) (σ:St) (H:Hp) (Q:Bool→Hp→Prop),Inv X pins σ H s→t σ H Q →
  wpAny (model X.prog X.w) X.A (forIn ifs true fun c r=>if r=true then do let ok ← isTrue c X.env (eval c X.env); pure (ForInStep.yield ok) else pure (ForInStep.yield r)) (TP X pins σ Q) X.xe s
def Jo:TT:=fun _ H Q=>Q true H
theorem zt {X:Cx}:jD X [] Jo:=fun _ _ _ H _ I h=>wpAny_tests_nil ⟨H,I,h⟩
theorem zu {X:Cx}{c:Expr}{t:TT}(h:PT X c t):jD X [c] t:=fun pins s σ H Q I hq=>wpAny_tests_one (h pins s σ H Q I hq)
def mE (nt:Nat)(g:TG):Prop:=∀ x σ H Q,g x σ H Q→g x σ H fun σ2 H2=>((∀ j:Nat,nt≤j→σ2[j]?=σ[j]?)∧σ2.length=σ.length)∧Q σ2 H2
theorem br {i nt:Nat}(h:i<nt):mE nt (gX i):=fun x σ H Q q=>⟨⟨fun j hj=>by rw [List.getElem?_set_ne (by omega)],by simp⟩,q⟩
section
variable {X:Cx}{elt iter tg:Expr}{ifs:List Expr}{scope:Scope}{pos:Pos}{wi:TI}{g:TG}{tt:TT}{te:TE}{sc:Scope}{N N':List Str}{nt:Nat}{cap:List Nat}
theorem Bs {pins:List (Addr × Obj)}{σ:St}{H2:Hp}{s2:Shared}{fp:List Addr}{h1:Heap}{C D:Addr}{o:Obj}{tk:Nat}(hsc:X.env.scope=sc)(hN:X.N=N)(chk:iJ sc scope N N' nt cap)
  (I2:Inv X pins σ H2 s2) (f2:∀ b∈fp,kH X pins H2 b) (hD:s2.heap.objs.size=D) (hC:s2.heap.objs.size<C) (hns:h1.Ns C fun _=>none) (old:∀ b o,s2.heap.get? b=some o→h1.get? b=some o)
  (hfp:∀ b∈fp,b<s2.heap.objs.size) (ho:h1.get? D=some o) (hod:∀ v,o.data≠.cell v) :
  Inv (aQ X scope (bZ X.env.cells scope.names []) N' C s2 H2 fp) [(D,o)] (gc nt cap σ) H2 { s2 with heap:=h1,toks:=tk }:=by
 have hcells:∀ y∈scope.names,y.2=.free→∃ c,X.env.cells.lookup y.1=some c:=fun y hy hk=>I2.ok.has y.1 (by show X.env.scope.names.lookup y.1=_∨X.env.scope.names.lookup y.1=_; rw [hsc]; exact chk.fr y hy hk)
 have hsub:∀ x c,(bZ X.env.cells scope.names []).lookup x=some c→X.env.cells.lookup x=some c:=jk X.env.cells scope.names [] hcells (fun x c e=>by simp at e)
 have hhas:∀ x,scope.names.lookup x=some .free→∃ c,(bZ X.env.cells scope.names []).lookup x=some c:=fun x e=>jl X.env.cells scope.names [] x (PySem.mem_of_lookup e)
 have nst:∀ b,s2.heap.objs.size≤b→b ∉ frs X.stack:=fun b hb hm=>by
  rcases List.mem_cons.mp (I2.mn b hm) with e | e
  ·rw [e] at hb; exact absurd (Nat.lt_of_lt_of_le I2.lt hb) (Nat.lt_irrefl _)
  ·exact I2.DZ hb e
 have nC:∀ x c,X.env.cells.lookup x=some c→c<s2.heap.objs.size:=fun x c e=>by
  obtain ⟨v,q⟩:=I2.cell x c e
  exact q.lt
 refine ⟨⟨I2.ok.mod,chk.kind,I2.ok.glob,I2.ok.blt,Nat.le_of_lt hC,fun x y c e1 e2=>I2.ok.inj x y c (hsub x c e1) (hsub y c e2),fun x hk=>?_,fun x c z _=>(nomatch z),fun hc=>I2.ok.hd hc,I2.ok.frames,.inl rfl,
  fun b hb=>⟨Nat.ne_of_lt (Nat.lt_trans (hfp b hb) hC),fun x c e=>(f2 b hb).2.2.2.2.1 x c (hsub x c e)⟩,I2.bs,Nat.le_trans I2.ok.bsz I2.sz,fun b ob e hb=>?_,fun b hb hm=>?_,I2.stack,I2.rh⟩,
  rfl,I2.bare,Un.kept old,⟨_,hns,fun j x v e1 e2 e3=>?_⟩,fun x c e=>?_,I2.hok.fresh (Nat.le_of_lt hC),fun x c e=>I2.jz x c (hsub x c e),fun p hp=>?_,I2.hok.kept old, ?_⟩
 ·
  have hk':(relabel scope X.env).names.lookup x=some .cell∨(relabel scope X.env).names.lookup x=some .free:=hk
  rcases hk' with e | e
  ·exact hhas x (lq chk.v8 e (.inl rfl))
  ·exact hhas x (lq chk.v8 e (.inr rfl))
 ·
  rcases (f2 b hb).2.2.2.1 with z | z
  ·exact I2.ok.x8 b ob e z
  ·exact absurd (Nat.lt_of_lt_of_le (Heap.lt_size e) (Nat.le_trans I2.ok.bsz z)) (Nat.lt_irrefl _)
 ·
  rcases List.mem_cons.mp (I2.mn b hm) with e | e
  ·exact (f2 b hb).2.1 e
  ·exact (f2 b hb).2.2.1 e
 ·
  have hj:nt≤j:=by
   apply Nat.le_of_not_lt
   intro hj
   unfold gc at e2
   rw [List.getElem?_append_left (by simpa using hj),List.getElem?_replicate,if_pos hj] at e2
   cases e2
  obtain ⟨l,rfl⟩:∃ l,j=nt+l:=⟨j - nt,by omega⟩
  unfold gc at e2
  rw [List.getElem?_append_right (by simp),List.length_replicate,Nat.add_sub_cancel_left,List.getElem?_map] at e2
  cases ec:cap[l]? with
  | none=>rw [ec] at e2; cases e2
  | some i =>
   rw [ec,Option.map_some] at e2
   have hl:l<cap.length:=(List.getElem?_eq_some_iff.mp ec).1
   have e1':N'[nt+l]?=some x:=e1
   obtain ⟨h3,h4⟩:=chk.cap l (List.mem_range.mpr hl) x (by rw [e1']; rfl) i (by rw [ec]; rfl)
   have e2' : σ[i]?=some (some v):=by
    cases es:σ[i]? with
    | none=>rw [es] at e2; cases e2
    | some ov =>
     rw [es] at e2
     cases ov with
     | none=>cases e2
     | some v'=>cases e2; rfl
   obtain ⟨m,hm,hl'⟩:=I2.loc
   have hkk:X.env.scope.names.lookup x=some .cell∨X.env.scope.names.lookup x=some .free:=by rw [hsc]; exact chk.fr (x,.free) (PySem.mem_of_lookup h4) rfl
   obtain ⟨u,ru,lk⟩:=hl' i x v (by rw [hN]; exact h3) e2' (.inr hkk)
   refine ⟨u,ru,.inr ⟨jm h4, ?_⟩⟩
   rcases lk with ⟨hk,_⟩ | ⟨_,c,hc,hcell⟩
   ·have hk':X.env.scope.names.lookup x=some .local:=hk
    rcases hkk with z | z <;> (rw [hk'] at z; cases z)
   ·obtain ⟨c',e'⟩:=hhas x h4
    have:=hsub x c' e'
    rw [hc] at this; cases this
    obtain ⟨oc,h5,h6⟩:=hcell
    exact ⟨c,e',oc,old c oc h5,h6⟩
 ·
  obtain ⟨v,oc,h5,h6⟩:=I2.cell x c (hsub x c e)
  exact ⟨v,oc,old c oc h5,h6⟩
 ·
  have hp':p=(D,o):=by simpa [aQ] using hp
  subst hp'
  refine ⟨ho,I2.hok.fresh (Nat.le_of_eq hD), ?_,nst D (Nat.le_of_eq hD),hod⟩
  show D≠C
  exact Nat.ne_of_lt (by rw [← hD]; exact hC)
 ·show (gc nt cap σ).length=N'.length
  rw [chk.len]
  simp [gc]
theorem qD (hsc:X.env.scope=sc)(hN:X.N=N)(chk:iJ sc scope N N' nt cap)(hc:X.calm=true)(hi:PI X tg iter wi)
  (hg:∀ cl C s2 H2 fp,PG (aQ X scope cl N' C s2 H2 fp) tg g) (hge:mE nt g) (ht:∀ cl C s2 H2 fp,jD (aQ X scope cl N' C s2 H2 fp) ifs tt) (he:∀ cl C s2 H2 fp,PE (aQ X scope cl N' C s2 H2 fp) elt te)
  (hs:∀ x,foldedSetIterable iter X.env x=pure x) {use:Option (Value→Sem Unit)} {QQ:Value→Shared→Prop} {pins:List (Addr × Obj)} {s:Shared} {σ:St} {H:Hp} {p0:Pos} (I:Inv X pins σ H s) (Q:VK)
  (fin:∀ (s4:Shared) (D C:Addr) (H4:Hp),C≠D→H4 C=none→(∃ m,s4.heap.Ns C m)→(∀ h',Heap.SameBut C s4.heap h'→Inv X pins σ H4 { s4 with heap:=h' }) →
   ((C∈X.ex∨X.s₀.heap.objs.size≤C)∧C≠X.env.locals∧(∀ x c,X.env.cells.lookup x=some c→c≠C)∧∀ p∈X.pn++pins,p.1≠C)→Q (.ref D) H4→compPost (model X.prog X.w) X.A X.xe use QQ (.ref D) C (.ok .next) s4)
  (h:ng nt cap wi g tt te σ H Q):wpAny (model X.prog X.w) X.A (comprehension (.ListComp elt [⟨tg,iter,ifs,0⟩] scope pos) scope X.env p0 (newList []) false (eval iter X.env) use) QQ X.xe s:=by
 have hcells:∀ y∈scope.names,y.2=.free→∃ c,X.env.cells.lookup y.1=some c:=fun y hy hk=>I.ok.has y.1 (by show X.env.scope.names.lookup y.1=_∨X.env.scope.names.lookup y.1=_; rw [hsc]; exact chk.fr y hy hk)
 refine wpAny_comprehension_free (use:=use) rfl hs (kP hcells) chk.kind chk.names ?_
 refine thn (hi pins s σ H _ I h) fun v s1 h1=>thn h1 fun itv s2 h2=>?_
 obtain ⟨it,fp,tn,J,H2,e,I2,T,st2,f2,W,⟨m0,w0⟩,turn⟩:=h2
 subst e
 refine wpAny_newObj_type (wpAny_newFunctionEnv chk.v8 (by intro y hy; simp at hy) (fun h₁ hns₁ hsb₁=>?_) chk.kind)
 dsimp only at hns₁ hsb₁ ⊢
 generalize hG:s2.heap.push { cls:=.type "list",dict:=none,data:=.seq ([]:List Value).toArray }=G at hns₁ hsb₁ ⊢
 have hCs:G.objs.size=s2.heap.objs.size+1:=by rw [← hG,Heap.size_push]
 have hDC:s2.heap.objs.size≠G.objs.size:=by rw [hCs]; exact Nat.ne_of_lt (Nat.lt_succ_self _)
 have below:∀ b,b<s2.heap.objs.size→b≠G.objs.size:=fun b hb=>by rw [hCs]; exact Nat.ne_of_lt (Nat.lt_succ_of_lt hb)
 have old:∀ b o,s2.heap.get? b=some o→h₁.get? b=some o:=fun b o e=>hsb₁.extBut b o (below b (Heap.lt_size e)) (Heap.get?_push_of_some _ (hG ▸ Heap.get?_push_of_some _ e))
 have hacc:h₁.get? s2.heap.objs.size=some { cls:=.type "list",dict:=none,data:=.seq ([]:List Value).toArray }:=hsb₁.extBut _ _ hDC (Heap.get?_push_of_some _ (hG ▸ Heap.get?_push_size _ rfl))
 have hfp:∀ b∈fp,b<s2.heap.objs.size:=fun b hb=>by
  obtain ⟨o,e,_⟩:=T.obj 0 _ st2 b hb
  exact Heap.lt_size e
 generalize hD:s2.heap.objs.size=D at hacc hDC ⊢
 generalize hC:G.objs.size=C at hns₁ hsb₁ hDC ⊢
 have hDC':s2.heap.objs.size<C:=by rw [← hC,hCs]; exact Nat.lt_succ_self _
 have hns:h₁.Ns C fun _=>none:=by
  have:(fun x:Str=>([]:List (Str × Value)).reverse.lookup x)=fun _=>none:=by funext x; rfl
  rw [← this]
  exact hns₁
 let cl:=bZ X.env.cells scope.names []
 let X':=aQ X scope cl N' C s2 H2 fp
 let ob:List Value→Nat→Obj:=fun its n=>{ cls:=.type "list",dict:=none,data:=.seq its.toArray n }
 have I0:Inv X' [(D,ob [] 0)] (gc nt cap σ) H2 { s2 with heap:=h₁,toks:=s2.toks+([]:List (Str × Value)).length }:=Bs hsc hN chk I2 f2 hD hDC' hns old hfp hacc (fun v z=>nomatch z)
 have fpD:∀ b∈fp,b≠D:=fun b hb z=>by have:=hfp b hb; rw [z,hD] at this; exact Nat.lt_irrefl _ this
 have stat:∀ {H':Hp} {its:List Value} {n:Nat},(∀ b∈fp,H' b=none)→∀ b∈fp,kH X' [(D,ob its n)] H' b:=fun {H' its n} hn b hb=>by
  obtain ⟨_,f1,f2',f3,f4,f5⟩:=f2 b hb
  refine ⟨hn b hb,Nat.ne_of_lt (Nat.lt_trans (hfp b hb) hDC'),I0.ok.x9 b hb,.inl hb,(I0.ok.exf b hb).2,fun p hp=>?_⟩
  have hp':p=(D,ob its n):=by simpa [X',aQ] using hp
  subst hp'
  exact Ne.symm (fpD b hb)
 have st0:tn 0 h₁:=T.keep 0 _ _ st2 fun b hb o e=>old b o e
 have loop:codeAny (model X.prog X.w) X.A (.compLoop (.ListComp elt [⟨tg,iter,ifs,0⟩] scope pos) 0 (.ref it) (.ref D) (compEnvC scope cl C X.env))
   (compPost (model X.prog X.w) X.A X.xe use QQ (.ref D) C) { s2 with heap:=h₁,toks:=s2.toks+([]:List (Str × Value)).length }:=by
  refine lP (fun k s'=>∃ i ys its n H',Inv X' [(D,ob its n)] (gc nt cap σ) H' s'∧tn i s'.heap∧(∀ b∈fp,H' b=none)∧Vals ys its∧W i k ys H') ?_ m0 ⟨0,[],[],0,H2,I0,st0,fun b hb=>(f2 b hb).1,.nil,w0⟩
  rintro k s3 ⟨i,ys,its,n,H3,I3,st3,fr3,rv3,w3⟩
  have pD:=I3.pin (D,ob its n) (by simp)
  rcases turn i k ys H3 w3 with ⟨stop,hz,qn⟩ | ⟨go,step⟩
  ·refine wpAny_mono (T.done X' rfl rfl rfl hc i _ s3 _ H3 (fun _ _=>False) I3 (stat fr3) st3 stop) (fun r s4 zz_=>?_) fun _ _ z=>False.elim z
   obtain ⟨hr,I4⟩:=zz_
   subst hr
   have pD4:=I4.pin (D,ob its n) (by simp)
   obtain ⟨mC,hnC,_⟩:=I4.loc
   have J:∀ h',Heap.SameBut C s4.heap h'→Inv X pins σ (upd H3 D (.lst ys)) { s4 with heap:=h' }:=fun h' sb=>by
    have hfree:H3 D=none:=pD4.2.1
    have neC:∀ b u,H3 b=some u→b≠C:=fun b u e z=>by
     have:H3 C=none:=I4.free
     rw [z,this] at e; cases e
    have neD:∀ b u,H3 b=some u→b≠D:=fun b u e z=>by rw [z,hfree] at e; cases e
    have hltC:∀ b,b<s2.heap.objs.size→b≠C:=fun b hb=>by omega
    have hltD:∀ b,b<s2.heap.objs.size→b≠D:=fun b hb=>by omega
    have hgD:h'.get? D=some (ob its n):=sb.extBut D _ hDC pD4.1
    have un:Un (frs X.stack) fp H2 (upd H3 D (.lst ys)) s2.heap h':=by
     have bs:Un (frs X.stack) fp H2 H3 s2.heap s4.heap:=I4.base
     refine ⟨fun b o e n hb hx=>?_,fun b o e n hb hx=>?_,fun b o e n hx=>?_,fun b o e hx=>?_,fun b xs e=>?_,fun b o u e=>?_,fun b ps e=>?_⟩
     ·exact sb.extBut b o (hltC b (Heap.lt_size e)) (bs.keep b o e n hb hx)
     ·obtain ⟨sl,q⟩:=bs.slot b o e n hb hx
      exact ⟨sl,sb.extBut b _ (hltC b (Heap.lt_size e)) q⟩
     ·rw [aC (hltD b (Heap.lt_size e))]; exact bs.free b o e n hx
     ·obtain ⟨o',q⟩:=bs.there b o e hx
      exact ⟨o',sb.extBut b _ (hltC b (Heap.lt_size e)) q⟩
     ·have q:=bs.pN b xs e
      rw [aC (neD b _ q)]; exact q
     ·have q:=bs.nW b o u e
      rw [aC (neD b _ q)]; exact q
     ·obtain ⟨more,q⟩:=bs.pO b ps e
      exact ⟨more,by rw [aC (neD b _ q)]; exact q⟩
    have hok:HOk X.prog X.w (upd H3 D (.lst ys)) h':=fun b u e=>by
     by_cases hb:b=D
     ·subst hb
      rw [bu] at e; cases e
      exact ⟨hz,its,n,rv3,hgD⟩
     ·rw [aC hb] at e
      refine (I4.hok b u e).nV (fun c v hcc q=>sb.extBut c v ?_ q) (fun c q=>by rw [aC (neD c _ q)]; exact q) fun c xs q=>by rw [aC (neD c _ q)]; exact q
      rcases hcc with rfl | hcc
      ·exact neC _ _ e
      ·exact neC _ _ hcc
    have hch:∀ b∈fp,(b∈X.ex∨X.s₀.heap.objs.size≤b)∧b≠X.env.locals∧(∀ x c,X.env.cells.lookup x=some c→c≠b)∧∀ p∈X.pn++pins,p.1≠b:=fun b hb=>by
     obtain ⟨_,f1,_,f3,f4,f5⟩:=f2 b hb
     exact ⟨f3,f1,f4,f5⟩
    have os4:s4.os=s2.os:=I4.os
    have I5:Inv X pins σ (upd H3 D (.lst ys)) { s4 with heap:=h' }:=I2.yw (s':={ s4 with heap:=h' }) os4 un hok I4.bare hch
    exact I5
   have hfree:H3 D=none:=pD4.2.1
   have hfC:H3 C=none:=I4.free
   exact fin s4 D C _ (Ne.symm hDC) (by rw [aC (Ne.symm hDC)]; exact hfC) ⟨mC,hnC⟩ J
    ⟨.inr (Nat.le_trans I2.sz (Nat.le_of_lt hDC')),fun z=>Nat.lt_irrefl _ (Nat.lt_trans hDC' (z ▸ I2.lt)),fun x c e z=>(by
     obtain ⟨v',oc,h5,h6⟩:=I2.cell x c e
     exact Nat.lt_irrefl _ (Nat.lt_trans hDC' (z ▸ Heap.lt_size h5))),fun p hp z=>Nat.lt_irrefl _ (Nat.lt_trans hDC' (z ▸ Heap.lt_size (I2.pin p hp).1))⟩ (qn D hfree)
  ·refine wpAny_mono (T.item X' rfl rfl rfl hc i _ s3 _ H3 (fun _ _=>False) I3 (stat fr3) st3 go) (fun r s4 zz_=>?_) fun _ _ z=>False.elim z
   obtain ⟨u,hr,h4⟩:=zz_
   subst hr
   refine wpAny_mono h4 (fun _ s5 zz_=>?_) fun _ _ z=>False.elim z
   obtain ⟨x,H5,I5,r5,y5,st5,fr5⟩:=zz_
   have I5':=I5.pinned (stat fr5) (T.obj _ _ st5)
   refine wpAny_mono (hg cl C s2 H2 fp _ s5 _ H5 x u _ I5' r5 (hge _ _ _ _ (step x H5 y5))) (fun _ s6 zz_=>?_) fun _ _ z=>False.elim z
   obtain ⟨σ6,H6,I6,⟨ext,exl⟩,q6⟩:=zz_
   refine wpAny_mono (ht cl C s2 H2 fp _ s6 σ6 H6 _ I6 q6) (fun b s7 zz_=>?_) fun _ _ z=>False.elim z
   obtain ⟨H7,I7,q7⟩:=zz_
   have back:∀ {s':Shared} {H':Hp},Inv X' ([(D,ob its n)]++mq fp s5.heap) σ6 H' s'→Inv X' [(D,ob its n)] (gc nt cap σ) H' s'∧tn (i+1) s'.heap∧∀ b∈fp,H' b=none:=fun {s' H'} J=>by
    refine ⟨J.jJ.weak (by rw [exl]) fun j w e=>?_,T.keep _ _ _ st5 fun b hb o e=>(J.pin (b,o) (List.mem_append_right _ (List.mem_append_right _ (gq hb e)))).1,fun b hb=>?_⟩
    ·have hj:nt≤j:=by
      apply Nat.le_of_not_lt
      intro hj
      unfold gc at e
      rw [List.getElem?_append_left (by simpa using hj),List.getElem?_replicate,if_pos hj] at e
      cases e
     rw [ext j hj]; exact e
    ·obtain ⟨o,e,d⟩:=T.obj _ _ st5 b hb
     exact (J.pin (b,o) (List.mem_append_right _ (List.mem_append_right _ (gq hb e)))).2.1
   cases b with
   | false =>
    rw [if_neg Bool.false_ne_true] at q7 ⊢
    obtain ⟨m',hm,w7⟩:=q7
    obtain ⟨J,st7,fr7⟩:=back I7
    exact ⟨m',hm,i+1,ys,its,n,H7,J,st7,fr7,rv3,w7⟩
   | true =>
    rw [if_pos rfl] at q7 ⊢
    refine wpAny_mono (he cl C s2 H2 fp _ s7 σ6 H7 _ I7 q7) (fun y s8 zz_=>?_) fun _ _ z=>False.elim z
    obtain ⟨yv,H8,I8,r8,hz8,m',hm,w8⟩:=zz_
    obtain ⟨J,st8,fr8⟩:=back I8
    have pD8:=J.pin (D,ob its n) (by simp)
    have hsz:its.toArray.size≤sizeLine:=by
     have:=rv3.length
     rw [List.size_toArray]; omega
    refine wpAny_list_append_plain (l:=D) (items:=its.toArray) ⟨n,pD8.1⟩ (fun h9 pl sb9=>?_) hsz
    obtain ⟨n9,e9⟩:=pl
    refine ⟨m',hm,i+1,ys++[yv],its++[y],n9,H8, ?_,T.keep _ _ _ st8 fun b hb o e=>sb9.extBut b o (fpD b hb) e,fr8,rv3.append (.cons r8 .nil),w8⟩
    have J0:Inv X' [] (gc nt cap σ) H8 s8:=J.km fun p hp=>absurd hp (by simp)
    have cellsD:∀ x c,X'.env.cells.lookup x=some c→c≠D:=fun x c e z=>by
     obtain ⟨v',oc,h5,h6⟩:=J.cell x c e
     rw [z,pD8.1] at h5; cases h5
     exact absurd h6 (fun z=>nomatch z)
    have J1:Inv X' [] (gc nt cap σ) H8 { s8 with heap:=h9 }:=J0.turned (t':=s8.toks) (fun b o hb e=>sb9.extBut b o hb e) pD8.2.1 pD8.2.2.1 (.inr (Nat.le_of_eq hD)) cellsD (fun p hp=>absurd hp (by simp [X',aQ]))
    refine J1.km fun p hp=>?_
    have hp':p=(D,ob (its++[y]) n9):=by simpa using hp
    subst hp'
    refine ⟨?_,pD8.2.1,pD8.2.2.1,pD8.2.2.2.1,fun v z=>nomatch z⟩
    show h9.get? D=some (ob (its++[y]) n9)
    rw [e9]
    simp [ob]
 refine codeAny_compStart_list loop ?_
 exact T.self X.A 0 _ _ _ st0 loop
theorem w5 (hsc:X.env.scope=sc)(hN:X.N=N)(chk:iJ sc scope N N' nt cap)(hc:X.calm=true)(hi:PI X tg iter wi)
  (hg:∀ cl C s2 H2 fp,PG (aQ X scope cl N' C s2 H2 fp) tg g) (hge:mE nt g) (ht:∀ cl C s2 H2 fp,jD (aQ X scope cl N' C s2 H2 fp) ifs tt) (he:∀ cl C s2 H2 fp,PE (aQ X scope cl N' C s2 H2 fp) elt te)
  (hs:∀ x,foldedSetIterable iter X.env x=pure x:=by intro _; rfl):PE X (.ListComp elt [⟨tg,iter,ifs,0⟩] scope pos) (ng nt cap wi g tt te):=by
 intro pins s σ H Q I h
 rw [eval_ListComp]
 exact qD (use:=none) hsc hN chk hc hi hg hge ht he hs I Q (fun s4 D C H4 _ _ hn J _ q=>by
  obtain ⟨m,hm⟩:=hn
  exact ⟨m,hm,fun h' sb=>⟨.ref D,_,J h' sb,rfl,q⟩⟩) h
theorem w6 (hsc:X.env.scope=sc)(hN:X.N=N)(chk:iJ sc scope N N' nt cap)(hc:X.calm=true)(hi:PI X tg iter wi)
  (hg:∀ cl C s2 H2 fp,PG (aQ X scope cl N' C s2 H2 fp) tg g) (hge:mE nt g) (ht:∀ cl C s2 H2 fp,jD (aQ X scope cl N' C s2 H2 fp) ifs tt) (he:∀ cl C s2 H2 fp,PE (aQ X scope cl N' C s2 H2 fp) elt te)
  {i:Nat} {x:Str} {pos' spos:Pos} (hNd:X.N.Nodup) (hi':X.N[i]?=some x) (hx:Loc X.env.scope x) (hf:X.fn x=true∨X.env.scope.names.lookup x=some .local)
  (hsw:swapsWith (.ListComp elt [⟨tg,iter,ifs,0⟩] scope pos) (some (.Name x pos')) spos.line X.env=pure true) (hs:∀ x,foldedSetIterable iter X.env x=pure x:=by intro _; rfl) :
  PS X (.Assign [.Name x pos'] (.ListComp elt [⟨tg,iter,ifs,0⟩] scope pos) spos) (uJ (ng nt cap wi g tt te) (gX i)):=by
 intro pins s σ H D I h
 rw [exec_Assign_Name_used _ _ _ _ hsw]
 refine wpAny_bind (wpAny_standAt (wpAny_bind ?_))
 show wpAny _ X.A (do let _ ← comprehension (.ListComp elt [⟨tg,iter,ifs,0⟩] scope pos) scope X.env _ (newList []) false (eval iter X.env) (some (assign (.Name x pos') X.env))) _ _ s
 refine wpAny_bind (wpAny_mono (qD (use:=some (assign (.Name x pos') X.env)) (QQ:=fun _ s'=>∃ σ' H',Inv X pins σ' H' s'∧D.nx σ' H') hsc hN chk hc hi hg hge ht he hs I _ (fun s4 D' C H4 hne hf4 hn J hch q=>?_) h) (fun _ s' hq=>wpAny_pure (wpAny_pure hq)) fun _ _ e=>e)
 obtain ⟨m,hm⟩:=hn
 have I4:Inv X pins σ H4 s4:=J s4.heap (Heap.SameBut.refl C s4.heap)
 refine wpAny_assign_Name (qq I4 hNd hi' hx (v:=.ref D') rfl (fun s5 I5 sb5=>?_) hf)
 obtain ⟨a,sb,ha⟩:=sb5
 have haC:C≠a:=by
  rcases ha with rfl | ha
  ·exact hch.2.1
  ·exact fun z=>hch.2.2.1 _ _ ha z.symm
 refine ⟨m,hm.sameBut sb haC,fun h' sb'=>⟨_,H4, ?_,q⟩⟩
 refine I5.yw (s':={ s5 with heap:=h' }) (ch:=[C]) rfl ⟨fun b o e _ _ hb=>sb'.extBut b o (by simpa using hb) e,fun b o e _ _ hb=>⟨o.slots,sb'.extBut b o (by simpa using hb) e⟩,fun b o _ n _=>n,fun b o e hb=>⟨o,sb'.extBut b o (by simpa using hb) e⟩,fun _ _ e=>e,fun _ _ _ e=>e,fun _ ps e=>⟨#[],by simpa using e⟩⟩ (fun b u e=>?_) I5.bare (fun b hb=>?_)
 ·refine (I5.hok b u e).nV (fun c v hcc q=>sb'.extBut c v ?_ q) (fun _ q=>q) fun _ _ q=>q
  intro z
  subst z
  rcases hcc with rfl | hcc
  ·rw [hf4] at e; cases e
  ·rw [hf4] at hcc; cases hcc
 ·have hb':b=C:=by simpa using hb
  subst hb'
  exact hch
end
end L2
end
section
namespace DL
open PySem
def isStar:Expr→Bool
 | .Starred _ _=>true
 | _=>false
def fJ:List Expr→Bool
 | []=>true
 | e::es=>!isStar e && fJ es
theorem aT {e:Expr}{es:List Expr}{env:Env}(h:isStar e=false):starEach (e::es) env=(false,eval e env)::starEach es env:=by
 cases e <;> first | rfl | cases h
theorem eX {pos:Pos}{env:Env}:∀ {es:List Expr},fJ es=true→(backTo pos (starEach es env)).any (·.1)=false
 | [],_=>rfl
 | e::es,h=>by
  unfold fJ at h
  rw [Bool.and_eq_true,Bool.not_eq_true'] at h
  rw [aT h.1]
  show (false || (backTo pos (starEach es env)).any (·.1))=false
  rw [eX h.2]
  rfl
theorem gJ {e:Expr}{env:Env}(h:isStar e=false):starEach [e] env=[(false,eval e env)]:=(aT h).trans rfl
theorem oi {e e2:Expr}{env:Env}(h:isStar e=false)(h2:isStar e2=false):starEach [e,e2] env=[(false,eval e env),(false,eval e2 env)]:=by rw [aT h,gJ h2]
def mF:Expr→Bool
 | .ListComp _ _ _ _=>false
 | .SetComp _ _ _ _=>false
 | .DictComp _ _ _ _ _=>false
 | _=>true
theorem gd {value:Expr}{t:Option Expr}{l:Nat}{env:Env}(h:mF value=true):swapsWith value t l env=pure false:=by
 cases value <;> first | rfl | cases h
end DL
namespace DL
open PySem PySem.Spec PyProof.Rows L2
def qE:Expr→Bool
 | .Set _ _ _=>false
 | _=>true
theorem eY {e:Expr}{env:Env}(h:qE e=true):∀ x,foldedSetIterable e env x=pure x:=fun x=>by
 cases e <;> first | rfl | cases h
theorem zw {op:CmpOp}{e:Expr}(h:qE e=true):behindInMarks op e=false:=by
 cases e <;> first | rfl | cases h
def plainT:Expr→Bool
 | .Call _ _ _ _=>true
 | .Name _ _=>true
 | .Subscript _ _ _=>true
 | .Attribute _ _ _=>true
 | .Constant _ _ _=>true
 | _=>false
theorem xw {e:Expr}{env:Env}(h:plainT e=true):∀ whole,isTrue e env whole=(do let v ← whole; standAt e.pos; holding [v] (truthy v)):=fun whole=>by
 cases e <;> first | rfl | cases h
def zy:Expr→Bool
 | .Slice _ _ _ _=>false
 | .Tuple _ _ _=>false
 | _=>true
theorem v9 {b:Expr}(h:zy b=true):vT b:=fun o i=>by
 cases b <;> first | rfl | cases h
end DL
end
section
namespace DL
open PySem L2
def jn (i j:Int):Option D:=some (.int (i - j))
def fV (i j:Int):Option D:=if 0<j∧j<1073741824 then some (.int (i / j)) else none
def gK (i j:Int):Option D:=if 0<j then some (.int (i % j)) else none
def xx (i j:Int):Option D:=if 0≤j∧j≤1000000∧i.natAbs<18446744073709551616 then some (.int (i ^ j.toNat)) else none
def ltI (i j:Int):Option D:=some (.bl (decide (i<j)))
def leI (i j:Int):Option D:=some (.bl (decide (i≤j)))
def gtI (i j:Int):Option D:=some (.bl (decide (j<i)))
def jo:D→D→Option D
 | .int i,.int j=>if (-18446744073709551616<i∧i<18446744073709551616)∨(-18446744073709551616<j∧j<18446744073709551616) then some (.int (i * j)) else none
 | .str z,.int k=>if z.length≤16∧-1000000000000000000≤k∧k≤1000000 then some (.str (List.replicate k.toNat z).flatten) else none
 | _,_=>none
def zz:List D→D→Option (List D)
 | ds,.int k=>if ds.length≤16∧-1000000000000000000≤k∧k≤60000 then some (List.replicate k.toNat ds).flatten else none
 | _,_=>none
def vc:D→Option D
 | .int i=>some (.int (-i))
 | _=>none
def eqZ (f:D→D→Option Bool):List D→List D→Option Bool
 | a::as,b::bs=>(f a b).bind fun x=>(eqZ f as bs).map fun y=>x && y
 | _,_=>some true
def eqN:Nat→D→D→Option Bool
 | 0,_,_=>none
 | n+1,x,y=>match x,y with
  | .non,.non=>some true
  | .bl a,.bl b=>some (a == b)
  | .int a,.int b=>some (a == b)
  | .str a,.str b=>some (a == b)
  | .tup as,.tup bs=>(eqZ (eqN n) as bs).map fun r=>r && as.length == bs.length
  | .lst as,.lst bs=>if as.length=bs.length then eqZ (eqN n) as bs else some false
  | .bl a,.int b=>some ((if a then 1 else 0) == b)
  | .int a,.bl b=>some (a == (if b then 1 else 0))
  | .ob _ _ _,_=>none
  | _,.ob _ _ _=>none
  | .dct _ _,_=>none
  | _,.dct _ _=>none
  | .exc _,_=>none
  | _,.exc _=>none
  | _,_=>some false
def eqF (neg:Bool)(x y:D):Option D:=(eqN 100 x y).map fun b=>.bl (if neg then !b else b)
def gZ (neg:Bool)(x:D):Option D:=match x with
 | .non=>some (.bl (!neg))
 | _=>some (.bl neg)
def maxD:List D→Option D
 | [.int i,.int j]=>some (.int (if j > i then j else i))
 | _=>none
inductive Ty where
 | int | str | bool | list | tuple | dict
 deriving DecidableEq
def qF (t:Ty):D→Option D
 | .non=>some (.bl false)
 | .bl _=>some (.bl (t == .int || t == .bool))
 | .int _=>some (.bl (t == .int))
 | .str _=>some (.bl (t == .str))
 | .tup _=>some (.bl (t == .tuple))
 | .lst _=>some (.bl (t == .list))
 | _=>none
def intsOf:List D→Option (List Int)
 | []=>some []
 | .int i::r=>(intsOf r).map (i::·)
 | _=>none
def kQ:List D→Option (List Bool)
 | []=>some []
 | .bl i::r=>(kQ r).map (i::·)
 | _=>none
def xy:D→Option D
 | .lst ds=>(intsOf ds).bind fun is=>if is.length≤100000∧is.all (fun i=>decide (-1000000000000000000<i∧i<1000000000000000000)) then some (.int is.sum) else none
 | _=>none
def hZ:Int→List Int→Int
 | m,[]=>m
 | m,i::r=>hZ (if i > m then i else m) r
def ix:D→Option D
 | .lst ds=>(intsOf ds).bind fun is=>match is with
  | []=>none
  | i::r=>some (.int (hZ i r))
 | _=>none
def oj:D→D→Option D
 | .lst ds,v=>(intsOf ds).bind fun is=>match is with
  | []=>some v
  | i::r=>some (.int (hZ i r))
 | _,_=>none
def zA:D→Option D
 | .lst ds=>(kQ ds).map fun bs=>.bl (bs.any id)
 | _=>none
def om:D→Option D
 | .int i=>some (.int i)
 | .bl b=>some (.int (if b then 1 else 0))
 | _=>none
end DL
end
section
namespace DL
open L2
structure Tag {α:Type}(a:α):Type where
 mk ::
def aI {α β:Type}(a:Option α)(f:α→Option β)(_:Tag f:=Tag.mk):Option β:=a.bind f
@[simp] theorem cv {α β:Type}(a:α)(f:α→Option β):aI (some a) f=f a:=zEr
def omap {α β:Type}(f:α→β)(a:Option α)(_:Tag f:=Tag.mk):Option β:=a.map f
@[simp] theorem G5 {α β:Type}(a:α)(f:α→β):omap f (some a)=some (f a):=zEr
def Dg:Option Slot→Option D
 | some (.val d)=>some d
 | _=>none
@[simp] theorem xA (d:D):Dg (some (.val d))=some d:=zEr
def Dh:Option Slot→Option D
 | some (.val d)=>some d
 | some (.own ds)=>some (.lst ds)
 | some (.red ds)=>some (.lst ds)
 | _=>none
@[simp] theorem G6 (d:List D):Dh (some (.own d))=some (.lst d):=zEr
def w9:Option Slot→Option (List D)
 | some (.own ds)=>some ds
 | _=>none
@[simp] theorem G7 (d:List D):w9 (some (.own d))=some d:=zEr
def Bt (G:FS):DFl→Option DFl
 | .nx e=>G e
 | r=>some r
@[simp ↓] theorem II (G:FS)(e:aN):Bt G (.nx e)=G e:=zEr
@[simp ↓] theorem IJ (G:FS)(d:D)(e:aN):Bt G (.rt d e)=some (.rt d e):=zEr
@[simp ↓] theorem IK (G:FS)(d:List D)(e:aN):Bt G (.rf d e)=some (.rf d e):=zEr
def EN:DFl→Option D
 | .rt d _=>some d
 | .nx _=>some .non
 | _=>none
@[simp] theorem IL (d:D)(e:aN):EN (.rt d e)=some d:=zEr
def Di:DFl→Option (List D)
 | .rf d _=>some d
 | _=>none
@[simp] theorem Hm (d:List D)(e:aN):Di (.rf d e)=some d:=zEr
def ifK {α:Type}(a b:Option α)(c:Bool)(_:Tag a:=Tag.mk)(_:Tag b:=Tag.mk):Option α:=if c=true then a else b
@[simp] theorem JD {α:Type}(a b:Option α):ifK a b true=a:=zEr
@[simp] theorem JE {α:Type}(a b:Option α):ifK a b false=b:=zEr
def bW:FT:=fun _=>some true
section
variable {α β δ:Type}
@[simp] theorem Jp (d:D)(env:aN):feC d env=some d:=zEr
@[simp] theorem EO (F:α→Option β)(f:FP α)(env:aN):fp1 F f env=aI (f env) (F):=zEr
@[simp] theorem ER (F:α→β→Option δ)(f:FP α)(g:FP β)(env:aN):fp2 F f g env=aI (f env) (fun x=>aI (g env) (fun y=>F x y)):=zEr
@[simp] theorem IM (f:FP (List D))(env:aN):cV f env=omap (.lst) (f env):=zEr
@[simp] theorem zB (env:aN):ar env=some []:=zEr
@[simp] theorem xB (f:FE)(g:FA)(env:aN):af f g env=aI (f env) (fun x=>aI (g env) (fun r=>some (x::r))):=zEr
@[simp] theorem Hn (f:FA)(env:aN):cy f env=aI (f env) (fun ds=>if ds.length≤1000 then some (.tup ds) else none):=zEr
@[simp] theorem Ho (f:FA)(env:aN):en f env=aI (f env) (fun ds=>if ds.length≤1000 then some ds else none):=zEr
@[simp] theorem Jq (f:FE)(env:aN):ftB f env=aI (f env) (blD):=zEr
@[simp] theorem Jr (b:Bool):blD (.bl b)=some b:=zEr
@[simp] theorem Hq (c:FT)(env:aN):o5 c env=aI (c env) (fun b=>some (!b)):=zEr
@[simp] theorem Hr (c d:FT)(env:aN):jA c d env=aI (c env) (fun b=>ifK (d env) (some false) b):=zEr
@[simp] theorem IP (c d:FT)(env:aN):zc c d env=aI (c env) (fun b=>ifK (some true) (d env) b):=zEr
@[simp] theorem Hs (f g:FE)(env:aN):sX f g env=aI (f env) (fun x=>aI (blD x) (fun b=>ifK (g env) (some (.bl false)) b)):=zEr
@[simp] theorem IQ (f g:FE)(env:aN):xv f g env=aI (f env) (fun x=>aI (blD x) (fun b=>ifK (some (.bl true)) (g env) b)):=zEr
@[simp] theorem IS (c:FT)(f g:FP α)(env:aN):sY c f g env=aI (c env) (fun b=>ifK (f env) (g env) b):=zEr
@[simp] theorem G8 (n:Nat)(F:List D→Option α)(f:FA)(env:aN):aF n F f env=aI (f env) (fun ds=>if ds.length=n then F ds else none):=zEr
@[simp] theorem G9 (env:aN):iY env=some none:=zEr
@[simp] theorem xC (f:FE)(env:aN):gb f env=aI (f env) (EI):=zEr
@[simp] theorem Bu (i:Int):EI (.int i)=some (some i):=zEr
@[simp] theorem Bv (F:D→Option Int→Option Int→Option α)(f:FE)(l h:FO)(env:aN):mB F f l h env=aI (f env) (fun x=>aI (l env) (fun lo=>aI (h env) (fun hi=>F x lo hi))):=zEr
@[simp] theorem IT (g:Int→Int→Option D)(i j:Int):intD g (.int i) (.int j)=g i j:=zEr
@[simp] theorem Js (i j:Int):ltI i j=some (.bl (decide (i<j))):=zEr
@[simp] theorem Jt (i j:Int):leI i j=some (.bl (decide (i≤j))):=zEr
@[simp] theorem Ju (i j:Int):gtI i j=some (.bl (decide (j<i))):=zEr
@[simp] theorem IU (i j:Int):jn i j=some (.int (i - j)):=zEr
@[simp] theorem jQ (i j:Int):cz (.int i) (.int j)=some (.int (i+j)):=zEr
@[simp] theorem Dj (a b:List Nat):cz (.str a) (.str b)=if a.length+b.length≤1000000 then some (.str (a++b)) else none:=zEr
@[simp] theorem IV (a b:List D):v5 (.lst a) (.lst b)=if a.length+b.length≤1000000 then some (a++b) else none:=zEr
@[simp] theorem IW (i:Int):vc (.int i)=some (.int (-i)):=zEr
@[simp] theorem Dk (ds:List D):gI (.lst ds)=some (.int ds.length):=zEr
@[simp] theorem Dl (ds:List D):gI (.tup ds)=some (.int ds.length):=zEr
@[simp] theorem Dm (z:List Nat):gI (.str z)=if z.length≤1000000 then some (.int z.length) else none:=zEr
@[simp] theorem Dn (ds:List D):kI (.lst ds)=some ds:=zEr
@[simp] theorem Dp (ds:List D):kI (.tup ds)=some ds:=zEr
@[simp] theorem tj (ds:List D):v7 (.lst ds)=some (.tup ds):=zEr
@[simp] theorem ES (ds:List D)(i:Int):ixD (.lst ds) (.int i)=atI ds i:=zEr
@[simp] theorem ET (ds:List D)(i:Int):ixD (.tup ds) (.int i)=atI ds i:=zEr
@[simp] theorem EU (z:List Nat)(i:Int):ixD (.str z) (.int i)=if z.length≤1000000 then omap (fun c=>.str [c]) (atI z i) else none:=zEr
@[simp] theorem vd (ds:List D)(lo hi:Option Int):slD (.lst ds) lo hi=some (.lst (cutD ds lo hi)):=zEr
@[simp] theorem oo (ds:List D)(lo hi:Option Int):slD (.tup ds) lo hi=if HT.sIx ds.length 0 lo=0∧HT.sIx ds.length ds.length hi=ds.length then none else some (.tup (cutD ds lo hi)):=zEr
@[simp] theorem Jv (neg:Bool)(x y:D):eqF neg x y=omap (fun b=>.bl (if neg then !b else b)) (eqN 100 x y):=zEr
@[simp] theorem ve (n:Nat)(i j:Int):eqN (n+1) (.int i) (.int j)=some (i == j):=zEr
@[simp] theorem EV (n:Nat)(i j:List Nat):eqN (n+1) (.str i) (.str j)=some (i == j):=zEr
@[simp] theorem Bw (neg:Bool):gZ neg .non=some (.bl (!neg)):=zEr
@[simp] theorem Bx (neg:Bool)(ds:List D):gZ neg (.tup ds)=some (.bl neg):=zEr
@[simp] theorem IX (i j:Int):maxD [.int i,.int j]=some (.int (if j > i then j else i)):=zEr
@[simp] theorem By (t:Ty)(i:List D):qF t (.tup i)=some (.bl (t == .tuple)):=zEr
@[simp] theorem xD (i:Nat)(env:aN):ab i env=Dg env[i]?:=zEr
@[simp] theorem Ga (i:Nat)(env:aN):kZ i env=Dh env[i]?:=zEr
@[simp] theorem Ht (F G:FS)(env:aN):aw F G env=aI (F env) (Bt G):=zEr
@[simp] theorem Gb (env:aN):aU env=some (.nx env):=zEr
@[simp] theorem IY (c:FT)(F G:FS)(env:aN):cW c F G env=aI (c env) (fun b=>ifK (F env) (G env) b):=zEr
@[simp] theorem Hu (f:FE)(env:aN):aW f env=omap (fun d=>.rt d env) (f env):=zEr
@[simp] theorem Gd (f:FP (List D))(env:aN):eE f env=omap (fun d=>.rf d env) (f env):=zEr
@[simp] theorem Ge (i:Nat)(env:aN):gR i env=omap (fun ds=>.rf ds env) (w9 env[i]?):=by
 unfold gR
 cases env[i]? with
 | none=>rfl
 | some s=>cases s <;> rfl
@[simp] theorem Hv (i:Nat)(f:FE)(env:aN):aY i f env=omap (fun d=>.nx (env.set i (.val d))) (f env):=zEr
@[simp] theorem Hw (i:Nat)(f:FP (List D))(env:aN):jB i f env=omap (fun d=>.nx (env.set i (.own d))) (f env):=zEr
@[simp] theorem Hx (i:Nat)(F:D→D→Option D)(f:FE)(env:aN):oe i F f env=aI (ab i env) (fun x=>aI (f env) (fun y=>omap (fun d=>.nx (env.set i (.val d))) (F x y))):=zEr
@[simp] theorem Hy (tg:FG)(fi:FE)(body:FS)(env:aN):kN tg fi body env=aI (fi env) (fun x=>aI (kI x) (fun ds=>runFor tg body ds env)):=zEr
@[simp] theorem Gg (R:List D→Option (List D))(tg:FG)(f:FA)(body:FS)(env:aN):lh R tg f body env=aI (f env) (fun ds=>aI (R ds) (fun xs=>runFor tg body xs env)):=zEr
@[simp] theorem Gh (nt:Nat)(cap:List Nat)(tg:FG)(fi:FE)(ft:FT)(fe:FE)(env:aN):cu nt cap tg fi ft fe env=aI (fi env) (fun x=>aI (kI x) (fun ds=>if ds.length≤1000000 then aS tg ft fe (eW nt cap env) ds else none)):=zEr
@[simp] theorem EW (R:List D→Option (List D))(nt:Nat)(cap:List Nat)(tg:FG)(f:FA)(ft:FT)(fe:FE)(env:aN):gA R nt cap tg f ft fe env=aI (f env) (fun x=>aI (R x) (fun ds=>if ds.length≤1000000 then aS tg ft fe (eW nt cap env) ds else none)):=zEr
@[simp] theorem Gi (i:Nat)(d:D)(env:aN):aM i d env=some (env.set i (.val d)):=zEr
@[simp] theorem AD (tg:FG)(body:FS)(env:aN):runFor tg body [] env=some (.nx env):=zEr
theorem ay (N:Nat)(F:FS)(ds:List D):bH N F ds=aI (F (envOf N ds)) EN:=zEr
theorem bj (N:Nat)(F:FS)(ds:List D):cC N F ds=aI (F (envOf N ds)) Di:=zEr
end
theorem oq {tg:FG}{body:FS}(P:List D→aN→Prop):∀ (items:List D) {env:aN},P items env→(∀ d ds env,P (d::ds) env→∃ env1 env',tg d env=some env1∧body env1=some (.nx env')∧P ds env')→∃ env',runFor tg body items env=some (.nx env')∧P [] env'
 | [],env,p,_=>⟨env,rfl,p⟩
 | d::ds,env,p,h=>by
  obtain ⟨env1,env',h1,h2,h3⟩:=h d ds env p
  obtain ⟨e2,h4,h5⟩:=oq P ds h3 h
  refine ⟨e2, ?_,h5⟩
  unfold runFor
  rw [h1]; dsimp only [Option.bind_some]; rw [h2]; exact h4
theorem nh {tg:FG}{fe:FE}{env:aN}(g:D→D):∀ (ds:List D),(∀ d∈ds, ∃ e,tg d env=some e∧fe e=some (g d))→aS tg bW fe env ds=some (ds.map g)
 | [],_=>rfl
 | d::ds,h=>by
  obtain ⟨e,h1,h2⟩:=h d List.mem_cons_self
  unfold aS
  rw [h1]; dsimp only [Option.bind_some,bW]
  rw [if_pos rfl,h2,nh g ds fun d' hd=>h d' (List.mem_cons_of_mem _ hd)]
  rfl
theorem jR {α:Type}(xs:List α)(k:Nat):atI xs (k:Int)=xs[k]?:=by
 unfold atI ixN
 rw [if_pos (by omega)]
 by_cases h:k<xs.length
 ·rw [if_pos (by omega)]; simp
 ·rw [if_neg (by omega),List.getElem?_eq_none (by omega)]; rfl
@[simp] theorem Hz {α:Type}(xs:List α):atI xs 0=xs[0]?:=jR xs 0
@[simp] theorem JF {α:Type}(xs:List α):atI xs 1=xs[1]?:=jR xs 1
@[simp] theorem JG {α:Type}(xs:List α):atI xs 2=xs[2]?:=jR xs 2
@[simp] theorem JH {α:Type}(xs:List α):atI xs 3=xs[3]?:=jR xs 3
theorem lQ (n d k:Nat):HT.sIx n d (some (k:Int))=min k n:=by
 show (if (k:Int)<0 then ((k:Int)+(n:Int)).toNat else min (k:Int).toNat n)=min k n
 rw [if_neg (by omega)]; rfl
theorem Bz {α:Type}(xs:List α)(i j:Nat):cutD xs (some (i:Int)) (some (j:Int))=(xs.drop i).take (j - i):=by
 unfold cutD
 rw [lQ,lQ]
 by_cases h:i≤xs.length
 ·rw [Nat.min_eq_left h]
  by_cases h2:j≤xs.length
  ·rw [Nat.min_eq_left h2]
  ·rw [Nat.min_eq_right (by omega)]
   rw [List.take_of_length_le (by simp),List.take_of_length_le (by simp; omega)]
 ·rw [Nat.min_eq_right (show xs.length≤i by omega),List.drop_of_length_le (Nat.le_refl _),List.drop_of_length_le (show xs.length≤i by omega)]
  simp
theorem rJ {α:Type}(xs:List α)(j:Nat):cutD xs none (some (j:Int))=xs.take j:=by
 unfold cutD
 rw [lQ,show HT.sIx xs.length 0 none=0 from rfl,List.drop_zero,Nat.sub_zero]
 by_cases h:j≤xs.length
 ·rw [Nat.min_eq_left h]
 ·rw [Nat.min_eq_right (by omega),List.take_of_length_le (Nat.le_refl _),List.take_of_length_le (by omega)]
theorem zC {α:Type}(xs:List α)(i:Nat):cutD xs (some (i:Int)) none=xs.drop i:=by
 unfold cutD
 rw [lQ,show HT.sIx xs.length xs.length none=xs.length from rfl]
 by_cases h:i≤xs.length
 ·rw [Nat.min_eq_left h,List.take_of_length_le (by simp)]
 ·rw [Nat.min_eq_right (by omega),List.drop_of_length_le (Nat.le_refl _),List.drop_of_length_le (by omega)]; simp
end DL
namespace DL
theorem gC (a:Int)(m:Nat)(hm:0<m):∃ k:Nat,a % (m:Int)=k∧k<m:=by
 have h1:0≤a % (m:Int):=Int.emod_nonneg _ (by omega)
 have h2:a % (m:Int)<m:=Int.emod_lt_of_pos _ (by omega)
 exact ⟨(a % (m:Int)).toNat,by omega,by omega⟩
end DL
namespace DL
open L2
theorem rK {i:Int}{n:Nat}(h:i=n)(hn:n<1000000000):jC [.int i]=some (cX 0 n):=by
 subst h
 have c:-1000000000<(n:Int)∧(n:Int)<1000000000:=by omega
 have e:jC [.int (n:Int)]=if -1000000000<(n:Int)∧(n:Int)<1000000000 then some (cX 0 (n:Int).toNat) else none:=rfl
 rw [e,if_pos c,Int.toNat_natCast]
theorem jq (i j:Int)(h:-18446744073709551616<j∧j<18446744073709551616):jo (.int i) (.int j)=some (.int (i * j)):=if_pos (Or.inr h)
theorem xE (i j:Int)(h:-18446744073709551616<i∧i<18446744073709551616):jo (.int i) (.int j)=some (.int (i * j)):=if_pos (Or.inl h)
theorem bR (i j:Int)(h:0<j):gK i j=some (.int (i % j)):=if_pos h
theorem eB (i j:Int)(h:0<j∧j<1073741824):fV i j=some (.int (i / j)):=if_pos h
theorem wa (i j:Int)(h:0≤j∧j≤1000000∧i.natAbs<18446744073709551616):xx i j=some (.int (i ^ j.toNat)):=if_pos h
end DL
namespace DL
open L2
@[simp] theorem EX (neg:Bool)(x:D)(ds:List D):inD neg x (.tup ds)=if fu x && ds.all fu then some (.bl (if neg then !o8 x ds else o8 x ds)) else none:=by
 unfold inD; split <;> simp_all
@[simp] theorem EY (z:List Nat):fu (.str z)=true:=rfl
@[simp] theorem EZ (z:Int):fu (.int z)=true:=rfl
@[simp] theorem Gj (z:Bool):fu (.bl z)=true:=rfl
@[simp] theorem F0:fu .non=true:=rfl
@[simp] theorem HA (x:D):o8 x []=false:=rfl
@[simp] theorem Gk (x y:D)(ds:List D):o8 x (y::ds)=(zg y x || o8 x ds):=rfl
@[simp] theorem HB (a b:List Nat):zg (.str a) (.str b)=(a == b):=rfl
@[simp] theorem HC (a b:Int):zg (.int a) (.int b)=(a == b):=rfl
end DL
namespace DL
end DL
end
section
namespace DL
open PySem PySem.Spec PyProof.Rows L2
structure Ct where
 cl:Nat→Option Addr
 fld:Nat→Str
abbrev tx (X:Cx)(c:Ct):Tx:=⟨X.K,c.cl,c.fld⟩
section
variable {X:Cx}
theorem PE.imp {e:Expr}{t t':TE}(h:PE X e t)(w:∀ σ H Q,t' σ H Q→t σ H Q):PE X e t':=fun pins s σ H Q I q=>h pins s σ H Q I (w σ H Q q)
theorem PT.imp {e:Expr}{t t':TT}(h:PT X e t)(w:∀ σ H Q,t' σ H Q→t σ H Q):PT X e t':=fun pins s σ H Q I q=>h pins s σ H Q I (w σ H Q q)
theorem PW.imp {e:Expr}{t t':TT}(h:PW X e t)(w:∀ σ H Q,t' σ H Q→t σ H Q):PW X e t':=fun wh pins s σ H Q I q=>h wh pins s σ H Q I (w σ H Q q)
theorem PA.imp {es:List Expr}{t t':TA}(h:PA X es t)(w:∀ σ H Q,t' σ H Q→t σ H Q):PA X es t':=fun po pins s σ H Q I q=>h po pins s σ H Q I (w σ H Q q)
theorem PS.imp {st:Stmt}{t t':TS}(h:PS X st t)(w:∀ De σ H,t' De σ H→t De σ H):PS X st t':=fun pins s σ H De I q=>h pins s σ H De I (w De σ H q)
theorem PSs.imp {st:List Stmt}{t t':TS}(h:PSs X st t)(w:∀ De σ H,t' De σ H→t De σ H):PSs X st t':=fun pins s σ H De I q=>h pins s σ H De I (w De σ H q)
theorem PO.imp {o:Option Expr}{t t':TO}(h:PO X o t)(w:∀ σ H Q,t' σ H Q→t σ H Q):PO X o t':=fun pins s σ H Q I q=>h pins s σ H Q I (w σ H Q q)
theorem jD.imp {es:List Expr}{t t':TT}(h:jD X es t)(w:∀ σ H Q,t' σ H Q→t σ H Q):jD X es t':=fun pins s σ H Q I q=>h pins s σ H Q I (w σ H Q q)
end
abbrev PD (X:Cx)(c:Ct)(e:Expr)(f:FE):Prop:=PE X e (tP (tx X c) (kD (tx X c)) f)
abbrev PR (X:Cx)(c:Ct)(e:Expr)(f:FE):Prop:=PE X e (tP (tx X c) (kR (tx X c)) f)
abbrev PF (X:Cx)(c:Ct)(e:Expr)(f:FP (List D)):Prop:=PE X e (tP (tx X c) (kF (tx X c)) f)
abbrev PDT (X:Cx)(c:Ct)(e:Expr)(f:FT):Prop:=PT X e (tP (tx X c) kB f)
abbrev PDW (X:Cx)(c:Ct)(e:Expr)(f:FT):Prop:=PW X e (tP (tx X c) kB f)
abbrev PDA (X:Cx)(c:Ct)(es:List Expr)(f:FA):Prop:=PA X es (tP (tx X c) (kA (tx X c)) f)
abbrev PDO (X:Cx)(c:Ct)(o:Option Expr)(f:FO):Prop:=PO X o (tP (tx X c) kO f)
abbrev PDS (X:Cx)(c:Ct)(x:XQ)(st:Stmt)(F:FS):Prop:=PS X st (tDs (tx X c) x F)
abbrev ou (X:Cx)(c:Ct)(x:XQ)(st:List Stmt)(F:FS):Prop:=PSs X st (tDs (tx X c) x F)
structure Nm (X:Cx)(i:Nat)(x:Str):Prop where
 hN:X.N[i]?=some x
 hv:Vis X.env.scope x
 hd:(x == ("__debug__":Str))=false
 hc:(x == ("__classdict__":Str))=false
structure Nl (X:Cx)(i:Nat)(x:Str):Prop where
 nd:X.N.Nodup
 hN:X.N[i]?=some x
 hl:Loc X.env.scope x
 hf:X.fn x=true∨X.env.scope.names.lookup x=some .local
section
variable {X:Cx}{c:Ct}{xq:XQ}{a b e:Expr}{f g:FE}{pos:Pos}
theorem aa {i:Nat}{x:Str}(n:Nm X i x):PD X c (.Name x pos) (ab i):=PE.imp (iW n.hN n.hv n.hd n.hc) fun _ _ _ h=>B8 h
theorem rL {i:Nat}{x:Str}(n:Nm X i x):PR X c (.Name x pos) (kZ i):=PE.imp (iW n.hN n.hv n.hd n.hc) fun _ _ _ h=>B9 h
theorem ah (h:PD X c e f):PR X c e f:=PE.imp h fun _ _ _ h=>B7 (fun _ _ _ _ _ r=>aA.of r) h
theorem bX {ff:FP (List D)}(h:PF X c e ff):PD X c e (cV ff):=PE.imp h fun _ _ _ h=>Dd h
theorem aj {i:Int}{j}:PD X c (.Constant (.int i) j pos) (feC (.int i)):=PE.imp yx fun _ _ _ h=>zb (fun _ _=>.int _) h
theorem bp {x:Str}{z:List Nat}{j}(hx:x=mkS z):PD X c (.Constant (.str x) j pos) (feC (.str z)):=by
 subst hx
 exact PE.imp yy fun _ _ _ h=>zb (fun _ _=>.str _) h
theorem tm {i:Bool}{j}:PD X c (.Constant (.bool i) j pos) (feC (.bl i)):=PE.imp Gz fun _ _ _ h=>zb (fun _ _=>.bl _) h
theorem oy {j}:PD X c (.Constant .none j pos) (feC .non):=PE.imp E3 fun _ _ _ h=>zb (fun _ _=>.non) h
structure Gc (X:Cx)(c:Ct)(x:Str)(d:D):Prop where
 ex:∃ v u,X.mg x=some u∧RelV v u∧∀ A H,Rep (tx X c) A H d v
theorem wb {x:Str}{d:D}(G:Gc X c x d)(hg:Gl X x)(hd:(x == ("__debug__":Str))=false:=by decide):PD X c (.Name x pos) (feC d):=by
 obtain ⟨v,u,hm,hr,hv⟩:=G.ex
 exact PE.imp (AG hg hm hr hd) fun _ _ _ h=>zb hv h
theorem BA:OpR X (binaryOp .Add) (Df X.K):=by
 intro pins s σ H x y v u Q I rx ry h
 obtain ⟨l,b,xs,zs,rfl,rfl,hH,hB,hz,q⟩:=h
 cases rx
 cases ry
 obtain ⟨its,r,p,z⟩:=I.list hH
 obtain ⟨its2,r2,p2,z2⟩:=I.list hB
 have hl:=r.length
 have hl2:=r2.length
 obtain ⟨⟨cls,dd,data,sl⟩,n,ho,hc,hdd,hd⟩:=p
 obtain ⟨⟨cls2,dd2,data2,sl2⟩,n2,ho2,hc2,hdd2,hd2⟩:=p2
 simp only at hc hd hc2 hd2
 subst hc hd hc2 hd2
 refine concat_meets ⟨_,ho,rfl⟩ ⟨_,ho2,rfl⟩ noFill_list_add seq_list_add PySem.F.slot_list_add PySem.F.entry_list_add (PySem.F.args_list_add_2 _ _) (list_addW l b its.toArray its2.toArray n n2 dd dd2 sl sl2 (by rw [List.size_toArray,List.size_toArray]; omega)) ⟨ho,ho2, ?_⟩
 have ea:its.toArray++its2.toArray=(its++its2).toArray:=by simp
 rw [ea]
 exact ⟨.ref _,_,I.Hb (t':=s.toks) (r.append r2) (by rw [List.length_append]; omega),rfl,q _ I.fresh⟩
theorem wc:OpR X (binaryOp .Add) (zd X.K):=Ee.or (uN.or (BA.or vS))
theorem aZ (ha:PR X c a f)(hb:PR X c b g):PD X c (.BinOp a .Add b pos) (fp2 cz f g):=PE.imp (lJ wc ha hb) fun _ _ _ h=>nv (ρ:=kR (tx X c)) (ρ2:=kR (tx X c)) Bf h
theorem vf (ha:PR X c a f)(hb:PR X c b g):PF X c (.BinOp a .Add b pos) (fp2 v5 f g):=PE.imp (lJ wc ha hb) fun _ _ _ h=>nv (ρ:=kR (tx X c)) (ρ2:=kR (tx X c)) ze h
theorem eH (ha:PD X c a f)(hb:PD X c b g):PD X c (.BinOp a .Sub b pos) (fp2 (intD jn) f g):=PE.imp (lJ Ef ha hb) fun _ _ _ h=>nv (ρ:=kD (tx X c)) (ρ2:=kD (tx X c)) (jM (g:=fun i j=>.int (i - j)) fun _ _=>rfl) h
theorem ef (ha:PD X c a f)(hb:PD X c b g):PD X c (.BinOp a .FloorDiv b pos) (fp2 (intD fV) f g) :=
 PE.imp (lJ AR ha hb) fun _ _ _ h=>nv (ρ:=kD (tx X c)) (ρ2:=kD (tx X c)) (nQ (g:=fV) fun i j d e=>by
  unfold fV at e
  by_cases c:0<j∧j<1073741824
  ·rw [if_pos c] at e; cases e; exact ⟨c,rfl⟩
  ·rw [if_neg c] at e; cases e) h
theorem dn (ha:PD X c a f)(hb:PD X c b g):PD X c (.BinOp a .Mod b pos) (fp2 (intD gK) f g) :=
 PE.imp (lJ Eh ha hb) fun _ _ _ h=>nv (ρ:=kD (tx X c)) (ρ2:=kD (tx X c)) (nQ (g:=gK) fun i j d e=>by
  unfold gK at e
  by_cases c:0<j
  ·rw [if_pos c] at e; cases e; exact ⟨c,rfl⟩
  ·rw [if_neg c] at e; cases e) h
theorem zD (ha:PD X c a f)(hb:PD X c b g):PD X c (.BinOp a .Pow b pos) (fp2 (intD xx) f g) :=
 PE.imp (lJ Ei ha hb) fun _ _ _ h=>nv (ρ:=kD (tx X c)) (ρ2:=kD (tx X c)) (nQ (g:=xx) fun i j d e=>by
  unfold xx at e
  by_cases c:0≤j∧j≤1000000∧i.natAbs<18446744073709551616
  ·rw [if_pos c] at e; cases e; exact ⟨c,rfl⟩
  ·rw [if_neg c] at e; cases e) h
def Dq:R2:=fun x y H Q=>∃ (z:List Nat) (k:Int),x=.str (mkS z)∧y=.int k∧z.length≤16∧-1000000000000000000≤k∧k≤1000000∧Q (.str (mkS (List.replicate k.toNat z).flatten)) H
theorem qG (z:List Nat):∀ (k:Nat) (acc:List Nat),List.foldl (fun x1 x2=>x1++x2) acc.toArray (List.replicate k z.toArray)=(acc++(List.replicate k z).flatten).toArray
 | 0,acc=>by simp
 | k+1,acc=>by
  have e:acc.toArray++z.toArray=(acc++z).toArray:=by simp
  have e2:(acc++z)++(List.replicate k z).flatten=acc++(List.replicate (k+1) z).flatten:=by rw [List.replicate_succ,List.flatten_cons,List.append_assoc]
  rw [← e2, ← qG z k (acc++z), ← e,List.replicate_succ,List.foldl_cons]
theorem mul_list (z:List Nat)(k:Int):Txt.mul (mkS z) k=mkS (List.replicate k.toNat z).flatten:=by
 unfold Txt.mul
 by_cases h:k<1
 ·rw [if_pos h,show k.toNat=0 by omega]; rfl
 ·rw [if_neg h]
  by_cases h2:(k == 1 || (mkS z).length == 0)=true
  ·rw [if_pos h2]
   rw [Bool.or_eq_true] at h2
   rcases h2 with h2 | h2
   ·have:k=1:=by simpa using h2
    subst this
    simp
   ·have hz:z=[]:=by simpa [hV] using h2
    subst hz
    simp
  ·rw [if_neg h2]
   have:=qG z k.toNat []
   rw [List.nil_append] at this
   exact congrArg Str.mk this
theorem BC:OpR X (binaryOp .Mult) Dq:=by
 intro pins s σ H x y v u Q I rx ry h
 obtain ⟨z,k,rfl,rfl,h1,h2,h3,q⟩:=h
 obtain ⟨t,rfl⟩:=rx
 obtain ⟨t',rfl⟩:=ry
 rw [← mul_list] at q
 exact SB.mul (mulOk_of 16 1048576 (by rw [hV]; exact h1) (by omega) (by omega) (by decide) (by decide)) fun t' k=>⟨.str _,H,I.tok _,⟨_,rfl⟩,q⟩
theorem BD {T:Tx}(A:Addr→Prop)(H0 H:Hp)(x y:D)(v u:V)(d:D)(Q:VK)(nw:Nw A H)(rx:kR T A H0 H x v)(ry:kD T A H0 H y u)(e:jo x y=some d)
  (k:∀ w H',aG H H'→kD T A H H' d w→Q w H'):rI yI (fun i j=>.int (i * j)) v u H Q∨Dq v u H Q:=by
 unfold jo at e
 split at e
 ·rename_i i j
  cases aA.dA rx; cases Rep.dA ry
  by_cases c:(-18446744073709551616<i∧i<18446744073709551616)∨(-18446744073709551616<j∧j<18446744073709551616)
  ·rw [if_pos c] at e; cases e
   exact .inl ⟨i,j,rfl,rfl,by unfold yI; omega,k _ H (aG.refl _) (Rep.int _)⟩
  ·rw [if_neg c] at e; cases e
 ·rename_i z n
  cases aA.hX rx; cases Rep.dA ry
  by_cases c:z.length≤16∧-1000000000000000000≤n∧n≤1000000
  ·rw [if_pos c] at e; cases e
   exact .inr ⟨z,n,rfl,rfl,c.1,c.2.1,c.2.2,k _ H (aG.refl _) (Rep.str _)⟩
  ·rw [if_neg c] at e; cases e
 ·cases e
theorem iZ (ha:PR X c a f)(hb:PD X c b g):PD X c (.BinOp a .Mult b pos) (fp2 jo f g):=PE.imp (lJ (Eg.or BC) ha hb) fun _ _ _ h=>nv (ρ:=kR (tx X c)) (ρ2:=kD (tx X c)) BD h
theorem az.rep {T:Tx}{A:Addr→Prop}{H:Hp}{ds:List D}{vs:List V}(r:az T A H ds vs):∀ k:Nat,az T A H (List.replicate k ds).flatten (List.replicate k vs).flatten
 | 0=>by simpa using az.nil
 | k+1=>by
  rw [List.replicate_succ,List.replicate_succ,List.flatten_cons,List.flatten_cons]
  exact r.append (az.rep r k)
theorem Fb {ff:FP (List D)}(ha:PF X c a ff)(hb:PD X c b g):PF X c (.BinOp a .Mult b pos) (fp2 zz ff g):=PE.imp (lJ Ey ha hb) fun _ _ _ h=>nv (ρ:=kF (tx X c)) (ρ2:=kD (tx X c)) (fun A H0 H x y v u d Q nw rx ry e k=>by
 unfold zz at e
 split at e
 ·rename_i n
  cases Rep.dA ry
  by_cases c:x.length≤16∧-1000000000000000000≤n∧n≤60000
  ·rw [if_pos c] at e; cases e
   obtain ⟨l,xs,rfl,_,hl,rl⟩:=rx
   refine ⟨l,n,xs,rfl,rfl,hl,by omega,by omega,small ?_,fun p hp=>k _ _ (bG hp _) (my (az.rep (rl.mono (aG.refl _) fun _ z=>z.1) _) hp)⟩
   have h1:xs.length≤16:=by rw [← rl.length]; exact c.1
   have h2:n.toNat≤60000:=by omega
   exact Nat.le_trans (Nat.mul_le_mul h1 h2) (by decide)
  ·rw [if_neg c] at e; cases e
 ·cases e) h
theorem rM (ha:PD X c a f):PD X c (.UnaryOp .USub a pos) (fp1 vc f):=PE.imp (GK Ej ha) fun _ _ _ h=>sW (ρ:=kD (tx X c)) (fun A H0 H x v d Q nw rx e k=>by
 unfold vc at e
 split at e
 ·cases e; cases Rep.dA rx; exact ⟨_,rfl,k _ H (aG.refl _) (Rep.int _)⟩
 ·cases e) h
theorem zE {ρ ρ2:RK D V}[Kd ρ][Kd ρ2]{op:CmpOp}{r:R2}{F:D→D→Option D}(ho:OpR X (compareOp op) r)
  (snd:∀ (A:Addr→Prop) (H0 H:Hp) (x y:D) (v u:V) (d:D) (Q:VK),Nw A H→ρ A H0 H x v→ρ2 A H0 H y u→F x y=some d→(∀ w H',aG H H'→kD (tx X c) A H H' d w→Q w H')→r v u H Q)
  (ha:PE X a (tP (tx X c) ρ f)) (hb:PE X b (tP (tx X c) ρ2 g)) (hm:behindInMarks op b=false):PD X c (.Compare a [op] [b] pos) (fp2 F f g):=PE.imp (AU ho ha hb hm) fun _ _ _ h=>nv (ρ:=ρ) (ρ2:=ρ2) snd h
theorem ko {ρ ρ2:RK D V}[Kd ρ][Kd ρ2]{op:CmpOp}{r:R2}{F:D→D→Option D}(ho:OpR X (compareOp op) r)
  (snd:∀ (A:Addr→Prop) (H0 H:Hp) (x y:D) (v u:V) (d:D) (Q:VK),Nw A H→ρ A H0 H x v→ρ2 A H0 H y u→F x y=some d→(∀ w H',aG H H'→kD (tx X c) A H H' d w→Q w H')→r v u H Q)
  (ha:PE X a (tP (tx X c) ρ f)) (hb:PE X b (tP (tx X c) ρ2 g)) (hm:behindInMarks op b=false):PDT X c (.Compare a [op] [b] pos) (ftB (fp2 F f g)):=PT.imp (AV ho ha hb hm) fun _ _ _ h=>nv (ρ:=ρ) (ρ2:=ρ2) (ρ3:=kD (tx X c)) snd (nP h)
theorem HE (ha:PD X c a f)(hb:PD X c b g):PD X c (.Compare a [.Lt] [b] pos) (fp2 (intD ltI) f g):=zE yK (jM (g:=fun i j=>.bl (decide (i<j))) fun _ _=>rfl) ha hb (kY _)
theorem mG (ha:PD X c a f)(hb:PD X c b g):PDT X c (.Compare a [.Lt] [b] pos) (ftB (fp2 (intD ltI) f g)):=ko yK (jM (g:=fun i j=>.bl (decide (i<j))) fun _ _=>rfl) ha hb (kY _)
theorem zF (ha:PD X c a f)(hb:PD X c b g):PDT X c (.Compare a [.LtE] [b] pos) (ftB (fp2 (intD leI) f g)):=ko D6 (jM (g:=fun i j=>.bl (decide (i≤j))) fun _ _=>rfl) ha hb (kY _)
theorem Fc (ha:PD X c a f)(hb:PD X c b g):PDT X c (.Compare a [.Gt] [b] pos) (ftB (fp2 (intD gtI) f g)):=ko D7 (jM (g:=fun i j=>.bl (decide (j<i))) fun _ _=>rfl) ha hb (kY _)
theorem Fd (neg:Bool):OpR X (compareOp (if neg then .NotIn else .In)) (fun x y H Q=>∃ (k:Nat) (j:List Nat),x=.str (mkS [k])∧y=.str (mkS j)∧Q (.bl (if neg then !(j.contains k) else j.contains k)) H):=by
 intro pins s σ H x y v u Q I rx ry h
 obtain ⟨k,j,rfl,rfl,q⟩:=h
 have hc:j.contains k=!(Builtin.Str.occurrences (mkS j) (mkS [k]) 0 (mkS j).length 1).isEmpty:=by
  have:=PySem.StrLaws.found_one (mkS j) k
  rw [this,Bool.eq_iff_iff]
  simp
 rw [hc] at q
 cases neg with
 | false=>exact xc pins s σ H _ _ v u Q I rx ry ⟨_,_,rfl,rfl,q⟩
 | true=>exact rn pins s σ H _ _ v u Q I rx ry ⟨_,_,rfl,rfl,q⟩
theorem Fe:OpR X (compareOp .In) (Hj X.K false):=OpR.or (Fd false) xn
theorem zG (ha:PD X c a f)(hb:PR X c b g)(hm:qE b=true:=by rfl):PDT X c (.Compare a [.In] [b] pos) (ftB (fp2 (inD false) f g)):=ko Fe (EG false) ha hb (zw hm)
end
end DL
end
section
namespace DL
open PySem PySem.Spec PyProof.Rows L2
section
variable {X:Cx}{c:Ct}{xq:XQ}{a b e:Expr}{f g:FE}{pos:Pos}
theorem aX (ha:PR X c a f)(hb:PD X c b g)(hs:zy b=true:=by rfl):PD X c (.Subscript a b pos) (fp2 ixD f g):=PE.imp (GX Et ha hb (v9 hs)) fun _ _ _ h=>nv (ρ:=kR (tx X c)) (ρ2:=kD (tx X c)) EF h
theorem iy:PDO X c none iY:=PO.imp B1 fun _ _ _ h=>zi h
theorem eI (h:PD X c e f):PDO X c (some e) (gb f):=PO.imp (B2 h) fun _ _ _ h=>zj h
theorem ak:PDA X c [] ar:=PA.imp rA fun _ _ _ h=>EA h
theorem ae {es:List Expr}{fs:FA}(ha:PD X c e f)(hr:PDA X c es fs)(hs:isStar e=false:=by rfl):PDA X c (e::es) (af f fs):=PA.imp (jg ha hr (aT hs)) fun _ _ _ h=>Ba h
theorem bI {es:List Expr}{fs:FA}{x1}(h:PDA X c es fs):PD X c (.Tuple es x1 pos) (cy fs):=PE.imp (El h) fun _ _ _ h=>EB h
theorem cY {es:List Expr}{fs:FA}(h:PDA X c es fs):PF X c (.List es pos) (en fs):=PE.imp (Em h) fun _ _ _ h=>EC h
structure Def (P:Program)(w:World)(K:PySem.W.Frag)(mg:Str→Option Value)(base:Heap)(c:Ct)(x:Str)(ps:List Str)(k:Nat)(F:List D→Option D):Prop where
 ex:∃ fa fd,fR P w K mg base CX0 k fa fd ps (spD ⟨K,c.cl,c.fld⟩ ps.length F)∧mg x=some (.ref fa)∧PySem.W.keepIn K (.ref fa)=true∧Binds K fd ps []
structure i0 (P:Program)(w:World)(K:PySem.W.Frag)(mg:Str→Option Value)(base:Heap)(c:Ct)(x:Str)(ps:List Str)(k:Nat)(F:List D→Option (List D)):Prop where
 ex:∃ fa fd,fR P w K mg base CX0 k fa fd ps (spF ⟨K,c.cl,c.fld⟩ ps.length F)∧mg x=some (.ref fa)∧PySem.W.keepIn K (.ref fa)=true∧Binds K fd ps []
abbrev HF (X:Cx)(c:Ct):=Def X.prog X.w X.K X.mg X.base c
abbrev Ff (X:Cx)(c:Ct):=i0 X.prog X.w X.K X.mg X.base c
theorem ba {k j:Nat}{ps:List Str}{x:Str}{p:Pos}{es:List Expr}{fs:FA}{F:List D→Option D}(G:HF X c x ps k F)(hr:el j X.A)(hkj:k≤j)(hg:Gl X x)
  (ha:PDA X c (e::es) fs) (hdb:(x == ("__debug__":Str))=false:=by decide) (he:isStar e=false:=by rfl) (hpl:fJ es=true:=by rfl) :
  PD X c (.Call (.Name x p) (e::es) [] pos) (aF ps.length F fs):=by
 obtain ⟨fa,fd,h1,h2,h3,h4⟩:=G.ex
 exact PE.imp (vO (E:=E0) h1 (hr.mono hkj) hg h2 h3 h4 .nil qz ha hdb (aT he) (eX hpl)) fun _ _ _ h=>Br h
theorem gT {k j:Nat}{ps:List Str}{x:Str}{p:Pos}{es:List Expr}{fs:FA}{F:List D→Option (List D)}(G:Ff X c x ps k F)(hr:el j X.A)(hkj:k≤j)(hg:Gl X x)
  (ha:PDA X c (e::es) fs) (hdb:(x == ("__debug__":Str))=false:=by decide) (he:isStar e=false:=by rfl) (hpl:fJ es=true:=by rfl) :
  PF X c (.Call (.Name x p) (e::es) [] pos) (aF ps.length F fs):=by
 obtain ⟨fa,fd,h1,h2,h3,h4⟩:=G.ex
 exact PE.imp (vO (E:=E0) h1 (hr.mono hkj) hg h2 h3 h4 .nil qz ha hdb (aT he) (eX hpl)) fun _ _ _ h=>zr h
theorem vg (ha:PR X c e f)(he:isStar e=false:=by rfl):PA X [e] (tP (tx X c) (kRA (tx X c)) (faR f)):=PA.imp (jg ha rA (aT he)) fun _ _ _ h=>EH h
theorem zH {α:Type}{ρ3:RK α V}[Kd ρ3]{T:Tx}{F:D→Option α}{r:List V→Hp→VK→Prop}{f:FE}{σ:L2.St}{H:Hp}{Q:VK}
  (snd:∀ (A:Addr→Prop) (H0 H:Hp) (x:D) (v:V) (d:α) (Q:VK),Nw A H→kR T A H0 H x v→F x=some d→(∀ w H',aG H H'→ρ3 A H H' d w→Q w H')→r [v] H Q)
  (h:tP T ρ3 (fp1 F f) σ H Q):tCB r (tP T (kRA T) (faR f)) σ H Q:=by
 refine sW (ρ:=kRA T) (F:=of1 F) (Bh snd) ?_
 obtain ⟨W,O,env,d,E,e,q⟩:=h
 refine ⟨W,O,env,d,E, ?_,q⟩
 unfold fp1 faR at *
 cases e1:f env with
 | none=>rw [e1] at e; cases e
 | some x=>rw [e1] at e; exact e
theorem we {α:Type}{ρ3:RK α V}[Kd ρ3]{id:String}{x:Str}{p:Pos}{r:List V→Hp→VK→Prop}{F:D→Option α}(hc:iI X (.builtin id) r)
  (snd:∀ (A:Addr→Prop) (H0 H:Hp) (x:D) (v:V) (d:α) (Q:VK),Nw A H→kR (tx X c) A H0 H x v→F x=some d→(∀ w H',aG H H'→ρ3 A H H' d w→Q w H')→r [v] H Q)
  (hg:Gl X x) (hm:X.mg x=none) (hv:bootBuiltins x=some (.builtin id)) (ha:PR X c e f) (he:isStar e=false) (hn:x≠"__name__":=by decide) (hdb:(x == ("__debug__":Str))=false:=by decide) :
  PE X (.Call (.Name x p) [e] [] pos) (tP (tx X c) ρ3 (fp1 F f)):=PE.imp (sR hc hg hm hv (vg ha he) hn hdb (aT he)) fun _ _ _ h=>zH snd h
theorem wg {α:Type}{ρ3:RK α V}[Kd ρ3]{ty:String}{x:Str}{p:Pos}{r:List V→Hp→VK→Prop}{F:D→Option α}(hc:iI X (.type ty) r)
  (snd:∀ (A:Addr→Prop) (H0 H:Hp) (x:D) (v:V) (d:α) (Q:VK),Nw A H→kR (tx X c) A H0 H x v→F x=some d→(∀ w H',aG H H'→ρ3 A H H' d w→Q w H')→r [v] H Q)
  (hg:Gl X x) (hm:X.mg x=none) (hv:bootBuiltins x=some (.type ty)) (ha:PR X c e f) (he:isStar e=false) (hn:x≠"__name__":=by decide) (hdb:(x == ("__debug__":Str))=false:=by decide) :
  PE X (.Call (.Name x p) [e] [] pos) (tP (tx X c) ρ3 (fp1 F f)):=PE.imp (xm hc hg hm hv (vg ha he) hn hdb (aT he)) fun _ _ _ h=>zH snd h
theorem eF {p:Pos}(hg:Gl X "len")(hm:X.mg "len"=none)(ha:PR X c e f)(he:isStar e=false:=by rfl):PD X c (.Call (.Name "len" p) [e] [] pos) (fp1 gI f):=we yO Bi hg hm PySem.boot_len ha he
theorem oz {p:Pos}(hg:Gl X "tuple")(hm:X.mg "tuple"=none)(ha:PR X c e f)(he:isStar e=false:=by rfl):PD X c (.Call (.Name "tuple" p) [e] [] pos) (fp1 v7 f):=wg pR Bk hg hm rfl ha he
theorem nR {p:Pos}(hg:Gl X "list")(hm:X.mg "list"=none)(ha:PR X c e f)(he:isStar e=false:=by rfl):PF X c (.Call (.Name "list" p) [e] [] pos) (fp1 kI f):=wg rF Bj hg hm rfl ha he
theorem wj {p:Pos}(hg:Gl X "int")(hm:X.mg "int"=none)(ha:PR X c e f)(he:isStar e=false:=by rfl):PD X c (.Call (.Name "int" p) [e] [] pos) (fp1 om f) :=
 wg xg (fun A H0 H x v d Q nw r ee k=>by
  unfold om at ee
  split at ee
  ·cases ee; cases aA.dA r; exact .inl ⟨_,rfl,k _ H (aG.refl _) (Rep.int _)⟩
  ·cases ee; cases aA.bl_ r; exact .inr ⟨_,rfl,k _ H (aG.refl _) (Rep.int _)⟩
  ·cases ee) hg hm rfl ha he
theorem HG {id:String}{x:Str}{p:Pos}{fs:FA}{r:List V→Hp→VK→Prop}{F:List D→Option D}(hc:iI X (.builtin id) r)
  (snd:∀ (A:Addr→Prop) (H0 H:Hp) (ds:List D) (vs:List V) (d:D) (Q:VK),Nw A H→kA (tx X c) A H0 H ds vs→F ds=some d→(∀ w H',aG H H'→kD (tx X c) A H H' d w→Q w H')→r vs H Q)
  (hg:Gl X x) (hm:X.mg x=none) (hv:bootBuiltins x=some (.builtin id)) (ha:PDA X c [a,b] fs) (he:isStar a=false) (hpl:fJ [b]=true) (hn:x≠"__name__":=by decide) (hdb:(x == ("__debug__":Str))=false:=by decide) :
  PD X c (.Call (.Name x p) [a,b] [] pos) (fp1 F fs):=PE.imp (sR hc hg hm hv ha hn hdb (aT he) (eX hpl)) fun _ _ _ h=>sW (ρ:=kA (tx X c)) snd h
theorem HI {T:Tx}{A:Addr→Prop}{H:Hp}{d e:D}{vs:List V}(r:az T A H [d,e] vs):∃ v u,vs=[v,u]∧Rep T A H d v∧Rep T A H e u:=by
 obtain ⟨v,t,rfl,h1,h2⟩:=r.dN
 obtain ⟨u,t,rfl,h3,h4⟩:=h2.dN
 cases h4.jh
 exact ⟨v,u,rfl,h1,h3⟩
theorem wk {p:Pos}{fs:FA}(hg:Gl X "max")(hm:X.mg "max"=none)(hc:X.calm=true)(ha:PDA X c [a,b] fs)(he:isStar a=false:=by rfl)(hpl:fJ [b]=true:=by rfl) :
  PD X c (.Call (.Name "max" p) [a,b] [] pos) (fp1 maxD fs) :=
 HG (xf hc) (fun A H0 H ds vs d Q nw r ee k=>by
  unfold maxD at ee
  split at ee
  ·cases ee
   obtain ⟨v,u,rfl,h1,h2⟩:=HI r
   cases h1.dA; cases h2.dA
   exact ⟨_,_,rfl,k _ H (aG.refl _) (Rep.int _)⟩
  ·cases ee) hg hm boot_max ha he hpl
def tyS:Ty→String
 | .int=>"int" | .str=>"str" | .bool=>"bool" | .list=>"list" | .tuple=>"tuple" | .dict=>"dict"
theorem BE (t:Ty):bootBuiltins (Str.ofString (tyS t))=some (.type (tyS t)):=by cases t <;> decide +kernel
def Dr:D→Option String
 | .non=>some "NoneType"
 | .bl _=>some "bool"
 | .int _=>some "int"
 | .str _=>some "str"
 | .tup _=>some "tuple"
 | .lst _=>some "list"
 | _=>none
theorem zI {K:PySem.W.Frag}{d:D}{t:Ty}{b:Bool}(h:qF t d=some (.bl b)):∃ s,Dr d=some s∧PySem.W.kitOne K (.type s) (.type (tyS t))=some b:=by
 cases d <;> cases h <;> refine ⟨_,rfl, ?_⟩ <;> cases t <;> rfl
theorem zJ {d r:D}{t:Ty}(h:qF t d=some r):∃ b,r=.bl b:=by
 cases d <;> cases h <;> exact ⟨_,rfl⟩
theorem zK {pins:List (Addr × Obj)}{σ:L2.St}{H:Hp}{s:Shared}{A:Addr→Prop}{E:Value→Shared→Prop}{Ar:Around}{Q:Value→Shared→Prop}{d:D}{x:V}{u:Value}{t T:String}{b:Bool}(I:Inv X pins σ H s)(rx:RelV x u)(r:aA (tx X c) A H d x)(e1:Dr d=some t)(e:PySem.W.kitOne X.K (.type t) (.type T)=some b)
  (h:∀ tk,Q (.bool b) { s with toks:=tk }):wpAny (model X.prog X.w) Ar (call (.builtin "isinstance") [u,.type T]) Q E s:=by
 cases d with
 | non=>cases e1; cases aA.mw r; cases rx; exact PySem.W.kia_one PySem.W.kitx_none I.kIn True.intro e (fun z=>nomatch z) h
 | bl y=>cases e1; cases aA.bl_ r; cases rx; exact PySem.W.kia_one PySem.W.kitx_bool I.kIn True.intro e (fun z=>nomatch z) h
 | int i=>cases e1; cases aA.dA r; obtain ⟨t,rfl⟩:=rx; exact PySem.W.kia_one PySem.W.kitx_int I.kIn True.intro e (fun z=>nomatch z) h
 | str y=>cases e1; cases aA.hX r; obtain ⟨t,rfl⟩:=rx; exact PySem.W.kia_one PySem.W.kitx_str I.kIn True.intro e (fun z=>nomatch z) h
 | tup ds =>
  cases e1
  obtain ⟨a,xs,rfl,hq,_⟩:=aA.gu r
  cases rx
  obtain ⟨its,_,p,_⟩:=I.tuple hq
  obtain ⟨o,h1,h2,_⟩:=p
  exact PySem.W.kia_one PySem.W.kitx_tuple I.kIn ⟨o,h1,h2⟩ e (fun z=>nomatch z) h
 | lst ds =>
  cases e1
  obtain ⟨a,xs,rfl,hq,_⟩:=aA.fz r
  cases rx
  obtain ⟨its,_,p,_⟩:=I.list hq
  obtain ⟨o,h1,h2,_⟩:=p.isList
  exact PySem.W.kia_one PySem.W.kitx_list I.kIn ⟨o,h1,h2⟩ e (fun z=>nomatch z) h
 | ob _ _ _=>cases e1
 | dct _ _=>cases e1
 | exc _=>cases e1
theorem vals2 {x y:V}{us:List Value}(r:Vals [x,y] us):∃ u v,us=[u,v]∧RelV x u∧RelV y v:=Vals.two r
theorem xF (t:Ty){p p2:Pos}(hg:Gl X "isinstance")(hm:X.mg "isinstance"=none)(hg2:Gl X (Str.ofString (tyS t)))(hm2:X.mg (Str.ofString (tyS t))=none)(ha:PR X c e f)
  (he:isStar e=false:=by rfl) :
  PD X c (.Call (.Name "isinstance" p) [e,.Name (Str.ofString (tyS t)) p2] [] pos) (fp1 (qF t) f):=by
 intro pins s σ H Q I h
 refine wpAny_Call_Name_kw (je I hg hm (show bootBuiltins "isinstance"=some (.builtin "isinstance") by decide +kernel) ?_ (by decide) (by decide))
 have hA:PA X [e,.Name (Str.ofString (tyS t)) p2] (qu (tP (tx X c) (kR (tx X c)) f) (qu (tC (.ty (tyS t))) xj)):=jg ha (jg (AH hg2 hm2 (BE t) rfl (by cases t <;> decide) (by cases t <;> decide)) rA (aT rfl)) (aT he)
 obtain ⟨W,O,env,d,E,ee,q⟩:=h
 unfold fp1 at ee
 cases e1:f env with
 | none=>rw [e1] at ee; cases ee
 | some y =>
  rw [e1] at ee
  dsimp only [Option.bind_some] at ee
  obtain ⟨bb,rfl⟩:=zJ ee
  obtain ⟨st,e2,e3⟩:=zI (K:=X.K) ee
  refine PyProof.Rows.callWith_builtin1 (bC (hA pos pins s σ H (fun vs H1=>∃ v,vs=[v,.ty (tyS t)]∧aG H H1∧aA (tx X c) (Cl W O) H1 y v) I ⟨W,O,env,y,E,e1,fun v H1 s1 r1=>⟨v,rfl,s1,r1⟩⟩) fun us s1 vs H1 I1 r1 zz_=>?_) (aT he) (eX rfl)
  obtain ⟨v,ev,s1',rv⟩:=zz_
  subst ev
  obtain ⟨u,u2,rfl,ru,ru2⟩:=vals2 r1
  cases ru2
  exact zK I1 ru rv e2 e3 fun tk=>⟨.bl bb,H1,I1.tok _,rfl,q _ H1 s1' (Rep.bl _)⟩
theorem vh {op}(h:PD X c a f):PD X c (.BoolOp op [a] pos) f:=E7 h
theorem Fg {rest:List Expr}(ha:PD X c a f)(hb:PD X c (.BoolOp .And (b::rest) pos) g):PD X c (.BoolOp .And (a::b::rest) pos) (sX f g):=PE.imp (E8 ha hb) fun _ _ _ h=>EE h
theorem Ds {rest:List Expr}(ha:PD X c a f)(hb:PD X c (.BoolOp .Or (b::rest) pos) g):PD X c (.BoolOp .Or (a::b::rest) pos) (xv f g):=PE.imp (GF ha hb) fun _ _ _ h=>Hg h
variable {t u:FT}
theorem lR (h:PD X c e f)(he:plainT e=true:=by rfl):PDT X c e (ftB f):=PT.imp (E5 h (xw he)) fun _ _ _ h=>nP h
theorem rN (ha:PDT X c a t):PDT X c (.UnaryOp .Not a pos) (o5 t):=PT.imp (E6 ha) fun _ _ _ h=>Bb h
theorem j4 (ha:PDT X c a t):PDW X c (.BoolOp .And [a] pos) t:=pw_and1 ha
theorem BF (ha:PDT X c a t):PDW X c (.BoolOp .Or [a] pos) t:=pw_or1 ha
theorem iK {rest:List Expr}(ha:PDT X c a t)(hb:PDW X c (.BoolOp .And (b::rest) pos) u):PDW X c (.BoolOp .And (a::b::rest) pos) (jA t u):=PW.imp (pw_and ha hb) fun _ _ _ h=>Bc h
theorem Fh {rest:List Expr}(ha:PDT X c a t)(hb:PDW X c (.BoolOp .Or (b::rest) pos) u):PDW X c (.BoolOp .Or (a::b::rest) pos) (zc t u):=PW.imp (pw_or ha hb) fun _ _ _ h=>ED h
theorem PDW.pt (h:PDW X c e t):PDT X c e t:=PW.pt h
theorem lS {te:Expr}(hc:PDT X c te t)(ha:PD X c a f)(hb:PD X c b g):PD X c (.IfExp te a b pos) (sY t f g):=PE.imp (yB hc ha hb) fun _ _ _ h=>Hh h
variable {st:Stmt}{rest:List Stmt}{F G:FS}
theorem aJ:ou X c xq [] aU:=PSs.imp AJ fun _ _ _ h=>zk h
theorem ai (h1:PDS X c xq st F)(h2:ou X c xq rest G):ou X c xq (st::rest) (aw F G):=PSs.imp (yC h1 h2) fun _ _ _ h=>Bl h
theorem ao (h1:PDS X c xq st F):ou X c xq [st] F:=AK h1
theorem aD (h:PD X c e f):PDS X c xq (.Return (some e) pos) (aW f):=PS.imp (uH h) fun _ _ _ h=>Bm h
theorem d4 {f:FP (List D)}(h:PF X c e f):PDS X c xq (.Return (some e) pos) (eE f):=PS.imp (uH h) fun _ _ _ h=>zl h
theorem iz {i:Nat}{x:Str}{p2:Pos}(n:Nm X i x):PDS X c xq (.Return (some (.Name x p2)) pos) (gR i):=PS.imp (uH (iW n.hN n.hv n.hd n.hc)) fun _ _ _ h=>zm h
theorem b0 {te:Expr}{as bs:List Stmt}(hc:PDT X c te t)(ha:ou X c xq as F)(hb:ou X c xq bs G):PDS X c xq (.If te as bs pos) (cW t F G):=PS.imp (GJ hc ha hb) fun _ _ _ h=>EL h
theorem aK {i:Nat}{x:Str}{pos':Pos}(n:Nl X i x)(he:PD X c e f)(hs:mF e=true:=by rfl) :
  PDS X c xq (.Assign [.Name x pos'] e pos) (aY i f):=PS.imp (yD n.nd n.hN n.hl he (gd hs) n.hf) fun _ _ _ h=>vX h
theorem iL {i:Nat}{x:Str}{pos':Pos}{f:FP (List D)}(n:Nl X i x)(he:PF X c e f)(hs:mF e=true:=by rfl) :
  PDS X c xq (.Assign [.Name x pos'] e pos) (jB i f):=PS.imp (yD n.nd n.hN n.hl he (gd hs) n.hf) fun _ _ _ h=>Bn h
theorem vi {tg l:Expr}{tl:TE}(hl:PE X l tl):PI X tg l (EM X.K tl):=by
 intro pins s σ H R I h
 refine bC (hl pins s σ H _ I h) fun v s1 x H1 I1 r1 q1=>?_
 obtain ⟨a,e,q1⟩:=q1
 subst e
 cases r1
 rcases q1 with ⟨⟨xs,hq⟩,q⟩ | ⟨⟨xs,hq⟩,q⟩
 ·obtain ⟨its,rv,p,hz⟩:=I1.list hq
  refine wpAny_pyIter_list p.isList ?_
  refine ⟨s1.heap.objs.size,[s1.heap.objs.size],_,_,H1,rfl,I1.kept (t':=s1.toks) fun b o e=>Heap.get?_push_of_some _ e,xa a _,⟨_,Heap.get?_push_size _ rfl,rfl,rfl⟩,fun b hb=>?_,q⟩
  have e:b=s1.heap.objs.size:=by simpa using hb
  subst e
  exact I1.rj (Nat.le_refl _) (I1.hok.fresh (Nat.le_refl _))
 ·obtain ⟨its,rv,p,hz⟩:=I1.tuple hq
  refine wpAny_pyIter_tuple (show s1.heap.IsTuple a its.toArray from p) ?_
  refine ⟨s1.heap.objs.size,[s1.heap.objs.size],_,_,H1,rfl,I1.kept (t':=s1.toks) fun b o e=>Heap.get?_push_of_some _ e,uK a _,⟨_,Heap.get?_push_size _ rfl,rfl,rfl⟩,fun b hb=>?_,q⟩
  have e:b=s1.heap.objs.size:=by simpa using hb
  subst e
  exact I1.rj (Nat.le_refl _) (I1.hok.fresh (Nat.le_refl _))
theorem bh {i:Nat}{x:Str}(n:Nl X i x):PG X (.Name x pos) (gX i):=AM n.nd n.hN n.hl n.hf
theorem kq {tgE iter:Expr}{tg:FG}{gt:TG}{body:List Stmt}{fi:FE}(hp:PassesOwn (model X.prog X.w) X.A X.env X.xe)(hc:X.calm=true)(sg:gS (tx X c) tg gt)(pg:PG X tgE gt)(hi:PD X c iter fi)(hb:ou X c xq body F)
  (hs:qE iter=true:=by rfl):PDS X c xq (.For tgE iter body [] pos) (kN tg fi F) :=
 PS.imp (rm hp hc (vi hi) pg hb (eY hs)) fun _ _ _ h=>Bp sg h
theorem oA {tgE:Expr}{tg:FG}{gt:TG}{p p2:Pos}{body:List Stmt}{fs:FA}(hp:PassesOwn (model X.prog X.w) X.A X.env X.xe)(hc:X.calm=true)(sg:gS (tx X c) tg gt)(pg:PG X tgE gt)(hg:Gl X "range")(hm:X.mg "range"=none)(ha:PDA X c [a] fs)(hb:ou X c xq body F)(hst:isStar a=false:=by rfl)
  :PDS X c xq (.For tgE (.Call (.Name "range" p) [a] [] p2) body [] pos) (lh jC tg fs F) :=
 PS.imp (rm hp hc (qt hg hm ha (gJ hst)) pg hb (eY rfl)) fun _ _ _ h=>zp sg h
end
end DL
end
section
namespace DL
open PySem PySem.Spec PyProof.Rows L2 PySem.SeqAt
theorem EqAt.of_rc {A:Around}{s:Shared}{a b:Value}{k:Bool}(hf:∀ x t,a≠.float x t)(h:RcAt A s a b k)(hs:a=b→k=true):EqAt A s a b k:=fun prog w E Q hq=>by
 unfold eqBool
 refine wpAny_holding ?_
 refine wpAny_ite_split (fun hab=>?_) (fun _=>?_)
 ·have:=hs (eq_of_beq hab)
  subst this
  exact wpAny_bind (wpAny_rule (wpAny_pure hq))
 ·cases a with
  | float x t=>exact absurd rfl (hf x t)
  | _=>exact wpAny_bind (h prog w E _ (wpAny_truthy_bool hq))
theorem rO {f:D→D→Option Bool}:∀ {as bs:List D} {r:Bool},eqZ f as bs=some r→∃ e:Nat→Bool,(∀ (j:Nat) x y,as[j]?=some x→bs[j]?=some y→f x y=some (e j))∧r=(List.range (min as.length bs.length)).all e
 | [],bs,r,h=>by
  unfold eqZ at h; cases h
  exact ⟨fun _=>true,fun j x y h=>by simp at h,by simp⟩
 | a::as,[],r,h=>by
  unfold eqZ at h; cases h
  exact ⟨fun _=>true,fun j x y _ h=>by simp at h,by simp⟩
 | a::as,b::bs,r,h=>by
  unfold eqZ at h
  cases e1:f a b with
  | none=>rw [e1] at h; cases h
  | some x0 =>
   rw [e1] at h
   dsimp only [Option.bind_some] at h
   cases e2:eqZ f as bs with
   | none=>rw [e2] at h; cases h
   | some y0 =>
    rw [e2] at h; cases h
    obtain ⟨e,h1,h2⟩:=rO e2
    refine ⟨fun j=>match j with | 0=>x0 | j+1=>e j,fun j x y hx hy=>?_, ?_⟩
    ·cases j with
     | zero=>simp at hx hy; subst hx hy; exact e1
     | succ j=>exact h1 j x y (by simpa using hx) (by simpa using hy)
    ·have hl:min (a::as).length (b::bs).length=min as.length bs.length+1:=by simp only [List.length_cons]; omega
     rw [hl,List.range_succ_eq_map,List.all_cons,List.all_map,h2]
     rfl
section
variable {X:Cx}{c:Ct}{pins:List (Addr × Obj)}{σ:L2.St}{H:Hp}{s:Shared}{A:Addr→Prop}
theorem tq (I:Inv X pins σ H s):∀ (n:Nat) {x y:D} {v:V} {b:Bool},aA (tx X c) A H x v→aA (tx X c) A H y v→eqN n x y=some b→b=true
 | 0,_,_,_,_,_,_,h=>by cases h
 | n+1,x,y,v,b,rx,ry,h=>by
  have go:∀ {as bs:List D} {xs:List V} {r:Bool},az (tx X c) A H as xs→az (tx X c) A H bs xs→eqZ (eqN n) as bs=some r→r=true:=fun {as bs xs r} ra rb hz=>by
   obtain ⟨e,h1,h2⟩:=rO hz
   rw [h2,List.all_eq_true]
   intro j hj
   have hj':j<min as.length bs.length:=by simpa using hj
   have la:=ra.length
   have hx:as[j]?=some (as[j]'(by omega)):=List.getElem?_eq_getElem _
   have hy:bs[j]?=some (bs[j]'(by omega)):=List.getElem?_eq_getElem _
   obtain ⟨v1,g1,r1⟩:=ra.get hx
   obtain ⟨v2,g2,r2⟩:=rb.get hy
   rw [g1] at g2; cases g2
   exact tq I n (aA.of r1) (aA.of r2) (h1 j _ _ hx hy)
  cases x with
  | non=>cases y <;> first | (cases h; rfl) | (cases aA.mw rx; first | cases aA.bl_ ry | cases aA.dA ry | cases aA.hX ry | (obtain ⟨_,_,z,_⟩:=aA.gu ry; cases z) | (obtain ⟨_,_,z,_⟩:=aA.fz ry; cases z) | cases h)
  | bl p =>
   cases aA.bl_ rx
   cases y with
   | bl q=>cases h; cases aA.bl_ ry; simp
   | int q=>cases aA.dA ry
   | non=>cases aA.mw ry
   | str q=>cases aA.hX ry
   | tup q=>obtain ⟨_,_,z,_⟩:=aA.gu ry; cases z
   | lst q=>obtain ⟨_,_,z,_⟩:=aA.fz ry; cases z
   | ob _ _ _=>cases h
   | dct _ _=>cases h
   | exc _=>cases h
  | int p =>
   cases aA.dA rx
   cases y with
   | int q=>cases h; cases aA.dA ry; simp
   | bl q=>cases aA.bl_ ry
   | non=>cases aA.mw ry
   | str q=>cases aA.hX ry
   | tup q=>obtain ⟨_,_,z,_⟩:=aA.gu ry; cases z
   | lst q=>obtain ⟨_,_,z,_⟩:=aA.fz ry; cases z
   | ob _ _ _=>cases h
   | dct _ _=>cases h
   | exc _=>cases h
  | str p =>
   cases aA.hX rx
   cases y with
   | str q =>
    have hz:=aA.hX ry
    injection hz with hz
    have hz:=lL hz
    subst hz
    cases h; simp
   | bl q=>cases aA.bl_ ry
   | non=>cases aA.mw ry
   | int q=>cases aA.dA ry
   | tup q=>obtain ⟨_,_,z,_⟩:=aA.gu ry; cases z
   | lst q=>obtain ⟨_,_,z,_⟩:=aA.fz ry; cases z
   | ob _ _ _=>cases h
   | dct _ _=>cases h
   | exc _=>cases h
  | tup p =>
   obtain ⟨a1,xs1,rfl,q1,r1⟩:=aA.gu rx
   cases y with
   | tup q =>
    obtain ⟨a2,xs2,z,q2,r2⟩:=aA.gu ry
    cases z
    have:=I.qr q1 q2
    subst this
    replace h:(eqZ (eqN n) p q).map (fun r=>r && p.length == q.length)=some b:=h
    cases e1:eqZ (eqN n) p q with
    | none=>rw [e1] at h; cases h
    | some r =>
     rw [e1] at h; cases h
     rw [go r1 r2 e1,r1.length,r2.length]; simp
   | lst q =>
    obtain ⟨a2,xs2,z,q2,r2⟩:=aA.fz ry
    cases z
    obtain ⟨_,_,p1,_⟩:=I.tuple q1
    obtain ⟨_,_,p2,_⟩:=I.list q2
    obtain ⟨o,h1,h2,_⟩:=p1
    obtain ⟨o',n',h1',h2',_⟩:=p2
    rw [h1] at h1'; cases h1'
    rw [h2] at h2'
    injection h2' with z
    exact absurd z (by decide)
   | bl q=>cases aA.bl_ ry
   | non=>cases aA.mw ry
   | int q=>cases aA.dA ry
   | str q=>cases aA.hX ry
   | ob _ _ _=>cases h
   | dct _ _=>cases h
   | exc _=>cases h
  | lst p =>
   obtain ⟨a1,xs1,rfl,q1,r1⟩:=aA.fz rx
   cases y with
   | lst q =>
    obtain ⟨a2,xs2,z,q2,r2⟩:=aA.fz ry
    cases z
    have:=I.jH q1 q2
    subst this
    replace h:(if p.length=q.length then eqZ (eqN n) p q else some false)=some b:=h
    rw [if_pos (by rw [r1.length,r2.length])] at h
    exact go r1 r2 h
   | tup q =>
    obtain ⟨a2,xs2,z,q2,r2⟩:=aA.gu ry
    cases z
    obtain ⟨_,_,p1,_⟩:=I.tuple q2
    obtain ⟨_,_,p2,_⟩:=I.list q1
    obtain ⟨o,h1,h2,_⟩:=p1
    obtain ⟨o',n',h1',h2',_⟩:=p2
    rw [h1] at h1'; cases h1'
    rw [h2] at h2'
    injection h2' with z
    exact absurd z (by decide)
   | bl q=>cases aA.bl_ ry
   | non=>cases aA.mw ry
   | int q=>cases aA.dA ry
   | str q=>cases aA.hX ry
   | ob _ _ _=>cases h
   | dct _ _=>cases h
   | exc _=>cases h
  | ob _ _ _=>cases y <;> cases h
  | dct _ _=>cases y <;> cases h
  | exc _=>cases y <;> cases h
theorem rP {x:D}{v:V}{a:Value}(rx:aA (tx X c) A H x v)(r:RelV v a):∀ z t,a≠.float z t:=fun z t e=>by
 subst e
 cases v with
 | flt b =>
  cases x with
  | non=>cases aA.mw rx
  | bl q=>cases aA.bl_ rx
  | int q=>cases aA.dA rx
  | str q=>cases aA.hX rx
  | tup q=>obtain ⟨_,_,z,_⟩:=aA.gu rx; cases z
  | lst q=>obtain ⟨_,_,z,_⟩:=aA.fz rx; cases z
  | ob _ _ _=>obtain ⟨_,_,_,_,z,_⟩:=Rep.ob_ (show Rep (tx X c) A H (.ob _ _ _) _ from rx); cases z
  | dct _ _=>obtain ⟨_,_,z,_⟩:=Rep.B6 (show Rep (tx X c) A H (.dct _ _) _ from rx); cases z
  | exc _=>obtain ⟨_,_,z,_⟩:=Rep.Hd (show Rep (tx X c) A H (.exc _) _ from rx); cases z
 | non=>cases r
 | bl b=>cases r
 | int b=>obtain ⟨_,z⟩:=r; cases z
 | str b=>obtain ⟨_,z⟩:=r; cases z
 | byt b=>obtain ⟨_,z⟩:=r; cases z
 | ref b=>cases r
 | ty b=>cases r
def Shp (T:Tx)(A:Addr→Prop)(H:Hp)(h:Heap):D→Value→Prop
 | .non,v=>v=.none
 | .bl q,v=>v=.bool q
 | .int q,v=>∃ t,v=.int q t
 | .str q,v=>∃ t,v=.str (mkS q) t
 | .tup ds,v=>∃ a xs us,v=.ref a∧az T A H ds xs∧Vals xs us∧IsTup h a us.toArray
 | .lst ds,v=>∃ a xs us,v=.ref a∧az T A H ds xs∧Vals xs us∧PlainL h a us.toArray
 | _,_=>True
theorem rQ (I:Inv X pins σ H s):∀ {x:D} {v:V} {av:Value},aA (tx X c) A H x v→RelV v av→Shp (tx X c) A H s.heap x av
 | .non,_,_,rx,rv=>by cases aA.mw rx; cases rv; rfl
 | .bl _,_,_,rx,rv=>by cases aA.bl_ rx; cases rv; rfl
 | .int _,_,_,rx,rv=>by cases aA.dA rx; exact rv
 | .str _,_,_,rx,rv=>by cases aA.hX rx; exact rv
 | .tup _,_,_,rx,rv=>by
  obtain ⟨a,xs,rfl,q,r⟩:=aA.gu rx
  cases rv
  obtain ⟨us,v,p,_⟩:=I.tuple q
  exact ⟨a,xs,us,rfl,r,v,p⟩
 | .lst _,_,_,rx,rv=>by
  obtain ⟨a,xs,rfl,q,r⟩:=aA.fz rx
  cases rv
  obtain ⟨us,v,p,_⟩:=I.list q
  exact ⟨a,xs,us,rfl,r,v,p⟩
 | .ob _ _ _,_,_,_,_=>trivial
 | .dct _ _,_,_,_,_=>trivial
 | .exc _,_,_,_,_=>trivial
theorem wm (p q:List Nat):(p == q)=(mkS p == mkS q):=by
 by_cases hh:p=q
 ·subst hh; simp
 ·rw [beq_eq_false_iff_ne.mpr hh,beq_eq_false_iff_ne.mpr fun e=>hh (lL e)]
theorem tu {T:Tx}{ds:List D}{xs:List V}{us:List Value}(r:az T A H ds xs)(v:Vals xs us):ds.length=us.toArray.size:=by
 rw [List.size_toArray]; exact r.length.trans v.length
theorem Dt (I:Inv X pins σ H s){n:Nat}{Ar:Around}(ih:∀ {x y:D} {v u:V} {av au:Value} {b:Bool} {Ar:Around},aA (tx X c) A H x v→aA (tx X c) A H y u→RelV v av→RelV u au→eqN n x y=some b→Ar.units+n<cLine→RcAt Ar s av au b)(hu:Ar.units+(n+1)<cLine)
  {as bs:List D} {xs ys:List V} {us ws:List Value} {r:Bool} (ra:az (tx X c) A H as xs) (rb:az (tx X c) A H bs ys) (va:Vals xs us) (vb:Vals ys ws) (hz:eqZ (eqN n) as bs=some r) :
  ∃ e:Nat→Bool,(∀ j (h1:j<us.toArray.size) (h2:j<ws.toArray.size),EqAt Ar.in1 s us.toArray[j] ws.toArray[j] (e j))∧r=(List.range (min us.toArray.size ws.toArray.size)).all e:=by
 obtain ⟨e,h1,h2⟩:=rO hz
 have l1:=ra.length
 have l2:=va.length
 have l3:=rb.length
 have l4:=vb.length
 refine ⟨e,fun j hj1 hj2=>?_,by rw [h2]; simp only [List.size_toArray]; rw [l1,l2,l3,l4]⟩
 simp only [List.size_toArray] at hj1 hj2
 have hx:as[j]?=some (as[j]'(by omega)):=List.getElem?_eq_getElem _
 have hy:bs[j]?=some (bs[j]'(by omega)):=List.getElem?_eq_getElem _
 obtain ⟨v1,g1,r1⟩:=ra.get hx
 obtain ⟨v2,g2,r2⟩:=rb.get hy
 obtain ⟨u1,k1,s1⟩:=va.get g1
 obtain ⟨u2,k2,s2⟩:=vb.get g2
 have e1:us.toArray[j]=u1:=by
  have:=List.getElem?_eq_some_iff.mp k1
  obtain ⟨_,z⟩:=this
  simpa using z
 have e2:ws.toArray[j]=u2:=by
  have:=List.getElem?_eq_some_iff.mp k2
  obtain ⟨_,z⟩:=this
  simpa using z
 rw [e1,e2]
 have hn:=h1 j _ _ hx hy
 have hue:Ar.in1.units+n<cLine:=by show Ar.units+1+n<cLine; omega
 refine EqAt.of_rc (rP (c:=c) (A:=A) (aA.of r1) s1) (ih (aA.of r1) (aA.of r2) s1 s2 hn hue) fun ee=>?_
 subst ee
 have:=s1.inj s2
 subst this
 exact tq I n (aA.of r1) (aA.of r2) hn
theorem Fi {n:Nat}{Ar:Around}(go:∀ {as bs:List D} {xs ys:List V} {us ws:List Value} {r:Bool},az (tx X c) A H as xs→az (tx X c) A H bs ys→Vals xs us→Vals ys ws→eqZ (eqN n) as bs=some r→∃ e:Nat→Bool,(∀ j (h1:j<us.toArray.size) (h2:j<ws.toArray.size),EqAt Ar.in1 s us.toArray[j] ws.toArray[j] (e j))∧r=(List.range (min us.toArray.size ws.toArray.size)).all e)(hu0:Ar.units<cLine){x y:D}{av au:Value}{b:Bool}(sx:Shp (tx X c) A H s.heap x av)(sy:Shp (tx X c) A H s.heap y au)(h:eqN (n+1) x y=some b):RcAt Ar s av au b:=by
 cases x with
 | non =>
  cases sx
  cases y with
  | non=>cases h; cases sy; exact .none_none
  | bl q=>cases h; cases sy; exact .none_bool _
  | int q=>cases h; obtain ⟨t2,rfl⟩:=sy; exact .none_int _ _
  | str q=>cases h; obtain ⟨t2,rfl⟩:=sy; exact .none_str _ _
  | tup q=>cases h; obtain ⟨a2,xs2,us2,rfl,r2,v2,p2⟩:=sy; exact .none_tuple p2 hu0
  | lst q=>cases h; obtain ⟨a2,xs2,us2,rfl,r2,v2,p2⟩:=sy; exact .none_list p2.isList hu0
  | ob _ _ _=>cases h
  | dct _ _=>cases h
  | exc _=>cases h
 | bl p =>
  cases sx
  cases y with
  | non=>cases h; cases sy; exact .bool_none _
  | bl q=>cases h; cases sy; exact .bool_bool _ _
  | int q=>cases h; obtain ⟨t2,rfl⟩:=sy; exact .bool_int _ _ _
  | str q=>cases h; obtain ⟨t2,rfl⟩:=sy; exact .bool_str _ _ _
  | tup q=>cases h; obtain ⟨a2,xs2,us2,rfl,r2,v2,p2⟩:=sy; exact .bool_tuple _ p2 hu0
  | lst q=>cases h; obtain ⟨a2,xs2,us2,rfl,r2,v2,p2⟩:=sy; exact .bool_list _ p2.isList hu0
  | ob _ _ _=>cases h
  | dct _ _=>cases h
  | exc _=>cases h
 | int p =>
  obtain ⟨t1,rfl⟩:=sx
  cases y with
  | non=>cases h; cases sy; exact .int_none _ _
  | bl q=>cases h; cases sy; exact .int_bool _ _ _
  | int q=>cases h; obtain ⟨t2,rfl⟩:=sy; exact .int_int _ _ _ _
  | str q=>cases h; obtain ⟨t2,rfl⟩:=sy; exact .int_str _ _ _ _
  | tup q=>cases h; obtain ⟨a2,xs2,us2,rfl,r2,v2,p2⟩:=sy; exact .int_tuple _ _ p2 hu0
  | lst q=>cases h; obtain ⟨a2,xs2,us2,rfl,r2,v2,p2⟩:=sy; exact .int_list _ _ p2.isList hu0
  | ob _ _ _=>cases h
  | dct _ _=>cases h
  | exc _=>cases h
 | str p =>
  obtain ⟨t1,rfl⟩:=sx
  cases y with
  | non=>cases h; cases sy; exact .str_none _ _
  | bl q=>cases h; cases sy; exact .str_bool _ _ _
  | int q=>cases h; obtain ⟨t2,rfl⟩:=sy; exact .str_int _ _ _ _
  | str q =>
   cases h; obtain ⟨t2,rfl⟩:=sy
   rw [wm]
   exact .str_str _ _ _ _
  | tup q=>cases h; obtain ⟨a2,xs2,us2,rfl,r2,v2,p2⟩:=sy; exact .str_tuple _ _ p2 hu0
  | lst q=>cases h; obtain ⟨a2,xs2,us2,rfl,r2,v2,p2⟩:=sy; exact .str_list _ _ p2.isList hu0
  | ob _ _ _=>cases h
  | dct _ _=>cases h
  | exc _=>cases h
 | tup p =>
  obtain ⟨a1,xs1,us1,rfl,r1,v1,p1⟩:=sx
  cases y with
  | non=>cases h; cases sy; exact .tuple_none p1 hu0
  | bl q=>cases h; cases sy; exact .tuple_bool _ p1 hu0
  | int q=>cases h; obtain ⟨t2,rfl⟩:=sy; exact .tuple_int _ _ p1 hu0
  | str q=>cases h; obtain ⟨t2,rfl⟩:=sy; exact .tuple_str _ _ p1 hu0
  | tup q =>
   obtain ⟨a2,xs2,us2,rfl,r2,v2,p2⟩:=sy
   replace h:(eqZ (eqN n) p q).map (fun r=>r && p.length == q.length)=some b:=h
   cases e1:eqZ (eqN n) p q with
   | none=>rw [e1] at h; cases h
   | some r =>
    rw [e1] at h; cases h
    obtain ⟨e,g1,g2⟩:=go r1 r2 v1 v2 e1
    rw [g2,tu r1 v1,tu r2 v2]
    exact .tuples p1 p2 hu0 g1
  | lst q=>cases h; obtain ⟨a2,xs2,us2,rfl,r2,v2,p2⟩:=sy; exact .tuple_list p1 p2.isList hu0
  | ob _ _ _=>cases h
  | dct _ _=>cases h
  | exc _=>cases h
 | lst p =>
  obtain ⟨a1,xs1,us1,rfl,r1,v1,p1⟩:=sx
  cases y with
  | non=>cases h; cases sy; exact .list_none p1.isList hu0
  | bl q=>cases h; cases sy; exact .list_bool _ p1.isList hu0
  | int q=>cases h; obtain ⟨t2,rfl⟩:=sy; exact .list_int _ _ p1.isList hu0
  | str q=>cases h; obtain ⟨t2,rfl⟩:=sy; exact .list_str _ _ p1.isList hu0
  | tup q=>cases h; obtain ⟨a2,xs2,us2,rfl,r2,v2,p2⟩:=sy; exact .list_tuple p1.isList p2 hu0
  | lst q =>
   obtain ⟨a2,xs2,us2,rfl,r2,v2,p2⟩:=sy
   replace h:(if p.length=q.length then eqZ (eqN n) p q else some false)=some b:=h
   have hl1:=tu r1 v1
   have hl2:=tu r2 v2
   by_cases hl:p.length=q.length
   ·rw [if_pos hl] at h
    obtain ⟨e,g1,g2⟩:=go r1 r2 v1 v2 h
    have hm:us1.toArray.size=us2.toArray.size:=hl1.symm.trans (hl.trans hl2)
    rw [g2, ← hm,Nat.min_self]
    exact .lists p1.isList p2.isList hm hu0 g1
   ·rw [if_neg hl] at h; cases h
    exact .lists_lengths p1.isList p2.isList (by rw [← hl1, ← hl2]; exact bne_iff_ne.mpr hl) hu0
  | ob _ _ _=>cases h
  | dct _ _=>cases h
  | exc _=>cases h
 | ob _ _ _=>cases y <;> cases h
 | dct _ _=>cases y <;> cases h
 | exc _=>cases y <;> cases h
theorem zL (I:Inv X pins σ H s):∀ (n:Nat) {x y:D} {v u:V} {av au:Value} {b:Bool} {Ar:Around},aA (tx X c) A H x v→aA (tx X c) A H y u→RelV v av→RelV u au→eqN n x y=some b→Ar.units+n<cLine→RcAt Ar s av au b
 | 0,_,_,_,_,_,_,_,_,_,_,_,_,h,_=>by cases h
 | n+1,_,_,_,_,_,_,_,_,rx,ry,rv,ru,h,hu=>Fi (X:=X) (c:=c) (A:=A) (H:=H) (Dt I (zL I n) hu) (Nat.lt_of_le_of_lt (Nat.le_add_right _ _) hu) (rQ I rx rv) (rQ I ry ru) h
theorem zM {n:Nat}{Ar:Around}(go:∀ {as bs:List D} {xs ys:List V} {us ws:List Value} {r:Bool},az (tx X c) A H as xs→az (tx X c) A H bs ys→Vals xs us→Vals ys ws→eqZ (eqN n) as bs=some r→∃ e:Nat→Bool,(∀ j (h1:j<us.toArray.size) (h2:j<ws.toArray.size),EqAt Ar.in1 s us.toArray[j] ws.toArray[j] (e j))∧r=(List.range (min us.toArray.size ws.toArray.size)).all e)(hu0:Ar.units<cLine){x y:D}{av au:Value}{b:Bool}(sx:Shp (tx X c) A H s.heap x av)(sy:Shp (tx X c) A H s.heap y au)(h:eqN (n+1) x y=some b):RcNeAt Ar s av au (!b):=by
 cases x with
 | non =>
  cases sx
  cases y with
  | non=>cases h; cases sy; exact .none_none
  | bl q=>cases h; cases sy; exact .none_bool _
  | int q=>cases h; obtain ⟨t2,rfl⟩:=sy; exact .none_int _ _
  | str q=>cases h; obtain ⟨t2,rfl⟩:=sy; exact .none_str _ _
  | tup q=>cases h; obtain ⟨a2,xs2,us2,rfl,r2,v2,p2⟩:=sy; exact .none_tuple p2 hu0
  | lst q=>cases h; obtain ⟨a2,xs2,us2,rfl,r2,v2,p2⟩:=sy; exact .none_list p2.isList hu0
  | ob _ _ _=>cases h
  | dct _ _=>cases h
  | exc _=>cases h
 | bl p =>
  cases sx
  cases y with
  | non=>cases h; cases sy; exact .bool_none _
  | bl q=>cases h; cases sy; exact .bool_bool _ _
  | int q=>cases h; obtain ⟨t2,rfl⟩:=sy; exact .bool_int _ _ _
  | str q=>cases h; obtain ⟨t2,rfl⟩:=sy; exact .bool_str _ _ _
  | tup q=>cases h; obtain ⟨a2,xs2,us2,rfl,r2,v2,p2⟩:=sy; exact .bool_tuple _ p2 hu0
  | lst q=>cases h; obtain ⟨a2,xs2,us2,rfl,r2,v2,p2⟩:=sy; exact .bool_list _ p2.isList hu0
  | ob _ _ _=>cases h
  | dct _ _=>cases h
  | exc _=>cases h
 | int p =>
  obtain ⟨t1,rfl⟩:=sx
  cases y with
  | non=>cases h; cases sy; exact .int_none _ _
  | bl q=>cases h; cases sy; exact .int_bool _ _ _
  | int q=>cases h; obtain ⟨t2,rfl⟩:=sy; exact .int_int _ _ _ _
  | str q=>cases h; obtain ⟨t2,rfl⟩:=sy; exact .int_str _ _ _ _
  | tup q=>cases h; obtain ⟨a2,xs2,us2,rfl,r2,v2,p2⟩:=sy; exact .int_tuple _ _ p2 hu0
  | lst q=>cases h; obtain ⟨a2,xs2,us2,rfl,r2,v2,p2⟩:=sy; exact .int_list _ _ p2.isList hu0
  | ob _ _ _=>cases h
  | dct _ _=>cases h
  | exc _=>cases h
 | str p =>
  obtain ⟨t1,rfl⟩:=sx
  cases y with
  | non=>cases h; cases sy; exact .str_none _ _
  | bl q=>cases h; cases sy; exact .str_bool _ _ _
  | int q=>cases h; obtain ⟨t2,rfl⟩:=sy; exact .str_int _ _ _ _
  | str q =>
   cases h; obtain ⟨t2,rfl⟩:=sy
   rw [wm]
   exact .str_str _ _ _ _
  | tup q=>cases h; obtain ⟨a2,xs2,us2,rfl,r2,v2,p2⟩:=sy; exact .str_tuple _ _ p2 hu0
  | lst q=>cases h; obtain ⟨a2,xs2,us2,rfl,r2,v2,p2⟩:=sy; exact .str_list _ _ p2.isList hu0
  | ob _ _ _=>cases h
  | dct _ _=>cases h
  | exc _=>cases h
 | tup p =>
  obtain ⟨a1,xs1,us1,rfl,r1,v1,p1⟩:=sx
  cases y with
  | non=>cases h; cases sy; exact .tuple_none p1 hu0
  | bl q=>cases h; cases sy; exact .tuple_bool _ p1 hu0
  | int q=>cases h; obtain ⟨t2,rfl⟩:=sy; exact .tuple_int _ _ p1 hu0
  | str q=>cases h; obtain ⟨t2,rfl⟩:=sy; exact .tuple_str _ _ p1 hu0
  | tup q =>
   obtain ⟨a2,xs2,us2,rfl,r2,v2,p2⟩:=sy
   replace h:(eqZ (eqN n) p q).map (fun r=>r && p.length == q.length)=some b:=h
   cases e1:eqZ (eqN n) p q with
   | none=>rw [e1] at h; cases h
   | some r =>
    rw [e1] at h; cases h
    obtain ⟨e,g1,g2⟩:=go r1 r2 v1 v2 e1
    rw [g2,tu r1 v1,tu r2 v2]
    exact .tuples p1 p2 hu0 g1
  | lst q=>cases h; obtain ⟨a2,xs2,us2,rfl,r2,v2,p2⟩:=sy; exact .tuple_list p1 p2.isList hu0
  | ob _ _ _=>cases h
  | dct _ _=>cases h
  | exc _=>cases h
 | lst p =>
  obtain ⟨a1,xs1,us1,rfl,r1,v1,p1⟩:=sx
  cases y with
  | non=>cases h; cases sy; exact .list_none p1.isList hu0
  | bl q=>cases h; cases sy; exact .list_bool _ p1.isList hu0
  | int q=>cases h; obtain ⟨t2,rfl⟩:=sy; exact .list_int _ _ p1.isList hu0
  | str q=>cases h; obtain ⟨t2,rfl⟩:=sy; exact .list_str _ _ p1.isList hu0
  | tup q=>cases h; obtain ⟨a2,xs2,us2,rfl,r2,v2,p2⟩:=sy; exact .list_tuple p1.isList p2 hu0
  | lst q =>
   obtain ⟨a2,xs2,us2,rfl,r2,v2,p2⟩:=sy
   replace h:(if p.length=q.length then eqZ (eqN n) p q else some false)=some b:=h
   have hl1:=tu r1 v1
   have hl2:=tu r2 v2
   by_cases hl:p.length=q.length
   ·rw [if_pos hl] at h
    obtain ⟨e,g1,g2⟩:=go r1 r2 v1 v2 h
    have hm:us1.toArray.size=us2.toArray.size:=hl1.symm.trans (hl.trans hl2)
    rw [g2, ← hm,Nat.min_self]
    exact .lists p1.isList p2.isList hm hu0 g1
   ·rw [if_neg hl] at h; cases h
    exact .lists_lengths p1.isList p2.isList (by rw [← hl1, ← hl2]; exact bne_iff_ne.mpr hl) hu0
  | ob _ _ _=>cases h
  | dct _ _=>cases h
  | exc _=>cases h
 | ob _ _ _=>cases y <;> cases h
 | dct _ _=>cases y <;> cases h
 | exc _=>cases y <;> cases h
theorem BG (I:Inv X pins σ H s):∀ (n:Nat) {x y:D} {v u:V} {av au:Value} {b:Bool} {Ar:Around},aA (tx X c) A H x v→aA (tx X c) A H y u→RelV v av→RelV u au→eqN n x y=some b→Ar.units+n<cLine→RcNeAt Ar s av au (!b)
 | 0,_,_,_,_,_,_,_,_,_,_,_,_,h,_=>by cases h
 | n+1,_,_,_,_,_,_,_,_,rx,ry,rv,ru,h,hu=>zM (X:=X) (c:=c) (A:=A) (H:=H) (Dt I (zL I n) hu) (Nat.lt_of_le_of_lt (Nat.le_add_right _ _) hu) (rQ I rx rv) (rQ I ry ru) h
def Fj (T:Tx)(neg:Bool):R2:=fun v u H Q=>∃ A x y b,aA T A H x v∧aA T A H y u∧eqN 100 x y=some b∧Q (.bl (if neg then !b else b)) H
theorem zN {k:Nat}(hr:el k X.A):OpR X (compareOp .Eq) (Fj (tx X c) false):=by
 intro pins s σ H x y v u Q I rx ry h
 obtain ⟨A,dx,dy,b,r1,r2,e,q⟩:=h
 exact zL I 100 r1 r2 rx ry e (by have:=hr.un; omega) _ _ _ _ ⟨.bl b,H,I,rfl,q⟩
theorem Fp {k:Nat}(hr:el k X.A):OpR X (compareOp .NotEq) (Fj (tx X c) true):=by
 intro pins s σ H x y v u Q I rx ry h
 obtain ⟨A,dx,dy,b,r1,r2,e,q⟩:=h
 exact BG I 100 r1 r2 rx ry e (by have:=hr.un; omega) _ _ _ _ ⟨.bl (!b),H,I,rfl,q⟩
theorem vj {T:Tx}(neg:Bool)(A:Addr→Prop)(H0 H:Hp)(x y:D)(v u:V)(d:D)(Q:VK)(nw:Nw A H)(rx:kR T A H0 H x v)(ry:kR T A H0 H y u)(e:eqF neg x y=some d)
  (k:∀ w H',aG H H'→kD T A H H' d w→Q w H'):Fj T neg v u H Q:=by
 unfold eqF at e
 cases e1:eqN 100 x y with
 | none=>rw [e1] at e; cases e
 | some b=>rw [e1] at e; cases e; exact ⟨A,x,y,b,rx,ry,e1,k _ H (aG.refl _) (Rep.bl _)⟩
variable {a b e:Expr}{f g:FE}{pos:Pos}
theorem tw {k:Nat}(hr:el k X.A)(ha:PR X c a f)(hb:PR X c b g):PD X c (.Compare a [.Eq] [b] pos) (fp2 (eqF false) f g):=zE (zN hr) (vj false) ha hb (kY _)
theorem bJ {k:Nat}(hr:el k X.A)(ha:PR X c a f)(hb:PR X c b g):PDT X c (.Compare a [.Eq] [b] pos) (ftB (fp2 (eqF false) f g)):=ko (zN hr) (vj false) ha hb (kY _)
theorem Fq {k:Nat}(hr:el k X.A)(ha:PR X c a f)(hb:PR X c b g):PDT X c (.Compare a [.NotEq] [b] pos) (ftB (fp2 (eqF true) f g)):=ko (Fp hr) (vj true) ha hb (kY _)
theorem BH {T:Tx}(neg:Bool)(A:Addr→Prop)(H0 H:Hp)(x:D)(v:V)(d:D)(Q:VK)(nw:Nw A H)(rx:kR T A H0 H x v)(e:gZ neg x=some d)(k:∀ w H',aG H H'→kD T A H H' d w→Q w H') :
  Q (.bl (if neg then !decide (v=.non) else decide (v=.non))) H:=by
 have hv:∃ b,(if neg then !decide (v=V.non) else decide (v=V.non))=b∧d=.bl b:=by
  cases x with
  | non=>cases e; cases aA.mw rx; cases neg <;> exact ⟨_,rfl,by simp⟩
  | bl q=>cases e; cases aA.bl_ rx; cases neg <;> exact ⟨_,rfl,by simp⟩
  | int q=>cases e; cases aA.dA rx; cases neg <;> exact ⟨_,rfl,by simp⟩
  | str q=>cases e; cases aA.hX rx; cases neg <;> exact ⟨_,rfl,by simp⟩
  | tup q=>cases e; obtain ⟨_,_,rfl,_⟩:=aA.gu rx; cases neg <;> exact ⟨_,rfl,by simp⟩
  | lst q=>cases e; obtain ⟨_,_,rfl,_⟩:=aA.fz rx; cases neg <;> exact ⟨_,rfl,by simp⟩
  | ob _ _ _=>cases e; obtain ⟨_,_,_,_,rfl,_⟩:=Rep.ob_ (show Rep T A H (.ob _ _ _) _ from rx); cases neg <;> exact ⟨_,rfl,by simp⟩
  | dct _ _=>cases e; obtain ⟨_,_,rfl,_⟩:=Rep.B6 (show Rep T A H (.dct _ _) _ from rx); cases neg <;> exact ⟨_,rfl,by simp⟩
  | exc _=>cases e; obtain ⟨_,_,rfl,_⟩:=Rep.Hd (show Rep T A H (.exc _) _ from rx); cases neg <;> exact ⟨_,rfl,by simp⟩
 obtain ⟨b,h1,rfl⟩:=hv
 rw [h1]
 exact k _ H (aG.refl _) (Rep.bl _)
variable {j:Nat}{p2:Pos}
theorem Du {t:TE}{T:Tx}{f:FE}(h:∀ σ H Q,tP T (kD T) f σ H Q→t σ H Q){σ:L2.St}{H:Hp}{Q:Bool→Hp→Prop}(q:tP T kB (ftB f) σ H Q):tB t σ H Q:=h _ _ _ (nP q)
theorem zO {T:Tx}{neg:Bool}{σ:L2.St}{H:Hp}{Q:VK}(h:tP T (kD T) (fp1 (gZ neg) f) σ H Q):tP T (kR T) f σ H fun x H1=>Q (.bl (if neg then !decide (x=.non) else decide (x=.non))) H1 :=
 sW (ρ:=kR T) (γ3:=V) (r:=fun x H1 (Q:VK)=>Q (.bl (if neg then !decide (x=.non) else decide (x=.non))) H1) (BH neg) h
theorem rR (ha:PR X c a f):PDT X c (.Compare a [.Is] [.Constant .none j p2] pos) (ftB (fp1 (gZ false) f)):=PT.imp (yA (E4 ha)) fun _ _ _ h=>Du (fun _ _ _ h=>zO (neg:=false) h) h
theorem iA (ha:PR X c a f):PDT X c (.Compare a [.IsNot] [.Constant .none j p2] pos) (ftB (fp1 (gZ true) f)):=PT.imp (yA (AI ha)) fun _ _ _ h=>Du (fun _ _ _ h=>zO (neg:=true) h) h
end
end DL
end
section
namespace DL
open PySem PySem.Spec PyProof.Rows L2
theorem qH (i:Int)(n:Nat):max 0 (min (if i<0 then i+(n:Int) else i) n)=(((if i<0 then (i+(n:Int)).toNat else min i.toNat n):Nat):Int):=by
 by_cases h:i<0
 ·simp only [if_pos h]; omega
 ·simp only [if_neg h]; omega
theorem vk (lo hi:Option Int)(n:Nat):Builtin.Str.strSliceIndices lo hi 1 n=(List.range (HT.sIx n n hi - HT.sIx n 0 lo)).map fun k=>HT.sIx n 0 lo+k:=by
 unfold Builtin.Str.strSliceIndices
 have hlo:((match lo with | none=>(0:Int) | some i=>max 0 (min (if i<0 then i+(n:Int) else i) n)):Int)=((HT.sIx n 0 lo:Nat):Int):=by
  cases lo with
  | none=>rfl
  | some i=>exact qH i n
 have hhi:((match hi with | none=>(n:Int) | some i=>max 0 (min (if i<0 then i+(n:Int) else i) n)):Int)=((HT.sIx n n hi:Nat):Int):=by
  cases hi with
  | none=>rfl
  | some i=>exact qH i n
 have h1:(1:Int) > 0:=by decide
 simp only [h1,if_true]
 have go:∀ {a b a' b':Int},a=a'→b=b'→sliceRange a b 1=sliceRange a' b' 1:=fun h1 h2=>by rw [h1,h2]
 refine Eq.trans (go hlo hhi) ?_
 unfold sliceRange
 simp only [h1,if_true,Int.ediv_one,Int.one_mul]
 have hc:(if ((HT.sIx n 0 lo:Nat):Int)<((HT.sIx n n hi:Nat):Int) then ((HT.sIx n n hi:Nat):Int) - ((HT.sIx n 0 lo:Nat):Int)+1 - 1 else 0).toNat=HT.sIx n n hi - HT.sIx n 0 lo:=by
  split <;> omega
 rw [hc]
 apply List.map_congr_left
 intro k _
 omega
theorem xG (z:List Nat)(i k:Nat):((List.range k).map fun j=>i+j).filterMap (fun x=>z.toArray[x]?)=(z.drop i).take k:=by
 induction k with
 | zero=>simp
 | succ k ih =>
  rw [List.range_succ,List.map_append,List.filterMap_append,ih,List.take_add_one]
  congr 1
  rw [List.getElem?_drop]
  cases h:z[i+k]? with
  | none=>simp [h]
  | some v=>simp [h]
theorem xH (z:List Nat)(lo hi:Option Int):Txt.slice (mkS z) lo hi=mkS (cutD z lo hi):=by
 unfold Txt.slice cutD
 rw [hV,vk]
 have e:(List.map (fun k=>HT.sIx z.length 0 lo+k) (List.range (HT.sIx z.length z.length hi - HT.sIx z.length 0 lo))).filterMap (fun x=>(mkS z).cps[x]?)=(z.drop (HT.sIx z.length 0 lo)).take (HT.sIx z.length z.length hi - HT.sIx z.length 0 lo):=xG z _ _
 by_cases c:((1:Int) == 1 && (List.map (fun k=>HT.sIx z.length 0 lo+k) (List.range (HT.sIx z.length z.length hi - HT.sIx z.length 0 lo))).length == z.length)=true
 ·rw [if_pos c]
  have h:HT.sIx z.length z.length hi - HT.sIx z.length 0 lo=z.length:=by simpa using c
  have hle:=HT.yU z.length z.length (Nat.le_refl _) hi
  have h0:HT.sIx z.length 0 lo=0∨z=[]:=by
   by_cases hz:z.length=0
   ·exact .inr (List.length_eq_zero_iff.mp hz)
   ·exact .inl (by omega)
  rcases h0 with h0 | h0
  ·rw [h0] at h ⊢
   rw [h,List.drop_zero,List.take_of_length_le (Nat.le_refl _)]
  ·subst h0; simp
 ·rw [if_neg c,e]
section
variable {X:Cx}{c:Ct}{xq:XQ}{a b e:Expr}{f g:FE}{pos:Pos}
theorem Fs:SlR X Hk:=by
 intro pins s σ H x v vl vu lo hi sl Q I rx hs pl pu h
 obtain ⟨z,rfl,hz,q⟩:=h
 obtain ⟨t,rfl⟩:=rx
 have hz':(mkS z).length≤sizeLine:=small (by rw [hV]; exact hz)
 refine ⟨"str",_,PySem.F.slot_str_getitem.lookup,typeIs_str _ _ _, ?_⟩
 rw [← xH] at q
 cases pl with
 | none =>
  cases pu with
  | none=>exact wpAny_getItem_str_slice (l:=none) (u:=none) (st:=none) hs rfl (post_val_or_str ⟨Nat.le_trans (Txt.slice_le _ _ _) hz',fun t' k=>⟨.str _,H,I.tok _,⟨_,rfl⟩,q⟩⟩)
  | int j uj=>exact wpAny_getItem_str_slice (l:=none) (u:=some (j,uj)) (st:=none) hs rfl (post_val_or_str ⟨Nat.le_trans (Txt.slice_le _ _ _) hz',fun t' k=>⟨.str _,H,I.tok _,⟨_,rfl⟩,q⟩⟩)
 | int i ui =>
  cases pu with
  | none=>exact wpAny_getItem_str_slice (l:=some (i,ui)) (u:=none) (st:=none) hs rfl (post_val_or_str ⟨Nat.le_trans (Txt.slice_le _ _ _) hz',fun t' k=>⟨.str _,H,I.tok _,⟨_,rfl⟩,q⟩⟩)
  | int j uj=>exact wpAny_getItem_str_slice (l:=some (i,ui)) (u:=some (j,uj)) (st:=none) hs rfl (post_val_or_str ⟨Nat.le_trans (Txt.slice_le _ _ _) hz',fun t' k=>⟨.str _,H,I.tok _,⟨_,rfl⟩,q⟩⟩)
theorem Jw:SlR X (Hl X.K):=B5.or (Eo.or Fs)
theorem lT {lo hi:Option Expr}{fl fh:FO}{p2:Pos}(ha:PR X c a f)(hl:PDO X c lo fl)(hh:PDO X c hi fh):PD X c (.Subscript a (.Slice lo hi none p2) pos) (mB slD f fl fh):=PE.imp (yW Jw ha hl hh) fun _ _ _ h=>EJ EK h
structure DefX (X:Cx)(N:List Str)(sc:Scope):Prop where
 hN:X.N=N
 hsc:X.env.scope=sc
 calm:X.calm=true
 nd:N.Nodup
structure Ft (X:Cx)(N:List Str)(sc:Scope):Prop extends DefX X N sc where
 fn:∀ x,X.fn x=true
 never:PassesOwn (model X.prog X.w) X.A X.env X.xe
section
variable {N:List Str}{sc:Scope}
theorem DefX.nm (d:DefX X N sc){i:Nat}{x:Str}(h:N[i]?=some x)(hv:Vis sc x)(hd:(x == ("__debug__":Str))=false:=by decide +kernel)(hc:(x == ("__classdict__":Str))=false:=by decide +kernel):Nm X i x:=⟨by rw [d.hN]; exact h,by rw [d.hsc]; exact hv,hd,hc⟩
theorem DefX.gl (d:DefX X N sc){x:Str}(h:sc.names.lookup x=some .globalImplicit):Gl X x:=by
 show X.env.scope.names.lookup x=_
 rw [d.hsc]; exact h
theorem DefX.nlc (d:DefX X N sc){i:Nat}{x:Str}(h:N[i]?=some x)(hl:sc.names.lookup x=some .local):Nl X i x:=⟨by rw [d.hN]; exact d.nd,by rw [d.hN]; exact h,by rw [d.hsc]; exact .inl hl,by rw [d.hsc]; exact .inr hl⟩
theorem Ft.nl (d:Ft X N sc){i:Nat}{x:Str}(h:N[i]?=some x)(hl:Loc sc x):Nl X i x:=⟨by rw [d.hN]; exact d.nd,by rw [d.hN]; exact h,by rw [d.hsc]; exact hl,.inl (d.fn x)⟩
end
def jS (scope sc:Scope):Scope:={ scope with names:=scope.names.map fun (n,k)=>if (k == NameKind.free && sc.kind == .function && sc.names.lookup n == some .cell) then (n,NameKind.cell) else (n,k) }
theorem DefX.comp {N:List Str}{sc scope:Scope}{N':List Str}{cl:List (Str × Addr)}{C:Addr}{s2:Shared}{H2:Hp}{fp:List Addr}(d:DefX X N sc)(hN':N'.Nodup):DefX (aQ X scope cl N' C s2 H2 fp) N' (jS scope sc):=by
 refine ⟨rfl, ?_,d.calm,hN'⟩
 show (compEnvC scope cl C X.env).scope=_
 rw [← d.hsc]
 rfl
theorem cD:jD X [] (tP (tx X c) kB bW):=jD.imp zt fun σ H Q h=>by
 obtain ⟨W,O,env,b,E,e,q⟩:=h
 cases e
 exact q _ H (aG.refl _) rfl
theorem rS {t:FT}(h:PDT X c e t):jD X [e] (tP (tx X c) kB t):=zu h
theorem zP {K:PySem.W.Frag}{nt n:Nat}{t:TGs}(h:∀ vs σ H Q,t vs σ H Q→t vs σ H fun σ2 H2=>((∀ j:Nat,nt≤j→σ2[j]?=σ[j]?)∧σ2.length=σ.length)∧Q σ2 H2):mE nt (AN K n t):=fun x σ H Q q=>by
 obtain ⟨a,xs,e1,e2,e3,e4⟩:=q
 exact ⟨a,xs,e1,e2,e3,h _ _ _ _ e4⟩
theorem xI {nt:Nat}:∀ vs σ H Q,uI vs σ H Q→uI vs σ H fun σ2 H2=>((∀ j:Nat,nt≤j→σ2[j]?=σ[j]?)∧σ2.length=σ.length)∧Q σ2 H2:=fun vs σ H Q h=>⟨h.1,⟨fun _ _=>rfl,rfl⟩,h.2⟩
theorem oB {nt i:Nat}{t:TGs}(hi:i<nt)(h:∀ vs σ H Q,t vs σ H Q→t vs σ H fun σ2 H2=>((∀ j:Nat,nt≤j→σ2[j]?=σ[j]?)∧σ2.length=σ.length)∧Q σ2 H2)(mono:∀ vs σ H (Q Q':L2.St→Hp→Prop),(∀ σ H,Q σ H→Q' σ H)→t vs σ H Q→t vs σ H Q') :
  ∀ vs σ H Q,n5 (gX i) t vs σ H Q→n5 (gX i) t vs σ H fun σ2 H2=>((∀ j:Nat,nt≤j→σ2[j]?=σ[j]?)∧σ2.length=σ.length)∧Q σ2 H2:=fun vs σ H Q q=>by
 obtain ⟨v,r,e,q⟩:=q
 refine ⟨v,r,e,mono _ _ _ _ _ (fun σ2 H2 z=>?_) (h _ _ _ _ q)⟩
 exact ⟨⟨fun j hj=>(z.1.1 j hj).trans (List.getElem?_set_ne (by omega)),z.1.2.trans (by simp)⟩,z.2⟩
theorem qI:∀ vs σ H (Q Q':L2.St→Hp→Prop),(∀ σ H,Q σ H→Q' σ H)→uI vs σ H Q→uI vs σ H Q':=fun _ _ _ _ _ w h=>⟨h.1,w _ _ h.2⟩
theorem vm {i:Nat}{t:TGs}(mono:∀ vs σ H (Q Q':L2.St→Hp→Prop),(∀ σ H,Q σ H→Q' σ H)→t vs σ H Q→t vs σ H Q'):∀ vs σ H (Q Q':L2.St→Hp→Prop),(∀ σ H,Q σ H→Q' σ H)→n5 (gX i) t vs σ H Q→n5 (gX i) t vs σ H Q':=fun vs σ H Q Q' w h=>by
 obtain ⟨v,r,e,q⟩:=h
 exact ⟨v,r,e,mono _ _ _ _ _ w q⟩
theorem tD {K:PySem.W.Frag}{nt n i j:Nat}(hi:i<nt)(hj:j<nt):mE nt (AN K n (n5 (gX i) (n5 (gX j) uI))):=zP (oB hi (oB hj xI qI) (vm qI))
variable {x:Str}{px:Pos}{iter elt tg:Expr}{ifs:List Expr}{scope sc:Scope}{N N':List Str}{nt:Nat}{cap:List Nat}{fi fe:FE}{ft:FT}{tgf:FG}{gt:TG}
theorem d5 (d:DefX X N sc)(chk:iJ sc scope N N' nt cap)(hcap:cap.Nodup)(hN':N'.Nodup)(hi:PR X c iter fi)
  (hg:∀ cl C s2 H2 fp,DefX (aQ X scope cl N' C s2 H2 fp) N' (jS scope sc)→PG (aQ X scope cl N' C s2 H2 fp) tg gt) (hge:mE nt gt) (sg:gS (tx X c) tgf gt)
  (ht:∀ cl C s2 H2 fp,DefX (aQ X scope cl N' C s2 H2 fp) N' (jS scope sc)→jD (aQ X scope cl N' C s2 H2 fp) ifs (tP (tx X c) kB ft))
  (he:∀ cl C s2 H2 fp,DefX (aQ X scope cl N' C s2 H2 fp) N' (jS scope sc)→PE (aQ X scope cl N' C s2 H2 fp) elt (tP (tx X c) (kD (tx X c)) fe))
  (hs:qE iter=true:=by rfl):PF X c (.ListComp elt [⟨tg,iter,ifs,0⟩] scope pos) (cu nt cap tgf fi ft fe) :=
 PE.imp (w5 (tt:=tP (tx X c) kB ft) (te:=tP (tx X c) (kD (tx X c)) fe) d.hsc d.hN chk d.calm (vi hi) (fun cl C s2 H2 fp=>hg cl C s2 H2 fp (d.comp hN')) hge (fun cl C s2 H2 fp=>ht cl C s2 H2 fp (d.comp hN')) (fun cl C s2 H2 fp=>he cl C s2 H2 fp (d.comp hN')) (eY hs)) fun _ _ _ h=>vZ sg hcap h
end
section
variable {P:Program}{w:World}{K:PySem.W.Frag}{mg:Str→Option Value}{base:Heap}{c:Ct}
structure BodyOk (P:Program)(w:World)(K:PySem.W.Frag)(mg:Str→Option Value)(base:Heap)(c:Ct)(N:List Str)(st:Stmt)(k:Nat)(F:FS):Prop where
 ok:∀ X:Cx,X.prog=P→X.w=w→X.K=K→X.mg=mg→X.base=base→Ft X N (ag st)→el k X.A→ou X c (fun _ _ _=>False) (aq st) F
theorem dE {x qual:Str}{st:Stmt}{fa:Addr}{fd:FuncData}{N ps:List Str}{k:Nat}{F:FS}(Fn:Fun K x qual st fa fd)(S:aB N ps (ag st))(hm:mg x=some (.ref fa))(hb:Binds K fd ps [])
  (body:BodyOk P w K mg base c N st k F):Def P w K mg base c x ps (k+1) (bH N.length F):=by
 refine ⟨fa,fd, ?_,hm,Fn.kp,hb⟩
 refine Fn.ok S (fun vs H Q E h=>h.1) fun cdv A outer s H vs Q E hr h=>⟨_,body.ok _ rfl rfl rfl rfl rfl ⟨⟨rfl,rfl,rfl,S.nd⟩,fun _=>rfl,PassesOwn.never⟩ hr, ?_⟩
 exact w4 (E0:=E) h
theorem i5 {x qual:Str}{st:Stmt}{fa:Addr}{fd:FuncData}{N ps:List Str}{k:Nat}{F:FS}(Fn:Fun K x qual st fa fd)(S:aB N ps (ag st))(hm:mg x=some (.ref fa))(hb:Binds K fd ps [])
  (body:BodyOk P w K mg base c N st k F):i0 P w K mg base c x ps (k+1) (cC N.length F):=by
 refine ⟨fa,fd, ?_,hm,Fn.kp,hb⟩
 refine Fn.ok S (fun vs H Q E h=>h.1) fun cdv A outer s H vs Q E hr h=>⟨_,body.ok _ rfl rfl rfl rfl rfl ⟨⟨rfl,rfl,rfl,S.nd⟩,fun _=>rfl,PassesOwn.never⟩ hr, ?_⟩
 exact sZ (E0:=E) h
theorem tE {x qual:Str}{st:Stmt}{fa:Addr}{fd:FuncData}{ps:List Str}{k:Nat}(Fn:Fun K x qual st fa fd)(hm:mg x=some (.ref fa))(hb:Binds K fd ps []):Def P w K mg base c x ps k (fun _=>none) :=
 ⟨fa,fd,⟨fun vs H Q E h=>(by obtain ⟨_,_,_,_,_,_,h,_⟩:=h; cases h),fun A outer s H args us vs Q E _ _ _ _ h=>(by obtain ⟨_,_,_,_,_,_,h,_⟩:=h; cases h)⟩,hm,Fn.kp,hb⟩
theorem qJ {x qual:Str}{st:Stmt}{fa:Addr}{fd:FuncData}{ps:List Str}{k:Nat}(Fn:Fun K x qual st fa fd)(hm:mg x=some (.ref fa))(hb:Binds K fd ps []):i0 P w K mg base c x ps k (fun _=>none) :=
 ⟨fa,fd,⟨fun vs H Q E h=>(by obtain ⟨_,_,_,_,_,_,h,_⟩:=h; cases h),fun A outer s H args us vs Q E _ _ _ _ h=>(by obtain ⟨_,_,_,_,_,_,h,_⟩:=h; cases h)⟩,hm,Fn.kp,hb⟩
end
end DL
end
section
namespace DL
open PySem PySem.Spec PyProof.Rows L2
section
variable {P:Program}{w:World}{K:PySem.W.Frag}{mg:Str→Option Value}{base:Heap}{c:Ct}
theorem vP {x qual:Str}{st:Stmt}{fa:Addr}{fd:FuncData}{N ps:List Str}{k:Nat}{F:FS}(Fn:Fun K x qual st fa fd)(S:aB N ps (ag st))
  (body:BodyOk P w K mg base c N st k F):fR P w K mg base CX0 (k+1) fa fd ps (spD ⟨K,c.cl,c.fld⟩ ps.length (bH N.length F)):=by
 refine Fn.ok S (fun vs H Q E h=>h.1) fun cdv A outer s H vs Q E hr h=>⟨_,body.ok _ rfl rfl rfl rfl rfl ⟨⟨rfl,rfl,rfl,S.nd⟩,fun _=>rfl,PassesOwn.never⟩ hr, ?_⟩
 exact w4 (E0:=E) h
def cOk:D→Value→Bool
 | .str x,.str y _=>mkS x == y
 | .int i,.int j _=>i == j
 | _,_=>false
def BI:List D→List Value→Bool
 | [],[]=>true
 | d::ds,v::vs=>cOk d v && BI ds vs
 | _,_=>false
theorem BJ {T:Tx}{d:D}{u:Value}(h:cOk d u=true):∃ v,RelV v u∧∀ A H,Rep T A H d v:=by
 unfold cOk at h
 split at h
 ·next x y t=>exact ⟨.str y,⟨t,rfl⟩,fun A H=>by rw [← eq_of_beq h]; exact .str _⟩
 ·next i j t=>exact ⟨.int j,⟨t,rfl⟩,fun A H=>by rw [← eq_of_beq h]; exact .int _⟩
 ·cases h
theorem tF {T:Tx}:∀ {ds:List D} {us:List Value},BI ds us=true→∃ vs,Vals vs us∧∀ A H,az T A H ds vs
 | [],[],_=>⟨[],.nil,fun A H=>.nil⟩
 | d::ds,v::vs,h=>by
  unfold BI at h
  rw [Bool.and_eq_true] at h
  obtain ⟨x,r,e⟩:=BJ (T:=T) h.1
  obtain ⟨xs,rs,es⟩:=tF (T:=T) h.2
  exact ⟨x::xs,.cons r rs,fun A H=>.cons (e A H) (es A H)⟩
 | [],_::_,h=>by cases h
 | _::_,[],h=>by cases h
def zQ (ds:List D)(o:Obj):Bool:=match o.cls,o.data with
 | .type n,.seq its _=>n == "tuple" && decide (its.size≤sizeLine) && BI ds its.toList
 | _,_=>false
theorem xJ {x:Str}{a:Addr}{o:Obj}{ds:List D}(hm:mg x=some (.ref a))(hl:K.lookup a=some o)(hc:zQ ds o=true):∃ v u,mg x=some u∧RelV v u∧∀ A H,Rep ⟨K,c.cl,c.fld⟩ A H (.tup ds) v:=by
 refine ⟨.ref a,.ref a,hm,rfl,fun A H=>?_⟩
 unfold zQ at hc
 split at hc
 ·next n its m e1 e2 =>
  rw [Bool.and_eq_true,Bool.and_eq_true] at hc
  obtain ⟨vs,h1,h2⟩:=tF (T:=⟨K,c.cl,c.fld⟩) hc.2
  have e3:n="tuple":=eq_of_beq hc.1.1
  exact .tup (.inr ⟨o,its,m,hl,by rw [e1,e3],e2,of_decide_eq_true hc.1.2,h1⟩) (h2 A H)
 ·cases hc
end
theorem ints_rep {T:Tx}{A:Addr→Prop}{H:Hp}:∀ ns:List Int,az T A H (ns.map D.int) (ns.map V.int)
 | []=>.nil
 | n::ns=>.cons (.int n) (ints_rep ns)
end DL
end
section
namespace DL
open PySem PySem.Spec PyProof.Rows L2
def xM (ds:List D):List D→Option (List D)
 | [x]=>if ds.length<1000000 then some (ds++[x]) else none
 | _=>none
def fB (i:Nat)(f:FE):FS:=lg i xM (af f ar)
section
variable {X:Cx}{c:Ct}{xq:XQ}{e:Expr}{f:FE}{pos:Pos}
theorem vn {T:Tx}(A:Addr→Prop)(H:Hp)(a:Addr)(ds:List D)(xs:List V)(x:List D)(y:List V)(ds':List D)(Q:VK)(hl:H a=some (.lst xs))(r:az T A H ds xs)(_:∀ b,A b→b≠a)(ra:kA T A H H x y)(e:xM ds x=some ds')
  (k:∀ ys,(∀ A' H',(∀ d v,Rep T A H d v→Rep T A' H' d v)→(∀ d v,az T A H d v→az T A' H' d v)→az T A' H' ds' ys)→∀ w,Q w (upd H a (.lst ys))):vU (.ref a) y H Q:=by
 unfold xM at e
 split at e
 ·next d =>
  split at e
  ·next hz =>
   cases e
   obtain ⟨v,r1,rfl,h1,h2⟩:=az.dN ra
   have h3:=h2.jh
   subst h3
   refine ⟨a,xs,v,rfl,rfl,hl, ?_,k _ (fun A' H' g gl=>?_) _⟩
   ·rw [← r.length]; exact Nat.lt_of_lt_of_le hz (by decide)
   ·exact (gl _ _ r).append (.cons (g _ _ h1) .nil)
  ·cases e
 ·cases e
theorem fS {i:Nat}{x:Str}{p1 p2 p3:Pos}(n:Nm X i x)(he:PD X c e f)(hs:isStar e=false:=by rfl)(hl:(p2.endLine == p3.line)=true:=by rfl) :
  PDS X c xq (.Expr (.Call (.Attribute (.Name x p1) "append" p2) [e] [] p3) pos) (fB i f):=by
 refine PS.imp (lI (yZ PySem.F.plainAttrs_list PySem.F.slot_list_append PySem.F.type_list_append xo (iW n.hN n.hv n.hd n.hc) (ae he ak hs) rfl (by rw [gJ hs]; rfl) hl (aT hs) rfl) (gd rfl)) fun De σ H h=>?_
 obtain ⟨v,h1,⟨xs,_,a,rfl,ha⟩,h3⟩:=rG (tf:=tP (tx X c) (kA (tx X c)) (af f ar)) (fun Q h=>h) vn (fun _ _ _ _ _ h=>h) h
 obtain ⟨W,O,env,x,E,e1,q⟩:=h3
 exact ⟨.ref a,h1,.inl ⟨rfl,xs,SqL.of ha⟩,W,O,env,x,E,e1,fun v H' s r=>(q v H' s r).2⟩
end
end DL
end
section
namespace DL
open PySem PySem.Spec PyProof.Rows L2
section
variable {X:Cx}{c:Ct}{xq:XQ}{e elt a b iter tg:Expr}{pos:Pos}{gens:List Comprehension}{ifs:List Expr}{scope sc:Scope}{N N':List Str}{nt:Nat}{cap:List Nat}{fi fe:FE}{ft:FT}{tgf:FG}{gt:TG}
def PFc (X:Cx)(c:Ct)(e:Expr)(ff:FP (List D)):Prop:=PF X c e ff∧∀ (i:Nat) (x:Str) (pos' spos:Pos),Nl X i x→swapsWith e (some (.Name x pos')) spos.line X.env=pure true→PS X (.Assign [.Name x pos'] e spos) (uJ (tP (tx X c) (kF (tx X c)) ff) (gX i))
theorem xN {x:Str}{pos':Pos}{l:Nat}(d:DefX X N sc)(h:(sc.kind == .function && sc.names.lookup x == some .local && pos'.line == pos.line && !(scope.names.any fun (n,k)=>n == x && (k == .local || k == .cell)))=true) :
  swapsWith (.ListComp elt gens scope pos) (some (.Name x pos')) l X.env=pure true:=by
 rw [← d.hsc] at h
 have hk:X.env.scope.kind=.function:=by
  simp only [Bool.and_eq_true] at h
  exact eq_of_beq h.1.1.1
 have hb:X.env.blockKind=X.env.scope.kind:=by
  unfold Env.blockKind
  rw [hk]
  rfl
 show (pure (X.env.blockKind == .function && X.env.kindOf x == some .local && pos'.line == pos.line && !(scope.names.any fun (n,k)=>n == x && (k == .local || k == .cell))):Sem Bool)=pure true
 rw [hb]
 exact congrArg pure h
theorem lU {i:Nat}{x:Str}{pos' spos:Pos}{ff:FP (List D)}(d:DefX X N sc)(n:Nl X i x)(h:PFc X c (.ListComp elt gens scope pos) ff)(hs:(sc.kind == .function && sc.names.lookup x == some .local && pos'.line == pos.line && !(scope.names.any fun (n,k)=>n == x && (k == .local || k == .cell)))=true) :
  PDS X c xq (.Assign [.Name x pos'] (.ListComp elt gens scope pos) spos) (aY i (cV ff)):=PS.imp (h.2 i x pos' spos n (xN d hs)) fun _ _ _ h=>Dd (vX h)
theorem lV (d:DefX X N sc)(chk:iJ sc scope N N' nt cap)(hcap:cap.Nodup)(hN':N'.Nodup)(hi:PR X c iter fi)
  (hg:∀ cl C s2 H2 fp,DefX (aQ X scope cl N' C s2 H2 fp) N' (jS scope sc)→PG (aQ X scope cl N' C s2 H2 fp) tg gt) (hge:mE nt gt) (sg:gS (tx X c) tgf gt)
  (ht:∀ cl C s2 H2 fp,DefX (aQ X scope cl N' C s2 H2 fp) N' (jS scope sc)→jD (aQ X scope cl N' C s2 H2 fp) ifs (tP (tx X c) kB ft))
  (he:∀ cl C s2 H2 fp,DefX (aQ X scope cl N' C s2 H2 fp) N' (jS scope sc)→PE (aQ X scope cl N' C s2 H2 fp) elt (tP (tx X c) (kD (tx X c)) fe))
  (hs:qE iter=true:=by rfl):PFc X c (.ListComp elt [⟨tg,iter,ifs,0⟩] scope pos) (cu nt cap tgf fi ft fe) :=
 ⟨d5 d chk hcap hN' hi hg hge sg ht he hs,fun i x pos' spos n hsw=>PS.imp (w6 (tt:=tP (tx X c) kB ft) (te:=tP (tx X c) (kD (tx X c)) fe) d.hsc d.hN chk d.calm (vi hi) (fun cl C s2 H2 fp=>hg cl C s2 H2 fp (d.comp hN')) hge (fun cl C s2 H2 fp=>ht cl C s2 H2 fp (d.comp hN')) (fun cl C s2 H2 fp=>he cl C s2 H2 fp (d.comp hN')) n.nd n.hN n.hl n.hf hsw (eY hs)) fun _ _ _ h=>vZ sg hcap h⟩
end
end DL
end
section
namespace DL
open PySem PySem.Spec PyProof.Rows L2
section
variable {X:Cx}{c:Ct}{xq:XQ}{tg:Expr}
variable {elt iter:Expr}{pos:Pos}{ifs:List Expr}{scope sc:Scope}{N N':List Str}{nt:Nat}{cap:List Nat}{fi fe:FE}{ft:FT}{tgf:FG}{gt:TG}{F:FS}
end
end DL
end
section
namespace DL
open PySem PySem.Spec PyProof.Rows L2
def zR:D→D→Option D:=intD fun i j=>some (.int (i+j))
section
variable {X:Cx}{c:Ct}{xq:XQ}{e:Expr}{f:FE}{pos:Pos}
theorem BK {T:Tx}{g:Int→Int→Int}(A:Addr→Prop)(H:Hp)(x y:D)(v u:V)(d:D)(Q:VK)(_:Nw A H)(rx:Rep T A H x v)(ry:Rep T A H y u)(e:intD (fun i j=>some (.int (g i j))) x y=some d)
  (k:∀ w H',aG H H'→Rep T A H' d w→Q w H'):ipI g v u H Q:=by
 unfold intD at e
 split at e
 ·next i j =>
  cases e
  cases rx.dA
  cases ry.dA
  exact ⟨i,j,rfl,rfl,k _ _ (aG.refl H) (.int _)⟩
 ·cases e
theorem jT {i:Nat}{x:Str}{p:Pos}(n:Nl X i x)(he:PD X c e f):PDS X c xq (.AugAssign (.Name x p) .Add e pos) (oe i zR f) :=
 PS.imp (Ea n.nd n.hN n.hl he Eb n.hf) fun _ _ _ h=>Bo (BK (g:=fun i j=>i+j)) h
end
end DL
end
section
namespace DL
open PySem PySem.Spec PyProof.Rows L2
def ny:D→Option Int
 | .int i=>some i
 | _=>none
theorem mH {d:D}{i:Int}(h:ny d=some i):d=.int i:=by
 unfold ny at h
 split at h
 ·cases h; rfl
 ·cases h
def ltB (i j:Int):Bool:=decide (i<j)
def leB (i j:Int):Bool:=decide (i≤j)
def gtB (i j:Int):Bool:=decide (j<i)
def geB (i j:Int):Bool:=decide (j≤i)
def gf (r r':Int→Int→Bool)(f g k:FE):FE:=fun env=>(f env).bind fun x=>(ny x).bind fun i=>(g env).bind fun y=>(ny y).bind fun j=>if r i j=true then (k env).bind fun z=>(ny z).bind fun l=>some (.bl (r' j l)) else some (.bl false)
@[simp] theorem IZ (i:Int):ny (.int i)=some i:=zEr
@[simp] theorem Fu (r r':Int→Int→Bool)(f g k:FE)(env:aN):gf r r' f g k env=aI (f env) fun x=>aI (ny x) fun i=>aI (g env) fun y=>aI (ny y) fun j=>ifK (aI (k env) fun z=>aI (ny z) fun l=>some (.bl (r' j l))) (some (.bl false)) (r i j):=zEr
@[simp] theorem Jx (i j:Int):ltB i j=decide (i<j):=zEr
@[simp] theorem Jy (i j:Int):leB i j=decide (i≤j):=zEr
theorem tG {T:Tx}{r r':Int→Int→Bool}{f g k:FE}{σ:L2.St}{H:Hp}{Q:VK}(h:tP T (kD T) (gf r r' f g k) σ H Q) :
  uM (rI0 fun i j=>.bl (r i j)) (rI0 fun i j=>.bl (r' i j)) (tP T (kD T) f) (tP T (kD T) g) (tP T (kD T) k) σ H Q:=by
 obtain ⟨W,O,env,d,E,e,q⟩:=h
 unfold gf at e
 cases e1:f env with
 | none=>rw [e1] at e; cases e
 | some x =>
  rw [e1] at e
  dsimp only [Option.bind_some] at e
  cases e2:ny x with
  | none=>rw [e2] at e; cases e
  | some i =>
   rw [e2] at e
   dsimp only [Option.bind_some] at e
   cases mH e2
   cases e3:g env with
   | none=>rw [e3] at e; cases e
   | some y =>
    rw [e3] at e
    dsimp only [Option.bind_some] at e
    cases e4:ny y with
    | none=>rw [e4] at e; cases e
    | some j =>
     rw [e4] at e
     dsimp only [Option.bind_some] at e
     cases mH e4
     refine ⟨W,O,env,_,E,e1,fun v1 H1 s1 r1=>⟨W,O,env,_,E.mono s1,e3,fun v2 H2 s2 r2=>?_⟩⟩
     cases Rep.dA r1
     cases Rep.dA r2
     refine ⟨i,j,rfl,rfl,r i j,rfl, ?_⟩
     by_cases hb:r i j=true
     ·rw [if_pos hb] at e ⊢
      cases e5:k env with
      | none=>rw [e5] at e; cases e
      | some z =>
       rw [e5] at e
       dsimp only [Option.bind_some] at e
       cases e6:ny z with
       | none=>rw [e6] at e; cases e
       | some l =>
        rw [e6] at e
        cases e
        cases mH e6
        refine ⟨W,O,env,_,E.mono (s1.trans s2),e5,fun v3 H3 s3 r3=>?_⟩
        cases Rep.dA r3
        exact ⟨j,l,rfl,rfl,q _ _ ((s1.trans s2).trans s3) (.bl _)⟩
     ·rw [if_neg hb] at e ⊢
      cases e
      exact q _ _ (s1.trans s2) (.bl _)
inductive Od where
 | lt | le | gt | ge
def Od.op:Od→CmpOp
 | .lt=>.Lt | .le=>.LtE | .gt=>.Gt | .ge=>.GtE
def Od.b:Od→Int→Int→Bool
 | .lt=>ltB | .le=>leB | .gt=>gtB | .ge=>geB
section
variable {X:Cx}{c:Ct}{a b k:Expr}{f g h:FE}{pos:Pos}
theorem Od.ok (o:Od):OpR X (compareOp o.op) (rI0 fun i j=>.bl (o.b i j)):=by
 cases o
 ·exact yK
 ·exact D6
 ·exact D7
 ·exact GN
theorem tH (o o':Od)(ha:PD X c a f)(hb:PD X c b g)(hk:PD X c k h){q q':CmpOp}(e:q=o.op:=by rfl)(e':q'=o'.op:=by rfl)(hm:lastMarks [q,q'] [b,k]=false:=by with_unfolding_all rfl) :
  PD X c (.Compare a [q,q'] [b,k] pos) (gf o.b o'.b f g h):=by
 subst e e'
 exact PE.imp (yM o.ok o'.ok ha hb hk hm) fun _ _ _ h=>tG h
theorem ku (o o':Od)(ha:PD X c a f)(hb:PD X c b g)(hk:PD X c k h){q q':CmpOp}(e:q=o.op:=by rfl)(e':q'=o'.op:=by rfl)(hm:lastMarks [q,q'] [b,k]=false:=by with_unfolding_all rfl) :
  PDT X c (.Compare a [q,q'] [b,k] pos) (ftB (gf o.b o'.b f g h)):=by
 subst e e'
 exact PT.imp (yN o.ok o'.ok ha hb hk hm) fun _ _ _ h=>tG (nP h)
end
@[simp] theorem Dv (i:Nat)(f:FE)(env:aN):fB i f env=aI (w9 env[i]?) fun ds=>aI (f env) fun x=>if ds.length<1000000 then some (.nx (env.set i (.own (ds++[x])))) else none:=by
 unfold fB lg
 cases h:env[i]? with
 | none=>rfl
 | some s =>
  cases s with
  | own ds =>
   show ((af f ar env).bind fun x=>(xM ds x).map fun ds'=>DFl.nx (env.set i (.own ds')))=aI (some ds) _
   rw [cv,xB]
   cases f env with
   | none=>rfl
   | some x =>
    rw [cv,cv,zB,cv]
    show (xM ds [x]).map _=_
    unfold xM
    dsimp only
    split <;> rfl
  | _=>rfl
end DL
end
section
namespace DL
open PySem PySem.Spec PyProof.Rows L2
theorem gr:∀ {ns:List Int} {us:List Value},Vals (ns.map V.int) us→IntsAre us ns
 | [],_,.nil=>.nil
 | n::ns,_,.cons r t=>by
  obtain ⟨k,rfl⟩:=r
  exact .cons n k (gr t)
section
variable {X:Cx}{c:Ct}{e:Expr}{f:FE}{pos:Pos}
theorem xO (hc:X.calm=true):iI X (.builtin "sum") (fun xs H Q=>∃ (a:Addr) (ns:List Int),xs=[.ref a]∧SqL X.K H a (ns.map V.int)∧Q (.int ns.sum) H):=by
 intro pins s σ H xs us Q I r h
 obtain ⟨a,ns,rfl,hS,q⟩:=h
 obtain ⟨u,rfl,ru⟩:=vals1 r
 cases ru
 obtain ⟨its,rv,p,hz⟩:=I.list hS
 have hi:=gr rv
 obtain ⟨ys,hy⟩:=hi.allInts.items
 have hl:s.heap.IsList a (intItems ys):=hy ▸ p.isList
 refine sum_intListG (I.ok.hd hc) hl fun h' tk t' hk=>⟨.int ns.sum,H,I.kept hk,⟨t', ?_⟩,q⟩
 have e1:ns=ys.toList.map (·.1):=by
  rw [← nums_intItems, ← hy]
  exact hi.numsOf.symm
 rw [preSum_eq,List.take_of_length_le (by simp), ← e1]
theorem jr {T:Tx}{A:Addr→Prop}{H:Hp}:∀ {ds:List D} {is:List Int} {vs:List V},intsOf ds=some is→az T A H ds vs→vs=is.map V.int
 | [],_,_,h,r=>by
  unfold intsOf at h
  cases h
  exact r.jh
 | d::ds,_,_,h,r=>by
  unfold intsOf at h
  obtain ⟨x,t,rfl,h1,h2⟩:=r.dN
  split at h
  ·next heq=>cases heq
  ·next i r' heq =>
   cases heq
   cases e:intsOf ds with
   | none=>rw [e] at h; cases h
   | some js =>
    rw [e] at h
    cases h
    cases h1.dA
    rw [jr e h2]
    rfl
  ·cases h
theorem BL {T:Tx}(A:Addr→Prop)(H0 H:Hp)(x:D)(v:V)(d:D)(Q:VK)(_:Nw A H)(rx:kR T A H0 H x v)(e:xy x=some d)(k:∀ w H',aG H H'→kD T A H H' d w→Q w H'):∃ (a:Addr) (ns:List Int),[v]=[.ref a]∧SqL T.K H a (ns.map V.int)∧Q (.int ns.sum) H:=by
 unfold xy at e
 split at e
 ·next ds =>
  cases e1:intsOf ds with
  | none=>rw [e1] at e; cases e
  | some is =>
   rw [e1] at e
   dsimp only [Option.bind_some] at e
   split at e
   ·cases e
    obtain ⟨a,xs,rfl,hS,hr⟩:=aA.fz rx
    cases jr e1 hr
    exact ⟨a,is,rfl,hS,k _ _ (aG.refl H) (.int _)⟩
   ·cases e
 ·cases e
theorem zS {p:Pos}(hg:Gl X "sum")(hm:X.mg "sum"=none)(hc:X.calm=true)(ha:PR X c e f)(he:isStar e=false:=by rfl):PD X c (.Call (.Name "sum" p) [e] [] pos) (fp1 xy f):=we (xO hc) BL hg hm boot_sum ha he
end
end DL
end
section
namespace DL
open PySem PySem.Spec PyProof.Rows L2
theorem tI:∀ {bs:List Bool} {us:List Value},Vals (bs.map V.bl) us→us=bs.map Value.bool
 | [],_,.nil=>rfl
 | b::bs,_,.cons r t=>by
  cases r
  rw [tI t]
  rfl
theorem range_any (bs:List Bool):((List.range bs.length).any fun i=>(bs[i]?).getD false)=bs.any id:=by
 rw [Bool.eq_iff_iff,List.any_eq_true,List.any_eq_true]
 constructor
 ·rintro ⟨i,hi,h⟩
  rw [List.mem_range] at hi
  rw [List.getElem?_eq_getElem hi] at h
  exact ⟨bs[i],List.getElem_mem hi,h⟩
 ·rintro ⟨b,hb,h⟩
  obtain ⟨i,hi,e⟩:=List.getElem_of_mem hb
  exact ⟨i,List.mem_range.mpr hi,by rw [List.getElem?_eq_getElem hi,e]; exact h⟩
theorem xP {prog:Program}{w:World}{A:Around}(bs:List Bool):TruthOf prog w A (fun i v=>(bs.map Value.bool).toArray[i]?=some v) fun i=>(bs[i]?).getD false:=by
 intro i v s Q E h q
 dsimp only at q
 rw [List.getElem?_toArray,List.getElem?_map] at h
 cases e:bs[i]? with
 | none=>rw [e] at h; cases h
 | some b =>
  rw [e] at h q
  cases h
  exact wpAny_of_eq (a:=b) rfl q
section
variable {X:Cx}{c:Ct}{e:Expr}{f:FE}{pos:Pos}
theorem xQ (hc:X.calm=true):iI X (.builtin "any") (fun xs H Q=>∃ (a:Addr) (bs:List Bool),xs=[.ref a]∧SqL X.K H a (bs.map V.bl)∧Q (.bl (bs.any id)) H):=by
 intro pins s σ H xs us Q I r h
 obtain ⟨a,bs,rfl,hS,q⟩:=h
 obtain ⟨u,rfl,ru⟩:=vals1 r
 cases ru
 obtain ⟨its,rv,p,hz⟩:=I.list hS
 cases tI rv
 have hl:s.heap.IsList a (bs.map Value.bool).toArray:=p.isList
 have hlt:a<s.heap.objs.size:=by obtain ⟨_,e,_⟩:=hl; exact Heap.lt_size e
 refine call_any_walk (wpAny_pyIter_list hl ⟨s.heap.objs.size,_,_,_,_,_,_,rfl,Walks.list (A:=X.A.in1) (I.ok.hd hc) _ a (Nat.ne_of_lt hlt) (bs.map Value.bool).toArray,⟨⟨_,Heap.get?_push_size _ rfl,rfl,rfl⟩,hl.push _⟩,xP bs,fun h' tk hk=>?_⟩)
 refine ⟨.bl (bs.any id),H,I.kept (old_kept hk), ?_,q⟩
 have:(bs.map Value.bool).toArray.size=bs.length:=by simp
 rw [this,range_any]
 rfl
theorem qK {T:Tx}{A:Addr→Prop}{H:Hp}:∀ {ds:List D} {is:List Bool} {vs:List V},kQ ds=some is→az T A H ds vs→vs=is.map V.bl
 | [],_,_,h,r=>by
  unfold kQ at h
  cases h
  exact r.jh
 | d::ds,_,_,h,r=>by
  unfold kQ at h
  obtain ⟨x,t,rfl,h1,h2⟩:=r.dN
  split at h
  ·next heq=>cases heq
  ·next i r' heq =>
   cases heq
   cases e:kQ ds with
   | none=>rw [e] at h; cases h
   | some js =>
    rw [e] at h
    cases h
    cases h1.bl_
    rw [qK e h2]
    rfl
  ·cases h
theorem BM {T:Tx}(A:Addr→Prop)(H0 H:Hp)(x:D)(v:V)(d:D)(Q:VK)(_:Nw A H)(rx:kR T A H0 H x v)(e:zA x=some d)(k:∀ w H',aG H H'→kD T A H H' d w→Q w H'):∃ (a:Addr) (bs:List Bool),[v]=[.ref a]∧SqL T.K H a (bs.map V.bl)∧Q (.bl (bs.any id)) H:=by
 unfold zA at e
 split at e
 ·next ds =>
  cases e1:kQ ds with
  | none=>rw [e1] at e; cases e
  | some is =>
   rw [e1] at e
   cases e
   obtain ⟨a,xs,rfl,hS,hr⟩:=aA.fz rx
   cases qK e1 hr
   exact ⟨a,is,rfl,hS,k _ _ (aG.refl H) (.bl _)⟩
 ·cases e
theorem Fv {p:Pos}(hg:Gl X "any")(hm:X.mg "any"=none)(hc:X.calm=true)(ha:PR X c e f)(he:isStar e=false:=by rfl):PD X c (.Call (.Name "any" p) [e] [] pos) (fp1 zA f):=we (xQ hc) BM hg hm (by decide +kernel) ha he
end
end DL
end
section
namespace DL
open PySem PySem.Spec PyProof.Rows L2
def qL (tg:FG)(f:FE):FS:=fun env=>(f env).bind fun d=>(tg d env).map .nx
@[simp] theorem HJ (tg:FG)(f:FE)(env:aN):qL tg f env=aI (f env) fun d=>omap .nx (tg d env):=zEr
theorem BN {T:Tx}{xq:XQ}{De:Ends}{σ:L2.St}{H:Hp}{tg:FG}{g:TG}{f:FE}(sg:gS T tg g)(h:tDs T xq (qL tg f) De σ H):uJ (tP T (kD T) f) g De σ H:=by
 obtain ⟨W,O,env,fl,E,e,q⟩:=h
 unfold qL at e
 cases e1:f env with
 | none=>rw [e1] at e; cases e
 | some x =>
  rw [e1] at e
  dsimp only [Option.bind_some] at e
  cases e2:tg x env with
  | none=>rw [e2] at e; cases e
  | some env' =>
   rw [e2] at e
   cases e
   exact ⟨W,O,env,x,E,e1,fun v H' s r=>sg W O H' env env' σ x v _ (E.mono s) r e2 fun σ' E'=>q σ' H' O E' (Fr.same s)⟩
def Dw:Expr→Bool
 | .Tuple _ _ _=>false
 | e=>mF e
theorem xR {ts:List Expr}{k:_}{p:Pos}{e:Expr}{env:Env}(h:Dw e=true):swappedStores [.Tuple ts k p] e env=pure none:=by
 cases e <;> first | rfl | cases h
section
variable {X:Cx}{c:Ct}{xq:XQ}{e:Expr}{f:FE}{pos:Pos}
theorem wo {ts:List Expr}{k:_}{p:Pos}{tg:FG}{g:TG}(sg:gS (tx X c) tg g)(pg:PG X (.Tuple ts k p) g)(he:PD X c e f)(hs:mF e=true:=by rfl)(hw:Dw e=true:=by rfl) :
  PDS X c xq (.Assign [.Tuple ts k p] e pos) (qL tg f):=PS.imp (E9 he pg (show swapsWithSole [.Tuple ts k p] e pos.line X.env=pure false from gd (t:=some (.Tuple ts k p)) (l:=pos.line) (env:=X.env) hs) (xR hw) rfl) fun _ _ _ h=>BN sg h
end
end DL
end
section
namespace DL
open PySem PySem.Spec PyProof.Rows L2
section
variable {X:Cx}{c:Ct}{e o:Expr}{f g:FE}{pos:Pos}
end
end DL
end
section
namespace DL
open L2
@[simp] theorem J2 (i j:Int):zR (.int i) (.int j)=some (.int (i+j)):=zEr
theorem oC (a:Int)(n:Nat):cX a (n+1)=.int a::cX (a+1) n:=by
 unfold cX
 rw [List.range_succ_eq_map]
 simp only [List.map_cons,List.map_map]
 congr 1
 ·simp
 ·apply List.map_congr_left
  intro k _
  simp only [Function.comp]
  congr 1
  omega
theorem oE (a:Int):cX a 0=[]:=rfl
theorem oF (tg:FG)(body:FS)(d:D)(ds:List D)(env:aN):runFor tg body (d::ds) env=aI (tg d env) fun env1=>aI (body env1) fun r=>match r with
  | .nx e=>runFor tg body ds e
  | .ct e=>runFor tg body ds e
  | .bk e=>some (.nx e)
  | r=>some r:=rfl
theorem cZ {tg:FG}{body:FS}{d:D}{ds:List D}{env e1 e2:aN}(h1:tg d env=some e1)(h2:body e1=some (.nx e2)):runFor tg body (d::ds) env=runFor tg body ds e2:=by
 rw [oF,h1,cv,h2,cv]
def xS:D→Option (List D)
 | .lst ds=>some ds
 | _=>none
def j5 (ds:List D):List D:=ds.zipIdx.map fun p=>.tup [.int (p.2:Nat),p.1]
def lu (tg:FG)(fi:FE)(body:FS):FS:=fun env=>(fi env).bind fun x=>(xS x).bind fun ds=>runFor tg body (j5 ds) env
@[simp] theorem J3 (ds:List D):xS (.lst ds)=some ds:=zEr
@[simp] theorem Gm (tg:FG)(fi:FE)(body:FS)(env:aN):lu tg fi body env=aI (fi env) (fun x=>aI (xS x) (fun ds=>runFor tg body (j5 ds) env)):=zEr
def fp3 {α β γ δ:Type}(F:α→β→γ→Option δ)(f:FP α)(g:FP β)(h:FP γ):FP δ:=fun env=>(f env).bind fun x=>(g env).bind fun y=>(h env).bind fun z=>F x y z
@[simp] theorem Jz {α β γ δ:Type}(F:α→β→γ→Option δ)(f:FP α)(g:FP β)(h:FP γ)(env:aN):fp3 F f g h env=aI (f env) fun x=>aI (g env) fun y=>aI (h env) fun z=>F x y z:=zEr
theorem Gn:j5 []=[]:=rfl
theorem xT (ds:List D):(j5 ds).length=ds.length:=by simp [j5]
def lW (i:Nat)(ds:List D):List D:=(ds.zipIdx i).map fun p=>.tup [.int (p.2:Nat),p.1]
theorem BP (ds:List D):j5 ds=lW 0 ds:=rfl
theorem lx (i:Nat)(d:D)(ds:List D):lW i (d::ds)=.tup [.int (i:Nat),d]::lW (i+1) ds:=rfl
theorem qM (i:Nat):lW i []=[]:=rfl
@[simp] theorem Gp (i j:Nat)(a b:D)(env:aN):fU [i,j] (.tup [a,b]) env=some ((env.set i (.val a)).set j (.val b)):=zEr
theorem Fw (z:List Nat)(c:Int)(hz:0<z.length):∃ (k:Nat) (x:Nat),c % (z.length:Int)=k∧z[k]?=some x∧x∈z:=by
 obtain ⟨k,hk,hl⟩:=gC c z.length hz
 exact ⟨k,z[k],hk,List.getElem?_eq_getElem hl,List.getElem_mem hl⟩
theorem BQ (z:List Nat)(m:Nat)(c:Int)(hm:z.length=m)(hz:0<m):∃ (k:Nat) (x:Nat),c % (m:Int)=k∧z[k]?=some x∧x∈z:=by
 subst hm; exact Fw z c hz
theorem Dx {tg:FG}{ft:FT}{fe:FE}{env:aN}:aS tg ft fe env []=some []:=rfl
theorem bA {tg:FG}{ft:FT}{fe:FE}{env e:aN}{d y:D}{ds ys:List D}(h1:tg d env=some e)(h2:ft e=some true)(h3:fe e=some y)(h4:aS tg ft fe env ds=some ys):aS tg ft fe env (d::ds)=some (y::ys):=by
 rw [aS,h1]; dsimp only [Option.bind_some]; rw [h2]; dsimp only [Option.bind_some]; rw [if_pos rfl,h3,h4]; rfl
theorem j6 {tg:FG}{ft:FT}{fe:FE}{env e:aN}{d:D}{ds ys:List D}(h1:tg d env=some e)(h2:ft e=some false)(h4:aS tg ft fe env ds=some ys):aS tg ft fe env (d::ds)=some ys:=by
 rw [aS,h1]; dsimp only [Option.bind_some]; rw [h2]; dsimp only [Option.bind_some]; rw [if_neg (by simp),h4]
theorem Fx (a b:List D)(h:a.length≠b.length):eqN 100 (.lst a) (.lst b)=some false:=by
 show (if a.length=b.length then eqZ (eqN 99) a b else some false)=_
 rw [if_neg h]
end DL
end
section
namespace DL
open PySem PySem.Spec PyProof.Rows L2
section
variable {X:Cx}{c:Ct}{e o:Expr}{f g:FE}{pos:Pos}
end
end DL
end
section
namespace DL
open PySem PySem.Spec PyProof.Rows L2
section
variable {X:Cx}{c:Ct}{xq:XQ}{e k:Expr}{f g:FE}{pos:Pos}
end
end DL
end
section
namespace L2
open PySem PySem.Spec PyProof.Rows
section
variable {X:Cx}{pins:List (Addr × Obj)}{σ:List (Option V)}{H H':Hp}{s:Shared}{h':Heap}
theorem Inv.BR {t':Nat}{e it p:Addr}{vs:List V}(I:Inv X pins σ H s)(k:∀ b o,b≠e→b≠it→s.heap.get? b=some o→h'.get? b=some o)(fe:kH X pins H e)(fi:kH X pins H it)(fp:kH X pins H p)
  (hp:s.heap.get? p=none) (new:eG X.prog X.w (upd H p (.tup vs)) h' p (.tup vs)):Inv X pins σ (upd H p (.tup vs)) { s with heap:=h',toks:=t' }:=by
 have ne:∀ b u,H b=some u→b≠e:=fun b u q z=>by rw [z,fe.1] at q; cases q
 have ni:∀ b u,H b=some u→b≠it:=fun b u q z=>by rw [z,fi.1] at q; cases q
 have np:∀ b u,H b=some u→b≠p:=fun b u q z=>by rw [z,fp.1] at q; cases q
 have kk:∀ b o,b ∉ [e,it,p]→s.heap.get? b=some o→h'.get? b=some o:=fun b o hb q=>k b o (fun z=>hb (by simp [z])) (fun z=>hb (by simp [z])) q
 refine I.step (g':=s.gens) (d':=s.drawn) (ch:=[e,it,p]) (fun b hb=>?_) (fun b o _ _ hc q _=>kk b o hc q) (fun b o _ _ hc q _=>⟨o.slots,kk b o hc q⟩) (fun b _ hc _ n=>by rw [aC (fun z=>hc (by simp [z]))]; exact n)
  (fun b o hc q=>⟨o,kk b o hc q⟩) (fun b xs q=>by rw [aC (np b _ q)]; exact q) (fun b _ _ q=>by rw [aC (np b _ q)]; exact q) (fun b ps q=>⟨#[],by rw [aC (np b _ q),q]; simp⟩) (fun m hm=>?_) (fun b u q=>?_) I.bare
 ·have:b=e∨b=it∨b=p:=by simpa using hb
  rcases this with rfl | rfl | rfl
  ·exact ⟨fe.2.2.2.1,fe.2.1,fe.2.2.2.2.1,fe.2.2.2.2.2⟩
  ·exact ⟨fi.2.2.2.1,fi.2.1,fi.2.2.2.2.1,fi.2.2.2.2.2⟩
  ·exact ⟨fp.2.2.2.1,fp.2.1,fp.2.2.2.2.1,fp.2.2.2.2.2⟩
 ·obtain ⟨o,es,ep,ho,r⟩:=hm
  exact ⟨o,es,ep,k _ o (Ne.symm fe.2.1) (Ne.symm fi.2.1) ho,r⟩
 ·by_cases hb:b=p
  ·subst hb; rw [bu] at q; cases q; exact new
  ·rw [aC hb] at q
   refine (I.hok b u q).nV (fun c v hc z=>k c v ?_ ?_ z) (fun c z=>by rw [aC (np c _ z)]; exact z) fun c xs z=>by rw [aC (np c _ z)]; exact z
   ·rcases hc with z | z
    ·rw [z]; exact ne b u q
    ·exact ne c _ z
   ·rcases hc with z | z
    ·rw [z]; exact ni b u q
    ·exact ni c _ z
end
def Ite (K:PySem.W.Frag)(a:Addr):It :=
 ⟨fun i H=>∃ xs x,SqL K H a xs∧xs[i]?=some x,fun i H v H'=>∃ p y,H p=none∧v=.ref p∧H'=upd H p (.tup [.int (i:Nat),y])∧∀ xs,SqL K H a xs→xs[i]?=some y,fun i H=>∃ xs,SqL K H a xs∧xs.length≤i⟩
theorem xU {P:Program}{w:World}{K:PySem.W.Frag}{ts:List Expr}{tk:Nat}{tp:Pos}(a e it:Addr)(hne:e≠it):Turn P w K (.Tuple ts tk tp) (Ite K a) [e,it] e (fun i h=>(∃ old,IsEnum h e it (i:Nat) old)∧h.IsListIter it a i) where
 mem:=by simp
 obj:=fun i h st b hb=>by
  obtain ⟨⟨old,he⟩,o,ho,c,d⟩:=st
  have:b=e∨b=it:=by simpa using hb
  rcases this with rfl | rfl
  ·exact ⟨_,he,fun v z=>by cases z⟩
  ·exact ⟨o,ho,fun v z=>by rw [d] at z; cases z⟩
 keep:=fun i h h' st k=>⟨let ⟨old,he⟩:=st.1; ⟨old,k e (by simp) _ he⟩,st.2.at fun o q=>k it (by simp) o q⟩
 item:=by
  intro X hP hw hK hc i pins s σ H E I hf st hg
  subst hP hw hK
  obtain ⟨⟨old,he⟩,hit⟩:=st
  obtain ⟨xs,x,hq,hx⟩:=hg
  obtain ⟨its,rv,p,hz⟩:=I.list hq
  obtain ⟨u,hu,ru⟩:=rv.get hx
  have fe:=hf e (by simp)
  have fi:=hf it (by simp)
  refine wpAny_pyNext_enum_item he hit p.isList (x:=u) (by simpa using hu) hne fun h₁ heo hit₁ ht₁ hz₁ hk₁=>?_
  refine ⟨_,rfl,wpAny_letOwnedTupleGo_enum heo fun h₂ he₂ hs₂=>?_⟩
  have helt:e<s.heap.objs.size:=Heap.lt_size he
  have hilt:it<s.heap.objs.size:=by obtain ⟨o,ho,_⟩:=hit; exact Heap.lt_size ho
  have keep:∀ b o,b≠e→b≠it→s.heap.get? b=some o→h₂.get? b=some o:=fun b o h1 h2 q=>(hs₂.2 b h1).trans (hk₁ b o h1 h2 q)
  have htup:IsTup h₂ s.heap.objs.size #[.int (i:Nat) s.toks,u]:=⟨_,(hs₂.2 _ (Nat.ne_of_gt helt)).trans ht₁,rfl,_,rfl⟩
  have hit₂:h₂.IsListIter it a (i+1):=hit₁.at fun o q=>(hs₂.2 it (Ne.symm hne)).trans q
  have fp:=I.rj (Nat.le_refl _) (I.hok.fresh (Nat.le_refl _))
  refine ⟨.ref s.heap.objs.size,upd H s.heap.objs.size (.tup [.int (i:Nat),x]), ?_,rfl,⟨_,x,I.hok.fresh (Nat.le_refl _),rfl,rfl,fun ys hy=>by rw [I.jH hy hq]; exact hx⟩,⟨⟨_,by simpa using he₂⟩,hit₂⟩,fun b hb=>?_⟩
  ·exact I.BR (t':=s.toks+1) keep fe fi fp (Heap.get?_none_of_le (Nat.le_refl _)) ⟨(show (2:Nat)≤sizeLine by decide),[.int (i:Nat) s.toks,u],.cons ⟨_,rfl⟩ (.cons ru .nil),htup⟩
  ·have:b=e∨b=it:=by simpa using hb
   rcases this with rfl | rfl
   ·rw [aC (Nat.ne_of_lt helt)]; exact fe.1
   ·rw [aC (Nat.ne_of_lt hilt)]; exact fi.1
 done:=by
  intro X hP hw hK hc i pins s σ H E I hf st hg
  subst hP hw hK
  obtain ⟨⟨old,he⟩,hit⟩:=st
  obtain ⟨xs,hq,hx⟩:=hg
  obtain ⟨its,rv,p,hz⟩:=I.list hq
  obtain ⟨f0,f1,f2,f3,f4,f5⟩:=hf it (by simp)
  have hl:=rv.length
  exact wpAny_pyNext_enum_end (I.ok.hd hc) he hit p.isList (by simp; omega) fun h' eb=>⟨rfl,I.turned (t':=s.toks) (fun b o hb q=>eb b o hb q) f0 f1 f3 f4 f5⟩
 self:=fun _ _ _ _ _ st h=>by
  obtain ⟨⟨old,he⟩,_⟩:=st
  exact wpAny_pyIter_enum he h
def Dy (K:PySem.W.Frag)(ta:TA):TI:=fun σ H R=>ta σ H fun vs H1=>∃ a,vs=[.ref a]∧(∃ xs,SqL K H1 a xs)∧R (Ite K a) H1
theorem BU {X:Cx}{a:Expr}{ta:TA}{p pos:Pos}{ts:List Expr}{tk:Nat}{tp:Pos}(hg:Gl X "enumerate")(hm:X.mg "enumerate"=none)(ha:PA X [a] ta)(hs:starEach [a] X.env=[(false,eval a X.env)]:=by rfl) :
  PI X (.Tuple ts tk tp) (.Call (.Name "enumerate" p) [a] [] pos) (Dy X.K ta):=by
 intro pins s σ H R I h
 refine Call_ (je I hg hm boot_enumerate (PyProof.Rows.callWith_type1 (bC (ha pos pins s σ H _ I h) fun us s1 vs H1 I1 r1 q1=>?_) hs rfl))
 obtain ⟨l,e,⟨xs,hq⟩,q⟩:=q1
 subst e
 cases r1 with
 | cons r rr =>
  cases rr
  cases r
  obtain ⟨its,rv,pl,hz⟩:=I1.list hq
  refine call_enumerate_list pl.isList fun h' he hit hsz hk=>?_
  refine wpAny_pyIter_enum he ?_
  refine ⟨s1.heap.objs.size+1,[s1.heap.objs.size+1,s1.heap.objs.size],_,_,H1,rfl,I1.kept (t':=s1.toks) hk,xU l _ _ (Nat.succ_ne_self _),⟨⟨_,by simpa using he⟩,hit⟩,fun b hb=>?_,q⟩
  have:b=s1.heap.objs.size+1∨b=s1.heap.objs.size:=by simpa using hb
  rcases this with rfl | rfl
  ·exact I1.rj (Nat.le_succ _) (I1.hok.fresh (Nat.le_succ _))
  ·exact I1.rj (Nat.le_refl _) (I1.hok.fresh (Nat.le_refl _))
end L2
end
section
namespace DL
open PySem PySem.Spec PyProof.Rows L2
theorem xV {x:D}{ds:List D}(h:xS x=some ds):x=.lst ds:=by
 unfold xS at h
 split at h
 ·cases h; rfl
 ·cases h
theorem xW {ds:List D}{j:Nat}{d:D}(h:ds[j]?=some d):(j5 ds)[j]?=some (.tup [.int (j:Nat),d]):=by
 unfold j5
 rw [List.getElem?_map,List.getElem?_zipIdx,h]
 simp
section
variable {T:Tx}{X:XQ}{F:FS}{fi fe:FE}{ft:FT}{De:Ends}{σ:L2.St}{H:Hp}{tg:FG}{g:TG}
theorem zT (hg:gS T tg g)(h:tDs T X (lu tg fi F) De σ H):yG (Dy T.K (tP T (kA T) (af fi ar))) g (tDs T X F) De σ H:=by
 obtain ⟨W,O,env,fl,E,e,q⟩:=h
 unfold lu at e
 cases e1:fi env with
 | none=>rw [e1] at e; cases e
 | some x =>
  rw [e1] at e
  dsimp only [Option.bind_some] at e
  cases e2:xS x with
  | none=>rw [e2] at e; cases e
  | some ds =>
   rw [e2] at e
   dsimp only [Option.bind_some] at e
   cases xV e2
   refine ⟨W,O,env,[.lst ds],E,by unfold af ar; rw [e1]; rfl,fun vs H1 s1 r1=>?_⟩
   obtain ⟨v,r,rfl,rv,rr⟩:=az.dN r1
   cases rr.jh
   have E1:=E.mono s1
   have q1:jO T X W O H1 De fl:=q.fr (Fr.same s1)
   obtain ⟨a,xs,rfl,hl,rl⟩:=Rep.fz rv
   have hlen:=rl.length
   refine ⟨a,rfl,⟨xs,hl.sq⟩,fun j m σ' H'=>m=ds.length - j∧j≤ds.length∧∃ env' O',bz T W O' H' env' σ'∧Fr O H1 O' H'∧runFor tg F ((j5 ds).drop j) env'=some fl,⟨ds.length,by simp,Nat.zero_le _,env,O,E1,Fr.refl _ _,e⟩, ?_⟩
   rintro j m σ' H' ⟨rfl,hj,env',O',E',f,e'⟩
   have hlH:=((E1.kp f).ls hl).sq
   by_cases hlt:j<ds.length
   ·refine .inr ⟨⟨xs,xs[j]'(by omega),hlH,by simp [show j<xs.length by omega]⟩,fun σ2 H2=>∃ env' O',bz T W O' H2 env' σ2∧Fr O H1 O' H2∧runFor tg F ((j5 ds).drop (j+1)) env'=some fl,fun σ2 H2 p=>⟨ds.length - (j+1),by omega,rfl,hlt,p⟩,fun x H2 y=>?_⟩
    obtain ⟨p,y,hp,rfl,rfl,hy⟩:=y
    obtain ⟨d,hd,rd⟩:=rl.sU (hy xs hlH)
    have s2:aG H' (L2.upd H' p (.tup [.int (j:Nat),y])):=bG hp _
    rw [drop_cons (xW hd)] at e'
    have rd':Rep T (Cl W O') H' d y:=E1.sV f rd
    exact jP hg q1 _ ((j5 ds).drop (j+1)) (fun env2 O2 σ2 H2 E2 g2 e2=>⟨env2,O2,E2,g2,e2⟩) (E'.mono s2) (f.trans (Fr.same s2)) e' (Rep.uY (.cons (.int _) (.cons rd' .nil)) hp)
   ·refine .inl ⟨⟨xs,hlH,by omega⟩, ?_⟩
    rw [List.drop_eq_nil_of_le (by rw [xT]; omega)] at e'
    cases e'
    exact q1 σ' H' O' E' f
end
section
variable {X:Cx}{c:Ct}{xq:XQ}{ts:List Expr}{tk:Nat}{tp p ip pos:Pos}{elt iter:Expr}{ifs:List Expr}{scope sc:Scope}{N N':List Str}{nt:Nat}{cap:List Nat}{fi fe:FE}{ft:FT}{tgf:FG}{gt:TG}{F:FS}
theorem oG {body:List Stmt}(hp:PassesOwn (model X.prog X.w) X.A X.env X.xe)(hc:X.calm=true)(sg:gS (tx X c) tgf gt)(pg:PG X (.Tuple ts tk tp) gt)(hgl:Gl X "enumerate")(hm:X.mg "enumerate"=none)(hi:PD X c iter fi)(hb:ou X c xq body F)(hst:isStar iter=false:=by rfl) :
  PDS X c xq (.For (.Tuple ts tk tp) (.Call (.Name "enumerate" p) [iter] [] ip) body [] pos) (lu tgf fi F) :=
 PS.imp (rm hp hc (BU hgl hm (ae hi ak hst) (gJ hst)) pg hb (eY rfl)) fun _ _ _ h=>zT sg h
end
end DL
end
section
namespace L2
open PySem PySem.Spec PyProof.Rows
end L2
namespace DL
open PySem PySem.Spec PyProof.Rows L2
section
variable {X:Cx}{c:Ct}{e a b:Expr}{f g h:FE}{pos p2:Pos}
end
end DL
end
section
namespace DL
open PySem PySem.Spec PyProof.Rows L2
section
variable {X:Cx}
end
end DL
end
section
namespace DL
open L2
theorem lX:∀ (r:List Int) (m:Int),m≤hZ m r∧∀ i∈r,i≤hZ m r
 | [],m=>⟨Int.le_refl _,by simp⟩
 | i::r,m=>by
  have ih:=lX r (if i > m then i else m)
  unfold hZ
  refine ⟨Int.le_trans ?_ ih.1,fun j hj=>?_⟩
  ·split <;> omega
  ·rcases List.mem_cons.mp hj with rfl | hj
   ·exact Int.le_trans (by split <;> omega) ih.1
   ·exact ih.2 j hj
theorem jU:∀ (r:List Int) (m:Int),hZ m r∈m::r
 | [],m=>by simp [hZ]
 | i::r,m=>by
  have ih:=jU r (if i > m then i else m)
  unfold hZ
  rcases List.mem_cons.mp ih with e | e
  ·rw [e]
   split
   ·exact List.mem_cons_of_mem _ List.mem_cons_self
   ·exact List.mem_cons_self
  ·exact List.mem_cons_of_mem _ (List.mem_cons_of_mem _ e)
theorem ly (is:List Int):intsOf (is.map D.int)=some is:=by
 induction is with
 | nil=>rfl
 | cons x r ih=>show (intsOf (r.map D.int)).map (x::·)=_; rw [ih]; rfl
theorem zU (is:List Int)(M:Int)(hm:M∈is)(hM:∀ i∈is,i≤M):ix (.lst (is.map D.int))=some (.int M):=by
 show (intsOf (is.map D.int)).bind _=_
 rw [ly]
 cases is with
 | nil=>cases hm
 | cons i r =>
  have h1:=jU r i
  have h2:=lX r i
  have h3:=hM _ h1
  have h4:M≤hZ i r:=by
   rcases List.mem_cons.mp hm with rfl | hm
   ·exact h2.1
   ·exact h2.2 M hm
  show some (D.int (hZ i r))=_
  rw [Int.le_antisymm h3 h4]
end DL
namespace DL
open L2
def hE:List (List Nat)→List D→List Nat→Option D
 | k::ks,d::ds,x=>if k=x then some d else hE ks ds x
 | _,_,_=>none
def wq:D→D→Option D
 | .dct ks ds,.str x=>hE ks ds x
 | _,_=>none
def vo:D→D→D→Option D
 | .dct ks ds,.str x,v=>some ((hE ks ds x).getD v)
 | _,_,_=>none
@[simp] theorem HK (ks:List (List Nat))(ds:List D)(x:List Nat):wq (.dct ks ds) (.str x)=hE ks ds x:=zEr
@[simp] theorem Gq (ks:List (List Nat))(ds:List D)(x:List Nat)(v:D):vo (.dct ks ds) (.str x) v=some ((hE ks ds x).getD v):=zEr
def jV (lo st:Int)(n:Nat):List D:=(List.range n).map fun k=>D.int (lo+st * (k:Nat))
def tJ:List D→Option (List D)
 | [.int lo,.int hi,.int st]=>if (-1000000000<lo∧lo<1000000000)∧(-1000000000<hi∧hi<1000000000)∧0<st∧st<1000000000 then some (jV lo st ((hi - lo+st - 1) / st).toNat) else none
 | _=>none
theorem BV (lo hi st:Int):tJ [.int lo,.int hi,.int st]=if (-1000000000<lo∧lo<1000000000)∧(-1000000000<hi∧hi<1000000000)∧0<st∧st<1000000000 then some (jV lo st ((hi - lo+st - 1) / st).toNat) else none:=rfl
end DL
end
section
namespace DL
open PySem PySem.Spec PyProof.Rows L2
section
variable {X:Cx}{c:Ct}{e:Expr}{f:FE}{pos:Pos}
theorem xX (hc:X.calm=true):iI X (.builtin "max") (fun xs H Q=>∃ (a:Addr) (i:Int) (ns:List Int),xs=[.ref a]∧SqL X.K H a ((i::ns).map V.int)∧Q (.int (hZ i ns)) H):=by
 intro pins s σ H xs us Q I r h
 obtain ⟨a,i,ns,rfl,hS,q⟩:=h
 obtain ⟨u,rfl,ru⟩:=vals1 r
 cases ru
 obtain ⟨its,rv,p,hz⟩:=I.list hS
 have hi:=gr rv
 obtain ⟨ys,hy⟩:=hi.allInts.items
 have hl:s.heap.IsList a (intItems ys):=hy ▸ p.isList
 have e1:(i::ns)=ys.toList.map (·.1):=by
  rw [← nums_intItems, ← hy]
  exact hi.numsOf.symm
 have hsz:0<ys.size:=by
  have:=congrArg List.length e1
  simp at this; omega
 refine max_intList (I.ok.hd hc) hl hsz fun v h' tk hv hk=>?_
 obtain ⟨t,rfl⟩:=intItems_at hv
 obtain ⟨h1,h2⟩:=argBest_gt (numAt ys) (ys.size - 1)
 generalize argBest (fun i j=>decide (numAt ys i > numAt ys j)) (ys.size - 1)=k at h1 h2
 have hm:numAt ys k=hZ i ns:=by
  have m1:numAt ys k∈i::ns:=by rw [e1,numAt_eq]; exact getD_mem (by rw [List.length_map,Array.length_toList]; omega)
  have m2:∀ j∈i::ns,j≤numAt ys k:=fun j hj=>by
   rw [e1] at hj
   obtain ⟨q,hq,rfl⟩:=mem_getD hj
   rw [List.length_map,Array.length_toList] at hq
   rw [← numAt_eq]; exact h2 q (by omega)
  have m3:=lX ns i
  refine Int.le_antisymm ?_ (m2 _ (jU ns i))
  rcases List.mem_cons.mp m1 with e | e
  ·rw [e]; exact m3.1
  ·exact m3.2 _ e
 exact ⟨.int (hZ i ns),H,I.kept hk,⟨t,by rw [hm]⟩,q⟩
theorem zV {T:Tx}(A:Addr→Prop)(H0 H:Hp)(x:D)(v:V)(d:D)(Q:VK)(_:Nw A H)(rx:kR T A H0 H x v)(e:ix x=some d)(k:∀ w H',aG H H'→kD T A H H' d w→Q w H'):∃ (a:Addr) (i:Int) (ns:List Int),[v]=[.ref a]∧SqL T.K H a ((i::ns).map V.int)∧Q (.int (hZ i ns)) H:=by
 unfold ix at e
 split at e
 ·next ds =>
  cases e1:intsOf ds with
  | none=>rw [e1] at e; cases e
  | some is =>
   rw [e1] at e
   dsimp only [Option.bind_some] at e
   split at e
   ·cases e
   ·next i ns =>
    cases e
    obtain ⟨a,xs,rfl,hS,hr⟩:=aA.fz rx
    cases jr e1 hr
    exact ⟨a,i,ns,rfl,hS,k _ _ (aG.refl H) (.int _)⟩
 ·cases e
theorem oH {p:Pos}(hg:Gl X "max")(hm:X.mg "max"=none)(hc:X.calm=true)(ha:PR X c e f)(he:isStar e=false:=by rfl):PD X c (.Call (.Name "max" p) [e] [] pos) (fp1 ix f):=we (xX hc) zV hg hm boot_max ha he
end
end DL
end
section
namespace L2
open PySem PySem.Spec PyProof.Rows
section
variable {κ:Type}[DecidableEq κ]
def jE (kvs:List (κ × V))(k:κ):Option V:=(kvs.find? fun kv=>decide (kv.1=k)).map (·.2)
def putK (kvs:List (κ × V))(k:κ)(v:V):List (κ × V) :=
 if (kvs.any fun kv=>decide (kv.1=k))=true then kvs.map (fun kv=>if kv.1=k then (kv.1,v) else kv) else kvs++[(k,v)]
theorem gL {p:κ × V}{r:List (κ × V)}{k:κ}(e:p.1=k):jE (p::r) k=some p.2:=by simp [jE,List.find?_cons,e]
theorem gM {p:κ × V}{r:List (κ × V)}{k:κ}(e:¬ p.1=k):jE (p::r) k=jE r k:=by simp [jE,List.find?_cons,e]
theorem tK (k:κ):∀ kvs:List (κ × V),(kvs.any fun kv=>decide (kv.1=k))=(jE kvs k).isSome
 | []=>rfl
 | p::r=>by
  rw [List.any_cons]
  by_cases e:p.1=k
  ·simp only [gL e,decide_eq_true e,Bool.true_or,Option.isSome_some]
  ·rw [gM e,decide_eq_false e,Bool.false_or]; exact tK k r
theorem qN (k j:κ)(y:V):∀ kvs:List (κ × V),jE kvs k=none→jE (kvs++[(k,y)]) j=if j=k then some y else jE kvs j
 | [],_=>by
  by_cases e:k=j
  ·rw [if_pos e.symm]; exact gL (p:=(k,y)) e
  ·rw [if_neg (fun z=>e z.symm)]; exact gM (p:=(k,y)) e
 | p::r,hn=>by
  rw [List.cons_append]
  have hk:¬ p.1=k:=fun z=>by rw [gL z] at hn; cases hn
  rw [gM hk] at hn
  have ih:=qN k j y r hn
  by_cases e:p.1=j
  ·rw [gL e,gL e,if_neg (fun z=>hk (e.trans z))]
  ·rw [gM e,gM e,ih]
theorem tL (kvs:List (κ × V))(k:κ)(v:V):(putK kvs k v).length≤kvs.length+1:=by
 unfold putK
 split
 ·rw [List.length_map]; omega
 ·rw [List.length_append,List.length_cons,List.length_nil]; omega
theorem zW {kvs:List (κ × V)}{k:κ}(v:V)(h:jE kvs k=none):putK kvs k v=kvs++[(k,v)]:=by
 unfold putK
 rw [tK,h]
 exact if_neg (by decide)
theorem kG.getD {o:Option V}{u:Option Value}{d:V}{d':Value}(r:kG o u)(rd:RelV d d'):RelV (o.getD d) (u.getD d'):=by
 cases o with
 | none=>cases u with
  | none=>exact rd
  | some _=>exact (show False from r).elim
 | some _=>cases u with
  | none=>exact (show False from r).elim
  | some _=>exact r
theorem KV.val {kvs:List (κ × V)}{vs:List (κ × Value)}(r:KV kvs vs)(k:κ):kG (jE kvs k) (valueAt vs k):=by
 unfold KV at r
 induction r with
 | nil=>exact True.intro
 | @cons p q ps qs h t ih =>
  obtain ⟨h1,h2⟩:=h
  by_cases e:p.1=k
  ·have e':q.1=k:=h1.symm.trans e
   have b:valueAt (q::qs) k=some q.2:=by simp [valueAt,List.find?_cons,e']
   rw [gL e,b]; exact h2
  ·have e' : ¬ q.1=k:=fun z=>e (h1.trans z)
   have b:valueAt (q::qs) k=valueAt qs k:=by simp [valueAt,List.find?_cons,e']
   rw [gM e,b]; exact ih
theorem KV.any {kvs:List (κ × V)}{vs:List (κ × Value)}(r:KV kvs vs)(k:κ):(kvs.any fun kv=>decide (kv.1=k))=vs.any fun kv=>decide (kv.1=k):=by
 unfold KV at r
 induction r with
 | nil=>rfl
 | cons h t ih=>rw [List.any_cons,List.any_cons,ih,h.1]
theorem KV.JA {kvs:List (κ × V)}{vs:List (κ × Value)}(r:KV kvs vs)(k:κ){y:V}{u:Value}(ry:RelV y u) :
  KV (kvs.map fun kv=>if kv.1=k then (kv.1,y) else kv) (vs.map fun kv=>if kv.1=k then (kv.1,u) else kv):=by
 unfold KV at r ⊢
 induction r with
 | nil=>exact .nil
 | @cons p q ps qs h t ih =>
  rw [List.map_cons,List.map_cons]
  refine .cons ?_ ih
  obtain ⟨h1,h2⟩:=h
  by_cases e:p.1=k
  ·rw [if_pos e,if_pos (h1.symm.trans e)]; exact ⟨h1,ry⟩
  ·rw [if_neg e,if_neg (fun z=>e (h1.trans z))]; exact ⟨h1,h2⟩
theorem KV.put {kvs:List (κ × V)}{vs:List (κ × Value)}(r:KV kvs vs)(k:κ){y:V}{u:Value}(ry:RelV y u):KV (putK kvs k y) (stored vs k u):=by
 unfold putK stored
 rw [r.any k]
 by_cases e:(vs.any fun kv=>decide (kv.1=k))=true
 ·rw [if_pos e,if_pos e]; exact r.JA k ry
 ·rw [if_neg e,if_neg e]; exact Paired.snoc r ⟨rfl,ry⟩
end
theorem wt {P:Program}{w:World}{k:Key}{u:Value}(r:RelV (kV k) u):(dB P w).is k u=true:=by
 cases k with
 | inl i=>obtain ⟨t,e⟩:=(show ∃ t,u=Value.int i t from r); subst e; exact sL P w i t
 | inr x=>obtain ⟨t,e⟩:=(show ∃ t,u=Value.str x t from r); subst e; exact sM P w x t
theorem qO {P:Program}{w:World}:∀ {ks:List Key} {us:List Value},Vals (ks.map kV) us→ItemsAre (dB P w) ks us
 | [],_,r=>by rw [List.map_nil] at r; cases r; exact .nil
 | k::ks,_,r=>by
  rw [List.map_cons] at r
  cases r with
  | cons h t=>exact .cons (wt h) (qO t)
abbrev KT (H:Hp):List (List Key × V)→List (List Key × Addr × Value)→Prop:=Paired fun p q=>p.1=q.1∧H q.2.1=some (.tup (p.1.map kV))∧RelV p.2 q.2.2
theorem KT.val {H:Hp}{kvs:List (List Key × V)}{xs:List (List Key × Addr × Value)}(r:KT H kvs xs)(k:List Key):kG (jE kvs k) ((atKey xs k).map (·.2)):=by
 induction r with
 | nil=>exact True.intro
 | @cons p q ps qs h t ih =>
  obtain ⟨h1,_,h2⟩:=h
  by_cases e:p.1=k
  ·have e':q.1=k:=h1.symm.trans e
   have b:atKey (q::qs) k=some q.2:=by simp [atKey,List.find?_cons,e']
   rw [gL e,b]; exact h2
  ·have e' : ¬ q.1=k:=fun z=>e (h1.trans z)
   have b:atKey (q::qs) k=atKey qs k:=by simp [atKey,List.find?_cons,e']
   rw [gM e,b]; exact ih
section
variable {P:Program}{w:World}{H:Hp}{h:Heap}{a:Addr}
theorem Dz {u:HO}(ok:HOk P w H h)(e:Rd H a u):eG P w H h a u:=e.ok ok
theorem tM {kvs:List (Key × V)}(ok:HOk P w H h)(e:Rd H a (.dK kvs)):kvs.length≤sizeLine∧(a == sysModules)=false∧∃ vs,KV kvs vs∧h.DictOf (dB P w) a vs :=
 show eG P w H h a (.dK kvs) from Dz ok e
theorem HL {kvs:List (Key × V)}(ok:HOk P w H h)(e:H a=some (.dK kvs)):kvs.length≤sizeLine∧(a == sysModules)=false∧∃ vs,KV kvs vs∧h.DictOf (dB P w) a vs:=tM ok (.inl e)
theorem vp {ks:List Key}(ok:HOk P w H h)(e:H a=some (.tup (ks.map kV))):(tupleKind (dB P w)).is h ks a:=by
 obtain ⟨_,its,r,o,h1,h2,n,h3⟩:=(show eG P w H h a (.tup (ks.map kV)) from ok a _ e)
 exact ⟨o,its.toArray,n,h1,h2,h3,by simpa using qO r⟩
theorem wu {kvs:List (List Key × V)}(ok:HOk P w H h)(e:Rd H a (.dT kvs)):kvs.length≤sizeLine∧(a == sysModules)=false ∧
  ∃ xs,KT H kvs xs∧h.DictOfH (tupleKind (dB P w)) a xs:=by
 obtain ⟨z,y,xs,r,o,es,ep,h1,h2,h3,h4,h5⟩:=(show eG P w H h a (.dT kvs) from Dz ok e)
 refine ⟨z,y,xs,r,o,es,ep,h1,h2,h3,h4,fun x hx=>?_,h5⟩
 have all:∀ {l:List (List Key × V)} {m:List (List Key × Addr × Value)},KT H l m→∀ x∈m,(tupleKind (dB P w)).is h x.1 x.2.1:=by
  intro l m q
  induction q with
  | nil=>intro x hx; exact nomatch hx
  | @cons p q ps qs hq t ih =>
   intro x hx
   rcases List.mem_cons.mp hx with e | hx
   ·subst e
    exact vp ok (by rw [← hq.1]; exact hq.2.1)
   ·exact ih x hx
 exact all r x hx
end
def rT (H:Hp)(a:Addr)(y:V)(r:Option V):Prop :=
 (∃ kvs k,Rd H a (.dK kvs)∧y=kV k∧r=jE kvs k)∨∃ kvs k b,Rd H a (.dT kvs)∧y=.ref b∧H b=some (.tup (k.map kV))∧r=jE kvs k
theorem rT.k {H:Hp}{a:Addr}{kvs:List (Key × V)}{k:Key}(e:H a=some (.dK kvs)):rT H a (kV k) (jE kvs k):=.inl ⟨kvs,k,.inl e,rfl,rfl⟩
section
variable {X:Cx}{pins:List (Addr × Obj)}{σ:St}{H:Hp}{s:Shared}{a:Addr}{y v:V}{u r:Value}{o:Option V}{A:Around}{E:Value→Shared→Prop}
theorem Inv.big (I:Inv X pins σ H s):sysModules<s.heap.objs.size:=by
 have h:mainGlobals<s.heap.objs.size:=(I.mod.glob.keeps I.bk).lt
 exact Nat.lt_trans (by decide) h
theorem xY {Q:Value→Shared→Prop}(hu:A.units+1<cLine)(I:Inv X pins σ H s)(g:rT H a y (some v))(ry:RelV y u)(h:∀ w' s',Inv X pins σ H s'→RelV v w'→Q w' s') :
  wpAny (model X.prog X.w) A (getItem (.ref a) u) Q E s:=by
 rcases g with ⟨kvs,k,e,ey,l⟩ | ⟨kvs,k,b,e,ey,eb,l⟩
 ·subst ey
  obtain ⟨z,hd,vs,rel,dd⟩:=tM I.hok e
  obtain ⟨w',hw,rw'⟩:=kG.some_of (v:=v) (o:=valueAt vs k) (by rw [l]; exact rel.val k)
  exact wpAny_getItem_of (wt ry) dd.mapOf hw (h w' _ (I.tok _) rw')
 ·subst ey
  cases (show u=Value.ref b from ry)
  obtain ⟨z,hd,xs,rel,dd⟩:=wu I.hok e
  obtain ⟨w',hw,rw'⟩:=kG.some_of (v:=v) (o:=(atKey xs k).map (·.2)) (by rw [l]; exact rel.val k)
  obtain ⟨p,hp,hp2⟩:=Option.map_eq_some_iff.mp hw
  refine wpAny_getItem_heap (tupleKind_room_in1 hu) (vp I.hok eb) dd hp ?_
  rw [hp2]
  exact h w' _ (I.tok _) rw'
theorem BW {h':Heap}{t':Nat}{ob:HO}(I:Inv X pins σ H s)(mu:Mut (H a))(hs:Heap.SameBut a s.heap h')(he:∃ q,h'.get? a=some q)(new:eG X.prog X.w (upd H a ob) h' a ob) :
  Inv X pins σ (upd H a ob) { s with heap:=h',toks:=t' } :=
 I.write (x:=a) (e:=a) mu (.inl rfl) (fun b q hb z=>(hs.2 b hb).trans z) he new
theorem Fy {P:Program}{w:World}{H':Hp}{h':Heap}{kvs:List (Key × V)}{vs:List (Key × Value)}(z:kvs.length≤sizeLine)(hd:(a == sysModules)=false)(rel:KV kvs vs)(dd:h'.DictOf (dB P w) a vs) :
  eG P w H' h' a (.dK kvs):=⟨z,hd,vs,rel,dd⟩
end
section
variable {X:Cx}{pins:List (Addr × Obj)}{σ:St}{H:Hp}{s:Shared}{a:Addr}{kvs:List (Key × V)}{k:Key}{u:Value}{A:Around}{E:Value→Shared→Prop}
end
def Fz (i:Expr):Prop:=∀ ov iv,subscripted i false ov iv=operate [ov,iv] (getItem ov iv)
theorem BX {prog:Program}{w:World}{A:Around}{E:Value→Shared→Prop}{s:Shared}{env:Env}{value slice:Expr}{pos:Pos}{T id:String}{Q:Value→Shared→Prop}
  (hl:typeLookup (.type T) "__getitem__"=pure (some (.builtin id))) (hs:Fz slice)
  (h:wpAny (model prog w) A (eval value env) (fun o s₁=>wpAny (model prog w) A (eval slice env) (fun i s₂=>s₂.TypeIs o T∧wpAny (model prog w) A (getItem o i) Q E s₂) E s₁) E s) :
  wpAny (model prog w) A (eval (.Subscript value slice pos) env) Q E s:=by
 refine Subscript_ (wpAny_mono h (fun o s₁ h₁=>wpAny_mono h₁ (fun i s₂ h₂=>?_) fun _ _ x=>x) fun _ _ x=>x)
 obtain ⟨hT,h₂⟩:=h₂
 unfold subscriptTail
 refine wpAny_bind ?_
 rw [getitemInPython_of_ne hT.not_modules]
 refine wpAny_bind (wpAny_specialOf hT hl ?_)
 have fin:wpAny (model prog w) A (subscripted slice false o i) (fun r s₃=>wpAny (model prog w) A (letTemporaryGo value o r >>= fun _=>pure r) Q E s₃) E s₂:=by
  rw [hs o i]
  exact wpAny_operating (wpAny_mono h₂ (fun r s₃ h₃=>wpAny_bind (wpAny_letTemporaryGo (wpAny_pure h₃))) fun _ _ x=>x)
 first
  | exact wpAny_pure (wpAny_bind fin)
  | exact wpAny_bind (wpAny_pure (wpAny_bind fin))
  | exact wpAny_bind fin
theorem tN {X:Cx}{pins:List (Addr × Obj)}{σ:St}{H:Hp}{s:Shared}{a:Addr}{y:V}{o:Option V}(I:Inv X pins σ H s)(g:rT H a y o):s.TypeIs (.ref a) "dict":=by
 rcases g with ⟨kvs,k,e,_,_⟩ | ⟨kvs,k,b,e,_,_,_⟩
 ·obtain ⟨_,_,vs,_,dd⟩:=tM I.hok e
  exact dd.typeIs
 ·obtain ⟨_,_,xs,_,dd⟩:=wu I.hok e
  exact dd.typeIs
def HM (td ty:TE):TE:=fun σ H Q=>td σ H fun x H1=>ty σ H1 fun y H2=>∃ a v,x=.ref a∧rT H2 a y (some v)∧Q v H2
section
variable {X:Cx}{o i e value:Expr}{pos pos' tpos:Pos}{td ty tv:TE}
theorem BZ (hu:X.A.units+1<cLine)(ho:PE X o td)(hi:PE X i ty)(hs:Fz i):PE X (.Subscript o i pos) (HM td ty):=by
 intro pins s σ H Q I h
 refine BX PySem.F.slot_dict_getitem.lookup hs (bC (ho pins s σ H _ I h) fun u s1 x H1 I1 rx q1=>bC (hi pins s1 σ H1 _ I1 q1) fun iv s2 y H2 I2 ry zz_=>?_)
 obtain ⟨a,v,ex,g,q2⟩:=zz_
 subst ex
 obtain rfl:u=Value.ref a:=rx
 exact ⟨tN I2 g,xY hu I2 g ry fun w' s3 I3 rw'=>⟨v,H2,I3,rw',q2⟩⟩
end
theorem zX {P:Program}{w:World}{H:Hp}(h:Heap)(hb:sysModules<h.objs.size):eG P w H (h.push { cls:=.type "dict",data:=.dict #[] }) h.objs.size (.dK []) :=
 ⟨Nat.zero_le _,beq_eq_false_iff_ne.mpr (Ne.symm (Nat.ne_of_lt hb)),[],.nil,Heap.DictOf.new h⟩
section
variable {X:Cx}{pos:Pos}
end
def rV:List (TE × TE)→St→Hp→(List (V × V)→Hp→Prop)→Prop
 | [],_,H,Q=>Q [] H
 | (tk,tv)::r, σ,H,Q=>tk σ H fun x H1=>tv σ H1 fun y H2=>rV r σ H2 fun ps H3=>Q ((x,y)::ps) H3
abbrev VV:List (V × V)→List (Value × Value)→Prop:=Paired fun p q=>RelV p.1 q.1∧RelV p.2 q.2
def PPs (X:Cx)(pos:Pos)(keys:List (Option Expr))(values:List Expr)(trs:List (TE × TE)):Prop :=
 ∀ (pins:List (Addr × Obj)) (s:Shared) (σ:St) (H:Hp) (Q:List (V × V)→Hp→Prop),Inv X pins σ H s→rV trs σ H Q →
  wpAny (model X.prog X.w) X.A (evalPairs (pairTrees keys values X.env pos)) (fun vs s'=>∃ ps H',Inv X pins σ H' s'∧VV ps vs∧Q ps H') X.xe s
theorem C8 {X:Cx}{pos:Pos}:PPs X pos [] [] []:=fun pins s σ H Q I h=>pairTrees_nil_walk ⟨[],H,I,.nil,h⟩
theorem zY {X:Cx}{pos:Pos}{k v:Expr}{ks:List (Option Expr)}{vs:List Expr}{tk tv:TE}{trs:List (TE × TE)}(hk:PE X k tk)(hv:PE X v tv)(hr:PPs X pos ks vs trs) :
  PPs X pos (some k::ks) (v::vs) ((tk,tv)::trs):=fun pins s σ H Q I h =>
 pairTrees_cons_walk (bC (hk pins s σ H _ I h) fun u s1 x H1 I1 rx q1=>bC (hv pins s1 σ H1 _ I1 q1) fun w2 s2 y H2 I2 ry q2 =>
  bC (hr pins s2 σ H2 _ I2 q2) fun ws s3 ps H3 I3 rel q3=>⟨(x,y)::ps,H3,I3,.cons ⟨rx,ry⟩ rel,q3⟩)
def jt (kvs more:List (Key × V)):List (Key × V):=more.foldl (fun acc kv=>putK acc kv.1 kv.2) kvs
theorem KV.merge:∀ {more:List (Key × V)} {rs:List (Key × Value)} {kvs:List (Key × V)} {vs:List (Key × Value)},KV more rs→KV kvs vs→KV (jt kvs more) (merged vs rs):=by
 intro more rs kvs vs r
 unfold KV at r
 induction r generalizing kvs vs with
 | nil=>intro q; exact q
 | @cons p q ps qs h t ih =>
  intro r0
  have e:KV (putK kvs p.1 p.2) (stored vs q.1 q.2):=by
   have:=r0.put p.1 h.2
   rw [← h.1]; exact this
  exact ih e
theorem kS:∀ (more kvs:List (Key × V)),(jt kvs more).length≤kvs.length+more.length
 | [],kvs=>by show kvs.length≤kvs.length+0; omega
 | p::r,kvs=>by
  have h1:=kS r (putK kvs p.1 p.2)
  have h2:=tL kvs p.1 p.2
  show (jt (putK kvs p.1 p.2) r).length≤_
  rw [List.length_cons]; omega
theorem oI {P:Program}{w:World}:∀ {kvs:List (Key × V)} {ws:List (Value × Value)},VV (kvs.map fun kv=>(kV kv.1,kv.2)) ws→∃ rs,Carries (dB P w) ws rs∧KV kvs rs
 | [],_,r=>by rw [List.map_nil] at r; cases r; exact ⟨[],True.intro,.nil⟩
 | p::kvs,_,r=>by
  rw [List.map_cons] at r
  cases r with
  | @cons a b as bs h t =>
   obtain ⟨rs,c,q⟩:=oI (P:=P) (w:=w) t
   obtain ⟨b1,b2⟩:=b
   exact ⟨(p.1,b2)::rs,⟨wt h.1,rfl,c⟩,.cons ⟨rfl,h.2⟩ q⟩
def HN (trs:List (TE × TE)):TE:=fun σ H Q=>∀ p,H p=none→rV trs σ (upd H p (.dK [])) fun ps H2=>H2 p=some (.dK [])∧∃ kvs:List (Key × V),ps=kvs.map (fun kv=>(kV kv.1,kv.2))∧kvs.length≤15∧Q (.ref p) (upd H2 p (.dK (jt [] kvs)))
theorem C9 {X:Cx}{pos:Pos}{keys:List (Option Expr)}{values:List Expr}{trs:List (TE × TE)}(h:PPs X pos keys values trs)(hall:keys.all (·.isSome)=true)(hl:keys.length=values.length)(h0:keys≠[])
  (h15:keys.length≤15):PE X (.Dict keys values pos) (HN trs):=by
 intro pins s σ H Q I q
 have hn:=I.hok.fresh (Nat.le_refl s.heap.objs.size)
 have I1:=I.laid (a:=s.heap.objs.size) (o:=.dK []) (h':=s.heap.push { cls:=.type "dict",data:=.dict #[] }) (t':=s.toks) (fun _ _ q=>Heap.get?_push_of_some _ q) (Nat.le_refl _) (zX s.heap I.big)
 refine wpAny_Dict_walk (knd:=dB X.prog X.w) hall hl h0 h15 (bC (h pins _ σ _ _ I1 (q _ hn)) fun ws s2 ps H2 I2 rel zz_=>?_)
 obtain ⟨e,kvs,ep,lk,q2⟩:=zz_
 subst ep
 obtain ⟨rs,c,rk⟩:=oI (P:=X.prog) (w:=X.w) rel
 obtain ⟨z,hd,vs0,r0,dd⟩:=HL I2.hok e
 cases r0
 refine ⟨rs,c,dd,fun h' dd' hs=>⟨.ref s.heap.objs.size,_, ?_,rfl,q2⟩⟩
 have hz:(jt [] kvs).length≤sizeLine:=by
  have h1:=kS kvs []
  rw [List.length_nil] at h1
  rw [sizeLine_eq]; omega
 have he:∃ q,h'.get? s.heap.objs.size=some q:=let ⟨q,_,_,hq,_⟩:=dd'; ⟨q,hq⟩
 exact BW I2 (by rw [e]; exact True.intro) hs he (Fy hz hd (rk.merge .nil) dd')
structure M2 (X:Cx)(o:Expr)(m:Str)(apos:Pos)(e f:Expr)(cpos:Pos):Prop where
 base:attributeBase o m X.env (eval o X.env)=eval o X.env
 few:((backTo cpos (starEach [e,f] X.env)).all (fun x=>!x.1) && (backToKw cpos (keywordEach [] X.env)).all (fun x=>x.1.isSome)
  && decide (([e,f]:List Expr).length+([]:List Keyword).length+(if ([]:List Keyword).isEmpty then 0 else 1)<30))=true
 line:(apos.endLine == cpos.line)=true
 trees:backTo cpos (starEach [e,f] X.env)=[(false,eval e X.env),(false,eval f X.env)]
def IsD (H:Hp)(a:Addr):Prop:=(∃ kvs,Rd H a (.dK kvs))∨∃ kvs,Rd H a (.dT kvs)
theorem FC {X:Cx}{pins:List (Addr × Obj)}{σ:St}{H:Hp}{s:Shared}{a:Addr}(I:Inv X pins σ H s)(d:IsD H a) :
  s.TypeIs (.ref a) "dict"∧(∀ b,Value.ref a=.ref b→∃ ob,s.heap.get? b=some ob∧ob.dict=none)∧(a == sysModules)=false:=by
 rcases d with ⟨kvs,e⟩ | ⟨kvs,e⟩
 ·obtain ⟨_,hd,vs,_,dd⟩:=tM I.hok e
  refine ⟨dd.typeIs,fun b q=>?_,hd⟩
  cases q
  obtain ⟨ob,_,_,h1,h2,_⟩:=dd
  exact ⟨ob,h1,h2.2.1⟩
 ·obtain ⟨_,hd,xs,_,dd⟩:=wu I.hok e
  refine ⟨dd.typeIs,fun b q=>?_,hd⟩
  cases q
  obtain ⟨ob,_,_,h1,h2,_⟩:=dd
  exact ⟨ob,h1,h2.2.1⟩
section
variable {X:Cx}{pins:List (Addr × Obj)}{σ:St}{H:Hp}{s:Shared}{a:Addr}{y d:V}{u r:Value}{o:Option V}{A:Around}{E:Value→Shared→Prop}
theorem FD {Q:Value→Shared→Prop}(hu:A.units+1<cLine)(I:Inv X pins σ H s)(g:rT H a y o)(ry:RelV y u)(rd:RelV d r)(h:∀ w' s',Inv X pins σ H s'→RelV (o.getD d) w'→Q w' s') :
  wpAny (model X.prog X.w) A (call (.builtin "dict.get") [.ref a,u,r]) Q E s:=by
 rcases g with ⟨kvs,k,e,ey,l⟩ | ⟨kvs,k,b,e,ey,eb,l⟩
 ·subst ey
  obtain ⟨z,hd,vs,rel,dd⟩:=tM I.hok e
  refine call_meetsIn PySem.F.slot_dict_get dd.typeIs PySem.F.entry_dict_get (PySem.F.args_dict_get_3 _ _ _) (meets_dict_get_default (dB X.prog X.w) a (wt ry) hd r) ⟨_,dd.mapOf,h _ _ (I.tok _) ?_⟩
  rw [l]
  exact (rel.val k).getD rd
 ·subst ey
  cases (show u=Value.ref b from ry)
  obtain ⟨z,hd,xs,rel,dd⟩:=wu I.hok e
  refine call_meetsIn PySem.F.slot_dict_get dd.typeIs PySem.F.entry_dict_get (PySem.F.args_dict_get_3 _ _ _) (meetsH_dict_get_default (tupleKind (dB X.prog X.w)) a b hd r) ⟨tupleKind_room_in1 hu,k,xs,vp I.hok eb,dd,h _ _ (I.tok _) ?_⟩
  rw [l]
  exact (rel.val k).getD rd
end
def FF (td ty tx:TE):TE:=fun σ H Q=>td σ H fun x H1=>∃ a,x=.ref a∧IsD H1 a∧ty σ H1 fun y H2=>tx σ H2 fun z H3=>∃ o,rT H3 a y o∧Q (o.getD z) H3
section
variable {X:Cx}{o e f:Expr}{apos cpos:Pos}{td ty tx:TE}
theorem zZ (hu:X.A.units+1<cLine)(ho:PE X o td)(he:PE X e ty)(hf:PE X f tx)(m:M2 X o "get" apos e f cpos):PE X (.Call (.Attribute o "get" apos) [e,f] [] cpos) (FF td ty tx):=by
 intro pins s σ H Q I h
 refine wpAny_Call_method m.base m.few m.line PySem.F.plainAttrs_dict PySem.F.slot_dict_get PySem.F.type_dict_get (bC (ho pins s σ H _ I h) fun u s1 x H1 I1 rx zz_=>?_)
 obtain ⟨a,ex,d,q1⟩:=zz_
 subst ex
 obtain rfl:u=Value.ref a:=rx
 obtain ⟨t1,t2,_⟩:=FC I1 d
 refine ⟨t1,t2, ?_⟩
 rw [m.trees]
 refine Calls.callWith_builtin rfl (Calls.evalArgs_plain (Calls.spliced_cons (bC (he pins s1 σ H1 _ I1 q1) fun iv s2 y H2 I2 ry q2 =>
  Calls.spliced_cons (bC (hf pins s2 σ H2 _ I2 q2) fun fv s3 z H3 I3 rz ⟨ov,g,q3⟩=>Calls.spliced_nil ?_))))
 exact FD hu I3 g ry rz fun w' s4 I4 rw'=>⟨_,H3,I4,rw',q3⟩
end
end L2
end
section
namespace DL
open PySem PySem.Spec PyProof.Rows L2
def kcT (ps:List (List Nat × Int)):List (TE × TE):=ps.map fun p=>(tC (.str (mkS p.1)),tC (.int p.2))
abbrev KC (X:Cx)(pos:Pos)(keys:List (Option Expr))(values:List Expr)(ps:List (List Nat × Int)):Prop:=PPs X pos keys values (kcT ps)
theorem A0 {X:Cx}{pos:Pos}:KC X pos [] [] []:=C8
theorem i6 {X:Cx}{pos p1 p2:Pos}{x:Str}{z:List Nat}{i:Int}{j1 j2}{ks:List (Option Expr)}{vs:List Expr}{ps:List (List Nat × Int)}(hx:x=mkS z)(h:KC X pos ks vs ps):KC X pos (some (.Constant (.str x) j1 p1)::ks) (.Constant (.int i) j2 p2::vs) ((z,i)::ps):=by
 subst hx
 exact zY yy yx h
theorem tO (σ:L2.St):∀ (ps:List (List Nat × Int)) (H:Hp) (Q:List (V × V)→Hp→Prop),Q (ps.map fun p=>(V.str (mkS p.1),V.int p.2)) H→rV (kcT ps) σ H Q
 | [],H,Q,h=>h
 | p::ps,H,Q,h=>tO σ ps H _ h
theorem nj:∀ (more kvs:List (Key × V)),(more.map (·.1)).Nodup→(∀ k∈more,jE kvs k.1=none)→jt kvs more=kvs++more
 | [],kvs,_,_=>by simp [jt]
 | p::r,kvs,nd,h=>by
  have e:=zW p.2 (h p List.mem_cons_self)
  show jt (putK kvs p.1 p.2) r=_
  rw [e,nj r _ (List.nodup_cons.mp nd).2 fun q hq=>?_]
  ·simp
  ·have hne:q.1≠p.1:=fun z=>(List.nodup_cons.mp nd).1 (List.mem_map.mpr ⟨q,hq,z⟩)
   rw [qN _ _ _ _ (h p List.mem_cons_self),if_neg hne]
   exact h q (List.mem_cons_of_mem _ hq)
section
variable {X:Cx}{c:Ct}{a b e o:Expr}{f g h:FE}{pos:Pos}
theorem A1 {keys:List (Option Expr)}{values:List Expr}{ps:List (List Nat × Int)}(k:KC X pos keys values ps)(nd:(ps.map (·.1)).Nodup)(hall:keys.all (·.isSome)=true:=by rfl)(hl:keys.length=values.length:=by rfl)(h0:keys≠[]:=by exact fun z=>nomatch z)(h15:keys.length≤15:=by decide)(h15':ps.length≤15:=by decide) :
  PD X c (.Dict keys values pos) (feC (.dct (ps.map (·.1)) (ps.map fun p=>.int p.2))):=PE.imp (C9 k hall hl h0 h15) fun σ H Q h=>by
 obtain ⟨W,O,env,d,E,e,q⟩:=h
 cases e
 intro p hp
 refine tO σ ps _ _ ⟨bu,ps.map fun p=>((Sum.inr (mkS p.1):Key),V.int p.2), ?_,by simpa using h15', ?_⟩
 ·rw [List.map_map]; rfl
 ·have em:jt [] (ps.map fun p=>((Sum.inr (mkS p.1):Key),V.int p.2))=ps.map fun p=>((Sum.inr (mkS p.1):Key),V.int p.2):=by
   rw [nj _ [] ?_ (fun _ _=>rfl)]
   ·rfl
   ·rw [List.map_map]
    have:((fun x:Key × V=>x.1) ∘ fun p:List Nat × Int=>((Sum.inr (mkS p.1):Key),V.int p.2))=(fun k:List Nat=>(Sum.inr (mkS k):Key)) ∘ fun p=>p.1:=rfl
    rw [this, ← List.map_map]
    exact List.Pairwise.map _ (fun a b hab z=>hab (lL (Sum.inr.inj z))) nd
  rw [em]
  have s:aG H (L2.upd (L2.upd H p (.dK [])) p (.dK (ps.map fun p=>((Sum.inr (mkS p.1):Key),V.int p.2)))):=fun b u hb=>by
   have:b≠p:=fun z=>by rw [z,hp] at hb; cases hb
   rw [aC this,aC this]; exact hb
  refine q _ _ s ?_
  show Rep _ _ _ _ _
  simp only [Rep]
  refine ⟨p,_,rfl,E.lN hp,bu, ?_, ?_⟩
  ·rw [List.map_map,List.map_map]; rfl
  ·rw [List.map_map]
   have:((fun x:Key × V=>x.2) ∘ fun p:List Nat × Int=>((Sum.inr (mkS p.1):Key),V.int p.2))=V.int ∘ fun p=>p.2:=rfl
   rw [this, ← List.map_map]
   have e2:(ps.map fun p=>D.int p.2)=(ps.map fun p=>p.2).map D.int:=by rw [List.map_map]; rfl
   rw [e2]
   exact az.Dc _
theorem oJ {T:Tx}{A:Addr→Prop}{H:Hp}(x:List Nat):∀ (ks:List (List Nat)) (ds:List D) (kvs:List (Key × V)),kvs.map (·.1)=ks.map (fun k=>(Sum.inr (mkS k):Key))→az T A H ds (kvs.map (·.2)) →
  (∃ d v,hE ks ds x=some d∧jE kvs (Sum.inr (mkS x))=some v∧Rep T A H d v)∨(hE ks ds x=none∧jE kvs (Sum.inr (mkS x))=none)
 | [],ds,kvs,hk,r=>by
  have:kvs=[]:=by simpa using hk
  subst this
  exact .inr ⟨by cases ds <;> rfl,rfl⟩
 | k::ks,ds,kvs,hk,r=>by
  cases kvs with
  | nil=>simp at hk
  | cons p kvs =>
   simp only [List.map_cons,List.cons.injEq] at hk
   rw [List.map_cons] at r
   cases ds with
   | nil=>have:=r.jh; cases this
   | cons d ds =>
    obtain ⟨v,t,ev,r1,r2⟩:=r.dN
    cases ev
    by_cases h:k=x
    ·subst h
     exact .inl ⟨d,p.2,by simp [hE],gL hk.1,r1⟩
    ·have hne:¬ p.1=Sum.inr (mkS x):=fun z=>h (lL (Sum.inr.inj (hk.1.symm.trans z)))
     have e1:hE (k::ks) (d::ds) x=hE ks ds x:=by simp [hE,h]
     rw [e1,gM hne]
     exact oJ x ks ds kvs hk.2 r2
theorem FH (hu:X.A.units+1<cLine)(ha:PD X c a f)(hb:PD X c b g)(hs:Fz b:=by exact fun _ _=>rfl):PD X c (.Subscript a b pos) (fp2 wq f g):=PE.imp (BZ hu ha hb hs) fun σ H Q h=>by
 obtain ⟨W,O,env,d,E,e,q⟩:=h
 unfold fp2 at e
 cases e1:f env with
 | none=>rw [e1] at e; cases e
 | some x =>
  rw [e1] at e
  dsimp only [Option.bind_some] at e
  cases e2:g env with
  | none=>rw [e2] at e; cases e
  | some y =>
   rw [e2] at e
   dsimp only [Option.bind_some] at e
   unfold wq at e
   split at e
   ·rename_i ks ds z
    refine ⟨W,O,env,_,E,e1,fun v1 H1 s1 r1=>?_⟩
    refine ⟨W,O,env,_,E.mono s1,e2,fun v2 H2 s2 r2=>?_⟩
    cases Rep.hX r2
    obtain ⟨a,kvs,rfl,_,hH,hk,rl⟩:=(r1.mono s2 (A':=Cl W O) fun _ z=>z).B6
    rcases oJ z ks ds kvs hk rl with ⟨d',v,h1,h2,h3⟩ | ⟨h1,_⟩
    ·rw [h1] at e; cases e
     exact ⟨a,v,rfl,h2 ▸ rT.k (k:=Sum.inr (mkS z)) hH,q _ _ (s1.trans s2) h3⟩
    ·rw [h1] at e; cases e
   ·cases e
theorem Ca {k v:Expr}{p2 p3:Pos}(hu:X.A.units+1<cLine)(ho:PD X c o f)(hk:PD X c k g)(hv:PD X c v h)(hb:attributeBase o "get" X.env (eval o X.env)=eval o X.env:=by rfl)(hs:isStar k=false:=by rfl)(hs2:isStar v=false:=by rfl)(hl:(p2.endLine == p3.line)=true:=by rfl) :
  PD X c (.Call (.Attribute o "get" p2) [k,v] [] p3) (fp3 vo f g h) :=
 PE.imp (zZ hu ho hk hv ⟨hb,by rw [oi hs hs2]; rfl,hl,by rw [oi hs hs2]; rfl⟩) fun σ H Q q=>by
 obtain ⟨W,O,env,d,E,e,q⟩:=q
 unfold fp3 at e
 cases e1:f env with
 | none=>rw [e1] at e; cases e
 | some x =>
  rw [e1] at e
  dsimp only [Option.bind_some] at e
  cases e2:g env with
  | none=>rw [e2] at e; cases e
  | some y =>
   rw [e2] at e
   dsimp only [Option.bind_some] at e
   cases e3:h env with
   | none=>rw [e3] at e; cases e
   | some w =>
    rw [e3] at e
    dsimp only [Option.bind_some] at e
    cases x with
    | dct ks ds =>
     cases y with
     | str z =>
     have e:some ((hE ks ds z).getD w)=some d:=e
     cases e
     refine ⟨W,O,env,_,E,e1,fun v1 H1 s1 r1=>?_⟩
     obtain ⟨a,kvs,rfl,hA,hH,hk,rl⟩:=r1.B6
     refine ⟨a,rfl,.inl ⟨kvs,.inl hH⟩,W,O,env,_,E.mono s1,e2,fun v2 H2 s2 r2=>?_⟩
     cases Rep.hX r2
     refine ⟨W,O,env,_,E.mono (s1.trans s2),e3,fun v3 H3 s3 r3=>?_⟩
     have hH3:=(s2.trans s3) _ _ hH
     have rl3:=rl.mono (s2.trans s3) (A':=Cl W O) fun _ z=>z
     refine ⟨_,rT.k (k:=Sum.inr (mkS z)) hH3,q _ _ (s1.trans (s2.trans s3)) ?_⟩
     rcases oJ z ks ds kvs hk rl3 with ⟨d',v,h1,h2,h3⟩ | ⟨h1,h2⟩
     ·rw [h1,h2]; exact h3
     ·rw [h1,h2]; exact r3
     | _=>cases e
    | _=>cases e
end
end DL
end
section
namespace L2
open PySem PySem.Spec PyProof.Rows
def FI (lo st:Int)(n:Nat):It:=⟨fun i _=>i<n,fun i H x H'=>H'=H∧x=.int (lo+st * (i:Nat)),fun i _=>n≤i⟩
theorem tQ {P:Program}{w:World}{K:PySem.W.Frag}{tg:Expr}(it:Addr)(lo st:Int)(n:Nat):Turn P w K tg (FI lo st n) [it] it (fun i h=>IsRangeIter h it (lo+(i:Nat) * st) ((n:Int) - (i:Nat)) st) where
 mem:=by simp
 obj:=fun i h s b hb=>by
  have e:b=it:=by simpa using hb
  subst e
  exact ⟨_,s,fun v z=>by
   have z':Data.fields _=Data.cell v:=z
   cases z'⟩
 keep:=fun i h h' s k=>k it (by simp) _ s
 item:=by
  intro X hP hw hK hc i pins s σ H E I hf stt hg
  subst hP hw hK
  obtain ⟨f0,f1,f2,f3,f4,f5⟩:=hf it (by simp)
  have W:=Walks.range (prog:=X.prog) (w:=X.w) (I.ok.hd hc) it lo st n
  refine W.item i s _ _ hg stt fun v h' tk hv st' kk=>?_
  obtain ⟨t,rfl⟩:=hv
  have I1:Inv X pins σ H { s with heap:=h',toks:=tk }:=I.turned (fun b o hb e=>kk b o (by simpa using hb) e) f0 f1 f3 f4 f5
  refine ⟨_,rfl,vM (s:={ s with heap:=h',toks:=tk }) (n:="range_iterator") st' rfl rfl (by decide) ⟨.int (lo+st * (i:Nat)),H,I1,⟨t, ?_⟩,⟨rfl,rfl⟩,st',fun b hb=>(hf b hb).1⟩⟩
  rw [Int.mul_comm]
 done:=by
  intro X hP hw hK hc i pins s σ H E I hf stt hg
  subst hP hw hK
  obtain ⟨f0,f1,f2,f3,f4,f5⟩:=hf it (by simp)
  exact wpAny_pyNext_range_end (I.ok.hd hc) stt (by have:n≤i:=hg; omega) fun h' eb=>⟨rfl,I.turned (t':=s.toks) (fun b o hb e=>eb b o hb e) f0 f1 f3 f4 f5⟩
 self:=fun _ _ _ _ _ s h=>wpAny_pyIter_rangeiter s h
theorem lY {a b c:Int}(hc:0<c):Builtin.Range.rangeSize a b c=(((b - a+c - 1) / c).toNat:Nat):=by
 unfold Builtin.Range.rangeSize
 rw [if_pos hc]
 by_cases h:a<b
 ·rw [if_pos h]
  have e:b - a+c - 1=(b - a - 1)+c * 1:=by omega
  rw [e,Int.add_mul_ediv_left _ _ (by omega)]
  have:0≤(b - a - 1) / c:=Int.ediv_nonneg (by omega) (by omega)
  omega
 ·rw [if_neg h]
  have:(b - a+c - 1) / c≤0:=by
   have:=Int.ediv_lt_of_lt_mul (a:=b - a+c - 1) (b:=1) hc (by omega)
   omega
  omega
theorem A2 {a b c:Int}(ha:-1000000000<a∧a<1000000000)(hb:-1000000000<b∧b<1000000000)(hc:0<c∧c<1000000000):Builtin.Range.small a b c=true:=by
 have e:=lY (a:=a) (b:=b) hc.1
 have h1:((b - a+c - 1) / c)≤3000000000:=by
  apply Int.ediv_le_of_le_mul hc.1
  have:(3000000000:Int) * 1≤3000000000 * c:=Int.mul_le_mul_of_nonneg_left (by omega) (by omega)
  omega
 unfold Builtin.Range.small
 rw [e]
 generalize ((b - a+c - 1) / c)=q at h1
 have h0:c > 0:=hc.1
 simp only [Builtin.Range.rangeFitsLong,Bool.and_eq_true,Bool.or_eq_true,decide_eq_true_eq,beq_iff_eq,h0,if_true]
 omega
theorem xZ {X:Cx}{tg:Expr}{pins:List (Addr × Obj)}{σ:St}{H:Hp}{s:Shared}{R:It→Hp→Prop}{E:Value→Shared→Prop}{lo hi st:Int}{t u v:Tok}{tk:Nat}(I:Inv X pins σ H s)(h1:-1000000000<lo∧lo<1000000000)(h2:-1000000000<hi∧hi<1000000000)(h3:0<st∧st<1000000000)
  (q:R (FI lo st ((hi - lo+st - 1) / st).toNat) H):wpAny (model X.prog X.w) X.A (pyIter (.ref s.heap.objs.size)) (PIE X pins σ tg R) E { s with heap:=s.heap.push { cls:=.type "range",data:=.fields #[.int lo t,.int hi u,.int st v] },toks:=tk }:=by
 refine wpAny_pyIter_range (IsRange.new ..) (A2 h1 h2 h3) ?_
 have I1:Inv X pins σ H { s with heap:=s.heap.push { cls:=.type "range",data:=.fields #[.int lo t,.int hi u,.int st v] },toks:=tk }:=I.kept fun b o e=>Heap.get?_push_of_some _ e
 refine ⟨(s.heap.push { cls:=.type "range",data:=.fields #[.int lo t,.int hi u,.int st v] }).objs.size,[(s.heap.push { cls:=.type "range",data:=.fields #[.int lo t,.int hi u,.int st v] }).objs.size],_,_,H,rfl,
  I1.kept (t':=tk) fun b o e=>Heap.get?_push_of_some _ e,tQ _ lo st ((hi - lo+st - 1) / st).toNat, ?_,fun b hb=>?_,q⟩
 ·have e1:lo+((0:Nat):Int) * st=lo:=by simp
  have e2:((((hi - lo+st - 1) / st).toNat:Nat):Int) - ((0:Nat):Int)=Builtin.Range.rangeSize lo hi st:=by rw [lY h3.1]; simp
  show IsRangeIter _ _ (lo+((0:Nat):Int) * st) (((((hi - lo+st - 1) / st).toNat:Nat):Int) - ((0:Nat):Int)) st
  rw [e1,e2]
  exact Heap.get?_push_size _ rfl
 ·have e:b=(s.heap.push { cls:=.type "range",data:=.fields #[.int lo t,.int hi u,.int st v] }).objs.size:=by simpa using hb
  subst e
  exact I1.rj (Nat.le_refl _) (I1.hok.fresh (Nat.le_refl _))
def DA (ta:TA):TI:=fun σ H R=>ta σ H fun vs H1=>∃ i j k:Int,vs=[.int i,.int j,.int k]∧(-1000000000<i∧i<1000000000)∧(-1000000000<j∧j<1000000000)∧(0<k∧k<1000000000)∧R (FI i k ((j - i+k - 1) / k).toNat) H1
theorem qP {X:Cx}{tg a b d:Expr}{ta:TA}{p pos:Pos}(hg:Gl X "range")(hm:X.mg "range"=none)(ha:PA X [a,b,d] ta)(h1:starEach [a,b,d] X.env=(false,eval a X.env)::starEach [b,d] X.env)(h2:(backTo pos (starEach [b,d] X.env)).any (·.1)=false) :
  PI X tg (.Call (.Name "range" p) [a,b,d] [] pos) (DA ta):=by
 intro pins s σ H R I h
 refine Call_ (je I hg hm boot_range (PyProof.Rows.callWith_type1 (bC (ha pos pins s σ H _ I h) fun us s1 vs H1 I1 r1 q1=>?_) h1 h2))
 obtain ⟨i,j,k,e,q1,q2,q3,q⟩:=q1
 subst e
 cases r1 with
 | cons r rr =>
  cases rr with
  | cons r' rr =>
   cases rr with
   | cons r'' rr =>
    cases rr
    obtain ⟨t,rfl⟩:=r
    obtain ⟨t',rfl⟩:=r'
    obtain ⟨t'',rfl⟩:=r''
    exact call_range_3 (by omega) (xZ I1 q1 q2 q3 q) (.inl (PyProof.noPylong_small (by omega)))
end L2
namespace DL
open PySem PySem.Spec PyProof.Rows L2
theorem oK (lo st:Int)(n:Nat):(jV lo st n).length=n:=by simp [jV]
theorem vq {lo st:Int}{n j:Nat}{d:D}(h:(jV lo st n)[j]?=some d):d=.int (lo+st * (j:Nat)):=by
 unfold jV at h
 rw [List.getElem?_map] at h
 cases e:(List.range n)[j]? with
 | none=>rw [e] at h; cases h
 | some k =>
  rw [e] at h
  have:k=j:=by
   have hj:=(List.getElem?_eq_some_iff.mp e).1
   rw [List.getElem?_range (by simpa using hj)] at e
   exact (Option.some.inj e).symm
  subst this
  cases h; rfl
section
variable {T:Tx}{ft:FT}{fe:FE}{σ:L2.St}{H:Hp}{Q:VK}{tg:FG}{g:TG}
theorem tR (hg:gS T tg g){nt:Nat}{cap:List Nat}{f:FA}(hc:cap.Nodup)(h:tP T (kF T) (gA tJ nt cap tg f ft fe) σ H Q):ng nt cap (DA (tP T (kA T) f)) g (tP T kB ft) (tP T (kD T) fe) σ H Q:=by
 obtain ⟨W,O,env,d,E,e,q⟩:=h
 unfold gA at e
 cases e1:f env with
 | none=>rw [e1] at e; cases e
 | some x =>
  rw [e1] at e
  dsimp only [Option.bind_some] at e
  cases e2:tJ x with
  | none=>rw [e2] at e; cases e
  | some ds =>
   rw [e2] at e
   dsimp only [Option.bind_some] at e
   unfold tJ at e2
   split at e2
   ·next lo hi st =>
    split at e2
    ·next c =>
     cases e2
     by_cases cn:(jV lo st ((hi - lo+st - 1) / st).toNat).length≤1000000
     ·rw [if_pos cn] at e
      refine ⟨W,O,env,_,E,e1,fun vs H1 s1 r1=>?_⟩
      obtain ⟨v,r,rfl,h1,h2⟩:=az.dN r1
      obtain ⟨v2,r2,rfl,h3,h4⟩:=h2.dN
      obtain ⟨v3,r3,rfl,h5,h6⟩:=h4.dN
      cases h6.jh
      cases h1.dA
      cases h3.dA
      cases h5.dA
      exact ⟨lo,hi,st,rfl,c.1,c.2.1,c.2.2,qC hg hc (E.mono s1) cn (fun j H' h=>by rw [oK] at h; exact h) (fun j H' h=>by rw [oK] at h; exact h) (fun j H' x H2 d hd y=>by
       obtain ⟨rfl,rfl⟩:=y
       rw [vq hd]
       exact ⟨rfl,fun _=>Rep.int _⟩) e fun v H' s r=>q v H' (s1.trans s) (Kd.an _ _ _ _ _ _ s1 r)⟩
     ·rw [if_neg cn] at e; cases e
    ·cases e2
   ·cases e2
end
section
variable {X:Cx}{c:Ct}{pos:Pos}{elt tg a b e3:Expr}{ifs:List Expr}{scope sc:Scope}{N N':List Str}{nt:Nat}{cap:List Nat}{fe:FE}{ft:FT}{tgf:FG}{gt:TG}
theorem oM {env:Env}(h:isStar a=false)(h2:isStar b=false)(h3:isStar e3=false){q:Pos}:(backTo q (starEach [b,e3] env)).any (·.1)=false:=by
 rw [oi h2 h3]; rfl
theorem y4 {p p2:Pos}{fs:FA}(d:DefX X N sc)(chk:iJ sc scope N N' nt cap)(hcap:cap.Nodup)(hN':N'.Nodup)(hgr:Gl X "range")(hm:X.mg "range"=none)(ha:PDA X c [a,b,e3] fs)
  (hg:∀ cl C s2 H2 fp,DefX (aQ X scope cl N' C s2 H2 fp) N' (jS scope sc)→PG (aQ X scope cl N' C s2 H2 fp) tg gt) (hge:mE nt gt) (sg:gS (tx X c) tgf gt)
  (ht:∀ cl C s2 H2 fp,DefX (aQ X scope cl N' C s2 H2 fp) N' (jS scope sc)→jD (aQ X scope cl N' C s2 H2 fp) ifs (tP (tx X c) kB ft))
  (he:∀ cl C s2 H2 fp,DefX (aQ X scope cl N' C s2 H2 fp) N' (jS scope sc)→PE (aQ X scope cl N' C s2 H2 fp) elt (tP (tx X c) (kD (tx X c)) fe)) (hst:isStar a=false:=by rfl) (hst2:isStar b=false:=by rfl) (hst3:isStar e3=false:=by rfl)
  :PFc X c (.ListComp elt [⟨tg,.Call (.Name "range" p) [a,b,e3] [] p2,ifs,0⟩] scope pos) (gA tJ nt cap tgf fs ft fe) :=
 ⟨PE.imp (w5 (tt:=tP (tx X c) kB ft) (te:=tP (tx X c) (kD (tx X c)) fe) d.hsc d.hN chk d.calm (qP hgr hm ha (aT hst) (oM hst hst2 hst3)) (fun cl C s2 H2 fp=>hg cl C s2 H2 fp (d.comp hN')) hge (fun cl C s2 H2 fp=>ht cl C s2 H2 fp (d.comp hN')) (fun cl C s2 H2 fp=>he cl C s2 H2 fp (d.comp hN')) (eY rfl)) fun _ _ _ h=>tR sg hcap h,
  fun i x pos' spos n hsw=>PS.imp (w6 (tt:=tP (tx X c) kB ft) (te:=tP (tx X c) (kD (tx X c)) fe) d.hsc d.hN chk d.calm (qP hgr hm ha (aT hst) (oM hst hst2 hst3)) (fun cl C s2 H2 fp=>hg cl C s2 H2 fp (d.comp hN')) hge (fun cl C s2 H2 fp=>ht cl C s2 H2 fp (d.comp hN')) (fun cl C s2 H2 fp=>he cl C s2 H2 fp (d.comp hN')) n.nd n.hN n.hl n.hf hsw (eY rfl)) fun _ _ _ h=>tR sg hcap h⟩
theorem A3 {p p2:Pos}{fs:FA}(d:DefX X N sc)(chk:iJ sc scope N N' nt cap)(hcap:cap.Nodup)(hN':N'.Nodup)(hgr:Gl X "range")(hm:X.mg "range"=none)(ha:PDA X c [a,b,e3] fs)
  (hg:∀ cl C s2 H2 fp,DefX (aQ X scope cl N' C s2 H2 fp) N' (jS scope sc)→PG (aQ X scope cl N' C s2 H2 fp) tg gt) (hge:mE nt gt) (sg:gS (tx X c) tgf gt)
  (ht:∀ cl C s2 H2 fp,DefX (aQ X scope cl N' C s2 H2 fp) N' (jS scope sc)→jD (aQ X scope cl N' C s2 H2 fp) ifs (tP (tx X c) kB ft))
  (he:∀ cl C s2 H2 fp,DefX (aQ X scope cl N' C s2 H2 fp) N' (jS scope sc)→PE (aQ X scope cl N' C s2 H2 fp) elt (tP (tx X c) (kD (tx X c)) fe)) (hst:isStar a=false:=by rfl) (hst2:isStar b=false:=by rfl) (hst3:isStar e3=false:=by rfl)
  :PF X c (.ListComp elt [⟨tg,.Call (.Name "range" p) [a,b,e3] [] p2,ifs,0⟩] scope pos) (gA tJ nt cap tgf fs ft fe):=(y4 d chk hcap hN' hgr hm ha hg hge sg ht he hst hst2 hst3).1
end
end DL
end
section
namespace L2
open PySem PySem.Spec PyProof.Rows
section
variable {pr:Program}{wd:World}{Ar:Around}{Rs:Result→Shared→Prop}{it:Addr}{fs ws:List Addr}{m:Nat}{Pv:Nat→Value→Prop}{Sv:Nat→Heap→Prop}{kw:List (Str × Value)}
theorem kx:(toString "max"++toString ".loop":String)="max.loop":=by decide
theorem y6 (Wk:Walks pr wd Ar.in1 it fs ws m Pv Sv)(bt:Nat→Nat→Bool)(cmp:CmpOf pr wd Ar.in1 .Gt Pv bt)(B:Addr)(hB:B ∉ fs) :
  ∀ (k j:Nat) (sh:Shared) (vb:Value) (c:Nat),m - (j+1)=k→j+1≤m→Sv (j+1) sh.heap→Pv (argBest bt j) vb →
  sh.heap.get? B=some { cls:=.type "list",dict:=none,data:=.seq #[vb,vb] c,slots:=#[] } →
  (∀ v hp tk,Pv (argBest bt (m - 1)) v→(∀ b o,b ∉ ws→b≠B→sh.heap.get? b=some o→hp.get? b=some o)→Rs (.ok (.ret v)) { sh with heap:=hp,toks:=tk }) →
  codeAny (model pr wd) Ar (.builtin "max.loop" ⟨[.ref it,.none,.ref B],kw⟩) Rs sh:=by
 have hBw:B ∉ ws:=fun z=>hB (Wk.sub _ z)
 intro k
 induction k with
 | zero =>
  intro j sh vb c e1 e2 st pb gB fin
  have em:j+1=m:=by omega
  refine codeAny_builtin F.entry_max_loop ?_
  rw [Around.under_plainId F.plain_max_loop _]
  show wpAny _ Ar.in1 (seqItems? (.ref B) >>= _) _ _ sh
  refine wpAny_bind (wpAny_seqItems gB rfl ?_)
  show wpAny _ Ar.in1 (tryCatch (pyNext (.ref it)) _ >>= _) _ _ sh
  refine wpAny_bind (wpAny_tryCatch (Wk.done sh _ _ (em ▸ st) fun hp tk kp=>?_))
  have gB':=kp B _ hBw gB
  show wpAny _ Ar.in1 (updateSeq B (fun _=>#[]) >>= _) _ _ _
  refine wpAny_bind (wpAny_updateSeq gB' rfl (wpAny_bind (wpAny_letGo (wpAny_pure ?_))))
  exact fin vb _ tk (by rw [← em]; exact pb) fun b o hb hb2 e=>(Heap.get?_update_other _ _ (Ne.symm hb2)).trans (kp b o hb e)
 | succ k ih =>
  intro j sh vb c e1 e2 st pb gB fin
  have lt:j+1<m:=by omega
  refine codeAny_builtin F.entry_max_loop ?_
  rw [Around.under_plainId F.plain_max_loop _]
  show wpAny _ Ar.in1 (seqItems? (.ref B) >>= _) _ _ sh
  refine wpAny_bind (wpAny_seqItems gB rfl ?_)
  show wpAny _ Ar.in1 (tryCatch (pyNext (.ref it)) _ >>= _) _ _ sh
  refine wpAny_bind (wpAny_tryCatch (Wk.item (j+1) sh _ _ lt st fun v hp tk pv st' kp=>?_))
  have gB':=kp B _ hBw gB
  show wpAny _ Ar.in1 (tryCatch (holding [v,v] (richCompare .Gt v vb >>= _)) _ >>= _) _ _ _
  refine wpAny_bind (wpAny_tryCatch (wpAny_holding (wpAny_bind (cmp (j+1) (argBest bt j) v vb _ _ _ pv pb ?_))))
  refine wpAny_bind (wpAny_holding (wpAny_truthy_bool (wpAny_bind (wpAny_letGo (wpAny_pure ?_)))))
  cases hb:bt (j+1) (argBest bt j) with
  | true =>
   simp only [if_true]
   refine wpAny_bind (wpAny_updateSeq gB' rfl (wpAny_bind (wpAny_letGo ?_)))
   rw [kx]
   refine wpAny_pure ⟨plainId_quiet F.plain_max_loop _,ih (j+1) _ v _ (by omega) lt (Wk.frame _ _ _ st' fun b hbf o e=>(Heap.get?_update_other _ _ (fun z:B=b=>hB (by rw [z]; exact hbf))).trans e) (by simp only [argBest,hb,if_true]; exact pv) (Heap.get?_update_self _ gB' rfl) fun v' hp2 tk2 pv' kp2=>?_⟩
   exact fin v' hp2 tk2 pv' fun b o hbw hbB e=>kp2 b o hbw hbB ((Heap.get?_update_other _ _ (Ne.symm hbB)).trans (kp b o hbw e))
  | false =>
   simp only [Bool.false_eq_true,if_false]
   refine wpAny_bind (wpAny_letGo ?_)
   rw [kx]
   refine wpAny_pure ⟨plainId_quiet F.plain_max_loop _,ih (j+1) _ vb c (by omega) lt st' (by simp only [argBest,hb,Bool.false_eq_true,if_false]; exact pb) gB' fun v' hp2 tk2 pv' kp2=>?_⟩
   exact fin v' hp2 tk2 pv' fun b o hbw hbB e=>kp2 b o hbw hbB (kp b o hbw e)
theorem vt (Wk:Walks pr wd Ar.in1 it fs ws m Pv Sv)(bt:Nat→Nat→Bool)(cmp:CmpOf pr wd Ar.in1 .Gt Pv bt)(B:Addr)(hB:B ∉ fs){nm:Str}{dv:Value}{sh:Shared}{c:Nat}(st:Sv 0 sh.heap)
  (gB:sh.heap.get? B=some { cls:=.type "list",dict:=none,data:=.seq #[] c,slots:=#[] })
  (fin:∀ v hp tk,(0<m→Pv (argBest bt (m - 1)) v)→(m=0→v=dv)→(∀ b o,b ∉ ws→b≠B→sh.heap.get? b=some o→hp.get? b=some o)→Rs (.ok (.ret v)) { sh with heap:=hp,toks:=tk }) :
  codeAny (model pr wd) Ar (.builtin "max.loop" ⟨[.ref it,.none,.ref B],[(nm,dv)]⟩) Rs sh:=by
 have hBw:B ∉ ws:=fun z=>hB (Wk.sub _ z)
 refine codeAny_builtin F.entry_max_loop ?_
 rw [Around.under_plainId F.plain_max_loop _]
 show wpAny _ Ar.in1 (seqItems? (.ref B) >>= _) _ _ sh
 refine wpAny_bind (wpAny_seqItems gB rfl ?_)
 show wpAny _ Ar.in1 (tryCatch (pyNext (.ref it)) _ >>= _) _ _ sh
 by_cases h0:m=0
 ·refine wpAny_bind (wpAny_tryCatch (Wk.done sh _ _ (by rw [h0]; exact st) fun hp tk kp=>?_))
  show wpAny _ Ar.in1 (do rule _; ret dv) _ _ _
  exact wpAny_bind (wpAny_rule (wpAny_pure (fin dv hp tk (fun z=>absurd z (by omega)) (fun _=>rfl) fun b o hb _ e=>kp b o hb e)))
 ·have hm:0<m:=by omega
  refine wpAny_bind (wpAny_tryCatch (Wk.item 0 sh _ _ hm st fun v hp tk pv st' kp=>?_))
  have gB':=kp B _ hBw gB
  show wpAny _ Ar.in1 (updateSeq B (fun _=>#[v,v]) >>= _) _ _ _
  refine wpAny_bind (wpAny_updateSeq gB' rfl ?_)
  rw [kx]
  refine wpAny_pure ⟨plainId_quiet F.plain_max_loop _,y6 Wk bt cmp B hB _ 0 _ v _ rfl hm (Wk.frame _ _ _ st' fun b hbf o e=>(Heap.get?_update_other _ _ (fun z:B=b=>hB (by rw [z]; exact hbf))).trans e) pv (Heap.get?_update_self _ gB' rfl) fun v' hp2 tk2 pv' kp2=>?_⟩
  exact fin v' hp2 tk2 (fun _=>pv') (fun z=>absurd z h0) fun b o hbw hbB e=>kp2 b o hbw hbB ((Heap.get?_update_other _ _ (Ne.symm hbB)).trans (kp b o hbw e))
end
section
variable {pr:Program}{wd:World}{Ar:Around}{Er:Value→Shared→Prop}{sh:Shared}
theorem Cb {id:String}{b:Builtin}{args:List Value}{kw:List (Str × Value)}{Q:Value→Shared→Prop}(hk:builtinKind id=none)(hp:plainId id=true)(hb:entryFor table id=some b)(ha:argsOk id ⟨args,kw⟩)
  (hc:wpAny (model pr wd) Ar.in1 (b ⟨args,kw⟩) (fun fin s'=>match fin with
   | .done f=>(match (Except.ok f:Result) with | .ok (.ret v)=>Q v s' | .ok _=>False | .error e=>Er e s')
   | .again c'=>c'.quiet=true∧codeAny (model pr wd) Ar c' (fun r s'=>match r with | .ok (.ret v)=>Q v s' | .ok _=>False | .error e=>Er e s') s') Er sh) :
  wpAny (model pr wd) Ar (call (.builtin id) args kw) Q Er sh:=by
 refine wpAny_call (codeAny_call_builtin hp hb ?_)
 simp only [checkBuiltinCall,hk]
 cases hsig:Manifest.signature? id with
 | none=>exact wpAny_pure hc
 | some sig =>
  have ha':Bind.checkArgs id sig ⟨args,kw⟩=pure ():=by simpa only [argsOk,hsig] using ha
  simp only [ha']
  exact wpAny_pure hc
theorem y7 (x d:Value):argsOk "max" ⟨[x],[("default",d)]⟩:=by unfold argsOk; kernel_rfl
theorem y8 {l:Addr}{xs:Array (Int × Tok)}{dv:Value}{Q:Value→Shared→Prop}(hh:Ar.handled=none)(hl:sh.heap.IsList l (intItems xs))
  (h:∀ v hp tk,(0<xs.size→(intItems xs)[argBest (fun i j=>decide (numAt xs i > numAt xs j)) (xs.size - 1)]?=some v)→(xs.size=0→v=dv)→(∀ b o,sh.heap.get? b=some o→hp.get? b=some o)→Q v { sh with heap:=hp,toks:=tk }) :
  wpAny (model pr wd) Ar (call (.builtin "max") [.ref l] [("default",dv)]) Q Er sh:=by
 refine Cb F.kind_max F.plain_max F.entry_max (y7 _ _) ?_
 show wpAny _ Ar.in1 (Builtin.Builtins.bindParams "max" ["key", "default"] 0 ⟨[],[("default",dv)]⟩ >>= _) _ _ sh
 refine wpAny_bind (wpAny_of_eq (show Builtin.Builtins.bindParams "max" ["key", "default"] 0 ⟨[],[("default",dv)]⟩=pure [none,some dv] from rfl) ?_)
 refine wpAny_bind (wpAny_pure ?_)
 refine wpAny_bind (iter_intList hl fun s2 e st hfp hlI=>?_)
 subst e
 refine wpAny_bind (wpAny_newObj_type ?_)
 have W:=Walks.list (prog:=pr) (w:=wd) (A:=Ar.in1) hh _ l hlI (intItems xs)
 rw [kx]
 refine wpAny_pure ⟨plainId_quiet F.plain_max_loop _,vt W _ (CmpOf.ints_gt (numAt xs) (fun _ _=>intItems_at)) _ (fun hm=>Nat.lt_irrefl _ (hfp _ hm)) (W.frame _ _ _ st fun b _ o e=>Heap.get?_push_of_some _ e) (Heap.get?_push_size _ rfl) fun v hp tk hP h0 hk=>?_⟩
 have hsz:(intItems xs).size=xs.size:=by simp [intItems]
 refine h v hp tk (fun z=>?_) (fun z=>h0 (by rw [hsz]; exact z)) ?_
 ·have:=hP (by rw [hsz]; exact z)
  rw [hsz] at this
  exact this
 ·intro b o e
  have lt:=Heap.lt_size e
  have e1:(sh.heap.push { cls:=.type "list_iterator",data:=.fields #[.ref l,.int 0 0] }).get? b=some o:=Heap.get?_push_of_some _ e
  refine hk b o (fun z=>?_) (Nat.ne_of_lt (Heap.lt_size e1)) (Heap.get?_push_of_some _ e1)
  have:b=sh.heap.objs.size:=by simpa using z
  rw [this] at lt
  exact Nat.lt_irrefl _ lt
end
section
variable {X:Cx}{a b:Expr}{ta tb:TE}{p pos kp:Pos}
def HP (K:PySem.W.Frag)(ta:TA)(tb:TE):TE:=fun σ H Q=>ta σ H fun vs H1=>tb σ H1 fun y H2=>∃ (l:Addr) (is:List Int),vs=[.ref l]∧SqL K H2 l (is.map V.int)∧Q (match is with | []=>y | i::r=>.int (DL.hZ i r)) H2
theorem Cc {ta:TA}(hc:X.calm=true)(hg:Gl X "max")(hm:X.mg "max"=none)(ha:PA X [a] ta)(hb:PE X b tb)(hs:starEach [a] X.env=[(false,eval a X.env)]) :
  PE X (.Call (.Name "max" p) [a] [⟨some "default",b,kp⟩] pos) (HP X.K ta tb):=by
 intro pins s σ H Q I h
 refine wpAny_Call_Name_kw (je I hg hm boot_max ?_)
 refine callWith_kw (bC (ha pos pins s σ H _ I h) fun us s1 vs H1 I1 r1 q1=>kws_cons (bC (hb pins s1 σ H1 _ I1 q1) fun y s2 yv H2 I2 ry q2=>kws_nil ?_)) (by rw [hs]; rfl) (by rw [hs]; rfl) rfl rfl
 obtain ⟨l,is,rfl,hS,q⟩:=q2
 obtain ⟨u,rfl,ru⟩:=vals1 r1
 cases ru
 obtain ⟨its,rv,pl,hz⟩:=I2.list hS
 have hi:=DL.gr rv
 obtain ⟨ys,hy⟩:=hi.allInts.items
 have hl:s2.heap.IsList l (intItems ys):=hy ▸ pl.isList
 have e1:is=ys.toList.map (·.1):=by
  rw [← nums_intItems, ← hy]
  exact hi.numsOf.symm
 have e2:is.length=ys.size:=by rw [e1]; simp
 show wpAny (model X.prog X.w) X.A (call (.builtin "max") [.ref l] [("default",y)]) _ _ _
 refine y8 (I2.ok.hd hc) hl fun v hp tk hv h0 hk=>?_
 cases is with
 | nil =>
  have:=h0 (by simpa using e2.symm)
  subst this
  exact ⟨yv,H2,I2.kept hk,ry,q⟩
 | cons i ns =>
  have hsz:0<ys.size:=by simp at e2; omega
  obtain ⟨t,rfl⟩:=intItems_at (hv hsz)
  obtain ⟨h1,h2⟩:=argBest_gt (numAt ys) (ys.size - 1)
  generalize argBest (fun i j=>decide (numAt ys i > numAt ys j)) (ys.size - 1)=k at h1 h2
  have hm:numAt ys k=DL.hZ i ns:=by
   have m1:numAt ys k∈i::ns:=by rw [e1,numAt_eq]; exact getD_mem (by rw [List.length_map,Array.length_toList]; omega)
   have m2:∀ j∈i::ns,j≤numAt ys k:=fun j hj=>by
    rw [e1] at hj
    obtain ⟨q,hq,rfl⟩:=mem_getD hj
    rw [List.length_map,Array.length_toList] at hq
    rw [← numAt_eq]; exact h2 q (by omega)
   have m3:=DL.lX ns i
   refine Int.le_antisymm ?_ (m2 _ (DL.jU ns i))
   rcases List.mem_cons.mp m1 with e | e
   ·rw [e]; exact m3.1
   ·exact m3.2 _ e
  exact ⟨.int (DL.hZ i ns),H2,I2.kept hk,⟨t,by rw [hm]⟩,q⟩
end
end L2
namespace DL
open PySem PySem.Spec PyProof.Rows L2
section
variable {X:Cx}{c:Ct}{a b:Expr}{f g:FE}{p pos kp:Pos}
theorem tS (hg:Gl X "max")(hm:X.mg "max"=none)(hc:X.calm=true)(ha:PR X c a f)(hb:PD X c b g)(hs:isStar a=false:=by rfl):PD X c (.Call (.Name "max" p) [a] [⟨some "default",b,kp⟩] pos) (fp2 oj f g) :=
 PE.imp (Cc hc hg hm (vg ha hs) hb (gJ hs)) fun σ H Q h=>by
 obtain ⟨W,O,env,d,E,e,q⟩:=h
 unfold fp2 at e
 cases e1:f env with
 | none=>rw [e1] at e; cases e
 | some x =>
  rw [e1] at e
  dsimp only [Option.bind_some] at e
  cases e2:g env with
  | none=>rw [e2] at e; cases e
  | some y =>
   rw [e2] at e
   dsimp only [Option.bind_some] at e
   cases x with
   | lst ds =>
    have e:(intsOf ds).bind (fun is=>match is with | []=>some y | i::r=>some (.int (hZ i r)))=some d:=e
    cases e3:intsOf ds with
    | none=>rw [e3] at e; cases e
    | some is =>
     rw [e3] at e
     dsimp only [Option.bind_some] at e
     refine ⟨W,O,env,[.lst ds],E,by unfold faR; rw [e1]; rfl,fun vs H1 s1 r1=>?_⟩
     obtain ⟨v,rfl,rv⟩:=r1
     obtain ⟨l,us,rfl,hS,hr⟩:=aA.fz rv
     cases jr e3 hr
     refine ⟨W,O,env,y,E.mono s1,e2,fun w H2 s2 r2=>⟨l,is,rfl,s2.seq hS, ?_⟩⟩
     cases is with
     | nil=>cases e; exact q _ _ (s1.trans s2) r2
     | cons i r=>cases e; exact q _ _ (s1.trans s2) (.int _)
   | _=>cases e
end
end DL
end
section
namespace DL
open L2
def FJ (ds:List D):List D→Option (List D)
 | [.tup es]=>if ds.length+es.length≤1000000 then some (ds++es) else none
 | _=>none
def tT (i:Nat)(f:FE):FS:=lg i FJ (af f ar)
end DL
end
section
namespace L2
open PySem PySem.Spec PyProof.Rows
theorem Cd (l b:Addr)(xs ys:Array Value)(k k2:Nat)(dd:Option Addr)(sl:Array (Option Value))(h0:¬(!xs.isEmpty && Builtin.List.listTooLong (xs.size+ys.size))=true)(h1:xs.size≤sizeLine)(h2:xs.size+ys.size≤sizeLine+1) :
  Meets (Builtin.«list.extend» ⟨[.ref l,.ref b],[]⟩) (fun _ R s=>s.heap.get? l=some { cls:=.type "list",dict:=none,data:=.seq xs k,slots:=#[] } ∧
   s.heap.get? b=some { cls:=.type "tuple",dict:=dd,data:=.seq ys k2,slots:=sl }∧R (.ok (.ret Value.none)) { s with heap:=s.heap.update l (Obj.mapSeq fun x=>x++ys),toks:=s.toks }) :=
 .of_wp fun pr wd Ar R s h=>by
  obtain ⟨hp,g,d,tk,os⟩:=s
  obtain ⟨hl,hb,h⟩:=h
  have f1:=AutoSeq1.idx_int
  have f2:=AutoSeq1.sub_tuple_tuple
  have f3:=AutoSeq1.sub_list_list
  have f4:=AutoSeq1.sub_tuple_list
  have f5:=AutoSeq1.sub_list_tuple
  have hz:(xs++ys).size≤sizeLine+1:=by rw [Array.size_append]; exact h2
  wp_walk using (wpAny_updateSeq hl rfl (hz:=h1) (_hz':=hz)),AutoSeq1.wpAny_loadPart' hl,AutoSeq1.wpAny_loadPart' hb
  exact ⟨_,rfl,h⟩
section
variable {X:Cx}
def DB (K:PySem.W.Frag):V→List V→Hp→VK→Prop:=fun x vs H Q=>∃ l b xs zs,x=.ref l∧vs=[.ref b]∧H l=some (.lst xs)∧SqT K H b zs∧xs.length+zs.length≤sizeLine∧Q .non (upd H l (.lst (xs++zs)))
theorem Ce:MtM X "list.extend" (DB X.K):=by
 intro pins s σ H x vs v us Q I rx rv h
 obtain ⟨l,b,xs,zs,rfl,rfl,hH,hB,hz,q⟩:=h
 cases rx
 obtain ⟨u,rfl,ru⟩:=rv.one
 cases ru
 obtain ⟨z,its,n,r,hl,e⟩:=I.z0 hH
 obtain ⟨its2,r2,pt,z2⟩:=I.tuple hB
 have hl2:=r2.length
 obtain ⟨⟨cls,dd,data,sl⟩,e2,hc,n2,hd⟩:=pt
 simp only at hc hd
 subst hc hd
 have hsz:its.toArray.size+its2.toArray.size≤sizeLine:=by rw [List.size_toArray,List.size_toArray]; omega
 have hlong:¬ (!its.toArray.isEmpty && Builtin.List.listTooLong (its.toArray.size+its2.toArray.size))=true:=by
  rw [o4 hsz,Bool.and_false]
  exact Bool.false_ne_true
 refine call_meets F.slot_list_extend ⟨_,e,rfl⟩ F.entry_list_extend (F.args_list_extend_2 _ _) (Cd l b its.toArray its2.toArray n n2 dd sl hlong (by rw [List.size_toArray]; omega) (by omega)) ⟨e,e2, ?_⟩
 refine ⟨.non,_,I.Ex (its':=its++its2) hH e (by simp) (r.append r2) ?_,rfl,q⟩
 rw [List.length_append]
 omega
end
end L2
namespace DL
open PySem PySem.Spec PyProof.Rows L2
section
variable {X:Cx}{c:Ct}{xq:XQ}{e:Expr}{f:FE}{pos:Pos}
theorem vv {T:Tx}(A:Addr→Prop)(H:Hp)(a:Addr)(ds:List D)(xs:List V)(x:List D)(y:List V)(ds':List D)(Q:VK)(hl:H a=some (.lst xs))(r:az T A H ds xs)(_:∀ b,A b→b≠a)(ra:kA T A H H x y)(e:FJ ds x=some ds')
  (k:∀ ys,(∀ A' H',(∀ d v,Rep T A H d v→Rep T A' H' d v)→(∀ d v,az T A H d v→az T A' H' d v)→az T A' H' ds' ys)→∀ w,Q w (upd H a (.lst ys))):DB T.K (.ref a) y H Q:=by
 unfold FJ at e
 split at e
 ·next es =>
  split at e
  ·next hz =>
   cases e
   obtain ⟨v,r1,rfl,h1,h2⟩:=az.dN ra
   have h3:=h2.jh
   subst h3
   obtain ⟨b,zs,rfl,hS,hr⟩:=Rep.gu h1
   refine ⟨a,b,xs,zs,rfl,rfl,hl,hS, ?_,k _ (fun A' H' g gl=>?_) _⟩
   ·rw [← r.length, ← hr.length]; exact Nat.le_trans hz (by decide)
   ·exact (gl _ _ r).append (gl _ _ hr)
  ·cases e
 ·cases e
theorem vw {i:Nat}{x:Str}{p1 p2 p3:Pos}(n:Nm X i x)(he:PD X c e f)(hs:isStar e=false:=by rfl)(hl:(p2.endLine == p3.line)=true:=by rfl) :
  PDS X c xq (.Expr (.Call (.Attribute (.Name x p1) "extend" p2) [e] [] p3) pos) (tT i f):=by
 refine PS.imp (lI (yZ PySem.F.plainAttrs_list PySem.F.slot_list_extend PySem.F.type_list_extend Ce (iW n.hN n.hv n.hd n.hc) (ae he ak hs) rfl (by rw [gJ hs]; rfl) hl (aT hs) rfl) (gd rfl)) fun De σ H h=>?_
 obtain ⟨v,h1,⟨xs,_,a,rfl,ha⟩,h3⟩:=rG (tf:=tP (tx X c) (kA (tx X c)) (af f ar)) (fun Q h=>h) vv (fun _ _ _ _ _ h=>h) h
 obtain ⟨W,O,env,x,E,e1,q⟩:=h3
 exact ⟨.ref a,h1,.inl ⟨rfl,xs,SqL.of ha⟩,W,O,env,x,E,e1,fun v H' s r=>(q v H' s r).2⟩
end
end DL
end
section
namespace L2
open PySem PySem.Spec PyProof.Rows DL
def cq (X:Cx)(scope:Scope)(x0:Str)(cl:List (Str × Addr))(N':List Str)(C:Addr)(s2:Shared)(H2:Hp)(fp:List Addr):Cx:={ aQ X scope cl N' C s2 H2 fp with fn:=fun y=>y == x0 }
structure lZ (sc scope:Scope)(N N':List Str)(nt:Nat)(cap:List Nat)(x0:Str):Prop where
 kind:scope.kind=.function
 one:(scope.names.filter fun y=>y.2 == .cell)=[(x0,.cell)]
 HQ:scope.names.lookup x0=some .cell
 names:∀ y∈scope.names,y.2=.local→scope.names.lookup y.1=some .local
 fr:∀ y∈scope.names,y.2=.free→sc.names.lookup y.1=some .cell∨sc.names.lookup y.1=some .free
 len:N'.length=nt+cap.length
 cap:∀ j∈List.range cap.length, ∀ x∈N'[nt+j]?, ∀ i∈cap[j]?,N[i]?=some x∧scope.names.lookup x=some .free
theorem jW {env:Env}:∀ {names:List (Str × NameKind)} {x:Str} {k0:NameKind},
  (names.map fun (n,k)=>if (k == NameKind.free && env.scope.kind == .function && env.kindOf n == some .cell) then (n,NameKind.cell) else (n,k)).lookup x=some k0→(k0=.cell∨k0=.free)→names.lookup x=some .free∨names.lookup x=some .cell
 | [],_,_,h,_=>by simp at h
 | (n,k)::r,x,k0,h,hk=>by
  have ih:=@jW env r x k0
  rw [List.map_cons] at h
  cases hx:x == n with
  | true =>
   rw [List.lookup_cons,hx]
   dsimp only at h
   by_cases c:(k == NameKind.free && env.scope.kind == .function && env.kindOf n == some .cell)=true
   ·have:k=.free:=by
     have:=(Bool.and_eq_true_iff.mp (Bool.and_eq_true_iff.mp c).1).1
     simpa using this
    rw [this]; exact .inl rfl
   ·rw [if_neg c,List.lookup_cons,hx] at h
    cases h
    rcases hk with rfl | rfl
    ·exact .inr rfl
    ·exact .inl rfl
  | false =>
   rw [List.lookup_cons,hx]
   dsimp only at h
   by_cases c:(k == NameKind.free && env.scope.kind == .function && env.kindOf n == some .cell)=true
   ·rw [if_pos c,List.lookup_cons,hx] at h; exact ih h hk
   ·rw [if_neg c,List.lookup_cons,hx] at h; exact ih h hk
theorem oN:∀ (l:List (Str × NameKind)) (a:Addr) (acc:List (Str × Addr)) (h:Heap),(l.filter fun y=>y.2 == .cell)=[]→cellsFrom a l acc=acc∧pushCells h l=h
 | [],a,acc,h,_=>⟨rfl,rfl⟩
 | (n,k)::r,a,acc,h,e=>by
  cases hk:(k == NameKind.cell) with
  | true=>simp [hk] at e
  | false =>
   have e':(r.filter fun y=>y.2 == .cell)=[]:=by simpa [hk] using e
   unfold cellsFrom pushCells
   simp only [hk,Bool.false_eq_true,if_false]
   exact oN r a acc h e'
theorem qQ:∀ (l:List (Str × NameKind)) (x0:Str) (a:Addr) (acc:List (Str × Addr)) (h:Heap),(l.filter fun y=>y.2 == .cell)=[(x0,.cell)]→cellsFrom a l acc=(x0,a)::acc∧pushCells h l=h.push { cls:=.type "cell",data:=.cell none }
 | [],_,a,acc,h,e=>by simp at e
 | (n,k)::r,x0,a,acc,h,e=>by
  cases hk:(k == NameKind.cell) with
  | true =>
   have e':n=x0∧(r.filter fun y=>y.2 == .cell)=[]:=by
    rw [List.filter_cons,if_pos (by simpa using hk)] at e
    injection e with e1 e2
    exact ⟨(Prod.mk.inj e1).1,e2⟩
   unfold cellsFrom pushCells
   simp only [hk,if_true]
   rw [e'.1]
   exact oN r _ _ _ e'.2
  | false =>
   have e':(r.filter fun y=>y.2 == .cell)=[(x0,.cell)]:=by simpa [hk] using e
   unfold cellsFrom pushCells
   simp only [hk,Bool.false_eq_true,if_false]
   exact qQ r x0 a acc h e'
theorem lz {M:Model}{A:Around}{E:Value→Shared→Prop}{s:Shared}{scope:Scope}{globals:Addr}{cl:List (Str × Addr)}{qual:Str}{env:Env}{x0:Str}{Q:Env→Shared→Prop}
  (hc:(scope.names.filter fun y=>y.2 == .cell)=[(x0,.cell)])
  (hQ:∀ h':Heap,h'.Ns s.heap.objs.size (fun _=>none)→h'.IsCell (s.heap.objs.size+1) none→(∀ b o,s.heap.get? b=some o→h'.get? b=some o) →
   Q (newEnv scope s.heap.objs.size globals ((x0,s.heap.objs.size+1)::cl) qual none .none (some env) builtinsNs) { s with heap:=h' }) :
  wpAny M A (newFunctionEnv scope globals cl [] qual none .none (some env)) Q E s:=by
 simp only [newFunctionEnv,Option.isSome_some,if_true]
 refine wpAny_bind (wpAny_alloc ?_)
 refine wpAny_bind (wpAny_layCells _ (fun name kind cells=>by cases hkc:kind == NameKind.cell <;> simp [hkc]) _ _ _ _ ?_)
 obtain ⟨e1,e2⟩:=qQ scope.names x0 (s.heap.push { cls:=.type "dict",data:=.dict #[] }).objs.size cl (s.heap.push { cls:=.type "dict",data:=.dict #[] }) hc
 dsimp only
 rw [e1,e2,Heap.size_push]
 rw [List.forIn_nil]
 refine wpAny_bind (wpAny_pure (wpAny_pure ?_))
 refine hQ _ ((Heap.Ns.new s.heap (.type "dict")).keeps fun b o e=>Heap.get?_push_of_some _ e) ⟨{ cls:=.type "cell",data:=.cell none }, ?_,rfl⟩ fun b o e=>Heap.get?_push_of_some _ (Heap.get?_push_of_some _ e)
 rw [show s.heap.objs.size+1=(s.heap.push { cls:=.type "dict",data:=.dict #[] }).objs.size from (Heap.size_push ..).symm]
 exact Heap.get?_push_size _ rfl
section
variable {X:Cx}{elt iter tg:Expr}{ifs:List Expr}{scope:Scope}{pos:Pos}{wi:TI}{g:TG}{tt:TT}{te:TE}{sc:Scope}{N N':List Str}{nt:Nat}{cap:List Nat}{x0:Str}
theorem A4 {pins:List (Addr × Obj)}{σ:St}{H2:Hp}{s2:Shared}{fp:List Addr}{h1:Heap}{C D:Addr}{o:Obj}{tk:Nat}(hsc:X.env.scope=sc)(hN:X.N=N)(chk:lZ sc scope N N' nt cap x0)
  (I2:Inv X pins σ H2 s2) (f2:∀ b∈fp,kH X pins H2 b) (hD:s2.heap.objs.size=D) (hC:s2.heap.objs.size<C) (hns:h1.Ns C fun _=>none) (old:∀ b o,s2.heap.get? b=some o→h1.get? b=some o)
  (hfp:∀ b∈fp,b<s2.heap.objs.size) (ho:h1.get? D=some o) (hod:∀ v,o.data≠.cell v) {c0:Addr} (hc0:h1.IsCell c0 none) (hCc:C<c0) :
  Inv (cq X scope x0 ((x0,c0)::bZ X.env.cells scope.names []) N' C s2 H2 fp) [(D,o)] (gc nt cap σ) H2 { s2 with heap:=h1,toks:=tk }:=by
 have hcells:∀ y∈scope.names,y.2=.free→∃ c,X.env.cells.lookup y.1=some c:=fun y hy hk=>I2.ok.has y.1 (by show X.env.scope.names.lookup y.1=_∨X.env.scope.names.lookup y.1=_; rw [hsc]; exact chk.fr y hy hk)
 have hsub:∀ x c,(bZ X.env.cells scope.names []).lookup x=some c→X.env.cells.lookup x=some c:=jk X.env.cells scope.names [] hcells (fun x c e=>by simp at e)
 have hhas:∀ x,scope.names.lookup x=some .free→∃ c,(bZ X.env.cells scope.names []).lookup x=some c:=fun x e=>jl X.env.cells scope.names [] x (PySem.mem_of_lookup e)
 have nst:∀ b,s2.heap.objs.size≤b→b ∉ frs X.stack:=fun b hb hm=>by
  rcases List.mem_cons.mp (I2.mn b hm) with e | e
  ·rw [e] at hb; exact absurd (Nat.lt_of_lt_of_le I2.lt hb) (Nat.lt_irrefl _)
  ·exact I2.DZ hb e
 have nC:∀ x c,X.env.cells.lookup x=some c→c<s2.heap.objs.size:=fun x c e=>by
  obtain ⟨v,q⟩:=I2.cell x c e
  exact q.lt
 have hsp:∀ x c,((x0,c0)::bZ X.env.cells scope.names []).lookup x=some c→(x=x0∧c=c0)∨X.env.cells.lookup x=some c:=fun x c e=>by
  cases hx:x == x0 with
  | true =>
   rw [List.lookup_cons,hx] at e
   cases e
   exact .inl ⟨eq_of_beq hx,rfl⟩
  | false =>
   rw [List.lookup_cons,hx] at e
   exact .inr (hsub x c e)
 have hbig:s2.heap.objs.size<c0:=Nat.lt_trans hC hCc
 have nC0:∀ x,X.env.cells.lookup x≠some c0:=fun x e=>Nat.lt_irrefl _ (Nat.lt_trans (nC x c0 e) hbig)
 have hcons:∀ x c,(bZ X.env.cells scope.names []).lookup x=some c→∃ c',((x0,c0)::bZ X.env.cells scope.names []).lookup x=some c':=fun x c e=>by
  cases hx:x == x0 with
  | true=>exact ⟨c0,by rw [List.lookup_cons,hx]⟩
  | false=>exact ⟨c,by rw [List.lookup_cons,hx]; exact e⟩
 have hinj:∀ x y c,((x0,c0)::bZ X.env.cells scope.names []).lookup x=some c→((x0,c0)::bZ X.env.cells scope.names []).lookup y=some c→x=y:=fun x y c e1 e2=>by
  rcases hsp x c e1 with ⟨rfl,rfl⟩ | f1
  ·rcases hsp y _ e2 with ⟨rfl,_⟩ | f2
   ·rfl
   ·exact absurd f2 (nC0 y)
  ·rcases hsp y c e2 with ⟨rfl,rfl⟩ | f2
   ·exact absurd f1 (nC0 x)
   ·exact I2.ok.inj x y c f1 f2
 refine ⟨⟨I2.ok.mod,chk.kind,I2.ok.glob,I2.ok.blt,Nat.le_of_lt hC,hinj,fun x hk=>?_,fun x c z e=>?_,fun hc=>I2.ok.hd hc,I2.ok.frames,.inl rfl,
  fun b hb=>⟨Nat.ne_of_lt (Nat.lt_trans (hfp b hb) hC),fun x c e=>(by
   rcases hsp x c e with ⟨_,rfl⟩ | f
   ·exact fun z=>Nat.lt_irrefl _ (Nat.lt_trans hbig (z ▸ hfp b hb))
   ·exact (f2 b hb).2.2.2.2.1 x c f)⟩,I2.bs,Nat.le_trans I2.ok.bsz I2.sz,fun b ob e hb=>?_,fun b hb hm=>?_,I2.stack,I2.rh⟩,
  rfl,I2.bare,Un.kept old,⟨_,hns,fun j x v e1 e2 e3=>?_⟩,fun x c e=>?_,I2.hok.fresh (Nat.le_of_lt hC),fun x c e=>(by
   rcases hsp x c e with ⟨_,rfl⟩ | f
   ·exact I2.hok.fresh (Nat.le_of_lt hbig)
   ·exact I2.jz x c f),fun p hp=>?_,I2.hok.kept old, ?_⟩
 ·
  have hk':(relabel scope X.env).names.lookup x=some .cell∨(relabel scope X.env).names.lookup x=some .free:=hk
  have ff:scope.names.lookup x=some .free∨scope.names.lookup x=some .cell:=by
   rcases hk' with e | e
   ·exact jW e (.inl rfl)
   ·exact jW e (.inr rfl)
  rcases ff with e | e
  ·obtain ⟨c,q⟩:=hhas x e
   exact hcons x c q
  ·have:(x,NameKind.cell)∈scope.names.filter fun y=>y.2 == .cell:=List.mem_filter.mpr ⟨PySem.mem_of_lookup e,rfl⟩
   rw [chk.one,List.mem_singleton] at this
   cases this
   exact ⟨c0,List.lookup_cons_self⟩
 ·
  rcases hsp x c e with ⟨_,rfl⟩ | f
  ·exact Nat.le_of_lt hbig
  ·have zx:x=x0:=eq_of_beq z
   subst zx
   have e':((x,c0)::bZ X.env.cells scope.names []).lookup x=some c:=e
   rw [List.lookup_cons_self] at e'
   cases e'
   exact absurd f (nC0 x)
 ·
  rcases (f2 b hb).2.2.2.1 with z | z
  ·exact I2.ok.x8 b ob e z
  ·exact absurd (Nat.lt_of_lt_of_le (Heap.lt_size e) (Nat.le_trans I2.ok.bsz z)) (Nat.lt_irrefl _)
 ·
  rcases List.mem_cons.mp (I2.mn b hm) with e | e
  ·exact (f2 b hb).2.1 e
  ·exact (f2 b hb).2.2.1 e
 ·
  have hj:nt≤j:=by
   apply Nat.le_of_not_lt
   intro hj
   unfold gc at e2
   rw [List.getElem?_append_left (by simpa using hj),List.getElem?_replicate,if_pos hj] at e2
   cases e2
  obtain ⟨l,rfl⟩:∃ l,j=nt+l:=⟨j - nt,by omega⟩
  unfold gc at e2
  rw [List.getElem?_append_right (by simp),List.length_replicate,Nat.add_sub_cancel_left,List.getElem?_map] at e2
  cases ec:cap[l]? with
  | none=>rw [ec] at e2; cases e2
  | some i =>
   rw [ec,Option.map_some] at e2
   have hl:l<cap.length:=(List.getElem?_eq_some_iff.mp ec).1
   have e1':N'[nt+l]?=some x:=e1
   obtain ⟨h3,h4⟩:=chk.cap l (List.mem_range.mpr hl) x (by rw [e1']; rfl) i (by rw [ec]; rfl)
   have e2' : σ[i]?=some (some v):=by
    cases es:σ[i]? with
    | none=>rw [es] at e2; cases e2
    | some ov =>
     rw [es] at e2
     cases ov with
     | none=>cases e2
     | some v'=>cases e2; rfl
   obtain ⟨m,hm,hl'⟩:=I2.loc
   have hkk:X.env.scope.names.lookup x=some .cell∨X.env.scope.names.lookup x=some .free:=by rw [hsc]; exact chk.fr (x,.free) (PySem.mem_of_lookup h4) rfl
   obtain ⟨u,ru,lk⟩:=hl' i x v (by rw [hN]; exact h3) e2' (.inr hkk)
   refine ⟨u,ru,.inr ⟨jm h4, ?_⟩⟩
   rcases lk with ⟨hk,_⟩ | ⟨_,c,hc,hcell⟩
   ·have hk':X.env.scope.names.lookup x=some .local:=hk
    rcases hkk with z | z <;> (rw [hk'] at z; cases z)
   ·obtain ⟨c',e'⟩:=hhas x h4
    have:=hsub x c' e'
    rw [hc] at this; cases this
    obtain ⟨oc,h5,h6⟩:=hcell
    have hx0:(x == x0)=false:=by
     cases hx:x == x0 with
     | false=>rfl
     | true =>
      rw [eq_of_beq hx,chk.HQ] at h4
      cases h4
    exact ⟨c,(by show ((x0,c0)::bZ X.env.cells scope.names []).lookup x=_; rw [List.lookup_cons,hx0]; exact e'),oc,old c oc h5,h6⟩
 ·
  rcases hsp x c e with ⟨_,rfl⟩ | f
  ·exact ⟨none,hc0⟩
  ·obtain ⟨v,oc,h5,h6⟩:=I2.cell x c f
   exact ⟨v,oc,old c oc h5,h6⟩
 ·
  have hp':p=(D,o):=by simpa [cq,aQ] using hp
  subst hp'
  refine ⟨ho,I2.hok.fresh (Nat.le_of_eq hD), ?_,nst D (Nat.le_of_eq hD),hod⟩
  show D≠C
  exact Nat.ne_of_lt (by rw [← hD]; exact hC)
 ·show (gc nt cap σ).length=N'.length
  rw [chk.len]
  simp [gc]
theorem vx (hsc:X.env.scope=sc)(hN:X.N=N)(chk:lZ sc scope N N' nt cap x0)(hc:X.calm=true)(hi:PI X tg iter wi)
  (hg:∀ cl C s2 H2 fp,PG (cq X scope x0 cl N' C s2 H2 fp) tg g) (hge:mE nt g) (ht:∀ cl C s2 H2 fp,jD (cq X scope x0 cl N' C s2 H2 fp) ifs tt) (he:∀ cl C s2 H2 fp,PE (cq X scope x0 cl N' C s2 H2 fp) elt te)
  (hs:∀ x,foldedSetIterable iter X.env x=pure x) {use:Option (Value→Sem Unit)} {QQ:Value→Shared→Prop} {pins:List (Addr × Obj)} {s:Shared} {σ:St} {H:Hp} {p0:Pos} (I:Inv X pins σ H s) (Q:VK)
  (fin:∀ (s4:Shared) (D C:Addr) (H4:Hp),C≠D→H4 C=none→(∃ m,s4.heap.Ns C m)→(∀ h',Heap.SameBut C s4.heap h'→Inv X pins σ H4 { s4 with heap:=h' }) →
   ((C∈X.ex∨X.s₀.heap.objs.size≤C)∧C≠X.env.locals∧(∀ x c,X.env.cells.lookup x=some c→c≠C)∧∀ p∈X.pn++pins,p.1≠C)→Q (.ref D) H4→compPost (model X.prog X.w) X.A X.xe use QQ (.ref D) C (.ok .next) s4)
  (h:ng nt cap wi g tt te σ H Q):wpAny (model X.prog X.w) X.A (comprehension (.ListComp elt [⟨tg,iter,ifs,0⟩] scope pos) scope X.env p0 (newList []) false (eval iter X.env) use) QQ X.xe s:=by
 have hcells:∀ y∈scope.names,y.2=.free→∃ c,X.env.cells.lookup y.1=some c:=fun y hy hk=>I.ok.has y.1 (by show X.env.scope.names.lookup y.1=_∨X.env.scope.names.lookup y.1=_; rw [hsc]; exact chk.fr y hy hk)
 refine wpAny_comprehension_free (use:=use) rfl hs (kP hcells) chk.kind chk.names ?_
 refine thn (hi pins s σ H _ I h) fun v s1 h1=>thn h1 fun itv s2 h2=>?_
 obtain ⟨it,fp,tn,J,H2,e,I2,T,st2,f2,W,⟨m0,w0⟩,turn⟩:=h2
 subst e
 refine wpAny_newObj_type (lz chk.one fun h₁ hns hcell old₁=>?_)
 dsimp only at hns hcell old₁ ⊢
 generalize hG:s2.heap.push { cls:=.type "list",dict:=none,data:=.seq ([]:List Value).toArray }=G at hns hcell old₁ ⊢
 have hCs:G.objs.size=s2.heap.objs.size+1:=by rw [← hG,Heap.size_push]
 have hDC:s2.heap.objs.size≠G.objs.size:=by rw [hCs]; exact Nat.ne_of_lt (Nat.lt_succ_self _)
 have old:∀ b o,s2.heap.get? b=some o→h₁.get? b=some o:=fun b o e=>old₁ b o (hG ▸ Heap.get?_push_of_some _ e)
 have hacc:h₁.get? s2.heap.objs.size=some { cls:=.type "list",dict:=none,data:=.seq ([]:List Value).toArray }:=old₁ _ _ (hG ▸ Heap.get?_push_size _ rfl)
 have hfp:∀ b∈fp,b<s2.heap.objs.size:=fun b hb=>by
  obtain ⟨o,e,_⟩:=T.obj 0 _ st2 b hb
  exact Heap.lt_size e
 generalize hD:s2.heap.objs.size=D at hacc hDC ⊢
 generalize hC:G.objs.size=C at hns hcell hDC ⊢
 have hDC':s2.heap.objs.size<C:=by rw [← hC,hCs]; exact Nat.lt_succ_self _
 let cl:=(x0,C+1)::bZ X.env.cells scope.names []
 let X':=cq X scope x0 cl N' C s2 H2 fp
 let ob:List Value→Nat→Obj:=fun its n=>{ cls:=.type "list",dict:=none,data:=.seq its.toArray n }
 have I0:Inv X' [(D,ob [] 0)] (gc nt cap σ) H2 { s2 with heap:=h₁ }:=A4 hsc hN chk I2 f2 hD hDC' hns old hfp hacc (fun v z=>nomatch z) hcell (Nat.lt_succ_self C)
 have fpD:∀ b∈fp,b≠D:=fun b hb z=>by have:=hfp b hb; rw [z,hD] at this; exact Nat.lt_irrefl _ this
 have stat:∀ {H':Hp} {its:List Value} {n:Nat},(∀ b∈fp,H' b=none)→∀ b∈fp,kH X' [(D,ob its n)] H' b:=fun {H' its n} hn b hb=>by
  obtain ⟨_,f1,f2',f3,f4,f5⟩:=f2 b hb
  refine ⟨hn b hb,Nat.ne_of_lt (Nat.lt_trans (hfp b hb) hDC'),I0.ok.x9 b hb,.inl hb,(I0.ok.exf b hb).2,fun p hp=>?_⟩
  have hp':p=(D,ob its n):=by simpa [X',cq,aQ] using hp
  subst hp'
  exact Ne.symm (fpD b hb)
 have st0:tn 0 h₁:=T.keep 0 _ _ st2 fun b hb o e=>old b o e
 have loop:codeAny (model X.prog X.w) X.A (.compLoop (.ListComp elt [⟨tg,iter,ifs,0⟩] scope pos) 0 (.ref it) (.ref D) (compEnvC scope cl C X.env))
   (compPost (model X.prog X.w) X.A X.xe use QQ (.ref D) C) { s2 with heap:=h₁ }:=by
  refine lP (fun k s'=>∃ i ys its n H',Inv X' [(D,ob its n)] (gc nt cap σ) H' s'∧tn i s'.heap∧(∀ b∈fp,H' b=none)∧Vals ys its∧W i k ys H') ?_ m0 ⟨0,[],[],0,H2,I0,st0,fun b hb=>(f2 b hb).1,.nil,w0⟩
  rintro k s3 ⟨i,ys,its,n,H3,I3,st3,fr3,rv3,w3⟩
  have pD:=I3.pin (D,ob its n) (by simp)
  rcases turn i k ys H3 w3 with ⟨stop,hz,qn⟩ | ⟨go,step⟩
  ·refine wpAny_mono (T.done X' rfl rfl rfl hc i _ s3 _ H3 (fun _ _=>False) I3 (stat fr3) st3 stop) (fun r s4 zz_=>?_) fun _ _ z=>False.elim z
   obtain ⟨hr,I4⟩:=zz_
   subst hr
   have pD4:=I4.pin (D,ob its n) (by simp)
   obtain ⟨mC,hnC,_⟩:=I4.loc
   have J:∀ h',Heap.SameBut C s4.heap h'→Inv X pins σ (upd H3 D (.lst ys)) { s4 with heap:=h' }:=fun h' sb=>by
    have hfree:H3 D=none:=pD4.2.1
    have neC:∀ b u,H3 b=some u→b≠C:=fun b u e z=>by
     have:H3 C=none:=I4.free
     rw [z,this] at e; cases e
    have neD:∀ b u,H3 b=some u→b≠D:=fun b u e z=>by rw [z,hfree] at e; cases e
    have hltC:∀ b,b<s2.heap.objs.size→b≠C:=fun b hb=>by omega
    have hltD:∀ b,b<s2.heap.objs.size→b≠D:=fun b hb=>by omega
    have hgD:h'.get? D=some (ob its n):=sb.extBut D _ hDC pD4.1
    have un:Un (frs X.stack) fp H2 (upd H3 D (.lst ys)) s2.heap h':=by
     have bs:Un (frs X.stack) fp H2 H3 s2.heap s4.heap:=I4.base
     refine ⟨fun b o e n hb hx=>?_,fun b o e n hb hx=>?_,fun b o e n hx=>?_,fun b o e hx=>?_,fun b xs e=>?_,fun b o u e=>?_,fun b ps e=>?_⟩
     ·exact sb.extBut b o (hltC b (Heap.lt_size e)) (bs.keep b o e n hb hx)
     ·obtain ⟨sl,q⟩:=bs.slot b o e n hb hx
      exact ⟨sl,sb.extBut b _ (hltC b (Heap.lt_size e)) q⟩
     ·rw [aC (hltD b (Heap.lt_size e))]; exact bs.free b o e n hx
     ·obtain ⟨o',q⟩:=bs.there b o e hx
      exact ⟨o',sb.extBut b _ (hltC b (Heap.lt_size e)) q⟩
     ·have q:=bs.pN b xs e
      rw [aC (neD b _ q)]; exact q
     ·have q:=bs.nW b o u e
      rw [aC (neD b _ q)]; exact q
     ·obtain ⟨more,q⟩:=bs.pO b ps e
      exact ⟨more,by rw [aC (neD b _ q)]; exact q⟩
    have hok:HOk X.prog X.w (upd H3 D (.lst ys)) h':=fun b u e=>by
     by_cases hb:b=D
     ·subst hb
      rw [bu] at e; cases e
      exact ⟨hz,its,n,rv3,hgD⟩
     ·rw [aC hb] at e
      refine (I4.hok b u e).nV (fun c v hcc q=>sb.extBut c v ?_ q) (fun c q=>by rw [aC (neD c _ q)]; exact q) fun c xs q=>by rw [aC (neD c _ q)]; exact q
      rcases hcc with rfl | hcc
      ·exact neC _ _ e
      ·exact neC _ _ hcc
    have hch:∀ b∈fp,(b∈X.ex∨X.s₀.heap.objs.size≤b)∧b≠X.env.locals∧(∀ x c,X.env.cells.lookup x=some c→c≠b)∧∀ p∈X.pn++pins,p.1≠b:=fun b hb=>by
     obtain ⟨_,f1,_,f3,f4,f5⟩:=f2 b hb
     exact ⟨f3,f1,f4,f5⟩
    have os4:s4.os=s2.os:=I4.os
    have I5:Inv X pins σ (upd H3 D (.lst ys)) { s4 with heap:=h' }:=I2.yw (s':={ s4 with heap:=h' }) os4 un hok I4.bare hch
    exact I5
   have hfree:H3 D=none:=pD4.2.1
   have hfC:H3 C=none:=I4.free
   exact fin s4 D C _ (Ne.symm hDC) (by rw [aC (Ne.symm hDC)]; exact hfC) ⟨mC,hnC⟩ J
    ⟨.inr (Nat.le_trans I2.sz (Nat.le_of_lt hDC')),fun z=>Nat.lt_irrefl _ (Nat.lt_trans hDC' (z ▸ I2.lt)),fun x c e z=>(by
     obtain ⟨v',oc,h5,h6⟩:=I2.cell x c e
     exact Nat.lt_irrefl _ (Nat.lt_trans hDC' (z ▸ Heap.lt_size h5))),fun p hp z=>Nat.lt_irrefl _ (Nat.lt_trans hDC' (z ▸ Heap.lt_size (I2.pin p hp).1))⟩ (qn D hfree)
  ·refine wpAny_mono (T.item X' rfl rfl rfl hc i _ s3 _ H3 (fun _ _=>False) I3 (stat fr3) st3 go) (fun r s4 zz_=>?_) fun _ _ z=>False.elim z
   obtain ⟨u,hr,h4⟩:=zz_
   subst hr
   refine wpAny_mono h4 (fun _ s5 zz_=>?_) fun _ _ z=>False.elim z
   obtain ⟨x,H5,I5,r5,y5,st5,fr5⟩:=zz_
   have I5':=I5.pinned (stat fr5) (T.obj _ _ st5)
   refine wpAny_mono (hg cl C s2 H2 fp _ s5 _ H5 x u _ I5' r5 (hge _ _ _ _ (step x H5 y5))) (fun _ s6 zz_=>?_) fun _ _ z=>False.elim z
   obtain ⟨σ6,H6,I6,⟨ext,exl⟩,q6⟩:=zz_
   refine wpAny_mono (ht cl C s2 H2 fp _ s6 σ6 H6 _ I6 q6) (fun b s7 zz_=>?_) fun _ _ z=>False.elim z
   obtain ⟨H7,I7,q7⟩:=zz_
   have back:∀ {s':Shared} {H':Hp},Inv X' ([(D,ob its n)]++mq fp s5.heap) σ6 H' s'→Inv X' [(D,ob its n)] (gc nt cap σ) H' s'∧tn (i+1) s'.heap∧∀ b∈fp,H' b=none:=fun {s' H'} J=>by
    refine ⟨J.jJ.weak (by rw [exl]) fun j w e=>?_,T.keep _ _ _ st5 fun b hb o e=>(J.pin (b,o) (List.mem_append_right _ (List.mem_append_right _ (gq hb e)))).1,fun b hb=>?_⟩
    ·have hj:nt≤j:=by
      apply Nat.le_of_not_lt
      intro hj
      unfold gc at e
      rw [List.getElem?_append_left (by simpa using hj),List.getElem?_replicate,if_pos hj] at e
      cases e
     rw [ext j hj]; exact e
    ·obtain ⟨o,e,d⟩:=T.obj _ _ st5 b hb
     exact (J.pin (b,o) (List.mem_append_right _ (List.mem_append_right _ (gq hb e)))).2.1
   cases b with
   | false =>
    rw [if_neg Bool.false_ne_true] at q7 ⊢
    obtain ⟨m',hm,w7⟩:=q7
    obtain ⟨J,st7,fr7⟩:=back I7
    exact ⟨m',hm,i+1,ys,its,n,H7,J,st7,fr7,rv3,w7⟩
   | true =>
    rw [if_pos rfl] at q7 ⊢
    refine wpAny_mono (he cl C s2 H2 fp _ s7 σ6 H7 _ I7 q7) (fun y s8 zz_=>?_) fun _ _ z=>False.elim z
    obtain ⟨yv,H8,I8,r8,hz8,m',hm,w8⟩:=zz_
    obtain ⟨J,st8,fr8⟩:=back I8
    have pD8:=J.pin (D,ob its n) (by simp)
    have hsz:its.toArray.size≤sizeLine:=by
     have:=rv3.length
     rw [List.size_toArray]; omega
    refine wpAny_list_append_plain (l:=D) (items:=its.toArray) ⟨n,pD8.1⟩ (fun h9 pl sb9=>?_) hsz
    obtain ⟨n9,e9⟩:=pl
    refine ⟨m',hm,i+1,ys++[yv],its++[y],n9,H8, ?_,T.keep _ _ _ st8 fun b hb o e=>sb9.extBut b o (fpD b hb) e,fr8,rv3.append (.cons r8 .nil),w8⟩
    have J0:Inv X' [] (gc nt cap σ) H8 s8:=J.km fun p hp=>absurd hp (by simp)
    have cellsD:∀ x c,X'.env.cells.lookup x=some c→c≠D:=fun x c e z=>by
     obtain ⟨v',oc,h5,h6⟩:=J.cell x c e
     rw [z,pD8.1] at h5; cases h5
     exact absurd h6 (fun z=>nomatch z)
    have J1:Inv X' [] (gc nt cap σ) H8 { s8 with heap:=h9 }:=J0.turned (t':=s8.toks) (fun b o hb e=>sb9.extBut b o hb e) pD8.2.1 pD8.2.2.1 (.inr (Nat.le_of_eq hD)) cellsD (fun p hp=>absurd hp (by simp [X',cq,aQ]))
    refine J1.km fun p hp=>?_
    have hp':p=(D,ob (its++[y]) n9):=by simpa using hp
    subst hp'
    refine ⟨?_,pD8.2.1,pD8.2.2.1,pD8.2.2.2.1,fun v z=>nomatch z⟩
    show h9.get? D=some (ob (its++[y]) n9)
    rw [e9]
    simp [ob]
 refine codeAny_compStart_list loop ?_
 exact T.self X.A 0 _ _ _ st0 loop
theorem A5 (hsc:X.env.scope=sc)(hN:X.N=N)(chk:lZ sc scope N N' nt cap x0)(hc:X.calm=true)(hi:PI X tg iter wi)
  (hg:∀ cl C s2 H2 fp,PG (cq X scope x0 cl N' C s2 H2 fp) tg g) (hge:mE nt g) (ht:∀ cl C s2 H2 fp,jD (cq X scope x0 cl N' C s2 H2 fp) ifs tt) (he:∀ cl C s2 H2 fp,PE (cq X scope x0 cl N' C s2 H2 fp) elt te)
  (hs:∀ x,foldedSetIterable iter X.env x=pure x:=by intro _; rfl):PE X (.ListComp elt [⟨tg,iter,ifs,0⟩] scope pos) (ng nt cap wi g tt te):=by
 intro pins s σ H Q I h
 rw [eval_ListComp]
 exact vx (use:=none) hsc hN chk hc hi hg hge ht he hs I Q (fun s4 D C H4 _ _ hn J _ q=>by
  obtain ⟨m,hm⟩:=hn
  exact ⟨m,hm,fun h' sb=>⟨.ref D,_,J h' sb,rfl,q⟩⟩) h
end
end L2
end
section
namespace DL
open PySem PySem.Spec PyProof.Rows L2
section
variable {X:Cx}{c:Ct}{pos:Pos}{a b:Expr}{x0:Str}{iter elt tg:Expr}{ifs:List Expr}{scope sc:Scope}{N N':List Str}{nt:Nat}{cap:List Nat}{fi fe:FE}{ft:FT}{tgf:FG}{gt:TG}
theorem DefX.A6 {cl:List (Str × Addr)}{C:Addr}{s2:Shared}{H2:Hp}{fp:List Addr}(d:DefX X N sc)(hN':N'.Nodup):DefX (cq X scope x0 cl N' C s2 H2 fp) N' (jS scope sc):=by
 refine ⟨rfl, ?_,d.calm,hN'⟩
 show (compEnvC scope cl C X.env).scope=_
 rw [← d.hsc]
 rfl
theorem DefX.nlk {cl:List (Str × Addr)}{C:Addr}{s2:Shared}{H2:Hp}{fp:List Addr}{sc2:Scope}(d:DefX (cq X scope x0 cl N' C s2 H2 fp) N' sc2){i:Nat}(h:N'[i]?=some x0)(hl:sc2.names.lookup x0=some .cell):Nl (cq X scope x0 cl N' C s2 H2 fp) i x0 :=
 ⟨by rw [d.hN]; exact d.nd,by rw [d.hN]; exact h,by rw [d.hsc]; exact .inr hl,.inl (beq_self_eq_true x0)⟩
theorem y9 {p p2:Pos}{fs:FA}(d:DefX X N sc)(chk:lZ sc scope N N' nt cap x0)(hcap:cap.Nodup)(hN':N'.Nodup)(hgr:Gl X "range")(hm:X.mg "range"=none)(ha:PDA X c [a] fs)
  (hg:∀ cl C s2 H2 fp,DefX (cq X scope x0 cl N' C s2 H2 fp) N' (jS scope sc)→PG (cq X scope x0 cl N' C s2 H2 fp) tg gt) (hge:mE nt gt) (sg:gS (tx X c) tgf gt)
  (ht:∀ cl C s2 H2 fp,DefX (cq X scope x0 cl N' C s2 H2 fp) N' (jS scope sc)→jD (cq X scope x0 cl N' C s2 H2 fp) ifs (tP (tx X c) kB ft))
  (he:∀ cl C s2 H2 fp,DefX (cq X scope x0 cl N' C s2 H2 fp) N' (jS scope sc)→PE (cq X scope x0 cl N' C s2 H2 fp) elt (tP (tx X c) (kD (tx X c)) fe)) (hst:isStar a=false:=by rfl)
  :PF X c (.ListComp elt [⟨tg,.Call (.Name "range" p) [a] [] p2,ifs,0⟩] scope pos) (gA jC nt cap tgf fs ft fe) :=
 PE.imp (A5 (tt:=tP (tx X c) kB ft) (te:=tP (tx X c) (kD (tx X c)) fe) d.hsc d.hN chk d.calm (qt hgr hm ha (gJ hst)) (fun cl C s2 H2 fp=>hg cl C s2 H2 fp (d.A6 hN')) hge (fun cl C s2 H2 fp=>ht cl C s2 H2 fp (d.A6 hN')) (fun cl C s2 H2 fp=>he cl C s2 H2 fp (d.A6 hN')) (eY rfl)) fun _ _ _ h=>zq sg hcap h
end
end DL
end
section
namespace DL
open L2
end DL
end
section
namespace DL
open PySem PySem.Spec PyProof.Rows L2
section
variable {T:Tx}{X:XQ}{F:FS}{fi fe:FE}{ft:FT}{De:Ends}{σ:L2.St}{H:Hp}{tg:FG}{g:TG}
end
section
variable {X:Cx}{c:Ct}{xq:XQ}{ts:List Expr}{tk:Nat}{tp p ip pos:Pos}{iter:Expr}{fi:FE}{tgf:FG}{gt:TG}{F:FS}
end
end DL
end
section
namespace DL
open L2
end DL
end
section
namespace DL
open PySem PySem.Spec PyProof.Rows L2
section
variable {X:Cx}{c:Ct}{a:Expr}{ta:TE}{f:FE}{pos p2:Pos}{j:Nat}{q:Bool}
end
end DL
end
section
namespace DL
open PySem PySem.Spec PyProof.Rows L2
section
variable {X:Cx}{c:Ct}{a:Expr}{ta:TE}{f:FE}{pos p:Pos}{x:Str}{tb:List (List Nat × Int)}
end
end DL
end
section
namespace DL
open L2
end DL
end
section
namespace L2
open PySem PySem.Spec PyProof.Rows DL
section
variable {X:Cx}{st:Stmt}{rest:List Stmt}{t u:TS}{pos:Pos}
end
end L2
namespace DL
open PySem PySem.Spec PyProof.Rows L2
section
variable {X:Cx}{c:Ct}{xq:XQ}{st:Stmt}{rest:List Stmt}{a b o:Expr}{f g fe:FE}{F G:FS}{t:FT}{pos:Pos}
end
end DL
end
section
namespace DL
open L2
end DL
end
section
namespace L2
open PySem PySem.Spec PyProof.Rows DL Builtin
section
variable {X:Cx}
end
end L2
namespace DL
open PySem PySem.Spec PyProof.Rows L2
section
variable {X:Cx}{c:Ct}{a b:Expr}{f g:FE}{pos:Pos}
end
end DL
end
section
namespace DL
open L2
def oO (k:Nat):List Nat→List D→Option D
 | k'::ks,d::ds=>if k'=k then some d else oO k ks ds
 | _,_=>none
def bx (k:Nat):D→Option D
 | .ob _ ks ds=>oO k ks ds
 | _=>none
abbrev mI (α:Type):=Nat→Option (List Nat × (List D→Option α))
def jX {α:Type}(n:Nat)(tab:mI α):D→List D→Option α
 | .ob c ks ds,as=>(tab c).bind fun p=>if ks=p.1∧as.length=n then p.2 (.ob c ks ds::as) else none
 | _,_=>none
def jY {α:Type}(n:Nat)(tab:mI α)(fo:FE)(fa:FA):FP α:=fun env=>(fo env).bind fun d=>(fa env).bind fun as=>jX n tab d as
abbrev IFn:=Nat→List D→Option (List Nat × List D)
def gU (k n:Nat)(I:IFn)(fa:FA):FE:=fun env=>(fa env).bind fun as=>if as.length=n then (I k as).map fun p=>.ob k p.1 p.2 else none
def fm (i k:Nat)(f:FE):FS:=fun env=>match env[i]? with
 | some (.obj c ks ds)=>if k∈ks∨100≤ks.length then none else (f env).map fun d=>.nx (env.set i (.obj c (ks++[k]) (ds++[d])))
 | _=>none
def j0 (i n:Nat)(I:IFn)(fa:FA):FS:=fun env=>match env[i]? with
 | some (.obj c [] [])=>(fa env).bind fun as=>if as.length=n then (I c as).map fun p=>.nx (env.set i (.obj c p.1 p.2)) else none
 | _=>none
def iB (N:Nat)(F:FS):IFn:=fun k ds=>(F (.obj k [] []::envOf N ds)).bind fun r=>match r with
 | .nx env'=>match (env'[0]?:Option Slot) with
  | some (.obj k' ks es)=>if k'=k then some (ks,es) else none
  | _=>none
 | _=>none
end DL
end
section
namespace DL
open PySem PySem.Spec PyProof.Rows L2
def wx:Expr→Bool
 | .Call _ _ _ _=>false
 | _=>true
theorem wy {e:Expr}{f:Str}{env:Env}(h:wx e=true):attributeBase e f env (eval e env)=eval e env:=by
 cases e <;> first | rfl | cases h
structure fC (K:PySem.W.Frag)(c:Ct)(k:Nat):Prop where
 cls:∀ n C,c.cl n=some C→Cls K C∧jf K C (c.fld k)
 inj:∀ k',c.fld k'=c.fld k→k'=k
theorem oP {T:Tx}{A:Addr→Prop}{H:Hp}{k:Nat}(inj:∀ k',T.fld k'=T.fld k→k'=k):∀ {ks:List Nat} {ds:List D} {fs:List (Str × V)} {d:D},fs.map (·.1)=ks.map T.fld→az T A H ds (fs.map (·.2))→oO k ks ds=some d →
  ∃ v,fs.lookup (T.fld k)=some v∧Rep T A H d v
 | [],_,_,_,_,_,e=>by simp [oO] at e
 | k'::ks,[],_,_,_,_,e=>by simp [oO] at e
 | k'::ks,d'::ds,[],_,h,_,e=>by simp at h
 | k'::ks,d'::ds,(x,u)::fs,d,h,r,e=>by
  simp only [List.map_cons,List.cons.injEq] at h
  obtain ⟨v,r1,e2,h1,h2⟩:=r.dN
  simp only [List.map_cons,List.cons.injEq] at e2
  obtain ⟨rfl,rfl⟩:=e2
  unfold oO at e
  by_cases hk:k'=k
  ·rw [if_pos hk] at e; cases e
   subst hk
   refine ⟨u, ?_,h1⟩
   rw [List.lookup,h.1]; simp
  ·rw [if_neg hk] at e
   obtain ⟨v,l,q⟩:=oP inj h.2 h2 e
   refine ⟨v, ?_,q⟩
   have hb:(T.fld k == x)=false:=by
    rw [beq_eq_false_iff_ne,h.1]
    intro z; exact hk (inj _ z.symm)
   rw [List.lookup,hb]; exact l
theorem tU {f:Str}{v:V}:∀ {fs:List (Str × V)},f ∉ fs.map (·.1)→jK f v fs=fs++[(f,v)]
 | [],_=>rfl
 | (g,x)::r,h=>by
  simp only [List.map_cons,List.mem_cons,not_or] at h
  show (if g=f then _ else _)=_
  rw [if_neg (fun z=>h.1 z.symm),tU h.2]; rfl
section
variable {X:Cx}{c:Ct}{xq:XQ}{o e:Expr}{es:List Expr}{f fo:FE}{fa:FA}{pos apos:Pos}{m:Str}
theorem aL {k:Nat}{nm:Str}(F:fC X.K c k)(hn:nm=c.fld k)(ho:PD X c o f)(hb:wx o=true:=by rfl):PD X c (.Attribute o nm pos) (fp1 (bx k) f):=by
 subst hn
 refine PE.imp (yR ho (wy hb)) fun σ H Q h=>?_
 obtain ⟨W,O,env,d,E,e1,q⟩:=h
 unfold fp1 at e1
 cases e2:f env with
 | none=>rw [e2] at e1; cases e1
 | some x =>
  rw [e2] at e1
  dsimp only [Option.bind_some] at e1
  refine ⟨W,O,env,x,E,e2,fun v H1 s1 r1=>?_⟩
  unfold bx at e1
  split at e1
  ·next n ks ds =>
   have r2:Rep (tx X c) (Cl W O) H1 (.ob n ks ds) v:=r1
   simp only [Rep] at r2
   obtain ⟨a,C,dx,fs,rfl,ha,hC,hH,hk,hr⟩:=r2
   obtain ⟨u,l,ru⟩:=oP F.inj hk hr e1
   obtain ⟨h1,h2⟩:=F.cls n C hC
   exact ⟨a,C,dx,fs,u,rfl,hH,h1,h2,l,q u H1 s1 ru⟩
  ·cases e1
theorem tV {i k:Nat}{x nm:Str}{p1 p2:Pos}(F:fC X.K c k)(hn:nm=c.fld k)(n:Nm X i x)(hv:PD X c e f)(hs:swapsWith e (some (.Attribute (.Name x p1) nm p2)) pos.line X.env=pure false:=by rfl) :
  PDS X c xq (.Assign [.Attribute (.Name x p1) nm p2] e pos) (fm i k f):=by
 subst hn
 refine PS.imp (Ek (iW n.hN n.hv n.hd n.hc) hv hs) fun De σ H h=>?_
 obtain ⟨W,O,env,fl,E,e1,q⟩:=h
 unfold fm at e1
 split at e1
 ·next n ks ds hi =>
  by_cases hc:k∈ks∨100≤ks.length
  ·rw [if_pos hc] at e1; cases e1
  ·rw [if_neg hc] at e1
   rw [not_or] at hc
   cases e2:f env with
   | none=>rw [e2] at e1; cases e1
   | some d =>
    rw [e2] at e1; cases e1
    refine ⟨W,O,env,d,E,e2,fun v H1 s1 r1=>?_⟩
    have E1:=E.mono s1
    obtain ⟨a,C,dx,fs,h1,h2,h3,h4,h5,h6,h7⟩:=E1.obj hi
    obtain ⟨g1,g2⟩:=F.cls n C h4
    have hlen:fs.length=ks.length:=by have:=congrArg List.length h6; simpa using this
    have hnew:c.fld k ∉ fs.map (·.1):=by
     rw [h6]
     intro z
     obtain ⟨k',hk',ek⟩:=List.mem_map.mp z
     exact hc.1 (F.inj k' ek ▸ hk')
    refine ⟨.ref a,h1,a,C,dx,fs,rfl,h5,g1,g2,by rw [hlen]; omega, ?_⟩
    rw [tU hnew]
    have fr:Fr O H1 O (L2.upd H1 a (.ins C dx (fs++[(c.fld k,v)]))):=⟨fun b u h n=>by rw [aC (by rintro rfl; exact n h2)]; exact h,fun b h=>.inl h,fun b h=>by
     by_cases z:b=a
     ·subst z; rw [bu] at h; cases h
     ·rw [aC z] at h; exact h⟩
    have up:=E1.upd (o:=.ins C dx (fs++[(c.fld k,v)])) (t:=.obj n (ks++[k]) (ds++[d])) hi rfl h1 trivial ⟨a,C,dx,fs++[(c.fld k,v)],rfl,h2,h3,h4,bu,by
     rw [List.map_append,List.map_append,h6]; rfl,by
     rw [List.map_append]
     exact (az.kp (E1.kp fr) h7).append (.cons (Rep.kp (E1.kp fr) r1) .nil)⟩
    exact q σ _ O up.1 ((Fr.same s1).trans up.2)
 ·cases e1
end
theorem dC {i k:Nat}{x nm:Str}{p1 p2:Pos}(F:fC X.K c k)(hn:nm=c.fld k)(n:Nm X i x)(hv:PD X c e f)(hs:mF e=true:=by rfl) :
  PDS X c xq (.Assign [.Attribute (.Name x p1) nm p2] e pos) (fm i k f):=tV F hn n hv (gd hs)
structure oQ (P:Program)(w:World)(K:PySem.W.Frag)(mg:Str→Option Value)(base:Heap)(c:Ct)(m:Str)(n k:Nat)(tab:mI D):Prop where
 ex:∀ j lay F,tab j=some (lay,F)→∃ C f fd ps,c.cl j=some C∧Cls K C∧Meth K C m f∧fR P w K mg base CX0 k f fd ps (spD ⟨K,c.cl,c.fld⟩ (n+1) F)∧Binds K fd ps []∧∀ i∈lay,c.fld i≠m
structure rW (P:Program)(w:World)(K:PySem.W.Frag)(mg:Str→Option Value)(base:Heap)(c:Ct)(m:Str)(n k:Nat)(tab:mI (List D)):Prop where
 ex:∀ j lay F,tab j=some (lay,F)→∃ C f fd ps,c.cl j=some C∧Cls K C∧Meth K C m f∧fR P w K mg base CX0 k f fd ps (spF ⟨K,c.cl,c.fld⟩ (n+1) F)∧Binds K fd ps []∧∀ i∈lay,c.fld i≠m
theorem mJ {m:Str}:∀ {fs:List (Str × V)},m ∉ fs.map (·.1)→fs.lookup m=none
 | [],_=>rfl
 | (g,x)::r,h=>by
  simp only [List.map_cons,List.mem_cons,not_or] at h
  have hb:(m == g)=false:=beq_eq_false_iff_ne.mpr h.1
  rw [List.lookup,hb]; exact mJ h.2
theorem oR {α:Type}{n:Nat}{tab:mI α}{x:D}{as:List D}{d:α}(h:jX n tab x as=some d):∃ cn ks ds F,x=.ob cn ks ds∧tab cn=some (ks,F)∧as.length=n∧F (x::as)=some d:=by
 cases x with
 | ob cn ks ds =>
  simp only [jX] at h
  cases e4:tab cn with
  | none=>rw [e4] at h; cases h
  | some p =>
   rw [e4] at h
   dsimp only [Option.bind_some] at h
   by_cases hc:ks=p.1∧as.length=n
   ·rw [if_pos hc] at h
    exact ⟨cn,ks,ds,p.2,rfl,by rw [e4,hc.1],hc.2,h⟩
   ·rw [if_neg hc] at h; cases h
 | _=>simp [jX] at h
theorem nk {α:Type}{n:Nat}{tab:mI α}{fo:FE}{fa:FA}{env:aN}{d:α}(h:jY n tab fo fa env=some d):∃ x as,fo env=some x∧fa env=some as∧jX n tab x as=some d:=by
 unfold jY at h
 cases e2:fo env with
 | none=>rw [e2] at h; cases h
 | some x =>
  rw [e2] at h
  dsimp only [Option.bind_some] at h
  cases e3:fa env with
  | none=>rw [e3] at h; cases h
  | some as=>rw [e3] at h; exact ⟨x,as,rfl,rfl,h⟩
section
variable {X:Cx}{c:Ct}{xq:XQ}{o e:Expr}{es:List Expr}{f fo:FE}{fa:FA}{pos apos:Pos}{m:Str}
theorem tW {k j:Nat}{tab:mI D}{pl:Sem Bool}(G:oQ X.prog X.w X.K X.mg X.base c m 0 k tab)(hr:el j X.A)(hkj:k≤j)(ho:PD X c o fo)
  (ht:eval (.Call (.Attribute o m apos) [] [] pos) X.env=(do
   let ov ← eval o X.env
   standAt apos.atName
   let (f,first) ← holding [ov] (getMethod ov m pl)
   callWith pos f first (backTo pos (starEach [] X.env)) (backToKw pos (keywordEach [] X.env))):=by rfl) :
  PD X c (.Call (.Attribute o m apos) [] [] pos) (jY 0 tab fo ar):=by
 intro pins s σ H Q I h
 obtain ⟨W,O,env,d,E,e1,q⟩:=h
 obtain ⟨x,as,e2,e3,e4⟩:=nk e1
 obtain ⟨cn,ks,ds,F,rfl,e5,hl,e6⟩:=oR e4
 obtain ⟨C,f,fd,ps,h1,h2,h3,h4,h5,h6⟩:=G.ex cn ks F e5
 cases e3
 refine sP (E:=E0) ho h2 h3 h4 (hr.mono hkj) h5 .nil qz ht pins s σ H Q I ?_
 refine ⟨W,O,env,.ob cn ks ds,E,e2,fun v H1 s1 r1=>?_⟩
 have r2:Rep (tx X c) (Cl W O) H1 (.ob cn ks ds) v:=r1
 have r3:=r2
 simp only [Rep] at r3
 obtain ⟨a,C',dx,fs,rfl,ha',hC,hH,hk,hrr⟩:=r3
 have hC2:c.cl cn=some C':=hC
 rw [h1] at hC2
 cases hC2
 refine ⟨a,dx,fs,rfl,hH,mJ ?_, ?_⟩
 ·rw [hk]
  intro z
  obtain ⟨i,hi,ei⟩:=List.mem_map.mp z
  exact h6 i hi ei
 ·show spD _ _ _ (.ref a::[]) H1 Q E0
  exact ⟨rfl,Cl W O,[.ob cn ks ds],d,fun b nb=>(E.mono s1).lN nb,.cons r2 .nil,e6,fun w H' s3 r5=>q w H' (s1.trans s3) r5⟩
theorem A7 {k j:Nat}{tab:mI (List D)}{pl:Sem Bool}(G:rW X.prog X.w X.K X.mg X.base c m 0 k tab)(hr:el j X.A)(hkj:k≤j)(ho:PD X c o fo)
  (ht:eval (.Call (.Attribute o m apos) [] [] pos) X.env=(do
   let ov ← eval o X.env
   standAt apos.atName
   let (f,first) ← holding [ov] (getMethod ov m pl)
   callWith pos f first (backTo pos (starEach [] X.env)) (backToKw pos (keywordEach [] X.env))):=by rfl) :
  PF X c (.Call (.Attribute o m apos) [] [] pos) (jY 0 tab fo ar):=by
 intro pins s σ H Q I h
 obtain ⟨W,O,env,d,E,e1,q⟩:=h
 obtain ⟨x,as,e2,e3,e4⟩:=nk e1
 obtain ⟨cn,ks,ds,F,rfl,e5,hl,e6⟩:=oR e4
 obtain ⟨C,f,fd,ps,h1,h2,h3,h4,h5,h6⟩:=G.ex cn ks F e5
 cases e3
 refine sP (E:=E0) ho h2 h3 h4 (hr.mono hkj) h5 .nil qz ht pins s σ H Q I ?_
 refine ⟨W,O,env,.ob cn ks ds,E,e2,fun v H1 s1 r1=>?_⟩
 have r2:Rep (tx X c) (Cl W O) H1 (.ob cn ks ds) v:=r1
 have r3:=r2
 simp only [Rep] at r3
 obtain ⟨a,C',dx,fs,rfl,ha',hC,hH,hk,hrr⟩:=r3
 have hC2:c.cl cn=some C':=hC
 rw [h1] at hC2
 cases hC2
 refine ⟨a,dx,fs,rfl,hH,mJ ?_, ?_⟩
 ·rw [hk]
  intro z
  obtain ⟨i,hi,ei⟩:=List.mem_map.mp z
  exact h6 i hi ei
 ·show spF _ _ _ (.ref a::[]) H1 Q E0
  exact ⟨rfl,Cl W O,[.ob cn ks ds],d,fun b nb=>(E.mono s1).lN nb,.cons r2 .nil,e6,fun w H' s3 r5=>q w H' (s1.trans s3) (Kd.an (ρ:=kF (tx X c)) _ _ _ _ _ _ s1 r5)⟩
end
def spI (T:Tx)(n:Nat)(I:IFn):Sp:=fun vs H Q _=>vs.length=n+1∧∃ (A:Addr→Prop) (x:Addr) (us:List V) (C dx:Addr) (k:Nat) (ds:List D) (p:List Nat × List D),vs=.ref x::us∧T.cl k=some C∧H x=some (.ins C dx [])∧¬ A x∧Nw A H∧az T A H ds us∧I k ds=some p ∧
 ∀ (H':Hp) (dx':Addr) (fs:List (Str × V)),(∀ b o,H b=some o→b≠x→H' b=some o)→(∀ b,H' b=none→H b=none)→H' x=some (.ins C dx' fs)→fs.map (·.1)=p.1.map T.fld→az T A H' p.2 (fs.map (·.2))→Q .non H'
structure hJ (P:Program)(w:World)(K:PySem.W.Frag)(mg:Str→Option Value)(base:Heap)(c:Ct)(x:Str)(n k kc:Nat)(I:IFn):Prop where
 ex:∃ C f fd ps,mg x=some (.ref C)∧c.cl kc=some C∧Mk K C f∧fR P w K mg base CX0 k f fd ps (spI ⟨K,c.cl,c.fld⟩ n I)∧Binds K fd ps []
theorem bz.HR {T:Tx}{W:Wf}{O:Addr→Prop}{H H':Hp}{env:aN}{σ:L2.St}(E:bz T W O H env σ){i:Nat}{s t:Slot}{a:Addr}(e:env[i]?=some s)(hs:s.gY=true)(ev:σ[i]?=some (some (.ref a)))
  (keep:∀ b o,H b=some o→b≠a→H' b=some o) (dom:∀ b,H' b=none→H b=none) (hm:Mu (H' a)) (r:jL T W O H' t (some (.ref a))) (hn:∀ dss,t≠.lM dss:=by exact fun _ z=>nomatch z):bz T W O H' (env.set i t) σ∧Fr O H O H':=by
 have oa:O a:=by
  obtain ⟨b,eb,o⟩:=(E.slot i s e).ji hs
  rw [ev] at eb; cases eb; exact o
 have f:Fr O H O H':=⟨fun b u h n=>keep b u h (by rintro rfl; exact n oa),fun b h=>.inl h,dom⟩
 have same:∀ b,O b→b≠a→H' b=H b:=fun b ob hb=>by
  have:=E.mu b ob
  cases eb:H b with
  | none=>rw [eb] at this; exact this.elim
  | some u=>exact keep b u eb hb
 refine ⟨⟨E.fr.trans f,E.new,fun b z=>?_,fun j u e'=>?_,fun j k t' u b e1 e2 o1 o2 s1 s2=>?_,by simp [E.len],fun j k dss u c bs b e1 e2 q hb e3 o3=>?_⟩,f⟩
 ·by_cases h:b=a
  ·subst h; exact hm
  ·rw [same b z h]; exact E.mu b z
 ·rcases set_slot e' with ⟨rfl,rfl,hl⟩ | ⟨h,e'⟩
  ·rw [ev]; exact r
  ·refine (E.slot j u e').kp (E.kp f) (fun _ z=>z) (fun b hs' ev'=>?_) fun dss c bs b eu ev' q hb=>?_
   ·have hb:b≠a:=fun z=>by subst z; exact h (E.inj i j s u b e e' hs hs' ev (join_some ev'))
    obtain ⟨b',eb',ob'⟩:=(E.slot j u e').ji hs'
    rw [ev'] at eb'; cases eb'
    exact same b ob' hb
   ·subst eu
    obtain ⟨ob,_,_⟩:=(E.slot j _ e').inner ev' q hb
    exact same b ob fun w=>E.nu j i dss s c bs b e' (join_some ev') q hb e hs (w ▸ ev)
 ·have old:∀ {j:Nat} {u:Slot},(env.set i t)[j]?=some u→u.gY=true→∃ u',env[j]?=some u'∧u'.gY=true:=fun {j u} e' o'=>by
   rcases set_slot e' with ⟨rfl,rfl,hl⟩ | ⟨h,e'⟩
   ·exact ⟨s,e,hs⟩
   ·exact ⟨u,e',o'⟩
  obtain ⟨t1,h1,h2⟩:=old e1 o1
  obtain ⟨t2,h3,h4⟩:=old e2 o2
  exact E.inj j k t1 t2 b h1 h3 h2 h4 s1 s2
 ·rcases set_slot e1 with ⟨h1,h2,hl⟩ | ⟨h,q1⟩
  ·exact absurd h2.symm (hn dss)
  ·have hca:c≠a:=fun w=>by subst w; exact h (E.inj i j s _ c e q1 hs rfl ev e2)
   obtain ⟨c',ec,oc⟩:=(E.slot j _ q1).ji rfl
   rw [e2] at ec; cases ec
   rw [same c oc hca] at q
   rcases set_slot e3 with ⟨rfl,rfl,hl⟩ | ⟨h',q2⟩
   ·exact E.nu j i dss s c bs b q1 e2 q hb e hs
   ·exact E.nu j k dss u c bs b q1 e2 q hb q2 o3
section
variable {X:Cx}{c:Ct}{xq:XQ}{o e:Expr}{es:List Expr}{f fo:FE}{fa:FA}{pos apos:Pos}{m:Str}
theorem Cf {T:Tx}{C:Addr}{n kc:Nat}{I:IFn}{σ:L2.St}{H:Hp}{Q:VK}(hC:T.cl kc=some C)(h:tP T (kD T) (gU kc n I fa) σ H Q):D8 C (spI T n I) [] E0 (tP T (kA T) fa) σ H Q:=by
 obtain ⟨W,O,env,d,E,e1,q⟩:=h
 unfold gU at e1
 cases e2:fa env with
 | none=>rw [e2] at e1; cases e1
 | some as =>
  rw [e2] at e1
  dsimp only [Option.bind_some] at e1
  by_cases hl:as.length=n
  ·rw [if_pos hl] at e1
   cases e3:I kc as with
   | none=>rw [e3] at e1; cases e1
   | some p =>
    rw [e3] at e1; cases e1
    refine ⟨W,O,env,as,E,e2,fun vs H1 s1 r1=>?_⟩
    intro x dx hx hdx hne
    have hsame:aG H1 (upd (upd H1 dx (.own x)) x (.ins C dx [])):=fun b u hb=>by
     rw [aC (dk hb hx),aC (dk hb hdx)]; exact hb
    have E1:=E.mono s1
    refine ⟨?_,fun b=>Cl W O b∧b≠x,x,vs,C,dx,kc,as,p, ?_,hC,bu,fun z=>z.2 rfl,fun b hb=>?_, ?_,e3, ?_⟩
    ·rw [List.length_cons,List.length_append,List.length_nil, ← az.length r1,hl]
    ·rw [List.append_nil]
    ·have hbx:b≠x:=fun z=>by subst z; rw [bu] at hb; cases hb
     rw [aC hbx] at hb
     have hbd:b≠dx:=fun z=>by subst z; rw [bu] at hb; cases hb
     rw [aC hbd] at hb
     exact ⟨E1.lN hb,hbx⟩
    ·exact az.kp (Kp.same hsame fun b u z hb=>⟨z,dk hb hx⟩) r1
    ·intro H' dx' fs kp dm hx' hn hr
     refine ⟨rfl,q (.ref x) H' (fun b u hb=>?_) ?_⟩
     ·have hb1:=s1 b u hb
      exact kp b u (hsame b u hb1) (dk hb1 hx)
     ·show Rep T (Cl W O) H' (.ob kc p.1 p.2) (.ref x)
      simp only [Rep]
      exact ⟨x,C,dx',fs,rfl,E1.lN hx,hC,hx',hn,hr.mono (aG.refl _) fun _ z=>z.1⟩
  ·rw [if_neg hl] at e1; cases e1
theorem iM {n k j kc:Nat}{I:IFn}{x:Str}{p:Pos}(G:hJ X.prog X.w X.K X.mg X.base c x n k kc I)(hr:el j X.A)(hkj:k+1≤j)(hg:Gl X x)(ha:PDA X c (e::es) fa)
  (hdb:(x == ("__debug__":Str))=false:=by decide) (he:isStar e=false:=by rfl) (hpl:fJ es=true:=by rfl):PD X c (.Call (.Name x p) (e::es) [] pos) (gU kc n I fa):=by
 obtain ⟨C,f,fd,ps,h1,h2,h3,h4,h5⟩:=G.ex
 exact PE.imp (AY (E:=E0) h3 h4 (hr.mono hkj) hg h1 h5 .nil qz ha hdb (aT he) (eX hpl)) fun _ _ _ h=>Cf (T:=tx X c) h2 h
structure qR (K:PySem.W.Frag)(C:Addr)(m:Str)(f:Addr):Prop where
 sp:PySem.W.specialIn K (.ref C) "__getattribute__"=some (some (.builtin "type.__getattribute__"))
 ex:∃ mc,PySem.W.readsIn K C mc=true∧PySem.W.findCls K (.ref C) mc m=some (.val (.ref f))
 hd:PySem.W.handedIn (.ref f)=true
 kp:PySem.W.keepIn K (.ref f)=true
structure m5 (P:Program)(w:World)(K:PySem.W.Frag)(mg:Str→Option Value)(base:Heap)(c:Ct)(x:Str)(n k:Nat)(I:IFn):Prop where
 ex:∃ C f fd ps,mg x=some (.ref C)∧qR K C "__init__" f∧fR P w K mg base CX0 k f fd ps (spI ⟨K,c.cl,c.fld⟩ n I)∧Binds K fd ps []
theorem oS {C f:Addr}{fd:FuncData}{ps:List Str}{sp:Sp}{k:Nat}{x:Str}{p:Pos}{pl:Sem Bool}{t:TA}(cf:qR X.K C m f)(F:fR X.prog X.w X.K X.mg X.base CX0 k f fd ps sp)(hr:el k X.A)(hg:Gl X x)(hm:X.mg x=some (.ref C))(hb:Binds X.K fd ps [])
  (ha:PA X (e::es) t) (hst:starEach (e::es) X.env=(false,eval e X.env)::starEach es X.env) (hpl:(backTo pos (starEach es X.env)).any (·.1)=false) (hdb:(x == ("__debug__":Str))=false:=by decide)
  (ht:eval (.Call (.Attribute (.Name x p) m apos) (e::es) [] pos) X.env=(do
   let ov ← eval (.Name x p) X.env
   standAt apos.atName
   let (f,first) ← holding [ov] (getMethod ov m pl)
   callWith pos f first (backTo pos (starEach (e::es) X.env)) (backToKw pos (keywordEach [] X.env))):=by rfl) :
  PE X (.Call (.Attribute (.Name x p) m apos) (e::es) [] pos) (vN sp [] E0 t):=by
 intro pins s σ H Q I h
 obtain ⟨mc,h1,h2⟩:=cf.ex
 refine PySem.W.methodCall_KW (pl:=pl) (nN I hg hm ?_ hdb) ht
 refine PySem.W.method_cls I.kIn cf.sp (PySem.W.cls_value I.kIn h1 h2 cf.hd ?_)
 have I1:=I.tok (s.toks+1)
 refine PySem.W.callWith_K (first:=[]) (h₀:=X.base) I.ok.mod.kin cf.kp (bC (ha pos pins _ σ H _ I1 h) fun us s2 vs H2 I2 r q2=>⟨I2.kIn, ?_⟩) hst hpl
 exact uV F hr hb .nil qz I2 r q2
theorem j7 {n k j i:Nat}{I:IFn}{x y:Str}{p p2 p3:Pos}{pl:Sem Bool}(G:m5 X.prog X.w X.K X.mg X.base c x n k I)(hr:el j X.A)(hkj:k≤j)(hg:Gl X x)(nm:Nm X i y)(ha:PDA X c es fa)
  (hpl:fJ es=true:=by rfl) (hdb:(x == ("__debug__":Str))=false:=by decide)
  (ht:eval (.Call (.Attribute (.Name x p) "__init__" apos) (.Name y p2::es) [] p3) X.env=(do
   let ov ← eval (.Name x p) X.env
   standAt apos.atName
   let (f,first) ← holding [ov] (getMethod ov "__init__" pl)
   callWith p3 f first (backTo p3 (starEach (.Name y p2::es) X.env)) (backToKw p3 (keywordEach [] X.env))):=by rfl) :
  PDS X c xq (.Expr (.Call (.Attribute (.Name x p) "__init__" apos) (.Name y p2::es) [] p3) pos) (j0 i n I fa):=by
 obtain ⟨C,f,fd,ps,h1,h2,h4,h5⟩:=G.ex
 refine PS.imp (lI (oS h2 h4 (hr.mono hkj) hg h1 h5 (jg (iW nm.hN nm.hv nm.hd nm.hc) ha (aT rfl)) (aT rfl) (eX hpl) hdb ht) (gd rfl)) fun De σ H h=>?_
 obtain ⟨W,O,env,fl,E,e1,q⟩:=h
 unfold j0 at e1
 split at e1
 ·next cn hi =>
  cases e2:fa env with
  | none=>rw [e2] at e1; cases e1
  | some as =>
   rw [e2] at e1
   dsimp only [Option.bind_some] at e1
   by_cases hl:as.length=n
   ·rw [if_pos hl] at e1
    cases e3:I cn as with
    | none=>rw [e3] at e1; cases e1
    | some pr =>
     rw [e3] at e1; cases e1
     obtain ⟨a,C',dx,fs,g1,g2,g3,g4,g5,g6,g7⟩:=E.obj hi
     have hfs:fs=[]:=by simpa using g6
     subst hfs
     refine ⟨.ref a,g1,W,O,env,as,E,e2,fun vs H1 s1 r1=>?_⟩
     have E1:=E.mono s1
     refine ⟨?_,Cl W O,a,vs,C',dx,cn,as,pr, ?_,g4,s1 a _ g5,fun z=>z.2 g2,fun b hb=>E1.lN hb,r1,e3, ?_⟩
     ·rw [List.length_append,List.length_cons,List.length_nil, ← az.length r1,hl]
     ·rw [List.append_nil]
     ·intro H' dx' fs' kp dm hx' hn hr'
      have up:=E1.HR (t:=.obj cn pr.1 pr.2) hi rfl g1 kp dm (by rw [hx']; trivial) ⟨a,C',dx',fs',rfl,g2,g3,g4,hx',hn,hr'⟩
      exact q σ H' O up.1 ((Fr.same s1).trans up.2)
   ·rw [if_neg hl] at e1; cases e1
 ·cases e1
end
theorem ya {T:Tx}{N n:Nat}{F:FS}{vs:List V}{H:Hp}{Q:VK}{E0:XK}(h:spI T n (iB N F) vs H Q E0):tDs T (fun _ _ _=>False) F { nx:=fun _ H'=>Q .non H',rt:=Q } (vs.map some++List.replicate (N+1 - vs.length) none) H:=by
 obtain ⟨hn,A,x,us,C,dx,k,ds,p,rfl,hC,hx,hA,nw,r,e,q⟩:=h
 unfold iB at e
 cases e1:F (.obj k [] []::envOf N ds) with
 | none=>rw [e1] at e; cases e
 | some fl =>
  rw [e1] at e
  have B:=jj (n:=N) nw r
  have es:(V.ref x::us).map some++List.replicate (N+1 - (V.ref x::us).length) none=some (.ref x)::(us.map some++List.replicate (N - us.length) none):=by
   rw [List.map_cons,List.cons_append,List.length_cons,Nat.add_sub_add_right]
  rw [es]
  have nown:∀ (j:Nat) (s:Slot),(envOf N ds)[j]?=some s→s.gY=false:=fun j s ej=>by
   unfold envOf at ej
   by_cases hj:j<ds.length
   ·rw [List.getElem?_append_left (by simpa using hj),List.getElem?_map] at ej
    cases e2:ds[j]? with
    | none=>rw [e2] at ej; cases ej
    | some d=>rw [e2] at ej; cases ej; rfl
   ·rw [List.getElem?_append_right (by simpa using hj),List.getElem?_replicate] at ej
    split at ej
    ·cases ej; rfl
    ·cases ej
  have start:bz T ⟨A,H,fun b=>b=x⟩ (fun b=>b=x) H (.obj k [] []::envOf N ds) (some (.ref x)::(us.map some++List.replicate (N - us.length) none)):=by
   refine ⟨Fr.refl _ _,nw,fun a z=>by rw [z,hx]; trivial,fun j s ej=>?_,fun j l s t a e1 e2 o1 o2 _ _=>?_, ?_,fun j l dss t a bs b e1 _ _ _ _ _=>?_⟩
   ·cases j with
    | zero =>
     cases ej
     exact ⟨x,C,dx,[],rfl,rfl,(by show H x≠none; rw [hx]; simp),hC,hx,rfl,.nil⟩
    | succ j =>
     have ej':(envOf N ds)[j]?=some s:=by simpa using ej
     have hs:=B.slot j s ej'
     rw [List.getElem?_cons_succ]
     cases s with
     | no=>trivial
     | val d=>obtain ⟨u,eu,ru⟩:=hs; exact ⟨u,eu,ru.mono (aG.refl _) fun b z=>⟨z.1,fun w=>hA (w ▸ z.1)⟩⟩
     | own _=>have:=nown j _ ej'; cases this
     | obj _ _ _=>have:=nown j _ ej'; cases this
     | red _ =>
      unfold envOf at ej'
      by_cases hj:j<ds.length
      ·rw [List.getElem?_append_left (by simpa using hj),List.getElem?_map] at ej'
       cases e2:ds[j]? with
       | none=>rw [e2] at ej'; cases ej'
       | some d=>rw [e2] at ej'; cases ej'
      ·rw [List.getElem?_append_right (by simpa using hj),List.getElem?_replicate] at ej'
       split at ej' <;> cases ej'
     | xu _ =>
      unfold envOf at ej'
      by_cases hj:j<ds.length
      ·rw [List.getElem?_append_left (by simpa using hj),List.getElem?_map] at ej'
       cases e2:ds[j]? with
       | none=>rw [e2] at ej'; cases ej'
       | some d=>rw [e2] at ej'; cases ej'
      ·rw [List.getElem?_append_right (by simpa using hj),List.getElem?_replicate] at ej'
       split at ej' <;> cases ej'
     | lM _=>have:=nown j _ ej'; cases this
     | uZ _=>have:=nown j _ ej'; cases this
   ·cases j with
    | succ j=>have:=nown j s (by simpa using e1); rw [o1] at this; cases this
    | zero=>cases l with
     | succ l=>have:=nown l t (by simpa using e2); rw [o2] at this; cases this
     | zero=>rfl
   ·rw [List.length_cons,List.length_cons,B.len]
   ·cases j with
    | zero=>cases e1
    | succ j=>have:=nown j _ (by simpa using e1); cases this
  refine ⟨⟨A,H,fun b=>b=x⟩,fun b=>b=x,.obj k [] []::envOf N ds,fl,start,e1, ?_⟩
  cases fl with
  | nx env' =>
   intro σ' H' O' E' g
   dsimp only [Option.bind_some] at e
   split at e
   ·next k' ks es' h0 =>
    by_cases hk:k'=k
    ·rw [if_pos hk] at e; cases e
     subst hk
     obtain ⟨a,C',dx',fs,g1,g2,g3,g4,g5,g6,g7⟩:=E'.obj h0
     have ha:a=x:=by
      rcases g.more a g2 with z | z
      ·exact z
      ·exact absurd z g3
     subst ha
     rw [hC] at g4; cases g4
     exact q H' dx' fs (fun b o hb hne=>g.keep b o hb hne) g.dom g5 g6 (g7.mono (aG.refl _) fun _ z=>z.1)
    ·rw [if_neg hk] at e; cases e
   ·cases e
  | rt _ _=>cases e
  | rf _ _=>cases e
  | bk _=>cases e
  | ct _=>cases e
  | ex _ _=>cases e
section
variable {P:Program}{w:World}{K:PySem.W.Frag}{mg:Str→Option Value}{base:Heap}{c:Ct}
theorem wz {x qual:Str}{st:Stmt}{fa:Addr}{fd:FuncData}{y:Str}{N ps:List Str}{k:Nat}{F:FS}(Fn:Fun K x qual st fa fd)(S:aB (y::N) (y::ps) (ag st))
  (body:BodyOk P w K mg base c (y::N) st k F):fR P w K mg base CX0 (k+1) fa fd (y::ps) (spI ⟨K,c.cl,c.fld⟩ ps.length (iB N.length F)):=by
 refine Fn.ok S (fun vs H Q E h=>h.1) fun cdv A outer s H vs Q E hr h=>⟨_,body.ok _ rfl rfl rfl rfl rfl ⟨⟨rfl,rfl,rfl,S.nd⟩,fun _=>rfl,PassesOwn.never⟩ hr, ?_⟩
 exact ya (E0:=E) h
end
end DL
end
section
namespace DL
open L2
def iC (as bs:List D):List D:=(as.zip bs).map fun p=>.tup [p.1,p.2]
def tX:List D→Option (List D)
 | [.lst xs,.lst ys]=>some (iC xs ys)
 | _=>none
def mK (zf:List D→Option (List D))(tg:FG)(fa:FA)(body:FS):FS:=fun env=>(fa env).bind fun as=>(zf as).bind fun ds=>runFor tg body ds env
theorem tY (bs:List D):iC [] bs=[]:=rfl
theorem qS (a b:D)(as bs:List D):iC (a::as) (b::bs)=.tup [a,b]::iC as bs:=rfl
theorem oT (as bs:List D):(iC as bs).length=min as.length bs.length:=by unfold iC; simp
theorem A8 {as bs:List D}{j:Nat}{a b:D}(h1:as[j]?=some a)(h2:bs[j]?=some b):(iC as bs)[j]?=some (.tup [a,b]):=by
 unfold iC
 rw [List.getElem?_map,List.getElem?_zip_eq_some.mpr (show as[j]?=some (a,b).1∧bs[j]?=some (a,b).2 from ⟨h1,h2⟩)]; rfl
@[simp] theorem J4 (xs ys:List D):tX [.lst xs,.lst ys]=some (iC xs ys):=zEr
@[simp] theorem Gr (zf:List D→Option (List D))(tg:FG)(fa:FA)(body:FS)(env:aN):mK zf tg fa body env=aI (fa env) (fun as=>aI (zf as) fun ds=>runFor tg body ds env):=zEr
@[simp] theorem J5 (k c:Nat)(ks:List Nat)(ds:List D):bx k (.ob c ks ds)=oO k ks ds:=zEr
@[simp] theorem J6 (k k':Nat)(ks:List Nat)(d:D)(ds:List D):oO k (k'::ks) (d::ds)=if k'=k then some d else oO k ks ds:=zEr
@[simp] theorem oU {α:Type}(n:Nat)(tab:mI α)(c:Nat)(ks:List Nat)(ds as:List D):jX n tab (.ob c ks ds) as=aI (tab c) fun p=>if ks=p.1∧as.length=n then p.2 (.ob c ks ds::as) else none:=zEr
@[simp] theorem Gs {α:Type}(n:Nat)(tab:mI α)(fo:FE)(fa:FA)(env:aN):jY n tab fo fa env=aI (fo env) fun d=>aI (fa env) fun as=>jX n tab d as:=zEr
@[simp] theorem Gu (k n:Nat)(I:IFn)(fa:FA)(env:aN):gU k n I fa env=aI (fa env) fun as=>if as.length=n then omap (fun p:List Nat × List D=>.ob k p.1 p.2) (I k as) else none:=zEr
def gg:Option Slot→Option (Nat × List Nat × List D)
 | some (.obj c ks ds)=>some (c,ks,ds)
 | _=>none
@[simp] theorem yb (c:Nat)(ks:List Nat)(ds:List D):gg (some (.obj c ks ds))=some (c,ks,ds):=zEr
@[simp] theorem HS (i k:Nat)(f:FE)(env:aN):fm i k f env=aI (gg env[i]?) fun p=>if k∈p.2.1∨100≤p.2.1.length then none else omap (fun d=>.nx (env.set i (.obj p.1 (p.2.1++[k]) (p.2.2++[d])))) (f env):=by
 unfold fm gg
 cases h:env[i]? with
 | none=>rfl
 | some s=>cases s <;> rfl
@[simp] theorem Gv (i n:Nat)(I:IFn)(fa:FA)(env:aN):j0 i n I fa env=aI (gg env[i]?) fun p=>if p.2.1=[]∧p.2.2=[] then aI (fa env) fun as=>if as.length=n then omap (fun r:List Nat × List D=>.nx (env.set i (.obj p.1 r.1 r.2))) (I p.1 as) else none else none:=by
 unfold j0 gg
 cases h:env[i]? with
 | none=>rfl
 | some s =>
  cases s with
  | obj c ks ds =>
   cases ks with
   | nil=>cases ds <;> rfl
   | cons a b=>rfl
  | no=>rfl
  | val d=>rfl
  | own d=>rfl
  | red d=>rfl
  | lM d=>rfl
  | xu d=>rfl
  | uZ d=>rfl
def yc (k:Nat):DFl→Option (List Nat × List D)
 | .nx env'=>aI (gg env'[0]?) fun p=>if p.1=k then some (p.2.1,p.2.2) else none
 | _=>none
@[simp] theorem Cg (k:Nat)(env':aN):yc k (.nx env')=aI (gg env'[0]?) fun p=>if p.1=k then some (p.2.1,p.2.2) else none:=zEr
theorem eJ (N:Nat)(F:FS)(k:Nat)(ds:List D):iB N F k ds=aI (F (.obj k [] []::envOf N ds)) (yc k):=by
 unfold iB yc
 cases h:F (.obj k [] []::envOf N ds) with
 | none=>rfl
 | some r =>
  cases r with
  | nx env' =>
   show (match (env'[0]?:Option Slot) with
    | some (.obj k' ks es)=>if k'=k then some (ks,es) else none
    | _=>none)=_
   cases h2:env'[0]? with
   | none=>show none=aI (gg env'[0]?) _; rw [h2]; rfl
   | some s =>
    cases s with
    | obj c ks es=>show _=aI (gg env'[0]?) _; rw [h2]; rfl
    | no=>show none=aI (gg env'[0]?) _; rw [h2]; rfl
    | val d=>show none=aI (gg env'[0]?) _; rw [h2]; rfl
    | own d=>show none=aI (gg env'[0]?) _; rw [h2]; rfl
    | red d=>show none=aI (gg env'[0]?) _; rw [h2]; rfl
    | lM d=>show none=aI (gg env'[0]?) _; rw [h2]; rfl
    | xu d=>show none=aI (gg env'[0]?) _; rw [h2]; rfl
    | uZ d=>show none=aI (gg env'[0]?) _; rw [h2]; rfl
  | _=>rfl
end DL
end
section
namespace L2
open PySem PySem.Spec PyProof.Rows
section
variable {X:Cx}{pins:List (Addr × Obj)}{σ:List (Option V)}{H H':Hp}{s:Shared}{h':Heap}
theorem Inv.Ci {t':Nat}{fp:List Addr}{p:Addr}{vs:List V}(I:Inv X pins σ H s)(k:∀ b o,b ∉ fp→s.heap.get? b=some o→h'.get? b=some o)(hf:∀ b∈fp,kH X pins H b)(fq:kH X pins H p)
  (hp:s.heap.get? p=none) (new:eG X.prog X.w (upd H p (.tup vs)) h' p (.tup vs)):Inv X pins σ (upd H p (.tup vs)) { s with heap:=h',toks:=t' }:=by
 have ne:∀ b u,H b=some u→b ∉ fp:=fun b u q z=>by rw [(hf b z).1] at q; cases q
 have np:∀ b u,H b=some u→b≠p:=fun b u q z=>by rw [z,fq.1] at q; cases q
 have kk:∀ b o,b ∉ p::fp→s.heap.get? b=some o→h'.get? b=some o:=fun b o hb q=>k b o (fun z=>hb (List.mem_cons_of_mem _ z)) q
 refine I.step (g':=s.gens) (d':=s.drawn) (ch:=p::fp) (fun b hb=>?_) (fun b o _ _ hc q _=>kk b o hc q) (fun b o _ _ hc q _=>⟨o.slots,kk b o hc q⟩) (fun b _ hc _ n=>by rw [aC (fun z=>hc (by simp [z]))]; exact n)
  (fun b o hc q=>⟨o,kk b o hc q⟩) (fun b xs q=>by rw [aC (np b _ q)]; exact q) (fun b _ _ q=>by rw [aC (np b _ q)]; exact q) (fun b ps q=>⟨#[],by rw [aC (np b _ q),q]; simp⟩) (fun m hm=>?_) (fun b u q=>?_) I.bare
 ·rcases List.mem_cons.mp hb with rfl | hb
  ·exact ⟨fq.2.2.2.1,fq.2.1,fq.2.2.2.2.1,fq.2.2.2.2.2⟩
  ·have fe:=hf b hb; exact ⟨fe.2.2.2.1,fe.2.1,fe.2.2.2.2.1,fe.2.2.2.2.2⟩
 ·obtain ⟨o,es,ep,ho,r⟩:=hm
  exact ⟨o,es,ep,k _ o (fun z=>(hf _ z).2.1 rfl) ho,r⟩
 ·by_cases hb:b=p
  ·subst hb; rw [bu] at q; cases q; exact new
  ·rw [aC hb] at q
   refine (I.hok b u q).nV (fun c v hc z=>k c v ?_ z) (fun c z=>by rw [aC (np c _ z)]; exact z) fun c xs z=>by rw [aC (np c _ z)]; exact z
   rcases hc with z | z
   ·rw [z]; exact ne b u q
   ·exact ne c _ z
theorem Inv.Cj {t':Nat}{fp:List Addr}(I:Inv X pins σ H s)(k:∀ b o,b ∉ fp→s.heap.get? b=some o→h'.get? b=some o)(hf:∀ b∈fp,kH X pins H b):Inv X pins σ H { s with heap:=h',toks:=t' }:=by
 have ne:∀ b u,H b=some u→b ∉ fp:=fun b u q z=>by rw [(hf b z).1] at q; cases q
 refine I.step (g':=s.gens) (d':=s.drawn) (ch:=fp) (fun b hb=>?_) (fun b o _ _ hc e _=>k b o hc e) (fun b o _ _ hc e _=>⟨o.slots,k b o hc e⟩) (fun _ _ _ _ n=>n)
  (fun b o hc e=>⟨o,k b o hc e⟩) (fun _ _ e=>e) (fun _ _ _ e=>e) (fun b ps e=>⟨#[],by rw [e]; simp⟩) (fun m hm=>?_) (fun b u e=>?_) I.bare
 ·have fe:=hf b hb; exact ⟨fe.2.2.2.1,fe.2.1,fe.2.2.2.2.1,fe.2.2.2.2.2⟩
 ·obtain ⟨o,es,ep,ho,r⟩:=hm
  exact ⟨o,es,ep,k _ o (fun z=>(hf _ z).2.1 rfl) ho,r⟩
 ·refine (I.hok b u e).nV (fun c v hc q=>k c v ?_ q) (fun _ q=>q) fun _ _ q=>q
  rcases hc with z | z
  ·rw [z]; exact ne b u e
  ·exact ne c _ z
end
def Itz (K:PySem.W.Frag)(l1 l2:Addr):It :=
 ⟨fun i H=>∃ xs ys x y,SqL K H l1 xs∧SqL K H l2 ys∧xs[i]?=some x∧ys[i]?=some y,
  fun i H v H'=>∃ p x y,H p=none∧v=.ref p∧H'=upd H p (.tup [x,y])∧(∀ xs,SqL K H l1 xs→xs[i]?=some x)∧∀ ys,SqL K H l2 ys→ys[i]?=some y,
  fun i H=>∃ xs ys,SqL K H l1 xs∧SqL K H l2 ys∧(xs.length≤i∨ys.length≤i)⟩
structure vy (z TI TO i1 i2:Addr):Prop where
 TIz:TI≠z
 TOz:TO≠z
 i1z:i1≠z
 i2z:i2≠z
 TITO:TI≠TO
 TIi1:TI≠i1
 TIi2:TI≠i2
 TOi1:TO≠i1
 TOi2:TO≠i2
 i12:i1≠i2
theorem vy.all {h:Heap}{z TI TO i1 i2 l1 l2:Addr}{xs ys:Array Value}{a b:Value}{k1 k2:Nat}{f0:Value}(D:vy z TI TO i1 i2)(hz:IsZip h z TI TO f0)(hTO:IsPair h TO a b)(h1:h.IsListIter i1 l1 k1)(h2:h.IsListIter i2 l2 k2)(p1:h.IsList l1 xs)(p2:h.IsList l2 ys):ZipApart z TI TO i1 i2 l1 l2:=by
 obtain ⟨o1,e1,c1,_⟩:=p1
 obtain ⟨o2,e2,c2,_⟩:=p2
 obtain ⟨q1,f1,d1,_⟩:=h1
 obtain ⟨q2,f2,d2,_⟩:=h2
 refine ⟨D.TIz,D.TOz,D.i1z,D.i2z,D.TITO,D.TIi1,D.TIi2,D.TOi1,D.TOi2,D.i12, ?_, ?_, ?_, ?_, ?_, ?_, ?_, ?_⟩
 ·rintro rfl; have:=e1.symm.trans hz; cases this; simp at c1
 ·rintro rfl; have:=e1.symm.trans hTO; cases this; simp at c1
 ·rintro rfl; rw [e1] at f1; cases f1; rw [c1] at d1; simp at d1
 ·rintro rfl; rw [e1] at f2; cases f2; rw [c1] at d2; simp at d2
 ·rintro rfl; have:=e2.symm.trans hz; cases this; simp at c2
 ·rintro rfl; have:=e2.symm.trans hTO; cases this; simp at c2
 ·rintro rfl; rw [e2] at f1; cases f1; rw [c2] at d1; simp at d1
 ·rintro rfl; rw [e2] at f2; cases f2; rw [c2] at d2; simp at d2
theorem A9 {P:Program}{w:World}{K:PySem.W.Frag}{ts:List Expr}{tk:Nat}{tp:Pos}(l1 l2 z TI TO i1 i2:Addr)(D:vy z TI TO i1 i2):Turn P w K (.Tuple ts tk tp) (Itz K l1 l2) [z,TI,TO,i1,i2] z
  (fun i h=>IsZip h z TI TO .none∧IsPair h TI (.ref i1) (.ref i2)∧(∃ a b,IsPair h TO a b)∧h.IsListIter i1 l1 i∧h.IsListIter i2 l2 i) where
 mem:=by simp
 obj:=fun i h st b hb=>by
  obtain ⟨hz,hTI,⟨a,c,hTO⟩,⟨o1,e1,c1,d1⟩,⟨o2,e2,c2,d2⟩⟩:=st
  have:b=z∨b=TI∨b=TO∨b=i1∨b=i2:=by simpa using hb
  rcases this with rfl | rfl | rfl | rfl | rfl
  ·exact ⟨_,hz,fun v q=>by cases q⟩
  ·exact ⟨_,hTI,fun v q=>by cases q⟩
  ·exact ⟨_,hTO,fun v q=>by cases q⟩
  ·exact ⟨o1,e1,fun v q=>by rw [d1] at q; cases q⟩
  ·exact ⟨o2,e2,fun v q=>by rw [d2] at q; cases q⟩
 keep:=fun i h h' st k=>by
  obtain ⟨hz,hTI,⟨a,c,hTO⟩,h1,h2⟩:=st
  exact ⟨k z (by simp) _ hz,k TI (by simp) _ hTI,⟨a,c,k TO (by simp) _ hTO⟩,h1.at fun o q=>k i1 (by simp) o q,h2.at fun o q=>k i2 (by simp) o q⟩
 item:=by
  intro X hP hw hK hc i pins s σ H E I hf st hg
  subst hP hw hK
  obtain ⟨hz,hTI,⟨a,c,hTO⟩,h1,h2⟩:=st
  obtain ⟨xs,ys,x,y,hq1,hq2,hx,hy⟩:=hg
  obtain ⟨its1,rv1,p1,hz1⟩:=I.list hq1
  obtain ⟨its2,rv2,p2,hz2⟩:=I.list hq2
  obtain ⟨u,hu,ru⟩:=rv1.get hx
  obtain ⟨v,hv,rv⟩:=rv2.get hy
  have DD:=D.all hz hTO h1 h2 p1.isList p2.isList
  refine wpAny_pyNext_zip_item DD hz hTI hTO h1 h2 p1.isList p2.isList (x:=u) (y:=v) (by simpa using hu) (by simpa using hv) fun h₁ hzo hTO₁ h1₁ h2₁ hT₁ hsz₁ hk₁=>?_
  refine ⟨_,rfl,wpAny_letOwnedTupleGo_zip hzo fun h₂ hz₂ hs₂=>?_⟩
  have hzlt:z<s.heap.objs.size:=Heap.lt_size hz
  have keep:∀ b o,b ∉ [z,TI,TO,i1,i2]→s.heap.get? b=some o→h₂.get? b=some o:=fun b o hb q=>by
   have n1:b≠z:=fun e=>hb (by simp [e])
   have n2:b≠TO:=fun e=>hb (by simp [e])
   have n3:b≠i1:=fun e=>hb (by simp [e])
   have n4:b≠i2:=fun e=>hb (by simp [e])
   exact (hs₂.2 b n1).trans (hk₁ b o n1 n2 n3 n4 q)
  have htup:IsTup h₂ s.heap.objs.size #[u,v]:=⟨_,(hs₂.2 _ (Nat.ne_of_gt hzlt)).trans hT₁,rfl,_,rfl⟩
  have fp:=I.rj (Nat.le_refl _) (I.hok.fresh (Nat.le_refl _))
  have lt:∀ b∈[z,TI,TO,i1,i2],b<s.heap.objs.size:=fun b hb=>by
   have:b=z∨b=TI∨b=TO∨b=i1∨b=i2:=by simpa using hb
   rcases this with rfl | rfl | rfl | rfl | rfl
   ·exact hzlt
   ·exact Heap.lt_size hTI
   ·exact Heap.lt_size hTO
   ·obtain ⟨o,ho,_⟩:=h1; exact Heap.lt_size ho
   ·obtain ⟨o,ho,_⟩:=h2; exact Heap.lt_size ho
  refine ⟨.ref s.heap.objs.size,upd H s.heap.objs.size (.tup [x,y]), ?_,rfl,⟨_,x,y,I.hok.fresh (Nat.le_refl _),rfl,rfl,fun zs hzs=>by rw [I.jH hzs hq1]; exact hx,fun zs hzs=>by rw [I.jH hzs hq2]; exact hy⟩, ?_,fun b hb=>?_⟩
  ·exact I.Ci (t':=s.toks) keep hf fp (Heap.get?_none_of_le (Nat.le_refl _)) ⟨(show (2:Nat)≤sizeLine by decide),[u,v],.cons ru (.cons rv .nil),htup⟩
  ·refine ⟨hz₂,(hs₂.2 TI D.TIz).trans (hk₁ TI _ D.TIz D.TITO D.TIi1 D.TIi2 hTI),⟨u,v,(hs₂.2 TO D.TOz).trans hTO₁⟩,h1₁.at fun o q=>(hs₂.2 i1 D.i1z).trans q,h2₁.at fun o q=>(hs₂.2 i2 D.i2z).trans q⟩
  ·rw [aC (Nat.ne_of_lt (lt b hb))]; exact (hf b hb).1
 done:=by
  intro X hP hw hK hc i pins s σ H E I hf st hg
  subst hP hw hK
  obtain ⟨hz,hTI,⟨a,c,hTO⟩,h1,h2⟩:=st
  obtain ⟨xs,ys,hq1,hq2,hx⟩:=hg
  obtain ⟨its1,rv1,p1,hz1⟩:=I.list hq1
  obtain ⟨its2,rv2,p2,hz2⟩:=I.list hq2
  have hl1:=rv1.length
  have hl2:=rv2.length
  have DD:=D.all hz hTO h1 h2 p1.isList p2.isList
  refine wpAny_pyNext_zip_end (I.ok.hd hc) DD hz hTI hTO h1 h2 p1.isList p2.isList ?_ fun h' hk=>⟨rfl,I.Cj (t':=s.toks) (fun b o hb q=>?_) hf⟩
  ·rcases hx with hx | hx
   ·exact .inl (by simp; omega)
   ·exact .inr (by simp; omega)
  ·exact hk b o (fun e=>hb (by simp [e])) (fun e=>hb (by simp [e])) (fun e=>hb (by simp [e])) (fun e=>hb (by simp [e])) q
 self:=fun _ _ _ _ _ st h=>wpAny_pyIter_zip st.1 h
def HU (K:PySem.W.Frag)(ta:TA):TI:=fun σ H R=>ta σ H fun vs H1=>∃ a b,vs=[.ref a,.ref b]∧(∃ xs,SqL K H1 a xs)∧(∃ xs,SqL K H1 b xs)∧R (Itz K a b) H1
theorem FK {X:Cx}{a b:Expr}{ta:TA}{p pos:Pos}{ts:List Expr}{tk:Nat}{tp:Pos}(hg:Gl X "zip")(hm:X.mg "zip"=none)(ha:PA X [a,b] ta)(hs:DL.isStar a=false)(hs2:DL.fJ [b]=true) :
  PI X (.Tuple ts tk tp) (.Call (.Name "zip" p) [a,b] [] pos) (HU X.K ta):=by
 intro pins s σ H R I h
 refine Call_ (je I hg hm boot_zip (PyProof.Rows.callWith_type1 (bC (ha pos pins s σ H _ I h) fun us s1 vs H1 I1 r1 q1=>?_) (DL.aT hs) (DL.eX hs2)))
 obtain ⟨l1,l2,e,⟨xs,hq1⟩,⟨ys,hq2⟩,q⟩:=q1
 subst e
 cases r1 with
 | cons r rr =>
  cases rr with
  | cons r2 rr2 =>
  cases rr2
  cases r
  cases r2
  obtain ⟨its1,rv1,p1,hz1⟩:=I1.list hq1
  obtain ⟨its2,rv2,p2,hz2⟩:=I1.list hq2
  refine call_zip_2 p1.isList p2.isList fun h' hz hTI hTO h1 h2 hsz hk=>?_
  refine wpAny_pyIter_zip hz ?_
  refine ⟨s1.heap.objs.size+4,[s1.heap.objs.size+4,s1.heap.objs.size+2,s1.heap.objs.size+3,s1.heap.objs.size,s1.heap.objs.size+1],_,_,H1,rfl,I1.kept (t':=s1.toks) hk,A9 l1 l2 (s1.heap.objs.size+4) (s1.heap.objs.size+2) (s1.heap.objs.size+3) s1.heap.objs.size (s1.heap.objs.size+1) ⟨Nat.ne_of_lt (by omega),Nat.ne_of_lt (by omega),Nat.ne_of_lt (by omega),Nat.ne_of_lt (by omega),Nat.ne_of_lt (by omega),Nat.ne_of_gt (by omega),Nat.ne_of_gt (by omega),Nat.ne_of_gt (by omega),Nat.ne_of_gt (by omega),Nat.ne_of_lt (by omega)⟩,⟨hz,hTI,⟨_,_,hTO⟩,h1,h2⟩,fun b hb=>?_,q⟩
  have hb':b=s1.heap.objs.size+4∨b=s1.heap.objs.size+2∨b=s1.heap.objs.size+3∨b=s1.heap.objs.size∨b=s1.heap.objs.size+1:=by simpa using hb
  have:s1.heap.objs.size≤b:=by rcases hb' with rfl | rfl | rfl | rfl | rfl <;> first | exact Nat.le_add_right _ _ | exact Nat.le_refl _
  exact I1.rj this (I1.hok.fresh this)
end L2
namespace DL
open PySem PySem.Spec PyProof.Rows L2
theorem yd {as:List D}{ds:List D}(h:tX as=some ds):∃ xs ys,as=[.lst xs,.lst ys]∧ds=iC xs ys:=by
 unfold tX at h
 split at h
 ·cases h; exact ⟨_,_,rfl,rfl⟩
 ·cases h
section
variable {T:Tx}{X:XQ}{F:FS}{fa:FA}{De:Ends}{σ:L2.St}{H:Hp}{tg:FG}{g:TG}
theorem Aa (hg:gS T tg g)(h:tDs T X (mK tX tg fa F) De σ H):yG (HU T.K (tP T (kA T) fa)) g (tDs T X F) De σ H:=by
 obtain ⟨W,O,env,fl,E,e,q⟩:=h
 unfold mK at e
 cases e1:fa env with
 | none=>rw [e1] at e; cases e
 | some as =>
  rw [e1] at e
  dsimp only [Option.bind_some] at e
  cases e2:tX as with
  | none=>rw [e2] at e; cases e
  | some zs =>
   rw [e2] at e
   dsimp only [Option.bind_some] at e
   obtain ⟨ds,es,rfl,rfl⟩:=yd e2
   refine ⟨W,O,env,[.lst ds,.lst es],E,e1,fun vs H1 s1 r1=>?_⟩
   obtain ⟨v,r,rfl,rv,rr⟩:=az.dN r1
   obtain ⟨v2,r2,rfl,rv2,rr2⟩:=az.dN rr
   cases rr2.jh
   have E1:=E.mono s1
   have q1:jO T X W O H1 De fl:=q.fr (Fr.same s1)
   obtain ⟨a,xs,rfl,hl,rl⟩:=Rep.fz rv
   obtain ⟨b,ys,rfl,hl2,rl2⟩:=Rep.fz rv2
   have hlen:=rl.length
   have hlen2:=rl2.length
   have hzl:=oT ds es
   refine ⟨a,b,rfl,⟨xs,hl.sq⟩,⟨ys,hl2.sq⟩,fun j m σ' H'=>m=(iC ds es).length - j∧j≤(iC ds es).length∧∃ env' O',bz T W O' H' env' σ'∧Fr O H1 O' H'∧runFor tg F ((iC ds es).drop j) env'=some fl,⟨(iC ds es).length,by simp,Nat.zero_le _,env,O,E1,Fr.refl _ _,e⟩, ?_⟩
   rintro j m σ' H' ⟨rfl,hj,env',O',E',f,e'⟩
   have hlH:=((E1.kp f).ls hl).sq
   have hlH2:=((E1.kp f).ls hl2).sq
   by_cases hlt:j<(iC ds es).length
   ·have j1:j<xs.length:=by omega
    have j2:j<ys.length:=by omega
    refine .inr ⟨⟨xs,ys,xs[j],ys[j],hlH,hlH2,by simp [j1],by simp [j2]⟩,fun σ2 H2=>∃ env' O',bz T W O' H2 env' σ2∧Fr O H1 O' H2∧runFor tg F ((iC ds es).drop (j+1)) env'=some fl,fun σ2 H2 p=>⟨(iC ds es).length - (j+1),by omega,rfl,hlt,p⟩,fun x H2 y=>?_⟩
    obtain ⟨p,x,y,hp,rfl,rfl,hx,hy⟩:=y
    obtain ⟨d,hd,rd⟩:=rl.sU (hx xs hlH)
    obtain ⟨d2,hd2,rd2⟩:=rl2.sU (hy ys hlH2)
    have s2:aG H' (L2.upd H' p (.tup [x,y])):=bG hp _
    rw [drop_cons (A8 hd hd2)] at e'
    have rd':Rep T (Cl W O') H' d x:=E1.sV f rd
    have rd2':Rep T (Cl W O') H' d2 y:=E1.sV f rd2
    exact jP hg q1 _ ((iC ds es).drop (j+1)) (fun env2 O2 σ2 H2 E2 g2 e2=>⟨env2,O2,E2,g2,e2⟩) (E'.mono s2) (f.trans (Fr.same s2)) e' (Rep.uY (.cons rd' (.cons rd2' .nil)) hp)
   ·refine .inl ⟨⟨xs,ys,hlH,hlH2,by omega⟩, ?_⟩
    rw [List.drop_eq_nil_of_le (by omega)] at e'
    cases e'
    exact q1 σ' H' O' E' f
end
section
variable {X:Cx}{c:Ct}{xq:XQ}{ts:List Expr}{tk:Nat}{tp p ip pos:Pos}{a b:Expr}{fa:FA}{tgf:FG}{gt:TG}{F:FS}{f:FE}{e:Expr}
theorem tZ {body:List Stmt}(hp:PassesOwn (model X.prog X.w) X.A X.env X.xe)(hc:X.calm=true)(sg:gS (tx X c) tgf gt)(pg:PG X (.Tuple ts tk tp) gt)(hgl:Gl X "zip")(hm:X.mg "zip"=none)(hi:PDA X c [a,b] fa)(hb:ou X c xq body F)(hst:isStar a=false:=by rfl)(hst2:fJ [b]=true:=by rfl) :
  PDS X c xq (.For (.Tuple ts tk tp) (.Call (.Name "zip" p) [a,b] [] ip) body [] pos) (mK tX tgf fa F) :=
 PS.imp (rm hp hc (FK hgl hm hi hst hst2) pg hb (eY rfl)) fun _ _ _ h=>Aa sg h
end
end DL
end
section
namespace DL
open PySem PySem.Spec PyProof.Rows L2
section
variable {X:Cx}{c:Ct}{e:Expr}{f:FE}{pos:Pos}
theorem fw {K:PySem.W.Frag}{cs:List Addr}{nms:List Str}{k:Nat}{nm:Str}(hk:nms[k]?=some nm)(hne:nm≠"!")(hd:nms.Nodup)(h:∀ C∈cs,Cls K C∧jf K C nm):fC K ⟨fun n=>cs[n]?,fun i=>nms.getD i "!"⟩ k:=by
 have e:nms.getD k "!"=nm:=by rw [List.getD_eq_getElem?_getD,hk]; rfl
 refine ⟨fun n C hn=>?_,fun k' hk'=>?_⟩
 ·have:=h C (List.mem_of_getElem? hn)
  show Cls K C∧jf K C (nms.getD k "!")
  rw [e]; exact this
 ·have hk2:nms.getD k' "!"=nm:=by rw [← e]; exact hk'
  rw [List.getD_eq_getElem?_getD] at hk2
  cases h2:nms[k']? with
  | none=>rw [h2] at hk2; exact absurd hk2.symm hne
  | some y =>
   rw [h2] at hk2
   have hy:y=nm:=hk2
   subst hy
   obtain ⟨l1,g1⟩:=List.getElem?_eq_some_iff.mp h2
   obtain ⟨l2,g2⟩:=List.getElem?_eq_some_iff.mp hk
   have pw:=List.pairwise_iff_getElem.mp hd
   rcases Nat.lt_trichotomy k' k with lt | eq | gt
   ·exact absurd (g1.trans g2.symm) (pw k' k l1 l2 lt)
   ·exact eq
   ·exact absurd (g2.trans g1.symm) (pw k k' l2 l1 gt)
def spL (K:PySem.W.Frag)(F:List D→Option D):Sp:=fun vs H Q _=>∃ (a:Addr) (ns:List Int),vs=[.ref a]∧SqL K H a (ns.map V.int)∧F [.lst (ns.map .int)]=some (.bl true)∧∀ H',aG H H'→Q (.bl true) H'
theorem HV {T:Tx}{F:List D→Option D}{vs:List V}{H:Hp}{Q:VK}{E:XK}(h:spL T.K F vs H Q E):spD T 1 F vs H Q E:=by
 obtain ⟨a,ns,rfl,hS,hF,q⟩:=h
 exact ⟨rfl,fun _=>True,[.lst (ns.map .int)],.bl true,fun _ _=>trivial,.cons (.lst (hS.imp (fun h=>⟨h,trivial⟩) id) (ints_rep ns)) .nil,hF,fun v H' s r=>by rw [r.bl_]; exact q H' s⟩
end
end DL
end
section
namespace DL
open PySem PySem.Spec PyProof.Rows L2
structure UnD (P:Program)(w:World)(K:PySem.W.Frag)(mg:Str→Option Value)(base:Heap)(c:Ct)(f:Addr)(ps:List Str)(k:Nat)(F:List D→Option D):Prop where
 ex:∃ fd,fR P w K mg base CX0 k f fd ps (spD ⟨K,c.cl,c.fld⟩ ps.length F)∧Binds K fd ps []
structure UnF (P:Program)(w:World)(K:PySem.W.Frag)(mg:Str→Option Value)(base:Heap)(c:Ct)(f:Addr)(ps:List Str)(k:Nat)(F:List D→Option (List D)):Prop where
 ex:∃ fd,fR P w K mg base CX0 k f fd ps (spF ⟨K,c.cl,c.fld⟩ ps.length F)∧Binds K fd ps []
section
variable {P:Program}{w:World}{K:PySem.W.Frag}{mg:Str→Option Value}{base:Heap}{c:Ct}
theorem DC {x qual:Str}{st:Stmt}{fa:Addr}{fd:FuncData}{N ps:List Str}{k:Nat}{F:FS}(Fn:Fun K x qual st fa fd)(S:aB N ps (ag st))(hb:Binds K fd ps [])
  (body:BodyOk P w K mg base c N st k F):UnD P w K mg base c fa ps (k+1) (bH N.length F):=⟨fd,vP Fn S body,hb⟩
theorem lA {x qual:Str}{st:Stmt}{fa:Addr}{fd:FuncData}{N ps:List Str}{k:Nat}{F:FS}(Fn:Fun K x qual st fa fd)(S:aB N ps (ag st))(hb:Binds K fd ps [])
  (body:BodyOk P w K mg base c N st k F):UnF P w K mg base c fa ps (k+1) (cC N.length F):=by
 refine ⟨fd, ?_,hb⟩
 refine Fn.ok S (fun vs H Q E h=>h.1) fun cdv A outer s H vs Q E hr h=>⟨_,body.ok _ rfl rfl rfl rfl rfl ⟨⟨rfl,rfl,rfl,S.nd⟩,fun _=>rfl,PassesOwn.never⟩ hr, ?_⟩
 exact sZ (E0:=E) h
theorem UnD.oV {C f:Addr}{m:Str}{ps:List Str}{n k j i:Nat}{F:List D→Option D}{lay:List Nat}(G:UnD P w K mg base c f ps k F)(hl:ps.length=n+1)(hC:c.cl i=some C)(h1:Cls K C)(h2:Meth K C m f)(hk:k≤j)(hf:∀ i∈lay,c.fld i≠m) :
  ∃ C f fd ps,c.cl i=some C∧Cls K C∧Meth K C m f∧fR P w K mg base CX0 j f fd ps (spD ⟨K,c.cl,c.fld⟩ (n+1) F)∧Binds K fd ps []∧∀ i∈lay,c.fld i≠m:=by
 obtain ⟨fd,g1,g2⟩:=G.ex
 rw [hl] at g1
 exact ⟨C,f,fd,ps,hC,h1,h2,g1.mono hk,g2,hf⟩
theorem UnF.oV {C f:Addr}{m:Str}{ps:List Str}{n k j i:Nat}{F:List D→Option (List D)}{lay:List Nat}(G:UnF P w K mg base c f ps k F)(hl:ps.length=n+1)(hC:c.cl i=some C)(h1:Cls K C)(h2:Meth K C m f)(hk:k≤j)(hf:∀ i∈lay,c.fld i≠m) :
  ∃ C f fd ps,c.cl i=some C∧Cls K C∧Meth K C m f∧fR P w K mg base CX0 j f fd ps (spF ⟨K,c.cl,c.fld⟩ (n+1) F)∧Binds K fd ps []∧∀ i∈lay,c.fld i≠m:=by
 obtain ⟨fd,g1,g2⟩:=G.ex
 rw [hl] at g1
 exact ⟨C,f,fd,ps,hC,h1,h2,g1.mono hk,g2,hf⟩
theorem ju {z x qual:Str}{st:Stmt}{C fa:Addr}{fd:FuncData}{y:Str}{N ps:List Str}{k kc:Nat}{F:FS}(Fn:Fun K x qual st fa fd)(S:aB (y::N) (y::ps) (ag st))(hb:Binds K fd (y::ps) [])
  (body:BodyOk P w K mg base c (y::N) st k F) (hm:mg z=some (.ref C)) (hC:c.cl kc=some C) (M:Mk K C fa):hJ P w K mg base c z ps.length (k+1) kc (iB N.length F):=⟨C,fa,fd,_,hm,hC,M,wz Fn S body,hb⟩
theorem nO {z x qual:Str}{st:Stmt}{C fa:Addr}{fd:FuncData}{y:Str}{N ps:List Str}{k:Nat}{F:FS}(Fn:Fun K x qual st fa fd)(S:aB (y::N) (y::ps) (ag st))(hb:Binds K fd (y::ps) [])
  (body:BodyOk P w K mg base c (y::N) st k F) (hm:mg z=some (.ref C)) (M:qR K C "__init__" fa):m5 P w K mg base c z ps.length (k+1) (iB N.length F):=⟨C,fa,fd,_,hm,M,wz Fn S body,hb⟩
end
end DL
end
section
namespace DL
open L2
def lB (i:Int):List Nat:=(toString i).toList.map Char.toNat
def u0:D→Option D
 | .int i=>if 0≤i∧i<1000000000000 then some (.str (lB i)) else none
 | _=>none
@[simp] theorem Ab (i:Int):u0 (.int i)=if 0≤i∧i<1000000000000 then some (.str (lB i)) else none:=zEr
end DL
end
section
namespace DL
open PySem PySem.Spec PyProof.Rows L2
section
variable {X:Cx}{c:Ct}{xq:XQ}{e:Expr}{f:FE}{pos:Pos}
theorem FL (i:Int):mkS (lB i)=(toString i:Str):=by
 unfold lB
 exact (Str.ofString_eq_toList _).symm
theorem Ck {p:Pos}(hg:Gl X "str")(hm:X.mg "str"=none)(ha:PR X c e f)(he:isStar e=false:=by rfl):PD X c (.Call (.Name "str" p) [e] [] pos) (fp1 u0 f) :=
 wg (r:=fun xs H Q=>∃ i,xs=[.int i]∧i.natAbs.log2<1920∧Q (.str (toString i)) H) rp (fun A H0 H x v d Q nw r ee k=>by
  unfold u0 at ee
  split at ee
  ·next i =>
   by_cases hc:0≤i∧i<1000000000000
   ·rw [if_pos hc] at ee
    cases ee; cases aA.dA r
    refine ⟨i,rfl, ?_,k _ H (aG.refl _) (by rw [← FL]; exact Rep.str _)⟩
    have h1:i.natAbs<2 ^ 1000:=Nat.lt_trans (show i.natAbs<2 ^ 40 by omega) (by decide)
    by_cases h0:i.natAbs=0
    ·rw [h0]; decide
    ·have:=(Nat.log2_lt h0).mpr h1; omega
   ·rw [if_neg hc] at ee; cases ee
  ·cases ee) hg hm rfl ha he
end
end DL
end
section
namespace L2
open PySem PySem.Spec PyProof.Rows
section
variable {prog:Program}{w:World}{A:Around}{E:Value→Shared→Prop}{s:Shared}
end
section
variable {prog:Program}{w:World}{A:Around}{E:Value→Shared→Prop}{s:Shared}
end
end L2
namespace DL
open PySem PySem.Spec PyProof.Rows L2
section
variable {T:Tx}{X:XQ}{F:FS}{fa:FA}{De:Ends}{σ:L2.St}{H:Hp}{tg:FG}{g:TG}
end
section
variable {X:Cx}{c:Ct}{xq:XQ}{ts:List Expr}{tk:Nat}{tp p ip pos:Pos}{a b:Expr}{fa:FA}{tgf:FG}{gt:TG}{F:FS}
end
end DL
end
section
namespace DL
open PySem PySem.Spec PyProof.Rows L2
section
variable {X:Cx}
end
end DL
end
section
namespace DL
open L2
def j3 (i k:Nat):FE:=fun env=>match env[i]? with
 | some (.obj _ ks ds)=>oO k ks ds
 | _=>none
@[simp] theorem Gw (i k:Nat)(env:aN):j3 i k env=aI (gg env[i]?) fun p=>oO k p.2.1 p.2.2:=by
 unfold j3 gg
 cases h:env[i]? with
 | none=>rfl
 | some s=>cases s <;> rfl
end DL
end
section
namespace DL
open PySem PySem.Spec PyProof.Rows L2
section
variable {X:Cx}{c:Ct}{xq:XQ}{pos:Pos}
theorem ky {i k:Nat}{x nm:Str}{p1:Pos}(F:fC X.K c k)(hn:nm=c.fld k)(n:Nm X i x):PD X c (.Attribute (.Name x p1) nm pos) (j3 i k):=by
 subst hn
 refine PE.imp (yR (iW n.hN n.hv n.hd n.hc) (wy rfl)) fun σ H Q h=>?_
 obtain ⟨W,O,env,d,E,e1,q⟩:=h
 unfold j3 at e1
 split at e1
 ·next n ks ds hi =>
  obtain ⟨a,C,dx,fs,h1,h2,h3,h4,h5,h6,h7⟩:=E.obj hi
  obtain ⟨u,l,ru⟩:=oP F.inj h6 h7 e1
  obtain ⟨g1,g2⟩:=F.cls n C h4
  exact ⟨.ref a,h1,a,C,dx,fs,u,rfl,h5,g1,g2,l,q u H (aG.refl _) ru⟩
 ·cases e1
end
end DL
end
section
namespace DL
open L2
def Cm (c:Nat)(f:FE):FS:=fun env=>(f env).map fun _=>.ex c env
@[simp] theorem FN (c:Nat)(f:FE)(env:aN):Cm c f env=omap (fun _=>DFl.ex c env) (f env):=rfl
def wA:DFl→Option Nat
 | .ex c _=>some c
 | _=>none
@[simp] theorem HW (c:Nat)(e:aN):wA (.ex c e)=some c:=rfl
@[simp] theorem HX (d:D)(e:aN):wA (.rt d e)=none:=rfl
@[simp] theorem HY (d:List D)(e:aN):wA (.rf d e)=none:=rfl
@[simp] theorem HZ (e:aN):wA (.nx e)=none:=rfl
@[simp] theorem J7 (c:Nat)(e:aN):EN (.ex c e)=none:=rfl
def xK (env:aN)(ok:Option DFl)(x:Option Nat):Option DFl:=match ok with
 | some r=>some r
 | none=>x.map fun c=>.ex c env
@[simp] theorem J8 (env:aN)(r:DFl)(x:Option Nat):xK env (some r) x=some r:=rfl
@[simp] theorem J9 (env:aN)(c:Nat):xK env none (some c)=some (.ex c env):=rfl
def Co {α:Type}(k:α→aN→DFl)(n:Nat)(F:List D→Option α)(Xf:List D→Option Nat)(f:FA):FS:=fun env=>(f env).bind fun ds=>if ds.length=n then xK env ((F ds).map fun d=>k d env) (Xf ds) else none
theorem FQ {α:Type}(k:α→aN→DFl)(n:Nat)(F:List D→Option α)(Xf:List D→Option Nat)(f:FA)(env:aN):Co k n F Xf f env=aI (f env) (fun ds=>if ds.length=n then xK env (omap (fun d=>k d env) (F ds)) (Xf ds) else none):=rfl
def ye:D→D→Option D
 | .tup xs,.tup ys=>if xs.length+ys.length≤1000000 then some (.tup (xs++ys)) else none
 | _,_=>none
@[simp] theorem Ja (xs ys:List D):ye (.tup xs) (.tup ys)=if xs.length+ys.length≤1000000 then some (.tup (xs++ys)) else none:=zEr
end DL
end
section
namespace DL
open PySem PySem.Spec PyProof.Rows L2
section
variable {M:Model}{A:Around}{E:Value→Shared→Prop}{s:Shared}{Q:Unit→Shared→Prop}{base:Heap}{env:Env}{outer:List Env}{L e t C:Addr}{fl:Value}
end
section
variable {P:Program}{w:World}{K:PySem.W.Frag}{mg:Str→Option Value}{base:Heap}{c:Ct}
end
end DL
end
section
namespace DL
open PySem PySem.Spec PyProof.Rows L2
section
variable {X:Cx}{c:Ct}{xq:XQ}{a b e:Expr}{f g:FE}{pos:Pos}
end
section
variable {K:PySem.W.Frag}{prog:Program}{w:World}{A:Around}{E:Value→Shared→Prop}{s:Shared}{x Cn:Addr}{ox:Obj}
 (hga:PySem.W.findIn K (.ref Cn) "__getattribute__"=some (some (.builtin "BaseException.__getattribute__"))) (hgt:PySem.W.findIn K (.ref Cn) "__getattr__"=some none)
 (hm:PySem.W.mroIn K Cn (.type "object")=some true) (hmB:PySem.W.mroIn K Cn (.type "BaseException")=some true)
 (hf:PySem.W.findObj K Cn none "__class__"=some (.bind (.builtin "getset_descriptor.__get__") (.builtin "object.__class__"))) (X:K.In s.heap) (I:PySem.W.InstAt s.heap x ox Cn none)
include hga hgt hm hmB hf X I
end
section
variable {X:Cx}{c:Ct}{xq:XQ}{a b e:Expr}{f g:FE}{pos:Pos}
end
end DL
end
section
namespace L2
open PySem PySem.Spec PyProof.Rows
section
variable {prog:Program}{w:World}{A:Around}{E:Value→Shared→Prop}{s:Shared}{Q:Value→Shared→Prop}
theorem HT.Ac {t b:Addr}{ws:List Value}(ht:IsTup s.heap t (#[]:Array Value))(hb:IsTup s.heap b ws.toArray)(h:Q (.ref b) s):wpAny (model prog w) A (binaryOp .Add (.ref t) (.ref b)) Q E s:=by
 obtain ⟨⟨cls,dd,data,sl⟩,ho,hc,n,hd⟩:=id ht
 obtain ⟨⟨cls2,dd2,data2,sl2⟩,ho2,hc2,n2,hd2⟩:=id hb
 simp only at hc hd hc2 hd2
 subst hc hd hc2 hd2
 exact concat_meets ⟨_,ho,rfl⟩ ⟨_,ho2,rfl⟩ noFill_tuple_add seq_tuple_add PySem.F.slot_tuple_add PySem.F.entry_tuple_add (PySem.F.args_tuple_add_2 _ _) (tuple_addW0 t b #[] ws.toArray n n2 dd dd2 sl sl2 rfl) ⟨ho,ho2,h⟩
end
section
variable {X:Cx}
end
section
variable {X:Cx}
def DE (K:PySem.W.Frag):R2:=fun x y H Q=>∃ a b ys,x=.ref a∧y=.ref b∧SqT K H a []∧SqT K H b ys∧Q (.ref b) H
theorem Cp:OpR X (binaryOp .Add) (DE X.K):=by
 intro pins s σ H x y v u Q I rx ry h
 obtain ⟨a,b,ys,rfl,rfl,ha,hb,q⟩:=h
 cases rx
 cases ry
 obtain ⟨its,r1,p1,_⟩:=I.tuple ha
 obtain ⟨its2,r2,p2,_⟩:=I.tuple hb
 cases r1
 exact HT.Ac p1 p2 ⟨.ref b,H,I,rfl,q⟩
end
end L2
namespace DL
open PySem PySem.Spec PyProof.Rows L2
section
variable {X:Cx}{c:Ct}{xq:XQ}{a b e o:Expr}{f g:FE}{pos:Pos}
theorem Ad {T:Tx}(A:Addr→Prop)(H0 H:Hp)(x y:D)(v u:V)(d:D)(Q:VK)(nw:Nw A H)(rx:kD T A H0 H x v)(ry:kD T A H0 H y u)(e:ye x y=some d)
  (k:∀ w H',aG H H'→kD T A H H' d w→Q w H'):DE T.K v u H Q∨yX T.K v u H Q:=by
 unfold ye at e
 split at e
 ·rename_i xs ys
  by_cases c:xs.length+ys.length≤1000000
  ·rw [if_pos c] at e; cases e
   obtain ⟨a,vs,rfl,ha,ra⟩:=Rep.gu rx
   obtain ⟨b,us,rfl,hb,rb⟩:=Rep.gu ry
   cases xs with
   | nil =>
    cases ra.jh
    exact .inl ⟨a,b,us,rfl,rfl,ha,hb,k _ H (aG.refl _) (by rw [List.nil_append]; exact Rep.tup hb rb)⟩
   | cons x xs =>
    have hl:=ra.length
    have hl2:=rb.length
    refine .inr ⟨a,b,vs,us,rfl,rfl,ha,hb,fun z=>by rw [z] at hl; simp at hl,small (by omega),fun z=>?_,fun _ p hp=>k _ _ (bG hp _) (Rep.uY (ra.append rb) hp)⟩
    subst z
    have:ys=[]:=List.length_eq_zero_iff.mp (by rw [hl2]; rfl)
    subst this
    exact k _ H (aG.refl _) (by rw [List.append_nil]; exact Rep.tup ha ra)
  ·rw [if_neg c] at e; cases e
 ·cases e
theorem Cq (ha:PD X c a f)(hb:PD X c b g):PD X c (.BinOp a .Add b pos) (fp2 ye f g):=PE.imp (lJ (Cp.or vS) ha hb) fun _ _ _ h=>nv (ρ:=kD (tx X c)) (ρ2:=kD (tx X c)) Ad h
section
variable {prog:Program}{w:World}{A:Around}{E:Value→Shared→Prop}{s:Shared}{Q:Value→Shared→Prop}
end
end
end DL
end
section
namespace DL
open PySem PySem.Spec PyProof.Rows L2
section
variable {X:Cx}{c:Ct}{xq:XQ}{e:Expr}{pos:Pos}{α:Type}{ρ:RK α V}{k kk:Nat}{x:Str}{ps:List Str}{F:List D→Option α}{Xf:List D→Option Nat}{es:List Expr}{fs:FA}{p1 p2:Pos}
end
section
variable {X:Cx}{c:Ct}{xq:XQ}{e:Expr}{pos:Pos}{k kk:Nat}{x:Str}{ps:List Str}{Xf:List D→Option Nat}{es:List Expr}{fs:FA}{p1 p2:Pos}
end
end DL
end
section
namespace DL
open PySem PySem.Spec PyProof.Rows L2
section
variable {X:Cx}{c:Ct}{xq:XQ}{a b e:Expr}{f g:FE}{pos:Pos}
end
end DL
end
section
namespace DL
open L2
end DL
end
section
namespace DL
open PySem PySem.Spec PyProof.Rows L2
section
variable {X:Cx}{c:Ct}{xq:XQ}{e:Expr}{es:List Expr}{fa:FA}{pos:Pos}
end
theorem oW {N:Nat}{ds:List D}{j:Nat}{s:Slot}(ej:(envOf N ds)[j]?=some s):s=.no∨∃ d,s=.val d:=by
 unfold envOf at ej
 by_cases hj:j<ds.length
 ·rw [List.getElem?_append_left (by simpa using hj),List.getElem?_map] at ej
  cases e2:ds[j]? with
  | none=>rw [e2] at ej; cases ej
  | some d=>rw [e2] at ej; cases ej; exact .inr ⟨d,rfl⟩
 ·rw [List.getElem?_append_right (by simpa using hj),List.getElem?_replicate] at ej
  split at ej
  ·cases ej; exact .inl rfl
  ·cases ej
section
variable {P:Program}{w:World}{K:PySem.W.Frag}{mg:Str→Option Value}{base:Heap}{c:Ct}
end
end DL
end
section
namespace DL
open L2
abbrev JFn:=Nat→List Nat→List D→List D→Option (List Nat × List D)
def m6 (i n:Nat)(J:JFn)(fa:FA):FS:=fun env=>match env[i]? with
 | some (.obj c ks ds)=>(fa env).bind fun as=>if as.length=n then (J c ks ds as).map fun p=>.nx (env.set i (.obj c p.1 p.2)) else none
 | _=>none
def wB (N:Nat)(F:FS):JFn:=fun k ks ds as=>(F (.obj k ks ds::envOf N as)).bind (yc k)
theorem u3 (N:Nat)(F:FS)(k:Nat)(ks:List Nat)(ds as:List D):wB N F k ks ds as=aI (F (.obj k ks ds::envOf N as)) (yc k):=zEr
@[simp] theorem FR (i n:Nat)(J:JFn)(fa:FA)(env:aN):m6 i n J fa env=aI (gg env[i]?) fun p=>aI (fa env) fun as=>if as.length=n then omap (fun r:List Nat × List D=>.nx (env.set i (.obj p.1 r.1 r.2))) (J p.1 p.2.1 p.2.2 as) else none:=by
 unfold m6
 cases env[i]? with
 | none=>rfl
 | some s =>
  cases s with
  | obj c ks ds =>
   show (fa env).bind _=aI (some _) _
   rw [cv]
   cases fa env <;> rfl
  | _=>rfl
def ua (ds es:List D):Option (List D):=if ds.length+es.length≤1000000 then some (ds++es) else none
def mL (i:Nat)(f:FP (List D)):FS:=lg i ua f
@[simp] theorem Gx (i:Nat)(f:FP (List D))(env:aN):mL i f env=aI (w9 env[i]?) fun ds=>aI (f env) fun es=>if ds.length+es.length≤1000000 then some (.nx (env.set i (.own (ds++es)))) else none:=by
 unfold mL lg
 cases env[i]? with
 | none=>rfl
 | some s =>
  cases s with
  | own ds =>
   show (f env).bind _=aI (some ds) _
   rw [cv]
   cases f env with
   | none=>rfl
   | some es =>
    show (ua ds es).map _=_
    unfold ua
    rw [cv]
    split <;> rfl
  | _=>rfl
end DL
end
section
namespace DL
open PySem PySem.Spec PyProof.Rows L2
section
variable {T:Tx}{W:Wf}{O O':Addr→Prop}{H H':Hp}{env:aN}{σ:L2.St}
end
end DL
end
section
namespace DL
open PySem PySem.Spec PyProof.Rows L2
section
variable {X:Cx}{c:Ct}{xq:XQ}{e k:Expr}{f g:FE}{pos:Pos}
end
section
variable {T:Tx}{fi:FE}{fe:FP (List D)}{σ:L2.St}{H:Hp}{Q:VK}{tg:FG}{g:TG}
end
section
variable {X:Cx}{c:Ct}{xq:XQ}{e elt a b iter tg:Expr}{pos:Pos}{gens:List Comprehension}{scope sc:Scope}{N N':List Str}{nt:Nat}{cap:List Nat}{fi fe:FE}{fe2:FP (List D)}{tgf:FG}{gt:TG}
end
end DL
end
section
namespace DL
open PySem PySem.Spec PyProof.Rows L2
def kL (T:Tx):RK (List D) (List V):=fun A _ H es vs=>∃ b zs,vs=[.ref b]∧H b=some (.lst zs)∧az T A H es zs
instance {T:Tx}:Kd (kL T):=⟨fun _ _ _ _ _ _ s ⟨b,zs,e,q,r⟩=>⟨b,zs,e,s _ _ q,r.mono s fun _ z=>z⟩,fun _ _ _ _ _ _ _ h=>h⟩
section
variable {X:Cx}{c:Ct}{xq:XQ}{e:Expr}{f:FP (List D)}{pos:Pos}
theorem Ae {T:Tx}(A:Addr→Prop)(H:Hp)(a:Addr)(ds:List D)(xs:List V)(x:List D)(y:List V)(ds':List D)(Q:VK)(hl:H a=some (.lst xs))(r:az T A H ds xs)(_:∀ b,A b→b≠a)(ra:kL T A H H x y)(e:ua ds x=some ds')
  (k:∀ ys,(∀ A' H',(∀ d v,Rep T A H d v→Rep T A' H' d v)→(∀ d v,az T A H d v→az T A' H' d v)→az T A' H' ds' ys)→∀ w,Q w (upd H a (.lst ys))):vV (.ref a) y H Q:=by
 unfold ua at e
 split at e
 ·next hz =>
  cases e
  obtain ⟨b,zs,rfl,hb,rb⟩:=ra
  refine ⟨a,b,xs,zs,rfl,rfl,hl,hb, ?_,k _ (fun A' H' g gl=>(gl _ _ r).append (gl _ _ rb)) _⟩
  rw [← r.length, ← rb.length]; exact Nat.le_trans hz (by decide)
 ·cases e
theorem I9 {T:Tx}{σ:L2.St}{H:Hp}{Q:List V→Hp→Prop}(h:tP T (kL T) f σ H Q):qu (tP T (kF T) f) xj σ H Q:=by
 obtain ⟨W,O,env,d,E,e,q⟩:=h
 refine ⟨W,O,env,d,E,e,fun v H' s r=>?_⟩
 obtain ⟨a,xs,rfl,n,hl,r⟩:=r
 exact q _ H' s ⟨a,xs,rfl,hl,r.mono (aG.refl _) fun _ z=>z.1⟩
theorem ub {i:Nat}{x:Str}{p1 p2 p3:Pos}(n:Nm X i x)(he:PF X c e f)(hs:isStar e=false:=by rfl)(hl:(p2.endLine == p3.line)=true:=by rfl) :
  PDS X c xq (.Expr (.Call (.Attribute (.Name x p1) "extend" p2) [e] [] p3) pos) (mL i f):=by
 refine PS.imp (lI (yZ PySem.F.plainAttrs_list PySem.F.slot_list_extend PySem.F.type_list_extend xp (iW n.hN n.hv n.hd n.hc) (jg he rA (aT hs)) rfl (by rw [gJ hs]; rfl) hl (aT hs) rfl) (gd rfl)) fun De σ H h=>?_
 obtain ⟨v,h1,⟨xs,_,a,rfl,ha⟩,h3⟩:=rG (ρ:=kL (tx X c)) (tf:=tP (tx X c) (kL (tx X c)) f) (fun Q h=>h) Ae (fun _ _ _ _ _ h=>h) h
 obtain ⟨W,O,env,x,E,e1,q⟩:=h3
 exact ⟨.ref a,h1,.inl ⟨rfl,xs,SqL.of ha⟩,I9 ⟨W,O,env,x,E,e1,fun v H' s r=>(q v H' s r).2⟩⟩
end
section
variable {T:Tx}{fe:FE}{fa:FA}{σ:L2.St}{H:Hp}{Q:VK}{tg:FG}{g:TG}
end
section
variable {X:Cx}{c:Ct}{xq:XQ}{elt a b:Expr}{ts:List Expr}{tk:Nat}{tp p ip pos:Pos}{scope sc:Scope}{N N':List Str}{nt:Nat}{cap:List Nat}{fa:FA}{fe:FE}{tgf:FG}{gt:TG}
end
end DL
end
section
namespace DL
open PySem PySem.Spec PyProof.Rows L2
section
variable {X:Cx}{c:Ct}{xq:XQ}{e k:Expr}{f g:FE}{pos:Pos}
end
end DL
end
section
namespace DL
open PySem PySem.Spec PyProof.Rows L2
section
variable {X:Cx}{c:Ct}{xq:XQ}{e:Expr}{es:List Expr}{fa:FA}{pos apos:Pos}
end
theorem Af {T:Tx}{A:Addr→Prop}{H:Hp}{x C:Addr}{k:Nat}{p:List Nat × List D}{fl:DFl}{Q:VK}(hC:T.cl k=some C)(e:yc k fl=some p)
  (q:∀ (H':Hp) (dx':Addr) (fs:List (Str × V)),(∀ b o,H b=some o→b≠x→H' b=some o)→(∀ b,H' b=none→H b=none)→H' x=some (.ins C dx' fs)→fs.map (·.1)=p.1.map T.fld→az T A H' p.2 (fs.map (·.2))→Q .non H') :
  jO T (fun _ _ _=>False) ⟨A,H,fun b=>b=x⟩ (fun b=>b=x) H { nx:=fun _ H'=>Q .non H',rt:=Q } fl:=by
 cases fl with
 | nx env' =>
  intro σ' H' O' E' g
  rw [Cg] at e
  cases h0:env'[0]? with
  | none=>rw [h0] at e; cases e
  | some s =>
   cases s with
   | obj k' ks es' =>
    rw [h0,yb,cv] at e
    by_cases hk:k'=k
    ·rw [if_pos hk] at e; cases e
     subst hk
     obtain ⟨a,C',dx',fs,g1,g2,g3,g4,g5,g6,g7⟩:=E'.obj h0
     have ha:a=x:=by
      rcases g.more a g2 with z | z
      ·exact z
      ·exact absurd z g3
     subst ha
     rw [hC] at g4; cases g4
     exact q H' dx' fs (fun b o hb hne=>g.keep b o hb hne) g.dom g5 g6 (g7.mono (aG.refl _) fun _ z=>z.1)
    ·rw [if_neg hk] at e; cases e
   | _=>rw [h0] at e; cases e
 | rt _ _=>cases e
 | rf _ _=>cases e
 | bk _=>cases e
 | ct _=>cases e
 | ex _ _=>cases e
def spJ (T:Tx)(n:Nat)(J:JFn):Sp:=fun vs H Q _=>vs.length=n+1∧∃ (A:Addr→Prop) (x:Addr) (us:List V) (C dx:Addr) (fs0:List (Str × V)) (k:Nat) (ks:List Nat) (ds0 ds:List D) (p:List Nat × List D),vs=.ref x::us∧T.cl k=some C∧H x=some (.ins C dx fs0)∧fs0.map (·.1)=ks.map T.fld∧az T A H ds0 (fs0.map (·.2))∧¬ A x∧Nw A H∧az T A H ds us∧J k ks ds0 ds=some p ∧
 ∀ (H':Hp) (dx':Addr) (fs:List (Str × V)),(∀ b o,H b=some o→b≠x→H' b=some o)→(∀ b,H' b=none→H b=none)→H' x=some (.ins C dx' fs)→fs.map (·.1)=p.1.map T.fld→az T A H' p.2 (fs.map (·.2))→Q .non H'
structure rX (P:Program)(w:World)(K:PySem.W.Frag)(mg:Str→Option Value)(base:Heap)(c:Ct)(x:Str)(n k:Nat)(J:JFn):Prop where
 ex:∃ C f fd ps,mg x=some (.ref C)∧qR K C "__init__" f∧fR P w K mg base CX0 k f fd ps (spJ ⟨K,c.cl,c.fld⟩ n J)∧Binds K fd ps []
section
variable {X:Cx}{c:Ct}{xq:XQ}{e:Expr}{es:List Expr}{fa:FA}{pos apos:Pos}
theorem yf {n k j i:Nat}{J:JFn}{x y:Str}{p p2 p3:Pos}{pl:Sem Bool}(G:rX X.prog X.w X.K X.mg X.base c x n k J)(hr:el j X.A)(hkj:k≤j)(hg:Gl X x)(nm:Nm X i y)(ha:PDA X c es fa)
  (hpl:fJ es=true:=by rfl) (hdb:(x == ("__debug__":Str))=false:=by decide)
  (ht:eval (.Call (.Attribute (.Name x p) "__init__" apos) (.Name y p2::es) [] p3) X.env=(do
   let ov ← eval (.Name x p) X.env
   standAt apos.atName
   let (f,first) ← holding [ov] (getMethod ov "__init__" pl)
   callWith p3 f first (backTo p3 (starEach (.Name y p2::es) X.env)) (backToKw p3 (keywordEach [] X.env))):=by rfl) :
  PDS X c xq (.Expr (.Call (.Attribute (.Name x p) "__init__" apos) (.Name y p2::es) [] p3) pos) (m6 i n J fa):=by
 obtain ⟨C,f,fd,ps,h1,h2,h4,h5⟩:=G.ex
 refine PS.imp (lI (oS h2 h4 (hr.mono hkj) hg h1 h5 (jg (iW nm.hN nm.hv nm.hd nm.hc) ha (aT rfl)) (aT rfl) (eX hpl) hdb ht) (gd rfl)) fun De σ H h=>?_
 obtain ⟨W,O,env,fl,E,e1,q⟩:=h
 unfold m6 at e1
 split at e1
 ·next cn ks ds0 hi =>
  cases e2:fa env with
  | none=>rw [e2] at e1; cases e1
  | some as =>
   rw [e2] at e1
   dsimp only [Option.bind_some] at e1
   by_cases hl:as.length=n
   ·rw [if_pos hl] at e1
    cases e3:J cn ks ds0 as with
    | none=>rw [e3] at e1; cases e1
    | some pr =>
     rw [e3] at e1; cases e1
     obtain ⟨a,C',dx,fs,g1,g2,g3,g4,g5,g6,g7⟩:=E.obj hi
     refine ⟨.ref a,g1,W,O,env,as,E,e2,fun vs H1 s1 r1=>?_⟩
     have E1:=E.mono s1
     refine ⟨?_,Cl W O,a,vs,C',dx,fs,cn,ks,ds0,as,pr, ?_,g4,s1 a _ g5,g6,g7.mono s1 fun _ z=>z,fun z=>z.2 g2,fun b hb=>E1.lN hb,r1,e3, ?_⟩
     ·rw [List.length_append,List.length_cons,List.length_nil, ← az.length r1,hl]
     ·rw [List.append_nil]
     ·intro H' dx' fs' kp dm hx' hn hr'
      have up:=E1.HR (t:=.obj cn pr.1 pr.2) hi rfl g1 kp dm (by rw [hx']; trivial) ⟨a,C',dx',fs',rfl,g2,g3,g4,hx',hn,hr'⟩
      exact q σ H' O up.1 ((Fr.same s1).trans up.2)
   ·rw [if_neg hl] at e1; cases e1
 ·cases e1
end
theorem vz {T:Tx}{N n:Nat}{F:FS}{vs:List V}{H:Hp}{Q:VK}{E0:XK}(h:spJ T n (wB N F) vs H Q E0):tDs T (fun _ _ _=>False) F { nx:=fun _ H'=>Q .non H',rt:=Q } (vs.map some++List.replicate (N+1 - vs.length) none) H:=by
 obtain ⟨hn,A,x,us,C,dx,fs0,k,ks,ds0,ds,p,rfl,hC,hx,hks,r0,hA,nw,r,e,q⟩:=h
 rw [u3] at e
 cases e1:F (.obj k ks ds0::envOf N ds) with
 | none=>rw [e1] at e; cases e
 | some fl =>
  rw [e1,cv] at e
  have B:=jj (n:=N) nw r
  have es:(V.ref x::us).map some++List.replicate (N+1 - (V.ref x::us).length) none=some (.ref x)::(us.map some++List.replicate (N - us.length) none):=by
   rw [List.map_cons,List.cons_append,List.length_cons,Nat.add_sub_add_right]
  rw [es]
  have own0:∀ (j:Nat) (s:Slot),(.obj k ks ds0::envOf N ds:aN)[j]?=some s→s.gY=true→j=0:=fun j s ej o=>by
   match j,ej with
   | 0,_=>rfl
   | j+1,ej =>
    have ej':(envOf N ds)[j]?=some s:=by simpa using ej
    rcases oW ej' with rfl | ⟨d,rfl⟩ <;> cases o
  have start:bz T ⟨A,H,fun b=>b=x⟩ (fun b=>b=x) H (.obj k ks ds0::envOf N ds) (some (.ref x)::(us.map some++List.replicate (N - us.length) none)):=by
   refine ⟨Fr.refl _ _,nw,fun a z=>by rw [z,hx]; trivial,fun j s ej=>?_,fun j l s t a e1 e2 o1 o2 _ _=>(own0 j s e1 o1).trans (own0 l t e2 o2).symm, ?_,fun j l dss t a bs b e1 _ _ _ _ _=>(by have:=own0 j _ e1 rfl; subst this; cases e1)⟩
   ·match j,ej with
    | 0,ej =>
     cases ej
     exact ⟨x,C,dx,fs0,rfl,rfl,(by show H x≠none; rw [hx]; simp),hC,hx,hks,r0.mono (aG.refl _) fun b z=>⟨z,fun w=>hA (w ▸ z)⟩⟩
    | j+1,ej =>
     have ej':(envOf N ds)[j]?=some s:=by simpa using ej
     have hs:=B.slot j s ej'
     rw [List.getElem?_cons_succ]
     rcases oW ej' with rfl | ⟨d,rfl⟩
     ·trivial
     ·obtain ⟨u,eu,ru⟩:=hs; exact ⟨u,eu,ru.mono (aG.refl _) fun b z=>⟨z.1,fun w=>hA (w ▸ z.1)⟩⟩
   ·rw [List.length_cons,List.length_cons,B.len]
  refine ⟨⟨A,H,fun b=>b=x⟩,fun b=>b=x,.obj k ks ds0::envOf N ds,fl,start,e1, ?_⟩
  exact Af hC e q
section
variable {P:Program}{w:World}{K:PySem.W.Frag}{mg:Str→Option Value}{base:Heap}{c:Ct}
theorem Ag {z x qual:Str}{st:Stmt}{C fa:Addr}{fd:FuncData}{y:Str}{N ps:List Str}{k:Nat}{F:FS}(Fn:Fun K x qual st fa fd)(S:aB (y::N) (y::ps) (ag st))(hb:Binds K fd (y::ps) [])
  (body:BodyOk P w K mg base c (y::N) st k F) (hm:mg z=some (.ref C)) (M:qR K C "__init__" fa):rX P w K mg base c z ps.length (k+1) (wB N.length F):=by
 refine ⟨C,fa,fd,_,hm,M, ?_,hb⟩
 refine Fn.ok S (fun vs H Q E h=>h.1) fun cdv A outer s H vs Q E hr h=>⟨_,body.ok _ rfl rfl rfl rfl rfl ⟨⟨rfl,rfl,rfl,S.nd⟩,fun _=>rfl,PassesOwn.never⟩ hr, ?_⟩
 exact vz (E0:=E) h
end
end DL
end
section
set_option maxHeartbeats 4000000
namespace K36
open DL L2
abbrev fuel:Nat:=100000
def bE:D:=.tup [.str [101,118,101,110],.str [115,117,109],.str [116,105,109,101,115]]
def iN:FS:=(aw (aY 1 (feC (.dct [[101,118,101,110],[115,117,109],[116,105,109,101,115],[111,118,101,114],[114,111,111,116],[109,97,114,107,101,100]] [.int 0,.int 1,.int 2,.int 3,.int 3,.int 3]))) (aW (fp3 vo (ab 1) (fp2 ixD (ab 0) (feC (.int 0))) (feC (.int 4)))))
def gN:List D→Option (D):=bH 2 iN
def j8:FS:=(aw (cW (ftB (fp2 (intD ltI) (aF 1 gN (af (ab 0) ar)) (ab 1))) (aW (cy (af (feC (.str [104,101,108,100])) (af (ab 0) ar)))) aU) (aW (ab 0)))
def fW:List D→Option (D):=bH 2 j8
def gh:FE:=(aF 2 fW (af (ab 0) (af (ab 1) ar)))
def gi:FS:=(aw (aY 5 (fp2 cz (ab 5) (fp2 ixD (feC (.str [43,45])) (fp2 (intD gK) (ab 2) (feC (.int 2)))))) (aY 2 (fp2 (intD fV) (ab 2) (feC (.int 2)))))
def fX:FS:=(aw (aY 3 (fp2 wq (feC (.dct [[101,118,101,110],[115,117,109],[116,105,109,101,115]] [.int 1,.int 2,.int 3])) (ab 1))) (aw (aY 4 (fp1 v7 (cV (cu 1 [3] (aM 0) (ab 0) bW gh)))) (aw (cW (ftB (fp2 (eqF true) (ab 1) (feC (.str [115,117,109])))) (aW (cy (af (ab 1) (af (ab 4) ar)))) aU) (aw (aY 5 (feC (.str []))) (aw (lh jC (aM 6) (af (fp2 (intD jn) (fp1 gI (ab 4)) (feC (.int 1))) ar) gi) (aW (cy (af (ab 1) (af (ab 4) (af (ab 5) ar))))))))))
def d6:List D→Option (D):=bH 7 fX
def cw:FS:=(aw (cW (ftB (fp2 (intD ltI) (ab 0) (feC (.int 3)))) (aW (fp2 cz (feC (.int 2)) (fp2 (intD gK) (ab 1) (feC (.int 4))))) aU) (aw (cW (ftB (fp2 (eqF false) (ab 0) (feC (.int 3)))) (aW (feC (.int 2))) aU) (aw (cW (ftB (fp2 (intD ltI) (ab 0) (feC (.int 6)))) (aW (feC (.int 1))) aU) (aw (cW (ftB (fp2 (eqF false) (ab 0) (feC (.int 6)))) (aW (fp2 cz (feC (.int 2)) (fp1 om (fp2 (eqF false) (fp2 (intD gK) (ab 1) (feC (.int 3))) (feC (.int 0)))))) aU) (aW (fp2 jo (fp2 cz (feC (.int 1)) (fp2 (intD gK) (ab 1) (feC (.int 3)))) (fp2 cz (feC (.int 1)) (fp2 (intD gK) (fp2 (intD fV) (ab 1) (feC (.int 3))) (feC (.int 3))))))))))
def bS:List D→Option (D):=bH 2 cw
def gD:FE:=(fp1 v7 (mB slD (ab 1) (gb (ab 0)) (gb (fp2 cz (ab 0) (ab 2)))))
def bT:FS:=(aw (cW (ftB (fp2 (intD ltI) (ab 1) (feC (.int 3)))) (aW (aF 3 d6 (af (ab 0) (af (fp2 ixD (cV (en (af (feC (.str [101,118,101,110])) (af (feC (.str [115,117,109])) (af (feC (.str [116,105,109,101,115])) ar))))) (ab 1)) (af (fp2 (intD fV) (ab 2) (feC (.int 4))) ar))))) aU) (aw (cW (ftB (fp2 (eqF false) (ab 1) (feC (.int 3)))) (aW (cy (af (feC (.str [111,118,101,114])) (af (fp2 ixD (ab 0) (feC (.int 0))) (af (fp2 ixD (ab 0) (feC (.int 1))) ar))))) aU) (aw (cW (ftB (fp2 (eqF false) (ab 1) (feC (.int 4)))) (aW (cy (af (feC (.str [114,111,111,116])) (af (fp2 ixD (ab 0) (feC (.int 0))) ar)))) aU) (aw (cW (ftB (fp2 (eqF false) (ab 1) (feC (.int 5)))) (aW (cy (af (feC (.str [104,101,108,100])) (af (fp2 ixD (ab 0) (feC (.int 0))) ar)))) aU) (aw (cW (ftB (fp2 (eqF false) (ab 1) (feC (.int 6)))) (aw (aY 3 (aF 2 fW (af (fp2 ixD (ab 0) (feC (.int 0))) (af (feC (.int 4)) ar)))) (aw (cW (ftB (fp2 (eqF false) (fp1 gI (ab 0)) (feC (.int 3)))) (aW (cy (af (feC (.str [109,97,114,107,101,100])) (af (ab 3) (af (fp2 ixD (ab 0) (feC (.int 1))) (af (fp2 ixD (ab 0) (feC (.int 2))) ar)))))) aU) (aw (cW (ftB (fp2 (eqF false) (fp2 (intD gK) (fp2 (intD fV) (ab 2) (feC (.int 3))) (feC (.int 2))) (feC (.int 0)))) (aW (cy (af (feC (.str [109,97,114,107,101,100])) (af (ab 3) (af (fp2 ixD (ab 0) (feC (.int 1))) (af (feC .non) ar)))))) aU) (aW (cy (af (feC (.str [109,97,114,107,101,100])) (af (ab 3) (af (feC .non) (af (fp2 ixD (ab 0) (feC (.int 1))) ar))))))))) aU) (aw (aY 4 (fp2 cz (feC (.int 1)) (fp2 (intD gK) (fp2 (intD fV) (ab 2) (feC (.int 3))) (feC (.int 3))))) (aW (cy (af (feC (.str [116,97,98,108,101])) (af (fp1 v7 (cV (gA tJ 1 [0,4] (aM 0) (af (feC (.int 0)) (af (fp1 gI (ab 0)) (af (ab 4) ar))) bW gD))) ar))))))))))
def bK:List D→Option (D):=bH 5 bT
def fD:FS:=(aw (aY 3 (fp2 cz (ab 3) (fp2 ixD (feC (.str [97,98,99,100,101,102,103,104,105,106,107,108,109,110,111,112,113,114,115,116,117,118,119,120,121,122])) (fp2 (intD gK) (ab 1) (feC (.int 26)))))) (aY 1 (fp2 (intD fV) (ab 1) (feC (.int 26)))))
def jv:FS:=(aw (aY 1 (fp2 (intD gK) (fp2 jo (ab 0) (feC (.int 1099087573))) (feC (.int 10000000000037)))) (aw (aY 2 (fp2 cz (feC (.int 1)) (fp2 (intD gK) (ab 1) (feC (.int 8))))) (aw (aY 1 (fp2 (intD fV) (ab 1) (feC (.int 8)))) (aw (aY 3 (feC (.str []))) (aw (lh jC (aM 4) (af (ab 2) ar) fD) (aW (ab 3)))))))
def iD:List D→Option (D):=bH 5 jv
def iE:FS:=(aw (cW (ftB (fp2 (eqF false) (fp2 (intD gK) (ab 0) (feC (.int 3))) (feC (.int 0)))) (aW (cy (af (feC (.str [110,117,109,98,101,114])) (af (fp2 (intD gK) (fp2 (intD fV) (ab 0) (feC (.int 3))) (fp2 (intD xx) (feC (.int 10)) (feC (.int 9)))) ar)))) aU) (aW (cy (af (feC (.str [110,97,109,101])) (af (aF 1 iD (af (fp2 (intD fV) (ab 0) (feC (.int 3))) ar)) ar)))))
def gw:List D→Option (D):=bH 1 iE
def fE:FE:=(fp2 ixD (ab 0) (feC (.int 1)))
def fF:FE:=(fp2 ixD (ab 0) (feC (.int 2)))
def fG:FE:=(fp2 ixD (ab 0) (feC (.int 0)))
def gx:FS:=(aw (aY 2 (fp2 (intD gK) (ab 1) (feC (.int 16)))) (aw (aY 3 (fp2 (intD fV) (ab 1) (feC (.int 16)))) (aw (cW (ftB (fp2 (intD ltI) (ab 2) (feC (.int 8)))) (aw (aY 4 (aF 2 bS (af (ab 2) (af (ab 3) ar)))) (aw (aY 5 (mB slD (ab 0) (gb (fp1 maxD (af (feC (.int 0)) (af (fp2 (intD jn) (fp1 gI (ab 0)) (ab 4)) ar)))) iY)) (aw (aY 6 (fp2 oj (cV (cu 1 [] (aM 0) (ab 5) bW fE)) (feC (.int 99)))) (aw (aY 7 (fp1 zA (cV (cu 1 [] (aM 0) (ab 5) bW fF)))) (cW (jA (ftB (fp2 (intD leI) (ab 4) (fp1 gI (ab 0)))) (jA (ftB (fp2 (intD leI) (ab 6) (feC (.int 8)))) (o5 (jA (ftB (fp2 (eqF false) (ab 2) (feC (.int 7)))) (ftB (ab 7)))))) (aw (aY 8 (aF 3 bK (af (cV (cu 1 [] (aM 0) (ab 5) bW fG)) (af (ab 2) (af (ab 3) ar))))) (aw (aY 6 (fp2 cz (fp2 cz (ab 6) (feC (.int 1))) (fp1 om (xv (fp2 (intD ltI) (ab 2) (feC (.int 3))) (fp2 (eqF false) (ab 2) (feC (.int 6))))))) (eE (fp2 v5 (mB slD (ab 0) iY (gb (fp2 (intD jn) (fp1 gI (ab 0)) (ab 4)))) (cV (en (af (cy (af (ab 8) (af (ab 6) (af (xv (ab 7) (fp2 (eqF false) (ab 2) (feC (.int 7)))) ar)))) ar))))))) aU))))) aU) (eE (fp2 v5 (ab 0) (cV (en (af (cy (af (aF 1 gw (af (ab 3) ar)) (af (feC (.int 1)) (af (feC (.bl false)) ar)))) ar))))))))
def fT:List D→Option (List D):=cC 9 gx
def eZ:FS:=(aY 1 (cV (aF 2 fT (af (ab 1) (af (ab 2) ar)))))
def dF:FE:=(fp2 ixD (ab 0) (feC (.int 0)))
def cE:FS:=(aw (aY 1 (cV (en ar))) (aw (kN (aM 2) (mB slD (ab 0) iY (gb (feC (.int 63)))) eZ) (aw (aY 3 (cV (cu 1 [] (aM 0) (ab 1) bW dF))) (aw (cW (ftB (fp2 (eqF false) (ab 3) (cV (en ar)))) (aW (cy (af (feC (.str [110,97,109,101])) (af (feC (.str [120])) ar)))) aU) (aw (cW (ftB (fp2 (eqF false) (fp1 gI (ab 3)) (feC (.int 1)))) (aW (fp2 ixD (ab 3) (feC (.int 0)))) aU) (aw (aY 4 (fp2 (intD gK) (fp2 jo (fp2 ixD (ab 0) (fp2 (intD jn) (fp1 gI (ab 0)) (feC (.int 1)))) (feC (.int 1099087573))) (fp2 (intD xx) (feC (.int 10)) (feC (.int 20))))) (aW (aF 3 d6 (af (ab 3) (af (fp2 ixD (cV (en (af (feC (.str [101,118,101,110])) (af (feC (.str [115,117,109])) (af (feC (.str [116,105,109,101,115])) ar))))) (fp2 (intD gK) (fp2 ixD (ab 0) (feC (.int 0))) (feC (.int 3)))) (af (ab 4) ar)))))))))))
def bY:List D→Option (D):=bH 5 cE
def eg:FE:=(fp1 (bx 0) (fp2 ixD (ab 0) (ab 1)))
def eh:FE:=(fp1 ix (cV (cu 1 [0] (aM 0) (ab 1) bW eg)))
def fK:FS:=(eE (gA jC 1 [0] (aM 0) (af (fp1 gI (fp2 ixD (ab 0) (feC (.int 0)))) ar) bW eh))
def eo:List D→Option (List D):=cC 1 fK
def fb:FE:=(fp1 (bx 1) (ab 0))
def gF:FS:=(aW (fp1 ix (cV (cu 1 [] (aM 0) (ab 0) bW fb))))
def cF:List D→Option (D):=bH 1 gF
def fc:FE:=(fp1 (bx 2) (ab 0))
def gG:FS:=(aW (fp2 cz (fp2 cz (aF 1 cF (af (ab 0) ar)) (feC (.int 1))) (fp1 ix (cV (cu 1 [] (aM 0) (ab 0) bW fc)))))
def cG:List D→Option (D):=bH 1 gG
def cA:FS:=(aw (cW (ftB (fp2 (intD gtI) (ab 2) (feC (.int 0)))) (fB 1 (feC .non)) aU) (mL 1 (fp2 zz (en (af (ab 2) ar)) (aF 1 cG (af (ab 3) ar)))))
def fg:FS:=(aw (jB 1 (en ar)) (aw (lu (fU [2,3]) (ab 0) cA) (gR 1)))
def dG:List D→Option (List D):=cC 4 fg
def eC:FS:=(aw (fm 0 0 (ab 1)) (aw (fm 0 1 (ab 2)) (fm 0 2 (ab 3))))
def cR:IFn:=iB 3 eC
def jZ:JFn:=wB 3 eC
def gj:FS:=(aw (fB 2 (fp2 cz (ab 3) (aF 1 cF (af (ab 4) ar)))) (oe 3 zR (fp2 cz (aF 1 cG (af (ab 4) ar)) (feC (.int 1)))))
def iO:FS:=(aw (jB 2 (en ar)) (aw (aY 3 (fp1 vc (ab 1))) (aw (kN (aM 4) (ab 0) gj) (gR 2))))
def gO:List D→Option (List D):=cC 5 iO
def eK:FE:=(cV (fp1 kI (ab 0)))
def iP:FS:=(aw (fm 0 12 (cV (cu 1 [] (aM 0) (ab 1) bW eK))) (aw (fm 0 13 (cV (aF 1 eo (af (j3 0 12) ar)))) (aw (fm 0 14 (cV (aF 1 dG (af (j3 0 12) ar)))) (aw (aY 2 (fp1 gI (j3 0 14))) (aw (aY 3 (fp2 (intD fV) (fp2 (intD jn) (ab 2) (feC (.int 1))) (feC (.int 2)))) (aw (m6 0 3 jZ (af (fp2 cz (fp1 xy (j3 0 13)) (fp2 jo (feC (.int 2)) (fp1 gI (j3 0 13)))) (af (ab 3) (af (fp2 (intD jn) (fp2 (intD jn) (ab 2) (feC (.int 1))) (ab 3)) ar)))) (fm 0 15 (cV (aF 2 gO (af (j3 0 12) (af (ab 3) ar)))))))))))
def mM:IFn:=iB 3 iP
def iQ:FS:=(aw (j0 0 3 cR (af (fp1 gI (ab 1)) (af (feC (.int 0)) (af (feC (.int 0)) ar)))) (fm 0 3 (ab 1)))
def mN:IFn:=iB 1 iQ
def fL:FE:=(fp1 (bx 0) (ab 0))
def fM:FE:=(fp1 (bx 1) (ab 0))
def fN:FE:=(fp1 (bx 2) (ab 0))
def i7:FS:=(aw (aY 3 (fp2 cz (fp1 xy (cV (cu 1 [] (aM 0) (ab 1) bW fL))) (fp2 jo (feC (.int 3)) (fp2 (intD jn) (fp1 gI (ab 1)) (feC (.int 1)))))) (aw (aY 4 (fp1 ix (cV (cu 1 [] (aM 0) (ab 1) bW fM)))) (aw (aY 5 (fp1 ix (cV (cu 1 [] (aM 0) (ab 1) bW fN)))) (aw (j0 0 3 cR (af (ab 3) (af (ab 4) (af (ab 5) ar)))) (aw (fm 0 4 (cV (fp1 kI (ab 1)))) (fm 0 5 (ab 2)))))))
def m9:IFn:=iB 5 i7
def iR:FS:=(aW (fp2 cz (fp2 cz (fp1 (bx 1) (ab 0)) (feC (.int 1))) (fp1 (bx 2) (ab 0))))
def cb:List D→Option (D):=bH 1 iR
def iS:FS:=(aw (j0 0 3 cR (af (fp2 cz (fp1 maxD (af (fp1 (bx 0) (ab 1)) (af (fp1 (bx 0) (ab 2)) ar))) (feC (.int 2))) (af (aF 1 cb (af (ab 1) ar)) (af (aF 1 cb (af (ab 2) ar)) ar)))) (aw (fm 0 6 (ab 1)) (fm 0 7 (ab 2))))
def oX:IFn:=iB 2 iS
def iT:FS:=(aw (j0 0 3 cR (af (fp2 cz (fp1 (bx 0) (ab 1)) (feC (.int 2))) (af (fp2 cz (fp1 (bx 1) (ab 1)) (feC (.int 1))) (af (fp1 (bx 2) (ab 1)) ar)))) (fm 0 8 (ab 1)))
def oY:IFn:=iB 1 iT
def dH:FE:=(ab 0)
def bU:FT:=(ftB (fp1 (gZ true) (ab 0)))
def dI:FE:=(fp1 (bx 0) (ab 0))
def dq:FS:=(aw (aY 4 (cV (cu 1 [] (aM 0) (cy (af (ab 2) (af (ab 3) ar))) bU dH))) (aw (aY 5 (fp2 oj (cV (cu 1 [] (aM 0) (ab 4) bW dI)) (feC (.int 0)))) (aw (aY 6 (fp2 cz (fp1 (bx 1) (ab 1)) (sY (ftB (fp1 (gZ false) (ab 2))) (feC (.int 0)) (aF 1 cb (af (ab 2) ar))))) (aw (aY 7 (fp2 cz (fp1 (bx 2) (ab 1)) (sY (ftB (fp1 (gZ false) (ab 3))) (feC (.int 0)) (aF 1 cb (af (ab 3) ar))))) (aw (j0 0 3 cR (af (fp2 cz (fp1 (bx 0) (ab 1)) (ab 5)) (af (ab 6) (af (ab 7) ar)))) (aw (fm 0 9 (ab 1)) (aw (fm 0 10 (ab 2)) (fm 0 11 (ab 3)))))))))
def gP:IFn:=iB 7 dq
def iU:FS:=(aw (j0 0 3 cR (af (fp2 cz (fp1 (bx 0) (ab 1)) (feC (.int 2))) (af (fp1 (bx 1) (ab 1)) (af (fp1 (bx 2) (ab 1)) ar)))) (fm 0 8 (ab 1)))
def oZ:IFn:=iB 1 iU
def gy:FS:=(aw (cW (ftB (fp2 (eqF false) (fp2 ixD (ab 0) (feC (.int 0))) (feC (.str [115,117,109])))) (aW (fp2 ixD (ab 0) (feC (.int 2)))) aU) (aw (aY 1 (sY (ftB (fp2 (eqF false) (fp2 ixD (ab 0) (feC (.int 0))) (feC (.str [101,118,101,110])))) (feC (.str [61])) (feC (.str [42])))) (aW (fp2 jo (ab 1) (fp2 (intD jn) (fp1 gI (fp2 ixD (ab 0) (feC (.int 1)))) (feC (.int 1)))))))
def dt:List D→Option (D):=bH 2 gy
def kT:FS:=(tT 1 (ab 2))
def lC:FS:=(aw (jB 1 (en ar)) (aw (kN (aM 2) (ab 0) kT) (gR 1)))
def lE:List D→Option (List D):=cC 3 lC
def kU:FE:=(ab 0)
def kW:FT:=(ftB (fp1 (gZ true) (ab 0)))
def jw:FS:=(aw (aY 1 (fp2 ixD (ab 0) (feC (.int 0)))) (aw (cW (zc (ftB (fp2 (eqF false) (ab 1) (feC (.str [110,97,109,101])))) (ftB (fp2 (eqF false) (ab 1) (feC (.str [110,117,109,98,101,114]))))) (eE (en ar)) aU) (aw (cW (ftB (fp2 (inD false) (ab 1) (feC bE))) (eE (fp1 kI (fp2 ixD (ab 0) (feC (.int 1))))) aU) (aw (cW (ftB (fp2 (eqF false) (ab 1) (feC (.str [109,97,114,107,101,100])))) (eE (fp2 v5 (cV (en (af (fp2 ixD (ab 0) (feC (.int 1))) ar))) (cV (cu 1 [] (aM 0) (mB slD (ab 0) (gb (feC (.int 2))) iY) kW kU)))) aU) (aw (cW (ftB (fp2 (eqF false) (ab 1) (feC (.str [116,97,98,108,101])))) (eE (aF 1 lE (af (fp2 ixD (ab 0) (feC (.int 1))) ar))) aU) (eE (fp1 kI (mB slD (ab 0) (gb (feC (.int 1))) iY))))))))
def iF:List D→Option (List D):=cC 2 jw
structure uc where
 bf:List D→Option (D)
 cg:List D→Option (List D)
 bL:List D→Option (D)
def aV (R:uc):FS:=(aw (aY 1 (fp2 ixD (ab 0) (feC (.int 0)))) (aw (cW (ftB (fp2 (eqF false) (ab 1) (feC (.str [110,97,109,101])))) (aW (gU 1 1 mN (af (fp2 ixD (ab 0) (feC (.int 1))) ar))) aU) (aw (cW (ftB (fp2 (eqF false) (ab 1) (feC (.str [110,117,109,98,101,114])))) (aW (gU 1 1 mN (af (fp1 u0 (fp2 ixD (ab 0) (feC (.int 1)))) ar))) aU) (aw (cW (ftB (fp2 (inD false) (ab 1) (feC bE))) (aW (gU 2 2 m9 (af (cV (aF 1 R.cg (af (cV (aF 1 iF (af (ab 0) ar))) ar))) (af (aF 1 dt (af (ab 0) ar)) ar)))) aU) (aw (cW (ftB (fp2 (eqF false) (ab 1) (feC (.str [111,118,101,114])))) (aW (gU 3 2 oX (af (aF 1 R.bf (af (fp2 ixD (ab 0) (feC (.int 1))) ar)) (af (aF 1 R.bf (af (fp2 ixD (ab 0) (feC (.int 2))) ar)) ar)))) aU) (aw (cW (ftB (fp2 (eqF false) (ab 1) (feC (.str [114,111,111,116])))) (aW (gU 4 1 oY (af (aF 1 R.bf (af (fp2 ixD (ab 0) (feC (.int 1))) ar)) ar))) aU) (aw (cW (ftB (fp2 (eqF false) (ab 1) (feC (.str [109,97,114,107,101,100])))) (aW (gU 5 3 gP (af (aF 1 R.bf (af (fp2 ixD (ab 0) (feC (.int 1))) ar)) (af (aF 1 R.bL (af (fp2 ixD (ab 0) (feC (.int 2))) ar)) (af (aF 1 R.bL (af (fp2 ixD (ab 0) (feC (.int 3))) ar)) ar))))) aU) (aw (cW (ftB (fp2 (eqF false) (ab 1) (feC (.str [104,101,108,100])))) (aW (gU 6 1 oZ (af (aF 1 R.bf (af (fp2 ixD (ab 0) (feC (.int 1))) ar)) ar))) aU) (aW (gU 7 1 mM (af (cV (cu 1 [] (aM 0) (fp2 ixD (ab 0) (feC (.int 1))) bW (cV (aF 1 R.cg (af (ab 0) ar))))) ar)))))))))))
def du (R:uc):FS:=(eE (cu 1 [] (aM 0) (ab 0) bW (aF 1 R.bf (af (ab 0) ar))))
def dw (R:uc):FS:=(aW (sY (ftB (fp1 (gZ false) (ab 0))) (feC .non) (aF 1 R.bf (af (ab 0) ar))))
def DN0:Nat→uc
 | 0=>⟨fun _=>none,fun _=>none,fun _=>none⟩
 | n+1=>⟨bH 2 (aV (DN0 n)),cC 1 (du (DN0 n)),bH 1 (dw (DN0 n))⟩
abbrev qT:Nat:=40
abbrev ka:List D→Option (D):=(DN0 qT).bf
abbrev pS:List D→Option (List D):=(DN0 qT).cg
abbrev pT:List D→Option (D):=(DN0 qT).bL
def gk:FS:=(eE (en ar))
def eL:List D→Option (List D):=cC 1 gk
def fj:FS:=(aw (fB 1 (cy (af (ab 3) (af (feC (.int 0)) (af (ab 2) ar))))) (oe 2 zR (fp2 cz (fp1 (bx 0) (ab 3)) (feC (.int 3)))))
def gH:FS:=(aw (jB 1 (en ar)) (aw (aY 2 (feC (.int 0))) (aw (kN (aM 3) (fp1 (bx 4) (ab 0)) fj) (gR 1))))
def fH:List D→Option (List D):=cC 4 gH
def kz:FS:=(aW (fp2 (intD fV) (fp2 (intD jn) (ab 1) (ab 0)) (feC (.int 2))))
def iq:List D→Option (D):=bH 2 kz
def i8:FS:=(aw (aY 1 (cy (af (fp1 (bx 6) (ab 0)) (af (fp2 (intD jn) (fp1 vc (feC (.int 1))) (fp1 (bx 2) (fp1 (bx 6) (ab 0)))) (af (aF 2 iq (af (fp1 (bx 0) (fp1 (bx 6) (ab 0))) (af (fp1 (bx 0) (ab 0)) ar))) ar))))) (aw (aY 2 (cy (af (fp1 (bx 7) (ab 0)) (af (fp2 cz (feC (.int 1)) (fp1 (bx 1) (fp1 (bx 7) (ab 0)))) (af (aF 2 iq (af (fp1 (bx 0) (fp1 (bx 7) (ab 0))) (af (fp1 (bx 0) (ab 0)) ar))) ar))))) (eE (en (af (ab 1) (af (ab 2) ar))))))
def i9:List D→Option (List D):=cC 3 i8
def ia:FS:=(eE (en (af (cy (af (fp1 (bx 8) (ab 0)) (af (feC (.int 0)) (af (feC (.int 2)) ar)))) ar)))
def ib:List D→Option (List D):=cC 1 ia
def dD:FS:=(aW (fp2 (intD jn) (fp2 (intD jn) (fp1 vc (fp1 (bx 1) (fp1 (bx 9) (ab 0)))) (feC (.int 1))) (fp1 (bx 2) (fp1 (bx 10) (ab 0)))))
def cB:List D→Option (D):=bH 1 dD
def eD:mI (D):=fun c=>match c with
 | 5=>some ([0,1,2,9,10,11],cB)
 | _=>none
def d7:FS:=(aW (fp2 cz (fp2 cz (fp1 (bx 2) (fp1 (bx 9) (ab 0))) (feC (.int 1))) (fp1 (bx 1) (fp1 (bx 11) (ab 0)))))
def cj:List D→Option (D):=bH 1 d7
def dJ:mI (D):=fun c=>match c with
 | 5=>some ([0,1,2,9,10,11],cj)
 | _=>none
def cS:FS:=(aw (jB 1 (en (af (cy (af (fp1 (bx 9) (ab 0)) (af (feC (.int 0)) (af (feC (.int 0)) ar)))) ar))) (aw (cW (ftB (fp1 (gZ true) (fp1 (bx 10) (ab 0)))) (fB 1 (cy (af (fp1 (bx 10) (ab 0)) (af (jY 0 eD (ab 0) ar) (af (fp1 (bx 0) (fp1 (bx 9) (ab 0))) ar))))) aU) (aw (cW (ftB (fp1 (gZ true) (fp1 (bx 11) (ab 0)))) (fB 1 (cy (af (fp1 (bx 11) (ab 0)) (af (jY 0 dJ (ab 0) ar) (af (fp1 (bx 0) (fp1 (bx 9) (ab 0))) ar))))) aU) (gR 1))))
def ck:List D→Option (List D):=cC 2 cS
def ic:FS:=(eE (en (af (cy (af (fp1 (bx 8) (ab 0)) (af (feC (.int 0)) (af (feC (.int 1)) ar)))) ar)))
def ie:List D→Option (List D):=cC 1 ic
def fO:FS:=(aw (fB 1 (cy (af (ab 5) (af (ab 3) (af (fp2 (intD jn) (fp2 cz (ab 4) (ab 6)) (fp1 (bx 0) (ab 5))) ar))))) (oe 4 zR (fp2 cz (ab 6) (feC (.int 2)))))
def fP:FS:=(aw (aY 4 (feC (.int 1))) (mK tX (fU [5,6]) (af (ab 2) (af (fp1 (bx 13) (ab 0)) ar)) fO))
def ig:FS:=(aw (jB 1 (en ar)) (aw (mK tX (fU [2,3]) (af (fp1 (bx 12) (ab 0)) (af (fp1 (bx 15) (ab 0)) ar)) fP) (gR 1)))
def ij:List D→Option (List D):=cC 7 ig
def dM:mI (List D):=fun c=>match c with
 | 0=>some ([0,1,2],eL)
 | 1=>some ([0,1,2,3],eL)
 | 2=>some ([0,1,2,4,5],fH)
 | 3=>some ([0,1,2,6,7],i9)
 | 4=>some ([0,1,2,8],ib)
 | 5=>some ([0,1,2,9,10,11],ck)
 | 6=>some ([0,1,2,8],ie)
 | 7=>some ([12,13,14,0,1,2,15],ij)
 | _=>none
def er (bM:List D→Option (List D)):FS:=(aw (jB 4 (en (af (cy (af (ab 1) (af (fp2 (intD jn) (ab 2) (fp1 (bx 1) (ab 0))) (af (ab 3) (af (aF 1 cb (af (ab 0) ar)) (af (fp1 (bx 0) (ab 0)) (af (ab 2) ar))))))) ar))) (aw (lu (fU [5,6]) (cV (jY 0 dM (ab 0) ar)) (mL 4 (aF 4 bM (af (fp2 ixD (ab 6) (feC (.int 0))) (af (fp2 ye (ab 1) (cy (af (ab 5) ar))) (af (fp2 cz (ab 2) (fp2 ixD (ab 6) (feC (.int 1)))) (af (fp2 cz (ab 3) (fp2 ixD (ab 6) (feC (.int 2)))) ar))))))) (gR 4)))
def cQ:Nat→List D→Option (List D)
 | 0=>fun _=>none
 | n+1=>cC 7 (er (cQ n))
abbrev iG:Nat:=16
abbrev bM:List D→Option (List D):=cQ iG
def iV:FS:=(aw (aY 1 (aF 1 ka (af (ab 0) ar))) (eE (aF 4 bM (af (ab 1) (af (cy ar) (af (fp1 (bx 1) (ab 1)) (af (feC (.int 0)) ar)))))))
def d9:List D→Option (List D):=cC 2 iV
def fk:FS:=(aw (cW (ftB (fp2 (eqF false) (fp2 (intD gK) (ab 0) (feC (.int 8))) (feC (.int 0)))) (aW (fp2 (intD jn) (fp2 (intD gK) (fp2 (intD fV) (ab 0) (feC (.int 8))) (feC (.int 2000000001))) (feC (.int 1000000000)))) aU) (aw (cW (ftB (fp2 (eqF false) (fp2 (intD gK) (ab 0) (feC (.int 8))) (feC (.int 1)))) (aW (fp2 ixD (cV (en (af (fp1 vc (feC (.int 1))) (af (ab 1) (af (feC (.int 0)) (af (fp2 (intD jn) (ab 1) (feC (.int 1))) ar)))))) (fp2 (intD gK) (fp2 (intD fV) (ab 0) (feC (.int 8))) (feC (.int 4))))) aU) (aW (fp2 (intD gK) (fp2 (intD gK) (fp2 jo (fp2 (intD fV) (ab 0) (feC (.int 8))) (feC (.int 48271))) (feC (.int 2147483647))) (ab 1)))))
def da:List D→Option (D):=bH 2 fk
def ik:FS:=(cW (jA (ftB (gf leB ltB (ab 5) (ab 1) (fp2 cz (ab 5) (ab 7)))) (ftB (gf leB ltB (ab 6) (ab 2) (fp2 cz (ab 6) (ab 8))))) (aY 3 (ab 4)) aU)
def kC:FS:=(aw (aY 3 (feC .non)) (aw (kN (fU [4,5,6,7,8,9]) (cV (aF 1 d9 (af (ab 0) ar))) ik) (aW (ab 3))))
def j9:List D→Option (D):=bH 10 kC
def fI:FS:=(aw (cW (ftB (fp2 (intD ltI) (ab 1) (fp1 gI (ab 0)))) (aW (fp2 ixD (ab 0) (ab 1))) aU) (aW (feC (.int 0))))
def dz:List D→Option (D):=bH 2 fI
def kE:FS:=(aW (sX (gf leB ltB (fp2 ixD (ab 0) (feC (.int 1))) (ab 1) (fp2 cz (fp2 ixD (ab 0) (feC (.int 1))) (fp2 ixD (ab 0) (feC (.int 3))))) (gf leB ltB (fp2 ixD (ab 0) (feC (.int 2))) (ab 2) (fp2 cz (fp2 ixD (ab 0) (feC (.int 2))) (fp2 ixD (ab 0) (feC (.int 4)))))))
def iu:List D→Option (D):=bH 3 kE
def cT:FE:=(ab 0)
def cU:FT:=(jA (ftB (fp2 (eqF false) (fp2 ixD (ab 0) (feC (.int 0))) (ab 1))) (ftB (aF 3 iu (af (ab 0) (af (ab 2) (af (ab 3) ar))))))
def bV:FS:=(cW (jA (ftB (fp2 (eqF false) (fp1 gI (fp2 ixD (ab 6) (feC (.int 0)))) (fp2 cz (ab 5) (feC (.int 1))))) (jA (ftB (fp2 (eqF false) (mB slD (fp2 ixD (ab 6) (feC (.int 0))) iY (gb (ab 5))) (ab 1))) (ftB (aF 3 iu (af (ab 6) (af (ab 2) (af (ab 3) ar))))))) (aW (feC (.bl false))) aU)
def fQ:FS:=(aw (cW (o5 (ftB (fp1 (qF .tuple) (ab 1)))) (aW (feC (.bl false))) aU) (aw (aY 4 (cV (cu 1 [1,2,3] (aM 0) (ab 0) cU cT))) (aw (aY 5 (fp1 gI (ab 1))) (aw (kN (aM 6) (ab 0) bV) (aW (fp2 (eqF false) (fp1 gI (ab 4)) (feC (.int 1))))))))
def ez:List D→Option (D):=bH 7 fQ
def ma:FS:=(aw (aY 7 (aF 2 da (af (fp2 cz (aF 2 dz (af (ab 0) (af (fp2 jo (feC (.int 3)) (ab 6)) ar))) (ab 6)) (af (ab 3) ar)))) (fB 5 (cy (af (ab 7) (af (aF 2 da (af (fp2 cz (aF 2 dz (af (ab 0) (af (fp2 cz (fp2 jo (feC (.int 3)) (ab 6)) (feC (.int 1))) ar))) (fp2 jo (feC (.int 11)) (ab 6))) (af (ab 4) ar))) ar)))))
def ke:FE:=(aF 3 j9 (af (ab 2) (af (ab 0) (af (ab 1) ar))))
def gQ:FS:=(aw (qL (fU [7,11]) (fp2 ixD (kZ 5) (ab 9))) (cW (jA (ftB (gf leB ltB (feC (.int 0)) (ab 7) (ab 3))) (ftB (gf leB ltB (feC (.int 0)) (ab 11) (ab 4)))) (cW (o5 (ftB (aF 4 ez (af (ab 2) (af (ab 10) (af (ab 7) (af (ab 11) ar))))))) (aW (feC (.bl false))) aU) (cW (ftB (fp1 (gZ true) (ab 10))) (aW (feC (.bl false))) aU)))
def wC:FS:=(aw (aY 1 (aF 1 bY (af (mB slD (ab 0) iY (gb (feC (.int 24)))) ar))) (aw (aY 2 (cV (aF 1 d9 (af (ab 1) ar)))) (aw (qL (fU [3,4]) (mB slD (fp2 ixD (ab 2) (feC (.int 0))) (gb (feC (.int 3))) (gb (feC (.int 5))))) (aw (jB 5 (en ar)) (aw (lh jC (aM 6) (af (feC (.int 4)) ar) ma) (aw (aY 8 (cV (cu 2 [1] (fU [0,1]) (kZ 5) bW ke))) (aw (lu (fU [9,10]) (ab 8) gQ) (aW (fp2 (eqF false) (cV (cu 2 [1] (fU [0,1]) (kZ 5) bW ke)) (ab 8))))))))))
def ud:List D→Option (D):=bH 12 wC
theorem yg (c m:Int)(k:Nat)(hk:k<8):∃ (m':Int) (w:List Nat) (s:Slot),runFor (aM 4) fD (cX 0 (k+1)) [.val (.int c),.val (.int m),.val (.int (1+k)),.val (.str []),.no]=some (.nx [.val (.int c),.val (.int m'),.val (.int (1+k)),.val (.str w),s])∧w.length=k+1∧∀ x∈w,97≤x∧x≤122:=by
 have loop:=oq (tg:=aM 4) (body:=fD)
  (fun ds env=>∃ (m:Int) (w:List Nat) (s:Slot),env=[.val (.int c),.val (.int m),.val (.int (1+k)),.val (.str w),s]∧w.length+ds.length=k+1∧∀ x∈w,97≤x∧x≤122) (cX 0 (k+1))
  (env:=[.val (.int c),.val (.int m),.val (.int (1+k)),.val (.str []),.no]) ⟨_,[],_,rfl,by unfold cX; simp,by simp⟩ ?_
 ·obtain ⟨env',h1,m,w,s,rfl,h2,h3⟩:=loop
  exact ⟨m,w,s,h1,by simpa using h2,h3⟩
 ·rintro d ds env ⟨m,w,s,rfl,h2,h3⟩
  obtain ⟨j,hj,hj26⟩:=gC m 26 (by decide)
  simp only [Int.cast_ofNat_Int] at hj
  have hget:([97,98,99,100,101,102,103,104,105,106,107,108,109,110,111,112,113,114,115,116,117,118,119,120,121,122]:List Nat)[j]?=some (97+j):=by
   have:∀ j<26,([97,98,99,100,101,102,103,104,105,106,107,108,109,110,111,112,113,114,115,116,117,118,119,120,121,122]:List Nat)[j]?=some (97+j):=by decide
   exact this j hj26
  refine ⟨_,_,rfl, ?_,m / 26,w++[97+j],.val d,rfl,by simp at h2 ⊢; omega, ?_⟩
  ·have hw:w.length+1≤1000000:=by simp at h2; omega
   simp [fD,gK,fV,hj,jR,hget,hw]
  ·intro x hx
   rcases List.mem_append.mp hx with hx | hx
   ·exact h3 x hx
   ·simp at hx; omega
theorem Cr (c:Int):∃ w:List Nat,iD [.int c]=some (.str w)∧1≤w.length∧w.length≤8∧∀ x∈w,97≤x∧x≤122:=by
 obtain ⟨k,hk,hk8⟩:=gC (c * 1099087573 % 10000000000037) 8 (by decide)
 simp only [Int.cast_ofNat_Int] at hk
 obtain ⟨m',w,s,h1,h2,h3⟩:=yg c (c * 1099087573 % 10000000000037 / 8) k hk8
 refine ⟨w, ?_,by clear hk h1; omega,by clear hk h1; omega,h3⟩
 have hr:jC [.int (1+(k:Int))]=some (cX 0 (k+1)):=rK (by clear hk h1; omega) (by clear hk h1; omega)
 have hm:=jq c 1099087573 (by decide)
 have h4:=bR (c * 1099087573) 10000000000037 (by decide)
 have h5:=bR (c * 1099087573 % 10000000000037) 8 (by decide)
 have h6:=eB (c * 1099087573 % 10000000000037) 8 (by decide)
 rw [hk] at h5
 generalize c * 1099087573 % 10000000000037=N at *
 generalize c * 1099087573=N' at *
 simp only [iD,ay,jv,envOf]
 simp [hm,h4,h5,h6,hr,h1]
def lev:D→Int
 | .tup (.str k::_)=>if k=[101,118,101,110] then 0 else if k=[115,117,109] then 1 else if k=[116,105,109,101,115] then 2 else if k=[111,118,101,114] then 3 else if k=[114,111,111,116] then 3 else if k=[109,97,114,107,101,100] then 3 else 4
 | _=>4
inductive Fm:Nat→Bool→D→Prop
 | name (n:Nat) (t:Bool) (w:List Nat):1≤w.length→w.length≤8→(∀ x∈w,97≤x∧x≤122)→Fm (n+1) t (.tup [.str [110,97,109,101],.str w])
 | num (n:Nat) (t:Bool) (i:Int):0≤i→i≤999999999→Fm (n+1) t (.tup [.str [110,117,109,98,101,114],.int i])
 | yh (n:Nat) (t:Bool) (ps:List D):(∀ p∈ps,Fm n t p)→(∀ p∈ps,1≤lev p)→2≤ps.length→ps.length≤80→Fm (n+1) t (.tup [.str [101,118,101,110],.tup ps])
 | sum (n:Nat) (t:Bool) (ps:List D) (z:List Nat):(∀ p∈ps,Fm n t p)→(∀ p∈ps,2≤lev p)→2≤ps.length→ps.length≤80→z.length+1=ps.length→(∀ x∈z,x=43∨x=45)→Fm (n+1) t (.tup [.str [115,117,109],.tup ps,.str z])
 | times (n:Nat) (t:Bool) (ps:List D):(∀ p∈ps,Fm n t p)→(∀ p∈ps,3≤lev p)→2≤ps.length→ps.length≤80→Fm (n+1) t (.tup [.str [116,105,109,101,115],.tup ps])
 | over (n:Nat) (t:Bool) (a b:D):Fm n t a→Fm n t b→Fm (n+1) t (.tup [.str [111,118,101,114],a,b])
 | root (n:Nat) (t:Bool) (a:D):Fm n t a→Fm (n+1) t (.tup [.str [114,111,111,116],a])
 | held (n:Nat) (t:Bool) (a:D):Fm n t a→Fm (n+1) t (.tup [.str [104,101,108,100],a])
 | markB (n:Nat) (t:Bool) (a r l:D):Fm n t a→4≤lev a→Fm n t r→Fm n t l→Fm (n+1) t (.tup [.str [109,97,114,107,101,100],a,r,l])
 | qU (n:Nat) (t:Bool) (a r:D):Fm n t a→4≤lev a→Fm n t r→Fm (n+1) t (.tup [.str [109,97,114,107,101,100],a,r,.non])
 | markL (n:Nat) (t:Bool) (a l:D):Fm n t a→4≤lev a→Fm n t l→Fm (n+1) t (.tup [.str [109,97,114,107,101,100],a,.non,l])
 | table (n:Nat) (bs:List (List D)) (w:Nat):1≤bs.length→bs.length≤9→1≤w→w≤9→(∀ b∈bs,b.length=w)→(∀ b∈bs, ∀ p∈b,Fm n false p)→Fm (n+1) true (.tup [.str [116,97,98,108,101],.tup (bs.map .tup)])
theorem Fm.up {n:Nat}{t:Bool}{d:D}(h:Fm n t d):Fm (n+1) t d:=by
 induction h with
 | name n t w h1 h2 h3=>exact .name _ _ w h1 h2 h3
 | num n t i h1 h2=>exact .num _ _ i h1 h2
 | yh n t ps _ h2 h3 h4 ih=>exact .yh _ _ ps ih h2 h3 h4
 | sum n t ps z _ h2 h3 h4 h5 h6 ih=>exact .sum _ _ ps z ih h2 h3 h4 h5 h6
 | times n t ps _ h2 h3 h4 ih=>exact .times _ _ ps ih h2 h3 h4
 | over n t a b _ _ i1 i2=>exact .over _ _ a b i1 i2
 | root n t a _ i1=>exact .root _ _ a i1
 | held n t a _ i1=>exact .held _ _ a i1
 | markB n t a r l _ h1 _ _ i1 i2 i3=>exact .markB _ _ a r l i1 h1 i2 i3
 | qU n t a r _ h1 _ i1 i2=>exact .qU _ _ a r i1 h1 i2
 | markL n t a l _ h1 _ i1 i2=>exact .markL _ _ a l i1 h1 i2
 | table n bs w h1 h2 h3 h4 h5 _ ih=>exact .table _ bs w h1 h2 h3 h4 h5 ih
theorem Fm.le {n m:Nat}{t:Bool}{d:D}(h:Fm n t d)(hm:n≤m):Fm m t d:=by
 induction hm with
 | refl=>exact h
 | step _ ih=>exact ih.up
theorem Fm.tt {n:Nat}{t:Bool}{d:D}(h:Fm n t d):Fm n true d:=by
 induction h with
 | name n t w h1 h2 h3=>exact .name _ _ w h1 h2 h3
 | num n t i h1 h2=>exact .num _ _ i h1 h2
 | yh n t ps _ h2 h3 h4 ih=>exact .yh _ _ ps ih h2 h3 h4
 | sum n t ps z _ h2 h3 h4 h5 h6 ih=>exact .sum _ _ ps z ih h2 h3 h4 h5 h6
 | times n t ps _ h2 h3 h4 ih=>exact .times _ _ ps ih h2 h3 h4
 | over n t a b _ _ i1 i2=>exact .over _ _ a b i1 i2
 | root n t a _ i1=>exact .root _ _ a i1
 | held n t a _ i1=>exact .held _ _ a i1
 | markB n t a r l _ h1 _ _ i1 i2 i3=>exact .markB _ _ a r l i1 h1 i2 i3
 | qU n t a r _ h1 _ i1 i2=>exact .qU _ _ a r i1 h1 i2
 | markL n t a l _ h1 _ i1 i2=>exact .markL _ _ a l i1 h1 i2
 | table n bs w h1 h2 h3 h4 h5 h6 _=>exact .table _ bs w h1 h2 h3 h4 h5 h6
theorem Fm.tle {n:Nat}{t u:Bool}{d:D}(h:Fm n t d)(hu:t=true→u=true):Fm n u d:=by
 cases u with
 | true=>exact h.tt
 | false=>cases t with
  | true=>exact absurd (hu rfl) (by simp)
  | false=>exact h
def hdS:List D→Nat
 | .str _::_=>1
 | _=>0
mutual
def cn:D→Nat
 | .tup ds=>hdS ds+cnL ds
 | _=>0
def cnL:List D→Nat
 | []=>0
 | d::ds=>cn d+cnL ds
end
theorem bg:cnL []=0:=by simp [cnL]
theorem aH (d:D)(ds:List D):cnL (d::ds)=cn d+cnL ds:=by simp [cnL]
theorem bB (ds:List D):cn (.tup ds)=hdS ds+cnL ds:=by simp [cn]
theorem cx (z:List Nat):cn (.str z)=0:=by simp [cn]
theorem FU (z:Int):cn (.int z)=0:=by simp [cn]
theorem rY:cn .non=0:=by simp [cn]
theorem rZ:∀ a b:List D,cnL (a++b)=cnL a+cnL b
 | [],b=>by simp [cnL]
 | x::a,b=>by rw [List.cons_append,aH,aH,rZ a b]; omega
theorem bD (k:List Nat)(ds:List D):hdS (.str k::ds)=1:=rfl
theorem Fm.tup {n:Nat}{t:Bool}{d:D}(h:Fm n t d):∃ l,d=.tup l:=by cases h <;> exact ⟨_,rfl⟩
theorem Fm.pos {n:Nat}{t:Bool}{d:D}(h:Fm n t d):1≤cn d:=by cases h <;> rw [bB,bD] <;> omega
theorem kf {n:Nat}{t:Bool}{ps:List D}(h:∀ p∈ps,Fm n t p):hdS ps=0:=by
 cases ps with
 | nil=>rfl
 | cons p ps=>obtain ⟨l,rfl⟩:=(h p List.mem_cons_self).tup; rfl
theorem p4 (bs:List (List D)):hdS (bs.map .tup)=0:=by cases bs <;> rfl
theorem FV {n:Nat}{t:Bool}{d:D}(h:Fm n t d):gN [d]=some (.int (lev d)):=by
 cases h <;> (simp [gN,ay,iN,envOf,hE]; rfl)
theorem Ah {n:Nat}{t:Bool}{d:D}(h:Fm n t d)(l:Int)(h4:l≤4):∃ e,fW [d,.int l]=some e∧Fm (n+1) t e∧l≤lev e∧cn e≤cn d+1:=by
 have hv:=FV h
 by_cases hc:lev d<l
 ·refine ⟨.tup [.str [104,101,108,100],d],by simp [fW,ay,j8,envOf,hv,hc],.held _ _ _ h,h4, ?_⟩
  simp only [bB,aH,bg,cx,bD]; omega
 ·exact ⟨d,by simp [fW,ay,j8,envOf,hv,hc],h.up,by omega,by omega⟩
theorem nS (n:Nat)(t:Bool)(l:Int)(h4:l≤4):∀ ps:List D,(∀ p∈ps,Fm n t p)→∃ ys,aS (aM 0) bW gh [.no,.val (.int l)] ps=some ys∧ys.length=ps.length∧(∀ y∈ys,Fm (n+1) t y)∧(∀ y∈ys,l≤lev y)∧cnL ys≤cnL ps+ps.length
 | [],_=>⟨[],rfl,rfl,by simp,by simp,by simp [bg]⟩
 | p::ps,h=>by
  obtain ⟨y,h1,h2,h3,h5⟩:=Ah (h p List.mem_cons_self) l h4
  obtain ⟨ys,g1,g2,g3,g5,g4⟩:=nS n t l h4 ps fun q hq=>h q (List.mem_cons_of_mem _ hq)
  refine ⟨y::ys,bA (e:=[.val p,.val (.int l)]) (by simp) rfl (by simp [gh,h1]) g1,by simp [g2],fun z hz=>?_,fun z hz=>?_, ?_⟩
  ·rcases List.mem_cons.mp hz with rfl | hz
   ·exact h2
   ·exact g3 z hz
  ·rcases List.mem_cons.mp hz with rfl | hz
   ·exact h3
   ·exact g5 z hz
  ·rw [aH,aH,List.length_cons]; omega
theorem ue (a k c d:Slot):∀ (n:Nat) (i b:Int) (z:List Nat) (s6:Slot),z.length+n≤1000→(∀ x∈z,x=43∨x=45)→∃ (b':Int) (z':List Nat) (t6:Slot),runFor (aM 6) gi (cX i n) [a,k,.val (.int b),c,d,.val (.str z),s6]=some (.nx [a,k,.val (.int b'),c,d,.val (.str z'),t6])∧z'.length=z.length+n∧∀ x∈z',x=43∨x=45
 | 0,i,b,z,s6,h,hz=>⟨b,z,s6,by rw [oE]; rfl,rfl,hz⟩
 | n+1,i,b,z,s6,h,hz=>by
  obtain ⟨q,x,hk,hx, -⟩:=BQ [43,45] 2 b (by decide) (by decide)
  have h1:=bR b 2 (by decide)
  simp only [Int.cast_ofNat_Int] at hk
  rw [hk] at h1
  have h2:=eB b 2 (by decide)
  have hl:z.length+1≤1000000:=by omega
  rw [oC,cZ (e1:=[a,k,.val (.int b),c,d,.val (.str z),.val (.int i)]) (e2:=[a,k,.val (.int (b / 2)),c,d,.val (.str (z++[x])),.val (.int i)]) (by simp) (by simp [gi,h1,h2,jR,hx,hl])]
  obtain ⟨b',z',t6,r1,r2,r3⟩:=ue a k c d n (i+1) (b / 2) (z++[x]) (.val (.int i)) (by simp; omega) (by
   intro y hy
   rcases List.mem_append.mp hy with hy | hy
   ·exact hz y hy
   ·rw [List.mem_singleton.mp hy]
    have:=List.mem_of_getElem? hx
    simpa using this)
  exact ⟨b',z',t6,r1,by rw [r2]; simp; omega,r3⟩
def RK (k:List Nat):Prop:=k=[101,118,101,110]∨k=[115,117,109]∨k=[116,105,109,101,115]
theorem ja {n:Nat}{t:Bool}(ps:List D)(k:List Nat)(b:Int)(hp:∀ p∈ps,Fm n t p)(h2:2≤ps.length)(h80:ps.length≤80)(hk:RK k):∃ d,d6 [.lst ps,.str k,.int b]=some d∧Fm (n+2) t d∧cn d≤cnL ps+ps.length+1:=by
 have hl:ps.length≤1000000:=by omega
 have hcap:∀ a b c d e f g:Slot,eW 1 [3] [a,b,c,d,e,f,g]=[.no,d]:=fun _ _ _ _ _ _ _=>rfl
 rcases hk with rfl | rfl | rfl
 ·obtain ⟨ys,g1,g2,g3,g5,g4⟩:=nS n t 1 (by omega) ps hp
  refine ⟨.tup [.str [101,118,101,110],.tup ys], ?_,.yh _ _ ys g3 g5 (by omega) (by omega), ?_⟩
  ·simp only [d6,ay,fX,envOf]
   simp [hE,hl,hcap,g1]
  ·simp only [bB,aH,bg,cx,bD,kf g3]; omega
 ·obtain ⟨ys,g1,g2,g3,g5,g4⟩:=nS n t 2 (by omega) ps hp
  obtain ⟨m,hm⟩:∃ m:Nat,m=ys.length - 1:=⟨_,rfl⟩
  have hmi:(ys.length:Int) - 1=(m:Nat):=by omega
  have hr:jC [.int (m:Int)]=some (cX 0 m):=rK rfl (by omega)
  obtain ⟨b',z',t6,r1,r2,r3⟩:=ue (.val (.lst ps)) (.val (.str [115,117,109])) (.val (.int 2)) (.val (.tup ys)) m 0 b [] .no (by simp; omega) (by simp)
  refine ⟨.tup [.str [115,117,109],.tup ys,.str z'], ?_,.sum _ _ ys z' g3 g5 (by omega) (by omega) (by rw [r2]; simp; omega) r3, ?_⟩
  ·simp only [d6,ay,fX,envOf]
   simp [hE,hl,hcap,g1,hmi,hr,r1]
  ·simp only [bB,aH,bg,cx,bD,kf g3]; omega
 ·obtain ⟨ys,g1,g2,g3,g5,g4⟩:=nS n t 3 (by omega) ps hp
  refine ⟨.tup [.str [116,105,109,101,115],.tup ys], ?_,.times _ _ ys g3 g5 (by omega) (by omega), ?_⟩
  ·simp only [d6,ay,fX,envOf]
   simp [hE,hl,hcap,g1]
  ·simp only [bB,aH,bg,cx,bD,kf g3]; omega
theorem Cs (c:Int):∃ d,gw [.int c]=some d∧Fm 1 false d∧cn d=1:=by
 obtain ⟨w,hw,w1,w2,w3⟩:=Cr (c / 3)
 have h3:=bR c 3 (by decide)
 have h4:=eB c 3 (by decide)
 have h5:=wa 10 9 (by decide)
 have h6:=bR (c / 3) 1000000000 (by decide)
 by_cases h:c % 3=0
 ·exact ⟨.tup [.str [110,117,109,98,101,114],.int (c / 3 % 1000000000)],by simp [gw,ay,iE,envOf,h3,h4,h5,h6,h],.num _ _ _ (by omega) (by omega),by simp [cn,cnL,hdS]⟩
 ·have h':(c % 3 == 0)=false:=by simpa using h
  exact ⟨.tup [.str [110,97,109,101],.str w],by simp [gw,ay,iE,envOf,h3,h4,hw,h'],.name _ _ _ w1 w2 w3,by simp [cn,cnL,hdS]⟩
def manyN (way:Nat)(b:Int):Nat:=if way<3 then (2+b % 4).toNat else if way=3 then 2 else if way<6 then 1 else if way=6 then (if b % 3=0 then 3 else 2) else ((1+b % 3) * (1+b / 3 % 3)).toNat
theorem wF (way:Nat)(b:Int)(hw:way<8):bS [.int way,.int b]=some (.int (manyN way b))∧1≤manyN way b∧manyN way b≤9:=by
 have h1:=bR b 4 (by decide)
 have h2:=bR b 3 (by decide)
 have h3:=eB b 3 (by decide)
 have h4:=bR (b / 3) 3 (by decide)
 obtain ⟨x,hx,hx3⟩:=gC b 3 (by decide)
 obtain ⟨y,hy,hy3⟩:=gC (b / 3) 3 (by decide)
 obtain ⟨u,hu,hu4⟩:=gC b 4 (by decide)
 simp only [Int.cast_ofNat_Int] at hx hy hu
 have hcs:way=0∨way=1∨way=2∨way=3∨way=4∨way=5∨way=6∨way=7:=by omega
 rcases hcs with rfl | rfl | rfl | rfl | rfl | rfl | rfl | rfl
 ·refine ⟨?_,by simp [manyN]; omega,by simp [manyN]; omega⟩
  simp [bS,ay,cw,envOf,h1,manyN]; omega
 ·refine ⟨?_,by simp [manyN]; omega,by simp [manyN]; omega⟩
  simp [bS,ay,cw,envOf,h1,manyN]; omega
 ·refine ⟨?_,by simp [manyN]; omega,by simp [manyN]; omega⟩
  simp [bS,ay,cw,envOf,h1,manyN]; omega
 ·exact ⟨by simp [bS,ay,cw,envOf,manyN],by simp [manyN],by simp [manyN]⟩
 ·exact ⟨by simp [bS,ay,cw,envOf,manyN],by simp [manyN],by simp [manyN]⟩
 ·exact ⟨by simp [bS,ay,cw,envOf,manyN],by simp [manyN],by simp [manyN]⟩
 ·by_cases hz:b % 3=0
  ·exact ⟨by simp [bS,ay,cw,envOf,manyN,h2,hz,om],by simp [manyN,hz],by simp [manyN,hz]⟩
  ·have hz':(b % 3 == 0)=false:=by simpa using hz
   exact ⟨by simp [bS,ay,cw,envOf,manyN,h2,hz,hz',om],by simp [manyN,hz],by simp [manyN,hz]⟩
 ·have hm:=xE (1+b % 3) (1+b / 3 % 3) (by omega)
  have e:(1+b % 3) * (1+b / 3 % 3)=(((1+x) * (1+y):Nat):Int):=by rw [hx,hy]; simp
  have e2:manyN 7 b=(1+x) * (1+y):=by
   show ((1+b % 3) * (1+b / 3 % 3)).toNat=_
   rw [e]; exact Int.toNat_natCast _
  have l1:(1+x) * (1+y)≤3 * 3:=Nat.mul_le_mul (by omega) (by omega)
  have l2:1 * 1≤(1+x) * (1+y):=Nat.mul_le_mul (by omega) (by omega)
  rw [e] at hm
  refine ⟨?_,by omega,by omega⟩
  rw [e2]
  simp [bS,ay,cw,envOf,h2,h3,h4,hm]
def gW (w:Nat):Nat→List D→List (List D)
 | 0,_=>[]
 | r+1,ps=>ps.take w::gW w r (ps.drop w)
theorem p5 (w:Nat):∀ (r:Nat) (ps:List D),(gW w r ps).length=r
 | 0,_=>rfl
 | r+1,ps=>by simp [gW,p5 w r]
theorem uf (w:Nat):∀ (r:Nat) (ps:List D),r * w≤ps.length→∀ b∈gW w r ps,b.length=w
 | 0,_,_,b,h=>by cases h
 | r+1,ps,hl,b,h=>by
  rw [Nat.succ_mul] at hl
  rcases List.mem_cons.mp h with rfl | h
  ·simp; omega
  ·exact uf w r (ps.drop w) (by simp; omega) b h
theorem p6 (w:Nat):∀ (r:Nat) (ps:List D), ∀ b∈gW w r ps, ∀ p∈b,p∈ps
 | 0,_,b,h,_,_=>by cases h
 | r+1,ps,b,h,p,hp=>by
  rcases List.mem_cons.mp h with rfl | h
  ·exact List.mem_of_mem_take hp
  ·exact List.mem_of_mem_drop (p6 w r _ b h p hp)
theorem ug (w:Nat):∀ (r:Nat) (ps:List D),(∀ p∈ps, ∃ l,p=.tup l)→cnL ((gW w r ps).map .tup)≤cnL ps
 | 0,ps,_=>by simp [gW,bg]
 | r+1,ps,h=>by
  have ih:=ug w r (ps.drop w) (fun p hp=>h p (List.mem_of_mem_drop hp))
  have e:cnL ps=cnL (ps.take w)+cnL (ps.drop w):=by rw [← rZ,List.take_append_drop]
  have hh:hdS (ps.take w)=0:=by
   cases hq:ps.take w with
   | nil=>rfl
   | cons q r=>obtain ⟨l,rfl⟩:=h q (List.mem_of_mem_take (by rw [hq]; exact List.mem_cons_self)); rfl
  show cnL (.tup (ps.take w)::(gW w r (ps.drop w)).map .tup)≤_
  rw [aH,bB,hh]; omega
theorem p7 (ps:List D)(w:Nat)(hw:1≤w):∀ (r i:Nat),(∀ a b:Slot,True)→aS (aM 0) bW gD [.no,.val (.lst ps),.val (.int w)] ((List.range' i r).map fun k=>D.int (0+(w:Int) * (k:Nat)))=some ((gW w r (ps.drop (i * w))).map .tup)
 | 0,i,_=>rfl
 | r+1,i,h=>by
  have ih:=p7 ps w hw r (i+1) h
  have e1:(0:Int)+(w:Int) * (i:Nat)=((i * w:Nat):Int):=by rw [Int.zero_add,Int.natCast_mul,Int.mul_comm]
  have e2:((i * w:Nat):Int)+(w:Int)=((i * w+w:Nat):Int):=by simp
  have hc:=Bz ps (i * w) (i * w+w)
  rw [show i * w+w - i * w=w by omega] at hc
  have e3:ps.drop ((i+1) * w)=(ps.drop (i * w)).drop w:=by rw [List.drop_drop,Nat.succ_mul]
  rw [List.range'_succ,List.map_cons]
  show aS _ _ _ _ (D.int (0+(w:Int) * (i:Nat))::_)=some (.tup ((ps.drop (i * w)).take w)::(gW w r ((ps.drop (i * w)).drop w)).map .tup)
  rw [← e3,e1]
  exact bA (e:=[.val (.int ((i * w:Nat):Int)),.val (.lst ps),.val (.int w)]) (by simp) rfl (by simp only [gD]; simp only [EO,Bv,xD,xC,ER,List.getElem?_cons_zero,List.getElem?_cons_succ,xA,cv,Bu,jQ,vd,e2,hc,tj]) ih
theorem Cu {n:Nat}{t:Bool}(ps:List D)(way:Nat)(b:Int)(hw:way<8)(hp:∀ p∈ps,Fm n t p)(hl:ps.length=manyN way b)(ht7:¬ (way=7∧t=true)):∃ d,bK [.lst ps,.int way,.int b]=some d∧Fm (n+1+(if way<3∨way=6 then 1 else 0)) (t || decide (way=7)) d∧cn d≤cnL ps+ps.length+1:=by
 obtain ⟨-,hm1,hm9⟩:=wF way b hw
 have f4:=eB b 4 (by decide)
 have f3:=eB b 3 (by decide)
 have f32:=bR (b / 3) 2 (by decide)
 have f33:=bR (b / 3) 3 (by decide)
 have hcs:way=0∨way=1∨way=2∨way=3∨way=4∨way=5∨way=6∨way=7:=by omega
 have two:2≤ps.length→∃ a c r,ps=a::c::r:=by
  intro h
  match ps,h with
  | a::c::r,_=>exact ⟨a,c,r,rfl⟩
 rcases hcs with rfl | rfl | rfl | rfl | rfl | rfl | rfl | rfl
 ·obtain ⟨d,h1,h2,h3⟩:=ja ps [101,118,101,110] (b / 4) hp (by rw [hl]; simp [manyN]; omega) (by omega) (.inl rfl)
  exact ⟨d,by simp [bK,ay,bT,envOf,f4,h1],by simpa using h2,by omega⟩
 ·obtain ⟨d,h1,h2,h3⟩:=ja ps [115,117,109] (b / 4) hp (by rw [hl]; simp [manyN]; omega) (by omega) (.inr (.inl rfl))
  exact ⟨d,by simp [bK,ay,bT,envOf,f4,h1],by simpa using h2,by omega⟩
 ·obtain ⟨d,h1,h2,h3⟩:=ja ps [116,105,109,101,115] (b / 4) hp (by rw [hl]; simp [manyN]; omega) (by omega) (.inr (.inr rfl))
  exact ⟨d,by simp [bK,ay,bT,envOf,f4,h1],by simpa using h2,by omega⟩
 ·have h2:ps.length=2:=hl
  obtain ⟨a,c,r,rfl⟩:=two (by omega)
  exact ⟨.tup [.str [111,118,101,114],a,c],by simp [bK,ay,bT,envOf],by simpa using Fm.over _ _ _ _ (hp a (by simp)) (hp c (by simp)),by simp only [bB,aH,bg,cx,bD]; omega⟩
 ·have h2:ps.length=1:=hl
  match ps,h2 with
  | [a],_=>exact ⟨.tup [.str [114,111,111,116],a],by simp [bK,ay,bT,envOf],by simpa using Fm.root _ _ _ (hp a (by simp)),by simp only [bB,aH,bg,cx,bD,List.length_cons]; omega⟩
 ·have h2:ps.length=1:=hl
  match ps,h2 with
  | [a],_=>exact ⟨.tup [.str [104,101,108,100],a],by simp [bK,ay,bT,envOf],by simpa using Fm.held _ _ _ (hp a (by simp)),by simp only [bB,aH,bg,cx,bD,List.length_cons]; omega⟩
 ·have h2:ps.length=if b % 3=0 then 3 else 2:=hl
  have h2' : 2≤ps.length:=by rw [h2]; split <;> omega
  obtain ⟨a,c,r,rfl⟩:=two h2'
  obtain ⟨e,g1,g2,g5,g3⟩:=Ah (hp a (by simp)) 4 (by omega)
  have hc:=(hp c (by simp)).up
  cases r with
  | nil =>
   by_cases hz:b / 3 % 2=0
   ·exact ⟨.tup [.str [109,97,114,107,101,100],e,c,.non],by simp [bK,ay,bT,envOf,g1,f3,f32,hz],by simpa using Fm.qU _ _ _ _ g2 g5 hc,by simp only [bB,aH,bg,cx,rY,bD,List.length_cons]; omega⟩
   ·have hz':(b / 3 % 2 == 0)=false:=by simpa using hz
    exact ⟨.tup [.str [109,97,114,107,101,100],e,.non,c],by simp [bK,ay,bT,envOf,g1,f3,f32,hz'],by simpa using Fm.markL _ _ _ _ g2 g5 hc,by simp only [bB,aH,bg,cx,rY,bD,List.length_cons]; omega⟩
  | cons d r =>
   have hr:r=[]:=by
    have:(a::c::d::r).length≤3:=by rw [h2]; split <;> omega
    simpa using this
   subst hr
   exact ⟨.tup [.str [109,97,114,107,101,100],e,c,d],by simp [bK,ay,bT,envOf,g1],by simpa using Fm.markB _ _ _ _ _ g2 g5 hc (hp d (by simp)).up,by simp only [bB,aH,bg,cx,bD,List.length_cons]; omega⟩
 ·obtain ⟨x,hx,hx3⟩:=gC b 3 (by decide)
  obtain ⟨y,hy,hy3⟩:=gC (b / 3) 3 (by decide)
  simp only [Int.cast_ofNat_Int] at hx hy
  have hl2:ps.length=(1+x) * (1+y):=by
   rw [hl]
   show ((1+b % 3) * (1+b / 3 % 3)).toNat=_
   rw [hx,hy]
   have:((1:Int)+(x:Nat)) * (1+(y:Nat))=(((1+x) * (1+y):Nat):Int):=by simp
   rw [this]; exact Int.toNat_natCast _
  have hwi:(1:Int)+(y:Nat)=((1+y:Nat):Int):=by omega
  rw [hy] at f33
  generalize hW:1+y=W at hl2 hwi
  have hr:tJ [.int 0,.int (ps.length:Int),.int (W:Int)]=some ((List.range' 0 (1+x)).map fun k=>D.int (0+(W:Int) * (k:Nat))):=by
   have c:(-1000000000<(0:Int)∧(0:Int)<1000000000)∧(-1000000000<(ps.length:Int)∧(ps.length:Int)<1000000000)∧0<(W:Int)∧(W:Int)<1000000000:=by
    have:ps.length≤9:=by omega
    omega
   rw [BV,if_pos c]
   have e:(((ps.length:Int) - 0+W - 1) / W).toNat=1+x:=by
    rw [hl2]
    have e1:(((1+x) * W:Nat):Int) - 0+W - 1=(W - 1:Int)+W * ((1+x:Nat):Int):=by
     rw [Int.natCast_mul,Int.mul_comm]; omega
    rw [e1,Int.add_mul_ediv_left _ _ (by omega),Int.ediv_eq_zero_of_lt (by omega) (by omega)]
    omega
   unfold jV
   rw [e,List.range_eq_range']
  have hb:=p7 ps W (by omega) (1+x) 0 (fun _ _=>trivial)
  simp only [Nat.zero_mul,List.drop_zero] at hb
  have hcap:∀ a b c d e:Slot,eW 1 [0,4] [a,b,c,d,e]=[.no,a,e]:=fun _ _ _ _ _=>rfl
  have hrl:((List.range' 0 (1+x)).map fun k=>D.int (0+(W:Int) * (k:Nat))).length≤1000000:=by simp; omega
  have hcl:=p5 W (1+x) ps
  refine ⟨.tup [.str [116,97,98,108,101],.tup ((gW W (1+x) ps).map .tup)], ?_, ?_, ?_⟩
  ·generalize ((List.range' 0 (1+x)).map fun k=>D.int (0+(W:Int) * (k:Nat)))=RR at hr hb hrl
   generalize (gW W (1+x) ps).map D.tup=CH at hb
   simp only [bK,ay,bT,envOf]
   simp [f3,f33,hwi,hr,hrl,hcap,hb]
  ·have tf:t=false:=by
    cases t with
    | false=>rfl
    | true=>exact absurd ⟨rfl,rfl⟩ ht7
   subst tf
   simpa using Fm.table _ _ W (by omega) (by omega) (by omega) (by omega) (uf W (1+x) ps (by omega)) (fun b hb p hpp=>hp p (p6 W (1+x) ps b hb p hpp))
  ·have:=ug W (1+x) ps (fun p hpp=>(hp p hpp).tup)
   simp only [bB,aH,bg,cx,bD,p4]; omega
def itm (q:D × Nat × Bool):D:=.tup [q.1,.int (q.2.1:Nat),.bl q.2.2]
def Ai (st:List (D × Nat × Bool)):Prop:=∀ q∈st,Fm q.2.1 q.2.2 q.1∧1≤q.2.1∧q.2.1≤10
theorem kg (fe:FE)(g:D × Nat × Bool→D)(h:∀ q,fe [.val (itm q)]=some (g q)):∀ st:List (D × Nat × Bool),aS (aM 0) bW fe [.no] (st.map itm)=some (st.map g)
 | []=>rfl
 | q::st=>bA (e:=[.val (itm q)]) (by simp) rfl (h q) (kg fe g h st)
theorem ce1 (q:D × Nat × Bool):fE [.val (itm q)]=some (.int (q.2.1:Nat)):=by simp [fE,itm]
theorem ce2 (q:D × Nat × Bool):fF [.val (itm q)]=some (.bl q.2.2):=by simp [fF,itm]
theorem ce3 (q:D × Nat × Bool):fG [.val (itm q)]=some q.1:=by simp [fG,itm]
theorem yi (bs:List Bool):kQ (bs.map D.bl)=some bs:=by
 induction bs with
 | nil=>rfl
 | cons x r ih=>show (kQ (r.map D.bl)).map (x::·)=_; rw [ih]; rfl
theorem Aj (is:List Nat):∃ m:Nat,oj (.lst (is.map fun (k:Nat)=>D.int k)) (.int 99)=some (.int m)∧(m≤98→∀ i∈is,i≤m):=by
 have e:(is.map fun (k:Nat)=>D.int k)=(is.map fun (k:Nat)=>(k:Int)).map D.int:=by rw [List.map_map]; rfl
 rw [e]
 show ∃ m:Nat,(intsOf ((is.map fun (k:Nat)=>(k:Int)).map D.int)).bind _=_∧_
 rw [ly]
 cases is with
 | nil=>exact ⟨99,rfl,by simp⟩
 | cons i r =>
  have h1:=jU (r.map fun (k:Nat)=>(k:Int)) i
  have h2:=lX (r.map fun (k:Nat)=>(k:Int)) i
  obtain ⟨m,hm⟩:∃ m:Nat,hZ i (r.map fun (k:Nat)=>(k:Int))=m:=by
   rcases List.mem_cons.mp h1 with e | e
   ·exact ⟨i,e⟩
   ·obtain ⟨k, -,hk⟩:=List.mem_map.mp e
    exact ⟨k,hk.symm⟩
  refine ⟨m,by show some (D.int (hZ i (r.map fun (k:Nat)=>(k:Int))))=_; rw [hm],fun _ j hj=>?_⟩
  rcases List.mem_cons.mp hj with rfl | hj
  ·have:=h2.1; rw [hm] at this; omega
  ·have:=h2.2 j (List.mem_map.mpr ⟨j,hj,rfl⟩); rw [hm] at this; omega
def iH (st:List (D × Nat × Bool)):Nat:=cnL (st.map (·.1))+st.length
theorem p8 (a b:List (D × Nat × Bool)):iH (a++b)=iH a+iH b:=by unfold iH; rw [List.map_append,rZ,List.length_append]; omega
theorem Cv (st:List (D × Nat × Bool))(c:Int)(hl:st.length≤900)(ho:Ai st):∃ st',fT [.lst (st.map itm),.int c]=some (st'.map itm)∧Ai st'∧st'.length≤st.length+1∧iH st'≤iH st+2:=by
 obtain ⟨way,hway,hw16⟩:=gC c 16 (by decide)
 simp only [Int.cast_ofNat_Int] at hway
 have m1:=bR c 16 (by decide)
 have m2:=eB c 16 (by decide)
 rw [hway] at m1
 have atomCase:∀ d,Fm 1 false d→cn d=1→Ai (st++[(d,1,false)])∧(st++[(d,1,false)]).length≤st.length+1∧iH (st++[(d,1,false)])≤iH st+2:=by
  intro d h2 h3
  refine ⟨fun q hq=>?_,by simp, ?_⟩
  ·rcases List.mem_append.mp hq with hq | hq
   ·exact ho q hq
   ·rw [List.mem_singleton.mp hq]; exact ⟨h2,by simp,by simp⟩
  ·rw [p8]
   have:iH [(d,1,false)]=cn d+1:=by unfold iH; simp [aH,bg]
   omega
 obtain ⟨d0,a1,a2,a3⟩:=Cs (c / 16)
 have hl1:st.length+1≤1000000:=by omega
 by_cases h8:way<8
 ·have h8':(way:Int)<8:=by omega
  obtain ⟨g1,g2,g3⟩:=wF way (c / 16) h8
  generalize hm:manyN way (c / 16)=m at *
  obtain ⟨k,hk⟩:∃ k:Nat,k=st.length - m:=⟨_,rfl⟩
  have hmax:(if (st.length:Int) - (m:Nat) > 0 then (st.length:Int) - (m:Nat) else 0)=(k:Nat):=by split <;> omega
  have hmax':(if 0<(st.length:Int) - (m:Nat) then (st.length:Int) - (m:Nat) else 0)=(k:Nat):=hmax
  have hcut:=zC (st.map itm) k
  rw [← List.map_drop] at hcut
  have c1:=kg fE (fun q=>.int (q.2.1:Nat)) ce1 (st.drop k)
  have c2:=kg fF (fun q=>.bl q.2.2) ce2 (st.drop k)
  have c3:=kg fG (fun q=>q.1) ce3 (st.drop k)
  obtain ⟨dp,d1,d2⟩:=Aj ((st.drop k).map fun q=>q.2.1)
  have e1:(((st.drop k).map fun q=>q.2.1).map fun (k:Nat)=>D.int k)=(st.drop k).map fun q=>D.int (q.2.1:Nat):=by rw [List.map_map]; rfl
  rw [e1] at d1
  have an:zA (.lst ((st.drop k).map fun q=>D.bl q.2.2))=some (.bl (((st.drop k).map fun q=>q.2.2).any id)):=by
   have e2:((st.drop k).map fun q=>D.bl q.2.2)=((st.drop k).map fun q=>q.2.2).map D.bl:=by rw [List.map_map]; rfl
   rw [e2]
   show (kQ _).map _=_
   rw [yi]; rfl
  generalize hT:((st.drop k).map fun q=>q.2.2).any id=tb at an
  have hcap:∀ a b c d e f g h i:Slot,eW 1 [] [a,b,c,d,e,f,g,h,i]=[.no]:=fun _ _ _ _ _ _ _ _ _=>rfl
  have hdl:(st.drop k).length≤1000000:=by simp; omega
  have hdl':st.length - k≤1000000:=by omega
  by_cases hcond:m≤st.length∧dp≤8∧¬ (way=7∧tb=true)
  ·obtain ⟨q1,q2,q3⟩:=hcond
   have hlen:((st.drop k).map fun q=>q.1).length=m:=by simp; omega
   have hfm:∀ p∈(st.drop k).map fun q=>q.1,Fm dp tb p:=by
    intro p hp
    obtain ⟨q,hq,rfl⟩:=List.mem_map.mp hp
    refine ((ho q (List.mem_of_mem_drop hq)).1.le (d2 (by omega) q.2.1 (List.mem_map.mpr ⟨q,hq,rfl⟩))).tle fun hq2=>?_
    rw [← hT,List.any_eq_true]
    exact ⟨q.2.2,List.mem_map.mpr ⟨q,hq,rfl⟩,hq2⟩
   obtain ⟨d,w1,w2,w3⟩:=Cu ((st.drop k).map fun q=>q.1) way (c / 16) h8 hfm (hlen.trans hm.symm) q3
   have hk2:(st.length:Int) - (m:Nat)=(k:Nat):=by omega
   have hcut2:=rJ (st.map itm) k
   rw [← List.map_take] at hcut2
   have hq1:(m:Int)≤(st.length:Int):=by omega
   have hq2:(dp:Int)≤8:=by omega
   have hsl:min k st.length+1≤1000000:=by omega
   have bd:dp+1+(if way<3∨way=6 then 1 else 0)≤10:=by split <;> omega
   obtain ⟨nd,hnd⟩:∃ nd:Nat,nd=dp+1+(if way<3∨way=6 then 1 else 0):=⟨_,rfl⟩
   rw [← hnd] at w2 bd
   refine ⟨st.take k++[(d,nd,tb || decide (way=7))], ?_,fun q hq=>?_,by simp; omega, ?_⟩
   ·have hcs:way=0∨way=1∨way=2∨way=3∨way=4∨way=5∨way=6∨way=7:=by omega
    generalize ((st.drop k).map fun q=>q.1)=PS at c3 w1
    generalize ((st.drop k).map fun q=>D.int (q.2.1:Nat))=DS at c1 d1
    generalize ((st.drop k).map fun q=>D.bl q.2.2)=BS at c2 an
    generalize hSD:(st.drop k).map itm=SD at hcut c1 c2 c3
    have hSDl:SD.length≤1000000:=by rw [← hSD]; simpa using hdl
    have hst:(st.map itm).length=st.length:=by simp
    rw [List.map_append]
    generalize (st.take k).map itm=TK at hcut2
    have hTK:TK.length+1≤1000000:=by
     have:TK.length≤(st.map itm).length:=by rw [← hcut2]; unfold cutD; simp; omega
     omega
    generalize st.map itm=ST at hcut hcut2 hst
    rw [← hst] at hmax' hk2 hq1
    have hmk:(if 0<k then (k:Int) else 0)=(k:Int):=by split <;> omega
    have hni:(dp:Int)+1+(if way<3∨way=6 then 1 else 0)=(nd:Nat):=by rw [hnd]; split <;> simp
    simp only [fT,bj,gx,envOf]
    rcases hcs with rfl | rfl | rfl | rfl | rfl | rfl | rfl | rfl
    all_goals simp only [Int.cast_ofNat_Int] at m1 g1 w1
    all_goals cases tb
    all_goals first
     | exact absurd ⟨rfl,rfl⟩ q3
     | (simp at hni; simp [m1,m2,g1,hmax',hcut,hSDl,hcap,c1,d1,c2,an,hq1,hq2,c3,w1,om,hk2,hmk,hcut2,hTK,itm,hni])
   ·rcases List.mem_append.mp hq with hq | hq
    ·exact ho q (List.mem_of_mem_take hq)
    ·rw [List.mem_singleton.mp hq]; exact ⟨w2,by simp only; omega,bd⟩
   ·rw [p8]
    have s1:iH st=iH (st.take k)+iH (st.drop k):=by rw [← p8,List.take_append_drop]
    have s2:iH [(d,nd,tb || decide (way=7))]=cn d+1:=by unfold iH; simp [aH,bg]
    have s3:iH (st.drop k)=cnL ((st.drop k).map fun q=>q.1)+((st.drop k).map fun q=>q.1).length:=by unfold iH; rw [List.length_map]
    omega
  ·refine ⟨st++[(d0,1,false)], ?_,atomCase d0 a2 a3⟩
   generalize ((st.drop k).map fun q=>D.int (q.2.1:Nat))=DS at c1 d1
   generalize ((st.drop k).map fun q=>D.bl q.2.2)=BS at c2 an
   generalize hSD:(st.drop k).map itm=SD at hcut c1 c2 c3
   have hSDl:SD.length≤1000000:=by rw [← hSD]; simpa using hdl
   have hst:(st.map itm).length=st.length:=by simp
   rw [List.map_append]
   generalize st.map itm=ST at hcut hst
   rw [← hst] at hmax' hl1
   have hmN:(if m<ST.length then (ST.length:Int) - (m:Int) else 0)=(k:Int):=by split <;> omega
   have heq7:((way:Int) == 7)=decide (way=7):=by
    rw [Bool.eq_iff_iff]; simp; omega
   simp only [fT,bj,gx,envOf]
   by_cases q1:m≤st.length
   ·have hq1:(m:Int)≤(ST.length:Int):=by omega
    by_cases q2:dp≤8
    ·have hq2:(dp:Int)≤8:=by omega
     have q3:way=7∧tb=true:=Classical.byContradiction fun z=>hcond ⟨q1,q2,z⟩
     obtain ⟨rfl,rfl⟩:=q3
     simp only [Int.cast_ofNat_Int] at m1 g1
     simp [m1,m2,g1,hmax',hmN,hcut,hSDl,hcap,c1,d1,c2,an,hq1,hq2,a1,hl1,itm]
    ·have hq2:¬ (dp:Int)≤8:=by omega
     simp [m1,m2,h8',g1,hmax',hmN,hcut,hSDl,hcap,c1,d1,c2,an,hq1,hq2,a1,hl1,itm,h8,q2]
   ·have hq1:¬ (m:Int)≤(ST.length:Int):=by omega
    have hq1' : ¬ m≤ST.length:=by omega
    simp [m1,m2,h8',g1,hmax',hmN,hcut,hSDl,hcap,c1,d1,c2,an,hq1,hq1',a1,hl1,itm,h8]
 ·have h8' : ¬ (way:Int)<8:=by omega
  refine ⟨st++[(d0,1,false)], ?_,atomCase d0 a2 a3⟩
  simp only [fT,bj,gx,envOf]
  simp [m1,m2,h8,h8',a1,hl1,itm]
theorem qV (ns:List Int)(s3 s4:Slot):∀ (cs:List D) (st:List (D × Nat × Bool)) (s2:Slot),(∀ d∈cs, ∃ i,d=.int i)→st.length+cs.length≤900→Ai st →
  ∃ (st':List (D × Nat × Bool)) (t2:Slot),runFor (aM 2) eZ cs [.val (.lst (ns.map .int)),.val (.lst (st.map itm)),s2,s3,s4]=some (.nx [.val (.lst (ns.map .int)),.val (.lst (st'.map itm)),t2,s3,s4])∧Ai st'∧st'.length≤st.length+cs.length∧iH st'≤iH st+2 * cs.length
 | [],st,s2,_,_,ho=>⟨st,s2,rfl,ho,by simp,by simp⟩
 | d::cs,st,s2,hd,hl,ho=>by
  obtain ⟨c,rfl⟩:=hd d List.mem_cons_self
  simp only [List.length_cons] at hl
  obtain ⟨st1,h1,h2,h3,h4⟩:=Cv st c (by omega) ho
  rw [cZ (e1:=[.val (.lst (ns.map .int)),.val (.lst (st.map itm)),.val (.int c),s3,s4]) (e2:=[.val (.lst (ns.map .int)),.val (.lst (st1.map itm)),.val (.int c),s3,s4]) (by simp) (by simp [eZ,h1])]
  obtain ⟨st',t2,g1,g2,g3,g4⟩:=qV ns s3 s4 cs st1 (.val (.int c)) (fun d hd'=>hd d (List.mem_cons_of_mem _ hd')) (by omega) h2
  exact ⟨st',t2,g1,g2,by simp; omega,by simp; omega⟩
theorem ceF (q:D × Nat × Bool):dF [.val (itm q)]=some q.1:=by simp [dF,itm]
theorem vA (ns:List Int):∃ f,bY [.lst (ns.map .int)]=some f∧Fm 12 true f∧cn f≤130:=by
 have hcut:cutD (ns.map D.int) none (some 63)=(ns.map D.int).take 63:=rJ (ns.map D.int) 63
 have hcl:((ns.map D.int).take 63).length≤63:=by simp; omega
 have hcn:((ns.map D.int).take 63).length≤ns.length:=by simp; omega
 have hci:∀ d∈(ns.map D.int).take 63, ∃ i,d=.int i:=by
  intro d hd
  obtain ⟨i, -,rfl⟩:=List.mem_map.mp (List.mem_of_mem_take hd)
  exact ⟨i,rfl⟩
 generalize (ns.map D.int).take 63=cs at hcut hcl hcn hci
 obtain ⟨st,t2,g1,g2,g3,g4⟩:=qV ns .no .no cs [] .no hci (by simp; omega) (fun q hq=>by cases hq)
 simp only [List.map_nil,List.length_nil,Nat.zero_add] at g1 g3
 have g4':iH st≤2 * cs.length:=by
  have:iH []=0:=by simp [iH,bg]
  omega
 have c1:=kg dF (fun q=>q.1) ceF st
 have hcap:∀ a b c d e:Slot,eW 1 [] [a,b,c,d,e]=[.no]:=fun _ _ _ _ _=>rfl
 have hfm:∀ p∈st.map (·.1),Fm 10 true p:=by
  intro p hp
  obtain ⟨q,hq,rfl⟩:=List.mem_map.mp hp
  exact ((g2 q hq).1.le (g2 q hq).2.2).tt
 have hwl:cnL (st.map (·.1))+(st.map (·.1)).length≤2 * cs.length:=by rw [List.length_map]; exact g4'
 have hsl:(st.map (·.1)).length=st.length:=by simp
 have hit:(st.map itm).length≤1000000:=by simp; omega
 generalize st.map (·.1)=PS at c1 hfm hwl hsl
 generalize st.map itm=ST at g1 c1 hit
 by_cases h0:PS=[]
 ·subst h0
  refine ⟨.tup [.str [110,97,109,101],.str [120]], ?_,.name _ _ _ (by simp) (by simp) (by simp),by simp [cn,cnL,hdS]⟩
  simp only [bY,ay,cE,envOf]
  have e00:eqN 100 (.lst []) (.lst [])=some true:=rfl
  simp [hcut,g1,hit,hcap,c1,e00]
 ·have hne:=Fx PS [] (by simpa using h0)
  by_cases h1:PS.length=1
  ·obtain ⟨p,rfl⟩:∃ p,PS=[p]:=by
    match PS,h1 with
    | [p],_=>exact ⟨p,rfl⟩
   refine ⟨p, ?_,(hfm p (by simp)).le (by omega), ?_⟩
   ·simp only [bY,ay,cE,envOf]
    simp [hcut,g1,hit,hcap,c1,hne]
   ·rw [aH,bg] at hwl; omega
  ·have hP2:2≤PS.length:=by
    have:0<PS.length:=List.length_pos_iff.mpr h0
    omega
   have h1':((PS.length:Int) == 1)=false:=by simp; omega
   have hn2:2≤ns.length:=by omega
   obtain ⟨a,b,r,rfl⟩:∃ a b r,ns=a::b::r:=by
    match ns,hn2 with
    | a::b::r,_=>exact ⟨a,b,r,rfl⟩
   obtain ⟨y,hy⟩:∃ y:Int,(a::b::r)[r.length+1]?=some y:=⟨_,List.getElem?_eq_getElem (by simp)⟩
   have hat:atI ((a::b::r).map D.int) ((r.length:Int)+1)=some (.int y):=by
    have:=jR ((a::b::r).map D.int) (r.length+1)
    rw [List.getElem?_map,hy] at this
    exact this
   have m1:=jq y 1099087573 (by decide)
   have m2:=wa 10 20 (by decide)
   have m3:=bR (y * 1099087573) 100000000000000000000 (by decide)
   have m4:=bR a 3 (by decide)
   generalize y * 1099087573 % 100000000000000000000=BY at m3
   obtain ⟨k,hk,hk3⟩:=gC a 3 (by decide)
   simp only [Int.cast_ofNat_Int] at hk
   rw [hk] at m4
   have hcs:k=0∨k=1∨k=2:=by omega
   have es:((r.length:Int)+1+1 - 1)=(r.length:Int)+1:=by omega
   simp only [List.map_cons] at hat hcut g1
   rcases hcs with rfl | rfl | rfl
   ·obtain ⟨d,h1,h2,h3⟩:=ja PS [101,118,101,110] BY hfm hP2 (by omega) (.inl rfl)
    refine ⟨d, ?_,h2,by omega⟩
    simp only [bY,ay,cE,envOf]
    simp [hcut,g1,hit,hcap,c1,hne,h1',es,hat,m1,m2,m3,m4,h1]
   ·obtain ⟨d,h1,h2,h3⟩:=ja PS [115,117,109] BY hfm hP2 (by omega) (.inr (.inl rfl))
    refine ⟨d, ?_,h2,by omega⟩
    simp only [bY,ay,cE,envOf]
    simp [hcut,g1,hit,hcap,c1,hne,h1',es,hat,m1,m2,m3,m4,h1]
   ·obtain ⟨d,h1,h2,h3⟩:=ja PS [116,105,109,101,115] BY hfm hP2 (by omega) (.inr (.inr rfl))
    refine ⟨d, ?_,h2,by omega⟩
    simp only [bY,ay,cE,envOf]
    simp [hcut,g1,hit,hcap,c1,hne,h1',es,hat,m1,m2,m3,m4,h1]
structure Fl (o:D)(u d w:Nat):Prop where
 f0:bx 0 o=some (.int (w:Nat))
 f1:bx 1 o=some (.int (u:Nat))
 f2:bx 2 o=some (.int (d:Nat))
 non:∀ b,gZ b o=some (.bl b)
structure Pl where
 p:List Nat
 top:Int
 left:Int
 hi:Nat
 wi:Nat
 base:Int
def pth (p:List Nat):D:=.tup (p.map fun i=>.int (i:Nat))
def Pl.dat (q:Pl):D:=.tup [pth q.p,.int q.top,.int q.left,.int (q.hi:Nat),.int (q.wi:Nat),.int q.base]
structure Inv (p:List Nat)(base left:Int)(u d w:Nat)(L:List Pl):Prop where
 hd:∃ tl,L=⟨p,base - (u:Int),left,u+d+1,w,base⟩::tl
 pre:∀ q∈L, ∃ s,q.p=p++s
 box:∀ q∈L,base - (u:Int)≤q.top∧q.top+(q.hi:Int)≤base+(d:Int)+1∧left≤q.left∧q.left+(q.wi:Int)≤left+(w:Int)
 ord:L.Pairwise fun a b=>¬ ∃ s,a.p=b.p++s
 len:L.length≤10000
structure Sp where
 o:D
 u:Nat
 d:Nat
 w:Nat
 lo:Int
 ri:Int
 many:Nat
def Sp.dat (s:Sp):D:=.tup [s.o,.int s.lo,.int s.ri]
def Cw (n:Nat)(o:D)(u d w m:Nat):Prop:=∀ (p:List Nat) (base left:Int),p.length+n≤1000→∃ L:List Pl,cQ n [o,pth p,.int base,.int left]=some (L.map Pl.dat)∧Inv p base left u d w L∧L.length≤m
theorem Cy (p:List Nat)(i:Nat):pth (p++[i])=.tup (p.map (fun i=>D.int (i:Nat))++[.int (i:Nat)]):=by simp [pth]
def LBw (n:Nat):FS:=(mL 4 (aF 4 (cQ n) (af (fp2 ixD (ab 6) (feC (.int 0))) (af (fp2 ye (ab 1) (cy (af (ab 5) ar))) (af (fp2 cz (ab 2) (fp2 ixD (ab 6) (feC (.int 1)))) (af (fp2 cz (ab 3) (fp2 ixD (ab 6) (feC (.int 2)))) ar))))))
structure Chi (p:List Nat)(i:Nat)(base left:Int)(u d w m:Nat)(L:List Pl):Prop where
 pre:∀ q∈L, ∃ j s,i≤j∧q.p=p++j::s
 box:∀ q∈L,base - (u:Int)≤q.top∧q.top+(q.hi:Int)≤base+(d:Int)+1∧left≤q.left∧q.left+(q.wi:Int)≤left+(w:Int)
 ord:L.Pairwise fun a b=>¬ ∃ s,a.p=b.p++s
 len:L.length≤m
theorem wG {n:Nat}{o:D}{u d w:Nat}(p:List Nat)(base left:Int)(hp:p.length+1+n≤1000):∀ (ks:List Sp) (i:Nat) (acc:List D) (s5 s6:Slot),(∀ k∈ks,Cw n k.o k.u k.d k.w k.many)→(∀ k∈ks, -(u:Int)≤k.lo - (k.u:Int)∧k.lo+(k.d:Int)≤(d:Int)∧0≤k.ri∧k.ri+(k.w:Int)≤(w:Int))→acc.length+(ks.map Sp.many).sum≤100000 →
  ∃ (L:List Pl) (t5 t6:Slot),runFor (fU [5,6]) (LBw n) (lW i (ks.map Sp.dat)) [.val o,.val (pth p),.val (.int base),.val (.int left),.own acc,s5,s6]=some (.nx [.val o,.val (pth p),.val (.int base),.val (.int left),.own (acc++L.map Pl.dat),t5,t6])∧Chi p i base left u d w (ks.map Sp.many).sum L
 | [],i,acc,s5,s6,_,_,_=>⟨[],s5,s6,by simp [qM,runFor],⟨fun q hq=>(nomatch hq),fun q hq=>(nomatch hq),.nil,by simp⟩⟩
 | k::ks,i,acc,s5,s6,h1,h2,h3=>by
  obtain ⟨L1,e1,v1,l1⟩:=h1 k List.mem_cons_self (p++[i]) (base+k.lo) (left+k.ri) (by simp; omega)
  obtain ⟨b1,b2,b3,b4⟩:=h2 k List.mem_cons_self
  simp only [List.map_cons,List.sum_cons] at h3
  obtain ⟨L2,t5,t6,e2,c2⟩:=wG (n:=n) (o:=o) (u:=u) (d:=d) (w:=w) p base left hp ks (i+1) (acc++L1.map Pl.dat) (.val (.int (i:Nat))) (.val k.dat) (fun q hq=>h1 q (List.mem_cons_of_mem _ hq)) (fun q hq=>h2 q (List.mem_cons_of_mem _ hq)) (by simp; omega)
  refine ⟨L1++L2,t5,t6, ?_,⟨fun q hq=>?_,fun q hq=>?_, ?_,by simp; have:=c2.len; omega⟩⟩
  ·rw [List.map_append, ← List.append_assoc, ← e2,List.map_cons,lx]
   refine cZ (e1:=[.val o,.val (pth p),.val (.int base),.val (.int left),.own acc,.val (.int (i:Nat)),.val k.dat]) (by simp) ?_
   rw [Cy] at e1
   have hl1:(p.map fun i=>D.int (i:Nat)).length+1≤1000000:=by simp; omega
   have ha:acc.length+(L1.map Pl.dat).length≤1000000:=by simp; omega
   unfold pth Sp.dat
   generalize L1.map Pl.dat=M1 at *
   generalize (p.map fun i=>D.int (i:Nat))=PP at *
   simp [LBw,hl1,e1,ha]
  ·rcases List.mem_append.mp hq with hq | hq
   ·obtain ⟨s,hs⟩:=v1.pre q hq
    exact ⟨i,s,Nat.le_refl _,by rw [hs]; simp⟩
   ·obtain ⟨j,s,hj,hs⟩:=c2.pre q hq
    exact ⟨j,s,by omega,hs⟩
  ·rcases List.mem_append.mp hq with hq | hq
   ·have:=v1.box q hq
    omega
   ·exact c2.box q hq
  ·rw [List.pairwise_append]
   refine ⟨v1.ord,c2.ord,fun a ha b hb=>?_⟩
   rintro ⟨s,hs⟩
   obtain ⟨s1,q1⟩:=v1.pre a ha
   obtain ⟨j,s2,hj,q2⟩:=c2.pre b hb
   rw [q1,q2,List.append_assoc,List.append_assoc] at hs
   have:=List.append_cancel_left hs
   simp at this
   omega
theorem iw {o:D}{u d w:Nat}(h:Fl o u d w):cb [o]=some (.int ((u+d+1:Nat):Int)):=by
 have f1:=h.f1
 have f2:=h.f2
 simp [cb,ay,iR,envOf,f1,f2]
 omega
theorem node {n:Nat}{o:D}{u d w m:Nat}(fl:Fl o u d w)(ks:List Sp)(sp:jX 0 dM o []=some (ks.map Sp.dat))(hk:∀ k∈ks,Cw n k.o k.u k.d k.w k.many)
  (hin:∀ k∈ks, -(u:Int)≤k.lo - (k.u:Int)∧k.lo+(k.d:Int)≤(d:Int)∧0≤k.ri∧k.ri+(k.w:Int)≤(w:Int)) (hm:(ks.map Sp.many).sum+1≤m) (hm2:m≤9000):Cw (n+1) o u d w m:=by
 intro p base left hp
 obtain ⟨L,t5,t6,e,c⟩:=wG (n:=n) (o:=o) (u:=u) (d:=d) (w:=w) p base left (by omega) ks 0 [Pl.dat ⟨p,base - (u:Int),left,u+d+1,w,base⟩] .no .no hk hin (by simp; omega)
 have hcl:=c.len
 refine ⟨⟨p,base - (u:Int),left,u+d+1,w,base⟩::L, ?_,⟨⟨L,rfl⟩,fun q hq=>?_,fun q hq=>?_, ?_,by simp; omega⟩,by simp; omega⟩
 ·have f0:=fl.f0
  have f1:=fl.f1
  have hh:=iw fl
  have he:j5 (ks.map Sp.dat)=lW 0 (ks.map Sp.dat):=rfl
  have hkl:ks.length≤1000000∨True:=.inr trivial
  rw [List.map_cons]
  show cC 7 (er (cQ n)) _=_
  unfold LBw at e
  simp only [List.singleton_append] at e
  unfold Pl.dat at e ⊢
  simp only [] at e
  generalize hL:(L.map fun q:Pl=>D.tup [pth q.p,.int q.top,.int q.left,.int (q.hi:Nat),.int (q.wi:Nat),.int q.base])=LL at *
  generalize ks.map Sp.dat=KS at *
  generalize pth p=PP at *
  generalize u+d+1=HH at *
  simp only [bj,er,envOf]
  simp [f0,f1,hh,sp,he,e]
 ·rcases List.mem_cons.mp hq with rfl | hq
  ·exact ⟨[],by simp⟩
  ·obtain ⟨j,s,_,hs⟩:=c.pre q hq
   exact ⟨j::s,hs⟩
 ·rcases List.mem_cons.mp hq with rfl | hq
  ·refine ⟨Int.le_refl _, ?_,Int.le_refl _,Int.le_refl _⟩
   show base - (u:Int)+((u+d+1:Nat):Int)≤_
   omega
  ·exact c.box q hq
 ·refine List.pairwise_cons.mpr ⟨fun b hb=>?_,c.ord⟩
  rintro ⟨s,hs⟩
  obtain ⟨j,s2,_,q2⟩:=c.pre b hb
  rw [q2] at hs
  have:=congrArg List.length hs
  simp at this
structure Pz where
 o:D
 u:Nat
 d:Nat
 w:Nat
 m:Nat
structure Pz.Ok (N:Nat)(p:Pz):Prop where
 sk:Fl p.o p.u p.d p.w
 pl:Cw N p.o p.u p.d p.w p.m
 hl:p.u+p.d+1≤1000
 hw:p.w≤3000
theorem md (c:Nat)(w u d:Int):cR c [.int w,.int u,.int d]=some ([0,1,2],[.int w,.int u,.int d]):=by
 simp [cR,eJ,eC,envOf]
def oWd (z:List Nat):D:=.ob 1 [0,1,2,3] [.int (z.length:Nat),.int ((0:Nat):Int),.int ((0:Nat):Int),.str z]
theorem DF (z:List Nat)(hz:z.length≤1000000):mN 1 [.str z]=some ([0,1,2,3],[.int (z.length:Nat),.int 0,.int 0,.str z]):=by
 simp [mN,eJ,iQ,envOf,md,hz]
theorem DG (n:Nat)(z:List Nat)(hz:z.length≤3000):Pz.Ok (n+1) ⟨oWd z,0,0,z.length,1⟩:=by
 have fl:Fl (oWd z) 0 0 z.length:=⟨by simp [oWd],by simp [oWd],by simp [oWd],fun b=>by cases b <;> rfl⟩
 refine ⟨fl,node fl [] (by simp [oWd,dM,eL,bj,gk,envOf]) (fun k hk=>nomatch hk) (fun k hk=>nomatch hk) (by simp) (by show 1≤9000; decide),by show 0+0+1≤1000; decide,hz⟩
def gm:List Nat→Nat
 | []=>0
 | a::r=>max a (gm r)
theorem jx:∀ (l:List Nat) (a:Nat),a∈l→a≤gm l
 | b::r,a,h=>by
  rcases List.mem_cons.mp h with rfl | h
  ·simp only [gm]; omega
  ·have:=jx r a h; simp only [gm]; omega
theorem p9:∀ (a:Nat) (r:List Nat),gm (a::r)∈a::r
 | a,[]=>by simp [gm]
 | a,b::r=>by
  have:=p9 b r
  show max a (gm (b::r))∈_
  by_cases h:a≤gm (b::r)
  ·rw [Nat.max_eq_right h]; exact List.mem_cons_of_mem _ this
  ·rw [Nat.max_eq_left (by omega)]; exact List.mem_cons_self
theorem sd (l:List Nat)(m:Nat)(h:∀ a∈l,a≤m):gm l≤m:=by
 cases l with
 | nil=>exact Nat.zero_le _
 | cons a r=>exact h _ (p9 a r)
theorem jb (a:Nat)(r:List Nat):ix (.lst ((a::r).map fun i=>.int (i:Nat)))=some (.int (gm (a::r):Nat)):=by
 have:=zU ((a::r).map fun i:Nat=>(i:Int)) (gm (a::r):Nat) (List.mem_map.mpr ⟨_,p9 a r,rfl⟩) (fun i hi=>by
  obtain ⟨j,hj,rfl⟩:=List.mem_map.mp hi
  have:=jx _ j hj
  omega)
 rw [List.map_map] at this
 exact this
theorem uh (l:List Nat)(h:∀ a∈l,a≤100000)(hl:l.length≤1000):xy (.lst (l.map fun i=>.int (i:Nat)))=some (.int (l.sum:Nat)):=by
 have e:(l.map fun i:Nat=>D.int (i:Nat))=(l.map fun i:Nat=>(i:Int)).map D.int:=by rw [List.map_map]; rfl
 rw [e]
 show (intsOf _).bind _=_
 rw [ly]
 show (if _ then _ else _)=_
 rw [if_pos]
 ·congr 2
  clear h hl e
  induction l with
  | nil=>rfl
  | cons a r ih=>rw [List.map_cons,List.sum_cons,List.sum_cons,ih]; omega
 ·refine ⟨by simp; omega, ?_⟩
  rw [List.all_eq_true]
  intro i hi
  obtain ⟨j,hj,rfl⟩:=List.mem_map.mp hi
  have:=h j hj
  exact decide_eq_true (by omega)
def oRt (w u d:Nat)(o:D):D:=.ob 4 [0,1,2,8] [.int (w:Nat),.int (u:Nat),.int (d:Nat),o]
section
variable {N:Nat}
theorem Ia {p:Pz}(h:p.Ok N):oY 4 [p.o]=some ([0,1,2,8],[.int ((p.w+2:Nat):Int),.int ((p.u+1:Nat):Int),.int (p.d:Nat),p.o]):=by
 have f0:=h.sk.f0
 have f1:=h.sk.f1
 have f2:=h.sk.f2
 simp [oY,eJ,iT,envOf,f0,f1,f2,md]
theorem Ib {p:Pz}(h:p.Ok N)(hl:p.u+p.d+2≤1000)(hw:p.w+2≤3000)(hm:p.m+1≤9000):Pz.Ok (N+1) ⟨oRt (p.w+2) (p.u+1) p.d p.o,p.u+1,p.d,p.w+2,p.m+1⟩:=by
 have fl:Fl (oRt (p.w+2) (p.u+1) p.d p.o) (p.u+1) p.d (p.w+2):=⟨by simp [oRt],by simp [oRt],by simp [oRt],fun b=>by cases b <;> rfl⟩
 refine ⟨fl,node fl [⟨p.o,p.u,p.d,p.w,0,2,p.m⟩] ?_ (fun k hk=>by rw [List.mem_singleton.mp hk]; exact h.pl) (fun k hk=>by rw [List.mem_singleton.mp hk]; show -((p.u+1:Nat):Int)≤0 - (p.u:Int)∧0+(p.d:Int)≤(p.d:Int)∧(0:Int)≤2∧2+(p.w:Int)≤((p.w+2:Nat):Int); omega) (by simp) hm,by show p.u+1+p.d+1≤1000; omega,hw⟩
 simp [oRt,dM,ib,bj,ia,envOf,Sp.dat]
def oHe (w u d:Nat)(o:D):D:=.ob 6 [0,1,2,8] [.int (w:Nat),.int (u:Nat),.int (d:Nat),o]
theorem Ic {p:Pz}(h:p.Ok N):oZ 6 [p.o]=some ([0,1,2,8],[.int ((p.w+2:Nat):Int),.int (p.u:Nat),.int (p.d:Nat),p.o]):=by
 have f0:=h.sk.f0
 have f1:=h.sk.f1
 have f2:=h.sk.f2
 simp [oZ,eJ,iU,envOf,f0,f1,f2,md]
theorem Ie {p:Pz}(h:p.Ok N)(hw:p.w+2≤3000)(hm:p.m+1≤9000):Pz.Ok (N+1) ⟨oHe (p.w+2) p.u p.d p.o,p.u,p.d,p.w+2,p.m+1⟩:=by
 have fl:Fl (oHe (p.w+2) p.u p.d p.o) p.u p.d (p.w+2):=⟨by simp [oHe],by simp [oHe],by simp [oHe],fun b=>by cases b <;> rfl⟩
 refine ⟨fl,node fl [⟨p.o,p.u,p.d,p.w,0,1,p.m⟩] ?_ (fun k hk=>by rw [List.mem_singleton.mp hk]; exact h.pl) (fun k hk=>by rw [List.mem_singleton.mp hk]; show -(p.u:Int)≤0 - (p.u:Int)∧0+(p.d:Int)≤(p.d:Int)∧(0:Int)≤1∧1+(p.w:Int)≤((p.w+2:Nat):Int); omega) (by simp) hm,h.hl,hw⟩
 simp [oHe,dM,ie,bj,ic,envOf,Sp.dat]
theorem wH (a W:Nat)(h:a≤W):iq [.int (a:Nat),.int (W:Nat)]=some (.int (((W - a) / 2:Nat):Int)):=by
 have f:=eB ((W:Int) - (a:Int)) 2 (by decide)
 have e:((W:Int) - (a:Int)) / 2=(((W - a) / 2:Nat):Int):=by omega
 rw [e] at f
 simp [iq,ay,kz,envOf,f]
def oOv (W p q:Nat)(a b:D):D:=.ob 3 [0,1,2,6,7] [.int (W:Nat),.int (p:Nat),.int (q:Nat),a,b]
theorem FW (a b:Nat):cz (.int (if a<b then (b:Int) else (a:Int))) (.int 2)=some (.int ((max a b+2:Nat):Int)):=by
 have:(if a<b then (b:Int) else (a:Int))+2=((max a b+2:Nat):Int):=by split <;> omega
 rw [jQ,this]
theorem Ig {p q:Pz}(ha:p.Ok N)(hb:q.Ok N):oX 3 [p.o,q.o]=some ([0,1,2,6,7],[.int ((max p.w q.w+2:Nat):Int),.int ((p.u+p.d+1:Nat):Int),.int ((q.u+q.d+1:Nat):Int),p.o,q.o]):=by
 have f0:=ha.sk.f0
 have g0:=hb.sk.f0
 have h1:=iw ha.sk
 have h2:=iw hb.sk
 have mx:=FW p.w q.w
 generalize max p.w q.w+2=W at *
 generalize p.u+p.d+1=A at *
 generalize q.u+q.d+1=B at *
 simp [-jQ,oX,eJ,iS,envOf,f0,g0,mx,h1,h2,md]
theorem Ih {p q:Pz}(ha:p.Ok N)(hb:q.Ok N)(hl:p.u+p.d+1+(q.u+q.d+1)+1≤1000)(hw:max p.w q.w+2≤3000)(hm:p.m+q.m+1≤9000):Pz.Ok (N+1) ⟨oOv (max p.w q.w+2) (p.u+p.d+1) (q.u+q.d+1) p.o q.o,p.u+p.d+1,q.u+q.d+1,max p.w q.w+2,p.m+q.m+1⟩:=by
 have fl:Fl (oOv (max p.w q.w+2) (p.u+p.d+1) (q.u+q.d+1) p.o q.o) (p.u+p.d+1) (q.u+q.d+1) (max p.w q.w+2):=⟨by simp [oOv],by simp [oOv],by simp [oOv],fun b=>by cases b <;> rfl⟩
 refine ⟨fl,node fl [⟨p.o,p.u,p.d,p.w, -1 - (p.d:Int),(((max p.w q.w+2 - p.w) / 2:Nat):Int),p.m⟩,⟨q.o,q.u,q.d,q.w,1+(q.u:Int),(((max p.w q.w+2 - q.w) / 2:Nat):Int),q.m⟩] ?_ (fun k hk=>?_) (fun k hk=>?_) (by simp) hm,hl,hw⟩
 ·have l1:=wH p.w (max p.w q.w+2) (by omega)
  have l2:=wH q.w (max p.w q.w+2) (by omega)
  have f0:=ha.sk.f0
  have f2:=ha.sk.f2
  have g0:=hb.sk.f0
  have g1:=hb.sk.f1
  generalize (max p.w q.w+2 - p.w) / 2=la at *
  generalize (max p.w q.w+2 - q.w) / 2=lb at *
  generalize max p.w q.w+2=W at *
  generalize p.u+p.d+1=A at *
  generalize q.u+q.d+1=B at *
  simp [oOv,dM,i9,bj,i8,envOf,Sp.dat,f0,f2,g0,g1,l1,l2]
 ·rcases List.mem_cons.mp hk with rfl | hk
  ·exact ha.pl
  ·rw [List.mem_singleton.mp hk]; exact hb.pl
 ·rcases List.mem_cons.mp hk with rfl | hk
  ·show -((p.u+p.d+1:Nat):Int)≤-1 - (p.d:Int) - (p.u:Int)∧-1 - (p.d:Int)+(p.d:Int)≤_∧(0:Int)≤(((max p.w q.w+2 - p.w) / 2:Nat):Int)∧(((max p.w q.w+2 - p.w) / 2:Nat):Int)+(p.w:Int)≤((max p.w q.w+2:Nat):Int)
   omega
  ·rw [List.mem_singleton.mp hk]
   show -((p.u+p.d+1:Nat):Int)≤1+(q.u:Int) - (q.u:Int)∧1+(q.u:Int)+(q.d:Int)≤((q.u+q.d+1:Nat):Int)∧(0:Int)≤(((max p.w q.w+2 - q.w) / 2:Nat):Int)∧(((max p.w q.w+2 - q.w) / 2:Nat):Int)+(q.w:Int)≤((max p.w q.w+2:Nat):Int)
   omega
end
structure Mq (N:Nat)(S:D)(p:Pz)(h y m:Nat):Prop where
 or:(S=.non∧h=0∧y=0∧m=0)∨(S=p.o∧h=p.u+p.d+1∧y=p.w∧m=p.m∧p.Ok N)
def oMa (W U V:Nat)(o S1 S2:D):D:=.ob 5 [0,1,2,9,10,11] [.int (W:Nat),.int (U:Nat),.int (V:Nat),o,S1,S2]
section
variable {N:Nat}{S1 S2:D}{p q1 q2:Pz}{h1 h2 y1 y2 k1 k2:Nat}
theorem Ak (m1:Mq N S1 q1 h1 y1 k1)(m2:Mq N S2 q2 h2 y2 k2):∃ L:List D,aS (aM 0) bU dH [.no] [S1,S2]=some L∧L.length≤1000000∧∃ L2,aS (aM 0) bW dI [.no] L=some L2∧oj (.lst L2) (.int 0)=some (.int ((max y1 y2:Nat):Int)):=by
 have tn:∀ x:D,gZ true x=some (.bl true)→bU [.val x]=some true:=fun x hx=>by simp [bU,hx]
 have fn:bU [.val .non]=some false:=by simp [bU]
 have ev:∀ x:D,dH [.val x]=some x:=fun x=>by simp [dH]
 have ew:∀ {x:D} {i:Int},bx 0 x=some (.int i)→dI [.val x]=some (.int i):=fun hx=>by simp [dI,hx]
 rcases m1.or with ⟨rfl,_,rfl,_⟩ | ⟨rfl,_,rfl,_,g1⟩
 ·rcases m2.or with ⟨rfl,_,rfl,_⟩ | ⟨rfl,_,rfl,_,g2⟩
  ·exact ⟨[],j6 (by simp) fn (j6 (by simp) fn rfl),by simp,[],rfl,rfl⟩
  ·refine ⟨[q2.o],j6 (by simp) fn (bA (by simp) (tn _ (g2.sk.non true)) (ev _) rfl),by simp,[.int (q2.w:Nat)],bA (by simp) rfl (ew g2.sk.f0) rfl, ?_⟩
   rw [Nat.zero_max]; rfl
 ·rcases m2.or with ⟨rfl,_,rfl,_⟩ | ⟨rfl,_,rfl,_,g2⟩
  ·refine ⟨[q1.o],bA (by simp) (tn _ (g1.sk.non true)) (ev _) (j6 (by simp) fn rfl),by simp,[.int (q1.w:Nat)],bA (by simp) rfl (ew g1.sk.f0) rfl, ?_⟩
   rw [Nat.max_zero]; rfl
  ·refine ⟨[q1.o,q2.o],bA (by simp) (tn _ (g1.sk.non true)) (ev _) (bA (by simp) (tn _ (g2.sk.non true)) (ev _) rfl),by simp,[.int (q1.w:Nat),.int (q2.w:Nat)],bA (by simp) rfl (ew g1.sk.f0) (bA (by simp) rfl (ew g2.sk.f0) rfl), ?_⟩
   show some (D.int (hZ (q1.w:Int) [(q2.w:Int)]))=_
   have:hZ (q1.w:Int) [(q2.w:Int)]=((max q1.w q2.w:Nat):Int):=by
    simp only [hZ]; split <;> omega
   rw [this]
theorem Ii (h:p.Ok N)(m1:Mq N S1 q1 h1 y1 k1)(m2:Mq N S2 q2 h2 y2 k2):gP 5 [p.o,S1,S2]=some ([0,1,2,9,10,11],[.int ((p.w+max y1 y2:Nat):Int),.int ((p.u+h1:Nat):Int),.int ((p.d+h2:Nat):Int),p.o,S1,S2]):=by
 obtain ⟨L,hL,hLl,L2,hL2,hm⟩:=Ak m1 m2
 have f0:=h.sk.f0
 have f1:=h.sk.f1
 have f2:=h.sk.f2
 have hcap0:∀ l,eW 1 [] l=[.no]:=fun _=>rfl
 generalize max y1 y2=Y at *
 rcases m1.or with ⟨rfl,rfl,_⟩ | ⟨rfl,z1,_,_,g1⟩
 ·rcases m2.or with ⟨rfl,rfl,_⟩ | ⟨rfl,z2,_,_,g2⟩
  ·simp [gP,eJ,dq,envOf,hcap0,hL,hLl,hL2,hm,f0,f1,f2,md]
  ·have i2:=g2.sk.non false
   have t2:=iw g2.sk
   rw [← z2] at t2
   simp [gP,eJ,dq,envOf,hcap0,hL,hLl,hL2,hm,f0,f1,f2,md,i2,t2]
 ·have i1:=g1.sk.non false
  have t1:=iw g1.sk
  rw [← z1] at t1
  rcases m2.or with ⟨rfl,rfl,_⟩ | ⟨rfl,z2,_,_,g2⟩
  ·simp [gP,eJ,dq,envOf,hcap0,hL,hLl,hL2,hm,f0,f1,f2,md,i1,t1]
  ·have i2:=g2.sk.non false
   have t2:=iw g2.sk
   rw [← z2] at t2
   simp [gP,eJ,dq,envOf,hcap0,hL,hLl,hL2,hm,f0,f1,f2,md,i1,t1,i2,t2]
theorem Ij (h:p.Ok N)(g:q1.Ok N)(W U V:Nat)(S2:D):jX 0 eD (oMa W U V p.o q1.o S2) []=some (.int (-(p.u:Int) - 1 - (q1.d:Int))):=by
 have f1:=h.sk.f1
 have f2:=g.sk.f2
 have:cB [oMa W U V p.o q1.o S2]=some (.int (-(p.u:Int) - 1 - (q1.d:Int))):=by
  simp [cB,ay,dD,envOf,oMa,f1,f2]
 unfold oMa at this ⊢
 simp [eD,this]
theorem DH (h:p.Ok N)(g:q2.Ok N)(W U V:Nat)(S1:D):jX 0 dJ (oMa W U V p.o S1 q2.o) []=some (.int ((p.d:Int)+1+(q2.u:Int))):=by
 have f1:=g.sk.f1
 have f2:=h.sk.f2
 have:cj [oMa W U V p.o S1 q2.o]=some (.int ((p.d:Int)+1+(q2.u:Int))):=by
  simp [cj,ay,d7,envOf,oMa,f1,f2]
 unfold oMa at this ⊢
 simp [dJ,this]
theorem Ik (h:p.Ok N)(m1:Mq N S1 q1 h1 y1 k1)(m2:Mq N S2 q2 h2 y2 k2)(hl:p.u+h1+(p.d+h2)+1≤1000)(hw:p.w+max y1 y2≤3000)(hm:p.m+k1+k2+1≤9000):Pz.Ok (N+1) ⟨oMa (p.w+max y1 y2) (p.u+h1) (p.d+h2) p.o S1 S2,p.u+h1,p.d+h2,p.w+max y1 y2,p.m+k1+k2+1⟩:=by
 have fl:Fl (oMa (p.w+max y1 y2) (p.u+h1) (p.d+h2) p.o S1 S2) (p.u+h1) (p.d+h2) (p.w+max y1 y2):=⟨by simp [oMa],by simp [oMa],by simp [oMa],fun b=>by cases b <;> rfl⟩
 have f0:=h.sk.f0
 have hme:∀ (W U V:Nat) (ks:List D),ck [oMa W U V p.o S1 S2]=some ks→jX 0 dM (oMa W U V p.o S1 S2) []=some ks:=fun W U V ks hk=>by
  unfold oMa at hk ⊢
  simp [dM,hk]
 rcases m1.or with ⟨rfl,rfl,rfl,rfl⟩ | ⟨rfl,z1,z3,z4,g1⟩
 ·rcases m2.or with ⟨rfl,rfl,rfl,rfl⟩ | ⟨rfl,z2,z5,z6,g2⟩
  ·refine ⟨fl,node fl [⟨p.o,p.u,p.d,p.w,0,0,p.m⟩] (hme _ _ _ _ ?_) (fun k hk=>?_) (fun k hk=>?_) (by simp) hm,hl,hw⟩
   ·simp [ck,bj,cS,envOf,oMa,Sp.dat]
   ·rw [List.mem_singleton.mp hk]; exact h.pl
   ·rw [List.mem_singleton.mp hk]; simp only []; omega
  ·have ll:=DH h g2 (p.w+max 0 y2) (p.u+0) (p.d+h2) .non
   have i2:=g2.sk.non true
   refine ⟨fl,node fl [⟨p.o,p.u,p.d,p.w,0,0,p.m⟩,⟨q2.o,q2.u,q2.d,q2.w,(p.d:Int)+1+(q2.u:Int),p.w,q2.m⟩] (hme _ _ _ _ ?_) (fun k hk=>?_) (fun k hk=>?_) (by simp; omega) hm,hl,hw⟩
   ·clear hme fl
    unfold oMa at ll ⊢
    generalize p.w+max 0 y2=W at *
    generalize p.u+0=U at *
    generalize p.d+h2=V at *
    simp [-oU,ck,bj,cS,envOf,Sp.dat,i2,ll,f0]
   ·rcases List.mem_cons.mp hk with rfl | hk
    ·exact h.pl
    ·rw [List.mem_singleton.mp hk]; exact g2.pl
   ·rcases List.mem_cons.mp hk with rfl | hk
    ·simp only []; omega
    ·rw [List.mem_singleton.mp hk]; simp only []; omega
 ·have i1:=g1.sk.non true
  have rl:=Ij h g1 (p.w+max y1 y2) (p.u+h1) (p.d+h2) S2
  rcases m2.or with ⟨rfl,rfl,rfl,rfl⟩ | ⟨rfl,z2,z5,z6,g2⟩
  ·refine ⟨fl,node fl [⟨p.o,p.u,p.d,p.w,0,0,p.m⟩,⟨q1.o,q1.u,q1.d,q1.w, -(p.u:Int) - 1 - (q1.d:Int),p.w,q1.m⟩] (hme _ _ _ _ ?_) (fun k hk=>?_) (fun k hk=>?_) (by simp; omega) hm,hl,hw⟩
   ·clear hme fl
    unfold oMa at rl ⊢
    generalize p.w+max y1 0=W at *
    generalize p.u+h1=U at *
    generalize p.d+0=V at *
    simp [-oU,ck,bj,cS,envOf,Sp.dat,i1,rl,f0]
   ·rcases List.mem_cons.mp hk with rfl | hk
    ·exact h.pl
    ·rw [List.mem_singleton.mp hk]; exact g1.pl
   ·rcases List.mem_cons.mp hk with rfl | hk
    ·simp only []; omega
    ·rw [List.mem_singleton.mp hk]; simp only []; omega
  ·have i2:=g2.sk.non true
   have ll:=DH h g2 (p.w+max y1 y2) (p.u+h1) (p.d+h2) q1.o
   refine ⟨fl,node fl [⟨p.o,p.u,p.d,p.w,0,0,p.m⟩,⟨q1.o,q1.u,q1.d,q1.w, -(p.u:Int) - 1 - (q1.d:Int),p.w,q1.m⟩,⟨q2.o,q2.u,q2.d,q2.w,(p.d:Int)+1+(q2.u:Int),p.w,q2.m⟩] (hme _ _ _ _ ?_) (fun k hk=>?_) (fun k hk=>?_) (by simp; omega) hm,hl,hw⟩
   ·clear hme fl
    unfold oMa at rl ll ⊢
    generalize p.w+max y1 y2=W at *
    generalize p.u+h1=U at *
    generalize p.d+h2=V at *
    simp [-oU,ck,bj,cS,envOf,Sp.dat,i1,rl,i2,ll,f0]
   ·rcases List.mem_cons.mp hk with rfl | hk
    ·exact h.pl
    ·rcases List.mem_cons.mp hk with rfl | hk
     ·exact g1.pl
     ·rw [List.mem_singleton.mp hk]; exact g2.pl
   ·rcases List.mem_cons.mp hk with rfl | hk
    ·simp only []; omega
    ·rcases List.mem_cons.mp hk with rfl | hk
     ·simp only []; omega
     ·rw [List.mem_singleton.mp hk]; simp only []; omega
end
def eM (ps:List Pz):Nat:=gm (ps.map Pz.u)
def gn (ps:List Pz):Nat:=gm (ps.map Pz.d)
def wOf (ps:List Pz):Nat:=(ps.map fun p=>3+p.w).sum
section
variable {N:Nat}
theorem mO {fe:FE}{env:aN}(g:Pz→D)(h:∀ p:Pz,p.Ok N→∃ e,aM 0 p.o env=some e∧fe e=some (g p)):∀ ps:List Pz,(∀ p∈ps,p.Ok N)→aS (aM 0) bW fe env (ps.map Pz.o)=some (ps.map g)
 | [],_=>rfl
 | p::ps,ok=>by
  obtain ⟨e,h1,h2⟩:=h p (ok p List.mem_cons_self)
  exact bA h1 rfl h2 (mO g h ps fun q hq=>ok q (List.mem_cons_of_mem _ hq))
theorem w_sum:∀ ps:List Pz,(ps.map Pz.w).sum+3 * ps.length=wOf ps
 | []=>rfl
 | p::ps=>by
  have:=w_sum ps
  simp only [wOf,List.map_cons,List.sum_cons,List.length_cons] at this ⊢
  omega
def oCh (w u d:Nat)(os:List D)(xs:List Nat):D:=.ob 2 [0,1,2,4,5] [.int (w:Nat),.int (u:Nat),.int (d:Nat),.lst os,.str xs]
theorem Il (p:Pz)(ps:List Pz)(xs:List Nat)(ok:∀ q∈p::ps,q.Ok N)(hl:ps.length≤100):m9 2 [.lst ((p::ps).map Pz.o),.str xs]=some ([0,1,2,4,5],[.int ((p.w+wOf ps:Nat):Int),.int (eM (p::ps):Nat),.int (gn (p::ps):Nat),.lst ((p::ps).map Pz.o),.str xs]):=by
 have c0:=mO (fe:=fL) (env:=[.no]) (fun p=>.int (p.w:Nat)) (fun p hp=>⟨[.val p.o],rfl,by simp [fL,hp.sk.f0]⟩) (p::ps) ok
 have c1:=mO (fe:=fM) (env:=[.no]) (fun p=>.int (p.u:Nat)) (fun p hp=>⟨[.val p.o],rfl,by simp [fM,hp.sk.f1]⟩) (p::ps) ok
 have c2:=mO (fe:=fN) (env:=[.no]) (fun p=>.int (p.d:Nat)) (fun p hp=>⟨[.val p.o],rfl,by simp [fN,hp.sk.f2]⟩) (p::ps) ok
 have m0:=uh (p.w::ps.map Pz.w) (fun a ha=>by
  rcases List.mem_cons.mp ha with rfl | ha
  ·have:=(ok p List.mem_cons_self).hw; omega
  ·obtain ⟨q,hq,rfl⟩:=List.mem_map.mp ha
   have:=(ok q (List.mem_cons_of_mem _ hq)).hw; omega) (by simp; omega)
 have m1:=jb p.u (ps.map Pz.u)
 have m2:=jb p.d (ps.map Pz.d)
 have e0:((p.w::ps.map Pz.w).map fun i:Nat=>D.int (i:Nat))=(p::ps).map fun p=>.int (p.w:Nat):=by simp
 have e1:((p.u::ps.map Pz.u).map fun i:Nat=>D.int (i:Nat))=(p::ps).map fun p=>.int (p.u:Nat):=by simp
 have e2:((p.d::ps.map Pz.d).map fun i:Nat=>D.int (i:Nat))=(p::ps).map fun p=>.int (p.d:Nat):=by simp
 rw [e0] at m0
 rw [e1] at m1
 rw [e2] at m2
 change ix _=some (.int (eM (p::ps):Nat)) at m1
 change ix _=some (.int (gn (p::ps):Nat)) at m2
 have hcap0:∀ l,eW 1 [] l=[.no]:=fun _=>rfl
 have hlen:((p::ps).map Pz.o).length≤1000000:=by simp; omega
 have hle:(((p::ps).map Pz.o).length:Int) - 1=(ps.length:Int):=by simp
 have hm:=jq 3 (ps.length:Int) (by omega)
 have hs:((p.w::ps.map Pz.w).sum:Int)+3 * (ps.length:Int)=((p.w+wOf ps:Nat):Int):=by
  have:=w_sum ps
  rw [List.sum_cons]; omega
 clear e0 e1 e2
 generalize ((p::ps).map fun p:Pz=>D.int (p.w:Nat))=L0 at *
 generalize ((p::ps).map fun p:Pz=>D.int (p.u:Nat))=L1 at *
 generalize ((p::ps).map fun p:Pz=>D.int (p.d:Nat))=L2 at *
 generalize eM (p::ps)=U at *
 generalize gn (p::ps)=DD at *
 generalize (p::ps).map Pz.o=PS at *
 generalize p.w+wOf ps=W at *
 generalize (p.w::ps.map Pz.w).sum=SS at *
 simp only [m9,eJ,i7,envOf]
 simp [hlen,hcap0,c0,c1,c2,m0,m1,m2,hle,hm,hs,md]
theorem Im (ps:List Pz)(ok:∀ q∈ps,q.Ok N):eM ps≤1000:=sd _ _ fun a ha=>by
 obtain ⟨q,hq,rfl⟩:=List.mem_map.mp ha
 have:=(ok q hq).hl; omega
theorem Io (ps:List Pz)(ok:∀ q∈ps,q.Ok N):gn ps≤1000:=sd _ _ fun a ha=>by
 obtain ⟨q,hq,rfl⟩:=List.mem_map.mp ha
 have:=(ok q hq).hl; omega
def spZ:Nat→List Pz→List Sp
 | _,[]=>[]
 | r,p::ps=>⟨p.o,p.u,p.d,p.w,0,(r:Nat),p.m⟩::spZ (r+p.w+3) ps
theorem uk:∀ (r:Nat) (ps:List Pz),(spZ r ps).map Sp.many=ps.map Pz.m
 | _,[]=>rfl
 | r,p::ps=>by simp [spZ,uk _ ps]
theorem se:∀ (r:Nat) (ps:List Pz) (k:Sp),k∈spZ r ps→∃ q∈ps,k.o=q.o∧k.u=q.u∧k.d=q.d∧k.w=q.w∧k.many=q.m∧k.lo=0∧(r:Int)≤k.ri∧k.ri+(k.w:Int)+3≤(r:Int)+(wOf ps:Int)
 | _,[],k,h=>nomatch h
 | r,p::ps,k,h=>by
  have hw:wOf (p::ps)=3+p.w+wOf ps:=by simp [wOf]
  rcases List.mem_cons.mp h with rfl | h
  ·exact ⟨p,List.mem_cons_self,rfl,rfl,rfl,rfl,rfl,rfl,Int.le_refl _,by show (r:Int)+(p.w:Int)+3≤_; omega⟩
  ·obtain ⟨q,hq,a1,a2,a3,a4,a5,a6,a7,a8⟩:=se _ ps k h
   exact ⟨q,List.mem_cons_of_mem _ hq,a1,a2,a3,a4,a5,a6,by omega,by omega⟩
theorem wI (s0:Slot):∀ (ps:List Pz) (r:Nat) (acc:List D) (s3:Slot),(∀ p∈ps,p.Ok N)→acc.length+ps.length≤10000→∃ t2 t3,runFor (aM 3) fj (ps.map Pz.o) [s0,.own acc,.val (.int (r:Nat)),s3]=some (.nx [s0,.own (acc++(spZ r ps).map Sp.dat),t2,t3])
 | [],r,acc,s3,_,_=>⟨_,s3,by simp [spZ,runFor]; rfl⟩
 | p::ps,r,acc,s3,ok,hl=>by
  have f0:=(ok p List.mem_cons_self).sk.f0
  simp only [List.length_cons] at hl
  obtain ⟨t2,t3,ih⟩:=wI s0 ps (r+p.w+3) (acc++[.tup [p.o,.int 0,.int (r:Nat)]]) (.val p.o) (fun q hq=>ok q (List.mem_cons_of_mem _ hq)) (by simp; omega)
  refine ⟨t2,t3, ?_⟩
  have e:acc++(spZ r (p::ps)).map Sp.dat=acc++[.tup [p.o,.int 0,.int (r:Nat)]]++(spZ (r+p.w+3) ps).map Sp.dat:=by simp [spZ,Sp.dat]
  rw [e, ← ih,List.map_cons]
  have l1:acc.length<1000000:=by omega
  refine cZ (e1:=[s0,.own acc,.val (.int (r:Nat)),.val p.o]) (by simp) ?_
  simp [fj,f0,l1]
  omega
theorem Ip (p:Pz)(ps:List Pz)(xs:List Nat)(ok:∀ q∈p::ps,q.Ok N)(hl:ps.length≤100)(hh:eM (p::ps)+gn (p::ps)+1≤1000)(hw:p.w+wOf ps≤3000)(hm:((p::ps).map Pz.m).sum+1≤9000):Pz.Ok (N+1) ⟨oCh (p.w+wOf ps) (eM (p::ps)) (gn (p::ps)) ((p::ps).map Pz.o) xs,eM (p::ps),gn (p::ps),p.w+wOf ps,((p::ps).map Pz.m).sum+1⟩:=by
 have fl:Fl (oCh (p.w+wOf ps) (eM (p::ps)) (gn (p::ps)) ((p::ps).map Pz.o) xs) (eM (p::ps)) (gn (p::ps)) (p.w+wOf ps):=⟨by simp [oCh],by simp [oCh],by simp [oCh],fun b=>by cases b <;> rfl⟩
 refine ⟨fl,node fl (spZ 0 (p::ps)) ?_ (fun k hk=>?_) (fun k hk=>?_) (by rw [uk]; exact Nat.le_refl _) hm,hh,hw⟩
 ·obtain ⟨t2,t3,lp⟩:=wI (.val (oCh (p.w+wOf ps) (eM (p::ps)) (gn (p::ps)) ((p::ps).map Pz.o) xs)) (p::ps) 0 [] .no ok (by simp; omega)
  have:fH [oCh (p.w+wOf ps) (eM (p::ps)) (gn (p::ps)) ((p::ps).map Pz.o) xs]=some ((spZ 0 (p::ps)).map Sp.dat):=by
   rw [List.nil_append,show ((0:Nat):Int)=0 from rfl] at lp
   generalize (p::ps).map Pz.o=PS at *
   generalize (spZ 0 (p::ps)).map Sp.dat=SS at *
   generalize eM (p::ps)=U at *
   generalize gn (p::ps)=V at *
   generalize p.w+wOf ps=W at *
   unfold oCh at *
   simp only [fH,bj,gH,envOf]
   simp [lp]
  generalize (p::ps).map Pz.o=PS at *
  generalize (spZ 0 (p::ps)).map Sp.dat=SS at *
  generalize eM (p::ps)=U at *
  generalize gn (p::ps)=V at *
  generalize p.w+wOf ps=W at *
  unfold oCh at this ⊢
  simp [dM,this]
 ·obtain ⟨q,hq,a1,a2,a3,a4,a5, -⟩:=se 0 _ k hk
  rw [a1,a2,a3,a4,a5]
  exact (ok q hq).pl
 ·obtain ⟨q,hq,a1,a2,a3,a4,a5,a6,a7,a8⟩:=se 0 _ k hk
  have hw':wOf (p::ps)=3+p.w+wOf ps:=by simp [wOf]
  have u1:q.u≤eM (p::ps):=jx _ _ (List.mem_map.mpr ⟨q,hq,rfl⟩)
  have d1:q.d≤gn (p::ps):=jx _ _ (List.mem_map.mpr ⟨q,hq,rfl⟩)
  rw [a6,a2,a3]
  show -((eM (p::ps):Nat):Int)≤0 - (q.u:Int)∧0+(q.d:Int)≤(gn (p::ps):Int)∧0≤k.ri∧k.ri+(k.w:Int)≤((p.w+wOf ps:Nat):Int)
  omega
end
section
variable {N:Nat}
theorem Al (d:D)(t:Nat)(ht:t≤60000):zz [d] (.int (t:Int))=some (List.replicate t d):=by
 show (if _ then _ else _)=_
 rw [if_pos ⟨by simp,by omega,by omega⟩]
 simp
def hgt (b:List Pz):Nat:=eM b+1+gn b
theorem Am (p:Pz)(ps:List Pz)(ok:∀ q∈p::ps,q.Ok N)(hl:ps.length≤100):cF [.lst ((p::ps).map Pz.o)]=some (.int (eM (p::ps):Nat)):=by
 have c1:=mO (fe:=fb) (env:=[.no]) (fun p=>.int (p.u:Nat)) (fun p hp=>⟨[.val p.o],rfl,by simp [fb,hp.sk.f1]⟩) (p::ps) ok
 have m1:=jb p.u (ps.map Pz.u)
 have e1:((p.u::ps.map Pz.u).map fun i:Nat=>D.int (i:Nat))=(p::ps).map fun p=>.int (p.u:Nat):=by simp
 rw [e1] at m1
 change ix _=some (.int (eM (p::ps):Nat)) at m1
 have hcap0:∀ l,eW 1 [] l=[.no]:=fun _=>rfl
 have hlen:((p::ps).map Pz.o).length≤1000000:=by simp; omega
 clear e1
 generalize ((p::ps).map fun p:Pz=>D.int (p.u:Nat))=L1 at *
 generalize (p::ps).map Pz.o=PS at *
 simp only [cF,ay,gF,envOf]
 simp [hlen,hcap0,c1,m1]
theorem FX (p:Pz)(ps:List Pz)(ok:∀ q∈p::ps,q.Ok N)(hl:ps.length≤100):cG [.lst ((p::ps).map Pz.o)]=some (.int (hgt (p::ps):Nat)):=by
 have g:=Am p ps ok hl
 have c1:=mO (fe:=fc) (env:=[.no]) (fun p=>.int (p.d:Nat)) (fun p hp=>⟨[.val p.o],rfl,by simp [fc,hp.sk.f2]⟩) (p::ps) ok
 have m1:=jb p.d (ps.map Pz.d)
 have e1:((p.d::ps.map Pz.d).map fun i:Nat=>D.int (i:Nat))=(p::ps).map fun p=>.int (p.d:Nat):=by simp
 rw [e1] at m1
 change ix _=some (.int (gn (p::ps):Nat)) at m1
 have hcap0:∀ l,eW 1 [] l=[.no]:=fun _=>rfl
 have hlen:((p::ps).map Pz.o).length≤1000000:=by simp; omega
 have hh:(eM (p::ps):Int)+1+(gn (p::ps):Int)=(hgt (p::ps):Nat):=by unfold hgt; omega
 clear e1
 generalize ((p::ps).map fun p:Pz=>D.int (p.d:Nat))=L1 at *
 generalize (p::ps).map Pz.o=PS at *
 generalize eM (p::ps)=U at *
 generalize gn (p::ps)=DD at *
 generalize hgt (p::ps)=HH at *
 simp only [cG,ay,gG,envOf]
 simp [hlen,hcap0,g,c1,m1,hh]
structure Bd (N:Nat)(n:Nat)(b:List Pz):Prop where
 len:b.length=n
 ok:∀ q∈b,q.Ok N
theorem Bd.cons {n:Nat}{b:List Pz}(h:Bd N n b)(hn:1≤n):∃ p ps,b=p::ps:=by
 cases b with
 | nil=>have:=h.len; simp at this; omega
 | cons p ps=>exact ⟨p,ps,rfl⟩
theorem Bd.gup {n:Nat}{b:List Pz}(h:Bd N n b)(hn:1≤n)(h9:n≤9):cF [.lst (b.map Pz.o)]=some (.int (eM b:Nat)):=by
 obtain ⟨p,ps,rfl⟩:=h.cons hn
 have:=h.len
 exact Am p ps h.ok (by simp at this; omega)
theorem Bd.hgt {n:Nat}{b:List Pz}(h:Bd N n b)(hn:1≤n)(h9:n≤9):cG [.lst (b.map Pz.o)]=some (.int (K36.hgt b:Nat)):=by
 obtain ⟨p,ps,rfl⟩:=h.cons hn
 have:=h.len
 exact FX p ps h.ok (by simp at this; omega)
theorem Bd.hle {n:Nat}{b:List Pz}(h:Bd N n b)(hn:1≤n):K36.hgt b≤2001∧1≤K36.hgt b∧eM b≤1000:=by
 obtain ⟨p,ps,rfl⟩:=h.cons hn
 have h1:=Im (p::ps) h.ok
 have h2:=Io (p::ps) h.ok
 unfold K36.hgt
 omega
def NBx (n:Nat):List (List Pz)→List D
 | []=>[]
 | [b]=>List.replicate (hgt b) (.int (n:Nat))
 | b::b'::r=>List.replicate (hgt b) (.int (n:Nat))++.non::NBx (n+1) (b'::r)
def um (n:Nat)(bs:List (List Pz)):List D:=match bs with
 | []=>[]
 | b::r=>if n=0 then NBx n (b::r) else .non::NBx n (b::r)
theorem wJ {m:Nat}(hm:1≤m)(h9:m≤9)(s0:Slot):∀ (bs:List (List Pz)) (n:Nat) (acc:List D) (s2 s3:Slot),(∀ b∈bs,Bd N m b)→acc.length+2002 * bs.length≤100000→∃ t2 t3,runFor (fU [2,3]) cA (lW n (bs.map fun b=>.lst (b.map Pz.o))) [s0,.own acc,s2,s3]=some (.nx [s0,.own (acc++um n bs),t2,t3])
 | [],n,acc,s2,s3,_,_=>⟨s2,s3,by simp [um,qM,runFor]⟩
 | b::r,n,acc,s2,s3,h,hl=>by
  have hb:=(h b List.mem_cons_self)
  have hh:=hb.hgt hm h9
  have hle:=hb.hle hm
  have hl':acc.length+2002 * r.length+2002≤100000:=by simp only [List.length_cons] at hl; omega
  have mf:=Al (.int (n:Nat)) (hgt b) (by omega)
  obtain ⟨t2,t3,ih⟩:=wJ hm h9 s0 r (n+1) (acc++((if n=0 then [] else [D.non])++List.replicate (hgt b) (.int (n:Nat)))) (.val (.int (n:Nat))) (.val (.lst (b.map Pz.o))) (fun q hq=>h q (List.mem_cons_of_mem _ hq)) (by
   simp only [List.length_append,List.length_replicate]
   split <;> simp <;> omega)
  refine ⟨t2,t3, ?_⟩
  have e:acc++um n (b::r)=acc++((if n=0 then [] else [D.non])++List.replicate (hgt b) (.int (n:Nat)))++um (n+1) r:=by
   cases r with
   | nil=>by_cases h0:n=0 <;> simp [um,NBx,h0]
   | cons b' r=>by_cases h0:n=0 <;> simp [um,NBx,h0]
  rw [e, ← ih,List.map_cons,lx]
  refine cZ (e1:=[s0,.own acc,.val (.int (n:Nat)),.val (.lst (b.map Pz.o))]) (by simp) ?_
  generalize b.map Pz.o=PB at *
  have l1:acc.length<1000000:=by omega
  have l2:acc.length+hgt b≤1000000:=by omega
  have l3:acc.length+1+hgt b≤1000000:=by omega
  have lr:(List.replicate (hgt b) (D.int (n:Nat))).length=hgt b:=by simp
  generalize List.replicate (hgt b) (D.int (n:Nat))=RR at *
  by_cases h0:n=0
  ·subst h0
   have mf':zz [.int 0] (.int (hgt b:Nat))=some RR:=mf
   simp [cA,hh,mf',lr,l2]
  ·have h0' : 0<n:=by omega
   simp [cA,hh,mf,lr,l1,l3,h0,h0']
theorem Iq {m:Nat}(hm:1≤m)(h9:m≤9)(bs:List (List Pz))(h:∀ b∈bs,Bd N m b)(hl:bs.length≤9):dG [.lst (bs.map fun b=>.lst (b.map Pz.o))]=some (NBx 0 bs):=by
 obtain ⟨t2,t3,lp⟩:=wJ hm h9 (.val (.lst (bs.map fun b=>.lst (b.map Pz.o)))) bs 0 [] .no .no h (by simp; omega)
 have e:um 0 bs=NBx 0 bs:=by cases bs <;> simp [um,NBx]
 rw [List.nil_append,e] at lp
 have he:j5 (bs.map fun b=>D.lst (b.map Pz.o))=lW 0 (bs.map fun b=>D.lst (b.map Pz.o)):=rfl
 generalize NBx 0 bs=NN at *
 generalize (bs.map fun b=>D.lst (b.map Pz.o))=BB at *
 simp only [dG,bj,fg,envOf]
 simp [he,lp]
def LW (top:Int):List (List Pz)→List Int
 | []=>[]
 | b::r=>(top+(eM b:Nat))::LW (top+(hgt b:Nat)+1) r
theorem wK {m:Nat}(hm:1≤m)(h9:m≤9)(s0 s1:Slot):∀ (bs:List (List Pz)) (top:Int) (acc:List D) (s4:Slot),(∀ b∈bs,Bd N m b)→acc.length+bs.length≤100000→∃ t3 t4,runFor (aM 4) gj (bs.map fun b=>.lst (b.map Pz.o)) [s0,s1,.own acc,.val (.int top),s4]=some (.nx [s0,s1,.own (acc++(LW top bs).map .int),t3,t4])
 | [],top,acc,s4,_,_=>⟨_,s4,by simp [LW,runFor]; rfl⟩
 | b::r,top,acc,s4,h,hl=>by
  have hb:=(h b List.mem_cons_self)
  have hh:=hb.hgt hm h9
  have hg:=hb.gup hm h9
  simp only [List.length_cons] at hl
  obtain ⟨t3,t4,ih⟩:=wK hm h9 s0 s1 r (top+(hgt b:Nat)+1) (acc++[.int (top+(eM b:Nat))]) (.val (.lst (b.map Pz.o))) (fun q hq=>h q (List.mem_cons_of_mem _ hq)) (by simp; omega)
  refine ⟨t3,t4, ?_⟩
  have e:acc++(LW top (b::r)).map D.int=acc++[.int (top+(eM b:Nat))]++(LW (top+(hgt b:Nat)+1) r).map .int:=by simp [LW]
  rw [e, ← ih,List.map_cons]
  refine cZ (e1:=[s0,s1,.own acc,.val (.int top),.val (.lst (b.map Pz.o))]) (by simp) ?_
  generalize b.map Pz.o=PB at *
  have l1:acc.length<1000000:=by omega
  have e2:top+((hgt b:Int)+1)=top+(hgt b:Int)+1:=by omega
  simp [gj,hh,hg,l1,e2]
theorem Ir {m:Nat}(hm:1≤m)(h9:m≤9)(bs:List (List Pz))(h:∀ b∈bs,Bd N m b)(hl:bs.length≤9)(up:Int):gO [.lst (bs.map fun b=>.lst (b.map Pz.o)),.int up]=some ((LW (-up) bs).map .int):=by
 obtain ⟨t3,t4,lp⟩:=wK hm h9 (.val (.lst (bs.map fun b=>.lst (b.map Pz.o)))) (.val (.int up)) bs (-up) [] .no h (by simp; omega)
 rw [List.nil_append] at lp
 generalize (LW (-up) bs).map D.int=NN at *
 generalize (bs.map fun b=>D.lst (b.map Pz.o))=BB at *
 simp only [gO,bj,iO,envOf]
 simp [lp]
theorem Iu (n:Nat)(h:n≤9):jC [.int (n:Nat)]=some (cX 0 n):=rK (by omega) (by omega)
theorem Cz (n:Nat)(h:n≤9):(cX 0 n).length≤1000000:=by unfold cX; simp; omega
def wAt (i:Nat)(b:List Pz):Nat:=((b[i]?).map Pz.w).getD 0
def il (n:Nat)(bs:List (List Pz)):List Nat:=(List.range n).map fun i=>gm (bs.map (wAt i))
theorem An {n:Nat}{fe:FE}{env:aN}(pr g:List Pz→D)(h:∀ b,Bd N n b→∃ e,aM 0 (pr b) env=some e∧fe e=some (g b)):∀ bs:List (List Pz),(∀ b∈bs,Bd N n b)→aS (aM 0) bW fe env (bs.map pr)=some (bs.map g)
 | [],_=>rfl
 | b::bs,ok=>by
  obtain ⟨e,h1,h2⟩:=h b (ok b List.mem_cons_self)
  exact bA h1 rfl h2 (An pr g h bs fun q hq=>ok q (List.mem_cons_of_mem _ hq))
theorem Bd.at {n:Nat}{b:List Pz}(h:Bd N n b){i:Nat}(hi:i<n):∃ p,b[i]?=some p∧p.Ok N∧wAt i b=p.w:=by
 have hl:=h.len
 have e:b[i]?=some (b[i]'(by omega)):=List.getElem?_eq_getElem _
 exact ⟨_,e,h.ok _ (List.mem_of_getElem? e),by unfold wAt; rw [e]; rfl⟩
theorem Ao (i:Nat)(b:List Pz)(r:List (List Pz)):ix (.lst ((b::r).map fun b=>.int (wAt i b:Nat)))=some (.int (gm ((b::r).map (wAt i)):Nat)):=by
 have:=jb (wAt i b) (r.map (wAt i))
 have e1:((wAt i b::r.map (wAt i)).map fun i:Nat=>D.int (i:Nat))=(b::r).map fun b=>.int (wAt i b:Nat):=by simp
 rw [e1] at this
 exact this
theorem CA {n:Nat}{fe:FE}{env:aN}(b:List Pz)(r:List (List Pz))(h:∀ i,i<n→∃ e,aM 0 (.int (i:Nat)) env=some e∧fe e=some (.int (gm ((b::r).map (wAt i)):Nat))):aS (aM 0) bW fe env (cX 0 n)=some ((il n (b::r)).map fun i=>.int (i:Nat)):=by
 have:=nh (tg:=aM 0) (fe:=fe) (env:=env) (fun x=>match x with | .int k=>.int (gm ((b::r).map (wAt k.toNat)):Nat) | _=>.non) (cX 0 n) (by
  intro d hd
  unfold cX at hd
  obtain ⟨i,hi,rfl⟩:=List.mem_map.mp hd
  obtain ⟨e,h1,h2⟩:=h i (List.mem_range.mp hi)
  refine ⟨e, ?_, ?_⟩
  ·rw [show (0:Int)+((i:Nat):Int)=(i:Nat) by omega]; exact h1
  ·rw [h2]
   show _=some (D.int (gm ((b::r).map (wAt ((0:Int)+((i:Nat):Int)).toNat)):Nat))
   rw [show ((0:Int)+((i:Nat):Int)).toNat=i by omega])
 rw [this]
 unfold cX il
 rw [List.map_map,List.map_map]
 congr 1
 apply List.map_congr_left
 intro i _
 show D.int (gm ((b::r).map (wAt ((0:Int)+((i:Nat):Int)).toNat)):Nat)=_
 rw [show ((0:Int)+((i:Nat):Int)).toNat=i by omega]; rfl
theorem cw_ok {n:Nat}(hn:1≤n)(h9:n≤9)(b:List Pz)(r:List (List Pz))(h:∀ q∈b::r,Bd N n q)(hl:r.length≤8):eo [.lst ((b::r).map fun b=>.lst (b.map Pz.o))]=some ((il n (b::r)).map fun i=>.int (i:Nat)):=by
 have hlen:((b::r).map fun b=>D.lst (b.map Pz.o)).length≤1000000:=by simp; omega
 have hr:=Iu n h9
 have hc:=CA (n:=n) (fe:=eh) (env:=[.no,.val (.lst ((b::r).map fun b=>.lst (b.map Pz.o)))]) b r (by
  intro i hi
  refine ⟨_,rfl, ?_⟩
  have c1:=An (n:=n) (fe:=eg) (env:=[.no,.val (.int (i:Nat))]) (fun b=>.lst (b.map Pz.o)) (fun b=>.int (wAt i b:Nat)) (by
   intro q hq
   obtain ⟨p,e1,e2,e3⟩:=hq.at hi
   have ha:atI (q.map Pz.o) (i:Int)=some p.o:=by rw [jR,List.getElem?_map,e1]; rfl
   refine ⟨[.val (.lst (q.map Pz.o)),.val (.int (i:Nat))],rfl, ?_⟩
   rw [e3]
   generalize q.map Pz.o=QQ at *
   simp [eg,ha,e2.sk.f0]) (b::r) h
  have mx:=Ao i b r
  have hcap:∀ a c:Slot,eW 1 [0] [a,c]=[.no,a]:=fun _ _=>rfl
  generalize ((b::r).map fun b=>D.int (wAt i b:Nat))=W1 at *
  generalize ((b::r).map fun b=>D.lst (b.map Pz.o))=BB at *
  simp [eh,hlen,hcap,c1,mx])
 have h0:((b::r).map fun b=>D.lst (b.map Pz.o))[0]?=some (.lst (b.map Pz.o)):=rfl
 have hbl:(b.map Pz.o).length=n:=by rw [List.length_map]; exact (h b List.mem_cons_self).len
 have hcap:∀ a:Slot,eW 1 [0] [a]=[.no,a]:=fun _=>rfl
 have hlr:=Cz n h9
 generalize ((il n (b::r)).map fun i=>D.int (i:Nat))=WW at *
 generalize ((b::r).map fun b=>D.lst (b.map Pz.o))=BB at *
 generalize b.map Pz.o=B0 at *
 simp only [eo,bj,fK,envOf]
 simp [h0,hbl,hr,hlr,hcap,hc]
def Fit (N:Nat):List Pz→List Nat→Prop
 | [],[]=>True
 | p::ps,w::ws=>p.Ok N∧p.w≤w∧w≤3000∧Fit N ps ws
 | _,_=>False
theorem Ap:∀ (ps:List Pz) (ws:List Nat),ps.length=ws.length→(∀ (i:Nat) (p:Pz) (w:Nat),ps[i]?=some p→ws[i]?=some w→p.Ok N∧p.w≤w∧w≤3000)→Fit N ps ws
 | [],[],_,_=>trivial
 | p::ps,w::ws,h,g=>by
  obtain ⟨h1,h2,h3⟩:=g 0 p w rfl rfl
  exact ⟨h1,h2,h3,Ap ps ws (by simpa using h) fun i q v e1 e2=>g (i+1) q v (by simpa using e1) (by simpa using e2)⟩
 | [],_::_,h,_=>by simp at h
 | _::_,[],h,_=>by simp at h
theorem vB (n:Nat)(bs:List (List Pz)):(il n bs).length=n:=by simp [il]
theorem Bd.fit {n:Nat}{b:List Pz}{bs:List (List Pz)}(h:∀ q∈bs,Bd N n q)(hb:b∈bs):Fit N b (il n bs):=by
 have hl:=(h b hb).len
 refine Ap b _ (by rw [vB,hl]) fun i p w e1 e2=>?_
 have hi:i<n:=by have:=(List.getElem?_eq_some_iff.mp e1).1; omega
 obtain ⟨q,e3,e4,e5⟩:=(h b hb).at hi
 rw [e1] at e3; cases e3
 unfold il at e2
 rw [List.getElem?_map,List.getElem?_range hi] at e2
 have ew:w=gm (bs.map (wAt i)):=(Option.some.inj e2).symm
 refine ⟨e4, ?_, ?_⟩
 ·rw [ew, ← e5]; exact jx _ _ (List.mem_map.mpr ⟨b,hb,rfl⟩)
 ·rw [ew]
  refine sd _ _ fun a ha=>?_
  obtain ⟨c,hc,rfl⟩:=List.mem_map.mp ha
  obtain ⟨q',e6,e7,e8⟩:=(h c hc).at hi
  rw [e8]; exact e7.hw
theorem sf:∀ (ps:List Pz) (ws:List Nat),Fit N ps ws→ps.length=ws.length∧∀ w∈ws,w≤3000
 | [],[],_=>⟨rfl,fun w hw=>nomatch hw⟩
 | p::ps,w::ws,h=>by
  obtain ⟨h1,h2,h3,h4⟩:=h
  obtain ⟨g1,g2⟩:=sf ps ws h4
  refine ⟨by simp [g1],fun v hv=>?_⟩
  rcases List.mem_cons.mp hv with rfl | hv
  ·exact h3
  ·exact g2 v hv
def oGr (bO wD nD lD:List D)(w u d:Nat):D:=.ob 7 [12,13,14,0,1,2,15] [.lst bO,.lst wD,.lst nD,.int (w:Nat),.int (u:Nat),.int (d:Nat),.lst lD]
theorem FY (c:Nat)(ks:List Nat)(ds:List D)(w u d:Int)(h0:0 ∉ ks)(h1:1 ∉ ks)(h2:2 ∉ ks)(hl:ks.length≤10):jZ c ks ds [.int w,.int u,.int d]=some (ks++[0,1,2],ds++[.int w,.int u,.int d]):=by
 have l1:¬ 100≤ks.length:=by omega
 have l2:¬ 100≤ks.length+1:=by omega
 have l3:¬ 100≤ks.length+1+1:=by omega
 simp [jZ,u3,eC,envOf,h0,h1,h2,l1,l2,l3]
theorem qW:∀ dss:List (List D),(∀ ds∈dss,ds.length≤1000)→aS (aM 0) bW eK [.no] (dss.map .lst)=some (dss.map .lst)
 | [],_=>rfl
 | ds::r,h=>by
  have:=h ds List.mem_cons_self
  rw [List.map_cons]
  refine bA (e:=[.val (.lst ds)]) rfl rfl ?_ (qW r fun q hq=>h q (List.mem_cons_of_mem _ hq))
  have h6:ds.length≤1000000:=by omega
  simp [eK,h6]
theorem Iv {n:Nat}(hn:1≤n)(h9:n≤9)(b:List Pz)(r:List (List Pz))(h:∀ q∈b::r,Bd N n q)(hl:r.length≤8)(H:Nat)(hH:(NBx 0 (b::r)).length=H)(hH1:1≤H)(hH2:H≤20000) :
  mM 7 [.lst ((b::r).map fun b=>.lst (b.map Pz.o))]=some ([12,13,14,0,1,2,15],[.lst ((b::r).map fun b=>.lst (b.map Pz.o)),.lst ((il n (b::r)).map fun i=>.int (i:Nat)),.lst (NBx 0 (b::r)),.int (((il n (b::r)).sum+2 * n:Nat):Int),.int (((H - 1) / 2:Nat):Int),.int ((H - 1 - (H - 1) / 2:Nat):Int),.lst ((LW (-(((H - 1) / 2:Nat):Int)) (b::r)).map .int)]):=by
 have hcw:=cw_ok hn h9 b r h hl
 have hnb:=Iq hn h9 (b::r) h (by simp; omega)
 have hlw:=Ir hn h9 (b::r) h (by simp; omega) (((H - 1) / 2:Nat):Int)
 have hws:=vB n (b::r)
 have hw8:=(sf b _ (Bd.fit h List.mem_cons_self)).2
 have sm:=uh (il n (b::r)) (fun a ha=>by have:=hw8 a ha; omega) (by omega)
 have cc:=qW ((b::r).map fun b=>b.map Pz.o) (by
  intro ds hd
  obtain ⟨q,hq,rfl⟩:=List.mem_map.mp hd
  rw [List.length_map,(h q hq).len]; omega)
 have ce:((b::r).map fun b=>b.map Pz.o).map D.lst=(b::r).map fun b=>.lst (b.map Pz.o):=by rw [List.map_map]; rfl
 have ld:((b::r).map fun b=>b.map Pz.o).length≤1000000:=by simp; omega
 have lw1:((il n (b::r)).map fun i=>D.int (i:Nat)).length=n:=by rw [List.length_map,hws]
 have m2:=jq 2 (n:Int) (by omega)
 have f:=eB ((H:Int) - 1) 2 (by decide)
 obtain ⟨U,hU⟩:∃ U,U=(H - 1) / 2:=⟨_,rfl⟩
 rw [← hU] at hlw ⊢
 rw [show ((H:Int) - 1) / 2=(U:Nat) by omega] at f
 have hUl:U<H:=by omega
 clear hU
 have hd:(H:Int) - 1 - (U:Nat)=((H - 1 - U:Nat):Int):=by omega
 have hW:((il n (b::r)).sum:Int)+2 * (n:Int)=(((il n (b::r)).sum+2 * n:Nat):Int):=by omega
 have hcap0:∀ l,eW 1 [] l=[.no]:=fun _=>rfl
 have mj:=FY 7 [12,13,14] [.lst ((b::r).map fun b=>.lst (b.map Pz.o)),.lst ((il n (b::r)).map fun i=>.int (i:Nat)),.lst (NBx 0 (b::r))] (((il n (b::r)).sum+2 * n:Nat):Int) (U:Nat) ((H - 1 - U:Nat):Int) (by decide) (by decide) (by decide) (by decide)
 have hN6:(NBx 0 (b::r)).length≤1000000:=by omega
 have cc':aS (aM 0) bW eK [.no] ((b::r).map fun b=>.lst (b.map Pz.o))=some ((b::r).map fun b=>.lst (b.map Pz.o)):=by rw [← ce,cc]
 have ld':((b::r).map fun b=>D.lst (b.map Pz.o)).length≤1000000:=by simp; omega
 simp only [mM,eJ,iP,envOf]
 clear ce cc
 generalize (LW (-((U:Nat):Int)) (b::r)).map D.int=LL at *
 generalize ((b::r).map fun b=>D.lst (b.map Pz.o))=BO at *
 generalize hWW:((il n (b::r)).map fun i=>D.int (i:Nat))=WW at *
 generalize NBx 0 (b::r)=NN at *
 generalize (il n (b::r)).sum=SS at *
 generalize hTT:SS+2 * n=TT at *
 simp [ld',hcap0,cc',hcw,hnb,hH,f,sm,lw1,m2,hW,hd,mj,hlw]
def spB (low:Int):Nat→List Pz→List Nat→List Sp
 | r,p::ps,w::ws=>⟨p.o,p.u,p.d,p.w,low,(r:Int)+(w:Int) - (p.w:Int),p.m⟩::spB low (r+w+2) ps ws
 | _,_,_=>[]
def spG (ws:List Nat):List (List Pz)→List Int→List Sp
 | b::bs,l::ls=>spB l 1 b ws++spG ws bs ls
 | _,_=>[]
theorem pd (low:Int):∀ (ps:List Pz) (ws:List Nat) (r:Nat),ps.length=ws.length→(spB low r ps ws).map Sp.many=ps.map Pz.m
 | [],[],_,_=>rfl
 | p::ps,w::ws,r,h=>by simp [spB,pd low ps ws _ (by simpa using h)]
 | [],_::_,_,h=>by simp at h
 | _::_,[],_,h=>by simp at h
theorem wL (low:Int):∀ (ps:List Pz) (ws:List Nat) (r:Nat) (k:Sp),Fit N ps ws→k∈spB low r ps ws→∃ q∈ps,q.Ok N∧k.o=q.o∧k.u=q.u∧k.d=q.d∧k.w=q.w∧k.many=q.m∧k.lo=low∧(r:Int)≤k.ri∧k.ri+(k.w:Int)+2≤(r:Int)+(ws.sum:Int)+2 * (ws.length:Int)
 | [],[],_,_,_,hk=>nomatch hk
 | p::ps,w::ws,r,k,h,hk=>by
  obtain ⟨h1,h2,h3,h4⟩:=h
  rcases List.mem_cons.mp hk with rfl | hk
  ·refine ⟨p,List.mem_cons_self,h1,rfl,rfl,rfl,rfl,rfl,rfl, ?_, ?_⟩
   ·show (r:Int)≤(r:Int)+(w:Int) - (p.w:Int); omega
   ·show (r:Int)+(w:Int) - (p.w:Int)+(p.w:Int)+2≤_
    simp only [List.sum_cons,List.length_cons]; omega
  ·obtain ⟨q,hq,a0,a1,a2,a3,a4,a5,a6,a7,a8⟩:=wL low ps ws _ k h4 hk
   refine ⟨q,List.mem_cons_of_mem _ hq,a0,a1,a2,a3,a4,a5,a6,by omega, ?_⟩
   simp only [List.sum_cons,List.length_cons]; omega
theorem DI (s0 s2:Slot)(low:Int):∀ (ps:List Pz) (ws:List Nat) (r:Nat) (acc:List D) (s5 s6:Slot),Fit N ps ws→acc.length+ps.length≤10000→∃ t4 t5 t6,runFor (fU [5,6]) fO (iC (ps.map Pz.o) (ws.map fun i=>.int (i:Nat))) [s0,.own acc,s2,.val (.int low),.val (.int (r:Nat)),s5,s6]=some (.nx [s0,.own (acc++(spB low r ps ws).map Sp.dat),s2,.val (.int low),t4,t5,t6])
 | [],[],r,acc,s5,s6,_,_=>⟨_,s5,s6,by simp [spB,tY,runFor]; rfl⟩
 | p::ps,w::ws,r,acc,s5,s6,h,hl=>by
  obtain ⟨h1,h2,h3,h4⟩:=h
  have f0:=h1.sk.f0
  simp only [List.length_cons] at hl
  obtain ⟨t4,t5,t6,ih⟩:=DI s0 s2 low ps ws (r+w+2) (acc++[.tup [p.o,.int low,.int ((r:Int)+(w:Int) - (p.w:Int))]]) (.val p.o) (.val (.int (w:Nat))) h4 (by simp; omega)
  refine ⟨t4,t5,t6, ?_⟩
  have e:acc++(spB low r (p::ps) (w::ws)).map Sp.dat=acc++[.tup [p.o,.int low,.int ((r:Int)+(w:Int) - (p.w:Int))]]++(spB low (r+w+2) ps ws).map Sp.dat:=by simp [spB,Sp.dat]
  rw [e, ← ih,List.map_cons,List.map_cons,qS]
  have l1:acc.length<1000000:=by omega
  refine cZ (e1:=[s0,.own acc,s2,.val (.int low),.val (.int (r:Nat)),.val p.o,.val (.int (w:Nat))]) (by simp) ?_
  have e2:(r:Int)+((w:Int)+2)=((r+w+2:Nat):Int):=by omega
  simp [fO,f0,l1]
  omega
theorem Aq {ws:List Nat}(bO nD lD:List D)(w u d:Nat)(h9:ws.length≤9):∀ (bs:List (List Pz)) (ls:List Int) (acc:List D) (s2 s3 s4 s5 s6:Slot),(∀ b∈bs,Fit N b ws)→acc.length+10 * bs.length≤10000→∃ t2 t3 t4 t5 t6,runFor (fU [2,3]) fP (iC (bs.map fun b=>.lst (b.map Pz.o)) (ls.map .int)) [.val (oGr bO (ws.map fun i=>.int (i:Nat)) nD lD w u d),.own acc,s2,s3,s4,s5,s6]=some (.nx [.val (oGr bO (ws.map fun i=>.int (i:Nat)) nD lD w u d),.own (acc++(spG ws bs ls).map Sp.dat),t2,t3,t4,t5,t6])
 | [],ls,acc,s2,s3,s4,s5,s6,_,_=>⟨s2,s3,s4,s5,s6,by simp [spG,tY,runFor]⟩
 | b::bs,[],acc,s2,s3,s4,s5,s6,_,_=>⟨s2,s3,s4,s5,s6,by simp [spG,iC,runFor]⟩
 | b::bs,l::ls,acc,s2,s3,s4,s5,s6,h,hl=>by
  have hb:=h b List.mem_cons_self
  have hbl:=(sf b ws hb).1
  simp only [List.length_cons] at hl
  obtain ⟨u4,u5,u6,e1⟩:=DI (.val (oGr bO (ws.map fun i=>.int (i:Nat)) nD lD w u d)) (.val (.lst (b.map Pz.o))) l b ws 1 acc s5 s6 hb (by omega)
  have hbl2:(spB l 1 b ws).length=b.length:=by rw [← List.length_map (f:=Sp.many),pd l b ws 1 hbl,List.length_map]
  obtain ⟨t2,t3,t4,t5,t6,ih⟩:=Aq bO nD lD w u d h9 bs ls (acc++(spB l 1 b ws).map Sp.dat) (.val (.lst (b.map Pz.o))) (.val (.int l)) u4 u5 u6 (fun q hq=>h q (List.mem_cons_of_mem _ hq)) (by simp [hbl2]; omega)
  refine ⟨t2,t3,t4,t5,t6, ?_⟩
  rw [spG,List.map_append, ← List.append_assoc, ← ih,List.map_cons,List.map_cons,qS]
  refine cZ (e1:=[.val (oGr bO (ws.map fun i=>.int (i:Nat)) nD lD w u d),.own acc,.val (.lst (b.map Pz.o)),.val (.int l),s4,s5,s6]) (by simp) ?_
  have hzl:(iC (b.map Pz.o) (ws.map fun i=>D.int (i:Nat))).length≤1000000:=by rw [oT]; simp; omega
  rw [show ((1:Nat):Int)=1 from rfl] at e1
  unfold oGr at e1 ⊢
  generalize (spB l 1 b ws).map Sp.dat=SB at *
  generalize b.map Pz.o=BB at *
  generalize (ws.map fun i=>D.int (i:Nat))=WW at *
  simp [fP,e1]
end
section
variable {N:Nat}
theorem nbl (n:Nat)(b c:List Pz)(r:List (List Pz)):(NBx n (b::c::r)).length=hgt b+1+(NBx (n+1) (c::r)).length:=by
 simp [NBx]; omega
theorem si {n:Nat}{ws:List Nat}:∀ (bs:List (List Pz)) (i:Nat) (top:Int) (k:Sp),(∀ b∈bs,Bd N n b∧Fit N b ws)→k∈spG ws bs (LW top bs)→∃ q:Pz,q.Ok N∧k.o=q.o∧k.u=q.u∧k.d=q.d∧k.w=q.w∧k.many=q.m∧top≤k.lo - (k.u:Int)∧k.lo+(k.d:Int)+1≤top+((NBx i bs).length:Int)∧1≤k.ri∧k.ri+(k.w:Int)+2≤1+(ws.sum:Int)+2 * (ws.length:Int)
 | [],i,top,k,_,hk=>by simp [spG] at hk
 | b::r,i,top,k,h,hk=>by
  rw [LW,spG] at hk
  rcases List.mem_append.mp hk with hk | hk
  ·obtain ⟨q,hq,a0,a1,a2,a3,a4,a5,a6,a7,a8⟩:=wL (top+(eM b:Nat)) b ws 1 k (h b List.mem_cons_self).2 hk
   have u1:q.u≤eM b:=jx _ _ (List.mem_map.mpr ⟨q,hq,rfl⟩)
   have d1:q.d≤gn b:=jx _ _ (List.mem_map.mpr ⟨q,hq,rfl⟩)
   have hl:hgt b≤(NBx i (b::r)).length:=by
    cases r with
    | nil=>simp [NBx]
    | cons c r=>rw [nbl]; omega
   unfold hgt at hl
   exact ⟨q,a0,a1,a2,a3,a4,a5,by rw [a6,a2]; omega,by rw [a6,a3]; omega,by simpa using a7,by simpa using a8⟩
  ·cases r with
   | nil=>simp [LW,spG] at hk
   | cons c r =>
    obtain ⟨q,a0,a1,a2,a3,a4,a5,a6,a7,a8⟩:=si (c::r) (i+1) (top+(hgt b:Nat)+1) k (fun q hq=>h q (List.mem_cons_of_mem _ hq)) hk
    exact ⟨q,a0,a1,a2,a3,a4,a5,by omega,by rw [nbl]; omega,a8⟩
theorem uo {ws:List Nat}:∀ (bs:List (List Pz)) (top:Int),(∀ b∈bs,Fit N b ws)→((spG ws bs (LW top bs)).map Sp.many).sum=(bs.map fun b=>(b.map Pz.m).sum).sum
 | [],_,_=>by simp [spG,LW]
 | b::r,top,h=>by
  have:=uo r (top+(hgt b:Nat)+1) fun q hq=>h q (List.mem_cons_of_mem _ hq)
  rw [LW,spG,List.map_append,List.sum_append,pd _ b ws 1 (sf b ws (h b List.mem_cons_self)).1,this,List.map_cons,List.sum_cons]
theorem Iw {n:Nat}(hn:1≤n)(h9:n≤9)(b:List Pz)(r:List (List Pz))(h:∀ q∈b::r,Bd N n q)(hl:r.length≤8)(H:Nat)(hH:(NBx 0 (b::r)).length=H)(hH1:1≤H)(hH2:H≤1000)(hW:(il n (b::r)).sum+2 * n≤3000)(M:Nat)(hM:((b::r).map fun b=>(b.map Pz.m).sum).sum+1=M)(hM2:M≤9000) :
  ∃ (o:List D) (u d w:Nat),mM 7 [.lst ((b::r).map fun b=>.lst (b.map Pz.o))]=some ([12,13,14,0,1,2,15],o)∧Pz.Ok (N+1) ⟨.ob 7 [12,13,14,0,1,2,15] o,u,d,w,M⟩∧u+d+1=H∧w=(il n (b::r)).sum+2 * n:=by
 have mk:=Iv hn h9 b r h hl H hH hH1 (by omega)
 obtain ⟨ws,hws⟩:∃ ws,ws=il n (b::r):=⟨_,rfl⟩
 obtain ⟨U,hU⟩:∃ U,U=(H - 1) / 2:=⟨_,rfl⟩
 rw [← hws, ← hU] at mk
 rw [← hws] at hW
 have hUl:U<H:=by omega
 clear hU
 have hwl:ws.length=n:=by rw [hws]; exact vB n _
 have fit:∀ q∈b::r,Fit N q ws:=fun q hq=>by rw [hws]; exact Bd.fit h hq
 refine ⟨_,U,H - 1 - U,ws.sum+2 * n,mk, ?_,by omega,by rw [hws]⟩
 have fl:Fl (.ob 7 [12,13,14,0,1,2,15] [.lst ((b::r).map fun b=>.lst (b.map Pz.o)),.lst (ws.map fun i=>.int (i:Nat)),.lst (NBx 0 (b::r)),.int ((ws.sum+2 * n:Nat):Int),.int (U:Nat),.int ((H - 1 - U:Nat):Int),.lst ((LW (-(U:Int)) (b::r)).map .int)]) U (H - 1 - U) (ws.sum+2 * n):=by
  generalize ws.sum+2 * n=W at *
  generalize H - 1 - U=V at *
  exact ⟨by simp,by simp,by simp,fun b=>by cases b <;> rfl⟩
 refine ⟨fl,node fl (spG ws (b::r) (LW (-(U:Int)) (b::r))) ?_ (fun k hk=>?_) (fun k hk=>?_) (by rw [uo _ _ fit]; show _≤M; omega) hM2,by show U+(H - 1 - U)+1≤1000; omega,hW⟩
 ·obtain ⟨t2,t3,t4,t5,t6,lp⟩:=Aq (ws:=ws) ((b::r).map fun b=>.lst (b.map Pz.o)) (NBx 0 (b::r)) ((LW (-(U:Int)) (b::r)).map .int) (ws.sum+2 * n) U (H - 1 - U) (by omega) (b::r) (LW (-(U:Int)) (b::r)) [] .no .no .no .no .no fit (by simp; omega)
  have hzl:(iC ((b::r).map fun b=>D.lst (b.map Pz.o)) ((LW (-(U:Int)) (b::r)).map D.int)).length≤1000000:=by rw [oT]; simp; omega
  rw [List.nil_append] at lp
  unfold oGr at lp
  generalize (spG ws (b::r) (LW (-(U:Int)) (b::r))).map Sp.dat=SS at *
  generalize (LW (-(U:Int)) (b::r)).map D.int=LL at *
  generalize ((b::r).map fun b=>D.lst (b.map Pz.o))=BO at *
  generalize (ws.map fun i=>D.int (i:Nat))=WW at *
  generalize NBx 0 (b::r)=NN at *
  generalize ws.sum+2 * n=W at *
  generalize H - 1 - U=V at *
  simp [dM,ij,bj,ig,envOf,lp]
 ·obtain ⟨q,a0,a1,a2,a3,a4,a5, -⟩:=si (n:=n) (b::r) 0 _ k (fun q hq=>⟨h q hq,fit q hq⟩) hk
  rw [a1,a2,a3,a4,a5]
  exact a0.pl
 ·obtain ⟨q,a0,a1,a2,a3,a4,a5,a6,a7,a8,a9⟩:=si (n:=n) (b::r) 0 _ k (fun q hq=>⟨h q hq,fit q hq⟩) hk
  show -(U:Int)≤k.lo - (k.u:Int)∧k.lo+(k.d:Int)≤((H - 1 - U:Nat):Int)∧0≤k.ri∧k.ri+(k.w:Int)≤((ws.sum+2 * n:Nat):Int)
  omega
end
def hS (qs:List Pz):Nat:=(qs.map fun q=>q.u+q.d+2).sum
theorem ud2:∀ (q:Pz) (r:List Pz),eM (q::r)+gn (q::r)+2≤hS (q::r)
 | q,[]=>by simp [eM,gn,hS,gm]
 | q,s::r=>by
  have ih:=ud2 s r
  have e1:eM (q::s::r)=max q.u (eM (s::r)):=rfl
  have e2:gn (q::s::r)=max q.d (gn (s::r)):=rfl
  have e3:hS (q::s::r)=q.u+q.d+2+hS (s::r):=by simp [hS]
  omega
structure Sok (n:Nat)(f:D)(p:Pz):Prop where
 e:∀ k,2 * n≤k→(DN0 k).bf [f]=some p.o
 ok:p.Ok n
 h:p.u+p.d+2≤4 * cn f
 w:p.w+3≤12 * cn f
 m:p.m≤cn f
 pos:1≤p.w
theorem pe (n:Nat):∀ ps:List D,(∀ p∈ps, ∃ q,Sok n p q)→∃ qs:List Pz,qs.length=ps.length∧(∀ k,2 * n≤k→aS (aM 0) bW (aF 1 (DN0 k).bf (af (ab 0) ar)) [.no] ps=some (qs.map Pz.o))∧(∀ q∈qs,q.Ok n)∧hS qs≤4 * cnL ps∧wOf qs≤12 * cnL ps∧(qs.map Pz.m).sum≤cnL ps
 | [],_=>⟨[],rfl,fun k _=>rfl,fun q hq=>(nomatch hq),by simp [hS],by simp [wOf],by simp⟩
 | p::ps,h=>by
  obtain ⟨q,s⟩:=h p List.mem_cons_self
  obtain ⟨qs,h1,h2,h3,h4,h5,h6⟩:=pe n ps fun p hp=>h p (List.mem_cons_of_mem _ hp)
  have a:=s.h; have b:=s.w; have c:=s.m
  refine ⟨q::qs,by simp [h1],fun k hk=>?_,fun z hz=>?_, ?_, ?_, ?_⟩
  ·have:=s.e k hk
   exact bA (e:=[.val p]) rfl rfl (by simp [this]) (h2 k hk)
  ·rcases List.mem_cons.mp hz with rfl | hz
   ·exact s.ok
   ·exact h3 z hz
  ·rw [aH]; simp only [hS,List.map_cons,List.sum_cons] at *; omega
  ·rw [aH]; simp only [wOf,List.map_cons,List.sum_cons] at *; omega
  ·rw [aH]; simp only [List.map_cons,List.sum_cons] at *; omega
theorem CB {n:Nat}{ps:List D}{qs:List Pz}(hl:ps.length≤1000)(h:∀ k,2 * n≤k→aS (aM 0) bW (aF 1 (DN0 k).bf (af (ab 0) ar)) [.no] ps=some (qs.map Pz.o))(k:Nat)(hk:2 * n≤k):(DN0 (k+1)).cg [.lst ps]=some (qs.map Pz.o):=by
 have e:=h k hk
 have hcap0:∀ l,eW 1 [] l=[.no]:=fun _=>rfl
 have h6:ps.length≤1000000:=by omega
 show cC 1 (du (DN0 k)) _=_
 generalize qs.map Pz.o=QO at *
 simp only [bj,du,envOf]
 simp [hcap0,h6,e]
theorem CC {n:Nat}{ps:List D}{qs:List Pz}(hl:ps.length≤1000)(h:∀ k,2 * n≤k→aS (aM 0) bW (aF 1 (DN0 k).bf (af (ab 0) ar)) [.no] ps=some (qs.map Pz.o))(k:Nat)(hk:2 * n≤k):(DN0 (k+1)).cg [.tup ps]=some (qs.map Pz.o):=by
 have e:=h k hk
 have hcap0:∀ l,eW 1 [] l=[.no]:=fun _=>rfl
 have h6:ps.length≤1000000:=by omega
 show cC 1 (du (DN0 k)) _=_
 generalize qs.map Pz.o=QO at *
 simp only [bj,du,envOf]
 simp [hcap0,h6,e]
theorem CD (i:Int)(h0:0≤i):1≤(lB i).length:=by
 obtain ⟨n,rfl⟩:∃ n:Nat,i=n:=⟨i.toNat,by omega⟩
 have e:(lB (n:Int))=(Nat.repr n).toList.map Char.toNat:=rfl
 rw [e,List.length_map,String.length_toList]
 exact Nat.length_repr_pos
theorem CF (i:Int)(h0:0≤i)(h1:i≤999999999):(lB i).length≤9:=by
 obtain ⟨n,rfl⟩:∃ n:Nat,i=n:=⟨i.toNat,by omega⟩
 have e:(lB (n:Int))=(Nat.repr n).toList.map Char.toNat:=rfl
 rw [e,List.length_map,String.length_toList]
 rcases Nat.eq_zero_or_pos n with h | h
 ·subst h; decide
 ·exact (Nat.length_repr_le_iff (by omega)).mpr (by omega)
theorem sj {n:Nat}(kd:List Nat)(tl:List D)(ps:List D)(z:List Nat)(hk:kd=[101,118,101,110]∨kd=[115,117,109]∨kd=[116,105,109,101,115])(hsg:dt [.tup (.str kd::.tup ps::tl)]=some (.str z))(htl:cnL tl=0)(hd0:hdS ps=0)(h2:2≤ps.length)(h80:ps.length≤80)(hp:∀ p∈ps, ∃ q,Sok n p q)(hc:cn (.tup (.str kd::.tup ps::tl))≤130):∃ q,Sok (n+1) (.tup (.str kd::.tup ps::tl)) q:=by
 obtain ⟨qs,a1,a2,a3,a4,a5,a6⟩:=pe n ps hp
 have hcn:cn (.tup (.str kd::.tup ps::tl))=1+cnL ps:=by
  rw [bB,bD,aH,cx,aH,bB,hd0,htl]; omega
 rw [hcn] at hc
 match qs,a1,a2,a3,a4,a5,a6 with
 | [],a1,_,_,_,_,_=>simp at a1; omega
 | q::qs,a1,a2,a3,a4,a5,a6 =>
  have hq:qs.length≤100:=by simp at a1; omega
  have u2:=ud2 q qs
  have hw:wOf (q::qs)=3+q.w+wOf qs:=by simp [wOf]
  have hw1:1≤wOf qs:=by
   cases qs with
   | nil=>simp at a1; omega
   | cons q2 qs=>simp only [wOf,List.map_cons,List.sum_cons]; omega
  have mk:=Il q qs z a3 hq
  have ok:=Ip q qs z a3 hq (by omega) (by omega) (by omega)
  refine ⟨_,⟨fun k hk2=>?_,ok,by rw [hcn]; show eM (q::qs)+gn (q::qs)+2≤_; omega,by rw [hcn]; show q.w+wOf qs+3≤_; omega,by rw [hcn]; show ((q::qs).map Pz.m).sum+1≤_; omega,by show 1≤q.w+wOf qs; omega⟩⟩
  obtain ⟨k,rfl⟩:∃ j,k=j+1+1:=⟨k - 2,by omega⟩
  have sk:=CB (by omega) a2 k (by omega)
  have pt:iF [.tup (.str kd::.tup ps::tl)]=some ps:=by
   have h6:ps.length≤1000000:=by omega
   rcases hk with rfl | rfl | rfl <;> simp [iF,bj,jw,envOf,bE,h6]
  show bH 2 (aV (DN0 (k+1))) _=_
  unfold oCh
  generalize (q::qs).map Pz.o=QO at *
  generalize eM (q::qs)=U at *
  generalize gn (q::qs)=V at *
  generalize q.w+wOf qs=W at *
  simp only [ay,aV,envOf]
  rcases hk with rfl | rfl | rfl <;> simp [bE,pt,sk,hsg,mk]
theorem so {n:Nat}{a:D}{p:Pz}(s:Sok n a p)(ht:∃ l,a=.tup l)(k:Nat)(hk:2 * n≤k):(DN0 (k+1)).bL [a]=some p.o:=by
 have e:=s.e k hk
 obtain ⟨l,rfl⟩:=ht
 show bH 1 (dw (DN0 k)) _=_
 simp [ay,dw,envOf,e]
theorem As (k:Nat):(DN0 (k+1)).bL [.non]=some .non:=by
 show bH 1 (dw (DN0 k)) [.non]=some .non
 simp [ay,dw,envOf]
theorem qX (n w:Nat)(hw:w≤9):∀ bs:List (List D),(∀ b∈bs,b.length=w)→(∀ b∈bs, ∀ p∈b, ∃ q,Sok n p q)→(∀ b∈bs,hdS b=0)→∃ qss:List (List Pz),qss.length=bs.length∧(∀ k,2 * n≤k→aS (aM 0) bW (cV (aF 1 (DN0 (k+1)).cg (af (ab 0) ar))) [.no] (bs.map .tup)=some (qss.map fun b=>.lst (b.map Pz.o)))∧(∀ b∈qss,Bd n w b)∧(qss.map hS).sum≤4 * cnL (bs.map .tup)∧(qss.map wOf).sum≤12 * cnL (bs.map .tup)∧(qss.map fun b=>(b.map Pz.m).sum).sum≤cnL (bs.map .tup)
 | [],_,_,_=>⟨[],rfl,fun k _=>rfl,fun b hb=>(nomatch hb),by simp,by simp,by simp⟩
 | b::bs,h1,h2,h3=>by
  obtain ⟨qs,a1,a2,a3,a4,a5,a6⟩:=pe n b (h2 b List.mem_cons_self)
  obtain ⟨qss,g1,g2,g3,g4,g5,g6⟩:=qX n w hw bs (fun c hc=>h1 c (List.mem_cons_of_mem _ hc)) (fun c hc=>h2 c (List.mem_cons_of_mem _ hc)) fun c hc=>h3 c (List.mem_cons_of_mem _ hc)
  have hb:=h1 b List.mem_cons_self
  have e1:cnL ((b::bs).map .tup)=cnL b+cnL (bs.map .tup):=by rw [List.map_cons,aH,bB,h3 b List.mem_cons_self]; omega
  refine ⟨qs::qss,by simp [g1],fun k hk=>?_,fun c hc=>?_, ?_, ?_, ?_⟩
  ·have:=CC (by omega) a2 k hk
   exact bA (e:=[.val (.tup b)]) rfl rfl (by simp [this]) (g2 k hk)
  ·rcases List.mem_cons.mp hc with rfl | hc
   ·exact ⟨by omega,a3⟩
   ·exact g3 c hc
  ·rw [e1]; simp only [List.map_cons,List.sum_cons]; omega
  ·rw [e1]; simp only [List.map_cons,List.sum_cons]; omega
  ·rw [e1]; simp only [List.map_cons,List.sum_cons]; omega
theorem wM (b:List Pz):(List.range b.length).map (fun i=>wAt i b+3)=b.map fun p=>3+p.w:=by
 apply List.ext_getElem?
 intro i
 rw [List.getElem?_map,List.getElem?_map]
 by_cases h:i<b.length
 ·rw [List.getElem?_range h,List.getElem?_eq_getElem h]
  simp [wAt,h]; omega
 ·rw [List.getElem?_eq_none (by simp; omega),List.getElem?_eq_none (by omega)]; rfl
theorem wN (f g:Nat→Nat)(h:∀ i,f i≤g i):∀ l:List Nat,(l.map f).sum≤(l.map g).sum
 | []=>by simp
 | a::l=>by
  have:=wN f g h l
  have:=h a
  simp only [List.map_cons,List.sum_cons]; omega
theorem sum_add (f g:Nat→Nat):∀ l:List Nat,(l.map fun i=>f i+g i).sum=(l.map f).sum+(l.map g).sum
 | []=>rfl
 | a::l=>by
  have:=sum_add f g l
  simp only [List.map_cons,List.sum_cons,this]; omega
theorem DJ (k:Nat):∀ l:List Nat,(l.map fun i=>i+k).sum=l.sum+k * l.length
 | []=>by simp
 | a::l=>by
  have:=DJ k l
  simp only [List.map_cons,List.sum_cons,this,List.length_cons,Nat.mul_succ]; omega
theorem DK {N n:Nat}:∀ (b:List Pz) (r:List (List Pz)),(∀ c∈b::r,Bd N n c)→((List.range n).map fun i=>gm ((b::r).map (wAt i))+3).sum≤((b::r).map wOf).sum
 | b,[],h=>by
  have e:=wM b
  rw [(h b List.mem_cons_self).len] at e
  have:((List.range n).map fun i=>gm ([b].map (wAt i))+3)=(List.range n).map fun i=>wAt i b+3:=by
   apply List.map_congr_left; intro i _; simp [gm]
  rw [this,e]; simp [wOf]
 | b,c::r,h=>by
  have ih:=DK c r fun q hq=>h q (List.mem_cons_of_mem _ hq)
  have e:=wM b
  rw [(h b List.mem_cons_self).len] at e
  have s1:=wN (fun i=>gm ((b::c::r).map (wAt i))+3) (fun i=>(wAt i b+3)+(gm ((c::r).map (wAt i))+3)) (fun i=>by
   show max (wAt i b) (gm ((c::r).map (wAt i)))+3≤_; omega) (List.range n)
  have s2:=sum_add (fun i=>wAt i b+3) (fun i=>gm ((c::r).map (wAt i))+3) (List.range n)
  rw [s2,e] at s1
  have:((b::c::r).map wOf).sum=(b.map fun p=>3+p.w).sum+((c::r).map wOf).sum:=by simp [wOf]
  omega
theorem DM {N n:Nat}(hn:1≤n):∀ (b:List Pz) (r:List (List Pz)) (i:Nat),(∀ c∈b::r,Bd N n c)→(NBx i (b::r)).length+1≤((b::r).map hS).sum∧1≤(NBx i (b::r)).length
 | b,[],i,h=>by
  obtain ⟨p,ps,rfl⟩:=(h b List.mem_cons_self).cons hn
  have:=ud2 p ps
  have hg:hgt (p::ps)=eM (p::ps)+1+gn (p::ps):=rfl
  simp [NBx]; omega
 | b,c::r,i,h=>by
  obtain ⟨ih,_⟩:=DM hn c r (i+1) fun q hq=>h q (List.mem_cons_of_mem _ hq)
  obtain ⟨p,ps,rfl⟩:=(h b List.mem_cons_self).cons hn
  have:=ud2 p ps
  have hg:hgt (p::ps)=eM (p::ps)+1+gn (p::ps):=rfl
  rw [nbl,List.map_cons,List.sum_cons]
  omega
theorem mP:∀ (ps:List D) (p:D),p∈ps→cn p≤cnL ps
 | q::ps,p,h=>by
  rw [aH]
  rcases List.mem_cons.mp h with rfl | h
  ·omega
  ·have:=mP ps p h; omega
theorem wO {n:Nat}{r:D}{q:Pz}(s:Sok n r q):Mq n q.o q (q.u+q.d+1) q.w q.m:=⟨.inr ⟨rfl,rfl,rfl,rfl,s.ok⟩⟩
theorem Iy (n:Nat)(q:Pz):Mq n .non q 0 0 0:=⟨.inl ⟨rfl,rfl,rfl,rfl⟩⟩
theorem vC {n:Nat}{a r l:D}{p q1 q2:Pz}{S1 S2:D}{h1 y1 k1 h2 y2 k2:Nat}(s:Sok n a p)(m1:Mq n S1 q1 h1 y1 k1)(m2:Mq n S2 q2 h2 y2 k2)(e1:∀ k,2 * n≤k→(DN0 (k+1)).bL [r]=some S1)(e2:∀ k,2 * n≤k→(DN0 (k+1)).bL [l]=some S2)
  (b1:h1≤4 * cn r) (b2:h2≤4 * cn l) (c1:y1≤12 * cn r) (c2:y2≤12 * cn l) (d1:k1≤cn r) (d2:k2≤cn l) (hc:cn (.tup [.str [109,97,114,107,101,100],a,r,l])≤130):∃ q,Sok (n+1) (.tup [.str [109,97,114,107,101,100],a,r,l]) q:=by
 have hcn:cn (.tup [.str [109,97,114,107,101,100],a,r,l])=1+(cn a+(cn r+cn l)):=by simp only [bB,aH,bg,cx,bD]; omega
 rw [hcn] at hc
 have x:=s.h; have y:=s.w; have z:=s.m
 have ok:=Ik s.ok m1 m2 (by omega) (by omega) (by omega)
 have mk:=Ii s.ok m1 m2
 refine ⟨_,fun k hk=>?_,ok,by rw [hcn]; show p.u+h1+(p.d+h2)+2≤_; omega,by rw [hcn]; show p.w+max y1 y2+3≤_; omega,by rw [hcn]; show p.m+k1+k2+1≤_; omega,by show 1≤p.w+max y1 y2; have:=s.pos; omega⟩
 obtain ⟨k,rfl⟩:∃ j,k=j+1+1:=⟨k - 2,by omega⟩
 have sk:=s.e (k+1) (by omega)
 have f1:=e1 k (by omega)
 have f2:=e2 k (by omega)
 show bH 2 (aV (DN0 (k+1))) [.tup [.str [109,97,114,107,101,100],a,r,l]]=_
 unfold oMa
 generalize p.w+max y1 y2=W at *
 generalize p.u+h1=U at *
 generalize p.d+h2=V at *
 simp only [ay,aV,envOf]
 simp [bE,sk,f1,f2,mk]
theorem DN (x w:Nat)(hw:w≤1000000):jo (.str [x]) (.int (w:Int))=some (.str (List.replicate w [x]).flatten):=by
 show (if _ then some (D.str (List.replicate (w:Int).toNat [x]).flatten) else none)=_
 rw [if_pos ⟨by show 1≤16; decide,by omega,by omega⟩,Int.toNat_natCast]
theorem CG (ps:List D)(h:2≤ps.length)(h8:ps.length≤80):∃ z,dt [.tup [.str [101,118,101,110],.tup ps]]=some (.str z):=by
 obtain ⟨j,hj⟩:∃ j:Nat,(ps.length:Int) - 1=j:=⟨ps.length - 1,by omega⟩
 have h6:j≤1000000:=by omega
 have hm:=DN 61 j h6
 simp [dt,ay,gy,envOf,hj,hm]
theorem Au (ps:List D)(h:2≤ps.length)(h8:ps.length≤80):∃ z,dt [.tup [.str [116,105,109,101,115],.tup ps]]=some (.str z):=by
 obtain ⟨j,hj⟩:∃ j:Nat,(ps.length:Int) - 1=j:=⟨ps.length - 1,by omega⟩
 have h6:j≤1000000:=by omega
 have hm:=DN 42 j h6
 simp [dt,ay,gy,envOf,hj,hm]
theorem FZ (ps:List D)(z:List Nat):dt [.tup [.str [115,117,109],.tup ps,.str z]]=some (.str z):=by
 simp [dt,ay,gy,envOf]
theorem vD (kd:List Nat)(ps tl:List D)(hd0:hdS ps=0):cnL ps≤cn (.tup (.str kd::.tup ps::tl)):=by
 rw [bB,bD,aH,cx,aH,bB,hd0]; omega
theorem G0 {n:Nat}(bs:List (List D))(w:Nat)(h1:1≤bs.length)(h9:bs.length≤9)(hw:1≤w)(hw9:w≤9)(hb:∀ b∈bs,b.length=w)(hp:∀ b∈bs, ∀ p∈b, ∃ q,Sok n p q)(hd:∀ b∈bs,hdS b=0)(hc:cn (.tup [.str [116,97,98,108,101],.tup (bs.map .tup)])≤130):∃ q,Sok (n+1) (.tup [.str [116,97,98,108,101],.tup (bs.map .tup)]) q:=by
 have hcn:cn (.tup [.str [116,97,98,108,101],.tup (bs.map .tup)])=1+cnL (bs.map .tup):=by
  rw [bB,bD,aH,cx,aH,bg,bB,p4]; omega
 rw [hcn] at hc
 obtain ⟨qss,a1,a2,a3,a4,a5,a6⟩:=qX n w hw9 bs hb hp hd
 match qss,a1,a2,a3,a4,a5,a6 with
 | [],a1,_,_,_,_,_=>simp at a1; omega
 | b::r,a1,a2,a3,a4,a5,a6 =>
  obtain ⟨n1,n2⟩:=DM hw b r 0 a3
  have wl:=DK b r a3
  have ws:((List.range w).map fun i=>gm ((b::r).map (wAt i))+3).sum=(il w (b::r)).sum+3 * w:=by
   have:=DJ 3 (il w (b::r))
   simp [il] at this ⊢
   exact this
  obtain ⟨o,u,d,W,e1,e2,e3,e4⟩:=Iw hw hw9 b r a3 (by simp at a1; omega) _ rfl n2 (by omega) (by omega) _ rfl (by omega)
  refine ⟨_,fun k hk=>?_,e2,by rw [hcn]; show u+d+2≤_; omega,by rw [hcn]; show W+3≤_; omega,by rw [hcn]; show _+1≤_; omega,by show 1≤W; omega⟩
  obtain ⟨k,rfl⟩:∃ j,k=j+1+1:=⟨k - 2,by omega⟩
  have sk:=a2 k (by omega)
  have hcap0:∀ l,eW 1 [] l=[.no]:=fun _=>rfl
  have h6:(bs.map D.tup).length≤1000000:=by simp; omega
  show bH 2 (aV (DN0 (k+1))) [.tup [.str [116,97,98,108,101],.tup (bs.map .tup)]]=_
  generalize bs.map D.tup=BS at *
  generalize ((b::r).map fun b=>D.lst (b.map Pz.o))=QO at *
  simp only [ay,aV,envOf]
  simp [bE,hcap0,h6,sk,e1]
theorem G1 {n:Nat}{t:Bool}{f:D}(h:Fm n t f):cn f≤130→∃ q,Sok n f q:=by
 induction h with
 | name n t w h1 h2 h3 =>
  intro _
  have hcn:cn (.tup [.str [110,97,109,101],.str w])=1:=by simp only [bB,aH,bg,cx,bD]
  refine ⟨⟨oWd w,0,0,w.length,1⟩,fun k hk=>?_,DG n w (by omega),by rw [hcn]; show 0+0+2≤4 * 1; decide,by rw [hcn]; show w.length+3≤_; omega,by rw [hcn]; show 1≤1; decide,h1⟩
  obtain ⟨k,rfl⟩:∃ j,k=j+1:=⟨k - 1,by omega⟩
  have mk:=DF w (by omega)
  show bH 2 (aV (DN0 k)) [.tup [.str [110,97,109,101],.str w]]=some (oWd w)
  simp [ay,aV,envOf,mk,oWd]
 | num n t i h1 h2 =>
  intro _
  have hcn:cn (.tup [.str [110,117,109,98,101,114],.int i])=1:=by simp only [bB,aH,bg,cx,FU,bD]
  have hl:=CF i h1 h2
  refine ⟨⟨oWd (lB i),0,0,(lB i).length,1⟩,fun k hk=>?_,DG n _ (by omega),by rw [hcn]; show 0+0+2≤4 * 1; decide,by rw [hcn]; show (lB i).length+3≤_; omega,by rw [hcn]; show 1≤1; decide,CD i h1⟩
  obtain ⟨k,rfl⟩:∃ j,k=j+1:=⟨k - 1,by omega⟩
  have mk:=DF (lB i) (by omega)
  have hi:i<1000000000000:=by omega
  show bH 2 (aV (DN0 k)) [.tup [.str [110,117,109,98,101,114],.int i]]=some (oWd (lB i))
  have hs:u0 (.int i)=some (.str (lB i)):=by simp [h1,hi]
  generalize lB i=z at *
  simp [-Ab,hs,ay,aV,envOf,mk,oWd]
 | yh n t ps hp _ h3 h4 ih =>
  intro hc
  have hd:=kf hp
  have:=vD [101,118,101,110] ps [] hd
  obtain ⟨z,hz⟩:=CG ps h3 h4
  exact sj [101,118,101,110] [] ps z (.inl rfl) hz bg hd h3 h4 (fun p hp=>ih p hp (by have:=mP ps p hp; omega)) hc
 | sum n t ps z hp _ h3 h4 h5 h6 ih =>
  intro hc
  have hd:=kf hp
  have:=vD [115,117,109] ps [.str z] hd
  exact sj [115,117,109] [.str z] ps z (.inr (.inl rfl)) (FZ ps z) (by rw [aH,cx,bg]) hd h3 h4 (fun p hp=>ih p hp (by have:=mP ps p hp; omega)) hc
 | times n t ps hp _ h3 h4 ih =>
  intro hc
  have hd:=kf hp
  have:=vD [116,105,109,101,115] ps [] hd
  obtain ⟨z,hz⟩:=Au ps h3 h4
  exact sj [116,105,109,101,115] [] ps z (.inr (.inr rfl)) hz bg hd h3 h4 (fun p hp=>ih p hp (by have:=mP ps p hp; omega)) hc
 | over n t a b _ _ i1 i2 =>
  intro hc
  have hcn:cn (.tup [.str [111,118,101,114],a,b])=1+(cn a+cn b):=by simp only [bB,aH,bg,cx,bD]; omega
  rw [hcn] at hc
  obtain ⟨p,s⟩:=i1 (by omega)
  obtain ⟨q,s'⟩:=i2 (by omega)
  have a1:=s.h; have a2:=s.w; have a3:=s.m
  have b1:=s'.h; have b2:=s'.w; have b3:=s'.m
  have ok:=Ih s.ok s'.ok (by omega) (by omega) (by omega)
  have mk:=Ig s.ok s'.ok
  refine ⟨_,fun k hk=>?_,ok,by rw [hcn]; show p.u+p.d+1+(q.u+q.d+1)+2≤_; omega,by rw [hcn]; show max p.w q.w+2+3≤_; omega,by rw [hcn]; show p.m+q.m+1≤_; omega,by show 1≤max p.w q.w+2; omega⟩
  obtain ⟨k,rfl⟩:∃ j,k=j+1:=⟨k - 1,by omega⟩
  have sk:=s.e k (by omega)
  have sk':=s'.e k (by omega)
  show bH 2 (aV (DN0 k)) [.tup [.str [111,118,101,114],a,b]]=_
  unfold oOv
  generalize max p.w q.w+2=W at *
  generalize p.u+p.d+1=U at *
  generalize q.u+q.d+1=V at *
  simp only [ay,aV,envOf]
  simp [bE,sk,sk',mk]
 | root n t a _ i1 =>
  intro hc
  have hcn:cn (.tup [.str [114,111,111,116],a])=1+cn a:=by simp only [bB,aH,bg,cx,bD]; omega
  rw [hcn] at hc
  obtain ⟨p,s⟩:=i1 (by omega)
  have a1:=s.h; have a2:=s.w; have a3:=s.m
  have ok:=Ib s.ok (by omega) (by omega) (by omega)
  have mk:=Ia s.ok
  refine ⟨_,fun k hk=>?_,ok,by rw [hcn]; show p.u+1+p.d+2≤_; omega,by rw [hcn]; show p.w+2+3≤_; omega,by rw [hcn]; show p.m+1≤_; omega,by show 1≤p.w+2; omega⟩
  obtain ⟨k,rfl⟩:∃ j,k=j+1:=⟨k - 1,by omega⟩
  have sk:=s.e k (by omega)
  show bH 2 (aV (DN0 k)) [.tup [.str [114,111,111,116],a]]=_
  unfold oRt
  generalize p.w+2=W at *
  generalize p.u+1=U at *
  simp only [ay,aV,envOf]
  simp [bE,sk,mk]
 | held n t a _ i1 =>
  intro hc
  have hcn:cn (.tup [.str [104,101,108,100],a])=1+cn a:=by simp only [bB,aH,bg,cx,bD]; omega
  rw [hcn] at hc
  obtain ⟨p,s⟩:=i1 (by omega)
  have a1:=s.h; have a2:=s.w; have a3:=s.m
  have ok:=Ie s.ok (by omega) (by omega)
  have mk:=Ic s.ok
  refine ⟨_,fun k hk=>?_,ok,by rw [hcn]; show p.u+p.d+2≤_; omega,by rw [hcn]; show p.w+2+3≤_; omega,by rw [hcn]; show p.m+1≤_; omega,by show 1≤p.w+2; omega⟩
  obtain ⟨k,rfl⟩:∃ j,k=j+1:=⟨k - 1,by omega⟩
  have sk:=s.e k (by omega)
  show bH 2 (aV (DN0 k)) [.tup [.str [104,101,108,100],a]]=_
  unfold oHe
  generalize p.w+2=W at *
  simp only [ay,aV,envOf]
  simp [bE,sk,mk]
 | markB n t a r l ha _ hr hl i1 i2 i3 =>
  intro hc
  have hcn:cn (.tup [.str [109,97,114,107,101,100],a,r,l])=1+(cn a+(cn r+cn l)):=by simp only [bB,aH,bg,cx,bD]; omega
  obtain ⟨p,s⟩:=i1 (by omega)
  obtain ⟨q,s'⟩:=i2 (by omega)
  obtain ⟨q2,s2⟩:=i3 (by omega)
  have b1:=s'.h; have b2:=s'.w; have b3:=s'.m
  have c1:=s2.h; have c2:=s2.w; have c3:=s2.m
  exact vC s (wO s') (wO s2) (so s' hr.tup) (so s2 hl.tup) (by omega) (by omega) (by omega) (by omega) b3 c3 hc
 | qU n t a r ha _ hr i1 i2 =>
  intro hc
  have hcn:cn (.tup [.str [109,97,114,107,101,100],a,r,.non])=1+(cn a+cn r):=by simp only [bB,aH,bg,cx,rY,bD]; omega
  obtain ⟨p,s⟩:=i1 (by omega)
  obtain ⟨q,s'⟩:=i2 (by omega)
  have b1:=s'.h; have b2:=s'.w; have b3:=s'.m
  exact vC s (wO s') (Iy n p) (so s' hr.tup) (fun k _=>As k) (by omega) (by omega) (by omega) (by omega) b3 (by omega) hc
 | markL n t a l ha _ hl i1 i2 =>
  intro hc
  have hcn:cn (.tup [.str [109,97,114,107,101,100],a,.non,l])=1+(cn a+cn l):=by simp only [bB,aH,bg,cx,rY,bD]; omega
  obtain ⟨p,s⟩:=i1 (by omega)
  obtain ⟨q,s'⟩:=i2 (by omega)
  have b1:=s'.h; have b2:=s'.w; have b3:=s'.m
  exact vC s (Iy n p) (wO s') (fun k _=>As k) (so s' hl.tup) (by omega) (by omega) (by omega) (by omega) (by omega) b3 hc
 | table n bs w h1 h2 h3 h4 h5 h6 ih =>
  intro hc
  have hcn:cn (.tup [.str [116,97,98,108,101],.tup (bs.map .tup)])=1+cnL (bs.map .tup):=by
   rw [bB,bD,aH,cx,aH,bg,bB,p4]; omega
  refine G0 bs w h1 h2 h3 h4 h5 (fun b hb p hp=>ih b hb p hp ?_) (fun b hb=>kf (h6 b hb)) hc
  have x:=mP _ _ (List.mem_map_of_mem (f:=D.tup) hb)
  have y:=mP b p hp
  rw [bB,kf (h6 b hb)] at x
  omega
theorem yj {f:D}(h:Fm 12 true f)(hc:cn f≤130):∃ (q:Pz) (L:List Pl),d9 [f]=some (L.map Pl.dat)∧Inv [] (q.u:Int) 0 q.u q.d q.w L∧1≤q.w:=by
 obtain ⟨q,s⟩:=G1 (h.le (m:=16) (by decide)) hc
 obtain ⟨L,e,v,_⟩:=s.ok.pl [] (q.u:Int) 0 (by decide)
 have sk:=s.e 40 (by decide)
 have f1:=s.ok.sk.f1
 have e0:pth []=.tup []:=rfl
 rw [e0] at e
 refine ⟨q,L, ?_,v,s.pos⟩
 generalize L.map Pl.dat=LL at *
 simp [d9,bj,iV,envOf,sk,f1,e]
def hasB (r c:Int)(q:Pl):Bool:=decide (q.top≤r) && decide (r<q.top+(q.hi:Int)) && (decide (q.left≤c) && decide (c<q.left+(q.wi:Int)))
def eN (r c:Int):D→List Pl→D
 | d,[]=>d
 | d,q::L=>eN r c (if hasB r c q then pth q.p else d) L
theorem qY (f:D)(r c:Int):∀ (L:List Pl) (d:D) (s4 s5 s6 s7 s8 s9:Slot), ∃ t4 t5 t6 t7 t8 t9,runFor (fU [4,5,6,7,8,9]) ik (L.map Pl.dat) [.val f,.val (.int r),.val (.int c),.val d,s4,s5,s6,s7,s8,s9]=some (.nx [.val f,.val (.int r),.val (.int c),.val (eN r c d L),t4,t5,t6,t7,t8,t9])
 | [],d,s4,s5,s6,s7,s8,s9=>⟨s4,s5,s6,s7,s8,s9,rfl⟩
 | q::L,d,s4,s5,s6,s7,s8,s9=>by
  obtain ⟨t4,t5,t6,t7,t8,t9,e⟩:=qY f r c L (if hasB r c q then pth q.p else d) (.val (pth q.p)) (.val (.int q.top)) (.val (.int q.left)) (.val (.int (q.hi:Nat))) (.val (.int (q.wi:Nat))) (.val (.int q.base))
  refine ⟨t4,t5,t6,t7,t8,t9, ?_⟩
  rw [List.map_cons]
  show _=some (DFl.nx [.val f,.val (.int r),.val (.int c),.val (eN r c (if hasB r c q then pth q.p else d) L),t4,t5,t6,t7,t8,t9])
  rw [← e]
  refine cZ (e1:=[.val f,.val (.int r),.val (.int c),.val d,.val (pth q.p),.val (.int q.top),.val (.int q.left),.val (.int (q.hi:Nat)),.val (.int (q.wi:Nat)),.val (.int q.base)]) (by unfold Pl.dat; rfl) ?_
  generalize pth q.p=PP
  unfold hasB
  by_cases a1:q.top≤r <;> by_cases a2:r<q.top+(q.hi:Int) <;> by_cases a3:q.left≤c <;> by_cases a4:c<q.left+(q.wi:Int) <;> simp [ik,a1,a2,a3,a4]
theorem CI {f:D}{L:List Pl}(h:d9 [f]=some (L.map Pl.dat))(hl:L.length≤10000)(r c:Int):j9 [f,.int r,.int c]=some (eN r c .non L):=by
 obtain ⟨t4,t5,t6,t7,t8,t9,e⟩:=qY f r c L .non .no .no .no .no .no .no
 have h6:(L.map Pl.dat).length≤1000000:=by simp; omega
 generalize eN r c .non L=X at *
 generalize L.map Pl.dat=LL at *
 simp only [j9,ay,kC,envOf]
 simp [h,e]
theorem mQ (r c:Int):∀ (L:List Pl) (d:D),(∀ q∈L,hasB r c q=false)→eN r c d L=d
 | [],d,_=>rfl
 | q::L,d,h=>by
  show eN r c (if hasB r c q then pth q.p else d) L=d
  rw [h q List.mem_cons_self]
  exact mQ r c L d fun x hx=>h x (List.mem_cons_of_mem _ hx)
theorem qZ (r c:Int):∀ (L:List Pl) (d:D),(∃ q∈L,hasB r c q=true)→∃ L1 q L2,L=L1++q::L2∧hasB r c q=true∧(∀ x∈L2,hasB r c x=false)∧eN r c d L=pth q.p
 | [],d,h=>by obtain ⟨q,hq,_⟩:=h; exact (nomatch hq)
 | q::L,d,h=>by
  by_cases hx:∃ x∈L,hasB r c x=true
  ·obtain ⟨L1,x,L2,e1,e2,e3,e4⟩:=qZ r c L (if hasB r c q then pth q.p else d) hx
   exact ⟨q::L1,x,L2,by rw [e1]; rfl,e2,e3,e4⟩
  ·have hn:∀ x∈L,hasB r c x=false:=fun x m=>by
    cases hb:hasB r c x with
    | false=>rfl
    | true=>exact absurd ⟨x,m,hb⟩ hx
   have hq:hasB r c q=true:=by
    obtain ⟨x,m,hb⟩:=h
    rcases List.mem_cons.mp m with rfl | m
    ·exact hb
    ·rw [hn x m] at hb; cases hb
   refine ⟨[],q,L,rfl,hq,hn, ?_⟩
   show eN r c (if hasB r c q then pth q.p else d) L=_
   rw [hq]
   exact mQ r c L _ hn
theorem DO (n:Nat):∀ a b:List Nat, ∃ r,eqZ (eqN (n+1)) (a.map fun i=>D.int (i:Nat)) (b.map fun i=>D.int (i:Nat))=some r∧(r && a.length == b.length)=(a == b)
 | [],[]=>⟨true,rfl,rfl⟩
 | [],y::b=>⟨true,rfl,rfl⟩
 | x::a,[]=>⟨true,rfl,rfl⟩
 | x::a,y::b=>by
  obtain ⟨r,h1,h2⟩:=DO n a b
  refine ⟨((x:Int) == (y:Int)) && r, ?_, ?_⟩
  ·show ((eqN (n+1) (.int x) (.int y)).bind fun p=>(eqZ (eqN (n+1)) (a.map fun i=>D.int (i:Nat)) (b.map fun i=>D.int (i:Nat))).map fun q=>p && q)=_
   rw [h1,ve]; rfl
  ·have:((x:Int) == (y:Int))=(x == y):=by
    rw [Bool.eq_iff_iff,beq_iff_eq,beq_iff_eq]; exact Int.ofNat_inj
   rw [this,Bool.and_assoc]
   show (x == y && (r && (a.length+1 == b.length+1)))=(x == y && a == b)
   rw [← h2]
   simp
theorem wQ (n:Nat)(a b:List Nat):eqN (n+2) (pth a) (pth b)=some (a == b):=by
 obtain ⟨r,h1,h2⟩:=DO n a b
 show (eqZ (eqN (n+1)) (a.map fun i=>D.int (i:Nat)) (b.map fun i=>D.int (i:Nat))).map (fun r=>r && (a.map fun i=>D.int (i:Nat)).length == (b.map fun i=>D.int (i:Nat)).length)=_
 rw [h1,List.length_map,List.length_map, ← h2]; rfl
theorem Av (a b:List Nat):eqN 100 (pth a) (pth b)=some (a == b):=wQ 98 a b
theorem Aw (q:Pl)(r c:Int):iu [q.dat,.int r,.int c]=some (.bl (hasB r c q)):=by
 unfold Pl.dat hasB
 generalize pth q.p=PP
 have h4:atI [PP,.int q.top,.int q.left,.int (q.hi:Nat),.int (q.wi:Nat),.int q.base] 4=some (.int (q.wi:Nat)):=rfl
 by_cases a1:q.top≤r <;> by_cases a2:r<q.top+(q.hi:Int) <;> by_cases a3:q.left≤c <;> by_cases a4:c<q.left+(q.wi:Int) <;> simp [iu,ay,kE,envOf,h4,a1,a2,a3,a4]
theorem ix0 (q:Pl):ixD q.dat (.int 0)=some (pth q.p):=rfl
theorem uq (p:List Nat)(r c:Int):∀ L:List Pl,aS (aM 0) cU cT [.no,.val (pth p),.val (.int r),.val (.int c)] (L.map Pl.dat)=some ((L.filter fun x=>x.p == p && hasB r c x).map Pl.dat)
 | []=>rfl
 | q::L=>by
  have ih:=uq p r c L
  have e1:=Av q.p p
  have e2:=Aw q r c
  have e3:=ix0 q
  have ev:cT [.val q.dat,.val (pth p),.val (.int r),.val (.int c)]=some q.dat:=by simp [cT]
  have et:cU [.val q.dat,.val (pth p),.val (.int r),.val (.int c)]=some (q.p == p && hasB r c q):=by
   generalize pth p=P at *
   generalize pth q.p=P' at *
   generalize q.dat=X at *
   generalize hasB r c q=B at *
   cases h:q.p == p <;> simp [cU,e1,e2,e3,h]
  cases hb:(q.p == p && hasB r c q) with
  | true =>
   rw [hb] at et
   rw [List.filter_cons_of_pos (p:=fun x:Pl=>x.p == p && hasB r c x) hb,List.map_cons,List.map_cons]
   exact bA rfl et ev ih
  | false =>
   rw [hb] at et
   rw [List.filter_cons_of_neg (p:=fun x:Pl=>x.p == p && hasB r c x) (by simp [hb]),List.map_cons]
   exact j6 rfl et ih
theorem ur (s0 s4:Slot)(p:List Nat)(r c:Int):∀ (L:List Pl) (s6:Slot),(∀ x∈L,hasB r c x=true→¬ (x.p.length=p.length+1∧x.p.take p.length=p))→∃ t6,runFor (aM 6) bV (L.map Pl.dat) [s0,.val (pth p),.val (.int r),.val (.int c),s4,.val (.int (p.length:Nat)),s6]=some (.nx [s0,.val (pth p),.val (.int r),.val (.int c),s4,.val (.int (p.length:Nat)),t6])
 | [],s6,_=>⟨s6,rfl⟩
 | q::L,s6,h=>by
  obtain ⟨t6,e⟩:=ur s0 s4 p r c L (.val q.dat) fun x hx=>h x (List.mem_cons_of_mem _ hx)
  refine ⟨t6, ?_⟩
  rw [← e,List.map_cons]
  refine cZ (e1:=[s0,.val (pth p),.val (.int r),.val (.int c),s4,.val (.int (p.length:Nat)),.val q.dat]) rfl ?_
  have hq:=h q List.mem_cons_self
  have e2:=Aw q r c
  have e3:=ix0 q
  have l1:gI (pth q.p)=some (.int (q.p.length:Nat)):=by unfold pth; simp
  by_cases hl:q.p.length=p.length+1
  ·have sl:slD (pth q.p) none (some ((p.length:Nat):Int))=some (pth (q.p.take p.length)):=by
    unfold pth
    rw [oo,lQ,rJ,if_neg (by simp; omega),List.map_take]
   have e1:=Av (q.p.take p.length) p
   have hl':((q.p.length:Nat):Int)=(p.length:Int)+1:=by omega
   rw [hl'] at l1
   by_cases ht:q.p.take p.length=p
   ·have hb:hasB r c q=false:=by
     cases hb:hasB r c q with
     | false=>rfl
     | true=>exact absurd ⟨hl,ht⟩ (hq hb)
    rw [hb] at e2
    have e1':eqN 100 (pth (q.p.take p.length)) (pth p)=some true:=by rw [e1,ht]; simp
    generalize pth (q.p.take p.length)=P2 at *
    generalize pth p=P at *
    generalize pth q.p=P' at *
    generalize q.dat=X at *
    simp [bV,e1',e2,e3,l1,sl]
   ·have e1':eqN 100 (pth (q.p.take p.length)) (pth p)=some false:=by rw [e1]; simp [ht]
    generalize pth (q.p.take p.length)=P2 at *
    generalize pth p=P at *
    generalize pth q.p=P' at *
    generalize q.dat=X at *
    simp [bV,e1',e2,e3,l1,sl]
  ·have hl':(((q.p.length:Nat):Int) == (p.length:Int)+1)=false:=by
    rw [beq_eq_false_iff_ne]; omega
   generalize pth p=P at *
   generalize pth q.p=P' at *
   generalize q.dat=X at *
   simp [bV,e2,e3,l1,hl']
theorem G2 {L L1 L2:List Pl}{q:Pl}(r c:Int)(hL:L=L1++q::L2)(ord:L.Pairwise fun a b=>¬ ∃ s,a.p=b.p++s)(hq:hasB r c q=true)(h2:∀ x∈L2,hasB r c x=false)(hl:L.length≤10000):ez [.lst (L.map Pl.dat),pth q.p,.int r,.int c]=some (.bl true):=by
 have th:=uq q.p r c L
 have o2:=ord
 rw [hL,List.pairwise_append] at o2
 obtain ⟨_,_,o3⟩:=o2
 have f1:(L.filter fun x=>x.p == q.p && hasB r c x)=[q]:=by
  rw [hL,List.filter_append,List.filter_cons_of_pos (by simp [hq])]
  rw [List.filter_eq_nil_iff.mpr,List.filter_eq_nil_iff.mpr]
  ·rfl
  ·intro x hx; simp [h2 x hx]
  ·intro x hx
   have:=o3 x hx q List.mem_cons_self
   intro hb
   simp at hb
   exact this ⟨[],by simp [hb.1]⟩
 rw [f1,List.map_singleton] at th
 obtain ⟨t6,e⟩:=ur (.val (.lst (L.map Pl.dat))) (.val (.lst [q.dat])) q.p r c L .no (fun x hx hb=>by
  rintro ⟨a1,a2⟩
  rw [hL] at hx
  rcases List.mem_append.mp hx with hx | hx
  ·exact o3 x hx q List.mem_cons_self ⟨x.p.drop q.p.length,by
    have:=List.take_append_drop q.p.length x.p
    rw [a2] at this
    exact this.symm⟩
  ·rcases List.mem_cons.mp hx with rfl | hx
   ·omega
   ·rw [h2 x hx] at hb; cases hb)
 have h6:(L.map Pl.dat).length≤1000000:=by simp; omega
 have l1:gI (pth q.p)=some (.int (q.p.length:Nat)):=by unfold pth; simp
 have it:qF .tuple (pth q.p)=some (.bl true):=by unfold pth; simp
 have hcap:∀ a b c d e f g:Slot,eW 1 [1,2,3] [a,b,c,d,e,f,g]=[.no,b,c,d]:=fun _ _ _ _ _ _ _=>rfl
 generalize pth q.p=P at *
 generalize q.dat=X at *
 generalize L.map Pl.dat=LL at *
 simp only [ez,ay,fQ,envOf]
 simp [it,l1,h6,hcap,th,e]
theorem wR (x:Int)(s:Nat)(hs:1≤s):∃ r:Int,da [.int x,.int (s:Nat)]=some (.int r):=by
 have m8:=bR x 8 (by decide)
 have d8:=eB x 8 (by decide)
 have m1:=bR (x / 8) 2000000001 (by decide)
 have m4:=bR (x / 8) 4 (by decide)
 have m7:=bR (x / 8 * 48271) 2147483647 (by decide)
 have ms:=bR (x / 8 * 48271 % 2147483647) (s:Int) (by omega)
 have mm:jo (.int (x / 8)) (.int 48271)=some (.int (x / 8 * 48271)):=by
  show (if _ then some (D.int (x / 8 * 48271)) else none)=_
  rw [if_pos (.inr ⟨by decide,by decide⟩)]
 by_cases h0:x % 8=0
 ·have h0':(x % 8 == 0)=true:=by simp [h0]
  exact ⟨x / 8 % 2000000001 - 1000000000,by simp only [da,ay,fk,envOf]; simp [m8,d8,m1,h0']⟩
 ·have h0':(x % 8 == 0)=false:=by simp [h0]
  by_cases h1:x % 8=1
  ·have h1':(x % 8 == 1)=true:=by simp [h1]
   obtain ⟨k,hk,hk4⟩:∃ k:Nat,x / 8 % 4=k∧k<4:=⟨(x / 8 % 4).toNat,by omega,by omega⟩
   rw [hk] at m4
   have:∃ r:Int,atI [.int (-1),.int (s:Nat),.int 0,.int ((s:Int) - 1)] ((k:Nat):Int)=some (D.int r):=by
    rw [jR]
    match k,hk4 with
    | 0,_=>exact ⟨_,rfl⟩
    | 1,_=>exact ⟨_,rfl⟩
    | 2,_=>exact ⟨_,rfl⟩
    | 3,_=>exact ⟨_,rfl⟩
   obtain ⟨r,hr⟩:=this
   exact ⟨r,by simp only [da,ay,fk,envOf]; simp [m8,d8,m4,h0',h1',hr]⟩
  ·have h1':(x % 8 == 1)=false:=by simp [h1]
   exact ⟨x / 8 * 48271 % 2147483647 % (s:Int),by simp only [da,ay,fk,envOf]; simp [m8,d8,mm,m7,ms,h0',h1']⟩
theorem wU (ns:List Int)(k:Nat):∃ x:Int,dz [.lst (ns.map .int),.int (k:Nat)]=some (.int x):=by
 by_cases h:k<ns.length
 ·have hi:atI (ns.map D.int) (k:Int)=some (.int (ns[k])):=by rw [jR,List.getElem?_map,List.getElem?_eq_getElem h]; rfl
  have hl:(ns.map D.int).length=ns.length:=by simp
  have h':((k:Nat):Int)<((ns.map D.int).length:Int):=by simp; omega
  generalize ns.map D.int=N at *
  exact ⟨ns[k],by simp only [dz,ay,fI,envOf]; simp [h',hi,h,hl]⟩
 ·have hl:(ns.map D.int).length=ns.length:=by simp
  generalize ns.map D.int=N at *
  exact ⟨0,by simp only [dz,ay,fI,envOf]; simp [h,hl]⟩
def prD (x:Int × Int):D:=.tup [.int x.1,.int x.2]
theorem pf (ns:List Int)(f P:D)(hi wi:Nat)(h1:1≤hi)(h2:1≤wi)(s8 s9 s10 s11:Slot):∀ (n i:Nat) (acc:List (Int × Int)) (s6 s7:Slot),acc.length+n≤100→∃ (ps:List (Int × Int)) (t6 t7:Slot),runFor (aM 6) ma (cX (i:Int) n) [.val (.lst (ns.map .int)),.val f,.val P,.val (.int (hi:Nat)),.val (.int (wi:Nat)),.own (acc.map prD),s6,s7,s8,s9,s10,s11]=some (.nx [.val (.lst (ns.map .int)),.val f,.val P,.val (.int (hi:Nat)),.val (.int (wi:Nat)),.own ((acc++ps).map prD),t6,t7,s8,s9,s10,s11])∧ps.length=n
 | 0,i,acc,s6,s7,_=>⟨[],s6,s7,by rw [oE,List.append_nil]; rfl,rfl⟩
 | n+1,i,acc,s6,s7,hl=>by
  obtain ⟨x1,c1⟩:=wU ns (3 * i)
  obtain ⟨x2,c2⟩:=wU ns (3 * i+1)
  have e1:((3 * i:Nat):Int)=3 * (i:Int):=by omega
  have e2:((3 * i+1:Nat):Int)=3 * (i:Int)+1:=by omega
  rw [e1] at c1
  rw [e2] at c2
  obtain ⟨r,n1⟩:=wR (x1+(i:Int)) hi h1
  obtain ⟨c,n2⟩:=wR (x2+11 * (i:Int)) wi h2
  obtain ⟨ps,t6,t7,e,hp⟩:=pf ns f P hi wi h1 h2 s8 s9 s10 s11 n (i+1) (acc++[(r,c)]) (.val (.int (i:Nat))) (.val (.int r)) (by simp; omega)
  have m3:jo (.int 3) (.int (i:Nat))=some (.int (3 * (i:Int))):=by
   show (if (-18446744073709551616<(3:Int)∧(3:Int)<18446744073709551616)∨(-18446744073709551616<(i:Int)∧(i:Int)<18446744073709551616) then some (D.int (3 * (i:Int))) else none)=_
   exact if_pos (.inl ⟨by decide,by decide⟩)
  have m11:jo (.int 11) (.int (i:Nat))=some (.int (11 * (i:Int))):=by
   show (if (-18446744073709551616<(11:Int)∧(11:Int)<18446744073709551616)∨(-18446744073709551616<(i:Int)∧(i:Int)<18446744073709551616) then some (D.int (11 * (i:Int))) else none)=_
   exact if_pos (.inl ⟨by decide,by decide⟩)
  have ha:(acc.map prD).length<1000000:=by simp; omega
  refine ⟨(r,c)::ps,t6,t7, ?_,by simp [hp]⟩
  rw [oC,List.append_cons, ← e]
  refine cZ (e1:=[.val (.lst (ns.map .int)),.val f,.val P,.val (.int (hi:Nat)),.val (.int (wi:Nat)),.own (acc.map prD),.val (.int (i:Nat)),s7,s8,s9,s10,s11]) rfl ?_
  rw [List.map_append,List.map_singleton]
  have ep:prD (r,c)=.tup [.int r,.int c]:=rfl
  rw [ep]
  generalize ns.map D.int=N at *
  generalize acc.map prD=A at *
  simp [ma,m3,m11,c1,c2,n1,n2,ha]
theorem wV {f:D}{L:List Pl}(h:d9 [f]=some (L.map Pl.dat))(hl:L.length≤10000):∀ ps:List (Int × Int),aS (fU [0,1]) bW ke [.no,.no,.val f] (ps.map prD)=some (ps.map fun x=>eN x.1 x.2 .non L)
 | []=>rfl
 | x::ps=>by
  have:=CI h hl x.1 x.2
  exact bA (e:=[.val (.int x.1),.val (.int x.2),.val f]) rfl rfl (by simp [ke,this]) (wV h hl ps)
theorem wW (r c:Int):∀ (L:List Pl) (d:D),(d=.non∨∃ p,d=pth p)→(eN r c d L=.non∨∃ p,eN r c d L=pth p)
 | [],d,h=>h
 | q::L,d,h=>by
  refine wW r c L _ ?_
  cases hasB r c q with
  | true=>exact .inr ⟨q.p,rfl⟩
  | false=>exact h
theorem uu (n:Nat):∀ as:List D,(∀ a∈as,eqN n a a=some true)→eqZ (eqN n) as as=some true
 | [],_=>rfl
 | a::as,h=>by
  show ((eqN n a a).bind fun p=>(eqZ (eqN n) as as).map fun q=>p && q)=_
  rw [h a List.mem_cons_self,uu n as fun x hx=>h x (List.mem_cons_of_mem _ hx)]; rfl
theorem CJ (L:List Pl)(ps:List (Int × Int)):eqN 100 (.lst (ps.map fun x=>eN x.1 x.2 .non L)) (.lst (ps.map fun x=>eN x.1 x.2 .non L))=some true:=by
 show (if _=_ then eqZ (eqN 99) _ _ else some false)=_
 rw [if_pos rfl]
 refine uu 99 _ fun a ha=>?_
 obtain ⟨x,_,rfl⟩:=List.mem_map.mp ha
 rcases wW x.1 x.2 L .non (.inl rfl) with h | ⟨p,h⟩
 ·rw [h]; rfl
 ·rw [h,wQ 97 p p]; simp
theorem ph {f N:D}{L:List Pl}{u d w:Nat}(v:Inv [] (u:Int) 0 u d w L)(s8:Slot):∀ (post pre:List (Int × Int)) (s6 s7 s9 s10 s11:Slot), ∃ t7 t9 t10 t11,runFor (fU [9,10]) gQ (lW pre.length (post.map fun x=>eN x.1 x.2 .non L)) [.val N,.val f,.val (.lst (L.map Pl.dat)),.val (.int ((u+d+1:Nat):Int)),.val (.int (w:Nat)),.own ((pre++post).map prD),s6,s7,s8,s9,s10,s11]=some (.nx [.val N,.val f,.val (.lst (L.map Pl.dat)),.val (.int ((u+d+1:Nat):Int)),.val (.int (w:Nat)),.own ((pre++post).map prD),s6,t7,s8,t9,t10,t11])
 | [],pre,s6,s7,s9,s10,s11=>⟨s7,s9,s10,s11,rfl⟩
 | x::post,pre,s6,s7,s9,s10,s11=>by
  obtain ⟨t7,t9,t10,t11,e⟩:=ph (f:=f) (N:=N) v s8 post (pre++[x]) s6 (.val (.int x.1)) (.val (.int (pre.length:Nat))) (.val (eN x.1 x.2 .non L)) (.val (.int x.2))
  refine ⟨t7,t9,t10,t11, ?_⟩
  rw [List.length_append,List.length_singleton, ← List.append_cons] at e
  rw [← e,List.map_cons,lx]
  have hx:atI ((pre++x::post).map prD) ((pre.length:Nat):Int)=some (prD x):=by
   rw [jR,List.getElem?_map,List.getElem?_append_right (Nat.le_refl _)]; simp
  refine cZ (e1:=[.val N,.val f,.val (.lst (L.map Pl.dat)),.val (.int ((u+d+1:Nat):Int)),.val (.int (w:Nat)),.own ((pre++x::post).map prD),s6,s7,s8,.val (.int (pre.length:Nat)),.val (eN x.1 x.2 .non L),s11]) rfl ?_
  obtain ⟨r,c⟩:=x
  show gQ _=some (DFl.nx [.val N,.val f,.val (.lst (L.map Pl.dat)),.val (.int ((u+d+1:Nat):Int)),.val (.int (w:Nat)),.own ((pre++(r,c)::post).map prD),s6,.val (.int r),s8,.val (.int (pre.length:Nat)),.val (eN r c .non L),.val (.int c)])
  by_cases hin:(0≤r∧r<((u+d+1:Nat):Int))∧(0≤c∧c<(w:Int))
  ·obtain ⟨⟨i1,i2⟩,i3,i4⟩:=hin
   obtain ⟨tl,htl⟩:=v.hd
   obtain ⟨L1,q,L2,g1,g2,g3,g4⟩:=qZ r c L .non ⟨_,by rw [htl]; exact List.mem_cons_self,by
    have a1:(u:Int) - (u:Int)≤r:=by omega
    have a2:r<(u:Int) - (u:Int)+((u+d+1:Nat):Int):=by omega
    have a4:c<0+(w:Int):=by omega
    simp only [hasB,a1,a2,i3,a4,decide_true,Bool.and_self]⟩
   have ow:=G2 r c g1 v.ord g2 g3 v.len
   show gQ [.val N,.val f,.val (.lst (L.map Pl.dat)),.val (.int ((u+d+1:Nat):Int)),.val (.int (w:Nat)),.own ((pre++(r,c)::post).map prD),s6,s7,s8,.val (.int (pre.length:Nat)),.val (eN r c .non L),s11]=_
   rw [g4]
   have ep:prD (r,c)=.tup [.int r,.int c]:=rfl
   rw [ep] at hx
   generalize pth q.p=PP at *
   generalize L.map Pl.dat=LL at *
   generalize (pre++(r,c)::post).map prD=AS at *
   generalize u+d+1=H at *
   simp [gQ,hx,i1,i2,i3,i4,ow]
  ·have hn:eN r c .non L=.non:=mQ r c L .non fun q hq=>by
    obtain ⟨b1,b2,b3,b4⟩:=v.box q hq
    cases hb:hasB r c q with
    | false=>rfl
    | true =>
     simp only [hasB,Bool.and_eq_true,decide_eq_true_eq] at hb
     exact absurd ⟨⟨by omega,by omega⟩,by omega,by omega⟩ hin
   show gQ [.val N,.val f,.val (.lst (L.map Pl.dat)),.val (.int ((u+d+1:Nat):Int)),.val (.int (w:Nat)),.own ((pre++(r,c)::post).map prD),s6,s7,s8,.val (.int (pre.length:Nat)),.val (eN r c .non L),s11]=_
   rw [hn]
   have ep:prD (r,c)=.tup [.int r,.int c]:=rfl
   rw [ep] at hx
   generalize L.map Pl.dat=LL at *
   generalize (pre++(r,c)::post).map prD=AS at *
   generalize u+d+1=H at *
   by_cases i1:0≤r <;> by_cases i2:r<(H:Int) <;> by_cases i3:0≤c <;> by_cases i4:c<(w:Int) <;> first | (simp [gQ,hx,i1,i2,i3,i4]; done) | exact absurd ⟨⟨i1,i2⟩,i3,i4⟩ hin
theorem G3 (ns:List Int):ud [.lst (ns.map .int)]=some (.bl true):=by
 have hcut:cutD (ns.map D.int) none (some 24)=(ns.take 24).map D.int:=(rJ (ns.map D.int) 24).trans List.map_take.symm
 obtain ⟨f,hf,hfm,hcn⟩:=vA (ns.take 24)
 obtain ⟨q,L,hp,v,hw⟩:=yj hfm hcn
 obtain ⟨ps,t6,t7,ea,hl⟩:=pf ns f (.lst (L.map Pl.dat)) (q.u+q.d+1) q.w (by omega) hw .no .no .no .no 4 0 [] .no .no (by decide)
 rw [List.nil_append,List.map_nil] at ea
 have tk:=wV hp v.len ps
 have te:=CJ L ps
 obtain ⟨u7,u9,u10,u11,ec⟩:=ph (f:=f) (N:=.lst (ns.map .int)) v (.val (.lst (ps.map fun x=>eN x.1 x.2 .non L))) ps [] t6 t7 .no .no .no
 rw [List.nil_append,List.length_nil] at ec
 obtain ⟨tl,htl⟩:=v.hd
 have hx:atI (L.map Pl.dat) 0=some (.tup [pth [],.int ((q.u:Int) - (q.u:Int)),.int 0,.int ((q.u+q.d+1:Nat):Int),.int (q.w:Nat),.int (q.u:Int)]):=by rw [htl,Hz]; rfl
 have hs:∀ a b c d e g:D,slD (.tup [a,b,c,d,e,g]) (some 3) (some 5)=some (.tup [d,e]):=fun _ _ _ _ _ _=>rfl
 have hp6:(ps.map prD).length≤1000000:=by simp; omega
 have hcap:∀ a b c d e f g h i j k l:Slot,eW 2 [1] [a,b,c,d,e,f,g,h,i,j,k,l]=[.no,.no,b]:=fun _ _ _ _ _ _ _ _ _ _ _ _=>rfl
 have hr:jC [.int 4]=some (cX ((0:Nat):Int) 4):=rfl
 generalize ps.map (fun x=>eN x.1 x.2 .non L)=TT at *
 generalize ps.map prD=AS at *
 generalize L.map Pl.dat=LL at *
 generalize q.u+q.d+1=H at *
 generalize (ns.take 24).map D.int=N24 at *
 generalize ns.map D.int=N at *
 generalize cX ((0:Nat):Int) 4=RI at *
 simp only [ud,ay,wC,envOf]
 simp [-oo,hcut,hf,hp,hx,hs,hr,ea,hp6,hcap,tk,BP,ec,te]
end K36
end
section
set_option maxHeartbeats 4000000
namespace K36
open PySem PySem.Spec PyProof.Rows L2 DL
open PySem.W (findIn keepIn fnOf codeIn nsIn isFn plainOver plainGet makesIn hasDictIn Frag)
local macro_rules | `(tactic| w_fin)=>`(tactic| first | exact .inl rfl | exact .inr (.inl rfl) | exact .inr (.inr rfl) | exact .inr rfl)
local macro_rules | `(tactic| w_left)=>`(tactic| decide +kernel)
theorem ex0 {us:List Value}(h:us.length=0):us=[]:=List.length_eq_zero_iff.mp h
theorem exS {n:Nat}{us:List Value}(h:us.length=n+1):∃ a t,us=a::t∧t.length=n:=by cases us with | nil=>cases h | cons a t=>exact ⟨a,t,rfl,Nat.succ.inj h⟩
theorem ex1 {us:List Value}(h:us.length=1):∃ a,us=[a]:=by obtain ⟨a,t,rfl,k⟩:=exS h; cases ex0 k; exact ⟨a,rfl⟩
theorem ex2 {us:List Value}(h:us.length=2):∃ a0 a1,us=[a0,a1]:=by obtain ⟨a0,t,rfl,k⟩:=exS h; obtain ⟨a1,rfl⟩:=ex1 k; exact ⟨a0,a1,rfl⟩
theorem ex3 {us:List Value}(h:us.length=3):∃ a0 a1 a2,us=[a0,a1,a2]:=by obtain ⟨a0,t,rfl,k⟩:=exS h; obtain ⟨a1,a2,rfl⟩:=ex2 k; exact ⟨a0,a1,a2,rfl⟩
theorem ex4 {us:List Value}(h:us.length=4):∃ a0 a1 a2 a3,us=[a0,a1,a2,a3]:=by obtain ⟨a0,t,rfl,k⟩:=exS h; obtain ⟨a1,a2,a3,rfl⟩:=ex3 k; exact ⟨a0,a1,a2,a3,rfl⟩
def top (i:Nat):Stmt:=PySem.Challenge.pw_inkform_k36_whole_pointed.main.body.getD i (.Pass ⟨0,0,0,0⟩)
abbrev dO:Stmt:=top 36
abbrev fY:Stmt:=top 37
abbrev dP:Stmt:=top 38
abbrev eO:Stmt:=top 40
abbrev eP:Stmt:=top 39
abbrev eQ:Stmt:=top 34
abbrev eR:Stmt:=top 35
abbrev eS:Stmt:=top 41
abbrev cH:Stmt:=top 42
abbrev bN:Stmt:=top 20
abbrev cI:Stmt:=top 24
abbrev cJ:Stmt:=top 23
abbrev bF:Stmt:=top 21
abbrev cK:Stmt:=inClass (top 8) 0
abbrev dQ:Stmt:=top 22
abbrev dR:Stmt:=inClass (top 19) 0
abbrev dS:Stmt:=inClass (top 9) 0
abbrev dc:Stmt:=inClass (top 10) 0
abbrev dU:Stmt:=top 13
abbrev dW:Stmt:=inClass (top 11) 0
abbrev dX:Stmt:=inClass (top 12) 0
abbrev cL:Stmt:=inClass (top 17) 0
abbrev dY:Stmt:=inClass (top 18) 0
abbrev eT:Stmt:=top 5
abbrev eU:Stmt:=top 4
abbrev eV:Stmt:=top 3
abbrev dZ:Stmt:=top 26
abbrev cM:Stmt:=top 27
abbrev cN:Stmt:=top 28
abbrev cm:Stmt:=inClass (top 8) 4
abbrev cO:Stmt:=inClass (top 10) 2
abbrev fZ:Stmt:=top 14
abbrev df:Stmt:=inClass (top 11) 2
abbrev dg:Stmt:=inClass (top 12) 2
abbrev bo:Stmt:=inClass (top 17) 3
abbrev bc:Stmt:=inClass (top 17) 4
abbrev cp:Stmt:=inClass (top 17) 5
abbrev dh:Stmt:=inClass (top 18) 2
abbrev di:Stmt:=inClass (top 19) 3
abbrev bP:Stmt:=top 31
abbrev ed:Stmt:=top 30
abbrev dj:Stmt:=top 47
abbrev g8:Stmt:=top 32
abbrev cP:Stmt:=top 43
abbrev g9:Stmt:=top 45
abbrev bQ:Stmt:=top 46
abbrev kh:Stmt:=top 48
theorem uv:aB ["one", "levels"] ["one"] (ag dO):=⟨rfl,rfl,rfl,by w_left,rfl,by w_left,by w_left⟩
theorem yk:aB ["one", "least"] ["one", "least"] (ag fY):=⟨rfl,rfl,rfl,by w_left,rfl,by w_left,by w_left⟩
theorem uw:aB ["some", "kind", "by", "least", "made", "signs", "k"] ["some", "kind", "by"] (ag dP):=⟨rfl,rfl,rfl,by w_left,rfl,by w_left,by w_left⟩
theorem vE:aB ["way", "by"] ["way", "by"] (ag eO):=⟨rfl,rfl,rfl,by w_left,rfl,by w_left,by w_left⟩
theorem vF:aB ["some", "way", "by", "item", "wide"] ["some", "way", "by"] (ag eP):=⟨rfl,rfl,rfl,by w_left,rfl,by w_left,by w_left⟩
theorem vG:aB ["cell", "n", "size", "word", "k"] ["cell"] (ag eQ):=⟨rfl,rfl,rfl,by w_left,rfl,by w_left,by w_left⟩
theorem vH:aB ["cell"] ["cell"] (ag eR):=⟨rfl,rfl,rfl,by w_left,rfl,by w_left,by w_left⟩
theorem vI:aB ["stack", "cell", "way", "by", "many", "some", "deep", "tabled", "made"] ["stack", "cell"] (ag eS):=⟨rfl,rfl,rfl,by w_left,rfl,by w_left,by w_left⟩
theorem pU:aB ["script", "stack", "cell", "some", "by"] ["script"] (ag cH):=⟨rfl,rfl,rfl,by w_left,rfl,by w_left,by w_left⟩
theorem nz:aB ["bands"] ["bands"] (ag bN):=⟨rfl,rfl,rfl,by w_left,rfl,by w_left,by w_left⟩
theorem pV:aB ["band"] ["band"] (ag cI):=⟨rfl,rfl,rfl,by w_left,rfl,by w_left,by w_left⟩
theorem pW:aB ["band"] ["band"] (ag cJ):=⟨rfl,rfl,rfl,by w_left,rfl,by w_left,by w_left⟩
theorem mR:aB ["bands", "numbers", "n", "band"] ["bands"] (ag bF):=⟨rfl,rfl,rfl,by w_left,rfl,by w_left,by w_left⟩
theorem kX:aB ["self", "wide", "up", "down"] ["self", "wide", "up", "down"] (ag cK):=⟨rfl,rfl,rfl,by w_left,rfl,by w_left,by w_left⟩
theorem ux:aB ["bands", "up", "lows", "top", "band"] ["bands", "up"] (ag dQ):=⟨rfl,rfl,rfl,by w_left,rfl,by w_left,by w_left⟩
theorem uy:aB ["self", "bands", "high", "up"] ["self", "bands"] (ag dR):=⟨rfl,rfl,rfl,by w_left,rfl,by w_left,by w_left⟩
theorem uz:aB ["self", "word"] ["self", "word"] (ag dS):=⟨rfl,rfl,rfl,by w_left,rfl,by w_left,by w_left⟩
theorem sr:aB ["self", "parts", "signs", "wide", "up", "down"] ["self", "parts", "signs"] (ag dc):=⟨rfl,rfl,rfl,by w_left,rfl,by w_left,by w_left⟩
theorem uA:aB ["sketch"] ["sketch"] (ag dU):=⟨rfl,rfl,rfl,by w_left,rfl,by w_left,by w_left⟩
theorem uB:aB ["self", "above", "beneath"] ["self", "above", "beneath"] (ag dW):=⟨rfl,rfl,rfl,by w_left,rfl,by w_left,by w_left⟩
theorem uC:aB ["self", "inner"] ["self", "inner"] (ag dX):=⟨rfl,rfl,rfl,by w_left,rfl,by w_left,by w_left⟩
theorem pX:aB ["self", "item", "raised", "lowered", "marks", "room", "up", "down"] ["self", "item", "raised", "lowered"] (ag cL):=⟨rfl,rfl,rfl,by w_left,rfl,by w_left,by w_left⟩
theorem uD:aB ["self", "inner"] ["self", "inner"] (ag dY):=⟨rfl,rfl,rfl,by w_left,rfl,by w_left,by w_left⟩
theorem vJ:aB ["f", "sign"] ["f"] (ag eT):=⟨rfl,rfl,rfl,by w_left,rfl,by w_left,by w_left⟩
theorem vK:aB ["bands", "cells", "band"] ["bands"] (ag eU):=⟨rfl,rfl,rfl,by w_left,rfl,by w_left,by w_left⟩
theorem vL:aB ["f", "kind"] ["f"] (ag eV):=⟨rfl,rfl,rfl,by w_left,rfl,by w_left,by w_left⟩
theorem uE:aB ["f", "kind"] ["f"] (ag dZ):=⟨rfl,rfl,rfl,by w_left,rfl,by w_left,by w_left⟩
theorem pY:aB ["some"] ["some"] (ag cM):=⟨rfl,rfl,rfl,by w_left,rfl,by w_left,by w_left⟩
theorem pZ:aB ["mark"] ["mark"] (ag cN):=⟨rfl,rfl,rfl,by w_left,rfl,by w_left,by w_left⟩
theorem pj:aB ["self"] ["self"] (ag cm):=⟨rfl,rfl,rfl,by w_left,rfl,by w_left,by w_left⟩
theorem q0:aB ["self", "spots", "right", "part"] ["self"] (ag cO):=⟨rfl,rfl,rfl,by w_left,rfl,by w_left,by w_left⟩
theorem yl:aB ["narrow", "wide"] ["narrow", "wide"] (ag fZ):=⟨rfl,rfl,rfl,by w_left,rfl,by w_left,by w_left⟩
theorem su:aB ["self", "above", "beneath"] ["self"] (ag df):=⟨rfl,rfl,rfl,by w_left,rfl,by w_left,by w_left⟩
theorem sv:aB ["self"] ["self"] (ag dg):=⟨rfl,rfl,rfl,by w_left,rfl,by w_left,by w_left⟩
theorem kJ:aB ["self"] ["self"] (ag bo):=⟨rfl,rfl,rfl,by w_left,rfl,by w_left,by w_left⟩
theorem ki:aB ["self"] ["self"] (ag bc):=⟨rfl,rfl,rfl,by w_left,rfl,by w_left,by w_left⟩
theorem pk:aB ["self", "spots"] ["self"] (ag cp):=⟨rfl,rfl,rfl,by w_left,rfl,by w_left,by w_left⟩
theorem sA:aB ["self"] ["self"] (ag dh):=⟨rfl,rfl,rfl,by w_left,rfl,by w_left,by w_left⟩
theorem sC:aB ["self", "spots", "band", "low", "right", "sketch", "wide"] ["self"] (ag di):=⟨rfl,rfl,rfl,by w_left,rfl,by w_left,by w_left⟩
theorem nA:aB ["sketch", "path", "base", "left", "places", "n", "spot"] ["sketch", "path", "base", "left"] (ag bP):=⟨rfl,rfl,rfl,by w_left,rfl,by w_left,by w_left⟩
theorem uF:aB ["f", "sketch"] ["f"] (ag ed):=⟨rfl,rfl,rfl,by w_left,rfl,by w_left,by w_left⟩
theorem sD:aB ["cell", "size"] ["cell", "size"] (ag dj):=⟨rfl,rfl,rfl,by w_left,rfl,by w_left,by w_left⟩
theorem ym:aB ["f", "row", "column", "found", "path", "top", "left", "high", "wide", "base"] ["f", "row", "column"] (ag g8):=⟨rfl,rfl,rfl,by w_left,rfl,by w_left,by w_left⟩
theorem q8:aB ["script", "k"] ["script", "k"] (ag cP):=⟨rfl,rfl,rfl,by w_left,rfl,by w_left,by w_left⟩
theorem yn:aB ["place", "row", "column"] ["place", "row", "column"] (ag g9):=⟨rfl,rfl,rfl,by w_left,rfl,by w_left,by w_left⟩
theorem nB:aB ["places", "found", "row", "column", "there", "many", "place"] ["places", "found", "row", "column"] (ag bQ):=⟨rfl,rfl,rfl,by w_left,rfl,by w_left,by w_left⟩
theorem Iz:aB ["script", "f", "places", "high", "wide", "asked", "k", "row", "told", "at", "found", "column"] ["script"] (ag kh):=⟨rfl,rfl,rfl,by w_left,rfl,by w_left,by w_left⟩
abbrev ct (C0 C1 C2 C3 C4 C5 C6 C7:Addr):Ct:=⟨fun n=>[C0,C1,C2,C3,C4,C5,C6,C7][n]?,fun i=>(["wide", "up", "down", "word", "parts", "signs", "above", "beneath", "inner", "item", "raised", "lowered", "bands", "widths", "band_numbers", "lows"]:List Str).getD i "!"⟩
structure Txt (P:Program)(w:World)(K:Frag)(mg:Str→Option Value)(C0 C1 C2 C3 C4 C5 C6 C7 z59 z47 z61 z45 z55 z57 z51 z49 z60 z46 z56 z58 z53 z52 z54 z50 z48:Addr):Prop where
 nT:mg "tuple"=none
 me:mg "range"=none
 gp:mg "len"=none
 DP:mg "int"=none
 mh:mg "max"=none
 IA:mg "any"=none
 kj:mg "enumerate"=none
 sE:mg "list"=none
 DQ:mg "sum"=none
 IB:mg "str"=none
 DR:mg "zip"=none
 sF:mg "isinstance"=none
 bE:∃ v u,mg "ROW_KINDS"=some u∧RelV v u∧∀ A H,Rep ⟨K,(ct C0 C1 C2 C3 C4 C5 C6 C7).cl,(ct C0 C1 C2 C3 C4 C5 C6 C7).fld⟩ A H bE v
 yo:Cls K C0
 r6:mg "Sketch"=some (.ref C0)
 nE:Meth K C0 "spots" z60
 CK:Cls K C1
 CL:mg "Word"=some (.ref C1)
 q9:Meth K C1 "spots" z60
 Ax:Cls K C2
 Ay:mg "Chain"=some (.ref C2)
 pq:Meth K C2 "spots" z46
 CM:Cls K C3
 CN:mg "Over"=some (.ref C3)
 qa:Meth K C3 "spots" z56
 CO:Cls K C4
 CP:mg "Root"=some (.ref C4)
 qb:Meth K C4 "spots" z58
 mS:Cls K C5
 yp:mg "Marked"=some (.ref C5)
 nF:Meth K C5 "spots" z54
 kl:Meth K C5 "raised_low" z53
 jF:Meth K C5 "lowered_low" z52
 CQ:Cls K C6
 CS:mg "Held"=some (.ref C6)
 qc:Meth K C6 "spots" z50
 CT:Cls K C7
 CU:mg "Grid"=some (.ref C7)
 qd:Meth K C7 "spots" z48
 CV:Mk K C1 z61
 Az:Mk K C2 z45
 CW:Mk K C3 z55
 CY:Mk K C4 z57
 yq:Mk K C5 z51
 CZ:Mk K C6 z49
 D0:Mk K C7 z47
 r9:qR K C0 "__init__" z59
 jG:fC K (ct C0 C1 C2 C3 C4 C5 C6 C7) 0
 nG:fC K (ct C0 C1 C2 C3 C4 C5 C6 C7) 1
 qe:fC K (ct C0 C1 C2 C3 C4 C5 C6 C7) 2
 JB:fC K (ct C0 C1 C2 C3 C4 C5 C6 C7) 3
 IC:fC K (ct C0 C1 C2 C3 C4 C5 C6 C7) 4
 JC:fC K (ct C0 C1 C2 C3 C4 C5 C6 C7) 5
 D1:fC K (ct C0 C1 C2 C3 C4 C5 C6 C7) 6
 D2:fC K (ct C0 C1 C2 C3 C4 C5 C6 C7) 7
 D3:fC K (ct C0 C1 C2 C3 C4 C5 C6 C7) 8
 yr:fC K (ct C0 C1 C2 C3 C4 C5 C6 C7) 9
 wX:fC K (ct C0 C1 C2 C3 C4 C5 C6 C7) 10
 wY:fC K (ct C0 C1 C2 C3 C4 C5 C6 C7) 11
 uG:fC K (ct C0 C1 C2 C3 C4 C5 C6 C7) 12
 wZ:fC K (ct C0 C1 C2 C3 C4 C5 C6 C7) 13
 DT:fC K (ct C0 C1 C2 C3 C4 C5 C6 C7) 14
 DU:fC K (ct C0 C1 C2 C3 C4 C5 C6 C7) 15
theorem hR {P:Addr→Prop}:∀ C∈([]:List Addr),P C:=fun C h=>nomatch h
theorem ax {P:Addr→Prop}{a:Addr}{l:List Addr}(h:P a)(r:∀ C∈l,P C):∀ C∈a::l,P C:=fun C hC=>(List.mem_cons.mp hC).elim (fun e=>e ▸ h) (r C)
def ID (P:Nat→Addr→Prop):Nat→List Addr→Prop
 | _,[]=>True
 | n,a::l=>P n a∧ID P (n+1) l
section
variable {P:Program}{w:World}{K:Frag}{mg:Str→Option Value}{base:Heap}{C0 C1 C2 C3 C4 C5 C6 C7 z59 z47 z61 z45 z55 z57 z51 z49 z60 z46 z56 z58 z53 z52 z54 z50 z48:Addr}
structure x3 (P:Program)(w:World)(K:Frag)(mg:Str→Option Value)(base:Heap)(C0 C1 C2 C3 C4 C5 C6 C7 z59 z47 z61 z45 z55 z57 z51 z49 z60 z46 z56 z58 z53 z52 z54 z50 z48:Addr)  (k:Nat) (R:uc):Prop where
 bf:Def P w K mg base (ct C0 C1 C2 C3 C4 C5 C6 C7) "sketch_of" ["f"] k R.bf
 cg:i0 P w K mg base (ct C0 C1 C2 C3 C4 C5 C6 C7) "sketches_of" ["some"] k R.cg
 bL:Def P w K mg base (ct C0 C1 C2 C3 C4 C5 C6 C7) "mark_sketch" ["mark"] k R.bL
section
variable (T:Txt P w K mg C0 C1 C2 C3 C4 C5 C6 C7 z59 z47 z61 z45 z55 z57 z51 z49 z60 z46 z56 z58 z53 z52 z54 z50 z48)
include T
theorem AA (G_Sketch_spots:UnF P w K mg base (ct C0 C1 C2 C3 C4 C5 C6 C7) z60 ["self"] 1 eL)(G_Chain_spots:UnF P w K mg base (ct C0 C1 C2 C3 C4 C5 C6 C7) z46 ["self"] 1 fH)(G_Over_spots:UnF P w K mg base (ct C0 C1 C2 C3 C4 C5 C6 C7) z56 ["self"] 2 i9)(G_Root_spots:UnF P w K mg base (ct C0 C1 C2 C3 C4 C5 C6 C7) z58 ["self"] 1 ib)(G_Marked_spots:UnF P w K mg base (ct C0 C1 C2 C3 C4 C5 C6 C7) z54 ["self"] 2 ck)(G_Held_spots:UnF P w K mg base (ct C0 C1 C2 C3 C4 C5 C6 C7) z50 ["self"] 1 ie)(G_Grid_spots:UnF P w K mg base (ct C0 C1 C2 C3 C4 C5 C6 C7) z48 ["self"] 1 ij):rW P w K mg base (ct C0 C1 C2 C3 C4 C5 C6 C7) "spots" 0 2 dM:=by
 refine ⟨fun j lay F h=>?_⟩
 rcases j with _ | _ | _ | _ | _ | _ | _ | _ | j
 ·cases h
  exact G_Sketch_spots.oV rfl rfl T.yo T.nE (by first | decide | omega) (show ∀ i∈[0,1,2],(["wide", "up", "down", "word", "parts", "signs", "above", "beneath", "inner", "item", "raised", "lowered", "bands", "widths", "band_numbers", "lows"]:List Str).getD i "!"≠"spots" by w_left)
 ·cases h
  exact G_Sketch_spots.oV rfl rfl T.CK T.q9 (by first | decide | omega) (show ∀ i∈[0,1,2,3],(["wide", "up", "down", "word", "parts", "signs", "above", "beneath", "inner", "item", "raised", "lowered", "bands", "widths", "band_numbers", "lows"]:List Str).getD i "!"≠"spots" by w_left)
 ·cases h
  exact G_Chain_spots.oV rfl rfl T.Ax T.pq (by first | decide | omega) (show ∀ i∈[0,1,2,4,5],(["wide", "up", "down", "word", "parts", "signs", "above", "beneath", "inner", "item", "raised", "lowered", "bands", "widths", "band_numbers", "lows"]:List Str).getD i "!"≠"spots" by w_left)
 ·cases h
  exact G_Over_spots.oV rfl rfl T.CM T.qa (by first | decide | omega) (show ∀ i∈[0,1,2,6,7],(["wide", "up", "down", "word", "parts", "signs", "above", "beneath", "inner", "item", "raised", "lowered", "bands", "widths", "band_numbers", "lows"]:List Str).getD i "!"≠"spots" by w_left)
 ·cases h
  exact G_Root_spots.oV rfl rfl T.CO T.qb (by first | decide | omega) (show ∀ i∈[0,1,2,8],(["wide", "up", "down", "word", "parts", "signs", "above", "beneath", "inner", "item", "raised", "lowered", "bands", "widths", "band_numbers", "lows"]:List Str).getD i "!"≠"spots" by w_left)
 ·cases h
  exact G_Marked_spots.oV rfl rfl T.mS T.nF (by first | decide | omega) (show ∀ i∈[0,1,2,9,10,11],(["wide", "up", "down", "word", "parts", "signs", "above", "beneath", "inner", "item", "raised", "lowered", "bands", "widths", "band_numbers", "lows"]:List Str).getD i "!"≠"spots" by w_left)
 ·cases h
  exact G_Held_spots.oV rfl rfl T.CQ T.qc (by first | decide | omega) (show ∀ i∈[0,1,2,8],(["wide", "up", "down", "word", "parts", "signs", "above", "beneath", "inner", "item", "raised", "lowered", "bands", "widths", "band_numbers", "lows"]:List Str).getD i "!"≠"spots" by w_left)
 ·cases h
  exact G_Grid_spots.oV rfl rfl T.CT T.qd (by first | decide | omega) (show ∀ i∈[12,13,14,0,1,2,15],(["wide", "up", "down", "word", "parts", "signs", "above", "beneath", "inner", "item", "raised", "lowered", "bands", "widths", "band_numbers", "lows"]:List Str).getD i "!"≠"spots" by w_left)
 ·cases h
theorem qf (G_Marked_raised_low:UnD P w K mg base (ct C0 C1 C2 C3 C4 C5 C6 C7) z53 ["self"] 1 cB):oQ P w K mg base (ct C0 C1 C2 C3 C4 C5 C6 C7) "raised_low" 0 1 eD:=by
 refine ⟨fun j lay F h=>?_⟩
 rcases j with _ | _ | _ | _ | _ | _ | _ | _ | j
 ·cases h
 ·cases h
 ·cases h
 ·cases h
 ·cases h
 ·cases h
  exact G_Marked_raised_low.oV rfl rfl T.mS T.kl (by first | decide | omega) (show ∀ i∈[0,1,2,9,10,11],(["wide", "up", "down", "word", "parts", "signs", "above", "beneath", "inner", "item", "raised", "lowered", "bands", "widths", "band_numbers", "lows"]:List Str).getD i "!"≠"raised_low" by w_left)
 ·cases h
 ·cases h
 ·cases h
theorem pz (G_Marked_lowered_low:UnD P w K mg base (ct C0 C1 C2 C3 C4 C5 C6 C7) z52 ["self"] 1 cj):oQ P w K mg base (ct C0 C1 C2 C3 C4 C5 C6 C7) "lowered_low" 0 1 dJ:=by
 refine ⟨fun j lay F h=>?_⟩
 rcases j with _ | _ | _ | _ | _ | _ | _ | _ | j
 ·cases h
 ·cases h
 ·cases h
 ·cases h
 ·cases h
 ·cases h
  exact G_Marked_lowered_low.oV rfl rfl T.mS T.jF (by first | decide | omega) (show ∀ i∈[0,1,2,9,10,11],(["wide", "up", "down", "word", "parts", "signs", "above", "beneath", "inner", "item", "raised", "lowered", "bands", "widths", "band_numbers", "lows"]:List Str).getD i "!"≠"lowered_low" by w_left)
 ·cases h
 ·cases h
 ·cases h
theorem pA:BodyOk P w K mg base (ct C0 C1 C2 C3 C4 C5 C6 C7) ["one", "levels"] dO 0 iN:=by
 refine ⟨fun X hP hw hK hmg hb d hr=>?_⟩
 subst hP hw hK hmg hb
 have hS:ag dO=_:=(by (conv=>lhs; whnf))
 rw [hS] at d
 have hB:aq dO=_:=(by (conv=>lhs; whnf))
 rw [hB]
 have n_0:Nm X 0 "one":=d.nm rfl (by w_fin)
 have n_1:Nm X 1 "levels":=d.nm rfl (by w_fin)
 have l_1:Nl X 1 "levels":=d.nl rfl (by w_fin)
 have hu:=bw hr
 delta iN
 refine ai ?_ ?_
 refine aK ?_ ?_
 exact l_1
 refine A1 (ps:=[([101,118,101,110],0),([115,117,109],1),([116,105,109,101,115],2),([111,118,101,114],3),([114,111,111,116],3),([109,97,114,107,101,100],3)]) ?_ ?s1 ?s2 ?s3 ?s4 ?s5 ?s6
 case s1=>decide +kernel
 case s2=>rfl
 case s3=>rfl
 case s4=>exact fun z=>nomatch z
 case s5=>decide +kernel
 case s6=>decide +kernel
 refine i6 (by w_left) ?_
 refine i6 (by w_left) ?_
 refine i6 (by w_left) ?_
 refine i6 (by w_left) ?_
 refine i6 (by w_left) ?_
 refine i6 (by w_left) ?_
 exact A0
 refine ao ?_
 refine aD ?_
 refine Ca hu ?_ ?_ ?_
 exact aa n_1
 refine aX ?_ ?_
 refine ah ?_
 exact aa n_0
 exact aj
 exact aj
theorem sG (z25:Def P w K mg base (ct C0 C1 C2 C3 C4 C5 C6 C7) "_law_level" ["one"] 1 gN):BodyOk P w K mg base (ct C0 C1 C2 C3 C4 C5 C6 C7) ["one", "least"] fY 1 j8:=by
 refine ⟨fun X hP hw hK hmg hb d hr=>?_⟩
 subst hP hw hK hmg hb
 have hS:ag fY=_:=(by (conv=>lhs; whnf))
 rw [hS] at d
 have hB:aq fY=_:=(by (conv=>lhs; whnf))
 rw [hB]
 have n_0:Nm X 0 "one":=d.nm rfl (by w_fin)
 have n_1:Nm X 1 "least":=d.nm rfl (by w_fin)
 have g_law_level:Gl X "_law_level":=d.gl rfl
 have hu:=bw hr
 delta j8
 refine ai ?_ ?_
 refine b0 ?_ ?_ ?_
 refine mG ?_ ?_
 refine ba z25 hr ?s1 ?_ ?_
 case s1=>decide
 exact g_law_level
 refine ae ?_ ?_
 exact aa n_0
 exact ak
 exact aa n_1
 refine ao ?_
 refine aD ?_
 refine bI ?_
 refine ae ?_ ?_
 exact bp (by w_left)
 refine ae ?_ ?_
 exact aa n_0
 exact ak
 exact aJ
 refine ao ?_
 refine aD ?_
 exact aa n_0
theorem pB (z22:Def P w K mg base (ct C0 C1 C2 C3 C4 C5 C6 C7) "_law_fit" ["one", "least"] 2 fW):BodyOk P w K mg base (ct C0 C1 C2 C3 C4 C5 C6 C7) ["some", "kind", "by", "least", "made", "signs", "k"] dP 2 fX:=by
 refine ⟨fun X hP hw hK hmg hb d hr=>?_⟩
 subst hP hw hK hmg hb
 have hS:ag dP=_:=(by (conv=>lhs; whnf))
 rw [hS] at d
 have hB:aq dP=_:=(by (conv=>lhs; whnf))
 rw [hB]
 have n_0:Nm X 0 "some":=d.nm rfl (by w_fin)
 have n_1:Nm X 1 "kind":=d.nm rfl (by w_fin)
 have n_2:Nm X 2 "by":=d.nm rfl (by w_fin)
 have n_4:Nm X 4 "made":=d.nm rfl (by w_fin)
 have n_5:Nm X 5 "signs":=d.nm rfl (by w_fin)
 have l_2:Nl X 2 "by":=d.nl rfl (by w_fin)
 have l_3:Nl X 3 "least":=d.nl rfl (by w_fin)
 have l_4:Nl X 4 "made":=d.nl rfl (by w_fin)
 have l_5:Nl X 5 "signs":=d.nl rfl (by w_fin)
 have l_6:Nl X 6 "k":=d.nl rfl (by w_fin)
 have g_len:Gl X "len":=d.gl rfl
 have g_range:Gl X "range":=d.gl rfl
 have g_tuple:Gl X "tuple":=d.gl rfl
 have hu:=bw hr
 delta fX gi gh
 refine ai ?_ ?_
 refine aK ?_ ?_
 exact l_3
 refine FH hu ?_ ?_
 refine A1 (ps:=[([101,118,101,110],1),([115,117,109],2),([116,105,109,101,115],3)]) ?_ ?s1 ?s2 ?s3 ?s4 ?s5 ?s6
 case s1=>decide +kernel
 case s2=>rfl
 case s3=>rfl
 case s4=>exact fun z=>nomatch z
 case s5=>decide +kernel
 case s6=>decide +kernel
 refine i6 (by w_left) ?_
 refine i6 (by w_left) ?_
 refine i6 (by w_left) ?_
 exact A0
 exact aa n_1
 refine ai ?_ ?_
 refine aK ?_ ?_
 exact l_4
 refine oz ?_ ?_ ?_
 exact g_tuple
 exact T.nT
 refine ah ?_
 refine bX ?_
 refine d5 (N':=["one", "least"]) (nt:=1) (cap:=[3]) d.toDefX ?s1 ?s2 ?s3 ?_ ?_ (br (by decide)) (aO 0) ?_ ?_
 case s1=>exact ⟨by rfl,by w_left,by w_left,by w_left,by rfl,by w_left⟩
 case s2=>decide
 case s3=>decide +kernel
 refine ah ?_
 exact aa n_0
 intro cl C s2 H2 fp d1
 exact bh (d1.nlc (i:=0) rfl rfl)
 intro cl C s2 H2 fp d1
 exact cD
 intro cl C s2 H2 fp d1
 refine ba (X:=aQ _ _ _ _ _ _ _ _) z22 hr ?s1 (d1.gl rfl) ?_
 case s1=>decide
 refine ae ?_ ?_
 exact aa (d1.nm (i:=0) rfl (by w_fin))
 refine ae ?_ ?_
 exact aa (d1.nm (i:=1) rfl (by w_fin))
 exact ak
 refine ai ?_ ?_
 refine b0 ?_ ?_ ?_
 refine Fq hr ?_ ?_
 refine ah ?_
 exact aa n_1
 refine ah ?_
 exact bp (by w_left)
 refine ao ?_
 refine aD ?_
 refine bI ?_
 refine ae ?_ ?_
 exact aa n_1
 refine ae ?_ ?_
 exact aa n_4
 exact ak
 exact aJ
 refine ai ?_ ?_
 refine aK ?_ ?_
 exact l_5
 exact bp (by w_left)
 refine ai ?_ ?_
 refine oA d.never d.calm (aO 6) ?_ ?_ ?_ ?_ ?_
 exact bh l_6
 exact g_range
 exact T.me
 refine ae ?_ ?_
 refine eH ?_ ?_
 refine eF ?_ ?_ ?_
 exact g_len
 exact T.gp
 refine ah ?_
 exact aa n_4
 exact aj
 exact ak
 refine ai ?_ ?_
 refine aK ?_ ?_
 exact l_5
 refine aZ ?_ ?_
 refine ah ?_
 exact aa n_5
 refine ah ?_
 refine aX ?_ ?_
 refine ah ?_
 exact bp (by w_left)
 refine dn ?_ ?_
 exact aa n_2
 exact aj
 refine ao ?_
 refine aK ?_ ?_
 exact l_2
 refine ef ?_ ?_
 exact aa n_2
 exact aj
 refine ao ?_
 refine aD ?_
 refine bI ?_
 refine ae ?_ ?_
 exact aa n_1
 refine ae ?_ ?_
 exact aa n_4
 refine ae ?_ ?_
 exact aa n_5
 exact ak
theorem qg:BodyOk P w K mg base (ct C0 C1 C2 C3 C4 C5 C6 C7) ["way", "by"] eO 0 cw:=by
 refine ⟨fun X hP hw hK hmg hb d hr=>?_⟩
 subst hP hw hK hmg hb
 have hS:ag eO=_:=(by (conv=>lhs; whnf))
 rw [hS] at d
 have hB:aq eO=_:=(by (conv=>lhs; whnf))
 rw [hB]
 have n_0:Nm X 0 "way":=d.nm rfl (by w_fin)
 have n_1:Nm X 1 "by":=d.nm rfl (by w_fin)
 have g_int:Gl X "int":=d.gl rfl
 have hu:=bw hr
 delta cw
 refine ai ?_ ?_
 refine b0 ?_ ?_ ?_
 refine mG ?_ ?_
 exact aa n_0
 exact aj
 refine ao ?_
 refine aD ?_
 refine aZ ?_ ?_
 exact ah aj
 refine ah ?_
 refine dn ?_ ?_
 exact aa n_1
 exact aj
 exact aJ
 refine ai ?_ ?_
 refine b0 ?_ ?_ ?_
 refine bJ hr ?_ ?_
 refine ah ?_
 exact aa n_0
 exact ah aj
 refine ao ?_
 exact aD aj
 exact aJ
 refine ai ?_ ?_
 refine b0 ?_ ?_ ?_
 refine mG ?_ ?_
 exact aa n_0
 exact aj
 refine ao ?_
 exact aD aj
 exact aJ
 refine ai ?_ ?_
 refine b0 ?_ ?_ ?_
 refine bJ hr ?_ ?_
 refine ah ?_
 exact aa n_0
 exact ah aj
 refine ao ?_
 refine aD ?_
 refine aZ ?_ ?_
 exact ah aj
 refine ah ?_
 refine wj ?_ ?_ ?_
 exact g_int
 exact T.DP
 refine ah ?_
 refine tw hr ?_ ?_
 refine ah ?_
 refine dn ?_ ?_
 exact aa n_1
 exact aj
 exact ah aj
 exact aJ
 refine ao ?_
 refine aD ?_
 refine iZ ?_ ?_
 refine ah ?_
 refine aZ ?_ ?_
 exact ah aj
 refine ah ?_
 refine dn ?_ ?_
 exact aa n_1
 exact aj
 refine aZ ?_ ?_
 exact ah aj
 refine ah ?_
 refine dn ?_ ?_
 refine ef ?_ ?_
 exact aa n_1
 exact aj
 exact aj
theorem qh (z21:Def P w K mg base (ct C0 C1 C2 C3 C4 C5 C6 C7) "_law_chain" ["some", "kind", "by"] 3 d6)(z22:Def P w K mg base (ct C0 C1 C2 C3 C4 C5 C6 C7) "_law_fit" ["one", "least"] 2 fW):BodyOk P w K mg base (ct C0 C1 C2 C3 C4 C5 C6 C7) ["some", "way", "by", "item", "wide"] eP 3 bT:=by
 refine ⟨fun X hP hw hK hmg hb d hr=>?_⟩
 subst hP hw hK hmg hb
 have hS:ag eP=_:=(by (conv=>lhs; whnf))
 rw [hS] at d
 have hB:aq eP=_:=(by (conv=>lhs; whnf))
 rw [hB]
 have n_0:Nm X 0 "some":=d.nm rfl (by w_fin)
 have n_1:Nm X 1 "way":=d.nm rfl (by w_fin)
 have n_2:Nm X 2 "by":=d.nm rfl (by w_fin)
 have n_3:Nm X 3 "item":=d.nm rfl (by w_fin)
 have n_4:Nm X 4 "wide":=d.nm rfl (by w_fin)
 have l_3:Nl X 3 "item":=d.nl rfl (by w_fin)
 have l_4:Nl X 4 "wide":=d.nl rfl (by w_fin)
 have g_law_chain:Gl X "_law_chain":=d.gl rfl
 have g_law_fit:Gl X "_law_fit":=d.gl rfl
 have g_len:Gl X "len":=d.gl rfl
 have g_range:Gl X "range":=d.gl rfl
 have g_tuple:Gl X "tuple":=d.gl rfl
 have hu:=bw hr
 delta bT gD
 refine ai ?_ ?_
 refine b0 ?_ ?_ ?_
 refine mG ?_ ?_
 exact aa n_1
 exact aj
 refine ao ?_
 refine aD ?_
 refine ba z21 hr ?s1 ?_ ?_
 case s1=>decide
 exact g_law_chain
 refine ae ?_ ?_
 exact aa n_0
 refine ae ?_ ?_
 refine aX ?_ ?_
 refine ah ?_
 refine bX ?_
 refine cY ?_
 refine ae ?_ ?_
 exact bp (by w_left)
 refine ae ?_ ?_
 exact bp (by w_left)
 refine ae ?_ ?_
 exact bp (by w_left)
 exact ak
 exact aa n_1
 refine ae ?_ ?_
 refine ef ?_ ?_
 exact aa n_2
 exact aj
 exact ak
 exact aJ
 refine ai ?_ ?_
 refine b0 ?_ ?_ ?_
 refine bJ hr ?_ ?_
 refine ah ?_
 exact aa n_1
 exact ah aj
 refine ao ?_
 refine aD ?_
 refine bI ?_
 refine ae ?_ ?_
 exact bp (by w_left)
 refine ae ?_ ?_
 refine aX ?_ ?_
 refine ah ?_
 exact aa n_0
 exact aj
 refine ae ?_ ?_
 refine aX ?_ ?_
 refine ah ?_
 exact aa n_0
 exact aj
 exact ak
 exact aJ
 refine ai ?_ ?_
 refine b0 ?_ ?_ ?_
 refine bJ hr ?_ ?_
 refine ah ?_
 exact aa n_1
 exact ah aj
 refine ao ?_
 refine aD ?_
 refine bI ?_
 refine ae ?_ ?_
 exact bp (by w_left)
 refine ae ?_ ?_
 refine aX ?_ ?_
 refine ah ?_
 exact aa n_0
 exact aj
 exact ak
 exact aJ
 refine ai ?_ ?_
 refine b0 ?_ ?_ ?_
 refine bJ hr ?_ ?_
 refine ah ?_
 exact aa n_1
 exact ah aj
 refine ao ?_
 refine aD ?_
 refine bI ?_
 refine ae ?_ ?_
 exact bp (by w_left)
 refine ae ?_ ?_
 refine aX ?_ ?_
 refine ah ?_
 exact aa n_0
 exact aj
 exact ak
 exact aJ
 refine ai ?_ ?_
 refine b0 ?_ ?_ ?_
 refine bJ hr ?_ ?_
 refine ah ?_
 exact aa n_1
 exact ah aj
 refine ai ?_ ?_
 refine aK ?_ ?_
 exact l_3
 refine ba z22 hr ?s1 ?_ ?_
 case s1=>decide
 exact g_law_fit
 refine ae ?_ ?_
 refine aX ?_ ?_
 refine ah ?_
 exact aa n_0
 exact aj
 refine ae ?_ ?_
 exact aj
 exact ak
 refine ai ?_ ?_
 refine b0 ?_ ?_ ?_
 refine bJ hr ?_ ?_
 refine ah ?_
 refine eF ?_ ?_ ?_
 exact g_len
 exact T.gp
 refine ah ?_
 exact aa n_0
 exact ah aj
 refine ao ?_
 refine aD ?_
 refine bI ?_
 refine ae ?_ ?_
 exact bp (by w_left)
 refine ae ?_ ?_
 exact aa n_3
 refine ae ?_ ?_
 refine aX ?_ ?_
 refine ah ?_
 exact aa n_0
 exact aj
 refine ae ?_ ?_
 refine aX ?_ ?_
 refine ah ?_
 exact aa n_0
 exact aj
 exact ak
 exact aJ
 refine ai ?_ ?_
 refine b0 ?_ ?_ ?_
 refine bJ hr ?_ ?_
 refine ah ?_
 refine dn ?_ ?_
 refine ef ?_ ?_
 exact aa n_2
 exact aj
 exact aj
 exact ah aj
 refine ao ?_
 refine aD ?_
 refine bI ?_
 refine ae ?_ ?_
 exact bp (by w_left)
 refine ae ?_ ?_
 exact aa n_3
 refine ae ?_ ?_
 refine aX ?_ ?_
 refine ah ?_
 exact aa n_0
 exact aj
 refine ae ?_ ?_
 exact oy
 exact ak
 exact aJ
 refine ao ?_
 refine aD ?_
 refine bI ?_
 refine ae ?_ ?_
 exact bp (by w_left)
 refine ae ?_ ?_
 exact aa n_3
 refine ae ?_ ?_
 exact oy
 refine ae ?_ ?_
 refine aX ?_ ?_
 refine ah ?_
 exact aa n_0
 exact aj
 exact ak
 exact aJ
 refine ai ?_ ?_
 refine aK ?_ ?_
 exact l_4
 refine aZ ?_ ?_
 exact ah aj
 refine ah ?_
 refine dn ?_ ?_
 refine ef ?_ ?_
 exact aa n_2
 exact aj
 exact aj
 refine ao ?_
 refine aD ?_
 refine bI ?_
 refine ae ?_ ?_
 exact bp (by w_left)
 refine ae ?_ ?_
 refine oz ?_ ?_ ?_
 exact g_tuple
 exact T.nT
 refine ah ?_
 refine bX ?_
 refine A3 (N':=["at", "some", "wide"]) (nt:=1) (cap:=[0,4]) d.toDefX ?s1 ?s2 ?s3 ?_ ?_ ?_ ?_ (br (by decide)) (aO 0) ?_ ?_
 case s1=>exact ⟨by rfl,by w_left,by w_left,by w_left,by rfl,by w_left⟩
 case s2=>decide
 case s3=>decide +kernel
 exact g_range
 exact T.me
 refine ae ?_ ?_
 exact aj
 refine ae ?_ ?_
 refine eF ?_ ?_ ?_
 exact g_len
 exact T.gp
 refine ah ?_
 exact aa n_0
 refine ae ?_ ?_
 exact aa n_4
 exact ak
 intro cl C s2 H2 fp d1
 exact bh (d1.nlc (i:=0) rfl rfl)
 intro cl C s2 H2 fp d1
 exact cD
 intro cl C s2 H2 fp d1
 refine oz (d1.gl rfl) ?_ ?_
 exact T.nT
 refine ah ?_
 refine lT ?_ ?_ ?_
 refine ah ?_
 exact aa (d1.nm (i:=1) rfl (by w_fin))
 refine eI ?_
 exact aa (d1.nm (i:=0) rfl (by w_fin))
 refine eI ?_
 refine aZ ?_ ?_
 refine ah ?_
 exact aa (d1.nm (i:=0) rfl (by w_fin))
 refine ah ?_
 exact aa (d1.nm (i:=2) rfl (by w_fin))
 exact ak
theorem qi:BodyOk P w K mg base (ct C0 C1 C2 C3 C4 C5 C6 C7) ["cell", "n", "size", "word", "k"] eQ 0 jv:=by
 refine ⟨fun X hP hw hK hmg hb d hr=>?_⟩
 subst hP hw hK hmg hb
 have hS:ag eQ=_:=(by (conv=>lhs; whnf))
 rw [hS] at d
 have hB:aq eQ=_:=(by (conv=>lhs; whnf))
 rw [hB]
 have n_0:Nm X 0 "cell":=d.nm rfl (by w_fin)
 have n_1:Nm X 1 "n":=d.nm rfl (by w_fin)
 have n_2:Nm X 2 "size":=d.nm rfl (by w_fin)
 have n_3:Nm X 3 "word":=d.nm rfl (by w_fin)
 have l_1:Nl X 1 "n":=d.nl rfl (by w_fin)
 have l_2:Nl X 2 "size":=d.nl rfl (by w_fin)
 have l_3:Nl X 3 "word":=d.nl rfl (by w_fin)
 have l_4:Nl X 4 "k":=d.nl rfl (by w_fin)
 have g_range:Gl X "range":=d.gl rfl
 have hu:=bw hr
 delta jv fD
 refine ai ?_ ?_
 refine aK ?_ ?_
 exact l_1
 refine dn ?_ ?_
 refine iZ ?_ ?_
 refine ah ?_
 exact aa n_0
 exact aj
 exact aj
 refine ai ?_ ?_
 refine aK ?_ ?_
 exact l_2
 refine aZ ?_ ?_
 exact ah aj
 refine ah ?_
 refine dn ?_ ?_
 exact aa n_1
 exact aj
 refine ai ?_ ?_
 refine aK ?_ ?_
 exact l_1
 refine ef ?_ ?_
 exact aa n_1
 exact aj
 refine ai ?_ ?_
 refine aK ?_ ?_
 exact l_3
 exact bp (by w_left)
 refine ai ?_ ?_
 refine oA d.never d.calm (aO 4) ?_ ?_ ?_ ?_ ?_
 exact bh l_4
 exact g_range
 exact T.me
 refine ae ?_ ?_
 exact aa n_2
 exact ak
 refine ai ?_ ?_
 refine aK ?_ ?_
 exact l_3
 refine aZ ?_ ?_
 refine ah ?_
 exact aa n_3
 refine ah ?_
 refine aX ?_ ?_
 refine ah ?_
 exact bp (by w_left)
 refine dn ?_ ?_
 exact aa n_1
 exact aj
 refine ao ?_
 refine aK ?_ ?_
 exact l_1
 refine ef ?_ ?_
 exact aa n_1
 exact aj
 refine ao ?_
 refine aD ?_
 exact aa n_3
theorem qj (z31:Def P w K mg base (ct C0 C1 C2 C3 C4 C5 C6 C7) "_law_word" ["cell"] 1 iD):BodyOk P w K mg base (ct C0 C1 C2 C3 C4 C5 C6 C7) ["cell"] eR 1 iE:=by
 refine ⟨fun X hP hw hK hmg hb d hr=>?_⟩
 subst hP hw hK hmg hb
 have hS:ag eR=_:=(by (conv=>lhs; whnf))
 rw [hS] at d
 have hB:aq eR=_:=(by (conv=>lhs; whnf))
 rw [hB]
 have n_0:Nm X 0 "cell":=d.nm rfl (by w_fin)
 have g_law_word:Gl X "_law_word":=d.gl rfl
 have hu:=bw hr
 delta iE
 refine ai ?_ ?_
 refine b0 ?_ ?_ ?_
 refine bJ hr ?_ ?_
 refine ah ?_
 refine dn ?_ ?_
 exact aa n_0
 exact aj
 exact ah aj
 refine ao ?_
 refine aD ?_
 refine bI ?_
 refine ae ?_ ?_
 exact bp (by w_left)
 refine ae ?_ ?_
 refine dn ?_ ?_
 refine ef ?_ ?_
 exact aa n_0
 exact aj
 refine zD ?_ ?_
 exact aj
 exact aj
 exact ak
 exact aJ
 refine ao ?_
 refine aD ?_
 refine bI ?_
 refine ae ?_ ?_
 exact bp (by w_left)
 refine ae ?_ ?_
 refine ba z31 hr ?s1 ?_ ?_
 case s1=>decide
 exact g_law_word
 refine ae ?_ ?_
 refine ef ?_ ?_
 exact aa n_0
 exact aj
 exact ak
 exact ak
theorem qk (z27:Def P w K mg base (ct C0 C1 C2 C3 C4 C5 C6 C7) "_law_many" ["way", "by"] 1 bS)(z26:Def P w K mg base (ct C0 C1 C2 C3 C4 C5 C6 C7) "_law_made" ["some", "way", "by"] 4 bK)(z19:Def P w K mg base (ct C0 C1 C2 C3 C4 C5 C6 C7) "_law_atom" ["cell"] 2 gw):BodyOk P w K mg base (ct C0 C1 C2 C3 C4 C5 C6 C7) ["stack", "cell", "way", "by", "many", "some", "deep", "tabled", "made"] eS 4 gx:=by
 refine ⟨fun X hP hw hK hmg hb d hr=>?_⟩
 subst hP hw hK hmg hb
 have hS:ag eS=_:=(by (conv=>lhs; whnf))
 rw [hS] at d
 have hB:aq eS=_:=(by (conv=>lhs; whnf))
 rw [hB]
 have n_0:Nm X 0 "stack":=d.nm rfl (by w_fin)
 have n_1:Nm X 1 "cell":=d.nm rfl (by w_fin)
 have n_2:Nm X 2 "way":=d.nm rfl (by w_fin)
 have n_3:Nm X 3 "by":=d.nm rfl (by w_fin)
 have n_4:Nm X 4 "many":=d.nm rfl (by w_fin)
 have n_5:Nm X 5 "some":=d.nm rfl (by w_fin)
 have n_6:Nm X 6 "deep":=d.nm rfl (by w_fin)
 have n_7:Nm X 7 "tabled":=d.nm rfl (by w_fin)
 have n_8:Nm X 8 "made":=d.nm rfl (by w_fin)
 have l_2:Nl X 2 "way":=d.nl rfl (by w_fin)
 have l_3:Nl X 3 "by":=d.nl rfl (by w_fin)
 have l_4:Nl X 4 "many":=d.nl rfl (by w_fin)
 have l_5:Nl X 5 "some":=d.nl rfl (by w_fin)
 have l_6:Nl X 6 "deep":=d.nl rfl (by w_fin)
 have l_7:Nl X 7 "tabled":=d.nl rfl (by w_fin)
 have l_8:Nl X 8 "made":=d.nl rfl (by w_fin)
 have g_law_atom:Gl X "_law_atom":=d.gl rfl
 have g_law_made:Gl X "_law_made":=d.gl rfl
 have g_law_many:Gl X "_law_many":=d.gl rfl
 have g_any:Gl X "any":=d.gl rfl
 have g_int:Gl X "int":=d.gl rfl
 have g_len:Gl X "len":=d.gl rfl
 have g_max:Gl X "max":=d.gl rfl
 have hu:=bw hr
 delta gx fG fF fE
 refine ai ?_ ?_
 refine aK ?_ ?_
 exact l_2
 refine dn ?_ ?_
 exact aa n_1
 exact aj
 refine ai ?_ ?_
 refine aK ?_ ?_
 exact l_3
 refine ef ?_ ?_
 exact aa n_1
 exact aj
 refine ai ?_ ?_
 refine b0 ?_ ?_ ?_
 refine mG ?_ ?_
 exact aa n_2
 exact aj
 refine ai ?_ ?_
 refine aK ?_ ?_
 exact l_4
 refine ba z27 hr ?s1 ?_ ?_
 case s1=>decide
 exact g_law_many
 refine ae ?_ ?_
 exact aa n_2
 refine ae ?_ ?_
 exact aa n_3
 exact ak
 refine ai ?_ ?_
 refine aK ?_ ?_
 exact l_5
 refine lT ?_ ?_ ?_
 refine ah ?_
 exact aa n_0
 refine eI ?_
 refine wk ?_ ?_ d.calm ?_
 exact g_max
 exact T.mh
 refine ae ?_ ?_
 exact aj
 refine ae ?_ ?_
 refine eH ?_ ?_
 refine eF ?_ ?_ ?_
 exact g_len
 exact T.gp
 refine ah ?_
 exact aa n_0
 exact aa n_4
 exact ak
 exact iy
 refine ai ?_ ?_
 refine aK ?_ ?_
 exact l_6
 refine tS ?_ ?_ d.calm ?_ ?_
 exact g_max
 exact T.mh
 refine ah ?_
 refine bX ?_
 refine d5 (N':=["one"]) (nt:=1) (cap:=[]) d.toDefX ?s1 ?s2 ?s3 ?_ ?_ (br (by decide)) (aO 0) ?_ ?_
 case s1=>exact ⟨by rfl,by w_left,by w_left,by w_left,by rfl,by w_left⟩
 case s2=>decide
 case s3=>decide +kernel
 refine ah ?_
 exact aa n_5
 intro cl C s2 H2 fp d1
 exact bh (d1.nlc (i:=0) rfl rfl)
 intro cl C s2 H2 fp d1
 exact cD
 intro cl C s2 H2 fp d1
 refine aX ?_ ?_
 refine ah ?_
 exact aa (d1.nm (i:=0) rfl (by w_fin))
 exact aj
 exact aj
 refine ai ?_ ?_
 refine aK ?_ ?_
 exact l_7
 refine Fv ?_ ?_ d.calm ?_
 exact g_any
 exact T.IA
 refine ah ?_
 refine bX ?_
 refine d5 (N':=["one"]) (nt:=1) (cap:=[]) d.toDefX ?s1 ?s2 ?s3 ?_ ?_ (br (by decide)) (aO 0) ?_ ?_
 case s1=>exact ⟨by rfl,by w_left,by w_left,by w_left,by rfl,by w_left⟩
 case s2=>decide
 case s3=>decide +kernel
 refine ah ?_
 exact aa n_5
 intro cl C s2 H2 fp d1
 exact bh (d1.nlc (i:=0) rfl rfl)
 intro cl C s2 H2 fp d1
 exact cD
 intro cl C s2 H2 fp d1
 refine aX ?_ ?_
 refine ah ?_
 exact aa (d1.nm (i:=0) rfl (by w_fin))
 exact aj
 refine ao ?_
 refine b0 ?_ ?_ ?_
 refine PDW.pt ?_
 refine iK ?_ ?_
 refine zF ?_ ?_
 exact aa n_4
 refine eF ?_ ?_ ?_
 exact g_len
 exact T.gp
 refine ah ?_
 exact aa n_0
 refine iK ?_ ?_
 refine zF ?_ ?_
 exact aa n_6
 exact aj
 refine j4 ?_
 refine rN ?_
 refine PDW.pt ?_
 refine iK ?_ ?_
 refine bJ hr ?_ ?_
 refine ah ?_
 exact aa n_2
 exact ah aj
 refine j4 ?_
 refine lR ?_
 exact aa n_7
 refine ai ?_ ?_
 refine aK ?_ ?_
 exact l_8
 refine ba z26 hr ?s1 ?_ ?_
 case s1=>decide
 exact g_law_made
 refine ae ?_ ?_
 refine bX ?_
 refine d5 (N':=["one"]) (nt:=1) (cap:=[]) d.toDefX ?s1 ?s2 ?s3 ?_ ?_ (br (by decide)) (aO 0) ?_ ?_
 case s1=>exact ⟨by rfl,by w_left,by w_left,by w_left,by rfl,by w_left⟩
 case s2=>decide
 case s3=>decide +kernel
 refine ah ?_
 exact aa n_5
 intro cl C s2 H2 fp d1
 exact bh (d1.nlc (i:=0) rfl rfl)
 intro cl C s2 H2 fp d1
 exact cD
 intro cl C s2 H2 fp d1
 refine aX ?_ ?_
 refine ah ?_
 exact aa (d1.nm (i:=0) rfl (by w_fin))
 exact aj
 refine ae ?_ ?_
 exact aa n_2
 refine ae ?_ ?_
 exact aa n_3
 exact ak
 refine ai ?_ ?_
 refine aK ?_ ?_
 exact l_6
 refine aZ ?_ ?_
 refine ah ?_
 refine aZ ?_ ?_
 refine ah ?_
 exact aa n_6
 exact ah aj
 refine ah ?_
 refine wj ?_ ?_ ?_
 exact g_int
 exact T.DP
 refine ah ?_
 refine Ds ?_ ?_
 refine HE ?_ ?_
 exact aa n_2
 exact aj
 refine vh ?_
 refine tw hr ?_ ?_
 refine ah ?_
 exact aa n_2
 exact ah aj
 refine ao ?_
 refine d4 ?_
 refine vf ?_ ?_
 refine ah ?_
 refine lT ?_ ?_ ?_
 refine ah ?_
 exact aa n_0
 exact iy
 refine eI ?_
 refine eH ?_ ?_
 refine eF ?_ ?_ ?_
 exact g_len
 exact T.gp
 refine ah ?_
 exact aa n_0
 exact aa n_4
 refine ah ?_
 refine bX ?_
 refine cY ?_
 refine ae ?_ ?_
 refine bI ?_
 refine ae ?_ ?_
 exact aa n_8
 refine ae ?_ ?_
 exact aa n_6
 refine ae ?_ ?_
 refine Ds ?_ ?_
 exact aa n_7
 refine vh ?_
 refine tw hr ?_ ?_
 refine ah ?_
 exact aa n_2
 exact ah aj
 exact ak
 exact ak
 exact aJ
 exact aJ
 refine ao ?_
 refine d4 ?_
 refine vf ?_ ?_
 refine ah ?_
 exact aa n_0
 refine ah ?_
 refine bX ?_
 refine cY ?_
 refine ae ?_ ?_
 refine bI ?_
 refine ae ?_ ?_
 refine ba z19 hr ?s1 ?_ ?_
 case s1=>decide
 exact g_law_atom
 refine ae ?_ ?_
 exact aa n_3
 exact ak
 refine ae ?_ ?_
 exact aj
 refine ae ?_ ?_
 exact tm
 exact ak
 exact ak
theorem mT (z21:Def P w K mg base (ct C0 C1 C2 C3 C4 C5 C6 C7) "_law_chain" ["some", "kind", "by"] 3 d6)(z30:i0 P w K mg base (ct C0 C1 C2 C3 C4 C5 C6 C7) "_law_step" ["stack", "cell"] 5 fT):BodyOk P w K mg base (ct C0 C1 C2 C3 C4 C5 C6 C7) ["script", "stack", "cell", "some", "by"] cH 5 cE:=by
 refine ⟨fun X hP hw hK hmg hb d hr=>?_⟩
 subst hP hw hK hmg hb
 have hS:ag cH=_:=(by (conv=>lhs; whnf))
 rw [hS] at d
 have hB:aq cH=_:=(by (conv=>lhs; whnf))
 rw [hB]
 have n_0:Nm X 0 "script":=d.nm rfl (by w_fin)
 have n_1:Nm X 1 "stack":=d.nm rfl (by w_fin)
 have n_2:Nm X 2 "cell":=d.nm rfl (by w_fin)
 have n_3:Nm X 3 "some":=d.nm rfl (by w_fin)
 have n_4:Nm X 4 "by":=d.nm rfl (by w_fin)
 have l_1:Nl X 1 "stack":=d.nl rfl (by w_fin)
 have l_2:Nl X 2 "cell":=d.nl rfl (by w_fin)
 have l_3:Nl X 3 "some":=d.nl rfl (by w_fin)
 have l_4:Nl X 4 "by":=d.nl rfl (by w_fin)
 have g_law_chain:Gl X "_law_chain":=d.gl rfl
 have g_law_step:Gl X "_law_step":=d.gl rfl
 have g_len:Gl X "len":=d.gl rfl
 have hu:=bw hr
 delta cE dF eZ
 refine ai ?_ ?_
 refine aK ?_ ?_
 exact l_1
 refine bX ?_
 exact cY ak
 refine ai ?_ ?_
 refine kq d.never d.calm (aO 2) ?_ ?_ ?_
 exact bh l_2
 refine lT ?_ ?_ ?_
 refine ah ?_
 exact aa n_0
 exact iy
 exact eI aj
 refine ao ?_
 refine aK ?_ ?_
 exact l_1
 refine bX ?_
 refine gT z30 hr ?s1 ?_ ?_
 case s1=>decide
 exact g_law_step
 refine ae ?_ ?_
 exact aa n_1
 refine ae ?_ ?_
 exact aa n_2
 exact ak
 refine ai ?_ ?_
 refine lU d.toDefX ?_ ?_ ?s1
 case s1=>decide +kernel
 exact l_3
 refine lV (N':=["one"]) (nt:=1) (cap:=[]) d.toDefX ?s1 ?s2 ?s3 ?_ ?_ (br (by decide)) (aO 0) ?_ ?_
 case s1=>exact ⟨by rfl,by w_left,by w_left,by w_left,by rfl,by w_left⟩
 case s2=>decide
 case s3=>decide +kernel
 refine ah ?_
 exact aa n_1
 intro cl C s2 H2 fp d1
 exact bh (d1.nlc (i:=0) rfl rfl)
 intro cl C s2 H2 fp d1
 exact cD
 intro cl C s2 H2 fp d1
 refine aX ?_ ?_
 refine ah ?_
 exact aa (d1.nm (i:=0) rfl (by w_fin))
 exact aj
 refine ai ?_ ?_
 refine b0 ?_ ?_ ?_
 refine bJ hr ?_ ?_
 refine ah ?_
 exact aa n_3
 refine ah ?_
 refine bX ?_
 exact cY ak
 refine ao ?_
 refine aD ?_
 refine bI ?_
 refine ae ?_ ?_
 exact bp (by w_left)
 refine ae ?_ ?_
 exact bp (by w_left)
 exact ak
 exact aJ
 refine ai ?_ ?_
 refine b0 ?_ ?_ ?_
 refine bJ hr ?_ ?_
 refine ah ?_
 refine eF ?_ ?_ ?_
 exact g_len
 exact T.gp
 refine ah ?_
 exact aa n_3
 exact ah aj
 refine ao ?_
 refine aD ?_
 refine aX ?_ ?_
 refine ah ?_
 exact aa n_3
 exact aj
 exact aJ
 refine ai ?_ ?_
 refine aK ?_ ?_
 exact l_4
 refine dn ?_ ?_
 refine iZ ?_ ?_
 refine ah ?_
 refine aX ?_ ?_
 refine ah ?_
 exact aa n_0
 refine eH ?_ ?_
 refine eF ?_ ?_ ?_
 exact g_len
 exact T.gp
 refine ah ?_
 exact aa n_0
 exact aj
 exact aj
 refine zD ?_ ?_
 exact aj
 exact aj
 refine ao ?_
 refine aD ?_
 refine ba z21 hr ?s1 ?_ ?_
 case s1=>decide
 exact g_law_chain
 refine ae ?_ ?_
 exact aa n_3
 refine ae ?_ ?_
 refine aX ?_ ?_
 refine ah ?_
 refine bX ?_
 refine cY ?_
 refine ae ?_ ?_
 exact bp (by w_left)
 refine ae ?_ ?_
 exact bp (by w_left)
 refine ae ?_ ?_
 exact bp (by w_left)
 exact ak
 refine dn ?_ ?_
 refine aX ?_ ?_
 refine ah ?_
 exact aa n_0
 exact aj
 exact aj
 refine ae ?_ ?_
 exact aa n_4
 exact ak
theorem lF:BodyOk P w K mg base (ct C0 C1 C2 C3 C4 C5 C6 C7) ["bands"] bN 0 fK:=by
 refine ⟨fun X hP hw hK hmg hb d hr=>?_⟩
 subst hP hw hK hmg hb
 have hS:ag bN=_:=(by (conv=>lhs; whnf))
 rw [hS] at d
 have hB:aq bN=_:=(by (conv=>lhs; whnf))
 rw [hB]
 have n_0:Nm X 0 "bands":=d.nm rfl (by w_fin)
 have g_len:Gl X "len":=d.gl rfl
 have g_range:Gl X "range":=d.gl rfl
 have hu:=bw hr
 delta fK eh eg
 refine ao ?_
 refine d4 ?_
 refine y9 (x0:="n") (N':=["n", "bands"]) (nt:=1) (cap:=[0]) d.toDefX ?s1 ?s2 ?s3 ?_ ?_ ?_ ?_ (br (by decide)) (aO 0) ?_ ?_
 case s1=>exact ⟨by rfl,by first | rfl | decide +kernel,by rfl,by w_left,by w_left,by rfl,by w_left⟩
 case s2=>decide
 case s3=>decide +kernel
 exact g_range
 exact T.me
 refine ae ?_ ?_
 refine eF ?_ ?_ ?_
 exact g_len
 exact T.gp
 refine ah ?_
 refine aX ?_ ?_
 refine ah ?_
 exact aa n_0
 exact aj
 exact ak
 intro cl C s2 H2 fp d1
 exact bh (d1.nlk (i:=0) rfl rfl)
 intro cl C s2 H2 fp d1
 exact cD
 intro cl C s2 H2 fp d1
 refine oH (d1.gl rfl) ?_ d1.calm ?_
 exact T.mh
 refine ah ?_
 refine bX ?_
 refine d5 (N':=["band", "n"]) (nt:=1) (cap:=[0]) d1 ?s1 ?s2 ?s3 ?_ ?_ (br (by decide)) (aO 0) ?_ ?_
 case s1=>exact ⟨by rfl,by w_left,by w_left,by w_left,by rfl,by w_left⟩
 case s2=>decide
 case s3=>decide +kernel
 refine ah ?_
 exact aa (d1.nm (i:=1) rfl (by w_fin))
 intro cl C s2 H2 fp d2
 exact bh (d2.nlc (i:=0) rfl rfl)
 intro cl C s2 H2 fp d2
 exact cD
 intro cl C s2 H2 fp d2
 refine aL T.jG rfl ?_
 refine aX ?_ ?_
 refine ah ?_
 exact aa (d2.nm (i:=0) rfl (by w_fin))
 exact aa (d2.nm (i:=1) rfl (by w_fin))
theorem mU:BodyOk P w K mg base (ct C0 C1 C2 C3 C4 C5 C6 C7) ["band"] cI 0 gF:=by
 refine ⟨fun X hP hw hK hmg hb d hr=>?_⟩
 subst hP hw hK hmg hb
 have hS:ag cI=_:=(by (conv=>lhs; whnf))
 rw [hS] at d
 have hB:aq cI=_:=(by (conv=>lhs; whnf))
 rw [hB]
 have n_0:Nm X 0 "band":=d.nm rfl (by w_fin)
 have g_max:Gl X "max":=d.gl rfl
 have hu:=bw hr
 delta gF fb
 refine ao ?_
 refine aD ?_
 refine oH ?_ ?_ d.calm ?_
 exact g_max
 exact T.mh
 refine ah ?_
 refine bX ?_
 refine d5 (N':=["sketch"]) (nt:=1) (cap:=[]) d.toDefX ?s1 ?s2 ?s3 ?_ ?_ (br (by decide)) (aO 0) ?_ ?_
 case s1=>exact ⟨by rfl,by w_left,by w_left,by w_left,by rfl,by w_left⟩
 case s2=>decide
 case s3=>decide +kernel
 refine ah ?_
 exact aa n_0
 intro cl C s2 H2 fp d1
 exact bh (d1.nlc (i:=0) rfl rfl)
 intro cl C s2 H2 fp d1
 exact cD
 intro cl C s2 H2 fp d1
 refine aL T.nG rfl ?_
 exact aa (d1.nm (i:=0) rfl (by w_fin))
theorem mV (z17:Def P w K mg base (ct C0 C1 C2 C3 C4 C5 C6 C7) "greatest_up" ["band"] 1 cF):BodyOk P w K mg base (ct C0 C1 C2 C3 C4 C5 C6 C7) ["band"] cJ 1 gG:=by
 refine ⟨fun X hP hw hK hmg hb d hr=>?_⟩
 subst hP hw hK hmg hb
 have hS:ag cJ=_:=(by (conv=>lhs; whnf))
 rw [hS] at d
 have hB:aq cJ=_:=(by (conv=>lhs; whnf))
 rw [hB]
 have n_0:Nm X 0 "band":=d.nm rfl (by w_fin)
 have g_greatest_up:Gl X "greatest_up":=d.gl rfl
 have g_max:Gl X "max":=d.gl rfl
 have hu:=bw hr
 delta gG fc
 refine ao ?_
 refine aD ?_
 refine aZ ?_ ?_
 refine ah ?_
 refine aZ ?_ ?_
 refine ah ?_
 refine ba z17 hr ?s1 ?_ ?_
 case s1=>decide
 exact g_greatest_up
 refine ae ?_ ?_
 exact aa n_0
 exact ak
 exact ah aj
 refine ah ?_
 refine oH ?_ ?_ d.calm ?_
 exact g_max
 exact T.mh
 refine ah ?_
 refine bX ?_
 refine d5 (N':=["sketch"]) (nt:=1) (cap:=[]) d.toDefX ?s1 ?s2 ?s3 ?_ ?_ (br (by decide)) (aO 0) ?_ ?_
 case s1=>exact ⟨by rfl,by w_left,by w_left,by w_left,by rfl,by w_left⟩
 case s2=>decide
 case s3=>decide +kernel
 refine ah ?_
 exact aa n_0
 intro cl C s2 H2 fp d1
 exact bh (d1.nlc (i:=0) rfl rfl)
 intro cl C s2 H2 fp d1
 exact cD
 intro cl C s2 H2 fp d1
 refine aL T.qe rfl ?_
 exact aa (d1.nm (i:=0) rfl (by w_fin))
theorem kK (z13:Def P w K mg base (ct C0 C1 C2 C3 C4 C5 C6 C7) "band_height" ["band"] 2 cG):BodyOk P w K mg base (ct C0 C1 C2 C3 C4 C5 C6 C7) ["bands", "numbers", "n", "band"] bF 2 fg:=by
 refine ⟨fun X hP hw hK hmg hb d hr=>?_⟩
 subst hP hw hK hmg hb
 have hS:ag bF=_:=(by (conv=>lhs; whnf))
 rw [hS] at d
 have hB:aq bF=_:=(by (conv=>lhs; whnf))
 rw [hB]
 have n_0:Nm X 0 "bands":=d.nm rfl (by w_fin)
 have n_1:Nm X 1 "numbers":=d.nm rfl (by w_fin)
 have n_2:Nm X 2 "n":=d.nm rfl (by w_fin)
 have n_3:Nm X 3 "band":=d.nm rfl (by w_fin)
 have l_1:Nl X 1 "numbers":=d.nl rfl (by w_fin)
 have l_2:Nl X 2 "n":=d.nl rfl (by w_fin)
 have l_3:Nl X 3 "band":=d.nl rfl (by w_fin)
 have g_band_height:Gl X "band_height":=d.gl rfl
 have g_enumerate:Gl X "enumerate":=d.gl rfl
 have hu:=bw hr
 delta fg cA
 refine ai ?_ ?_
 refine iL ?_ ?_
 exact l_1
 exact cY ak
 refine ai ?_ ?_
 refine oG d.never d.calm (fA (aP 2 (aP 3 eA))) ?_ ?_ ?_ ?_ ?_
 refine iX d.calm ?_
 refine bq ?_ ?_
 exact bh l_2
 refine bq ?_ ?_
 exact bh l_3
 exact gz
 exact g_enumerate
 exact T.kj
 exact aa n_0
 refine ai ?_ ?_
 refine b0 ?_ ?_ ?_
 refine Fc ?_ ?_
 exact aa n_2
 exact aj
 refine ao ?_
 refine fS ?_ ?_
 exact n_1
 exact oy
 exact aJ
 refine ao ?_
 refine ub ?_ ?_
 exact n_1
 refine Fb ?_ ?_
 refine cY ?_
 refine ae ?_ ?_
 exact aa n_2
 exact ak
 refine ba z13 hr ?s1 ?_ ?_
 case s1=>decide
 exact g_band_height
 refine ae ?_ ?_
 exact aa n_3
 exact ak
 refine ao ?_
 exact iz n_1
theorem jc:BodyOk P w K mg base (ct C0 C1 C2 C3 C4 C5 C6 C7) ["self", "wide", "up", "down"] cK 0 eC:=by
 refine ⟨fun X hP hw hK hmg hb d hr=>?_⟩
 subst hP hw hK hmg hb
 have hS:ag cK=_:=(by (conv=>lhs; whnf))
 rw [hS] at d
 have hB:aq cK=_:=(by (conv=>lhs; whnf))
 rw [hB]
 have n_0:Nm X 0 "self":=d.nm rfl (by w_fin)
 have n_1:Nm X 1 "wide":=d.nm rfl (by w_fin)
 have n_2:Nm X 2 "up":=d.nm rfl (by w_fin)
 have n_3:Nm X 3 "down":=d.nm rfl (by w_fin)
 have hu:=bw hr
 delta eC
 refine ai ?_ ?_
 refine dC T.jG rfl ?_ ?_
 exact n_0
 exact aa n_1
 refine ai ?_ ?_
 refine dC T.nG rfl ?_ ?_
 exact n_0
 exact aa n_2
 refine ao ?_
 refine dC T.qe rfl ?_ ?_
 exact n_0
 exact aa n_3
theorem pC (z13:Def P w K mg base (ct C0 C1 C2 C3 C4 C5 C6 C7) "band_height" ["band"] 2 cG)(z17:Def P w K mg base (ct C0 C1 C2 C3 C4 C5 C6 C7) "greatest_up" ["band"] 1 cF):BodyOk P w K mg base (ct C0 C1 C2 C3 C4 C5 C6 C7) ["bands", "up", "lows", "top", "band"] dQ 2 iO:=by
 refine ⟨fun X hP hw hK hmg hb d hr=>?_⟩
 subst hP hw hK hmg hb
 have hS:ag dQ=_:=(by (conv=>lhs; whnf))
 rw [hS] at d
 have hB:aq dQ=_:=(by (conv=>lhs; whnf))
 rw [hB]
 have n_0:Nm X 0 "bands":=d.nm rfl (by w_fin)
 have n_1:Nm X 1 "up":=d.nm rfl (by w_fin)
 have n_2:Nm X 2 "lows":=d.nm rfl (by w_fin)
 have n_3:Nm X 3 "top":=d.nm rfl (by w_fin)
 have n_4:Nm X 4 "band":=d.nm rfl (by w_fin)
 have l_2:Nl X 2 "lows":=d.nl rfl (by w_fin)
 have l_3:Nl X 3 "top":=d.nl rfl (by w_fin)
 have l_4:Nl X 4 "band":=d.nl rfl (by w_fin)
 have g_band_height:Gl X "band_height":=d.gl rfl
 have g_greatest_up:Gl X "greatest_up":=d.gl rfl
 have hu:=bw hr
 delta iO gj
 refine ai ?_ ?_
 refine iL ?_ ?_
 exact l_2
 exact cY ak
 refine ai ?_ ?_
 refine aK ?_ ?_
 exact l_3
 refine rM ?_
 exact aa n_1
 refine ai ?_ ?_
 refine kq d.never d.calm (aO 4) ?_ ?_ ?_
 exact bh l_4
 exact aa n_0
 refine ai ?_ ?_
 refine fS ?_ ?_
 exact n_2
 refine aZ ?_ ?_
 refine ah ?_
 exact aa n_3
 refine ah ?_
 refine ba z17 hr ?s1 ?_ ?_
 case s1=>decide
 exact g_greatest_up
 refine ae ?_ ?_
 exact aa n_4
 exact ak
 refine ao ?_
 refine jT ?_ ?_
 exact l_3
 refine aZ ?_ ?_
 refine ah ?_
 refine ba z13 hr ?s1 ?_ ?_
 case s1=>decide
 exact g_band_height
 refine ae ?_ ?_
 exact aa n_4
 exact ak
 exact ah aj
 refine ao ?_
 exact iz n_2
theorem pE (z16:i0 P w K mg base (ct C0 C1 C2 C3 C4 C5 C6 C7) "column_widths" ["bands"] 1 eo)(z34:i0 P w K mg base (ct C0 C1 C2 C3 C4 C5 C6 C7) "numbers_by_row" ["bands"] 3 dG)(z14:i0 P w K mg base (ct C0 C1 C2 C3 C4 C5 C6 C7) "band_lows" ["bands", "up"] 3 gO)(BJ_Sketch:rX P w K mg base (ct C0 C1 C2 C3 C4 C5 C6 C7) "Sketch" 3 1 jZ):BodyOk P w K mg base (ct C0 C1 C2 C3 C4 C5 C6 C7) ["self", "bands", "high", "up"] dR 3 iP:=by
 refine ⟨fun X hP hw hK hmg hb d hr=>?_⟩
 subst hP hw hK hmg hb
 have hS:ag dR=_:=(by (conv=>lhs; whnf))
 rw [hS] at d
 have hB:aq dR=_:=(by (conv=>lhs; whnf))
 rw [hB]
 have n_0:Nm X 0 "self":=d.nm rfl (by w_fin)
 have n_1:Nm X 1 "bands":=d.nm rfl (by w_fin)
 have n_2:Nm X 2 "high":=d.nm rfl (by w_fin)
 have n_3:Nm X 3 "up":=d.nm rfl (by w_fin)
 have l_2:Nl X 2 "high":=d.nl rfl (by w_fin)
 have l_3:Nl X 3 "up":=d.nl rfl (by w_fin)
 have g_Sketch:Gl X "Sketch":=d.gl rfl
 have g_band_lows:Gl X "band_lows":=d.gl rfl
 have g_column_widths:Gl X "column_widths":=d.gl rfl
 have g_len:Gl X "len":=d.gl rfl
 have g_numbers_by_row:Gl X "numbers_by_row":=d.gl rfl
 have g_sum:Gl X "sum":=d.gl rfl
 have hu:=bw hr
 delta iP eK
 refine ai ?_ ?_
 refine tV T.uG rfl ?_ ?_
 exact n_0
 refine bX ?_
 refine d5 (N':=["band"]) (nt:=1) (cap:=[]) d.toDefX ?s1 ?s2 ?s3 ?_ ?_ (br (by decide)) (aO 0) ?_ ?_
 case s1=>exact ⟨by rfl,by w_left,by w_left,by w_left,by rfl,by w_left⟩
 case s2=>decide
 case s3=>decide +kernel
 refine ah ?_
 exact aa n_1
 intro cl C s2 H2 fp d1
 exact bh (d1.nlc (i:=0) rfl rfl)
 intro cl C s2 H2 fp d1
 exact cD
 intro cl C s2 H2 fp d1
 refine bX ?_
 refine nR (d1.gl rfl) ?_ ?_
 exact T.sE
 refine ah ?_
 exact aa (d1.nm (i:=0) rfl (by w_fin))
 refine ai ?_ ?_
 refine dC T.wZ rfl ?_ ?_
 exact n_0
 refine bX ?_
 refine gT z16 hr ?s1 ?_ ?_
 case s1=>decide
 exact g_column_widths
 refine ae ?_ ?_
 refine ky T.uG rfl ?_
 exact n_0
 exact ak
 refine ai ?_ ?_
 refine dC T.DT rfl ?_ ?_
 exact n_0
 refine bX ?_
 refine gT z34 hr ?s1 ?_ ?_
 case s1=>decide
 exact g_numbers_by_row
 refine ae ?_ ?_
 refine ky T.uG rfl ?_
 exact n_0
 exact ak
 refine ai ?_ ?_
 refine aK ?_ ?_
 exact l_2
 refine eF ?_ ?_ ?_
 exact g_len
 exact T.gp
 refine ah ?_
 refine ky T.DT rfl ?_
 exact n_0
 refine ai ?_ ?_
 refine aK ?_ ?_
 exact l_3
 refine ef ?_ ?_
 refine eH ?_ ?_
 exact aa n_2
 exact aj
 exact aj
 refine ai ?_ ?_
 refine yf BJ_Sketch hr ?s1 ?_ ?_ ?_
 case s1=>decide
 exact g_Sketch
 exact n_0
 refine ae ?_ ?_
 refine aZ ?_ ?_
 refine ah ?_
 refine zS ?_ ?_ d.calm ?_
 exact g_sum
 exact T.DQ
 refine ah ?_
 refine ky T.wZ rfl ?_
 exact n_0
 refine ah ?_
 refine iZ ?_ ?_
 exact ah aj
 refine eF ?_ ?_ ?_
 exact g_len
 exact T.gp
 refine ah ?_
 refine ky T.wZ rfl ?_
 exact n_0
 refine ae ?_ ?_
 exact aa n_3
 refine ae ?_ ?_
 refine eH ?_ ?_
 refine eH ?_ ?_
 exact aa n_2
 exact aj
 exact aa n_3
 exact ak
 refine ao ?_
 refine dC T.DU rfl ?_ ?_
 exact n_0
 refine bX ?_
 refine gT z14 hr ?s1 ?_ ?_
 case s1=>decide
 exact g_band_lows
 refine ae ?_ ?_
 refine ky T.uG rfl ?_
 exact n_0
 refine ae ?_ ?_
 exact aa n_3
 exact ak
theorem pF (B_Sketch:m5 P w K mg base (ct C0 C1 C2 C3 C4 C5 C6 C7) "Sketch" 3 1 cR):BodyOk P w K mg base (ct C0 C1 C2 C3 C4 C5 C6 C7) ["self", "word"] dS 2 iQ:=by
 refine ⟨fun X hP hw hK hmg hb d hr=>?_⟩
 subst hP hw hK hmg hb
 have hS:ag dS=_:=(by (conv=>lhs; whnf))
 rw [hS] at d
 have hB:aq dS=_:=(by (conv=>lhs; whnf))
 rw [hB]
 have n_0:Nm X 0 "self":=d.nm rfl (by w_fin)
 have n_1:Nm X 1 "word":=d.nm rfl (by w_fin)
 have g_Sketch:Gl X "Sketch":=d.gl rfl
 have g_len:Gl X "len":=d.gl rfl
 have hu:=bw hr
 delta iQ
 refine ai ?_ ?_
 refine j7 B_Sketch hr ?s1 ?_ ?_ ?_
 case s1=>decide
 exact g_Sketch
 exact n_0
 refine ae ?_ ?_
 refine eF ?_ ?_ ?_
 exact g_len
 exact T.gp
 refine ah ?_
 exact aa n_1
 refine ae ?_ ?_
 exact aj
 refine ae ?_ ?_
 exact aj
 exact ak
 refine ao ?_
 refine dC T.JB rfl ?_ ?_
 exact n_0
 exact aa n_1
theorem nH (B_Sketch:m5 P w K mg base (ct C0 C1 C2 C3 C4 C5 C6 C7) "Sketch" 3 1 cR):BodyOk P w K mg base (ct C0 C1 C2 C3 C4 C5 C6 C7) ["self", "parts", "signs", "wide", "up", "down"] dc 2 i7:=by
 refine ⟨fun X hP hw hK hmg hb d hr=>?_⟩
 subst hP hw hK hmg hb
 have hS:ag dc=_:=(by (conv=>lhs; whnf))
 rw [hS] at d
 have hB:aq dc=_:=(by (conv=>lhs; whnf))
 rw [hB]
 have n_0:Nm X 0 "self":=d.nm rfl (by w_fin)
 have n_1:Nm X 1 "parts":=d.nm rfl (by w_fin)
 have n_2:Nm X 2 "signs":=d.nm rfl (by w_fin)
 have n_3:Nm X 3 "wide":=d.nm rfl (by w_fin)
 have n_4:Nm X 4 "up":=d.nm rfl (by w_fin)
 have n_5:Nm X 5 "down":=d.nm rfl (by w_fin)
 have l_3:Nl X 3 "wide":=d.nl rfl (by w_fin)
 have l_4:Nl X 4 "up":=d.nl rfl (by w_fin)
 have l_5:Nl X 5 "down":=d.nl rfl (by w_fin)
 have g_Sketch:Gl X "Sketch":=d.gl rfl
 have g_len:Gl X "len":=d.gl rfl
 have g_list:Gl X "list":=d.gl rfl
 have g_max:Gl X "max":=d.gl rfl
 have g_sum:Gl X "sum":=d.gl rfl
 have hu:=bw hr
 delta i7 fN fM fL
 refine ai ?_ ?_
 refine aK ?_ ?_
 exact l_3
 refine aZ ?_ ?_
 refine ah ?_
 refine zS ?_ ?_ d.calm ?_
 exact g_sum
 exact T.DQ
 refine ah ?_
 refine bX ?_
 refine d5 (N':=["part"]) (nt:=1) (cap:=[]) d.toDefX ?s1 ?s2 ?s3 ?_ ?_ (br (by decide)) (aO 0) ?_ ?_
 case s1=>exact ⟨by rfl,by w_left,by w_left,by w_left,by rfl,by w_left⟩
 case s2=>decide
 case s3=>decide +kernel
 refine ah ?_
 exact aa n_1
 intro cl C s2 H2 fp d1
 exact bh (d1.nlc (i:=0) rfl rfl)
 intro cl C s2 H2 fp d1
 exact cD
 intro cl C s2 H2 fp d1
 refine aL T.jG rfl ?_
 exact aa (d1.nm (i:=0) rfl (by w_fin))
 refine ah ?_
 refine iZ ?_ ?_
 exact ah aj
 refine eH ?_ ?_
 refine eF ?_ ?_ ?_
 exact g_len
 exact T.gp
 refine ah ?_
 exact aa n_1
 exact aj
 refine ai ?_ ?_
 refine aK ?_ ?_
 exact l_4
 refine oH ?_ ?_ d.calm ?_
 exact g_max
 exact T.mh
 refine ah ?_
 refine bX ?_
 refine d5 (N':=["part"]) (nt:=1) (cap:=[]) d.toDefX ?s1 ?s2 ?s3 ?_ ?_ (br (by decide)) (aO 0) ?_ ?_
 case s1=>exact ⟨by rfl,by w_left,by w_left,by w_left,by rfl,by w_left⟩
 case s2=>decide
 case s3=>decide +kernel
 refine ah ?_
 exact aa n_1
 intro cl C s2 H2 fp d1
 exact bh (d1.nlc (i:=0) rfl rfl)
 intro cl C s2 H2 fp d1
 exact cD
 intro cl C s2 H2 fp d1
 refine aL T.nG rfl ?_
 exact aa (d1.nm (i:=0) rfl (by w_fin))
 refine ai ?_ ?_
 refine aK ?_ ?_
 exact l_5
 refine oH ?_ ?_ d.calm ?_
 exact g_max
 exact T.mh
 refine ah ?_
 refine bX ?_
 refine d5 (N':=["part"]) (nt:=1) (cap:=[]) d.toDefX ?s1 ?s2 ?s3 ?_ ?_ (br (by decide)) (aO 0) ?_ ?_
 case s1=>exact ⟨by rfl,by w_left,by w_left,by w_left,by rfl,by w_left⟩
 case s2=>decide
 case s3=>decide +kernel
 refine ah ?_
 exact aa n_1
 intro cl C s2 H2 fp d1
 exact bh (d1.nlc (i:=0) rfl rfl)
 intro cl C s2 H2 fp d1
 exact cD
 intro cl C s2 H2 fp d1
 refine aL T.qe rfl ?_
 exact aa (d1.nm (i:=0) rfl (by w_fin))
 refine ai ?_ ?_
 refine j7 B_Sketch hr ?s1 ?_ ?_ ?_
 case s1=>decide
 exact g_Sketch
 exact n_0
 refine ae ?_ ?_
 exact aa n_3
 refine ae ?_ ?_
 exact aa n_4
 refine ae ?_ ?_
 exact aa n_5
 exact ak
 refine ai ?_ ?_
 refine dC T.IC rfl ?_ ?_
 exact n_0
 refine bX ?_
 refine nR ?_ ?_ ?_
 exact g_list
 exact T.sE
 refine ah ?_
 exact aa n_1
 refine ao ?_
 refine dC T.JC rfl ?_ ?_
 exact n_0
 exact aa n_2
theorem pG:BodyOk P w K mg base (ct C0 C1 C2 C3 C4 C5 C6 C7) ["sketch"] dU 0 iR:=by
 refine ⟨fun X hP hw hK hmg hb d hr=>?_⟩
 subst hP hw hK hmg hb
 have hS:ag dU=_:=(by (conv=>lhs; whnf))
 rw [hS] at d
 have hB:aq dU=_:=(by (conv=>lhs; whnf))
 rw [hB]
 have n_0:Nm X 0 "sketch":=d.nm rfl (by w_fin)
 have hu:=bw hr
 delta iR
 refine ao ?_
 refine aD ?_
 refine aZ ?_ ?_
 refine ah ?_
 refine aZ ?_ ?_
 refine ah ?_
 refine aL T.nG rfl ?_
 exact aa n_0
 exact ah aj
 refine ah ?_
 refine aL T.qe rfl ?_
 exact aa n_0
theorem pH (z18:Def P w K mg base (ct C0 C1 C2 C3 C4 C5 C6 C7) "height_of" ["sketch"] 1 cb)(B_Sketch:m5 P w K mg base (ct C0 C1 C2 C3 C4 C5 C6 C7) "Sketch" 3 1 cR):BodyOk P w K mg base (ct C0 C1 C2 C3 C4 C5 C6 C7) ["self", "above", "beneath"] dW 2 iS:=by
 refine ⟨fun X hP hw hK hmg hb d hr=>?_⟩
 subst hP hw hK hmg hb
 have hS:ag dW=_:=(by (conv=>lhs; whnf))
 rw [hS] at d
 have hB:aq dW=_:=(by (conv=>lhs; whnf))
 rw [hB]
 have n_0:Nm X 0 "self":=d.nm rfl (by w_fin)
 have n_1:Nm X 1 "above":=d.nm rfl (by w_fin)
 have n_2:Nm X 2 "beneath":=d.nm rfl (by w_fin)
 have g_Sketch:Gl X "Sketch":=d.gl rfl
 have g_height_of:Gl X "height_of":=d.gl rfl
 have g_max:Gl X "max":=d.gl rfl
 have hu:=bw hr
 delta iS
 refine ai ?_ ?_
 refine j7 B_Sketch hr ?s1 ?_ ?_ ?_
 case s1=>decide
 exact g_Sketch
 exact n_0
 refine ae ?_ ?_
 refine aZ ?_ ?_
 refine ah ?_
 refine wk ?_ ?_ d.calm ?_
 exact g_max
 exact T.mh
 refine ae ?_ ?_
 refine aL T.jG rfl ?_
 exact aa n_1
 refine ae ?_ ?_
 refine aL T.jG rfl ?_
 exact aa n_2
 exact ak
 exact ah aj
 refine ae ?_ ?_
 refine ba z18 hr ?s1 ?_ ?_
 case s1=>decide
 exact g_height_of
 refine ae ?_ ?_
 exact aa n_1
 exact ak
 refine ae ?_ ?_
 refine ba z18 hr ?s1 ?_ ?_
 case s1=>decide
 exact g_height_of
 refine ae ?_ ?_
 exact aa n_2
 exact ak
 exact ak
 refine ai ?_ ?_
 refine dC T.D1 rfl ?_ ?_
 exact n_0
 exact aa n_1
 refine ao ?_
 refine dC T.D2 rfl ?_ ?_
 exact n_0
 exact aa n_2
theorem pI (B_Sketch:m5 P w K mg base (ct C0 C1 C2 C3 C4 C5 C6 C7) "Sketch" 3 1 cR):BodyOk P w K mg base (ct C0 C1 C2 C3 C4 C5 C6 C7) ["self", "inner"] dX 2 iT:=by
 refine ⟨fun X hP hw hK hmg hb d hr=>?_⟩
 subst hP hw hK hmg hb
 have hS:ag dX=_:=(by (conv=>lhs; whnf))
 rw [hS] at d
 have hB:aq dX=_:=(by (conv=>lhs; whnf))
 rw [hB]
 have n_0:Nm X 0 "self":=d.nm rfl (by w_fin)
 have n_1:Nm X 1 "inner":=d.nm rfl (by w_fin)
 have g_Sketch:Gl X "Sketch":=d.gl rfl
 have hu:=bw hr
 delta iT
 refine ai ?_ ?_
 refine j7 B_Sketch hr ?s1 ?_ ?_ ?_
 case s1=>decide
 exact g_Sketch
 exact n_0
 refine ae ?_ ?_
 refine aZ ?_ ?_
 refine ah ?_
 refine aL T.jG rfl ?_
 exact aa n_1
 exact ah aj
 refine ae ?_ ?_
 refine aZ ?_ ?_
 refine ah ?_
 refine aL T.nG rfl ?_
 exact aa n_1
 exact ah aj
 refine ae ?_ ?_
 refine aL T.qe rfl ?_
 exact aa n_1
 exact ak
 refine ao ?_
 refine dC T.D3 rfl ?_ ?_
 exact n_0
 exact aa n_1
theorem mW (z18:Def P w K mg base (ct C0 C1 C2 C3 C4 C5 C6 C7) "height_of" ["sketch"] 1 cb)(B_Sketch:m5 P w K mg base (ct C0 C1 C2 C3 C4 C5 C6 C7) "Sketch" 3 1 cR):BodyOk P w K mg base (ct C0 C1 C2 C3 C4 C5 C6 C7) ["self", "item", "raised", "lowered", "marks", "room", "up", "down"] cL 2 dq:=by
 refine ⟨fun X hP hw hK hmg hb d hr=>?_⟩
 subst hP hw hK hmg hb
 have hS:ag cL=_:=(by (conv=>lhs; whnf))
 rw [hS] at d
 have hB:aq cL=_:=(by (conv=>lhs; whnf))
 rw [hB]
 have n_0:Nm X 0 "self":=d.nm rfl (by w_fin)
 have n_1:Nm X 1 "item":=d.nm rfl (by w_fin)
 have n_2:Nm X 2 "raised":=d.nm rfl (by w_fin)
 have n_3:Nm X 3 "lowered":=d.nm rfl (by w_fin)
 have n_4:Nm X 4 "marks":=d.nm rfl (by w_fin)
 have n_5:Nm X 5 "room":=d.nm rfl (by w_fin)
 have n_6:Nm X 6 "up":=d.nm rfl (by w_fin)
 have n_7:Nm X 7 "down":=d.nm rfl (by w_fin)
 have l_4:Nl X 4 "marks":=d.nl rfl (by w_fin)
 have l_5:Nl X 5 "room":=d.nl rfl (by w_fin)
 have l_6:Nl X 6 "up":=d.nl rfl (by w_fin)
 have l_7:Nl X 7 "down":=d.nl rfl (by w_fin)
 have g_Sketch:Gl X "Sketch":=d.gl rfl
 have g_height_of:Gl X "height_of":=d.gl rfl
 have g_max:Gl X "max":=d.gl rfl
 have hu:=bw hr
 delta dq dI bU dH
 refine ai ?_ ?_
 refine lU d.toDefX ?_ ?_ ?s1
 case s1=>decide +kernel
 exact l_4
 refine lV (N':=["mark"]) (nt:=1) (cap:=[]) d.toDefX ?s1 ?s2 ?s3 ?_ ?_ (br (by decide)) (aO 0) ?_ ?_
 case s1=>exact ⟨by rfl,by w_left,by w_left,by w_left,by rfl,by w_left⟩
 case s2=>decide
 case s3=>decide +kernel
 refine ah ?_
 refine bI ?_
 refine ae ?_ ?_
 exact aa n_2
 refine ae ?_ ?_
 exact aa n_3
 exact ak
 intro cl C s2 H2 fp d1
 exact bh (d1.nlc (i:=0) rfl rfl)
 intro cl C s2 H2 fp d1
 refine rS ?_
 refine iA ?_
 refine ah ?_
 exact aa (d1.nm (i:=0) rfl (by w_fin))
 intro cl C s2 H2 fp d1
 exact aa (d1.nm (i:=0) rfl (by w_fin))
 refine ai ?_ ?_
 refine aK ?_ ?_
 exact l_5
 refine tS ?_ ?_ d.calm ?_ ?_
 exact g_max
 exact T.mh
 refine ah ?_
 refine bX ?_
 refine d5 (N':=["mark"]) (nt:=1) (cap:=[]) d.toDefX ?s1 ?s2 ?s3 ?_ ?_ (br (by decide)) (aO 0) ?_ ?_
 case s1=>exact ⟨by rfl,by w_left,by w_left,by w_left,by rfl,by w_left⟩
 case s2=>decide
 case s3=>decide +kernel
 refine ah ?_
 exact aa n_4
 intro cl C s2 H2 fp d1
 exact bh (d1.nlc (i:=0) rfl rfl)
 intro cl C s2 H2 fp d1
 exact cD
 intro cl C s2 H2 fp d1
 refine aL T.jG rfl ?_
 exact aa (d1.nm (i:=0) rfl (by w_fin))
 exact aj
 refine ai ?_ ?_
 refine aK ?_ ?_
 exact l_6
 refine aZ ?_ ?_
 refine ah ?_
 refine aL T.nG rfl ?_
 exact aa n_1
 refine ah ?_
 refine lS ?_ ?_ ?_
 refine rR ?_
 refine ah ?_
 exact aa n_2
 exact aj
 refine ba z18 hr ?s1 ?_ ?_
 case s1=>decide
 exact g_height_of
 refine ae ?_ ?_
 exact aa n_2
 exact ak
 refine ai ?_ ?_
 refine aK ?_ ?_
 exact l_7
 refine aZ ?_ ?_
 refine ah ?_
 refine aL T.qe rfl ?_
 exact aa n_1
 refine ah ?_
 refine lS ?_ ?_ ?_
 refine rR ?_
 refine ah ?_
 exact aa n_3
 exact aj
 refine ba z18 hr ?s1 ?_ ?_
 case s1=>decide
 exact g_height_of
 refine ae ?_ ?_
 exact aa n_3
 exact ak
 refine ai ?_ ?_
 refine j7 B_Sketch hr ?s1 ?_ ?_ ?_
 case s1=>decide
 exact g_Sketch
 exact n_0
 refine ae ?_ ?_
 refine aZ ?_ ?_
 refine ah ?_
 refine aL T.jG rfl ?_
 exact aa n_1
 refine ah ?_
 exact aa n_5
 refine ae ?_ ?_
 exact aa n_6
 refine ae ?_ ?_
 exact aa n_7
 exact ak
 refine ai ?_ ?_
 refine dC T.yr rfl ?_ ?_
 exact n_0
 exact aa n_1
 refine ai ?_ ?_
 refine dC T.wX rfl ?_ ?_
 exact n_0
 exact aa n_2
 refine ao ?_
 refine dC T.wY rfl ?_ ?_
 exact n_0
 exact aa n_3
theorem pJ (B_Sketch:m5 P w K mg base (ct C0 C1 C2 C3 C4 C5 C6 C7) "Sketch" 3 1 cR):BodyOk P w K mg base (ct C0 C1 C2 C3 C4 C5 C6 C7) ["self", "inner"] dY 2 iU:=by
 refine ⟨fun X hP hw hK hmg hb d hr=>?_⟩
 subst hP hw hK hmg hb
 have hS:ag dY=_:=(by (conv=>lhs; whnf))
 rw [hS] at d
 have hB:aq dY=_:=(by (conv=>lhs; whnf))
 rw [hB]
 have n_0:Nm X 0 "self":=d.nm rfl (by w_fin)
 have n_1:Nm X 1 "inner":=d.nm rfl (by w_fin)
 have g_Sketch:Gl X "Sketch":=d.gl rfl
 have hu:=bw hr
 delta iU
 refine ai ?_ ?_
 refine j7 B_Sketch hr ?s1 ?_ ?_ ?_
 case s1=>decide
 exact g_Sketch
 exact n_0
 refine ae ?_ ?_
 refine aZ ?_ ?_
 refine ah ?_
 refine aL T.jG rfl ?_
 exact aa n_1
 exact ah aj
 refine ae ?_ ?_
 refine aL T.nG rfl ?_
 exact aa n_1
 refine ae ?_ ?_
 refine aL T.qe rfl ?_
 exact aa n_1
 exact ak
 refine ao ?_
 refine dC T.D3 rfl ?_ ?_
 exact n_0
 exact aa n_1
theorem ql:BodyOk P w K mg base (ct C0 C1 C2 C3 C4 C5 C6 C7) ["f", "sign"] eT 0 gy:=by
 refine ⟨fun X hP hw hK hmg hb d hr=>?_⟩
 subst hP hw hK hmg hb
 have hS:ag eT=_:=(by (conv=>lhs; whnf))
 rw [hS] at d
 have hB:aq eT=_:=(by (conv=>lhs; whnf))
 rw [hB]
 have n_0:Nm X 0 "f":=d.nm rfl (by w_fin)
 have n_1:Nm X 1 "sign":=d.nm rfl (by w_fin)
 have l_1:Nl X 1 "sign":=d.nl rfl (by w_fin)
 have g_len:Gl X "len":=d.gl rfl
 have hu:=bw hr
 delta gy
 refine ai ?_ ?_
 refine b0 ?_ ?_ ?_
 refine bJ hr ?_ ?_
 refine ah ?_
 refine aX ?_ ?_
 refine ah ?_
 exact aa n_0
 exact aj
 refine ah ?_
 exact bp (by w_left)
 refine ao ?_
 refine aD ?_
 refine aX ?_ ?_
 refine ah ?_
 exact aa n_0
 exact aj
 exact aJ
 refine ai ?_ ?_
 refine aK ?_ ?_
 exact l_1
 refine lS ?_ ?_ ?_
 refine bJ hr ?_ ?_
 refine ah ?_
 refine aX ?_ ?_
 refine ah ?_
 exact aa n_0
 exact aj
 refine ah ?_
 exact bp (by w_left)
 exact bp (by w_left)
 exact bp (by w_left)
 refine ao ?_
 refine aD ?_
 refine iZ ?_ ?_
 refine ah ?_
 exact aa n_1
 refine eH ?_ ?_
 refine eF ?_ ?_ ?_
 exact g_len
 exact T.gp
 refine ah ?_
 refine aX ?_ ?_
 refine ah ?_
 exact aa n_0
 exact aj
 exact aj
theorem qm:BodyOk P w K mg base (ct C0 C1 C2 C3 C4 C5 C6 C7) ["bands", "cells", "band"] eU 0 lC:=by
 refine ⟨fun X hP hw hK hmg hb d hr=>?_⟩
 subst hP hw hK hmg hb
 have hS:ag eU=_:=(by (conv=>lhs; whnf))
 rw [hS] at d
 have hB:aq eU=_:=(by (conv=>lhs; whnf))
 rw [hB]
 have n_0:Nm X 0 "bands":=d.nm rfl (by w_fin)
 have n_1:Nm X 1 "cells":=d.nm rfl (by w_fin)
 have n_2:Nm X 2 "band":=d.nm rfl (by w_fin)
 have l_1:Nl X 1 "cells":=d.nl rfl (by w_fin)
 have l_2:Nl X 2 "band":=d.nl rfl (by w_fin)
 have hu:=bw hr
 delta lC kT
 refine ai ?_ ?_
 refine iL ?_ ?_
 exact l_1
 exact cY ak
 refine ai ?_ ?_
 refine kq d.never d.calm (aO 2) ?_ ?_ ?_
 exact bh l_2
 exact aa n_0
 refine ao ?_
 refine vw ?_ ?_
 exact n_1
 exact aa n_2
 refine ao ?_
 exact iz n_1
theorem qo (z15:i0 P w K mg base (ct C0 C1 C2 C3 C4 C5 C6 C7) "cells_of" ["bands"] 1 lE):BodyOk P w K mg base (ct C0 C1 C2 C3 C4 C5 C6 C7) ["f", "kind"] eV 1 jw:=by
 refine ⟨fun X hP hw hK hmg hb d hr=>?_⟩
 subst hP hw hK hmg hb
 have hS:ag eV=_:=(by (conv=>lhs; whnf))
 rw [hS] at d
 have hB:aq eV=_:=(by (conv=>lhs; whnf))
 rw [hB]
 have n_0:Nm X 0 "f":=d.nm rfl (by w_fin)
 have n_1:Nm X 1 "kind":=d.nm rfl (by w_fin)
 have l_1:Nl X 1 "kind":=d.nl rfl (by w_fin)
 have g_ROW_KINDS:Gl X "ROW_KINDS":=d.gl rfl
 have g_cells_of:Gl X "cells_of":=d.gl rfl
 have g_list:Gl X "list":=d.gl rfl
 have hu:=bw hr
 delta jw kW kU
 refine ai ?_ ?_
 refine aK ?_ ?_
 exact l_1
 refine aX ?_ ?_
 refine ah ?_
 exact aa n_0
 exact aj
 refine ai ?_ ?_
 refine b0 ?_ ?_ ?_
 refine PDW.pt ?_
 refine Fh ?_ ?_
 refine bJ hr ?_ ?_
 refine ah ?_
 exact aa n_1
 refine ah ?_
 exact bp (by w_left)
 refine BF ?_
 refine bJ hr ?_ ?_
 refine ah ?_
 exact aa n_1
 refine ah ?_
 exact bp (by w_left)
 refine ao ?_
 refine d4 ?_
 exact cY ak
 exact aJ
 refine ai ?_ ?_
 refine b0 ?_ ?_ ?_
 refine zG ?_ ?_
 exact aa n_1
 refine ah ?_
 refine wb ⟨T.bE⟩ ?_
 exact g_ROW_KINDS
 refine ao ?_
 refine d4 ?_
 refine nR ?_ ?_ ?_
 exact g_list
 exact T.sE
 refine ah ?_
 refine aX ?_ ?_
 refine ah ?_
 exact aa n_0
 exact aj
 exact aJ
 refine ai ?_ ?_
 refine b0 ?_ ?_ ?_
 refine bJ hr ?_ ?_
 refine ah ?_
 exact aa n_1
 refine ah ?_
 exact bp (by w_left)
 refine ao ?_
 refine d4 ?_
 refine vf ?_ ?_
 refine ah ?_
 refine bX ?_
 refine cY ?_
 refine ae ?_ ?_
 refine aX ?_ ?_
 refine ah ?_
 exact aa n_0
 exact aj
 exact ak
 refine ah ?_
 refine bX ?_
 refine d5 (N':=["mark"]) (nt:=1) (cap:=[]) d.toDefX ?s1 ?s2 ?s3 ?_ ?_ (br (by decide)) (aO 0) ?_ ?_
 case s1=>exact ⟨by rfl,by w_left,by w_left,by w_left,by rfl,by w_left⟩
 case s2=>decide
 case s3=>decide +kernel
 refine ah ?_
 refine lT ?_ ?_ ?_
 refine ah ?_
 exact aa n_0
 exact eI aj
 exact iy
 intro cl C s2 H2 fp d1
 exact bh (d1.nlc (i:=0) rfl rfl)
 intro cl C s2 H2 fp d1
 refine rS ?_
 refine iA ?_
 refine ah ?_
 exact aa (d1.nm (i:=0) rfl (by w_fin))
 intro cl C s2 H2 fp d1
 exact aa (d1.nm (i:=0) rfl (by w_fin))
 exact aJ
 refine ai ?_ ?_
 refine b0 ?_ ?_ ?_
 refine bJ hr ?_ ?_
 refine ah ?_
 exact aa n_1
 refine ah ?_
 exact bp (by w_left)
 refine ao ?_
 refine d4 ?_
 refine gT z15 hr ?s1 ?_ ?_
 case s1=>decide
 exact g_cells_of
 refine ae ?_ ?_
 refine aX ?_ ?_
 refine ah ?_
 exact aa n_0
 exact aj
 exact ak
 exact aJ
 refine ao ?_
 refine d4 ?_
 refine nR ?_ ?_ ?_
 exact g_list
 exact T.sE
 refine ah ?_
 refine lT ?_ ?_ ?_
 refine ah ?_
 exact aa n_0
 exact eI aj
 exact iy
theorem pK (z39:Def P w K mg base (ct C0 C1 C2 C3 C4 C5 C6 C7) "signs_of" ["f"] 1 dt)(z35:i0 P w K mg base (ct C0 C1 C2 C3 C4 C5 C6 C7) "parts_of" ["f"] 2 iF)(M_Word:hJ P w K mg base (ct C0 C1 C2 C3 C4 C5 C6 C7) "Word" 1 3 1 mN)(M_Chain:hJ P w K mg base (ct C0 C1 C2 C3 C4 C5 C6 C7) "Chain" 2 3 2 m9)(M_Over:hJ P w K mg base (ct C0 C1 C2 C3 C4 C5 C6 C7) "Over" 2 3 3 oX)(M_Root:hJ P w K mg base (ct C0 C1 C2 C3 C4 C5 C6 C7) "Root" 1 3 4 oY)(M_Marked:hJ P w K mg base (ct C0 C1 C2 C3 C4 C5 C6 C7) "Marked" 3 3 5 gP)(M_Held:hJ P w K mg base (ct C0 C1 C2 C3 C4 C5 C6 C7) "Held" 1 3 6 oZ)(M_Grid:hJ P w K mg base (ct C0 C1 C2 C3 C4 C5 C6 C7) "Grid" 1 4 7 mM){kr:Nat}(hk:5≤kr){R:uc}(GR:x3 P w K mg base C0 C1 C2 C3 C4 C5 C6 C7 z59 z47 z61 z45 z55 z57 z51 z49 z60 z46 z56 z58 z53 z52 z54 z50 z48 kr R):BodyOk P w K mg base (ct C0 C1 C2 C3 C4 C5 C6 C7) ["f", "kind"] dZ kr (aV R):=by
 refine ⟨fun X hP hw hK hmg hb d hr=>?_⟩
 subst hP hw hK hmg hb
 have hS:ag dZ=_:=(by (conv=>lhs; whnf))
 rw [hS] at d
 have hB:aq dZ=_:=(by (conv=>lhs; whnf))
 rw [hB]
 have n_0:Nm X 0 "f":=d.nm rfl (by w_fin)
 have n_1:Nm X 1 "kind":=d.nm rfl (by w_fin)
 have l_1:Nl X 1 "kind":=d.nl rfl (by w_fin)
 have g_Chain:Gl X "Chain":=d.gl rfl
 have g_Grid:Gl X "Grid":=d.gl rfl
 have g_Held:Gl X "Held":=d.gl rfl
 have g_Marked:Gl X "Marked":=d.gl rfl
 have g_Over:Gl X "Over":=d.gl rfl
 have g_ROW_KINDS:Gl X "ROW_KINDS":=d.gl rfl
 have g_Root:Gl X "Root":=d.gl rfl
 have g_Word:Gl X "Word":=d.gl rfl
 have g_mark_sketch:Gl X "mark_sketch":=d.gl rfl
 have g_parts_of:Gl X "parts_of":=d.gl rfl
 have g_signs_of:Gl X "signs_of":=d.gl rfl
 have g_sketch_of:Gl X "sketch_of":=d.gl rfl
 have g_sketches_of:Gl X "sketches_of":=d.gl rfl
 have g_str:Gl X "str":=d.gl rfl
 have hu:=bw hr
 delta aV
 refine ai ?_ ?_
 refine aK ?_ ?_
 exact l_1
 refine aX ?_ ?_
 refine ah ?_
 exact aa n_0
 exact aj
 refine ai ?_ ?_
 refine b0 ?_ ?_ ?_
 refine bJ hr ?_ ?_
 refine ah ?_
 exact aa n_1
 refine ah ?_
 exact bp (by w_left)
 refine ao ?_
 refine aD ?_
 refine iM M_Word hr ?s1 ?_ ?_
 case s1=>first | decide | omega
 exact g_Word
 refine ae ?_ ?_
 refine aX ?_ ?_
 refine ah ?_
 exact aa n_0
 exact aj
 exact ak
 exact aJ
 refine ai ?_ ?_
 refine b0 ?_ ?_ ?_
 refine bJ hr ?_ ?_
 refine ah ?_
 exact aa n_1
 refine ah ?_
 exact bp (by w_left)
 refine ao ?_
 refine aD ?_
 refine iM M_Word hr ?s1 ?_ ?_
 case s1=>first | decide | omega
 exact g_Word
 refine ae ?_ ?_
 refine Ck ?_ ?_ ?_
 exact g_str
 exact T.IB
 refine ah ?_
 refine aX ?_ ?_
 refine ah ?_
 exact aa n_0
 exact aj
 exact ak
 exact aJ
 refine ai ?_ ?_
 refine b0 ?_ ?_ ?_
 refine zG ?_ ?_
 exact aa n_1
 refine ah ?_
 refine wb ⟨T.bE⟩ ?_
 exact g_ROW_KINDS
 refine ao ?_
 refine aD ?_
 refine iM M_Chain hr ?s1 ?_ ?_
 case s1=>first | decide | omega
 exact g_Chain
 refine ae ?_ ?_
 refine bX ?_
 refine gT GR.cg hr ?s1 ?_ ?_
 case s1=>first | decide | omega
 exact g_sketches_of
 refine ae ?_ ?_
 refine bX ?_
 refine gT z35 hr ?s1 ?_ ?_
 case s1=>first | decide | omega
 exact g_parts_of
 refine ae ?_ ?_
 exact aa n_0
 exact ak
 exact ak
 refine ae ?_ ?_
 refine ba z39 hr ?s1 ?_ ?_
 case s1=>first | decide | omega
 exact g_signs_of
 refine ae ?_ ?_
 exact aa n_0
 exact ak
 exact ak
 exact aJ
 refine ai ?_ ?_
 refine b0 ?_ ?_ ?_
 refine bJ hr ?_ ?_
 refine ah ?_
 exact aa n_1
 refine ah ?_
 exact bp (by w_left)
 refine ao ?_
 refine aD ?_
 refine iM M_Over hr ?s1 ?_ ?_
 case s1=>first | decide | omega
 exact g_Over
 refine ae ?_ ?_
 refine ba GR.bf hr ?s1 ?_ ?_
 case s1=>first | decide | omega
 exact g_sketch_of
 refine ae ?_ ?_
 refine aX ?_ ?_
 refine ah ?_
 exact aa n_0
 exact aj
 exact ak
 refine ae ?_ ?_
 refine ba GR.bf hr ?s1 ?_ ?_
 case s1=>first | decide | omega
 exact g_sketch_of
 refine ae ?_ ?_
 refine aX ?_ ?_
 refine ah ?_
 exact aa n_0
 exact aj
 exact ak
 exact ak
 exact aJ
 refine ai ?_ ?_
 refine b0 ?_ ?_ ?_
 refine bJ hr ?_ ?_
 refine ah ?_
 exact aa n_1
 refine ah ?_
 exact bp (by w_left)
 refine ao ?_
 refine aD ?_
 refine iM M_Root hr ?s1 ?_ ?_
 case s1=>first | decide | omega
 exact g_Root
 refine ae ?_ ?_
 refine ba GR.bf hr ?s1 ?_ ?_
 case s1=>first | decide | omega
 exact g_sketch_of
 refine ae ?_ ?_
 refine aX ?_ ?_
 refine ah ?_
 exact aa n_0
 exact aj
 exact ak
 exact ak
 exact aJ
 refine ai ?_ ?_
 refine b0 ?_ ?_ ?_
 refine bJ hr ?_ ?_
 refine ah ?_
 exact aa n_1
 refine ah ?_
 exact bp (by w_left)
 refine ao ?_
 refine aD ?_
 refine iM M_Marked hr ?s1 ?_ ?_
 case s1=>first | decide | omega
 exact g_Marked
 refine ae ?_ ?_
 refine ba GR.bf hr ?s1 ?_ ?_
 case s1=>first | decide | omega
 exact g_sketch_of
 refine ae ?_ ?_
 refine aX ?_ ?_
 refine ah ?_
 exact aa n_0
 exact aj
 exact ak
 refine ae ?_ ?_
 refine ba GR.bL hr ?s1 ?_ ?_
 case s1=>first | decide | omega
 exact g_mark_sketch
 refine ae ?_ ?_
 refine aX ?_ ?_
 refine ah ?_
 exact aa n_0
 exact aj
 exact ak
 refine ae ?_ ?_
 refine ba GR.bL hr ?s1 ?_ ?_
 case s1=>first | decide | omega
 exact g_mark_sketch
 refine ae ?_ ?_
 refine aX ?_ ?_
 refine ah ?_
 exact aa n_0
 exact aj
 exact ak
 exact ak
 exact aJ
 refine ai ?_ ?_
 refine b0 ?_ ?_ ?_
 refine bJ hr ?_ ?_
 refine ah ?_
 exact aa n_1
 refine ah ?_
 exact bp (by w_left)
 refine ao ?_
 refine aD ?_
 refine iM M_Held hr ?s1 ?_ ?_
 case s1=>first | decide | omega
 exact g_Held
 refine ae ?_ ?_
 refine ba GR.bf hr ?s1 ?_ ?_
 case s1=>first | decide | omega
 exact g_sketch_of
 refine ae ?_ ?_
 refine aX ?_ ?_
 refine ah ?_
 exact aa n_0
 exact aj
 exact ak
 exact ak
 exact aJ
 refine ao ?_
 refine aD ?_
 refine iM M_Grid hr ?s1 ?_ ?_
 case s1=>first | decide | omega
 exact g_Grid
 refine ae ?_ ?_
 refine bX ?_
 refine d5 (N':=["band"]) (nt:=1) (cap:=[]) d.toDefX ?s1 ?s2 ?s3 ?_ ?_ (br (by decide)) (aO 0) ?_ ?_
 case s1=>exact ⟨by rfl,by w_left,by w_left,by w_left,by rfl,by w_left⟩
 case s2=>first | decide | omega
 case s3=>decide +kernel
 refine ah ?_
 refine aX ?_ ?_
 refine ah ?_
 exact aa n_0
 exact aj
 intro cl C s2 H2 fp d1
 exact bh (d1.nlc (i:=0) rfl rfl)
 intro cl C s2 H2 fp d1
 exact cD
 intro cl C s2 H2 fp d1
 refine bX ?_
 refine gT (X:=aQ _ _ _ _ _ _ _ _) GR.cg hr ?s1 (d1.gl rfl) ?_
 case s1=>first | decide | omega
 refine ae ?_ ?_
 exact aa (d1.nm (i:=0) rfl (by w_fin))
 exact ak
 exact ak
theorem mX {kr:Nat}(hk:5≤kr){R:uc}(GR:x3 P w K mg base C0 C1 C2 C3 C4 C5 C6 C7 z59 z47 z61 z45 z55 z57 z51 z49 z60 z46 z56 z58 z53 z52 z54 z50 z48 kr R):BodyOk P w K mg base (ct C0 C1 C2 C3 C4 C5 C6 C7) ["some"] cM kr (du R):=by
 refine ⟨fun X hP hw hK hmg hb d hr=>?_⟩
 subst hP hw hK hmg hb
 have hS:ag cM=_:=(by (conv=>lhs; whnf))
 rw [hS] at d
 have hB:aq cM=_:=(by (conv=>lhs; whnf))
 rw [hB]
 have n_0:Nm X 0 "some":=d.nm rfl (by w_fin)
 have hu:=bw hr
 delta du
 refine ao ?_
 refine d4 ?_
 refine d5 (N':=["f"]) (nt:=1) (cap:=[]) d.toDefX ?s1 ?s2 ?s3 ?_ ?_ (br (by decide)) (aO 0) ?_ ?_
 case s1=>exact ⟨by rfl,by w_left,by w_left,by w_left,by rfl,by w_left⟩
 case s2=>first | decide | omega
 case s3=>decide +kernel
 refine ah ?_
 exact aa n_0
 intro cl C s2 H2 fp d1
 exact bh (d1.nlc (i:=0) rfl rfl)
 intro cl C s2 H2 fp d1
 exact cD
 intro cl C s2 H2 fp d1
 refine ba (X:=aQ _ _ _ _ _ _ _ _) GR.bf hr ?s1 (d1.gl rfl) ?_
 case s1=>first | decide | omega
 refine ae ?_ ?_
 exact aa (d1.nm (i:=0) rfl (by w_fin))
 exact ak
theorem mY {kr:Nat}(hk:5≤kr){R:uc}(GR:x3 P w K mg base C0 C1 C2 C3 C4 C5 C6 C7 z59 z47 z61 z45 z55 z57 z51 z49 z60 z46 z56 z58 z53 z52 z54 z50 z48 kr R):BodyOk P w K mg base (ct C0 C1 C2 C3 C4 C5 C6 C7) ["mark"] cN kr (dw R):=by
 refine ⟨fun X hP hw hK hmg hb d hr=>?_⟩
 subst hP hw hK hmg hb
 have hS:ag cN=_:=(by (conv=>lhs; whnf))
 rw [hS] at d
 have hB:aq cN=_:=(by (conv=>lhs; whnf))
 rw [hB]
 have n_0:Nm X 0 "mark":=d.nm rfl (by w_fin)
 have g_sketch_of:Gl X "sketch_of":=d.gl rfl
 have hu:=bw hr
 delta dw
 refine ao ?_
 refine aD ?_
 refine lS ?_ ?_ ?_
 refine rR ?_
 refine ah ?_
 exact aa n_0
 exact oy
 refine ba GR.bf hr ?s1 ?_ ?_
 case s1=>first | decide | omega
 exact g_sketch_of
 refine ae ?_ ?_
 exact aa n_0
 exact ak
theorem mi:BodyOk P w K mg base (ct C0 C1 C2 C3 C4 C5 C6 C7) ["self"] cm 0 gk:=by
 refine ⟨fun X hP hw hK hmg hb d hr=>?_⟩
 subst hP hw hK hmg hb
 have hS:ag cm=_:=(by (conv=>lhs; whnf))
 rw [hS] at d
 have hB:aq cm=_:=(by (conv=>lhs; whnf))
 rw [hB]
 have hu:=bw hr
 delta gk
 refine ao ?_
 refine d4 ?_
 exact cY ak
theorem mZ:BodyOk P w K mg base (ct C0 C1 C2 C3 C4 C5 C6 C7) ["self", "spots", "right", "part"] cO 0 gH:=by
 refine ⟨fun X hP hw hK hmg hb d hr=>?_⟩
 subst hP hw hK hmg hb
 have hS:ag cO=_:=(by (conv=>lhs; whnf))
 rw [hS] at d
 have hB:aq cO=_:=(by (conv=>lhs; whnf))
 rw [hB]
 have n_0:Nm X 0 "self":=d.nm rfl (by w_fin)
 have n_1:Nm X 1 "spots":=d.nm rfl (by w_fin)
 have n_2:Nm X 2 "right":=d.nm rfl (by w_fin)
 have n_3:Nm X 3 "part":=d.nm rfl (by w_fin)
 have l_1:Nl X 1 "spots":=d.nl rfl (by w_fin)
 have l_2:Nl X 2 "right":=d.nl rfl (by w_fin)
 have l_3:Nl X 3 "part":=d.nl rfl (by w_fin)
 have hu:=bw hr
 delta gH fj
 refine ai ?_ ?_
 refine iL ?_ ?_
 exact l_1
 exact cY ak
 refine ai ?_ ?_
 refine aK ?_ ?_
 exact l_2
 exact aj
 refine ai ?_ ?_
 refine kq d.never d.calm (aO 3) ?_ ?_ ?_
 exact bh l_3
 refine aL T.IC rfl ?_
 exact aa n_0
 refine ai ?_ ?_
 refine fS ?_ ?_
 exact n_1
 refine bI ?_
 refine ae ?_ ?_
 exact aa n_3
 refine ae ?_ ?_
 exact aj
 refine ae ?_ ?_
 exact aa n_2
 exact ak
 refine ao ?_
 refine jT ?_ ?_
 exact l_2
 refine aZ ?_ ?_
 refine ah ?_
 refine aL T.jG rfl ?_
 exact aa n_3
 exact ah aj
 refine ao ?_
 exact iz n_1
theorem sH:BodyOk P w K mg base (ct C0 C1 C2 C3 C4 C5 C6 C7) ["narrow", "wide"] fZ 0 kz:=by
 refine ⟨fun X hP hw hK hmg hb d hr=>?_⟩
 subst hP hw hK hmg hb
 have hS:ag fZ=_:=(by (conv=>lhs; whnf))
 rw [hS] at d
 have hB:aq fZ=_:=(by (conv=>lhs; whnf))
 rw [hB]
 have n_0:Nm X 0 "narrow":=d.nm rfl (by w_fin)
 have n_1:Nm X 1 "wide":=d.nm rfl (by w_fin)
 have hu:=bw hr
 delta kz
 refine ao ?_
 refine aD ?_
 refine ef ?_ ?_
 refine eH ?_ ?_
 exact aa n_1
 exact aa n_0
 exact aj
theorem nI (z32:Def P w K mg base (ct C0 C1 C2 C3 C4 C5 C6 C7) "left_of" ["narrow", "wide"] 1 iq):BodyOk P w K mg base (ct C0 C1 C2 C3 C4 C5 C6 C7) ["self", "above", "beneath"] df 1 i8:=by
 refine ⟨fun X hP hw hK hmg hb d hr=>?_⟩
 subst hP hw hK hmg hb
 have hS:ag df=_:=(by (conv=>lhs; whnf))
 rw [hS] at d
 have hB:aq df=_:=(by (conv=>lhs; whnf))
 rw [hB]
 have n_0:Nm X 0 "self":=d.nm rfl (by w_fin)
 have n_1:Nm X 1 "above":=d.nm rfl (by w_fin)
 have n_2:Nm X 2 "beneath":=d.nm rfl (by w_fin)
 have l_1:Nl X 1 "above":=d.nl rfl (by w_fin)
 have l_2:Nl X 2 "beneath":=d.nl rfl (by w_fin)
 have g_left_of:Gl X "left_of":=d.gl rfl
 have hu:=bw hr
 delta i8
 refine ai ?_ ?_
 refine aK ?_ ?_
 exact l_1
 refine bI ?_
 refine ae ?_ ?_
 refine aL T.D1 rfl ?_
 exact aa n_0
 refine ae ?_ ?_
 refine eH ?_ ?_
 exact rM aj
 refine aL T.qe rfl ?_
 refine aL T.D1 rfl ?_
 exact aa n_0
 refine ae ?_ ?_
 refine ba z32 hr ?s1 ?_ ?_
 case s1=>decide
 exact g_left_of
 refine ae ?_ ?_
 refine aL T.jG rfl ?_
 refine aL T.D1 rfl ?_
 exact aa n_0
 refine ae ?_ ?_
 refine aL T.jG rfl ?_
 exact aa n_0
 exact ak
 exact ak
 refine ai ?_ ?_
 refine aK ?_ ?_
 exact l_2
 refine bI ?_
 refine ae ?_ ?_
 refine aL T.D2 rfl ?_
 exact aa n_0
 refine ae ?_ ?_
 refine aZ ?_ ?_
 exact ah aj
 refine ah ?_
 refine aL T.nG rfl ?_
 refine aL T.D2 rfl ?_
 exact aa n_0
 refine ae ?_ ?_
 refine ba z32 hr ?s1 ?_ ?_
 case s1=>decide
 exact g_left_of
 refine ae ?_ ?_
 refine aL T.jG rfl ?_
 refine aL T.D2 rfl ?_
 exact aa n_0
 refine ae ?_ ?_
 refine aL T.jG rfl ?_
 exact aa n_0
 exact ak
 exact ak
 refine ao ?_
 refine d4 ?_
 refine cY ?_
 refine ae ?_ ?_
 exact aa n_1
 refine ae ?_ ?_
 exact aa n_2
 exact ak
theorem nJ:BodyOk P w K mg base (ct C0 C1 C2 C3 C4 C5 C6 C7) ["self"] dg 0 ia:=by
 refine ⟨fun X hP hw hK hmg hb d hr=>?_⟩
 subst hP hw hK hmg hb
 have hS:ag dg=_:=(by (conv=>lhs; whnf))
 rw [hS] at d
 have hB:aq dg=_:=(by (conv=>lhs; whnf))
 rw [hB]
 have n_0:Nm X 0 "self":=d.nm rfl (by w_fin)
 have hu:=bw hr
 delta ia
 refine ao ?_
 refine d4 ?_
 refine cY ?_
 refine ae ?_ ?_
 refine bI ?_
 refine ae ?_ ?_
 refine aL T.D3 rfl ?_
 exact aa n_0
 refine ae ?_ ?_
 exact aj
 refine ae ?_ ?_
 exact aj
 exact ak
 exact ak
theorem jy:BodyOk P w K mg base (ct C0 C1 C2 C3 C4 C5 C6 C7) ["self"] bo 0 dD:=by
 refine ⟨fun X hP hw hK hmg hb d hr=>?_⟩
 subst hP hw hK hmg hb
 have hS:ag bo=_:=(by (conv=>lhs; whnf))
 rw [hS] at d
 have hB:aq bo=_:=(by (conv=>lhs; whnf))
 rw [hB]
 have n_0:Nm X 0 "self":=d.nm rfl (by w_fin)
 have hu:=bw hr
 delta dD
 refine ao ?_
 refine aD ?_
 refine eH ?_ ?_
 refine eH ?_ ?_
 refine rM ?_
 refine aL T.nG rfl ?_
 refine aL T.yr rfl ?_
 exact aa n_0
 exact aj
 refine aL T.qe rfl ?_
 refine aL T.wX rfl ?_
 exact aa n_0
theorem jd:BodyOk P w K mg base (ct C0 C1 C2 C3 C4 C5 C6 C7) ["self"] bc 0 d7:=by
 refine ⟨fun X hP hw hK hmg hb d hr=>?_⟩
 subst hP hw hK hmg hb
 have hS:ag bc=_:=(by (conv=>lhs; whnf))
 rw [hS] at d
 have hB:aq bc=_:=(by (conv=>lhs; whnf))
 rw [hB]
 have n_0:Nm X 0 "self":=d.nm rfl (by w_fin)
 have hu:=bw hr
 delta d7
 refine ao ?_
 refine aD ?_
 refine aZ ?_ ?_
 refine ah ?_
 refine aZ ?_ ?_
 refine ah ?_
 refine aL T.qe rfl ?_
 refine aL T.yr rfl ?_
 exact aa n_0
 exact ah aj
 refine ah ?_
 refine aL T.nG rfl ?_
 refine aL T.wY rfl ?_
 exact aa n_0
theorem ml (z43:oQ P w K mg base (ct C0 C1 C2 C3 C4 C5 C6 C7) "raised_low" 0 1 eD)(z42:oQ P w K mg base (ct C0 C1 C2 C3 C4 C5 C6 C7) "lowered_low" 0 1 dJ):BodyOk P w K mg base (ct C0 C1 C2 C3 C4 C5 C6 C7) ["self", "spots"] cp 1 cS:=by
 refine ⟨fun X hP hw hK hmg hb d hr=>?_⟩
 subst hP hw hK hmg hb
 have hS:ag cp=_:=(by (conv=>lhs; whnf))
 rw [hS] at d
 have hB:aq cp=_:=(by (conv=>lhs; whnf))
 rw [hB]
 have n_0:Nm X 0 "self":=d.nm rfl (by w_fin)
 have n_1:Nm X 1 "spots":=d.nm rfl (by w_fin)
 have l_1:Nl X 1 "spots":=d.nl rfl (by w_fin)
 have hu:=bw hr
 delta cS
 refine ai ?_ ?_
 refine iL ?_ ?_
 exact l_1
 refine cY ?_
 refine ae ?_ ?_
 refine bI ?_
 refine ae ?_ ?_
 refine aL T.yr rfl ?_
 exact aa n_0
 refine ae ?_ ?_
 exact aj
 refine ae ?_ ?_
 exact aj
 exact ak
 exact ak
 refine ai ?_ ?_
 refine b0 ?_ ?_ ?_
 refine iA ?_
 refine ah ?_
 refine aL T.wX rfl ?_
 exact aa n_0
 refine ao ?_
 refine fS ?_ ?_
 exact n_1
 refine bI ?_
 refine ae ?_ ?_
 refine aL T.wX rfl ?_
 exact aa n_0
 refine ae ?_ ?_
 refine tW z43 hr ?s1 ?_
 case s1=>decide
 exact aa n_0
 refine ae ?_ ?_
 refine aL T.jG rfl ?_
 refine aL T.yr rfl ?_
 exact aa n_0
 exact ak
 exact aJ
 refine ai ?_ ?_
 refine b0 ?_ ?_ ?_
 refine iA ?_
 refine ah ?_
 refine aL T.wY rfl ?_
 exact aa n_0
 refine ao ?_
 refine fS ?_ ?_
 exact n_1
 refine bI ?_
 refine ae ?_ ?_
 refine aL T.wY rfl ?_
 exact aa n_0
 refine ae ?_ ?_
 refine tW z42 hr ?s1 ?_
 case s1=>decide
 exact aa n_0
 refine ae ?_ ?_
 refine aL T.jG rfl ?_
 refine aL T.yr rfl ?_
 exact aa n_0
 exact ak
 exact aJ
 refine ao ?_
 exact iz n_1
theorem nK:BodyOk P w K mg base (ct C0 C1 C2 C3 C4 C5 C6 C7) ["self"] dh 0 ic:=by
 refine ⟨fun X hP hw hK hmg hb d hr=>?_⟩
 subst hP hw hK hmg hb
 have hS:ag dh=_:=(by (conv=>lhs; whnf))
 rw [hS] at d
 have hB:aq dh=_:=(by (conv=>lhs; whnf))
 rw [hB]
 have n_0:Nm X 0 "self":=d.nm rfl (by w_fin)
 have hu:=bw hr
 delta ic
 refine ao ?_
 refine d4 ?_
 refine cY ?_
 refine ae ?_ ?_
 refine bI ?_
 refine ae ?_ ?_
 refine aL T.D3 rfl ?_
 exact aa n_0
 refine ae ?_ ?_
 exact aj
 refine ae ?_ ?_
 exact aj
 exact ak
 exact ak
theorem nL:BodyOk P w K mg base (ct C0 C1 C2 C3 C4 C5 C6 C7) ["self", "spots", "band", "low", "right", "sketch", "wide"] di 0 ig:=by
 refine ⟨fun X hP hw hK hmg hb d hr=>?_⟩
 subst hP hw hK hmg hb
 have hS:ag di=_:=(by (conv=>lhs; whnf))
 rw [hS] at d
 have hB:aq di=_:=(by (conv=>lhs; whnf))
 rw [hB]
 have n_0:Nm X 0 "self":=d.nm rfl (by w_fin)
 have n_1:Nm X 1 "spots":=d.nm rfl (by w_fin)
 have n_2:Nm X 2 "band":=d.nm rfl (by w_fin)
 have n_3:Nm X 3 "low":=d.nm rfl (by w_fin)
 have n_4:Nm X 4 "right":=d.nm rfl (by w_fin)
 have n_5:Nm X 5 "sketch":=d.nm rfl (by w_fin)
 have n_6:Nm X 6 "wide":=d.nm rfl (by w_fin)
 have l_1:Nl X 1 "spots":=d.nl rfl (by w_fin)
 have l_2:Nl X 2 "band":=d.nl rfl (by w_fin)
 have l_3:Nl X 3 "low":=d.nl rfl (by w_fin)
 have l_4:Nl X 4 "right":=d.nl rfl (by w_fin)
 have l_5:Nl X 5 "sketch":=d.nl rfl (by w_fin)
 have l_6:Nl X 6 "wide":=d.nl rfl (by w_fin)
 have g_zip:Gl X "zip":=d.gl rfl
 have hu:=bw hr
 delta ig fP fO
 refine ai ?_ ?_
 refine iL ?_ ?_
 exact l_1
 exact cY ak
 refine ai ?_ ?_
 refine tZ d.never d.calm (fA (aP 2 (aP 3 eA))) ?_ ?_ ?_ ?_ ?_
 refine iX d.calm ?_
 refine bq ?_ ?_
 exact bh l_2
 refine bq ?_ ?_
 exact bh l_3
 exact gz
 exact g_zip
 exact T.DR
 refine ae ?_ ?_
 refine aL T.uG rfl ?_
 exact aa n_0
 refine ae ?_ ?_
 refine aL T.DU rfl ?_
 exact aa n_0
 exact ak
 refine ai ?_ ?_
 refine aK ?_ ?_
 exact l_4
 exact aj
 refine ao ?_
 refine tZ d.never d.calm (fA (aP 5 (aP 6 eA))) ?_ ?_ ?_ ?_ ?_
 refine iX d.calm ?_
 refine bq ?_ ?_
 exact bh l_5
 refine bq ?_ ?_
 exact bh l_6
 exact gz
 exact g_zip
 exact T.DR
 refine ae ?_ ?_
 exact aa n_2
 refine ae ?_ ?_
 refine aL T.wZ rfl ?_
 exact aa n_0
 exact ak
 refine ai ?_ ?_
 refine fS ?_ ?_
 exact n_1
 refine bI ?_
 refine ae ?_ ?_
 exact aa n_5
 refine ae ?_ ?_
 exact aa n_3
 refine ae ?_ ?_
 refine eH ?_ ?_
 refine aZ ?_ ?_
 refine ah ?_
 exact aa n_4
 refine ah ?_
 exact aa n_6
 refine aL T.jG rfl ?_
 exact aa n_5
 exact ak
 refine ao ?_
 refine jT ?_ ?_
 exact l_4
 refine aZ ?_ ?_
 refine ah ?_
 exact aa n_6
 exact ah aj
 refine ao ?_
 exact iz n_1
theorem lG (z18:Def P w K mg base (ct C0 C1 C2 C3 C4 C5 C6 C7) "height_of" ["sketch"] 1 cb)(z44:rW P w K mg base (ct C0 C1 C2 C3 C4 C5 C6 C7) "spots" 0 2 dM){kr:Nat}(hk:2≤kr){bM:List D→Option (List D)}(z38:i0 P w K mg base (ct C0 C1 C2 C3 C4 C5 C6 C7) "places_within" ["sketch", "path", "base", "left"] kr bM):BodyOk P w K mg base (ct C0 C1 C2 C3 C4 C5 C6 C7) ["sketch", "path", "base", "left", "places", "n", "spot"] bP kr (er bM):=by
 refine ⟨fun X hP hw hK hmg hb d hr=>?_⟩
 subst hP hw hK hmg hb
 have hS:ag bP=_:=(by (conv=>lhs; whnf))
 rw [hS] at d
 have hB:aq bP=_:=(by (conv=>lhs; whnf))
 rw [hB]
 have n_0:Nm X 0 "sketch":=d.nm rfl (by w_fin)
 have n_1:Nm X 1 "path":=d.nm rfl (by w_fin)
 have n_2:Nm X 2 "base":=d.nm rfl (by w_fin)
 have n_3:Nm X 3 "left":=d.nm rfl (by w_fin)
 have n_4:Nm X 4 "places":=d.nm rfl (by w_fin)
 have n_5:Nm X 5 "n":=d.nm rfl (by w_fin)
 have n_6:Nm X 6 "spot":=d.nm rfl (by w_fin)
 have l_4:Nl X 4 "places":=d.nl rfl (by w_fin)
 have l_5:Nl X 5 "n":=d.nl rfl (by w_fin)
 have l_6:Nl X 6 "spot":=d.nl rfl (by w_fin)
 have g_enumerate:Gl X "enumerate":=d.gl rfl
 have g_height_of:Gl X "height_of":=d.gl rfl
 have g_places_within:Gl X "places_within":=d.gl rfl
 have hu:=bw hr
 delta er
 refine ai ?_ ?_
 refine iL ?_ ?_
 exact l_4
 refine cY ?_
 refine ae ?_ ?_
 refine bI ?_
 refine ae ?_ ?_
 exact aa n_1
 refine ae ?_ ?_
 refine eH ?_ ?_
 exact aa n_2
 refine aL T.nG rfl ?_
 exact aa n_0
 refine ae ?_ ?_
 exact aa n_3
 refine ae ?_ ?_
 refine ba z18 hr ?s1 ?_ ?_
 case s1=>first | decide | omega
 exact g_height_of
 refine ae ?_ ?_
 exact aa n_0
 exact ak
 refine ae ?_ ?_
 refine aL T.jG rfl ?_
 exact aa n_0
 refine ae ?_ ?_
 exact aa n_2
 exact ak
 exact ak
 refine ai ?_ ?_
 refine oG d.never d.calm (fA (aP 5 (aP 6 eA))) ?_ ?_ ?_ ?_ ?_
 refine iX d.calm ?_
 refine bq ?_ ?_
 exact bh l_5
 refine bq ?_ ?_
 exact bh l_6
 exact gz
 exact g_enumerate
 exact T.kj
 refine bX ?_
 refine A7 z44 hr ?s1 ?_
 case s1=>first | decide | omega
 exact aa n_0
 refine ao ?_
 refine ub ?_ ?_
 exact n_4
 refine gT z38 hr ?s1 ?_ ?_
 case s1=>first | decide | omega
 exact g_places_within
 refine ae ?_ ?_
 refine aX ?_ ?_
 refine ah ?_
 exact aa n_6
 exact aj
 refine ae ?_ ?_
 refine Cq ?_ ?_
 exact aa n_1
 refine bI ?_
 refine ae ?_ ?_
 exact aa n_5
 exact ak
 refine ae ?_ ?_
 refine aZ ?_ ?_
 refine ah ?_
 exact aa n_2
 refine ah ?_
 refine aX ?_ ?_
 refine ah ?_
 exact aa n_6
 exact aj
 refine ae ?_ ?_
 refine aZ ?_ ?_
 refine ah ?_
 exact aa n_3
 refine ah ?_
 refine aX ?_ ?_
 refine ah ?_
 exact aa n_6
 exact aj
 exact ak
 refine ao ?_
 exact iz n_4
theorem pL (z40:Def P w K mg base (ct C0 C1 C2 C3 C4 C5 C6 C7) "sketch_of" ["f"] 45 ka)(z38:i0 P w K mg base (ct C0 C1 C2 C3 C4 C5 C6 C7) "places_within" ["sketch", "path", "base", "left"] 18 bM):BodyOk P w K mg base (ct C0 C1 C2 C3 C4 C5 C6 C7) ["f", "sketch"] ed 45 iV:=by
 refine ⟨fun X hP hw hK hmg hb d hr=>?_⟩
 subst hP hw hK hmg hb
 have hS:ag ed=_:=(by (conv=>lhs; whnf))
 rw [hS] at d
 have hB:aq ed=_:=(by (conv=>lhs; whnf))
 rw [hB]
 have n_0:Nm X 0 "f":=d.nm rfl (by w_fin)
 have n_1:Nm X 1 "sketch":=d.nm rfl (by w_fin)
 have l_1:Nl X 1 "sketch":=d.nl rfl (by w_fin)
 have g_places_within:Gl X "places_within":=d.gl rfl
 have g_sketch_of:Gl X "sketch_of":=d.gl rfl
 have hu:=bw hr
 delta iV
 refine ai ?_ ?_
 refine aK ?_ ?_
 exact l_1
 refine ba z40 hr ?s1 ?_ ?_
 case s1=>decide
 exact g_sketch_of
 refine ae ?_ ?_
 exact aa n_0
 exact ak
 refine ao ?_
 refine d4 ?_
 refine gT z38 hr ?s1 ?_ ?_
 case s1=>decide
 exact g_places_within
 refine ae ?_ ?_
 exact aa n_1
 refine ae ?_ ?_
 exact bI ak
 refine ae ?_ ?_
 refine aL T.nG rfl ?_
 exact aa n_1
 refine ae ?_ ?_
 exact aj
 exact ak
theorem nM:BodyOk P w K mg base (ct C0 C1 C2 C3 C4 C5 C6 C7) ["cell", "size"] dj 0 fk:=by
 refine ⟨fun X hP hw hK hmg hb d hr=>?_⟩
 subst hP hw hK hmg hb
 have hS:ag dj=_:=(by (conv=>lhs; whnf))
 rw [hS] at d
 have hB:aq dj=_:=(by (conv=>lhs; whnf))
 rw [hB]
 have n_0:Nm X 0 "cell":=d.nm rfl (by w_fin)
 have n_1:Nm X 1 "size":=d.nm rfl (by w_fin)
 have hu:=bw hr
 delta fk
 refine ai ?_ ?_
 refine b0 ?_ ?_ ?_
 refine bJ hr ?_ ?_
 refine ah ?_
 refine dn ?_ ?_
 exact aa n_0
 exact aj
 exact ah aj
 refine ao ?_
 refine aD ?_
 refine eH ?_ ?_
 refine dn ?_ ?_
 refine ef ?_ ?_
 exact aa n_0
 exact aj
 exact aj
 exact aj
 exact aJ
 refine ai ?_ ?_
 refine b0 ?_ ?_ ?_
 refine bJ hr ?_ ?_
 refine ah ?_
 refine dn ?_ ?_
 exact aa n_0
 exact aj
 exact ah aj
 refine ao ?_
 refine aD ?_
 refine aX ?_ ?_
 refine ah ?_
 refine bX ?_
 refine cY ?_
 refine ae ?_ ?_
 exact rM aj
 refine ae ?_ ?_
 exact aa n_1
 refine ae ?_ ?_
 exact aj
 refine ae ?_ ?_
 refine eH ?_ ?_
 exact aa n_1
 exact aj
 exact ak
 refine dn ?_ ?_
 refine ef ?_ ?_
 exact aa n_0
 exact aj
 exact aj
 exact aJ
 refine ao ?_
 refine aD ?_
 refine dn ?_ ?_
 refine dn ?_ ?_
 refine iZ ?_ ?_
 refine ah ?_
 refine ef ?_ ?_
 exact aa n_0
 exact aj
 exact aj
 exact aj
 exact aa n_1
theorem sI (z37:i0 P w K mg base (ct C0 C1 C2 C3 C4 C5 C6 C7) "places_of" ["f"] 46 d9):BodyOk P w K mg base (ct C0 C1 C2 C3 C4 C5 C6 C7) ["f", "row", "column", "found", "path", "top", "left", "high", "wide", "base"] g8 46 kC:=by
 refine ⟨fun X hP hw hK hmg hb d hr=>?_⟩
 subst hP hw hK hmg hb
 have hS:ag g8=_:=(by (conv=>lhs; whnf))
 rw [hS] at d
 have hB:aq g8=_:=(by (conv=>lhs; whnf))
 rw [hB]
 have n_0:Nm X 0 "f":=d.nm rfl (by w_fin)
 have n_1:Nm X 1 "row":=d.nm rfl (by w_fin)
 have n_2:Nm X 2 "column":=d.nm rfl (by w_fin)
 have n_3:Nm X 3 "found":=d.nm rfl (by w_fin)
 have n_4:Nm X 4 "path":=d.nm rfl (by w_fin)
 have n_5:Nm X 5 "top":=d.nm rfl (by w_fin)
 have n_6:Nm X 6 "left":=d.nm rfl (by w_fin)
 have n_7:Nm X 7 "high":=d.nm rfl (by w_fin)
 have n_8:Nm X 8 "wide":=d.nm rfl (by w_fin)
 have l_3:Nl X 3 "found":=d.nl rfl (by w_fin)
 have l_4:Nl X 4 "path":=d.nl rfl (by w_fin)
 have l_5:Nl X 5 "top":=d.nl rfl (by w_fin)
 have l_6:Nl X 6 "left":=d.nl rfl (by w_fin)
 have l_7:Nl X 7 "high":=d.nl rfl (by w_fin)
 have l_8:Nl X 8 "wide":=d.nl rfl (by w_fin)
 have l_9:Nl X 9 "base":=d.nl rfl (by w_fin)
 have g_places_of:Gl X "places_of":=d.gl rfl
 have hu:=bw hr
 delta kC ik
 refine ai ?_ ?_
 refine aK ?_ ?_
 exact l_3
 exact oy
 refine ai ?_ ?_
 refine kq d.never d.calm (fA (aP 4 (aP 5 (aP 6 (aP 7 (aP 8 (aP 9 eA))))))) ?_ ?_ ?_
 refine iX d.calm ?_
 refine bq ?_ ?_
 exact bh l_4
 refine bq ?_ ?_
 exact bh l_5
 refine bq ?_ ?_
 exact bh l_6
 refine bq ?_ ?_
 exact bh l_7
 refine bq ?_ ?_
 exact bh l_8
 refine bq ?_ ?_
 exact bh l_9
 exact gz
 refine bX ?_
 refine gT z37 hr ?s1 ?_ ?_
 case s1=>decide
 exact g_places_of
 refine ae ?_ ?_
 exact aa n_0
 exact ak
 refine ao ?_
 refine b0 ?_ ?_ ?_
 refine PDW.pt ?_
 refine iK ?_ ?_
 refine ku .le .lt ?_ ?_ ?_
 exact aa n_5
 exact aa n_1
 refine aZ ?_ ?_
 refine ah ?_
 exact aa n_5
 refine ah ?_
 exact aa n_7
 refine j4 ?_
 refine ku .le .lt ?_ ?_ ?_
 exact aa n_6
 exact aa n_2
 refine aZ ?_ ?_
 refine ah ?_
 exact aa n_6
 refine ah ?_
 exact aa n_8
 refine ao ?_
 refine aK ?_ ?_
 exact l_3
 exact aa n_4
 exact aJ
 refine ao ?_
 refine aD ?_
 exact aa n_3
theorem n0:BodyOk P w K mg base (ct C0 C1 C2 C3 C4 C5 C6 C7) ["script", "k"] cP 0 fI:=by
 refine ⟨fun X hP hw hK hmg hb d hr=>?_⟩
 subst hP hw hK hmg hb
 have hS:ag cP=_:=(by (conv=>lhs; whnf))
 rw [hS] at d
 have hB:aq cP=_:=(by (conv=>lhs; whnf))
 rw [hB]
 have n_0:Nm X 0 "script":=d.nm rfl (by w_fin)
 have n_1:Nm X 1 "k":=d.nm rfl (by w_fin)
 have g_len:Gl X "len":=d.gl rfl
 have hu:=bw hr
 delta fI
 refine ai ?_ ?_
 refine b0 ?_ ?_ ?_
 refine mG ?_ ?_
 exact aa n_1
 refine eF ?_ ?_ ?_
 exact g_len
 exact T.gp
 refine ah ?_
 exact aa n_0
 refine ao ?_
 refine aD ?_
 refine aX ?_ ?_
 refine ah ?_
 exact aa n_0
 exact aa n_1
 exact aJ
 refine ao ?_
 exact aD aj
theorem sJ:BodyOk P w K mg base (ct C0 C1 C2 C3 C4 C5 C6 C7) ["place", "row", "column"] g9 0 kE:=by
 refine ⟨fun X hP hw hK hmg hb d hr=>?_⟩
 subst hP hw hK hmg hb
 have hS:ag g9=_:=(by (conv=>lhs; whnf))
 rw [hS] at d
 have hB:aq g9=_:=(by (conv=>lhs; whnf))
 rw [hB]
 have n_0:Nm X 0 "place":=d.nm rfl (by w_fin)
 have n_1:Nm X 1 "row":=d.nm rfl (by w_fin)
 have n_2:Nm X 2 "column":=d.nm rfl (by w_fin)
 have hu:=bw hr
 delta kE
 refine ao ?_
 refine aD ?_
 refine Fg ?_ ?_
 refine tH .le .lt ?_ ?_ ?_
 refine aX ?_ ?_
 refine ah ?_
 exact aa n_0
 exact aj
 exact aa n_1
 refine aZ ?_ ?_
 refine ah ?_
 refine aX ?_ ?_
 refine ah ?_
 exact aa n_0
 exact aj
 refine ah ?_
 refine aX ?_ ?_
 refine ah ?_
 exact aa n_0
 exact aj
 refine vh ?_
 refine tH .le .lt ?_ ?_ ?_
 refine aX ?_ ?_
 refine ah ?_
 exact aa n_0
 exact aj
 exact aa n_2
 refine aZ ?_ ?_
 refine ah ?_
 refine aX ?_ ?_
 refine ah ?_
 exact aa n_0
 exact aj
 refine ah ?_
 refine aX ?_ ?_
 refine ah ?_
 exact aa n_0
 exact aj
theorem lH (z24:Def P w K mg base (ct C0 C1 C2 C3 C4 C5 C6 C7) "_law_has" ["place", "row", "column"] 1 iu):BodyOk P w K mg base (ct C0 C1 C2 C3 C4 C5 C6 C7) ["places", "found", "row", "column", "there", "many", "place"] bQ 1 fQ:=by
 refine ⟨fun X hP hw hK hmg hb d hr=>?_⟩
 subst hP hw hK hmg hb
 have hS:ag bQ=_:=(by (conv=>lhs; whnf))
 rw [hS] at d
 have hB:aq bQ=_:=(by (conv=>lhs; whnf))
 rw [hB]
 have n_0:Nm X 0 "places":=d.nm rfl (by w_fin)
 have n_1:Nm X 1 "found":=d.nm rfl (by w_fin)
 have n_2:Nm X 2 "row":=d.nm rfl (by w_fin)
 have n_3:Nm X 3 "column":=d.nm rfl (by w_fin)
 have n_4:Nm X 4 "there":=d.nm rfl (by w_fin)
 have n_5:Nm X 5 "many":=d.nm rfl (by w_fin)
 have n_6:Nm X 6 "place":=d.nm rfl (by w_fin)
 have l_4:Nl X 4 "there":=d.nl rfl (by w_fin)
 have l_5:Nl X 5 "many":=d.nl rfl (by w_fin)
 have l_6:Nl X 6 "place":=d.nl rfl (by w_fin)
 have g_law_has:Gl X "_law_has":=d.gl rfl
 have g_isinstance:Gl X "isinstance":=d.gl rfl
 have g_len:Gl X "len":=d.gl rfl
 have g_tuple:Gl X "tuple":=d.gl rfl
 have hu:=bw hr
 delta fQ bV cU cT
 refine ai ?_ ?_
 refine b0 ?_ ?_ ?_
 refine rN ?_
 refine lR ?_
 refine xF .tuple ?_ ?_ ?_ ?_ ?_
 exact g_isinstance
 exact T.sF
 exact g_tuple
 exact T.nT
 refine ah ?_
 exact aa n_1
 refine ao ?_
 exact aD tm
 exact aJ
 refine ai ?_ ?_
 refine lU d.toDefX ?_ ?_ ?s1
 case s1=>decide +kernel
 exact l_4
 refine lV (N':=["place", "found", "row", "column"]) (nt:=1) (cap:=[1,2,3]) d.toDefX ?s1 ?s2 ?s3 ?_ ?_ (br (by decide)) (aO 0) ?_ ?_
 case s1=>exact ⟨by rfl,by w_left,by w_left,by w_left,by rfl,by w_left⟩
 case s2=>decide
 case s3=>decide +kernel
 refine ah ?_
 exact aa n_0
 intro cl C s2 H2 fp d1
 exact bh (d1.nlc (i:=0) rfl rfl)
 intro cl C s2 H2 fp d1
 refine rS ?_
 refine PDW.pt ?_
 refine iK ?_ ?_
 refine bJ hr ?_ ?_
 refine ah ?_
 refine aX ?_ ?_
 refine ah ?_
 exact aa (d1.nm (i:=0) rfl (by w_fin))
 exact aj
 refine ah ?_
 exact aa (d1.nm (i:=1) rfl (by w_fin))
 refine j4 ?_
 refine lR ?_
 refine ba (X:=aQ _ _ _ _ _ _ _ _) z24 hr ?s1 (d1.gl rfl) ?_
 case s1=>decide
 refine ae ?_ ?_
 exact aa (d1.nm (i:=0) rfl (by w_fin))
 refine ae ?_ ?_
 exact aa (d1.nm (i:=2) rfl (by w_fin))
 refine ae ?_ ?_
 exact aa (d1.nm (i:=3) rfl (by w_fin))
 exact ak
 intro cl C s2 H2 fp d1
 exact aa (d1.nm (i:=0) rfl (by w_fin))
 refine ai ?_ ?_
 refine aK ?_ ?_
 exact l_5
 refine eF ?_ ?_ ?_
 exact g_len
 exact T.gp
 refine ah ?_
 exact aa n_1
 refine ai ?_ ?_
 refine kq d.never d.calm (aO 6) ?_ ?_ ?_
 exact bh l_6
 exact aa n_0
 refine ao ?_
 refine b0 ?_ ?_ ?_
 refine PDW.pt ?_
 refine iK ?_ ?_
 refine bJ hr ?_ ?_
 refine ah ?_
 refine eF ?_ ?_ ?_
 exact g_len
 exact T.gp
 refine ah ?_
 refine aX ?_ ?_
 refine ah ?_
 exact aa n_6
 exact aj
 refine ah ?_
 refine aZ ?_ ?_
 refine ah ?_
 exact aa n_5
 exact ah aj
 refine iK ?_ ?_
 refine bJ hr ?_ ?_
 refine ah ?_
 refine lT ?_ ?_ ?_
 refine ah ?_
 refine aX ?_ ?_
 refine ah ?_
 exact aa n_6
 exact aj
 exact iy
 refine eI ?_
 exact aa n_5
 refine ah ?_
 exact aa n_1
 refine j4 ?_
 refine lR ?_
 refine ba z24 hr ?s1 ?_ ?_
 case s1=>decide
 exact g_law_has
 refine ae ?_ ?_
 exact aa n_6
 refine ae ?_ ?_
 exact aa n_2
 refine ae ?_ ?_
 exact aa n_3
 exact ak
 refine ao ?_
 exact aD tm
 exact aJ
 refine ao ?_
 refine aD ?_
 refine tw hr ?_ ?_
 refine ah ?_
 refine eF ?_ ?_ ?_
 exact g_len
 exact T.gp
 refine ah ?_
 exact aa n_4
 exact ah aj
theorem AB (z23:Def P w K mg base (ct C0 C1 C2 C3 C4 C5 C6 C7) "_law_formula" ["script"] 6 bY)(z37:i0 P w K mg base (ct C0 C1 C2 C3 C4 C5 C6 C7) "places_of" ["f"] 46 d9)(z28:Def P w K mg base (ct C0 C1 C2 C3 C4 C5 C6 C7) "_law_number" ["cell", "size"] 1 da)(z36:Def P w K mg base (ct C0 C1 C2 C3 C4 C5 C6 C7) "path_at" ["f", "row", "column"] 47 j9)(z20:Def P w K mg base (ct C0 C1 C2 C3 C4 C5 C6 C7) "_law_cell_at" ["script", "k"] 1 dz)(z29:Def P w K mg base (ct C0 C1 C2 C3 C4 C5 C6 C7) "_law_own_place" ["places", "found", "row", "column"] 2 ez):BodyOk P w K mg base (ct C0 C1 C2 C3 C4 C5 C6 C7) ["script", "f", "places", "high", "wide", "asked", "k", "row", "told", "at", "found", "column"] kh 47 wC:=by
 refine ⟨fun X hP hw hK hmg hb d hr=>?_⟩
 subst hP hw hK hmg hb
 have hS:ag kh=_:=(by (conv=>lhs; whnf))
 rw [hS] at d
 have hB:aq kh=_:=(by (conv=>lhs; whnf))
 rw [hB]
 have n_0:Nm X 0 "script":=d.nm rfl (by w_fin)
 have n_1:Nm X 1 "f":=d.nm rfl (by w_fin)
 have n_2:Nm X 2 "places":=d.nm rfl (by w_fin)
 have n_3:Nm X 3 "high":=d.nm rfl (by w_fin)
 have n_4:Nm X 4 "wide":=d.nm rfl (by w_fin)
 have n_5:Nm X 5 "asked":=d.nm rfl (by w_fin)
 have n_6:Nm X 6 "k":=d.nm rfl (by w_fin)
 have n_7:Nm X 7 "row":=d.nm rfl (by w_fin)
 have n_8:Nm X 8 "told":=d.nm rfl (by w_fin)
 have n_9:Nm X 9 "at":=d.nm rfl (by w_fin)
 have n_10:Nm X 10 "found":=d.nm rfl (by w_fin)
 have n_11:Nm X 11 "column":=d.nm rfl (by w_fin)
 have l_1:Nl X 1 "f":=d.nl rfl (by w_fin)
 have l_2:Nl X 2 "places":=d.nl rfl (by w_fin)
 have l_3:Nl X 3 "high":=d.nl rfl (by w_fin)
 have l_4:Nl X 4 "wide":=d.nl rfl (by w_fin)
 have l_5:Nl X 5 "asked":=d.nl rfl (by w_fin)
 have l_6:Nl X 6 "k":=d.nl rfl (by w_fin)
 have l_7:Nl X 7 "row":=d.nl rfl (by w_fin)
 have l_8:Nl X 8 "told":=d.nl rfl (by w_fin)
 have l_9:Nl X 9 "at":=d.nl rfl (by w_fin)
 have l_10:Nl X 10 "found":=d.nl rfl (by w_fin)
 have l_11:Nl X 11 "column":=d.nl rfl (by w_fin)
 have g_law_cell_at:Gl X "_law_cell_at":=d.gl rfl
 have g_law_formula:Gl X "_law_formula":=d.gl rfl
 have g_law_number:Gl X "_law_number":=d.gl rfl
 have g_law_own_place:Gl X "_law_own_place":=d.gl rfl
 have g_enumerate:Gl X "enumerate":=d.gl rfl
 have g_places_of:Gl X "places_of":=d.gl rfl
 have g_range:Gl X "range":=d.gl rfl
 have hu:=bw hr
 delta wC gQ ke ma
 refine ai ?_ ?_
 refine aK ?_ ?_
 exact l_1
 refine ba z23 hr ?s1 ?_ ?_
 case s1=>decide
 exact g_law_formula
 refine ae ?_ ?_
 refine lT ?_ ?_ ?_
 refine ah ?_
 exact aa n_0
 exact iy
 exact eI aj
 exact ak
 refine ai ?_ ?_
 refine aK ?_ ?_
 exact l_2
 refine bX ?_
 refine gT z37 hr ?s1 ?_ ?_
 case s1=>decide
 exact g_places_of
 refine ae ?_ ?_
 exact aa n_1
 exact ak
 refine ai ?_ ?_
 refine wo (fA (aP 3 (aP 4 eA))) ?_ ?_
 refine iX d.calm ?_
 refine bq ?_ ?_
 exact bh l_3
 refine bq ?_ ?_
 exact bh l_4
 exact gz
 refine lT ?_ ?_ ?_
 refine ah ?_
 refine aX ?_ ?_
 refine ah ?_
 exact aa n_2
 exact aj
 exact eI aj
 exact eI aj
 refine ai ?_ ?_
 refine iL ?_ ?_
 exact l_5
 exact cY ak
 refine ai ?_ ?_
 refine oA d.never d.calm (aO 6) ?_ ?_ ?_ ?_ ?_
 exact bh l_6
 exact g_range
 exact T.me
 refine ae ?_ ?_
 exact aj
 exact ak
 refine ai ?_ ?_
 refine aK ?_ ?_
 exact l_7
 refine ba z28 hr ?s1 ?_ ?_
 case s1=>decide
 exact g_law_number
 refine ae ?_ ?_
 refine aZ ?_ ?_
 refine ah ?_
 refine ba z20 hr ?s1 ?_ ?_
 case s1=>decide
 exact g_law_cell_at
 refine ae ?_ ?_
 exact aa n_0
 refine ae ?_ ?_
 refine iZ ?_ ?_
 exact ah aj
 exact aa n_6
 exact ak
 refine ah ?_
 exact aa n_6
 refine ae ?_ ?_
 exact aa n_3
 exact ak
 refine ao ?_
 refine fS ?_ ?_
 exact n_5
 refine bI ?_
 refine ae ?_ ?_
 exact aa n_7
 refine ae ?_ ?_
 refine ba z28 hr ?s1 ?_ ?_
 case s1=>decide
 exact g_law_number
 refine ae ?_ ?_
 refine aZ ?_ ?_
 refine ah ?_
 refine ba z20 hr ?s1 ?_ ?_
 case s1=>decide
 exact g_law_cell_at
 refine ae ?_ ?_
 exact aa n_0
 refine ae ?_ ?_
 refine aZ ?_ ?_
 refine ah ?_
 refine iZ ?_ ?_
 exact ah aj
 exact aa n_6
 exact ah aj
 exact ak
 refine ah ?_
 refine iZ ?_ ?_
 exact ah aj
 exact aa n_6
 refine ae ?_ ?_
 exact aa n_4
 exact ak
 exact ak
 refine ai ?_ ?_
 refine lU d.toDefX ?_ ?_ ?s1
 case s1=>decide +kernel
 exact l_8
 refine lV (N':=["row", "column", "f"]) (nt:=2) (cap:=[1]) d.toDefX ?s1 ?s2 ?s3 ?_ ?_ (tD (by decide) (by decide)) (fA (aP 0 (aP 1 eA))) ?_ ?_
 case s1=>exact ⟨by rfl,by w_left,by w_left,by w_left,by rfl,by w_left⟩
 case s2=>decide
 case s3=>decide +kernel
 exact rL n_5
 intro cl C s2 H2 fp d1
 refine iX d1.calm ?_
 refine bq ?_ ?_
 exact bh (d1.nlc (i:=0) rfl rfl)
 refine bq ?_ ?_
 exact bh (d1.nlc (i:=1) rfl rfl)
 exact gz
 intro cl C s2 H2 fp d1
 exact cD
 intro cl C s2 H2 fp d1
 refine ba (X:=aQ _ _ _ _ _ _ _ _) z36 hr ?s1 (d1.gl rfl) ?_
 case s1=>decide
 refine ae ?_ ?_
 exact aa (d1.nm (i:=2) rfl (by w_fin))
 refine ae ?_ ?_
 exact aa (d1.nm (i:=0) rfl (by w_fin))
 refine ae ?_ ?_
 exact aa (d1.nm (i:=1) rfl (by w_fin))
 exact ak
 refine ai ?_ ?_
 refine oG d.never d.calm (fA (aP 9 (aP 10 eA))) ?_ ?_ ?_ ?_ ?_
 refine iX d.calm ?_
 refine bq ?_ ?_
 exact bh l_9
 refine bq ?_ ?_
 exact bh l_10
 exact gz
 exact g_enumerate
 exact T.kj
 exact aa n_8
 refine ai ?_ ?_
 refine wo (fA (aP 7 (aP 11 eA))) ?_ ?_
 refine iX d.calm ?_
 refine bq ?_ ?_
 exact bh l_7
 refine bq ?_ ?_
 exact bh l_11
 exact gz
 refine aX ?_ ?_
 exact rL n_5
 exact aa n_9
 refine ao ?_
 refine b0 ?_ ?_ ?_
 refine PDW.pt ?_
 refine iK ?_ ?_
 refine ku .le .lt ?_ ?_ ?_
 exact aj
 exact aa n_7
 exact aa n_3
 refine j4 ?_
 refine ku .le .lt ?_ ?_ ?_
 exact aj
 exact aa n_11
 exact aa n_4
 refine ao ?_
 refine b0 ?_ ?_ ?_
 refine rN ?_
 refine lR ?_
 refine ba z29 hr ?s1 ?_ ?_
 case s1=>decide
 exact g_law_own_place
 refine ae ?_ ?_
 exact aa n_2
 refine ae ?_ ?_
 exact aa n_10
 refine ae ?_ ?_
 exact aa n_7
 refine ae ?_ ?_
 exact aa n_11
 exact ak
 refine ao ?_
 exact aD tm
 exact aJ
 refine ao ?_
 refine b0 ?_ ?_ ?_
 refine iA ?_
 refine ah ?_
 exact aa n_10
 refine ao ?_
 exact aD tm
 exact aJ
 refine ao ?_
 refine aD ?_
 refine tw hr ?_ ?_
 refine ah ?_
 refine bX ?_
 refine d5 (N':=["row", "column", "f"]) (nt:=2) (cap:=[1]) d.toDefX ?s1 ?s2 ?s3 ?_ ?_ (tD (by decide) (by decide)) (fA (aP 0 (aP 1 eA))) ?_ ?_
 case s1=>exact ⟨by rfl,by w_left,by w_left,by w_left,by rfl,by w_left⟩
 case s2=>decide
 case s3=>decide +kernel
 exact rL n_5
 intro cl C s2 H2 fp d1
 refine iX d1.calm ?_
 refine bq ?_ ?_
 exact bh (d1.nlc (i:=0) rfl rfl)
 refine bq ?_ ?_
 exact bh (d1.nlc (i:=1) rfl rfl)
 exact gz
 intro cl C s2 H2 fp d1
 exact cD
 intro cl C s2 H2 fp d1
 refine ba (X:=aQ _ _ _ _ _ _ _ _) z36 hr ?s1 (d1.gl rfl) ?_
 case s1=>decide
 refine ae ?_ ?_
 exact aa (d1.nm (i:=2) rfl (by w_fin))
 refine ae ?_ ?_
 exact aa (d1.nm (i:=0) rfl (by w_fin))
 refine ae ?_ ?_
 exact aa (d1.nm (i:=1) rfl (by w_fin))
 exact ak
 refine ah ?_
 exact aa n_8
end
end
theorem all_mk {l:PySem.W.OpenLaw}{w:World}{K:Frag}{h:Heap}{mg:Str→Option Value}{fa f1 f2 f3 f4 f5 f6 f7 f8 f9 f10 f11 f12 f13 f15 f19 f24 f25 f26 f27 f28 f29 f32 f40 f41 f42 f43 f44 f45 f46 f47 C0 C1 C2 C3 C4 C5 C6 C7 z59 z47 z61 z45 z55 z57 z51 z49 z60 z46 z56 z58 z53 z52 z54 z50 z48:Addr}(X:K.In h)(G:h.Ns mainGlobals mg)(hfa:mg "law"=some (.ref fa))
  (aC0:nsIn K mainGlobals "Sketch"=some (some (.ref C0)))
  (aC1:nsIn K mainGlobals "Word"=some (some (.ref C1)))
  (aC2:nsIn K mainGlobals "Chain"=some (some (.ref C2)))
  (aC3:nsIn K mainGlobals "Over"=some (some (.ref C3)))
  (aC4:nsIn K mainGlobals "Root"=some (some (.ref C4)))
  (aC5:nsIn K mainGlobals "Marked"=some (some (.ref C5)))
  (aC6:nsIn K mainGlobals "Held"=some (some (.ref C6)))
  (aC7:nsIn K mainGlobals "Grid"=some (some (.ref C7)))
  {oc1 kV1 dc1 pm1 cd1 ct1:Value} {od1 an1:Option Addr} {sl1:Array (Option Value)}
  (a1:nsIn K mainGlobals "_law_level"=some (some (.ref f1)))
  (l1:K.lookup f1=some ⟨oc1,od1,.func (fnOf "_law_level" "_law_level" (aE dO) (aq dO) (ag dO) .none kV1 dc1 pm1 an1 cd1 ct1),sl1⟩)
  (c1:codeIn K cd1 "_law_level"=true)
  (k1:keepIn K (.ref f1)=true)
  {oc2 kV2 dc2 pm2 cd2 ct2:Value} {od2 an2:Option Addr} {sl2:Array (Option Value)}
  (a2:nsIn K mainGlobals "_law_fit"=some (some (.ref f2)))
  (l2:K.lookup f2=some ⟨oc2,od2,.func (fnOf "_law_fit" "_law_fit" (aE fY) (aq fY) (ag fY) .none kV2 dc2 pm2 an2 cd2 ct2),sl2⟩)
  (c2:codeIn K cd2 "_law_fit"=true)
  (k2:keepIn K (.ref f2)=true)
  {oc3 kV3 dc3 pm3 cd3 ct3:Value} {od3 an3:Option Addr} {sl3:Array (Option Value)}
  (a3:nsIn K mainGlobals "_law_chain"=some (some (.ref f3)))
  (l3:K.lookup f3=some ⟨oc3,od3,.func (fnOf "_law_chain" "_law_chain" (aE dP) (aq dP) (ag dP) .none kV3 dc3 pm3 an3 cd3 ct3),sl3⟩)
  (c3:codeIn K cd3 "_law_chain"=true)
  (k3:keepIn K (.ref f3)=true)
  {oc4 kV4 dc4 pm4 cd4 ct4:Value} {od4 an4:Option Addr} {sl4:Array (Option Value)}
  (a4:nsIn K mainGlobals "_law_many"=some (some (.ref f4)))
  (l4:K.lookup f4=some ⟨oc4,od4,.func (fnOf "_law_many" "_law_many" (aE eO) (aq eO) (ag eO) .none kV4 dc4 pm4 an4 cd4 ct4),sl4⟩)
  (c4:codeIn K cd4 "_law_many"=true)
  (k4:keepIn K (.ref f4)=true)
  {oc5 kV5 dc5 pm5 cd5 ct5:Value} {od5 an5:Option Addr} {sl5:Array (Option Value)}
  (a5:nsIn K mainGlobals "_law_made"=some (some (.ref f5)))
  (l5:K.lookup f5=some ⟨oc5,od5,.func (fnOf "_law_made" "_law_made" (aE eP) (aq eP) (ag eP) .none kV5 dc5 pm5 an5 cd5 ct5),sl5⟩)
  (c5:codeIn K cd5 "_law_made"=true)
  (k5:keepIn K (.ref f5)=true)
  {oc6 kV6 dc6 pm6 cd6 ct6:Value} {od6 an6:Option Addr} {sl6:Array (Option Value)}
  (a6:nsIn K mainGlobals "_law_word"=some (some (.ref f6)))
  (l6:K.lookup f6=some ⟨oc6,od6,.func (fnOf "_law_word" "_law_word" (aE eQ) (aq eQ) (ag eQ) .none kV6 dc6 pm6 an6 cd6 ct6),sl6⟩)
  (c6:codeIn K cd6 "_law_word"=true)
  (k6:keepIn K (.ref f6)=true)
  {oc7 kV7 dc7 pm7 cd7 ct7:Value} {od7 an7:Option Addr} {sl7:Array (Option Value)}
  (a7:nsIn K mainGlobals "_law_atom"=some (some (.ref f7)))
  (l7:K.lookup f7=some ⟨oc7,od7,.func (fnOf "_law_atom" "_law_atom" (aE eR) (aq eR) (ag eR) .none kV7 dc7 pm7 an7 cd7 ct7),sl7⟩)
  (c7:codeIn K cd7 "_law_atom"=true)
  (k7:keepIn K (.ref f7)=true)
  {oc8 kV8 dc8 pm8 cd8 ct8:Value} {od8 an8:Option Addr} {sl8:Array (Option Value)}
  (a8:nsIn K mainGlobals "_law_step"=some (some (.ref f8)))
  (l8:K.lookup f8=some ⟨oc8,od8,.func (fnOf "_law_step" "_law_step" (aE eS) (aq eS) (ag eS) .none kV8 dc8 pm8 an8 cd8 ct8),sl8⟩)
  (c8:codeIn K cd8 "_law_step"=true)
  (k8:keepIn K (.ref f8)=true)
  {oc9 kV9 dc9 pm9 cd9 ct9:Value} {od9 an9:Option Addr} {sl9:Array (Option Value)}
  (a9:nsIn K mainGlobals "_law_formula"=some (some (.ref f9)))
  (l9:K.lookup f9=some ⟨oc9,od9,.func (fnOf "_law_formula" "_law_formula" (aE cH) (aq cH) (ag cH) .none kV9 dc9 pm9 an9 cd9 ct9),sl9⟩)
  (c9:codeIn K cd9 "_law_formula"=true)
  (k9:keepIn K (.ref f9)=true)
  {oc10 kV10 dc10 pm10 cd10 ct10:Value} {od10 an10:Option Addr} {sl10:Array (Option Value)}
  (a10:nsIn K mainGlobals "column_widths"=some (some (.ref f10)))
  (l10:K.lookup f10=some ⟨oc10,od10,.func (fnOf "column_widths" "column_widths" (aE bN) (aq bN) (ag bN) .none kV10 dc10 pm10 an10 cd10 ct10),sl10⟩)
  (c10:codeIn K cd10 "column_widths"=true)
  (k10:keepIn K (.ref f10)=true)
  {oc11 kV11 dc11 pm11 cd11 ct11:Value} {od11 an11:Option Addr} {sl11:Array (Option Value)}
  (a11:nsIn K mainGlobals "greatest_up"=some (some (.ref f11)))
  (l11:K.lookup f11=some ⟨oc11,od11,.func (fnOf "greatest_up" "greatest_up" (aE cI) (aq cI) (ag cI) .none kV11 dc11 pm11 an11 cd11 ct11),sl11⟩)
  (c11:codeIn K cd11 "greatest_up"=true)
  (k11:keepIn K (.ref f11)=true)
  {oc12 kV12 dc12 pm12 cd12 ct12:Value} {od12 an12:Option Addr} {sl12:Array (Option Value)}
  (a12:nsIn K mainGlobals "band_height"=some (some (.ref f12)))
  (l12:K.lookup f12=some ⟨oc12,od12,.func (fnOf "band_height" "band_height" (aE cJ) (aq cJ) (ag cJ) .none kV12 dc12 pm12 an12 cd12 ct12),sl12⟩)
  (c12:codeIn K cd12 "band_height"=true)
  (k12:keepIn K (.ref f12)=true)
  {oc13 kV13 dc13 pm13 cd13 ct13:Value} {od13 an13:Option Addr} {sl13:Array (Option Value)}
  (a13:nsIn K mainGlobals "numbers_by_row"=some (some (.ref f13)))
  (l13:K.lookup f13=some ⟨oc13,od13,.func (fnOf "numbers_by_row" "numbers_by_row" (aE bF) (aq bF) (ag bF) .none kV13 dc13 pm13 an13 cd13 ct13),sl13⟩)
  (c13:codeIn K cd13 "numbers_by_row"=true)
  (k13:keepIn K (.ref f13)=true)
  {oc14 kV14 dc14 pm14 cd14 ct14:Value} {od14 an14:Option Addr} {sl14:Array (Option Value)}
  (a14:findIn K (.ref C0) "__init__"=some (some (.ref z59)))
  (i_Sketch_init:isFn K (.ref z59)=true)
  (k_Sketch_init:keepIn K (.ref z59)=true)
  (l14:K.lookup z59=some ⟨oc14,od14,.func (fnOf "__init__" "Sketch.__init__" (aE cK) (aq cK) (ag cK) .none kV14 dc14 pm14 an14 cd14 ct14),sl14⟩)
  (c14:codeIn K cd14 "Sketch.__init__"=true)
  {oc15 kV15 dc15 pm15 cd15 ct15:Value} {od15 an15:Option Addr} {sl15:Array (Option Value)}
  (a15:nsIn K mainGlobals "band_lows"=some (some (.ref f15)))
  (l15:K.lookup f15=some ⟨oc15,od15,.func (fnOf "band_lows" "band_lows" (aE dQ) (aq dQ) (ag dQ) .none kV15 dc15 pm15 an15 cd15 ct15),sl15⟩)
  (c15:codeIn K cd15 "band_lows"=true)
  (k15:keepIn K (.ref f15)=true)
  {oc16 kV16 dc16 pm16 cd16 ct16:Value} {od16 an16:Option Addr} {sl16:Array (Option Value)}
  (a16:findIn K (.ref C7) "__init__"=some (some (.ref z47)))
  (i_Grid_init:isFn K (.ref z47)=true)
  (k_Grid_init:keepIn K (.ref z47)=true)
  (l16:K.lookup z47=some ⟨oc16,od16,.func (fnOf "__init__" "Grid.__init__" (aE dR) (aq dR) (ag dR) .none kV16 dc16 pm16 an16 cd16 ct16),sl16⟩)
  (c16:codeIn K cd16 "Grid.__init__"=true)
  {oc17 kV17 dc17 pm17 cd17 ct17:Value} {od17 an17:Option Addr} {sl17:Array (Option Value)}
  (a17:findIn K (.ref C1) "__init__"=some (some (.ref z61)))
  (i_Word_init:isFn K (.ref z61)=true)
  (k_Word_init:keepIn K (.ref z61)=true)
  (l17:K.lookup z61=some ⟨oc17,od17,.func (fnOf "__init__" "Word.__init__" (aE dS) (aq dS) (ag dS) .none kV17 dc17 pm17 an17 cd17 ct17),sl17⟩)
  (c17:codeIn K cd17 "Word.__init__"=true)
  {oc18 kV18 dc18 pm18 cd18 ct18:Value} {od18 an18:Option Addr} {sl18:Array (Option Value)}
  (a18:findIn K (.ref C2) "__init__"=some (some (.ref z45)))
  (i_Chain_init:isFn K (.ref z45)=true)
  (k_Chain_init:keepIn K (.ref z45)=true)
  (l18:K.lookup z45=some ⟨oc18,od18,.func (fnOf "__init__" "Chain.__init__" (aE dc) (aq dc) (ag dc) .none kV18 dc18 pm18 an18 cd18 ct18),sl18⟩)
  (c18:codeIn K cd18 "Chain.__init__"=true)
  {oc19 kV19 dc19 pm19 cd19 ct19:Value} {od19 an19:Option Addr} {sl19:Array (Option Value)}
  (a19:nsIn K mainGlobals "height_of"=some (some (.ref f19)))
  (l19:K.lookup f19=some ⟨oc19,od19,.func (fnOf "height_of" "height_of" (aE dU) (aq dU) (ag dU) .none kV19 dc19 pm19 an19 cd19 ct19),sl19⟩)
  (c19:codeIn K cd19 "height_of"=true)
  (k19:keepIn K (.ref f19)=true)
  {oc20 kV20 dc20 pm20 cd20 ct20:Value} {od20 an20:Option Addr} {sl20:Array (Option Value)}
  (a20:findIn K (.ref C3) "__init__"=some (some (.ref z55)))
  (i_Over_init:isFn K (.ref z55)=true)
  (k_Over_init:keepIn K (.ref z55)=true)
  (l20:K.lookup z55=some ⟨oc20,od20,.func (fnOf "__init__" "Over.__init__" (aE dW) (aq dW) (ag dW) .none kV20 dc20 pm20 an20 cd20 ct20),sl20⟩)
  (c20:codeIn K cd20 "Over.__init__"=true)
  {oc21 kV21 dc21 pm21 cd21 ct21:Value} {od21 an21:Option Addr} {sl21:Array (Option Value)}
  (a21:findIn K (.ref C4) "__init__"=some (some (.ref z57)))
  (i_Root_init:isFn K (.ref z57)=true)
  (k_Root_init:keepIn K (.ref z57)=true)
  (l21:K.lookup z57=some ⟨oc21,od21,.func (fnOf "__init__" "Root.__init__" (aE dX) (aq dX) (ag dX) .none kV21 dc21 pm21 an21 cd21 ct21),sl21⟩)
  (c21:codeIn K cd21 "Root.__init__"=true)
  {oc22 kV22 dc22 pm22 cd22 ct22:Value} {od22 an22:Option Addr} {sl22:Array (Option Value)}
  (a22:findIn K (.ref C5) "__init__"=some (some (.ref z51)))
  (i_Marked_init:isFn K (.ref z51)=true)
  (k_Marked_init:keepIn K (.ref z51)=true)
  (l22:K.lookup z51=some ⟨oc22,od22,.func (fnOf "__init__" "Marked.__init__" (aE cL) (aq cL) (ag cL) .none kV22 dc22 pm22 an22 cd22 ct22),sl22⟩)
  (c22:codeIn K cd22 "Marked.__init__"=true)
  {oc23 kV23 dc23 pm23 cd23 ct23:Value} {od23 an23:Option Addr} {sl23:Array (Option Value)}
  (a23:findIn K (.ref C6) "__init__"=some (some (.ref z49)))
  (i_Held_init:isFn K (.ref z49)=true)
  (k_Held_init:keepIn K (.ref z49)=true)
  (l23:K.lookup z49=some ⟨oc23,od23,.func (fnOf "__init__" "Held.__init__" (aE dY) (aq dY) (ag dY) .none kV23 dc23 pm23 an23 cd23 ct23),sl23⟩)
  (c23:codeIn K cd23 "Held.__init__"=true)
  {oc24 kV24 dc24 pm24 cd24 ct24:Value} {od24 an24:Option Addr} {sl24:Array (Option Value)}
  (a24:nsIn K mainGlobals "signs_of"=some (some (.ref f24)))
  (l24:K.lookup f24=some ⟨oc24,od24,.func (fnOf "signs_of" "signs_of" (aE eT) (aq eT) (ag eT) .none kV24 dc24 pm24 an24 cd24 ct24),sl24⟩)
  (c24:codeIn K cd24 "signs_of"=true)
  (k24:keepIn K (.ref f24)=true)
  {oc25 kV25 dc25 pm25 cd25 ct25:Value} {od25 an25:Option Addr} {sl25:Array (Option Value)}
  (a25:nsIn K mainGlobals "cells_of"=some (some (.ref f25)))
  (l25:K.lookup f25=some ⟨oc25,od25,.func (fnOf "cells_of" "cells_of" (aE eU) (aq eU) (ag eU) .none kV25 dc25 pm25 an25 cd25 ct25),sl25⟩)
  (c25:codeIn K cd25 "cells_of"=true)
  (k25:keepIn K (.ref f25)=true)
  {oc26 kV26 dc26 pm26 cd26 ct26:Value} {od26 an26:Option Addr} {sl26:Array (Option Value)}
  (a26:nsIn K mainGlobals "parts_of"=some (some (.ref f26)))
  (l26:K.lookup f26=some ⟨oc26,od26,.func (fnOf "parts_of" "parts_of" (aE eV) (aq eV) (ag eV) .none kV26 dc26 pm26 an26 cd26 ct26),sl26⟩)
  (c26:codeIn K cd26 "parts_of"=true)
  (k26:keepIn K (.ref f26)=true)
  {oc27 kV27 dc27 pm27 cd27 ct27:Value} {od27 an27:Option Addr} {sl27:Array (Option Value)}
  (a27:nsIn K mainGlobals "sketch_of"=some (some (.ref f27)))
  (l27:K.lookup f27=some ⟨oc27,od27,.func (fnOf "sketch_of" "sketch_of" (aE dZ) (aq dZ) (ag dZ) .none kV27 dc27 pm27 an27 cd27 ct27),sl27⟩)
  (c27:codeIn K cd27 "sketch_of"=true)
  (k27:keepIn K (.ref f27)=true)
  {oc28 kV28 dc28 pm28 cd28 ct28:Value} {od28 an28:Option Addr} {sl28:Array (Option Value)}
  (a28:nsIn K mainGlobals "sketches_of"=some (some (.ref f28)))
  (l28:K.lookup f28=some ⟨oc28,od28,.func (fnOf "sketches_of" "sketches_of" (aE cM) (aq cM) (ag cM) .none kV28 dc28 pm28 an28 cd28 ct28),sl28⟩)
  (c28:codeIn K cd28 "sketches_of"=true)
  (k28:keepIn K (.ref f28)=true)
  {oc29 kV29 dc29 pm29 cd29 ct29:Value} {od29 an29:Option Addr} {sl29:Array (Option Value)}
  (a29:nsIn K mainGlobals "mark_sketch"=some (some (.ref f29)))
  (l29:K.lookup f29=some ⟨oc29,od29,.func (fnOf "mark_sketch" "mark_sketch" (aE cN) (aq cN) (ag cN) .none kV29 dc29 pm29 an29 cd29 ct29),sl29⟩)
  (c29:codeIn K cd29 "mark_sketch"=true)
  (k29:keepIn K (.ref f29)=true)
  {oc30 kV30 dc30 pm30 cd30 ct30:Value} {od30 an30:Option Addr} {sl30:Array (Option Value)}
  (a30:findIn K (.ref C0) "spots"=some (some (.ref z60)))
  (i_Sketch_spots:isFn K (.ref z60)=true)
  (k_Sketch_spots:keepIn K (.ref z60)=true)
  (l30:K.lookup z60=some ⟨oc30,od30,.func (fnOf "spots" "Sketch.spots" (aE cm) (aq cm) (ag cm) .none kV30 dc30 pm30 an30 cd30 ct30),sl30⟩)
  (c30:codeIn K cd30 "Sketch.spots"=true)
  {oc31 kV31 dc31 pm31 cd31 ct31:Value} {od31 an31:Option Addr} {sl31:Array (Option Value)}
  (a31:findIn K (.ref C2) "spots"=some (some (.ref z46)))
  (i_Chain_spots:isFn K (.ref z46)=true)
  (k_Chain_spots:keepIn K (.ref z46)=true)
  (l31:K.lookup z46=some ⟨oc31,od31,.func (fnOf "spots" "Chain.spots" (aE cO) (aq cO) (ag cO) .none kV31 dc31 pm31 an31 cd31 ct31),sl31⟩)
  (c31:codeIn K cd31 "Chain.spots"=true)
  {oc32 kV32 dc32 pm32 cd32 ct32:Value} {od32 an32:Option Addr} {sl32:Array (Option Value)}
  (a32:nsIn K mainGlobals "left_of"=some (some (.ref f32)))
  (l32:K.lookup f32=some ⟨oc32,od32,.func (fnOf "left_of" "left_of" (aE fZ) (aq fZ) (ag fZ) .none kV32 dc32 pm32 an32 cd32 ct32),sl32⟩)
  (c32:codeIn K cd32 "left_of"=true)
  (k32:keepIn K (.ref f32)=true)
  {oc33 kV33 dc33 pm33 cd33 ct33:Value} {od33 an33:Option Addr} {sl33:Array (Option Value)}
  (a33:findIn K (.ref C3) "spots"=some (some (.ref z56)))
  (i_Over_spots:isFn K (.ref z56)=true)
  (k_Over_spots:keepIn K (.ref z56)=true)
  (l33:K.lookup z56=some ⟨oc33,od33,.func (fnOf "spots" "Over.spots" (aE df) (aq df) (ag df) .none kV33 dc33 pm33 an33 cd33 ct33),sl33⟩)
  (c33:codeIn K cd33 "Over.spots"=true)
  {oc34 kV34 dc34 pm34 cd34 ct34:Value} {od34 an34:Option Addr} {sl34:Array (Option Value)}
  (a34:findIn K (.ref C4) "spots"=some (some (.ref z58)))
  (i_Root_spots:isFn K (.ref z58)=true)
  (k_Root_spots:keepIn K (.ref z58)=true)
  (l34:K.lookup z58=some ⟨oc34,od34,.func (fnOf "spots" "Root.spots" (aE dg) (aq dg) (ag dg) .none kV34 dc34 pm34 an34 cd34 ct34),sl34⟩)
  (c34:codeIn K cd34 "Root.spots"=true)
  {oc35 kV35 dc35 pm35 cd35 ct35:Value} {od35 an35:Option Addr} {sl35:Array (Option Value)}
  (a35:findIn K (.ref C5) "raised_low"=some (some (.ref z53)))
  (i_Marked_raised_low:isFn K (.ref z53)=true)
  (k_Marked_raised_low:keepIn K (.ref z53)=true)
  (l35:K.lookup z53=some ⟨oc35,od35,.func (fnOf "raised_low" "Marked.raised_low" (aE bo) (aq bo) (ag bo) .none kV35 dc35 pm35 an35 cd35 ct35),sl35⟩)
  (c35:codeIn K cd35 "Marked.raised_low"=true)
  {oc36 kV36 dc36 pm36 cd36 ct36:Value} {od36 an36:Option Addr} {sl36:Array (Option Value)}
  (a36:findIn K (.ref C5) "lowered_low"=some (some (.ref z52)))
  (i_Marked_lowered_low:isFn K (.ref z52)=true)
  (k_Marked_lowered_low:keepIn K (.ref z52)=true)
  (l36:K.lookup z52=some ⟨oc36,od36,.func (fnOf "lowered_low" "Marked.lowered_low" (aE bc) (aq bc) (ag bc) .none kV36 dc36 pm36 an36 cd36 ct36),sl36⟩)
  (c36:codeIn K cd36 "Marked.lowered_low"=true)
  {oc37 kV37 dc37 pm37 cd37 ct37:Value} {od37 an37:Option Addr} {sl37:Array (Option Value)}
  (a37:findIn K (.ref C5) "spots"=some (some (.ref z54)))
  (i_Marked_spots:isFn K (.ref z54)=true)
  (k_Marked_spots:keepIn K (.ref z54)=true)
  (l37:K.lookup z54=some ⟨oc37,od37,.func (fnOf "spots" "Marked.spots" (aE cp) (aq cp) (ag cp) .none kV37 dc37 pm37 an37 cd37 ct37),sl37⟩)
  (c37:codeIn K cd37 "Marked.spots"=true)
  {oc38 kV38 dc38 pm38 cd38 ct38:Value} {od38 an38:Option Addr} {sl38:Array (Option Value)}
  (a38:findIn K (.ref C6) "spots"=some (some (.ref z50)))
  (i_Held_spots:isFn K (.ref z50)=true)
  (k_Held_spots:keepIn K (.ref z50)=true)
  (l38:K.lookup z50=some ⟨oc38,od38,.func (fnOf "spots" "Held.spots" (aE dh) (aq dh) (ag dh) .none kV38 dc38 pm38 an38 cd38 ct38),sl38⟩)
  (c38:codeIn K cd38 "Held.spots"=true)
  {oc39 kV39 dc39 pm39 cd39 ct39:Value} {od39 an39:Option Addr} {sl39:Array (Option Value)}
  (a39:findIn K (.ref C7) "spots"=some (some (.ref z48)))
  (i_Grid_spots:isFn K (.ref z48)=true)
  (k_Grid_spots:keepIn K (.ref z48)=true)
  (l39:K.lookup z48=some ⟨oc39,od39,.func (fnOf "spots" "Grid.spots" (aE di) (aq di) (ag di) .none kV39 dc39 pm39 an39 cd39 ct39),sl39⟩)
  (c39:codeIn K cd39 "Grid.spots"=true)
  {oc40 kV40 dc40 pm40 cd40 ct40:Value} {od40 an40:Option Addr} {sl40:Array (Option Value)}
  (a40:nsIn K mainGlobals "places_within"=some (some (.ref f40)))
  (l40:K.lookup f40=some ⟨oc40,od40,.func (fnOf "places_within" "places_within" (aE bP) (aq bP) (ag bP) .none kV40 dc40 pm40 an40 cd40 ct40),sl40⟩)
  (c40:codeIn K cd40 "places_within"=true)
  (k40:keepIn K (.ref f40)=true)
  {oc41 kV41 dc41 pm41 cd41 ct41:Value} {od41 an41:Option Addr} {sl41:Array (Option Value)}
  (a41:nsIn K mainGlobals "places_of"=some (some (.ref f41)))
  (l41:K.lookup f41=some ⟨oc41,od41,.func (fnOf "places_of" "places_of" (aE ed) (aq ed) (ag ed) .none kV41 dc41 pm41 an41 cd41 ct41),sl41⟩)
  (c41:codeIn K cd41 "places_of"=true)
  (k41:keepIn K (.ref f41)=true)
  {oc42 kV42 dc42 pm42 cd42 ct42:Value} {od42 an42:Option Addr} {sl42:Array (Option Value)}
  (a42:nsIn K mainGlobals "_law_number"=some (some (.ref f42)))
  (l42:K.lookup f42=some ⟨oc42,od42,.func (fnOf "_law_number" "_law_number" (aE dj) (aq dj) (ag dj) .none kV42 dc42 pm42 an42 cd42 ct42),sl42⟩)
  (c42:codeIn K cd42 "_law_number"=true)
  (k42:keepIn K (.ref f42)=true)
  {oc43 kV43 dc43 pm43 cd43 ct43:Value} {od43 an43:Option Addr} {sl43:Array (Option Value)}
  (a43:nsIn K mainGlobals "path_at"=some (some (.ref f43)))
  (l43:K.lookup f43=some ⟨oc43,od43,.func (fnOf "path_at" "path_at" (aE g8) (aq g8) (ag g8) .none kV43 dc43 pm43 an43 cd43 ct43),sl43⟩)
  (c43:codeIn K cd43 "path_at"=true)
  (k43:keepIn K (.ref f43)=true)
  {oc44 kV44 dc44 pm44 cd44 ct44:Value} {od44 an44:Option Addr} {sl44:Array (Option Value)}
  (a44:nsIn K mainGlobals "_law_cell_at"=some (some (.ref f44)))
  (l44:K.lookup f44=some ⟨oc44,od44,.func (fnOf "_law_cell_at" "_law_cell_at" (aE cP) (aq cP) (ag cP) .none kV44 dc44 pm44 an44 cd44 ct44),sl44⟩)
  (c44:codeIn K cd44 "_law_cell_at"=true)
  (k44:keepIn K (.ref f44)=true)
  {oc45 kV45 dc45 pm45 cd45 ct45:Value} {od45 an45:Option Addr} {sl45:Array (Option Value)}
  (a45:nsIn K mainGlobals "_law_has"=some (some (.ref f45)))
  (l45:K.lookup f45=some ⟨oc45,od45,.func (fnOf "_law_has" "_law_has" (aE g9) (aq g9) (ag g9) .none kV45 dc45 pm45 an45 cd45 ct45),sl45⟩)
  (c45:codeIn K cd45 "_law_has"=true)
  (k45:keepIn K (.ref f45)=true)
  {oc46 kV46 dc46 pm46 cd46 ct46:Value} {od46 an46:Option Addr} {sl46:Array (Option Value)}
  (a46:nsIn K mainGlobals "_law_own_place"=some (some (.ref f46)))
  (l46:K.lookup f46=some ⟨oc46,od46,.func (fnOf "_law_own_place" "_law_own_place" (aE bQ) (aq bQ) (ag bQ) .none kV46 dc46 pm46 an46 cd46 ct46),sl46⟩)
  (c46:codeIn K cd46 "_law_own_place"=true)
  (k46:keepIn K (.ref f46)=true)
  {oc47 kV47 dc47 pm47 cd47 ct47:Value} {od47 an47:Option Addr} {sl47:Array (Option Value)}
  (a47:nsIn K mainGlobals "law"=some (some (.ref f47)))
  (l47:K.lookup f47=some ⟨oc47,od47,.func (fnOf "law" "law" (aE kh) (aq kh) (ag kh) .none kV47 dc47 pm47 an47 cd47 ct47),sl47⟩)
  (c47:codeIn K cd47 "law"=true)
  (k47:keepIn K (.ref f47)=true)
  (z1:nsIn K mainGlobals "tuple"=some none)
  (z2:nsIn K mainGlobals "range"=some none)
  (z3:nsIn K mainGlobals "len"=some none)
  (z4:nsIn K mainGlobals "int"=some none)
  (z5:nsIn K mainGlobals "max"=some none)
  (z6:nsIn K mainGlobals "any"=some none)
  (z7:nsIn K mainGlobals "enumerate"=some none)
  (z8:nsIn K mainGlobals "list"=some none)
  (z9:nsIn K mainGlobals "sum"=some none)
  (z10:nsIn K mainGlobals "str"=some none)
  (z11:nsIn K mainGlobals "zip"=some none)
  (z12:nsIn K mainGlobals "isinstance"=some none)
  {u1:Addr} {uc1:Value} {ud1:Option Addr} {ux1:Data} {us1:Array (Option Value)}
  (ua1:nsIn K mainGlobals "ROW_KINDS"=some (some (.ref u1)))
  (ul1:K.lookup u1=some ⟨uc1,ud1,ux1,us1⟩)
  (ue1:zQ [.str [101,118,101,110],.str [115,117,109],.str [116,105,109,101,115]] ⟨uc1,ud1,ux1,us1⟩=true)
  (pg0:plainGet K C0 Str.empty=true)
  (hd0:hasDictIn K C0=true)
  (po0:plainOver K C0=true)
  (sa0:findIn K (.ref C0) "__setattr__"=some (some (.builtin "object.__setattr__")))
  (fm0_spots:findIn K (.ref C0) "spots"=some (some (.ref z60)))
  (nf0_0:findIn K (.ref C0) "wide"=some none)
  (nf0_1:findIn K (.ref C0) "up"=some none)
  (nf0_2:findIn K (.ref C0) "down"=some none)
  (nf0_3:findIn K (.ref C0) "word"=some none)
  (nf0_4:findIn K (.ref C0) "parts"=some none)
  (nf0_5:findIn K (.ref C0) "signs"=some none)
  (nf0_6:findIn K (.ref C0) "above"=some none)
  (nf0_7:findIn K (.ref C0) "beneath"=some none)
  (nf0_8:findIn K (.ref C0) "inner"=some none)
  (nf0_9:findIn K (.ref C0) "item"=some none)
  (nf0_10:findIn K (.ref C0) "raised"=some none)
  (nf0_11:findIn K (.ref C0) "lowered"=some none)
  (nf0_12:findIn K (.ref C0) "bands"=some none)
  (nf0_13:findIn K (.ref C0) "widths"=some none)
  (nf0_14:findIn K (.ref C0) "band_numbers"=some none)
  (nf0_15:findIn K (.ref C0) "lows"=some none)
  (pg1:plainGet K C1 Str.empty=true)
  (hd1:hasDictIn K C1=true)
  (po1:plainOver K C1=true)
  (sa1:findIn K (.ref C1) "__setattr__"=some (some (.builtin "object.__setattr__")))
  (fm1_spots:findIn K (.ref C1) "spots"=some (some (.ref z60)))
  (nf1_0:findIn K (.ref C1) "wide"=some none)
  (nf1_1:findIn K (.ref C1) "up"=some none)
  (nf1_2:findIn K (.ref C1) "down"=some none)
  (nf1_3:findIn K (.ref C1) "word"=some none)
  (nf1_4:findIn K (.ref C1) "parts"=some none)
  (nf1_5:findIn K (.ref C1) "signs"=some none)
  (nf1_6:findIn K (.ref C1) "above"=some none)
  (nf1_7:findIn K (.ref C1) "beneath"=some none)
  (nf1_8:findIn K (.ref C1) "inner"=some none)
  (nf1_9:findIn K (.ref C1) "item"=some none)
  (nf1_10:findIn K (.ref C1) "raised"=some none)
  (nf1_11:findIn K (.ref C1) "lowered"=some none)
  (nf1_12:findIn K (.ref C1) "bands"=some none)
  (nf1_13:findIn K (.ref C1) "widths"=some none)
  (nf1_14:findIn K (.ref C1) "band_numbers"=some none)
  (nf1_15:findIn K (.ref C1) "lows"=some none)
  (pg2:plainGet K C2 Str.empty=true)
  (hd2:hasDictIn K C2=true)
  (po2:plainOver K C2=true)
  (sa2:findIn K (.ref C2) "__setattr__"=some (some (.builtin "object.__setattr__")))
  (fm2_spots:findIn K (.ref C2) "spots"=some (some (.ref z46)))
  (nf2_0:findIn K (.ref C2) "wide"=some none)
  (nf2_1:findIn K (.ref C2) "up"=some none)
  (nf2_2:findIn K (.ref C2) "down"=some none)
  (nf2_3:findIn K (.ref C2) "word"=some none)
  (nf2_4:findIn K (.ref C2) "parts"=some none)
  (nf2_5:findIn K (.ref C2) "signs"=some none)
  (nf2_6:findIn K (.ref C2) "above"=some none)
  (nf2_7:findIn K (.ref C2) "beneath"=some none)
  (nf2_8:findIn K (.ref C2) "inner"=some none)
  (nf2_9:findIn K (.ref C2) "item"=some none)
  (nf2_10:findIn K (.ref C2) "raised"=some none)
  (nf2_11:findIn K (.ref C2) "lowered"=some none)
  (nf2_12:findIn K (.ref C2) "bands"=some none)
  (nf2_13:findIn K (.ref C2) "widths"=some none)
  (nf2_14:findIn K (.ref C2) "band_numbers"=some none)
  (nf2_15:findIn K (.ref C2) "lows"=some none)
  (pg3:plainGet K C3 Str.empty=true)
  (hd3:hasDictIn K C3=true)
  (po3:plainOver K C3=true)
  (sa3:findIn K (.ref C3) "__setattr__"=some (some (.builtin "object.__setattr__")))
  (fm3_spots:findIn K (.ref C3) "spots"=some (some (.ref z56)))
  (nf3_0:findIn K (.ref C3) "wide"=some none)
  (nf3_1:findIn K (.ref C3) "up"=some none)
  (nf3_2:findIn K (.ref C3) "down"=some none)
  (nf3_3:findIn K (.ref C3) "word"=some none)
  (nf3_4:findIn K (.ref C3) "parts"=some none)
  (nf3_5:findIn K (.ref C3) "signs"=some none)
  (nf3_6:findIn K (.ref C3) "above"=some none)
  (nf3_7:findIn K (.ref C3) "beneath"=some none)
  (nf3_8:findIn K (.ref C3) "inner"=some none)
  (nf3_9:findIn K (.ref C3) "item"=some none)
  (nf3_10:findIn K (.ref C3) "raised"=some none)
  (nf3_11:findIn K (.ref C3) "lowered"=some none)
  (nf3_12:findIn K (.ref C3) "bands"=some none)
  (nf3_13:findIn K (.ref C3) "widths"=some none)
  (nf3_14:findIn K (.ref C3) "band_numbers"=some none)
  (nf3_15:findIn K (.ref C3) "lows"=some none)
  (pg4:plainGet K C4 Str.empty=true)
  (hd4:hasDictIn K C4=true)
  (po4:plainOver K C4=true)
  (sa4:findIn K (.ref C4) "__setattr__"=some (some (.builtin "object.__setattr__")))
  (fm4_spots:findIn K (.ref C4) "spots"=some (some (.ref z58)))
  (nf4_0:findIn K (.ref C4) "wide"=some none)
  (nf4_1:findIn K (.ref C4) "up"=some none)
  (nf4_2:findIn K (.ref C4) "down"=some none)
  (nf4_3:findIn K (.ref C4) "word"=some none)
  (nf4_4:findIn K (.ref C4) "parts"=some none)
  (nf4_5:findIn K (.ref C4) "signs"=some none)
  (nf4_6:findIn K (.ref C4) "above"=some none)
  (nf4_7:findIn K (.ref C4) "beneath"=some none)
  (nf4_8:findIn K (.ref C4) "inner"=some none)
  (nf4_9:findIn K (.ref C4) "item"=some none)
  (nf4_10:findIn K (.ref C4) "raised"=some none)
  (nf4_11:findIn K (.ref C4) "lowered"=some none)
  (nf4_12:findIn K (.ref C4) "bands"=some none)
  (nf4_13:findIn K (.ref C4) "widths"=some none)
  (nf4_14:findIn K (.ref C4) "band_numbers"=some none)
  (nf4_15:findIn K (.ref C4) "lows"=some none)
  (pg5:plainGet K C5 Str.empty=true)
  (hd5:hasDictIn K C5=true)
  (po5:plainOver K C5=true)
  (sa5:findIn K (.ref C5) "__setattr__"=some (some (.builtin "object.__setattr__")))
  (fm5_spots:findIn K (.ref C5) "spots"=some (some (.ref z54)))
  (fm5_raised_low:findIn K (.ref C5) "raised_low"=some (some (.ref z53)))
  (fm5_lowered_low:findIn K (.ref C5) "lowered_low"=some (some (.ref z52)))
  (nf5_0:findIn K (.ref C5) "wide"=some none)
  (nf5_1:findIn K (.ref C5) "up"=some none)
  (nf5_2:findIn K (.ref C5) "down"=some none)
  (nf5_3:findIn K (.ref C5) "word"=some none)
  (nf5_4:findIn K (.ref C5) "parts"=some none)
  (nf5_5:findIn K (.ref C5) "signs"=some none)
  (nf5_6:findIn K (.ref C5) "above"=some none)
  (nf5_7:findIn K (.ref C5) "beneath"=some none)
  (nf5_8:findIn K (.ref C5) "inner"=some none)
  (nf5_9:findIn K (.ref C5) "item"=some none)
  (nf5_10:findIn K (.ref C5) "raised"=some none)
  (nf5_11:findIn K (.ref C5) "lowered"=some none)
  (nf5_12:findIn K (.ref C5) "bands"=some none)
  (nf5_13:findIn K (.ref C5) "widths"=some none)
  (nf5_14:findIn K (.ref C5) "band_numbers"=some none)
  (nf5_15:findIn K (.ref C5) "lows"=some none)
  (pg6:plainGet K C6 Str.empty=true)
  (hd6:hasDictIn K C6=true)
  (po6:plainOver K C6=true)
  (sa6:findIn K (.ref C6) "__setattr__"=some (some (.builtin "object.__setattr__")))
  (fm6_spots:findIn K (.ref C6) "spots"=some (some (.ref z50)))
  (nf6_0:findIn K (.ref C6) "wide"=some none)
  (nf6_1:findIn K (.ref C6) "up"=some none)
  (nf6_2:findIn K (.ref C6) "down"=some none)
  (nf6_3:findIn K (.ref C6) "word"=some none)
  (nf6_4:findIn K (.ref C6) "parts"=some none)
  (nf6_5:findIn K (.ref C6) "signs"=some none)
  (nf6_6:findIn K (.ref C6) "above"=some none)
  (nf6_7:findIn K (.ref C6) "beneath"=some none)
  (nf6_8:findIn K (.ref C6) "inner"=some none)
  (nf6_9:findIn K (.ref C6) "item"=some none)
  (nf6_10:findIn K (.ref C6) "raised"=some none)
  (nf6_11:findIn K (.ref C6) "lowered"=some none)
  (nf6_12:findIn K (.ref C6) "bands"=some none)
  (nf6_13:findIn K (.ref C6) "widths"=some none)
  (nf6_14:findIn K (.ref C6) "band_numbers"=some none)
  (nf6_15:findIn K (.ref C6) "lows"=some none)
  (pg7:plainGet K C7 Str.empty=true)
  (hd7:hasDictIn K C7=true)
  (po7:plainOver K C7=true)
  (sa7:findIn K (.ref C7) "__setattr__"=some (some (.builtin "object.__setattr__")))
  (fm7_spots:findIn K (.ref C7) "spots"=some (some (.ref z48)))
  (nf7_0:findIn K (.ref C7) "wide"=some none)
  (nf7_1:findIn K (.ref C7) "up"=some none)
  (nf7_2:findIn K (.ref C7) "down"=some none)
  (nf7_3:findIn K (.ref C7) "word"=some none)
  (nf7_4:findIn K (.ref C7) "parts"=some none)
  (nf7_5:findIn K (.ref C7) "signs"=some none)
  (nf7_6:findIn K (.ref C7) "above"=some none)
  (nf7_7:findIn K (.ref C7) "beneath"=some none)
  (nf7_8:findIn K (.ref C7) "inner"=some none)
  (nf7_9:findIn K (.ref C7) "item"=some none)
  (nf7_10:findIn K (.ref C7) "raised"=some none)
  (nf7_11:findIn K (.ref C7) "lowered"=some none)
  (nf7_12:findIn K (.ref C7) "bands"=some none)
  (nf7_13:findIn K (.ref C7) "widths"=some none)
  (nf7_14:findIn K (.ref C7) "band_numbers"=some none)
  (nf7_15:findIn K (.ref C7) "lows"=some none)
  (mk1:makesIn K C1=true)
  (fi1:findIn K (.ref C1) "__init__"=some (some (.ref z61)))
  (kc1:keepIn K (.ref C1)=true)
  (mk2:makesIn K C2=true)
  (fi2:findIn K (.ref C2) "__init__"=some (some (.ref z45)))
  (kc2:keepIn K (.ref C2)=true)
  (mk3:makesIn K C3=true)
  (fi3:findIn K (.ref C3) "__init__"=some (some (.ref z55)))
  (kc3:keepIn K (.ref C3)=true)
  (mk4:makesIn K C4=true)
  (fi4:findIn K (.ref C4) "__init__"=some (some (.ref z57)))
  (kc4:keepIn K (.ref C4)=true)
  (mk5:makesIn K C5=true)
  (fi5:findIn K (.ref C5) "__init__"=some (some (.ref z51)))
  (kc5:keepIn K (.ref C5)=true)
  (mk6:makesIn K C6=true)
  (fi6:findIn K (.ref C6) "__init__"=some (some (.ref z49)))
  (kc6:keepIn K (.ref C6)=true)
  (mk7:makesIn K C7=true)
  (fi7:findIn K (.ref C7) "__init__"=some (some (.ref z47)))
  (kc7:keepIn K (.ref C7)=true)
  (sg0:PySem.W.specialIn K (.ref C0) "__getattribute__"=some (some (.builtin "type.__getattribute__")))
  (rd0:PySem.W.readsIn K C0 (.type "type")=true)
  (fc0:PySem.W.findCls K (.ref C0) (.type "type") "__init__"=some (.val (.ref z59)))
  : ∃ fd:FuncData,(∀ (s:Shared) (v:Value),BindsTo s fd ⟨[v],[]⟩ [("script",v)])∧∀ base:Heap,K.In base→base.Ns mainGlobals mg→fR l.prog w K mg base CX0 48 fa fd ["script"] (spL K ud):=by
 have e:=hfa.symm.trans (PySem.W.mg_of X G a47)
 cases e
 have T:Txt l.prog w K mg C0 C1 C2 C3 C4 C5 C6 C7 z59 z47 z61 z45 z55 z57 z51 z49 z60 z46 z56 z58 z53 z52 z54 z50 z48:=⟨PySem.W.mg_none_of X G z1,PySem.W.mg_none_of X G z2,PySem.W.mg_none_of X G z3,PySem.W.mg_none_of X G z4,PySem.W.mg_none_of X G z5,PySem.W.mg_none_of X G z6,PySem.W.mg_none_of X G z7,PySem.W.mg_none_of X G z8,PySem.W.mg_none_of X G z9,PySem.W.mg_none_of X G z10,PySem.W.mg_none_of X G z11,PySem.W.mg_none_of X G z12,xJ (PySem.W.mg_of X G ua1) ul1 ue1,⟨pg0,hd0,po0,sa0⟩,PySem.W.mg_of X G aC0,⟨fm0_spots,i_Sketch_spots,k_Sketch_spots⟩,⟨pg1,hd1,po1,sa1⟩,PySem.W.mg_of X G aC1,⟨fm1_spots,i_Sketch_spots,k_Sketch_spots⟩,⟨pg2,hd2,po2,sa2⟩,PySem.W.mg_of X G aC2,⟨fm2_spots,i_Chain_spots,k_Chain_spots⟩,⟨pg3,hd3,po3,sa3⟩,PySem.W.mg_of X G aC3,⟨fm3_spots,i_Over_spots,k_Over_spots⟩,⟨pg4,hd4,po4,sa4⟩,PySem.W.mg_of X G aC4,⟨fm4_spots,i_Root_spots,k_Root_spots⟩,⟨pg5,hd5,po5,sa5⟩,PySem.W.mg_of X G aC5,⟨fm5_spots,i_Marked_spots,k_Marked_spots⟩,⟨fm5_raised_low,i_Marked_raised_low,k_Marked_raised_low⟩,⟨fm5_lowered_low,i_Marked_lowered_low,k_Marked_lowered_low⟩,⟨pg6,hd6,po6,sa6⟩,PySem.W.mg_of X G aC6,⟨fm6_spots,i_Held_spots,k_Held_spots⟩,⟨pg7,hd7,po7,sa7⟩,PySem.W.mg_of X G aC7,⟨fm7_spots,i_Grid_spots,k_Grid_spots⟩,⟨mk1,fi1,i_Word_init,kc1⟩,⟨mk2,fi2,i_Chain_init,kc2⟩,⟨mk3,fi3,i_Over_init,kc3⟩,⟨mk4,fi4,i_Root_init,kc4⟩,⟨mk5,fi5,i_Marked_init,kc5⟩,⟨mk6,fi6,i_Held_init,kc6⟩,⟨mk7,fi7,i_Grid_init,kc7⟩,⟨sg0,⟨_,rd0,fc0⟩,rfl,k_Sketch_init⟩,fw (nm:="wide") rfl (by w_left) (by w_left) (ax ⟨⟨pg0,hd0,po0,sa0⟩,nf0_0⟩ (ax ⟨⟨pg1,hd1,po1,sa1⟩,nf1_0⟩ (ax ⟨⟨pg2,hd2,po2,sa2⟩,nf2_0⟩ (ax ⟨⟨pg3,hd3,po3,sa3⟩,nf3_0⟩ (ax ⟨⟨pg4,hd4,po4,sa4⟩,nf4_0⟩ (ax ⟨⟨pg5,hd5,po5,sa5⟩,nf5_0⟩ (ax ⟨⟨pg6,hd6,po6,sa6⟩,nf6_0⟩ (ax ⟨⟨pg7,hd7,po7,sa7⟩,nf7_0⟩ hR)))))))),fw (nm:="up") rfl (by w_left) (by w_left) (ax ⟨⟨pg0,hd0,po0,sa0⟩,nf0_1⟩ (ax ⟨⟨pg1,hd1,po1,sa1⟩,nf1_1⟩ (ax ⟨⟨pg2,hd2,po2,sa2⟩,nf2_1⟩ (ax ⟨⟨pg3,hd3,po3,sa3⟩,nf3_1⟩ (ax ⟨⟨pg4,hd4,po4,sa4⟩,nf4_1⟩ (ax ⟨⟨pg5,hd5,po5,sa5⟩,nf5_1⟩ (ax ⟨⟨pg6,hd6,po6,sa6⟩,nf6_1⟩ (ax ⟨⟨pg7,hd7,po7,sa7⟩,nf7_1⟩ hR)))))))),fw (nm:="down") rfl (by w_left) (by w_left) (ax ⟨⟨pg0,hd0,po0,sa0⟩,nf0_2⟩ (ax ⟨⟨pg1,hd1,po1,sa1⟩,nf1_2⟩ (ax ⟨⟨pg2,hd2,po2,sa2⟩,nf2_2⟩ (ax ⟨⟨pg3,hd3,po3,sa3⟩,nf3_2⟩ (ax ⟨⟨pg4,hd4,po4,sa4⟩,nf4_2⟩ (ax ⟨⟨pg5,hd5,po5,sa5⟩,nf5_2⟩ (ax ⟨⟨pg6,hd6,po6,sa6⟩,nf6_2⟩ (ax ⟨⟨pg7,hd7,po7,sa7⟩,nf7_2⟩ hR)))))))),fw (nm:="word") rfl (by w_left) (by w_left) (ax ⟨⟨pg0,hd0,po0,sa0⟩,nf0_3⟩ (ax ⟨⟨pg1,hd1,po1,sa1⟩,nf1_3⟩ (ax ⟨⟨pg2,hd2,po2,sa2⟩,nf2_3⟩ (ax ⟨⟨pg3,hd3,po3,sa3⟩,nf3_3⟩ (ax ⟨⟨pg4,hd4,po4,sa4⟩,nf4_3⟩ (ax ⟨⟨pg5,hd5,po5,sa5⟩,nf5_3⟩ (ax ⟨⟨pg6,hd6,po6,sa6⟩,nf6_3⟩ (ax ⟨⟨pg7,hd7,po7,sa7⟩,nf7_3⟩ hR)))))))),fw (nm:="parts") rfl (by w_left) (by w_left) (ax ⟨⟨pg0,hd0,po0,sa0⟩,nf0_4⟩ (ax ⟨⟨pg1,hd1,po1,sa1⟩,nf1_4⟩ (ax ⟨⟨pg2,hd2,po2,sa2⟩,nf2_4⟩ (ax ⟨⟨pg3,hd3,po3,sa3⟩,nf3_4⟩ (ax ⟨⟨pg4,hd4,po4,sa4⟩,nf4_4⟩ (ax ⟨⟨pg5,hd5,po5,sa5⟩,nf5_4⟩ (ax ⟨⟨pg6,hd6,po6,sa6⟩,nf6_4⟩ (ax ⟨⟨pg7,hd7,po7,sa7⟩,nf7_4⟩ hR)))))))),fw (nm:="signs") rfl (by w_left) (by w_left) (ax ⟨⟨pg0,hd0,po0,sa0⟩,nf0_5⟩ (ax ⟨⟨pg1,hd1,po1,sa1⟩,nf1_5⟩ (ax ⟨⟨pg2,hd2,po2,sa2⟩,nf2_5⟩ (ax ⟨⟨pg3,hd3,po3,sa3⟩,nf3_5⟩ (ax ⟨⟨pg4,hd4,po4,sa4⟩,nf4_5⟩ (ax ⟨⟨pg5,hd5,po5,sa5⟩,nf5_5⟩ (ax ⟨⟨pg6,hd6,po6,sa6⟩,nf6_5⟩ (ax ⟨⟨pg7,hd7,po7,sa7⟩,nf7_5⟩ hR)))))))),fw (nm:="above") rfl (by w_left) (by w_left) (ax ⟨⟨pg0,hd0,po0,sa0⟩,nf0_6⟩ (ax ⟨⟨pg1,hd1,po1,sa1⟩,nf1_6⟩ (ax ⟨⟨pg2,hd2,po2,sa2⟩,nf2_6⟩ (ax ⟨⟨pg3,hd3,po3,sa3⟩,nf3_6⟩ (ax ⟨⟨pg4,hd4,po4,sa4⟩,nf4_6⟩ (ax ⟨⟨pg5,hd5,po5,sa5⟩,nf5_6⟩ (ax ⟨⟨pg6,hd6,po6,sa6⟩,nf6_6⟩ (ax ⟨⟨pg7,hd7,po7,sa7⟩,nf7_6⟩ hR)))))))),fw (nm:="beneath") rfl (by w_left) (by w_left) (ax ⟨⟨pg0,hd0,po0,sa0⟩,nf0_7⟩ (ax ⟨⟨pg1,hd1,po1,sa1⟩,nf1_7⟩ (ax ⟨⟨pg2,hd2,po2,sa2⟩,nf2_7⟩ (ax ⟨⟨pg3,hd3,po3,sa3⟩,nf3_7⟩ (ax ⟨⟨pg4,hd4,po4,sa4⟩,nf4_7⟩ (ax ⟨⟨pg5,hd5,po5,sa5⟩,nf5_7⟩ (ax ⟨⟨pg6,hd6,po6,sa6⟩,nf6_7⟩ (ax ⟨⟨pg7,hd7,po7,sa7⟩,nf7_7⟩ hR)))))))),fw (nm:="inner") rfl (by w_left) (by w_left) (ax ⟨⟨pg0,hd0,po0,sa0⟩,nf0_8⟩ (ax ⟨⟨pg1,hd1,po1,sa1⟩,nf1_8⟩ (ax ⟨⟨pg2,hd2,po2,sa2⟩,nf2_8⟩ (ax ⟨⟨pg3,hd3,po3,sa3⟩,nf3_8⟩ (ax ⟨⟨pg4,hd4,po4,sa4⟩,nf4_8⟩ (ax ⟨⟨pg5,hd5,po5,sa5⟩,nf5_8⟩ (ax ⟨⟨pg6,hd6,po6,sa6⟩,nf6_8⟩ (ax ⟨⟨pg7,hd7,po7,sa7⟩,nf7_8⟩ hR)))))))),fw (nm:="item") rfl (by w_left) (by w_left) (ax ⟨⟨pg0,hd0,po0,sa0⟩,nf0_9⟩ (ax ⟨⟨pg1,hd1,po1,sa1⟩,nf1_9⟩ (ax ⟨⟨pg2,hd2,po2,sa2⟩,nf2_9⟩ (ax ⟨⟨pg3,hd3,po3,sa3⟩,nf3_9⟩ (ax ⟨⟨pg4,hd4,po4,sa4⟩,nf4_9⟩ (ax ⟨⟨pg5,hd5,po5,sa5⟩,nf5_9⟩ (ax ⟨⟨pg6,hd6,po6,sa6⟩,nf6_9⟩ (ax ⟨⟨pg7,hd7,po7,sa7⟩,nf7_9⟩ hR)))))))),fw (nm:="raised") rfl (by w_left) (by w_left) (ax ⟨⟨pg0,hd0,po0,sa0⟩,nf0_10⟩ (ax ⟨⟨pg1,hd1,po1,sa1⟩,nf1_10⟩ (ax ⟨⟨pg2,hd2,po2,sa2⟩,nf2_10⟩ (ax ⟨⟨pg3,hd3,po3,sa3⟩,nf3_10⟩ (ax ⟨⟨pg4,hd4,po4,sa4⟩,nf4_10⟩ (ax ⟨⟨pg5,hd5,po5,sa5⟩,nf5_10⟩ (ax ⟨⟨pg6,hd6,po6,sa6⟩,nf6_10⟩ (ax ⟨⟨pg7,hd7,po7,sa7⟩,nf7_10⟩ hR)))))))),fw (nm:="lowered") rfl (by w_left) (by w_left) (ax ⟨⟨pg0,hd0,po0,sa0⟩,nf0_11⟩ (ax ⟨⟨pg1,hd1,po1,sa1⟩,nf1_11⟩ (ax ⟨⟨pg2,hd2,po2,sa2⟩,nf2_11⟩ (ax ⟨⟨pg3,hd3,po3,sa3⟩,nf3_11⟩ (ax ⟨⟨pg4,hd4,po4,sa4⟩,nf4_11⟩ (ax ⟨⟨pg5,hd5,po5,sa5⟩,nf5_11⟩ (ax ⟨⟨pg6,hd6,po6,sa6⟩,nf6_11⟩ (ax ⟨⟨pg7,hd7,po7,sa7⟩,nf7_11⟩ hR)))))))),fw (nm:="bands") rfl (by w_left) (by w_left) (ax ⟨⟨pg0,hd0,po0,sa0⟩,nf0_12⟩ (ax ⟨⟨pg1,hd1,po1,sa1⟩,nf1_12⟩ (ax ⟨⟨pg2,hd2,po2,sa2⟩,nf2_12⟩ (ax ⟨⟨pg3,hd3,po3,sa3⟩,nf3_12⟩ (ax ⟨⟨pg4,hd4,po4,sa4⟩,nf4_12⟩ (ax ⟨⟨pg5,hd5,po5,sa5⟩,nf5_12⟩ (ax ⟨⟨pg6,hd6,po6,sa6⟩,nf6_12⟩ (ax ⟨⟨pg7,hd7,po7,sa7⟩,nf7_12⟩ hR)))))))),fw (nm:="widths") rfl (by w_left) (by w_left) (ax ⟨⟨pg0,hd0,po0,sa0⟩,nf0_13⟩ (ax ⟨⟨pg1,hd1,po1,sa1⟩,nf1_13⟩ (ax ⟨⟨pg2,hd2,po2,sa2⟩,nf2_13⟩ (ax ⟨⟨pg3,hd3,po3,sa3⟩,nf3_13⟩ (ax ⟨⟨pg4,hd4,po4,sa4⟩,nf4_13⟩ (ax ⟨⟨pg5,hd5,po5,sa5⟩,nf5_13⟩ (ax ⟨⟨pg6,hd6,po6,sa6⟩,nf6_13⟩ (ax ⟨⟨pg7,hd7,po7,sa7⟩,nf7_13⟩ hR)))))))),fw (nm:="band_numbers") rfl (by w_left) (by w_left) (ax ⟨⟨pg0,hd0,po0,sa0⟩,nf0_14⟩ (ax ⟨⟨pg1,hd1,po1,sa1⟩,nf1_14⟩ (ax ⟨⟨pg2,hd2,po2,sa2⟩,nf2_14⟩ (ax ⟨⟨pg3,hd3,po3,sa3⟩,nf3_14⟩ (ax ⟨⟨pg4,hd4,po4,sa4⟩,nf4_14⟩ (ax ⟨⟨pg5,hd5,po5,sa5⟩,nf5_14⟩ (ax ⟨⟨pg6,hd6,po6,sa6⟩,nf6_14⟩ (ax ⟨⟨pg7,hd7,po7,sa7⟩,nf7_14⟩ hR)))))))),fw (nm:="lows") rfl (by w_left) (by w_left) (ax ⟨⟨pg0,hd0,po0,sa0⟩,nf0_15⟩ (ax ⟨⟨pg1,hd1,po1,sa1⟩,nf1_15⟩ (ax ⟨⟨pg2,hd2,po2,sa2⟩,nf2_15⟩ (ax ⟨⟨pg3,hd3,po3,sa3⟩,nf3_15⟩ (ax ⟨⟨pg4,hd4,po4,sa4⟩,nf4_15⟩ (ax ⟨⟨pg5,hd5,po5,sa5⟩,nf5_15⟩ (ax ⟨⟨pg6,hd6,po6,sa6⟩,nf6_15⟩ (ax ⟨⟨pg7,hd7,po7,sa7⟩,nf7_15⟩ hR))))))))⟩
 have F1:=aR (st:=dO) l1 c1 k1
 have b1:=F1.binds (ps:=["one"]) fun _ _ _ _ _ _ us hl=>(by obtain ⟨y0,rfl⟩:=ex1 hl; rfl)
 have F2:=aR (st:=fY) l2 c2 k2
 have b2:=F2.binds (ps:=["one", "least"]) fun _ _ _ _ _ _ us hl=>(by obtain ⟨y0,y1,rfl⟩:=ex2 hl; rfl)
 have F3:=aR (st:=dP) l3 c3 k3
 have b3:=F3.binds (ps:=["some", "kind", "by"]) fun _ _ _ _ _ _ us hl=>(by obtain ⟨y0,y1,y2,rfl⟩:=ex3 hl; rfl)
 have F4:=aR (st:=eO) l4 c4 k4
 have b4:=F4.binds (ps:=["way", "by"]) fun _ _ _ _ _ _ us hl=>(by obtain ⟨y0,y1,rfl⟩:=ex2 hl; rfl)
 have F5:=aR (st:=eP) l5 c5 k5
 have b5:=F5.binds (ps:=["some", "way", "by"]) fun _ _ _ _ _ _ us hl=>(by obtain ⟨y0,y1,y2,rfl⟩:=ex3 hl; rfl)
 have F6:=aR (st:=eQ) l6 c6 k6
 have b6:=F6.binds (ps:=["cell"]) fun _ _ _ _ _ _ us hl=>(by obtain ⟨y0,rfl⟩:=ex1 hl; rfl)
 have F7:=aR (st:=eR) l7 c7 k7
 have b7:=F7.binds (ps:=["cell"]) fun _ _ _ _ _ _ us hl=>(by obtain ⟨y0,rfl⟩:=ex1 hl; rfl)
 have F8:=aR (st:=eS) l8 c8 k8
 have b8:=F8.binds (ps:=["stack", "cell"]) fun _ _ _ _ _ _ us hl=>(by obtain ⟨y0,y1,rfl⟩:=ex2 hl; rfl)
 have F9:=aR (st:=cH) l9 c9 k9
 have b9:=F9.binds (ps:=["script"]) fun _ _ _ _ _ _ us hl=>(by obtain ⟨y0,rfl⟩:=ex1 hl; rfl)
 have F10:=aR (st:=bN) l10 c10 k10
 have b10:=F10.binds (ps:=["bands"]) fun _ _ _ _ _ _ us hl=>(by obtain ⟨y0,rfl⟩:=ex1 hl; rfl)
 have F11:=aR (st:=cI) l11 c11 k11
 have b11:=F11.binds (ps:=["band"]) fun _ _ _ _ _ _ us hl=>(by obtain ⟨y0,rfl⟩:=ex1 hl; rfl)
 have F12:=aR (st:=cJ) l12 c12 k12
 have b12:=F12.binds (ps:=["band"]) fun _ _ _ _ _ _ us hl=>(by obtain ⟨y0,rfl⟩:=ex1 hl; rfl)
 have F13:=aR (st:=bF) l13 c13 k13
 have b13:=F13.binds (ps:=["bands"]) fun _ _ _ _ _ _ us hl=>(by obtain ⟨y0,rfl⟩:=ex1 hl; rfl)
 have F14:=aR (st:=cK) l14 c14 k_Sketch_init
 have b14:=F14.binds (ps:=["self", "wide", "up", "down"]) fun _ _ _ _ _ _ us hl=>(by obtain ⟨y0,y1,y2,y3,rfl⟩:=ex4 hl; rfl)
 have F15:=aR (st:=dQ) l15 c15 k15
 have b15:=F15.binds (ps:=["bands", "up"]) fun _ _ _ _ _ _ us hl=>(by obtain ⟨y0,y1,rfl⟩:=ex2 hl; rfl)
 have F16:=aR (st:=dR) l16 c16 k_Grid_init
 have b16:=F16.binds (ps:=["self", "bands"]) fun _ _ _ _ _ _ us hl=>(by obtain ⟨y0,y1,rfl⟩:=ex2 hl; rfl)
 have F17:=aR (st:=dS) l17 c17 k_Word_init
 have b17:=F17.binds (ps:=["self", "word"]) fun _ _ _ _ _ _ us hl=>(by obtain ⟨y0,y1,rfl⟩:=ex2 hl; rfl)
 have F18:=aR (st:=dc) l18 c18 k_Chain_init
 have b18:=F18.binds (ps:=["self", "parts", "signs"]) fun _ _ _ _ _ _ us hl=>(by obtain ⟨y0,y1,y2,rfl⟩:=ex3 hl; rfl)
 have F19:=aR (st:=dU) l19 c19 k19
 have b19:=F19.binds (ps:=["sketch"]) fun _ _ _ _ _ _ us hl=>(by obtain ⟨y0,rfl⟩:=ex1 hl; rfl)
 have F20:=aR (st:=dW) l20 c20 k_Over_init
 have b20:=F20.binds (ps:=["self", "above", "beneath"]) fun _ _ _ _ _ _ us hl=>(by obtain ⟨y0,y1,y2,rfl⟩:=ex3 hl; rfl)
 have F21:=aR (st:=dX) l21 c21 k_Root_init
 have b21:=F21.binds (ps:=["self", "inner"]) fun _ _ _ _ _ _ us hl=>(by obtain ⟨y0,y1,rfl⟩:=ex2 hl; rfl)
 have F22:=aR (st:=cL) l22 c22 k_Marked_init
 have b22:=F22.binds (ps:=["self", "item", "raised", "lowered"]) fun _ _ _ _ _ _ us hl=>(by obtain ⟨y0,y1,y2,y3,rfl⟩:=ex4 hl; rfl)
 have F23:=aR (st:=dY) l23 c23 k_Held_init
 have b23:=F23.binds (ps:=["self", "inner"]) fun _ _ _ _ _ _ us hl=>(by obtain ⟨y0,y1,rfl⟩:=ex2 hl; rfl)
 have F24:=aR (st:=eT) l24 c24 k24
 have b24:=F24.binds (ps:=["f"]) fun _ _ _ _ _ _ us hl=>(by obtain ⟨y0,rfl⟩:=ex1 hl; rfl)
 have F25:=aR (st:=eU) l25 c25 k25
 have b25:=F25.binds (ps:=["bands"]) fun _ _ _ _ _ _ us hl=>(by obtain ⟨y0,rfl⟩:=ex1 hl; rfl)
 have F26:=aR (st:=eV) l26 c26 k26
 have b26:=F26.binds (ps:=["f"]) fun _ _ _ _ _ _ us hl=>(by obtain ⟨y0,rfl⟩:=ex1 hl; rfl)
 have F27:=aR (st:=dZ) l27 c27 k27
 have b27:=F27.binds (ps:=["f"]) fun _ _ _ _ _ _ us hl=>(by obtain ⟨y0,rfl⟩:=ex1 hl; rfl)
 have F28:=aR (st:=cM) l28 c28 k28
 have b28:=F28.binds (ps:=["some"]) fun _ _ _ _ _ _ us hl=>(by obtain ⟨y0,rfl⟩:=ex1 hl; rfl)
 have F29:=aR (st:=cN) l29 c29 k29
 have b29:=F29.binds (ps:=["mark"]) fun _ _ _ _ _ _ us hl=>(by obtain ⟨y0,rfl⟩:=ex1 hl; rfl)
 have F30:=aR (st:=cm) l30 c30 k_Sketch_spots
 have b30:=F30.binds (ps:=["self"]) fun _ _ _ _ _ _ us hl=>(by obtain ⟨y0,rfl⟩:=ex1 hl; rfl)
 have F31:=aR (st:=cO) l31 c31 k_Chain_spots
 have b31:=F31.binds (ps:=["self"]) fun _ _ _ _ _ _ us hl=>(by obtain ⟨y0,rfl⟩:=ex1 hl; rfl)
 have F32:=aR (st:=fZ) l32 c32 k32
 have b32:=F32.binds (ps:=["narrow", "wide"]) fun _ _ _ _ _ _ us hl=>(by obtain ⟨y0,y1,rfl⟩:=ex2 hl; rfl)
 have F33:=aR (st:=df) l33 c33 k_Over_spots
 have b33:=F33.binds (ps:=["self"]) fun _ _ _ _ _ _ us hl=>(by obtain ⟨y0,rfl⟩:=ex1 hl; rfl)
 have F34:=aR (st:=dg) l34 c34 k_Root_spots
 have b34:=F34.binds (ps:=["self"]) fun _ _ _ _ _ _ us hl=>(by obtain ⟨y0,rfl⟩:=ex1 hl; rfl)
 have F35:=aR (st:=bo) l35 c35 k_Marked_raised_low
 have b35:=F35.binds (ps:=["self"]) fun _ _ _ _ _ _ us hl=>(by obtain ⟨y0,rfl⟩:=ex1 hl; rfl)
 have F36:=aR (st:=bc) l36 c36 k_Marked_lowered_low
 have b36:=F36.binds (ps:=["self"]) fun _ _ _ _ _ _ us hl=>(by obtain ⟨y0,rfl⟩:=ex1 hl; rfl)
 have F37:=aR (st:=cp) l37 c37 k_Marked_spots
 have b37:=F37.binds (ps:=["self"]) fun _ _ _ _ _ _ us hl=>(by obtain ⟨y0,rfl⟩:=ex1 hl; rfl)
 have F38:=aR (st:=dh) l38 c38 k_Held_spots
 have b38:=F38.binds (ps:=["self"]) fun _ _ _ _ _ _ us hl=>(by obtain ⟨y0,rfl⟩:=ex1 hl; rfl)
 have F39:=aR (st:=di) l39 c39 k_Grid_spots
 have b39:=F39.binds (ps:=["self"]) fun _ _ _ _ _ _ us hl=>(by obtain ⟨y0,rfl⟩:=ex1 hl; rfl)
 have F40:=aR (st:=bP) l40 c40 k40
 have b40:=F40.binds (ps:=["sketch", "path", "base", "left"]) fun _ _ _ _ _ _ us hl=>(by obtain ⟨y0,y1,y2,y3,rfl⟩:=ex4 hl; rfl)
 have F41:=aR (st:=ed) l41 c41 k41
 have b41:=F41.binds (ps:=["f"]) fun _ _ _ _ _ _ us hl=>(by obtain ⟨y0,rfl⟩:=ex1 hl; rfl)
 have F42:=aR (st:=dj) l42 c42 k42
 have b42:=F42.binds (ps:=["cell", "size"]) fun _ _ _ _ _ _ us hl=>(by obtain ⟨y0,y1,rfl⟩:=ex2 hl; rfl)
 have F43:=aR (st:=g8) l43 c43 k43
 have b43:=F43.binds (ps:=["f", "row", "column"]) fun _ _ _ _ _ _ us hl=>(by obtain ⟨y0,y1,y2,rfl⟩:=ex3 hl; rfl)
 have F44:=aR (st:=cP) l44 c44 k44
 have b44:=F44.binds (ps:=["script", "k"]) fun _ _ _ _ _ _ us hl=>(by obtain ⟨y0,y1,rfl⟩:=ex2 hl; rfl)
 have F45:=aR (st:=g9) l45 c45 k45
 have b45:=F45.binds (ps:=["place", "row", "column"]) fun _ _ _ _ _ _ us hl=>(by obtain ⟨y0,y1,y2,rfl⟩:=ex3 hl; rfl)
 have F46:=aR (st:=bQ) l46 c46 k46
 have b46:=F46.binds (ps:=["places", "found", "row", "column"]) fun _ _ _ _ _ _ us hl=>(by obtain ⟨y0,y1,y2,y3,rfl⟩:=ex4 hl; rfl)
 have F47:=aR (st:=kh) l47 c47 k47
 have b47:=F47.binds (ps:=["script"]) fun _ _ _ _ _ _ us hl=>(by obtain ⟨y0,rfl⟩:=ex1 hl; rfl)
 refine ⟨fnOf "law" "law" (aE kh) (aq kh) (ag kh) .none kV47 dc47 pm47 an47 cd47 ct47,fun s v=>.of_eq rfl,fun base _ _=>?_⟩
 have z25:Def l.prog w K mg base (ct C0 C1 C2 C3 C4 C5 C6 C7) "_law_level" ["one"] 1 gN:=dE F1 uv (PySem.W.mg_of X G a1) b1 (pA T  )
 have z22:Def l.prog w K mg base (ct C0 C1 C2 C3 C4 C5 C6 C7) "_law_fit" ["one", "least"] 2 fW:=dE F2 yk (PySem.W.mg_of X G a2) b2 (sG T z25 )
 have z21:Def l.prog w K mg base (ct C0 C1 C2 C3 C4 C5 C6 C7) "_law_chain" ["some", "kind", "by"] 3 d6:=dE F3 uw (PySem.W.mg_of X G a3) b3 (pB T z22 )
 have z27:Def l.prog w K mg base (ct C0 C1 C2 C3 C4 C5 C6 C7) "_law_many" ["way", "by"] 1 bS:=dE F4 vE (PySem.W.mg_of X G a4) b4 (qg T  )
 have z26:Def l.prog w K mg base (ct C0 C1 C2 C3 C4 C5 C6 C7) "_law_made" ["some", "way", "by"] 4 bK:=dE F5 vF (PySem.W.mg_of X G a5) b5 (qh T z21 z22 )
 have z31:Def l.prog w K mg base (ct C0 C1 C2 C3 C4 C5 C6 C7) "_law_word" ["cell"] 1 iD:=dE F6 vG (PySem.W.mg_of X G a6) b6 (qi T  )
 have z19:Def l.prog w K mg base (ct C0 C1 C2 C3 C4 C5 C6 C7) "_law_atom" ["cell"] 2 gw:=dE F7 vH (PySem.W.mg_of X G a7) b7 (qj T z31 )
 have z30:i0 l.prog w K mg base (ct C0 C1 C2 C3 C4 C5 C6 C7) "_law_step" ["stack", "cell"] 5 fT:=i5 F8 vI (PySem.W.mg_of X G a8) b8 (qk T z27 z26 z19 )
 have z23:Def l.prog w K mg base (ct C0 C1 C2 C3 C4 C5 C6 C7) "_law_formula" ["script"] 6 bY:=dE F9 pU (PySem.W.mg_of X G a9) b9 (mT T z21 z30 )
 have z16:i0 l.prog w K mg base (ct C0 C1 C2 C3 C4 C5 C6 C7) "column_widths" ["bands"] 1 eo:=i5 F10 nz (PySem.W.mg_of X G a10) b10 (lF T  )
 have z17:Def l.prog w K mg base (ct C0 C1 C2 C3 C4 C5 C6 C7) "greatest_up" ["band"] 1 cF:=dE F11 pV (PySem.W.mg_of X G a11) b11 (mU T  )
 have z13:Def l.prog w K mg base (ct C0 C1 C2 C3 C4 C5 C6 C7) "band_height" ["band"] 2 cG:=dE F12 pW (PySem.W.mg_of X G a12) b12 (mV T z17 )
 have z34:i0 l.prog w K mg base (ct C0 C1 C2 C3 C4 C5 C6 C7) "numbers_by_row" ["bands"] 3 dG:=i5 F13 mR (PySem.W.mg_of X G a13) b13 (kK T z13 )
 have BJ_Sketch:rX l.prog w K mg base (ct C0 C1 C2 C3 C4 C5 C6 C7) "Sketch" 3 1 jZ:=Ag F14 kX b14 (jc T  ) T.r6 T.r9
 have B_Sketch:m5 l.prog w K mg base (ct C0 C1 C2 C3 C4 C5 C6 C7) "Sketch" 3 1 cR:=nO F14 kX b14 (jc T  ) T.r6 T.r9
 have z14:i0 l.prog w K mg base (ct C0 C1 C2 C3 C4 C5 C6 C7) "band_lows" ["bands", "up"] 3 gO:=i5 F15 ux (PySem.W.mg_of X G a15) b15 (pC T z13 z17 )
 have M_Grid:hJ l.prog w K mg base (ct C0 C1 C2 C3 C4 C5 C6 C7) "Grid" 1 4 7 mM:=ju F16 uy b16 (pE T z16 z34 z14 BJ_Sketch ) T.CU rfl T.D0
 have M_Word:hJ l.prog w K mg base (ct C0 C1 C2 C3 C4 C5 C6 C7) "Word" 1 3 1 mN:=ju F17 uz b17 (pF T B_Sketch ) T.CL rfl T.CV
 have M_Chain:hJ l.prog w K mg base (ct C0 C1 C2 C3 C4 C5 C6 C7) "Chain" 2 3 2 m9:=ju F18 sr b18 (nH T B_Sketch ) T.Ay rfl T.Az
 have z18:Def l.prog w K mg base (ct C0 C1 C2 C3 C4 C5 C6 C7) "height_of" ["sketch"] 1 cb:=dE F19 uA (PySem.W.mg_of X G a19) b19 (pG T  )
 have M_Over:hJ l.prog w K mg base (ct C0 C1 C2 C3 C4 C5 C6 C7) "Over" 2 3 3 oX:=ju F20 uB b20 (pH T z18 B_Sketch ) T.CN rfl T.CW
 have M_Root:hJ l.prog w K mg base (ct C0 C1 C2 C3 C4 C5 C6 C7) "Root" 1 3 4 oY:=ju F21 uC b21 (pI T B_Sketch ) T.CP rfl T.CY
 have M_Marked:hJ l.prog w K mg base (ct C0 C1 C2 C3 C4 C5 C6 C7) "Marked" 3 3 5 gP:=ju F22 pX b22 (mW T z18 B_Sketch ) T.yp rfl T.yq
 have M_Held:hJ l.prog w K mg base (ct C0 C1 C2 C3 C4 C5 C6 C7) "Held" 1 3 6 oZ:=ju F23 uD b23 (pJ T B_Sketch ) T.CS rfl T.CZ
 have z39:Def l.prog w K mg base (ct C0 C1 C2 C3 C4 C5 C6 C7) "signs_of" ["f"] 1 dt:=dE F24 vJ (PySem.W.mg_of X G a24) b24 (ql T  )
 have z15:i0 l.prog w K mg base (ct C0 C1 C2 C3 C4 C5 C6 C7) "cells_of" ["bands"] 1 lE:=i5 F25 vK (PySem.W.mg_of X G a25) b25 (qm T  )
 have z35:i0 l.prog w K mg base (ct C0 C1 C2 C3 C4 C5 C6 C7) "parts_of" ["f"] 2 iF:=i5 F26 vL (PySem.W.mg_of X G a26) b26 (qo T z15 )
 have RG0:∀ n:Nat,x3 l.prog w K mg base C0 C1 C2 C3 C4 C5 C6 C7 z59 z47 z61 z45 z55 z57 z51 z49 z60 z46 z56 z58 z53 z52 z54 z50 z48 (5+n) (DN0 n):=fun n=>Nat.rec ⟨tE F27 (PySem.W.mg_of X G a27) b27,qJ F28 (PySem.W.mg_of X G a28) b28,tE F29 (PySem.W.mg_of X G a29) b29⟩ (fun n ih=>⟨dE F27 uE (PySem.W.mg_of X G a27) b27 (pK T z39 z35 M_Word M_Chain M_Over M_Root M_Marked M_Held M_Grid (Nat.le_add_right 5 n) ih  ),i5 F28 pY (PySem.W.mg_of X G a28) b28 (mX T  (Nat.le_add_right 5 n) ih  ),dE F29 pZ (PySem.W.mg_of X G a29) b29 (mY T  (Nat.le_add_right 5 n) ih  )⟩) n
 have z40:Def l.prog w K mg base (ct C0 C1 C2 C3 C4 C5 C6 C7) "sketch_of" ["f"] 45 ka:=(RG0 qT).bf
 have z41:i0 l.prog w K mg base (ct C0 C1 C2 C3 C4 C5 C6 C7) "sketches_of" ["some"] 45 pS:=(RG0 qT).cg
 have z33:Def l.prog w K mg base (ct C0 C1 C2 C3 C4 C5 C6 C7) "mark_sketch" ["mark"] 45 pT:=(RG0 qT).bL
 have G_Sketch_spots:UnF l.prog w K mg base (ct C0 C1 C2 C3 C4 C5 C6 C7) z60 ["self"] 1 eL:=lA F30 pj b30 (mi T  )
 have G_Chain_spots:UnF l.prog w K mg base (ct C0 C1 C2 C3 C4 C5 C6 C7) z46 ["self"] 1 fH:=lA F31 q0 b31 (mZ T  )
 have z32:Def l.prog w K mg base (ct C0 C1 C2 C3 C4 C5 C6 C7) "left_of" ["narrow", "wide"] 1 iq:=dE F32 yl (PySem.W.mg_of X G a32) b32 (sH T  )
 have G_Over_spots:UnF l.prog w K mg base (ct C0 C1 C2 C3 C4 C5 C6 C7) z56 ["self"] 2 i9:=lA F33 su b33 (nI T z32 )
 have G_Root_spots:UnF l.prog w K mg base (ct C0 C1 C2 C3 C4 C5 C6 C7) z58 ["self"] 1 ib:=lA F34 sv b34 (nJ T  )
 have G_Marked_raised_low:UnD l.prog w K mg base (ct C0 C1 C2 C3 C4 C5 C6 C7) z53 ["self"] 1 cB:=DC F35 kJ b35 (jy T  )
 have G_Marked_lowered_low:UnD l.prog w K mg base (ct C0 C1 C2 C3 C4 C5 C6 C7) z52 ["self"] 1 cj:=DC F36 ki b36 (jd T  )
 have z43:oQ l.prog w K mg base (ct C0 C1 C2 C3 C4 C5 C6 C7) "raised_low" 0 1 eD:=qf T G_Marked_raised_low
 have z42:oQ l.prog w K mg base (ct C0 C1 C2 C3 C4 C5 C6 C7) "lowered_low" 0 1 dJ:=pz T G_Marked_lowered_low
 have G_Marked_spots:UnF l.prog w K mg base (ct C0 C1 C2 C3 C4 C5 C6 C7) z54 ["self"] 2 ck:=lA F37 pk b37 (ml T  z43 z42)
 have G_Held_spots:UnF l.prog w K mg base (ct C0 C1 C2 C3 C4 C5 C6 C7) z50 ["self"] 1 ie:=lA F38 sA b38 (nK T  )
 have G_Grid_spots:UnF l.prog w K mg base (ct C0 C1 C2 C3 C4 C5 C6 C7) z48 ["self"] 1 ij:=lA F39 sC b39 (nL T  )
 have z44:rW l.prog w K mg base (ct C0 C1 C2 C3 C4 C5 C6 C7) "spots" 0 2 dM:=AA T G_Sketch_spots G_Chain_spots G_Over_spots G_Root_spots G_Marked_spots G_Held_spots G_Grid_spots
 have R_places_within:∀ n:Nat,i0 l.prog w K mg base (ct C0 C1 C2 C3 C4 C5 C6 C7) "places_within" ["sketch", "path", "base", "left"] (2+n) (cQ n):=fun n=>Nat.rec (qJ F40 (PySem.W.mg_of X G a40) b40) (fun n ih=>i5 F40 nA (PySem.W.mg_of X G a40) b40 (lG T z18 z44 (Nat.le_add_right 2 n) ih)) n
 have z38:i0 l.prog w K mg base (ct C0 C1 C2 C3 C4 C5 C6 C7) "places_within" ["sketch", "path", "base", "left"] 18 bM:=R_places_within iG
 have z37:i0 l.prog w K mg base (ct C0 C1 C2 C3 C4 C5 C6 C7) "places_of" ["f"] 46 d9:=i5 F41 uF (PySem.W.mg_of X G a41) b41 (pL T z40 z38 )
 have z28:Def l.prog w K mg base (ct C0 C1 C2 C3 C4 C5 C6 C7) "_law_number" ["cell", "size"] 1 da:=dE F42 sD (PySem.W.mg_of X G a42) b42 (nM T  )
 have z36:Def l.prog w K mg base (ct C0 C1 C2 C3 C4 C5 C6 C7) "path_at" ["f", "row", "column"] 47 j9:=dE F43 ym (PySem.W.mg_of X G a43) b43 (sI T z37 )
 have z20:Def l.prog w K mg base (ct C0 C1 C2 C3 C4 C5 C6 C7) "_law_cell_at" ["script", "k"] 1 dz:=dE F44 q8 (PySem.W.mg_of X G a44) b44 (n0 T  )
 have z24:Def l.prog w K mg base (ct C0 C1 C2 C3 C4 C5 C6 C7) "_law_has" ["place", "row", "column"] 1 iu:=dE F45 yn (PySem.W.mg_of X G a45) b45 (sJ T  )
 have z29:Def l.prog w K mg base (ct C0 C1 C2 C3 C4 C5 C6 C7) "_law_own_place" ["places", "found", "row", "column"] 2 ez:=dE F46 nB (PySem.W.mg_of X G a46) b46 (lH T z24 )
 exact (vP F47 Iz (AB T z23 z37 z28 z36 z20 z29 )).imp fun vs H Q E h=>HV h
theorem walk {l:PySem.W.OpenLaw}{q:Program}{loose:List Str}{XP:(Str→Option Value)→Heap→Prop}{YP:World→Heap→Prop}{d:DefRec}{K:Params→Frag}(hn:l.most=some 63)(hdf:d.params.defaults=[])(hY:∀ (w:World) (h:Heap),YP w h→(K w.params).In h)
  (F:∀ (w:World) (mg:Str→Option Value) (fa:Addr) (h:Heap),(K w.params).In h→h.Ns mainGlobals mg→mg d.name=some (.ref fa)→∃ fd:FuncData,(∀ (s:Shared) (u:Value),BindsTo s fd ⟨[u],[]⟩ [("script",u)])∧∀ base:Heap,(K w.params).In base→base.Ns mainGlobals mg→fR l.prog w (K w.params) mg base CX0 48 fa fd ["script"] (spL (K w.params) ud)) :
  PySem.W.WalkO q loose XP YP l.row.toRowW d [] (fun f vs=>PySem.call f vs) :=
 L2.vW (n:=63) (k:=48) (x:="script") (CX:=fun _=>CX0) (sp:=fun w=>spL (K w.params) ud) hn (by decide) hdf ⟨rfl,by decide,by decide⟩ hY F (fun w H a ns hl _ hS=>⟨a,ns,rfl,hS,G3 ns,fun _ _=>rfl⟩) fun _ _ _ _ _ z=>z
end K36
end
section
namespace HD
open PySem PySem.W
def nU (tb:String→Option Builtin)(p:Program)(w:World)(n₀:Nat)(ann:Option Value):Nat→SharedT→Thread→Option SharedT
 | 0,_,_=>none
 | n+1,s,t=>match through t with
  | true=>some s
  | false=>match stepOk n₀ ann t with
   | false=>none
   | true=>match stepT (denote tb) p w s t with
    | some (s',t')=>nU tb p w n₀ ann n s' t'
    | none=>none
theorem pM {tb:String→Option Builtin}{p:Program}{w:World}{n₀:Nat}{ann:Option Value}:∀ {n:Nat} {s s':SharedT} {t:Thread},nU tb p w n₀ ann n s t=some s'→topRun tb p w n₀ ann n s.abs t=some s'.abs
 | 0,s,s',t,h=>by cases h
 | n+1,s,s',t,h=>by
  unfold nU at h
  unfold topRun
  cases h1:through t with
  | true=>rw [h1] at h; cases h; rfl
  | false =>
   rw [h1] at h
   cases h2:stepOk n₀ ann t with
   | false=>rw [h2] at h; cases h
   | true =>
    rw [h2] at h
    cases hs:stepT (denote tb) p w s t with
    | none=>rw [hs] at h; cases h
    | some r=>obtain ⟨s₂,t₂⟩:=r; rw [hs] at h; dsimp only; rw [stepT_spec hs]; exact pM h
def treeOf:Nat→List Obj→BT→BT
 | _,[],t=>t
 | i,o::l,t=>treeOf (i+1) l (t.ins i o)
noncomputable def S0 (w:World)(os:OsState):SharedT:=⟨treeOf 0 (boot_heap w.params).objs.toList .nil,(boot_heap w.params).objs.size,(boot_heap w.params).life, #[],boot_drawn,boot_toks,os⟩
theorem G4 (w:World)(os:OsState):(S0 w os).abs=⟨boot_heap w.params,Array.mk [],boot_drawn,boot_toks,os⟩:=by kernel_rfl
theorem IE (w:World):((boot_heap w.params).isNs mainGlobals && (Array.mk []:Array GenState).size == 0)=true∧(boot_heap w.params).objs.size=11∧(boot_heap w.params).nsMap mainGlobals "__annotations__"=some (.ref 6):=⟨by kernel_rfl,by kernel_rfl,by kernel_rfl⟩
abbrev obs (as:List Addr)(s:Shared):List (Option Obj):=as.map s.heap.get?
abbrev val (K:Params→Frag)(w:World):List (Option Obj):=(K w.params).map fun p=>some p.2
noncomputable def lk (p q:Program)(loose:List Str)(Xt:Shared→Bool)(as:List Addr)(B:Heap)(s:Shared) :=
 (staticsOk (importedModules p.main.body) B s.heap && namesBound p s.heap && gensDone s && laidKept B s.heap,openSeen q loose (importedModules p.main.body) Xt true s,as.map s.heap.get?)
noncomputable def all (p q:Program)(loose:List Str)(lv:List (Str × WData))(rc:WRecords)(as:List Addr)(B:Heap)(w:World)(s:SharedT)(N:Nat) :=
 (nU treeTable p w 11 (some (.ref 6)) N s (topStub p)).map fun s=>lk p q loose (fun s=>xlAt q lv s && recOk rc s) as B s.abs
noncomputable def due (q:Program)(loose:List Str)(y:List (Option Obj)):=some (true,openGood q loose,y)
theorem IF {p q:Program}{loose:List Str}{lv:List (Str × WData)}{rc:WRecords}{as:List Addr}{K:Params→Frag}{N:Nat}
  (e:opening p=plainProg p.main.scope.names) (hN:Nat.ble 600 N=true) (f:∀ s,fenceModules? p s=some s)
  (run:∀ w os,all p q loose lv rc as (boot_heap w.params) w (S0 w os) N=due q loose ((K w.params).map fun p=>some p.2)) :
  LeftO p q loose (fun s=>xlAt q lv s && recOk rc s) (obs as) (val K) N:=fun w=>by
 obtain ⟨⟨h,gs,d,k,os⟩,e1,e2⟩:=Option.map_eq_some_iff.mp (boot_open (N:=N) e hN f w)
 obtain ⟨rfl,rfl,rfl,rfl⟩:h=boot_heap w.params∧gs=Array.mk []∧d=boot_drawn∧k=boot_toks:=by simpa using e2
 obtain ⟨z1,z2,z3⟩:=IE w
 obtain ⟨s,r1,r2⟩:=Option.map_eq_some_iff.mp (run w os)
 obtain ⟨l1,l2,l3⟩:_∧_∧_:=by simpa only [lk,Prod.mk.injEq] using r2
 have r:=pM r1
 rw [G4] at r
 have t:topFrom treeTable p w N ⟨boot_heap w.params,Array.mk [],boot_drawn,boot_toks,os⟩=some s.abs:=by
  unfold topFrom
  dsimp only
  rw [z1,z2,z3,r]
  show (match staticsOk (importedModules p.main.body) (boot_heap w.params) s.abs.heap && namesBound p s.abs.heap && gensDone s.abs && laidKept (boot_heap w.params) s.abs.heap with | true=>_ | false=>_)=_
  rw [l1]
 unfold openEnds
 rw [e1]
 show (topFrom treeTable p w N _).map _=_
 rw [t]
 exact congrArg some (Prod.ext l2 l3)
lay_quick HD.all
lay_quick HD.due
end HD
namespace HD
open PySem PySem.W PySem.W.X PyProof.Rows
def dr (s:Stmt):DefRec:=match s with
 | .FunctionDef _ a b _ _ _ sc _ _ p=>⟨"law",a,b,sc,p⟩
 | _=>⟨"law",⟨[],[],none,[],[],none,[]⟩,[],default,⟨0,0,0,0⟩⟩
theorem yt {q:Program}{loose:List Str}{XP:(Str→Option Value)→Heap→Prop}{as:List Addr}{K:Params→Frag}{r:RowW}{d:DefRec}{kwd:List (Str × Expr)}{run:Value→List Value→Sem Value}
  (e:∀ P,as=(K P).map (·.1)) (h:WalkO q loose XP (InK K) r d kwd run):WalkX q loose XP (obs as) (val K) r d kwd run :=
 fun w s₀ s₁ mg mb G y a o pm cd doc dV kV ho hd hcd hD hmg hg args vals as' L hpre hlay hrd hwl hlo=>h w s₀ s₁ mg mb G (InK.keeps w _ _ (InK.of e w s₀ y) L.keeps) a o pm cd doc dV kV ho hd hcd hD hmg hg args vals as' hpre hlay hrd hwl hlo
end HD
end
section
namespace HD
open PySem PySem.W L2 DL
abbrev PW:Program:=PySem.Challenge.pw_inkform_k36_whole_pointed
def top (i:Nat):Stmt:=PW.main.body.getD i (.Pass ⟨0,0,0,0⟩)
noncomputable def de (P:Params)(s:Str)(n:Nat)(v:Value):DictEntry:=⟨PyData.keyHash P s,.str s n,v⟩
def fo (n q:Str)(s:Stmt)(pm cd:Value):Obj:=⟨.type "function",none,.func (fnOf n q (aE s) (aq s) (ag s) .none .none .none pm none cd .none), #[]⟩
def co (n q:Str)(a b c i j k l m o p r t:Nat)(u v x y z e f:Value):Obj:=⟨.type "code",none,.fields #[.str n a,.str q b,.str "/claim/cut.py" c,.int i 0,.int j 0,.int k 0,.int l 0,.int m 0,u,v,.int o 0,x,y,z,e,f,.int p 0,.int r 0,.str "/claim/cut.py" t], #[]⟩
noncomputable def K:Params→Frag:=fun P =>
(nat_lit 0,boot_o_0 P) ::
(nat_lit 1,boot_o_1 P) ::
(nat_lit 2,boot_o_2 P) ::
(nat_lit 3, { cls:=.type "dict",data:=Data.dict #[de P "__name__" 165 (.str "law_inkform_k36_whole_pointed" 734),de P "__doc__" 166 .none,de P "__package__" 167 .none,de P "__loader__" 168 (.builtin "__main__.__loader__#opaque"),de P "__spec__" 169 .none,de P "__annotations__" 170 (.ref 6),de P "__builtins__" 171 (.ref 4),de P "__file__" 173 (.str "/claim/cut.py" 172),de P "__cached__" 174 .none,de P "_wall" 193 (.ref 21),de P "ROW_KINDS" 199 (.ref 22),de P "parts_of" 205 (.ref 27),de P "cells_of" 214 (.ref 34),de P "signs_of" 222 (.ref 41),de P "BLANK" 226 (.str " " 225),de P "Sketch" 289 (.ref 86),de P "Word" 322 (.ref 114),de P "Chain" 367 (.ref 145),de P "Over" 411 (.ref 178),de P "Root" 451 (.ref 211),de P "height_of" 458 (.ref 220),de P "left_of" 466 (.ref 227),de P "amid" 474 (.ref 234),de P "Marked" 539 (.ref 284),de P "Held" 579 (.ref 317),de P "Grid" 634 (.ref 353),de P "column_widths" 640 (.ref 360),de P "numbers_by_row" 650 (.ref 367),de P "band_lows" 661 (.ref 374),de P "band_height" 667 (.ref 379),de P "greatest_up" 673 (.ref 384),de P "sketch_of" 681 (.ref 389),de P "sketches_of" 687 (.ref 394),de P "mark_sketch" 694 (.ref 401),de P "places_of" 704 (.ref 408),de P "places_within" 717 (.ref 415),de P "path_at" 733 (.ref 422),de P "_law_word" 746 (.ref 429),de P "_law_atom" 753 (.ref 436),de P "_law_level" 761 (.ref 443),de P "_law_fit" 769 (.ref 450),de P "_law_chain" 775 (.ref 455),de P "_law_made" 781 (.ref 460),de P "_law_many" 789 (.ref 467),de P "_law_step" 795 (.ref 472),de P "_law_formula" 801 (.ref 477),de P "_law_cell_at" 809 (.ref 484),de P "_law_whole" 816 (.ref 491),de P "_law_has" 825 (.ref 498),de P "_law_own_place" 831 (.ref 503),de P "_law_number" 839 (.ref 510),de P "law" 845 (.ref 515)] 52 }) ::
(nat_lit 4,boot_o_4 P) ::
(nat_lit 5,boot_o_5 P) ::
(nat_lit 6,boot_o_6 P) ::
(nat_lit 7,boot_o_7 P) ::
(nat_lit 8,boot_o_8 P) ::
(nat_lit 9,boot_o_9 P) ::
(nat_lit 10,boot_o_10 P) ::
(nat_lit 13,co "<module>" "<module>" 182 183 184 1 0 0 0 0 181 185 1 186 (.ref 11) (.bool false) (.ref 12) .none .none .none .none) ::
(nat_lit 17, { cls:=.type "tuple",data:=Data.seq #[.str "k" 190] }) ::
(nat_lit 20,co "_wall" "_wall" 187 188 189 1 1 0 0 3 181 191 1 192 (.ref 15) (.bool true) (.ref 16) .none (.ref 17) (.ref 18) (.ref 19)) ::
(nat_lit 21,fo "_wall" "_wall" (top 0) (.str "__main__" 164) (.ref 20)) ::
(nat_lit 22, { cls:=.type "tuple",data:=Data.seq #[.str "even" 196,.str "sum" 197,.str "times" 198] }) ::
(nat_lit 26,co "parts_of" "parts_of" 200 201 202 6 1 0 0 3 181 203 6 204 (.ref 23) (.bool true) (.ref 24) .none .none .none (.ref 25)) ::
(nat_lit 27,fo "parts_of" "parts_of" (top 3) (.str "inkform.formulas" 194) (.ref 26)) ::
(nat_lit 30, { cls:=.type "tuple",data:=Data.seq #[.str "bands" 209,.str "cells" 210,.str "band" 211] }) ::
(nat_lit 33,co "cells_of" "cells_of" 206 207 208 17 1 0 0 3 181 212 17 213 (.ref 28) (.bool true) (.ref 29) .none (.ref 30) (.ref 31) (.ref 32)) ::
(nat_lit 34,fo "cells_of" "cells_of" (top 4) (.str "inkform.formulas" 194) (.ref 33)) ::
(nat_lit 37, { cls:=.type "tuple",data:=Data.seq #[.str "f" 218,.str "sign" 219] }) ::
(nat_lit 40,co "signs_of" "signs_of" 215 216 217 22 1 0 0 3 181 220 22 221 (.ref 35) (.bool true) (.ref 36) .none (.ref 37) (.ref 38) (.ref 39)) ::
(nat_lit 41,fo "signs_of" "signs_of" (top 5) (.str "inkform.formulas" 194) (.ref 40)) ::
(nat_lit 44, { cls:=.type "dict",data:=Data.dict #[de P "__module__" 234 (.str "inkform.sketches" 223),de P "__qualname__" 236 (.str "Sketch" 235),de P "__firstlineno__" 238 (.int 29 237),de P "__init__" 248 (.ref 55),de P "row" 256 (.ref 62),de P "row_within" 264 (.ref 69),de P "rows" 271 (.ref 76),de P "spots" 278 (.ref 83),de P "__static_attributes__" 282 (.ref 84)] 9 }) ::
(nat_lit 47,co "Sketch" "Sketch" 229 230 231 29 0 0 0 0 181 232 29 233 (.ref 45) (.bool false) (.ref 46) .none .none .none .none) ::
(nat_lit 51, { cls:=.type "tuple",data:=Data.seq #[.str "self" 242,.str "wide" 243,.str "up" 244,.str "down" 245] }) ::
(nat_lit 54,co "__init__" "Sketch.__init__" 239 240 241 31 4 0 0 3 181 246 31 247 (.ref 49) (.bool true) (.ref 50) .none (.ref 51) (.ref 52) (.ref 53)) ::
(nat_lit 55,fo "__init__" "Sketch.__init__" (inClass (top 8) 0) (.str "inkform.sketches" 223) (.ref 54)) ::
(nat_lit 58, { cls:=.type "tuple",data:=Data.seq #[.str "self" 252,.str "k" 253] }) ::
(nat_lit 61,co "row" "Sketch.row" 249 250 251 36 2 0 0 3 181 254 36 255 (.ref 56) (.bool true) (.ref 57) .none (.ref 58) (.ref 59) (.ref 60)) ::
(nat_lit 62,fo "row" "Sketch.row" (inClass (top 8) 1) (.str "inkform.sketches" 223) (.ref 61)) ::
(nat_lit 65, { cls:=.type "tuple",data:=Data.seq #[.str "self" 260,.str "k" 261] }) ::
(nat_lit 68,co "row_within" "Sketch.row_within" 257 258 259 41 2 0 0 3 181 262 41 263 (.ref 63) (.bool true) (.ref 64) .none (.ref 65) (.ref 66) (.ref 67)) ::
(nat_lit 69,fo "row_within" "Sketch.row_within" (inClass (top 8) 2) (.str "inkform.sketches" 223) (.ref 68)) ::
(nat_lit 72, { cls:=.type "tuple",data:=Data.seq #[.str "self" 268] }) ::
(nat_lit 75,co "rows" "Sketch.rows" 265 266 267 44 1 0 0 3 181 269 44 270 (.ref 70) (.bool true) (.ref 71) .none (.ref 72) (.ref 73) (.ref 74)) ::
(nat_lit 76,fo "rows" "Sketch.rows" (inClass (top 8) 3) (.str "inkform.sketches" 223) (.ref 75)) ::
(nat_lit 79, { cls:=.type "tuple",data:=Data.seq #[.str "self" 275] }) ::
(nat_lit 82,co "spots" "Sketch.spots" 272 273 274 47 1 0 0 3 181 276 47 277 (.ref 77) (.bool true) (.ref 78) .none (.ref 79) (.ref 80) (.ref 81)) ::
(nat_lit 83,fo "spots" "Sketch.spots" (inClass (top 8) 4) (.str "inkform.sketches" 223) (.ref 82)) ::
(nat_lit 84, { cls:=.type "tuple",data:=Data.seq #[.str "down" 279,.str "up" 280,.str "wide" 281] }) ::
(nat_lit 85, { cls:=.type "dict",data:=Data.dict #[de P "__module__" 234 (.str "inkform.sketches" 223),de P "__firstlineno__" 238 (.int 29 237),de P "__init__" 248 (.ref 55),de P "row" 256 (.ref 62),de P "row_within" 264 (.ref 69),de P "rows" 271 (.ref 76),de P "spots" 278 (.ref 83),de P "__static_attributes__" 282 (.ref 84),de P "__dict__" 284 (.ref 87),de P "__weakref__" 286 (.ref 88),de P "__doc__" 287 .none] 4 }) ::
(nat_lit 86, { cls:=.type "type",data:=Data.cls { name:="Sketch",bases:=[.type "object"],mro:=[.ref 86,.type "object"],ns:=85,qualname:="Sketch",subclasses:=[.ref 114,.ref 145,.ref 178,.ref 211,.ref 284,.ref 317,.ref 353] },slots:=#[none,none,some (.str "Sketch" 227),some (.str "Sketch" 235),some (.builtin "object.__new__"),some (.bool true)] }) ::
(nat_lit 91, { cls:=.type "tuple",data:=Data.seq #[.ref 86] }) ::
(nat_lit 93, { cls:=.type "dict",data:=Data.dict #[de P "__module__" 297 (.str "inkform.sketches" 223),de P "__qualname__" 299 (.str "Word" 298),de P "__firstlineno__" 301 (.int 49 300),de P "__init__" 309 (.ref 104),de P "row_within" 317 (.ref 111),de P "__static_attributes__" 319 (.ref 112)] 6 }) ::
(nat_lit 96,co "Word" "Word" 292 293 294 49 0 0 0 0 181 295 49 296 (.ref 94) (.bool false) (.ref 95) .none .none .none .none) ::
(nat_lit 100, { cls:=.type "tuple",data:=Data.seq #[.str "self" 305,.str "word" 306] }) ::
(nat_lit 103,co "__init__" "Word.__init__" 302 303 304 51 2 0 0 3 181 307 51 308 (.ref 98) (.bool true) (.ref 99) .none (.ref 100) (.ref 101) (.ref 102)) ::
(nat_lit 104,fo "__init__" "Word.__init__" (inClass (top 9) 0) (.str "inkform.sketches" 223) (.ref 103)) ::
(nat_lit 107, { cls:=.type "tuple",data:=Data.seq #[.str "self" 313,.str "k" 314] }) ::
(nat_lit 110,co "row_within" "Word.row_within" 310 311 312 55 2 0 0 3 181 315 55 316 (.ref 105) (.bool true) (.ref 106) .none (.ref 107) (.ref 108) (.ref 109)) ::
(nat_lit 111,fo "row_within" "Word.row_within" (inClass (top 9) 1) (.str "inkform.sketches" 223) (.ref 110)) ::
(nat_lit 112, { cls:=.type "tuple",data:=Data.seq #[.str "word" 318] }) ::
(nat_lit 113, { cls:=.type "dict",data:=Data.dict #[de P "__module__" 297 (.str "inkform.sketches" 223),de P "__firstlineno__" 301 (.int 49 300),de P "__init__" 309 (.ref 104),de P "row_within" 317 (.ref 111),de P "__static_attributes__" 319 (.ref 112),de P "__doc__" 320 .none] 2 }) ::
(nat_lit 114, { cls:=.type "type",data:=Data.cls { name:="Word",bases:=[.ref 86],mro:=[.ref 114,.ref 86,.type "object"],ns:=113,qualname:="Word" },slots:=#[some (.ref 91),none,some (.str "Word" 290),some (.str "Word" 298),some (.builtin "object.__new__"),some (.bool true)] }) ::
(nat_lit 117, { cls:=.type "tuple",data:=Data.seq #[.ref 86] }) ::
(nat_lit 119, { cls:=.type "dict",data:=Data.dict #[de P "__module__" 330 (.str "inkform.sketches" 223),de P "__qualname__" 332 (.str "Chain" 331),de P "__firstlineno__" 334 (.int 57 333),de P "__init__" 340 (.ref 128),de P "row_within" 351 (.ref 135),de P "spots" 361 (.ref 142),de P "__static_attributes__" 364 (.ref 143)] 7 }) ::
(nat_lit 122,co "Chain" "Chain" 325 326 327 57 0 0 0 0 181 328 57 329 (.ref 120) (.bool false) (.ref 121) .none .none .none .none) ::
(nat_lit 127,co "__init__" "Chain.__init__" 335 336 337 59 3 0 0 3 181 338 59 339 (.ref 124) (.bool true) (.ref 125) .none .none .none (.ref 126)) ::
(nat_lit 128,fo "__init__" "Chain.__init__" (inClass (top 10) 0) (.str "inkform.sketches" 223) (.ref 127)) ::
(nat_lit 131, { cls:=.type "tuple",data:=Data.seq #[.str "self" 344,.str "k" 345,.str "pieces" 346,.str "sign" 347,.str "part" 348] }) ::
(nat_lit 134,co "row_within" "Chain.row_within" 341 342 343 67 2 0 0 3 181 349 67 350 (.ref 129) (.bool true) (.ref 130) .none (.ref 131) (.ref 132) (.ref 133)) ::
(nat_lit 135,fo "row_within" "Chain.row_within" (inClass (top 10) 1) (.str "inkform.sketches" 223) (.ref 134)) ::
(nat_lit 138, { cls:=.type "tuple",data:=Data.seq #[.str "self" 355,.str "spots" 356,.str "right" 357,.str "part" 358] }) ::
(nat_lit 141,co "spots" "Chain.spots" 352 353 354 74 1 0 0 3 181 359 74 360 (.ref 136) (.bool true) (.ref 137) .none (.ref 138) (.ref 139) (.ref 140)) ::
(nat_lit 142,fo "spots" "Chain.spots" (inClass (top 10) 2) (.str "inkform.sketches" 223) (.ref 141)) ::
(nat_lit 143, { cls:=.type "tuple",data:=Data.seq #[.str "parts" 362,.str "signs" 363] }) ::
(nat_lit 144, { cls:=.type "dict",data:=Data.dict #[de P "__module__" 330 (.str "inkform.sketches" 223),de P "__firstlineno__" 334 (.int 57 333),de P "__init__" 340 (.ref 128),de P "row_within" 351 (.ref 135),de P "spots" 361 (.ref 142),de P "__static_attributes__" 364 (.ref 143),de P "__doc__" 365 .none] 2 }) ::
(nat_lit 145, { cls:=.type "type",data:=Data.cls { name:="Chain",bases:=[.ref 86],mro:=[.ref 145,.ref 86,.type "object"],ns:=144,qualname:="Chain" },slots:=#[some (.ref 117),none,some (.str "Chain" 323),some (.str "Chain" 331),some (.builtin "object.__new__"),some (.bool true)] }) ::
(nat_lit 148, { cls:=.type "tuple",data:=Data.seq #[.ref 86] }) ::
(nat_lit 150, { cls:=.type "dict",data:=Data.dict #[de P "__module__" 375 (.str "inkform.sketches" 223),de P "__qualname__" 377 (.str "Over" 376),de P "__firstlineno__" 379 (.int 81 378),de P "__init__" 388 (.ref 161),de P "row_within" 396 (.ref 168),de P "spots" 405 (.ref 175),de P "__static_attributes__" 408 (.ref 176)] 7 }) ::
(nat_lit 153,co "Over" "Over" 370 371 372 81 0 0 0 0 181 373 81 374 (.ref 151) (.bool false) (.ref 152) .none .none .none .none) ::
(nat_lit 157, { cls:=.type "tuple",data:=Data.seq #[.str "self" 383,.str "above" 384,.str "beneath" 385] }) ::
(nat_lit 160,co "__init__" "Over.__init__" 380 381 382 83 3 0 0 3 181 386 83 387 (.ref 155) (.bool true) (.ref 156) .none (.ref 157) (.ref 158) (.ref 159)) ::
(nat_lit 161,fo "__init__" "Over.__init__" (inClass (top 11) 0) (.str "inkform.sketches" 223) (.ref 160)) ::
(nat_lit 164, { cls:=.type "tuple",data:=Data.seq #[.str "self" 392,.str "k" 393] }) ::
(nat_lit 167,co "row_within" "Over.row_within" 389 390 391 88 2 0 0 3 181 394 88 395 (.ref 162) (.bool true) (.ref 163) .none (.ref 164) (.ref 165) (.ref 166)) ::
(nat_lit 168,fo "row_within" "Over.row_within" (inClass (top 11) 1) (.str "inkform.sketches" 223) (.ref 167)) ::
(nat_lit 171, { cls:=.type "tuple",data:=Data.seq #[.str "self" 400,.str "above" 401,.str "beneath" 402] }) ::
(nat_lit 174,co "spots" "Over.spots" 397 398 399 95 1 0 0 3 181 403 95 404 (.ref 169) (.bool true) (.ref 170) .none (.ref 171) (.ref 172) (.ref 173)) ::
(nat_lit 175,fo "spots" "Over.spots" (inClass (top 11) 2) (.str "inkform.sketches" 223) (.ref 174)) ::
(nat_lit 176, { cls:=.type "tuple",data:=Data.seq #[.str "above" 406,.str "beneath" 407] }) ::
(nat_lit 177, { cls:=.type "dict",data:=Data.dict #[de P "__module__" 375 (.str "inkform.sketches" 223),de P "__firstlineno__" 379 (.int 81 378),de P "__init__" 388 (.ref 161),de P "row_within" 396 (.ref 168),de P "spots" 405 (.ref 175),de P "__static_attributes__" 408 (.ref 176),de P "__doc__" 409 .none] 2 }) ::
(nat_lit 178, { cls:=.type "type",data:=Data.cls { name:="Over",bases:=[.ref 86],mro:=[.ref 178,.ref 86,.type "object"],ns:=177,qualname:="Over" },slots:=#[some (.ref 148),none,some (.str "Over" 368),some (.str "Over" 376),some (.builtin "object.__new__"),some (.bool true)] }) ::
(nat_lit 181, { cls:=.type "tuple",data:=Data.seq #[.ref 86] }) ::
(nat_lit 183, { cls:=.type "dict",data:=Data.dict #[de P "__module__" 419 (.str "inkform.sketches" 223),de P "__qualname__" 421 (.str "Root" 420),de P "__firstlineno__" 423 (.int 99 422),de P "__init__" 431 (.ref 194),de P "row_within" 439 (.ref 201),de P "spots" 446 (.ref 208),de P "__static_attributes__" 448 (.ref 209)] 7 }) ::
(nat_lit 186,co "Root" "Root" 414 415 416 99 0 0 0 0 181 417 99 418 (.ref 184) (.bool false) (.ref 185) .none .none .none .none) ::
(nat_lit 190, { cls:=.type "tuple",data:=Data.seq #[.str "self" 427,.str "inner" 428] }) ::
(nat_lit 193,co "__init__" "Root.__init__" 424 425 426 101 2 0 0 3 181 429 101 430 (.ref 188) (.bool true) (.ref 189) .none (.ref 190) (.ref 191) (.ref 192)) ::
(nat_lit 194,fo "__init__" "Root.__init__" (inClass (top 12) 0) (.str "inkform.sketches" 223) (.ref 193)) ::
(nat_lit 197, { cls:=.type "tuple",data:=Data.seq #[.str "self" 435,.str "k" 436] }) ::
(nat_lit 200,co "row_within" "Root.row_within" 432 433 434 105 2 0 0 3 181 437 105 438 (.ref 195) (.bool true) (.ref 196) .none (.ref 197) (.ref 198) (.ref 199)) ::
(nat_lit 201,fo "row_within" "Root.row_within" (inClass (top 12) 1) (.str "inkform.sketches" 223) (.ref 200)) ::
(nat_lit 204, { cls:=.type "tuple",data:=Data.seq #[.str "self" 443] }) ::
(nat_lit 207,co "spots" "Root.spots" 440 441 442 110 1 0 0 3 181 444 110 445 (.ref 202) (.bool true) (.ref 203) .none (.ref 204) (.ref 205) (.ref 206)) ::
(nat_lit 208,fo "spots" "Root.spots" (inClass (top 12) 2) (.str "inkform.sketches" 223) (.ref 207)) ::
(nat_lit 209, { cls:=.type "tuple",data:=Data.seq #[.str "inner" 447] }) ::
(nat_lit 210, { cls:=.type "dict",data:=Data.dict #[de P "__module__" 419 (.str "inkform.sketches" 223),de P "__firstlineno__" 423 (.int 99 422),de P "__init__" 431 (.ref 194),de P "row_within" 439 (.ref 201),de P "spots" 446 (.ref 208),de P "__static_attributes__" 448 (.ref 209),de P "__doc__" 449 .none] 2 }) ::
(nat_lit 211, { cls:=.type "type",data:=Data.cls { name:="Root",bases:=[.ref 86],mro:=[.ref 211,.ref 86,.type "object"],ns:=210,qualname:="Root" },slots:=#[some (.ref 181),none,some (.str "Root" 412),some (.str "Root" 420),some (.builtin "object.__new__"),some (.bool true)] }) ::
(nat_lit 216, { cls:=.type "tuple",data:=Data.seq #[.str "sketch" 455] }) ::
(nat_lit 219,co "height_of" "height_of" 452 453 454 112 1 0 0 3 181 456 112 457 (.ref 214) (.bool true) (.ref 215) .none (.ref 216) (.ref 217) (.ref 218)) ::
(nat_lit 220,fo "height_of" "height_of" (top 13) (.str "inkform.sketches" 223) (.ref 219)) ::
(nat_lit 223, { cls:=.type "tuple",data:=Data.seq #[.str "narrow" 462,.str "wide" 463] }) ::
(nat_lit 226,co "left_of" "left_of" 459 460 461 114 2 0 0 3 181 464 114 465 (.ref 221) (.bool true) (.ref 222) .none (.ref 223) (.ref 224) (.ref 225)) ::
(nat_lit 227,fo "left_of" "left_of" (top 14) (.str "inkform.sketches" 223) (.ref 226)) ::
(nat_lit 230, { cls:=.type "tuple",data:=Data.seq #[.str "text" 470,.str "wide" 471] }) ::
(nat_lit 233,co "amid" "amid" 467 468 469 116 2 0 0 3 181 472 116 473 (.ref 228) (.bool true) (.ref 229) .none (.ref 230) (.ref 231) (.ref 232)) ::
(nat_lit 234,fo "amid" "amid" (top 15) (.str "inkform.sketches" 223) (.ref 233)) ::
(nat_lit 235, { cls:=.type "tuple",data:=Data.seq #[.ref 86] }) ::
(nat_lit 237, { cls:=.type "dict",data:=Data.dict #[de P "__module__" 484 (.str "inkform.grown" 475),de P "__qualname__" 486 (.str "Marked" 485),de P "__firstlineno__" 488 (.int 119 487),de P "__init__" 494 (.ref 246),de P "row_within" 502 (.ref 253),de P "mark_row" 510 (.ref 260),de P "raised_low" 517 (.ref 267),de P "lowered_low" 524 (.ref 274),de P "spots" 532 (.ref 281),de P "__static_attributes__" 536 (.ref 282)] 10 }) ::
(nat_lit 240,co "Marked" "Marked" 479 480 481 119 0 0 0 0 181 482 119 483 (.ref 238) (.bool false) (.ref 239) .none .none .none .none) ::
(nat_lit 245,co "__init__" "Marked.__init__" 489 490 491 121 4 0 0 3 181 492 121 493 (.ref 242) (.bool true) (.ref 243) .none .none .none (.ref 244)) ::
(nat_lit 246,fo "__init__" "Marked.__init__" (inClass (top 17) 0) (.str "inkform.grown" 475) (.ref 245)) ::
(nat_lit 249, { cls:=.type "tuple",data:=Data.seq #[.str "self" 498,.str "k" 499] }) ::
(nat_lit 252,co "row_within" "Marked.row_within" 495 496 497 131 2 0 0 3 181 500 131 501 (.ref 247) (.bool true) (.ref 248) .none (.ref 249) (.ref 250) (.ref 251)) ::
(nat_lit 253,fo "row_within" "Marked.row_within" (inClass (top 17) 1) (.str "inkform.grown" 475) (.ref 252)) ::
(nat_lit 256, { cls:=.type "tuple",data:=Data.seq #[.str "self" 506,.str "k" 507] }) ::
(nat_lit 259,co "mark_row" "Marked.mark_row" 503 504 505 134 2 0 0 3 181 508 134 509 (.ref 254) (.bool true) (.ref 255) .none (.ref 256) (.ref 257) (.ref 258)) ::
(nat_lit 260,fo "mark_row" "Marked.mark_row" (inClass (top 17) 2) (.str "inkform.grown" 475) (.ref 259)) ::
(nat_lit 263, { cls:=.type "tuple",data:=Data.seq #[.str "self" 514] }) ::
(nat_lit 266,co "raised_low" "Marked.raised_low" 511 512 513 141 1 0 0 3 181 515 141 516 (.ref 261) (.bool true) (.ref 262) .none (.ref 263) (.ref 264) (.ref 265)) ::
(nat_lit 267,fo "raised_low" "Marked.raised_low" (inClass (top 17) 3) (.str "inkform.grown" 475) (.ref 266)) ::
(nat_lit 270, { cls:=.type "tuple",data:=Data.seq #[.str "self" 521] }) ::
(nat_lit 273,co "lowered_low" "Marked.lowered_low" 518 519 520 144 1 0 0 3 181 522 144 523 (.ref 268) (.bool true) (.ref 269) .none (.ref 270) (.ref 271) (.ref 272)) ::
(nat_lit 274,fo "lowered_low" "Marked.lowered_low" (inClass (top 17) 4) (.str "inkform.grown" 475) (.ref 273)) ::
(nat_lit 277, { cls:=.type "tuple",data:=Data.seq #[.str "self" 528,.str "spots" 529] }) ::
(nat_lit 280,co "spots" "Marked.spots" 525 526 527 147 1 0 0 3 181 530 147 531 (.ref 275) (.bool true) (.ref 276) .none (.ref 277) (.ref 278) (.ref 279)) ::
(nat_lit 281,fo "spots" "Marked.spots" (inClass (top 17) 5) (.str "inkform.grown" 475) (.ref 280)) ::
(nat_lit 282, { cls:=.type "tuple",data:=Data.seq #[.str "item" 533,.str "lowered" 534,.str "raised" 535] }) ::
(nat_lit 283, { cls:=.type "dict",data:=Data.dict #[de P "__module__" 484 (.str "inkform.grown" 475),de P "__firstlineno__" 488 (.int 119 487),de P "__init__" 494 (.ref 246),de P "row_within" 502 (.ref 253),de P "mark_row" 510 (.ref 260),de P "raised_low" 517 (.ref 267),de P "lowered_low" 524 (.ref 274),de P "spots" 532 (.ref 281),de P "__static_attributes__" 536 (.ref 282),de P "__doc__" 537 .none] 2 }) ::
(nat_lit 284, { cls:=.type "type",data:=Data.cls { name:="Marked",bases:=[.ref 86],mro:=[.ref 284,.ref 86,.type "object"],ns:=283,qualname:="Marked" },slots:=#[some (.ref 235),none,some (.str "Marked" 477),some (.str "Marked" 485),some (.builtin "object.__new__"),some (.bool true)] }) ::
(nat_lit 287, { cls:=.type "tuple",data:=Data.seq #[.ref 86] }) ::
(nat_lit 289, { cls:=.type "dict",data:=Data.dict #[de P "__module__" 547 (.str "inkform.grown" 475),de P "__qualname__" 549 (.str "Held" 548),de P "__firstlineno__" 551 (.int 154 550),de P "__init__" 559 (.ref 300),de P "row_within" 567 (.ref 307),de P "spots" 574 (.ref 314),de P "__static_attributes__" 576 (.ref 315)] 7 }) ::
(nat_lit 292,co "Held" "Held" 542 543 544 154 0 0 0 0 181 545 154 546 (.ref 290) (.bool false) (.ref 291) .none .none .none .none) ::
(nat_lit 296, { cls:=.type "tuple",data:=Data.seq #[.str "self" 555,.str "inner" 556] }) ::
(nat_lit 299,co "__init__" "Held.__init__" 552 553 554 156 2 0 0 3 181 557 156 558 (.ref 294) (.bool true) (.ref 295) .none (.ref 296) (.ref 297) (.ref 298)) ::
(nat_lit 300,fo "__init__" "Held.__init__" (inClass (top 18) 0) (.str "inkform.grown" 475) (.ref 299)) ::
(nat_lit 303, { cls:=.type "tuple",data:=Data.seq #[.str "self" 563,.str "k" 564] }) ::
(nat_lit 306,co "row_within" "Held.row_within" 560 561 562 160 2 0 0 3 181 565 160 566 (.ref 301) (.bool true) (.ref 302) .none (.ref 303) (.ref 304) (.ref 305)) ::
(nat_lit 307,fo "row_within" "Held.row_within" (inClass (top 18) 1) (.str "inkform.grown" 475) (.ref 306)) ::
(nat_lit 310, { cls:=.type "tuple",data:=Data.seq #[.str "self" 571] }) ::
(nat_lit 313,co "spots" "Held.spots" 568 569 570 167 1 0 0 3 181 572 167 573 (.ref 308) (.bool true) (.ref 309) .none (.ref 310) (.ref 311) (.ref 312)) ::
(nat_lit 314,fo "spots" "Held.spots" (inClass (top 18) 2) (.str "inkform.grown" 475) (.ref 313)) ::
(nat_lit 315, { cls:=.type "tuple",data:=Data.seq #[.str "inner" 575] }) ::
(nat_lit 316, { cls:=.type "dict",data:=Data.dict #[de P "__module__" 547 (.str "inkform.grown" 475),de P "__firstlineno__" 551 (.int 154 550),de P "__init__" 559 (.ref 300),de P "row_within" 567 (.ref 307),de P "spots" 574 (.ref 314),de P "__static_attributes__" 576 (.ref 315),de P "__doc__" 577 .none] 2 }) ::
(nat_lit 317, { cls:=.type "type",data:=Data.cls { name:="Held",bases:=[.ref 86],mro:=[.ref 317,.ref 86,.type "object"],ns:=316,qualname:="Held" },slots:=#[some (.ref 287),none,some (.str "Held" 540),some (.str "Held" 548),some (.builtin "object.__new__"),some (.bool true)] }) ::
(nat_lit 320, { cls:=.type "tuple",data:=Data.seq #[.ref 86] }) ::
(nat_lit 322, { cls:=.type "dict",data:=Data.dict #[de P "__module__" 587 (.str "inkform.grown" 475),de P "__qualname__" 589 (.str "Grid" 588),de P "__firstlineno__" 591 (.int 169 590),de P "__init__" 597 (.ref 331),de P "row_within" 607 (.ref 338),de P "band_row" 613 (.ref 343),de P "spots" 626 (.ref 350),de P "__static_attributes__" 631 (.ref 351)] 8 }) ::
(nat_lit 325,co "Grid" "Grid" 582 583 584 169 0 0 0 0 181 585 169 586 (.ref 323) (.bool false) (.ref 324) .none .none .none .none) ::
(nat_lit 330,co "__init__" "Grid.__init__" 592 593 594 171 2 0 0 3 181 595 171 596 (.ref 327) (.bool true) (.ref 328) .none .none .none (.ref 329)) ::
(nat_lit 331,fo "__init__" "Grid.__init__" (inClass (top 19) 0) (.str "inkform.grown" 475) (.ref 330)) ::
(nat_lit 334, { cls:=.type "tuple",data:=Data.seq #[.str "self" 601,.str "k" 602,.str "number" 603,.str "inside" 604] }) ::
(nat_lit 337,co "row_within" "Grid.row_within" 598 599 600 180 2 0 0 3 181 605 180 606 (.ref 332) (.bool true) (.ref 333) .none (.ref 334) (.ref 335) (.ref 336)) ::
(nat_lit 338,fo "row_within" "Grid.row_within" (inClass (top 19) 1) (.str "inkform.grown" 475) (.ref 337)) ::
(nat_lit 342,co "band_row" "Grid.band_row" 608 609 610 185 3 0 0 3 181 611 185 612 (.ref 339) (.bool true) (.ref 340) .none .none .none (.ref 341)) ::
(nat_lit 343,fo "band_row" "Grid.band_row" (inClass (top 19) 2) (.str "inkform.grown" 475) (.ref 342)) ::
(nat_lit 346, { cls:=.type "tuple",data:=Data.seq #[.str "self" 617,.str "spots" 618,.str "band" 619,.str "low" 620,.str "right" 621,.str "sketch" 622,.str "wide" 623] }) ::
(nat_lit 349,co "spots" "Grid.spots" 614 615 616 189 1 0 0 3 181 624 189 625 (.ref 344) (.bool true) (.ref 345) .none (.ref 346) (.ref 347) (.ref 348)) ::
(nat_lit 350,fo "spots" "Grid.spots" (inClass (top 19) 3) (.str "inkform.grown" 475) (.ref 349)) ::
(nat_lit 351, { cls:=.type "tuple",data:=Data.seq #[.str "band_numbers" 627,.str "bands" 628,.str "lows" 629,.str "widths" 630] }) ::
(nat_lit 352, { cls:=.type "dict",data:=Data.dict #[de P "__module__" 587 (.str "inkform.grown" 475),de P "__firstlineno__" 591 (.int 169 590),de P "__init__" 597 (.ref 331),de P "row_within" 607 (.ref 338),de P "band_row" 613 (.ref 343),de P "spots" 626 (.ref 350),de P "__static_attributes__" 631 (.ref 351),de P "__doc__" 632 .none] 2 }) ::
(nat_lit 353, { cls:=.type "type",data:=Data.cls { name:="Grid",bases:=[.ref 86],mro:=[.ref 353,.ref 86,.type "object"],ns:=352,qualname:="Grid" },slots:=#[some (.ref 320),none,some (.str "Grid" 580),some (.str "Grid" 588),some (.builtin "object.__new__"),some (.bool true)] }) ::
(nat_lit 359,co "column_widths" "column_widths" 635 636 637 197 1 0 0 3 181 638 197 639 (.ref 356) (.bool true) (.ref 357) .none .none .none (.ref 358)) ::
(nat_lit 360,fo "column_widths" "column_widths" (top 20) (.str "inkform.grown" 475) (.ref 359)) ::
(nat_lit 363, { cls:=.type "tuple",data:=Data.seq #[.str "bands" 644,.str "numbers" 645,.str "n" 646,.str "band" 647] }) ::
(nat_lit 366,co "numbers_by_row" "numbers_by_row" 641 642 643 199 1 0 0 3 181 648 199 649 (.ref 361) (.bool true) (.ref 362) .none (.ref 363) (.ref 364) (.ref 365)) ::
(nat_lit 367,fo "numbers_by_row" "numbers_by_row" (top 21) (.str "inkform.grown" 475) (.ref 366)) ::
(nat_lit 370, { cls:=.type "tuple",data:=Data.seq #[.str "bands" 654,.str "up" 655,.str "lows" 656,.str "top" 657,.str "band" 658] }) ::
(nat_lit 373,co "band_lows" "band_lows" 651 652 653 206 2 0 0 3 181 659 206 660 (.ref 368) (.bool true) (.ref 369) .none (.ref 370) (.ref 371) (.ref 372)) ::
(nat_lit 374,fo "band_lows" "band_lows" (top 22) (.str "inkform.grown" 475) (.ref 373)) ::
(nat_lit 378,co "band_height" "band_height" 662 663 664 213 1 0 0 3 181 665 213 666 (.ref 375) (.bool true) (.ref 376) .none .none .none (.ref 377)) ::
(nat_lit 379,fo "band_height" "band_height" (top 23) (.str "inkform.grown" 475) (.ref 378)) ::
(nat_lit 383,co "greatest_up" "greatest_up" 668 669 670 215 1 0 0 3 181 671 215 672 (.ref 380) (.bool true) (.ref 381) .none .none .none (.ref 382)) ::
(nat_lit 384,fo "greatest_up" "greatest_up" (top 24) (.str "inkform.grown" 475) (.ref 383)) ::
(nat_lit 388,co "sketch_of" "sketch_of" 676 677 678 218 1 0 0 3 181 679 218 680 (.ref 385) (.bool true) (.ref 386) .none .none .none (.ref 387)) ::
(nat_lit 389,fo "sketch_of" "sketch_of" (top 26) (.str "inkform.drawing" 674) (.ref 388)) ::
(nat_lit 393,co "sketches_of" "sketches_of" 682 683 684 235 1 0 0 3 181 685 235 686 (.ref 390) (.bool true) (.ref 391) .none .none .none (.ref 392)) ::
(nat_lit 394,fo "sketches_of" "sketches_of" (top 27) (.str "inkform.drawing" 674) (.ref 393)) ::
(nat_lit 397, { cls:=.type "tuple",data:=Data.seq #[.str "mark" 691] }) ::
(nat_lit 400,co "mark_sketch" "mark_sketch" 688 689 690 237 1 0 0 3 181 692 237 693 (.ref 395) (.bool true) (.ref 396) .none (.ref 397) (.ref 398) (.ref 399)) ::
(nat_lit 401,fo "mark_sketch" "mark_sketch" (top 28) (.str "inkform.drawing" 674) (.ref 400)) ::
(nat_lit 404, { cls:=.type "tuple",data:=Data.seq #[.str "f" 700,.str "sketch" 701] }) ::
(nat_lit 407,co "places_of" "places_of" 697 698 699 240 1 0 0 3 181 702 240 703 (.ref 402) (.bool true) (.ref 403) .none (.ref 404) (.ref 405) (.ref 406)) ::
(nat_lit 408,fo "places_of" "places_of" (top 30) (.str "inkform.places" 695) (.ref 407)) ::
(nat_lit 411, { cls:=.type "tuple",data:=Data.seq #[.str "sketch" 708,.str "path" 709,.str "base" 710,.str "left" 711,.str "places" 712,.str "n" 713,.str "spot" 714] }) ::
(nat_lit 414,co "places_within" "places_within" 705 706 707 243 4 0 0 3 181 715 243 716 (.ref 409) (.bool true) (.ref 410) .none (.ref 411) (.ref 412) (.ref 413)) ::
(nat_lit 415,fo "places_within" "places_within" (top 31) (.str "inkform.places" 695) (.ref 414)) ::
(nat_lit 418, { cls:=.type "tuple",data:=Data.seq #[.str "f" 721,.str "row" 722,.str "column" 723,.str "found" 724,.str "path" 725,.str "top" 726,.str "left" 727,.str "high" 728,.str "wide" 729,.str "base" 730] }) ::
(nat_lit 421,co "path_at" "path_at" 718 719 720 248 3 0 0 3 181 731 248 732 (.ref 416) (.bool true) (.ref 417) .none (.ref 418) (.ref 419) (.ref 420)) ::
(nat_lit 422,fo "path_at" "path_at" (top 32) (.str "inkform.places" 695) (.ref 421)) ::
(nat_lit 425, { cls:=.type "tuple",data:=Data.seq #[.str "cell" 739,.str "n" 740,.str "size" 741,.str "word" 742,.str "k" 743] }) ::
(nat_lit 428,co "_law_word" "_law_word" 736 737 738 255 1 0 0 3 181 744 255 745 (.ref 423) (.bool true) (.ref 424) .none (.ref 425) (.ref 426) (.ref 427)) ::
(nat_lit 429,fo "_law_word" "_law_word" (top 34) (.str "law_inkform_k36_whole_pointed" 734) (.ref 428)) ::
(nat_lit 432, { cls:=.type "tuple",data:=Data.seq #[.str "cell" 750] }) ::
(nat_lit 435,co "_law_atom" "_law_atom" 747 748 749 264 1 0 0 3 181 751 264 752 (.ref 430) (.bool true) (.ref 431) .none (.ref 432) (.ref 433) (.ref 434)) ::
(nat_lit 436,fo "_law_atom" "_law_atom" (top 35) (.str "law_inkform_k36_whole_pointed" 734) (.ref 435)) ::
(nat_lit 439, { cls:=.type "tuple",data:=Data.seq #[.str "one" 757,.str "levels" 758] }) ::
(nat_lit 442,co "_law_level" "_law_level" 754 755 756 268 1 0 0 3 181 759 268 760 (.ref 437) (.bool true) (.ref 438) .none (.ref 439) (.ref 440) (.ref 441)) ::
(nat_lit 443,fo "_law_level" "_law_level" (top 36) (.str "law_inkform_k36_whole_pointed" 734) (.ref 442)) ::
(nat_lit 446, { cls:=.type "tuple",data:=Data.seq #[.str "one" 765,.str "least" 766] }) ::
(nat_lit 449,co "_law_fit" "_law_fit" 762 763 764 271 2 0 0 3 181 767 271 768 (.ref 444) (.bool true) (.ref 445) .none (.ref 446) (.ref 447) (.ref 448)) ::
(nat_lit 450,fo "_law_fit" "_law_fit" (top 37) (.str "law_inkform_k36_whole_pointed" 734) (.ref 449)) ::
(nat_lit 454,co "_law_chain" "_law_chain" 770 771 772 275 3 0 0 3 181 773 275 774 (.ref 451) (.bool true) (.ref 452) .none .none .none (.ref 453)) ::
(nat_lit 455,fo "_law_chain" "_law_chain" (top 38) (.str "law_inkform_k36_whole_pointed" 734) (.ref 454)) ::
(nat_lit 459,co "_law_made" "_law_made" 776 777 778 285 3 0 0 3 181 779 285 780 (.ref 456) (.bool true) (.ref 457) .none .none .none (.ref 458)) ::
(nat_lit 460,fo "_law_made" "_law_made" (top 39) (.str "law_inkform_k36_whole_pointed" 734) (.ref 459)) ::
(nat_lit 463, { cls:=.type "tuple",data:=Data.seq #[.str "way" 785,.str "by" 786] }) ::
(nat_lit 466,co "_law_many" "_law_many" 782 783 784 303 2 0 0 3 181 787 303 788 (.ref 461) (.bool true) (.ref 462) .none (.ref 463) (.ref 464) (.ref 465)) ::
(nat_lit 467,fo "_law_many" "_law_many" (top 40) (.str "law_inkform_k36_whole_pointed" 734) (.ref 466)) ::
(nat_lit 471,co "_law_step" "_law_step" 790 791 792 313 2 0 0 3 181 793 313 794 (.ref 468) (.bool true) (.ref 469) .none .none .none (.ref 470)) ::
(nat_lit 472,fo "_law_step" "_law_step" (top 41) (.str "law_inkform_k36_whole_pointed" 734) (.ref 471)) ::
(nat_lit 476,co "_law_formula" "_law_formula" 796 797 798 326 1 0 0 3 181 799 326 800 (.ref 473) (.bool true) (.ref 474) .none .none .none (.ref 475)) ::
(nat_lit 477,fo "_law_formula" "_law_formula" (top 42) (.str "law_inkform_k36_whole_pointed" 734) (.ref 476)) ::
(nat_lit 480, { cls:=.type "tuple",data:=Data.seq #[.str "script" 805,.str "k" 806] }) ::
(nat_lit 483,co "_law_cell_at" "_law_cell_at" 802 803 804 337 2 0 0 3 181 807 337 808 (.ref 478) (.bool true) (.ref 479) .none (.ref 480) (.ref 481) (.ref 482)) ::
(nat_lit 484,fo "_law_cell_at" "_law_cell_at" (top 43) (.str "law_inkform_k36_whole_pointed" 734) (.ref 483)) ::
(nat_lit 487, { cls:=.type "tuple",data:=Data.seq #[.str "found" 813] }) ::
(nat_lit 490,co "_law_whole" "_law_whole" 810 811 812 341 1 0 0 3 181 814 341 815 (.ref 485) (.bool true) (.ref 486) .none (.ref 487) (.ref 488) (.ref 489)) ::
(nat_lit 491,fo "_law_whole" "_law_whole" (top 44) (.str "law_inkform_k36_whole_pointed" 734) (.ref 490)) ::
(nat_lit 494, { cls:=.type "tuple",data:=Data.seq #[.str "place" 820,.str "row" 821,.str "column" 822] }) ::
(nat_lit 497,co "_law_has" "_law_has" 817 818 819 343 3 0 0 3 181 823 343 824 (.ref 492) (.bool true) (.ref 493) .none (.ref 494) (.ref 495) (.ref 496)) ::
(nat_lit 498,fo "_law_has" "_law_has" (top 45) (.str "law_inkform_k36_whole_pointed" 734) (.ref 497)) ::
(nat_lit 502,co "_law_own_place" "_law_own_place" 826 827 828 345 4 0 0 3 181 829 345 830 (.ref 499) (.bool true) (.ref 500) .none .none .none (.ref 501)) ::
(nat_lit 503,fo "_law_own_place" "_law_own_place" (top 46) (.str "law_inkform_k36_whole_pointed" 734) (.ref 502)) ::
(nat_lit 506, { cls:=.type "tuple",data:=Data.seq #[.str "cell" 835,.str "size" 836] }) ::
(nat_lit 509,co "_law_number" "_law_number" 832 833 834 354 2 0 0 3 181 837 354 838 (.ref 504) (.bool true) (.ref 505) .none (.ref 506) (.ref 507) (.ref 508)) ::
(nat_lit 510,fo "_law_number" "_law_number" (top 47) (.str "law_inkform_k36_whole_pointed" 734) (.ref 509)) ::
(nat_lit 514,co "law" "law" 840 841 842 360 1 0 0 3 181 843 360 844 (.ref 511) (.bool true) (.ref 512) .none .none .none (.ref 513)) ::
(nat_lit 515,fo "law" "law" (top 48) (.str "law_inkform_k36_whole_pointed" 734) (.ref 514))::[]
def as:List Addr:=[0,1,2,3,4,5,6,7,8,9,10,13,17,20,21,22,26,27,30,33,34,37,40,41,44,47,51,54,55,58,61,62,65,68,69,72,75,76,79,82,83,84,85,86,91,93,96,100,103,104,107,110,111,112,113,114,117,119,122,127,128,131,134,135,138,141,142,143,144,145,148,150,153,157,160,161,164,167,168,171,174,175,176,177,178,181,183,186,190,193,194,197,200,201,204,207,208,209,210,211,216,219,220,223,226,227,230,233,234,235,237,240,245,246,249,252,253,256,259,260,263,266,267,270,273,274,277,280,281,282,283,284,287,289,292,296,299,300,303,306,307,310,313,314,315,316,317,320,322,325,330,331,334,337,338,342,343,346,349,350,351,352,353,359,360,363,366,367,370,373,374,378,379,383,384,388,389,393,394,397,400,401,404,407,408,411,414,415,418,421,422,425,428,429,432,435,436,439,442,443,446,449,450,454,455,459,460,463,466,467,471,472,476,477,480,483,484,487,490,491,494,497,498,502,503,506,509,510,514,515]
theorem IG (P:Params):as=(K P).map (·.1):=by kernel_rfl
def Q:Program:=view PW [48]
def lo:List Str:=(PW.main.scope.names.map (·.1)).filter fun n=>n != "law"
theorem IH (w:World)(os:OsState):PySem.W.Fast.tw3607735241503979981 PW Q lo [] [] as (boot_heap w.params) w (S0 w os) 100000=PySem.W.Fast.tw20032997767342111 Q lo ((K w.params).map fun p=>some p.2):=by kernel_rfl
theorem run (w:World):∀ os,all PW Q lo [] [] as (boot_heap w.params) w (S0 w os) 100000=due Q lo ((K w.params).map fun p=>some p.2):=by
 rw [PySem.W.Fast.te3607735241503979981,PySem.W.Fast.te20032997767342111]
 exact IH w
theorem left:LeftO PW Q lo (fun s=>xlAt Q [] s && recOk [] s) (obs as) (val K) 100000 :=
 IF (by kernel_rfl) (by decide) (fun s=>by kernel_rfl) run
end HD
end
open PySem PySem.W PyProof.Rows
set_option maxRecDepth 100000 in
set_option maxHeartbeats 0 in
theorem PySem.Challenge.cw_inkform_k36_whole_pointed_holds : PySem.Challenge.rw_inkform_k36_whole_pointed.Holds := by
 w_on
 refine holds_law (by rw [PySem.W.Fast.te9446332074065402090]; kernel_rfl) fun said => ?_
 refine holds_openX (q := HD.Q) (loose := HD.lo) (Xt := fun s => xlAt HD.Q [] s && recOk [] s) (XP := XL HD.Q []) (Yf := HD.obs HD.as) (Ya := HD.val HD.K) (d := HD.dr (HD.top 48)) (kwd := []) (N := 100000) HD.left (fun s e => xl_of s (Bool.and_eq_true_iff.mp e).1) XL.keeps (by kernel_rfl) (by kernel_rfl) (by kernel_rfl) (fun s e => recFacts_of (Bool.and_eq_true_iff.mp e).2) (by rfl) said (by decide +kernel) ⟨rfl, rfl, rfl, rfl, rfl, by decide +kernel⟩ ?hw ?hc
 case hw => w_witness2
 case hc =>
  k_fill
  refine HD.yt HD.IG ?_
  refine K36.walk (l := PySem.Challenge.rw_inkform_k36_whole_pointed) rfl (by kernel_rfl) (fun w h Y => Y) ?F
  case F =>
   intro w mg fa h KX G hmg
   refine' K36.all_mk KX G hmg ?_ ?_ ?_ ?_ ?_ ?_ ?_ ?_ ?_ ?_ ?_ ?_ ?_ ?_ ?_ ?_ ?_ ?_ ?_ ?_ ?_ ?_ ?_ ?_ ?_ ?_ ?_ ?_ ?_ ?_ ?_ ?_ ?_ ?_ ?_ ?_ ?_ ?_ ?_ ?_ ?_ ?_ ?_ ?_ ?_ ?_ ?_ ?_ ?_ ?_ ?_ ?_ ?_ ?_ ?_ ?_ ?_ ?_ ?_ ?_ ?_ ?_ ?_ ?_ ?_ ?_ ?_ ?_ ?_ ?_ ?_ ?_ ?_ ?_ ?_ ?_ ?_ ?_ ?_ ?_ ?_ ?_ ?_ ?_ ?_ ?_ ?_ ?_ ?_ ?_ ?_ ?_ ?_ ?_ ?_ ?_ ?_ ?_ ?_ ?_ ?_ ?_ ?_ ?_ ?_ ?_ ?_ ?_ ?_ ?_ ?_ ?_ ?_ ?_ ?_ ?_ ?_ ?_ ?_ ?_ ?_ ?_ ?_ ?_ ?_ ?_ ?_ ?_ ?_ ?_ ?_ ?_ ?_ ?_ ?_ ?_ ?_ ?_ ?_ ?_ ?_ ?_ ?_ ?_ ?_ ?_ ?_ ?_ ?_ ?_ ?_ ?_ ?_ ?_ ?_ ?_ ?_ ?_ ?_ ?_ ?_ ?_ ?_ ?_ ?_ ?_ ?_ ?_ ?_ ?_ ?_ ?_ ?_ ?_ ?_ ?_ ?_ ?_ ?_ ?_ ?_ ?_ ?_ ?_ ?_ ?_ ?_ ?_ ?_ ?_ ?_ ?_ ?_ ?_ ?_ ?_ ?_ ?_ ?_ ?_ ?_ ?_ ?_ ?_ ?_ ?_ ?_ ?_ ?_ ?_ ?_ ?_ ?_ ?_ ?_ ?_ ?_ ?_ ?_ ?_ ?_ ?_ ?_ ?_ ?_ ?_ ?_ ?_ ?_ ?_ ?_ ?_ ?_ ?_ ?_ ?_ ?_ ?_ ?_ ?_ ?_ ?_ ?_ ?_ ?_ ?_ ?_ ?_ ?_ ?_ ?_ ?_ ?_ ?_ ?_ ?_ ?_ ?_ ?_ ?_ ?_ ?_ ?_ ?_ ?_ ?_ ?_ ?_ ?_ ?_ ?_ ?_ ?_ ?_ ?_ ?_ ?_ ?_ ?_ ?_ ?_ ?_ ?_ ?_ ?_ ?_ ?_ ?_ ?_ ?_ ?_ ?_ ?_ ?_ ?_ ?_ ?_ ?_ ?_ ?_ ?_ ?_ ?_ ?_ ?_ ?_ ?_ ?_ ?_ ?_ ?_ ?_ ?_ ?_ ?_ ?_ ?_ ?_ ?_ ?_ ?_ ?_ ?_ ?_ ?_ ?_ ?_ ?_ ?_ ?_ ?_ ?_ ?_ ?_ ?_ ?_ ?_ ?_ ?_ ?_ ?_ ?_ ?_ ?_ ?_ ?_ ?_ ?_ ?_ ?_ ?_ ?_ ?_ ?_ ?_ ?_ ?_ ?_ ?_ ?_ ?_ ?_ ?_ ?_ ?_ ?_ ?_ ?_ ?_ ?_ ?_ ?_ ?_ ?_ ?_ ?_ ?_ ?_ ?_ ?_ ?_ ?_ ?_ ?_ ?_ ?_ ?_ ?_ ?_ ?_ ?_ ?_ ?_ ?_ ?_ ?_ ?_ ?_ ?_ ?_ ?_ ?_ ?_ ?_ ?_ ?_ ?_ ?_ ?_ ?_ ?_ ?_ ?_ ?_ ?_ ?_ ?_ ?_ ?_ ?_ ?_ ?_
   all_goals try first | k_is | kernel_rfl | decide +kernel
#print axioms PySem.Challenge.cw_inkform_k36_whole_pointed_holds