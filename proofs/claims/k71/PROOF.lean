import PyProof.Rows.All
import Wide.All
import OpenK.AllK
import Wide.FinOn
import Lean
import PyProof.EqAt
import PyProof.EqKinds
import PyProof.TupleCall
import PyProof.StrWalks
import PyProof.Rows.SumAny
import PyProof.ConsumeWalk
import PyProof.Rows.StrJoin2
import PyProof.StrLaws
import PyProof.StrCalls
import PyProof.Rows.StrCountLaw
import Wide.Txt
import PyProof.EnumMake
import PyProof.Rows.EnumRows
import PyProof.Rows.StrRev
import PyProof.Rows.MinMaxN
import PyProof.Rows.Range3
import PyProof.MinMaxWalk
import PyProof.Rows.CallKwBuiltin
import PyProof.AutoSeq1
import PyProof.Draws
import PyProof.ToksMono
import PyProof.StrCalls6
import PyProof.Rows.StrStrike
import PyProof.ListMulRoad
import PyProof.FactsAll.tuple_2
import OpenK.KCls
import PyProof.ZipIter
import PyProof.Rows.StrPadWhole
import PyProof.StationsW
import PyProof.RulesAs
import PyProof.NsDelKeeps
import PyProof.ExcBaseAll.ValueError
import OpenK.KOwn
import KE.KIsAll
import PyProof.ExcArgs
import PyProof.StrLawsTight
import PyProof.StrLawsChain
import PyProof.StrCalls2
import PyProof.Rows.StrItems
import PyProof.Rows.RuleDivmod
import OpenK.ZGo
import PySem.Challenge.RW_inkform_k71_put_into_one
set_option compiler.extract_closed false
noncomputable section
section
set_option Elab.async false
set_option linter.all false
set_option maxRecDepth 100000
namespace L2
open PySem PySem.Spec PyProof.Rows
noncomputable abbrev Key := Sum Int Str
noncomputable def keyIs:Key → Value → Bool
  | .inl k,v => Value.isInt k v
  | .inr x,v => Value.isStrOf x v
noncomputable def keyH (w:World):Key → Int
  | .inl k => hashInt k
  | .inr x => hashStr w x
theorem keyIs_shape : ∀ {k:Key} {v:Value},keyIs k v = true → (∃ i t,k = Sum.inl i ∧ v = Value.int i t) ∨ (∃ x t,k = Sum.inr x ∧ v = Value.str x t)
  | .inl i,v,h => by
    obtain ⟨t,e⟩ := Value.isInt_shape (k := i) (v := v) h
    exact .inl ⟨i,t,rfl,e⟩
  | .inr x,v,h => by
    obtain ⟨t,e⟩ := Value.isStrOf_shape (x := x) (v := v) h
    exact .inr ⟨x,t,rfl,e⟩
theorem keyIs_int (i:Int) (t:Tok):keyIs (.inl i) (.int i t) = true := by simp [keyIs,Value.isInt]
theorem keyIs_str (x:Str) (t:Tok):keyIs (.inr x) (.str x t) = true := by simp [keyIs,Value.isStrOf]
theorem key_ll (a b:Int):decide ((Sum.inl a:Key) = Sum.inl b) = (a == b) := by
  by_cases e:a = b
  · subst e; simp
  · have h : ¬ (Sum.inl a:Key) = Sum.inl b := fun q => e (Sum.inl.inj q)
    rw [decide_eq_false h]
    exact (beq_eq_false_iff_ne.mpr e).symm
theorem key_rr (a b:Str):decide ((Sum.inr a:Key) = Sum.inr b) = decide (a = b) := by
  by_cases e:a = b
  · subst e; simp
  · have h : ¬ (Sum.inr a:Key) = Sum.inr b := fun q => e (Sum.inr.inj q)
    rw [decide_eq_false h,decide_eq_false e]
theorem key_lr (a:Int) (b:Str):decide ((Sum.inl a:Key) = Sum.inr b) = false := decide_eq_false (fun q => nomatch q)
theorem key_rl (a:Str) (b:Int):decide ((Sum.inr a:Key) = Sum.inl b) = false := decide_eq_false (fun q => nomatch q)
noncomputable def mixKind (prog:Program) (w:World):PySem.KeyKind prog w Key where
  is := keyIs
  hash := keyH w
  inj := fun v a b ha hb => by
    rcases keyIs_shape ha with ⟨i,t,rfl,rfl⟩ | ⟨x,t,rfl,rfl⟩
    · rcases keyIs_shape hb with ⟨j,u,rfl,e⟩ | ⟨y,u,rfl,e⟩
      · injection e with e1 _; rw [e1]
      · exact nomatch e
    · rcases keyIs_shape hb with ⟨j,u,rfl,e⟩ | ⟨y,u,rfl,e⟩
      · exact nomatch e
      · injection e with e1 _; rw [e1]
  byValue := fun k v h => by
    rcases keyIs_shape h with ⟨i,t,rfl,rfl⟩ | ⟨x,t,rfl,rfl⟩ <;> rfl
  pyHash := fun hv h => by
    rcases keyIs_shape hv with ⟨i,t,rfl,rfl⟩ | ⟨x,t,rfl,rfl⟩
    · exact wpAny_pyHash_int h
    · exact wpAny_pyHash_str h
  eqBool := fun hu hv h => by
    rcases keyIs_shape hu with ⟨i,t,rfl,rfl⟩ | ⟨x,t,rfl,rfl⟩
    · rcases keyIs_shape hv with ⟨j,u,rfl,rfl⟩ | ⟨y,u,rfl,rfl⟩
      · rw [key_ll] at h; exact wpAny_eqBool_int h
      · rw [key_lr] at h; exact SeqAt.EqAt.int_str i t y u _ _ _ _ h
    · rcases keyIs_shape hv with ⟨j,u,rfl,rfl⟩ | ⟨y,u,rfl,rfl⟩
      · rw [key_rl] at h; exact SeqAt.EqAt.str_int x t j u _ _ _ _ h
      · rw [key_rr] at h; exact wpAny_eqBool_str h
  «strs» := fun k x t v h => by
    rcases keyIs_shape h with ⟨i,u,rfl,e⟩ | ⟨y,u,rfl,e⟩
    · exact nomatch e
    · injection e with e1 _
      subst e1
      cases v <;> rfl
theorem mixKind_int (prog:Program) (w:World) (i:Int) (t:Tok):(mixKind prog w).is (.inl i) (.int i t) = true := keyIs_int i t
theorem mixKind_str (prog:Program) (w:World) (x:Str) (t:Tok):(mixKind prog w).is (.inr x) (.str x t) = true := keyIs_str x t
end L2
namespace L2
open PySem PySem.Spec PyProof.Rows
inductive V where
  | non | bl (b:Bool) | int (i:Int) | str (x:Str) | byt (b:Array UInt8) | flt (b:UInt64) | ref (a:Addr) | ty (n:String)
  deriving DecidableEq
noncomputable def RelV:V → Value → Prop
  | .non,u => u = Value.none
  | .bl b,u => u = Value.bool b
  | .int i,u => ∃ t,u = Value.int i t
  | .str x,u => ∃ t,u = Value.str x t
  | .byt b,u => ∃ t,u = Value.bytes b t
  | .flt b,u => ∃ t,u = Value.float b t
  | .ref a,u => u = Value.ref a
  | .ty n,u => u = Value.type n
noncomputable abbrev Vals:List V → List Value → Prop := Paired RelV
theorem Vals.length {xs:List V} {us:List Value} (r:Vals xs us):xs.length = us.length := Paired.length r
theorem Vals.get : ∀ {xs:List V} {us:List Value} {i:Nat} {x:V},Vals xs us → xs[i]? = some x → ∃ u,us[i]? = some u ∧ RelV x u
  | _,_,_,_,.nil,e => by simp at e
  | _,_,0,_,.cons r _,e => by simp at e; subst e; exact ⟨_,rfl,r⟩
  | _,_,i + 1,x,.cons _ t,e => by
    obtain ⟨u,h1,h2⟩ := Vals.get (i := i) (x := x) t (by simpa using e)
    exact ⟨u,by simpa using h1,h2⟩
theorem Vals.set {x:V} {u:Value} (r:RelV x u) : ∀ {xs:List V} {us:List Value} (i:Nat),Vals xs us → Vals (xs.set i x) (us.set i u)
  | _,_,_,.nil => .nil
  | _,_,0,.cons _ t => .cons r t
  | _,_,i + 1,.cons q t => .cons q (Vals.set r i t)
theorem Vals.append : ∀ {xs ys:List V} {us ws:List Value},Vals xs us → Vals ys ws → Vals (xs ++ ys) (us ++ ws)
  | _,_,_,_,.nil,s => s
  | _,_,_,_,.cons r t,s => .cons r (Vals.append t s)
theorem Vals.take : ∀ {xs:List V} {us:List Value} (n:Nat),Vals xs us → Vals (xs.take n) (us.take n)
  | _,_,0,_ => .nil
  | _,_,_ + 1,.nil => .nil
  | _,_,n + 1,.cons r t => .cons r (Vals.take n t)
theorem Vals.drop : ∀ {xs:List V} {us:List Value} (n:Nat),Vals xs us → Vals (xs.drop n) (us.drop n)
  | _,_,0,r => r
  | _,_,_ + 1,.nil => .nil
  | _,_,n + 1,.cons _ t => Vals.drop n t
noncomputable def RelO:Option V → Option Value → Prop
  | some v,some u => RelV v u
  | none,none => True
  | _,_ => False
noncomputable def KV {κ:Type}:List (κ × V) → List (κ × Value) → Prop := Paired fun (p : κ × V) (q : κ × Value) => p.1 = q.1 ∧ RelV p.2 q.2
noncomputable def kV:Key → V
  | .inl i => .int i
  | .inr x => .str x
inductive HO where
    | lst (xs:List V)
    | tup (xs:List V)
    | dK (kvs:List (Key × V)) | dT (kvs:List (List Key × V))
    | set (S:Int → Bool) (n:Nat)
    | ins (C dx:Addr) (fs:List (Str × V))
    | own (x:Addr)
    | xd (fs:List (Str × V))
    | met (f x:Addr)
    | rng (lo hi:Int)
    | frz (o:Obj) (u:HO)
    | tbl (ps:Array Value)
    | ext (φ:Heap → Prop)
noncomputable abbrev Hp := Addr → Option HO
noncomputable def upd (H:Hp) (a:Addr) (o:HO):Hp := fun b => if b = a then some o else H b
theorem upd_same {H:Hp} {a:Addr} {o:HO}:upd H a o a = some o := by unfold upd; rw [if_pos rfl]
theorem upd_ne {H:Hp} {a b:Addr} {o:HO} (h:b ≠ a):upd H a o b = H b := by unfold upd; rw [if_neg h]
theorem ne_of_none {H:Hp} {a b:Addr} {o:HO} (h:H a = some o) (h':H b = none):a ≠ b := by
  intro e; subst e; rw [h] at h'; cases h'
section
variable (P:Program) (w:World)
noncomputable def ObjOk (H:Hp) (h:Heap) (a:Addr):HO → Prop
  | .lst xs => xs.length ≤ sizeLine ∧ ∃ (its:List Value) (n:Nat),Vals xs its ∧ h.get? a = some { cls := .type "list",data := .seq its.toArray n }
  | .tup xs => xs.length ≤ sizeLine ∧ ∃ its:List Value,Vals xs its ∧ IsTup h a its.toArray
  | .dK kvs => kvs.length ≤ sizeLine ∧ (a == sysModules) = false ∧ ∃ vs,KV kvs vs ∧ h.DictOf (mixKind P w) a vs
  | .dT kvs => kvs.length ≤ sizeLine ∧ (a == sysModules) = false ∧ ∃ xs:List (List Key × Addr × Value),
      Paired (fun (p:List Key × V) (q:List Key × Addr × Value) => p.1 = q.1 ∧ H q.2.1 = some (.tup (p.1.map kV)) ∧ RelV p.2 q.2.2) kvs xs ∧
      ∃ o es ep,h.get? a = some o ∧ o.ExactDict ∧ o.data = .dict es ep ∧ es.toList = xs.map (entryOfKey (tupleKind (mixKind P w))) ∧ (xs.map (·.1)).Nodup
  | .set S n => h.SetOf (intKind P w) a S n
  | .ins C dx fs => H dx = some (.own a) ∧ fs.length ≤ 1000 ∧ dx ≠ a ∧ h.get? a = some (PySem.W.instObj C dx) ∧
      ∃ mA,h.Ns1 dx mA ∧ (∀ f,RelO (fs.lookup f) (mA f)) ∧ PySem.Within mA (fs.map (·.1))
  | .own _ => ∃ o,h.get? a = some o
  | .xd fs => ∃ mA,h.Ns1 a mA ∧ ∀ f,RelO (fs.lookup f) (mA f)
  | .rng lo hi => ∃ t u v,h.get? a = some { cls := .type "range",data := .fields #[.int lo t,.int hi u,.int 1 v] }
  | .frz o u => h.get? a = some o ∧ ObjOk H h a u
  | .tbl ps => h.get? a = some { cls := .none,data := .fields ps }
  | .met f x => h.get? a = some (PySem.W.methodObj (.ref f) (.ref x))
  | .ext φ => φ h ∧ (∃ o,h.get? a = some o) ∧ ∀ h1 h2:Heap, φ h1 → (∀ o,h1.get? a = some o → h2.get? a = some o) → φ h2
noncomputable def HOk (H:Hp) (h:Heap):Prop := ∀ a o,H a = some o → ObjOk P w H h a o
end
section
variable {P:Program} {w:World} {H H':Hp} {h h':Heap} {a:Addr} {o:HO}
theorem ObjOk.lt (x:ObjOk P w H h a o):a < h.objs.size := by
  cases o with
  | lst xs => obtain ⟨_,_,_,_,e⟩ := x; exact Heap.lt_size e
  | tup xs => obtain ⟨_,_,_,p⟩ := x; exact p.lt
  | dK kvs => obtain ⟨_,_,_,_,o,_,_,e,_⟩ := x; exact Heap.lt_size e
  | dT kvs => obtain ⟨_,_,_,_,o,_,_,e,_⟩ := x; exact Heap.lt_size e
  | set S n => obtain ⟨o,_,_,_,e,_⟩ := x; exact Heap.lt_size e
  | ins C dx fs => obtain ⟨_,_,_,e,_⟩ := x; exact Heap.lt_size e
  | own y => obtain ⟨_,e⟩ := x; exact Heap.lt_size e
  | xd fs => obtain ⟨_,⟨_,_,_,e,_⟩,_⟩ := x; exact Heap.lt_size e
  | rng lo hi => obtain ⟨_,_,_,e⟩ := x; exact Heap.lt_size e
  | frz ob u => obtain ⟨e,_⟩ := x; exact Heap.lt_size e
  | tbl ps => exact Heap.lt_size (show h.get? a = some _ from x)
  | met f y => exact Heap.lt_size (show h.get? a = some _ from x)
  | ext φ => obtain ⟨_,⟨_,e⟩,_⟩ := x; exact Heap.lt_size e
theorem Paired.mapP {α β:Type} {F G : α → β → Prop} : ∀ {l₁:List α} {l₂:List β},Paired F l₁ l₂ → (∀ a b,F a b → G a b) → Paired G l₁ l₂
  | _,_,.nil,_ => .nil
  | _,_,.cons r t,f => .cons (f _ _ r) (Paired.mapP t f)
theorem ObjOk.stay (x:ObjOk P w H h a o) (k : ∀ b u,(b = a ∨ H b = some (.own a)) → h.get? b = some u → h'.get? b = some u)
    (ho : ∀ b,H b = some (.own a) → H' b = some (.own a)) (ht : ∀ b xs,H b = some (.tup xs) → H' b = some (.tup xs)):ObjOk P w H' h' a o := by
  induction o with
  | lst xs => obtain ⟨z,its,n,r,e⟩ := x; exact ⟨z,its,n,r,k _ _ (.inl rfl) e⟩
  | tup xs => obtain ⟨z,its,r,ob,e,c⟩ := x; exact ⟨z,its,r,ob,k _ _ (.inl rfl) e,c⟩
  | dK kvs => obtain ⟨z,y,vs,r,ob,es,ep,e,c⟩ := x; exact ⟨z,y,vs,r,ob,es,ep,k _ _ (.inl rfl) e,c⟩
  | dT kvs =>
    obtain ⟨z,y,xs,r,ob,es,ep,e,c⟩ := x
    exact ⟨z,y,xs,Paired.mapP r fun p q z => ⟨z.1,ht _ _ z.2.1,z.2.2⟩,ob,es,ep,k _ _ (.inl rfl) e,c⟩
  | set S n => obtain ⟨ob,es,ep,t,e,c⟩ := x; exact ⟨ob,es,ep,t,k _ _ (.inl rfl) e,c⟩
  | ins C dx fs =>
    obtain ⟨d,z,ne,e,mA,⟨od,es,ep,e2,c⟩,r⟩ := x
    exact ⟨ho _ d,z,ne,k _ _ (.inl rfl) e,mA,⟨od,es,ep,k _ _ (.inr d) e2,c⟩,r⟩
  | own y => obtain ⟨ob,e⟩ := x; exact ⟨ob,k _ _ (.inl rfl) e⟩
  | xd fs => obtain ⟨mA,⟨od,es,ep,e,c⟩,r⟩ := x; exact ⟨mA,⟨od,es,ep,k _ _ (.inl rfl) e,c⟩,r⟩
  | rng lo hi => obtain ⟨t,u,v,e⟩ := x; exact ⟨t,u,v,k _ _ (.inl rfl) e⟩
  | frz ob u ih => obtain ⟨e,q⟩ := x; exact ⟨k _ _ (.inl rfl) e,ih q⟩
  | tbl ps =>
    have e:h.get? a = some { cls := .none,data := .fields ps } := x
    show h'.get? a = some { cls := .none,data := .fields ps }
    exact k a _ (.inl rfl) e
  | met f y =>
    have e:h.get? a = some (PySem.W.methodObj (.ref f) (.ref y)) := x
    show h'.get? a = some (PySem.W.methodObj (.ref f) (.ref y))
    exact k a _ (.inl rfl) e
  | ext φ => obtain ⟨p,⟨o,e⟩,st⟩ := x; exact ⟨st _ _ p fun o q => k _ _ (.inl rfl) q,⟨o,k _ _ (.inl rfl) e⟩,st⟩
theorem HOk.lt (x:HOk P w H h) (e:H a = some o):a < h.objs.size := (x a o e).lt
theorem HOk.fresh (x:HOk P w H h) (e:h.objs.size ≤ a):H a = none := by
  cases q:H a with
  | none => rfl
  | some u => exact absurd (Nat.lt_of_lt_of_le (x.lt q) e) (Nat.lt_irrefl _)
theorem HOk.kept (x:HOk P w H h) (k : ∀ b u,h.get? b = some u → h'.get? b = some u):HOk P w H h' := fun a o e =>
  (x a o e).stay (fun b u _ q => k b u q) (fun _ q => q) fun _ _ q => q
theorem HOk.laid (x:HOk P w H h) (k : ∀ b u,h.get? b = some u → h'.get? b = some u) (hp:h.objs.size ≤ a) (new:ObjOk P w (upd H a o) h' a o):HOk P w (upd H a o) h' := fun b u e => by
  have hn := x.fresh hp
  by_cases hb:b = a
  · subst hb; rw [upd_same] at e; cases e; exact new
  · rw [upd_ne hb] at e
    exact (x b u e).stay (fun c v _ q => k c v q) (fun c q => by rw [upd_ne (ne_of_none q hn)]; exact q) fun c xs q => by rw [upd_ne (ne_of_none q hn)]; exact q
end
noncomputable def Rd (H:Hp) (a:Addr) (u:HO):Prop := H a = some u ∨ ∃ o,H a = some (.frz o u)
theorem Rd.ok {P:Program} {w:World} {H:Hp} {h:Heap} {a:Addr} {u:HO} (r:Rd H a u) (x:HOk P w H h):ObjOk P w H h a u := by
  rcases r with r | ⟨o,r⟩
  · exact x a u r
  · obtain ⟨_,q⟩ := x a _ r
    exact q
noncomputable def Mut:Option HO → Prop
  | some (.lst _) => True
  | some (.dK _) => True
  | some (.dT _) => True
  | some (.set _ _) => True
  | some (.ins _ _ _) => True
  | some (.ext _) => True
  | _ => False
section
variable {P:Program} {w:World} {H:Hp} {h h':Heap} {x e:Addr} {o':HO}
theorem HOk.write (ok:HOk P w H h) (mu:Mut (H x)) (he:e = x ∨ H e = some (.own x)) (k : ∀ b u,b ≠ e → h.get? b = some u → h'.get? b = some u) (heo : ∃ u,h'.get? e = some u)
    (new:ObjOk P w (upd H x o') h' x o'):HOk P w (upd H x o') h' := fun b u q => by
  have nown : ∀ c y,H c = some (.own y) → c ≠ x := fun c y r z => by subst z; rw [r] at mu; exact mu
  have ntup : ∀ c xs,H c = some (.tup xs) → c ≠ x := fun c xs r z => by subst z; rw [r] at mu; exact mu
  by_cases hb:b = x
  · subst hb; rw [upd_same] at q; cases q; exact new
  · rw [upd_ne hb] at q
    by_cases hbe:b = e
    · have q':H b = some (.own x) := by
        rcases he with z | z
        · exact absurd (hbe.trans z) hb
        · rw [hbe]; exact z
      rw [q] at q'; cases q'
      obtain ⟨v,hv⟩ := heo
      exact ⟨v,by rw [hbe]; exact hv⟩
    · refine (ok b u q).stay (fun c v hc r => k c v ?_ r) (fun c r => by rw [upd_ne (nown c b r)]; exact r) fun c xs r => by rw [upd_ne (ntup c xs r)]; exact r
      rcases hc with rfl | hc
      · exact hbe
      · rintro rfl
        rcases he with z | z
        · exact nown c b hc z
        · rw [hc] at z; cases z; exact hb rfl
end
structure Un (fs ex:List Addr) (H H':Hp) (h h':Heap):Prop where
  keep : ∀ b o,h.get? b = some o → H b = none → b ∉ fs → b ∉ ex → h'.get? b = some o
  slot : ∀ b o,h.get? b = some o → H b = none → b ∈ fs → b ∉ ex → ∃ sl,h'.get? b = some { o with slots := sl }
  free : ∀ b o,h.get? b = some o → H b = none → b ∉ ex → H' b = none
  there : ∀ b o,h.get? b = some o → b ∉ ex → ∃ o',h'.get? b = some o'
  tups : ∀ b xs,H b = some (.tup xs) → H' b = some (.tup xs)
  frzs : ∀ b o u,H b = some (.frz o u) → H' b = some (.frz o u)
  tbls : ∀ b ps,H b = some (.tbl ps) → ∃ more,H' b = some (.tbl (ps ++ more))
section
variable {fs fs' ex ex':List Addr} {H H1 H2:Hp} {h h1 h2 h':Heap} {a x e:Addr} {o:HO}
theorem Un.any (u:Un fs ex H H1 h h1) {b:Addr} {ob:Obj} (q:h.get? b = some ob) (n:H b = none) (hx:b ∉ ex) : ∃ sl,h1.get? b = some { ob with slots := sl } := by
  by_cases hb:b ∈ fs
  · exact u.slot b ob q n hb hx
  · exact ⟨ob.slots,u.keep b ob q n hb hx⟩
theorem Un.kept (k : ∀ b u,h.get? b = some u → h'.get? b = some u):Un fs ex H H h h' :=
  ⟨fun b ob q _ _ _ => k b ob q,fun b ob q _ _ _ => ⟨ob.slots,k b ob q⟩,fun _ _ _ n _ => n,fun b ob q _ => ⟨ob,k b ob q⟩,fun _ _ q => q,fun _ _ _ q => q,fun _ ps q => ⟨#[],by rw [q]; simp⟩⟩
theorem Un.refl:Un fs ex H H h h := Un.kept fun _ _ q => q
theorem Un.laid (k : ∀ b u,h.get? b = some u → h'.get? b = some u) (hp:h.objs.size ≤ a) (hn:H a = none):Un fs ex H (upd H a o) h h' where
  keep := fun b u q _ _ _ => k b u q
  slot := fun b u q _ _ _ => ⟨u.slots,k b u q⟩
  free := fun b u q n _ => by rw [upd_ne (Nat.ne_of_lt (Nat.lt_of_lt_of_le (Heap.lt_size q) hp))]; exact n
  there := fun b u q _ => ⟨u,k b u q⟩
  tups := fun b xs q => by rw [upd_ne (ne_of_none q hn)]; exact q
  frzs := fun b u xs q => by rw [upd_ne (ne_of_none q hn)]; exact q
  tbls := fun b ps q => ⟨#[],by rw [upd_ne (ne_of_none q hn),q]; simp⟩
theorem Un.write (mu:Mut (H x)) (he:e = x ∨ H e = some (.own x)) (k : ∀ b u,b ≠ e → h.get? b = some u → h'.get? b = some u) (heo : ∃ u,h'.get? e = some u):Un fs ex H (upd H x o) h h' := by
  have hx : ∀ b,H b = none → b ≠ x := fun b n z => by subst z; rw [n] at mu; exact mu
  have hb : ∀ b,H b = none → b ≠ e := fun b n z => by
    subst z
    rcases he with r | r
    · exact hx b n r
    · rw [n] at r; cases r
  have hm : ∀ b u,H b = some u → ¬ Mut (some u) → b ≠ x := fun b u q nm z => by subst z; rw [q] at mu; exact nm mu
  refine ⟨fun b u q n _ _ => k b u (hb b n) q,fun b u q n _ _ => ⟨u.slots,k b u (hb b n) q⟩,fun b u q n _ => by rw [upd_ne (hx b n)]; exact n,fun b u q _ => ?_,
    fun b xs q => by rw [upd_ne (hm b _ q fun z => z)]; exact q,fun b u xs q => by rw [upd_ne (hm b _ q fun z => z)]; exact q,fun b ps q => ⟨#[],by rw [upd_ne (hm b _ q fun z => z),q]; simp⟩⟩
  by_cases hbe:b = e
  · subst hbe; exact heo
  · exact ⟨u,k b u hbe q⟩
end
noncomputable def trk (h:Heap) (H:Hp):List Addr := (List.range h.objs.size).filter fun a => (H a).isSome
noncomputable def hidT (h:Heap) (H:Hp):Heap := PySem.W.hideAll h (trk h H)
theorem hidT_size (h:Heap) (H:Hp):(hidT h H).objs.size = h.objs.size := PySem.W.hideAll_size _ _
theorem hidT_get {h:Heap} {H:Hp} {b:Addr} {o:Obj} (e:h.get? b = some o) (n:H b = none):(hidT h H).get? b = some o :=
  PySem.W.hideAll_get _ e fun hm => by
    have q:(H b).isSome = true := (List.mem_filter.mp hm).2
    rw [n] at q; simp at q
theorem of_hidT {h:Heap} {H:Hp} {b:Addr} {o:Obj} (e:(hidT h H).get? b = some o):h.get? b = some o ∧ H b = none := by
  have e':h.get? b = some o := PySem.W.of_hideAll (trk h H) e
  refine ⟨e', ?_⟩
  cases q:H b with
  | none => rfl
  | some x =>
    have hm:b ∈ trk h H := List.mem_filter.mpr ⟨List.mem_range.mpr (Heap.lt_size e'),by simp [q]⟩
    have z:(hidT h H).get? b = none := PySem.W.hideAll_none (trk h H) hm
    rw [z] at e; cases e
end L2
namespace L2
open PySem PySem.Spec PyProof.Rows
structure Mod (K:PySem.W.Frag) (mg:Str → Option Value) (base:Heap):Prop where
  kin:K.In base
  glob:base.Ns mainGlobals mg
  blt : ∃ mb,base.Ns builtinsNs mb ∧ ∀ x:Str,x ≠ "__name__" → mb x = bootBuiltins x
  nolimit:base.NoLimit
structure Cx where
  prog:Program
  w:World
  K:PySem.W.Frag
  mg:Str → Option Value
  base:Heap
  A:Around
  N:List Str
  s₀:Shared
  H₀:Hp
  env:Env
  outer:List Env
  stack:List Env
  ex:List Addr
  fn:Str → Bool
  calm:Bool
  pn:List (Addr × Obj)
  xe:Value → Shared → Prop
noncomputable def frs (l:List Env):List Addr := l.filterMap (·.frame)
noncomputable abbrev Cx.fs (X:Cx):List Addr := frs X.outer
noncomputable def Vis (sc:Scope) (x:Str):Prop := sc.names.lookup x = some .local ∨ sc.names.lookup x = some .cell ∨ sc.names.lookup x = some .free
noncomputable def Loc (sc:Scope) (x:Str):Prop := sc.names.lookup x = some .local ∨ sc.names.lookup x = some .cell
noncomputable def Look (env:Env) (h:Heap) (m:Str → Option Value) (x:Str) (u:Value):Prop :=
  (env.kindOf x = some .local ∧ m x = some u) ∨ ((env.kindOf x = some .cell ∨ env.kindOf x = some .free) ∧ ∃ c,env.cells.lookup x = some c ∧ h.IsCell c (some u))
structure Cx.Ok (X:Cx):Prop where
  mod:Mod X.K X.mg X.base
  kind:X.env.scope.kind = .function
  glob:X.env.globals = mainGlobals
  blt:X.env.builtins = builtinsNs
  above:X.s₀.heap.objs.size ≤ X.env.locals
  inj : ∀ x y c,X.env.cells.lookup x = some c → X.env.cells.lookup y = some c → x = y
  has : ∀ x,(X.env.kindOf x = some .cell ∨ X.env.kindOf x = some .free) → ∃ c,X.env.cells.lookup x = some c
  cab : ∀ x c,X.fn x = true → X.env.cells.lookup x = some c → X.s₀.heap.objs.size ≤ c
  hd:X.calm = true → X.A.handled = none
  frames:X.A.frames = some X.stack
  stk:X.stack = X.outer ∨ (X.stack = X.env :: X.outer ∧ X.env.frame = some X.env.locals)
  exf : ∀ b ∈ X.ex,b ≠ X.env.locals ∧ ∀ x c,X.env.cells.lookup x = some c → c ≠ b
  bs : ∀ b o,X.base.get? b = some o → X.s₀.heap.get? b = some o ∧ X.H₀ b = none
  bsz:X.base.objs.size ≤ X.s₀.heap.objs.size
  noex : ∀ b o,X.base.get? b = some o → b ∉ X.ex
  exfs : ∀ b ∈ X.ex,b ∉ X.fs
  funs:X.s₀.heap.FunFrames X.base X.outer
  frf : ∀ b ∈ X.fs,X.H₀ b = none
structure Inv (X:Cx) (pins:List (Addr × Obj)) (σ:List (Option V)) (H:Hp) (s:Shared):Prop where
  ok:X.Ok
  os:s.os = X.s₀.os
  bare:AllBare s.gens
  base:Un X.fs X.ex X.H₀ H X.s₀.heap s.heap
  loc : ∃ m,s.heap.Ns X.env.locals m ∧ ∀ (i:Nat) (x:Str) (v:V),X.N[i]? = some x → σ[i]? = some (some v) → Vis X.env.scope x → ∃ u,RelV v u ∧ Look X.env s.heap m x u
  cell : ∀ x c,X.env.cells.lookup x = some c → ∃ v,s.heap.IsCell c v
  free:H X.env.locals = none
  freeC : ∀ x c,X.env.cells.lookup x = some c → H c = none
  pin : ∀ p ∈ X.pn ++ pins,s.heap.get? p.1 = some p.2 ∧ H p.1 = none ∧ p.1 ≠ X.env.locals ∧ p.1 ∉ X.fs ∧ ∀ v,p.2.data ≠ .cell v
  hok:HOk X.prog X.w H s.heap
  len : σ.length = X.N.length
section
variable {X:Cx} {pins:List (Addr × Obj)} {σ:List (Option V)} {H H':Hp} {s:Shared} {h':Heap}
theorem Cx.Ok.nofr (ok:X.Ok) {b:Addr} {o:Obj} (e:X.base.get? b = some o):b ∉ X.fs := fun hb => by
  have := (ok.funs.mem hb).1
  rw [e] at this; cases this
theorem Inv.bs (I:Inv X pins σ H s) : ∀ b o,X.base.get? b = some o → s.heap.get? b = some o ∧ H b = none := fun b o e =>
  ⟨I.base.keep b o (I.ok.bs b o e).1 (I.ok.bs b o e).2 (I.ok.nofr e) (I.ok.noex b o e),I.base.free b o (I.ok.bs b o e).1 (I.ok.bs b o e).2 (I.ok.noex b o e)⟩
theorem Inv.bk (I:Inv X pins σ H s) : ∀ b o,X.base.get? b = some o → s.heap.get? b = some o := fun b o e => (I.bs b o e).1
theorem Inv.mod (I:Inv X pins σ H s):Mod X.K X.mg X.base := I.ok.mod
theorem Inv.kIn (I:Inv X pins σ H s):X.K.In s.heap := I.ok.mod.kin.keeps I.bk
theorem Inv.lt (I:Inv X pins σ H s):X.env.locals < s.heap.objs.size := let ⟨_,hn,_⟩ := I.loc; hn.lt
theorem Inv.sz (I:Inv X pins σ H s):X.s₀.heap.objs.size ≤ s.heap.objs.size := Nat.le_trans I.ok.above (Nat.le_of_lt I.lt)
theorem Inv.nofs (I:Inv X pins σ H s) {a:Addr} (h:s.heap.objs.size ≤ a):a ∉ X.fs := fun hb => by
  obtain ⟨_,o,ho,_⟩ := I.ok.funs.mem hb
  exact absurd (Nat.lt_of_lt_of_le (Heap.lt_size ho) (Nat.le_trans I.sz h)) (Nat.lt_irrefl _)
theorem Inv.cne (I:Inv X pins σ H s) : ∀ x c,X.env.cells.lookup x = some c → c ≠ X.env.locals := fun x c e z => by
  obtain ⟨v,o,ho,hd⟩ := I.cell x c e
  obtain ⟨m,⟨o',es,ep,ho',hd',_⟩,_⟩ := I.loc
  rw [z,ho'] at ho; cases ho; rw [hd'] at hd; cases hd
theorem Inv.funs (I:Inv X pins σ H s):s.heap.FunFrames X.base X.outer := by
  have all : ∀ (l:List Env),(∀ b ∈ frs l,b ∈ X.fs) → X.s₀.heap.FunFrames X.base l → s.heap.FunFrames X.base l := by
    intro l
    induction l with
    | nil => intro _ _; trivial
    | cons env r ih =>
      intro hs hl
      obtain ⟨hk,⟨L,o,hf,hn,ho,hd⟩,hr⟩ := hl
      have hL:L ∈ X.fs := hs L (by unfold frs; rw [List.filterMap_cons,hf]; exact List.mem_cons_self)
      obtain ⟨sl,e⟩ := I.base.slot L o ho (I.ok.frf L hL) hL fun z => I.ok.exfs L z hL
      exact ⟨hk,⟨L,_,hf,hn,e,hd⟩,ih (fun b hb => hs b (by unfold frs; rw [List.filterMap_cons,hf]; exact List.mem_cons_of_mem _ hb)) hr⟩
  exact all X.outer (fun _ hb => hb) I.ok.funs
theorem Inv.stack (I:Inv X pins σ H s):s.heap.FunFrames X.base X.stack := by
  rcases I.ok.stk with e | ⟨e,hf⟩
  · rw [e]; exact I.funs
  · rw [e]
    obtain ⟨m,hn,_⟩ := I.loc
    refine .cons (by rw [I.ok.kind]; decide) hf hn ?_ I.funs
    exact Heap.get?_none_of_le (Nat.le_trans I.ok.bsz I.ok.above)
theorem Inv.stkSub (I:Inv X pins σ H s) : ∀ b ∈ frs X.stack,b ∈ X.env.locals :: X.fs := fun b hb => by
  rcases I.ok.stk with e | ⟨e,hf⟩
  · rw [e] at hb; exact List.mem_cons_of_mem _ hb
  · rw [e] at hb
    unfold frs at hb
    rw [List.filterMap_cons,hf] at hb
    exact hb
theorem Inv.stkFree (I:Inv X pins σ H s) : ∀ b ∈ frs X.stack,H b = none := fun b hb => by
  rcases List.mem_cons.mp (I.stkSub b hb) with e | hb
  · rw [e]; exact I.free
  · obtain ⟨_,o,ho,_⟩ := I.ok.funs.mem hb
    exact I.base.free b o ho (I.ok.frf b hb) fun z => I.ok.exfs b z hb
theorem Inv.step {g':Array GenState} {t':Nat} {d':Drawn} {ch:List Addr} (I:Inv X pins σ H s)
    (hch : ∀ b ∈ ch,(b ∈ X.ex ∨ X.s₀.heap.objs.size ≤ b) ∧ b ≠ X.env.locals ∧ (∀ x c,X.env.cells.lookup x = some c → c ≠ b) ∧ ∀ p ∈ X.pn ++ pins,p.1 ≠ b)
    (keep : ∀ b o,b ≠ X.env.locals → b ∉ X.fs → b ∉ ch → s.heap.get? b = some o → H b = none → h'.get? b = some o)
    (slot : ∀ b o,b ≠ X.env.locals → b ∈ X.fs → b ∉ ch → s.heap.get? b = some o → H b = none → ∃ sl,h'.get? b = some { o with slots := sl }) (free : ∀ b o,b ∉ ch → s.heap.get? b = some o → H b = none → H' b = none)
    (there : ∀ b o,b ∉ ch → s.heap.get? b = some o → ∃ o',h'.get? b = some o')
    (tups : ∀ b xs,H b = some (.tup xs) → H' b = some (.tup xs)) (frzs : ∀ b o u,H b = some (.frz o u) → H' b = some (.frz o u)) (tbls : ∀ b ps,H b = some (.tbl ps) → ∃ more,H' b = some (.tbl (ps ++ more)))
    (ns : ∀ m,s.heap.Ns X.env.locals m → h'.Ns X.env.locals m) (hok:HOk X.prog X.w H' h') (hg:AllBare g') :
    Inv X pins σ H' { s with heap := h',gens := g',drawn := d',toks := t' } := by
  have neL : ∀ b o,X.s₀.heap.get? b = some o → b ≠ X.env.locals := fun b o e => Nat.ne_of_lt (Nat.lt_of_lt_of_le (Heap.lt_size e) I.ok.above)
  have neC : ∀ b o,X.s₀.heap.get? b = some o → b ∉ X.ex → b ∉ ch := fun b o e hx hb => by
    rcases (hch b hb).1 with z | z
    · exact hx z
    · exact absurd (Nat.lt_of_lt_of_le (Heap.lt_size e) z) (Nat.lt_irrefl _)
  have cellK : ∀ x c,X.env.cells.lookup x = some c → ∀ v,s.heap.IsCell c v → h'.IsCell c v := fun x c e v ⟨o,ho,hd⟩ => by
    have nch:c ∉ ch := fun z => (hch c z).2.2.1 x c e rfl
    by_cases hc:c ∈ X.fs
    · obtain ⟨sl,q⟩ := slot c o (I.cne x c e) hc nch ho (I.freeC x c e)
      exact ⟨_,q,hd⟩
    · exact ⟨o,keep c o (I.cne x c e) hc nch ho (I.freeC x c e),hd⟩
  refine ⟨I.ok,I.os,hg,⟨fun b o e n hb hx => ?_,fun b o e n hb hx => ?_,fun b o e n hx => ?_,fun b o e hx => ?_,fun b xs e => tups b xs (I.base.tups b xs e),fun b o xs e => frzs b o xs (I.base.frzs b o xs e),fun b ps e => ?_⟩, ?_,fun x c e => ?_, ?_,fun x c e => ?_,fun p hp => ?_,hok,I.len⟩
  · exact keep b o (neL b o e) hb (neC b o e hx) (I.base.keep b o e n hb hx) (I.base.free b o e n hx)
  · obtain ⟨sl,e1⟩ := I.base.slot b o e n hb hx
    obtain ⟨sl',e2⟩ := slot b _ (neL b o e) hb (neC b o e hx) e1 (I.base.free b o e n hx)
    exact ⟨sl',e2⟩
  · obtain ⟨o',e1⟩ := I.base.there b o e hx
    exact free b o' (neC b o e hx) e1 (I.base.free b o e n hx)
  · obtain ⟨o',e1⟩ := I.base.there b o e hx
    exact there b o' (neC b o e hx) e1
  · obtain ⟨m1,e1⟩ := I.base.tbls b ps e
    obtain ⟨m2,e2⟩ := tbls b _ e1
    exact ⟨m1 ++ m2,by rw [e2,Array.append_assoc]⟩
  · obtain ⟨m,hn,hl⟩ := I.loc
    refine ⟨m,ns m hn,fun i x v e1 e2 e3 => ?_⟩
    obtain ⟨u,r,l⟩ := hl i x v e1 e2 e3
    refine ⟨u,r, ?_⟩
    rcases l with l | ⟨k,c,e,z⟩
    · exact .inl l
    · exact .inr ⟨k,c,e,cellK x c e _ z⟩
  · obtain ⟨v,z⟩ := I.cell x c e
    exact ⟨v,cellK x c e v z⟩
  · obtain ⟨m,⟨o,_,_,ho,_⟩,_⟩ := I.loc
    exact free _ o (fun z => (hch _ z).2.1 rfl) ho I.free
  · obtain ⟨v,o,ho,hd⟩ := I.cell x c e
    exact free c o (fun z => (hch c z).2.2.1 x c e rfl) ho (I.freeC x c e)
  · obtain ⟨e,n,ne,nf,d⟩ := I.pin p hp
    have nch:p.1 ∉ ch := fun z => (hch p.1 z).2.2.2 p hp rfl
    exact ⟨keep p.1 p.2 ne nf nch e n,free p.1 p.2 nch e n,ne,nf,d⟩
theorem Inv.un {t':Nat} (I:Inv X pins σ H s) (u:Un X.fs [] H H' s.heap h') (hok:HOk X.prog X.w H' h'):Inv X pins σ H' { s with heap := h',toks := t' } := by
  obtain ⟨m,⟨o,es,ep,ho,r⟩,_⟩ := id I.loc
  obtain ⟨sl,hL⟩ := u.any ho I.free (by simp)
  exact I.step (g' := s.gens) (d' := s.drawn) (ch := []) (fun _ z => nomatch z) (fun b o _ hb _ e n => u.keep b o e n hb (by simp)) (fun b o _ hb _ e n => u.slot b o e n hb (by simp)) (fun b o _ e n => u.free b o e n (by simp)) (fun b o _ e => u.there b o e (by simp)) u.tups u.frzs u.tbls (fun m' hm => by
    obtain ⟨o',es',ep',ho',r'⟩ := hm
    rw [ho] at ho'; cases ho'
    exact ⟨_,es',ep',hL,r'⟩) hok I.bare
theorem Inv.call {g':Array GenState} {t':Nat} {d':Drawn} {ch:List Addr} (I:Inv X pins σ H s) (u:Un (frs X.stack) ch H H' s.heap h') (hok:HOk X.prog X.w H' h') (hg:AllBare g')
    (hch : ∀ b ∈ ch,(b ∈ X.ex ∨ X.s₀.heap.objs.size ≤ b) ∧ b ≠ X.env.locals ∧ (∀ x c,X.env.cells.lookup x = some c → c ≠ b) ∧ ∀ p ∈ X.pn ++ pins,p.1 ≠ b) :
    Inv X pins σ H' { s with heap := h',gens := g',drawn := d',toks := t' } := by
  obtain ⟨m,⟨o,es,ep,ho,r⟩,_⟩ := id I.loc
  obtain ⟨sl,hL⟩ := u.any ho I.free fun z => (hch _ z).2.1 rfl
  exact I.step (ch := ch) hch (fun b o hL hb hc e n => u.keep b o e n (fun z => (List.mem_cons.mp (I.stkSub b z)).elim hL hb) hc) (fun b o _ _ hc e n => u.any e n hc) (fun b o hc e n => u.free b o e n hc) (fun b o hc e => u.there b o e hc) u.tups u.frzs u.tbls (fun m' hm => by
    obtain ⟨o',es',ep',ho',r'⟩ := hm
    rw [ho] at ho'; cases ho'
    exact ⟨_,es',ep',hL,r'⟩) hok hg
theorem Inv.turned {t':Nat} {it:Addr} (I:Inv X pins σ H s) (k : ∀ b o,b ≠ it → s.heap.get? b = some o → h'.get? b = some o) (hn:H it = none) (hL:it ≠ X.env.locals)
    (h1:it ∈ X.ex ∨ X.s₀.heap.objs.size ≤ it) (h2 : ∀ x c,X.env.cells.lookup x = some c → c ≠ it) (h3 : ∀ p ∈ X.pn ++ pins,p.1 ≠ it):Inv X pins σ H { s with heap := h',toks := t' } := by
  have nit : ∀ b u,H b = some u → b ≠ it := fun b u e z => by rw [z,hn] at e; cases e
  refine I.step (g' := s.gens) (d' := s.drawn) (ch := [it]) (fun b hb => ?_) (fun b o _ _ hc e _ => k b o (fun z => hc (by simp [z])) e) (fun b o _ _ hc e _ => ⟨o.slots,k b o (fun z => hc (by simp [z])) e⟩) (fun _ _ _ _ n => n)
    (fun b o hc e => ⟨o,k b o (fun z => hc (by simp [z])) e⟩) (fun _ _ e => e) (fun _ _ _ e => e) (fun b ps e => ⟨#[],by rw [e]; simp⟩) (fun m hm => ?_) (fun b u e => ?_) I.bare
  · have e:b = it := by simpa using hb
    subst e
    exact ⟨h1,hL,h2,h3⟩
  · obtain ⟨o,es,ep,ho,r⟩ := hm
    exact ⟨o,es,ep,k _ o (Ne.symm hL) ho,r⟩
  · refine (I.hok b u e).stay (fun c v hc q => k c v ?_ q) (fun _ q => q) fun _ _ q => q
    rcases hc with z | z
    · rw [z]; exact nit b u e
    · exact nit c _ z
theorem Inv.tok (I:Inv X pins σ H s) (t:Nat):Inv X pins σ H { s with toks := t } := I.un (h' := s.heap) (t' := t) Un.refl I.hok
theorem Inv.kept {t':Nat} (I:Inv X pins σ H s) (k : ∀ b u,s.heap.get? b = some u → h'.get? b = some u):Inv X pins σ H { s with heap := h',toks := t' } := I.un (Un.kept k) (I.hok.kept k)
theorem Inv.laid {a:Addr} {o:HO} {t':Nat} (I:Inv X pins σ H s) (k : ∀ b u,s.heap.get? b = some u → h'.get? b = some u) (hp:s.heap.objs.size ≤ a) (new:ObjOk X.prog X.w (upd H a o) h' a o) :
    Inv X pins σ (upd H a o) { s with heap := h',toks := t' } := I.un (Un.laid k hp (I.hok.fresh hp)) (I.hok.laid k hp new)
theorem Inv.write {x e:Addr} {o:HO} {t':Nat} (I:Inv X pins σ H s) (mu:Mut (H x)) (he:e = x ∨ H e = some (.own x)) (k : ∀ b u,b ≠ e → s.heap.get? b = some u → h'.get? b = some u) (heo : ∃ u,h'.get? e = some u)
    (new:ObjOk X.prog X.w (upd H x o) h' x o):Inv X pins σ (upd H x o) { s with heap := h',toks := t' } := I.un (Un.write mu he k heo) (I.hok.write mu he k heo new)
theorem Inv.weak {σ':List (Option V)} (I:Inv X pins σ H s) (hl : σ'.length = σ.length) (w : ∀ (i:Nat) v, σ'[i]? = some (some v) → σ[i]? = some (some v)):Inv X pins σ' H s :=
  ⟨I.ok,I.os,I.bare,I.base,let ⟨m,hn,hl'⟩ := I.loc; ⟨m,hn,fun i x v e1 e2 e3 => hl' i x v e1 (w i v e2) e3⟩,I.cell,I.free,I.freeC,I.pin,I.hok,hl.trans I.len⟩
theorem Inv.pins_of {pins':List (Addr × Obj)} (I:Inv X pins σ H s) (h : ∀ p ∈ pins',s.heap.get? p.1 = some p.2 ∧ H p.1 = none ∧ p.1 ≠ X.env.locals ∧ p.1 ∉ X.fs ∧ ∀ v,p.2.data ≠ .cell v):Inv X pins' σ H s :=
  ⟨I.ok,I.os,I.bare,I.base,I.loc,I.cell,I.free,I.freeC,fun p hp => (List.mem_append.mp hp).elim (fun z => I.pin p (List.mem_append_left _ z)) (h p),I.hok,I.len⟩
theorem nodup_ix {N:List Str} (hN:N.Nodup) {i j:Nat} {x:Str} (a:N[i]? = some x) (b:N[j]? = some x):i = j := by
  obtain ⟨h1,e1⟩ := List.getElem?_eq_some_iff.mp a
  obtain ⟨h2,e2⟩ := List.getElem?_eq_some_iff.mp b
  exact (List.getElem_inj hN).mp (e1.trans e2.symm)
theorem store_ok2 {M:Model} {A:Around} {E:Value → Shared → Prop} {i:Nat} {x:Str} {v:V} {u:Value} {Q:Unit → Shared → Prop} (I:Inv X pins σ H s) (hN:X.N.Nodup) (hi:X.N[i]? = some x) (hx:Loc X.env.scope x) (r:RelV v u)
    (h : ∀ s',Inv X pins (σ.set i (some v)) H s' → (∃ a,Heap.SameBut a s.heap s'.heap ∧ (a = X.env.locals ∨ X.env.cells.lookup x = some a)) → Q () s') (hf:X.fn x = true ∨ X.env.scope.names.lookup x = some .local := by first | exact .inl rfl | exact .inr rfl | assumption):wpAny M A (storeName X.env x u) Q E s := by
  obtain ⟨m,hn,hl⟩ := id I.loc
  have hcls:(X.env.scope.kind == .class || (X.env.scope.kind == .module && X.env.locals != X.env.globals)) = false := by rw [I.ok.kind]; rfl
  have hiσ:i < σ.length := by rw [I.len]; exact (List.getElem?_eq_some_iff.mp hi).1
  have cne := I.cne
  have tracked : ∀ {a:Addr} {h':Heap},(∃ o,s.heap.get? a = some o ∧ H a = none) → Heap.SameBut a s.heap h' → HOk X.prog X.w H h' := fun {a h'} ha hs b ob e => by
    obtain ⟨_,_,hfree⟩ := ha
    refine (I.hok b ob e).stay (fun c w' hc q => (hs.2 c ?_).trans q) (fun _ q => q) fun _ _ q => q
    rintro rfl
    rcases hc with rfl | hc
    · rw [hfree] at e; cases e
    · rw [hfree] at hc; cases hc
  rcases hx with hk | hk
  · refine wpAny_storeName_local hk hn (fun h' hn' hs => ?_) hcls
    obtain ⟨oL,_,_,hoL,_⟩ := id hn
    refine h _ ⟨I.ok,I.os,I.bare,⟨fun b o e n hb hx => ?_,fun b o e n hb hx => ?_,I.base.free,fun b o e hx => ?_,I.base.tups,I.base.frzs,I.base.tbls⟩,⟨_,hn',fun j y v' e1 e2 e3 => ?_⟩,fun y c e => ?_,I.free,I.freeC,fun p hp => ?_,tracked ⟨oL,hoL,I.free⟩ hs,by simpa using I.len⟩ ⟨_,hs,.inl rfl⟩
    · exact (hs.2 b (Nat.ne_of_lt (Nat.lt_of_lt_of_le (Heap.lt_size e) I.ok.above))).trans (I.base.keep b o e n hb hx)
    · obtain ⟨sl,e1⟩ := I.base.slot b o e n hb hx
      exact ⟨sl,(hs.2 b (Nat.ne_of_lt (Nat.lt_of_lt_of_le (Heap.lt_size e) I.ok.above))).trans e1⟩
    · obtain ⟨o',e1⟩ := I.base.there b o e hx
      exact ⟨o',(hs.2 b (Nat.ne_of_lt (Nat.lt_of_lt_of_le (Heap.lt_size e) I.ok.above))).trans e1⟩
    · by_cases hj:j = i
      · subst hj
        rw [hi] at e1; cases e1
        rw [List.getElem?_set_self hiσ] at e2
        cases e2
        exact ⟨u,r,.inl ⟨hk,by simp⟩⟩
      · rw [List.getElem?_set_ne (Ne.symm hj)] at e2
        obtain ⟨u',r',q⟩ := hl j y v' e1 e2 e3
        refine ⟨u',r', ?_⟩
        rcases q with ⟨k,e⟩ | ⟨k,c,e,z⟩
        · refine .inl ⟨k, ?_⟩
          have:y ≠ x := fun e => hj (nodup_ix hN e1 (e ▸ hi))
          simp [this,e]
        · exact .inr ⟨k,c,e,z.sameBut hs (cne y c e)⟩
    · obtain ⟨w',z⟩ := I.cell y c e
      exact ⟨w',z.sameBut hs (cne y c e)⟩
    · obtain ⟨e,n,ne,nf,d⟩ := I.pin p hp
      exact ⟨(hs.2 p.1 ne).trans e,n,ne,nf,d⟩
  · have hfn:X.fn x = true := by
      rcases hf with z | z
      · exact z
      · rw [z] at hk; cases hk
    obtain ⟨c,hc⟩ := I.ok.has x (.inl hk)
    obtain ⟨w',z⟩ := I.cell x c hc
    refine wpAny_storeName_cell I.ok.kind hk hc z (fun h' hc' hs => ?_)
    obtain ⟨oc,hoc,hocd⟩ := id z
    refine h { s with heap := h' } ⟨I.ok,I.os,I.bare,⟨fun b o e n hb hx => ?_,fun b o e n hb hx => ?_,I.base.free,fun b o e hx => ?_,I.base.tups,I.base.frzs,I.base.tbls⟩,⟨m,hn.sameBut hs (Ne.symm (cne x c hc)),fun j y v' e1 e2 e3 => ?_⟩,fun y c' e => ?_,I.free,I.freeC,fun p hp => ?_,tracked ⟨oc,hoc,I.freeC x c hc⟩ hs,by simpa using I.len⟩ ⟨c,hs,.inr hc⟩
    · exact (hs.2 b (Nat.ne_of_lt (Nat.lt_of_lt_of_le (Heap.lt_size e) (I.ok.cab x c hfn hc)))).trans (I.base.keep b o e n hb hx)
    · obtain ⟨sl,e1⟩ := I.base.slot b o e n hb hx
      exact ⟨sl,(hs.2 b (Nat.ne_of_lt (Nat.lt_of_lt_of_le (Heap.lt_size e) (I.ok.cab x c hfn hc)))).trans e1⟩
    · obtain ⟨o',e1⟩ := I.base.there b o e hx
      exact ⟨o',(hs.2 b (Nat.ne_of_lt (Nat.lt_of_lt_of_le (Heap.lt_size e) (I.ok.cab x c hfn hc)))).trans e1⟩
    · by_cases hj:j = i
      · subst hj
        rw [hi] at e1; cases e1
        rw [List.getElem?_set_self hiσ] at e2
        cases e2
        exact ⟨u,r,.inr ⟨.inl hk,c,hc,hc'⟩⟩
      · rw [List.getElem?_set_ne (Ne.symm hj)] at e2
        obtain ⟨u',r',q⟩ := hl j y v' e1 e2 e3
        refine ⟨u',r', ?_⟩
        rcases q with q | ⟨k,c',e,z'⟩
        · exact .inl q
        · refine .inr ⟨k,c',e,z'.sameBut hs ?_⟩
          rintro rfl
          exact hj (nodup_ix hN e1 (I.ok.inj _ _ _ e hc ▸ hi))
    · by_cases hcc:c' = c
      · subst hcc; exact ⟨_,hc'⟩
      · obtain ⟨w2,z2⟩ := I.cell y c' e
        exact ⟨w2,z2.sameBut hs hcc⟩
    · obtain ⟨e,n,ne,nf,d⟩ := I.pin p hp
      refine ⟨(hs.2 p.1 ?_).trans e,n,ne,nf,d⟩
      intro q
      rw [q,hoc] at e
      have q':oc = p.2 := Option.some.inj e
      exact d w' (by rw [← q']; exact hocd)
theorem store_ok {M:Model} {A:Around} {E:Value → Shared → Prop} {i:Nat} {x:Str} {v:V} {u:Value} {Q:Unit → Shared → Prop} (I:Inv X pins σ H s) (hN:X.N.Nodup) (hi:X.N[i]? = some x) (hx:Loc X.env.scope x) (r:RelV v u)
    (h : ∀ s',Inv X pins (σ.set i (some v)) H s' → Q () s') (hf:X.fn x = true ∨ X.env.scope.names.lookup x = some .local := by first | exact .inl rfl | exact .inr rfl | assumption):wpAny M A (storeName X.env x u) Q E s :=
  store_ok2 I hN hi hx r (fun s' I' _ => h s' I') hf
theorem Inv.call' {s':Shared} {ch:List Addr} (I:Inv X pins σ H s) (ho:s'.os = s.os) (u:Un (frs X.stack) ch H H' s.heap s'.heap) (hok:HOk X.prog X.w H' s'.heap) (hg:AllBare s'.gens)
    (hch : ∀ b ∈ ch,(b ∈ X.ex ∨ X.s₀.heap.objs.size ≤ b) ∧ b ≠ X.env.locals ∧ (∀ x c,X.env.cells.lookup x = some c → c ≠ b) ∧ ∀ p ∈ X.pn ++ pins,p.1 ≠ b):Inv X pins σ H' s' := by
  obtain ⟨h',g',d',t',o'⟩ := s'
  have e:o' = s.os := ho
  subst e
  exact I.call (g' := g') (t' := t') (d' := d') u hok hg hch
end
noncomputable abbrev XK := Value → Option Addr → Hp → Prop
noncomputable abbrev St := List (Option V)
noncomputable abbrev VK := V → Hp → Prop
noncomputable abbrev TE := St → Hp → VK → Prop
noncomputable abbrev TT := St → Hp → (Bool → Hp → Prop) → Prop
noncomputable abbrev TA := St → Hp → (List V → Hp → Prop) → Prop
structure Ends where
  nx:St → Hp → Prop
  rt:VK
  bk:St → Hp → Prop := fun _ _ => False
  ct:St → Hp → Prop := fun _ _ => False
noncomputable abbrev TS := Ends → St → Hp → Prop
noncomputable def EP (X:Cx) (pins:List (Addr × Obj)) (σ:St) (Q:VK) (u:Value) (s':Shared):Prop := ∃ v H',Inv X pins σ H' s' ∧ RelV v u ∧ Q v H'
noncomputable def TP (X:Cx) (pins:List (Addr × Obj)) (σ:St) (Q:Bool → Hp → Prop) (b:Bool) (s':Shared):Prop := ∃ H',Inv X pins σ H' s' ∧ Q b H'
noncomputable def AP (X:Cx) (pins:List (Addr × Obj)) (σ:St) (Q:List V → Hp → Prop) (us:List Value) (s':Shared):Prop := ∃ vs H',Inv X pins σ H' s' ∧ Vals vs us ∧ Q vs H'
noncomputable def SP (X:Cx) (pins:List (Addr × Obj)) (D:Ends) (f:Flow) (s':Shared):Prop :=
  match f with
  | .next => ∃ σ' H',Inv X pins σ' H' s' ∧ D.nx σ' H'
  | .brk => ∃ σ' H',Inv X pins σ' H' s' ∧ D.bk σ' H'
  | .cont => ∃ σ' H',Inv X pins σ' H' s' ∧ D.ct σ' H'
  | .ret u => ∃ v σ' H',Inv X pins σ' H' s' ∧ RelV v u ∧ D.rt v H'
noncomputable def PE (X:Cx) (e:Expr) (t:TE):Prop :=
  ∀ (pins:List (Addr × Obj)) (s:Shared) (σ:St) (H:Hp) (Q:VK),Inv X pins σ H s → t σ H Q → wpAny (model X.prog X.w) X.A (eval e X.env) (EP X pins σ Q) X.xe s
noncomputable def PT (X:Cx) (e:Expr) (t:TT):Prop :=
  ∀ (pins:List (Addr × Obj)) (s:Shared) (σ:St) (H:Hp) (Q:Bool → Hp → Prop),Inv X pins σ H s → t σ H Q → wpAny (model X.prog X.w) X.A (isTrue e X.env (eval e X.env)) (TP X pins σ Q) X.xe s
noncomputable def PW (X:Cx) (e:Expr) (t:TT):Prop :=
  ∀ (whole:Sem Value) (pins:List (Addr × Obj)) (s:Shared) (σ:St) (H:Hp) (Q:Bool → Hp → Prop),Inv X pins σ H s → t σ H Q → wpAny (model X.prog X.w) X.A (isTrue e X.env whole) (TP X pins σ Q) X.xe s
theorem PW.pt {X:Cx} {e:Expr} {t:TT} (h:PW X e t):PT X e t := h _
noncomputable def PA (X:Cx) (es:List Expr) (t:TA):Prop :=
  ∀ (pos:Pos) (pins:List (Addr × Obj)) (s:Shared) (σ:St) (H:Hp) (Q:List V → Hp → Prop),Inv X pins σ H s → t σ H Q → wpAny (model X.prog X.w) X.A (spliced (backTo pos (starEach es X.env))) (AP X pins σ Q) X.xe s
noncomputable def PS (X:Cx) (st:Stmt) (t:TS):Prop :=
  ∀ (pins:List (Addr × Obj)) (s:Shared) (σ:St) (H:Hp) (D:Ends),Inv X pins σ H s → t D σ H → wpAny (model X.prog X.w) X.A (exec st X.env) (SP X pins D) X.xe s
noncomputable def PSs (X:Cx) (st:List Stmt) (t:TS):Prop :=
  ∀ (pins:List (Addr × Obj)) (s:Shared) (σ:St) (H:Hp) (D:Ends),Inv X pins σ H s → t D σ H → wpAny (model X.prog X.w) X.A (execs st X.env) (SP X pins D) X.xe s
theorem thn {α:Type} {t:Sem α} {Q Q' : α → Shared → Prop} {M:Model} {A:Around} {E:Value → Shared → Prop} {s:Shared} (h:wpAny M A t Q E s) (hQ : ∀ a s,Q a s → Q' a s):wpAny M A t Q' E s := wpAny_mono h hQ fun _ _ x => x
theorem thn5 {α β γ:Type} {t:Sem α} {P1 P2 P3 : α → Shared → β → γ → Prop} {Q' : α → Shared → Prop} {M:Model} {A:Around} {E:Value → Shared → Prop} {s:Shared} (h:wpAny M A t (fun a s => ∃ x y,P1 a s x y ∧ P2 a s x y ∧ P3 a s x y) E s) (hQ : ∀ a s x y,P1 a s x y → P2 a s x y → P3 a s x y → Q' a s):wpAny M A t Q' E s := wpAny_mono h (fun a s h => Exists.elim h fun x h => Exists.elim h fun y h => hQ a s x y h.1 h.2.1 h.2.2) fun _ _ x => x
end L2
namespace L2
open PySem PySem.Spec PyProof.Rows
section
variable {X:Cx}
noncomputable def tVar (i:Nat):TE := fun σ H Q => ∃ v, σ[i]? = some (some v) ∧ Q v H
noncomputable def tC (v:V):TE := fun _ H Q => Q v H
theorem pe_var {i:Nat} {x:Str} {pos:Pos} (hN:X.N[i]? = some x) (hv:Vis X.env.scope x) (hd:(x == ("__debug__":Str)) = false := by decide) (hcd:(x == ("__classdict__":Str)) = false := by decide):PE X (.Name x pos) (tVar i) := by
  intro pins s σ H Q I h
  obtain ⟨v,e,h⟩ := h
  obtain ⟨m,hn,hl⟩ := I.loc
  obtain ⟨u,r,l⟩ := hl i x v hN e hv
  have fin:EP X pins σ Q u s := ⟨v,H,I,r,h⟩
  rcases l with ⟨hk,hm⟩ | ⟨hk,c,hc,hcell⟩
  · exact wpAny_Name (wpAny_loadName_local I.ok.kind hk hn hm fin) hd
  · rcases hk with hk | hk
    · exact wpAny_Name (wpAny_loadName_cell I.ok.kind hk hc hcell fin) hd
    · exact wpAny_Name (wpAny_loadName_free I.ok.kind hk hc hcell fin hcd) hd
theorem pe_int {i j pos}:PE X (.Constant (.int i) j pos) (tC (.int i)) := fun _ _ _ H _ I h => wpAny_Constant_int ⟨.int i,H,I.tok _,⟨_,rfl⟩,h⟩
theorem pe_bl {b j pos}:PE X (.Constant (.bool b) j pos) (tC (.bl b)) := fun _ _ _ H _ I h => Constant_bool ⟨.bl b,H,I,rfl,h⟩
theorem pe_non {j pos}:PE X (.Constant .none j pos) (tC .non) := fun _ _ _ H _ I h => Constant_none ⟨.non,H,I,rfl,h⟩
theorem pe_str {x j pos}:PE X (.Constant (.str x) j pos) (tC (.str x)) := fun _ _ _ H _ I h => Calls.Constant_str ⟨.str x,H,I.tok _,⟨_,rfl⟩,h⟩
noncomputable def Gl (X:Cx) (x:Str):Prop := X.env.kindOf x = some .globalImplicit
theorem ld_glob {E:Value → Shared → Prop} {pins:List (Addr × Obj)} {s:Shared} {σ:St} {H:Hp} {x:Str} {u:Value} {pos:Pos} {Q:Value → Shared → Prop} (I:Inv X pins σ H s) (hg:Gl X x) (hm:X.mg x = some u) (h:Q u s)
    (hd:(x == ("__debug__":Str)) = false := by decide):wpAny (model X.prog X.w) X.A (eval (.Name x pos) X.env) Q E s :=
  Calls.Name_function_global I.ok.kind hg (Calls.loadGlobal_global (by rw [I.ok.glob]; exact I.mod.glob.keeps I.bk) hm h) hd
theorem ld_blt {E:Value → Shared → Prop} {pins:List (Addr × Obj)} {s:Shared} {σ:St} {H:Hp} {x:Str} {u:Value} {pos:Pos} {Q:Value → Shared → Prop} (I:Inv X pins σ H s) (hg:Gl X x) (hm:X.mg x = none) (hv:bootBuiltins x = some u) (h:Q u s)
    (hn:x ≠ "__name__" := by decide) (hd:(x == ("__debug__":Str)) = false := by decide):wpAny (model X.prog X.w) X.A (eval (.Name x pos) X.env) Q E s := by
  obtain ⟨mb,h1,h2⟩ := I.mod.blt
  exact Calls.Name_function_global I.ok.kind hg (Calls.loadGlobal_builtin (by rw [I.ok.glob]; exact I.mod.glob.keeps I.bk) hm (by rw [I.ok.blt]; exact h1.keeps I.bk) ((h2 x hn).trans hv) h) hd
theorem pe_glob {x:Str} {v:V} {u:Value} {pos:Pos} (hg:Gl X x) (hm:X.mg x = some u) (r:RelV v u) (hd:(x == ("__debug__":Str)) = false := by decide):PE X (.Name x pos) (tC v) :=
  fun _ _ _ H _ I h => ld_glob I hg hm ⟨v,H,I,r,h⟩ hd
theorem pe_bltn {x:Str} {v:V} {u:Value} {pos:Pos} (hg:Gl X x) (hm:X.mg x = none) (hv:bootBuiltins x = some u) (r:RelV v u) (hn:x ≠ "__name__" := by decide) (hd:(x == ("__debug__":Str)) = false := by decide):PE X (.Name x pos) (tC v) :=
  fun _ _ _ H _ I h => ld_blt I hg hm hv ⟨v,H,I,r,h⟩ hn hd
variable {a b:Expr} {ta tb:TE} {pos:Pos}
noncomputable def PC (X:Cx) (op:CmpOp) (a b:Expr) (t:TE):Prop :=
  ∀ (pins:List (Addr × Obj)) (s:Shared) (σ:St) (H:Hp) (Q:VK),Inv X pins σ H s → t σ H Q →
    wpAny (model X.prog X.w) X.A (eval a X.env) (fun v s₁ => wpAny (model X.prog X.w) X.A (eval b X.env) (fun u s₂ => wpAny (model X.prog X.w) X.A (compareOp op v u) (EP X pins σ Q) X.xe s₂) X.xe s₁) X.xe s
theorem nobehind (b:Expr) {op:CmpOp} (h:op ≠ .In) (h2:op ≠ .NotIn):behindInMarks op b = false := by
  have e1:(op == CmpOp.In) = false := by cases op <;> first | rfl | exact absurd rfl h
  have e2:(op == CmpOp.NotIn) = false := by cases op <;> first | rfl | exact absurd rfl h2
  cases b <;> simp [behindInMarks,e1,e2]
noncomputable def tIsN (ta:TE):TE := fun σ H Q => ta σ H fun x H1 => Q (.bl (decide (x = .non))) H1
noncomputable def tNotN (ta:TE):TE := fun σ H Q => ta σ H fun x H1 => Q (.bl (!decide (x = .non))) H1
theorem RelV.none_iff {x:V} {v:Value} (r:RelV x v):(v == Value.none) = decide (x = .non) := by
  cases x with
  | non => cases r; rfl
  | bl _ => cases r; rfl
  | int _ => obtain ⟨t,rfl⟩ := r; rfl
  | str _ => obtain ⟨t,rfl⟩ := r; rfl
  | byt _ => obtain ⟨t,rfl⟩ := r; rfl
  | flt _ => obtain ⟨t,rfl⟩ := r; rfl
  | ref _ => cases r; rfl
  | ty _ => cases r; rfl
theorem pc_isN {j pos'} (ha:PE X a ta):PC X .Is a (.Constant .none j pos') (tIsN ta) := by
  intro pins s σ H Q I h
  refine thn5 (ha pins s σ H _ I h) fun v s1 x H1 I1 r1 q1 => ?_
  exact Constant_none (is_none_gen ⟨.bl _,H1,I1,by rw [r1.none_iff]; rfl,q1⟩)
theorem pc_notN {j pos'} (ha:PE X a ta):PC X .IsNot a (.Constant .none j pos') (tNotN ta) := by
  intro pins s σ H Q I h
  refine thn5 (ha pins s σ H _ I h) fun v s1 x H1 I1 r1 q1 => ?_
  exact Constant_none (isnot_none_gen ⟨.bl _,H1,I1,by rw [r1.none_iff]; rfl,q1⟩)
noncomputable def tB (t:TE):TT := fun σ H Q => t σ H fun x H1 => ∃ c,x = .bl c ∧ Q c H1
theorem pe_cmp {op:CmpOp} {t:TE} (h:PC X op a b t) (h1:behindInMarks op b = false := by first | exact nobehind _ (by decide) (by decide) | rfl):PE X (.Compare a [op] [b] pos) t := fun pins s σ H Q I hw => wpAny_Compare1 (h pins s σ H Q I hw) h1
theorem pt_cmp {op:CmpOp} {t:TE} (h:PC X op a b t) (h1:behindInMarks op b = false := by first | exact nobehind _ (by decide) (by decide) | rfl):PT X (.Compare a [op] [b] pos) (tB t) := by
  intro pins s σ H Q I hw
  refine wpAny_isTrue_Compare1 (thn (h pins s σ H _ I hw) fun v s1 h1 => thn h1 fun u s2 h2 => thn5 h2 fun c s3 x H1 I1 r1 q1 => ?_) h1
  obtain ⟨d,rfl,q⟩ := q1
  cases r1
  exact wpAny_truthy_bool ⟨H1,I1,q⟩
theorem pt_val {e:Expr} {t:TE} (h:PE X e t) (he : ∀ whole,isTrue e X.env whole = (do let v ← whole; standAt e.pos; holding [v] (truthy v)) := by intro _; rfl):PT X e (tB t) := by
  intro pins s σ H Q I hw
  refine isTrue_plain (thn5 (h pins s σ H _ I hw) fun v s1 x H1 I1 r1 q1 => ?_) (he _)
  obtain ⟨d,rfl,q⟩ := q1
  cases r1
  exact wpAny_truthy_bool ⟨H1,I1,q⟩
variable {tA tB':TT} {rest:List Expr}
noncomputable def tAnd (t u:TT):TT := fun σ H Q => t σ H fun c H1 => if c = true then u σ H1 Q else Q false H1
noncomputable def tOr (t u:TT):TT := fun σ H Q => t σ H fun c H1 => if c = true then Q true H1 else u σ H1 Q
noncomputable def tNot (t:TT):TT := fun σ H Q => t σ H fun c H1 => Q (!c) H1
theorem pw_and1 (ha:PT X a tA):PW X (.BoolOp .And [a] pos) tA := by
  intro wh pins s σ H Q I h
  refine isTrue_and (thn (ha pins s σ H Q I h) fun c s1 e => ?_)
  cases c with
  | true => exact isTrue_and_nil e
  | false => exact e
theorem pw_or1 (ha:PT X a tA):PW X (.BoolOp .Or [a] pos) tA := by
  intro wh pins s σ H Q I h
  refine isTrue_or (thn (ha pins s σ H Q I h) fun c s1 e => ?_)
  cases c with
  | false => exact isTrue_or_nil e
  | true => exact e
theorem pw_and (ha:PT X a tA) (hb:PW X (.BoolOp .And (b :: rest) pos) tB'):PW X (.BoolOp .And (a :: b :: rest) pos) (tAnd tA tB') := by
  intro wh pins s σ H Q I h
  refine isTrue_and (thn (ha pins s σ H _ I h) fun c s1 zz_ => ?_)
  obtain ⟨H1,I1,q1⟩ := zz_
  cases c with
  | true => exact hb wh pins s1 σ H1 Q I1 q1
  | false => exact ⟨H1,I1,q1⟩
theorem pw_or (ha:PT X a tA) (hb:PW X (.BoolOp .Or (b :: rest) pos) tB'):PW X (.BoolOp .Or (a :: b :: rest) pos) (tOr tA tB') := by
  intro wh pins s σ H Q I h
  refine isTrue_or (thn (ha pins s σ H _ I h) fun c s1 zz_ => ?_)
  obtain ⟨H1,I1,q1⟩ := zz_
  cases c with
  | true => exact ⟨H1,I1,q1⟩
  | false => exact hb wh pins s1 σ H1 Q I1 q1
theorem pt_not (ha:PT X a tA):PT X (.UnaryOp .Not a pos) (tNot tA) := by
  intro pins s σ H Q I h
  exact isTrue_not (ha pins s σ H (fun c H1 => Q (!c) H1) I h)
noncomputable def tAndV (ta tb:TE):TE := fun σ H Q => ta σ H fun x H1 => ∃ c,x = .bl c ∧ if c = true then tb σ H1 Q else Q (.bl false) H1
noncomputable def tOrV (ta tb:TE):TE := fun σ H Q => ta σ H fun x H1 => ∃ c,x = .bl c ∧ if c = true then Q (.bl true) H1 else tb σ H1 Q
noncomputable def tNotV (ta:TE):TE := fun σ H Q => ta σ H fun x H1 => ∃ c,x = .bl c ∧ Q (.bl (!c)) H1
theorem pe_one {op} {t:TE} (h:PE X a t):PE X (.BoolOp op [a] pos) t := fun pins s σ H Q I hw => BoolOp_one (h pins s σ H Q I hw)
theorem pe_and (ha:PE X a ta) (hb:PE X (.BoolOp .And (b :: rest) pos) tb):PE X (.BoolOp .And (a :: b :: rest) pos) (tAndV ta tb) := by
  intro pins s σ H Q I h
  refine BoolOp_and (thn5 (ha pins s σ H _ I h) fun v s1 x H1 I1 r1 q1 => ?_)
  obtain ⟨c,rfl,q1⟩ := q1
  cases r1
  refine wpAny_truthy_bool ?_
  cases c with
  | true => exact hb pins s1 σ H1 Q I1 q1
  | false => exact ⟨.bl false,H1,I1,rfl,q1⟩
theorem pe_or (ha:PE X a ta) (hb:PE X (.BoolOp .Or (b :: rest) pos) tb):PE X (.BoolOp .Or (a :: b :: rest) pos) (tOrV ta tb) := by
  intro pins s σ H Q I h
  refine BoolOp_or (thn5 (ha pins s σ H _ I h) fun v s1 x H1 I1 r1 q1 => ?_)
  obtain ⟨c,rfl,q1⟩ := q1
  cases r1
  refine wpAny_truthy_bool ?_
  cases c with
  | false => exact hb pins s1 σ H1 Q I1 q1
  | true => exact ⟨.bl true,H1,I1,rfl,q1⟩
theorem pe_not (ha:PE X a ta):PE X (.UnaryOp .Not a pos) (tNotV ta) := by
  intro pins s σ H Q I h
  refine UnaryOp_ (thn5 (ha pins s σ H _ I h) fun v s1 x H1 I1 r1 q1 => ?_)
  obtain ⟨c,rfl,q1⟩ := q1
  cases r1
  exact not_of (wpAny_truthy_bool ⟨.bl (!c),H1,I1,rfl,q1⟩)
noncomputable def tIf (t:TT) (ta tb:TE):TE := fun σ H Q => t σ H fun c H1 => if c = true then ta σ H1 Q else tb σ H1 Q
theorem pe_ifExp {c:Expr} (hc:PT X c tA) (ha:PE X a ta) (hb:PE X b tb):PE X (.IfExp c a b pos) (tIf tA ta tb) := by
  intro pins s σ H Q I h
  refine wpAny_IfExp (thn (hc pins s σ H _ I h) fun d s1 zz_ => ?_)
  obtain ⟨H1,I1,q1⟩ := zz_
  cases d with
  | true => exact ha pins s1 σ H1 Q I1 q1
  | false => exact hb pins s1 σ H1 Q I1 q1
end
end L2
namespace L2
open PySem PySem.Spec PyProof.Rows
noncomputable def SqL (K:PySem.W.Frag) (H:Hp) (a:Addr) (xs:List V):Prop :=
  Rd H a (.lst xs) ∨
    ∃ (o:Obj) (its:Array Value) (n:Nat),K.lookup a = some o ∧ o.cls = .type "list" ∧ o.dict = none ∧ o.data = .seq its n ∧ its.size ≤ sizeLine ∧ Vals xs its.toList
noncomputable def SqT (K:PySem.W.Frag) (H:Hp) (a:Addr) (xs:List V):Prop :=
  Rd H a (.tup xs) ∨
    ∃ (o:Obj) (its:Array Value) (n:Nat),K.lookup a = some o ∧ o.cls = .type "tuple" ∧ o.data = .seq its n ∧ its.size ≤ sizeLine ∧ Vals xs its.toList
noncomputable def absV:Value → Option V
  | .none => some .non
  | .bool b => some (.bl b)
  | .int i _ => some (.int i)
  | .str x _ => some (.str x)
  | .bytes b _ => some (.byt b)
  | .float b _ => some (.flt b)
  | .ref a => some (.ref a)
  | .type n => some (.ty n)
  | _ => none
theorem RelV.abs {x:V} {u:Value} (r:RelV x u):absV u = some x := by
  cases x with
  | non => cases r; rfl
  | bl _ => cases r; rfl
  | int _ => obtain ⟨t,rfl⟩ := r; rfl
  | str _ => obtain ⟨t,rfl⟩ := r; rfl
  | byt _ => obtain ⟨t,rfl⟩ := r; rfl
  | flt _ => obtain ⟨t,rfl⟩ := r; rfl
  | ref _ => cases r; rfl
  | ty _ => cases r; rfl
theorem RelV.inj {x y:V} {u:Value} (r:RelV x u) (q:RelV y u):x = y := Option.some.inj (r.abs.symm.trans q.abs)
theorem Vals.inj : ∀ {xs ys:List V} {us:List Value},Vals xs us → Vals ys us → xs = ys
  | _,_,_,.nil,.nil => rfl
  | _,_,_,.cons r t,.cons r' t' => by rw [r.inj r',Vals.inj t t']
section
variable {X:Cx} {pins:List (Addr × Obj)} {σ:St} {H:Hp} {s:Shared} {a:Addr} {xs ys:List V}
theorem SqL.of {K:PySem.W.Frag} (h:H a = some (.lst xs)):SqL K H a xs := .inl (.inl h)
theorem SqT.of {K:PySem.W.Frag} (h:H a = some (.tup xs)):SqT K H a xs := .inl (.inl h)
theorem Inv.list (I:Inv X pins σ H s) (h:SqL X.K H a xs) : ∃ its:List Value,Vals xs its ∧ PlainL s.heap a its.toArray ∧ xs.length ≤ sizeLine := by
  rcases h with h | ⟨o,its,n,hk,hc,hd,hs,hz,r⟩
  · obtain ⟨z,its,n,r,e⟩ := h.ok I.hok
    exact ⟨its,r,⟨_,n,e,rfl,rfl,rfl⟩,z⟩
  · refine ⟨its.toList,r,⟨o,n,I.kIn a o hk,hc,hd,by simpa using hs⟩, ?_⟩
    have e := r.length
    simp only [Array.length_toList] at e
    omega
theorem Inv.tuple (I:Inv X pins σ H s) (h:SqT X.K H a xs) : ∃ its:List Value,Vals xs its ∧ IsTup s.heap a its.toArray ∧ xs.length ≤ sizeLine := by
  rcases h with h | ⟨o,its,n,hk,hc,hs,hz,r⟩
  · obtain ⟨z,its,r,p⟩ := h.ok I.hok
    exact ⟨its,r,p,z⟩
  · refine ⟨its.toList,r,⟨o,I.kIn a o hk,hc,n,by simpa using hs⟩, ?_⟩
    have e := r.length
    simp only [Array.length_toList] at e
    omega
theorem Inv.list_inj (I:Inv X pins σ H s) (h:SqL X.K H a xs) (h':SqL X.K H a ys):xs = ys := by
  obtain ⟨its,r,⟨o,n,e,_,_,d⟩,_⟩ := I.list h
  obtain ⟨its',r',⟨o',n',e',_,_,d'⟩,_⟩ := I.list h'
  rw [e] at e'; cases e'
  rw [d] at d'
  injection d' with d1 _
  have:its = its' := by simpa using congrArg Array.toList d1
  subst this
  exact r.inj r'
theorem Inv.tuple_inj (I:Inv X pins σ H s) (h:SqT X.K H a xs) (h':SqT X.K H a ys):xs = ys := by
  obtain ⟨its,r,⟨o,e,_,n,d⟩,_⟩ := I.tuple h
  obtain ⟨its',r',⟨o',e',_,n',d'⟩,_⟩ := I.tuple h'
  rw [e] at e'; cases e'
  rw [d] at d'
  injection d' with d1 _
  have:its = its' := by simpa using congrArg Array.toList d1
  subst this
  exact r.inj r'
end
noncomputable abbrev Cx.wish (X:Cx) (E:Value → Shared → Prop):Cx := { X with xe := E }
noncomputable abbrev Cx.nox (X:Cx):Cx := X.wish fun _ _ => False
theorem Cx.Ok.wish {X:Cx} (ok:X.Ok) (E:Value → Shared → Prop):(X.wish E).Ok :=
  ⟨ok.mod,ok.kind,ok.glob,ok.blt,ok.above,ok.inj,ok.has,ok.cab,ok.hd,ok.frames,ok.stk,ok.exf,ok.bs,ok.bsz,ok.noex,ok.exfs,ok.funs,ok.frf⟩
theorem Cx.Ok.unwish {X:Cx} {E:Value → Shared → Prop} (ok:(X.wish E).Ok):X.Ok :=
  ⟨ok.mod,ok.kind,ok.glob,ok.blt,ok.above,ok.inj,ok.has,ok.cab,ok.hd,ok.frames,ok.stk,ok.exf,ok.bs,ok.bsz,ok.noex,ok.exfs,ok.funs,ok.frf⟩
section
variable {X:Cx} {pins:List (Addr × Obj)} {σ:St} {H:Hp} {s:Shared} {E:Value → Shared → Prop}
theorem Inv.wish (I:Inv X pins σ H s) (E:Value → Shared → Prop):Inv (X.wish E) pins σ H s := ⟨I.ok.wish E,I.os,I.bare,I.base,I.loc,I.cell,I.free,I.freeC,I.pin,I.hok,I.len⟩
theorem Inv.unwish (I:Inv (X.wish E) pins σ H s):Inv X pins σ H s := ⟨I.ok.unwish,I.os,I.bare,I.base,I.loc,I.cell,I.free,I.freeC,I.pin,I.hok,I.len⟩
theorem SP.unwish {D:Ends} {f:Flow} {s':Shared} (h:SP (X.wish E) pins D f s'):SP X pins D f s' := by
  cases f with
  | next => obtain ⟨σ',H',I,q⟩ := h; exact ⟨σ',H',I.unwish,q⟩
  | brk => obtain ⟨σ',H',I,q⟩ := h; exact ⟨σ',H',I.unwish,q⟩
  | cont => obtain ⟨σ',H',I,q⟩ := h; exact ⟨σ',H',I.unwish,q⟩
  | ret u => obtain ⟨v, σ',H',I,r,q⟩ := h; exact ⟨v, σ',H',I.unwish,r,q⟩
theorem PSs.nox {st:List Stmt} {t:TS} (h:PSs X.nox st t):PSs X st t := fun pins s σ H D I hw =>
  wpAny_mono (h pins s σ H D (I.wish _) hw) (fun _ _ q => q.unwish) fun _ _ z => False.elim z
end
section
variable {X:Cx} {st:Stmt} {rest:List Stmt} {t u:TS} {e:Expr} {te:TE} {pos:Pos}
noncomputable def tNext:TS := fun D σ H => D.nx σ H
noncomputable def tSeq (t u:TS):TS := fun D σ H => t { D with nx := u D } σ H
theorem pss_nil:PSs X [] tNext := fun _ _ σ H _ I h => wpAny_execs_nil ⟨σ,H,I,h⟩
theorem pss_cons (h1:PS X st t) (h2:PSs X rest u):PSs X (st :: rest) (tSeq t u) := by
  intro pins s σ H D I h
  refine wpAny_execs_cons (thn (h1 pins s σ H { D with nx := u D } I h) fun f s1 q => ?_)
  cases f with
  | next =>
    obtain ⟨σ',H',I',q⟩ := q
    exact h2 pins s1 σ' H' D I' q
  | ret v => exact q
  | brk => exact q
  | cont => exact q
theorem pss_one (h1:PS X st t):PSs X [st] t := by
  intro pins s σ H D I h
  refine wpAny_execs_cons (thn (h1 pins s σ H D I h) fun f s1 q => ?_)
  cases f with
  | next => exact wpAny_execs_nil q
  | ret v => exact q
  | brk => exact q
  | cont => exact q
theorem Inv.quiet {pins:List (Addr × Obj)} {σ:St} {H:Hp} {s:Shared} (I:Inv X pins σ H s):interactive X.env = false := by simp [interactive,I.ok.kind]
noncomputable def tDrop (te:TE):TS := fun D σ H => te σ H fun _ H1 => D.nx σ H1
theorem ps_expr (he:PE X e te) (hs:swapsWith e none pos.line X.env = pure false := by rfl):PS X (.Expr e pos) (tDrop te) := by
  intro pins s σ H D I h
  exact wpAny_Expr_any (thn5 (he pins s σ H _ I h) fun v s1 x H1 I1 r1 q1 => ⟨σ,H1,I1,q1⟩) I.quiet hs
noncomputable def tRet (te:TE):TS := fun D σ H => te σ H D.rt
theorem ps_ret (he:PE X e te):PS X (.Return (some e) pos) (tRet te) := by
  intro pins s σ H D I h
  exact wpAny_Return_some (thn5 (he pins s σ H _ I h) fun v s1 x H1 I1 r1 q1 => ⟨x, σ,H1,I1,r1,q1⟩)
noncomputable def tIfS (c:TT) (t u:TS):TS := fun D σ H => c σ H fun b H1 => if b = true then t D σ H1 else u D σ H1
theorem ps_if {c:Expr} {a b:List Stmt} {tc:TT} (hc:PT X c tc) (ha:PSs X a t) (hb:PSs X b u):PS X (.If c a b pos) (tIfS tc t u) := by
  intro pins s σ H D I h
  refine wpAny_If (thn (hc pins s σ H _ I h) fun d s1 zz_ => ?_)
  obtain ⟨H1,I1,q1⟩ := zz_
  cases d with
  | true => exact ha pins s1 σ H1 D I1 q1
  | false => exact hb pins s1 σ H1 D I1 q1
end
noncomputable abbrev TG := V → St → Hp → (St → Hp → Prop) → Prop
noncomputable abbrev TGs := List V → St → Hp → (St → Hp → Prop) → Prop
noncomputable def PG (X:Cx) (target:Expr) (t:TG):Prop :=
  ∀ (pins:List (Addr × Obj)) (s:Shared) (σ:St) (H:Hp) (v:V) (u:Value) (Q:St → Hp → Prop),Inv X pins σ H s → RelV v u → t v σ H Q →
    wpAny (model X.prog X.w) X.A (assign target X.env u) (fun _ s' => ∃ σ' H',Inv X pins σ' H' s' ∧ Q σ' H') X.xe s
noncomputable def PGs (X:Cx) (ts:List Expr) (t:TGs):Prop :=
  ∀ (pins:List (Addr × Obj)) (s:Shared) (σ:St) (H:Hp) (vs:List V) (us:List Value) (Q:St → Hp → Prop),Inv X pins σ H s → Vals vs us → t vs σ H Q →
    wpAny (model X.prog X.w) X.A (assignInOrder ((assignEach ts X.env).map (·.2)) us) (fun _ s' => ∃ σ' H',Inv X pins σ' H' s' ∧ Q σ' H') X.xe s
noncomputable abbrev TSet := V → V → V → Hp → (Hp → Prop) → Prop
noncomputable def PSet (X:Cx) (t:TSet):Prop :=
  ∀ (pins:List (Addr × Obj)) (s:Shared) (σ:St) (H:Hp) (o i v:V) (ov iv u:Value) (Q:Hp → Prop),Inv X pins σ H s → RelV o ov → RelV i iv → RelV v u → t o i v H Q →
    wpAny (model X.prog X.w) X.A (setItem ov iv u) (fun _ s' => ∃ H',Inv X pins σ H' s' ∧ Q H') X.xe s
noncomputable abbrev TIp := V → V → Hp → VK → Prop
noncomputable def PIp (X:Cx) (op:Operator) (t:TIp):Prop :=
  ∀ (pins:List (Addr × Obj)) (s:Shared) (σ:St) (H:Hp) (x y:V) (v u:Value) (Q:VK),Inv X pins σ H s → RelV x v → RelV y u → t x y H Q →
    wpAny (model X.prog X.w) X.A (inplaceOp op v u) (EP X pins σ Q) X.xe s
section
variable {X:Cx} {pos:Pos}
noncomputable def gName (i:Nat):TG := fun v σ H Q => Q (σ.set i (some v)) H
theorem pg_name {i:Nat} {x:Str} (hN:X.N.Nodup) (hi:X.N[i]? = some x) (hx:Loc X.env.scope x) (hf:X.fn x = true ∨ X.env.scope.names.lookup x = some .local := by first | exact .inl rfl | exact .inr rfl | assumption):PG X (.Name x pos) (gName i) := by
  intro pins s σ H v u Q I r h
  exact wpAny_assign_Name (store_ok I hN hi hx r (fun s' I' => ⟨_,H,I',h⟩) hf)
noncomputable def gNil:TGs := fun vs σ H Q => vs = [] ∧ Q σ H
noncomputable def gCons (t:TG) (u:TGs):TGs := fun vs σ H Q => ∃ v r,vs = v :: r ∧ t v σ H fun σ' H' => u r σ' H' Q
theorem pgs_nil:PGs X [] gNil := by
  intro pins s σ H vs us Q I r h
  obtain ⟨e,h⟩ := h
  subst e
  cases r
  exact assignInOrder_nil ⟨σ,H,I,h⟩
theorem pgs_cons {e:Expr} {es:List Expr} {t:TG} {u:TGs} (h1:PG X e t) (h2:PGs X es u)
    (hs:(assignEach (e :: es) X.env).map (·.2) = assign e X.env :: (assignEach es X.env).map (·.2) := by rfl):PGs X (e :: es) (gCons t u) := by
  intro pins s σ H vs us Q I r h
  obtain ⟨v,vr,e1,h⟩ := h
  subst e1
  cases r with
  | cons r rr =>
    rw [hs]
    refine assignInOrder_cons (thn (h1 pins s σ H _ _ _ I r h) fun _ s1 zz_ => ?_)
    obtain ⟨σ1,H1,I1,q1⟩ := zz_
    exact h2 pins s1 σ1 H1 _ _ Q I1 rr q1
noncomputable def gTup (K:PySem.W.Frag) (n:Nat) (t:TGs):TG := fun v σ H Q => ∃ a xs,v = .ref a ∧ SqT K H a xs ∧ xs.length = n ∧ t xs σ H Q
theorem pg_tup {es:List Expr} {k:Nat} {t:TGs} {n:Nat} (hc:X.calm = true) (h:PGs X es t)
    (hn:(assignEach es X.env).length = n := by rfl) (hst:(assignEach es X.env).findIdx? (·.1) = none := by rfl):PG X (.Tuple es k pos) (gTup X.K n t) := by
  intro pins s σ H v u Q I r hw
  obtain ⟨a,xs,e1,hq,hl,hw⟩ := hw
  subst e1
  cases r
  obtain ⟨its,rv,ht,hz⟩ := I.tuple hq
  refine assign_Tuple_tuple (I.ok.hd hc) ht (by simp [hn, ← hl,rv.length]) hst fun h' hx => ?_
  have I1:Inv X pins σ H { s with heap := h' } := I.kept (t' := s.toks) fun b o e => hx b o (Nat.ne_of_lt (Heap.lt_size e)) e
  exact h pins _ σ H xs _ Q I1 (by simpa using rv) hw
noncomputable def gSub (to ti:TE) (t:TSet):TG := fun v σ H Q => to σ H fun o H1 => ti σ H1 fun i H2 => t o i v H2 fun H3 => Q σ H3
theorem pg_sub {o i:Expr} {to ti:TE} {t:TSet} (ho:PE X o to) (hi:PE X i ti) (hs:PSet X t)
    (ha : ∀ v,assign (.Subscript o i pos) X.env v = (do
      let ov ← holding [v] (eval o X.env)
      let iv ← holding [v,ov] (eval i X.env)
      standAt pos
      holding [v,ov,iv] (setItem ov iv v)
      release [v,ov,iv] []) := by intro _; rfl):PG X (.Subscript o i pos) (gSub to ti t) := by
  intro pins s σ H v u Q I r h
  rw [ha]
  refine wpAny_bind (wpAny_holding (thn5 (ho pins s σ H _ I h) fun ov s1 x H1 I1 r1 q1 => ?_))
  refine wpAny_bind (wpAny_holding (thn5 (hi pins s1 σ H1 _ I1 q1) fun iv s2 y H2 I2 r2 q2 => ?_))
  refine wpAny_bind (wpAny_standAt (wpAny_bind (wpAny_holding (thn (hs pins s2 σ H2 x y v ov iv u _ I2 r1 r2 r q2) fun _ s3 zz_ => ?_))))
  obtain ⟨H3,I3,q3⟩ := zz_
  exact wpAny_release ⟨σ,H3,I3,q3⟩
noncomputable def tAsg (te:TE) (g:TG):TS := fun D σ H => te σ H fun x H1 => g x σ H1 D.nx
theorem ps_asg {tg e:Expr} {te:TE} {g:TG} (he:PE X e te) (hg:PG X tg g) (hs:swapsWithSole [tg] e pos.line X.env = pure false := by rfl) (hw:swappedStores [tg] e X.env = pure none := by rfl)
    (h1:(assignEach [tg] X.env).map (·.2) = [assign tg X.env] := by rfl):PS X (.Assign [tg] e pos) (tAsg te g) := by
  intro pins s σ H D I h
  refine wpAny_Assign_stores (thn5 (he pins s σ H _ I h) fun v s1 x H1 I1 r1 q1 => ?_) hs hw
  rw [h1]
  exact thn (hg pins s1 σ H1 x v _ I1 r1 q1) fun _ s2 q => q
theorem ps_set {i:Nat} {x:Str} {e:Expr} {te:TE} {pos':Pos} (hN:X.N.Nodup) (hi:X.N[i]? = some x) (hx:Loc X.env.scope x) (he:PE X e te) (hs:swapsWith e (some (.Name x pos')) pos.line X.env = pure false := by rfl) (hf:X.fn x = true ∨ X.env.scope.names.lookup x = some .local := by first | exact .inl rfl | exact .inr rfl | assumption) :
    PS X (.Assign [.Name x pos'] e pos) (tAsg te (gName i)) := by
  intro pins s σ H D I h
  refine wpAny_Assign_Name (thn5 (he pins s σ H _ I h) fun v s1 y H1 I1 r1 q1 => ?_) hs
  exact store_ok I1 hN hi hx r1 (fun s2 I2 => ⟨_,H1,I2,q1⟩) hf
noncomputable def tAug (i:Nat) (te:TE) (ti:TIp):TS := fun D σ H => ∃ x, σ[i]? = some (some x) ∧ te σ H fun y H1 => ti x y H1 fun z H2 => D.nx (σ.set i (some z)) H2
theorem ps_aug {i:Nat} {x:Str} {e:Expr} {te:TE} {op:Operator} {ti:TIp} {pos':Pos} (hN:X.N.Nodup) (hi:X.N[i]? = some x) (hx:Loc X.env.scope x) (he:PE X e te) (ho:PIp X op ti) (hf:X.fn x = true ∨ X.env.scope.names.lookup x = some .local := by first | exact .inl rfl | exact .inr rfl | assumption) :
    PS X (.AugAssign (.Name x pos') op e pos) (tAug i te ti) := by
  intro pins s σ H D I h
  obtain ⟨v,e1,h⟩ := h
  obtain ⟨m,hn,hl⟩ := I.loc
  have vis:Vis X.env.scope x := by rcases hx with k | k; exact .inl k; exact .inr (.inl k)
  obtain ⟨u,r,l⟩ := hl i x v hi e1 vis
  refine wpAny_AugAssign_Name ?_
  have go:wpAny (model X.prog X.w) X.A (eval e X.env) (fun w s₂ => wpAny (model X.prog X.w) X.A (inplaceOp op u w) (fun r s₃ => wpAny (model X.prog X.w) X.A (storeName X.env x r) (fun _ => SP X pins D .next) X.xe s₃) X.xe s₂) X.xe s := by
    refine thn5 (he pins s σ H _ I h) fun w s1 y H1 I1 r1 q1 => ?_
    refine thn5 (ho pins s1 σ H1 v y u w _ I1 r r1 q1) fun z s2 zv H2 I2 r2 q2 => ?_
    exact store_ok I2 hN hi hx r2 (fun s3 I3 => ⟨_,H2,I3,q2⟩) hf
  rcases l with ⟨hk,hm⟩ | ⟨hk,c,hc,hcell⟩
  · exact wpAny_loadName_local I.ok.kind hk hn hm go
  · rcases hk with hk | hk
    · exact wpAny_loadName_cell I.ok.kind hk hc hcell go
    · rcases hx with k | k
      · have:X.env.scope.names.lookup x = some .free := hk
        rw [k] at this; cases this
      · have:X.env.scope.names.lookup x = some .free := hk
        rw [k] at this; cases this
noncomputable def ipI (f:Int → Int → Int):TIp := fun x y H Q => ∃ i j,x = .int i ∧ y = .int j ∧ Q (.int (f i j)) H
theorem ip_add:PIp X .Add (ipI fun i j => i + j) := by
  intro pins s σ H x y v u Q I r1 r2 h
  obtain ⟨i,j,e1,e2,q⟩ := h
  subst e1; subst e2
  obtain ⟨t,rfl⟩ := r1
  obtain ⟨t',rfl⟩ := r2
  exact iadd_int ⟨.int _,H,I.tok _,⟨_,rfl⟩,q⟩
end
section
variable {X:Cx} {pos:Pos}
end
structure It where
  go:Nat → Hp → Prop
  yld:Nat → Hp → V → Hp → Prop
  stop:Nat → Hp → Prop
noncomputable def FpOk (X:Cx) (pins:List (Addr × Obj)) (H:Hp) (b:Addr):Prop :=
  H b = none ∧ b ≠ X.env.locals ∧ b ∉ X.fs ∧ (b ∈ X.ex ∨ X.s₀.heap.objs.size ≤ b) ∧ (∀ x c,X.env.cells.lookup x = some c → c ≠ b) ∧ ∀ p ∈ X.pn ++ pins,p.1 ≠ b
theorem Inv.fpOk {X:Cx} {pins:List (Addr × Obj)} {σ:St} {H H':Hp} {s:Shared} {b:Addr} (I:Inv X pins σ H s) (hb:s.heap.objs.size ≤ b) (hn:H' b = none):FpOk X pins H' b := by
  refine ⟨hn,Nat.ne_of_gt (Nat.lt_of_lt_of_le I.lt hb),I.nofs hb,.inr (Nat.le_trans I.sz hb),fun x c e z => ?_,fun p hp z => ?_⟩
  · obtain ⟨v,q⟩ := I.cell x c e
    exact absurd (Nat.lt_of_lt_of_le q.lt (by rw [z]; exact hb)) (Nat.lt_irrefl _)
  · exact absurd (Nat.lt_of_lt_of_le (Heap.lt_size (I.pin p hp).1) (by rw [z]; exact hb)) (Nat.lt_irrefl _)
structure Turn (P:Program) (w:World) (K:PySem.W.Frag) (tg:Expr) (J:It) (fp:List Addr) (it:Addr) (tn:Nat → Heap → Prop):Prop where
  mem:it ∈ fp
  obj : ∀ i h,tn i h → ∀ b ∈ fp, ∃ o,h.get? b = some o ∧ ∀ v,o.data ≠ .cell v
  keep : ∀ i h h',tn i h → (∀ b ∈ fp, ∀ o,h.get? b = some o → h'.get? b = some o) → tn i h'
  item : ∀ (X:Cx),X.prog = P → X.w = w → X.K = K → X.calm = true → ∀ (i:Nat) (pins:List (Addr × Obj)) (s:Shared) (σ:St) (H:Hp) (E:Value → Shared → Prop),Inv X pins σ H s → (∀ b ∈ fp,FpOk X pins H b) → tn i s.heap → J.go i H →
    wpAny (model P w) X.A (pyNext (.ref it)) (fun r s1 => ∃ u,r = some u ∧
      wpAny (model P w) X.A (letOwnedTupleGo tg (.ref it) u) (fun _ s2 => ∃ x H',Inv X pins σ H' s2 ∧ RelV x u ∧ J.yld i H x H' ∧ tn (i + 1) s2.heap ∧ ∀ b ∈ fp,H' b = none) E s1) E s
  done : ∀ (X:Cx),X.prog = P → X.w = w → X.K = K → X.calm = true → ∀ (i:Nat) (pins:List (Addr × Obj)) (s:Shared) (σ:St) (H:Hp) (E:Value → Shared → Prop),Inv X pins σ H s → (∀ b ∈ fp,FpOk X pins H b) → tn i s.heap → J.stop i H →
    wpAny (model P w) X.A (pyNext (.ref it)) (fun r s1 => r = none ∧ Inv X pins σ H s1) E s
  self : ∀ (A:Around) (i:Nat) (s:Shared) (Q:Value → Shared → Prop) (E:Value → Shared → Prop),tn i s.heap → Q (.ref it) s → wpAny (model P w) A (pyIter (.ref it)) Q E s
noncomputable abbrev TI := St → Hp → (It → Hp → Prop) → Prop
noncomputable def PIE (X:Cx) (pins:List (Addr × Obj)) (σ:St) (tg:Expr) (R:It → Hp → Prop) (itv:Value) (s2:Shared):Prop :=
  ∃ (it:Addr) (fp:List Addr) (tn:Nat → Heap → Prop) (J:It) (H':Hp),itv = .ref it ∧ Inv X pins σ H' s2 ∧ Turn X.prog X.w X.K tg J fp it tn ∧ tn 0 s2.heap ∧ (∀ b ∈ fp,FpOk X pins H' b) ∧ R J H'
noncomputable def PI (X:Cx) (tg iter:Expr) (wi:TI):Prop :=
  ∀ (pins:List (Addr × Obj)) (s:Shared) (σ:St) (H:Hp) (R:It → Hp → Prop),Inv X pins σ H s → wi σ H R →
    wpAny (model X.prog X.w) X.A (eval iter X.env) (fun v s1 => wpAny (model X.prog X.w) X.A (pyIter v) (PIE X pins σ tg R) X.xe s1) X.xe s
theorem go_of {M:Model} {A:Around} {E:Value → Shared → Prop} {s:Shared} {tg:Expr} {it:Addr} {u:Value} {o:Obj} {n:String} {vs:Array Value} {Q:Unit → Shared → Prop} (ho:s.heap.get? it = some o) (hc:o.cls = .type n) (hd:o.data = .fields vs)
    (hn : ["enumerate", "zip", "dict_itemiterator", "dict_reverseitemiterator", "odict_iterator", "itertools.zip_longest", "itertools.pairwise"].contains n = false) (hQ:Q () s):wpAny M A (letOwnedTupleGo tg (.ref it) u) Q E s := by
  unfold letOwnedTupleGo
  cases tg <;> first
    | exact wpAny_pure hQ
    | (cases u <;> first
        | exact wpAny_pure hQ
        | (refine wpAny_bind (wpAny_load ho ?_)
           rw [hc,hd]
           show wpAny M A (if (["enumerate", "zip", "dict_itemiterator", "dict_reverseitemiterator", "odict_iterator", "itertools.zip_longest", "itertools.pairwise"].contains n && vs[0]? == some (rawInt _)) = true then _ else _) Q E s
           rw [if_neg (by intro h; rw [hn,Bool.false_and] at h; cases h)]
           exact wpAny_pure hQ))
noncomputable def Itl (K:PySem.W.Frag) (a:Addr):It :=
  ⟨fun i H => ∃ xs x,SqL K H a xs ∧ xs[i]? = some x,fun i H x H' => H' = H ∧ ∀ xs,SqL K H a xs → xs[i]? = some x,fun i H => ∃ xs,SqL K H a xs ∧ xs.length ≤ i⟩
noncomputable def Itt (K:PySem.W.Frag) (a:Addr):It :=
  ⟨fun i H => ∃ xs x,SqT K H a xs ∧ xs[i]? = some x,fun i H x H' => H' = H ∧ ∀ xs,SqT K H a xs → xs[i]? = some x,fun i H => ∃ xs,SqT K H a xs ∧ xs.length ≤ i⟩
noncomputable def Itr (lo:Int) (n:Nat):It := ⟨fun i _ => i < n,fun i H x H' => H' = H ∧ x = .int (lo + i),fun i _ => n ≤ i⟩
theorem turn_list {P:Program} {w:World} {K:PySem.W.Frag} {tg:Expr} (a it:Addr):Turn P w K tg (Itl K a) [it] it (fun i h => h.IsListIter it a i) where
  mem := by simp
  obj := fun i h st b hb => by
    have e:b = it := by simpa using hb
    subst e
    obtain ⟨o,e,c,d⟩ := st
    exact ⟨o,e,fun v z => by rw [d] at z; cases z⟩
  keep := fun i h h' st k => st.at fun o e => k it (by simp) o e
  item := by
    intro X hP hw hK hc i pins s σ H E I hf st hg
    subst hP hw hK
    obtain ⟨xs,x,hq,hx⟩ := hg
    obtain ⟨its,rv,p,hz⟩ := I.list hq
    obtain ⟨u,hu,ru⟩ := rv.get hx
    obtain ⟨f0,f1,f2,f3,f4,f5⟩ := hf it (by simp)
    refine wpAny_pyNext_list_item st p.isList (x := u) (by simpa using hu) fun h' st' sb => ?_
    have I1:Inv X pins σ H { s with heap := h' } := I.turned (t' := s.toks) (fun b o hb e => (sb.2 b hb).trans e) f0 f1 f3 f4 f5
    obtain ⟨o,e,c,d⟩ := id st'
    exact ⟨u,rfl,go_of (s := { s with heap := h' }) e c d (by decide) ⟨x,H,I1,ru,⟨rfl,fun ys hy => by rw [I.list_inj hy hq]; exact hx⟩,st',fun b hb => (hf b hb).1⟩⟩
  done := by
    intro X hP hw hK hc i pins s σ H E I hf st hg
    subst hP hw hK
    obtain ⟨xs,hq,hx⟩ := hg
    obtain ⟨its,rv,p,hz⟩ := I.list hq
    obtain ⟨f0,f1,f2,f3,f4,f5⟩ := hf it (by simp)
    have hl := rv.length
    exact wpAny_pyNext_list_end (I.ok.hd hc) st p.isList (by simp; omega) fun h' eb => ⟨rfl,I.turned (t' := s.toks) (fun b o hb e => eb b o hb e) f0 f1 f3 f4 f5⟩
  self := fun _ _ _ _ _ st h => wpAny_pyIter_listiter st h
theorem turn_tuple {P:Program} {w:World} {K:PySem.W.Frag} {tg:Expr} (a it:Addr):Turn P w K tg (Itt K a) [it] it (fun i h => h.IsTupleIter it a i) where
  mem := by simp
  obj := fun i h st b hb => by
    have e:b = it := by simpa using hb
    subst e
    obtain ⟨o,e,c,d⟩ := st
    exact ⟨o,e,fun v z => by rw [d] at z; cases z⟩
  keep := fun i h h' st k => st.at fun o e => k it (by simp) o e
  item := by
    intro X hP hw hK hc i pins s σ H E I hf st hg
    subst hP hw hK
    obtain ⟨xs,x,hq,hx⟩ := hg
    obtain ⟨its,rv,p,hz⟩ := I.tuple hq
    obtain ⟨u,hu,ru⟩ := rv.get hx
    obtain ⟨f0,f1,f2,f3,f4,f5⟩ := hf it (by simp)
    refine wpAny_pyNext_tuple_item st (show s.heap.IsTuple a its.toArray from p) (x := u) (by simpa using hu) fun h' st' sb => ?_
    have I1:Inv X pins σ H { s with heap := h' } := I.turned (t' := s.toks) (fun b o hb e => (sb.2 b hb).trans e) f0 f1 f3 f4 f5
    obtain ⟨o,e,c,d⟩ := id st'
    exact ⟨u,rfl,go_of (s := { s with heap := h' }) e c d (by decide) ⟨x,H,I1,ru,⟨rfl,fun ys hy => by rw [I.tuple_inj hy hq]; exact hx⟩,st',fun b hb => (hf b hb).1⟩⟩
  done := by
    intro X hP hw hK hc i pins s σ H E I hf st hg
    subst hP hw hK
    obtain ⟨xs,hq,hx⟩ := hg
    obtain ⟨its,rv,p,hz⟩ := I.tuple hq
    obtain ⟨f0,f1,f2,f3,f4,f5⟩ := hf it (by simp)
    have hl := rv.length
    exact wpAny_pyNext_tuple_end (I.ok.hd hc) st (show s.heap.IsTuple a its.toArray from p) (by simp; omega) fun h' eb => ⟨rfl,I.turned (t' := s.toks) (fun b o hb e => eb b o hb e) f0 f1 f3 f4 f5⟩
  self := fun _ _ _ _ _ st h => wpAny_pyIter_tupleiter st h
theorem turn_range {P:Program} {w:World} {K:PySem.W.Frag} {tg:Expr} (it:Addr) (lo:Int) (n:Nat):Turn P w K tg (Itr lo n) [it] it (fun i h => IsRangeIter h it (lo + (i:Nat) * 1) ((n:Int) - (i:Nat)) 1) where
  mem := by simp
  obj := fun i h st b hb => by
    have e:b = it := by simpa using hb
    subst e
    exact ⟨_,st,fun v z => by
      have z':Data.fields _ = Data.cell v := z
      cases z'⟩
  keep := fun i h h' st k => k it (by simp) _ st
  item := by
    intro X hP hw hK hc i pins s σ H E I hf st hg
    subst hP hw hK
    obtain ⟨f0,f1,f2,f3,f4,f5⟩ := hf it (by simp)
    have W := Walks.range (prog := X.prog) (w := X.w) (I.ok.hd hc) it lo 1 n
    refine W.item i s _ _ hg st fun v h' tk hv st' kk => ?_
    obtain ⟨t,rfl⟩ := hv
    have I1:Inv X pins σ H { s with heap := h',toks := tk } := I.turned (fun b o hb e => kk b o (by simpa using hb) e) f0 f1 f3 f4 f5
    refine ⟨_,rfl,go_of (s := { s with heap := h',toks := tk }) (n := "range_iterator") st' rfl rfl (by decide) ⟨.int (lo + i),H,I1,⟨t, ?_⟩,⟨rfl,rfl⟩,st',fun b hb => (hf b hb).1⟩⟩
    rw [Int.mul_one]
  done := by
    intro X hP hw hK hc i pins s σ H E I hf st hg
    subst hP hw hK
    obtain ⟨f0,f1,f2,f3,f4,f5⟩ := hf it (by simp)
    exact wpAny_pyNext_range_end (I.ok.hd hc) st (by have:n ≤ i := hg; omega) fun h' eb => ⟨rfl,I.turned (t' := s.toks) (fun b o hb e => eb b o hb e) f0 f1 f3 f4 f5⟩
  self := fun _ _ _ _ _ st h => wpAny_pyIter_rangeiter st h
end L2
namespace L2
open PySem PySem.Spec PyProof.Rows
section
variable {X:Cx} {tg:Expr}
theorem range_it {pins:List (Addr × Obj)} {σ:St} {H:Hp} {s:Shared} {R:It → Hp → Prop} {E:Value → Shared → Prop} {lo hi:Int} {t u v:Tok} {tk:Nat} (I:Inv X pins σ H s) (h1 : -(2 ^ 62) ≤ lo) (h2:lo < 2 ^ 62) (h3 : -(2 ^ 62) ≤ hi) (h4:hi < 2 ^ 62)
    (q:R (Itr lo (hi - lo).toNat) H):wpAny (model X.prog X.w) X.A (pyIter (.ref s.heap.objs.size)) (PIE X pins σ tg R) E { s with heap := s.heap.push { cls := .type "range",data := .fields #[.int lo t,.int hi u,.int 1 v] },toks := tk } := by
  refine wpAny_pyIter_range (IsRange.new ..) (small_one h1 h2 h3 h4) ?_
  have I1:Inv X pins σ H { s with heap := s.heap.push { cls := .type "range",data := .fields #[.int lo t,.int hi u,.int 1 v] },toks := tk } := I.kept fun b o e => Heap.get?_push_of_some _ e
  refine ⟨(s.heap.push { cls := .type "range",data := .fields #[.int lo t,.int hi u,.int 1 v] }).objs.size,[(s.heap.push { cls := .type "range",data := .fields #[.int lo t,.int hi u,.int 1 v] }).objs.size],_,_,H,rfl,
    I1.kept (t' := tk) fun b o e => Heap.get?_push_of_some _ e,turn_range _ lo (hi - lo).toNat, ?_,fun b hb => ?_,q⟩
  · have e1:lo + ((0:Nat):Int) * 1 = lo := by simp
    have e2:(((hi - lo).toNat:Nat):Int) - ((0:Nat):Int) = Builtin.Range.rangeSize lo hi 1 := by rw [rangeSize_one]; split <;> omega
    show IsRangeIter _ _ (lo + ((0:Nat):Int) * 1) ((((hi - lo).toNat:Nat):Int) - ((0:Nat):Int)) 1
    rw [e1,e2]
    exact Heap.get?_push_size _ rfl
  · have e:b = (s.heap.push { cls := .type "range",data := .fields #[.int lo t,.int hi u,.int 1 v] }).objs.size := by simpa using hb
    subst e
    exact I1.fpOk (Nat.le_refl _) (I1.hok.fresh (Nat.le_refl _))
noncomputable def iRng1 (ta:TA):TI := fun σ H R => ta σ H fun vs H1 => ∃ j:Int,vs = [.int j] ∧ -(2 ^ 62) ≤ j ∧ j < 2 ^ 62 ∧ R (Itr 0 j.toNat) H1
theorem pi_range1 {a:Expr} {ta:TA} {p pos:Pos} (hg:Gl X "range") (hm:X.mg "range" = none) (ha:PA X [a] ta) (hs:starEach [a] X.env = [(false,eval a X.env)] := by rfl):PI X tg (.Call (.Name "range" p) [a] [] pos) (iRng1 ta) := by
  intro pins s σ H R I h
  refine Call_ (ld_blt I hg hm boot_range (PyProof.Rows.callWith_type1 (thn5 (ha pos pins s σ H _ I h) fun us s1 vs H1 I1 r1 q1 => ?_) hs rfl))
  obtain ⟨j,e,q1,q2,q⟩ := q1
  subst e
  cases r1 with
  | cons r rr =>
    cases rr
    obtain ⟨t,rfl⟩ := r
    exact call_range_1 (range_it I1 (by omega) (by omega) q1 q2 (by simpa using q))
noncomputable def tFor (wi:TI) (g:TG) (tb:TS):TS := fun D σ H => wi σ H fun J H1 => ∃ W:Nat → Nat → St → Hp → Prop,(∃ m,W 0 m σ H1) ∧ ∀ i m σ H,W i m σ H →
  (J.stop i H ∧ D.nx σ H) ∨ (J.go i H ∧ ∃ N:St → Hp → Prop,(∀ σ' H',N σ' H' → ∃ m',m' < m ∧ W (i + 1) m' σ' H') ∧ ∀ x H',J.yld i H x H' → g x σ H' fun σ2 H2 => tb { D with nx := N,ct := N,bk := D.nx } σ2 H2)
noncomputable def pinsAt (fp:List Addr) (h:Heap):List (Addr × Obj) := fp.filterMap fun b => (h.get? b).map fun o => (b,o)
theorem mem_pinsAt {fp:List Addr} {h:Heap} {b:Addr} {o:Obj} (hb:b ∈ fp) (e:h.get? b = some o):(b,o) ∈ pinsAt fp h := List.mem_filterMap.mpr ⟨b,hb,by rw [e]; rfl⟩
theorem of_pinsAt {fp:List Addr} {h:Heap} {p:Addr × Obj} (hp:p ∈ pinsAt fp h):p.1 ∈ fp ∧ h.get? p.1 = some p.2 := by
  obtain ⟨b,hb,e⟩ := List.mem_filterMap.mp hp
  cases q:h.get? b with
  | none => rw [q] at e; cases e
  | some o =>
    rw [q] at e
    have e':(b,o) = p := Option.some.inj e
    subst e'
    exact ⟨hb,q⟩
theorem Inv.pinned {pins:List (Addr × Obj)} {σ:St} {H:Hp} {s:Shared} {fp:List Addr} (I:Inv X pins σ H s) (hf : ∀ b ∈ fp,FpOk X pins H b) (ho : ∀ b ∈ fp, ∃ o,s.heap.get? b = some o ∧ ∀ v,o.data ≠ .cell v):Inv X (pins ++ pinsAt fp s.heap) σ H s :=
  I.pins_of fun p hp => (List.mem_append.mp hp).elim (fun z => I.pin p (List.mem_append_right _ z)) fun z => by
    obtain ⟨hb,e⟩ := of_pinsAt z
    obtain ⟨f0,f1,f2,_⟩ := hf p.1 hb
    obtain ⟨o,e',d⟩ := ho p.1 hb
    rw [e] at e'; cases e'
    exact ⟨e,f0,f1,f2,d⟩
theorem Inv.unpinned {pins pl:List (Addr × Obj)} {σ:St} {H:Hp} {s:Shared} (I:Inv X (pins ++ pl) σ H s):Inv X pins σ H s := I.pins_of fun p hp => I.pin p (List.mem_append_right _ (List.mem_append_left _ hp))
theorem ps_for {iter:Expr} {body:List Stmt} {wi:TI} {g:TG} {tb:TS} {pos:Pos} (hp:PassesOwn (model X.prog X.w) X.A X.env X.xe) (hc:X.calm = true) (hi:PI X tg iter wi) (hg:PG X tg g) (hb:PSs X body tb)
    (hs : ∀ x,foldedSetIterable iter X.env x = pure x := by intro _; rfl):PS X (.For tg iter body [] pos) (tFor wi g tb) := by
  intro pins s σ H D I h
  refine wpAny_For (thn (hi pins s σ H _ I h) fun v s1 h1 => thn h1 fun itv s2 h2 => ?_) hs
  obtain ⟨it,fp,tn,J,H2,e,I2,T,st2,f2,W,⟨m0,w0⟩,turn⟩ := h2
  subst e
  -- what stays true of the iterator's objects through the loop
  have stat : ∀ {H':Hp},(∀ b ∈ fp,H' b = none) → ∀ b ∈ fp,FpOk X pins H' b := fun hn b hb => ⟨hn b hb,(f2 b hb).2⟩
  refine codeAny_forLoop_any (fun n s' => ∃ i σ' H',Inv X pins σ' H' s' ∧ tn i s'.heap ∧ (∀ b ∈ fp,H' b = none) ∧ W i n σ' H') ?_ m0 ⟨0, σ,H2,I2,st2,fun b hb => (f2 b hb).1,w0⟩
  rintro n s3 ⟨i, σ3,H3,I3,st3,fr3,w3⟩
  rcases turn i n σ3 H3 w3 with ⟨stop,qn⟩ | ⟨go,N,hN,step⟩
  · refine wpAny_passesOwn hp (thn (T.done X rfl rfl rfl hc i pins s3 σ3 H3 X.xe I3 (stat fr3) st3 stop) fun r s4 zz_ => ?_)
    obtain ⟨hr,I4⟩ := zz_
    subst hr
    exact wpAny_execs_nil ⟨σ3,H3,I4,qn⟩
  · refine wpAny_passesOwn hp (thn (T.item X rfl rfl rfl hc i pins s3 σ3 H3 X.xe I3 (stat fr3) st3 go) fun r s4 zz_ => ?_)
    obtain ⟨u,hr,h4⟩ := zz_
    subst hr
    refine wpAny_passesOwn hp (thn5 h4 fun _ s5 x H5 I5 r5 zz_ => ?_)
    obtain ⟨y5,st5,fr5⟩ := zz_
    have I5' := I5.pinned (stat fr5) (T.obj _ _ st5)
    refine wpAny_passesOwn hp (thn (hg _ s5 σ3 H5 x u _ I5' r5 (step x H5 y5)) fun _ s6 zz_ => ?_)
    obtain ⟨σ6,H6,I6,q6⟩ := zz_
    refine wpAny_passesOwn hp (thn (hb _ s6 σ6 H6 _ I6 q6) fun f s7 q7 => ?_)
    have again : ∀ {σ7:St} {H7:Hp},Inv X (pins ++ pinsAt fp s5.heap) σ7 H7 s7 → N σ7 H7 → ∃ m,m < n ∧ ∃ i σ' H',Inv X pins σ' H' s7 ∧ tn i s7.heap ∧ (∀ b ∈ fp,H' b = none) ∧ W i m σ' H' := fun {σ7 H7} I7 n7 => by
      obtain ⟨m',hm,w7⟩ := hN σ7 H7 n7
      refine ⟨m',hm,i + 1, σ7,H7,I7.unpinned,T.keep _ _ _ st5 fun b hb o e => (I7.pin (b,o) (List.mem_append_right _ (List.mem_append_right _ (mem_pinsAt hb e)))).1,fun b hb => ?_,w7⟩
      obtain ⟨o,e,d⟩ := T.obj _ _ st5 b hb
      exact (I7.pin (b,o) (List.mem_append_right _ (List.mem_append_right _ (mem_pinsAt hb e)))).2.1
    cases f with
    | next => obtain ⟨σ7,H7,I7,n7⟩ := q7; exact again I7 n7
    | cont => obtain ⟨σ7,H7,I7,n7⟩ := q7; exact again I7 n7
    | brk => obtain ⟨σ7,H7,I7,q7⟩ := q7; exact ⟨σ7,H7,I7.unpinned,q7⟩
    | ret v => obtain ⟨x7, σ7,H7,I7,r7,q7⟩ := q7; exact ⟨x7, σ7,H7,I7.unpinned,r7,q7⟩
end
theorem for_list {K:PySem.W.Frag} {a:Addr} {xs:List V} {g:TG} {tb:TS} {D:Ends} {σ:St} {H:Hp} (Pv:Nat → St → Hp → Prop) (h0:Pv 0 σ H) (hl : ∀ i σ H,i ≤ xs.length → Pv i σ H → SqL K H a xs)
    (hs : ∀ i x σ H,xs[i]? = some x → Pv i σ H → g x σ H fun σ2 H2 => tb { D with nx := Pv (i + 1),ct := Pv (i + 1),bk := D.nx } σ2 H2) (hd : ∀ σ H,Pv xs.length σ H → D.nx σ H) :
    ∃ W:Nat → Nat → St → Hp → Prop,(∃ m,W 0 m σ H) ∧ ∀ i m σ H,W i m σ H →
      ((Itl K a).stop i H ∧ D.nx σ H) ∨ ((Itl K a).go i H ∧ ∃ N:St → Hp → Prop,(∀ σ' H',N σ' H' → ∃ m',m' < m ∧ W (i + 1) m' σ' H') ∧ ∀ x H',(Itl K a).yld i H x H' → g x σ H' fun σ2 H2 => tb { D with nx := N,ct := N,bk := D.nx } σ2 H2) := by
  refine ⟨fun i m σ H => m = xs.length - i ∧ i ≤ xs.length ∧ Pv i σ H,⟨xs.length,by simp,Nat.zero_le _,h0⟩, ?_⟩
  rintro i m σ H ⟨rfl,hi,p⟩
  have q := hl i σ H hi p
  by_cases hlt:i < xs.length
  · refine .inr ⟨⟨xs,xs[i],q,by simp [hlt]⟩,Pv (i + 1),fun σ' H' p' => ⟨xs.length - (i + 1),by omega,rfl,hlt,p'⟩,fun x H' y => ?_⟩
    obtain ⟨e,y⟩ := y
    subst e
    exact hs i x σ _ (y xs q) p
  · have e:i = xs.length := by omega
    subst e
    exact .inl ⟨⟨xs,q,Nat.le_refl _⟩,hd σ H p⟩
theorem for_tup {K:PySem.W.Frag} {a:Addr} {xs:List V} {g:TG} {tb:TS} {D:Ends} {σ:St} {H:Hp} (Pv:Nat → St → Hp → Prop) (h0:Pv 0 σ H) (hl : ∀ i σ H,i ≤ xs.length → Pv i σ H → SqT K H a xs)
    (hs : ∀ i x σ H,xs[i]? = some x → Pv i σ H → g x σ H fun σ2 H2 => tb { D with nx := Pv (i + 1),ct := Pv (i + 1),bk := D.nx } σ2 H2) (hd : ∀ σ H,Pv xs.length σ H → D.nx σ H) :
    ∃ W:Nat → Nat → St → Hp → Prop,(∃ m,W 0 m σ H) ∧ ∀ i m σ H,W i m σ H →
      ((Itt K a).stop i H ∧ D.nx σ H) ∨ ((Itt K a).go i H ∧ ∃ N:St → Hp → Prop,(∀ σ' H',N σ' H' → ∃ m',m' < m ∧ W (i + 1) m' σ' H') ∧ ∀ x H',(Itt K a).yld i H x H' → g x σ H' fun σ2 H2 => tb { D with nx := N,ct := N,bk := D.nx } σ2 H2) := by
  refine ⟨fun i m σ H => m = xs.length - i ∧ i ≤ xs.length ∧ Pv i σ H,⟨xs.length,by simp,Nat.zero_le _,h0⟩, ?_⟩
  rintro i m σ H ⟨rfl,hi,p⟩
  have q := hl i σ H hi p
  by_cases hlt:i < xs.length
  · refine .inr ⟨⟨xs,xs[i],q,by simp [hlt]⟩,Pv (i + 1),fun σ' H' p' => ⟨xs.length - (i + 1),by omega,rfl,hlt,p'⟩,fun x H' y => ?_⟩
    obtain ⟨e,y⟩ := y
    subst e
    exact hs i x σ _ (y xs q) p
  · have e:i = xs.length := by omega
    subst e
    exact .inl ⟨⟨xs,q,Nat.le_refl _⟩,hd σ H p⟩
end L2
namespace L2
open PySem PySem.Spec PyProof.Rows
noncomputable abbrev R2 := V → V → Hp → VK → Prop
noncomputable def OpR (X:Cx) (f:Value → Value → Sem Value) (r:R2):Prop :=
  ∀ (pins:List (Addr × Obj)) (s:Shared) (σ:St) (H:Hp) (x y:V) (v u:Value) (Q:VK),Inv X pins σ H s → RelV x v → RelV y u → r x y H Q →
    wpAny (model X.prog X.w) X.A (f v u) (EP X pins σ Q) X.xe s
noncomputable def UnR (X:Cx) (f:Value → Sem Value) (r:V → Hp → VK → Prop):Prop :=
  ∀ (pins:List (Addr × Obj)) (s:Shared) (σ:St) (H:Hp) (x:V) (v:Value) (Q:VK),Inv X pins σ H s → RelV x v → r x H Q →
    wpAny (model X.prog X.w) X.A (f v) (EP X pins σ Q) X.xe s
noncomputable def CallR (X:Cx) (f:Value) (r:List V → Hp → VK → Prop):Prop :=
  ∀ (pins:List (Addr × Obj)) (s:Shared) (σ:St) (H:Hp) (xs:List V) (us:List Value) (Q:VK),Inv X pins σ H s → Vals xs us → r xs H Q →
    wpAny (model X.prog X.w) X.A (call f us) (EP X pins σ Q) X.xe s
noncomputable def tOp (r:R2) (ta tb:TE):TE := fun σ H Q => ta σ H fun x H1 => tb σ H1 fun y H2 => r x y H2 Q
noncomputable def tUn (r:V → Hp → VK → Prop) (ta:TE):TE := fun σ H Q => ta σ H fun x H1 => r x H1 Q
noncomputable def rI (C:Int → Int → Prop) (g:Int → Int → V):R2 := fun x y H Q => ∃ i j,x = .int i ∧ y = .int j ∧ C i j ∧ Q (g i j) H
noncomputable def rI0 (g:Int → Int → V):R2 := fun x y H Q => ∃ i j,x = .int i ∧ y = .int j ∧ Q (g i j) H
noncomputable def rU (g:Int → V):V → Hp → VK → Prop := fun x H Q => ∃ i,x = .int i ∧ Q (g i) H
section
variable {X:Cx} {a b c:Expr} {ta tb tc:TE} {pos:Pos}
theorem binT (ha:PE X a ta) (hb:PE X b tb) {pins:List (Addr × Obj)} {s:Shared} {σ:St} {H:Hp} {R:V → V → Hp → Prop} (I:Inv X pins σ H s)
    (h:ta σ H fun x H1 => tb σ H1 fun y H2 => R x y H2) {Q:Value → Shared → Prop} {f:Value → Value → Sem Value}
    (hf : ∀ v u s2 x y H2,Inv X pins σ H2 s2 → RelV x v → RelV y u → R x y H2 → wpAny (model X.prog X.w) X.A (f v u) Q X.xe s2) :
    wpAny (model X.prog X.w) X.A (eval a X.env) (fun v s₁ => wpAny (model X.prog X.w) X.A (eval b X.env) (fun u s₂ => wpAny (model X.prog X.w) X.A (f v u) Q X.xe s₂) X.xe s₁) X.xe s := by
  refine thn5 (ha pins s σ H _ I h) fun v s1 x H1 I1 r1 q1 => ?_
  refine thn5 (hb pins s1 σ H1 _ I1 q1) fun u s2 y H2 I2 r2 q2 => ?_
  exact hf v u s2 x y H2 I2 r1 r2 q2
theorem pe_op {op:Operator} {r:R2} (ho:OpR X (binaryOp op) r) (ha:PE X a ta) (hb:PE X b tb):PE X (.BinOp a op b pos) (tOp r ta tb) := by
  intro pins s σ H Q I h
  exact wpAny_BinOp (binT ha hb I h fun v u s2 x y H2 I2 rx ry q => ho pins s2 σ H2 x y v u Q I2 rx ry q)
theorem pe_un {op:UnaryOp} {r:V → Hp → VK → Prop} (ho:UnR X (unaryOp op) r) (ha:PE X a ta):PE X (.UnaryOp op a pos) (tUn r ta) := by
  intro pins s σ H Q I h
  exact UnaryOp_ (thn5 (ha pins s σ H _ I h) fun v s1 x H1 I1 r1 q1 => ho pins s1 σ H1 x v Q I1 r1 q1)
theorem opI {f:Value → Value → Sem Value} {C:Int → Int → Prop} {g:Int → Int → Int}
    (rule : ∀ (i j:Int) (t u:Tok) (s:Shared) (Q:Value → Shared → Prop) (E:Value → Shared → Prop),C i j → Q (.int (g i j) s.toks) { s with toks := s.toks + 1 } → wpAny (model X.prog X.w) X.A (f (.int i t) (.int j u)) Q E s) :
    OpR X f (rI C fun i j => .int (g i j)) := by
  intro pins s σ H x y v u Q I rx ry h
  obtain ⟨i,j,rfl,rfl,hc,q⟩ := h
  obtain ⟨t,rfl⟩ := rx
  obtain ⟨t',rfl⟩ := ry
  exact rule i j t t' s _ _ hc ⟨.int (g i j),H,I.tok _,⟨_,rfl⟩,q⟩
theorem opI0 {f:Value → Value → Sem Value} {g:Int → Int → Int}
    (rule : ∀ (i j:Int) (t u:Tok) (s:Shared) (Q:Value → Shared → Prop) (E:Value → Shared → Prop),Q (.int (g i j) s.toks) { s with toks := s.toks + 1 } → wpAny (model X.prog X.w) X.A (f (.int i t) (.int j u)) Q E s) :
    OpR X f (rI0 fun i j => .int (g i j)) := by
  intro pins s σ H x y v u Q I rx ry h
  obtain ⟨i,j,rfl,rfl,q⟩ := h
  obtain ⟨t,rfl⟩ := rx
  obtain ⟨t',rfl⟩ := ry
  exact rule i j t t' s _ _ ⟨.int (g i j),H,I.tok _,⟨_,rfl⟩,q⟩
theorem opB0 {f:Value → Value → Sem Value} {g:Int → Int → Bool}
    (rule : ∀ (i j:Int) (t u:Tok) (s:Shared) (Q:Value → Shared → Prop) (E:Value → Shared → Prop),Q (.bool (g i j)) s → wpAny (model X.prog X.w) X.A (f (.int i t) (.int j u)) Q E s) :
    OpR X f (rI0 fun i j => .bl (g i j)) := by
  intro pins s σ H x y v u Q I rx ry h
  obtain ⟨i,j,rfl,rfl,q⟩ := h
  obtain ⟨t,rfl⟩ := rx
  obtain ⟨t',rfl⟩ := ry
  exact rule i j t t' s _ _ ⟨.bl (g i j),H,I,rfl,q⟩
noncomputable def CDiv (i j:Int):Prop := 0 < j ∧ j < 1073741824
noncomputable def CPow (i j:Int):Prop := 0 ≤ j ∧ j ≤ 1000000 ∧ i.natAbs < 2 ^ 64
noncomputable def CMul (i j:Int):Prop := (-(2 ^ 64) < i ∧ i < 2 ^ 64) ∨ (-(2 ^ 64) < j ∧ j < 2 ^ 64)
theorem CMul.ok {i j:Int} (h:CMul i j):IntMulOk i j := by
  rcases h with ⟨h1,h2⟩ | ⟨h1,h2⟩
  · exact .of_left (intBits_le_64 h1 h2)
  · exact .of_right (intBits_le_64 h1 h2)
theorem op_add:OpR X (binaryOp .Add) (rI0 fun i j => .int (i + j)) := opI0 fun _ _ _ _ _ _ _ q => add_int q
theorem op_sub:OpR X (binaryOp .Sub) (rI0 fun i j => .int (i - j)) := opI0 fun _ _ _ _ _ _ _ q => sub_int q
theorem op_mul:OpR X (binaryOp .Mult) (rI CMul fun i j => .int (i * j)) := opI fun _ _ _ _ _ _ _ hc q => mul_int q hc.ok
theorem op_fdiv:OpR X (binaryOp .FloorDiv) (rI CDiv fun i j => .int (i / j)) := opI fun i j _ _ _ _ _ hc q => by
  have h1:(0:Int) < j := hc.1
  have h2:j < 1073741824 := hc.2
  exact floordiv_int (by omega) (by rw [Int.fdiv_eq_ediv_of_nonneg i (by omega)]; exact q) (.inl (PyProof.noPylong_small (by omega)))
theorem op_mod:OpR X (binaryOp .Mod) (rI (fun _ j => 0 < j) fun i j => .int (i % j)) := opI fun i j _ _ _ _ _ hc q => by
  have h1:(0:Int) < j := hc
  exact mod_int' (by omega) (by rw [Int.fmod_eq_emod_of_nonneg i (by omega)]; exact q)
theorem op_pow:OpR X (binaryOp .Pow) (rI CPow fun i j => .int (i ^ j.toNat)) := opI fun _ _ _ _ _ _ _ hc q => pow_int_small hc.1 hc.2.1 hc.2.2 q
theorem unI {f:Value → Sem Value} {g:Int → Int}
    (rule : ∀ (i:Int) (t:Tok) (s:Shared) (Q:Value → Shared → Prop) (E:Value → Shared → Prop),Q (.int (g i) s.toks) { s with toks := s.toks + 1 } → wpAny (model X.prog X.w) X.A (f (.int i t)) Q E s) :
    UnR X f (rU fun i => .int (g i)) := by
  intro pins s σ H x v Q I rx h
  obtain ⟨i,rfl,q⟩ := h
  obtain ⟨t,rfl⟩ := rx
  exact rule i t s _ _ ⟨.int (g i),H,I.tok _,⟨_,rfl⟩,q⟩
theorem un_neg:UnR X (unaryOp .USub) (rU fun i => .int (-i)) := unI fun _ _ _ _ _ q => neg_int q
end
section
variable {X:Cx} {a b c:Expr} {ta tb tc:TE} {pos:Pos}
theorem fin_bl {pins:List (Addr × Obj)} {σ:St} {H:Hp} {s:Shared} {Q:VK} {k k':Bool} (I:Inv X pins σ H s) (q:Q (.bl k) H) (e:k = k'):EP X pins σ Q (.bool k') s := by
  subst e
  exact ⟨.bl k,H,I,rfl,q⟩
theorem op_lt:OpR X (compareOp .Lt) (rI0 fun i j => .bl (decide (i < j))) := opB0 fun _ _ _ _ _ _ _ q => lt_int q
theorem op_le:OpR X (compareOp .LtE) (rI0 fun i j => .bl (decide (i ≤ j))) := opB0 fun _ _ _ _ _ _ _ q => le_int q
theorem op_gt:OpR X (compareOp .Gt) (rI0 fun i j => .bl (decide (j < i))) := opB0 fun _ _ _ _ _ _ _ q => gt_int q
theorem op_ge:OpR X (compareOp .GtE) (rI0 fun i j => .bl (decide (j ≤ i))) := opB0 fun _ _ _ _ _ _ _ q => ge_int q
theorem op_in_str:OpR X (compareOp .In) (fun x y H Q => ∃ i j,x = .str i ∧ y = .str j ∧ Q (.bl (!(Builtin.Str.occurrences j i 0 j.length 1).isEmpty)) H) := by
  intro pins s σ H x y v u Q I rx ry h
  obtain ⟨i,j,rfl,rfl,q⟩ := h
  obtain ⟨t,rfl⟩ := rx
  obtain ⟨t',rfl⟩ := ry
  exact in_str (fin_bl I q rfl)
theorem op_notin_str:OpR X (compareOp .NotIn) (fun x y H Q => ∃ i j,x = .str i ∧ y = .str j ∧ Q (.bl (!(!(Builtin.Str.occurrences j i 0 j.length 1).isEmpty))) H) := by
  intro pins s σ H x y v u Q I rx ry h
  obtain ⟨i,j,rfl,rfl,q⟩ := h
  obtain ⟨t,rfl⟩ := rx
  obtain ⟨t',rfl⟩ := ry
  exact notIn_str (fin_bl I q rfl)
theorem OpR.or {f:Value → Value → Sem Value} {r r':R2} (h:OpR X f r) (h':OpR X f r'):OpR X f (fun x y H Q => r x y H Q ∨ r' x y H Q) := by
  intro pins s σ H x y v u Q I rx ry q
  rcases q with q | q
  · exact h pins s σ H x y v u Q I rx ry q
  · exact h' pins s σ H x y v u Q I rx ry q
theorem nomark (b:Expr) {op:CmpOp} (h:op ≠ .In := by decide) (h2:op ≠ .NotIn := by decide):behindInMarks op b = false := by
  have e1:(op == CmpOp.In) = false := by cases op <;> first | rfl | exact absurd rfl h
  have e2:(op == CmpOp.NotIn) = false := by cases op <;> first | rfl | exact absurd rfl h2
  cases b <;> simp [behindInMarks,e1,e2]
theorem pe_cmpR {op:CmpOp} {r:R2} (ho:OpR X (compareOp op) r) (ha:PE X a ta) (hb:PE X b tb) (hm:behindInMarks op b = false):PE X (.Compare a [op] [b] pos) (tOp r ta tb) := by
  intro pins s σ H Q I h
  exact wpAny_Compare1 (binT ha hb I h fun v u s2 x y H2 I2 rx ry q => ho pins s2 σ H2 x y v u Q I2 rx ry q) hm
noncomputable def tTest (t:TE):TT := fun σ H Q => t σ H fun x H' => ∃ k,x = .bl k ∧ Q k H'
theorem pt_cmpR {op:CmpOp} {r:R2} (ho:OpR X (compareOp op) r) (ha:PE X a ta) (hb:PE X b tb) (hm:behindInMarks op b = false):PT X (.Compare a [op] [b] pos) (tTest (tOp r ta tb)) := by
  intro pins s σ H Q I h
  refine wpAny_isTrue_Compare1 (thn5 (ha pins s σ H _ I h) fun v s1 x H1 I1 r1 q1 => thn5 (hb pins s1 σ H1 _ I1 q1) fun u s2 y H2 I2 r2 q2 =>
    thn5 (ho pins s2 σ H2 x y v u _ I2 r1 r2 q2) fun c s3 z H3 I3 r3 ⟨k,e,q3⟩ => ?_) hm
  subst e
  cases r3
  exact wpAny_truthy_bool ⟨H3,I3,q3⟩
noncomputable def tChain (r r':R2) (ta tb tc:TE):TE := fun σ H Q => ta σ H fun x H1 => tb σ H1 fun y H2 => r x y H2 fun z H3 => ∃ k,z = .bl k ∧
  (if k = true then tc σ H3 fun w' H4 => r' y w' H4 Q else Q (.bl false) H3)
theorem pe_chain {op op':CmpOp} {r r':R2} (ho:OpR X (compareOp op) r) (ho':OpR X (compareOp op') r') (ha:PE X a ta) (hb:PE X b tb) (hc:PE X c tc)
    (hm:lastMarks [op,op'] [b,c] = false := by with_unfolding_all rfl):PE X (.Compare a [op,op'] [b,c] pos) (tChain r r' ta tb tc) := by
  intro pins s σ H Q I h
  refine Compare_chain (thn5 (ha pins s σ H _ I h) fun v s1 x H1 I1 r1 q1 => chain_link (thn5 (hb pins s1 σ H1 _ I1 q1) fun u s2 y H2 I2 r2 q2 =>
    thn5 (ho pins s2 σ H2 x y v u _ I2 r1 r2 q2) fun d s3 z H3 I3 r3 ⟨k,e,q3⟩ => ?_)) hm
  subst e
  cases r3
  refine wpAny_truthy_bool ?_
  cases k with
  | false => exact ite_ff ⟨.bl false,H3,I3,rfl,q3⟩
  | true => exact ite_tt (chain_last (thn5 (hc pins s3 σ H3 _ I3 q3) fun w' s4 z' H4 I4 r4 q4 => ho' pins s4 σ H4 y z' u w' Q I4 r2 r4 q4))
theorem pt_chain {op op':CmpOp} {r r':R2} (ho:OpR X (compareOp op) r) (ho':OpR X (compareOp op') r') (ha:PE X a ta) (hb:PE X b tb) (hc:PE X c tc)
    (hm:lastMarks [op,op'] [b,c] = false := by with_unfolding_all rfl):PT X (.Compare a [op,op'] [b,c] pos) (tTest (tChain r r' ta tb tc)) := by
  intro pins s σ H Q I h
  refine isTrue_chain (thn5 (ha pins s σ H _ I h) fun v s1 x H1 I1 r1 q1 => test_link (thn5 (hb pins s1 σ H1 _ I1 q1) fun u s2 y H2 I2 r2 q2 =>
    thn5 (ho pins s2 σ H2 x y v u _ I2 r1 r2 q2) fun d s3 z H3 I3 r3 ⟨k,e,q3⟩ => ?_)) hm
  subst e
  cases r3
  refine wpAny_truthy_bool ?_
  cases k with
  | false =>
    obtain ⟨k',e',q'⟩ := q3
    cases e'
    exact ite_ff ⟨H3,I3,q'⟩
  | true =>
    refine ite_tt (test_last (thn5 (hc pins s3 σ H3 _ I3 q3) fun w' s4 z' H4 I4 r4 q4 => thn5 (ho' pins s4 σ H4 y z' u w' _ I4 r2 r4 q4) fun d' s5 z2 H5 I5 r5 zz_ => ?_))
    obtain ⟨k2,e2,q5⟩ := zz_
    subst e2
    cases r5
    exact wpAny_truthy_bool ⟨H5,I5,q5⟩
theorem line63:(sizeLine:Nat) < 2 ^ 63 := by rw [sizeLine_eq]; decide
theorem op_add_str:OpR X (binaryOp .Add) (fun x y H Q => ∃ i j,x = .str i ∧ y = .str j ∧ i.length + j.length ≤ sizeLine ∧ Q (.str (i ++ j)) H) := by
  intro pins s σ H x y v u Q I rx ry h
  obtain ⟨i,j,rfl,rfl,hz,q⟩ := h
  obtain ⟨t,rfl⟩ := rx
  obtain ⟨t',rfl⟩ := ry
  exact add_str (fun t' tk => ⟨.str (i ++ j),H,I.tok _,⟨_,rfl⟩,q⟩) hz
theorem vals1 {x:V} {us:List Value} (r:Vals [x] us) : ∃ u,us = [u] ∧ RelV x u := by
  cases r with
  | cons r1 r2 => cases r2; exact ⟨_,rfl,r1⟩
noncomputable def LenV (K:PySem.W.Frag) (x:V) (H:Hp) (n:Nat):Prop :=
  match x with
  | .str y => y.length ≤ sizeLine ∧ n = y.length
  | .byt y => y.size ≤ sizeLine ∧ n = y.size
  | .ref p => (∃ xs,SqL K H p xs ∧ n = xs.length) ∨ ∃ xs,SqT K H p xs ∧ n = xs.length
  | _ => False
theorem call_len:CallR X (.builtin "len") (fun xs H Q => ∃ x n,xs = [x] ∧ LenV X.K x H n ∧ Q (.int n) H) := by
  intro pins s σ H xs us Q I r h
  obtain ⟨x,n,rfl,e,q⟩ := h
  obtain ⟨u,rfl,rx⟩ := vals1 r
  have hl := line63
  have hs:sizeLine = 16777216 := sizeLine_eq
  cases x with
  | str y =>
    obtain ⟨t,rfl⟩ := rx
    obtain ⟨hy,e'⟩:y.length ≤ sizeLine ∧ n = y.length := e
    subst e'
    exact len_str (by omega) ⟨.int _,H,I.tok _,⟨_,rfl⟩,q⟩
  | byt y =>
    obtain ⟨t,rfl⟩ := rx
    obtain ⟨hy,e'⟩:y.size ≤ sizeLine ∧ n = y.size := e
    subst e'
    exact PySem.W.len_bytes (by omega) ⟨.int _,H,I.tok _,⟨_,rfl⟩,q⟩
  | ref p =>
    cases rx
    have e':(∃ xs,SqL X.K H p xs ∧ n = xs.length) ∨ ∃ xs,SqT X.K H p xs ∧ n = xs.length := e
    rcases e' with ⟨xs,hx,e'⟩ | ⟨xs,hx,e'⟩
    · subst e'
      obtain ⟨its,r',pl,hz⟩ := I.list hx
      have hlen := r'.length
      exact Calls.call_len_list pl.isList (by simp only [List.size_toArray]; omega) ⟨.int xs.length,H,I.tok _,⟨_,by simp only [List.size_toArray]; rw [hlen]⟩,q⟩
    · subst e'
      obtain ⟨its,r',pl,hz⟩ := I.tuple hx
      have hlen := r'.length
      exact len_tuple pl (by simp only [List.size_toArray]; omega) ⟨.int xs.length,H,I.tok _,⟨_,by simp only [List.size_toArray]; rw [hlen]⟩,q⟩
  | _ => exact (show False from e).elim
end
end L2
namespace L2
open PySem PySem.Spec PyProof.Rows
section
variable {prog:Program} {w:World} {A:Around} {E:Value → Shared → Prop} {s:Shared} {K:PySem.W.Frag} {x dx C f:Addr} {mA:Str → Option Value} {name:Str} {v:Value}
end
theorem RelO.some_of {v:V} {o:Option Value} (r:RelO (some v) o) : ∃ u,o = some u ∧ RelV v u := by
  cases o with
  | none => exact (show False from r).elim
  | some u => exact ⟨u,rfl,r⟩
section
variable {P:Program} {w:World} {H H':Hp} {h h':Heap} {a C dx:Addr} {fs fs':List (Str × V)}
end
section
variable {X:Cx} {pins:List (Addr × Obj)} {σ:St} {H:Hp} {s:Shared} {a C dx:Addr} {fs:List (Str × V)} {f:Str} {v:V} {A:Around} {E:Value → Shared → Prop}
end
section
variable {X:Cx} {o e value:Expr} {f:Str} {pos pos' tpos:Pos} {ta tv:TE}
end
section
variable {X:Cx} {pins:List (Addr × Obj)} {σ:St} {H:Hp} {s:Shared} {A:Around} {E:Value → Shared → Prop} {Q:Value → Shared → Prop} {c:Value} {b:Bool}
end
end L2
namespace L2
open PySem PySem.Spec PyProof.Rows
structure Room (k:Nat) (A:Around):Prop where
  hd:A.handled = none
  dp:A.depth + 3 * k + 5 < recursionLimit
  un:A.units + 16 * k + 200 < cLine
theorem Room.mono {j k:Nat} {A:Around} (r:Room k A) (h:j ≤ k):Room j A := ⟨r.hd,by have := r.dp; omega,by have := r.un; omega⟩
theorem Room.deeper {k:Nat} {A:Around} (r:Room (k + 1) A) (env:Env):Room k (A.deeper env) :=
  ⟨r.hd,by have := r.dp; show A.depth + 1 + 3 * k + 5 < _; omega,by have := r.un; show A.units + 3 + 16 * k + 200 < _; omega⟩
theorem Room.depth {k:Nat} {A:Around} (r:Room k A):A.depth < recursionLimit := by have := r.dp; omega
theorem Room.units {k:Nat} {A:Around} (r:Room k A):A.units + 64 < cLine := by have := r.un; omega
noncomputable def tNil:TA := fun _ H Q => Q [] H
noncomputable def tCons (ta:TE) (tr:TA):TA := fun σ H Q => ta σ H fun x H1 => tr σ H1 fun xs H2 => Q (x :: xs) H2
section
variable {X:Cx} {e:Expr} {es:List Expr} {te:TE} {t:TA} {pos:Pos}
theorem pa_nil:PA X [] tNil := fun _ _ _ _ H Q I h => Calls.spliced_nil ⟨[],H,I,.nil,h⟩
theorem pa_cons (ha:PE X e te) (hr:PA X es t) (hs:starEach (e :: es) X.env = (false,eval e X.env) :: starEach es X.env := by rfl):PA X (e :: es) (tCons te t) := by
  intro pos pins s σ H Q I h
  rw [hs]
  show wpAny _ _ (spliced ((false,eval e X.env) :: backTo pos (starEach es X.env))) _ _ s
  refine Calls.spliced_cons (thn5 (ha pins s σ H _ I h) fun u s1 x H1 I1 r1 q1 => ?_)
  exact thn5 (hr pos pins s1 σ H1 _ I1 q1) fun us s2 xs H2 I2 r2 q2 => ⟨x :: xs,H2,I2,.cons r1 r2,q2⟩
noncomputable def tTup (t:TA):TE := fun σ H Q => t σ H fun xs H1 => xs.length ≤ sizeLine ∧ ∀ p,H1 p = none → Q (.ref p) (upd H1 p (.tup xs))
noncomputable def tLst (t:TA):TE := fun σ H Q => t σ H fun xs H1 => xs.length ≤ sizeLine ∧ ∀ p,H1 p = none → Q (.ref p) (upd H1 p (.lst xs))
theorem pe_tup {x1} (h:PA X es t):PE X (.Tuple es x1 pos) (tTup t) := by
  intro pins s σ H Q I hq
  refine wpAny_Tuple_spliced (thn5 (h pos pins s σ H _ I hq) fun us s1 xs H1 I1 r ⟨z,q⟩ => ⟨by rw [← r.length]; exact z, ?_⟩)
  have hf:H1 s1.heap.objs.size = none := I1.hok.fresh (Nat.le_refl _)
  refine ⟨.ref s1.heap.objs.size,upd H1 s1.heap.objs.size (.tup xs),I1.laid (t' := s1.toks) (fun b u e => Heap.get?_push_of_some _ e) (Nat.le_refl _) ?_,rfl,q _ hf⟩
  exact ⟨z,us,r,⟨_,Heap.get?_push_size _ rfl,rfl,_,rfl⟩⟩
theorem pe_lst (h:PA X es t):PE X (.List es pos) (tLst t) := by
  intro pins s σ H Q I hq
  refine wpAny_List_spliced (thn5 (h pos pins s σ H _ I hq) fun us s1 xs H1 I1 r ⟨z,q⟩ => ⟨by rw [← r.length]; exact z, ?_⟩)
  have hf:H1 s1.heap.objs.size = none := I1.hok.fresh (Nat.le_refl _)
  refine ⟨.ref s1.heap.objs.size,upd H1 s1.heap.objs.size (.lst xs),I1.laid (t' := s1.toks) (fun b u e => Heap.get?_push_of_some _ e) (Nat.le_refl _) ?_,rfl,q _ hf⟩
  exact ⟨z,us,0,r,Heap.get?_push_size _ rfl⟩
end
noncomputable abbrev Sp := List V → Hp → VK → XK → Prop
noncomputable abbrev CXT := List Env → Hp → Shared → XK → Value → Shared → Prop
structure Env0 (P:Program) (w:World) (K:PySem.W.Frag) (mg:Str → Option Value) (base:Heap) (A:Around) (outer:List Env) (s:Shared) (H:Hp):Prop where
  frames:A.frames = some outer
  mod:Mod K mg base
  bs : ∀ b o,base.get? b = some o → s.heap.get? b = some o ∧ H b = none
  bsz:base.objs.size ≤ s.heap.objs.size
  funs:s.heap.FunFrames base outer
  frf : ∀ b ∈ frs outer,H b = none
  hok:HOk P w H s.heap
  bare:AllBare s.gens
noncomputable def CE (outer:List Env) (P:Program) (w:World) (H:Hp) (s:Shared) (Q:VK) (u:Value) (s':Shared):Prop :=
  ∃ v H',s'.os = s.os ∧ AllBare s'.gens ∧ Un (frs outer) [] H H' s.heap s'.heap ∧ HOk P w H' s'.heap ∧ RelV v u ∧ Q v H'
noncomputable def CR (CX:CXT) (outer:List Env) (P:Program) (w:World) (H:Hp) (s:Shared) (Q:VK) (E:XK) (r:Result) (s':Shared):Prop :=
  match r with
  | .ok (.ret u) => CE outer P w H s Q u s'
  | .ok _ => False
  | .error e => CX outer H s E e s'
structure FnOk (P:Program) (w:World) (K:PySem.W.Frag) (mg:Str → Option Value) (base:Heap) (CX:CXT) (k:Nat) (f:Addr) (fd:FuncData) (ps:List Str) (sp:Sp):Prop where
  len : ∀ vs H Q E,sp vs H Q E → vs.length = ps.length
  run : ∀ (A:Around) (outer:List Env) (s:Shared) (H:Hp) (args:Args) (us:List Value) (vs:List V) (Q:VK) (E:XK),Room k A → Env0 P w K mg base A outer s H → BindsTo s fd args (ps.zip us) → Vals vs us → sp vs H Q E →
    codeAny (model P w) A (.call (.ref f) args) (CR CX outer P w H s Q E) s
theorem FnOk.imp {P:Program} {w:World} {K:PySem.W.Frag} {mg:Str → Option Value} {base:Heap} {CX:CXT} {k:Nat} {f:Addr} {fd:FuncData} {ps:List Str} {sp sp':Sp} (F:FnOk P w K mg base CX k f fd ps sp)
    (h : ∀ vs H Q E,sp' vs H Q E → sp vs H Q E):FnOk P w K mg base CX k f fd ps sp' :=
  ⟨fun vs H Q E q => F.len vs H Q E (h _ _ _ _ q),fun A outer s H args us vs Q E hr he hb hv hs => F.run A outer s H args us vs Q E hr he hb hv (h _ _ _ _ hs)⟩
section
variable {X:Cx} {pins:List (Addr × Obj)} {σ:St} {H:Hp} {s s':Shared}
theorem Inv.env0 (I:Inv X pins σ H s):Env0 X.prog X.w X.K X.mg X.base X.A X.stack s H :=
  ⟨I.ok.frames,I.ok.mod,I.bs,Nat.le_trans I.ok.bsz I.sz,I.stack,I.stkFree,I.hok,I.bare⟩
theorem Inv.after {Q:VK} {u:Value} (I:Inv X pins σ H s) (h:CE X.stack X.prog X.w H s Q u s'):EP X pins σ Q u s' := by
  obtain ⟨v,H',os,bare,un,hok,r,q⟩ := h
  obtain ⟨hh,g,d,t,os'⟩ := s'
  obtain rfl:os' = s.os := os
  exact ⟨v,H',I.call (h' := hh) (g' := g) (d' := d) (t' := t) (ch := []) un hok bare (fun b z => absurd z (by simp)),r,q⟩
end
noncomputable def tCall (sp:Sp) (dvs:List V) (E:XK) (t:TA):TE := fun σ H Q => t σ H fun vs H1 => sp (vs ++ dvs) H1 Q E
noncomputable def Binds (K:PySem.W.Frag) (fd:FuncData) (ps:List Str) (ds:List Value):Prop :=
  ∀ (s:Shared) (us:List Value),K.In s.heap → (us ++ ds).length = ps.length → BindsTo s fd ⟨us,[]⟩ (ps.zip (us ++ ds))
theorem Binds.all {K:PySem.W.Frag} {fd:FuncData} {ps:List Str} (h : ∀ us:List Value,us.length = ps.length → bindArgs fd ⟨us,[]⟩ = pure (ps.zip us)):Binds K fd ps [] := fun s us _ hl => by
  rw [List.append_nil] at hl ⊢
  exact .of_eq (h us hl)
noncomputable def Passes (CX:CXT) (X:Cx) (E:XK):Prop := ∀ (pins:List (Addr × Obj)) (σ:St) (H:Hp) (s:Shared) (e:Value) (s':Shared),Inv X pins σ H s → CX X.stack H s E e s' → X.xe e s'
section
variable {X:Cx} {CX:CXT} {k:Nat} {f C:Addr} {fd:FuncData} {ps:List Str} {sp:Sp} {dvs:List V} {ds:List Value} {E:XK} {x m:Str} {p pos apos:Pos} {e o:Expr} {es:List Expr} {ta:TE} {t:TA}
theorem run_fn {pins:List (Addr × Obj)} {σ:St} {H:Hp} {s:Shared} {Q:VK} {us:List Value} {vs:List V} (F:FnOk X.prog X.w X.K X.mg X.base CX k f fd ps sp) (hr:Room k X.A) (hb:Binds X.K fd ps ds) (hd:Vals dvs ds) (hx:Passes CX X E)
    (I:Inv X pins σ H s) (r:Vals vs us) (h:sp (vs ++ dvs) H Q E):wpAny (model X.prog X.w) X.A (call (.ref f) us) (EP X pins σ Q) X.xe s := by
  have r2:Vals (vs ++ dvs) (us ++ ds) := r.append hd
  have hl:(us ++ ds).length = ps.length := by rw [← r2.length]; exact F.len _ _ _ _ h
  refine wpAny_call (codeAny_mono (F.run X.A X.stack s H ⟨us,[]⟩ (us ++ ds) (vs ++ dvs) Q E hr I.env0 (hb s us I.kIn hl) r2 h) fun r s' hq => ?_)
  cases r with
  | error e => exact hx pins σ H s e s' I hq
  | ok fl =>
    cases fl with
    | ret u => exact I.after hq
    | next => exact False.elim hq
    | brk => exact False.elim hq
    | cont => exact False.elim hq
theorem pe_call (F:FnOk X.prog X.w X.K X.mg X.base CX k f fd ps sp) (hr:Room k X.A) (hg:Gl X x) (hm:X.mg x = some (.ref f)) (hk:PySem.W.keepIn X.K (.ref f) = true) (hb:Binds X.K fd ps ds) (hd:Vals dvs ds) (hx:Passes CX X E)
    (ha:PA X (e :: es) t) (hdb:(x == ("__debug__":Str)) = false := by decide) (he:starEach (e :: es) X.env = (false,eval e X.env) :: starEach es X.env := by rfl) (hpl:(backTo pos (starEach es X.env)).any (·.1) = false := by rfl) :
    PE X (.Call (.Name x p) (e :: es) [] pos) (tCall sp dvs E t) := by
  intro pins s σ H Q I h
  refine wpAny_Call_Name_kw (ld_glob I hg hm ?_ hdb)
  refine PySem.W.callWith_K (h₀ := X.base) I.ok.mod.kin hk (thn5 (ha pos pins s σ H _ I h) fun us s1 vs H1 I1 r q => ⟨I1.kIn, ?_⟩) he hpl
  exact run_fn F hr hb hd hx I1 r q
end
section
variable {X:Cx} {CX:CXT} {k:Nat} {f C:Addr} {fd:FuncData} {ps ks:List Str} {sp:Sp} {E:XK} {x m:Str} {p pos apos kpos:Pos} {e o:Expr} {es:List Expr} {kws:List Keyword} {te ta:TE} {t tk:TA} {nm:Option Str}
variable {g:List Value → List Value → List Value} {gV:List V → List V → List V}
end
structure FnScope (N P:List Str) (sc:Scope):Prop where
  kind:sc.kind = .function
  co:sc.isCoroutine = false
  gen:sc.isGenerator = false
  nd:N.Nodup
  pre:N.take P.length = P
  par : ∀ x ∈ P,sc.names.lookup x = some .local ∨ sc.names.lookup x = some .cell
  nofree : ∀ y ∈ sc.names,y.2 ≠ .free
theorem bindL_out {kindOf:Str → Option NameKind} {x:Str} : ∀ {binds:List (Str × Value)} {m:Str → Option Value},(∀ v,(x,v) ∉ binds) → bindL kindOf binds m x = m x
  | [],_,_ => rfl
  | (n,v) :: r,m,h => by
    unfold bindL
    rw [bindL_out fun w hw => h w (List.mem_cons_of_mem _ hw)]
    split
    · have:x ≠ n := by rintro rfl; exact h v List.mem_cons_self
      simp [this]
    · rfl
theorem bindC_out {kindOf:Str → Option NameKind} {x:Str} : ∀ {binds:List (Str × Value)} {m:Str → Option Value},(∀ v,(x,v) ∉ binds) → bindC kindOf binds m x = m x
  | [],_,_ => rfl
  | (n,v) :: r,m,h => by
    unfold bindC
    rw [bindC_out fun w hw => h w (List.mem_cons_of_mem _ hw)]
    split
    · rfl
    · have:x ≠ n := by rintro rfl; exact h v List.mem_cons_self
      simp [this]
theorem bindL_get {kindOf:Str → Option NameKind} {x:Str} {v:Value} : ∀ {P:List Str} {vs:List Value} {i:Nat} {m:Str → Option Value},P.Nodup → P[i]? = some x → vs[i]? = some v → kindOf x = some .local →
    bindL kindOf (P.zip vs) m x = some v
  | [],_,_,_,_,h,_,_ => by simp at h
  | _ :: _,[],_,_,_,_,h,_ => by simp at h
  | p :: P,w :: vs,0,m,nd,h1,h2,hk => by
    simp at h1 h2; subst h1; subst h2
    show bindL kindOf ((p,w) :: P.zip vs) m p = _
    unfold bindL
    rw [bindL_out fun v hv => (List.nodup_cons.mp nd).1 (List.of_mem_zip hv).1,if_pos hk]
    simp
  | p :: P,w :: vs,i + 1,m,nd,h1,h2,hk => by
    show bindL kindOf ((p,w) :: P.zip vs) m x = _
    unfold bindL
    exact bindL_get (i := i) (List.nodup_cons.mp nd).2 (by simpa using h1) (by simpa using h2) hk
theorem bindC_get {kindOf:Str → Option NameKind} {x:Str} {v:Value} : ∀ {P:List Str} {vs:List Value} {i:Nat} {m:Str → Option Value},P.Nodup → P[i]? = some x → vs[i]? = some v → kindOf x ≠ some .local →
    bindC kindOf (P.zip vs) m x = some v
  | [],_,_,_,_,h,_,_ => by simp at h
  | _ :: _,[],_,_,_,_,h,_ => by simp at h
  | p :: P,w :: vs,0,m,nd,h1,h2,hk => by
    simp at h1 h2; subst h1; subst h2
    show bindC kindOf ((p,w) :: P.zip vs) m p = _
    unfold bindC
    rw [bindC_out fun v hv => (List.nodup_cons.mp nd).1 (List.of_mem_zip hv).1,if_neg hk]
    simp
  | p :: P,w :: vs,i + 1,m,nd,h1,h2,hk => by
    show bindC kindOf ((p,w) :: P.zip vs) m x = _
    unfold bindC
    exact bindC_get (i := i) (List.nodup_cons.mp nd).2 (by simpa using h1) (by simpa using h2) hk
noncomputable def start (N:List Str) (vs:List V):St := vs.map some ++ List.replicate (N.length - vs.length) none
noncomputable def cxOf (CX:CXT) (P:Program) (w:World) (K:PySem.W.Frag) (mg:Str → Option Value) (base:Heap) (N:List Str) (qual:Str) (scope:Scope) (f:Addr) (cd:Value) (A:Around) (outer:List Env) (s:Shared) (H:Hp) (E:XK):Cx where
  prog := P
  w := w
  K := K
  mg := mg
  base := base
  A := A.deeper (envOfC qual scope s.heap.objs.size f cd)
  N := N
  s₀ := s
  H₀ := H
  env := envOfC qual scope s.heap.objs.size f cd
  outer := outer
  stack := envOfC qual scope s.heap.objs.size f cd :: outer
  ex := []
  calm := true
  fn := fun _ => true
  pn := []
  xe := fun e s' => wpAny (model P w) (A.deeper (envOfC qual scope s.heap.objs.size f cd)) (leaving (envOfC qual scope s.heap.objs.size f cd) e) (fun _ s'' => CX outer H s E e s'') (fun e' s'' => CX outer H s E e' s'') s'
theorem cell_has {sc:Scope} {n:Nat} {x:Str} (h:sc.names.lookup x = some .cell) : ∃ c,(cellsFrom n sc.names []).lookup x = some c := by
  have q := PySem.W.cellsFrom_some sc.names n [] (.inl h)
  exact Option.isSome_iff_exists.mp q
theorem inv_start {CX:CXT} {P:Program} {w:World} {K:PySem.W.Frag} {mg:Str → Option Value} {base:Heap} {N ps:List Str} {qual:Str} {scope:Scope} {f:Addr} {cd:Value} {A:Around} {outer:List Env} {s s1:Shared} {H:Hp} {E:XK} {us:List Value} {vs:List V}
    (S:FnScope N ps scope) (hd:A.handled = none) (e0:Env0 P w K mg base A outer s H) (hl:vs.length = ps.length) (r:Vals vs us)
    (x:InCallC s s.heap.objs.size (bindL (envOfC qual scope s.heap.objs.size f cd).kindOf (ps.zip us) fun _ => none) (cellsFrom (s.heap.objs.size + 1) scope.names []) (bindC (envOfC qual scope s.heap.objs.size f cd).kindOf (ps.zip us) fun _ => none) s1) :
    Inv (cxOf CX P w K mg base N qual scope f cd A outer s H E) [] (start N vs) H s1 := by
  have hpl:ps.length ≤ N.length := by have := congrArg List.length S.pre; rw [List.length_take] at this; omega
  obtain ⟨h1,tk,rfl,hk⟩ := x.done
  have noA : ∀ b:Addr,b ∉ (cxOf CX P w K mg base N qual scope f cd A outer s H E).ex := fun b z => absurd (show b ∈ ([]:List Addr) from z) (by simp)
  refine ⟨⟨e0.mod,S.kind,rfl,rfl,Nat.le_refl _,fun y z c h1 h2 => ?_,fun y hy => ?_,fun y c _ h => ?_,fun _ => hd,Around.frames_deeper e0.frames,.inr ⟨rfl,rfl⟩,fun b z => absurd z (noA b),e0.bs,e0.bsz,fun b _ _ => noA b,fun b z => absurd z (noA b),e0.funs,e0.frf⟩,
    rfl,e0.bare,Un.kept hk,⟨_,x.toInCall.ns,fun i y v h1 h2 h3 => ?_⟩,fun y c h => ⟨_,x.cell y c h⟩,e0.hok.fresh (Nat.le_refl _),fun y c h => ?_,fun p hp => absurd (show p ∈ ([]:List (Addr × Obj)) from hp) (by simp),e0.hok.kept hk, ?_⟩
  · exact name_of_addr x.apart (PySem.mem_of_lookup h1) (PySem.mem_of_lookup h2)
  · have hy:scope.names.lookup y = some .cell ∨ scope.names.lookup y = some .free := hy
    rcases hy with hy | hy
    · exact cell_has hy
    · exact absurd rfl (S.nofree _ (PySem.mem_of_lookup hy))
  · exact Nat.le_of_lt (x.above y c (PySem.mem_of_lookup h))
  · have hi:i < vs.length := by
      unfold start at h2
      by_cases hi:i < vs.length
      · exact hi
      · rw [List.getElem?_append_right (by simpa using hi)] at h2
        rw [List.getElem?_replicate] at h2
        split at h2 <;> cases h2
    have ha:vs[i]? = some v := by
      unfold start at h2
      rw [List.getElem?_append_left (by simpa using hi),List.getElem?_map] at h2
      cases e:vs[i]? with
      | none => rw [e] at h2; cases h2
      | some a => rw [e] at h2; cases h2; rfl
    obtain ⟨u,hu,rv⟩ := r.get ha
    have hp:ps[i]? = some y := by
      rw [← S.pre,List.getElem?_take_of_lt (by omega)]; exact h1
    have ndP:ps.Nodup := by rw [← S.pre]; exact S.nd.sublist (List.take_sublist _ _)
    refine ⟨u,rv, ?_⟩
    rcases S.par y (List.mem_of_getElem? hp) with k | k
    · exact .inl ⟨k,bindL_get ndP hp hu k⟩
    · obtain ⟨c,e⟩ := cell_has (n := s.heap.objs.size + 1) k
      refine .inr ⟨.inl k,c,e, ?_⟩
      have q := x.cell y c e
      rw [bindC_get ndP hp hu (by show scope.names.lookup y ≠ _; rw [k]; decide)] at q
      exact q
  · exact e0.hok.fresh (Nat.le_of_lt (x.above y c (PySem.mem_of_lookup h)))
  · unfold start
    show _ = N.length
    rw [List.length_append,List.length_map,List.length_replicate]
    omega
theorem fn_of {CX:CXT} {P:Program} {w:World} {K:PySem.W.Frag} {mg:Str → Option Value} {base:Heap} {k:Nat} {f:Addr} {name qual:Str} {params:Arguments} {body:List Stmt} {scope:Scope} {dV kV doc pm cdv ct oc:Value} {an od:Option Addr}
    {osl:Array (Option Value)} {N ps:List Str} {sp:Sp} (lk:K.lookup f = some ⟨oc,od,.func (PySem.W.fnOf name qual params body scope dV kV doc pm an cdv ct),osl⟩) (hcd:PySem.W.codeIn K cdv qual = true) (S:FnScope N ps scope)
    (len : ∀ vs H Q E,sp vs H Q E → vs.length = ps.length)
    (hbody : ∀ (A:Around) (outer:List Env) (s:Shared) (H:Hp) (vs:List V) (Q:VK) (E:XK),Room k (A.deeper (envOfC qual scope s.heap.objs.size f cdv)) → sp vs H Q E →
      ∃ t,PSs (cxOf CX P w K mg base N qual scope f cdv A outer s H E) body t ∧ t { nx := fun _ H' => Q .non H',rt := Q } (start N vs) H) :
    FnOk P w K mg base CX (k + 1) f (PySem.W.fnOf name qual params body scope dV kV doc pm an cdv ct) ps sp := by
  refine ⟨len,fun A outer s H args us vs Q E hr e0 hb r hsp => ?_⟩
  have hl := len _ _ _ _ hsp
  have KX:K.In s.heap := e0.mod.kin.keeps fun b o e => (e0.bs b o e).1
  have lim:s.heap.NoLimit := e0.mod.nolimit.keeps fun b o e => (e0.bs b o e).1
  have hkind : ∀ y ∈ ps.zip us,scope.names.lookup y.1 = some .local ∨ (scope.names.lookup y.1 = some .cell ∧ ((cellsFrom (s.heap.objs.size + 1) scope.names []).lookup y.1).isSome = true) := fun ⟨n,v⟩ hy => by
    rcases S.par n (List.of_mem_zip hy).1 with q | q
    · exact .inl q
    · exact .inr ⟨q,PySem.W.cellsFrom_some _ _ _ (.inl q)⟩
  refine codeAny_call_function hr.depth (KX _ _ lk) rfl S.co S.gen rfl (PySem.W.codeRec_of KX hcd) (hb _ _ _ _ ?_)
  refine wpAny_newFunctionEnv_cells S.kind hkind fun env he s1 x => ?_
  subst he
  refine ⟨lim.keeps x.toInCall.keep,codeAny_func ?_⟩
  obtain ⟨t,ht,hq⟩ := hbody A outer s H vs Q E (hr.deeper _) hsp
  have I:Inv (cxOf CX P w K mg base N qual scope f cdv A outer s H E) [] (start N vs) H s1 := inv_start S hr.hd e0 hl r x
  refine wpAny_mono (ht [] s1 (start N vs) H _ I hq) (fun fl s' hs => ?_) fun e s' hs => hs
  have fin : ∀ {σ':St} {H':Hp} {v:V} {u:Value},Inv (cxOf CX P w K mg base N qual scope f cdv A outer s H E) [] σ' H' s' → RelV v u → Q v H' → CE outer P w H s Q u s' :=
    fun {σ' H' v u} J rv q => ⟨v,H',J.os,J.bare,J.base,J.hok,rv,q⟩
  cases fl with
  | ret u =>
    obtain ⟨v, σ',H',J,rv,q⟩ := hs
    exact fin J rv q
  | next =>
    obtain ⟨σ',H',J,q⟩ := hs
    exact fin (v := V.non) (u := Value.none) J rfl q
  | brk =>
    obtain ⟨_,_,_,q⟩ := hs
    exact False.elim q
  | cont =>
    obtain ⟨_,_,_,q⟩ := hs
    exact False.elim q
end L2
namespace L2
open PySem PySem.Spec PyProof.Rows
section
variable {X:Cx} {x:Str} {p pos:Pos} {e:Expr} {es:List Expr} {t:TA} {id T:String} {r:List V → Hp → VK → Prop}
noncomputable def tCB (r:List V → Hp → VK → Prop) (t:TA):TE := fun σ H Q => t σ H fun vs H1 => r vs H1 Q
theorem pe_callB (hc:CallR X (.builtin id) r) (hg:Gl X x) (hm:X.mg x = none) (hv:bootBuiltins x = some (.builtin id)) (ha:PA X (e :: es) t) (hn:x ≠ "__name__" := by decide) (hdb:(x == ("__debug__":Str)) = false := by decide)
    (he:starEach (e :: es) X.env = (false,eval e X.env) :: starEach es X.env := by rfl) (hpl:(backTo pos (starEach es X.env)).any (·.1) = false := by rfl):PE X (.Call (.Name x p) (e :: es) [] pos) (tCB r t) := by
  intro pins s σ H Q I h
  refine wpAny_Call_Name_kw (ld_blt I hg hm hv ?_ hn hdb)
  exact PyProof.Rows.callWith_builtin1 (thn5 (ha pos pins s σ H _ I h) fun us s1 vs H1 I1 r1 q1 => hc pins s1 σ H1 vs us Q I1 r1 q1) he hpl
theorem pe_callTy (hc:CallR X (.type T) r) (hg:Gl X x) (hm:X.mg x = none) (hv:bootBuiltins x = some (.type T)) (ha:PA X (e :: es) t) (hn:x ≠ "__name__" := by decide) (hdb:(x == ("__debug__":Str)) = false := by decide)
    (he:starEach (e :: es) X.env = (false,eval e X.env) :: starEach es X.env := by rfl) (hpl:(backTo pos (starEach es X.env)).any (·.1) = false := by rfl):PE X (.Call (.Name x p) (e :: es) [] pos) (tCB r t) := by
  intro pins s σ H Q I h
  refine wpAny_Call_Name_kw (ld_blt I hg hm hv ?_ hn hdb)
  exact PyProof.Rows.callWith_type1 (thn5 (ha pos pins s σ H _ I h) fun us s1 vs H1 I1 r1 q1 => hc pins s1 σ H1 vs us Q I1 r1 q1) he hpl
end
end L2
namespace HT
open PySem PyProof.Rows
section
open PySem.SeqAt
open PySem.AutoSeq1 (wpAny_loadPart')
open PySem.MeetsSeq PySem.MeetsSeq2 PySem.MeetsSeq3
end
section
variable {prog:Program} {w:World} {A:Around} {E:Value → Shared → Prop} {s:Shared}
theorem cat_tup {t b:Addr} {vs ws:List Value} {Q:Value → Shared → Prop} (ht:IsTup s.heap t vs.toArray) (hb:IsTup s.heap b ws.toArray) (hv:vs ≠ [])
    (h1:ws = [] → Q (.ref t) s) (h2:ws ≠ [] → Q (.ref s.heap.objs.size) { s with heap := s.heap.push { cls := .type "tuple",data := .seq (vs ++ ws).toArray } })
    (hsz:vs.length + ws.length ≤ sizeLine):wpAny (model prog w) A (binaryOp .Add (.ref t) (.ref b)) Q E s := by
  obtain ⟨⟨cls,dd,data,sl⟩,ho,hc,n,hd⟩ := id ht
  obtain ⟨⟨cls2,dd2,data2,sl2⟩,ho2,hc2,n2,hd2⟩ := id hb
  simp only at hc hd hc2 hd2
  subst hc hd hc2 hd2
  have e:vs.toArray ++ ws.toArray = (vs ++ ws).toArray := by simp
  by_cases hw:ws = []
  · exact concat_meets ⟨_,ho,rfl⟩ ⟨_,ho2,rfl⟩ noFill_tuple_add seq_tuple_add PySem.F.slot_tuple_add PySem.F.entry_tuple_add (PySem.F.args_tuple_add_2 _ _)
      (tuple_addW1 t b vs.toArray ws.toArray n n2 dd dd2 sl sl2 (by simpa using hv) (by simp [hw])) ⟨ho,ho2,h1 hw⟩
  · refine concat_meets ⟨_,ho,rfl⟩ ⟨_,ho2,rfl⟩ noFill_tuple_add seq_tuple_add PySem.F.slot_tuple_add PySem.F.entry_tuple_add (PySem.F.args_tuple_add_2 _ _)
      (tuple_addW2 t b vs.toArray ws.toArray n n2 dd dd2 sl sl2 (by simpa using hv) (by simpa using hw) (by rw [List.size_toArray,List.size_toArray]; exact hsz)) ⟨ho,ho2, ?_⟩
    rw [e]
    exact h2 hw
noncomputable def sIx (n d:Nat):Option Int → Nat
  | none => d
  | some v => if v < 0 then (v + (n:Int)).toNat else min v.toNat n
theorem sIx_le (n d:Nat) (hd:d ≤ n) (o:Option Int):sIx n d o ≤ n := by
  cases o with
  | none => exact hd
  | some v =>
    show (if v < 0 then (v + (n:Int)).toNat else min v.toNat n) ≤ n
    by_cases hv:v < 0
    · rw [if_pos hv]; omega
    · rw [if_neg hv]; exact Nat.min_le_right _ _
theorem clip_eq (v:Int) (n d:Nat):(if v < 0 then max (v + (n:Int)) 0 else min v (n:Int)) = ((sIx n d (some v):Nat):Int) := by
  show (if v < 0 then max (v + (n:Int)) 0 else min v (n:Int)) = (((if v < 0 then (v + (n:Int)).toNat else min v.toNat n):Nat):Int)
  by_cases hv:v < 0
  · simp only [if_pos hv]; omega
  · simp only [if_neg hv]; omega
theorem adjust_gen (lo hi:Option Int) (n:Nat):Builtin.Slice.sliceAdjust lo hi 1 (n:Int) = (((sIx n 0 lo:Nat):Int),((sIx n n hi:Nat):Int)) := by
  have h1 : ¬ ((1:Int) < 0) := by omega
  unfold Builtin.Slice.sliceAdjust
  simp only [h1,if_false]
  refine Prod.ext ?_ ?_
  · cases lo with
    | none => rfl
    | some v => exact clip_eq v n 0
  · cases hi with
    | none => rfl
    | some v => exact clip_eq v n n
theorem places_gen (i j:Nat):Builtin.Slice.slicePlaces (i:Int) (j:Int) 1 = j - i := by
  unfold Builtin.Slice.slicePlaces
  have h1:(1:Int) > 0 := by omega
  simp only [h1,if_true,Int.ediv_one]
  split <;> omega
theorem slicePart_ {v:Value} {o:Option Int} {Q:Option Int → Shared → Prop} (p:IsPart v o) (h:Q o s):wpAny (model prog w) A (Builtin.Slice.slicePartIndex v) Q E s := by
  cases p with
  | none => exact slicePart_none h
  | int i t => exact slicePart_int h
theorem sliceApplied_gen {sl:Addr} {vl vu:Value} {lo hi:Option Int} {n:Nat} {Q:Int × Int × Nat → Shared → Prop} (hs:s.heap.IsSliceOf sl vl vu .none) (pl:IsPart vl lo) (pu:IsPart vu hi)
    (h:Q (((sIx n 0 lo:Nat):Int),1,sIx n n hi - sIx n 0 lo) s):wpAny (model prog w) A (Builtin.Slice.sliceApplied (.ref sl) (pure (n:Int))) Q E s := by
  obtain ⟨os,hos,hcs,hds⟩ := id hs
  unfold Builtin.Slice.sliceApplied Builtin.Slice.sliceFields
  refine wpAny_bind (wpAny_bind (wpAny_field hos hds (x := vl) rfl (wpAny_bind (wpAny_field hos hds (x := vu) rfl (wpAny_bind (wpAny_field hos hds (x := .none) rfl (wpAny_pure ?_)))))))
  refine wpAny_bind (slicePart_none ?_)
  show wpAny _ _ (if ((1:Int) == 0) = true then _ else _) _ _ s
  rw [if_neg (by decide)]
  refine wpAny_bind (slicePart_ pl (wpAny_bind (slicePart_ pu (wpAny_bind (wpAny_pure ?_)))))
  show wpAny _ _ (match Builtin.Slice.sliceAdjust lo hi 1 (n:Int) with | (lo,hi) => pure (lo,(1:Int),Builtin.Slice.slicePlaces lo hi 1)) _ _ s
  rw [adjust_gen lo hi n]
  show wpAny _ _ (pure (((sIx n 0 lo:Nat):Int),(1:Int),Builtin.Slice.slicePlaces ((sIx n 0 lo:Nat):Int) ((sIx n n hi:Nat):Int) 1)) _ _ s
  rw [places_gen]
  exact wpAny_pure h
theorem pick_gen (xs:Array Value) (i k:Nat):((List.range k).filterMap fun (m:Nat) => xs[((i:Int) + (m:Int) * 1).toNat]?).toArray = ((xs.toList.drop i).take k).toArray := by
  have e:(fun (m:Nat) => xs[((i:Int) + (m:Int) * 1).toNat]?) = fun m => xs[i + m]? := by
    funext m
    have:((i:Int) + (m:Int) * 1).toNat = i + m := by omega
    rw [this]
  rw [e]
  have := pick_run xs i k
  rw [List.filterMap_map] at this
  have e2:((fun x => xs[x]?) ∘ fun x => i + x) = fun m => xs[i + m]? := rfl
  rw [e2] at this
  rw [this]
theorem getItem_tuple_cut {t sl:Addr} {items:Array Value} {vl vu:Value} {lo hi:Option Int} {Q:Value → Shared → Prop} (ht:IsTup s.heap t items) (hs:s.heap.IsSliceOf sl vl vu .none) (pl:IsPart vl lo) (pu:IsPart vu hi)
    (hw : ¬ (sIx items.size 0 lo = 0 ∧ sIx items.size items.size hi = items.size))
    (h:Q (.ref s.heap.objs.size) { s with heap := s.heap.push { cls := .type "tuple",data := .seq ((items.toList.drop (sIx items.size 0 lo)).take (sIx items.size items.size hi - sIx items.size 0 lo)).toArray } })
    (hsz:items.size ≤ sizeLine):wpAny (model prog w) A (getItem (.ref t) (.ref sl)) Q E s := by
  have htake:sizeOk (.seq ((items.toList.drop (sIx items.size 0 lo)).take (sIx items.size items.size hi - sIx items.size 0 lo)).toArray) := by
    show ((items.toList.drop (sIx items.size 0 lo)).take (sIx items.size items.size hi - sIx items.size 0 lo)).toArray.size ≤ sizeLine
    rw [List.size_toArray,List.length_take,List.length_drop,Array.length_toList]
    omega
  have hj:sIx items.size items.size hi ≤ items.size := sIx_le _ _ (Nat.le_refl _) hi
  obtain ⟨os,hos,hcs,hds⟩ := id hs
  have hTs:s.TypeIs (.ref sl) "slice" := ⟨os,hos,hcs⟩
  unfold getItem
  try with_reducible refine wpAny_holding ?_
  first | refine wpAny_bind (wpAny_pure ?_) | skip
  refine wpAny_bind (wpAny_sequenceKey ht.typeIs (by decide) ?_)
  refine wpAny_bind (wpAny_callSpecial?_slot (name := Str.ofString "__getitem__") ht.typeIs PyProof.Rows.slot_tuple_getitem
    (wpAny_call_entry PyProof.Rows.slot_tuple_getitem ht.typeIs entry_tuple_getitem ?_ (args_tuple_getitem _ _)))
  show wpAny _ _ (Builtin.Tuple.tupleItemsOf (.ref t) >>= _) _ _ s
  refine wpAny_bind (tupleItemsOf_ ht ?_)
  refine wpAny_bind (wpAny_typeOf hTs ?_)
  rw [if_pos (by decide)]
  refine wpAny_bind (sliceApplied_gen hs pl pu ?_)
  have hno : ¬ ((((sIx items.size 0 lo:Nat):Int) == 0 && (1:Int) == 1 && (sIx items.size items.size hi - sIx items.size 0 lo) == items.size) = true) := by
    intro q
    rw [Bool.and_eq_true,Bool.and_eq_true] at q
    have q1:((sIx items.size 0 lo:Nat):Int) = 0 := eq_of_beq q.1.1
    have q2:sIx items.size items.size hi - sIx items.size 0 lo = items.size := eq_of_beq q.2
    exact hw ⟨by omega,by omega⟩
  show wpAny _ _ (if (((sIx items.size 0 lo:Nat):Int) == 0 && (1:Int) == 1 && (sIx items.size items.size hi - sIx items.size 0 lo) == items.size) = true then _ else _) _ _ s
  rw [if_neg hno,pick_gen]
  first
    | exact wpAny_bind (m := Builtin.Tuple.tupleExact _) (wpAny_newObj_type (wpAny_pure ⟨_,rfl,wpAny_pure h⟩) htake)
    | exact wpAny_bind (m := Builtin.Tuple.tupleExact _) (wpAny_newObj_type (wpAny_bind (wpAny_pure (wpAny_pure ⟨_,rfl,wpAny_pure h⟩))) htake)
    | exact wpAny_bind (wpAny_bind (m := Builtin.Tuple.tupleExact _) (wpAny_newObj_type (wpAny_pure (wpAny_pure ⟨_,rfl,wpAny_pure h⟩)) htake))
    | exact wpAny_bind (wpAny_bind (m := Builtin.Tuple.tupleExact _) (wpAny_newObj_type (wpAny_pure ⟨_,rfl,wpAny_pure h⟩) htake))
end
end HT
namespace L2
open PySem PySem.Spec PyProof.Rows
noncomputable abbrev TO := St → Hp → (Option Int → Hp → Prop) → Prop
noncomputable def PO (X:Cx) (e:Option Expr) (t:TO):Prop :=
  ∀ (pins:List (Addr × Obj)) (s:Shared) (σ:St) (H:Hp) (Q:Option Int → Hp → Prop),Inv X pins σ H s → t σ H Q →
    wpAny (model X.prog X.w) X.A (evalPart e X.env) (fun u s' => ∃ o H',Inv X pins σ H' s' ∧ IsPart u o ∧ Q o H') X.xe s
noncomputable def tNoPart:TO := fun _ H Q => Q none H
noncomputable def tPart (t:TE):TO := fun σ H Q => t σ H fun x H1 => ∃ i,x = .int i ∧ Q (some i) H1
section
variable {X:Cx} {e:Expr} {te:TE} {lo hi:Option Expr} {tl th:TO} {pos p2:Pos}
theorem po_none:PO X none tNoPart := by
  intro pins s σ H Q I h
  rw [evalPart_none]
  exact wpAny_pure ⟨none,H,I,.none,h⟩
theorem po_some (h:PE X e te):PO X (some e) (tPart te) := by
  intro pins s σ H Q I hw
  rw [evalPart_some]
  refine thn5 (h pins s σ H _ I hw) fun u s1 x H1 I1 r1 q1 => ?_
  obtain ⟨i,rfl,q⟩ := q1
  obtain ⟨t,rfl⟩ := r1
  exact ⟨some i,H1,I1,.int i t,q⟩
noncomputable def SlR (X:Cx) (r:V → Option Int → Option Int → Hp → VK → Prop):Prop :=
  ∀ (pins:List (Addr × Obj)) (s:Shared) (σ:St) (H:Hp) (x:V) (v vl vu:Value) (lo hi:Option Int) (sl:Addr) (Q:VK),Inv X pins σ H s → RelV x v → s.heap.IsSliceOf sl vl vu .none → IsPart vl lo → IsPart vu hi → r x lo hi H Q →
    ∃ T id,typeLookup (.type T) "__getitem__" = pure (some (.builtin id)) ∧ s.TypeIs v T ∧ wpAny (model X.prog X.w) X.A (getItem v (.ref sl)) (EP X pins σ Q) X.xe s
theorem SlR.or {r r':V → Option Int → Option Int → Hp → VK → Prop} (h:SlR X r) (h':SlR X r'):SlR X (fun x lo hi H Q => r x lo hi H Q ∨ r' x lo hi H Q) := by
  intro pins s σ H x v vl vu lo hi sl Q I rx hs pl pu q
  rcases q with q | q
  · exact h pins s σ H x v vl vu lo hi sl Q I rx hs pl pu q
  · exact h' pins s σ H x v vl vu lo hi sl Q I rx hs pl pu q
noncomputable def tSl (r:V → Option Int → Option Int → Hp → VK → Prop) (te:TE) (tl th:TO):TE := fun σ H Q => te σ H fun x H1 => tl σ H1 fun l H2 => th σ H2 fun u H3 => r x l u H3 Q
theorem pe_slice {r:V → Option Int → Option Int → Hp → VK → Prop} (hr:SlR X r) (he:PE X e te) (hl:PO X lo tl) (hu:PO X hi th):PE X (.Subscript e (.Slice lo hi none p2) pos) (tSl r te tl th) := by
  intro pins s σ H Q I h
  refine Subscript_ (thn5 (he pins s σ H _ I h) fun v s1 x H1 I1 r1 q1 => ?_)
  refine wpAny_Slice (thn5 (hl pins s1 σ H1 _ I1 q1) fun vl s2 l H2 I2 pl q2 => thn5 (hu pins s2 σ H2 _ I2 q2) fun vu s3 u H3 I3 pu q3 => ?_)
  rw [evalPart_none]
  refine wpAny_pure ?_
  have I4:Inv X pins σ H3 { s3 with heap := s3.heap.push { cls := .type "slice",data := .fields #[vl,vu,.none] } } := I3.kept (t' := s3.toks) fun b ob q => Heap.get?_push_of_some _ q
  obtain ⟨T,id,hT,ht,hg⟩ := hr pins { s3 with heap := s3.heap.push { cls := .type "slice",data := .fields #[vl,vu,.none] } } σ H3 x v vl vu l u s3.heap.objs.size Q I4 r1 (Heap.IsSliceOf.new ..) pl pu q3
  show wpAny (model X.prog X.w) X.A (subscriptTail e (.Slice lo hi none p2) v (.ref s3.heap.objs.size)) (EP X pins σ Q) X.xe { s3 with heap := s3.heap.push { cls := .type "slice",data := .fields #[vl,vu,.none] } }
  exact tail_any (ops := [.ref s3.heap.objs.size,v]) ht hT hg (by with_unfolding_all rfl)
noncomputable def cutV (xs:List V) (lo hi:Option Int):List V := (xs.drop (HT.sIx xs.length 0 lo)).take (HT.sIx xs.length xs.length hi - HT.sIx xs.length 0 lo)
theorem cutV_length (xs:List V) (lo hi:Option Int):(cutV xs lo hi).length ≤ xs.length := by
  unfold cutV
  rw [List.length_take,List.length_drop]
  omega
noncomputable def rSlT (K:PySem.W.Frag):V → Option Int → Option Int → Hp → VK → Prop := fun x lo hi H Q => ∃ a xs,x = .ref a ∧ SqT K H a xs ∧
  ¬ (HT.sIx xs.length 0 lo = 0 ∧ HT.sIx xs.length xs.length hi = xs.length) ∧ ∀ p,H p = none → Q (.ref p) (upd H p (.tup (cutV xs lo hi)))
theorem sl_tup:SlR X (rSlT X.K) := by
  intro pins s σ H x v vl vu lo hi sl Q I rx hs pl pu h
  obtain ⟨a,xs,rfl,hx,hw,q⟩ := h
  cases rx
  obtain ⟨its,r,ht,hz⟩ := I.tuple hx
  have hlen:its.toArray.size = xs.length := by rw [List.size_toArray]; exact r.length.symm
  refine ⟨"tuple",_,PyProof.Rows.slot_tuple_getitem.lookup,ht.typeIs, ?_⟩
  refine HT.getItem_tuple_cut ht hs pl pu (by rw [hlen]; exact hw) ?_ (by rw [hlen]; exact hz)
  rw [hlen]
  refine ⟨.ref s.heap.objs.size,_,I.laid (t' := s.toks) (o := .tup (cutV xs lo hi)) (fun b ob q => Heap.get?_push_of_some _ q) (Nat.le_refl _) ?_,rfl,q _ (I.hok.fresh (Nat.le_refl _))⟩
  exact ⟨Nat.le_trans (cutV_length xs lo hi) hz,_,(r.drop (HT.sIx xs.length 0 lo)).take (HT.sIx xs.length xs.length hi - HT.sIx xs.length 0 lo),IsTup.new _ _⟩
noncomputable def rCatT (K:PySem.W.Frag):R2 := fun x y H Q => ∃ a b xs ys,x = .ref a ∧ y = .ref b ∧ SqT K H a xs ∧ SqT K H b ys ∧ xs ≠ [] ∧ xs.length + ys.length ≤ sizeLine ∧
  (ys = [] → Q (.ref a) H) ∧ (ys ≠ [] → ∀ p,H p = none → Q (.ref p) (upd H p (.tup (xs ++ ys))))
theorem Vals.nil_iff {xs:List V} {us:List Value} (r:Vals xs us):us = [] ↔ xs = [] := by
  cases r with
  | nil => simp
  | cons _ _ => simp
theorem op_catT:OpR X (binaryOp .Add) (rCatT X.K) := by
  intro pins s σ H x y v u Q I rx ry h
  obtain ⟨a,b,xs,ys,rfl,rfl,ha,hb,hx,hz,q1,q2⟩ := h
  cases rx
  cases ry
  obtain ⟨its,r1,p1,_⟩ := I.tuple ha
  obtain ⟨its2,r2,p2,_⟩ := I.tuple hb
  refine HT.cat_tup p1 p2 (fun z => hx (r1.nil_iff.mp z)) (fun z => ⟨.ref a,H,I,rfl,q1 (r2.nil_iff.mp z)⟩) (fun z => ?_) (by rw [← r1.length, ← r2.length]; exact hz)
  refine ⟨.ref s.heap.objs.size,_,I.laid (t' := s.toks) (o := .tup (xs ++ ys)) (fun b ob q => Heap.get?_push_of_some _ q) (Nat.le_refl _) ?_,rfl,q2 (fun w => z (r2.nil_iff.mpr w)) _ (I.hok.fresh (Nat.le_refl _))⟩
  exact ⟨by rw [List.length_append]; exact hz,_,r1.append r2,IsTup.new _ _⟩
end
end L2
namespace L2
open PySem PySem.Spec PyProof.Rows
noncomputable def ixN (n:Nat) (i:Int):Option Nat := if 0 ≤ i then (if i < n then some i.toNat else none) else if -(n:Int) ≤ i then some (i + n).toNat else none
noncomputable def atI {α:Type} (xs:List α) (i:Int):Option α := (ixN xs.length i).bind fun j => xs[j]?
theorem ixN_seq {n:Nat} {i:Int} {j:Nat} (h:ixN n i = some j):seqIndex? i n = some j ∧ j < n ∧ -(n:Int) ≤ i ∧ i < n := by
  unfold ixN at h
  by_cases h0 : 0 ≤ i
  · rw [if_pos h0] at h
    by_cases h1:i < n
    · rw [if_pos h1] at h
      have e:i.toNat = j := Option.some.inj h
      exact ⟨by rw [seqIndex_of h0 h1,e],by omega,by omega,h1⟩
    · rw [if_neg h1] at h; cases h
  · rw [if_neg h0] at h
    by_cases h1 : -(n:Int) ≤ i
    · rw [if_pos h1] at h
      have e:(i + n).toNat = j := Option.some.inj h
      exact ⟨by rw [seqIndex_neg (by omega) h1,e],by omega,h1,by omega⟩
    · rw [if_neg h1] at h; cases h
theorem atI_get {α:Type} {xs:List α} {i:Int} {v : α} (h:atI xs i = some v) : ∃ j,seqIndex? i xs.length = some j ∧ xs[j]? = some v ∧ j < xs.length ∧ -(xs.length:Int) ≤ i ∧ i < xs.length := by
  unfold atI at h
  cases e:ixN xs.length i with
  | none => rw [e] at h; cases h
  | some j =>
    rw [e] at h
    obtain ⟨h1,h2,h3,h4⟩ := ixN_seq e
    exact ⟨j,h1,h,h2,h3,h4⟩
noncomputable def PlainIx (b:Expr):Prop := ∀ o i,subscripted b false o i = operate [o,i] (getItem o i)
noncomputable def IxR (X:Cx) (r:R2):Prop :=
  ∀ (value slice:Expr) (pins:List (Addr × Obj)) (s:Shared) (σ:St) (H:Hp) (x y:V) (v u:Value) (Q:VK),Inv X pins σ H s → RelV x v → RelV y u → r x y H Q →
    subscripted slice false v u = operate [v,u] (getItem v u) → wpAny (model X.prog X.w) X.A (subscriptTail value slice v u) (EP X pins σ Q) X.xe s
noncomputable def MtR (X:Cx) (id:String) (r:V → List V → Hp → VK → Prop):Prop :=
  ∀ (pins:List (Addr × Obj)) (s:Shared) (σ:St) (H:Hp) (x:V) (xs:List V) (v:Value) (us:List Value) (Q:VK),Inv X pins σ H s → RelV x v → Vals xs us → r x xs H Q →
    wpAny (model X.prog X.w) X.A (call (.builtin id) (v :: us)) (EP X pins σ Q) X.xe s
section
variable {X:Cx} {a b:Expr} {ta tb:TE} {pos:Pos}
theorem IxR.or {r r':R2} (h:IxR X r) (h':IxR X r'):IxR X (fun x y H Q => r x y H Q ∨ r' x y H Q) := by
  intro value slice pins s σ H x y v u Q I rx ry q hs
  rcases q with q | q
  · exact h value slice pins s σ H x y v u Q I rx ry q hs
  · exact h' value slice pins s σ H x y v u Q I rx ry q hs
theorem pe_ix {r:R2} (hr:IxR X r) (ha:PE X a ta) (hb:PE X b tb) (hs:PlainIx b):PE X (.Subscript a b pos) (tOp r ta tb) := by
  intro pins s σ H Q I h
  exact Subscript_ (binT ha hb I h fun v u s2 x y H2 I2 rx ry q => hr a b pins s2 σ H2 x y v u Q I2 rx ry q (hs _ _))
noncomputable def rIxL (K:PySem.W.Frag):R2 := fun x y H Q => ∃ p xs i v,x = .ref p ∧ y = .int i ∧ SqL K H p xs ∧ atI xs i = some v ∧ Q v H
noncomputable def rIxT (K:PySem.W.Frag):R2 := fun x y H Q => ∃ p xs i v,x = .ref p ∧ y = .int i ∧ SqT K H p xs ∧ atI xs i = some v ∧ Q v H
noncomputable def rIxS:R2 := fun x y H Q => ∃ z i c,x = .str z ∧ y = .int i ∧ z.length ≤ sizeLine ∧ atI z.cps.toList i = some c ∧ Q (.str ⟨#[c]⟩) H
theorem ix_list:IxR X (rIxL X.K) := by
  intro value slice pins s σ H x y v u Q I rx ry h hs
  obtain ⟨p,xs,i,z,rfl,rfl,hq,he,q⟩ := h
  cases rx
  obtain ⟨t,rfl⟩ := ry
  obtain ⟨its,r,pl,hz⟩ := I.list hq
  obtain ⟨j,h1,h2,h3,h4,h5⟩ := atI_get he
  obtain ⟨w,ew,rw'⟩ := r.get h2
  have hl := r.length
  have hn := line63
  have fin:EP X pins σ Q w s := ⟨z,H,I,rw',q⟩
  by_cases h0 : 0 ≤ i
  · have hj:i.toNat = j := by
      rw [seqIndex_of h0 h5] at h1
      exact Option.some.inj h1
    exact item_listR pl.isList h0 (by omega) (by rw [hj]; simpa using ew) fin hs
  · have hj:(i + (its.toArray.size:Int)).toNat = j := by
      rw [seqIndex_neg (by omega) h4] at h1
      rw [List.size_toArray, ← hl]
      exact Option.some.inj h1
    exact subscriptTail_builtinR (x := w) pl.isList.typeIs slot_list_getitem.lookup
      (wpAny_getItem_list_neg (Q := fun r s' => r = w ∧ EP X pins σ Q r s') pl.isList (by omega) (by rw [List.size_toArray] <;> omega) (by omega) (by rw [hj]; simpa using ew) ⟨rfl,fin⟩) hs
theorem ix_tup:IxR X (rIxT X.K) := by
  intro value slice pins s σ H x y v u Q I rx ry h hs
  obtain ⟨p,xs,i,z,rfl,rfl,hq,he,q⟩ := h
  cases rx
  obtain ⟨t,rfl⟩ := ry
  obtain ⟨its,r,pl,hz⟩ := I.tuple hq
  obtain ⟨j,h1,h2,h3,h4,h5⟩ := atI_get he
  obtain ⟨w,ew,rw'⟩ := r.get h2
  have hl := r.length
  have hn := line63
  have fin:EP X pins σ Q w s := ⟨z,H,I,rw',q⟩
  exact subscriptTail_builtinR (x := w) pl.typeIs slot_tuple_getitem.lookup
    (getItem_tuple (j := j) (Q := fun r s' => r = w ∧ EP X pins σ Q r s') pl (by omega) (by omega) (by rw [List.size_toArray, ← hl]; exact h1) (by simpa using ew) ⟨rfl,fin⟩) hs
theorem ix_str:IxR X rIxS := by
  intro value slice pins s σ H x y v u Q I rx ry h hs
  obtain ⟨z,i,c,rfl,rfl,hz,he,q⟩ := h
  obtain ⟨t,rfl⟩ := rx
  obtain ⟨t',rfl⟩ := ry
  obtain ⟨j,h1,h2,h3,h4,h5⟩ := atI_get he
  have hl:z.cps.toList.length = z.length := by simp [Str.length]
  rw [hl] at h1 h4 h5
  have hn := line63
  exact tail_any (typeIs_str s z t) slot_str_getitem.lookup (getItem_str (c := c) (by
    have e1:decide (i < -(2 ^ 63:Int)) = false := decide_eq_false (by omega)
    have e2:decide (i ≥ 2 ^ 63) = false := decide_eq_false (by omega)
    rw [e1,e2,Bool.or_false]) (by rw [h1]; simpa using h2) ⟨.str ⟨#[c]⟩,H,I.tok _,⟨_,rfl⟩,q⟩) hs
noncomputable def rIx (K:PySem.W.Frag):R2 := fun x y H Q => rIxL K x y H Q ∨ rIxT K x y H Q ∨ rIxS x y H Q
theorem ix_seq:IxR X (rIx X.K) := ix_list.or (ix_tup.or ix_str)
theorem mapSeq_set (its:List Value) (n j:Nat) (u:Value):Obj.mapSeq (·.setIfInBounds j u) { cls := .type "list",data := .seq its.toArray n } = { cls := .type "list",data := .seq (its.set j u).toArray n } := by
  simp [Obj.mapSeq]
theorem Inv.lst {pins:List (Addr × Obj)} {σ:St} {H:Hp} {s:Shared} {p:Addr} {xs:List V} (I:Inv X pins σ H s) (h:H p = some (.lst xs)) :
    ∃ (its:List Value) (n:Nat),Vals xs its ∧ s.heap.get? p = some { cls := .type "list",data := .seq its.toArray n } ∧ xs.length ≤ sizeLine := by
  obtain ⟨z,its,n,r,e⟩ := I.hok p _ h
  exact ⟨its,n,r,e,z⟩
theorem Inv.lstUpd {pins:List (Addr × Obj)} {σ:St} {H:Hp} {s:Shared} {p:Addr} {xs ys:List V} {its its':List Value} {n n':Nat} {f:Obj → Obj} (I:Inv X pins σ H s) (h:H p = some (.lst xs))
    (ho:s.heap.get? p = some { cls := .type "list",data := .seq its.toArray n }) (hf:f { cls := .type "list",data := .seq its.toArray n } = { cls := .type "list",data := .seq its'.toArray n' }) (r:Vals ys its') (hz:ys.length ≤ sizeLine) (t:Nat) :
    Inv X pins σ (upd H p (.lst ys)) { s with heap := s.heap.update p f,toks := t } := by
  have e:(s.heap.update p f).get? p = some { cls := .type "list",data := .seq its'.toArray n' } := by
    rw [Heap.get?_update_self f ho (by rw [hf] <;> rfl),hf]
  refine I.write (x := p) (e := p) (by rw [h]; trivial) (.inl rfl) (fun b u hb q => (Heap.get?_update_other _ _ (Ne.symm hb)).trans q) ⟨_,e⟩ ?_
  exact ⟨hz,its',n',r,e⟩
noncomputable def rSetL:V → V → V → Hp → (Hp → Prop) → Prop := fun o i v H Q => ∃ p xs k j,o = .ref p ∧ i = .int k ∧ H p = some (.lst xs) ∧ ixN xs.length k = some j ∧ Q (upd H p (.lst (xs.set j v)))
theorem set_list:PSet X rSetL := by
  intro pins s σ H o i v ov iv u Q I ro ri rv h
  obtain ⟨p,xs,k,j,rfl,rfl,hp,hj,q⟩ := h
  cases ro
  obtain ⟨t,rfl⟩ := ri
  obtain ⟨its,n,r,ho,hz⟩ := I.lst hp
  obtain ⟨h1,h2,h3,h4⟩ := ixN_seq hj
  have hl := r.length
  have hn := line63
  have I':Inv X pins σ (upd H p (.lst (xs.set j v))) { s with heap := s.heap.update p (Obj.mapSeq (·.setIfInBounds j u)) } :=
    I.lstUpd hp ho (mapSeq_set its n j u) (r.set rv j) (by rw [List.length_set]; exact hz) s.toks
  by_cases h0 : 0 ≤ k
  · have hk:k.toNat = j := by
      rw [seqIndex_of h0 h4] at h1
      exact Option.some.inj h1
    exact PySem.W.ki_setAt ho h0 (by omega) (by rw [List.size_toArray, ← hl]; exact h4) (by rw [hk]; exact ⟨_,I',q⟩)
  · have hk:(k + (its.toArray.size:Int)).toNat = j := by
      rw [seqIndex_neg (by omega) h3] at h1
      rw [List.size_toArray, ← hl]
      exact Option.some.inj h1
    exact PySem.W.ki_setBack ho (by omega) (by rw [List.size_toArray, ← hl]; exact h3) (by omega) (by rw [hk]; exact ⟨_,I',q⟩)
theorem slice_bounds (lo hi:Option Int) (n:Nat):(sliceBounds lo hi none n).1 = ((HT.sIx n 0 lo:Nat):Int) ∧ (sliceBounds lo hi none n).2.1 = ((HT.sIx n n hi:Nat):Int) ∧ (sliceBounds lo hi none n).2.2 = 1 := by
  refine ⟨?_, ?_,rfl⟩
  · cases lo with
    | none => simp [sliceBounds,HT.sIx]
    | some i =>
      simp only [sliceBounds,HT.sIx,Option.getD_none,show (1:Int) > 0 by decide,if_true]
      by_cases h:i < 0
      · simp only [h,if_true] <;> omega
      · simp only [h,if_false] <;> omega
  · cases hi with
    | none => simp [sliceBounds,HT.sIx]
    | some i =>
      simp only [sliceBounds,HT.sIx,Option.getD_none,show (1:Int) > 0 by decide,if_true]
      by_cases h:i < 0
      · simp only [h,if_true] <;> omega
      · simp only [h,if_false] <;> omega
theorem slicePick_cut (its:List Value) (lo hi:Option Int):slicePick its.toArray lo hi none = ((its.drop (HT.sIx its.length 0 lo)).take (HT.sIx its.length its.length hi - HT.sIx its.length 0 lo)).toArray := by
  obtain ⟨h1,h2,h3⟩ := slice_bounds lo hi its.toArray.size
  unfold slicePick
  rw [h1,h2,h3]
  simp only [sliceRange_one,pick_run,List.size_toArray] <;> rfl
noncomputable def rSlL (K:PySem.W.Frag):V → Option Int → Option Int → Hp → VK → Prop := fun x lo hi H Q => ∃ a xs,x = .ref a ∧ SqL K H a xs ∧ ∀ p,H p = none → Q (.ref p) (upd H p (.lst (cutV xs lo hi)))
theorem sl_list:SlR X (rSlL X.K) := by
  intro pins s σ H x v vl vu lo hi sl Q I rx hs pl pu h
  obtain ⟨a,xs,rfl,hx,q⟩ := h
  cases rx
  obtain ⟨its,r,ht,hz⟩ := I.list hx
  have hlen := r.length
  refine ⟨"list",_,slot_list_getitem.lookup,ht.isList.typeIs, ?_⟩
  refine wpAny_getItem_list_slice ht.isList hs pl pu .none (by simp) ?_ (by rw [List.size_toArray] <;> omega)
  rw [slicePick_cut, ← hlen]
  refine ⟨.ref s.heap.objs.size,_,I.laid (t' := s.toks) (o := .lst (cutV xs lo hi)) (fun b ob q => Heap.get?_push_of_some _ q) (Nat.le_refl _) ?_,rfl,q _ (I.hok.fresh (Nat.le_refl _))⟩
  exact ⟨Nat.le_trans (cutV_length xs lo hi) hz,_,0,(r.drop (HT.sIx xs.length 0 lo)).take (HT.sIx xs.length xs.length hi - HT.sIx xs.length 0 lo),Heap.get?_push_size _ rfl⟩
noncomputable def flatV:V → Bool
  | .non => true
  | .bl _ => true
  | .int _ => true
  | .str _ => true
  | _ => false
noncomputable def eqV:V → V → Bool
  | .non,.non => true
  | .bl a,.bl b => a == b
  | .bl a,.int b => (if a then 1 else 0) == b
  | .int a,.bl b => a == (if b then 1 else 0)
  | .int a,.int b => a == b
  | .str a,.str b => a == b
  | _,_ => false
theorem eqAt_V {A:Around} {s:Shared} {y x:V} {u v:Value} (ry:RelV y u) (rx:RelV x v) (fy:flatV y = true) (fx:flatV x = true):SeqAt.EqAt A s u v (eqV y x) := by
  cases y with
  | non =>
    cases ry
    cases x with
    | non => cases rx; exact SeqAt.EqAt.same _
    | bl b => cases rx; exact SeqAt.EqAt.none_bool b
    | int b => obtain ⟨t,rfl⟩ := rx; exact SeqAt.EqAt.none_int b t
    | str b => obtain ⟨t,rfl⟩ := rx; exact SeqAt.EqAt.none_str b t
    | _ => exact absurd (show false = true from fx) Bool.false_ne_true
  | bl a =>
    cases ry
    cases x with
    | non => cases rx; exact SeqAt.EqAt.bool_none a
    | bl b => cases rx; exact SeqAt.EqAt.bool_bool a b
    | int b => obtain ⟨t,rfl⟩ := rx; exact SeqAt.EqAt.bool_int a b t
    | str b => obtain ⟨t,rfl⟩ := rx; exact SeqAt.EqAt.bool_str a b t
    | _ => exact absurd (show false = true from fx) Bool.false_ne_true
  | int a =>
    obtain ⟨t',rfl⟩ := ry
    cases x with
    | non => cases rx; exact SeqAt.EqAt.int_none a t'
    | bl b => cases rx; exact SeqAt.EqAt.int_bool a t' b
    | int b => obtain ⟨t,rfl⟩ := rx; exact SeqAt.EqAt.int_int a t' b t
    | str b => obtain ⟨t,rfl⟩ := rx; exact SeqAt.EqAt.int_str a t' b t
    | _ => exact absurd (show false = true from fx) Bool.false_ne_true
  | str a =>
    obtain ⟨t',rfl⟩ := ry
    cases x with
    | non => cases rx; exact SeqAt.EqAt.str_none a t'
    | bl b => cases rx; exact SeqAt.EqAt.str_bool a t' b
    | int b => obtain ⟨t,rfl⟩ := rx; exact SeqAt.EqAt.str_int a t' b t
    | str b => obtain ⟨t,rfl⟩ := rx; exact SeqAt.EqAt.str_str a t' b t
    | _ => exact absurd (show false = true from fx) Bool.false_ne_true
  | _ => exact absurd (show false = true from fy) Bool.false_ne_true
noncomputable def eqU (x:V) (u:Value):Bool := match u with
  | .none => eqV .non x
  | .bool b => eqV (.bl b) x
  | .int i _ => eqV (.int i) x
  | .str z _ => eqV (.str z) x
  | _ => false
theorem eqU_of {x y:V} {u:Value} (r:RelV y u) (f:flatV y = true):eqU x u = eqV y x := by
  cases y with
  | non => cases r; rfl
  | bl b => cases r; rfl
  | int i => obtain ⟨t,rfl⟩ := r; rfl
  | str z => obtain ⟨t,rfl⟩ := r; rfl
  | _ => exact absurd (show false = true from f) Bool.false_ne_true
theorem any_eqU {x:V} : ∀ {xs:List V} {us:List Value},Vals xs us → xs.all flatV = true → us.any (eqU x) = xs.any fun y => eqV y x
  | _,_,.nil,_ => rfl
  | y :: xs,u :: us,.cons r t,f => by
    rw [List.all_cons,Bool.and_eq_true] at f
    rw [List.any_cons,List.any_cons,eqU_of r f.1,any_eqU t f.2]
theorem mem_eqAt {A:Around} {s:Shared} {x:V} {v:Value} (rx:RelV x v) (fx:flatV x = true) : ∀ {xs:List V} {us:List Value},Vals xs us → xs.all flatV = true → ∀ u ∈ us,SeqAt.EqAt A s u v (eqU x u)
  | _,_,.nil,_ => fun u hu => by cases hu
  | y :: xs,u :: us,.cons r t,f => fun u' hu => by
    rw [List.all_cons,Bool.and_eq_true] at f
    rcases List.mem_cons.mp hu with rfl | hu
    · rw [eqU_of r f.1]; exact eqAt_V r rx f.1 fx
    · exact mem_eqAt rx fx t f.2 u' hu
noncomputable def inV (x:V) (xs:List V):Bool := xs.any fun y => eqV y x
noncomputable def rIn (K:PySem.W.Frag) (neg:Bool):R2 := fun x y H Q => ∃ p xs,y = .ref p ∧ (SqL K H p xs ∨ SqT K H p xs) ∧ flatV x = true ∧ xs.all flatV = true ∧ Q (.bl (if neg then !inV x xs else inV x xs)) H
theorem op_in_seq:OpR X (compareOp .In) (rIn X.K false) := by
  intro pins s σ H x y v u Q I rx ry h
  obtain ⟨p,xs,rfl,hq,fx,fs,q⟩ := h
  cases ry
  rcases hq with hq | hq
  · obtain ⟨its,r,pl,hz⟩ := I.list hq
    refine SeqAt.in_listAt (eqU x) pl.isList (fun w hw => mem_eqAt rx fx r fs w (by simpa using hw)) ⟨.bl _,H,I,rfl, ?_⟩
    rw [show its.toArray.any (eqU x) = its.any (eqU x) by simp,any_eqU r fs]
    exact q
  · obtain ⟨its,r,pl,hz⟩ := I.tuple hq
    refine SeqAt.in_tupleAt (eqU x) pl (fun w hw => mem_eqAt rx fx r fs w (by simpa using hw)) ⟨.bl _,H,I,rfl, ?_⟩
    rw [show its.toArray.any (eqU x) = its.any (eqU x) by simp,any_eqU r fs]
    exact q
theorem call_list_of:CallR X (.type "list") (fun xs H Q => ∃ p ys,xs = [.ref p] ∧ (SqL X.K H p ys ∨ SqT X.K H p ys) ∧ ∀ l,H l = none → Q (.ref l) (upd H l (.lst ys))) := by
  intro pins s σ H xs us Q I r h
  obtain ⟨p,ys,rfl,hq,q⟩ := h
  obtain ⟨u,rfl,rx⟩ := vals1 r
  cases rx
  have fin : ∀ (its:List Value),Vals ys its → ys.length ≤ sizeLine → ∀ (h':Heap) (c':Nat),(∀ b o',s.heap.get? b = some o' → h'.get? b = some o') →
      h'.get? s.heap.objs.size = some { cls := .type "list",dict := none,data := .seq its.toArray c',slots := #[] } → EP X pins σ Q (.ref s.heap.objs.size) { s with heap := h' } := fun its r' hz h' c' kp e =>
    ⟨.ref s.heap.objs.size,_,I.laid (t' := s.toks) kp (Nat.le_refl _) (show ObjOk X.prog X.w _ h' _ (.lst ys) from ⟨hz,its,c',r',e⟩),rfl,q _ (I.hok.fresh (Nat.le_refl _))⟩
  rcases hq with hq | hq
  · obtain ⟨its,r',pl,hz⟩ := I.list hq
    have hlen := r'.length
    obtain ⟨o,ho,hc,n,hd⟩ := pl.isList
    exact call_list_seq p (.inl rfl) ho hc hd (fun h' c' kp e => fin its r' hz h' c' kp e) (by simp only [List.size_toArray] <;> omega)
  · obtain ⟨its,r',pl,hz⟩ := I.tuple hq
    have hlen := r'.length
    obtain ⟨o,ho,hc,n,hd⟩ := pl
    exact call_list_seq p (.inr rfl) ho hc hd (fun h' c' kp e => fin its r' hz h' c' kp e) (by simp only [List.size_toArray] <;> omega)
theorem call_tuple_of:CallR X (.type "tuple") (fun xs H Q => ∃ p ys,xs = [.ref p] ∧ ((SqL X.K H p ys ∧ ∀ l,H l = none → Q (.ref l) (upd H l (.tup ys))) ∨ (SqT X.K H p ys ∧ Q (.ref p) H))) := by
  intro pins s σ H xs us Q I r h
  obtain ⟨p,ys,rfl,h⟩ := h
  obtain ⟨u,rfl,rx⟩ := vals1 r
  cases rx
  rcases h with ⟨hq,q⟩ | ⟨hq,q⟩
  · obtain ⟨its,r',pl,hz⟩ := I.list hq
    have hlen := r'.length
    refine call_tuple_list pl.isList (fun h' kp => ?_) (by simp only [List.size_toArray] <;> omega)
    have I1:Inv X pins σ H { s with heap := h' } := I.kept (t' := s.toks) kp
    have I2:Inv X pins σ (upd H h'.objs.size (.tup ys)) { s with heap := h'.push { cls := .type "tuple",data := .seq its.toArray } } :=
      I1.laid (t' := s.toks) (fun b o e => Heap.get?_push_of_some _ e) (Nat.le_refl _) (show ObjOk X.prog X.w _ _ _ (.tup ys) from ⟨hz,its,r',IsTup.new _ _⟩)
    exact ⟨.ref h'.objs.size,_,I2,rfl,q _ (I1.hok.fresh (Nat.le_refl _))⟩
  · obtain ⟨its,r',pl,hz⟩ := I.tuple hq
    exact call_tuple_same pl ⟨.ref p,H,I,rfl,q⟩
noncomputable def tyV (K:PySem.W.Frag) (T:String) (x:V) (H:Hp):Prop := match x with
  | .str _ => T = "str"
  | .int _ => T = "int"
  | .ref p => (T = "list" ∧ ∃ xs,SqL K H p xs) ∨ (T = "tuple" ∧ ∃ o,K.lookup p = some o ∧ o.cls = .type "tuple" ∧ o.dict = none) ∨
      (T = "dict" ∧ ((∃ kvs,H p = some (.dK kvs)) ∨ ∃ kvs,H p = some (.dT kvs))) ∨ (T = "set" ∧ ∃ S n,H p = some (.set S n))
  | _ => False
theorem tyV_is {pins:List (Addr × Obj)} {σ:St} {H:Hp} {s:Shared} {T:String} {x:V} {v:Value} (I:Inv X pins σ H s) (r:RelV x v) (ty:tyV X.K T x H) :
    s.TypeIs v T ∧ ∀ a,v = .ref a → ∃ ob,s.heap.get? a = some ob ∧ ob.dict = none := by
  cases x with
  | str z =>
    obtain ⟨t,rfl⟩ := r
    cases (show T = "str" from ty)
    exact ⟨typeIs_str s z t,fun _ e => nomatch e⟩
  | int i =>
    obtain ⟨t,rfl⟩ := r
    cases (show T = "int" from ty)
    exact ⟨typeIs_int s i t,fun _ e => nomatch e⟩
  | ref p =>
    cases r
    rcases ty with ⟨rfl,xs,hq⟩ | ⟨rfl,o,hk,hc,hd⟩ | ⟨rfl,hk⟩ | ⟨rfl,S,n,hk⟩
    · obtain ⟨its,_,pl,_⟩ := I.list hq
      refine ⟨pl.isList.typeIs,fun a e => ?_⟩
      cases e
      obtain ⟨o,n,e,c,hd,_⟩ := pl
      exact ⟨o,e,hd⟩
    · refine ⟨⟨o,I.kIn p o hk,hc⟩,fun a e => ?_⟩
      cases e
      exact ⟨o,I.kIn _ o hk,hd⟩
    · have z : ∃ o,s.heap.get? p = some o ∧ o.ExactDict := by
        rcases hk with ⟨kvs,hk⟩ | ⟨kvs,hk⟩
        · obtain ⟨_,_,_,_,o,_,_,e,ex,_⟩ := I.hok p _ hk
          exact ⟨o,e,ex⟩
        · obtain ⟨_,_,_,_,o,_,_,e,ex,_⟩ := I.hok p _ hk
          exact ⟨o,e,ex⟩
      obtain ⟨o,e,ex⟩ := z
      refine ⟨⟨o,e,ex.1⟩,fun a e2 => ?_⟩
      cases e2
      exact ⟨o,e,ex.2.1⟩
    · obtain ⟨o,_,_,_,e,ex,_⟩ := I.hok p _ hk
      refine ⟨⟨o,e,ex.1⟩,fun a e2 => ?_⟩
      cases e2
      exact ⟨o,e,ex.2.1⟩
  | _ => exact False.elim ty
noncomputable def tBM (K:PySem.W.Frag) (T:String) (r:V → List V → Hp → VK → Prop) (to:TE) (t:TA):TE := fun σ H Q => to σ H fun x H1 => tyV K T x H1 ∧ t σ H1 fun xs H2 => r x xs H2 Q
variable {o e:Expr} {es:List Expr} {to:TE} {t:TA} {name:Str} {apos cpos:Pos} {T id:String} {r:V → List V → Hp → VK → Prop}
theorem pe_bm (pa:PlainAttrs T) (slot:Slot T name id) (hty:typeOf (.builtin id) = pure (.type "method_descriptor")) (hm:MtR X id r) (ho:PE X o to) (ha:PA X (e :: es) t)
    (hbase:attributeBase o name X.env (eval o X.env) = eval o X.env := by rfl)
    (hfew:((backTo cpos (starEach (e :: es) X.env)).all (fun x => !x.1) && (backToKw cpos (keywordEach [] X.env)).all (fun x => x.1.isSome)
      && decide ((e :: es).length + ([]:List Keyword).length + (if ([]:List Keyword).isEmpty then 0 else 1) < 30)) = true := by rfl)
    (hline:(apos.endLine == cpos.line) = true := by rfl) (hs:starEach (e :: es) X.env = (false,eval e X.env) :: starEach es X.env := by rfl) (hplain:(backTo cpos (starEach es X.env)).any (·.1) = false := by rfl) :
    PE X (.Call (.Attribute o name apos) (e :: es) [] cpos) (tBM X.K T r to t) := by
  intro pins s σ H Q I h
  refine wpAny_Call_method_late hbase hfew hline rfl (thn5 (ho pins s σ H _ I h) fun v s1 x H1 I1 r1 zz_ => ?_)
  obtain ⟨ty,q1⟩ := zz_
  obtain ⟨h1,h2⟩ := tyV_is I1 r1 ty
  refine ⟨T,id,pa,slot,hty,h1,h2, ?_⟩
  have hA := ha cpos pins s1 σ H1 _ I1 q1
  rw [hs] at hA ⊢
  refine Calls.callWith_builtin (by show (false || (backTo cpos (starEach es X.env)).any (·.1)) = false; rw [hplain] <;> rfl) (Calls.evalArgs_plain ?_)
  exact thn5 hA fun us s2 vs H2 I2 r2 q2 => hm pins s2 σ H2 x vs v us Q I2 r1 r2 q2
/- xs.append(e),list.index on a module's tuple .. are MtR facts of 06m -/
end
end L2
namespace L2
open PySem PySem.Spec PyProof.Rows
noncomputable def MtM (X:Cx) (id:String) (r:V → List V → Hp → VK → Prop):Prop :=
  ∀ (pins:List (Addr × Obj)) (s:Shared) (σ:St) (H:Hp) (x:V) (xs:List V) (v:Value) (us:List Value) (Q:VK),Inv X pins σ H s → RelV x v → Vals xs us → r x xs H Q →
    wpAny (model X.prog X.w) X.A (call (.builtin id) (v :: us)) (EP X pins σ Q) X.xe s
theorem Vals.one : ∀ {x:V} {us:List Value},Vals [x] us → ∃ u,us = [u] ∧ RelV x u
  | _,_,.cons r .nil => ⟨_,rfl,r⟩
theorem Vals.two : ∀ {x y:V} {us:List Value},Vals [x,y] us → ∃ u v,us = [u,v] ∧ RelV x u ∧ RelV y v
  | _,_,_,.cons r (.cons q .nil) => ⟨_,_,rfl,r,q⟩
section
variable {X:Cx} {pins:List (Addr × Obj)} {σ:St} {H:Hp} {s:Shared} {l b:Addr} {xs ys zs:List V}
theorem Inv.lset {its its':List Value} {n:Nat} {f:Array Value → Array Value} {t':Nat} (I:Inv X pins σ H s) (hH:H l = some (.lst xs))
    (e:s.heap.get? l = some { cls := .type "list",data := .seq its.toArray n }) (hf:f its.toArray = its'.toArray) (hv:Vals ys its') (hz:ys.length ≤ sizeLine) :
    Inv X pins σ (upd H l (.lst ys)) { s with heap := s.heap.update l (Obj.mapSeq f),toks := t' } := by
  have q := PySem.IsL.update e f
  rw [hf] at q
  refine I.write (x := l) (e := l) (by rw [hH]; exact trivial) (.inl rfl) (fun b' u hb hu => (Heap.get?_update_other s.heap (Obj.mapSeq f) (Ne.symm hb)).trans hu) ⟨_,q⟩ ?_
  exact ⟨hz,its',_,hv,q⟩
theorem Inv.lnew {its:List Value} {t':Nat} (I:Inv X pins σ H s) (hv:Vals ys its) (hz:ys.length ≤ sizeLine) :
    Inv X pins σ (upd H s.heap.objs.size (.lst ys)) { s with heap := s.heap.push { cls := .type "list",data := .seq its.toArray },toks := t' } :=
  I.laid (fun _ _ q => Heap.get?_push_of_some _ q) (Nat.le_refl _) ⟨hz,its,0,hv,Heap.get?_push_size _ rfl⟩
theorem Inv.fresh (I:Inv X pins σ H s):H s.heap.objs.size = none := I.hok.fresh (Nat.le_refl _)
theorem Inv.lstM (I:Inv X pins σ H s) (hH:H l = some (.lst xs)):xs.length ≤ sizeLine ∧ ∃ (its:List Value) (n:Nat),Vals xs its ∧ xs.length = its.length ∧ s.heap.get? l = some { cls := .type "list",data := .seq its.toArray n } := by
  obtain ⟨z,its,n,r,e⟩ := I.hok l _ hH
  exact ⟨z,its,n,r,r.length,e⟩
theorem notLongL {n:Nat} (h:n ≤ sizeLine):Builtin.List.listTooLong n = false := by
  unfold Builtin.List.listTooLong
  exact decide_eq_false (by omega)
end
section
variable {X:Cx}
noncomputable def rAppend:V → List V → Hp → VK → Prop := fun x vs H Q => ∃ l xs y,x = .ref l ∧ vs = [y] ∧ H l = some (.lst xs) ∧ xs.length < sizeLine ∧ Q .non (upd H l (.lst (xs ++ [y])))
theorem mt_append:MtM X "list.append" rAppend := by
  intro pins s σ H x vs v us Q I rx rv h
  obtain ⟨l,xs,y,rfl,rfl,hH,hz,q⟩ := h
  cases rx
  obtain ⟨u,rfl,ru⟩ := rv.one
  obtain ⟨z,its,n,r,hl,e⟩ := I.lstM hH
  refine call_meets F.slot_list_append ⟨_,e,rfl⟩ F.entry_list_append (F.args_list_append_2 _ _) (PySem.list_append l its.toArray n u (by rw [List.size_toArray]; omega)) ⟨e, ?_⟩
  refine ⟨.non,_,I.lset (its' := its ++ [u]) hH e (by simp) (r.append (.cons ru .nil)) ?_,rfl,q⟩
  rw [List.length_append,List.length_singleton]
  omega
end
section
variable {prog:Program} {w:World} {A:Around} {E:Value → Shared → Prop} {s:Shared}
end
section
variable {X:Cx}
end
end L2
namespace Att
open PySem PySem.W PySem.Calls PyProof.Rows
theorem ints_of_wellAll {P:Params} {h:Heap} : ∀ (ns:List Int) (vs:List Value),WellAll P h vs (ns.map WData.int) → IntsAre vs ns := by
  intro ns
  induction ns with
  | nil =>
    intro vs w
    rw [List.map_nil] at w
    cases w
    exact .nil
  | cons n ns ih =>
    intro vs w
    rw [List.map_cons] at w
    cases w with
    | cons a b =>
      cases a
      exact .cons _ _ (ih _ b)
theorem script_of {l:OpenLaw} {n:Nat} (hn:l.most = some n) {P:Params} {h:Heap} {args:List WData} {vals:List Value}
    (hpre:l.row.toRowW.claim.pre args = true) (hwl:WellAll P h vals args) :
    ∃ a vs ns,vals = [Value.ref a] ∧ args = [WData.list (ns.map WData.int)] ∧ h.get? a = some { cls := .type "list",data := .seq vs.toArray } ∧ IntsAre vs ns ∧ ns.length ≤ n := by
  have hsh:WShape.hasAll [] args [.list .int] = true := (pre_splitW hpre).1
  have hc:l.pre.holds [] { args := args } = true := (pre_splitW hpre).2
  obtain ⟨d,r,rfl,h1,h2⟩ := hasAllW_cons hsh
  obtain rfl := hasAllW_nil h2
  obtain ⟨xs,rfl,h3⟩ := hasW_list h1
  obtain ⟨ns,rfl⟩ := items_int h3
  have hlen:ns.length ≤ n := by
    unfold OpenLaw.pre at hc
    have h4:(WTm.not (.lt (.lit (.int (n:Int))) (.len (.arg 0)))).holds [] { args := [.list (ns.map .int)] } = true := by
      have h4 := (holds_andW hc).1
      rw [hn] at h4
      exact h4
    have h5 := condW_of h4 (w_not (w_lt w_lit (w_len_list (w_arg rfl))))
    rw [List.length_map] at h5
    refine Nat.le_of_not_lt fun q => ?_
    have q':(n:Int) < ((ns.length:Nat):Int) := by omega
    first
      | (rw [decide_eq_true q'] at h5; exact absurd h5 (by decide))
      | (simp at h5; omega)
  cases hwl with
  | cons w1 w2 =>
    cases w2
    cases w1 with
    | list ho hall => exact ⟨_,_,ns,rfl,rfl,ho,ints_of_wellAll ns _ hall,hlen⟩
theorem post_true (l:OpenLaw) (args:List WData):l.row.toRowW.claim.post args (.bool true) args = true :=
  postW_of (r := l.row.toRowW) (X := (true == true))
    (show WShape.has [] (.bool true) .bool = true by first | rfl | decide | simp [WShape.has,WShape.arms,WShape.armsAll])
    (show (WTm.eq .res (.lit (.bool true))).value [] { args := args,res := some (.bool true),after := args } = some (.bool (true == true)) from w_eq_bool (w_res rfl) w_lit) rfl
theorem attach_call {l:OpenLaw} {n:Nat} {q:Program} {loose:List Str} {XP:(Str → Option Value) → Heap → Prop} {YP:World → Heap → Prop} {d:DefRec}
    (hn:l.most = some n) (hdf:d.params.defaults = [])
    (call : ∀ (w:World) (s₀ s₁:Shared) (mg mb:Str → Option Value) (fa:Addr) (o:Obj) (pm cd doc:Value) (a:Addr) (vs:List Value) (ns:List Int),
      Ground q loose [] XP w s₀ mg mb s₁.heap → YP w s₁.heap →
      s₁.heap.get? fa = some o → o.data = .func (docDef d.name d.params d.body d.scope pm cd doc) → s₁.heap.CodeRec cd d.name → mg d.name = some (.ref fa) →
      s₁.heap.get? a = some { cls := .type "list",data := .seq vs.toArray } → IntsAre vs ns → ns.length ≤ n → s₁.gens = #[] →
      codeAny (model l.prog w) callerA (.call (.ref fa) ⟨[.ref a],[]⟩) (fun r s' => r = .ok (.ret (.bool true)) ∧ OldK s₁.heap s'.heap ∧ s'.os = s₁.os ∧ AllBare s'.gens) s₁) :
    WalkO q loose XP YP l.row.toRowW d [] (fun f vs => PySem.call f vs) := by
  intro w s₀ s₁ mg mb G Y fa o pm cd doc dV kV ho hd hcd hD hmg hg args vals as hpre hlay hrd hwl hlo
  obtain rfl:dV = .none := Dflts.none hD hdf
  obtain rfl:kV = .none := Dflts.noKw hD
  obtain ⟨a,vs,ns,rfl,rfl,hobj,hints,hlen⟩ := script_of hn hpre hwl
  refine enter_call (codeAny_mono (call w s₀ s₁ mg mb fa o pm cd doc a vs ns G Y ho (fd_plain hd) hcd hmg hobj hints hlen hg) fun r s' hq => ?_)
  obtain ⟨rfl,h2,h3,h4⟩ := hq
  exact ⟨.inl ⟨.bool true,.bool true,[],rfl,fun _ => rfl,.bool true,post_true l _,fun _ => ⟨List.Pairwise.nil,fun _ hm => (nomatch hm)⟩⟩,h2,h3,h4⟩
section
variable {prog:Program} {w:World} {A:Around} {E:Value → Shared → Prop} {s:Shared} {K:Frag}
end
end Att
namespace L2
open PySem PySem.Spec PyProof.Rows
theorem vals_ints : ∀ {vs:List Value} {ns:List Int},IntsAre vs ns → Vals (ns.map V.int) vs
  | _,_,.nil => .nil
  | _,_,.cons n t h => .cons ⟨t,rfl⟩ (vals_ints h)
noncomputable def Only (H:Hp):Prop := ∀ b,H b = none ∨ ∃ o xs,H b = some (.frz o (.lst xs))
theorem law_call {P:Program} {w:World} {K:PySem.W.Frag} {mg mb:Str → Option Value} {CX:CXT} {k:Nat} {fa a:Addr} {fd:FuncData} {x:Str} {sp:Sp} {s₁:Shared} {vs:List Value} {ns:List Int}
    (KX:K.In s₁.heap) (hns:s₁.heap.Ns mainGlobals mg) (hb:s₁.heap.Ns builtinsNs mb) (hbb : ∀ x:Str,x ≠ "__name__" → mb x = bootBuiltins x) (hlim:s₁.heap.NoLimit) (hg:s₁.gens = #[])
    (ha:s₁.heap.get? a = some { cls := .type "list",data := .seq vs.toArray }) (hi:IntsAre vs ns) (hl:ns.length ≤ sizeLine) (hr:Room k callerA)
    (F : ∀ base:Heap,K.In base → base.Ns mainGlobals mg → FnOk P w K mg base CX k fa fd [x] sp) (hbind : ∀ (s:Shared) (u:Value),BindsTo s fd ⟨[u],[]⟩ [(x,u)])
    (hsp : ∀ H:Hp,Only H → SqL K H a (ns.map V.int) → sp [.ref a] H (fun v _ => v = .bl true) fun _ _ _ => False)
    (hCX : ∀ H e s',CX [] H s₁ (fun _ _ _ => False) e s' → False) :
    codeAny (model P w) callerA (.call (.ref fa) ⟨[.ref a],[]⟩) (fun r s' => r = .ok (.ret (.bool true)) ∧ OldK s₁.heap s'.heap ∧ s'.os = s₁.os ∧ AllBare s'.gens) s₁ := by
  have rv := vals_ints hi
  have lenV := hi.length
  -- from an abstract heap in which nothing but the script may be tracked
  have core : ∀ H:Hp,Only H → SqL K H a (ns.map V.int) → HOk P w H s₁.heap → (∀ b,H b ≠ none → b = a) → (H a ≠ none → K.lookup a = none) →
      codeAny (model P w) callerA (.call (.ref fa) ⟨[.ref a],[]⟩) (fun r s' => r = .ok (.ret (.bool true)) ∧ OldK s₁.heap s'.heap ∧ s'.os = s₁.os ∧ AllBare s'.gens) s₁ := by
    intro H hO hS hok hA hK
    have base_of : ∀ {b:Addr} {o:Obj},s₁.heap.get? b = some o → H b = none → (hidT s₁.heap H).get? b = some o := fun e n => hidT_get e n
    have noA : ∀ {b:Addr} {o:Obj} {es:Array DictEntry} {ep:Nat},s₁.heap.get? b = some o → o.data = .dict es ep → H b = none := fun {b o es ep} e d => by
      cases q:H b with
      | none => rfl
      | some u =>
        have e':b = a := hA b (by rw [q]; simp)
        subst e'
        rw [ha] at e; cases e
        have d':Data.seq vs.toArray _ = Data.dict es ep := d
        cases d'
    have nsK : ∀ {b:Addr} {m:Str → Option Value},s₁.heap.Ns b m → (hidT s₁.heap H).Ns b m := fun {b m} ⟨o,es,ep,e,d,r⟩ => ⟨o,es,ep,base_of e (noA e d),d,r⟩
    have hKb:K.In (hidT s₁.heap H) := fun b o e => base_of (KX b o e) (by
      cases q:H b with
      | none => rfl
      | some u =>
        have e':b = a := hA b (by rw [q]; simp)
        subst e'
        rw [hK (by rw [q]; simp)] at e; cases e)
    have hM:Mod K mg (hidT s₁.heap H) := ⟨hKb,nsK hns,⟨mb,nsK hb,hbb⟩,let ⟨mc,h1,h2⟩ := hlim; ⟨mc,nsK h1,h2⟩⟩
    have e0:Env0 P w K mg (hidT s₁.heap H) callerA [] s₁ H := ⟨rfl,hM,fun b o e => of_hidT e,Nat.le_of_eq (hidT_size _ _),trivial,fun b hb => absurd (show b ∈ ([]:List Addr) from hb) (by simp),hok,.of_eq hg⟩
    refine codeAny_mono ((F _ hKb (nsK hns)).run callerA [] s₁ H ⟨[.ref a],[]⟩ [.ref a] [.ref a] _ _ hr e0 (hbind s₁ (.ref a)) (.cons rfl .nil) (hsp H hO hS)) fun r s' h => ?_
    cases r with
    | error e => exact (hCX H e s' h).elim
    | ok fl =>
      cases fl with
      | next => exact False.elim h
      | brk => exact False.elim h
      | cont => exact False.elim h
      | ret u =>
        obtain ⟨v,H',os,bare,un,hok',r',q⟩ := h
        have q':v = .bl true := q
        subst q'
        obtain rfl:u = Value.bool true := r'
        refine ⟨rfl,OldK.of_keep fun b o e => ?_,os,bare⟩
        cases q:H b with
        | none => exact un.keep b o e q (by intro z; exact absurd (show b ∈ ([]:List Addr) from z) (by simp)) (by simp)
        | some u =>
          rcases hO b with z | ⟨ob,xs,z⟩
          · rw [q] at z; cases z
          · have z2 := un.frzs b ob _ z
            obtain ⟨e1,_⟩ := hok b _ z
            obtain ⟨e2,_⟩ := hok' b _ z2
            rw [e] at e1; cases e1
            exact e2
  cases hk:K.lookup a with
  | some o =>
    -- the script is one of the module's own objects
    have e := KX a o hk
    rw [ha] at e
    cases e
    refine core (fun _ => none) (fun _ => .inl rfl) (.inr ⟨_,vs.toArray,_,hk,rfl,rfl,rfl,by rw [List.size_toArray,lenV]; exact hl,by simpa using rv⟩) (fun b u z => by have z':(none:Option HO) = some u := z; cases z') (fun b z => absurd rfl z) fun z => absurd rfl z
  | none =>
    refine core (fun b => if b = a then some (.frz { cls := .type "list",data := .seq vs.toArray } (.lst (ns.map V.int))) else none) (fun b => ?_) (.inl (.inr ⟨{ cls := .type "list",data := .seq vs.toArray },if_pos rfl⟩)) (fun b u z => ?_) (fun b z => ?_) fun _ => hk
    · by_cases hb:b = a
      · exact .inr ⟨_,_,if_pos hb⟩
      · exact .inl (if_neg hb)
    · by_cases hb:b = a
      · have z' := (if_pos hb).symm.trans z
        cases z'
        subst hb
        exact ⟨ha,by rw [List.length_map]; exact hl,vs,_,rv,ha⟩
      · have z' := (if_neg hb).symm.trans z
        cases z'
    · by_cases hb:b = a
      · exact hb
      · exact absurd (if_neg hb) z
end L2
namespace L2
open PySem PySem.Spec PyProof.Rows
theorem walk_of {l:PySem.W.OpenLaw} {n k:Nat} {q:Program} {loose:List Str} {XP:(Str → Option Value) → Heap → Prop} {YP:World → Heap → Prop} {d:DefRec} {K:Params → PySem.W.Frag} {CX:World → CXT} {sp:World → Sp} {x:Str}
    (hn:l.most = some n) (hn2:n ≤ sizeLine) (hdf:d.params.defaults = []) (hr:Room k callerA)
    (hY : ∀ (w:World) (h:Heap),YP w h → (K w.params).In h)
    (F : ∀ (w:World) (mg:Str → Option Value) (fa:Addr) (h:Heap),(K w.params).In h → h.Ns mainGlobals mg → mg d.name = some (.ref fa) →
      ∃ fd:FuncData,(∀ (s:Shared) (u:Value),BindsTo s fd ⟨[u],[]⟩ [(x,u)]) ∧
        ∀ base:Heap,(K w.params).In base → base.Ns mainGlobals mg → FnOk l.prog w (K w.params) mg base (CX w) k fa fd [x] (sp w))
    (hsp : ∀ (w:World) (H:Hp) (a:Addr) (ns:List Int),ns.length ≤ n → Only H → SqL (K w.params) H a (ns.map V.int) → sp w [.ref a] H (fun v _ => v = .bl true) fun _ _ _ => False)
    (hCX : ∀ (w:World) (H:Hp) (s:Shared) (e:Value) (s':Shared),CX w [] H s (fun _ _ _ => False) e s' → False) :
    PySem.W.WalkO q loose XP YP l.row.toRowW d [] (fun f vs => PySem.call f vs) := by
  refine Att.attach_call hn hdf fun w s₀ s₁ mg mb fa o pm cd doc a vs ns G Y ho hd hcd hmg hobj hints hlen hg => ?_
  have KX := hY w _ Y
  obtain ⟨fd,hb,hF⟩ := F w mg fa _ KX G.T.g hmg
  exact law_call KX G.T.g G.T.b G.T.builtins G.T.nolimit hg hobj hints (Nat.le_trans hlen hn2) hr hF hb (fun H hO hS => hsp w H a ns hlen hO hS) fun H e s' => hCX w H s₁ e s'
end L2
/- THE LAST THEOREM (shape; LID,My.* are yours):
   My.Adr: a structure of the addresses that your layer names (classes,functions); My.Txt K t: a structure (Prop) of the equations over K;
   My.txt_mk : {K} {implicit addresses ..} (e1:nsIn K mainGlobals "law" = some (some (.ref f))) (e2:K.lookup f = some ⟨oc,od,.func (fnOf "law" "law" params body scope dV kV doc pm an cdv ct),sl⟩) (e3:codeIn K cdv "law" = true) .. : ∃ t,My.Txt K t
set_option maxRecDepth 100000 in
set_option maxHeartbeats 0 in
theorem PySem.Challenge.cw_LID_holds:PySem.Challenge.rw_LID.Holds := by
  w_on; o_law; k_head; (case hw => w_witness2)
  k_fill
  refine L2.walk_of (l := PySem.Challenge.rw_LID) (n := 63) (k := 40) (x := "script") (CX := fun w => ..) (sp := fun _ => My.sp_law) rfl (by decide) rfl ⟨rfl,by decide,by decide⟩ (fun w h Y => PySem.W.kIn_of Y) ?F ?S ?C
  case F =>
    intro w mg fa h KX G hmg
    have T : ∃ t,My.Txt (L2.KOf KX) t := by
      dsimp only [L2.KOf]                          -- K must stand as «<heap const> w.params» for k_is
      refine' My.txt_mk ?e1 ?e2 ?e3 ..
      (case e1 => PySem.W.k_is)                    -- in the order: a name -> its address -> its object -> its parts
      (case e2 => PySem.W.k_is)
      ..
    obtain ⟨t,T⟩ := T
    have e0 := hmg.symm.trans (PySem.W.mg_of KX G T.law)
    cases e0                                       -- fa is the law's own address
    exact ⟨_,fun s u => .of_eq rfl,fun base kb nb => My.law_fn T kb nb⟩     -- if «.of_eq rfl» comes too early: refine' ⟨_, ?b,fun base kb nb => My.law_fn T kb nb⟩; exact fun s u => .of_eq rfl
  case S => exact fun w H a ns hl hO hS => ..
  case C => exact ..
(the tactic k_is has no namespace: write k_is) -/
namespace L2
open PySem PySem.Spec PyProof.Rows
noncomputable def defArgs (s:Stmt):Arguments := match s with
  | .FunctionDef _ a _ _ _ _ _ _ _ _ => a
  | _ => { posonlyargs := [],args := [],vararg := none,kwonlyargs := [],kw_defaults := [],kwarg := none,defaults := [] }
noncomputable def defBody (s:Stmt):List Stmt := match s with
  | .FunctionDef _ _ b _ _ _ _ _ _ _ => b
  | _ => []
noncomputable def defScope (s:Stmt):Scope := match s with
  | .FunctionDef _ _ _ _ _ _ sc _ _ _ => sc
  | _ => { kind := .function,names := [],isGenerator := false,isCoroutine := false }
noncomputable abbrev CX0:CXT := fun _ _ _ _ _ _ => False
noncomputable abbrev E0:XK := fun _ _ _ => False
theorem pass0 {X:Cx}:Passes CX0 X E0 := fun _ _ _ _ _ _ _ h => h.elim
structure Fun (K:PySem.W.Frag) (x qual:Str) (st:Stmt) (f:Addr) (fd:FuncData):Prop where
  ex : ∃ (oc:Value) (od:Option Addr) (kV doc pm:Value) (an:Option Addr) (cdv ct:Value) (osl:Array (Option Value)),
    fd = PySem.W.fnOf x qual (defArgs st) (defBody st) (defScope st) .none kV doc pm an cdv ct ∧ K.lookup f = some ⟨oc,od,.func fd,osl⟩ ∧ PySem.W.codeIn K cdv qual = true
  kp:PySem.W.keepIn K (.ref f) = true
section
variable {P:Program} {w:World} {K:PySem.W.Frag} {mg:Str → Option Value} {base:Heap}
theorem Fun.ok {x qual:Str} {st:Stmt} {f:Addr} {fd:FuncData} {N ps:List Str} {k:Nat} {sp:Sp} (F:Fun K x qual st f fd) (S:FnScope N ps (defScope st)) (len : ∀ vs H Q E,sp vs H Q E → vs.length = ps.length)
    (hbody : ∀ (cdv:Value) (A:Around) (outer:List Env) (s:Shared) (H:Hp) (vs:List V) (Q:VK) (E:XK),Room k (A.deeper (envOfC qual (defScope st) s.heap.objs.size f cdv)) → sp vs H Q E →
      ∃ t,PSs (cxOf CX0 P w K mg base N qual (defScope st) f cdv A outer s H E).nox (defBody st) t ∧ t { nx := fun _ H' => Q .non H',rt := Q } (start N vs) H):FnOk P w K mg base CX0 (k + 1) f fd ps sp := by
  obtain ⟨oc,od,kV,doc,pm,an,cdv,ct,osl,rfl,lk,hcd⟩ := F.ex
  refine fn_of lk hcd S len fun A outer s H vs Q E hr hsp => ?_
  obtain ⟨t,h,q⟩ := hbody cdv A outer s H vs Q E hr hsp
  exact ⟨t,h.nox,q⟩
theorem Fun.binds {x qual:Str} {st:Stmt} {f:Addr} {fd:FuncData} {ps:List Str} (F:Fun K x qual st f fd)
    (h : ∀ (kV doc pm:Value) (an:Option Addr) (cdv ct:Value) (us:List Value),us.length = ps.length → bindArgs (PySem.W.fnOf x qual (defArgs st) (defBody st) (defScope st) .none kV doc pm an cdv ct) ⟨us,[]⟩ = pure (ps.zip us)):Binds K fd ps [] := by
  obtain ⟨oc,od,kV,doc,pm,an,cdv,ct,osl,rfl,lk,hcd⟩ := F.ex
  exact .all (h kV doc pm an cdv ct)
theorem fun_mk {x qual:Str} {st:Stmt} {f:Addr} {oc:Value} {od an:Option Addr} {osl:Array (Option Value)} {kV doc pm cdv ct:Value} (l:K.lookup f = some ⟨oc,od,.func (PySem.W.fnOf x qual (defArgs st) (defBody st) (defScope st) .none kV doc pm an cdv ct),osl⟩)
    (c:PySem.W.codeIn K cdv qual = true) (k:PySem.W.keepIn K (.ref f) = true):Fun K x qual st f (PySem.W.fnOf x qual (defArgs st) (defBody st) (defScope st) .none kV doc pm an cdv ct) := ⟨⟨oc,od,kV,doc,pm,an,cdv,ct,osl,rfl,l,c⟩,k⟩
end
theorem hu_of {A:Around} {k:Nat} (hr:Room k A):A.units + 1 < cLine := Nat.lt_of_le_of_lt (Nat.add_le_add_left (by decide : 1 ≤ 64) _) hr.units
section
variable {X:Cx}
end
noncomputable def Same (H H':Hp):Prop := ∀ b o,H b = some o → H' b = some o
theorem Same.refl (H:Hp):Same H H := fun _ _ h => h
theorem Same.trans {H H1 H2:Hp} (a:Same H H1) (b:Same H1 H2):Same H H2 := fun c o h => b c o (a c o h)
theorem Same.free {H H':Hp} (e:Same H H') {l:Addr} (h:H' l = Option.none):H l = Option.none := by
  cases q:H l with
  | none => rfl
  | some o =>
    rw [e l o q] at h
    cases h
theorem Same.seq {K:PySem.W.Frag} {H H':Hp} {a:Addr} {xs:List V} (e:Same H H') (h:SqL K H a xs):SqL K H' a xs := by
  rcases h with (h | ⟨o,h⟩) | h
  · exact .inl (.inl (e _ _ h))
  · exact .inl (.inr ⟨o,e _ _ h⟩)
  · exact .inr h
end L2
end
section
set_option Elab.async false
set_option linter.all false
namespace DL
open PySem L2
inductive D where
  | non
  | bl (b:Bool)
  | int (i:Int)
  | str (x:List Nat)
  | tup (ds:List D)
  | lst (ds:List D)
  | ob (c:Nat) (ks:List Nat) (ds:List D)
  | dct (ks:List (List Nat)) (ds:List D)
  | exc (c:Nat)
  deriving Inhabited
noncomputable abbrev mkS (x:List Nat):Str := ⟨x.toArray⟩
theorem mkS_inj {x y:List Nat} (h:mkS x = mkS y):x = y := by
  have := congrArg (fun s:Str => s.cps.toList) h
  simpa using this
theorem mkS_len (x:List Nat):(mkS x).length = x.length := by simp [Str.length]
structure Tx where
  K:PySem.W.Frag
  cl:Nat → Option Addr
  fld:Nat → Str
noncomputable def LsA (T:Tx) (A:Addr → Prop) (H:Hp) (a:Addr) (xs:List V):Prop :=
  (Rd H a (.lst xs) ∧ A a) ∨
    ∃ (o:Obj) (its:Array Value) (n:Nat),T.K.lookup a = some o ∧ o.cls = .type "list" ∧ o.dict = none ∧ o.data = .seq its n ∧ its.size ≤ sizeLine ∧ Vals xs its.toList
noncomputable def XO (a C:Addr):HO := .ext fun h => ∃ o:Obj,h.get? a = some o ∧ o.cls = .ref C ∧ o.dict = none ∧ ∃ vs,o.data = .fields vs
mutual
noncomputable def Rep (T:Tx) (A:Addr → Prop) (H:Hp):D → V → Prop
  | .non,v => v = .non
  | .bl b,v => v = .bl b
  | .int i,v => v = .int i
  | .str x,v => v = .str (mkS x)
  | .tup ds,v => ∃ a xs,v = .ref a ∧ SqT T.K H a xs ∧ RepL T A H ds xs
  | .lst ds,v => ∃ a xs,v = .ref a ∧ LsA T A H a xs ∧ RepL T A H ds xs
  | .ob c ks ds,v => ∃ a C dx fs,v = .ref a ∧ A a ∧ T.cl c = some C ∧ H a = some (.ins C dx fs) ∧ fs.map (·.1) = ks.map T.fld ∧ RepL T A H ds (fs.map (·.2))
  | .dct ks ds,v => ∃ a kvs,v = .ref a ∧ A a ∧ H a = some (.dK kvs) ∧ kvs.map (·.1) = ks.map (fun k => (Sum.inr (mkS k):Key)) ∧ RepL T A H ds (kvs.map (·.2))
  | .exc c,v => ∃ a C,v = .ref a ∧ T.cl c = some C ∧ H a = some (XO a C)
noncomputable def RepL (T:Tx) (A:Addr → Prop) (H:Hp):List D → List V → Prop
  | [],xs => xs = []
  | d :: ds,xs => ∃ x r,xs = x :: r ∧ Rep T A H d x ∧ RepL T A H ds r
end
noncomputable def Mu:Option HO → Prop
  | some (.lst _) => True
  | some (.ins _ _ _) => True
  | some (.dK _) => True
  | _ => False
theorem LsA.sq {T:Tx} {A:Addr → Prop} {H:Hp} {a:Addr} {xs:List V} (h:LsA T A H a xs):SqL T.K H a xs := by
  rcases h with h | h
  · exact .inl h.1
  · exact .inr h
section
variable {T:Tx} {A A' O:Addr → Prop} {H H':Hp}
structure Kp (A A' O:Addr → Prop) (H H':Hp):Prop where
  keep : ∀ b o,H b = some o → ¬ O b → H' b = some o
  mu : ∀ b,O b → Mu (H b)
  cl : ∀ b o,A b → H b = some o → ¬ O b
  to : ∀ b o,A b → H b = some o → A' b
theorem Kp.sqT (k:Kp A A' O H H') {a:Addr} {xs:List V} (h:SqT T.K H a xs):SqT T.K H' a xs := by
  rcases h with (h | ⟨o,h⟩) | h
  · exact .inl (.inl (k.keep _ _ h fun z => by have := k.mu _ z; rw [h] at this; exact this))
  · exact .inl (.inr ⟨o,k.keep _ _ h fun z => by have := k.mu _ z; rw [h] at this; exact this⟩)
  · exact .inr h
theorem Kp.ls (k:Kp A A' O H H') {a:Addr} {xs:List V} (h:LsA T A H a xs):LsA T A' H' a xs := by
  rcases h with ⟨h | ⟨o,h⟩,z⟩ | h
  · exact .inl ⟨.inl (k.keep _ _ h (k.cl _ _ z h)),k.to _ _ z h⟩
  · exact .inl ⟨.inr ⟨o,k.keep _ _ h (k.cl _ _ z h)⟩,k.to _ _ z h⟩
  · exact .inr h
mutual
theorem Rep.kp (k:Kp A A' O H H') : ∀ {d:D} {v:V},Rep T A H d v → Rep T A' H' d v
  | .non,_,h => by simp only [Rep] at h ⊢; exact h
  | .bl _,_,h => by simp only [Rep] at h ⊢; exact h
  | .int _,_,h => by simp only [Rep] at h ⊢; exact h
  | .str _,_,h => by simp only [Rep] at h ⊢; exact h
  | .tup ds,_,h => by
    simp only [Rep] at h ⊢
    obtain ⟨a,xs,e,q,r⟩ := h
    exact ⟨a,xs,e,k.sqT q,RepL.kp k r⟩
  | .lst ds,_,h => by
    simp only [Rep] at h ⊢
    obtain ⟨a,xs,e,q,r⟩ := h
    exact ⟨a,xs,e,k.ls q,RepL.kp k r⟩
  | .ob c ks ds,_,h => by
    simp only [Rep] at h ⊢
    obtain ⟨a,C,dx,fs,e,z,c,q,n,r⟩ := h
    exact ⟨a,C,dx,fs,e,k.to _ _ z q,c,k.keep _ _ q (k.cl _ _ z q),n,RepL.kp k r⟩
  | .dct ks ds,_,h => by
    simp only [Rep] at h ⊢
    obtain ⟨a,kvs,e,z,q,n,r⟩ := h
    exact ⟨a,kvs,e,k.to _ _ z q,k.keep _ _ q (k.cl _ _ z q),n,RepL.kp k r⟩
  | .exc c,_,h => by
    simp only [Rep] at h ⊢
    obtain ⟨a,C,e,c,q⟩ := h
    exact ⟨a,C,e,c,k.keep _ _ q fun z => by have := k.mu _ z; rw [q] at this; exact this⟩
theorem RepL.kp (k:Kp A A' O H H') : ∀ {ds:List D} {vs:List V},RepL T A H ds vs → RepL T A' H' ds vs
  | [],_,h => by simp only [RepL] at h ⊢; exact h
  | d :: ds,_,h => by
    simp only [RepL] at h ⊢
    obtain ⟨x,r,e,h1,h2⟩ := h
    exact ⟨x,r,e,Rep.kp k h1,RepL.kp k h2⟩
end
theorem Kp.same (s:Same H H') (hA : ∀ b o,A b → H b = some o → A' b):Kp A A' (fun _ => False) H H' := ⟨fun b o h _ => s b o h,fun _ z => z.elim,fun _ _ _ _ z => z,hA⟩
theorem Rep.mono (s:Same H H') (hA : ∀ b,A b → A' b) {d:D} {v:V} (h:Rep T A H d v):Rep T A' H' d v := h.kp (Kp.same s fun b _ z _ => hA b z)
theorem RepL.mono (s:Same H H') (hA : ∀ b,A b → A' b) {d:List D} {v:List V} (h:RepL T A H d v):RepL T A' H' d v := h.kp (Kp.same s fun b _ z _ => hA b z)
theorem RepL.nil:RepL T A H [] [] := by simp only [RepL]
theorem RepL.cons {d:D} {v:V} {ds:List D} {vs:List V} (h:Rep T A H d v) (r:RepL T A H ds vs):RepL T A H (d :: ds) (v :: vs) := by
  simp only [RepL]; exact ⟨v,vs,rfl,h,r⟩
theorem RepL.nil_ {vs:List V} (h:RepL T A H [] vs):vs = [] := by simpa only [RepL] using h
theorem RepL.cons_ {d:D} {ds:List D} {vs:List V} (h:RepL T A H (d :: ds) vs) : ∃ x r,vs = x :: r ∧ Rep T A H d x ∧ RepL T A H ds r := by simpa only [RepL] using h
theorem RepL.length : ∀ {ds:List D} {vs:List V},RepL T A H ds vs → ds.length = vs.length
  | [],_,h => by rw [h.nil_]; rfl
  | d :: ds,_,h => by
    obtain ⟨x,r,rfl,_,h2⟩ := h.cons_
    simp [RepL.length h2]
theorem RepL.get : ∀ {ds:List D} {vs:List V} {i:Nat} {d:D},RepL T A H ds vs → ds[i]? = some d → ∃ v,vs[i]? = some v ∧ Rep T A H d v
  | [],_,_,_,h,e => by simp at e
  | d :: ds,_,0,_,h,e => by
    obtain ⟨x,r,rfl,h1,_⟩ := h.cons_
    simp at e; subst e
    exact ⟨x,rfl,h1⟩
  | d :: ds,_,i + 1,c,h,e => by
    obtain ⟨x,r,rfl,_,h2⟩ := h.cons_
    obtain ⟨v,e1,e2⟩ := RepL.get (i := i) (d := c) h2 (by simpa using e)
    exact ⟨v,by simpa using e1,e2⟩
theorem RepL.getV : ∀ {ds:List D} {vs:List V} {i:Nat} {v:V},RepL T A H ds vs → vs[i]? = some v → ∃ d,ds[i]? = some d ∧ Rep T A H d v
  | [],_,_,_,h,e => by rw [h.nil_] at e; simp at e
  | d :: ds,_,0,_,h,e => by
    obtain ⟨x,r,rfl,h1,_⟩ := h.cons_
    simp at e; subst e
    exact ⟨d,rfl,h1⟩
  | d :: ds,_,i + 1,c,h,e => by
    obtain ⟨x,r,rfl,_,h2⟩ := h.cons_
    obtain ⟨v,e1,e2⟩ := RepL.getV (i := i) (v := c) h2 (by simpa using e)
    exact ⟨v,by simpa using e1,e2⟩
theorem RepL.append : ∀ {ds es:List D} {vs us:List V},RepL T A H ds vs → RepL T A H es us → RepL T A H (ds ++ es) (vs ++ us)
  | [],_,_,_,h,g => by rw [h.nil_]; simpa using g
  | d :: ds,_,_,_,h,g => by
    obtain ⟨x,r,rfl,h1,h2⟩ := h.cons_
    exact .cons h1 (RepL.append h2 g)
theorem RepL.take : ∀ {ds:List D} {vs:List V} (n:Nat),RepL T A H ds vs → RepL T A H (ds.take n) (vs.take n)
  | _,_,0,_ => by simp only [List.take_zero]; exact .nil
  | [],_,n + 1,h => by rw [h.nil_]; simp only [List.take_nil]; exact .nil
  | d :: ds,_,n + 1,h => by
    obtain ⟨x,r,rfl,h1,h2⟩ := h.cons_
    exact .cons h1 (RepL.take n h2)
theorem RepL.drop : ∀ {ds:List D} {vs:List V} (n:Nat),RepL T A H ds vs → RepL T A H (ds.drop n) (vs.drop n)
  | _,_,0,h => by simpa using h
  | [],_,n + 1,h => by rw [h.nil_]; simp only [List.drop_nil]; exact .nil
  | d :: ds,_,n + 1,h => by
    obtain ⟨x,r,rfl,h1,h2⟩ := h.cons_
    exact RepL.drop n h2
theorem RepL.set : ∀ {ds:List D} {vs:List V} (n:Nat) {d:D} {v:V},RepL T A H ds vs → Rep T A H d v → RepL T A H (ds.set n d) (vs.set n v)
  | [],_,_,_,_,h,_ => by rw [h.nil_]; exact .nil
  | d :: ds,_,0,_,_,h,g => by
    obtain ⟨x,r,rfl,h1,h2⟩ := h.cons_
    exact .cons g h2
  | d :: ds,_,n + 1,_,_,h,g => by
    obtain ⟨x,r,rfl,h1,h2⟩ := h.cons_
    exact .cons h1 (RepL.set n h2 g)
theorem RepL.ints_ : ∀ ns:List Int,RepL T A H (ns.map D.int) (ns.map V.int)
  | [] => .nil
  | n :: r => .cons (by simp only [Rep]) (RepL.ints_ r)
theorem Rep.lst_ {ds:List D} {v:V} (h:Rep T A H (.lst ds) v) : ∃ a xs,v = .ref a ∧ LsA T A H a xs ∧ RepL T A H ds xs := by simpa only [Rep] using h
theorem Rep.tup_ {ds:List D} {v:V} (h:Rep T A H (.tup ds) v) : ∃ a xs,v = .ref a ∧ SqT T.K H a xs ∧ RepL T A H ds xs := by simpa only [Rep] using h
theorem Rep.ob_ {c:Nat} {ks:List Nat} {ds:List D} {v:V} (h:Rep T A H (.ob c ks ds) v) : ∃ a C dx fs,v = .ref a ∧ A a ∧ T.cl c = some C ∧ H a = some (.ins C dx fs) ∧ fs.map (·.1) = ks.map T.fld ∧ RepL T A H ds (fs.map (·.2)) := by simpa only [Rep] using h
theorem Rep.dct_ {ks:List (List Nat)} {ds:List D} {v:V} (h:Rep T A H (.dct ks ds) v) : ∃ a kvs,v = .ref a ∧ A a ∧ H a = some (.dK kvs) ∧ kvs.map (·.1) = ks.map (fun k => (Sum.inr (mkS k):Key)) ∧ RepL T A H ds (kvs.map (·.2)) := by simpa only [Rep] using h
theorem Rep.exc_ {c:Nat} {v:V} (h:Rep T A H (.exc c) v) : ∃ a C,v = .ref a ∧ T.cl c = some C ∧ H a = some (XO a C) := by simpa only [Rep] using h
theorem Rep.int_ {i:Int} {v:V} (h:Rep T A H (.int i) v):v = .int i := by simpa only [Rep] using h
theorem Rep.str_ {i:List Nat} {v:V} (h:Rep T A H (.str i) v):v = .str (mkS i) := by simpa only [Rep] using h
theorem Rep.bl_ {i:Bool} {v:V} (h:Rep T A H (.bl i) v):v = .bl i := by simpa only [Rep] using h
theorem Rep.non_ {v:V} (h:Rep T A H .non v):v = .non := by simpa only [Rep] using h
theorem Rep.int (i:Int):Rep T A H (.int i) (.int i) := by simp only [Rep]
theorem Rep.str (i:List Nat):Rep T A H (.str i) (.str (mkS i)) := by simp only [Rep]
theorem Rep.bl (i:Bool):Rep T A H (.bl i) (.bl i) := by simp only [Rep]
theorem Rep.non:Rep T A H .non .non := by simp only [Rep]
theorem Rep.lst {a:Addr} {xs:List V} {ds:List D} (h:LsA T A H a xs) (r:RepL T A H ds xs):Rep T A H (.lst ds) (.ref a) := by simp only [Rep]; exact ⟨a,xs,rfl,h,r⟩
theorem Rep.tup {a:Addr} {xs:List V} {ds:List D} (h:SqT T.K H a xs) (r:RepL T A H ds xs):Rep T A H (.tup ds) (.ref a) := by simp only [Rep]; exact ⟨a,xs,rfl,h,r⟩
theorem same_new {H:Hp} {p:Addr} (h:H p = none) (o:HO):Same H (upd H p o) := fun b u q => by rw [upd_ne (ne_of_none q h)]; exact q
theorem Rep.newT {ds:List D} {vs:List V} (r:RepL T A H ds vs) {p:Addr} (hp:H p = none):Rep T A (upd H p (.tup vs)) (.tup ds) (.ref p) :=
  .tup (SqT.of upd_same) (r.mono (same_new hp _) fun _ z => z)
theorem Rep.newL {ds:List D} {vs:List V} (r:RepL T A H ds vs) {p:Addr} (hp:H p = none) (a:A p):Rep T A (upd H p (.lst vs)) (.lst ds) (.ref p) :=
  .lst (.inl ⟨.inl upd_same,a⟩) (r.mono (same_new hp _) fun _ z => z)
end
structure Fr (O:Addr → Prop) (H:Hp) (O':Addr → Prop) (H':Hp):Prop where
  keep : ∀ b o,H b = some o → ¬ O b → H' b = some o
  more : ∀ b,O' b → O b ∨ H b = none
  dom : ∀ b,H' b = none → H b = none
theorem Fr.refl (O:Addr → Prop) (H:Hp):Fr O H O H := ⟨fun _ _ h _ => h,fun _ h => .inl h,fun _ h => h⟩
theorem Fr.same {O:Addr → Prop} {H H':Hp} (s:Same H H'):Fr O H O H' := ⟨fun b o h _ => s b o h,fun _ h => .inl h,fun _ h => s.free h⟩
theorem Fr.trans {O O1 O2:Addr → Prop} {H H1 H2:Hp} (a:Fr O H O1 H1) (b:Fr O1 H1 O2 H2):Fr O H O2 H2 where
  keep := fun c o h n => b.keep c o (a.keep c o h n) fun z => (a.more c z).elim n fun e => by rw [h] at e; cases e
  more := fun c z => by
    rcases b.more c z with q | q
    · exact a.more c q
    · exact .inr (a.dom c q)
  dom := fun c z => a.dom c (b.dom c z)
inductive Slot where
  | no
  | val (d:D)
  | own (ds:List D)
  | obj (c:Nat) (ks:List Nat) (ds:List D)
  | red (ds:List D)
  deriving Inhabited
noncomputable abbrev DEnv := List Slot
noncomputable def Slot.isOwn:Slot → Bool
  | .own _ => true
  | .obj _ _ _ => true
  | _ => false
structure Wf where
  A:Addr → Prop
  H0:Hp
  O0:Addr → Prop
noncomputable abbrev Cl (W:Wf) (O:Addr → Prop):Addr → Prop := fun b => W.A b ∧ ¬ O b
noncomputable def SlotR (T:Tx) (W:Wf) (O:Addr → Prop) (H:Hp):Slot → Option V → Prop
  | .no,_ => True
  | .val d,v => ∃ u,v = some u ∧ Rep T (Cl W O) H d u
  | .own ds,v => ∃ a xs,v = some (.ref a) ∧ O a ∧ W.H0 a = none ∧ H a = some (.lst xs) ∧ RepL T (Cl W O) H ds xs
  | .obj c ks ds,v => ∃ a C dx fs,v = some (.ref a) ∧ O a ∧ W.H0 a ≠ none ∧ T.cl c = some C ∧ H a = some (.ins C dx fs) ∧ fs.map (·.1) = ks.map T.fld ∧ RepL T (Cl W O) H ds (fs.map (·.2))
  | .red ds,v => ∃ a xs,v = some (.ref a) ∧ ¬ W.O0 a ∧ W.H0 a = some (.lst xs) ∧ RepL T (Cl W O) H ds xs
structure EnvR (T:Tx) (W:Wf) (O:Addr → Prop) (H:Hp) (env:DEnv) (σ:St):Prop where
  fr:Fr W.O0 W.H0 O H
  new : ∀ a,W.H0 a = none → W.A a
  mu : ∀ a,O a → Mu (H a)
  slot : ∀ (i:Nat) (s:Slot),env[i]? = some s → SlotR T W O H s (σ[i]?).join
  inj : ∀ (i j:Nat) (s t:Slot) (a:Addr),env[i]? = some s → env[j]? = some t → s.isOwn = true → t.isOwn = true → σ[i]? = some (some (.ref a)) → σ[j]? = some (some (.ref a)) → i = j
  len:env.length = σ.length
section
variable {T:Tx} {W:Wf} {O O':Addr → Prop} {H H':Hp} {env:DEnv} {σ:St}
theorem EnvR.newA (E:EnvR T W O H env σ) {a:Addr} (h:H a = none):Cl W O a :=
  ⟨E.new a (E.fr.dom a h),fun o => by have := E.mu a o; rw [h] at this; exact this⟩
theorem EnvR.kp (E:EnvR T W O H env σ) (f:Fr O H O' H'):Kp (Cl W O) (Cl W O') O H H' :=
  ⟨f.keep,E.mu,fun _ _ z _ => z.2,fun b o z e => ⟨z.1,fun q => (f.more b q).elim z.2 fun w => by rw [e] at w; cases w⟩⟩
theorem EnvR.keepD (E:EnvR T W O H env σ) (f:Fr O H O' H') {d:D} {v:V} (r:Rep T (Cl W O) H d v):Rep T (Cl W O') H' d v := r.kp (E.kp f)
theorem SlotR.kp (k:Kp (Cl W O) (Cl W O') O H H') (hO : ∀ a,O a → O' a) : ∀ {s:Slot} {v:Option V},(∀ a,s.isOwn = true → v = some (.ref a) → H' a = H a) → SlotR T W O H s v → SlotR T W O' H' s v
  | .no,_,_,_ => trivial
  | .val d,_,_,h => by obtain ⟨u,e,r⟩ := h; exact ⟨u,e,r.kp k⟩
  | .own ds,_,g,h => by
    obtain ⟨a,xs,e,o,n,q,r⟩ := h
    exact ⟨a,xs,e,hO a o,n,(g a rfl e).trans q,r.kp k⟩
  | .obj c ks ds,_,g,h => by
    obtain ⟨a,C,dx,fs,e,o,nn,n,q,m,r⟩ := h
    exact ⟨a,C,dx,fs,e,hO a o,nn,n,(g a rfl e).trans q,m,r.kp k⟩
  | .red ds,_,_,h => by obtain ⟨a,xs,e,o,n,r⟩ := h; exact ⟨a,xs,e,o,n,r.kp k⟩
theorem join_some {σ:St} {i:Nat} {v:V} (h:(σ[i]?).join = some v) : σ[i]? = some (some v) := by
  cases e : σ[i]? with
  | none => rw [e] at h; cases h
  | some o => rw [e] at h; cases o with
    | none => cases h
    | some w => cases h; rfl
theorem SlotR.at_own {s:Slot} {v:Option V} (h:SlotR T W O H s v) (hs:s.isOwn = true) : ∃ a,v = some (.ref a) ∧ O a := by
  cases s with
  | no => cases hs
  | val d => cases hs
  | own ds => obtain ⟨a,xs,e,o,_⟩ := h; exact ⟨a,e,o⟩
  | obj c ks ds => obtain ⟨a,C,dx,fs,e,o,_⟩ := h; exact ⟨a,e,o⟩
  | red ds => cases hs
theorem EnvR.mono (E:EnvR T W O H env σ) (s:Same H H'):EnvR T W O H' env σ where
  fr := E.fr.trans (Fr.same s)
  new := E.new
  mu := fun a o => by
    have := E.mu a o
    cases e:H a with
    | none => rw [e] at this; exact this.elim
    | some u => rw [s a u e]; rw [e] at this; exact this
  slot := fun i t e => (E.slot i t e).kp (E.kp (Fr.same s)) (fun _ z => z) fun a hs ev => by
    obtain ⟨b,eb,o⟩ := (E.slot i t e).at_own hs
    rw [ev] at eb; cases eb
    have := E.mu a o
    cases e:H a with
    | none => rw [e] at this; exact this.elim
    | some u => exact s a u e
  inj := E.inj
  len := E.len
theorem EnvR.val (E:EnvR T W O H env σ) {i:Nat} {d:D} (e:env[i]? = some (.val d)) : ∃ v, σ[i]? = some (some v) ∧ Rep T (Cl W O) H d v := by
  obtain ⟨u,e1,r⟩ := E.slot i _ e
  exact ⟨u,join_some e1,r⟩
theorem EnvR.own (E:EnvR T W O H env σ) {i:Nat} {ds:List D} (e:env[i]? = some (.own ds)) : ∃ a xs, σ[i]? = some (some (.ref a)) ∧ O a ∧ W.H0 a = none ∧ H a = some (.lst xs) ∧ RepL T (Cl W O) H ds xs := by
  obtain ⟨a,xs,e1,r⟩ := E.slot i _ e
  exact ⟨a,xs,join_some e1,r⟩
theorem EnvR.red (E:EnvR T W O H env σ) {i:Nat} {ds:List D} (e:env[i]? = some (.red ds)) : ∃ a xs, σ[i]? = some (some (.ref a)) ∧ H a = some (.lst xs) ∧ RepL T (Cl W O) H ds xs := by
  obtain ⟨a,xs,e1,o,n,r⟩ := E.slot i _ e
  exact ⟨a,xs,join_some e1,E.fr.keep _ _ n o,r⟩
theorem set_slot {env:DEnv} {i j:Nat} {s t:Slot} (e:(env.set i s)[j]? = some t):(i = j ∧ t = s ∧ i < env.length) ∨ (i ≠ j ∧ env[j]? = some t) := by
  by_cases h:i = j
  · subst h
    by_cases hl:i < env.length
    · rw [List.getElem?_set_self hl] at e; cases e; exact .inl ⟨rfl,rfl,hl⟩
    · rw [List.getElem?_eq_none (by simp; omega)] at e; cases e
  · rw [List.getElem?_set_ne h] at e; exact .inr ⟨h,e⟩
theorem EnvR.setS (E:EnvR T W O H env σ) (i:Nat) {s:Slot} {v:V} (r:SlotR T W O H s (some v))
    (hj:s.isOwn = true → ∀ (j:Nat) (t:Slot) (a:Addr),i ≠ j → env[j]? = some t → t.isOwn = true → v = .ref a → σ[j]? ≠ some (some (.ref a))):EnvR T W O H (env.set i s) (σ.set i (some v)) where
  fr := E.fr
  new := E.new
  mu := E.mu
  slot := fun j t e => by
    rcases set_slot e with ⟨rfl,rfl,hl⟩ | ⟨h,e⟩
    · rw [List.getElem?_set_self (by rw [← E.len]; exact hl)]; exact r
    · rw [List.getElem?_set_ne h]; exact E.slot j t e
  inj := fun j k t u a e1 e2 o1 o2 s1 s2 => by
    rcases set_slot e1 with ⟨h1,h2,hl⟩ | ⟨h,q1⟩
    · subst h1 h2
      rcases set_slot e2 with ⟨h3,h4,_⟩ | ⟨h',q2⟩
      · exact h3
      · rw [List.getElem?_set_self (by rw [← E.len]; exact hl)] at s1
        cases s1
        rw [List.getElem?_set_ne h'] at s2
        exact absurd s2 (hj o1 k u a h' q2 o2 rfl)
    · rw [List.getElem?_set_ne h] at s1
      rcases set_slot e2 with ⟨h3,h4,hl⟩ | ⟨h',q2⟩
      · subst h3 h4
        rw [List.getElem?_set_self (by rw [← E.len]; exact hl)] at s2
        cases s2
        exact absurd s1 (hj o2 j t a h q1 o1 rfl)
      · rw [List.getElem?_set_ne h'] at s2
        exact E.inj j k t u a q1 q2 o1 o2 s1 s2
  len := by simp [E.len]
theorem EnvR.set (E:EnvR T W O H env σ) (i:Nat) {d:D} {v:V} (r:Rep T (Cl W O) H d v):EnvR T W O H (env.set i (.val d)) (σ.set i (some v)) :=
  E.setS i ⟨v,rfl,r⟩ fun z => nomatch z
theorem EnvR.claim (E:EnvR T W O H env σ) {a:Addr} (n:H a = none) {o:HO} (hm:Mu (some o)):EnvR T W (fun b => O b ∨ b = a) (upd H a o) env σ := by
  have s:Same H (upd H a o) := same_new n o
  have f:Fr O H (fun b => O b ∨ b = a) (upd H a o) := ⟨fun b u h _ => s b u h,fun b h => h.elim .inl fun e => .inr (e ▸ n),fun b h => s.free h⟩
  refine ⟨E.fr.trans f,E.new,fun b z => ?_,fun i t e => (E.slot i t e).kp (E.kp f) (fun _ z => .inl z) fun b hs ev => ?_,E.inj,E.len⟩
  · rcases z with z | rfl
    · exact (E.mono s).mu b z
    · rw [upd_same]; exact hm
  · obtain ⟨c,eb,o⟩ := (E.slot i t e).at_own hs
    rw [ev] at eb; cases eb
    have hb:b ≠ a := fun z => by subst z; have := E.mu b o; rw [n] at this; exact this
    exact upd_ne hb
theorem EnvR.upd (E:EnvR T W O H env σ) {i:Nat} {s t:Slot} {a:Addr} {o:HO} (e:env[i]? = some s) (hs:s.isOwn = true) (ev : σ[i]? = some (some (.ref a))) (hm:Mu (some o)) (r:SlotR T W O (L2.upd H a o) t (some (.ref a))) :
    EnvR T W O (L2.upd H a o) (env.set i t) σ ∧ Fr O H O (L2.upd H a o) := by
  have oa:O a := by
    obtain ⟨b,eb,o⟩ := (E.slot i s e).at_own hs
    rw [ev] at eb; cases eb; exact o
  have f:Fr O H O (L2.upd H a o) := ⟨fun b u h n => by rw [upd_ne (by rintro rfl; exact n oa)]; exact h,fun b h => .inl h,fun b h => by
    by_cases z:b = a
    · subst z; rw [upd_same] at h; cases h
    · rw [upd_ne z] at h; exact h⟩
  refine ⟨⟨E.fr.trans f,E.new,fun b z => ?_,fun j u e' => ?_,fun j k t' u b e1 e2 o1 o2 s1 s2 => ?_,by simp [E.len]⟩,f⟩
  · by_cases h:b = a
    · subst h; rw [upd_same]; exact hm
    · rw [upd_ne h]; exact E.mu b z
  · rcases set_slot e' with ⟨rfl,rfl,hl⟩ | ⟨h,e'⟩
    · rw [ev]; exact r
    · refine (E.slot j u e').kp (E.kp f) (fun _ z => z) fun b hs' ev' => ?_
      have hb:b ≠ a := fun z => by subst z; exact h (E.inj i j s u b e e' hs hs' ev (join_some ev'))
      exact upd_ne hb
  · have old : ∀ {j:Nat} {u:Slot},(env.set i t)[j]? = some u → u.isOwn = true → ∃ u',env[j]? = some u' ∧ u'.isOwn = true := fun {j u} e' o' => by
      rcases set_slot e' with ⟨rfl,rfl,hl⟩ | ⟨h,e'⟩
      · exact ⟨s,e,hs⟩
      · exact ⟨u,e',o'⟩
    obtain ⟨t1,h1,h2⟩ := old e1 o1
    obtain ⟨t2,h3,h4⟩ := old e2 o2
    exact E.inj j k t1 t2 b h1 h3 h2 h4 s1 s2
end
end DL
end
section
set_option Elab.async false
set_option linter.all false
namespace DL
open PySem L2
noncomputable abbrev FP (α:Type) := DEnv → Option α
noncomputable abbrev FE := FP D
noncomputable abbrev RK (α γ:Type) := (Addr → Prop) → Hp → Hp → α → γ → Prop
class Kd {α γ:Type} (ρ:RK α γ):Prop where
  st : ∀ A H0 H H' x v,Same H H' → ρ A H0 H x v → ρ A H0 H' x v
  an : ∀ A H0 H1 H x v,Same H0 H1 → ρ A H1 H x v → ρ A H0 H x v
noncomputable def kD (T:Tx):RK D V := fun A _ H d v => Rep T A H d v
noncomputable def RepR (T:Tx) (A:Addr → Prop) (H:Hp) (d:D) (v:V):Prop := match d with
  | .lst ds => ∃ a xs,v = .ref a ∧ SqL T.K H a xs ∧ RepL T A H ds xs
  | d => Rep T A H d v
noncomputable def kR (T:Tx):RK D V := fun A _ H d v => RepR T A H d v
noncomputable def kF (T:Tx):RK (List D) V := fun A H0 H ds v => ∃ a xs,v = .ref a ∧ H0 a = none ∧ H a = some (.lst xs) ∧ RepL T (fun b => A b ∧ b ≠ a) H ds xs
noncomputable def kB:RK Bool Bool := fun _ _ _ b c => b = c
noncomputable def kO:RK (Option Int) (Option Int) := fun _ _ _ b c => b = c
noncomputable def kA (T:Tx):RK (List D) (List V) := fun A _ H ds vs => RepL T A H ds vs
section
variable {T:Tx} {A:Addr → Prop} {H H':Hp}
theorem RepR.of {d:D} {v:V} (h:Rep T A H d v):RepR T A H d v := by
  cases d with
  | lst ds => obtain ⟨a,xs,e,q,r⟩ := h.lst_; exact ⟨a,xs,e,q.sq,r⟩
  | _ => exact h
theorem SqT.mono {K:PySem.W.Frag} (s:Same H H') {a:Addr} {xs:List V} (h:SqT K H a xs):SqT K H' a xs := by
  rcases h with (h | ⟨o,h⟩) | h
  · exact .inl (.inl (s _ _ h))
  · exact .inl (.inr ⟨o,s _ _ h⟩)
  · exact .inr h
theorem RepR.mono (s:Same H H') {d:D} {v:V} (h:RepR T A H d v):RepR T A H' d v := by
  cases d with
  | lst ds => obtain ⟨a,xs,e,q,r⟩ := h; exact ⟨a,xs,e,s.seq q,r.mono s fun _ z => z⟩
  | _ => exact Rep.mono s (fun _ z => z) h
theorem RepR.lst_ {ds:List D} {v:V} (h:RepR T A H (.lst ds) v) : ∃ a xs,v = .ref a ∧ SqL T.K H a xs ∧ RepL T A H ds xs := h
theorem RepR.tup_ {ds:List D} {v:V} (h:RepR T A H (.tup ds) v) : ∃ a xs,v = .ref a ∧ SqT T.K H a xs ∧ RepL T A H ds xs := Rep.tup_ (show Rep T A H (.tup ds) v from h)
theorem RepR.int_ {i:Int} {v:V} (h:RepR T A H (.int i) v):v = .int i := Rep.int_ (show Rep T A H (.int i) v from h)
theorem RepR.str_ {i:List Nat} {v:V} (h:RepR T A H (.str i) v):v = .str (mkS i) := Rep.str_ (show Rep T A H (.str i) v from h)
theorem RepR.bl_ {i:Bool} {v:V} (h:RepR T A H (.bl i) v):v = .bl i := Rep.bl_ (show Rep T A H (.bl i) v from h)
theorem RepR.non_ {v:V} (h:RepR T A H .non v):v = .non := Rep.non_ (show Rep T A H .non v from h)
noncomputable instance:Kd (kD T) := ⟨fun _ _ _ _ _ _ s h => Rep.mono s (fun _ z => z) h,fun _ _ _ _ _ _ _ h => h⟩
noncomputable instance:Kd (kR T) := ⟨fun _ _ _ _ _ _ s h => RepR.mono s h,fun _ _ _ _ _ _ _ h => h⟩
noncomputable instance:Kd (kA T) := ⟨fun _ _ _ _ _ _ s h => RepL.mono s (fun _ z => z) h,fun _ _ _ _ _ _ _ h => h⟩
noncomputable instance:Kd kB := ⟨fun _ _ _ _ _ _ _ h => h,fun _ _ _ _ _ _ _ h => h⟩
noncomputable instance:Kd kO := ⟨fun _ _ _ _ _ _ _ h => h,fun _ _ _ _ _ _ _ h => h⟩
noncomputable instance:Kd (kF T) := ⟨fun _ _ _ _ _ _ s ⟨a,xs,e,n,q,r⟩ => ⟨a,xs,e,n,s _ _ q,r.mono s fun _ z => z⟩,fun _ _ _ _ _ _ s ⟨a,xs,e,n,q,r⟩ => ⟨a,xs,e,s.free n,q,r⟩⟩
end
noncomputable def tP {α γ:Type} (T:Tx) (ρ:RK α γ) (f:FP α):St → Hp → (γ → Hp → Prop) → Prop := fun σ H Q =>
  ∃ W O env d,EnvR T W O H env σ ∧ f env = some d ∧ ∀ v H',Same H H' → ρ (Cl W O) H H' d v → Q v H'
noncomputable abbrev Nw (A:Addr → Prop) (H:Hp):Prop := ∀ a,H a = none → A a
section
variable {α β δ γ γ2 γ3:Type} {T:Tx} {ρ ρ':RK α γ} {f:FP α} {σ:St} {H:Hp} {Q : γ → Hp → Prop}
theorem tP_weak (w : ∀ A H0 H x v, ρ A H0 H x v → ρ' A H0 H x v) (h:tP T ρ' f σ H Q):tP T ρ f σ H Q := by
  obtain ⟨W,O,env,d,E,e,q⟩ := h
  exact ⟨W,O,env,d,E,e,fun v H' s r => q v H' s (w _ _ _ _ _ r)⟩
noncomputable def fp1 (F : α → Option β) (f:FP α):FP β := fun env => (f env).bind F
noncomputable def fp2 (F : α → β → Option δ) (f:FP α) (g:FP β):FP δ := fun env => (f env).bind fun x => (g env).bind fun y => F x y
theorem tP_2 {ρ2:RK β γ2} {ρ3:RK δ V} [Kd ρ] [Kd ρ2] [Kd ρ3] {F : α → β → Option δ} {g:FP β} {Q3:VK} {r : γ → γ2 → Hp → VK → Prop}
    (snd : ∀ (A:Addr → Prop) (H0 H:Hp) (x : α) (y : β) (v : γ) (u : γ2) (d : δ) (Q:VK),Nw A H → ρ A H0 H x v → ρ2 A H0 H y u → F x y = some d → (∀ w H',Same H H' → ρ3 A H H' d w → Q w H') → r v u H Q)
    (h:tP T ρ3 (fp2 F f g) σ H Q3):tP T ρ f σ H fun v H1 => tP T ρ2 g σ H1 fun u H2 => r v u H2 Q3 := by
  obtain ⟨W,O,env,d,E,e,q⟩ := h
  unfold fp2 at e
  cases e1:f env with
  | none => rw [e1] at e; cases e
  | some x =>
    rw [e1] at e
    cases e2:g env with
    | none => rw [e2] at e; cases e
    | some y =>
      rw [e2] at e
      refine ⟨W,O,env,x,E,e1,fun v H1 s1 r1 => ⟨W,O,env,y,E.mono s1,e2,fun u H2 s2 r2 => ?_⟩⟩
      have s := s1.trans s2
      exact snd (Cl W O) H H2 x y v u d Q3 (fun a n => (E.mono s).newA n) (Kd.st _ _ _ _ _ _ s2 r1) (Kd.an _ _ _ _ _ _ s1 r2) e fun w H' s3 r3 => q w H' (s.trans s3) (Kd.an _ _ _ _ _ _ s r3)
theorem tP_1 {ρ3:RK δ γ3} [Kd ρ3] {F : α → Option δ} {Q3 : γ3 → Hp → Prop} {r : γ → Hp → (γ3 → Hp → Prop) → Prop}
    (snd : ∀ (A:Addr → Prop) (H0 H:Hp) (x : α) (v : γ) (d : δ) (Q : γ3 → Hp → Prop),Nw A H → ρ A H0 H x v → F x = some d → (∀ w H',Same H H' → ρ3 A H H' d w → Q w H') → r v H Q)
    (h:tP T ρ3 (fp1 F f) σ H Q3):tP T ρ f σ H fun v H1 => r v H1 Q3 := by
  obtain ⟨W,O,env,d,E,e,q⟩ := h
  unfold fp1 at e
  cases e1:f env with
  | none => rw [e1] at e; cases e
  | some x =>
    rw [e1] at e
    refine ⟨W,O,env,x,E,e1,fun v H1 s1 r1 => ?_⟩
    exact snd (Cl W O) H H1 x v d Q3 (fun a n => (E.mono s1).newA n) r1 e fun w H' s3 r3 => q w H' (s1.trans s3) (Kd.an _ _ _ _ _ _ s1 r3)
end
noncomputable def feName (i:Nat):FE := fun env => match env[i]? with
  | some (.val d) => some d
  | _ => none
noncomputable def feRead (i:Nat):FE := fun env => match env[i]? with
  | some (.val d) => some d
  | some (.own ds) => some (.lst ds)
  | some (.red ds) => some (.lst ds)
  | _ => none
noncomputable def feC (d:D):FE := fun _ => some d
section
variable {T:Tx} {f g:FE} {σ:St} {H:Hp} {Q:VK}
theorem tP_name {i:Nat} (h:tP T (kD T) (feName i) σ H Q):tVar i σ H Q := by
  obtain ⟨W,O,env,d,E,e,q⟩ := h
  unfold feName at e
  split at e
  · rename_i d' es
    cases e
    obtain ⟨v,e1,r⟩ := E.val es
    exact ⟨v,e1,q v H (Same.refl _) r⟩
  · cases e
theorem tP_read {i:Nat} (h:tP T (kR T) (feRead i) σ H Q):tVar i σ H Q := by
  obtain ⟨W,O,env,d,E,e,q⟩ := h
  unfold feRead at e
  split at e
  · rename_i d' es
    cases e
    obtain ⟨v,e1,r⟩ := E.val es
    exact ⟨v,e1,q v H (Same.refl _) (RepR.of r)⟩
  · rename_i ds es
    cases e
    obtain ⟨a,xs,e1,_,_,hl,r⟩ := E.own es
    exact ⟨.ref a,e1,q _ H (Same.refl _) ⟨a,xs,rfl,.inl (.inl hl),r⟩⟩
  · rename_i ds es
    cases e
    obtain ⟨a,xs,e1,hl,r⟩ := E.red es
    exact ⟨.ref a,e1,q _ H (Same.refl _) ⟨a,xs,rfl,.inl (.inl hl),r⟩⟩
  · cases e
theorem tP_c {d:D} {v:V} (hv : ∀ A H,Rep T A H d v) (h:tP T (kD T) (feC d) σ H Q):tC v σ H Q := by
  obtain ⟨W,O,env,d',E,e,q⟩ := h
  cases e
  exact q v H (Same.refl _) (hv _ _)
noncomputable def feFr (f:FP (List D)):FE := fun env => (f env).map .lst
theorem tP_fr {f:FP (List D)} (h:tP T (kD T) (feFr f) σ H Q):tP T (kF T) f σ H Q := by
  obtain ⟨W,O,env,d,E,e,q⟩ := h
  unfold feFr at e
  cases e1:f env with
  | none => rw [e1] at e; cases e
  | some ds =>
    rw [e1] at e
    cases e
    refine ⟨W,O,env,ds,E,e1,fun v H' s ⟨a,xs,ev,n,hl,r⟩ => q v H' s ?_⟩
    subst ev
    exact Rep.lst (.inl ⟨.inl hl,E.newA n⟩) (r.mono (Same.refl _) fun _ z => z.1)
noncomputable abbrev FA := FP (List D)
noncomputable def faNil:FA := fun _ => some []
noncomputable def faCons (f:FE) (g:FA):FA := fun env => (f env).bind fun x => (g env).bind fun r => some (x :: r)
theorem tP_nil {Q:List V → Hp → Prop} (h:tP T (kA T) faNil σ H Q):tNil σ H Q := by
  obtain ⟨W,O,env,ds,E,e,q⟩ := h
  cases e
  exact q [] H (Same.refl _) .nil
theorem tP_cons {g:FA} {Q:List V → Hp → Prop} (h:tP T (kA T) (faCons f g) σ H Q):tCons (tP T (kD T) f) (tP T (kA T) g) σ H Q := by
  obtain ⟨W,O,env,ds,E,e,q⟩ := h
  unfold faCons at e
  cases e1:f env with
  | none => rw [e1] at e; cases e
  | some x =>
    rw [e1] at e
    cases e2:g env with
    | none => rw [e2] at e; cases e
    | some y =>
      rw [e2] at e
      cases e
      refine ⟨W,O,env,x,E,e1,fun v H1 s1 r1 => ⟨W,O,env,y,E.mono s1,e2,fun vs H2 s2 r2 => ?_⟩⟩
      exact q (v :: vs) H2 (s1.trans s2) (.cons (Rep.mono s2 (fun _ z => z) r1) r2)
theorem small {n:Nat} (h:n ≤ 1000000):n ≤ sizeLine := Nat.le_trans h (by decide)
noncomputable def feTup (f:FA):FE := fp1 (fun ds => if ds.length ≤ 1000 then some (.tup ds) else none) f
noncomputable def ffLst (f:FA):FP (List D) := fp1 (fun ds => if ds.length ≤ 1000 then some ds else none) f
theorem tP_tup {f:FA} (h:tP T (kD T) (feTup f) σ H Q):tTup (tP T (kA T) f) σ H Q :=
  tP_1 (ρ := kA T) (γ3 := V) (r := fun xs H1 (Q:VK) => xs.length ≤ sizeLine ∧ ∀ p,H1 p = none → Q (.ref p) (upd H1 p (.tup xs))) (fun A H0 H x v d Q nw r e k => by
    by_cases c:x.length ≤ 1000
    · rw [if_pos c] at e; cases e
      have r:RepL T A H x v := r
      exact ⟨small (by rw [← r.length]; omega),fun p hp => k _ _ (same_new hp _) (Rep.newT r hp)⟩
    · rw [if_neg c] at e; cases e) h
theorem kF_new {A:Addr → Prop} {ds:List D} {xs:List V} (r:RepL T A H ds xs) {p:Addr} (hp:H p = none):kF T A H (upd H p (.lst xs)) ds (.ref p) := by
  refine ⟨p,xs,rfl,hp,upd_same,r.kp (Kp.same (same_new hp _) fun b o z e => ⟨z,fun w => ?_⟩)⟩
  subst w; rw [hp] at e; cases e
theorem tP_lst {f:FA} (h:tP T (kF T) (ffLst f) σ H Q):tLst (tP T (kA T) f) σ H Q :=
  tP_1 (ρ := kA T) (γ3 := V) (r := fun xs H1 (Q:VK) => xs.length ≤ sizeLine ∧ ∀ p,H1 p = none → Q (.ref p) (upd H1 p (.lst xs))) (fun A H0 H x v d Q nw r e k => by
    by_cases c:x.length ≤ 1000
    · rw [if_pos c] at e; cases e
      have r:RepL T A H x v := r
      exact ⟨small (by rw [← r.length]; omega),fun p hp => k _ _ (same_new hp _) (kF_new r hp)⟩
    · rw [if_neg c] at e; cases e) h
end
noncomputable abbrev FT := FP Bool
noncomputable def blD:D → Option Bool
  | .bl b => some b
  | _ => none
noncomputable def ftB (f:FE):FT := fp1 blD f
noncomputable def ftNot (c:FT):FT := fun env => (c env).bind fun b => some (!b)
noncomputable def ftAnd (c d:FT):FT := fun env => (c env).bind fun b => if b = true then d env else some false
noncomputable def ftOr (c d:FT):FT := fun env => (c env).bind fun b => if b = true then some true else d env
noncomputable def feNot (f:FE):FE := fp1 (fun x => (blD x).map fun b => D.bl (!b)) f
noncomputable def feAnd (f g:FE):FE := fun env => (f env).bind fun x => (blD x).bind fun b => if b = true then g env else some (.bl false)
noncomputable def feOr (f g:FE):FE := fun env => (f env).bind fun x => (blD x).bind fun b => if b = true then some (.bl true) else g env
noncomputable def feIf {α:Type} (c:FT) (f g:FP α):FP α := fun env => (c env).bind fun b => if b = true then f env else g env
theorem blD_some {d:D} {b:Bool} (h:blD d = some b):d = .bl b := by
  cases d with
  | bl c => cases h; rfl
  | _ => cases h
section
variable {T:Tx} {f g:FE} {c d:FT} {σ:St} {H:Hp}
theorem tP_test {Q:Bool → Hp → Prop} (h:tP T kB (ftB f) σ H Q):tTest (tP T (kD T) f) σ H Q :=
  tP_1 (ρ := kD T) (r := fun x H' Q => ∃ k,x = .bl k ∧ Q k H') (fun A H0 H x v d Q nw r e k => by
    cases blD_some e
    exact ⟨d,Rep.bl_ r,k _ H (Same.refl _) rfl⟩) h
theorem tPT_not {Q:Bool → Hp → Prop} (h:tP T kB (ftNot c) σ H Q):tNot (tP T kB c) σ H Q := by
  obtain ⟨W,O,env,b,E,e,q⟩ := h
  unfold ftNot at e
  cases e1:c env with
  | none => rw [e1] at e; cases e
  | some x =>
    rw [e1] at e
    cases e
    exact ⟨W,O,env,x,E,e1,fun v H' s r => by cases r; exact q _ H' s rfl⟩
theorem tPT_and {Q:Bool → Hp → Prop} (h:tP T kB (ftAnd c d) σ H Q):tAnd (tP T kB c) (tP T kB d) σ H Q := by
  obtain ⟨W,O,env,b,E,e,q⟩ := h
  unfold ftAnd at e
  cases e1:c env with
  | none => rw [e1] at e; cases e
  | some x =>
    rw [e1] at e
    refine ⟨W,O,env,x,E,e1,fun v H' s r => ?_⟩
    cases r
    cases x with
    | true => exact ⟨W,O,env,b,E.mono s,e,fun v2 H2 s2 r2 => q v2 H2 (s.trans s2) r2⟩
    | false => cases e; exact q _ H' s rfl
theorem tPT_or {Q:Bool → Hp → Prop} (h:tP T kB (ftOr c d) σ H Q):tOr (tP T kB c) (tP T kB d) σ H Q := by
  obtain ⟨W,O,env,b,E,e,q⟩ := h
  unfold ftOr at e
  cases e1:c env with
  | none => rw [e1] at e; cases e
  | some x =>
    rw [e1] at e
    refine ⟨W,O,env,x,E,e1,fun v H' s r => ?_⟩
    cases r
    cases x with
    | false => exact ⟨W,O,env,b,E.mono s,e,fun v2 H2 s2 r2 => q v2 H2 (s.trans s2) r2⟩
    | true => cases e; exact q _ H' s rfl
theorem tP_not {Q:VK} (h:tP T (kD T) (feNot f) σ H Q):tNotV (tP T (kD T) f) σ H Q :=
  tP_1 (ρ := kD T) (γ3 := V) (r := fun x H1 (Q:VK) => ∃ c,x = .bl c ∧ Q (.bl (!c)) H1) (fun A H0 H x v d Q nw r e k => by
    cases e1:blD x with
    | none => rw [e1] at e; cases e
    | some b =>
      rw [e1] at e; cases e
      cases blD_some e1
      exact ⟨b,Rep.bl_ r,k _ H (Same.refl _) (Rep.bl _)⟩) h
theorem tP_and {Q:VK} (h:tP T (kD T) (feAnd f g) σ H Q):tAndV (tP T (kD T) f) (tP T (kD T) g) σ H Q := by
  obtain ⟨W,O,env,d,E,e,q⟩ := h
  unfold feAnd at e
  cases e1:f env with
  | none => rw [e1] at e; cases e
  | some x =>
    rw [e1] at e
    dsimp only [Option.bind_some] at e
    cases e2:blD x with
    | none => rw [e2] at e; cases e
    | some b =>
      rw [e2] at e
      cases blD_some e2
      refine ⟨W,O,env,_,E,e1,fun v H' s r => ⟨b,Rep.bl_ r, ?_⟩⟩
      cases b with
      | true => exact ⟨W,O,env,d,E.mono s,e,fun v2 H2 s2 r2 => q v2 H2 (s.trans s2) r2⟩
      | false => cases e; exact q _ H' s (Rep.bl _)
theorem tP_or {Q:VK} (h:tP T (kD T) (feOr f g) σ H Q):tOrV (tP T (kD T) f) (tP T (kD T) g) σ H Q := by
  obtain ⟨W,O,env,d,E,e,q⟩ := h
  unfold feOr at e
  cases e1:f env with
  | none => rw [e1] at e; cases e
  | some x =>
    rw [e1] at e
    dsimp only [Option.bind_some] at e
    cases e2:blD x with
    | none => rw [e2] at e; cases e
    | some b =>
      rw [e2] at e
      cases blD_some e2
      refine ⟨W,O,env,_,E,e1,fun v H' s r => ⟨b,Rep.bl_ r, ?_⟩⟩
      cases b with
      | false => exact ⟨W,O,env,d,E.mono s,e,fun v2 H2 s2 r2 => q v2 H2 (s.trans s2) r2⟩
      | true => cases e; exact q _ H' s (Rep.bl _)
theorem tP_if {α:Type} {ρ:RK α V} [Kd ρ] {f g:FP α} {Q:VK} (h:tP T ρ (feIf c f g) σ H Q):tIf (tP T kB c) (tP T ρ f) (tP T ρ g) σ H Q := by
  obtain ⟨W,O,env,d,E,e,q⟩ := h
  unfold feIf at e
  cases e1:c env with
  | none => rw [e1] at e; cases e
  | some b =>
    rw [e1] at e
    refine ⟨W,O,env,b,E,e1,fun v H' s r => ?_⟩
    cases r
    have q' : ∀ v2 H2,Same H' H2 → ρ (Cl W O) H' H2 d v2 → Q v2 H2 := fun v2 H2 s2 r2 => q v2 H2 (s.trans s2) (Kd.an _ _ _ _ _ _ s r2)
    cases b with
    | true => exact ⟨W,O,env,d,E.mono s,e,q'⟩
    | false => exact ⟨W,O,env,d,E.mono s,e,q'⟩
end
end DL
end
section
set_option Elab.async false
set_option linter.all false
namespace DL
open PySem L2
section
variable {T:Tx}
noncomputable def rCatR (K:PySem.W.Frag):R2 := fun x y H Q => ∃ l b xs zs,x = .ref l ∧ y = .ref b ∧ SqL K H l xs ∧ SqL K H b zs ∧ xs.length + zs.length ≤ sizeLine ∧ ∀ p,H p = none → Q (.ref p) (upd H p (.lst (xs ++ zs)))
noncomputable def rAddS:R2 := fun x y H Q => ∃ i j,x = .str i ∧ y = .str j ∧ i.length + j.length ≤ sizeLine ∧ Q (.str (i ++ j)) H
noncomputable def rAddD (K:PySem.W.Frag):R2 := fun x y H Q => rI0 (fun i j => .int (i + j)) x y H Q ∨ rAddS x y H Q ∨ rCatR K x y H Q ∨ rCatT K x y H Q
noncomputable def addD:D → D → Option D
  | .int i,.int j => some (.int (i + j))
  | .str a,.str b => if a.length + b.length ≤ 1000000 then some (.str (a ++ b)) else none
  | .lst xs,.lst ys => if xs.length + ys.length ≤ 1000000 then some (.lst (xs ++ ys)) else none
  | .tup (x :: xs),.tup ys => if (x :: xs).length + ys.length ≤ 1000000 then some (.tup ((x :: xs) ++ ys)) else none
  | _,_ => none
noncomputable def addF:D → D → Option (List D)
  | .lst xs,.lst ys => if xs.length + ys.length ≤ 1000000 then some (xs ++ ys) else none
  | _,_ => none
theorem mkS_app (a b:List Nat):mkS (a ++ b) = mkS a ++ mkS b := by
  show (⟨(a ++ b).toArray⟩:Str) = ⟨a.toArray ++ b.toArray⟩
  simp
theorem snd_add (A:Addr → Prop) (H0 H:Hp) (x y:D) (v u:V) (d:D) (Q:VK) (nw:Nw A H) (rx:kR T A H0 H x v) (ry:kR T A H0 H y u) (e:addD x y = some d)
    (k : ∀ w H',Same H H' → kD T A H H' d w → Q w H'):rAddD T.K v u H Q := by
  unfold addD at e
  split at e
  · cases e; cases RepR.int_ rx; cases RepR.int_ ry
    exact .inl ⟨_,_,rfl,rfl,k _ H (Same.refl _) (Rep.int _)⟩
  · rename_i i j
    cases RepR.str_ rx; cases RepR.str_ ry
    by_cases c:i.length + j.length ≤ 1000000
    · rw [if_pos c] at e; cases e
      exact .inr (.inl ⟨_,_,rfl,rfl,small (by rw [mkS_len,mkS_len]; exact c),k _ H (Same.refl _) (by rw [← mkS_app]; exact Rep.str _)⟩)
    · rw [if_neg c] at e; cases e
  · rename_i xs ys
    by_cases c:xs.length + ys.length ≤ 1000000
    · rw [if_pos c] at e; cases e
      obtain ⟨l,vs,rfl,hl,rl⟩ := RepR.lst_ rx
      obtain ⟨b,us,rfl,hb,rb⟩ := RepR.lst_ ry
      exact .inr (.inr (.inl ⟨l,b,vs,us,rfl,rfl,hl,hb,small (by rw [← rl.length, ← rb.length]; exact c),fun p hp => k _ _ (same_new hp _) (Rep.newL (rl.append rb) hp (nw p hp))⟩))
    · rw [if_neg c] at e; cases e
  · rename_i x0 xs ys
    by_cases c:(x0 :: xs).length + ys.length ≤ 1000000
    · rw [if_pos c] at e; cases e
      obtain ⟨l,vs,rfl,hl,rl⟩ := RepR.tup_ rx
      obtain ⟨b,us,rfl,hb,rb⟩ := RepR.tup_ ry
      have ne:vs ≠ [] := by
        have := rl.length
        intro z; subst z; simp at this
      refine .inr (.inr (.inr ⟨l,b,vs,us,rfl,rfl,hl,hb,ne,small (by rw [← rl.length, ← rb.length]; exact c),fun e0 => k _ _ (Same.refl _) ?_,fun _ p hp => k _ _ (same_new hp _) (Rep.newT (rl.append rb) hp)⟩))
      subst e0
      exact Rep.tup hl (by simpa using rl.append rb)
    · rw [if_neg c] at e; cases e
  · cases e
theorem snd_addF (A:Addr → Prop) (H0 H:Hp) (x y:D) (v u:V) (d:List D) (Q:VK) (nw:Nw A H) (rx:kR T A H0 H x v) (ry:kR T A H0 H y u) (e:addF x y = some d)
    (k : ∀ w H',Same H H' → kF T A H H' d w → Q w H'):rAddD T.K v u H Q := by
  unfold addF at e
  split at e
  · rename_i xs ys
    by_cases c:xs.length + ys.length ≤ 1000000
    · rw [if_pos c] at e; cases e
      obtain ⟨l,vs,rfl,hl,rl⟩ := RepR.lst_ rx
      obtain ⟨b,us,rfl,hb,rb⟩ := RepR.lst_ ry
      exact .inr (.inr (.inl ⟨l,b,vs,us,rfl,rfl,hl,hb,small (by rw [← rl.length, ← rb.length]; exact c),fun p hp => k _ _ (same_new hp _) (kF_new (rl.append rb) hp)⟩))
    · rw [if_neg c] at e; cases e
  · cases e
noncomputable def intD (g:Int → Int → Option D):D → D → Option D
  | .int i,.int j => g i j
  | _,_ => none
noncomputable def flat:D → Option V
  | .non => some .non
  | .bl b => some (.bl b)
  | .int i => some (.int i)
  | .str x => some (.str (mkS x))
  | _ => none
theorem flat_rep {A A':Addr → Prop} {H H':Hp} {d:D} {v w:V} (h:flat d = some v) (r:RepR T A H d w):w = v ∧ flatV v = true ∧ Rep T A' H' d v := by
  cases d with
  | non => cases h; exact ⟨RepR.non_ r,rfl,.non⟩
  | bl b => cases h; exact ⟨RepR.bl_ r,rfl,.bl _⟩
  | int b => cases h; exact ⟨RepR.int_ r,rfl,.int _⟩
  | str b => cases h; exact ⟨RepR.str_ r,rfl,.str _⟩
  | _ => cases h
theorem flat_of {A:Addr → Prop} {H:Hp} {d:D} {v:V} (h:flat d = some v):Rep T A H d v := by
  cases d with
  | non => cases h; exact .non
  | bl b => cases h; exact .bl _
  | int b => cases h; exact .int _
  | str b => cases h; exact .str _
  | _ => cases h
theorem snd_int {C:Int → Int → Prop} {gv:Int → Int → V} {g:Int → Int → Option D} (hg : ∀ i j d,g i j = some d → C i j ∧ flat d = some (gv i j))
    (A:Addr → Prop) (H0 H:Hp) (x y:D) (v u:V) (d:D) (Q:VK) (nw:Nw A H) (rx:kD T A H0 H x v) (ry:kD T A H0 H y u) (e:intD g x y = some d)
    (k : ∀ w H',Same H H' → kD T A H H' d w → Q w H'):rI C gv v u H Q := by
  unfold intD at e
  split at e
  · rename_i i j
    cases Rep.int_ rx; cases Rep.int_ ry
    obtain ⟨h1,h2⟩ := hg i j d e
    exact ⟨i,j,rfl,rfl,h1,k _ H (Same.refl _) (flat_of h2)⟩
  · cases e
theorem snd_int0 {gv:Int → Int → V} {g:Int → Int → D} (hg : ∀ i j,flat (g i j) = some (gv i j))
    (A:Addr → Prop) (H0 H:Hp) (x y:D) (v u:V) (d:D) (Q:VK) (nw:Nw A H) (rx:kD T A H0 H x v) (ry:kD T A H0 H y u) (e:intD (fun i j => some (g i j)) x y = some d)
    (k : ∀ w H',Same H H' → kD T A H H' d w → Q w H'):rI0 gv v u H Q := by
  obtain ⟨i,j,h1,h2,_,h3⟩ := snd_int (T := T) (C := fun _ _ => True) (gv := gv) (g := fun i j => some (g i j)) (fun i j d e => by cases e; exact ⟨True.intro,hg i j⟩) A H0 H x y v u d Q nw rx ry e k
  exact ⟨i,j,h1,h2,h3⟩
noncomputable def ixD:D → D → Option D
  | .lst ds,.int i => atI ds i
  | .tup ds,.int i => atI ds i
  | .str z,.int i => if z.length ≤ 1000000 then (atI z i).map fun c => .str [c] else none
  | _,_ => none
theorem RepL.at {A:Addr → Prop} {H:Hp} {ds:List D} {vs:List V} {i:Int} {d:D} (r:RepL T A H ds vs) (e:atI ds i = some d) : ∃ v,atI vs i = some v ∧ Rep T A H d v := by
  unfold atI at e ⊢
  rw [← r.length]
  cases q:ixN ds.length i with
  | none => rw [q] at e; cases e
  | some j =>
    rw [q] at e
    exact r.get e
theorem snd_ix (A:Addr → Prop) (H0 H:Hp) (x y:D) (v u:V) (d:D) (Q:VK) (nw:Nw A H) (rx:kR T A H0 H x v) (ry:kD T A H0 H y u) (e:ixD x y = some d)
    (k : ∀ w H',Same H H' → kD T A H H' d w → Q w H'):rIx T.K v u H Q := by
  unfold ixD at e
  split at e
  · rename_i ds i
    cases Rep.int_ ry
    obtain ⟨l,vs,rfl,hl,rl⟩ := RepR.lst_ rx
    obtain ⟨w,e2,r2⟩ := rl.at e
    exact .inl ⟨l,vs,i,w,rfl,rfl,hl,e2,k _ H (Same.refl _) r2⟩
  · rename_i ds i
    cases Rep.int_ ry
    obtain ⟨l,vs,rfl,hl,rl⟩ := RepR.tup_ rx
    obtain ⟨w,e2,r2⟩ := rl.at e
    exact .inr (.inl ⟨l,vs,i,w,rfl,rfl,hl,e2,k _ H (Same.refl _) r2⟩)
  · rename_i z i
    cases RepR.str_ rx; cases Rep.int_ ry
    by_cases c:z.length ≤ 1000000
    · rw [if_pos c] at e
      cases e1:atI z i with
      | none => rw [e1] at e; cases e
      | some d' =>
        rw [e1] at e; cases e
        exact .inr (.inr ⟨_,i,d',rfl,rfl,small (by rw [mkS_len]; exact c),by simpa using e1,k _ H (Same.refl _) (Rep.str [d'])⟩)
    · rw [if_neg c] at e; cases e
  · cases e
noncomputable def flats:List D → Option (List V)
  | [] => some []
  | d :: ds => (flat d).bind fun v => (flats ds).bind fun r => some (v :: r)
theorem flats_rep {A:Addr → Prop} {H:Hp} : ∀ {ds:List D} {vs ws:List V},flats ds = some vs → RepL T A H ds ws → ws = vs ∧ vs.all flatV = true
  | [],_,_,h,r => by
    cases h
    exact ⟨r.nil_,rfl⟩
  | d :: ds,_,_,h,r => by
    unfold flats at h
    cases e1:flat d with
    | none => rw [e1] at h; cases h
    | some v =>
      rw [e1] at h
      cases e2:flats ds with
      | none => rw [e2] at h; cases h
      | some r' =>
        rw [e2] at h; cases h
        obtain ⟨x,t,rfl,h1,h2⟩ := r.cons_
        obtain ⟨h3,h4,_⟩ := flat_rep (A' := A) (H' := H) e1 (RepR.of h1)
        obtain ⟨h5,h6⟩ := flats_rep e2 h2
        subst h3 h5
        exact ⟨rfl,by rw [List.all_cons,h4,h6]; rfl⟩
noncomputable def eqFl:D → D → Bool
  | .non,.non => true
  | .bl a,.bl b => a == b
  | .bl a,.int b => (if a then 1 else 0) == b
  | .int a,.bl b => a == (if b then 1 else 0)
  | .int a,.int b => a == b
  | .str a,.str b => a == b
  | _,_ => false
theorem eqFl_eqV {x y:D} {v u:V} (h1:flat x = some v) (h2:flat y = some u):eqFl x y = eqV v u := by
  have hs : ∀ a b:List Nat,(a == b) = (mkS a == mkS b) := fun a b => by
    by_cases h:a = b
    · subst h; simp
    · rw [beq_eq_false_iff_ne.mpr h,beq_eq_false_iff_ne.mpr fun e => h (mkS_inj e)]
  cases x <;> cases h1 <;> cases y <;> cases h2 <;> first | rfl | exact hs _ _
noncomputable def inFl (x:D) (ds:List D):Bool := ds.any fun y => eqFl y x
theorem inFl_inV {x:D} {v:V} (h1:flat x = some v) : ∀ {ds:List D} {vs:List V},flats ds = some vs → inFl x ds = inV v vs
  | [],_,h => by cases h; rfl
  | d :: ds,_,h => by
    unfold flats at h
    cases e1:flat d with
    | none => rw [e1] at h; cases h
    | some w =>
      rw [e1] at h
      cases e2:flats ds with
      | none => rw [e2] at h; cases h
      | some r' =>
        rw [e2] at h; cases h
        have ih := inFl_inV h1 e2
        unfold inFl inV at ih ⊢
        rw [List.any_cons,List.any_cons,eqFl_eqV e1 h1,ih]
noncomputable def isFlat (d:D):Bool := (flat d).isSome
theorem isFlat_some {d:D} (h:isFlat d = true) : ∃ v,flat d = some v := Option.isSome_iff_exists.mp h
theorem flats_some : ∀ {ds:List D},ds.all isFlat = true → ∃ vs,flats ds = some vs
  | [],_ => ⟨[],rfl⟩
  | d :: ds,h => by
    rw [List.all_cons,Bool.and_eq_true] at h
    obtain ⟨v,e⟩ := isFlat_some h.1
    obtain ⟨vs,e2⟩ := flats_some h.2
    exact ⟨v :: vs,by unfold flats; rw [e,e2]; rfl⟩
noncomputable def rInD (K:PySem.W.Frag) (neg:Bool):R2 := fun x y H Q => (∃ (c:Nat) (j:List Nat),x = .str (mkS [c]) ∧ y = .str (mkS j) ∧ Q (.bl (if neg then !(j.contains c) else j.contains c)) H) ∨ rIn K neg x y H Q
noncomputable def inD (neg:Bool):D → D → Option D
  | .str [c],.str j => some (.bl (if neg then !(j.contains c) else j.contains c))
  | x,.tup ds => if isFlat x && ds.all isFlat then some (.bl (if neg then !inFl x ds else inFl x ds)) else none
  | x,.lst ds => if isFlat x && ds.all isFlat then some (.bl (if neg then !inFl x ds else inFl x ds)) else none
  | _,_ => none
theorem snd_in (neg:Bool) (A:Addr → Prop) (H0 H:Hp) (x y:D) (v u:V) (d:D) (Q:VK) (nw:Nw A H) (rx:kD T A H0 H x v) (ry:kR T A H0 H y u) (e:inD neg x y = some d)
    (k : ∀ w H',Same H H' → kD T A H H' d w → Q w H'):rInD T.K neg v u H Q := by
  unfold inD at e
  split at e
  · rename_i c j
    cases Rep.str_ rx; cases RepR.str_ ry; cases e
    exact .inl ⟨c,j,rfl,rfl,k _ H (Same.refl _) (Rep.bl _)⟩
  · rename_i ds
    by_cases c:(isFlat x && ds.all isFlat) = true
    · rw [if_pos c] at e; cases e
      rw [Bool.and_eq_true] at c
      obtain ⟨w,e1⟩ := isFlat_some c.1
      obtain ⟨ws,e2⟩ := flats_some c.2
      obtain ⟨l,vs,rfl,hl,rl⟩ := RepR.tup_ ry
      obtain ⟨h3,h4,_⟩ := flat_rep (A' := A) (H' := H) e1 (RepR.of rx)
      obtain ⟨h5,h6⟩ := flats_rep e2 rl
      subst h3 h5
      rw [inFl_inV e1 e2] at k
      exact .inr ⟨l,vs,rfl,.inr hl,h4,h6,k _ H (Same.refl _) (Rep.bl _)⟩
    · rw [if_neg c] at e; cases e
  · rename_i ds
    by_cases c:(isFlat x && ds.all isFlat) = true
    · rw [if_pos c] at e; cases e
      rw [Bool.and_eq_true] at c
      obtain ⟨w,e1⟩ := isFlat_some c.1
      obtain ⟨ws,e2⟩ := flats_some c.2
      obtain ⟨l,vs,rfl,hl,rl⟩ := RepR.lst_ ry
      obtain ⟨h3,h4,_⟩ := flat_rep (A' := A) (H' := H) e1 (RepR.of rx)
      obtain ⟨h5,h6⟩ := flats_rep e2 rl
      subst h3 h5
      rw [inFl_inV e1 e2] at k
      exact .inr ⟨l,vs,rfl,.inl hl,h4,h6,k _ H (Same.refl _) (Rep.bl _)⟩
    · rw [if_neg c] at e; cases e
  · cases e
noncomputable def kRA (T:Tx):RK (List D) (List V) := fun A _ H ds vs => match ds with
  | [d] => ∃ v,vs = [v] ∧ RepR T A H d v
  | ds => RepL T A H ds vs
noncomputable instance:Kd (kRA T) := ⟨fun A _ H H' ds vs s h => by
    unfold kRA at h ⊢
    split at h
    · obtain ⟨v,e,r⟩ := h; exact ⟨v,e,RepR.mono s r⟩
    · exact RepL.mono s (fun _ z => z) h,fun _ _ _ _ _ _ _ h => h⟩
noncomputable def lenD:D → Option D
  | .lst ds => some (.int ds.length)
  | .tup ds => some (.int ds.length)
  | .str z => if z.length ≤ 1000000 then some (.int z.length) else none
  | _ => none
noncomputable def faR (f:FE):FA := fun env => (f env).map fun d => [d]
theorem tP_one {f:FE} {σ:St} {H:Hp} {Q:List V → Hp → Prop} (h:tP T (kRA T) (faR f) σ H Q):tCons (tP T (kR T) f) tNil σ H Q := by
  obtain ⟨W,O,env,ds,E,e,q⟩ := h
  unfold faR at e
  cases e1:f env with
  | none => rw [e1] at e; cases e
  | some x =>
    rw [e1] at e; cases e
    exact ⟨W,O,env,x,E,e1,fun v H1 s1 r1 => q [v] H1 s1 ⟨v,rfl,r1⟩⟩
noncomputable def of1 {α:Type} (F:D → Option α):List D → Option α
  | [d] => F d
  | _ => none
theorem snd_one {α:Type} {ρ3:RK α V} {F:D → Option α} {r:List V → Hp → VK → Prop}
    (snd : ∀ (A:Addr → Prop) (H0 H:Hp) (x:D) (v:V) (d : α) (Q:VK),Nw A H → kR T A H0 H x v → F x = some d → (∀ w H',Same H H' → ρ3 A H H' d w → Q w H') → r [v] H Q)
    (A:Addr → Prop) (H0 H:Hp) (ds:List D) (vs:List V) (d : α) (Q:VK) (nw:Nw A H) (rr:kRA T A H0 H ds vs) (e:of1 F ds = some d) (k : ∀ w H',Same H H' → ρ3 A H H' d w → Q w H'):r vs H Q := by
  unfold of1 at e
  split at e
  · obtain ⟨v,rfl,h⟩ := rr
    exact snd A H0 H _ v d Q nw h e k
  · cases e
noncomputable def rLen (K:PySem.W.Frag):List V → Hp → VK → Prop := fun xs H Q => ∃ x n,xs = [x] ∧ LenV K x H n ∧ Q (.int n) H
theorem snd_len (A:Addr → Prop) (H0 H:Hp) (x:D) (v:V) (d:D) (Q:VK) (nw:Nw A H) (r:kR T A H0 H x v) (e:lenD x = some d) (k : ∀ w H',Same H H' → kD T A H H' d w → Q w H'):rLen T.K [v] H Q := by
  unfold lenD at e
  split at e
  · cases e
    obtain ⟨l,xs,rfl,hl,rl⟩ := RepR.lst_ r
    exact ⟨_,xs.length,rfl,.inl ⟨xs,hl,rfl⟩,k _ H (Same.refl _) (by rw [rl.length]; exact Rep.int _)⟩
  · cases e
    obtain ⟨l,xs,rfl,hl,rl⟩ := RepR.tup_ r
    exact ⟨_,xs.length,rfl,.inr ⟨xs,hl,rfl⟩,k _ H (Same.refl _) (by rw [rl.length]; exact Rep.int _)⟩
  · rename_i z
    by_cases c:z.length ≤ 1000000
    · rw [if_pos c] at e; cases e
      cases RepR.str_ r
      exact ⟨_,z.length,rfl,⟨small (by rw [mkS_len]; exact c),(mkS_len z).symm⟩,k _ H (Same.refl _) (Rep.int _)⟩
    · rw [if_neg c] at e; cases e
  · cases e
noncomputable def rToL (K:PySem.W.Frag):List V → Hp → VK → Prop := fun xs H Q => ∃ p ys,xs = [.ref p] ∧ (SqL K H p ys ∨ SqT K H p ys) ∧ ∀ l,H l = none → Q (.ref l) (upd H l (.lst ys))
noncomputable def rToT (K:PySem.W.Frag):List V → Hp → VK → Prop := fun xs H Q => ∃ p ys,xs = [.ref p] ∧ ((SqL K H p ys ∧ ∀ l,H l = none → Q (.ref l) (upd H l (.tup ys))) ∨ (SqT K H p ys ∧ Q (.ref p) H))
noncomputable def seqD:D → Option (List D)
  | .lst ds => some ds
  | .tup ds => some ds
  | _ => none
noncomputable def toTD:D → Option D
  | .lst ds => some (.tup ds)
  | .tup ds => some (.tup ds)
  | _ => none
theorem snd_toL (A:Addr → Prop) (H0 H:Hp) (x:D) (v:V) (d:List D) (Q:VK) (nw:Nw A H) (r:kR T A H0 H x v) (e:seqD x = some d) (k : ∀ w H',Same H H' → kF T A H H' d w → Q w H'):rToL T.K [v] H Q := by
  unfold seqD at e
  split at e
  · cases e
    obtain ⟨l,xs,rfl,hl,rl⟩ := RepR.lst_ r
    exact ⟨l,xs,rfl,.inl hl,fun p hp => k _ _ (same_new hp _) (kF_new rl hp)⟩
  · cases e
    obtain ⟨l,xs,rfl,hl,rl⟩ := RepR.tup_ r
    exact ⟨l,xs,rfl,.inr hl,fun p hp => k _ _ (same_new hp _) (kF_new rl hp)⟩
  · cases e
theorem snd_toT (A:Addr → Prop) (H0 H:Hp) (x:D) (v:V) (d:D) (Q:VK) (nw:Nw A H) (r:kR T A H0 H x v) (e:toTD x = some d) (k : ∀ w H',Same H H' → kD T A H H' d w → Q w H'):rToT T.K [v] H Q := by
  unfold toTD at e
  split at e
  · cases e
    obtain ⟨l,xs,rfl,hl,rl⟩ := RepR.lst_ r
    exact ⟨l,xs,rfl,.inl ⟨hl,fun p hp => k _ _ (same_new hp _) (Rep.newT rl hp)⟩⟩
  · cases e
    obtain ⟨l,xs,rfl,hl,rl⟩ := RepR.tup_ r
    exact ⟨l,xs,rfl,.inr ⟨hl,k _ _ (Same.refl _) (Rep.tup hl rl)⟩⟩
  · cases e
noncomputable def cutD {α:Type} (xs:List α) (lo hi:Option Int):List α := (xs.drop (HT.sIx xs.length 0 lo)).take (HT.sIx xs.length xs.length hi - HT.sIx xs.length 0 lo)
noncomputable abbrev FO := FP (Option Int)
noncomputable def intO:D → Option (Option Int)
  | .int i => some (some i)
  | _ => none
noncomputable def foNone:FO := fun _ => some none
noncomputable def foSome (f:FE):FO := fp1 intO f
noncomputable def slD (x:D) (lo hi:Option Int):Option D := match x with
  | .lst ds => some (.lst (cutD ds lo hi))
  | .tup ds => if HT.sIx ds.length 0 lo = 0 ∧ HT.sIx ds.length ds.length hi = ds.length then none else some (.tup (cutD ds lo hi))
  | .str z => if z.length ≤ 1000000 then some (.str (cutD z lo hi)) else none
  | _ => none
noncomputable def slF (x:D) (lo hi:Option Int):Option (List D) := match x with
  | .lst ds => some (cutD ds lo hi)
  | _ => none
noncomputable def feSl {α:Type} (F:D → Option Int → Option Int → Option α) (f:FE) (l h:FO):FP α := fun env => (f env).bind fun x => (l env).bind fun lo => (h env).bind fun hi => F x lo hi
noncomputable def rSlS:V → Option Int → Option Int → Hp → VK → Prop := fun x lo hi H Q => ∃ z:List Nat,x = .str (mkS z) ∧ z.length ≤ 1000000 ∧ Q (.str (mkS (cutD z lo hi))) H
noncomputable def rSlD (K:PySem.W.Frag):V → Option Int → Option Int → Hp → VK → Prop := fun x lo hi H Q => rSlL K x lo hi H Q ∨ rSlT K x lo hi H Q ∨ rSlS x lo hi H Q
variable {σ:St} {H:Hp} {f:FE}
theorem tPO_none {Q:Option Int → Hp → Prop} (h:tP T kO foNone σ H Q):tNoPart σ H Q := by
  obtain ⟨W,O,env,i,E,e,q⟩ := h
  cases e
  exact q none H (Same.refl _) rfl
theorem tPO_some {Q:Option Int → Hp → Prop} (h:tP T kO (foSome f) σ H Q):tPart (tP T (kD T) f) σ H Q :=
  tP_1 (ρ := kD T) (ρ3 := kO) (r := fun x H1 Q => ∃ i,x = .int i ∧ Q (some i) H1) (fun A H0 H x v d Q nw r e k => by
    cases x with
    | int j => cases e; exact ⟨j,Rep.int_ r,k _ H (Same.refl _) rfl⟩
    | _ => cases e) h
theorem RepL.cut {A:Addr → Prop} {ds:List D} {vs:List V} (lo hi:Option Int) (r:RepL T A H ds vs):RepL T A H (cutD ds lo hi) (cutV vs lo hi) := by
  unfold cutD cutV
  rw [← r.length]
  exact (r.drop _).take _
theorem tP_slG {α:Type} {ρ3:RK α V} [Kd ρ3] {F:D → Option Int → Option Int → Option α} {l h:FO} {Q:VK} {r:V → Option Int → Option Int → Hp → VK → Prop}
    (snd : ∀ (A:Addr → Prop) (H0 H:Hp) (x:D) (v:V) (lo hi:Option Int) (d : α) (Q:VK),Nw A H → kR T A H0 H x v → F x lo hi = some d → (∀ w H',Same H H' → ρ3 A H H' d w → Q w H') → r v lo hi H Q)
    (hh:tP T ρ3 (feSl F f l h) σ H Q):tSl r (tP T (kR T) f) (tP T kO l) (tP T kO h) σ H Q := by
  obtain ⟨W,O,env,d,E,e,q⟩ := hh
  unfold feSl at e
  cases e1:f env with
  | none => rw [e1] at e; cases e
  | some x =>
    rw [e1] at e
    dsimp only [Option.bind_some] at e
    cases e2:l env with
    | none => rw [e2] at e; cases e
    | some lo =>
      rw [e2] at e
      dsimp only [Option.bind_some] at e
      cases e3:h env with
      | none => rw [e3] at e; cases e
      | some hi =>
        rw [e3] at e
        dsimp only [Option.bind_some] at e
        refine ⟨W,O,env,x,E,e1,fun v H1 s1 r1 => ⟨W,O,env,lo,E.mono s1,e2,fun lo' H2 s2 c2 => ⟨W,O,env,hi,E.mono (s1.trans s2),e3,fun hi' H3 s3 c3 => ?_⟩⟩⟩
        cases c2; cases c3
        have s := s1.trans (s2.trans s3)
        exact snd (Cl W O) H H3 x v lo hi d Q (fun a n => (E.mono s).newA n) (RepR.mono (s2.trans s3) r1) e fun w H' s4 r4 => q w H' (s.trans s4) (Kd.an _ _ _ _ _ _ s r4)
theorem snd_sl (A:Addr → Prop) (H0 H:Hp) (x:D) (v:V) (lo hi:Option Int) (d:D) (Q:VK) (nw:Nw A H) (r:kR T A H0 H x v) (e:slD x lo hi = some d) (k : ∀ w H',Same H H' → kD T A H H' d w → Q w H'):rSlD T.K v lo hi H Q := by
  unfold slD at e
  split at e
  · cases e
    obtain ⟨a,xs,rfl,hl,rl⟩ := RepR.lst_ r
    exact .inl ⟨a,xs,rfl,hl,fun p hp => k _ _ (same_new hp _) (Rep.newL (rl.cut lo hi) hp (nw p hp))⟩
  · rename_i ds
    by_cases c:HT.sIx ds.length 0 lo = 0 ∧ HT.sIx ds.length ds.length hi = ds.length
    · rw [if_pos c] at e; cases e
    · rw [if_neg c] at e; cases e
      obtain ⟨a,xs,rfl,hl,rl⟩ := RepR.tup_ r
      exact .inr (.inl ⟨a,xs,rfl,hl,by rw [← rl.length]; exact c,fun p hp => k _ _ (same_new hp _) (Rep.newT (rl.cut lo hi) hp)⟩)
  · rename_i z
    by_cases c:z.length ≤ 1000000
    · rw [if_pos c] at e; cases e
      exact .inr (.inr ⟨z,RepR.str_ r,c,k _ H (Same.refl _) (Rep.str _)⟩)
    · rw [if_neg c] at e; cases e
  · cases e
end
end DL
end
section
set_option Elab.async false
set_option linter.all false
namespace DL
open PySem L2
inductive DFl where
  | nx (env:DEnv)
  | bk (env:DEnv)
  | ct (env:DEnv)
  | rt (d:D) (env:DEnv)
  | rf (ds:List D) (env:DEnv)
  | ex (c:Nat) (env:DEnv)
noncomputable abbrev FS := DEnv → Option DFl
noncomputable abbrev XQ := Nat → St → Hp → Prop
noncomputable def EndsR (T:Tx) (X:XQ) (W:Wf) (O:Addr → Prop) (H:Hp) (De:Ends):DFl → Prop
  | .nx env' => ∀ σ' H' O',EnvR T W O' H' env' σ' → Fr O H O' H' → De.nx σ' H'
  | .bk env' => ∀ σ' H' O',EnvR T W O' H' env' σ' → Fr O H O' H' → De.bk σ' H'
  | .ct env' => ∀ σ' H' O',EnvR T W O' H' env' σ' → Fr O H O' H' → De.ct σ' H'
  | .rt d env' => ∀ v σ' H' O',EnvR T W O' H' env' σ' → Fr O H O' H' → Rep T (Cl W O') H' d v → De.rt v H'
  | .rf ds env' => ∀ a xs σ' H' O',EnvR T W O' H' env' σ' → Fr O H O' H' → W.H0 a = none → H' a = some (.lst xs) → RepL T (fun b => W.A b ∧ b ≠ a) H' ds xs → De.rt (.ref a) H'
  | .ex c env' => ∀ σ' H' O',EnvR T W O' H' env' σ' → Fr O H O' H' → X c σ' H'
noncomputable def tDs (T:Tx) (X:XQ) (F:FS):TS := fun De σ H => ∃ W O env fl,EnvR T W O H env σ ∧ F env = some fl ∧ EndsR T X W O H De fl
theorem EndsR.fr {T:Tx} {X:XQ} {W:Wf} {H H1:Hp} {O O1:Addr → Prop} {De:Ends} (f:Fr O H O1 H1) : ∀ {fl:DFl},EndsR T X W O H De fl → EndsR T X W O1 H1 De fl
  | .nx _,h => fun σ' H' O' E g => h σ' H' O' E (f.trans g)
  | .bk _,h => fun σ' H' O' E g => h σ' H' O' E (f.trans g)
  | .ct _,h => fun σ' H' O' E g => h σ' H' O' E (f.trans g)
  | .rt _ _,h => fun v σ' H' O' E g r => h v σ' H' O' E (f.trans g) r
  | .rf _ _,h => fun a xs σ' H' O' E g n e r => h a xs σ' H' O' E (f.trans g) n e r
  | .ex _ _,h => fun σ' H' O' E g => h σ' H' O' E (f.trans g)
noncomputable def fsSeq (F G:FS):FS := fun env => (F env).bind fun r => match r with
  | .nx env' => G env'
  | r => some r
noncomputable def fsNext:FS := fun env => some (.nx env)
noncomputable def fsIf (c:FT) (F G:FS):FS := fun env => (c env).bind fun b => if b = true then F env else G env
noncomputable def fsRet (f:FE):FS := fun env => (f env).map fun d => .rt d env
noncomputable def fsRetF (f:FP (List D)):FS := fun env => (f env).map fun ds => .rf ds env
noncomputable def fsRetO (i:Nat):FS := fun env => match env[i]? with
  | some (.own ds) => some (.rf ds env)
  | _ => none
noncomputable def fsRetN:FS := fun env => some (.rt .non env)
noncomputable def fsSet (i:Nat) (f:FE):FS := fun env => (f env).map fun d => .nx (env.set i (.val d))
noncomputable def fsOwn (i:Nat) (f:FP (List D)):FS := fun env => (f env).map fun ds => .nx (env.set i (.own ds))
noncomputable def fsFrz (i:Nat) (F:FS):FS := fun env => match env[i]? with
  | some (.own ds) => F (env.set i (.val (.lst ds)))
  | _ => none
noncomputable def fsBreak:FS := fun env => some (.bk env)
noncomputable def fsCont:FS := fun env => some (.ct env)
section
variable {T:Tx} {X:XQ} {F G:FS} {f:FE} {De:Ends} {σ:St} {H:Hp}
theorem tDs_seq (h:tDs T X (fsSeq F G) De σ H):tSeq (tDs T X F) (tDs T X G) De σ H := by
  obtain ⟨W,O,env,fl,E,e,q⟩ := h
  unfold fsSeq at e
  cases e1:F env with
  | none => rw [e1] at e; cases e
  | some r =>
    rw [e1] at e
    refine ⟨W,O,env,r,E,e1, ?_⟩
    cases r with
    | nx env' => exact fun σ' H' O' E' g => ⟨W,O',env',fl,E',e,q.fr g⟩
    | bk env' => cases e; exact q
    | ct env' => cases e; exact q
    | rt d env' => cases e; exact q
    | rf d env' => cases e; exact q
    | ex d env' => cases e; exact q
theorem tDs_next (h:tDs T X fsNext De σ H):tNext De σ H := by
  obtain ⟨W,O,env,fl,E,e,q⟩ := h
  cases e
  exact q σ H O E (Fr.refl _ _)
theorem tDs_ret (h:tDs T X (fsRet f) De σ H):tRet (tP T (kD T) f) De σ H := by
  obtain ⟨W,O,env,fl,E,e,q⟩ := h
  unfold fsRet at e
  cases e1:f env with
  | none => rw [e1] at e; cases e
  | some x =>
    rw [e1] at e
    cases e
    exact ⟨W,O,env,x,E,e1,fun v H' s r => q v σ H' O (E.mono s) (Fr.same s) r⟩
theorem tDs_retF {f:FP (List D)} (h:tDs T X (fsRetF f) De σ H):tRet (tP T (kF T) f) De σ H := by
  obtain ⟨W,O,env,fl,E,e,q⟩ := h
  unfold fsRetF at e
  cases e1:f env with
  | none => rw [e1] at e; cases e
  | some x =>
    rw [e1] at e
    cases e
    refine ⟨W,O,env,x,E,e1,fun v H' s r => ?_⟩
    obtain ⟨a,xs,rfl,n,hl,r⟩ := r
    exact q a xs σ H' O (E.mono s) (Fr.same s) (E.fr.dom a n) hl (r.mono (Same.refl _) fun b z => ⟨z.1.1,z.2⟩)
theorem tDs_retO {i:Nat} (h:tDs T X (fsRetO i) De σ H):tRet (tVar i) De σ H := by
  obtain ⟨W,O,env,fl,E,e,q⟩ := h
  unfold fsRetO at e
  split at e
  · rename_i ds es
    cases e
    obtain ⟨a,xs,e1,o,n,hl,r⟩ := E.own es
    exact ⟨.ref a,e1,q a xs σ H O E (Fr.refl _ _) n hl (r.mono (Same.refl _) fun b z => ⟨z.1,fun w => z.2 (w ▸ o)⟩)⟩
  · cases e
theorem tDs_if {c:FT} (h:tDs T X (fsIf c F G) De σ H):tIfS (tP T kB c) (tDs T X F) (tDs T X G) De σ H := by
  obtain ⟨W,O,env,fl,E,e,q⟩ := h
  unfold fsIf at e
  cases e1:c env with
  | none => rw [e1] at e; cases e
  | some b =>
    rw [e1] at e
    refine ⟨W,O,env,b,E,e1,fun v H' s r => ?_⟩
    cases r
    cases b with
    | true => exact ⟨W,O,env,fl,E.mono s,e,q.fr (Fr.same s)⟩
    | false => exact ⟨W,O,env,fl,E.mono s,e,q.fr (Fr.same s)⟩
theorem tDs_set {i:Nat} (h:tDs T X (fsSet i f) De σ H):tAsg (tP T (kD T) f) (gName i) De σ H := by
  obtain ⟨W,O,env,fl,E,e,q⟩ := h
  unfold fsSet at e
  cases e1:f env with
  | none => rw [e1] at e; cases e
  | some x =>
    rw [e1] at e
    cases e
    exact ⟨W,O,env,x,E,e1,fun v H' s r => q (σ.set i (some v)) H' O ((E.mono s).set i r) (Fr.same s)⟩
theorem EnvR.take {W:Wf} {O:Addr → Prop} {env:DEnv} {H':Hp} (E:EnvR T W O H env σ) (s:Same H H') {a:Addr} {xs:List V} (n:H a = none) (hl:H' a = some (.lst xs)) :
    EnvR T W (fun b => O b ∨ b = a) H' env σ := by
  have E1 := E.claim n (o := .lst xs) trivial
  have s1:Same (L2.upd H a (.lst xs)) H' := fun b u h => by
    by_cases z:b = a
    · subst z; rw [upd_same] at h; cases h; exact hl
    · rw [upd_ne z] at h; exact s b u h
  exact E1.mono s1
theorem tDs_own {i:Nat} {f:FP (List D)} (h:tDs T X (fsOwn i f) De σ H):tAsg (tP T (kF T) f) (gName i) De σ H := by
  obtain ⟨W,O,env,fl,E,e,q⟩ := h
  unfold fsOwn at e
  cases e1:f env with
  | none => rw [e1] at e; cases e
  | some x =>
    rw [e1] at e
    cases e
    refine ⟨W,O,env,x,E,e1,fun v H' s r => ?_⟩
    obtain ⟨a,xs,rfl,n,hl,r⟩ := r
    have E' := E.take s n hl
    have hoa : ¬ O a := fun z => by have := E.mu a z; rw [n] at this; exact this
    refine q (σ.set i (some (.ref a))) H' (fun b => O b ∨ b = a) (E'.setS i ⟨a,xs,rfl,.inr rfl,E.fr.dom a n,hl,r.mono (Same.refl _) fun b z => ⟨z.1.1,fun w => w.elim z.1.2 z.2⟩⟩ ?_) ⟨fun b o h _ => s b o h,fun b z => z.elim .inl fun w => .inr (w ▸ n),fun b h => s.free h⟩
    intro _ j t b hij et ot eb ej
    cases eb
    obtain ⟨c,ec,oc⟩ := (E.slot j t et).at_own ot
    rw [ej] at ec
    cases ec
    exact hoa oc
theorem tDs_frz {i:Nat} (h:tDs T X (fsFrz i F) De σ H):tDs T X F De σ H := by
  obtain ⟨W,O,env,fl,E,e,q⟩ := h
  unfold fsFrz at e
  split at e
  · rename_i ds es
    obtain ⟨a,xs,e1,o,n,hl,r⟩ := E.own es
    have hil:i < env.length := (List.getElem?_eq_some_iff.mp es).1
    have f:Fr O H (fun b => O b ∧ b ≠ a) H := ⟨fun b o h _ => h,fun b z => .inl z.1,fun b h => h⟩
    have k:Kp (Cl W O) (Cl W fun b => O b ∧ b ≠ a) O H H := E.kp f
    refine ⟨W,fun b => O b ∧ b ≠ a,_,fl,⟨E.fr.trans f,E.new,fun b z => E.mu b z.1,fun j t et => ?_,fun j l t u b e2 e3 o2 o3 s2 s3 => ?_,by simp [E.len]⟩,e,q.fr f⟩
    · rcases set_slot et with ⟨rfl,rfl,_⟩ | ⟨hij,et⟩
      · refine ⟨.ref a,by rw [e1]; rfl,Rep.lst (.inl ⟨.inl hl,E.new a n,fun z => z.2 rfl⟩) (r.kp k)⟩
      · have hs := E.slot j t et
        cases t with
        | no => trivial
        | val d => obtain ⟨u,eu,ru⟩ := hs; exact ⟨u,eu,ru.kp k⟩
        | own es' =>
          obtain ⟨b,ys,eb,ob,nb,hb,rb⟩ := hs
          exact ⟨b,ys,eb,⟨ob,fun z => by subst z; exact hij (E.inj i j _ _ b es et rfl rfl e1 (join_some eb))⟩,nb,hb,rb.kp k⟩
        | red es' => obtain ⟨b,ys,eb,ob,nb,rb⟩ := hs; exact ⟨b,ys,eb,ob,nb,rb.kp k⟩
        | obj c ks es' =>
          obtain ⟨b,C,dx,fs,eb,ob,xb,cb,hb,nb,rb⟩ := hs
          exact ⟨b,C,dx,fs,eb,⟨ob,fun z => by subst z; exact hij (E.inj i j _ _ b es et rfl rfl e1 (join_some eb))⟩,xb,cb,hb,nb,rb.kp k⟩
    · have old : ∀ {j:Nat} {u:Slot},(env.set i (Slot.val (.lst ds)))[j]? = some u → u.isOwn = true → env[j]? = some u := fun {j u} e' o' => by
        rcases set_slot e' with ⟨_,rfl,_⟩ | ⟨_,e'⟩
        · cases o'
        · exact e'
      exact E.inj j l t u b (old e2 o2) (old e3 o3) o2 o3 s2 s3
  · cases e
noncomputable def fsAug (i:Nat) (F:D → D → Option D) (f:FE):FS := fun env => (feName i env).bind fun x => (f env).bind fun y => (F x y).map fun d => .nx (env.set i (.val d))
theorem tDs_aug {i:Nat} {Fo:D → D → Option D} {ti:V → V → Hp → VK → Prop}
    (snd : ∀ (A:Addr → Prop) (H:Hp) (x y:D) (v u:V) (d:D) (Q:VK),Nw A H → Rep T A H x v → Rep T A H y u → Fo x y = some d → (∀ w H',Same H H' → Rep T A H' d w → Q w H') → ti v u H Q)
    (h:tDs T X (fsAug i Fo f) De σ H) : ∃ x, σ[i]? = some (some x) ∧ tP T (kD T) f σ H fun y H1 => ti x y H1 fun z H2 => De.nx (σ.set i (some z)) H2 := by
  obtain ⟨W,O,env,fl,E,e,q⟩ := h
  unfold fsAug feName at e
  split at e
  · rename_i d es
    obtain ⟨v,e1,r⟩ := E.val es
    dsimp only [Option.bind_some] at e
    cases e2:f env with
    | none => rw [e2] at e; cases e
    | some y =>
      rw [e2] at e
      dsimp only [Option.bind_some] at e
      cases e3:Fo d y with
      | none => rw [e3] at e; cases e
      | some z =>
        rw [e3] at e
        cases e
        refine ⟨v,e1,W,O,env,y,E,e2,fun u H1 s1 r1 => ?_⟩
        refine snd (Cl W O) H1 d y v u z _ (fun a n => (E.mono s1).newA n) (Rep.mono s1 (fun _ z => z) r) r1 e3 fun w H' s2 r2 => ?_
        exact q _ H' O ((E.mono (s1.trans s2)).set i r2) (Fr.same (s1.trans s2))
  · cases e
noncomputable def fsMutG {α:Type} (i:Nat) (G:List D → α → Option (List D)) (f:FP α):FS := fun env => match env[i]? with
  | some (.own ds) => (f env).bind fun x => (G ds x).map fun ds' => .nx (env.set i (.own ds'))
  | _ => none
theorem tDs_mut {α γ:Type} {ρ:RK α γ} [Kd ρ] {i:Nat} {Gf:List D → α → Option (List D)} {f:FP α} {tf:St → Hp → (γ → Hp → Prop) → Prop} {r:V → γ → Hp → VK → Prop}
    (ht : ∀ Q,tP T ρ f σ H Q → tf σ H Q)
    (snd : ∀ (A:Addr → Prop) (H:Hp) (a:Addr) (ds:List D) (xs:List V) (x : α) (y : γ) (ds':List D) (Q:VK),H a = some (.lst xs) → RepL T A H ds xs → (∀ b,A b → b ≠ a) → ρ A H H x y → Gf ds x = some ds' →
      (∀ ys,(∀ A' H',(∀ d v,Rep T A H d v → Rep T A' H' d v) → (∀ d v,RepL T A H d v → RepL T A' H' d v) → RepL T A' H' ds' ys) → ∀ w,Q w (upd H a (.lst ys))) → r (.ref a) y H Q)
    (hh : ∀ A H0 H x y, ρ A H0 H x y → ρ A H H x y)
    (h:tDs T X (fsMutG i Gf f) De σ H) : ∃ v, σ[i]? = some (some v) ∧ (∃ xs,H = H ∧ ∃ a,v = .ref a ∧ H a = some (.lst xs)) ∧ tf σ H fun y H1 => (∃ a xs,v = .ref a ∧ H1 a = some (.lst xs)) ∧ r v y H1 fun _ H2 => De.nx σ H2 := by
  obtain ⟨W,O,env,fl,E,e,q⟩ := h
  unfold fsMutG at e
  split at e
  · rename_i ds es
    cases e2:f env with
    | none => rw [e2] at e; cases e
    | some x =>
      rw [e2] at e
      dsimp only [Option.bind_some] at e
      cases e3:Gf ds x with
      | none => rw [e3] at e; cases e
      | some ds' =>
        rw [e3] at e
        cases e
        obtain ⟨a,xs,e1,o,n,hl,rl⟩ := E.own es
        refine ⟨.ref a,e1,⟨xs,rfl,a,rfl,hl⟩,ht _ ⟨W,O,env,x,E,e2,fun y H1 s1 r1 => ⟨⟨a,xs,rfl,s1 _ _ hl⟩, ?_⟩⟩⟩
        have E1 := E.mono s1
        have hl1 := s1 _ _ hl
        refine snd (Cl W O) H1 a ds xs x y ds' _ hl1 (rl.mono s1 fun _ z => z) (fun b z w => z.2 (w ▸ o)) (hh _ _ _ _ _ r1) e3 fun ys hy _ => ?_
        have f1:Fr O H1 O (L2.upd H1 a (.lst ys)) := ⟨fun b u h nn => by rw [upd_ne (by rintro rfl; exact nn o)]; exact h,fun b h => .inl h,fun b h => by
          by_cases z:b = a
          · subst z; rw [upd_same] at h; cases h
          · rw [upd_ne z] at h; exact h⟩
        have k := E1.kp f1
        obtain ⟨E2,f2⟩ := E1.upd (t := .own ds') (o := .lst ys) es rfl e1 trivial ⟨a,ys,rfl,o,n,upd_same,hy _ _ (fun d v h => h.kp k) (fun d v h => h.kp k)⟩
        exact q σ _ O E2 ((Fr.same s1).trans f2)
  · cases e
end
end DL
end
section
set_option Elab.async false
set_option linter.all false
namespace DL
open PySem L2
noncomputable abbrev FG := D → DEnv → Option DEnv
noncomputable def tgName (i:Nat):FG := fun d env => some (env.set i (.val d))
noncomputable def tgSets:List Nat → List D → DEnv → Option DEnv
  | [],[],env => some env
  | i :: is,d :: ds,env => tgSets is ds (env.set i (.val d))
  | _,_,_ => none
noncomputable def tgTup (is:List Nat):FG := fun d env => match d with
  | .tup ds => tgSets is ds env
  | _ => none
noncomputable def SndG (T:Tx) (tg:FG) (g:TG):Prop := ∀ (W:Wf) (O:Addr → Prop) (H:Hp) (env env':DEnv) (σ:St) (d:D) (v:V) (Q:St → Hp → Prop),EnvR T W O H env σ → Rep T (Cl W O) H d v → tg d env = some env' → (∀ σ',EnvR T W O H env' σ' → Q σ' H) → g v σ H Q
theorem sndG_name {T:Tx} (i:Nat):SndG T (tgName i) (gName i) := fun W O H env env' σ d v Q E r e q => by
  cases e
  exact q _ (E.set i r)
noncomputable def SndGs (T:Tx) (is:List Nat) (g:TGs):Prop := ∀ (W:Wf) (O:Addr → Prop) (H:Hp) (env env':DEnv) (σ:St) (ds:List D) (vs:List V) (Q:St → Hp → Prop),EnvR T W O H env σ → RepL T (Cl W O) H ds vs → tgSets is ds env = some env' → (∀ σ',EnvR T W O H env' σ' → Q σ' H) → g vs σ H Q
theorem sndGs_nil {T:Tx}:SndGs T [] gNil := fun W O H env env' σ ds vs Q E r e q => by
  cases ds with
  | nil => cases e; exact ⟨r.nil_,q _ E⟩
  | cons d ds => cases e
theorem sndGs_cons {T:Tx} (i:Nat) {is:List Nat} {g:TGs} (h:SndGs T is g):SndGs T (i :: is) (gCons (gName i) g) := fun W O H env env' σ ds vs Q E r e q => by
  cases ds with
  | nil => cases e
  | cons d ds =>
    obtain ⟨x,xs,rfl,r1,r2⟩ := r.cons_
    exact ⟨x,xs,rfl,h W O H _ env' _ ds xs Q (E.set i r1) r2 e q⟩
theorem tgSets_len : ∀ {is:List Nat} {ds:List D} {env env':DEnv},tgSets is ds env = some env' → ds.length = is.length
  | [],[],_,_,_ => rfl
  | [],_ :: _,_,_,h => by cases h
  | _ :: _,[],_,_,h => by cases h
  | i :: is,d :: ds,env,env',h => by simp [tgSets_len (is := is) (ds := ds) h]
theorem sndG_tup {T:Tx} {is:List Nat} {g:TGs} (h:SndGs T is g):SndG T (tgTup is) (gTup T.K is.length g) := fun W O H env env' σ d v Q E r e q => by
  unfold tgTup at e
  split at e
  · obtain ⟨a,xs,rfl,hq,rl⟩ := r.tup_
    exact ⟨a,xs,rfl,hq,by rw [← rl.length]; exact tgSets_len e,h W O H env env' σ _ xs Q E rl e q⟩
  · cases e
noncomputable def iSeq (K:PySem.W.Frag) (tl:TE):TI := fun σ H R => tl σ H fun x H1 => ∃ a,x = .ref a ∧ (((∃ xs,SqL K H1 a xs) ∧ R (Itl K a) H1) ∨ ((∃ xs,SqT K H1 a xs) ∧ R (Itt K a) H1))
noncomputable def runFor (tg:FG) (body:FS):List D → FS
  | [],env => some (.nx env)
  | d :: ds,env => (tg d env).bind fun env1 => (body env1).bind fun r => match r with
    | .nx e => runFor tg body ds e
    | .ct e => runFor tg body ds e
    | .bk e => some (.nx e)
    | r => some r
noncomputable def fsFor (tg:FG) (fi:FE) (body:FS):FS := fun env => (fi env).bind fun x => (seqD x).bind fun ds => runFor tg body ds env
section
variable {T:Tx} {X:XQ} {F:FS} {fi:FE} {De:Ends} {σ:St} {H:Hp} {tg:FG} {g:TG}
theorem for_step (hg:SndG T tg g) {W:Wf} {H1:Hp} {O:Addr → Prop} {fl:DFl} (q:EndsR T X W O H1 De fl) (Nx:St → Hp → Prop) (rest:List D)
    (hN : ∀ env' O' σ' H',EnvR T W O' H' env' σ' → Fr O H1 O' H' → runFor tg F rest env' = some fl → Nx σ' H')
    {d:D} {v:V} {env':DEnv} {O':Addr → Prop} {σ':St} {H':Hp} (E:EnvR T W O' H' env' σ') (f:Fr O H1 O' H') (e:runFor tg F (d :: rest) env' = some fl)
    (r:Rep T (Cl W O') H' d v):g v σ' H' fun σ2 H2 => tDs T X F { De with nx := Nx,ct := Nx,bk := De.nx } σ2 H2 := by
  unfold runFor at e
  cases e0:tg d env' with
  | none => rw [e0] at e; cases e
  | some env1 =>
    rw [e0] at e
    dsimp only [Option.bind_some] at e
    cases e1:F env1 with
    | none => rw [e1] at e; cases e
    | some fl' =>
      rw [e1] at e
      refine hg W O' H' env' env1 σ' d v _ E r e0 fun σ1 E1 => ⟨W,O',env1,fl',E1,e1, ?_⟩
      cases fl' with
      | nx e' => exact fun σ2 H2 O2 E2 g2 => hN e' O2 σ2 H2 E2 (f.trans g2) e
      | ct e' => exact fun σ2 H2 O2 E2 g2 => hN e' O2 σ2 H2 E2 (f.trans g2) e
      | bk e' => cases e; exact fun σ2 H2 O2 E2 g2 => q σ2 H2 O2 E2 (f.trans g2)
      | rt d' m' => cases e; exact q.fr f
      | rf d' m' => cases e; exact q.fr f
      | ex c m' => cases e; exact q.fr f
theorem drop_cons {α:Type} {l:List α} {j:Nat} {d : α} (h:l[j]? = some d):l.drop j = d :: l.drop (j + 1) := by
  obtain ⟨hj,hdj⟩ := List.getElem?_eq_some_iff.mp h
  rw [← hdj]
  exact List.drop_eq_getElem_cons hj
theorem tDs_for (hg:SndG T tg g) (h:tDs T X (fsFor tg fi F) De σ H):tFor (iSeq T.K (tP T (kD T) fi)) g (tDs T X F) De σ H := by
  obtain ⟨W,O,env,fl,E,e,q⟩ := h
  unfold fsFor at e
  cases e1:fi env with
  | none => rw [e1] at e; cases e
  | some x =>
    rw [e1] at e
    dsimp only [Option.bind_some] at e
    refine ⟨W,O,env,x,E,e1,fun v H1 s1 r1 => ?_⟩
    have E1 := E.mono s1
    have q1:EndsR T X W O H1 De fl := q.fr (Fr.same s1)
    cases x with
    | lst ds =>
      simp only [seqD,Option.bind_some] at e
      obtain ⟨a,xs,rfl,hl,rl⟩ := Rep.lst_ r1
      refine ⟨a,rfl,.inl ⟨⟨xs,hl.sq⟩, ?_⟩⟩
      refine for_list (xs := xs) (fun j σ' H' => ∃ env' O',EnvR T W O' H' env' σ' ∧ Fr O H1 O' H' ∧ runFor tg F (ds.drop j) env' = some fl) ⟨env,O,E1,Fr.refl _ _,e⟩ ?_ ?_ ?_
      · rintro j σ' H' _ ⟨env',O',E',f,_⟩
        exact ((E1.kp f).ls hl).sq
      · rintro j x σ' H' hx ⟨env',O',E',f,e'⟩
        obtain ⟨d,hd,rd⟩ := rl.getV hx
        rw [drop_cons hd] at e'
        exact for_step hg q1 _ (ds.drop (j + 1)) (fun env2 O2 σ2 H2 E2 g2 e2 => ⟨env2,O2,E2,g2,e2⟩) E' f e' (E1.keepD f rd)
      · rintro σ' H' ⟨env',O',E',f,e'⟩
        rw [← rl.length,List.drop_length] at e'
        cases e'
        exact q1 σ' H' O' E' f
    | tup ds =>
      simp only [seqD,Option.bind_some] at e
      obtain ⟨a,xs,rfl,hl,rl⟩ := Rep.tup_ r1
      refine ⟨a,rfl,.inr ⟨⟨xs,hl⟩, ?_⟩⟩
      refine for_tup (xs := xs) (fun j σ' H' => ∃ env' O',EnvR T W O' H' env' σ' ∧ Fr O H1 O' H' ∧ runFor tg F (ds.drop j) env' = some fl) ⟨env,O,E1,Fr.refl _ _,e⟩ ?_ ?_ ?_
      · rintro j σ' H' _ ⟨env',O',E',f,_⟩
        exact (E1.kp f).sqT hl
      · rintro j x σ' H' hx ⟨env',O',E',f,e'⟩
        obtain ⟨d,hd,rd⟩ := rl.getV hx
        rw [drop_cons hd] at e'
        exact for_step hg q1 _ (ds.drop (j + 1)) (fun env2 O2 σ2 H2 E2 g2 e2 => ⟨env2,O2,E2,g2,e2⟩) E' f e' (E1.keepD f rd)
      · rintro σ' H' ⟨env',O',E',f,e'⟩
        rw [← rl.length,List.drop_length] at e'
        cases e'
        exact q1 σ' H' O' E' f
    | _ => cases e
noncomputable def rInts (lo:Int) (n:Nat):List D := (List.range n).map fun k => D.int (lo + (k:Nat))
noncomputable def rng1:List D → Option (List D)
  | [.int j] => if -1000000000 < j ∧ j < 1000000000 then some (rInts 0 j.toNat) else none
  | _ => none
theorem rng1_some {ds:List D} {xs:List D} (h:rng1 ds = some xs) : ∃ j,ds = [.int j] ∧ (-1000000000 < j ∧ j < 1000000000) ∧ xs = rInts 0 j.toNat := by
  unfold rng1 at h
  split at h
  · rename_i j
    by_cases c : -1000000000 < j ∧ j < 1000000000
    · rw [if_pos c] at h; cases h; exact ⟨j,rfl,c,rfl⟩
    · rw [if_neg c] at h; cases h
  · cases h
noncomputable def fsForR (R:List D → Option (List D)) (tg:FG) (f:FA) (body:FS):FS := fun env => (f env).bind fun ds => (R ds).bind fun xs => runFor tg body xs env
theorem walk_ok (hg:SndG T tg g) {J:It} {items:List D} {W:Wf} {H1:Hp} {O:Addr → Prop} {fl:DFl} {env:DEnv} (E1:EnvR T W O H1 env σ) (q1:EndsR T X W O H1 De fl)
    (hgo : ∀ j H',j < items.length → J.go j H') (hst : ∀ j H',items.length ≤ j → J.stop j H') (hy : ∀ j H' x H2 d,items[j]? = some d → J.yld j H' x H2 → H2 = H' ∧ ∀ A,Rep T A H' d x)
    (e:runFor tg F items env = some fl) :
    ∃ W:Nat → Nat → St → Hp → Prop,(∃ m,W 0 m σ H1) ∧ ∀ j m σ H,W j m σ H →
      (J.stop j H ∧ De.nx σ H) ∨ (J.go j H ∧ ∃ N:St → Hp → Prop,(∀ σ' H',N σ' H' → ∃ m',m' < m ∧ W (j + 1) m' σ' H') ∧ ∀ x H',J.yld j H x H' → g x σ H' fun σ2 H2 => tDs T X F { De with nx := N,ct := N,bk := De.nx } σ2 H2) := by
  let Pv:Nat → St → Hp → Prop := fun j σ' H' => ∃ env' O',EnvR T W O' H' env' σ' ∧ Fr O H1 O' H' ∧ runFor tg F (items.drop j) env' = some fl
  refine ⟨fun j m σ' H' => m = items.length - j ∧ j ≤ items.length ∧ Pv j σ' H',⟨_,rfl,Nat.zero_le _,env,O,E1,Fr.refl _ _,by simpa using e⟩, ?_⟩
  rintro j m σ' H' ⟨rfl,hj,env',O',E',f,e'⟩
  by_cases hlt:j < items.length
  · refine .inr ⟨hgo j H' hlt,Pv (j + 1),fun σ2 H2 p => ⟨items.length - (j + 1),by omega,rfl,hlt,p⟩,fun x H2 y => ?_⟩
    have hd:items[j]? = some items[j] := List.getElem?_eq_getElem hlt
    obtain ⟨rfl,r⟩ := hy j H' x H2 _ hd y
    rw [drop_cons hd] at e'
    exact for_step hg q1 _ _ (fun env2 O2 σ2 H2 E2 g2 e2 => ⟨env2,O2,E2,g2,e2⟩) E' f e' (r _)
  · rw [List.drop_eq_nil_of_le (by omega)] at e'
    cases e'
    exact .inl ⟨hst j H' (by omega),q1 σ' H' O' E' f⟩
theorem rInts_get {lo:Int} {n j:Nat} {d:D} (h:(rInts lo n)[j]? = some d):d = .int (lo + (j:Nat)) := by
  unfold rInts at h
  rw [List.getElem?_map] at h
  cases e:(List.range n)[j]? with
  | none => rw [e] at h; cases h
  | some k =>
    rw [e] at h
    obtain ⟨_,hk⟩ := List.getElem?_eq_some_iff.mp e
    simp at hk
    subst hk
    cases h; rfl
theorem rInts_len (lo:Int) (n:Nat):(rInts lo n).length = n := by simp [rInts]
theorem range_ok (hg:SndG T tg g) {lo:Int} {n:Nat} {W:Wf} {H1:Hp} {O:Addr → Prop} {fl:DFl} {env:DEnv} (E1:EnvR T W O H1 env σ) (q1:EndsR T X W O H1 De fl) (e:runFor tg F (rInts lo n) env = some fl) :
    ∃ W:Nat → Nat → St → Hp → Prop,(∃ m,W 0 m σ H1) ∧ ∀ j m σ H,W j m σ H →
      ((Itr lo n).stop j H ∧ De.nx σ H) ∨ ((Itr lo n).go j H ∧ ∃ N:St → Hp → Prop,(∀ σ' H',N σ' H' → ∃ m',m' < m ∧ W (j + 1) m' σ' H') ∧ ∀ x H',(Itr lo n).yld j H x H' → g x σ H' fun σ2 H2 => tDs T X F { De with nx := N,ct := N,bk := De.nx } σ2 H2) :=
  walk_ok hg E1 q1 (fun j H' h => by rw [rInts_len] at h; exact h) (fun j H' h => by rw [rInts_len] at h; exact h) (fun j H' x H2 d hd y => by
    obtain ⟨rfl,rfl⟩ := y
    rw [rInts_get hd]
    exact ⟨rfl,fun _ => Rep.int _⟩) e
theorem tDs_for1 (hg:SndG T tg g) {f:FA} (h:tDs T X (fsForR rng1 tg f F) De σ H):tFor (iRng1 (tP T (kA T) f)) g (tDs T X F) De σ H := by
  obtain ⟨W,O,env,fl,E,e,q⟩ := h
  unfold fsForR at e
  cases e1:f env with
  | none => rw [e1] at e; cases e
  | some ds =>
    rw [e1] at e
    dsimp only [Option.bind_some] at e
    cases e2:rng1 ds with
    | none => rw [e2] at e; cases e
    | some xs =>
      rw [e2] at e
      obtain ⟨j,rfl,c,rfl⟩ := rng1_some e2
      refine ⟨W,O,env,_,E,e1,fun vs H1 s1 r1 => ?_⟩
      obtain ⟨v,r,rfl,h1,h2⟩ := RepL.cons_ r1
      cases h2.nil_
      cases h1.int_
      exact ⟨j,rfl,by omega,by omega,range_ok hg (E.mono s1) (q.fr (Fr.same s1)) e⟩
noncomputable def Its (z:List Nat):It := ⟨fun i _ => i < z.length,fun i H x H' => H' = H ∧ ∃ c,z[i]? = some c ∧ x = .str (mkS [c]),fun i _ => z.length ≤ i⟩
noncomputable def iStr (tl:TE):TI := fun σ H R => tl σ H fun x H1 => ∃ z:List Nat,x = .str (mkS z) ∧ z.length ≤ 1000000 ∧ R (Its z) H1
noncomputable def strD:D → Option (List D)
  | .str z => if z.length ≤ 1000000 then some (z.map fun c => .str [c]) else none
  | _ => none
noncomputable def fsForS (tg:FG) (fi:FE) (body:FS):FS := fun env => (fi env).bind fun x => (strD x).bind fun ds => runFor tg body ds env
end
noncomputable def capσ (nt:Nat) (cap:List Nat) (σ:St):St := List.replicate nt none ++ cap.map fun i => (σ[i]?).join
noncomputable def capE (nt:Nat) (cap:List Nat) (env:DEnv):DEnv := List.replicate nt .no ++ cap.map fun i => (env[i]?).getD .no
noncomputable def tComp (nt:Nat) (cap:List Nat) (wi:TI) (g:TG) (tt:TT) (te:TE):TE := fun σ H Q => wi σ H fun J H1 => ∃ W:Nat → Nat → List V → Hp → Prop,(∃ m,W 0 m [] H1) ∧ ∀ i m ys H,W i m ys H →
  (J.stop i H ∧ ys.length ≤ sizeLine ∧ ∀ l,H l = none → Q (.ref l) (upd H l (.lst ys))) ∨
  (J.go i H ∧ ∀ x H',J.yld i H x H' → g x (capσ nt cap σ) H' fun σ2 H2 => tt σ2 H2 fun b H3 =>
    if b = true then te σ2 H3 fun y H4 => ys.length < sizeLine ∧ ∃ m',m' < m ∧ W (i + 1) m' (ys ++ [y]) H4 else ∃ m',m' < m ∧ W (i + 1) m' ys H3)
noncomputable def runComp (tg:FG) (ft:FT) (fe:FE) (env:DEnv):List D → Option (List D)
  | [] => some []
  | d :: ds => (tg d env).bind fun e => (ft e).bind fun b => if b = true then (fe e).bind fun y => (runComp tg ft fe env ds).bind fun r => some (y :: r) else runComp tg ft fe env ds
noncomputable def ffComp (nt:Nat) (cap:List Nat) (tg:FG) (fi:FE) (ft:FT) (fe:FE):FP (List D) := fun env => (fi env).bind fun x => (seqD x).bind fun ds => if ds.length ≤ 1000000 then runComp tg ft fe (capE nt cap env) ds else none
noncomputable def ffCompR (R:List D → Option (List D)) (nt:Nat) (cap:List Nat) (tg:FG) (f:FA) (ft:FT) (fe:FE):FP (List D) := fun env => (f env).bind fun x => (R x).bind fun ds => if ds.length ≤ 1000000 then runComp tg ft fe (capE nt cap env) ds else none
noncomputable def ffCompS (nt:Nat) (cap:List Nat) (tg:FG) (fi:FE) (ft:FT) (fe:FE):FP (List D) := fun env => (fi env).bind fun x => (strD x).bind fun ds => if ds.length ≤ 1000000 then runComp tg ft fe (capE nt cap env) ds else none
section
variable {T:Tx} {ft:FT} {fe fi:FE} {σ:St} {H:Hp} {Q:VK} {tg:FG} {g:TG}
theorem EnvR.cap {W:Wf} {O:Addr → Prop} {env:DEnv} (E:EnvR T W O H env σ) {nt:Nat} {cap:List Nat} (hc:cap.Nodup):EnvR T W O H (capE nt cap env) (capσ nt cap σ) := by
  have gE : ∀ (j:Nat) (s:Slot),(capE nt cap env)[j]? = some s → s = .no ∨ ∃ k i,j = nt + k ∧ cap[k]? = some i ∧ env[i]? = some s ∧ ((capσ nt cap σ)[j]?).join = (σ[i]?).join := fun j s h => by
    unfold capE at h
    by_cases hj:j < nt
    · rw [List.getElem?_append_left (by simpa using hj),List.getElem?_replicate,if_pos hj] at h
      cases h; exact .inl rfl
    · rw [List.getElem?_append_right (by simpa using hj),List.length_replicate,List.getElem?_map] at h
      cases e:cap[j - nt]? with
      | none => rw [e] at h; cases h
      | some i =>
        rw [e,Option.map_some] at h
        cases e2:env[i]? with
        | none => rw [e2] at h; cases h; exact .inl rfl
        | some s' =>
          rw [e2] at h; cases h
          refine .inr ⟨j - nt,i,by omega,e,e2, ?_⟩
          unfold capσ
          rw [List.getElem?_append_right (by simpa using hj),List.length_replicate,List.getElem?_map,e]
          rfl
  refine ⟨E.fr,E.new,E.mu,fun j s e => ?_,fun j l s t a e1 e2 o1 o2 s1 s2 => ?_,by simp [capE,capσ]⟩
  · rcases gE j s e with rfl | ⟨k,i,_,_,h2,h3⟩
    · trivial
    · rw [h3]; exact E.slot i s h2
  · rcases gE j s e1 with rfl | ⟨k,i,hj,hk,h2,h3⟩
    · cases o1
    · rcases gE l t e2 with rfl | ⟨k',i',hj',hk',h2',h3'⟩
      · cases o2
      · rw [s1] at h3
        rw [s2] at h3'
        have := E.inj i i' s t a h2 h2' o1 o2 (join_some h3.symm) (join_some h3'.symm)
        subst this
        have kk:k = k' := by
          obtain ⟨hk1,hk2⟩ := List.getElem?_eq_some_iff.mp hk
          obtain ⟨hk3,hk4⟩ := List.getElem?_eq_some_iff.mp hk'
          exact (List.getElem_inj hc).mp (hk2.trans hk4.symm)
        omega
noncomputable def WC (T:Tx) (A:Addr → Prop) (tg:FG) (ft:FT) (fe:FE) (env:DEnv) (all':List D) (H1:Hp) (all:List D) (j k:Nat) (ys:List V) (H':Hp):Prop :=
  k = all'.length - j ∧ j ≤ all'.length ∧ Same H1 H' ∧ ys.length ≤ j ∧ ∃ zs rest,RepL T A H' zs ys ∧ runComp tg ft fe env (all'.drop j) = some rest ∧ zs ++ rest = all
theorem comp_step (hg:SndG T tg g) {W:Wf} {H1:Hp} {O:Addr → Prop} {env:DEnv} {nt:Nat} {cap:List Nat} (hc:cap.Nodup) (E1:EnvR T W O H1 env σ) {all' all:List D} {j k:Nat} {ys:List V} {H':Hp} {d:D} {x:V} (cn:all'.length ≤ 1000000)
    (hlt:j < all'.length) (w:WC T (Cl W O) tg ft fe (capE nt cap env) all' H1 all j k ys H') (hd:all'[j]? = some d) (r:Rep T (Cl W O) H' d x) :
    g x (capσ nt cap σ) H' fun σ2 H2 => tP T kB ft σ2 H2 fun b H3 =>
      if b = true then tP T (kD T) fe σ2 H3 fun y H4 => ys.length < sizeLine ∧ ∃ m',m' < k ∧ WC T (Cl W O) tg ft fe (capE nt cap env) all' H1 all (j + 1) m' (ys ++ [y]) H4 else ∃ m',m' < k ∧ WC T (Cl W O) tg ft fe (capE nt cap env) all' H1 all (j + 1) m' ys H3 := by
  obtain ⟨rfl,hj,s,hyl,zs,rest,hz,e,ea⟩ := w
  rw [drop_cons hd] at e
  unfold runComp at e
  cases e0:tg d (capE nt cap env) with
  | none => rw [e0] at e; cases e
  | some env1 =>
    rw [e0] at e
    dsimp only [Option.bind_some] at e
    refine hg W O H' _ env1 _ d x _ ((E1.mono s).cap hc) r e0 fun σ1 Ec => ?_
    cases e1:ft env1 with
    | none => rw [e1] at e; cases e
    | some b =>
      rw [e1] at e
      dsimp only [Option.bind_some] at e
      refine ⟨W,O,env1,b,Ec,e1,fun b' H3 s3 c3 => ?_⟩
      cases c3
      cases b with
      | false =>
        exact ⟨all'.length - (j + 1),by omega,rfl,by omega,s.trans s3,by omega,zs,rest,hz.mono s3 (fun _ z => z),e,ea⟩
      | true =>
        rw [if_pos rfl] at e ⊢
        cases e2:fe env1 with
        | none => rw [e2] at e; cases e
        | some y =>
          rw [e2] at e
          dsimp only [Option.bind_some] at e
          cases e3:runComp tg ft fe (capE nt cap env) (all'.drop (j + 1)) with
          | none => rw [e3] at e; cases e
          | some rest' =>
            rw [e3] at e
            cases e
            refine ⟨W,O,env1,y,Ec.mono s3,e2,fun w H4 s4 r4 => ⟨Nat.lt_of_lt_of_le (show ys.length < 1000001 by omega) (by decide),all'.length - (j + 1),by omega, ?_⟩⟩
            refine ⟨rfl,by omega,s.trans (s3.trans s4),by simp; omega,zs ++ [y],rest',(hz.mono (s3.trans s4) fun _ z => z).append (.cons r4 .nil),e3, ?_⟩
            rw [List.append_assoc]
            exact ea
theorem comp_end {A:Addr → Prop} {H1:Hp} {env':DEnv} {all' all:List D} {j k:Nat} {ys:List V} {H':Hp} (hj:all'.length ≤ j) (w:WC T A tg ft fe env' all' H1 all j k ys H') (hl:all'.length ≤ 1000000)
    (q : ∀ v H',Same H1 H' → kF T A H1 H' all v → Q v H'):ys.length ≤ sizeLine ∧ ∀ l,H' l = none → Q (.ref l) (upd H' l (.lst ys)) := by
  obtain ⟨hk,hj2,s,hyl,zs,rest,hz,e,ea⟩ := w
  rw [List.drop_eq_nil_of_le hj] at e
  cases e
  rw [List.append_nil] at ea
  subst ea
  exact ⟨small (by omega),fun l hl => q _ _ (s.trans (same_new hl _)) (Kd.an _ _ _ _ _ _ s (kF_new hz hl))⟩
theorem tP_comp (hg:SndG T tg g) {nt:Nat} {cap:List Nat} (hc:cap.Nodup) (h:tP T (kF T) (ffComp nt cap tg fi ft fe) σ H Q):tComp nt cap (iSeq T.K (tP T (kR T) fi)) g (tP T kB ft) (tP T (kD T) fe) σ H Q := by
  obtain ⟨W,O,env,d,E,e,q⟩ := h
  unfold ffComp at e
  cases e1:fi env with
  | none => rw [e1] at e; cases e
  | some x =>
    rw [e1] at e
    dsimp only [Option.bind_some] at e
    refine ⟨W,O,env,x,E,e1,fun v H1 s1 r1 => ?_⟩
    have E1 := E.mono s1
    cases e2:seqD x with
    | none => rw [e2] at e; cases e
    | some ds =>
      rw [e2] at e
      dsimp only [Option.bind_some] at e
      by_cases cn:ds.length ≤ 1000000
      · rw [if_pos cn] at e
        have q' : ∀ v H',Same H1 H' → kF T (Cl W O) H1 H' d v → Q v H' := fun v H' s r => q v H' (s1.trans s) (Kd.an _ _ _ _ _ _ s1 r)
        have w0:WC T (Cl W O) tg ft fe (capE nt cap env) ds H1 d 0 ds.length [] H1 := ⟨by simp,Nat.zero_le _,Same.refl _,Nat.zero_le _,[],d,.nil,e,rfl⟩
        cases x with
        | lst es =>
          have ee:es = ds := Option.some.inj e2
          subst ee
          obtain ⟨a,xs,rfl,hl,rl⟩ := RepR.lst_ r1
          have len := rl.length
          refine ⟨a,rfl,.inl ⟨⟨xs,hl⟩,WC T (Cl W O) tg ft fe (capE nt cap env) es H1 d,⟨es.length,w0⟩, ?_⟩⟩
          intro j k ys H' w
          have s:Same H1 H' := w.2.2.1
          have hlH:SqL T.K H' a xs := s.seq hl
          by_cases hlt:j < es.length
          · refine .inr ⟨⟨xs,xs[j]'(by omega),hlH,by simp [show j < xs.length by omega]⟩,fun x H2 y => ?_⟩
            obtain ⟨e5,y⟩ := y
            subst e5
            obtain ⟨d',hd,rd⟩ := rl.getV (y xs hlH)
            exact comp_step hg hc E1 cn hlt w hd (rd.mono s fun _ z => z)
          · exact .inl ⟨⟨xs,hlH,by omega⟩,comp_end (by omega) w cn q'⟩
        | tup es =>
          have ee:es = ds := Option.some.inj e2
          subst ee
          obtain ⟨a,xs,rfl,hl,rl⟩ := RepR.tup_ r1
          have len := rl.length
          refine ⟨a,rfl,.inr ⟨⟨xs,hl⟩,WC T (Cl W O) tg ft fe (capE nt cap env) es H1 d,⟨es.length,w0⟩, ?_⟩⟩
          intro j k ys H' w
          have s:Same H1 H' := w.2.2.1
          have hlH:SqT T.K H' a xs := SqT.mono s hl
          by_cases hlt:j < es.length
          · refine .inr ⟨⟨xs,xs[j]'(by omega),hlH,by simp [show j < xs.length by omega]⟩,fun x H2 y => ?_⟩
            obtain ⟨e5,y⟩ := y
            subst e5
            obtain ⟨d',hd,rd⟩ := rl.getV (y xs hlH)
            exact comp_step hg hc E1 cn hlt w hd (rd.mono s fun _ z => z)
          · exact .inl ⟨⟨xs,hlH,by omega⟩,comp_end (by omega) w cn q'⟩
        | _ => cases e2
      · rw [if_neg cn] at e; cases e
theorem comp_walk (hg:SndG T tg g) {J:It} {items:List D} {W:Wf} {H1:Hp} {O:Addr → Prop} {env:DEnv} {nt:Nat} {cap:List Nat} (hc:cap.Nodup) (E1:EnvR T W O H1 env σ) {all:List D} (cn:items.length ≤ 1000000)
    (hgo : ∀ j H',j < items.length → J.go j H') (hst : ∀ j H',items.length ≤ j → J.stop j H') (hy : ∀ j H' x H2 d,items[j]? = some d → J.yld j H' x H2 → H2 = H' ∧ ∀ A,Rep T A H' d x)
    (e3:runComp tg ft fe (capE nt cap env) items = some all) (q : ∀ v H',Same H1 H' → kF T (Cl W O) H1 H' all v → Q v H') :
    ∃ W:Nat → Nat → List V → Hp → Prop,(∃ m,W 0 m [] H1) ∧ ∀ i m ys H,W i m ys H →
      (J.stop i H ∧ ys.length ≤ sizeLine ∧ ∀ l,H l = none → Q (.ref l) (upd H l (.lst ys))) ∨
      (J.go i H ∧ ∀ x H',J.yld i H x H' → g x (capσ nt cap σ) H' fun σ2 H2 => tP T kB ft σ2 H2 fun b H3 =>
        if b = true then tP T (kD T) fe σ2 H3 fun y H4 => ys.length < sizeLine ∧ ∃ m',m' < m ∧ W (i + 1) m' (ys ++ [y]) H4 else ∃ m',m' < m ∧ W (i + 1) m' ys H3) := by
  refine ⟨WC T (Cl W O) tg ft fe (capE nt cap env) items H1 all,⟨items.length,by simp,Nat.zero_le _,Same.refl _,Nat.zero_le _,[],all,.nil,e3,rfl⟩, ?_⟩
  intro j k ys H' w
  by_cases hlt:j < items.length
  · refine .inr ⟨hgo j H' hlt,fun x H2 y => ?_⟩
    have hd:items[j]? = some items[j] := List.getElem?_eq_getElem hlt
    obtain ⟨rfl,r⟩ := hy j H' x H2 _ hd y
    exact comp_step hg hc E1 cn hlt w hd (r _)
  · exact .inl ⟨hst j H' (by omega),comp_end (by omega) w cn q⟩
theorem tP_comp1 (hg:SndG T tg g) {nt:Nat} {cap:List Nat} {f:FA} (hc:cap.Nodup) (h:tP T (kF T) (ffCompR rng1 nt cap tg f ft fe) σ H Q):tComp nt cap (iRng1 (tP T (kA T) f)) g (tP T kB ft) (tP T (kD T) fe) σ H Q := by
  obtain ⟨W,O,env,d,E,e,q⟩ := h
  unfold ffCompR at e
  cases e1:f env with
  | none => rw [e1] at e; cases e
  | some x =>
    rw [e1] at e
    dsimp only [Option.bind_some] at e
    cases e2:rng1 x with
    | none => rw [e2] at e; cases e
    | some ds =>
      rw [e2] at e
      dsimp only [Option.bind_some] at e
      obtain ⟨j,rfl,c,rfl⟩ := rng1_some e2
      by_cases cn:(rInts 0 j.toNat).length ≤ 1000000
      · rw [if_pos cn] at e
        refine ⟨W,O,env,_,E,e1,fun vs H1 s1 r1 => ?_⟩
        obtain ⟨v,r,rfl,h1,h2⟩ := RepL.cons_ r1
        cases h2.nil_
        cases h1.int_
        exact ⟨j,rfl,by omega,by omega,comp_walk hg hc (E.mono s1) cn (fun j H' h => by rw [rInts_len] at h; exact h) (fun j H' h => by rw [rInts_len] at h; exact h) (fun j H' x H2 d hd y => by
          obtain ⟨rfl,rfl⟩ := y
          rw [rInts_get hd]
          exact ⟨rfl,fun _ => Rep.int _⟩) e fun v H' s r => q v H' (s1.trans s) (Kd.an _ _ _ _ _ _ s1 r)⟩
      · rw [if_neg cn] at e; cases e
theorem tP_compS (hg:SndG T tg g) {nt:Nat} {cap:List Nat} (hc:cap.Nodup) (h:tP T (kF T) (ffCompS nt cap tg fi ft fe) σ H Q):tComp nt cap (iStr (tP T (kD T) fi)) g (tP T kB ft) (tP T (kD T) fe) σ H Q := by
  obtain ⟨W,O,env,d,E,e,q⟩ := h
  unfold ffCompS at e
  cases e1:fi env with
  | none => rw [e1] at e; cases e
  | some x =>
    rw [e1] at e
    dsimp only [Option.bind_some] at e
    cases x with
    | str z =>
      unfold strD at e
      dsimp only at e
      by_cases c:z.length ≤ 1000000
      · rw [if_pos c] at e
        dsimp only [Option.bind_some] at e
        rw [if_pos (by simpa using c)] at e
        refine ⟨W,O,env,_,E,e1,fun v H1 s1 r1 => ⟨z,Rep.str_ r1,c, ?_⟩⟩
        refine comp_walk hg hc (E.mono s1) (items := z.map fun c => .str [c]) (by simpa using c) (fun j H' h => by show j < z.length; simpa using h) (fun j H' h => by show z.length ≤ j; simpa using h) (fun j H' x H2 d hd y => ?_) e fun v H' s r => q v H' (s1.trans s) (Kd.an _ _ _ _ _ _ s1 r)
        obtain ⟨rfl,k,hk,rfl⟩ := y
        rw [List.getElem?_map,hk] at hd
        cases hd
        exact ⟨rfl,fun _ => Rep.str _⟩
      · rw [if_neg c] at e; cases e
    | _ => cases e
end
noncomputable def spD (T:Tx) (n:Nat) (F:List D → Option D):Sp := fun vs H Q _ => vs.length = n ∧ ∃ A ds d,Nw A H ∧ RepL T A H ds vs ∧ F ds = some d ∧ ∀ v H',Same H H' → Rep T A H' d v → Q v H'
noncomputable def spF (T:Tx) (n:Nat) (F:List D → Option (List D)):Sp := fun vs H Q _ => vs.length = n ∧ ∃ A ds d,Nw A H ∧ RepL T A H ds vs ∧ F ds = some d ∧ ∀ v H',Same H H' → kF T A H H' d v → Q v H'
noncomputable def feCall {α:Type} (n:Nat) (F:List D → Option α) (f:FA):FP α := fun env => (f env).bind fun ds => if ds.length = n then F ds else none
section
variable {T:Tx} {σ:St} {H:Hp} {Q:VK}
theorem tP_call {n:Nat} {F:List D → Option D} {f:FA} {E0:XK} (h:tP T (kD T) (feCall n F f) σ H Q):tCall (spD T n F) [] E0 (tP T (kA T) f) σ H Q := by
  obtain ⟨W,O,env,d,E,e,q⟩ := h
  unfold feCall at e
  cases e1:f env with
  | none => rw [e1] at e; cases e
  | some ds =>
    rw [e1] at e
    dsimp only [Option.bind_some] at e
    by_cases c:ds.length = n
    · rw [if_pos c] at e
      refine ⟨W,O,env,ds,E,e1,fun vs H1 s1 r1 => ?_⟩
      show spD T n F (vs ++ []) H1 Q E0
      rw [List.append_nil]
      exact ⟨by rw [← RepL.length r1]; exact c,Cl W O,ds,d,fun a n => (E.mono s1).newA n,r1,e,fun v H' s r => q v H' (s1.trans s) r⟩
    · rw [if_neg c] at e; cases e
theorem tP_callF {n:Nat} {F:List D → Option (List D)} {f:FA} {E0:XK} (h:tP T (kF T) (feCall n F f) σ H Q):tCall (spF T n F) [] E0 (tP T (kA T) f) σ H Q := by
  obtain ⟨W,O,env,d,E,e,q⟩ := h
  unfold feCall at e
  cases e1:f env with
  | none => rw [e1] at e; cases e
  | some ds =>
    rw [e1] at e
    dsimp only [Option.bind_some] at e
    by_cases c:ds.length = n
    · rw [if_pos c] at e
      refine ⟨W,O,env,ds,E,e1,fun vs H1 s1 r1 => ?_⟩
      show spF T n F (vs ++ []) H1 Q E0
      rw [List.append_nil]
      exact ⟨by rw [← RepL.length r1]; exact c,Cl W O,ds,d,fun a n => (E.mono s1).newA n,r1,e,fun v H' s r => q v H' (s1.trans s) (Kd.an _ _ _ _ _ _ s1 r)⟩
    · rw [if_neg c] at e; cases e
noncomputable def envOf (n:Nat) (ds:List D):DEnv := ds.map Slot.val ++ List.replicate (n - ds.length) .no
noncomputable def bodyF (N:Nat) (F:FS):List D → Option D := fun ds => (F (envOf N ds)).bind fun r => match r with
  | .rt d _ => some d
  | .nx _ => some .non
  | _ => none
noncomputable def bodyFF (N:Nat) (F:FS):List D → Option (List D) := fun ds => (F (envOf N ds)).bind fun r => match r with
  | .rf ds _ => some ds
  | _ => none
theorem body_start {A:Addr → Prop} (nw:Nw A H) {vs:List V} {ds:List D} {n:Nat} (h:RepL T A H ds vs):EnvR T ⟨A,H,fun _ => False⟩ (fun _ => False) H (envOf n ds) (vs.map some ++ List.replicate (n - vs.length) none) := by
  have len := h.length
  have gE : ∀ (j:Nat) (s:Slot),(envOf n ds)[j]? = some s → s = .no ∨ ∃ d,ds[j]? = some d ∧ s = .val d := fun j s e => by
    unfold envOf at e
    by_cases hj:j < ds.length
    · rw [List.getElem?_append_left (by simpa using hj),List.getElem?_map] at e
      cases e2:ds[j]? with
      | none => rw [e2] at e; cases e
      | some d => rw [e2] at e; cases e; exact .inr ⟨d,rfl,rfl⟩
    · rw [List.getElem?_append_right (by simpa using hj),List.getElem?_replicate] at e
      split at e
      · cases e; exact .inl rfl
      · cases e
  refine ⟨Fr.refl _ _,nw,fun _ z => z.elim,fun j s e => ?_,fun j l s t a e1 _ o1 _ _ _ => ?_, ?_⟩
  · rcases gE j s e with rfl | ⟨d,e1,rfl⟩
    · trivial
    · obtain ⟨v,e3,r⟩ := h.get e1
      refine ⟨v, ?_,r.mono (Same.refl _) fun _ z => ⟨z,fun w => w⟩⟩
      have hj:j < vs.length := (List.getElem?_eq_some_iff.mp e3).1
      rw [List.getElem?_append_left (by simpa using hj),List.getElem?_map,e3]
      rfl
  · rcases gE j s e1 with rfl | ⟨d,_,rfl⟩ <;> cases o1
  · simp [envOf,len]
theorem body_ok {N n:Nat} {F:FS} {vs:List V} {E0:XK} (h:spD T n (bodyF N F) vs H Q E0):tDs T (fun _ _ _ => False) F { nx := fun _ H' => Q .non H',rt := Q } (vs.map some ++ List.replicate (N - vs.length) none) H := by
  obtain ⟨hn,A,ds,d,nw,r,e,q⟩ := h
  unfold bodyF at e
  cases e1:F (envOf N ds) with
  | none => rw [e1] at e; cases e
  | some fl =>
    rw [e1] at e
    refine ⟨⟨A,H,fun _ => False⟩,fun _ => False,envOf N ds,fl,body_start nw r,e1, ?_⟩
    have sm : ∀ {O':Addr → Prop} {H':Hp},Fr (fun _ => False) H O' H' → Same H H' := fun f b o h => f.keep b o h fun z => z
    cases fl with
    | nx env' => cases e; exact fun σ' H' O' E' g => q .non H' (sm g) Rep.non
    | rt d' m => cases e; exact fun v σ' H' O' E' g r' => q v H' (sm g) (r'.mono (Same.refl _) fun a z => z.1)
    | rf _ _ => cases e
    | bk _ => cases e
    | ct _ => cases e
    | ex _ _ => cases e
theorem body_okF {N n:Nat} {F:FS} {vs:List V} {E0:XK} (h:spF T n (bodyFF N F) vs H Q E0):tDs T (fun _ _ _ => False) F { nx := fun _ H' => Q .non H',rt := Q } (vs.map some ++ List.replicate (N - vs.length) none) H := by
  obtain ⟨hn,A,ds,d,nw,r,e,q⟩ := h
  unfold bodyFF at e
  cases e1:F (envOf N ds) with
  | none => rw [e1] at e; cases e
  | some fl =>
    rw [e1] at e
    refine ⟨⟨A,H,fun _ => False⟩,fun _ => False,envOf N ds,fl,body_start nw r,e1, ?_⟩
    have sm : ∀ {O':Addr → Prop} {H':Hp},Fr (fun _ => False) H O' H' → Same H H' := fun f b o h => f.keep b o h fun z => z
    cases fl with
    | rf d' m => cases e; exact fun a xs σ' H' O' E' g n hl r' => q _ H' (sm g) ⟨a,xs,rfl,n,hl,r'⟩
    | nx _ => cases e
    | rt _ _ => cases e
    | bk _ => cases e
    | ct _ => cases e
    | ex _ _ => cases e
end
end DL
end
section
set_option Elab.async false
set_option linter.all false
set_option maxRecDepth 100000
namespace L2
open PySem PySem.Spec PyProof.Rows DL
section
variable {prog:Program} {w:World} {A:Around} {R:Result → Shared → Prop} {s:Shared}
theorem compLoop_any {elt target iter:Expr} {ifs:List Expr} {scope:Scope} {pos:Pos} {it acc:Value} {env:Env} (I:Nat → Shared → Prop)
    (turn : ∀ n s,I n s → wpAny (model prog w) A (pyNext it) (fun r s₁ => match r with
      | none => R (.ok .next) s₁
      | some v => wpAny (model prog w) A (letOwnedTupleGo target it v) (fun _ s₁' => wpAny (model prog w) A (assign target env v) (fun _ s₂ =>
          wpAny (model prog w) A (forIn ifs true fun c r => if r = true then do let ok ← isTrue c env (eval c env); pure (ForInStep.yield ok) else pure (ForInStep.yield r)) (fun ok s₃ =>
            if ok = true then wpAny (model prog w) A (eval elt env) (fun x s₄ =>
              wpAny (model prog w) A (call (.builtin "list.append") [acc,x]) (fun _ s₅ => ∃ m,m < n ∧ I m s₅) (notedBy (model prog w) A env fun e s' => R (.error e) s') s₄) (notedBy (model prog w) A env fun e s' => R (.error e) s') s₃
            else ∃ m,m < n ∧ I m s₃) (notedBy (model prog w) A env fun e s' => R (.error e) s') s₂) (notedBy (model prog w) A env fun e s' => R (.error e) s') s₁') (notedBy (model prog w) A env fun e s' => R (.error e) s') s₁) (notedBy (model prog w) A env fun e s' => R (.error e) s') s)
    (n:Nat) (h:I n s):codeAny (model prog w) A (.compLoop (.ListComp elt [⟨target,iter,ifs,0⟩] scope pos) 0 it acc env) R s := by
  refine codeAny_loop rfl I (fun n s hI => ?_) n h
  show wpAny _ A ((compTurn (.ListComp elt [⟨target,iter,ifs,0⟩] scope pos) 0 it acc env).onRaise (fun x => do noteFrame x env; theTreesLotGoes x)) _ _ s
  refine wpAny_noted ?_
  rw [compTurn_list]
  refine wpAny_bind (wpAny_standAt (wpAny_bind (wpAny_mono (turn n s hI) (fun r s₁ h₁ => ?_) fun _ _ h' => h')))
  cases r with
  | none => exact wpAny_pure h₁
  | some v =>
    refine wpAny_bind (wpAny_mono h₁ (fun _ s₁' h₁' => ?_) fun _ _ h' => h')
    refine wpAny_bind (wpAny_mono h₁' (fun _ s₂ h₂ => wpAny_bind (wpAny_mono h₂ (fun ok s₃ h₃ => ?_) fun _ _ h' => h')) fun _ _ h' => h')
    cases ok with
    | false => exact wpAny_pure ⟨rfl,h₃⟩
    | true =>
      exact wpAny_bind (wpAny_bind (wpAny_mono h₃ (fun x s₄ h₄ => wpAny_bind (wpAny_mono h₄ (fun _ s₅ h₅ => wpAny_pure (wpAny_pure ⟨rfl,h₅⟩)) fun _ _ h' => h')) fun _ _ h' => h'))
end
noncomputable def closeL (cells:List (Str × Addr)):List (Str × NameKind) → List (Str × Addr) → List (Str × Addr)
  | [],acc => acc
  | (n,k) :: r,acc => if (k == .free) = true then closeL cells r ((n,(cells.lookup n).getD 0) :: acc) else closeL cells r acc
theorem closeL_sub (cells:List (Str × Addr)) : ∀ (l:List (Str × NameKind)) (acc:List (Str × Addr)),(∀ y ∈ l,y.2 = .free → ∃ c,cells.lookup y.1 = some c) → (∀ x c,acc.lookup x = some c → cells.lookup x = some c) →
    ∀ x c,(closeL cells l acc).lookup x = some c → cells.lookup x = some c
  | [],acc,_,ha => ha
  | (n,k) :: r,acc,h,ha => by
    unfold closeL
    split
    · rename_i hk
      have hk':k = .free := by simpa using hk
      obtain ⟨c0,e0⟩ := h (n,k) List.mem_cons_self hk'
      refine closeL_sub cells r _ (fun y hy => h y (List.mem_cons_of_mem _ hy)) fun x c e => ?_
      dsimp only at e0
      rw [e0,Option.getD_some] at e
      by_cases hx:x = n
      · subst hx
        rw [List.lookup_cons_self] at e
        rw [e0]; exact e
      · have hb:(x == n) = false := by simpa using hx
        rw [List.lookup_cons,hb] at e
        exact ha x c e
    · exact closeL_sub cells r acc (fun y hy => h y (List.mem_cons_of_mem _ hy)) ha
theorem closeL_acc (cells:List (Str × Addr)) : ∀ (l:List (Str × NameKind)) (acc:List (Str × Addr)) (x:Str),(∃ c,acc.lookup x = some c) → ∃ c,(closeL cells l acc).lookup x = some c
  | [],acc,x,h => h
  | (n,k) :: r,acc,x,h => by
    unfold closeL
    split
    · refine closeL_acc cells r _ x ?_
      cases hb:x == n with
      | true => exact ⟨_,by rw [List.lookup_cons,hb]⟩
      | false => obtain ⟨c,e⟩ := h; exact ⟨c,by rw [List.lookup_cons,hb]; exact e⟩
    · exact closeL_acc cells r acc x h
theorem closeL_has (cells:List (Str × Addr)) : ∀ (l:List (Str × NameKind)) (acc:List (Str × Addr)) (x:Str),(x,NameKind.free) ∈ l → ∃ c,(closeL cells l acc).lookup x = some c
  | (n,k) :: r,acc,x,h => by
    unfold closeL
    rcases List.mem_cons.mp h with e | h
    · cases e
      rw [if_pos (by simp)]
      exact closeL_acc cells r ((n,(cells.lookup n).getD 0) :: acc) n ⟨_,by rw [List.lookup_cons_self]⟩
    · split
      · exact closeL_has cells r _ x h
      · exact closeL_has cells r _ x h
theorem closureFor_eq {scope:Scope} {env:Env} (h : ∀ y ∈ scope.names,y.2 = .free → ∃ c,env.cells.lookup y.1 = some c):closureFor scope env = pure (closeL env.cells scope.names []) := by
  unfold closureFor
  have go : ∀ (l:List (Str × NameKind)) (acc:List (Str × Addr)),(∀ y ∈ l,y.2 = .free → ∃ c,env.cells.lookup y.1 = some c) →
      (forIn (m := Sem) l acc fun x r => match x with
        | (name,kind) => if (kind == NameKind.free) = true then do let a ← cellOf env name; pure (ForInStep.yield ((name,a) :: r)) else pure (ForInStep.yield r)) = pure (closeL env.cells l acc) := by
    intro l
    induction l with
    | nil => intro acc _; rfl
    | cons y r ih =>
      intro acc hl
      obtain ⟨n,k⟩ := y
      rw [List.forIn_cons]
      unfold closeL
      cases hk:(k == NameKind.free) with
      | true =>
        obtain ⟨c,e⟩ := hl (n,k) List.mem_cons_self (by simpa using hk)
        dsimp only at e
        have hc:cellOf env n = pure c := by unfold cellOf; rw [e]
        simp only [hc,hk,if_true,e,Option.getD_some]
        exact ih _ fun y hy => hl y (List.mem_cons_of_mem _ hy)
      | false =>
        simp only [hk,Bool.false_eq_true,if_false]
        exact ih _ fun y hy => hl y (List.mem_cons_of_mem _ hy)
  exact (congrArg (fun m => m >>= fun cs => pure cs) (go scope.names [] h)).trans rfl
theorem relabel_free {env:Env} : ∀ {names:List (Str × NameKind)} {x:Str},names.lookup x = some .free →
    (names.map fun (n,k) => if (k == NameKind.free && env.scope.kind == .function && env.kindOf n == some .cell) then (n,NameKind.cell) else (n,k)).lookup x = some .cell ∨
    (names.map fun (n,k) => if (k == NameKind.free && env.scope.kind == .function && env.kindOf n == some .cell) then (n,NameKind.cell) else (n,k)).lookup x = some .free
  | [],_,h => by simp at h
  | (n,k) :: r,x,h => by
    have ih := @relabel_free env r x
    rw [List.map_cons]
    cases hx:x == n with
    | true =>
      rw [List.lookup_cons,hx] at h
      cases h
      dsimp only
      split <;> simp [List.lookup_cons,hx]
    | false =>
      rw [List.lookup_cons,hx] at h
      dsimp only
      split <;> simp only [List.lookup_cons,hx] <;> exact ih h
theorem of_relabel {env:Env} : ∀ {names:List (Str × NameKind)} {x:Str} {k0:NameKind},(∀ y ∈ names,y.2 ≠ .cell) →
    (names.map fun (n,k) => if (k == NameKind.free && env.scope.kind == .function && env.kindOf n == some .cell) then (n,NameKind.cell) else (n,k)).lookup x = some k0 → (k0 = .cell ∨ k0 = .free) → names.lookup x = some .free
  | [],_,_,_,h,_ => by simp at h
  | (n,k) :: r,x,k0,hn,h,hk => by
    have ih := @of_relabel env r x k0 (fun y hy => hn y (List.mem_cons_of_mem _ hy))
    rw [List.map_cons] at h
    cases hx:x == n with
    | true =>
      rw [List.lookup_cons,hx]
      have h0 := hn (n,k) List.mem_cons_self
      dsimp only at h h0
      by_cases c:(k == NameKind.free && env.scope.kind == .function && env.kindOf n == some .cell) = true
      · have:k = .free := by
          have := (Bool.and_eq_true_iff.mp (Bool.and_eq_true_iff.mp c).1).1
          simpa using this
        rw [this]
      · rw [if_neg c,List.lookup_cons,hx] at h
        cases h
        rcases hk with rfl | rfl
        · exact absurd rfl h0
        · rfl
    | false =>
      rw [List.lookup_cons,hx]
      dsimp only at h
      by_cases c:(k == NameKind.free && env.scope.kind == .function && env.kindOf n == some .cell) = true
      · rw [if_pos c,List.lookup_cons,hx] at h; exact ih h hk
      · rw [if_neg c,List.lookup_cons,hx] at h; exact ih h hk
noncomputable def compCx (X:Cx) (scope:Scope) (cl:List (Str × Addr)) (N':List Str) (C:Addr) (s2:Shared) (H2:Hp) (fp:List Addr):Cx :=
  { X with N := N',s₀ := s2,H₀ := H2,env := compEnvC scope cl C X.env,outer := X.stack,stack := X.stack,ex := fp,fn := fun _ => false,pn := [],xe := fun _ _ => False }
structure CompChk (sc scope:Scope) (N N':List Str) (nt:Nat) (cap:List Nat):Prop where
  kind:scope.kind = .function
  nocell : ∀ y ∈ scope.names,y.2 ≠ .cell
  names : ∀ y ∈ scope.names,y.2 = .local → scope.names.lookup y.1 = some .local
  fr : ∀ y ∈ scope.names,y.2 = .free → sc.names.lookup y.1 = some .cell ∨ sc.names.lookup y.1 = some .free
  len:N'.length = nt + cap.length
  cap : ∀ j ∈ List.range cap.length, ∀ x ∈ N'[nt + j]?, ∀ i ∈ cap[j]?,N[i]? = some x ∧ scope.names.lookup x = some .free
noncomputable def PIfs (X:Cx) (ifs:List Expr) (t:TT):Prop :=
  ∀ (pins:List (Addr × Obj)) (s:Shared) (σ:St) (H:Hp) (Q:Bool → Hp → Prop),Inv X pins σ H s → t σ H Q →
    wpAny (model X.prog X.w) X.A (forIn ifs true fun c r => if r = true then do let ok ← isTrue c X.env (eval c X.env); pure (ForInStep.yield ok) else pure (ForInStep.yield r)) (TP X pins σ Q) X.xe s
noncomputable def tYes:TT := fun _ H Q => Q true H
theorem pifs_nil {X:Cx}:PIfs X [] tYes := fun _ _ _ H _ I h => wpAny_tests_nil ⟨H,I,h⟩
theorem pifs_one {X:Cx} {c:Expr} {t:TT} (h:PT X c t):PIfs X [c] t := fun pins s σ H Q I hq => wpAny_tests_one (h pins s σ H Q I hq)
noncomputable def GExt (nt:Nat) (g:TG):Prop := ∀ x σ H Q,g x σ H Q → g x σ H fun σ2 H2 => ((∀ j:Nat,nt ≤ j → σ2[j]? = σ[j]?) ∧ σ2.length = σ.length) ∧ Q σ2 H2
theorem gext_name {i nt:Nat} (h:i < nt):GExt nt (gName i) := fun x σ H Q q => ⟨⟨fun j hj => by rw [List.getElem?_set_ne (by omega)],by simp⟩,q⟩
section
variable {X:Cx} {elt iter tg:Expr} {ifs:List Expr} {scope:Scope} {pos:Pos} {wi:TI} {g:TG} {tt:TT} {te:TE} {sc:Scope} {N N':List Str} {nt:Nat} {cap:List Nat}
theorem comp_ok {pins:List (Addr × Obj)} {σ:St} {H2:Hp} {s2:Shared} {fp:List Addr} {h1:Heap} {C D:Addr} {o:Obj} {tk:Nat} (hsc:X.env.scope = sc) (hN:X.N = N) (chk:CompChk sc scope N N' nt cap)
    (I2:Inv X pins σ H2 s2) (f2 : ∀ b ∈ fp,FpOk X pins H2 b) (hD:s2.heap.objs.size = D) (hC:s2.heap.objs.size < C) (hns:h1.Ns C fun _ => none) (old : ∀ b o,s2.heap.get? b = some o → h1.get? b = some o)
    (hfp : ∀ b ∈ fp,b < s2.heap.objs.size) (ho:h1.get? D = some o) (hod : ∀ v,o.data ≠ .cell v) :
    Inv (compCx X scope (closeL X.env.cells scope.names []) N' C s2 H2 fp) [(D,o)] (capσ nt cap σ) H2 { s2 with heap := h1,toks := tk } := by
  have hcells : ∀ y ∈ scope.names,y.2 = .free → ∃ c,X.env.cells.lookup y.1 = some c := fun y hy hk => I2.ok.has y.1 (by show X.env.scope.names.lookup y.1 = _ ∨ X.env.scope.names.lookup y.1 = _; rw [hsc]; exact chk.fr y hy hk)
  have hsub : ∀ x c,(closeL X.env.cells scope.names []).lookup x = some c → X.env.cells.lookup x = some c := closeL_sub X.env.cells scope.names [] hcells (fun x c e => by simp at e)
  have hhas : ∀ x,scope.names.lookup x = some .free → ∃ c,(closeL X.env.cells scope.names []).lookup x = some c := fun x e => closeL_has X.env.cells scope.names [] x (PySem.mem_of_lookup e)
  have nst : ∀ b,s2.heap.objs.size ≤ b → b ∉ frs X.stack := fun b hb hm => by
    rcases List.mem_cons.mp (I2.stkSub b hm) with e | e
    · rw [e] at hb; exact absurd (Nat.lt_of_lt_of_le I2.lt hb) (Nat.lt_irrefl _)
    · exact I2.nofs hb e
  have nC : ∀ x c,X.env.cells.lookup x = some c → c < s2.heap.objs.size := fun x c e => by
    obtain ⟨v,q⟩ := I2.cell x c e
    exact q.lt
  refine ⟨⟨I2.ok.mod,chk.kind,I2.ok.glob,I2.ok.blt,Nat.le_of_lt hC,fun x y c e1 e2 => I2.ok.inj x y c (hsub x c e1) (hsub y c e2),fun x hk => ?_,fun x c z _ => (nomatch z),fun hc => I2.ok.hd hc,I2.ok.frames,.inl rfl,
    fun b hb => ⟨Nat.ne_of_lt (Nat.lt_trans (hfp b hb) hC),fun x c e => (f2 b hb).2.2.2.2.1 x c (hsub x c e)⟩,I2.bs,Nat.le_trans I2.ok.bsz I2.sz,fun b ob e hb => ?_,fun b hb hm => ?_,I2.stack,I2.stkFree⟩,
    rfl,I2.bare,Un.kept old,⟨_,hns,fun j x v e1 e2 e3 => ?_⟩,fun x c e => ?_,I2.hok.fresh (Nat.le_of_lt hC),fun x c e => I2.freeC x c (hsub x c e),fun p hp => ?_,I2.hok.kept old, ?_⟩
  · -- has
    have hk':(relabel scope X.env).names.lookup x = some .cell ∨ (relabel scope X.env).names.lookup x = some .free := hk
    rcases hk' with e | e
    · exact hhas x (of_relabel chk.nocell e (.inl rfl))
    · exact hhas x (of_relabel chk.nocell e (.inr rfl))
  · -- noex
    rcases (f2 b hb).2.2.2.1 with z | z
    · exact I2.ok.noex b ob e z
    · exact absurd (Nat.lt_of_lt_of_le (Heap.lt_size e) (Nat.le_trans I2.ok.bsz z)) (Nat.lt_irrefl _)
  · -- exfs
    rcases List.mem_cons.mp (I2.stkSub b hm) with e | e
    · exact (f2 b hb).2.1 e
    · exact (f2 b hb).2.2.1 e
  · -- names
    have hj:nt ≤ j := by
      apply Nat.le_of_not_lt
      intro hj
      unfold capσ at e2
      rw [List.getElem?_append_left (by simpa using hj),List.getElem?_replicate,if_pos hj] at e2
      cases e2
    obtain ⟨l,rfl⟩ : ∃ l,j = nt + l := ⟨j - nt,by omega⟩
    unfold capσ at e2
    rw [List.getElem?_append_right (by simp),List.length_replicate,Nat.add_sub_cancel_left,List.getElem?_map] at e2
    cases ec:cap[l]? with
    | none => rw [ec] at e2; cases e2
    | some i =>
      rw [ec,Option.map_some] at e2
      have hl:l < cap.length := (List.getElem?_eq_some_iff.mp ec).1
      have e1':N'[nt + l]? = some x := e1
      obtain ⟨h3,h4⟩ := chk.cap l (List.mem_range.mpr hl) x (by rw [e1']; rfl) i (by rw [ec]; rfl)
      have e2' : σ[i]? = some (some v) := by
        cases es : σ[i]? with
        | none => rw [es] at e2; cases e2
        | some ov =>
          rw [es] at e2
          cases ov with
          | none => cases e2
          | some v' => cases e2; rfl
      obtain ⟨m,hm,hl'⟩ := I2.loc
      have hkk:X.env.scope.names.lookup x = some .cell ∨ X.env.scope.names.lookup x = some .free := by rw [hsc]; exact chk.fr (x,.free) (PySem.mem_of_lookup h4) rfl
      obtain ⟨u,ru,lk⟩ := hl' i x v (by rw [hN]; exact h3) e2' (.inr hkk)
      refine ⟨u,ru,.inr ⟨relabel_free h4, ?_⟩⟩
      rcases lk with ⟨hk,_⟩ | ⟨_,c,hc,hcell⟩
      · have hk':X.env.scope.names.lookup x = some .local := hk
        rcases hkk with z | z <;> (rw [hk'] at z; cases z)
      · obtain ⟨c',e'⟩ := hhas x h4
        have := hsub x c' e'
        rw [hc] at this; cases this
        obtain ⟨oc,h5,h6⟩ := hcell
        exact ⟨c,e',oc,old c oc h5,h6⟩
  · -- cells
    obtain ⟨v,oc,h5,h6⟩ := I2.cell x c (hsub x c e)
    exact ⟨v,oc,old c oc h5,h6⟩
  · -- pins
    have hp':p = (D,o) := by simpa [compCx] using hp
    subst hp'
    refine ⟨ho,I2.hok.fresh (Nat.le_of_eq hD), ?_,nst D (Nat.le_of_eq hD),hod⟩
    show D ≠ C
    exact Nat.ne_of_lt (by rw [← hD]; exact hC)
  · show (capσ nt cap σ).length = N'.length
    rw [chk.len]
    simp [capσ]
theorem comp_core (hsc:X.env.scope = sc) (hN:X.N = N) (chk:CompChk sc scope N N' nt cap) (hc:X.calm = true) (hi:PI X tg iter wi)
    (hg : ∀ cl C s2 H2 fp,PG (compCx X scope cl N' C s2 H2 fp) tg g) (hge:GExt nt g) (ht : ∀ cl C s2 H2 fp,PIfs (compCx X scope cl N' C s2 H2 fp) ifs tt) (he : ∀ cl C s2 H2 fp,PE (compCx X scope cl N' C s2 H2 fp) elt te)
    (hs : ∀ x,foldedSetIterable iter X.env x = pure x) {use:Option (Value → Sem Unit)} {QQ:Value → Shared → Prop} {pins:List (Addr × Obj)} {s:Shared} {σ:St} {H:Hp} {p0:Pos} (I:Inv X pins σ H s) (Q:VK)
    (fin : ∀ (s4:Shared) (D C:Addr) (H4:Hp),C ≠ D → H4 C = none → (∃ m,s4.heap.Ns C m) → (∀ h',Heap.SameBut C s4.heap h' → Inv X pins σ H4 { s4 with heap := h' }) →
      ((C ∈ X.ex ∨ X.s₀.heap.objs.size ≤ C) ∧ C ≠ X.env.locals ∧ (∀ x c,X.env.cells.lookup x = some c → c ≠ C) ∧ ∀ p ∈ X.pn ++ pins,p.1 ≠ C) → Q (.ref D) H4 → compPost (model X.prog X.w) X.A X.xe use QQ (.ref D) C (.ok .next) s4)
    (h:tComp nt cap wi g tt te σ H Q):wpAny (model X.prog X.w) X.A (comprehension (.ListComp elt [⟨tg,iter,ifs,0⟩] scope pos) scope X.env p0 (newList []) false (eval iter X.env) use) QQ X.xe s := by
  have hcells : ∀ y ∈ scope.names,y.2 = .free → ∃ c,X.env.cells.lookup y.1 = some c := fun y hy hk => I.ok.has y.1 (by show X.env.scope.names.lookup y.1 = _ ∨ X.env.scope.names.lookup y.1 = _; rw [hsc]; exact chk.fr y hy hk)
  refine wpAny_comprehension_free (use := use) rfl hs (closureFor_eq hcells) chk.kind chk.names ?_
  refine thn (hi pins s σ H _ I h) fun v s1 h1 => thn h1 fun itv s2 h2 => ?_
  obtain ⟨it,fp,tn,J,H2,e,I2,T,st2,f2,W,⟨m0,w0⟩,turn⟩ := h2
  subst e
  refine wpAny_newObj_type (wpAny_newFunctionEnv chk.nocell (by intro y hy; simp at hy) (fun h₁ hns₁ hsb₁ => ?_) chk.kind)
  dsimp only at hns₁ hsb₁ ⊢
  generalize hG:s2.heap.push { cls := .type "list",dict := none,data := .seq ([]:List Value).toArray } = G at hns₁ hsb₁ ⊢
  have hCs:G.objs.size = s2.heap.objs.size + 1 := by rw [← hG,Heap.size_push]
  have hDC:s2.heap.objs.size ≠ G.objs.size := by rw [hCs]; exact Nat.ne_of_lt (Nat.lt_succ_self _)
  have below : ∀ b,b < s2.heap.objs.size → b ≠ G.objs.size := fun b hb => by rw [hCs]; exact Nat.ne_of_lt (Nat.lt_succ_of_lt hb)
  have old : ∀ b o,s2.heap.get? b = some o → h₁.get? b = some o := fun b o e => hsb₁.extBut b o (below b (Heap.lt_size e)) (Heap.get?_push_of_some _ (hG ▸ Heap.get?_push_of_some _ e))
  have hacc:h₁.get? s2.heap.objs.size = some { cls := .type "list",dict := none,data := .seq ([]:List Value).toArray } := hsb₁.extBut _ _ hDC (Heap.get?_push_of_some _ (hG ▸ Heap.get?_push_size _ rfl))
  have hfp : ∀ b ∈ fp,b < s2.heap.objs.size := fun b hb => by
    obtain ⟨o,e,_⟩ := T.obj 0 _ st2 b hb
    exact Heap.lt_size e
  generalize hD:s2.heap.objs.size = D at hacc hDC ⊢
  generalize hC:G.objs.size = C at hns₁ hsb₁ hDC ⊢
  have hDC':s2.heap.objs.size < C := by rw [← hC,hCs]; exact Nat.lt_succ_self _
  have hns:h₁.Ns C fun _ => none := by
    have:(fun x:Str => ([]:List (Str × Value)).reverse.lookup x) = fun _ => none := by funext x; rfl
    rw [← this]
    exact hns₁
  let cl := closeL X.env.cells scope.names []
  let X' := compCx X scope cl N' C s2 H2 fp
  let ob:List Value → Nat → Obj := fun its n => { cls := .type "list",dict := none,data := .seq its.toArray n }
  have I0:Inv X' [(D,ob [] 0)] (capσ nt cap σ) H2 { s2 with heap := h₁,toks := s2.toks + ([]:List (Str × Value)).length } := comp_ok hsc hN chk I2 f2 hD hDC' hns old hfp hacc (fun v z => nomatch z)
  have fpD : ∀ b ∈ fp,b ≠ D := fun b hb z => by have := hfp b hb; rw [z,hD] at this; exact Nat.lt_irrefl _ this
  -- what stays true of the iterator's objects
  have stat : ∀ {H':Hp} {its:List Value} {n:Nat},(∀ b ∈ fp,H' b = none) → ∀ b ∈ fp,FpOk X' [(D,ob its n)] H' b := fun {H' its n} hn b hb => by
    obtain ⟨_,f1,f2',f3,f4,f5⟩ := f2 b hb
    refine ⟨hn b hb,Nat.ne_of_lt (Nat.lt_trans (hfp b hb) hDC'),I0.ok.exfs b hb,.inl hb,(I0.ok.exf b hb).2,fun p hp => ?_⟩
    have hp':p = (D,ob its n) := by simpa [X',compCx] using hp
    subst hp'
    exact Ne.symm (fpD b hb)
  have st0:tn 0 h₁ := T.keep 0 _ _ st2 fun b hb o e => old b o e
  have loop:codeAny (model X.prog X.w) X.A (.compLoop (.ListComp elt [⟨tg,iter,ifs,0⟩] scope pos) 0 (.ref it) (.ref D) (compEnvC scope cl C X.env))
      (compPost (model X.prog X.w) X.A X.xe use QQ (.ref D) C) { s2 with heap := h₁,toks := s2.toks + ([]:List (Str × Value)).length } := by
    refine compLoop_any (fun k s' => ∃ i ys its n H',Inv X' [(D,ob its n)] (capσ nt cap σ) H' s' ∧ tn i s'.heap ∧ (∀ b ∈ fp,H' b = none) ∧ Vals ys its ∧ W i k ys H') ?_ m0 ⟨0,[],[],0,H2,I0,st0,fun b hb => (f2 b hb).1,.nil,w0⟩
    rintro k s3 ⟨i,ys,its,n,H3,I3,st3,fr3,rv3,w3⟩
    have pD := I3.pin (D,ob its n) (by simp)
    rcases turn i k ys H3 w3 with ⟨stop,hz,qn⟩ | ⟨go,step⟩
    · refine wpAny_mono (T.done X' rfl rfl rfl hc i _ s3 _ H3 (fun _ _ => False) I3 (stat fr3) st3 stop) (fun r s4 zz_ => ?_) fun _ _ z => False.elim z
      obtain ⟨hr,I4⟩ := zz_
      subst hr
      have pD4 := I4.pin (D,ob its n) (by simp)
      obtain ⟨mC,hnC,_⟩ := I4.loc
      have J : ∀ h',Heap.SameBut C s4.heap h' → Inv X pins σ (upd H3 D (.lst ys)) { s4 with heap := h' } := fun h' sb => by
        -- the list becomes tracked
        have hfree:H3 D = none := pD4.2.1
        have neC : ∀ b u,H3 b = some u → b ≠ C := fun b u e z => by
          have:H3 C = none := I4.free
          rw [z,this] at e; cases e
        have neD : ∀ b u,H3 b = some u → b ≠ D := fun b u e z => by rw [z,hfree] at e; cases e
        have hltC : ∀ b,b < s2.heap.objs.size → b ≠ C := fun b hb => by omega
        have hltD : ∀ b,b < s2.heap.objs.size → b ≠ D := fun b hb => by omega
        have hgD:h'.get? D = some (ob its n) := sb.extBut D _ hDC pD4.1
        have un:Un (frs X.stack) fp H2 (upd H3 D (.lst ys)) s2.heap h' := by
          have bs:Un (frs X.stack) fp H2 H3 s2.heap s4.heap := I4.base
          refine ⟨fun b o e n hb hx => ?_,fun b o e n hb hx => ?_,fun b o e n hx => ?_,fun b o e hx => ?_,fun b xs e => ?_,fun b o u e => ?_,fun b ps e => ?_⟩
          · exact sb.extBut b o (hltC b (Heap.lt_size e)) (bs.keep b o e n hb hx)
          · obtain ⟨sl,q⟩ := bs.slot b o e n hb hx
            exact ⟨sl,sb.extBut b _ (hltC b (Heap.lt_size e)) q⟩
          · rw [upd_ne (hltD b (Heap.lt_size e))]; exact bs.free b o e n hx
          · obtain ⟨o',q⟩ := bs.there b o e hx
            exact ⟨o',sb.extBut b _ (hltC b (Heap.lt_size e)) q⟩
          · have q := bs.tups b xs e
            rw [upd_ne (neD b _ q)]; exact q
          · have q := bs.frzs b o u e
            rw [upd_ne (neD b _ q)]; exact q
          · obtain ⟨more,q⟩ := bs.tbls b ps e
            exact ⟨more,by rw [upd_ne (neD b _ q)]; exact q⟩
        have hok:HOk X.prog X.w (upd H3 D (.lst ys)) h' := fun b u e => by
          by_cases hb:b = D
          · subst hb
            rw [upd_same] at e; cases e
            exact ⟨hz,its,n,rv3,hgD⟩
          · rw [upd_ne hb] at e
            refine (I4.hok b u e).stay (fun c v hcc q => sb.extBut c v ?_ q) (fun c q => by rw [upd_ne (neD c _ q)]; exact q) fun c xs q => by rw [upd_ne (neD c _ q)]; exact q
            rcases hcc with rfl | hcc
            · exact neC _ _ e
            · exact neC _ _ hcc
        have hch : ∀ b ∈ fp,(b ∈ X.ex ∨ X.s₀.heap.objs.size ≤ b) ∧ b ≠ X.env.locals ∧ (∀ x c,X.env.cells.lookup x = some c → c ≠ b) ∧ ∀ p ∈ X.pn ++ pins,p.1 ≠ b := fun b hb => by
          obtain ⟨_,f1,_,f3,f4,f5⟩ := f2 b hb
          exact ⟨f3,f1,f4,f5⟩
        have os4:s4.os = s2.os := I4.os
        have I5:Inv X pins σ (upd H3 D (.lst ys)) { s4 with heap := h' } := I2.call' (s' := { s4 with heap := h' }) os4 un hok I4.bare hch
        exact I5
      have hfree:H3 D = none := pD4.2.1
      have hfC:H3 C = none := I4.free
      exact fin s4 D C _ (Ne.symm hDC) (by rw [upd_ne (Ne.symm hDC)]; exact hfC) ⟨mC,hnC⟩ J
        ⟨.inr (Nat.le_trans I2.sz (Nat.le_of_lt hDC')),fun z => Nat.lt_irrefl _ (Nat.lt_trans hDC' (z ▸ I2.lt)),fun x c e z => (by
          obtain ⟨v',oc,h5,h6⟩ := I2.cell x c e
          exact Nat.lt_irrefl _ (Nat.lt_trans hDC' (z ▸ Heap.lt_size h5))),fun p hp z => Nat.lt_irrefl _ (Nat.lt_trans hDC' (z ▸ Heap.lt_size (I2.pin p hp).1))⟩ (qn D hfree)
    · refine wpAny_mono (T.item X' rfl rfl rfl hc i _ s3 _ H3 (fun _ _ => False) I3 (stat fr3) st3 go) (fun r s4 zz_ => ?_) fun _ _ z => False.elim z
      obtain ⟨u,hr,h4⟩ := zz_
      subst hr
      refine wpAny_mono h4 (fun _ s5 zz_ => ?_) fun _ _ z => False.elim z
      obtain ⟨x,H5,I5,r5,y5,st5,fr5⟩ := zz_
      have I5' := I5.pinned (stat fr5) (T.obj _ _ st5)
      refine wpAny_mono (hg cl C s2 H2 fp _ s5 _ H5 x u _ I5' r5 (hge _ _ _ _ (step x H5 y5))) (fun _ s6 zz_ => ?_) fun _ _ z => False.elim z
      obtain ⟨σ6,H6,I6,⟨ext,exl⟩,q6⟩ := zz_
      refine wpAny_mono (ht cl C s2 H2 fp _ s6 σ6 H6 _ I6 q6) (fun b s7 zz_ => ?_) fun _ _ z => False.elim z
      obtain ⟨H7,I7,q7⟩ := zz_
      -- back to the block's start
      have back : ∀ {s':Shared} {H':Hp},Inv X' ([(D,ob its n)] ++ pinsAt fp s5.heap) σ6 H' s' → Inv X' [(D,ob its n)] (capσ nt cap σ) H' s' ∧ tn (i + 1) s'.heap ∧ ∀ b ∈ fp,H' b = none := fun {s' H'} J => by
        refine ⟨J.unpinned.weak (by rw [exl]) fun j w e => ?_,T.keep _ _ _ st5 fun b hb o e => (J.pin (b,o) (List.mem_append_right _ (List.mem_append_right _ (mem_pinsAt hb e)))).1,fun b hb => ?_⟩
        · have hj:nt ≤ j := by
            apply Nat.le_of_not_lt
            intro hj
            unfold capσ at e
            rw [List.getElem?_append_left (by simpa using hj),List.getElem?_replicate,if_pos hj] at e
            cases e
          rw [ext j hj]; exact e
        · obtain ⟨o,e,d⟩ := T.obj _ _ st5 b hb
          exact (J.pin (b,o) (List.mem_append_right _ (List.mem_append_right _ (mem_pinsAt hb e)))).2.1
      cases b with
      | false =>
        rw [if_neg Bool.false_ne_true] at q7 ⊢
        obtain ⟨m',hm,w7⟩ := q7
        obtain ⟨J,st7,fr7⟩ := back I7
        exact ⟨m',hm,i + 1,ys,its,n,H7,J,st7,fr7,rv3,w7⟩
      | true =>
        rw [if_pos rfl] at q7 ⊢
        refine wpAny_mono (he cl C s2 H2 fp _ s7 σ6 H7 _ I7 q7) (fun y s8 zz_ => ?_) fun _ _ z => False.elim z
        obtain ⟨yv,H8,I8,r8,hz8,m',hm,w8⟩ := zz_
        obtain ⟨J,st8,fr8⟩ := back I8
        have pD8 := J.pin (D,ob its n) (by simp)
        have hsz:its.toArray.size ≤ sizeLine := by
          have := rv3.length
          rw [List.size_toArray]; omega
        refine wpAny_list_append_plain (l := D) (items := its.toArray) ⟨n,pD8.1⟩ (fun h9 pl sb9 => ?_) hsz
        obtain ⟨n9,e9⟩ := pl
        refine ⟨m',hm,i + 1,ys ++ [yv],its ++ [y],n9,H8, ?_,T.keep _ _ _ st8 fun b hb o e => sb9.extBut b o (fpD b hb) e,fr8,rv3.append (.cons r8 .nil),w8⟩
        have J0:Inv X' [] (capσ nt cap σ) H8 s8 := J.pins_of fun p hp => absurd hp (by simp)
        have cellsD : ∀ x c,X'.env.cells.lookup x = some c → c ≠ D := fun x c e z => by
          obtain ⟨v',oc,h5,h6⟩ := J.cell x c e
          rw [z,pD8.1] at h5; cases h5
          exact absurd h6 (fun z => nomatch z)
        have J1:Inv X' [] (capσ nt cap σ) H8 { s8 with heap := h9 } := J0.turned (t' := s8.toks) (fun b o hb e => sb9.extBut b o hb e) pD8.2.1 pD8.2.2.1 (.inr (Nat.le_of_eq hD)) cellsD (fun p hp => absurd hp (by simp [X',compCx]))
        refine J1.pins_of fun p hp => ?_
        have hp':p = (D,ob (its ++ [y]) n9) := by simpa using hp
        subst hp'
        refine ⟨?_,pD8.2.1,pD8.2.2.1,pD8.2.2.2.1,fun v z => nomatch z⟩
        show h9.get? D = some (ob (its ++ [y]) n9)
        rw [e9]
        simp [ob]
  refine codeAny_compStart_list loop ?_
  exact T.self X.A 0 _ _ _ st0 loop
theorem pe_comp (hsc:X.env.scope = sc) (hN:X.N = N) (chk:CompChk sc scope N N' nt cap) (hc:X.calm = true) (hi:PI X tg iter wi)
    (hg : ∀ cl C s2 H2 fp,PG (compCx X scope cl N' C s2 H2 fp) tg g) (hge:GExt nt g) (ht : ∀ cl C s2 H2 fp,PIfs (compCx X scope cl N' C s2 H2 fp) ifs tt) (he : ∀ cl C s2 H2 fp,PE (compCx X scope cl N' C s2 H2 fp) elt te)
    (hs : ∀ x,foldedSetIterable iter X.env x = pure x := by intro _; rfl):PE X (.ListComp elt [⟨tg,iter,ifs,0⟩] scope pos) (tComp nt cap wi g tt te) := by
  intro pins s σ H Q I h
  rw [eval_ListComp]
  exact comp_core (use := none) hsc hN chk hc hi hg hge ht he hs I Q (fun s4 D C H4 _ _ hn J _ q => by
    obtain ⟨m,hm⟩ := hn
    exact ⟨m,hm,fun h' sb => ⟨.ref D,_,J h' sb,rfl,q⟩⟩) h
theorem ps_comp (hsc:X.env.scope = sc) (hN:X.N = N) (chk:CompChk sc scope N N' nt cap) (hc:X.calm = true) (hi:PI X tg iter wi)
    (hg : ∀ cl C s2 H2 fp,PG (compCx X scope cl N' C s2 H2 fp) tg g) (hge:GExt nt g) (ht : ∀ cl C s2 H2 fp,PIfs (compCx X scope cl N' C s2 H2 fp) ifs tt) (he : ∀ cl C s2 H2 fp,PE (compCx X scope cl N' C s2 H2 fp) elt te)
    {i:Nat} {x:Str} {pos' spos:Pos} (hNd:X.N.Nodup) (hi':X.N[i]? = some x) (hx:Loc X.env.scope x) (hf:X.fn x = true ∨ X.env.scope.names.lookup x = some .local)
    (hsw:swapsWith (.ListComp elt [⟨tg,iter,ifs,0⟩] scope pos) (some (.Name x pos')) spos.line X.env = pure true) (hs : ∀ x,foldedSetIterable iter X.env x = pure x := by intro _; rfl) :
    PS X (.Assign [.Name x pos'] (.ListComp elt [⟨tg,iter,ifs,0⟩] scope pos) spos) (tAsg (tComp nt cap wi g tt te) (gName i)) := by
  intro pins s σ H D I h
  rw [exec_Assign_Name_used _ _ _ _ hsw]
  refine wpAny_bind (wpAny_standAt (wpAny_bind ?_))
  show wpAny _ X.A (do let _ ← comprehension (.ListComp elt [⟨tg,iter,ifs,0⟩] scope pos) scope X.env _ (newList []) false (eval iter X.env) (some (assign (.Name x pos') X.env))) _ _ s
  refine wpAny_bind (wpAny_mono (comp_core (use := some (assign (.Name x pos') X.env)) (QQ := fun _ s' => ∃ σ' H',Inv X pins σ' H' s' ∧ D.nx σ' H') hsc hN chk hc hi hg hge ht he hs I _ (fun s4 D' C H4 hne hf4 hn J hch q => ?_) h) (fun _ s' hq => wpAny_pure (wpAny_pure hq)) fun _ _ e => e)
  obtain ⟨m,hm⟩ := hn
  have I4:Inv X pins σ H4 s4 := J s4.heap (Heap.SameBut.refl C s4.heap)
  refine wpAny_assign_Name (store_ok2 I4 hNd hi' hx (v := .ref D') rfl (fun s5 I5 sb5 => ?_) hf)
  obtain ⟨a,sb,ha⟩ := sb5
  have haC:C ≠ a := by
    rcases ha with rfl | ha
    · exact hch.2.1
    · exact fun z => hch.2.2.1 _ _ ha z.symm
  refine ⟨m,hm.sameBut sb haC,fun h' sb' => ⟨_,H4, ?_,q⟩⟩
  refine I5.call' (s' := { s5 with heap := h' }) (ch := [C]) rfl ⟨fun b o e _ _ hb => sb'.extBut b o (by simpa using hb) e,fun b o e _ _ hb => ⟨o.slots,sb'.extBut b o (by simpa using hb) e⟩,fun b o _ n _ => n,fun b o e hb => ⟨o,sb'.extBut b o (by simpa using hb) e⟩,fun _ _ e => e,fun _ _ _ e => e,fun _ ps e => ⟨#[],by simpa using e⟩⟩ (fun b u e => ?_) I5.bare (fun b hb => ?_)
  · refine (I5.hok b u e).stay (fun c v hcc q => sb'.extBut c v ?_ q) (fun _ q => q) fun _ _ q => q
    intro z
    subst z
    rcases hcc with rfl | hcc
    · rw [hf4] at e; cases e
    · rw [hf4] at hcc; cases hcc
  · have hb':b = C := by simpa using hb
    subst hb'
    exact hch
end
end L2
end
section
set_option Elab.async false
set_option linter.all false
set_option maxRecDepth 100000
namespace DL
open PySem
noncomputable def isStar:Expr → Bool
  | .Starred _ _ => true
  | _ => false
noncomputable def noStars:List Expr → Bool
  | [] => true
  | e :: es => !isStar e && noStars es
theorem star_cons {e:Expr} {es:List Expr} {env:Env} (h:isStar e = false):starEach (e :: es) env = (false,eval e env) :: starEach es env := by
  cases e <;> first | rfl | cases h
theorem star_none {pos:Pos} {env:Env} : ∀ {es:List Expr},noStars es = true → (backTo pos (starEach es env)).any (·.1) = false
  | [],_ => rfl
  | e :: es,h => by
    unfold noStars at h
    rw [Bool.and_eq_true,Bool.not_eq_true'] at h
    rw [star_cons h.1]
    show (false || (backTo pos (starEach es env)).any (·.1)) = false
    rw [star_none h.2]
    rfl
theorem star_one {e:Expr} {env:Env} (h:isStar e = false):starEach [e] env = [(false,eval e env)] := (star_cons h).trans rfl
theorem star_two {e e2:Expr} {env:Env} (h:isStar e = false) (h2:isStar e2 = false):starEach [e,e2] env = [(false,eval e env),(false,eval e2 env)] := by rw [star_cons h,star_one h2]
noncomputable def noComp:Expr → Bool
  | .ListComp _ _ _ _ => false
  | .SetComp _ _ _ _ => false
  | .DictComp _ _ _ _ _ => false
  | _ => true
theorem swaps_no {value:Expr} {t:Option Expr} {l:Nat} {env:Env} (h:noComp value = true):swapsWith value t l env = pure false := by
  cases value <;> first | rfl | cases h
end DL
namespace DL
open PySem PySem.Spec PyProof.Rows L2
noncomputable def noSet:Expr → Bool
  | .Set _ _ _ => false
  | _ => true
theorem folded_no {e:Expr} {env:Env} (h:noSet e = true) : ∀ x,foldedSetIterable e env x = pure x := fun x => by
  cases e <;> first | rfl | cases h
theorem marks_no {op:CmpOp} {e:Expr} (h:noSet e = true):behindInMarks op e = false := by
  cases e <;> first | rfl | cases h
noncomputable def plainT:Expr → Bool
  | .Call _ _ _ _ => true
  | .Name _ _ => true
  | .Subscript _ _ _ => true
  | .Attribute _ _ _ => true
  | .Constant _ _ _ => true
  | _ => false
theorem isTrue_no {e:Expr} {env:Env} (h:plainT e = true) : ∀ whole,isTrue e env whole = (do let v ← whole; standAt e.pos; holding [v] (truthy v)) := fun whole => by
  cases e <;> first | rfl | cases h
noncomputable def plainI:Expr → Bool
  | .Slice _ _ _ _ => false
  | .Tuple _ _ _ => false
  | _ => true
theorem plainIx_no {b:Expr} (h:plainI b = true):PlainIx b := fun o i => by
  cases b <;> first | rfl | cases h
end DL
end
section
set_option Elab.async false
set_option linter.all false
namespace DL
open PySem L2
noncomputable def subI (i j:Int):Option D := some (.int (i - j))
noncomputable def fdivI (i j:Int):Option D := if 0 < j ∧ j < 1073741824 then some (.int (i / j)) else none
noncomputable def modI (i j:Int):Option D := if 0 < j then some (.int (i % j)) else none
noncomputable def powI (i j:Int):Option D := if 0 ≤ j ∧ j ≤ 1000000 ∧ i.natAbs < 18446744073709551616 then some (.int (i ^ j.toNat)) else none
noncomputable def ltI (i j:Int):Option D := some (.bl (decide (i < j)))
noncomputable def leI (i j:Int):Option D := some (.bl (decide (i ≤ j)))
noncomputable def gtI (i j:Int):Option D := some (.bl (decide (j < i)))
noncomputable def geI (i j:Int):Option D := some (.bl (decide (j ≤ i)))
noncomputable def mulD:D → D → Option D
  | .int i,.int j => if (-18446744073709551616 < i ∧ i < 18446744073709551616) ∨ (-18446744073709551616 < j ∧ j < 18446744073709551616) then some (.int (i * j)) else none
  | .str z,.int k => if z.length ≤ 16 ∧ -1000000000000000000 ≤ k ∧ k ≤ 1000000 then some (.str (List.replicate k.toNat z).flatten) else none
  | _,_ => none
noncomputable def negD:D → Option D
  | .int i => some (.int (-i))
  | _ => none
noncomputable def eqZ (f:D → D → Option Bool):List D → List D → Option Bool
  | a :: as,b :: bs => (f a b).bind fun x => (eqZ f as bs).map fun y => x && y
  | _,_ => some true
noncomputable def eqN:Nat → D → D → Option Bool
  | 0,_,_ => none
  | n + 1,x,y => match x,y with
    | .non,.non => some true
    | .bl a,.bl b => some (a == b)
    | .int a,.int b => some (a == b)
    | .str a,.str b => some (a == b)
    | .tup as,.tup bs => (eqZ (eqN n) as bs).map fun r => r && as.length == bs.length
    | .lst as,.lst bs => if as.length = bs.length then eqZ (eqN n) as bs else some false
    | .bl a,.int b => some ((if a then 1 else 0) == b)
    | .int a,.bl b => some (a == (if b then 1 else 0))
    | .ob _ _ _,_ => none
    | _,.ob _ _ _ => none
    | .dct _ _,_ => none
    | _,.dct _ _ => none
    | .exc _,_ => none
    | _,.exc _ => none
    | _,_ => some false
noncomputable def eqF (neg:Bool) (x y:D):Option D := (eqN 100 x y).map fun b => .bl (if neg then !b else b)
noncomputable def isNon (neg:Bool) (x:D):Option D := match x with
  | .non => some (.bl (!neg))
  | _ => some (.bl neg)
noncomputable def minD:List D → Option D
  | [.int i,.int j] => some (.int (if j < i then j else i))
  | _ => none
noncomputable def maxD:List D → Option D
  | [.int i,.int j] => some (.int (if j > i then j else i))
  | _ => none
inductive Ty where
  | int | str | bool | list | tuple | dict
  deriving DecidableEq
noncomputable def instD (t:Ty):D → Option D
  | .non => some (.bl false)
  | .bl _ => some (.bl (t == .int || t == .bool))
  | .int _ => some (.bl (t == .int))
  | .str _ => some (.bl (t == .str))
  | .tup _ => some (.bl (t == .tuple))
  | .lst _ => some (.bl (t == .list))
  | _ => none
noncomputable def lookT {α:Type} (k:List Nat):List (List Nat × α) → Option α
  | [] => none
  | (x,v) :: r => if x = k then some v else lookT k r
noncomputable def tabD (tb:List (List Nat × Int)):D → Option D
  | .str k => (lookT k tb).map .int
  | _ => none
noncomputable def tabIn (neg:Bool) (tb:List (List Nat × Int)):D → Option D
  | .str k => some (.bl (if neg then !(lookT k tb).isSome else (lookT k tb).isSome))
  | _ => none
noncomputable def intsOf:List D → Option (List Int)
  | [] => some []
  | .int i :: r => (intsOf r).map (i :: ·)
  | _ => none
noncomputable def blsOf:List D → Option (List Bool)
  | [] => some []
  | .bl i :: r => (blsOf r).map (i :: ·)
  | _ => none
noncomputable def strsOf:List D → Option (List (List Nat))
  | [] => some []
  | .str i :: r => (strsOf r).map (i :: ·)
  | _ => none
noncomputable def sumD:D → Option D
  | .lst ds => (intsOf ds).bind fun is => if is.length ≤ 100000 ∧ is.all (fun i => decide (-1000000000000000000 < i ∧ i < 1000000000000000000)) then some (.int is.sum) else none
  | _ => none
noncomputable def maxL:Int → List Int → Int
  | m,[] => m
  | m,i :: r => maxL (if i > m then i else m) r
noncomputable def maxDfD:D → D → Option D
  | .lst ds,v => (intsOf ds).bind fun is => match is with
    | [] => some v
    | i :: r => some (.int (maxL i r))
  | _,_ => none
noncomputable def anyD:D → Option D
  | .lst ds => (blsOf ds).map fun bs => .bl (bs.any id)
  | _ => none
noncomputable def allD:D → Option D
  | .lst ds => (blsOf ds).map fun bs => .bl (bs.all id)
  | _ => none
noncomputable def joinL (sep:List Nat):List (List Nat) → List Nat
  | [] => []
  | [x] => x
  | x :: r => x ++ sep ++ joinL sep r
end DL
end
section
set_option Elab.async false
set_option linter.all false
namespace DL
open L2
structure Tag {α:Type} (a : α):Type where
  mk ::
noncomputable def obind {α β:Type} (a:Option α) (f : α → Option β) (_:Tag f := Tag.mk):Option β := a.bind f
@[simp] theorem obind_some {α β:Type} (a : α) (f : α → Option β):obind (some a) f = f a := (Eq.refl _).trans (Eq.refl _)
@[simp] theorem obind_none {α β:Type} (f : α → Option β):obind none f = none := (Eq.refl _).trans (Eq.refl _)
noncomputable def omap {α β:Type} (f : α → β) (a:Option α) (_:Tag f := Tag.mk):Option β := a.map f
@[simp] theorem omap_some {α β:Type} (a : α) (f : α → β):omap f (some a) = some (f a) := (Eq.refl _).trans (Eq.refl _)
@[simp] theorem omap_none {α β:Type} (f : α → β):omap f none = none := (Eq.refl _).trans (Eq.refl _)
noncomputable def slotV:Option Slot → Option D
  | some (.val d) => some d
  | _ => none
@[simp] theorem slotV_val (d:D):slotV (some (.val d)) = some d := (Eq.refl _).trans (Eq.refl _)
noncomputable def slotR:Option Slot → Option D
  | some (.val d) => some d
  | some (.own ds) => some (.lst ds)
  | some (.red ds) => some (.lst ds)
  | _ => none
@[simp] theorem slotR_val (d:D):slotR (some (.val d)) = some d := (Eq.refl _).trans (Eq.refl _)
@[simp] theorem slotR_own (d:List D):slotR (some (.own d)) = some (.lst d) := (Eq.refl _).trans (Eq.refl _)
@[simp] theorem slotR_red (d:List D):slotR (some (.red d)) = some (.lst d) := (Eq.refl _).trans (Eq.refl _)
noncomputable def slotO:Option Slot → Option (List D)
  | some (.own ds) => some ds
  | _ => none
@[simp] theorem slotO_own (d:List D):slotO (some (.own d)) = some d := (Eq.refl _).trans (Eq.refl _)
noncomputable def seqK (G:FS):DFl → Option DFl
  | .nx e => G e
  | r => some r
@[simp ↓] theorem seqK_nx (G:FS) (e:DEnv):seqK G (.nx e) = G e := (Eq.refl _).trans (Eq.refl _)
@[simp ↓] theorem seqK_rt (G:FS) (d:D) (e:DEnv):seqK G (.rt d e) = some (.rt d e) := (Eq.refl _).trans (Eq.refl _)
@[simp ↓] theorem seqK_rf (G:FS) (d:List D) (e:DEnv):seqK G (.rf d e) = some (.rf d e) := (Eq.refl _).trans (Eq.refl _)
@[simp ↓] theorem seqK_ex (G:FS) (c:Nat) (e:DEnv):seqK G (.ex c e) = some (.ex c e) := (Eq.refl _).trans (Eq.refl _)
noncomputable def retK:DFl → Option D
  | .rt d _ => some d
  | .nx _ => some .non
  | _ => none
@[simp] theorem retK_rt (d:D) (e:DEnv):retK (.rt d e) = some d := (Eq.refl _).trans (Eq.refl _)
@[simp] theorem retK_nx (e:DEnv):retK (.nx e) = some .non := (Eq.refl _).trans (Eq.refl _)
noncomputable def retFK:DFl → Option (List D)
  | .rf d _ => some d
  | _ => none
@[simp] theorem retFK_rf (d:List D) (e:DEnv):retFK (.rf d e) = some d := (Eq.refl _).trans (Eq.refl _)
noncomputable def ifK {α:Type} (a b:Option α) (c:Bool) (_:Tag a := Tag.mk) (_:Tag b := Tag.mk):Option α := if c = true then a else b
@[simp] theorem ifK_t {α:Type} (a b:Option α):ifK a b true = a := (Eq.refl _).trans (Eq.refl _)
@[simp] theorem ifK_f {α:Type} (a b:Option α):ifK a b false = b := (Eq.refl _).trans (Eq.refl _)
noncomputable def ftYes:FT := fun _ => some true
section
variable {α β δ:Type}
@[simp] theorem ev_feC (d:D) (env:DEnv):feC d env = some d := (Eq.refl _).trans (Eq.refl _)
@[simp] theorem ev_ftYes (env:DEnv):ftYes env = some true := (Eq.refl _).trans (Eq.refl _)
@[simp] theorem ev_fp1 (F : α → Option β) (f:FP α) (env:DEnv):fp1 F f env = obind (f env) (F) := (Eq.refl _).trans (Eq.refl _)
@[simp] theorem ev_fp2 (F : α → β → Option δ) (f:FP α) (g:FP β) (env:DEnv):fp2 F f g env = obind (f env) (fun x => obind (g env) (fun y => F x y)) := (Eq.refl _).trans (Eq.refl _)
@[simp] theorem ev_feFr (f:FP (List D)) (env:DEnv):feFr f env = omap (.lst) (f env) := (Eq.refl _).trans (Eq.refl _)
@[simp] theorem ev_faNil (env:DEnv):faNil env = some [] := (Eq.refl _).trans (Eq.refl _)
@[simp] theorem ev_faCons (f:FE) (g:FA) (env:DEnv):faCons f g env = obind (f env) (fun x => obind (g env) (fun r => some (x :: r))) := (Eq.refl _).trans (Eq.refl _)
@[simp] theorem ev_feTup (f:FA) (env:DEnv):feTup f env = obind (f env) (fun ds => if ds.length ≤ 1000 then some (.tup ds) else none) := (Eq.refl _).trans (Eq.refl _)
@[simp] theorem ev_ffLst (f:FA) (env:DEnv):ffLst f env = obind (f env) (fun ds => if ds.length ≤ 1000 then some ds else none) := (Eq.refl _).trans (Eq.refl _)
@[simp] theorem ev_ftB (f:FE) (env:DEnv):ftB f env = obind (f env) (blD) := (Eq.refl _).trans (Eq.refl _)
@[simp] theorem ev_blD (b:Bool):blD (.bl b) = some b := (Eq.refl _).trans (Eq.refl _)
@[simp] theorem ev_ftNot (c:FT) (env:DEnv):ftNot c env = obind (c env) (fun b => some (!b)) := (Eq.refl _).trans (Eq.refl _)
@[simp] theorem ev_ftAnd (c d:FT) (env:DEnv):ftAnd c d env = obind (c env) (fun b => ifK (d env) (some false) b) := (Eq.refl _).trans (Eq.refl _)
@[simp] theorem ev_ftOr (c d:FT) (env:DEnv):ftOr c d env = obind (c env) (fun b => ifK (some true) (d env) b) := (Eq.refl _).trans (Eq.refl _)
@[simp] theorem ev_feNot (f:FE) (env:DEnv):feNot f env = obind (f env) (fun x => omap (fun b => D.bl (!b)) (blD x)) := (Eq.refl _).trans (Eq.refl _)
@[simp] theorem ev_feAnd (f g:FE) (env:DEnv):feAnd f g env = obind (f env) (fun x => obind (blD x) (fun b => ifK (g env) (some (.bl false)) b)) := (Eq.refl _).trans (Eq.refl _)
@[simp] theorem ev_feOr (f g:FE) (env:DEnv):feOr f g env = obind (f env) (fun x => obind (blD x) (fun b => ifK (some (.bl true)) (g env) b)) := (Eq.refl _).trans (Eq.refl _)
@[simp] theorem ev_feIf (c:FT) (f g:FP α) (env:DEnv):feIf c f g env = obind (c env) (fun b => ifK (f env) (g env) b) := (Eq.refl _).trans (Eq.refl _)
@[simp] theorem ev_feCall (n:Nat) (F:List D → Option α) (f:FA) (env:DEnv):feCall n F f env = obind (f env) (fun ds => if ds.length = n then F ds else none) := (Eq.refl _).trans (Eq.refl _)
@[simp] theorem ev_foNone (env:DEnv):foNone env = some none := (Eq.refl _).trans (Eq.refl _)
@[simp] theorem ev_foSome (f:FE) (env:DEnv):foSome f env = obind (f env) (intO) := (Eq.refl _).trans (Eq.refl _)
@[simp] theorem ev_intO (i:Int):intO (.int i) = some (some i) := (Eq.refl _).trans (Eq.refl _)
@[simp] theorem ev_feSl (F:D → Option Int → Option Int → Option α) (f:FE) (l h:FO) (env:DEnv):feSl F f l h env = obind (f env) (fun x => obind (l env) (fun lo => obind (h env) (fun hi => F x lo hi))) := (Eq.refl _).trans (Eq.refl _)
@[simp] theorem ev_intD (g:Int → Int → Option D) (i j:Int):intD g (.int i) (.int j) = g i j := (Eq.refl _).trans (Eq.refl _)
@[simp] theorem ev_ltI (i j:Int):ltI i j = some (.bl (decide (i < j))) := (Eq.refl _).trans (Eq.refl _)
@[simp] theorem ev_leI (i j:Int):leI i j = some (.bl (decide (i ≤ j))) := (Eq.refl _).trans (Eq.refl _)
@[simp] theorem ev_gtI (i j:Int):gtI i j = some (.bl (decide (j < i))) := (Eq.refl _).trans (Eq.refl _)
@[simp] theorem ev_geI (i j:Int):geI i j = some (.bl (decide (j ≤ i))) := (Eq.refl _).trans (Eq.refl _)
@[simp] theorem ev_subI (i j:Int):subI i j = some (.int (i - j)) := (Eq.refl _).trans (Eq.refl _)
@[simp] theorem ev_addD_int (i j:Int):addD (.int i) (.int j) = some (.int (i + j)) := (Eq.refl _).trans (Eq.refl _)
@[simp] theorem ev_addD_str (a b:List Nat):addD (.str a) (.str b) = if a.length + b.length ≤ 1000000 then some (.str (a ++ b)) else none := (Eq.refl _).trans (Eq.refl _)
@[simp] theorem ev_addD_lst (a b:List D):addD (.lst a) (.lst b) = if a.length + b.length ≤ 1000000 then some (.lst (a ++ b)) else none := (Eq.refl _).trans (Eq.refl _)
@[simp] theorem ev_addD_tup (x:D) (a b:List D):addD (.tup (x :: a)) (.tup b) = if (x :: a).length + b.length ≤ 1000000 then some (.tup ((x :: a) ++ b)) else none := (Eq.refl _).trans (Eq.refl _)
@[simp] theorem ev_addF (a b:List D):addF (.lst a) (.lst b) = if a.length + b.length ≤ 1000000 then some (a ++ b) else none := (Eq.refl _).trans (Eq.refl _)
@[simp] theorem ev_negD (i:Int):negD (.int i) = some (.int (-i)) := (Eq.refl _).trans (Eq.refl _)
@[simp] theorem ev_lenD_lst (ds:List D):lenD (.lst ds) = some (.int ds.length) := (Eq.refl _).trans (Eq.refl _)
@[simp] theorem ev_lenD_tup (ds:List D):lenD (.tup ds) = some (.int ds.length) := (Eq.refl _).trans (Eq.refl _)
@[simp] theorem ev_lenD_str (z:List Nat):lenD (.str z) = if z.length ≤ 1000000 then some (.int z.length) else none := (Eq.refl _).trans (Eq.refl _)
@[simp] theorem ev_seqD_lst (ds:List D):seqD (.lst ds) = some ds := (Eq.refl _).trans (Eq.refl _)
@[simp] theorem ev_seqD_tup (ds:List D):seqD (.tup ds) = some ds := (Eq.refl _).trans (Eq.refl _)
@[simp] theorem ev_toTD_lst (ds:List D):toTD (.lst ds) = some (.tup ds) := (Eq.refl _).trans (Eq.refl _)
@[simp] theorem ev_toTD_tup (ds:List D):toTD (.tup ds) = some (.tup ds) := (Eq.refl _).trans (Eq.refl _)
@[simp] theorem ev_ixD_lst (ds:List D) (i:Int):ixD (.lst ds) (.int i) = atI ds i := (Eq.refl _).trans (Eq.refl _)
@[simp] theorem ev_ixD_tup (ds:List D) (i:Int):ixD (.tup ds) (.int i) = atI ds i := (Eq.refl _).trans (Eq.refl _)
@[simp] theorem ev_ixD_str (z:List Nat) (i:Int):ixD (.str z) (.int i) = if z.length ≤ 1000000 then omap (fun c => .str [c]) (atI z i) else none := (Eq.refl _).trans (Eq.refl _)
@[simp] theorem ev_slD_lst (ds:List D) (lo hi:Option Int):slD (.lst ds) lo hi = some (.lst (cutD ds lo hi)) := (Eq.refl _).trans (Eq.refl _)
@[simp] theorem ev_slF_lst (ds:List D) (lo hi:Option Int):slF (.lst ds) lo hi = some (cutD ds lo hi) := (Eq.refl _).trans (Eq.refl _)
@[simp] theorem ev_slD_str (z:List Nat) (lo hi:Option Int):slD (.str z) lo hi = if z.length ≤ 1000000 then some (.str (cutD z lo hi)) else none := (Eq.refl _).trans (Eq.refl _)
@[simp] theorem ev_slD_tup (ds:List D) (lo hi:Option Int):slD (.tup ds) lo hi = if HT.sIx ds.length 0 lo = 0 ∧ HT.sIx ds.length ds.length hi = ds.length then none else some (.tup (cutD ds lo hi)) := (Eq.refl _).trans (Eq.refl _)
@[simp] theorem ev_eqF (neg:Bool) (x y:D):eqF neg x y = omap (fun b => .bl (if neg then !b else b)) (eqN 100 x y) := (Eq.refl _).trans (Eq.refl _)
@[simp] theorem ev_eqN_int (n:Nat) (i j:Int):eqN (n + 1) (.int i) (.int j) = some (i == j) := by simp [eqN]
@[simp] theorem ev_eqN_str (n:Nat) (i j:List Nat):eqN (n + 1) (.str i) (.str j) = some (i == j) := by simp [eqN]
@[simp] theorem ev_eqN_bl (n:Nat) (i j:Bool):eqN (n + 1) (.bl i) (.bl j) = some (i == j) := by simp [eqN]
@[simp] theorem ev_eq_int (i j:Int):eqN 100 (.int i) (.int j) = some (i == j) := ev_eqN_int 99 i j
@[simp] theorem ev_eq_str (i j:List Nat):eqN 100 (.str i) (.str j) = some (i == j) := ev_eqN_str 99 i j
@[simp] theorem ev_eq_bl (i j:Bool):eqN 100 (.bl i) (.bl j) = some (i == j) := ev_eqN_bl 99 i j
@[simp] theorem ev_isNon_non (neg:Bool):isNon neg .non = some (.bl (!neg)) := (Eq.refl _).trans (Eq.refl _)
@[simp] theorem ev_isNon_tup (neg:Bool) (ds:List D):isNon neg (.tup ds) = some (.bl neg) := (Eq.refl _).trans (Eq.refl _)
@[simp] theorem ev_isNon_lst (neg:Bool) (ds:List D):isNon neg (.lst ds) = some (.bl neg) := (Eq.refl _).trans (Eq.refl _)
@[simp] theorem ev_isNon_int (neg:Bool) (i:Int):isNon neg (.int i) = some (.bl neg) := (Eq.refl _).trans (Eq.refl _)
@[simp] theorem ev_isNon_str (neg:Bool) (i:List Nat):isNon neg (.str i) = some (.bl neg) := (Eq.refl _).trans (Eq.refl _)
@[simp] theorem ev_minD (i j:Int):minD [.int i,.int j] = some (.int (if j < i then j else i)) := (Eq.refl _).trans (Eq.refl _)
@[simp] theorem ev_maxD (i j:Int):maxD [.int i,.int j] = some (.int (if j > i then j else i)) := (Eq.refl _).trans (Eq.refl _)
@[simp] theorem ev_instD_int (t:Ty) (i:Int):instD t (.int i) = some (.bl (t == .int)) := (Eq.refl _).trans (Eq.refl _)
@[simp] theorem ev_instD_bl (t:Ty) (i:Bool):instD t (.bl i) = some (.bl (t == .int || t == .bool)) := (Eq.refl _).trans (Eq.refl _)
@[simp] theorem ev_instD_str (t:Ty) (i:List Nat):instD t (.str i) = some (.bl (t == .str)) := (Eq.refl _).trans (Eq.refl _)
@[simp] theorem ev_instD_tup (t:Ty) (i:List D):instD t (.tup i) = some (.bl (t == .tuple)) := (Eq.refl _).trans (Eq.refl _)
@[simp] theorem ev_instD_lst (t:Ty) (i:List D):instD t (.lst i) = some (.bl (t == .list)) := (Eq.refl _).trans (Eq.refl _)
@[simp] theorem ev_instD_non (t:Ty):instD t .non = some (.bl false) := (Eq.refl _).trans (Eq.refl _)
@[simp] theorem ev_tabD (tb:List (List Nat × Int)) (k:List Nat):tabD tb (.str k) = omap (.int) (lookT k tb) := (Eq.refl _).trans (Eq.refl _)
@[simp] theorem ev_tabIn (neg:Bool) (tb:List (List Nat × Int)) (k:List Nat):tabIn neg tb (.str k) = some (.bl (if neg then !(lookT k tb).isSome else (lookT k tb).isSome)) := (Eq.refl _).trans (Eq.refl _)
@[simp] theorem ev_feName (i:Nat) (env:DEnv):feName i env = slotV env[i]? := (Eq.refl _).trans (Eq.refl _)
@[simp] theorem ev_feRead (i:Nat) (env:DEnv):feRead i env = slotR env[i]? := (Eq.refl _).trans (Eq.refl _)
@[simp] theorem ev_fsSeq (F G:FS) (env:DEnv):fsSeq F G env = obind (F env) (seqK G) := (Eq.refl _).trans (Eq.refl _)
@[simp] theorem ev_fsNext (env:DEnv):fsNext env = some (.nx env) := (Eq.refl _).trans (Eq.refl _)
@[simp] theorem ev_fsIf (c:FT) (F G:FS) (env:DEnv):fsIf c F G env = obind (c env) (fun b => ifK (F env) (G env) b) := (Eq.refl _).trans (Eq.refl _)
@[simp] theorem ev_fsRet (f:FE) (env:DEnv):fsRet f env = omap (fun d => .rt d env) (f env) := (Eq.refl _).trans (Eq.refl _)
@[simp] theorem ev_fsRetF (f:FP (List D)) (env:DEnv):fsRetF f env = omap (fun d => .rf d env) (f env) := (Eq.refl _).trans (Eq.refl _)
@[simp] theorem ev_fsRetO (i:Nat) (env:DEnv):fsRetO i env = omap (fun ds => .rf ds env) (slotO env[i]?) := by
  unfold fsRetO
  cases env[i]? with
  | none => rfl
  | some s => cases s <;> rfl
@[simp] theorem ev_fsRetN (env:DEnv):fsRetN env = some (.rt .non env) := (Eq.refl _).trans (Eq.refl _)
@[simp] theorem ev_fsSet (i:Nat) (f:FE) (env:DEnv):fsSet i f env = omap (fun d => .nx (env.set i (.val d))) (f env) := (Eq.refl _).trans (Eq.refl _)
@[simp] theorem ev_fsOwn (i:Nat) (f:FP (List D)) (env:DEnv):fsOwn i f env = omap (fun d => .nx (env.set i (.own d))) (f env) := (Eq.refl _).trans (Eq.refl _)
@[simp] theorem ev_fsFrz (i:Nat) (F:FS) (env:DEnv):fsFrz i F env = obind (slotO env[i]?) fun ds => F (env.set i (.val (.lst ds))) := by
  unfold fsFrz
  cases env[i]? with
  | none => rfl
  | some s => cases s <;> rfl
@[simp] theorem ev_fsBreak (env:DEnv):fsBreak env = some (.bk env) := (Eq.refl _).trans (Eq.refl _)
@[simp] theorem ev_fsCont (env:DEnv):fsCont env = some (.ct env) := (Eq.refl _).trans (Eq.refl _)
@[simp] theorem ev_fsAug (i:Nat) (F:D → D → Option D) (f:FE) (env:DEnv):fsAug i F f env = obind (feName i env) (fun x => obind (f env) (fun y => omap (fun d => .nx (env.set i (.val d))) (F x y))) := (Eq.refl _).trans (Eq.refl _)
@[simp] theorem ev_fsFor (tg:FG) (fi:FE) (body:FS) (env:DEnv):fsFor tg fi body env = obind (fi env) (fun x => obind (seqD x) (fun ds => runFor tg body ds env)) := (Eq.refl _).trans (Eq.refl _)
@[simp] theorem ev_fsForR (R:List D → Option (List D)) (tg:FG) (f:FA) (body:FS) (env:DEnv):fsForR R tg f body env = obind (f env) (fun ds => obind (R ds) (fun xs => runFor tg body xs env)) := (Eq.refl _).trans (Eq.refl _)
@[simp] theorem ev_fsForS (tg:FG) (fi:FE) (body:FS) (env:DEnv):fsForS tg fi body env = obind (fi env) (fun x => obind (strD x) (fun ds => runFor tg body ds env)) := (Eq.refl _).trans (Eq.refl _)
@[simp] theorem ev_ffComp (nt:Nat) (cap:List Nat) (tg:FG) (fi:FE) (ft:FT) (fe:FE) (env:DEnv):ffComp nt cap tg fi ft fe env = obind (fi env) (fun x => obind (seqD x) (fun ds => if ds.length ≤ 1000000 then runComp tg ft fe (capE nt cap env) ds else none)) := (Eq.refl _).trans (Eq.refl _)
@[simp] theorem ev_ffCompR (R:List D → Option (List D)) (nt:Nat) (cap:List Nat) (tg:FG) (f:FA) (ft:FT) (fe:FE) (env:DEnv):ffCompR R nt cap tg f ft fe env = obind (f env) (fun x => obind (R x) (fun ds => if ds.length ≤ 1000000 then runComp tg ft fe (capE nt cap env) ds else none)) := (Eq.refl _).trans (Eq.refl _)
@[simp] theorem ev_ffCompS (nt:Nat) (cap:List Nat) (tg:FG) (fi:FE) (ft:FT) (fe:FE) (env:DEnv):ffCompS nt cap tg fi ft fe env = obind (fi env) (fun x => obind (strD x) (fun ds => if ds.length ≤ 1000000 then runComp tg ft fe (capE nt cap env) ds else none)) := (Eq.refl _).trans (Eq.refl _)
@[simp] theorem ev_tgName (i:Nat) (d:D) (env:DEnv):tgName i d env = some (env.set i (.val d)) := (Eq.refl _).trans (Eq.refl _)
@[simp] theorem ev_runFor_nil (tg:FG) (body:FS) (env:DEnv):runFor tg body [] env = some (.nx env) := (Eq.refl _).trans (Eq.refl _)
theorem ev_bodyF (N:Nat) (F:FS) (ds:List D):bodyF N F ds = obind (F (envOf N ds)) retK := (Eq.refl _).trans (Eq.refl _)
theorem ev_bodyFF (N:Nat) (F:FS) (ds:List D):bodyFF N F ds = obind (F (envOf N ds)) retFK := (Eq.refl _).trans (Eq.refl _)
end
theorem atI_k {α:Type} (xs:List α) (k:Nat):atI xs (k:Int) = xs[k]? := by
  unfold atI ixN
  rw [if_pos (by omega)]
  by_cases h:k < xs.length
  · rw [if_pos (by omega)]; simp
  · rw [if_neg (by omega),List.getElem?_eq_none (by omega)]; rfl
@[simp] theorem atI_0 {α:Type} (xs:List α):atI xs 0 = xs[0]? := atI_k xs 0
@[simp] theorem atI_1 {α:Type} (xs:List α):atI xs 1 = xs[1]? := atI_k xs 1
@[simp] theorem atI_2 {α:Type} (xs:List α):atI xs 2 = xs[2]? := atI_k xs 2
@[simp] theorem atI_3 {α:Type} (xs:List α):atI xs 3 = xs[3]? := atI_k xs 3
theorem sIx_nat (n d k:Nat):HT.sIx n d (some (k:Int)) = min k n := by
  show (if (k:Int) < 0 then ((k:Int) + (n:Int)).toNat else min (k:Int).toNat n) = min k n
  rw [if_neg (by omega)]; rfl
theorem cut_nat {α:Type} (xs:List α) (i j:Nat):cutD xs (some (i:Int)) (some (j:Int)) = (xs.drop i).take (j - i) := by
  unfold cutD
  rw [sIx_nat,sIx_nat]
  by_cases h:i ≤ xs.length
  · rw [Nat.min_eq_left h]
    by_cases h2:j ≤ xs.length
    · rw [Nat.min_eq_left h2]
    · rw [Nat.min_eq_right (by omega)]
      rw [List.take_of_length_le (by simp),List.take_of_length_le (by simp; omega)]
  · rw [Nat.min_eq_right (show xs.length ≤ i by omega),List.drop_of_length_le (Nat.le_refl _),List.drop_of_length_le (show xs.length ≤ i by omega)]
    simp
theorem cut_to {α:Type} (xs:List α) (j:Nat):cutD xs none (some (j:Int)) = xs.take j := by
  unfold cutD
  rw [sIx_nat,show HT.sIx xs.length 0 none = 0 from rfl,List.drop_zero,Nat.sub_zero]
  by_cases h:j ≤ xs.length
  · rw [Nat.min_eq_left h]
  · rw [Nat.min_eq_right (by omega),List.take_of_length_le (Nat.le_refl _),List.take_of_length_le (by omega)]
theorem cut_from {α:Type} (xs:List α) (i:Nat):cutD xs (some (i:Int)) none = xs.drop i := by
  unfold cutD
  rw [sIx_nat,show HT.sIx xs.length xs.length none = xs.length from rfl]
  by_cases h:i ≤ xs.length
  · rw [Nat.min_eq_left h,List.take_of_length_le (by simp)]
  · rw [Nat.min_eq_right (by omega),List.drop_of_length_le (Nat.le_refl _),List.drop_of_length_le (by omega)]; simp
end DL
namespace DL
end DL
namespace DL
open L2
theorem rng1_ok {i:Int} {n:Nat} (h:i = n) (hn:n < 1000000000):rng1 [.int i] = some (rInts 0 n) := by
  subst h
  have c : -1000000000 < (n:Int) ∧ (n:Int) < 1000000000 := by omega
  have e:rng1 [.int (n:Int)] = if -1000000000 < (n:Int) ∧ (n:Int) < 1000000000 then some (rInts 0 (n:Int).toNat) else none := rfl
  rw [e,if_pos c,Int.toNat_natCast]
theorem mulD_right (i j:Int) (h : -18446744073709551616 < j ∧ j < 18446744073709551616):mulD (.int i) (.int j) = some (.int (i * j)) := if_pos (Or.inr h)
theorem mulD_left (i j:Int) (h : -18446744073709551616 < i ∧ i < 18446744073709551616):mulD (.int i) (.int j) = some (.int (i * j)) := if_pos (Or.inl h)
end DL
namespace DL
open L2
@[simp] theorem ev_inD_tup (neg:Bool) (x:D) (ds:List D):inD neg x (.tup ds) = if isFlat x && ds.all isFlat then some (.bl (if neg then !inFl x ds else inFl x ds)) else none := by
  unfold inD; split <;> simp_all
@[simp] theorem ev_inD_lst (neg:Bool) (x:D) (ds:List D):inD neg x (.lst ds) = if isFlat x && ds.all isFlat then some (.bl (if neg then !inFl x ds else inFl x ds)) else none := by
  unfold inD; split <;> simp_all
@[simp] theorem isFlat_str (z:List Nat):isFlat (.str z) = true := rfl
@[simp] theorem isFlat_int (z:Int):isFlat (.int z) = true := rfl
@[simp] theorem isFlat_bl (z:Bool):isFlat (.bl z) = true := rfl
@[simp] theorem isFlat_non:isFlat .non = true := rfl
@[simp] theorem inFl_nil (x:D):inFl x [] = false := rfl
@[simp] theorem inFl_cons (x y:D) (ds:List D):inFl x (y :: ds) = (eqFl y x || inFl x ds) := rfl
@[simp] theorem eqFl_str (a b:List Nat):eqFl (.str a) (.str b) = (a == b) := rfl
@[simp] theorem eqFl_int (a b:Int):eqFl (.int a) (.int b) = (a == b) := rfl
end DL
namespace DL
@[simp] theorem ifK_same {α:Type} (a:Option α) (b:Bool):ifK a a b = a := by cases b <;> rfl
end DL
end
section
set_option Elab.async false
set_option linter.all false
set_option maxRecDepth 100000
namespace DL
open PySem PySem.Spec PyProof.Rows L2
structure Ct where
  cl:Nat → Option Addr
  fld:Nat → Str
noncomputable abbrev tx (X:Cx) (c:Ct):Tx := ⟨X.K,c.cl,c.fld⟩
section
variable {X:Cx}
theorem PE.imp {e:Expr} {t t':TE} (h:PE X e t) (w : ∀ σ H Q,t' σ H Q → t σ H Q):PE X e t' := fun pins s σ H Q I q => h pins s σ H Q I (w σ H Q q)
theorem PT.imp {e:Expr} {t t':TT} (h:PT X e t) (w : ∀ σ H Q,t' σ H Q → t σ H Q):PT X e t' := fun pins s σ H Q I q => h pins s σ H Q I (w σ H Q q)
theorem PW.imp {e:Expr} {t t':TT} (h:PW X e t) (w : ∀ σ H Q,t' σ H Q → t σ H Q):PW X e t' := fun wh pins s σ H Q I q => h wh pins s σ H Q I (w σ H Q q)
theorem PA.imp {es:List Expr} {t t':TA} (h:PA X es t) (w : ∀ σ H Q,t' σ H Q → t σ H Q):PA X es t' := fun po pins s σ H Q I q => h po pins s σ H Q I (w σ H Q q)
theorem PS.imp {st:Stmt} {t t':TS} (h:PS X st t) (w : ∀ De σ H,t' De σ H → t De σ H):PS X st t' := fun pins s σ H De I q => h pins s σ H De I (w De σ H q)
theorem PSs.imp {st:List Stmt} {t t':TS} (h:PSs X st t) (w : ∀ De σ H,t' De σ H → t De σ H):PSs X st t' := fun pins s σ H De I q => h pins s σ H De I (w De σ H q)
theorem PO.imp {o:Option Expr} {t t':TO} (h:PO X o t) (w : ∀ σ H Q,t' σ H Q → t σ H Q):PO X o t' := fun pins s σ H Q I q => h pins s σ H Q I (w σ H Q q)
theorem PIfs.imp {es:List Expr} {t t':TT} (h:PIfs X es t) (w : ∀ σ H Q,t' σ H Q → t σ H Q):PIfs X es t' := fun pins s σ H Q I q => h pins s σ H Q I (w σ H Q q)
end
noncomputable abbrev PD (X:Cx) (c:Ct) (e:Expr) (f:FE):Prop := PE X e (tP (tx X c) (kD (tx X c)) f)
noncomputable abbrev PR (X:Cx) (c:Ct) (e:Expr) (f:FE):Prop := PE X e (tP (tx X c) (kR (tx X c)) f)
noncomputable abbrev PF (X:Cx) (c:Ct) (e:Expr) (f:FP (List D)):Prop := PE X e (tP (tx X c) (kF (tx X c)) f)
noncomputable abbrev PDT (X:Cx) (c:Ct) (e:Expr) (f:FT):Prop := PT X e (tP (tx X c) kB f)
noncomputable abbrev PDW (X:Cx) (c:Ct) (e:Expr) (f:FT):Prop := PW X e (tP (tx X c) kB f)
noncomputable abbrev PDA (X:Cx) (c:Ct) (es:List Expr) (f:FA):Prop := PA X es (tP (tx X c) (kA (tx X c)) f)
noncomputable abbrev PDO (X:Cx) (c:Ct) (o:Option Expr) (f:FO):Prop := PO X o (tP (tx X c) kO f)
noncomputable abbrev PDS (X:Cx) (c:Ct) (x:XQ) (st:Stmt) (F:FS):Prop := PS X st (tDs (tx X c) x F)
noncomputable abbrev PDSs (X:Cx) (c:Ct) (x:XQ) (st:List Stmt) (F:FS):Prop := PSs X st (tDs (tx X c) x F)
structure Nm (X:Cx) (i:Nat) (x:Str):Prop where
  hN:X.N[i]? = some x
  hv:Vis X.env.scope x
  hd:(x == ("__debug__":Str)) = false
  hc:(x == ("__classdict__":Str)) = false
structure Nl (X:Cx) (i:Nat) (x:Str):Prop where
  nd:X.N.Nodup
  hN:X.N[i]? = some x
  hl:Loc X.env.scope x
  hf:X.fn x = true ∨ X.env.scope.names.lookup x = some .local
section
variable {X:Cx} {c:Ct} {xq:XQ} {a b e:Expr} {f g:FE} {pos:Pos}
theorem pd_name {i:Nat} {x:Str} (n:Nm X i x):PD X c (.Name x pos) (feName i) := PE.imp (pe_var n.hN n.hv n.hd n.hc) fun _ _ _ h => tP_name h
theorem pr_name {i:Nat} {x:Str} (n:Nm X i x):PR X c (.Name x pos) (feRead i) := PE.imp (pe_var n.hN n.hv n.hd n.hc) fun _ _ _ h => tP_read h
theorem pr_of (h:PD X c e f):PR X c e f := PE.imp h fun _ _ _ h => tP_weak (fun _ _ _ _ _ r => RepR.of r) h
theorem pd_of {ff:FP (List D)} (h:PF X c e ff):PD X c e (feFr ff) := PE.imp h fun _ _ _ h => tP_fr h
theorem pd_int {i:Int} {j}:PD X c (.Constant (.int i) j pos) (feC (.int i)) := PE.imp pe_int fun _ _ _ h => tP_c (fun _ _ => .int _) h
theorem pd_str {x:Str} {z:List Nat} {j} (hx:x = mkS z):PD X c (.Constant (.str x) j pos) (feC (.str z)) := by
  subst hx
  exact PE.imp pe_str fun _ _ _ h => tP_c (fun _ _ => .str _) h
theorem pd_bl {i:Bool} {j}:PD X c (.Constant (.bool i) j pos) (feC (.bl i)) := PE.imp pe_bl fun _ _ _ h => tP_c (fun _ _ => .bl _) h
theorem pd_non {j}:PD X c (.Constant .none j pos) (feC .non) := PE.imp pe_non fun _ _ _ h => tP_c (fun _ _ => .non) h
structure Gc (X:Cx) (c:Ct) (x:Str) (d:D):Prop where
  ex : ∃ v u,X.mg x = some u ∧ RelV v u ∧ ∀ A H,Rep (tx X c) A H d v
theorem pd_glob {x:Str} {d:D} (G:Gc X c x d) (hg:Gl X x) (hd:(x == ("__debug__":Str)) = false := by decide):PD X c (.Name x pos) (feC d) := by
  obtain ⟨v,u,hm,hr,hv⟩ := G.ex
  exact PE.imp (pe_glob hg hm hr hd) fun _ _ _ h => tP_c hv h
theorem op_catR:OpR X (binaryOp .Add) (rCatR X.K) := by
  intro pins s σ H x y v u Q I rx ry h
  obtain ⟨l,b,xs,zs,rfl,rfl,hH,hB,hz,q⟩ := h
  cases rx
  cases ry
  obtain ⟨its,r,p,z⟩ := I.list hH
  obtain ⟨its2,r2,p2,z2⟩ := I.list hB
  have hl := r.length
  have hl2 := r2.length
  obtain ⟨⟨cls,dd,data,sl⟩,n,ho,hc,hdd,hd⟩ := p
  obtain ⟨⟨cls2,dd2,data2,sl2⟩,n2,ho2,hc2,hdd2,hd2⟩ := p2
  simp only at hc hd hc2 hd2
  subst hc hd hc2 hd2
  refine concat_meets ⟨_,ho,rfl⟩ ⟨_,ho2,rfl⟩ noFill_list_add seq_list_add PySem.F.slot_list_add PySem.F.entry_list_add (PySem.F.args_list_add_2 _ _) (list_addW l b its.toArray its2.toArray n n2 dd dd2 sl sl2 (by rw [List.size_toArray,List.size_toArray]; omega)) ⟨ho,ho2, ?_⟩
  have ea:its.toArray ++ its2.toArray = (its ++ its2).toArray := by simp
  rw [ea]
  exact ⟨.ref _,_,I.lnew (t' := s.toks) (r.append r2) (by rw [List.length_append]; omega),rfl,q _ I.fresh⟩
theorem op_addD:OpR X (binaryOp .Add) (rAddD X.K) := op_add.or (op_add_str.or (op_catR.or op_catT))
theorem pd_add (ha:PR X c a f) (hb:PR X c b g):PD X c (.BinOp a .Add b pos) (fp2 addD f g) := PE.imp (pe_op op_addD ha hb) fun _ _ _ h => tP_2 (ρ := kR (tx X c)) (ρ2 := kR (tx X c)) snd_add h
theorem pf_add (ha:PR X c a f) (hb:PR X c b g):PF X c (.BinOp a .Add b pos) (fp2 addF f g) := PE.imp (pe_op op_addD ha hb) fun _ _ _ h => tP_2 (ρ := kR (tx X c)) (ρ2 := kR (tx X c)) snd_addF h
theorem pd_sub (ha:PD X c a f) (hb:PD X c b g):PD X c (.BinOp a .Sub b pos) (fp2 (intD subI) f g) := PE.imp (pe_op op_sub ha hb) fun _ _ _ h => tP_2 (ρ := kD (tx X c)) (ρ2 := kD (tx X c)) (snd_int0 (g := fun i j => .int (i - j)) fun _ _ => rfl) h
theorem pd_fdiv (ha:PD X c a f) (hb:PD X c b g):PD X c (.BinOp a .FloorDiv b pos) (fp2 (intD fdivI) f g) :=
  PE.imp (pe_op op_fdiv ha hb) fun _ _ _ h => tP_2 (ρ := kD (tx X c)) (ρ2 := kD (tx X c)) (snd_int (g := fdivI) fun i j d e => by
    unfold fdivI at e
    by_cases c : 0 < j ∧ j < 1073741824
    · rw [if_pos c] at e; cases e; exact ⟨c,rfl⟩
    · rw [if_neg c] at e; cases e) h
theorem pd_mod (ha:PD X c a f) (hb:PD X c b g):PD X c (.BinOp a .Mod b pos) (fp2 (intD modI) f g) :=
  PE.imp (pe_op op_mod ha hb) fun _ _ _ h => tP_2 (ρ := kD (tx X c)) (ρ2 := kD (tx X c)) (snd_int (g := modI) fun i j d e => by
    unfold modI at e
    by_cases c : 0 < j
    · rw [if_pos c] at e; cases e; exact ⟨c,rfl⟩
    · rw [if_neg c] at e; cases e) h
theorem pd_pow (ha:PD X c a f) (hb:PD X c b g):PD X c (.BinOp a .Pow b pos) (fp2 (intD powI) f g) :=
  PE.imp (pe_op op_pow ha hb) fun _ _ _ h => tP_2 (ρ := kD (tx X c)) (ρ2 := kD (tx X c)) (snd_int (g := powI) fun i j d e => by
    unfold powI at e
    by_cases c : 0 ≤ j ∧ j ≤ 1000000 ∧ i.natAbs < 18446744073709551616
    · rw [if_pos c] at e; cases e; exact ⟨c,rfl⟩
    · rw [if_neg c] at e; cases e) h
noncomputable def rMulS:R2 := fun x y H Q => ∃ (z:List Nat) (k:Int),x = .str (mkS z) ∧ y = .int k ∧ z.length ≤ 16 ∧ -1000000000000000000 ≤ k ∧ k ≤ 1000000 ∧ Q (.str (mkS (List.replicate k.toNat z).flatten)) H
theorem foldl_cps (z:List Nat) : ∀ (k:Nat) (acc:List Nat),List.foldl (fun x1 x2 => x1 ++ x2) acc.toArray (List.replicate k z.toArray) = (acc ++ (List.replicate k z).flatten).toArray
  | 0,acc => by simp
  | k + 1,acc => by
    have e:acc.toArray ++ z.toArray = (acc ++ z).toArray := by simp
    have e2:(acc ++ z) ++ (List.replicate k z).flatten = acc ++ (List.replicate (k + 1) z).flatten := by rw [List.replicate_succ,List.flatten_cons,List.append_assoc]
    rw [← e2, ← foldl_cps z k (acc ++ z), ← e,List.replicate_succ,List.foldl_cons]
theorem mul_list (z:List Nat) (k:Int):Txt.mul (mkS z) k = mkS (List.replicate k.toNat z).flatten := by
  unfold Txt.mul
  by_cases h:k < 1
  · rw [if_pos h,show k.toNat = 0 by omega]; rfl
  · rw [if_neg h]
    by_cases h2:(k == 1 || (mkS z).length == 0) = true
    · rw [if_pos h2]
      rw [Bool.or_eq_true] at h2
      rcases h2 with h2 | h2
      · have:k = 1 := by simpa using h2
        subst this
        simp
      · have hz:z = [] := by simpa [mkS_len] using h2
        subst hz
        simp
    · rw [if_neg h2]
      have := foldl_cps z k.toNat []
      rw [List.nil_append] at this
      exact congrArg Str.mk this
theorem op_mulS:OpR X (binaryOp .Mult) rMulS := by
  intro pins s σ H x y v u Q I rx ry h
  obtain ⟨z,k,rfl,rfl,h1,h2,h3,q⟩ := h
  obtain ⟨t,rfl⟩ := rx
  obtain ⟨t',rfl⟩ := ry
  rw [← mul_list] at q
  exact SB.mul (mulOk_of 16 1048576 (by rw [mkS_len]; exact h1) (by omega) (by omega) (by decide) (by decide)) fun t' k => ⟨.str _,H,I.tok _,⟨_,rfl⟩,q⟩
theorem snd_mul {T:Tx} (A:Addr → Prop) (H0 H:Hp) (x y:D) (v u:V) (d:D) (Q:VK) (nw:Nw A H) (rx:kR T A H0 H x v) (ry:kD T A H0 H y u) (e:mulD x y = some d)
    (k : ∀ w H',Same H H' → kD T A H H' d w → Q w H'):rI CMul (fun i j => .int (i * j)) v u H Q ∨ rMulS v u H Q := by
  unfold mulD at e
  split at e
  · rename_i i j
    cases RepR.int_ rx; cases Rep.int_ ry
    by_cases c:(-18446744073709551616 < i ∧ i < 18446744073709551616) ∨ (-18446744073709551616 < j ∧ j < 18446744073709551616)
    · rw [if_pos c] at e; cases e
      exact .inl ⟨i,j,rfl,rfl,by unfold CMul; omega,k _ H (Same.refl _) (Rep.int _)⟩
    · rw [if_neg c] at e; cases e
  · rename_i z n
    cases RepR.str_ rx; cases Rep.int_ ry
    by_cases c:z.length ≤ 16 ∧ -1000000000000000000 ≤ n ∧ n ≤ 1000000
    · rw [if_pos c] at e; cases e
      exact .inr ⟨z,n,rfl,rfl,c.1,c.2.1,c.2.2,k _ H (Same.refl _) (Rep.str _)⟩
    · rw [if_neg c] at e; cases e
  · cases e
theorem pd_mul (ha:PR X c a f) (hb:PD X c b g):PD X c (.BinOp a .Mult b pos) (fp2 mulD f g) := PE.imp (pe_op (op_mul.or op_mulS) ha hb) fun _ _ _ h => tP_2 (ρ := kR (tx X c)) (ρ2 := kD (tx X c)) snd_mul h
theorem pd_neg (ha:PD X c a f):PD X c (.UnaryOp .USub a pos) (fp1 negD f) := PE.imp (pe_un un_neg ha) fun _ _ _ h => tP_1 (ρ := kD (tx X c)) (fun A H0 H x v d Q nw rx e k => by
  unfold negD at e
  split at e
  · cases e; cases Rep.int_ rx; exact ⟨_,rfl,k _ H (Same.refl _) (Rep.int _)⟩
  · cases e) h
theorem pd_cmp {ρ ρ2:RK D V} [Kd ρ] [Kd ρ2] {op:CmpOp} {r:R2} {F:D → D → Option D} (ho:OpR X (compareOp op) r)
    (snd : ∀ (A:Addr → Prop) (H0 H:Hp) (x y:D) (v u:V) (d:D) (Q:VK),Nw A H → ρ A H0 H x v → ρ2 A H0 H y u → F x y = some d → (∀ w H',Same H H' → kD (tx X c) A H H' d w → Q w H') → r v u H Q)
    (ha:PE X a (tP (tx X c) ρ f)) (hb:PE X b (tP (tx X c) ρ2 g)) (hm:behindInMarks op b = false):PD X c (.Compare a [op] [b] pos) (fp2 F f g) := PE.imp (pe_cmpR ho ha hb hm) fun _ _ _ h => tP_2 (ρ := ρ) (ρ2 := ρ2) snd h
theorem pdt_cmp {ρ ρ2:RK D V} [Kd ρ] [Kd ρ2] {op:CmpOp} {r:R2} {F:D → D → Option D} (ho:OpR X (compareOp op) r)
    (snd : ∀ (A:Addr → Prop) (H0 H:Hp) (x y:D) (v u:V) (d:D) (Q:VK),Nw A H → ρ A H0 H x v → ρ2 A H0 H y u → F x y = some d → (∀ w H',Same H H' → kD (tx X c) A H H' d w → Q w H') → r v u H Q)
    (ha:PE X a (tP (tx X c) ρ f)) (hb:PE X b (tP (tx X c) ρ2 g)) (hm:behindInMarks op b = false):PDT X c (.Compare a [op] [b] pos) (ftB (fp2 F f g)) := PT.imp (pt_cmpR ho ha hb hm) fun _ _ _ h => tP_2 (ρ := ρ) (ρ2 := ρ2) (ρ3 := kD (tx X c)) snd (tP_test h)
theorem pdt_lt (ha:PD X c a f) (hb:PD X c b g):PDT X c (.Compare a [.Lt] [b] pos) (ftB (fp2 (intD ltI) f g)) := pdt_cmp op_lt (snd_int0 (g := fun i j => .bl (decide (i < j))) fun _ _ => rfl) ha hb (nomark _)
theorem pd_le (ha:PD X c a f) (hb:PD X c b g):PD X c (.Compare a [.LtE] [b] pos) (fp2 (intD leI) f g) := pd_cmp op_le (snd_int0 (g := fun i j => .bl (decide (i ≤ j))) fun _ _ => rfl) ha hb (nomark _)
theorem pdt_ge (ha:PD X c a f) (hb:PD X c b g):PDT X c (.Compare a [.GtE] [b] pos) (ftB (fp2 (intD geI) f g)) := pdt_cmp op_ge (snd_int0 (g := fun i j => .bl (decide (j ≤ i))) fun _ _ => rfl) ha hb (nomark _)
theorem op_inS (neg:Bool):OpR X (compareOp (if neg then .NotIn else .In)) (fun x y H Q => ∃ (k:Nat) (j:List Nat),x = .str (mkS [k]) ∧ y = .str (mkS j) ∧ Q (.bl (if neg then !(j.contains k) else j.contains k)) H) := by
  intro pins s σ H x y v u Q I rx ry h
  obtain ⟨k,j,rfl,rfl,q⟩ := h
  have hc:j.contains k = !(Builtin.Str.occurrences (mkS j) (mkS [k]) 0 (mkS j).length 1).isEmpty := by
    have := PySem.StrLaws.found_one (mkS j) k
    rw [this,Bool.eq_iff_iff]
    simp
  rw [hc] at q
  cases neg with
  | false => exact op_in_str pins s σ H _ _ v u Q I rx ry ⟨_,_,rfl,rfl,q⟩
  | true => exact op_notin_str pins s σ H _ _ v u Q I rx ry ⟨_,_,rfl,rfl,q⟩
theorem op_inD:OpR X (compareOp .In) (rInD X.K false) := OpR.or (op_inS false) op_in_seq
theorem pd_in (ha:PD X c a f) (hb:PR X c b g) (hm:noSet b = true := by rfl):PD X c (.Compare a [.In] [b] pos) (fp2 (inD false) f g) := pd_cmp op_inD (snd_in false) ha hb (marks_no hm)
theorem pdt_in (ha:PD X c a f) (hb:PR X c b g) (hm:noSet b = true := by rfl):PDT X c (.Compare a [.In] [b] pos) (ftB (fp2 (inD false) f g)) := pdt_cmp op_inD (snd_in false) ha hb (marks_no hm)
end
end DL
end
section
set_option Elab.async false
set_option linter.all false
set_option maxRecDepth 100000
namespace DL
open PySem PySem.Spec PyProof.Rows L2
section
variable {X:Cx} {c:Ct} {xq:XQ} {a b e:Expr} {f g:FE} {pos:Pos}
theorem pd_ix (ha:PR X c a f) (hb:PD X c b g) (hs:plainI b = true := by rfl):PD X c (.Subscript a b pos) (fp2 ixD f g) := PE.imp (pe_ix ix_seq ha hb (plainIx_no hs)) fun _ _ _ h => tP_2 (ρ := kR (tx X c)) (ρ2 := kD (tx X c)) snd_ix h
theorem pdo_none:PDO X c none foNone := PO.imp po_none fun _ _ _ h => tPO_none h
theorem pdo_some (h:PD X c e f):PDO X c (some e) (foSome f) := PO.imp (po_some h) fun _ _ _ h => tPO_some h
theorem pda_nil:PDA X c [] faNil := PA.imp pa_nil fun _ _ _ h => tP_nil h
theorem pda_cons {es:List Expr} {fs:FA} (ha:PD X c e f) (hr:PDA X c es fs) (hs:isStar e = false := by rfl):PDA X c (e :: es) (faCons f fs) := PA.imp (pa_cons ha hr (star_cons hs)) fun _ _ _ h => tP_cons h
theorem pd_tup {es:List Expr} {fs:FA} {x1} (h:PDA X c es fs):PD X c (.Tuple es x1 pos) (feTup fs) := PE.imp (pe_tup h) fun _ _ _ h => tP_tup h
theorem pf_lst {es:List Expr} {fs:FA} (h:PDA X c es fs):PF X c (.List es pos) (ffLst fs) := PE.imp (pe_lst h) fun _ _ _ h => tP_lst h
structure Def (P:Program) (w:World) (K:PySem.W.Frag) (mg:Str → Option Value) (base:Heap) (c:Ct) (x:Str) (ps:List Str) (k:Nat) (F:List D → Option D):Prop where
  ex : ∃ fa fd,FnOk P w K mg base CX0 k fa fd ps (spD ⟨K,c.cl,c.fld⟩ ps.length F) ∧ mg x = some (.ref fa) ∧ PySem.W.keepIn K (.ref fa) = true ∧ Binds K fd ps []
structure DefF (P:Program) (w:World) (K:PySem.W.Frag) (mg:Str → Option Value) (base:Heap) (c:Ct) (x:Str) (ps:List Str) (k:Nat) (F:List D → Option (List D)):Prop where
  ex : ∃ fa fd,FnOk P w K mg base CX0 k fa fd ps (spF ⟨K,c.cl,c.fld⟩ ps.length F) ∧ mg x = some (.ref fa) ∧ PySem.W.keepIn K (.ref fa) = true ∧ Binds K fd ps []
noncomputable abbrev DefAt (X:Cx) (c:Ct) := Def X.prog X.w X.K X.mg X.base c
noncomputable abbrev DefAtF (X:Cx) (c:Ct) := DefF X.prog X.w X.K X.mg X.base c
theorem pd_def {k j:Nat} {ps:List Str} {x:Str} {p:Pos} {es:List Expr} {fs:FA} {F:List D → Option D} (G:DefAt X c x ps k F) (hr:Room j X.A) (hkj:k ≤ j) (hg:Gl X x)
    (ha:PDA X c (e :: es) fs) (hdb:(x == ("__debug__":Str)) = false := by decide) (he:isStar e = false := by rfl) (hpl:noStars es = true := by rfl) :
    PD X c (.Call (.Name x p) (e :: es) [] pos) (feCall ps.length F fs) := by
  obtain ⟨fa,fd,h1,h2,h3,h4⟩ := G.ex
  exact PE.imp (pe_call (E := E0) h1 (hr.mono hkj) hg h2 h3 h4 .nil pass0 ha hdb (star_cons he) (star_none hpl)) fun _ _ _ h => tP_call h
theorem pf_def {k j:Nat} {ps:List Str} {x:Str} {p:Pos} {es:List Expr} {fs:FA} {F:List D → Option (List D)} (G:DefAtF X c x ps k F) (hr:Room j X.A) (hkj:k ≤ j) (hg:Gl X x)
    (ha:PDA X c (e :: es) fs) (hdb:(x == ("__debug__":Str)) = false := by decide) (he:isStar e = false := by rfl) (hpl:noStars es = true := by rfl) :
    PF X c (.Call (.Name x p) (e :: es) [] pos) (feCall ps.length F fs) := by
  obtain ⟨fa,fd,h1,h2,h3,h4⟩ := G.ex
  exact PE.imp (pe_call (E := E0) h1 (hr.mono hkj) hg h2 h3 h4 .nil pass0 ha hdb (star_cons he) (star_none hpl)) fun _ _ _ h => tP_callF h
theorem pa_one (ha:PR X c e f) (he:isStar e = false := by rfl):PA X [e] (tP (tx X c) (kRA (tx X c)) (faR f)) := PA.imp (pa_cons ha pa_nil (star_cons he)) fun _ _ _ h => tP_one h
theorem tP_of1 {α:Type} {ρ3:RK α V} [Kd ρ3] {T:Tx} {F:D → Option α} {r:List V → Hp → VK → Prop} {f:FE} {σ:L2.St} {H:Hp} {Q:VK}
    (snd : ∀ (A:Addr → Prop) (H0 H:Hp) (x:D) (v:V) (d : α) (Q:VK),Nw A H → kR T A H0 H x v → F x = some d → (∀ w H',Same H H' → ρ3 A H H' d w → Q w H') → r [v] H Q)
    (h:tP T ρ3 (fp1 F f) σ H Q):tCB r (tP T (kRA T) (faR f)) σ H Q := by
  refine tP_1 (ρ := kRA T) (F := of1 F) (snd_one snd) ?_
  obtain ⟨W,O,env,d,E,e,q⟩ := h
  refine ⟨W,O,env,d,E, ?_,q⟩
  unfold fp1 faR at *
  cases e1:f env with
  | none => rw [e1] at e; cases e
  | some x => rw [e1] at e; exact e
theorem pd_b1 {α:Type} {ρ3:RK α V} [Kd ρ3] {id:String} {x:Str} {p:Pos} {r:List V → Hp → VK → Prop} {F:D → Option α} (hc:CallR X (.builtin id) r)
    (snd : ∀ (A:Addr → Prop) (H0 H:Hp) (x:D) (v:V) (d : α) (Q:VK),Nw A H → kR (tx X c) A H0 H x v → F x = some d → (∀ w H',Same H H' → ρ3 A H H' d w → Q w H') → r [v] H Q)
    (hg:Gl X x) (hm:X.mg x = none) (hv:bootBuiltins x = some (.builtin id)) (ha:PR X c e f) (he:isStar e = false) (hn:x ≠ "__name__" := by decide) (hdb:(x == ("__debug__":Str)) = false := by decide) :
    PE X (.Call (.Name x p) [e] [] pos) (tP (tx X c) ρ3 (fp1 F f)) := PE.imp (pe_callB hc hg hm hv (pa_one ha he) hn hdb (star_cons he)) fun _ _ _ h => tP_of1 snd h
theorem pd_t1 {α:Type} {ρ3:RK α V} [Kd ρ3] {ty:String} {x:Str} {p:Pos} {r:List V → Hp → VK → Prop} {F:D → Option α} (hc:CallR X (.type ty) r)
    (snd : ∀ (A:Addr → Prop) (H0 H:Hp) (x:D) (v:V) (d : α) (Q:VK),Nw A H → kR (tx X c) A H0 H x v → F x = some d → (∀ w H',Same H H' → ρ3 A H H' d w → Q w H') → r [v] H Q)
    (hg:Gl X x) (hm:X.mg x = none) (hv:bootBuiltins x = some (.type ty)) (ha:PR X c e f) (he:isStar e = false) (hn:x ≠ "__name__" := by decide) (hdb:(x == ("__debug__":Str)) = false := by decide) :
    PE X (.Call (.Name x p) [e] [] pos) (tP (tx X c) ρ3 (fp1 F f)) := PE.imp (pe_callTy hc hg hm hv (pa_one ha he) hn hdb (star_cons he)) fun _ _ _ h => tP_of1 snd h
theorem pd_len {p:Pos} (hg:Gl X "len") (hm:X.mg "len" = none) (ha:PR X c e f) (he:isStar e = false := by rfl):PD X c (.Call (.Name "len" p) [e] [] pos) (fp1 lenD f) := pd_b1 call_len snd_len hg hm PySem.boot_len ha he
theorem pd_tuple {p:Pos} (hg:Gl X "tuple") (hm:X.mg "tuple" = none) (ha:PR X c e f) (he:isStar e = false := by rfl):PD X c (.Call (.Name "tuple" p) [e] [] pos) (fp1 toTD f) := pd_t1 call_tuple_of snd_toT hg hm rfl ha he
theorem pf_list {p:Pos} (hg:Gl X "list") (hm:X.mg "list" = none) (ha:PR X c e f) (he:isStar e = false := by rfl):PF X c (.Call (.Name "list" p) [e] [] pos) (fp1 seqD f) := pd_t1 call_list_of snd_toL hg hm rfl ha he
noncomputable def tyS:Ty → String
  | .int => "int" | .str => "str" | .bool => "bool" | .list => "list" | .tuple => "tuple" | .dict => "dict"
theorem boot_ty (t:Ty):bootBuiltins (Str.ofString (tyS t)) = some (.type (tyS t)) := by cases t <;> decide +kernel
noncomputable def tyOfD:D → Option String
  | .non => some "NoneType"
  | .bl _ => some "bool"
  | .int _ => some "int"
  | .str _ => some "str"
  | .tup _ => some "tuple"
  | .lst _ => some "list"
  | _ => none
theorem inst_kit {K:PySem.W.Frag} {d:D} {t:Ty} {b:Bool} (h:instD t d = some (.bl b)) : ∃ s,tyOfD d = some s ∧ PySem.W.kitOne K (.type s) (.type (tyS t)) = some b := by
  cases d <;> cases h <;> refine ⟨_,rfl, ?_⟩ <;> cases t <;> rfl
theorem instD_bl {d r:D} {t:Ty} (h:instD t d = some r) : ∃ b,r = .bl b := by
  cases d <;> cases h <;> exact ⟨_,rfl⟩
theorem isinst_D {pins:List (Addr × Obj)} {σ:L2.St} {H:Hp} {s:Shared} {A:Addr → Prop} {E:Value → Shared → Prop} {Ar:Around} {Q:Value → Shared → Prop} {d:D} {x:V} {u:Value} {t T:String} {b:Bool} (I:Inv X pins σ H s) (rx:RelV x u) (r:RepR (tx X c) A H d x) (e1:tyOfD d = some t) (e:PySem.W.kitOne X.K (.type t) (.type T) = some b)
    (h : ∀ tk,Q (.bool b) { s with toks := tk }):wpAny (model X.prog X.w) Ar (call (.builtin "isinstance") [u,.type T]) Q E s := by
  cases d with
  | non => cases e1; cases RepR.non_ r; cases rx; exact PySem.W.kia_one PySem.W.kitx_none I.kIn True.intro e (fun z => nomatch z) h
  | bl y => cases e1; cases RepR.bl_ r; cases rx; exact PySem.W.kia_one PySem.W.kitx_bool I.kIn True.intro e (fun z => nomatch z) h
  | int i => cases e1; cases RepR.int_ r; obtain ⟨t,rfl⟩ := rx; exact PySem.W.kia_one PySem.W.kitx_int I.kIn True.intro e (fun z => nomatch z) h
  | str y => cases e1; cases RepR.str_ r; obtain ⟨t,rfl⟩ := rx; exact PySem.W.kia_one PySem.W.kitx_str I.kIn True.intro e (fun z => nomatch z) h
  | tup ds =>
    cases e1
    obtain ⟨a,xs,rfl,hq,_⟩ := RepR.tup_ r
    cases rx
    obtain ⟨its,_,p,_⟩ := I.tuple hq
    obtain ⟨o,h1,h2,_⟩ := p
    exact PySem.W.kia_one PySem.W.kitx_tuple I.kIn ⟨o,h1,h2⟩ e (fun z => nomatch z) h
  | lst ds =>
    cases e1
    obtain ⟨a,xs,rfl,hq,_⟩ := RepR.lst_ r
    cases rx
    obtain ⟨its,_,p,_⟩ := I.list hq
    obtain ⟨o,h1,h2,_⟩ := p.isList
    exact PySem.W.kia_one PySem.W.kitx_list I.kIn ⟨o,h1,h2⟩ e (fun z => nomatch z) h
  | ob _ _ _ => cases e1
  | dct _ _ => cases e1
  | exc _ => cases e1
theorem vals2 {x y:V} {us:List Value} (r:Vals [x,y] us) : ∃ u v,us = [u,v] ∧ RelV x u ∧ RelV y v := Vals.two r
theorem pd_isinst (t:Ty) {p p2:Pos} (hg:Gl X "isinstance") (hm:X.mg "isinstance" = none) (hg2:Gl X (Str.ofString (tyS t))) (hm2:X.mg (Str.ofString (tyS t)) = none) (ha:PR X c e f)
    (he:isStar e = false := by rfl) :
    PD X c (.Call (.Name "isinstance" p) [e,.Name (Str.ofString (tyS t)) p2] [] pos) (fp1 (instD t) f) := by
  intro pins s σ H Q I h
  refine wpAny_Call_Name_kw (ld_blt I hg hm (show bootBuiltins "isinstance" = some (.builtin "isinstance") by decide +kernel) ?_ (by decide) (by decide))
  have hA:PA X [e,.Name (Str.ofString (tyS t)) p2] (tCons (tP (tx X c) (kR (tx X c)) f) (tCons (tC (.ty (tyS t))) tNil)) := pa_cons ha (pa_cons (pe_bltn hg2 hm2 (boot_ty t) rfl (by cases t <;> decide) (by cases t <;> decide)) pa_nil (star_cons rfl)) (star_cons he)
  obtain ⟨W,O,env,d,E,ee,q⟩ := h
  unfold fp1 at ee
  cases e1:f env with
  | none => rw [e1] at ee; cases ee
  | some y =>
    rw [e1] at ee
    dsimp only [Option.bind_some] at ee
    obtain ⟨bb,rfl⟩ := instD_bl ee
    obtain ⟨st,e2,e3⟩ := inst_kit (K := X.K) ee
    refine PyProof.Rows.callWith_builtin1 (thn5 (hA pos pins s σ H (fun vs H1 => ∃ v,vs = [v,.ty (tyS t)] ∧ Same H H1 ∧ RepR (tx X c) (Cl W O) H1 y v) I ⟨W,O,env,y,E,e1,fun v H1 s1 r1 => ⟨v,rfl,s1,r1⟩⟩) fun us s1 vs H1 I1 r1 zz_ => ?_) (star_cons he) (star_none rfl)
    obtain ⟨v,ev,s1',rv⟩ := zz_
    subst ev
    obtain ⟨u,u2,rfl,ru,ru2⟩ := vals2 r1
    cases ru2
    exact isinst_D I1 ru rv e2 e3 fun tk => ⟨.bl bb,H1,I1.tok _,rfl,q _ H1 s1' (Rep.bl _)⟩
structure Gt (X:Cx) (x:Str) (tb:List (List Nat × Int)):Prop where
  ex : ∃ a,X.mg x = some (.ref a) ∧ ∀ h,X.K.In h → StrTab X.prog X.w h a (PySem.W.kdpD (tb.map fun p => (mkS p.1,p.2)))
theorem look_kdp (k:List Nat) : ∀ tb:List (List Nat × Int),PySem.W.kdpHas (tb.map fun p => (mkS p.1,p.2)) (mkS k) = (lookT k tb).isSome ∧ ∀ i,lookT k tb = some i → PySem.W.kdpLook (tb.map fun p => (mkS p.1,p.2)) (mkS k) 0 = i
  | [] => ⟨rfl,fun i h => by cases h⟩
  | (x,v) :: r => by
    obtain ⟨h1,h2⟩ := look_kdp k r
    unfold PySem.W.kdpHas PySem.W.kdpLook at *
    by_cases e:x = k
    · subst e
      refine ⟨by simp [lookT],fun i h => ?_⟩
      simp [lookT] at h
      simp [h]
    · have e' : ¬ mkS x = mkS k := fun z => e (mkS_inj z)
      refine ⟨?_,fun i h => ?_⟩
      · simp only [List.map_cons,List.any_cons,lookT,if_neg e]
        rw [decide_eq_false e',Bool.false_or]
        exact h1
      · simp only [lookT,if_neg e] at h
        have := h2 i h
        simp only [List.map_cons,List.find?_cons,decide_eq_false e']
        exact this
theorem pd_tab {x:Str} {tb:List (List Nat × Int)} {p:Pos} (G:Gt X x tb) (hg:Gl X x) (ha:PD X c e f) (hs:plainI e = true := by rfl) (hd:(x == ("__debug__":Str)) = false := by decide) :
    PD X c (.Subscript (.Name x p) e pos) (fp1 (tabD tb) f) := by
  obtain ⟨da,hm,T⟩ := G.ex
  intro pins s σ H Q I h
  obtain ⟨W,O,env,d,E,ee,q⟩ := h
  unfold fp1 at ee
  cases e1:f env with
  | none => rw [e1] at ee; cases ee
  | some yd =>
    rw [e1] at ee
    dsimp only [Option.bind_some] at ee
    refine Subscript_ (binT (R := fun x' y' H2 => x' = .ref da ∧ Same H H2 ∧ Rep (tx X c) (Cl W O) H2 yd y') (pe_glob (v := .ref da) hg hm rfl hd) ha I ⟨W,O,env,yd,E,e1,fun v H1 s1 r1 => ⟨rfl,s1,r1⟩⟩ fun v u s2 x' y' H2 I2 rx ry zz_ => ?_)
    obtain ⟨ex,s1,r1⟩ := zz_
    subst ex
    cases rx
    cases yd with
    | str k =>
      cases r1.str_
      obtain ⟨t,rfl⟩ := ry
      unfold tabD at ee
      dsimp only at ee
      cases e4:lookT k tb with
      | none => rw [e4] at ee; cases ee
      | some i =>
        rw [e4] at ee; cases ee
        obtain ⟨h1,h2⟩ := look_kdp k tb
        rw [e4] at h1
        have hv := h2 i e4
        exact PySem.W.tab_tail (T _ I2.kIn) (PySem.W.kdp_getItem (T _ I2.kIn) h1 fun t => ⟨.int _,H2,I2.tok _,⟨_,rfl⟩,by rw [hv]; exact q _ H2 s1 (Rep.int _)⟩) (plainIx_no hs _ _)
    | _ => cases ee
theorem pd_not (ha:PD X c a f):PD X c (.UnaryOp .Not a pos) (feNot f) := PE.imp (pe_not ha) fun _ _ _ h => tP_not h
theorem pd_one {op} (h:PD X c a f):PD X c (.BoolOp op [a] pos) f := pe_one h
theorem pd_and {rest:List Expr} (ha:PD X c a f) (hb:PD X c (.BoolOp .And (b :: rest) pos) g):PD X c (.BoolOp .And (a :: b :: rest) pos) (feAnd f g) := PE.imp (pe_and ha hb) fun _ _ _ h => tP_and h
theorem pd_or {rest:List Expr} (ha:PD X c a f) (hb:PD X c (.BoolOp .Or (b :: rest) pos) g):PD X c (.BoolOp .Or (a :: b :: rest) pos) (feOr f g) := PE.imp (pe_or ha hb) fun _ _ _ h => tP_or h
variable {t u:FT}
theorem pdt_val (h:PD X c e f) (he:plainT e = true := by rfl):PDT X c e (ftB f) := PT.imp (pt_val h (isTrue_no he)) fun _ _ _ h => tP_test h
theorem pdt_not (ha:PDT X c a t):PDT X c (.UnaryOp .Not a pos) (ftNot t) := PT.imp (pt_not ha) fun _ _ _ h => tPT_not h
theorem pdw_and1 (ha:PDT X c a t):PDW X c (.BoolOp .And [a] pos) t := pw_and1 ha
theorem pdw_or1 (ha:PDT X c a t):PDW X c (.BoolOp .Or [a] pos) t := pw_or1 ha
theorem pdw_and {rest:List Expr} (ha:PDT X c a t) (hb:PDW X c (.BoolOp .And (b :: rest) pos) u):PDW X c (.BoolOp .And (a :: b :: rest) pos) (ftAnd t u) := PW.imp (pw_and ha hb) fun _ _ _ h => tPT_and h
theorem pdw_or {rest:List Expr} (ha:PDT X c a t) (hb:PDW X c (.BoolOp .Or (b :: rest) pos) u):PDW X c (.BoolOp .Or (a :: b :: rest) pos) (ftOr t u) := PW.imp (pw_or ha hb) fun _ _ _ h => tPT_or h
theorem PDW.pt (h:PDW X c e t):PDT X c e t := PW.pt h
theorem pd_ifExp {te:Expr} (hc:PDT X c te t) (ha:PD X c a f) (hb:PD X c b g):PD X c (.IfExp te a b pos) (feIf t f g) := PE.imp (pe_ifExp hc ha hb) fun _ _ _ h => tP_if h
variable {st:Stmt} {rest:List Stmt} {F G:FS}
theorem pdss_nil:PDSs X c xq [] fsNext := PSs.imp pss_nil fun _ _ _ h => tDs_next h
theorem pdss_cons (h1:PDS X c xq st F) (h2:PDSs X c xq rest G):PDSs X c xq (st :: rest) (fsSeq F G) := PSs.imp (pss_cons h1 h2) fun _ _ _ h => tDs_seq h
theorem pdss_one (h1:PDS X c xq st F):PDSs X c xq [st] F := pss_one h1
theorem pdss_frz {i:Nat} {sts:List Stmt} (h:PDSs X c xq sts F):PDSs X c xq sts (fsFrz i F) := PSs.imp h fun _ _ _ h => tDs_frz h
theorem pds_ret (h:PD X c e f):PDS X c xq (.Return (some e) pos) (fsRet f) := PS.imp (ps_ret h) fun _ _ _ h => tDs_ret h
theorem pds_retF {f:FP (List D)} (h:PF X c e f):PDS X c xq (.Return (some e) pos) (fsRetF f) := PS.imp (ps_ret h) fun _ _ _ h => tDs_retF h
theorem pds_retO {i:Nat} {x:Str} {p2:Pos} (n:Nm X i x):PDS X c xq (.Return (some (.Name x p2)) pos) (fsRetO i) := PS.imp (ps_ret (pe_var n.hN n.hv n.hd n.hc)) fun _ _ _ h => tDs_retO h
theorem pds_if {te:Expr} {as bs:List Stmt} (hc:PDT X c te t) (ha:PDSs X c xq as F) (hb:PDSs X c xq bs G):PDS X c xq (.If te as bs pos) (fsIf t F G) := PS.imp (ps_if hc ha hb) fun _ _ _ h => tDs_if h
theorem pds_set {i:Nat} {x:Str} {pos':Pos} (n:Nl X i x) (he:PD X c e f) (hs:noComp e = true := by rfl) :
    PDS X c xq (.Assign [.Name x pos'] e pos) (fsSet i f) := PS.imp (ps_set n.nd n.hN n.hl he (swaps_no hs) n.hf) fun _ _ _ h => tDs_set h
theorem pds_own {i:Nat} {x:Str} {pos':Pos} {f:FP (List D)} (n:Nl X i x) (he:PF X c e f) (hs:noComp e = true := by rfl) :
    PDS X c xq (.Assign [.Name x pos'] e pos) (fsOwn i f) := PS.imp (ps_set n.nd n.hN n.hl he (swaps_no hs) n.hf) fun _ _ _ h => tDs_own h
theorem pi_seq {tg l:Expr} {tl:TE} (hl:PE X l tl):PI X tg l (iSeq X.K tl) := by
  intro pins s σ H R I h
  refine thn5 (hl pins s σ H _ I h) fun v s1 x H1 I1 r1 q1 => ?_
  obtain ⟨a,e,q1⟩ := q1
  subst e
  cases r1
  rcases q1 with ⟨⟨xs,hq⟩,q⟩ | ⟨⟨xs,hq⟩,q⟩
  · obtain ⟨its,rv,p,hz⟩ := I1.list hq
    refine wpAny_pyIter_list p.isList ?_
    refine ⟨s1.heap.objs.size,[s1.heap.objs.size],_,_,H1,rfl,I1.kept (t' := s1.toks) fun b o e => Heap.get?_push_of_some _ e,turn_list a _,⟨_,Heap.get?_push_size _ rfl,rfl,rfl⟩,fun b hb => ?_,q⟩
    have e:b = s1.heap.objs.size := by simpa using hb
    subst e
    exact I1.fpOk (Nat.le_refl _) (I1.hok.fresh (Nat.le_refl _))
  · obtain ⟨its,rv,p,hz⟩ := I1.tuple hq
    refine wpAny_pyIter_tuple (show s1.heap.IsTuple a its.toArray from p) ?_
    refine ⟨s1.heap.objs.size,[s1.heap.objs.size],_,_,H1,rfl,I1.kept (t' := s1.toks) fun b o e => Heap.get?_push_of_some _ e,turn_tuple a _,⟨_,Heap.get?_push_size _ rfl,rfl,rfl⟩,fun b hb => ?_,q⟩
    have e:b = s1.heap.objs.size := by simpa using hb
    subst e
    exact I1.fpOk (Nat.le_refl _) (I1.hok.fresh (Nat.le_refl _))
theorem pg_nm {i:Nat} {x:Str} (n:Nl X i x):PG X (.Name x pos) (gName i) := pg_name n.nd n.hN n.hl n.hf
theorem pds_for {tgE iter:Expr} {tg:FG} {gt:TG} {body:List Stmt} {fi:FE} (hp:PassesOwn (model X.prog X.w) X.A X.env X.xe) (hc:X.calm = true) (sg:SndG (tx X c) tg gt) (pg:PG X tgE gt) (hi:PD X c iter fi) (hb:PDSs X c xq body F)
    (hs:noSet iter = true := by rfl):PDS X c xq (.For tgE iter body [] pos) (fsFor tg fi F) :=
  PS.imp (ps_for hp hc (pi_seq hi) pg hb (folded_no hs)) fun _ _ _ h => tDs_for sg h
theorem pds_for1 {tgE:Expr} {tg:FG} {gt:TG} {p p2:Pos} {body:List Stmt} {fs:FA} (hp:PassesOwn (model X.prog X.w) X.A X.env X.xe) (hc:X.calm = true) (sg:SndG (tx X c) tg gt) (pg:PG X tgE gt) (hg:Gl X "range") (hm:X.mg "range" = none) (ha:PDA X c [a] fs) (hb:PDSs X c xq body F) (hst:isStar a = false := by rfl)
   :PDS X c xq (.For tgE (.Call (.Name "range" p) [a] [] p2) body [] pos) (fsForR rng1 tg fs F) :=
  PS.imp (ps_for hp hc (pi_range1 hg hm ha (star_one hst)) pg hb (folded_no rfl)) fun _ _ _ h => tDs_for1 sg h
end
end DL
end
section
set_option Elab.async false
set_option linter.all false
set_option maxRecDepth 100000
namespace DL
open PySem PySem.Spec PyProof.Rows L2 PySem.SeqAt
theorem EqAt.of_rc {A:Around} {s:Shared} {a b:Value} {k:Bool} (hf : ∀ x t,a ≠ .float x t) (h:RcAt A s a b k) (hs:a = b → k = true):EqAt A s a b k := fun prog w E Q hq => by
  unfold eqBool
  refine wpAny_holding ?_
  refine wpAny_ite_split (fun hab => ?_) (fun _ => ?_)
  · have := hs (eq_of_beq hab)
    subst this
    exact wpAny_bind (wpAny_rule (wpAny_pure hq))
  · cases a with
    | float x t => exact absurd rfl (hf x t)
    | _ => exact wpAny_bind (h prog w E _ (wpAny_truthy_bool hq))
theorem eqZ_get {f:D → D → Option Bool} : ∀ {as bs:List D} {r:Bool},eqZ f as bs = some r → ∃ e:Nat → Bool,(∀ (j:Nat) x y,as[j]? = some x → bs[j]? = some y → f x y = some (e j)) ∧ r = (List.range (min as.length bs.length)).all e
  | [],bs,r,h => by
    unfold eqZ at h; cases h
    exact ⟨fun _ => true,fun j x y h => by simp at h,by simp⟩
  | a :: as,[],r,h => by
    unfold eqZ at h; cases h
    exact ⟨fun _ => true,fun j x y _ h => by simp at h,by simp⟩
  | a :: as,b :: bs,r,h => by
    unfold eqZ at h
    cases e1:f a b with
    | none => rw [e1] at h; cases h
    | some x0 =>
      rw [e1] at h
      dsimp only [Option.bind_some] at h
      cases e2:eqZ f as bs with
      | none => rw [e2] at h; cases h
      | some y0 =>
        rw [e2] at h; cases h
        obtain ⟨e,h1,h2⟩ := eqZ_get e2
        refine ⟨fun j => match j with | 0 => x0 | j + 1 => e j,fun j x y hx hy => ?_, ?_⟩
        · cases j with
          | zero => simp at hx hy; subst hx hy; exact e1
          | succ j => exact h1 j x y (by simpa using hx) (by simpa using hy)
        · have hl:min (a :: as).length (b :: bs).length = min as.length bs.length + 1 := by simp only [List.length_cons]; omega
          rw [hl,List.range_succ_eq_map,List.all_cons,List.all_map,h2]
          rfl
section
variable {X:Cx} {c:Ct} {pins:List (Addr × Obj)} {σ:L2.St} {H:Hp} {s:Shared} {A:Addr → Prop}
theorem rep_same (I:Inv X pins σ H s) : ∀ (n:Nat) {x y:D} {v:V} {b:Bool},RepR (tx X c) A H x v → RepR (tx X c) A H y v → eqN n x y = some b → b = true
  | 0,_,_,_,_,_,_,h => by cases h
  | n + 1,x,y,v,b,rx,ry,h => by
    have go : ∀ {as bs:List D} {xs:List V} {r:Bool},RepL (tx X c) A H as xs → RepL (tx X c) A H bs xs → eqZ (eqN n) as bs = some r → r = true := fun {as bs xs r} ra rb hz => by
      obtain ⟨e,h1,h2⟩ := eqZ_get hz
      rw [h2,List.all_eq_true]
      intro j hj
      have hj':j < min as.length bs.length := by simpa using hj
      have la := ra.length
      have hx:as[j]? = some (as[j]'(by omega)) := List.getElem?_eq_getElem _
      have hy:bs[j]? = some (bs[j]'(by omega)) := List.getElem?_eq_getElem _
      obtain ⟨v1,g1,r1⟩ := ra.get hx
      obtain ⟨v2,g2,r2⟩ := rb.get hy
      rw [g1] at g2; cases g2
      exact rep_same I n (RepR.of r1) (RepR.of r2) (h1 j _ _ hx hy)
    unfold eqN at h
    cases x with
    | non => cases y <;> first | (cases h; rfl) | (cases RepR.non_ rx; first | cases RepR.bl_ ry | cases RepR.int_ ry | cases RepR.str_ ry | (obtain ⟨_,_,z,_⟩ := RepR.tup_ ry; cases z) | (obtain ⟨_,_,z,_⟩ := RepR.lst_ ry; cases z) | cases h)
    | bl p =>
      cases RepR.bl_ rx
      cases y with
      | bl q => cases h; cases RepR.bl_ ry; simp
      | int q => cases RepR.int_ ry
      | non => cases RepR.non_ ry
      | str q => cases RepR.str_ ry
      | tup q => obtain ⟨_,_,z,_⟩ := RepR.tup_ ry; cases z
      | lst q => obtain ⟨_,_,z,_⟩ := RepR.lst_ ry; cases z
      | ob _ _ _ => cases h
      | dct _ _ => cases h
      | exc _ => cases h
    | int p =>
      cases RepR.int_ rx
      cases y with
      | int q => cases h; cases RepR.int_ ry; simp
      | bl q => cases RepR.bl_ ry
      | non => cases RepR.non_ ry
      | str q => cases RepR.str_ ry
      | tup q => obtain ⟨_,_,z,_⟩ := RepR.tup_ ry; cases z
      | lst q => obtain ⟨_,_,z,_⟩ := RepR.lst_ ry; cases z
      | ob _ _ _ => cases h
      | dct _ _ => cases h
      | exc _ => cases h
    | str p =>
      cases RepR.str_ rx
      cases y with
      | str q =>
        have hz := RepR.str_ ry
        injection hz with hz
        have hz := mkS_inj hz
        subst hz
        cases h; simp
      | bl q => cases RepR.bl_ ry
      | non => cases RepR.non_ ry
      | int q => cases RepR.int_ ry
      | tup q => obtain ⟨_,_,z,_⟩ := RepR.tup_ ry; cases z
      | lst q => obtain ⟨_,_,z,_⟩ := RepR.lst_ ry; cases z
      | ob _ _ _ => cases h
      | dct _ _ => cases h
      | exc _ => cases h
    | tup p =>
      obtain ⟨a1,xs1,rfl,q1,r1⟩ := RepR.tup_ rx
      cases y with
      | tup q =>
        obtain ⟨a2,xs2,z,q2,r2⟩ := RepR.tup_ ry
        cases z
        have := I.tuple_inj q1 q2
        subst this
        dsimp only at h
        cases e1:eqZ (eqN n) p q with
        | none => rw [e1] at h; cases h
        | some r =>
          rw [e1] at h; cases h
          rw [go r1 r2 e1,r1.length,r2.length]; simp
      | lst q =>
        obtain ⟨a2,xs2,z,q2,r2⟩ := RepR.lst_ ry
        cases z
        obtain ⟨_,_,p1,_⟩ := I.tuple q1
        obtain ⟨_,_,p2,_⟩ := I.list q2
        obtain ⟨o,h1,h2,_⟩ := p1
        obtain ⟨o',n',h1',h2',_⟩ := p2
        rw [h1] at h1'; cases h1'
        rw [h2] at h2'
        injection h2' with z
        exact absurd z (by decide)
      | bl q => cases RepR.bl_ ry
      | non => cases RepR.non_ ry
      | int q => cases RepR.int_ ry
      | str q => cases RepR.str_ ry
      | ob _ _ _ => cases h
      | dct _ _ => cases h
      | exc _ => cases h
    | lst p =>
      obtain ⟨a1,xs1,rfl,q1,r1⟩ := RepR.lst_ rx
      cases y with
      | lst q =>
        obtain ⟨a2,xs2,z,q2,r2⟩ := RepR.lst_ ry
        cases z
        have := I.list_inj q1 q2
        subst this
        dsimp only at h
        rw [if_pos (by rw [r1.length,r2.length])] at h
        exact go r1 r2 h
      | tup q =>
        obtain ⟨a2,xs2,z,q2,r2⟩ := RepR.tup_ ry
        cases z
        obtain ⟨_,_,p1,_⟩ := I.tuple q2
        obtain ⟨_,_,p2,_⟩ := I.list q1
        obtain ⟨o,h1,h2,_⟩ := p1
        obtain ⟨o',n',h1',h2',_⟩ := p2
        rw [h1] at h1'; cases h1'
        rw [h2] at h2'
        injection h2' with z
        exact absurd z (by decide)
      | bl q => cases RepR.bl_ ry
      | non => cases RepR.non_ ry
      | int q => cases RepR.int_ ry
      | str q => cases RepR.str_ ry
      | ob _ _ _ => cases h
      | dct _ _ => cases h
      | exc _ => cases h
    | ob _ _ _ => cases y <;> cases h
    | dct _ _ => cases y <;> cases h
    | exc _ => cases y <;> cases h
theorem relV_nofloat {x:D} {v:V} {a:Value} (rx:RepR (tx X c) A H x v) (r:RelV v a) : ∀ z t,a ≠ .float z t := fun z t e => by
  subst e
  cases v with
  | flt b =>
    cases x with
    | non => cases RepR.non_ rx
    | bl q => cases RepR.bl_ rx
    | int q => cases RepR.int_ rx
    | str q => cases RepR.str_ rx
    | tup q => obtain ⟨_,_,z,_⟩ := RepR.tup_ rx; cases z
    | lst q => obtain ⟨_,_,z,_⟩ := RepR.lst_ rx; cases z
    | ob _ _ _ => obtain ⟨_,_,_,_,z,_⟩ := Rep.ob_ (show Rep (tx X c) A H (.ob _ _ _) _ from rx); cases z
    | dct _ _ => obtain ⟨_,_,z,_⟩ := Rep.dct_ (show Rep (tx X c) A H (.dct _ _) _ from rx); cases z
    | exc _ => obtain ⟨_,_,z,_⟩ := Rep.exc_ (show Rep (tx X c) A H (.exc _) _ from rx); cases z
  | non => cases r
  | bl b => cases r
  | int b => obtain ⟨_,z⟩ := r; cases z
  | str b => obtain ⟨_,z⟩ := r; cases z
  | byt b => obtain ⟨_,z⟩ := r; cases z
  | ref b => cases r
  | ty b => cases r
theorem rc_of (I:Inv X pins σ H s) : ∀ (n:Nat) {x y:D} {v u:V} {av au:Value} {b:Bool} {Ar:Around},RepR (tx X c) A H x v → RepR (tx X c) A H y u → RelV v av → RelV u au → eqN n x y = some b → Ar.units + n < cLine → RcAt Ar s av au b
  | 0,_,_,_,_,_,_,_,_,_,_,_,_,h,_ => by cases h
  | n + 1,x,y,v,u,av,au,b,Ar,rx,ry,rv,ru,h,hu => by
    have hu0:Ar.units < cLine := by omega
    have go : ∀ {as bs:List D} {xs ys:List V} {us ws:List Value} {r:Bool},RepL (tx X c) A H as xs → RepL (tx X c) A H bs ys → Vals xs us → Vals ys ws → eqZ (eqN n) as bs = some r →
        ∃ e:Nat → Bool,(∀ j (h1:j < us.toArray.size) (h2:j < ws.toArray.size),EqAt Ar.in1 s us.toArray[j] ws.toArray[j] (e j)) ∧ r = (List.range (min us.toArray.size ws.toArray.size)).all e := fun {as bs xs ys us ws r} ra rb va vb hz => by
      obtain ⟨e,h1,h2⟩ := eqZ_get hz
      have l1 := ra.length
      have l2 := va.length
      have l3 := rb.length
      have l4 := vb.length
      refine ⟨e,fun j hj1 hj2 => ?_,by rw [h2]; simp only [List.size_toArray]; rw [l1,l2,l3,l4]⟩
      simp only [List.size_toArray] at hj1 hj2
      have hx:as[j]? = some (as[j]'(by omega)) := List.getElem?_eq_getElem _
      have hy:bs[j]? = some (bs[j]'(by omega)) := List.getElem?_eq_getElem _
      obtain ⟨v1,g1,r1⟩ := ra.get hx
      obtain ⟨v2,g2,r2⟩ := rb.get hy
      obtain ⟨u1,k1,s1⟩ := va.get g1
      obtain ⟨u2,k2,s2⟩ := vb.get g2
      have e1:us.toArray[j] = u1 := by
        have := List.getElem?_eq_some_iff.mp k1
        obtain ⟨_,z⟩ := this
        simpa using z
      have e2:ws.toArray[j] = u2 := by
        have := List.getElem?_eq_some_iff.mp k2
        obtain ⟨_,z⟩ := this
        simpa using z
      rw [e1,e2]
      have hn := h1 j _ _ hx hy
      have hue:Ar.in1.units + n < cLine := by show Ar.units + 1 + n < cLine; omega
      refine EqAt.of_rc (relV_nofloat (c := c) (A := A) (RepR.of r1) s1) (rc_of I n (RepR.of r1) (RepR.of r2) s1 s2 hn hue) fun ee => ?_
      subst ee
      have := s1.inj s2
      subst this
      exact rep_same I n (RepR.of r1) (RepR.of r2) hn
    unfold eqN at h
    cases x with
    | non =>
      cases RepR.non_ rx; cases rv
      cases y with
      | non => cases h; cases RepR.non_ ry; cases ru; exact .none_none
      | bl q => cases h; cases RepR.bl_ ry; cases ru; exact .none_bool _
      | int q => cases h; cases RepR.int_ ry; obtain ⟨t,rfl⟩ := ru; exact .none_int _ _
      | str q => cases h; cases RepR.str_ ry; obtain ⟨t,rfl⟩ := ru; exact .none_str _ _
      | tup q => cases h; obtain ⟨_,_,rfl,q2,_⟩ := RepR.tup_ ry; cases ru; obtain ⟨_,_,p,_⟩ := I.tuple q2; exact .none_tuple p hu0
      | lst q => cases h; obtain ⟨_,_,rfl,q2,_⟩ := RepR.lst_ ry; cases ru; obtain ⟨_,_,p,_⟩ := I.list q2; exact .none_list p.isList hu0
      | ob _ _ _ => cases h
      | dct _ _ => cases h
      | exc _ => cases h
    | bl p =>
      cases RepR.bl_ rx; cases rv
      cases y with
      | non => cases h; cases RepR.non_ ry; cases ru; exact .bool_none _
      | bl q => cases h; cases RepR.bl_ ry; cases ru; exact .bool_bool _ _
      | int q => cases h; cases RepR.int_ ry; obtain ⟨t,rfl⟩ := ru; exact .bool_int _ _ _
      | str q => cases h; cases RepR.str_ ry; obtain ⟨t,rfl⟩ := ru; exact .bool_str _ _ _
      | tup q => cases h; obtain ⟨_,_,rfl,q2,_⟩ := RepR.tup_ ry; cases ru; obtain ⟨_,_,p,_⟩ := I.tuple q2; exact .bool_tuple _ p hu0
      | lst q => cases h; obtain ⟨_,_,rfl,q2,_⟩ := RepR.lst_ ry; cases ru; obtain ⟨_,_,p,_⟩ := I.list q2; exact .bool_list _ p.isList hu0
      | ob _ _ _ => cases h
      | dct _ _ => cases h
      | exc _ => cases h
    | int p =>
      cases RepR.int_ rx; obtain ⟨t0,rfl⟩ := rv
      cases y with
      | non => cases h; cases RepR.non_ ry; cases ru; exact .int_none _ _
      | bl q => cases h; cases RepR.bl_ ry; cases ru; exact .int_bool _ _ _
      | int q => cases h; cases RepR.int_ ry; obtain ⟨t,rfl⟩ := ru; exact .int_int _ _ _ _
      | str q => cases h; cases RepR.str_ ry; obtain ⟨t,rfl⟩ := ru; exact .int_str _ _ _ _
      | tup q => cases h; obtain ⟨_,_,rfl,q2,_⟩ := RepR.tup_ ry; cases ru; obtain ⟨_,_,p,_⟩ := I.tuple q2; exact .int_tuple _ _ p hu0
      | lst q => cases h; obtain ⟨_,_,rfl,q2,_⟩ := RepR.lst_ ry; cases ru; obtain ⟨_,_,p,_⟩ := I.list q2; exact .int_list _ _ p.isList hu0
      | ob _ _ _ => cases h
      | dct _ _ => cases h
      | exc _ => cases h
    | str p =>
      cases RepR.str_ rx; obtain ⟨t0,rfl⟩ := rv
      cases y with
      | non => cases h; cases RepR.non_ ry; cases ru; exact .str_none _ _
      | bl q => cases h; cases RepR.bl_ ry; cases ru; exact .str_bool _ _ _
      | int q => cases h; cases RepR.int_ ry; obtain ⟨t,rfl⟩ := ru; exact .str_int _ _ _ _
      | str q =>
        cases h; cases RepR.str_ ry; obtain ⟨t,rfl⟩ := ru
        have hs:(p == q) = (mkS p == mkS q) := by
          by_cases hh:p = q
          · subst hh; simp
          · rw [beq_eq_false_iff_ne.mpr hh,beq_eq_false_iff_ne.mpr fun e => hh (mkS_inj e)]
        rw [hs]
        exact .str_str _ _ _ _
      | tup q => cases h; obtain ⟨_,_,rfl,q2,_⟩ := RepR.tup_ ry; cases ru; obtain ⟨_,_,p,_⟩ := I.tuple q2; exact .str_tuple _ _ p hu0
      | lst q => cases h; obtain ⟨_,_,rfl,q2,_⟩ := RepR.lst_ ry; cases ru; obtain ⟨_,_,p,_⟩ := I.list q2; exact .str_list _ _ p.isList hu0
      | ob _ _ _ => cases h
      | dct _ _ => cases h
      | exc _ => cases h
    | tup p =>
      obtain ⟨a1,xs1,rfl,q1,r1⟩ := RepR.tup_ rx
      cases rv
      obtain ⟨us1,v1,p1,_⟩ := I.tuple q1
      cases y with
      | non => cases h; cases RepR.non_ ry; cases ru; exact .tuple_none p1 hu0
      | bl q => cases h; cases RepR.bl_ ry; cases ru; exact .tuple_bool _ p1 hu0
      | int q => cases h; cases RepR.int_ ry; obtain ⟨t,rfl⟩ := ru; exact .tuple_int _ _ p1 hu0
      | str q => cases h; cases RepR.str_ ry; obtain ⟨t,rfl⟩ := ru; exact .tuple_str _ _ p1 hu0
      | tup q =>
        obtain ⟨a2,xs2,rfl,q2,r2⟩ := RepR.tup_ ry
        cases ru
        obtain ⟨us2,v2,p2,_⟩ := I.tuple q2
        dsimp only at h
        cases e1:eqZ (eqN n) p q with
        | none => rw [e1] at h; cases h
        | some r =>
          rw [e1] at h; cases h
          obtain ⟨e,g1,g2⟩ := go r1 r2 v1 v2 e1
          have hl:(p.length == q.length) = (us1.toArray.size == us2.toArray.size) := by simp only [List.size_toArray]; rw [r1.length,r2.length,v1.length,v2.length]
          rw [g2,hl]
          exact .tuples p1 p2 hu0 g1
      | lst q => cases h; obtain ⟨_,_,rfl,q2,_⟩ := RepR.lst_ ry; cases ru; obtain ⟨_,_,p,_⟩ := I.list q2; exact .tuple_list p1 p.isList hu0
      | ob _ _ _ => cases h
      | dct _ _ => cases h
      | exc _ => cases h
    | lst p =>
      obtain ⟨a1,xs1,rfl,q1,r1⟩ := RepR.lst_ rx
      cases rv
      obtain ⟨us1,v1,p1,_⟩ := I.list q1
      cases y with
      | non => cases h; cases RepR.non_ ry; cases ru; exact .list_none p1.isList hu0
      | bl q => cases h; cases RepR.bl_ ry; cases ru; exact .list_bool _ p1.isList hu0
      | int q => cases h; cases RepR.int_ ry; obtain ⟨t,rfl⟩ := ru; exact .list_int _ _ p1.isList hu0
      | str q => cases h; cases RepR.str_ ry; obtain ⟨t,rfl⟩ := ru; exact .list_str _ _ p1.isList hu0
      | tup q => cases h; obtain ⟨_,_,rfl,q2,_⟩ := RepR.tup_ ry; cases ru; obtain ⟨_,_,p,_⟩ := I.tuple q2; exact .list_tuple p1.isList p hu0
      | lst q =>
        obtain ⟨a2,xs2,rfl,q2,r2⟩ := RepR.lst_ ry
        cases ru
        obtain ⟨us2,v2,p2,_⟩ := I.list q2
        dsimp only at h
        have hl1:p.length = us1.toArray.size := by simp only [List.size_toArray]; rw [r1.length,v1.length]
        have hl2:q.length = us2.toArray.size := by simp only [List.size_toArray]; rw [r2.length,v2.length]
        by_cases hl:p.length = q.length
        · rw [if_pos hl] at h
          obtain ⟨e,g1,g2⟩ := go r1 r2 v1 v2 h
          have hm:min us1.toArray.size us2.toArray.size = us1.toArray.size := by omega
          rw [g2,hm]
          exact .lists p1.isList p2.isList (by omega) hu0 g1
        · rw [if_neg hl] at h; cases h
          exact .lists_lengths p1.isList p2.isList (by rw [← hl1, ← hl2]; simpa using hl) hu0
      | ob _ _ _ => cases h
      | dct _ _ => cases h
      | exc _ => cases h
    | ob _ _ _ => cases y <;> cases h
    | dct _ _ => cases y <;> cases h
    | exc _ => cases y <;> cases h
theorem rcne_of (I:Inv X pins σ H s) : ∀ (n:Nat) {x y:D} {v u:V} {av au:Value} {b:Bool} {Ar:Around},RepR (tx X c) A H x v → RepR (tx X c) A H y u → RelV v av → RelV u au → eqN n x y = some b → Ar.units + n < cLine → RcNeAt Ar s av au (!b)
  | 0,_,_,_,_,_,_,_,_,_,_,_,_,h,_ => by cases h
  | n + 1,x,y,v,u,av,au,b,Ar,rx,ry,rv,ru,h,hu => by
    have hu0:Ar.units < cLine := by omega
    have go : ∀ {as bs:List D} {xs ys:List V} {us ws:List Value} {r:Bool},RepL (tx X c) A H as xs → RepL (tx X c) A H bs ys → Vals xs us → Vals ys ws → eqZ (eqN n) as bs = some r →
        ∃ e:Nat → Bool,(∀ j (h1:j < us.toArray.size) (h2:j < ws.toArray.size),EqAt Ar.in1 s us.toArray[j] ws.toArray[j] (e j)) ∧ r = (List.range (min us.toArray.size ws.toArray.size)).all e := fun {as bs xs ys us ws r} ra rb va vb hz => by
      obtain ⟨e,h1,h2⟩ := eqZ_get hz
      have l1 := ra.length
      have l2 := va.length
      have l3 := rb.length
      have l4 := vb.length
      refine ⟨e,fun j hj1 hj2 => ?_,by rw [h2]; simp only [List.size_toArray]; rw [l1,l2,l3,l4]⟩
      simp only [List.size_toArray] at hj1 hj2
      have hx:as[j]? = some (as[j]'(by omega)) := List.getElem?_eq_getElem _
      have hy:bs[j]? = some (bs[j]'(by omega)) := List.getElem?_eq_getElem _
      obtain ⟨v1,g1,r1⟩ := ra.get hx
      obtain ⟨v2,g2,r2⟩ := rb.get hy
      obtain ⟨u1,k1,s1⟩ := va.get g1
      obtain ⟨u2,k2,s2⟩ := vb.get g2
      have e1:us.toArray[j] = u1 := by
        have := List.getElem?_eq_some_iff.mp k1
        obtain ⟨_,z⟩ := this
        simpa using z
      have e2:ws.toArray[j] = u2 := by
        have := List.getElem?_eq_some_iff.mp k2
        obtain ⟨_,z⟩ := this
        simpa using z
      rw [e1,e2]
      have hn := h1 j _ _ hx hy
      have hue:Ar.in1.units + n < cLine := by show Ar.units + 1 + n < cLine; omega
      refine EqAt.of_rc (relV_nofloat (c := c) (A := A) (RepR.of r1) s1) (rc_of I n (RepR.of r1) (RepR.of r2) s1 s2 hn hue) fun ee => ?_
      subst ee
      have := s1.inj s2
      subst this
      exact rep_same I n (RepR.of r1) (RepR.of r2) hn
    unfold eqN at h
    cases x with
    | non =>
      cases RepR.non_ rx; cases rv
      cases y with
      | non => cases h; cases RepR.non_ ry; cases ru; exact .none_none
      | bl q => cases h; cases RepR.bl_ ry; cases ru; exact .none_bool _
      | int q => cases h; cases RepR.int_ ry; obtain ⟨t,rfl⟩ := ru; exact .none_int _ _
      | str q => cases h; cases RepR.str_ ry; obtain ⟨t,rfl⟩ := ru; exact .none_str _ _
      | tup q => cases h; obtain ⟨_,_,rfl,q2,_⟩ := RepR.tup_ ry; cases ru; obtain ⟨_,_,p,_⟩ := I.tuple q2; exact .none_tuple p hu0
      | lst q => cases h; obtain ⟨_,_,rfl,q2,_⟩ := RepR.lst_ ry; cases ru; obtain ⟨_,_,p,_⟩ := I.list q2; exact .none_list p.isList hu0
      | ob _ _ _ => cases h
      | dct _ _ => cases h
      | exc _ => cases h
    | bl p =>
      cases RepR.bl_ rx; cases rv
      cases y with
      | non => cases h; cases RepR.non_ ry; cases ru; exact .bool_none _
      | bl q => cases h; cases RepR.bl_ ry; cases ru; exact .bool_bool _ _
      | int q => cases h; cases RepR.int_ ry; obtain ⟨t,rfl⟩ := ru; exact .bool_int _ _ _
      | str q => cases h; cases RepR.str_ ry; obtain ⟨t,rfl⟩ := ru; exact .bool_str _ _ _
      | tup q => cases h; obtain ⟨_,_,rfl,q2,_⟩ := RepR.tup_ ry; cases ru; obtain ⟨_,_,p,_⟩ := I.tuple q2; exact .bool_tuple _ p hu0
      | lst q => cases h; obtain ⟨_,_,rfl,q2,_⟩ := RepR.lst_ ry; cases ru; obtain ⟨_,_,p,_⟩ := I.list q2; exact .bool_list _ p.isList hu0
      | ob _ _ _ => cases h
      | dct _ _ => cases h
      | exc _ => cases h
    | int p =>
      cases RepR.int_ rx; obtain ⟨t0,rfl⟩ := rv
      cases y with
      | non => cases h; cases RepR.non_ ry; cases ru; exact .int_none _ _
      | bl q => cases h; cases RepR.bl_ ry; cases ru; exact .int_bool _ _ _
      | int q => cases h; cases RepR.int_ ry; obtain ⟨t,rfl⟩ := ru; exact .int_int _ _ _ _
      | str q => cases h; cases RepR.str_ ry; obtain ⟨t,rfl⟩ := ru; exact .int_str _ _ _ _
      | tup q => cases h; obtain ⟨_,_,rfl,q2,_⟩ := RepR.tup_ ry; cases ru; obtain ⟨_,_,p,_⟩ := I.tuple q2; exact .int_tuple _ _ p hu0
      | lst q => cases h; obtain ⟨_,_,rfl,q2,_⟩ := RepR.lst_ ry; cases ru; obtain ⟨_,_,p,_⟩ := I.list q2; exact .int_list _ _ p.isList hu0
      | ob _ _ _ => cases h
      | dct _ _ => cases h
      | exc _ => cases h
    | str p =>
      cases RepR.str_ rx; obtain ⟨t0,rfl⟩ := rv
      cases y with
      | non => cases h; cases RepR.non_ ry; cases ru; exact .str_none _ _
      | bl q => cases h; cases RepR.bl_ ry; cases ru; exact .str_bool _ _ _
      | int q => cases h; cases RepR.int_ ry; obtain ⟨t,rfl⟩ := ru; exact .str_int _ _ _ _
      | str q =>
        cases h; cases RepR.str_ ry; obtain ⟨t,rfl⟩ := ru
        have hs:(p == q) = (mkS p == mkS q) := by
          by_cases hh:p = q
          · subst hh; simp
          · rw [beq_eq_false_iff_ne.mpr hh,beq_eq_false_iff_ne.mpr fun e => hh (mkS_inj e)]
        rw [hs]
        exact .str_str _ _ _ _
      | tup q => cases h; obtain ⟨_,_,rfl,q2,_⟩ := RepR.tup_ ry; cases ru; obtain ⟨_,_,p,_⟩ := I.tuple q2; exact .str_tuple _ _ p hu0
      | lst q => cases h; obtain ⟨_,_,rfl,q2,_⟩ := RepR.lst_ ry; cases ru; obtain ⟨_,_,p,_⟩ := I.list q2; exact .str_list _ _ p.isList hu0
      | ob _ _ _ => cases h
      | dct _ _ => cases h
      | exc _ => cases h
    | tup p =>
      obtain ⟨a1,xs1,rfl,q1,r1⟩ := RepR.tup_ rx
      cases rv
      obtain ⟨us1,v1,p1,_⟩ := I.tuple q1
      cases y with
      | non => cases h; cases RepR.non_ ry; cases ru; exact .tuple_none p1 hu0
      | bl q => cases h; cases RepR.bl_ ry; cases ru; exact .tuple_bool _ p1 hu0
      | int q => cases h; cases RepR.int_ ry; obtain ⟨t,rfl⟩ := ru; exact .tuple_int _ _ p1 hu0
      | str q => cases h; cases RepR.str_ ry; obtain ⟨t,rfl⟩ := ru; exact .tuple_str _ _ p1 hu0
      | tup q =>
        obtain ⟨a2,xs2,rfl,q2,r2⟩ := RepR.tup_ ry
        cases ru
        obtain ⟨us2,v2,p2,_⟩ := I.tuple q2
        dsimp only at h
        cases e1:eqZ (eqN n) p q with
        | none => rw [e1] at h; cases h
        | some r =>
          rw [e1] at h; cases h
          obtain ⟨e,g1,g2⟩ := go r1 r2 v1 v2 e1
          have hl:(p.length == q.length) = (us1.toArray.size == us2.toArray.size) := by simp only [List.size_toArray]; rw [r1.length,r2.length,v1.length,v2.length]
          rw [g2,hl]
          exact .tuples p1 p2 hu0 g1
      | lst q => cases h; obtain ⟨_,_,rfl,q2,_⟩ := RepR.lst_ ry; cases ru; obtain ⟨_,_,p,_⟩ := I.list q2; exact .tuple_list p1 p.isList hu0
      | ob _ _ _ => cases h
      | dct _ _ => cases h
      | exc _ => cases h
    | lst p =>
      obtain ⟨a1,xs1,rfl,q1,r1⟩ := RepR.lst_ rx
      cases rv
      obtain ⟨us1,v1,p1,_⟩ := I.list q1
      cases y with
      | non => cases h; cases RepR.non_ ry; cases ru; exact .list_none p1.isList hu0
      | bl q => cases h; cases RepR.bl_ ry; cases ru; exact .list_bool _ p1.isList hu0
      | int q => cases h; cases RepR.int_ ry; obtain ⟨t,rfl⟩ := ru; exact .list_int _ _ p1.isList hu0
      | str q => cases h; cases RepR.str_ ry; obtain ⟨t,rfl⟩ := ru; exact .list_str _ _ p1.isList hu0
      | tup q => cases h; obtain ⟨_,_,rfl,q2,_⟩ := RepR.tup_ ry; cases ru; obtain ⟨_,_,p,_⟩ := I.tuple q2; exact .list_tuple p1.isList p hu0
      | lst q =>
        obtain ⟨a2,xs2,rfl,q2,r2⟩ := RepR.lst_ ry
        cases ru
        obtain ⟨us2,v2,p2,_⟩ := I.list q2
        dsimp only at h
        have hl1:p.length = us1.toArray.size := by simp only [List.size_toArray]; rw [r1.length,v1.length]
        have hl2:q.length = us2.toArray.size := by simp only [List.size_toArray]; rw [r2.length,v2.length]
        by_cases hl:p.length = q.length
        · rw [if_pos hl] at h
          obtain ⟨e,g1,g2⟩ := go r1 r2 v1 v2 h
          have hm:min us1.toArray.size us2.toArray.size = us1.toArray.size := by omega
          rw [g2,hm]
          exact .lists p1.isList p2.isList (by omega) hu0 g1
        · rw [if_neg hl] at h; cases h
          exact .lists_lengths p1.isList p2.isList (by rw [← hl1, ← hl2]; simpa using hl) hu0
      | ob _ _ _ => cases h
      | dct _ _ => cases h
      | exc _ => cases h
    | ob _ _ _ => cases y <;> cases h
    | dct _ _ => cases y <;> cases h
    | exc _ => cases y <;> cases h
noncomputable def rEqD (T:Tx) (neg:Bool):R2 := fun v u H Q => ∃ A x y b,RepR T A H x v ∧ RepR T A H y u ∧ eqN 100 x y = some b ∧ Q (.bl (if neg then !b else b)) H
theorem op_eqD {k:Nat} (hr:Room k X.A):OpR X (compareOp .Eq) (rEqD (tx X c) false) := by
  intro pins s σ H x y v u Q I rx ry h
  obtain ⟨A,dx,dy,b,r1,r2,e,q⟩ := h
  exact rc_of I 100 r1 r2 rx ry e (by have := hr.un; omega) _ _ _ _ ⟨.bl b,H,I,rfl,q⟩
theorem op_neD {k:Nat} (hr:Room k X.A):OpR X (compareOp .NotEq) (rEqD (tx X c) true) := by
  intro pins s σ H x y v u Q I rx ry h
  obtain ⟨A,dx,dy,b,r1,r2,e,q⟩ := h
  exact rcne_of I 100 r1 r2 rx ry e (by have := hr.un; omega) _ _ _ _ ⟨.bl (!b),H,I,rfl,q⟩
theorem snd_eq {T:Tx} (neg:Bool) (A:Addr → Prop) (H0 H:Hp) (x y:D) (v u:V) (d:D) (Q:VK) (nw:Nw A H) (rx:kR T A H0 H x v) (ry:kR T A H0 H y u) (e:eqF neg x y = some d)
    (k : ∀ w H',Same H H' → kD T A H H' d w → Q w H'):rEqD T neg v u H Q := by
  unfold eqF at e
  cases e1:eqN 100 x y with
  | none => rw [e1] at e; cases e
  | some b => rw [e1] at e; cases e; exact ⟨A,x,y,b,rx,ry,e1,k _ H (Same.refl _) (Rep.bl _)⟩
variable {a b e:Expr} {f g:FE} {pos:Pos}
theorem pd_eq {k:Nat} (hr:Room k X.A) (ha:PR X c a f) (hb:PR X c b g):PD X c (.Compare a [.Eq] [b] pos) (fp2 (eqF false) f g) := pd_cmp (op_eqD hr) (snd_eq false) ha hb (nomark _)
theorem pdt_eq {k:Nat} (hr:Room k X.A) (ha:PR X c a f) (hb:PR X c b g):PDT X c (.Compare a [.Eq] [b] pos) (ftB (fp2 (eqF false) f g)) := pdt_cmp (op_eqD hr) (snd_eq false) ha hb (nomark _)
theorem pd_ne {k:Nat} (hr:Room k X.A) (ha:PR X c a f) (hb:PR X c b g):PD X c (.Compare a [.NotEq] [b] pos) (fp2 (eqF true) f g) := pd_cmp (op_neD hr) (snd_eq true) ha hb (nomark _)
theorem pdt_ne {k:Nat} (hr:Room k X.A) (ha:PR X c a f) (hb:PR X c b g):PDT X c (.Compare a [.NotEq] [b] pos) (ftB (fp2 (eqF true) f g)) := pdt_cmp (op_neD hr) (snd_eq true) ha hb (nomark _)
theorem snd_isN {T:Tx} (neg:Bool) (A:Addr → Prop) (H0 H:Hp) (x:D) (v:V) (d:D) (Q:VK) (nw:Nw A H) (rx:kR T A H0 H x v) (e:isNon neg x = some d) (k : ∀ w H',Same H H' → kD T A H H' d w → Q w H') :
    Q (.bl (if neg then !decide (v = .non) else decide (v = .non))) H := by
  have hv : ∃ b,(if neg then !decide (v = V.non) else decide (v = V.non)) = b ∧ d = .bl b := by
    cases x with
    | non => cases e; cases RepR.non_ rx; cases neg <;> exact ⟨_,rfl,by simp⟩
    | bl q => cases e; cases RepR.bl_ rx; cases neg <;> exact ⟨_,rfl,by simp⟩
    | int q => cases e; cases RepR.int_ rx; cases neg <;> exact ⟨_,rfl,by simp⟩
    | str q => cases e; cases RepR.str_ rx; cases neg <;> exact ⟨_,rfl,by simp⟩
    | tup q => cases e; obtain ⟨_,_,rfl,_⟩ := RepR.tup_ rx; cases neg <;> exact ⟨_,rfl,by simp⟩
    | lst q => cases e; obtain ⟨_,_,rfl,_⟩ := RepR.lst_ rx; cases neg <;> exact ⟨_,rfl,by simp⟩
    | ob _ _ _ => cases e; obtain ⟨_,_,_,_,rfl,_⟩ := Rep.ob_ (show Rep T A H (.ob _ _ _) _ from rx); cases neg <;> exact ⟨_,rfl,by simp⟩
    | dct _ _ => cases e; obtain ⟨_,_,rfl,_⟩ := Rep.dct_ (show Rep T A H (.dct _ _) _ from rx); cases neg <;> exact ⟨_,rfl,by simp⟩
    | exc _ => cases e; obtain ⟨_,_,rfl,_⟩ := Rep.exc_ (show Rep T A H (.exc _) _ from rx); cases neg <;> exact ⟨_,rfl,by simp⟩
  obtain ⟨b,h1,rfl⟩ := hv
  rw [h1]
  exact k _ H (Same.refl _) (Rep.bl _)
variable {j:Nat} {p2:Pos}
theorem tB_of {t:TE} {T:Tx} {f:FE} (h : ∀ σ H Q,tP T (kD T) f σ H Q → t σ H Q) {σ:L2.St} {H:Hp} {Q:Bool → Hp → Prop} (q:tP T kB (ftB f) σ H Q):tB t σ H Q := h _ _ _ (tP_test q)
theorem tP_isN {T:Tx} {neg:Bool} {σ:L2.St} {H:Hp} {Q:VK} (h:tP T (kD T) (fp1 (isNon neg) f) σ H Q):tP T (kR T) f σ H fun x H1 => Q (.bl (if neg then !decide (x = .non) else decide (x = .non))) H1 :=
  tP_1 (ρ := kR T) (γ3 := V) (r := fun x H1 (Q:VK) => Q (.bl (if neg then !decide (x = .non) else decide (x = .non))) H1) (snd_isN neg) h
theorem pdt_isN (ha:PR X c a f):PDT X c (.Compare a [.Is] [.Constant .none j p2] pos) (ftB (fp1 (isNon false) f)) := PT.imp (pt_cmp (pc_isN ha)) fun _ _ _ h => tB_of (fun _ _ _ h => tP_isN (neg := false) h) h
theorem pd_isnotN (ha:PR X c a f):PD X c (.Compare a [.IsNot] [.Constant .none j p2] pos) (fp1 (isNon true) f) := PE.imp (pe_cmp (pc_notN ha)) fun _ _ _ h => tP_isN (neg := true) h
theorem pdt_isnotN (ha:PR X c a f):PDT X c (.Compare a [.IsNot] [.Constant .none j p2] pos) (ftB (fp1 (isNon true) f)) := PT.imp (pt_cmp (pc_notN ha)) fun _ _ _ h => tB_of (fun _ _ _ h => tP_isN (neg := true) h) h
end
end DL
end
section
set_option Elab.async false
set_option linter.all false
set_option maxRecDepth 100000
namespace DL
open PySem PySem.Spec PyProof.Rows L2
theorem clip_some (i:Int) (n:Nat):max 0 (min (if i < 0 then i + (n:Int) else i) n) = (((if i < 0 then (i + (n:Int)).toNat else min i.toNat n):Nat):Int) := by
  by_cases h:i < 0
  · simp only [if_pos h]; omega
  · simp only [if_neg h]; omega
theorem indices_eq (lo hi:Option Int) (n:Nat):Builtin.Str.strSliceIndices lo hi 1 n = (List.range (HT.sIx n n hi - HT.sIx n 0 lo)).map fun k => HT.sIx n 0 lo + k := by
  unfold Builtin.Str.strSliceIndices
  have hlo:((match lo with | none => (0:Int) | some i => max 0 (min (if i < 0 then i + (n:Int) else i) n)):Int) = ((HT.sIx n 0 lo:Nat):Int) := by
    cases lo with
    | none => rfl
    | some i => exact clip_some i n
  have hhi:((match hi with | none => (n:Int) | some i => max 0 (min (if i < 0 then i + (n:Int) else i) n)):Int) = ((HT.sIx n n hi:Nat):Int) := by
    cases hi with
    | none => rfl
    | some i => exact clip_some i n
  have h1:(1:Int) > 0 := by decide
  simp only [h1,if_true]
  have go : ∀ {a b a' b':Int},a = a' → b = b' → sliceRange a b 1 = sliceRange a' b' 1 := fun h1 h2 => by rw [h1,h2]
  refine Eq.trans (go hlo hhi) ?_
  unfold sliceRange
  simp only [h1,if_true,Int.ediv_one,Int.one_mul]
  have hc:(if ((HT.sIx n 0 lo:Nat):Int) < ((HT.sIx n n hi:Nat):Int) then ((HT.sIx n n hi:Nat):Int) - ((HT.sIx n 0 lo:Nat):Int) + 1 - 1 else 0).toNat = HT.sIx n n hi - HT.sIx n 0 lo := by
    split <;> omega
  rw [hc]
  apply List.map_congr_left
  intro k _
  omega
theorem pick_list (z:List Nat) (i k:Nat):((List.range k).map fun j => i + j).filterMap (fun x => z.toArray[x]?) = (z.drop i).take k := by
  induction k with
  | zero => simp
  | succ k ih =>
    rw [List.range_succ,List.map_append,List.filterMap_append,ih,List.take_add_one]
    congr 1
    rw [List.getElem?_drop]
    cases h:z[i + k]? with
    | none => simp [h]
    | some v => simp [h]
theorem slice_cut (z:List Nat) (lo hi:Option Int):Txt.slice (mkS z) lo hi = mkS (cutD z lo hi) := by
  unfold Txt.slice cutD
  rw [mkS_len,indices_eq]
  have e:(List.map (fun k => HT.sIx z.length 0 lo + k) (List.range (HT.sIx z.length z.length hi - HT.sIx z.length 0 lo))).filterMap (fun x => (mkS z).cps[x]?) = (z.drop (HT.sIx z.length 0 lo)).take (HT.sIx z.length z.length hi - HT.sIx z.length 0 lo) := pick_list z _ _
  by_cases c:((1:Int) == 1 && (List.map (fun k => HT.sIx z.length 0 lo + k) (List.range (HT.sIx z.length z.length hi - HT.sIx z.length 0 lo))).length == z.length) = true
  · rw [if_pos c]
    have h:HT.sIx z.length z.length hi - HT.sIx z.length 0 lo = z.length := by simpa using c
    have hle := HT.sIx_le z.length z.length (Nat.le_refl _) hi
    have h0:HT.sIx z.length 0 lo = 0 ∨ z = [] := by
      by_cases hz:z.length = 0
      · exact .inr (List.length_eq_zero_iff.mp hz)
      · exact .inl (by omega)
    rcases h0 with h0 | h0
    · rw [h0] at h ⊢
      rw [h,List.drop_zero,List.take_of_length_le (Nat.le_refl _)]
    · subst h0; simp
  · rw [if_neg c,e]
section
variable {X:Cx} {c:Ct} {xq:XQ} {a b e:Expr} {f g:FE} {pos:Pos}
theorem sl_str:SlR X rSlS := by
  intro pins s σ H x v vl vu lo hi sl Q I rx hs pl pu h
  obtain ⟨z,rfl,hz,q⟩ := h
  obtain ⟨t,rfl⟩ := rx
  have hz':(mkS z).length ≤ sizeLine := small (by rw [mkS_len]; exact hz)
  refine ⟨"str",_,PySem.F.slot_str_getitem.lookup,typeIs_str _ _ _, ?_⟩
  rw [← slice_cut] at q
  cases pl with
  | none =>
    cases pu with
    | none => exact wpAny_getItem_str_slice (l := none) (u := none) (st := none) hs rfl (post_val_or_str ⟨Nat.le_trans (Txt.slice_le _ _ _) hz',fun t' k => ⟨.str _,H,I.tok _,⟨_,rfl⟩,q⟩⟩)
    | int j uj => exact wpAny_getItem_str_slice (l := none) (u := some (j,uj)) (st := none) hs rfl (post_val_or_str ⟨Nat.le_trans (Txt.slice_le _ _ _) hz',fun t' k => ⟨.str _,H,I.tok _,⟨_,rfl⟩,q⟩⟩)
  | int i ui =>
    cases pu with
    | none => exact wpAny_getItem_str_slice (l := some (i,ui)) (u := none) (st := none) hs rfl (post_val_or_str ⟨Nat.le_trans (Txt.slice_le _ _ _) hz',fun t' k => ⟨.str _,H,I.tok _,⟨_,rfl⟩,q⟩⟩)
    | int j uj => exact wpAny_getItem_str_slice (l := some (i,ui)) (u := some (j,uj)) (st := none) hs rfl (post_val_or_str ⟨Nat.le_trans (Txt.slice_le _ _ _) hz',fun t' k => ⟨.str _,H,I.tok _,⟨_,rfl⟩,q⟩⟩)
theorem sl_D:SlR X (rSlD X.K) := sl_list.or (sl_tup.or sl_str)
theorem pd_sl {lo hi:Option Expr} {fl fh:FO} {p2:Pos} (ha:PR X c a f) (hl:PDO X c lo fl) (hh:PDO X c hi fh):PD X c (.Subscript a (.Slice lo hi none p2) pos) (feSl slD f fl fh) := PE.imp (pe_slice sl_D ha hl hh) fun _ _ _ h => tP_slG snd_sl h
structure DefX (X:Cx) (N:List Str) (sc:Scope):Prop where
  hN:X.N = N
  hsc:X.env.scope = sc
  calm:X.calm = true
  nd:N.Nodup
structure DefY (X:Cx) (N:List Str) (sc:Scope):Prop extends DefX X N sc where
  fn : ∀ x,X.fn x = true
  never:PassesOwn (model X.prog X.w) X.A X.env X.xe
section
variable {N:List Str} {sc:Scope}
theorem DefX.nm (d:DefX X N sc) {i:Nat} {x:Str} (h:N[i]? = some x) (hv:Vis sc x) (hd:(x == ("__debug__":Str)) = false := by decide +kernel) (hc:(x == ("__classdict__":Str)) = false := by decide +kernel):Nm X i x := ⟨by rw [d.hN]; exact h,by rw [d.hsc]; exact hv,hd,hc⟩
theorem DefX.gl (d:DefX X N sc) {x:Str} (h:sc.names.lookup x = some .globalImplicit):Gl X x := by
  show X.env.scope.names.lookup x = _
  rw [d.hsc]; exact h
theorem DefX.nlc (d:DefX X N sc) {i:Nat} {x:Str} (h:N[i]? = some x) (hl:sc.names.lookup x = some .local):Nl X i x := ⟨by rw [d.hN]; exact d.nd,by rw [d.hN]; exact h,by rw [d.hsc]; exact .inl hl,by rw [d.hsc]; exact .inr hl⟩
theorem DefY.nl (d:DefY X N sc) {i:Nat} {x:Str} (h:N[i]? = some x) (hl:Loc sc x):Nl X i x := ⟨by rw [d.hN]; exact d.nd,by rw [d.hN]; exact h,by rw [d.hsc]; exact hl,.inl (d.fn x)⟩
end
noncomputable def relS (scope sc:Scope):Scope := { scope with names := scope.names.map fun (n,k) => if (k == NameKind.free && sc.kind == .function && sc.names.lookup n == some .cell) then (n,NameKind.cell) else (n,k) }
theorem DefX.comp {N:List Str} {sc scope:Scope} {N':List Str} {cl:List (Str × Addr)} {C:Addr} {s2:Shared} {H2:Hp} {fp:List Addr} (d:DefX X N sc) (hN':N'.Nodup):DefX (compCx X scope cl N' C s2 H2 fp) N' (relS scope sc) := by
  refine ⟨rfl, ?_,d.calm,hN'⟩
  show (compEnvC scope cl C X.env).scope = _
  rw [← d.hsc]
  rfl
theorem pdi_nil:PIfs X [] (tP (tx X c) kB ftYes) := PIfs.imp pifs_nil fun σ H Q h => by
  obtain ⟨W,O,env,b,E,e,q⟩ := h
  cases e
  exact q _ H (Same.refl _) rfl
theorem pdi_one {t:FT} (h:PDT X c e t):PIfs X [e] (tP (tx X c) kB t) := pifs_one h
variable {x:Str} {px:Pos} {iter elt tg:Expr} {ifs:List Expr} {scope sc:Scope} {N N':List Str} {nt:Nat} {cap:List Nat} {fi fe:FE} {ft:FT} {tgf:FG} {gt:TG}
theorem pf_comp (d:DefX X N sc) (chk:CompChk sc scope N N' nt cap) (hcap:cap.Nodup) (hN':N'.Nodup) (hi:PR X c iter fi)
    (hg : ∀ cl C s2 H2 fp,DefX (compCx X scope cl N' C s2 H2 fp) N' (relS scope sc) → PG (compCx X scope cl N' C s2 H2 fp) tg gt) (hge:GExt nt gt) (sg:SndG (tx X c) tgf gt)
    (ht : ∀ cl C s2 H2 fp,DefX (compCx X scope cl N' C s2 H2 fp) N' (relS scope sc) → PIfs (compCx X scope cl N' C s2 H2 fp) ifs (tP (tx X c) kB ft))
    (he : ∀ cl C s2 H2 fp,DefX (compCx X scope cl N' C s2 H2 fp) N' (relS scope sc) → PE (compCx X scope cl N' C s2 H2 fp) elt (tP (tx X c) (kD (tx X c)) fe))
    (hs:noSet iter = true := by rfl):PF X c (.ListComp elt [⟨tg,iter,ifs,0⟩] scope pos) (ffComp nt cap tgf fi ft fe) :=
  PE.imp (pe_comp (tt := tP (tx X c) kB ft) (te := tP (tx X c) (kD (tx X c)) fe) d.hsc d.hN chk d.calm (pi_seq hi) (fun cl C s2 H2 fp => hg cl C s2 H2 fp (d.comp hN')) hge (fun cl C s2 H2 fp => ht cl C s2 H2 fp (d.comp hN')) (fun cl C s2 H2 fp => he cl C s2 H2 fp (d.comp hN')) (folded_no hs)) fun _ _ _ h => tP_comp sg hcap h
theorem pf_comp1 {p p2:Pos} {fs:FA} (d:DefX X N sc) (chk:CompChk sc scope N N' nt cap) (hcap:cap.Nodup) (hN':N'.Nodup) (hgr:Gl X "range") (hm:X.mg "range" = none) (ha:PDA X c [a] fs)
    (hg : ∀ cl C s2 H2 fp,DefX (compCx X scope cl N' C s2 H2 fp) N' (relS scope sc) → PG (compCx X scope cl N' C s2 H2 fp) tg gt) (hge:GExt nt gt) (sg:SndG (tx X c) tgf gt)
    (ht : ∀ cl C s2 H2 fp,DefX (compCx X scope cl N' C s2 H2 fp) N' (relS scope sc) → PIfs (compCx X scope cl N' C s2 H2 fp) ifs (tP (tx X c) kB ft))
    (he : ∀ cl C s2 H2 fp,DefX (compCx X scope cl N' C s2 H2 fp) N' (relS scope sc) → PE (compCx X scope cl N' C s2 H2 fp) elt (tP (tx X c) (kD (tx X c)) fe)) (hst:isStar a = false := by rfl)
   :PF X c (.ListComp elt [⟨tg,.Call (.Name "range" p) [a] [] p2,ifs,0⟩] scope pos) (ffCompR rng1 nt cap tgf fs ft fe) :=
  PE.imp (pe_comp (tt := tP (tx X c) kB ft) (te := tP (tx X c) (kD (tx X c)) fe) d.hsc d.hN chk d.calm (pi_range1 hgr hm ha (star_one hst)) (fun cl C s2 H2 fp => hg cl C s2 H2 fp (d.comp hN')) hge (fun cl C s2 H2 fp => ht cl C s2 H2 fp (d.comp hN')) (fun cl C s2 H2 fp => he cl C s2 H2 fp (d.comp hN')) (folded_no rfl)) fun _ _ _ h => tP_comp1 sg hcap h
end
section
variable {P:Program} {w:World} {K:PySem.W.Frag} {mg:Str → Option Value} {base:Heap} {c:Ct}
structure BodyOk (P:Program) (w:World) (K:PySem.W.Frag) (mg:Str → Option Value) (base:Heap) (c:Ct) (N:List Str) (st:Stmt) (k:Nat) (F:FS):Prop where
  ok : ∀ X:Cx,X.prog = P → X.w = w → X.K = K → X.mg = mg → X.base = base → DefY X N (defScope st) → Room k X.A → PDSs X c (fun _ _ _ => False) (defBody st) F
theorem def_of {x qual:Str} {st:Stmt} {fa:Addr} {fd:FuncData} {N ps:List Str} {k:Nat} {F:FS} (Fn:Fun K x qual st fa fd) (S:FnScope N ps (defScope st)) (hm:mg x = some (.ref fa)) (hb:Binds K fd ps [])
    (body:BodyOk P w K mg base c N st k F):Def P w K mg base c x ps (k + 1) (bodyF N.length F) := by
  refine ⟨fa,fd, ?_,hm,Fn.kp,hb⟩
  refine Fn.ok S (fun vs H Q E h => h.1) fun cdv A outer s H vs Q E hr h => ⟨_,body.ok _ rfl rfl rfl rfl rfl ⟨⟨rfl,rfl,rfl,S.nd⟩,fun _ => rfl,PassesOwn.never⟩ hr, ?_⟩
  exact body_ok (E0 := E) h
theorem def_ofF {x qual:Str} {st:Stmt} {fa:Addr} {fd:FuncData} {N ps:List Str} {k:Nat} {F:FS} (Fn:Fun K x qual st fa fd) (S:FnScope N ps (defScope st)) (hm:mg x = some (.ref fa)) (hb:Binds K fd ps [])
    (body:BodyOk P w K mg base c N st k F):DefF P w K mg base c x ps (k + 1) (bodyFF N.length F) := by
  refine ⟨fa,fd, ?_,hm,Fn.kp,hb⟩
  refine Fn.ok S (fun vs H Q E h => h.1) fun cdv A outer s H vs Q E hr h => ⟨_,body.ok _ rfl rfl rfl rfl rfl ⟨⟨rfl,rfl,rfl,S.nd⟩,fun _ => rfl,PassesOwn.never⟩ hr, ?_⟩
  exact body_okF (E0 := E) h
theorem def_none {x qual:Str} {st:Stmt} {fa:Addr} {fd:FuncData} {ps:List Str} {k:Nat} (Fn:Fun K x qual st fa fd) (hm:mg x = some (.ref fa)) (hb:Binds K fd ps []):Def P w K mg base c x ps k (fun _ => none) :=
  ⟨fa,fd,⟨fun vs H Q E h => (by obtain ⟨_,_,_,_,_,_,h,_⟩ := h; cases h),fun A outer s H args us vs Q E _ _ _ _ h => (by obtain ⟨_,_,_,_,_,_,h,_⟩ := h; cases h)⟩,hm,Fn.kp,hb⟩
end
end DL
end
section
set_option Elab.async false
set_option linter.all false
set_option maxRecDepth 100000
namespace DL
open PySem PySem.Spec PyProof.Rows L2
section
variable {P:Program} {w:World} {K:PySem.W.Frag} {mg:Str → Option Value} {base:Heap} {c:Ct}
theorem fn_of {x qual:Str} {st:Stmt} {fa:Addr} {fd:FuncData} {N ps:List Str} {k:Nat} {F:FS} (Fn:Fun K x qual st fa fd) (S:FnScope N ps (defScope st))
    (body:BodyOk P w K mg base c N st k F):FnOk P w K mg base CX0 (k + 1) fa fd ps (spD ⟨K,c.cl,c.fld⟩ ps.length (bodyF N.length F)) := by
  refine Fn.ok S (fun vs H Q E h => h.1) fun cdv A outer s H vs Q E hr h => ⟨_,body.ok _ rfl rfl rfl rfl rfl ⟨⟨rfl,rfl,rfl,S.nd⟩,fun _ => rfl,PassesOwn.never⟩ hr, ?_⟩
  exact body_ok (E0 := E) h
noncomputable def cOk:D → Value → Bool
  | .str x,.str y _ => mkS x == y
  | .int i,.int j _ => i == j
  | _,_ => false
noncomputable def csOk:List D → List Value → Bool
  | [],[] => true
  | d :: ds,v :: vs => cOk d v && csOk ds vs
  | _,_ => false
theorem cOk_rep {T:Tx} {d:D} {u:Value} (h:cOk d u = true) : ∃ v,RelV v u ∧ ∀ A H,Rep T A H d v := by
  unfold cOk at h
  split at h
  · next x y t => exact ⟨.str y,⟨t,rfl⟩,fun A H => by rw [← eq_of_beq h]; exact .str _⟩
  · next i j t => exact ⟨.int j,⟨t,rfl⟩,fun A H => by rw [← eq_of_beq h]; exact .int _⟩
  · cases h
theorem csOk_rep {T:Tx} : ∀ {ds:List D} {us:List Value},csOk ds us = true → ∃ vs,Vals vs us ∧ ∀ A H,RepL T A H ds vs
  | [],[],_ => ⟨[],.nil,fun A H => .nil⟩
  | d :: ds,v :: vs,h => by
    unfold csOk at h
    rw [Bool.and_eq_true] at h
    obtain ⟨x,r,e⟩ := cOk_rep (T := T) h.1
    obtain ⟨xs,rs,es⟩ := csOk_rep (T := T) h.2
    exact ⟨x :: xs,.cons r rs,fun A H => .cons (e A H) (es A H)⟩
  | [],_ :: _,h => by cases h
  | _ :: _,[],h => by cases h
noncomputable def tupOk (ds:List D) (o:Obj):Bool := match o.cls,o.data with
  | .type n,.seq its _ => n == "tuple" && decide (its.size ≤ sizeLine) && csOk ds its.toList
  | _,_ => false
theorem const_tup {x:Str} {a:Addr} {o:Obj} {ds:List D} (hm:mg x = some (.ref a)) (hl:K.lookup a = some o) (hc:tupOk ds o = true) : ∃ v u,mg x = some u ∧ RelV v u ∧ ∀ A H,Rep ⟨K,c.cl,c.fld⟩ A H (.tup ds) v := by
  refine ⟨.ref a,.ref a,hm,rfl,fun A H => ?_⟩
  unfold tupOk at hc
  split at hc
  · next n its m e1 e2 =>
    rw [Bool.and_eq_true,Bool.and_eq_true] at hc
    obtain ⟨vs,h1,h2⟩ := csOk_rep (T := ⟨K,c.cl,c.fld⟩) hc.2
    have e3:n = "tuple" := eq_of_beq hc.1.1
    exact .tup (.inr ⟨o,its,m,hl,by rw [e1,e3],e2,of_decide_eq_true hc.1.2,h1⟩) (h2 A H)
  · cases hc
theorem const_flat {x:Str} {u:Value} {d:D} (hm:mg x = some u) (hc:cOk d u = true) : ∃ v u,mg x = some u ∧ RelV v u ∧ ∀ A H,Rep ⟨K,c.cl,c.fld⟩ A H d v := by
  obtain ⟨v,r,e⟩ := cOk_rep (T := ⟨K,c.cl,c.fld⟩) hc
  exact ⟨v,u,hm,r,e⟩
theorem tab_of {x:Str} {a:Addr} {tb:List (List Nat × Int)} (hm:mg x = some (.ref a)) (e:KTD.tabLook KTD.flatLooks (fun b => K.lookup b) a (tb.map fun p => (mkS p.1,PyData.int p.2)) = true) (n:((tb.map fun p => (mkS p.1,PyData.int p.2)).map (·.1)).Nodup)
    (q:KTD.hashesOf (fun b => K.lookup b) a = (tb.map fun p => (mkS p.1,PyData.int p.2)).map fun p => (PySem.strKind P w).hash p.1) : ∃ a,mg x = some (.ref a) ∧ ∀ h,K.In h → StrTab P w h a (PySem.W.kdpD (tb.map fun p => (mkS p.1,p.2))) := by
  refine ⟨a,hm,fun h k => ?_⟩
  have t := PySem.W.kt_tab_in P w k e n q
  have hh:(tb.map fun p => (mkS p.1,PyData.int p.2)).map (fun p => (PyData.str p.1,p.2)) = PySem.W.kdpD (tb.map fun p => (mkS p.1,p.2)) := by
    unfold PySem.W.kdpD
    rw [List.map_map,List.map_map]
    rfl
  rw [hh] at t
  exact t
end
theorem ints_rep {T:Tx} {A:Addr → Prop} {H:Hp} : ∀ ns:List Int,RepL T A H (ns.map D.int) (ns.map V.int)
  | [] => .nil
  | n :: ns => .cons (.int n) (ints_rep ns)
end DL
end
section
set_option Elab.async false
set_option linter.all false
set_option maxRecDepth 100000
namespace DL
open PySem PySem.Spec PyProof.Rows L2
noncomputable def appG (ds:List D):List D → Option (List D)
  | [x] => if ds.length < 1000000 then some (ds ++ [x]) else none
  | _ => none
noncomputable def fsAppend (i:Nat) (f:FE):FS := fsMutG i appG (faCons f faNil)
section
variable {X:Cx} {c:Ct} {xq:XQ} {e:Expr} {f:FE} {pos:Pos}
theorem snd_append {T:Tx} (A:Addr → Prop) (H:Hp) (a:Addr) (ds:List D) (xs:List V) (x:List D) (y:List V) (ds':List D) (Q:VK) (hl:H a = some (.lst xs)) (r:RepL T A H ds xs) (_ : ∀ b,A b → b ≠ a) (ra:kA T A H H x y) (e:appG ds x = some ds')
    (k : ∀ ys,(∀ A' H',(∀ d v,Rep T A H d v → Rep T A' H' d v) → (∀ d v,RepL T A H d v → RepL T A' H' d v) → RepL T A' H' ds' ys) → ∀ w,Q w (upd H a (.lst ys))):rAppend (.ref a) y H Q := by
  unfold appG at e
  split at e
  · next d =>
    split at e
    · next hz =>
      cases e
      obtain ⟨v,r1,rfl,h1,h2⟩ := RepL.cons_ ra
      have h3 := h2.nil_
      subst h3
      refine ⟨a,xs,v,rfl,rfl,hl, ?_,k _ (fun A' H' g gl => ?_) _⟩
      · rw [← r.length]; exact Nat.lt_of_lt_of_le hz (by decide)
      · exact (gl _ _ r).append (.cons (g _ _ h1) .nil)
    · cases e
  · cases e
theorem pds_append {i:Nat} {x:Str} {p1 p2 p3:Pos} (n:Nm X i x) (he:PD X c e f) (hs:isStar e = false := by rfl) (hl:(p2.endLine == p3.line) = true := by rfl) :
    PDS X c xq (.Expr (.Call (.Attribute (.Name x p1) "append" p2) [e] [] p3) pos) (fsAppend i f) := by
  refine PS.imp (ps_expr (pe_bm PySem.F.plainAttrs_list PySem.F.slot_list_append PySem.F.type_list_append mt_append (pe_var n.hN n.hv n.hd n.hc) (pda_cons he pda_nil hs) rfl (by rw [star_one hs]; rfl) hl (star_cons hs) rfl) (swaps_no rfl)) fun De σ H h => ?_
  obtain ⟨v,h1,⟨xs,_,a,rfl,ha⟩,h3⟩ := tDs_mut (tf := tP (tx X c) (kA (tx X c)) (faCons f faNil)) (fun Q h => h) snd_append (fun _ _ _ _ _ h => h) h
  obtain ⟨W,O,env,x,E,e1,q⟩ := h3
  exact ⟨.ref a,h1,.inl ⟨rfl,xs,SqL.of ha⟩,W,O,env,x,E,e1,fun v H' s r => (q v H' s r).2⟩
end
end DL
end
section
set_option Elab.async false
set_option linter.all false
set_option maxRecDepth 100000
namespace DL
open PySem PySem.Spec PyProof.Rows L2
section
variable {X:Cx} {c:Ct} {xq:XQ} {e elt a b iter tg:Expr} {pos:Pos} {gens:List Comprehension} {ifs:List Expr} {scope sc:Scope} {N N':List Str} {nt:Nat} {cap:List Nat} {fi fe:FE} {ft:FT} {tgf:FG} {gt:TG}
noncomputable def PFc (X:Cx) (c:Ct) (e:Expr) (ff:FP (List D)):Prop := PF X c e ff ∧ ∀ (i:Nat) (x:Str) (pos' spos:Pos),Nl X i x → swapsWith e (some (.Name x pos')) spos.line X.env = pure true → PS X (.Assign [.Name x pos'] e spos) (tAsg (tP (tx X c) (kF (tx X c)) ff) (gName i))
theorem swaps_yes {x:Str} {pos':Pos} {l:Nat} (d:DefX X N sc) (h:(sc.kind == .function && sc.names.lookup x == some .local && pos'.line == pos.line && !(scope.names.any fun (n,k) => n == x && (k == .local || k == .cell))) = true) :
    swapsWith (.ListComp elt gens scope pos) (some (.Name x pos')) l X.env = pure true := by
  rw [← d.hsc] at h
  have hk:X.env.scope.kind = .function := by
    simp only [Bool.and_eq_true] at h
    exact eq_of_beq h.1.1.1
  have hb:X.env.blockKind = X.env.scope.kind := by
    unfold Env.blockKind
    rw [hk]
    rfl
  show (pure (X.env.blockKind == .function && X.env.kindOf x == some .local && pos'.line == pos.line && !(scope.names.any fun (n,k) => n == x && (k == .local || k == .cell))):Sem Bool) = pure true
  rw [hb]
  exact congrArg pure h
theorem pds_setc {i:Nat} {x:Str} {pos' spos:Pos} {ff:FP (List D)} (d:DefX X N sc) (n:Nl X i x) (h:PFc X c (.ListComp elt gens scope pos) ff) (hs:(sc.kind == .function && sc.names.lookup x == some .local && pos'.line == pos.line && !(scope.names.any fun (n,k) => n == x && (k == .local || k == .cell))) = true) :
    PDS X c xq (.Assign [.Name x pos'] (.ListComp elt gens scope pos) spos) (fsSet i (feFr ff)) := PS.imp (h.2 i x pos' spos n (swaps_yes d hs)) fun _ _ _ h => tP_fr (tDs_set h)
theorem pfc_comp1 {p p2:Pos} {fs:FA} (d:DefX X N sc) (chk:CompChk sc scope N N' nt cap) (hcap:cap.Nodup) (hN':N'.Nodup) (hgr:Gl X "range") (hm:X.mg "range" = none) (ha:PDA X c [a] fs)
    (hg : ∀ cl C s2 H2 fp,DefX (compCx X scope cl N' C s2 H2 fp) N' (relS scope sc) → PG (compCx X scope cl N' C s2 H2 fp) tg gt) (hge:GExt nt gt) (sg:SndG (tx X c) tgf gt)
    (ht : ∀ cl C s2 H2 fp,DefX (compCx X scope cl N' C s2 H2 fp) N' (relS scope sc) → PIfs (compCx X scope cl N' C s2 H2 fp) ifs (tP (tx X c) kB ft))
    (he : ∀ cl C s2 H2 fp,DefX (compCx X scope cl N' C s2 H2 fp) N' (relS scope sc) → PE (compCx X scope cl N' C s2 H2 fp) elt (tP (tx X c) (kD (tx X c)) fe)) (hst:isStar a = false := by rfl)
   :PFc X c (.ListComp elt [⟨tg,.Call (.Name "range" p) [a] [] p2,ifs,0⟩] scope pos) (ffCompR rng1 nt cap tgf fs ft fe) :=
  ⟨pf_comp1 d chk hcap hN' hgr hm ha hg hge sg ht he hst,fun i x pos' spos n hsw => PS.imp (ps_comp (tt := tP (tx X c) kB ft) (te := tP (tx X c) (kD (tx X c)) fe) d.hsc d.hN chk d.calm (pi_range1 hgr hm ha (star_one hst)) (fun cl C s2 H2 fp => hg cl C s2 H2 fp (d.comp hN')) hge (fun cl C s2 H2 fp => ht cl C s2 H2 fp (d.comp hN')) (fun cl C s2 H2 fp => he cl C s2 H2 fp (d.comp hN')) n.nd n.hN n.hl n.hf hsw (folded_no rfl)) fun _ _ _ h => tP_comp1 sg hcap h⟩
theorem swaps_cell {x:Str} {pos':Pos} {l:Nat} (d:DefX X N sc) (h:(sc.names.lookup x == some .local) = false):swapsWith (.ListComp elt gens scope pos) (some (.Name x pos')) l X.env = pure false := by
  rw [← d.hsc] at h
  show (pure (X.env.blockKind == .function && X.env.kindOf x == some .local && pos'.line == pos.line && !(scope.names.any fun (n,k) => n == x && (k == .local || k == .cell))):Sem Bool) = pure false
  have h':(X.env.kindOf x == some .local) = false := h
  rw [h',Bool.and_false,Bool.false_and,Bool.false_and]
theorem pds_setn {i:Nat} {x:Str} {pos' spos:Pos} {ff:FP (List D)} (d:DefX X N sc) (n:Nl X i x) (h:PF X c (.ListComp elt gens scope pos) ff) (hs:(sc.names.lookup x == some .local) = false) :
    PDS X c xq (.Assign [.Name x pos'] (.ListComp elt gens scope pos) spos) (fsSet i (feFr ff)) := PS.imp (ps_set n.nd n.hN n.hl (pd_of h) (swaps_cell d hs) n.hf) fun _ _ _ h => tDs_set h
end
end DL
end
section
set_option Elab.async false
set_option linter.all false
set_option maxRecDepth 100000
namespace DL
open PySem PySem.Spec PyProof.Rows L2
theorem turn_strA {P:Program} {w:World} {K:PySem.W.Frag} {tg:Expr} (z:List Nat) (t:Tok) (it:Addr):Turn P w K tg (Its z) [it] it (fun i h => h.IsStrIter it "str_ascii_iterator" (mkS z) t i ∧ i ≤ z.length) where
  mem := by simp
  obj := fun i h st b hb => by
    have e:b = it := by simpa using hb
    subst e
    obtain ⟨⟨o,e,c,d⟩,_⟩ := st
    exact ⟨o,e,fun v z => by rw [d] at z; cases z⟩
  keep := fun i h h' st k => ⟨let ⟨o,ho,r⟩ := st.1; ⟨o,k it (by simp) o ho,r⟩,st.2⟩
  item := by
    intro X hP hw hK hc i pins s σ H E I hf st hg
    subst hP hw hK
    have hg':i < z.length := hg
    obtain ⟨f0,f1,f2,f3,f4,f5⟩ := hf it (by simp)
    refine wpAny_pyNext_ascii_item st.1 (c := z[i]) (by simp [hg']) fun h' st' sb => ?_
    have I1:Inv X pins σ H { s with heap := h',toks := s.toks + 1 } := I.turned (t' := s.toks + 1) (fun b o hb e => (sb.2 b hb).trans e) f0 f1 f3 f4 f5
    obtain ⟨o,e,c,d⟩ := id st'
    exact ⟨_,rfl,go_of (s := { s with heap := h',toks := s.toks + 1 }) e c d (by decide) ⟨.str (mkS [z[i]]),H,I1,⟨_,rfl⟩,⟨rfl,z[i],by simp [hg'],rfl⟩,⟨st',hg'⟩,fun b hb => (hf b hb).1⟩⟩
  done := by
    intro X hP hw hK hc i pins s σ H E I hf st hg
    subst hP hw hK
    have hg':z.length ≤ i := hg
    obtain ⟨f0,f1,f2,f3,f4,f5⟩ := hf it (by simp)
    exact wpAny_pyNext_ascii_end (I.ok.hd hc) st.1 (by simp [hg']) fun h' eb => ⟨rfl,I.turned (t' := s.toks) (fun b o hb e => eb b o hb e) f0 f1 f3 f4 f5⟩
  self := fun _ _ _ _ _ st h => wpAny_pyIter_striter_ascii st.1 h
theorem turn_strW {P:Program} {w:World} {K:PySem.W.Frag} {tg:Expr} (z:List Nat) (t:Tok) (it:Addr):Turn P w K tg (Its z) [it] it (fun i h => h.IsStrIter it "str_iterator" (mkS z) t i ∧ i ≤ z.length) where
  mem := by simp
  obj := fun i h st b hb => by
    have e:b = it := by simpa using hb
    subst e
    obtain ⟨⟨o,e,c,d⟩,_⟩ := st
    exact ⟨o,e,fun v z => by rw [d] at z; cases z⟩
  keep := fun i h h' st k => ⟨let ⟨o,ho,r⟩ := st.1; ⟨o,k it (by simp) o ho,r⟩,st.2⟩
  item := by
    intro X hP hw hK hc i pins s σ H E I hf st hg
    subst hP hw hK
    have hg':i < z.length := hg
    obtain ⟨f0,f1,f2,f3,f4,f5⟩ := hf it (by simp)
    refine wpAny_pyNext_wide_item st.1 (c := z[i]) (by simp [hg']) fun h' st' sb => ?_
    have I1:Inv X pins σ H { s with heap := h',toks := s.toks + 1 } := I.turned (t' := s.toks + 1) (fun b o hb e => (sb.2 b hb).trans e) f0 f1 f3 f4 f5
    obtain ⟨o,e,c,d⟩ := id st'
    exact ⟨_,rfl,go_of (s := { s with heap := h',toks := s.toks + 1 }) e c d (by decide) ⟨.str (mkS [z[i]]),H,I1,⟨_,rfl⟩,⟨rfl,z[i],by simp [hg'],rfl⟩,⟨st',hg'⟩,fun b hb => (hf b hb).1⟩⟩
  done := by
    intro X hP hw hK hc i pins s σ H E I hf st hg
    subst hP hw hK
    have hg':z.length ≤ i := hg
    obtain ⟨f0,f1,f2,f3,f4,f5⟩ := hf it (by simp)
    exact wpAny_pyNext_wide_end (I.ok.hd hc) st.1 (by simp [hg']) fun h' eb => ⟨rfl,I.turned (t' := s.toks) (fun b o hb e => eb b o hb e) f0 f1 f3 f4 f5⟩
  self := fun _ _ _ _ _ st h => wpAny_pyIter_striter_wide st.1 h
section
variable {X:Cx} {c:Ct} {xq:XQ} {tg:Expr}
theorem pi_str {l:Expr} {tl:TE} (hl:PE X l tl):PI X tg l (iStr tl) := by
  intro pins s σ H R I h
  refine thn5 (hl pins s σ H _ I h) fun v s1 x H1 I1 r1 q1 => ?_
  obtain ⟨z,e,hz,q⟩ := q1
  subst e
  obtain ⟨t,rfl⟩ := r1
  have fp : ∀ b ∈ [s1.heap.objs.size],FpOk X pins H1 b := fun b hb => by
    have e:b = s1.heap.objs.size := by simpa using hb
    subst e
    exact I1.fpOk (Nat.le_refl _) (I1.hok.fresh (Nat.le_refl _))
  cases ha:(mkS z).cps.all (· < 128)
  · refine wpAny_pyIter_wide ha ?_
    exact ⟨s1.heap.objs.size,[s1.heap.objs.size],_,_,H1,rfl,I1.kept (t' := s1.toks) fun b o e => Heap.get?_push_of_some _ e,turn_strW z t _,⟨⟨_,Heap.get?_push_size _ rfl,rfl,rfl⟩,Nat.zero_le _⟩,fp,q⟩
  · refine wpAny_pyIter_ascii ha ?_
    exact ⟨s1.heap.objs.size,[s1.heap.objs.size],_,_,H1,rfl,I1.kept (t' := s1.toks) fun b o e => Heap.get?_push_of_some _ e,turn_strA z t _,⟨⟨_,Heap.get?_push_size _ rfl,rfl,rfl⟩,Nat.zero_le _⟩,fp,q⟩
variable {elt iter:Expr} {pos:Pos} {ifs:List Expr} {scope sc:Scope} {N N':List Str} {nt:Nat} {cap:List Nat} {fi fe:FE} {ft:FT} {tgf:FG} {gt:TG} {F:FS}
theorem pfc_compS (d:DefX X N sc) (chk:CompChk sc scope N N' nt cap) (hcap:cap.Nodup) (hN':N'.Nodup) (hi:PD X c iter fi)
    (hg : ∀ cl C s2 H2 fp,DefX (compCx X scope cl N' C s2 H2 fp) N' (relS scope sc) → PG (compCx X scope cl N' C s2 H2 fp) tg gt) (hge:GExt nt gt) (sg:SndG (tx X c) tgf gt)
    (ht : ∀ cl C s2 H2 fp,DefX (compCx X scope cl N' C s2 H2 fp) N' (relS scope sc) → PIfs (compCx X scope cl N' C s2 H2 fp) ifs (tP (tx X c) kB ft))
    (he : ∀ cl C s2 H2 fp,DefX (compCx X scope cl N' C s2 H2 fp) N' (relS scope sc) → PE (compCx X scope cl N' C s2 H2 fp) elt (tP (tx X c) (kD (tx X c)) fe))
    (hs:noSet iter = true := by rfl):PFc X c (.ListComp elt [⟨tg,iter,ifs,0⟩] scope pos) (ffCompS nt cap tgf fi ft fe) :=
  ⟨PE.imp (pe_comp (tt := tP (tx X c) kB ft) (te := tP (tx X c) (kD (tx X c)) fe) d.hsc d.hN chk d.calm (pi_str hi) (fun cl C s2 H2 fp => hg cl C s2 H2 fp (d.comp hN')) hge (fun cl C s2 H2 fp => ht cl C s2 H2 fp (d.comp hN')) (fun cl C s2 H2 fp => he cl C s2 H2 fp (d.comp hN')) (folded_no hs)) fun _ _ _ h => tP_compS sg hcap h,
   fun i x pos' spos n hsw => PS.imp (ps_comp (tt := tP (tx X c) kB ft) (te := tP (tx X c) (kD (tx X c)) fe) d.hsc d.hN chk d.calm (pi_str hi) (fun cl C s2 H2 fp => hg cl C s2 H2 fp (d.comp hN')) hge (fun cl C s2 H2 fp => ht cl C s2 H2 fp (d.comp hN')) (fun cl C s2 H2 fp => he cl C s2 H2 fp (d.comp hN')) n.nd n.hN n.hl n.hf hsw (folded_no hs)) fun _ _ _ h => tP_compS sg hcap h⟩
theorem pf_compS (d:DefX X N sc) (chk:CompChk sc scope N N' nt cap) (hcap:cap.Nodup) (hN':N'.Nodup) (hi:PD X c iter fi)
    (hg : ∀ cl C s2 H2 fp,DefX (compCx X scope cl N' C s2 H2 fp) N' (relS scope sc) → PG (compCx X scope cl N' C s2 H2 fp) tg gt) (hge:GExt nt gt) (sg:SndG (tx X c) tgf gt)
    (ht : ∀ cl C s2 H2 fp,DefX (compCx X scope cl N' C s2 H2 fp) N' (relS scope sc) → PIfs (compCx X scope cl N' C s2 H2 fp) ifs (tP (tx X c) kB ft))
    (he : ∀ cl C s2 H2 fp,DefX (compCx X scope cl N' C s2 H2 fp) N' (relS scope sc) → PE (compCx X scope cl N' C s2 H2 fp) elt (tP (tx X c) (kD (tx X c)) fe))
    (hs:noSet iter = true := by rfl):PF X c (.ListComp elt [⟨tg,iter,ifs,0⟩] scope pos) (ffCompS nt cap tgf fi ft fe) := (pfc_compS d chk hcap hN' hi hg hge sg ht he hs).1
end
end DL
end
section
set_option Elab.async false
set_option linter.all false
set_option maxRecDepth 100000
namespace DL
open PySem PySem.Spec PyProof.Rows L2
noncomputable def addA:D → D → Option D := intD fun i j => some (.int (i + j))
section
variable {X:Cx} {c:Ct} {xq:XQ} {e:Expr} {f:FE} {pos:Pos}
theorem snd_aug {T:Tx} {g:Int → Int → Int} (A:Addr → Prop) (H:Hp) (x y:D) (v u:V) (d:D) (Q:VK) (_:Nw A H) (rx:Rep T A H x v) (ry:Rep T A H y u) (e:intD (fun i j => some (.int (g i j))) x y = some d)
    (k : ∀ w H',Same H H' → Rep T A H' d w → Q w H'):ipI g v u H Q := by
  unfold intD at e
  split at e
  · next i j =>
    cases e
    cases rx.int_
    cases ry.int_
    exact ⟨i,j,rfl,rfl,k _ _ (Same.refl H) (.int _)⟩
  · cases e
theorem pds_aug_add {i:Nat} {x:Str} {p:Pos} (n:Nl X i x) (he:PD X c e f):PDS X c xq (.AugAssign (.Name x p) .Add e pos) (fsAug i addA f) :=
  PS.imp (ps_aug n.nd n.hN n.hl he ip_add n.hf) fun _ _ _ h => tDs_aug (snd_aug (g := fun i j => i + j)) h
noncomputable def fsPop (i j:Nat):FS := fun env => match env[j]? with
  | some (.own ds) => (ds.getLast?).map fun d => .nx ((env.set j (.own ds.dropLast)).set i (.val d))
  | _ => none
end
end DL
end
section
set_option Elab.async false
set_option linter.all false
set_option maxRecDepth 100000
namespace DL
open PySem PySem.Spec PyProof.Rows L2
noncomputable def intV:D → Option Int
  | .int i => some i
  | _ => none
theorem intV_some {d:D} {i:Int} (h:intV d = some i):d = .int i := by
  unfold intV at h
  split at h
  · cases h; rfl
  · cases h
noncomputable def ltB (i j:Int):Bool := decide (i < j)
noncomputable def leB (i j:Int):Bool := decide (i ≤ j)
noncomputable def gtB (i j:Int):Bool := decide (j < i)
noncomputable def geB (i j:Int):Bool := decide (j ≤ i)
noncomputable def feChain (r r':Int → Int → Bool) (f g k:FE):FE := fun env => (f env).bind fun x => (intV x).bind fun i => (g env).bind fun y => (intV y).bind fun j => if r i j = true then (k env).bind fun z => (intV z).bind fun l => some (.bl (r' j l)) else some (.bl false)
@[simp] theorem ev_intV (i:Int):intV (.int i) = some i := (Eq.refl _).trans (Eq.refl _)
@[simp] theorem ev_feChain (r r':Int → Int → Bool) (f g k:FE) (env:DEnv):feChain r r' f g k env = obind (f env) fun x => obind (intV x) fun i => obind (g env) fun y => obind (intV y) fun j => ifK (obind (k env) fun z => obind (intV z) fun l => some (.bl (r' j l))) (some (.bl false)) (r i j) := (Eq.refl _).trans (Eq.refl _)
@[simp] theorem ev_ltB (i j:Int):ltB i j = decide (i < j) := (Eq.refl _).trans (Eq.refl _)
@[simp] theorem ev_leB (i j:Int):leB i j = decide (i ≤ j) := (Eq.refl _).trans (Eq.refl _)
@[simp] theorem ev_gtB (i j:Int):gtB i j = decide (j < i) := (Eq.refl _).trans (Eq.refl _)
@[simp] theorem ev_geB (i j:Int):geB i j = decide (j ≤ i) := (Eq.refl _).trans (Eq.refl _)
theorem tP_chain {T:Tx} {r r':Int → Int → Bool} {f g k:FE} {σ:L2.St} {H:Hp} {Q:VK} (h:tP T (kD T) (feChain r r' f g k) σ H Q) :
    tChain (rI0 fun i j => .bl (r i j)) (rI0 fun i j => .bl (r' i j)) (tP T (kD T) f) (tP T (kD T) g) (tP T (kD T) k) σ H Q := by
  obtain ⟨W,O,env,d,E,e,q⟩ := h
  unfold feChain at e
  cases e1:f env with
  | none => rw [e1] at e; cases e
  | some x =>
    rw [e1] at e
    dsimp only [Option.bind_some] at e
    cases e2:intV x with
    | none => rw [e2] at e; cases e
    | some i =>
      rw [e2] at e
      dsimp only [Option.bind_some] at e
      cases intV_some e2
      cases e3:g env with
      | none => rw [e3] at e; cases e
      | some y =>
        rw [e3] at e
        dsimp only [Option.bind_some] at e
        cases e4:intV y with
        | none => rw [e4] at e; cases e
        | some j =>
          rw [e4] at e
          dsimp only [Option.bind_some] at e
          cases intV_some e4
          refine ⟨W,O,env,_,E,e1,fun v1 H1 s1 r1 => ⟨W,O,env,_,E.mono s1,e3,fun v2 H2 s2 r2 => ?_⟩⟩
          cases Rep.int_ r1
          cases Rep.int_ r2
          refine ⟨i,j,rfl,rfl,r i j,rfl, ?_⟩
          by_cases hb:r i j = true
          · rw [if_pos hb] at e ⊢
            cases e5:k env with
            | none => rw [e5] at e; cases e
            | some z =>
              rw [e5] at e
              dsimp only [Option.bind_some] at e
              cases e6:intV z with
              | none => rw [e6] at e; cases e
              | some l =>
                rw [e6] at e
                cases e
                cases intV_some e6
                refine ⟨W,O,env,_,E.mono (s1.trans s2),e5,fun v3 H3 s3 r3 => ?_⟩
                cases Rep.int_ r3
                exact ⟨j,l,rfl,rfl,q _ _ ((s1.trans s2).trans s3) (.bl _)⟩
          · rw [if_neg hb] at e ⊢
            cases e
            exact q _ _ (s1.trans s2) (.bl _)
inductive Od where
  | lt | le | gt | ge
noncomputable def Od.op:Od → CmpOp
  | .lt => .Lt | .le => .LtE | .gt => .Gt | .ge => .GtE
noncomputable def Od.b:Od → Int → Int → Bool
  | .lt => ltB | .le => leB | .gt => gtB | .ge => geB
section
variable {X:Cx} {c:Ct} {a b k:Expr} {f g h:FE} {pos:Pos}
theorem Od.ok (o:Od):OpR X (compareOp o.op) (rI0 fun i j => .bl (o.b i j)) := by
  cases o
  · exact op_lt
  · exact op_le
  · exact op_gt
  · exact op_ge
theorem pd_chain (o o':Od) (ha:PD X c a f) (hb:PD X c b g) (hk:PD X c k h) {q q':CmpOp} (e:q = o.op := by rfl) (e':q' = o'.op := by rfl) (hm:lastMarks [q,q'] [b,k] = false := by with_unfolding_all rfl) :
    PD X c (.Compare a [q,q'] [b,k] pos) (feChain o.b o'.b f g h) := by
  subst e e'
  exact PE.imp (pe_chain o.ok o'.ok ha hb hk hm) fun _ _ _ h => tP_chain h
theorem pdt_chain (o o':Od) (ha:PD X c a f) (hb:PD X c b g) (hk:PD X c k h) {q q':CmpOp} (e:q = o.op := by rfl) (e':q' = o'.op := by rfl) (hm:lastMarks [q,q'] [b,k] = false := by with_unfolding_all rfl) :
    PDT X c (.Compare a [q,q'] [b,k] pos) (ftB (feChain o.b o'.b f g h)) := by
  subst e e'
  exact PT.imp (pt_chain o.ok o'.ok ha hb hk hm) fun _ _ _ h => tP_chain (tP_test h)
end
@[simp] theorem ev_fsAppend (i:Nat) (f:FE) (env:DEnv):fsAppend i f env = obind (slotO env[i]?) fun ds => obind (f env) fun x => if ds.length < 1000000 then some (.nx (env.set i (.own (ds ++ [x])))) else none := by
  unfold fsAppend fsMutG
  cases h:env[i]? with
  | none => rfl
  | some s =>
    cases s with
    | own ds =>
      show ((faCons f faNil env).bind fun x => (appG ds x).map fun ds' => DFl.nx (env.set i (.own ds'))) = obind (some ds) _
      rw [obind_some,ev_faCons]
      cases f env with
      | none => rfl
      | some x =>
        rw [obind_some,obind_some,ev_faNil,obind_some]
        show (appG ds [x]).map _ = _
        unfold appG
        dsimp only
        split <;> rfl
    | _ => rfl
@[simp] theorem ev_fsPop (i j:Nat) (env:DEnv):fsPop i j env = obind (slotO env[j]?) fun ds => omap (fun d => .nx ((env.set j (.own ds.dropLast)).set i (.val d))) ds.getLast? := by
  unfold fsPop
  cases h:env[j]? with
  | none => rfl
  | some s => cases s <;> rfl
end DL
end
section
set_option Elab.async false
set_option linter.all false
set_option maxRecDepth 100000
namespace DL
open PySem PySem.Spec PyProof.Rows L2
theorem vals_ints : ∀ {ns:List Int} {us:List Value},Vals (ns.map V.int) us → IntsAre us ns
  | [],_,.nil => .nil
  | n :: ns,_,.cons r t => by
    obtain ⟨k,rfl⟩ := r
    exact .cons n k (vals_ints t)
section
variable {X:Cx} {c:Ct} {e:Expr} {f:FE} {pos:Pos}
theorem call_sumL (hc:X.calm = true):CallR X (.builtin "sum") (fun xs H Q => ∃ (a:Addr) (ns:List Int),xs = [.ref a] ∧ SqL X.K H a (ns.map V.int) ∧ Q (.int ns.sum) H) := by
  intro pins s σ H xs us Q I r h
  obtain ⟨a,ns,rfl,hS,q⟩ := h
  obtain ⟨u,rfl,ru⟩ := vals1 r
  cases ru
  obtain ⟨its,rv,p,hz⟩ := I.list hS
  have hi := vals_ints rv
  obtain ⟨ys,hy⟩ := hi.allInts.items
  have hl:s.heap.IsList a (intItems ys) := hy ▸ p.isList
  refine sum_intListG (I.ok.hd hc) hl fun h' tk t' hk => ⟨.int ns.sum,H,I.kept hk,⟨t', ?_⟩,q⟩
  have e1:ns = ys.toList.map (·.1) := by
    rw [← nums_intItems, ← hy]
    exact hi.numsOf.symm
  rw [preSum_eq,List.take_of_length_le (by simp), ← e1]
theorem intsOf_rep {T:Tx} {A:Addr → Prop} {H:Hp} : ∀ {ds:List D} {is:List Int} {vs:List V},intsOf ds = some is → RepL T A H ds vs → vs = is.map V.int
  | [],_,_,h,r => by
    unfold intsOf at h
    cases h
    exact r.nil_
  | d :: ds,_,_,h,r => by
    unfold intsOf at h
    obtain ⟨x,t,rfl,h1,h2⟩ := r.cons_
    split at h
    · next heq => cases heq
    · next i r' heq =>
      cases heq
      cases e:intsOf ds with
      | none => rw [e] at h; cases h
      | some js =>
        rw [e] at h
        cases h
        cases h1.int_
        rw [intsOf_rep e h2]
        rfl
    · cases h
theorem snd_sum {T:Tx} (A:Addr → Prop) (H0 H:Hp) (x:D) (v:V) (d:D) (Q:VK) (_:Nw A H) (rx:kR T A H0 H x v) (e:sumD x = some d) (k : ∀ w H',Same H H' → kD T A H H' d w → Q w H') : ∃ (a:Addr) (ns:List Int),[v] = [.ref a] ∧ SqL T.K H a (ns.map V.int) ∧ Q (.int ns.sum) H := by
  unfold sumD at e
  split at e
  · next ds =>
    cases e1:intsOf ds with
    | none => rw [e1] at e; cases e
    | some is =>
      rw [e1] at e
      dsimp only [Option.bind_some] at e
      split at e
      · cases e
        obtain ⟨a,xs,rfl,hS,hr⟩ := RepR.lst_ rx
        cases intsOf_rep e1 hr
        exact ⟨a,is,rfl,hS,k _ _ (Same.refl H) (.int _)⟩
      · cases e
  · cases e
theorem pd_sum {p:Pos} (hg:Gl X "sum") (hm:X.mg "sum" = none) (hc:X.calm = true) (ha:PR X c e f) (he:isStar e = false := by rfl):PD X c (.Call (.Name "sum" p) [e] [] pos) (fp1 sumD f) := pd_b1 (call_sumL hc) snd_sum hg hm boot_sum ha he
end
end DL
end
section
set_option Elab.async false
set_option linter.all false
set_option maxRecDepth 100000
namespace DL
open PySem PySem.Spec PyProof.Rows L2
theorem vals_bls : ∀ {bs:List Bool} {us:List Value},Vals (bs.map V.bl) us → us = bs.map Value.bool
  | [],_,.nil => rfl
  | b :: bs,_,.cons r t => by
    cases r
    rw [vals_bls t]
    rfl
theorem range_any (bs:List Bool):((List.range bs.length).any fun i => (bs[i]?).getD false) = bs.any id := by
  rw [Bool.eq_iff_iff,List.any_eq_true,List.any_eq_true]
  constructor
  · rintro ⟨i,hi,h⟩
    rw [List.mem_range] at hi
    rw [List.getElem?_eq_getElem hi] at h
    exact ⟨bs[i],List.getElem_mem hi,h⟩
  · rintro ⟨b,hb,h⟩
    obtain ⟨i,hi,e⟩ := List.getElem_of_mem hb
    exact ⟨i,List.mem_range.mpr hi,by rw [List.getElem?_eq_getElem hi,e]; exact h⟩
theorem range_all (bs:List Bool):((List.range bs.length).all fun i => (bs[i]?).getD false) = bs.all id := by
  rw [Bool.eq_iff_iff,List.all_eq_true,List.all_eq_true]
  constructor
  · intro h b hb
    obtain ⟨i,hi,e⟩ := List.getElem_of_mem hb
    have := h i (List.mem_range.mpr hi)
    rw [List.getElem?_eq_getElem hi,e] at this
    exact this
  · intro h i hi
    rw [List.mem_range] at hi
    rw [List.getElem?_eq_getElem hi]
    exact h _ (List.getElem_mem hi)
theorem truth_bls {prog:Program} {w:World} {A:Around} (bs:List Bool):TruthOf prog w A (fun i v => (bs.map Value.bool).toArray[i]? = some v) fun i => (bs[i]?).getD false := by
  intro i v s Q E h q
  dsimp only at q
  rw [List.getElem?_toArray,List.getElem?_map] at h
  cases e:bs[i]? with
  | none => rw [e] at h; cases h
  | some b =>
    rw [e] at h q
    cases h
    exact wpAny_of_eq (a := b) rfl q
section
variable {X:Cx} {c:Ct} {e:Expr} {f:FE} {pos:Pos}
theorem call_anyL (hc:X.calm = true):CallR X (.builtin "any") (fun xs H Q => ∃ (a:Addr) (bs:List Bool),xs = [.ref a] ∧ SqL X.K H a (bs.map V.bl) ∧ Q (.bl (bs.any id)) H) := by
  intro pins s σ H xs us Q I r h
  obtain ⟨a,bs,rfl,hS,q⟩ := h
  obtain ⟨u,rfl,ru⟩ := vals1 r
  cases ru
  obtain ⟨its,rv,p,hz⟩ := I.list hS
  cases vals_bls rv
  have hl:s.heap.IsList a (bs.map Value.bool).toArray := p.isList
  have hlt:a < s.heap.objs.size := by obtain ⟨_,e,_⟩ := hl; exact Heap.lt_size e
  refine call_any_walk (wpAny_pyIter_list hl ⟨s.heap.objs.size,_,_,_,_,_,_,rfl,Walks.list (A := X.A.in1) (I.ok.hd hc) _ a (Nat.ne_of_lt hlt) (bs.map Value.bool).toArray,⟨⟨_,Heap.get?_push_size _ rfl,rfl,rfl⟩,hl.push _⟩,truth_bls bs,fun h' tk hk => ?_⟩)
  refine ⟨.bl (bs.any id),H,I.kept (old_kept hk), ?_,q⟩
  have:(bs.map Value.bool).toArray.size = bs.length := by simp
  rw [this,range_any]
  rfl
theorem call_allL (hc:X.calm = true):CallR X (.builtin "all") (fun xs H Q => ∃ (a:Addr) (bs:List Bool),xs = [.ref a] ∧ SqL X.K H a (bs.map V.bl) ∧ Q (.bl (bs.all id)) H) := by
  intro pins s σ H xs us Q I r h
  obtain ⟨a,bs,rfl,hS,q⟩ := h
  obtain ⟨u,rfl,ru⟩ := vals1 r
  cases ru
  obtain ⟨its,rv,p,hz⟩ := I.list hS
  cases vals_bls rv
  have hl:s.heap.IsList a (bs.map Value.bool).toArray := p.isList
  have hlt:a < s.heap.objs.size := by obtain ⟨_,e,_⟩ := hl; exact Heap.lt_size e
  refine call_all_walk (wpAny_pyIter_list hl ⟨s.heap.objs.size,_,_,_,_,_,_,rfl,Walks.list (A := X.A.in1) (I.ok.hd hc) _ a (Nat.ne_of_lt hlt) (bs.map Value.bool).toArray,⟨⟨_,Heap.get?_push_size _ rfl,rfl,rfl⟩,hl.push _⟩,truth_bls bs,fun h' tk hk => ?_⟩)
  refine ⟨.bl (bs.all id),H,I.kept (old_kept hk), ?_,q⟩
  have:(bs.map Value.bool).toArray.size = bs.length := by simp
  rw [this,range_all]
  rfl
theorem blsOf_rep {T:Tx} {A:Addr → Prop} {H:Hp} : ∀ {ds:List D} {is:List Bool} {vs:List V},blsOf ds = some is → RepL T A H ds vs → vs = is.map V.bl
  | [],_,_,h,r => by
    unfold blsOf at h
    cases h
    exact r.nil_
  | d :: ds,_,_,h,r => by
    unfold blsOf at h
    obtain ⟨x,t,rfl,h1,h2⟩ := r.cons_
    split at h
    · next heq => cases heq
    · next i r' heq =>
      cases heq
      cases e:blsOf ds with
      | none => rw [e] at h; cases h
      | some js =>
        rw [e] at h
        cases h
        cases h1.bl_
        rw [blsOf_rep e h2]
        rfl
    · cases h
theorem snd_any {T:Tx} (A:Addr → Prop) (H0 H:Hp) (x:D) (v:V) (d:D) (Q:VK) (_:Nw A H) (rx:kR T A H0 H x v) (e:anyD x = some d) (k : ∀ w H',Same H H' → kD T A H H' d w → Q w H') : ∃ (a:Addr) (bs:List Bool),[v] = [.ref a] ∧ SqL T.K H a (bs.map V.bl) ∧ Q (.bl (bs.any id)) H := by
  unfold anyD at e
  split at e
  · next ds =>
    cases e1:blsOf ds with
    | none => rw [e1] at e; cases e
    | some is =>
      rw [e1] at e
      cases e
      obtain ⟨a,xs,rfl,hS,hr⟩ := RepR.lst_ rx
      cases blsOf_rep e1 hr
      exact ⟨a,is,rfl,hS,k _ _ (Same.refl H) (.bl _)⟩
  · cases e
theorem snd_all {T:Tx} (A:Addr → Prop) (H0 H:Hp) (x:D) (v:V) (d:D) (Q:VK) (_:Nw A H) (rx:kR T A H0 H x v) (e:allD x = some d) (k : ∀ w H',Same H H' → kD T A H H' d w → Q w H') : ∃ (a:Addr) (bs:List Bool),[v] = [.ref a] ∧ SqL T.K H a (bs.map V.bl) ∧ Q (.bl (bs.all id)) H := by
  unfold allD at e
  split at e
  · next ds =>
    cases e1:blsOf ds with
    | none => rw [e1] at e; cases e
    | some is =>
      rw [e1] at e
      cases e
      obtain ⟨a,xs,rfl,hS,hr⟩ := RepR.lst_ rx
      cases blsOf_rep e1 hr
      exact ⟨a,is,rfl,hS,k _ _ (Same.refl H) (.bl _)⟩
  · cases e
theorem pd_any {p:Pos} (hg:Gl X "any") (hm:X.mg "any" = none) (hc:X.calm = true) (ha:PR X c e f) (he:isStar e = false := by rfl):PD X c (.Call (.Name "any" p) [e] [] pos) (fp1 anyD f) := pd_b1 (call_anyL hc) snd_any hg hm (by decide +kernel) ha he
theorem pd_all {p:Pos} (hg:Gl X "all") (hm:X.mg "all" = none) (hc:X.calm = true) (ha:PR X c e f) (he:isStar e = false := by rfl):PD X c (.Call (.Name "all" p) [e] [] pos) (fp1 allD f) := pd_b1 (call_allL hc) snd_all hg hm (by decide +kernel) ha he
end
end DL
end
section
set_option Elab.async false
set_option linter.all false
set_option maxRecDepth 100000
namespace DL
open PySem PySem.Spec PyProof.Rows L2
noncomputable def fsUnp (tg:FG) (f:FE):FS := fun env => (f env).bind fun d => (tg d env).map .nx
@[simp] theorem ev_fsUnp (tg:FG) (f:FE) (env:DEnv):fsUnp tg f env = obind (f env) fun d => omap .nx (tg d env) := (Eq.refl _).trans (Eq.refl _)
theorem tDs_unp {T:Tx} {xq:XQ} {De:Ends} {σ:L2.St} {H:Hp} {tg:FG} {g:TG} {f:FE} (sg:SndG T tg g) (h:tDs T xq (fsUnp tg f) De σ H):tAsg (tP T (kD T) f) g De σ H := by
  obtain ⟨W,O,env,fl,E,e,q⟩ := h
  unfold fsUnp at e
  cases e1:f env with
  | none => rw [e1] at e; cases e
  | some x =>
    rw [e1] at e
    dsimp only [Option.bind_some] at e
    cases e2:tg x env with
    | none => rw [e2] at e; cases e
    | some env' =>
      rw [e2] at e
      cases e
      exact ⟨W,O,env,x,E,e1,fun v H' s r => sg W O H' env env' σ x v _ (E.mono s) r e2 fun σ' E' => q σ' H' O E' (Fr.same s)⟩
noncomputable def noTup:Expr → Bool
  | .Tuple _ _ _ => false
  | e => noComp e
theorem stores_no {ts:List Expr} {k : _} {p:Pos} {e:Expr} {env:Env} (h:noTup e = true):swappedStores [.Tuple ts k p] e env = pure none := by
  cases e <;> first | rfl | cases h
section
variable {X:Cx} {c:Ct} {xq:XQ} {e:Expr} {f:FE} {pos:Pos}
theorem pds_unp {ts:List Expr} {k : _} {p:Pos} {tg:FG} {g:TG} (sg:SndG (tx X c) tg g) (pg:PG X (.Tuple ts k p) g) (he:PD X c e f) (hs:noComp e = true := by rfl) (hw:noTup e = true := by rfl) :
    PDS X c xq (.Assign [.Tuple ts k p] e pos) (fsUnp tg f) := PS.imp (ps_asg he pg (show swapsWithSole [.Tuple ts k p] e pos.line X.env = pure false from swaps_no (t := some (.Tuple ts k p)) (l := pos.line) (env := X.env) hs) (stores_no hw) rfl) fun _ _ _ h => tDs_unp sg h
end
end DL
end
section
set_option Elab.async false
set_option linter.all false
set_option maxRecDepth 100000
namespace DL
open PySem PySem.Spec PyProof.Rows L2
noncomputable def joinE:D → D → Option D
  | .str sep,.lst ds => (strsOf ds).bind fun xs => if (xs.map List.length).sum + xs.length * sep.length ≤ 1000000 then some (.str (joinL sep xs)) else none
  | _,_ => none
theorem join_mk (sep:List Nat) : ∀ xs:List (List Nat),Str.join (mkS sep) (xs.map mkS) = mkS (joinL sep xs)
  | [] => rfl
  | [x] => rfl
  | x :: y :: r => by
    have ih := join_mk sep (y :: r)
    show mkS x ++ mkS sep ++ Str.join (mkS sep) ((y :: r).map mkS) = mkS (x ++ sep ++ joinL sep (y :: r))
    rw [ih]
    show (⟨(x.toArray ++ sep.toArray) ++ (joinL sep (y :: r)).toArray⟩:Str) = _
    simp [mkS]
theorem vals_strs : ∀ {xs:List (List Nat)} {us:List Value},Vals (xs.map fun x => V.str (mkS x)) us → StrsAre us (xs.map mkS)
  | [],_,.nil => .nil
  | x :: xs,_,.cons r t => by
    obtain ⟨k,rfl⟩ := r
    exact .cons _ k (vals_strs t)
theorem strsOf_rep {T:Tx} {A:Addr → Prop} {H:Hp} : ∀ {ds:List D} {is:List (List Nat)} {vs:List V},strsOf ds = some is → RepL T A H ds vs → vs = is.map fun x => V.str (mkS x)
  | [],_,_,h,r => by
    unfold strsOf at h
    cases h
    exact r.nil_
  | d :: ds,_,_,h,r => by
    unfold strsOf at h
    obtain ⟨x,t,rfl,h1,h2⟩ := r.cons_
    split at h
    · next heq => cases heq
    · next i r' heq =>
      cases heq
      cases e:strsOf ds with
      | none => rw [e] at h; cases h
      | some js =>
        rw [e] at h
        cases h
        cases h1.str_
        rw [strsOf_rep e h2]
        rfl
    · cases h
noncomputable def rJoin (K:PySem.W.Frag):V → List V → Hp → VK → Prop := fun x vs H Q => ∃ (sep:List Nat) (a:Addr) (xs:List (List Nat)),x = .str (mkS sep) ∧ vs = [.ref a] ∧ SqL K H a (xs.map fun x => V.str (mkS x)) ∧ (xs.map List.length).sum + xs.length * sep.length ≤ 1000000 ∧ Q (.str (mkS (joinL sep xs))) H
section
variable {X:Cx} {c:Ct} {e o:Expr} {f g:FE} {pos:Pos}
theorem mt_join:MtR X "str.join" (rJoin X.K) := by
  intro pins s σ H x vs v us Q I rx rv h
  obtain ⟨sep,a,xs,rfl,rfl,hS,hz,q⟩ := h
  obtain ⟨t,rfl⟩ := rx
  obtain ⟨u,rfl,ru⟩ := vals1 rv
  cases ru
  obtain ⟨its,r,p,_⟩ := I.list hS
  refine join_list (ys := xs.map mkS) p.isList (by simpa using vals_strs r) ?_ fun t' k => ⟨.str (mkS (joinL sep xs)),H,I.tok _,⟨t', ?_⟩,q⟩
  · have e1:((xs.map mkS).map (·.length)) = xs.map List.length := by
      rw [List.map_map]
      exact List.map_congr_left fun x _ => mkS_len x
    rw [e1,List.length_map,mkS_len]
    omega
  · show Value.str (Txt.join (mkS sep) (xs.map mkS)) t' = _
    have:Txt.join (mkS sep) (xs.map mkS) = mkS (joinL sep xs) := (StrLaws.glued_eq_join _ _).trans (join_mk sep xs)
    rw [this]
theorem tP_join {T:Tx} {σ:L2.St} {H:Hp} {Q:VK} (h:tP T (kD T) (fp2 joinE f g) σ H Q):tBM T.K "str" (rJoin T.K) (tP T (kD T) f) (tP T (kRA T) (faR g)) σ H Q := by
  obtain ⟨W,O,env,d,E,e,q⟩ := h
  unfold fp2 at e
  cases e1:f env with
  | none => rw [e1] at e; cases e
  | some x =>
    rw [e1] at e
    dsimp only [Option.bind_some] at e
    cases e2:g env with
    | none => rw [e2] at e; cases e
    | some y =>
      rw [e2] at e
      dsimp only [Option.bind_some] at e
      unfold joinE at e
      split at e
      · next sep ds =>
        cases e3:strsOf ds with
        | none => rw [e3] at e; cases e
        | some xs =>
          rw [e3] at e
          dsimp only [Option.bind_some] at e
          split at e
          · next hz =>
            cases e
            refine ⟨W,O,env,_,E,e1,fun v1 H1 s1 r1 => ?_⟩
            cases Rep.str_ r1
            refine ⟨rfl,W,O,env,[.lst ds],E.mono s1,by unfold faR; rw [e2]; rfl,fun vs H2 s2 r2 => ?_⟩
            obtain ⟨v,rfl,rv⟩ := r2
            obtain ⟨a,us,rfl,hS,hr⟩ := RepR.lst_ rv
            cases strsOf_rep e3 hr
            exact ⟨sep,a,xs,rfl,rfl,hS,hz,q _ _ (s1.trans s2) (.str _)⟩
          · cases e
      · cases e
theorem pd_join {p2 p3:Pos} (ho:PD X c o f) (ha:PR X c e g) (hb:attributeBase o "join" X.env (eval o X.env) = eval o X.env := by rfl) (hs:isStar e = false := by rfl) (hl:(p2.endLine == p3.line) = true := by rfl) :
    PD X c (.Call (.Attribute o "join" p2) [e] [] p3) (fp2 joinE f g) :=
  PE.imp (pe_bm PySem.F.plainAttrs_str PySem.F.slot_str_join PySem.F.type_str_join mt_join ho (pa_one ha hs) hb (by rw [star_one hs]; rfl) hl (star_cons hs) rfl) fun _ _ _ h => tP_join h
end
end DL
end
section
set_option Elab.async false
set_option linter.all false
set_option maxRecDepth 100000
namespace DL
open L2
noncomputable def strM1 (F:List Nat → D → Option D):D → D → Option D
  | .str z,y => F z y
  | _,_ => none
noncomputable def countF (z:List Nat):D → Option D
  | .str [c] => some (.int (z.count c))
  | _ => none
noncomputable def lstripL (c:Nat) (z:List Nat):List Nat := z.dropWhile (· == c)
noncomputable def rstripL (c:Nat) (z:List Nat):List Nat := (z.reverse.dropWhile (· == c)).reverse
noncomputable def stripF (z:List Nat):D → Option D
  | .str [c] => if z.length ≤ 1000000 then some (.str (rstripL c (lstripL c z))) else none
  | _ => none
noncomputable def rstripF (z:List Nat):D → Option D
  | .str [c] => if z.length ≤ 1000000 then some (.str (rstripL c z)) else none
  | _ => none
noncomputable def endsF (z:List Nat):D → Option D
  | .str [c] => some (.bl (z.getLast? == some c))
  | _ => none
noncomputable def ljustF (z:List Nat):D → Option D
  | .int i => if -1000000 ≤ i ∧ i ≤ 1000000 then some (.str (z ++ List.replicate (i.toNat - z.length) 32)) else none
  | _ => none
noncomputable def rjustF (z:List Nat):D → Option D
  | .int i => if -1000000 ≤ i ∧ i ≤ 1000000 then some (.str (List.replicate (i.toNat - z.length) 32 ++ z)) else none
  | _ => none
@[simp] theorem ev_strM1 (F:List Nat → D → Option D) (z:List Nat) (y:D):strM1 F (.str z) y = F z y := (Eq.refl _).trans (Eq.refl _)
@[simp] theorem ev_countF (z:List Nat) (c:Nat):countF z (.str [c]) = some (.int (z.count c)) := (Eq.refl _).trans (Eq.refl _)
@[simp] theorem ev_stripF (z:List Nat) (c:Nat):stripF z (.str [c]) = if z.length ≤ 1000000 then some (.str (rstripL c (lstripL c z))) else none := (Eq.refl _).trans (Eq.refl _)
@[simp] theorem ev_rstripF (z:List Nat) (c:Nat):rstripF z (.str [c]) = if z.length ≤ 1000000 then some (.str (rstripL c z)) else none := (Eq.refl _).trans (Eq.refl _)
@[simp] theorem ev_endsF (z:List Nat) (c:Nat):endsF z (.str [c]) = some (.bl (z.getLast? == some c)) := (Eq.refl _).trans (Eq.refl _)
@[simp] theorem ev_ljustF (z:List Nat) (i:Int):ljustF z (.int i) = if -1000000 ≤ i ∧ i ≤ 1000000 then some (.str (z ++ List.replicate (i.toNat - z.length) 32)) else none := (Eq.refl _).trans (Eq.refl _)
@[simp] theorem ev_rjustF (z:List Nat) (i:Int):rjustF z (.int i) = if -1000000 ≤ i ∧ i ≤ 1000000 then some (.str (List.replicate (i.toNat - z.length) 32 ++ z)) else none := (Eq.refl _).trans (Eq.refl _)
@[simp] theorem ev_joinE (sep:List Nat) (ds:List D):joinE (.str sep) (.lst ds) = obind (strsOf ds) fun xs => if (xs.map List.length).sum + xs.length * sep.length ≤ 1000000 then some (.str (joinL sep xs)) else none := (Eq.refl _).trans (Eq.refl _)
theorem strsOf_map (xs:List (List Nat)):strsOf (xs.map D.str) = some xs := by
  induction xs with
  | nil => rfl
  | cons x r ih => show (strsOf (r.map D.str)).map (x :: ·) = _; rw [ih]; rfl
@[simp] theorem ev_addA (i j:Int):addA (.int i) (.int j) = some (.int (i + j)) := (Eq.refl _).trans (Eq.refl _)
theorem rInts_succ (a:Int) (n:Nat):rInts a (n + 1) = .int a :: rInts (a + 1) n := by
  unfold rInts
  rw [List.range_succ_eq_map]
  simp only [List.map_cons,List.map_map]
  congr 1
  · simp
  · apply List.map_congr_left
    intro k _
    simp only [Function.comp]
    congr 1
    omega
theorem rInts_zero (a:Int):rInts a 0 = [] := rfl
theorem ev_runFor_cons (tg:FG) (body:FS) (d:D) (ds:List D) (env:DEnv):runFor tg body (d :: ds) env = obind (tg d env) fun env1 => obind (body env1) fun r => match r with
    | .nx e => runFor tg body ds e
    | .ct e => runFor tg body ds e
    | .bk e => some (.nx e)
    | r => some r := rfl
theorem runFor_nx {tg:FG} {body:FS} {d:D} {ds:List D} {env e1 e2:DEnv} (h1:tg d env = some e1) (h2:body e1 = some (.nx e2)):runFor tg body (d :: ds) env = runFor tg body ds e2 := by
  rw [ev_runFor_cons,h1,obind_some,h2,obind_some]
noncomputable def seqL:D → Option (List D)
  | .lst ds => some ds
  | _ => none
noncomputable def enumL (ds:List D):List D := ds.zipIdx.map fun p => .tup [.int (p.2:Nat),p.1]
noncomputable def fsForE (tg:FG) (fi:FE) (body:FS):FS := fun env => (fi env).bind fun x => (seqL x).bind fun ds => runFor tg body (enumL ds) env
noncomputable def ffCompE (nt:Nat) (cap:List Nat) (tg:FG) (fi:FE) (ft:FT) (fe:FE):FP (List D) := fun env => (fi env).bind fun x => (seqL x).bind fun ds => if ds.length ≤ 1000000 then runComp tg ft fe (capE nt cap env) (enumL ds) else none
@[simp] theorem ev_seqL (ds:List D):seqL (.lst ds) = some ds := (Eq.refl _).trans (Eq.refl _)
@[simp] theorem ev_fsForE (tg:FG) (fi:FE) (body:FS) (env:DEnv):fsForE tg fi body env = obind (fi env) (fun x => obind (seqL x) (fun ds => runFor tg body (enumL ds) env)) := (Eq.refl _).trans (Eq.refl _)
@[simp] theorem ev_ffCompE (nt:Nat) (cap:List Nat) (tg:FG) (fi:FE) (ft:FT) (fe:FE) (env:DEnv):ffCompE nt cap tg fi ft fe env = obind (fi env) (fun x => obind (seqL x) (fun ds => if ds.length ≤ 1000000 then runComp tg ft fe (capE nt cap env) (enumL ds) else none)) := (Eq.refl _).trans (Eq.refl _)
noncomputable def setI (ds:List D) (k:Int) (v:D):Option (List D) := (ixN ds.length k).map fun j => ds.set j v
noncomputable def fsItem (i:Nat) (fk fv:FE):FS := fun env => match env[i]? with
  | some (.own ds) => (fv env).bind fun v => (fk env).bind fun k => (intV k).bind fun k => (setI ds k v).map fun ds' => .nx (env.set i (.own ds'))
  | _ => none
@[simp] theorem ev_fsItem (i:Nat) (fk fv:FE) (env:DEnv):fsItem i fk fv env = obind (slotO env[i]?) fun ds => obind (fv env) fun v => obind (fk env) fun k => obind (intV k) fun k => omap (fun ds' => .nx (env.set i (.own ds'))) (setI ds k v) := by
  unfold fsItem
  cases env[i]? with
  | none => rfl
  | some s => cases s <;> rfl
noncomputable def ftLend (i:Nat) (ft:FT):FT := fun env => match env[i]? with
  | some (.own ds) => ft (env.set i (.val (.lst ds)))
  | _ => none
@[simp] theorem ev_ftLend (i:Nat) (ft:FT) (env:DEnv):ftLend i ft env = obind (slotO env[i]?) fun ds => ft (env.set i (.val (.lst ds))) := by
  unfold ftLend
  cases env[i]? with
  | none => rfl
  | some s => cases s <;> rfl
noncomputable def revF:D → Option (List D)
  | .lst ds => some ds.reverse
  | _ => none
@[simp] theorem ev_revF (ds:List D):revF (.lst ds) = some ds.reverse := (Eq.refl _).trans (Eq.refl _)
noncomputable def fp3 {α β γ δ:Type} (F : α → β → γ → Option δ) (f:FP α) (g:FP β) (h:FP γ):FP δ := fun env => (f env).bind fun x => (g env).bind fun y => (h env).bind fun z => F x y z
@[simp] theorem ev_fp3 {α β γ δ:Type} (F : α → β → γ → Option δ) (f:FP α) (g:FP β) (h:FP γ) (env:DEnv):fp3 F f g h env = obind (f env) fun x => obind (g env) fun y => obind (h env) fun z => F x y z := (Eq.refl _).trans (Eq.refl _)
noncomputable def stepL (n w:Nat) (z:List Nat):List Nat := (List.range z.length).filterMap fun k => z[n + k * w]?
noncomputable def stepD:D → D → D → Option D
  | .str z,.int n,.int w => if 0 ≤ n ∧ 0 < w ∧ n < 1000000 ∧ w < 1000000 ∧ z.length ≤ 1000000 then some (.str (stepL n.toNat w.toNat z)) else none
  | _,_,_ => none
@[simp] theorem ev_stepD (z:List Nat) (n w:Int):stepD (.str z) (.int n) (.int w) = if 0 ≤ n ∧ 0 < w ∧ n < 1000000 ∧ w < 1000000 ∧ z.length ≤ 1000000 then some (.str (stepL n.toNat w.toNat z)) else none := (Eq.refl _).trans (Eq.refl _)
theorem setI_k (ds:List D) (k:Nat) (v:D) (h:k < ds.length):setI ds (k:Int) v = some (ds.set k v) := by
  unfold setI ixN
  rw [if_pos (by omega),if_pos (by omega)]; simp
theorem enumL_nil:enumL [] = [] := rfl
theorem enumL_len (ds:List D):(enumL ds).length = ds.length := by simp [enumL]
noncomputable def enumF (i:Nat) (ds:List D):List D := (ds.zipIdx i).map fun p => .tup [.int (p.2:Nat),p.1]
theorem enumL_F (ds:List D):enumL ds = enumF 0 ds := rfl
theorem enumF_cons (i:Nat) (d:D) (ds:List D):enumF i (d :: ds) = .tup [.int (i:Nat),d] :: enumF (i + 1) ds := rfl
theorem enumF_nil (i:Nat):enumF i [] = [] := rfl
@[simp] theorem ev_tgTup2 (i j:Nat) (a b:D) (env:DEnv):tgTup [i,j] (.tup [a,b]) env = some ((env.set i (.val a)).set j (.val b)) := (Eq.refl _).trans (Eq.refl _)
@[simp] theorem ev_inD_str (neg:Bool) (c:Nat) (j:List Nat):inD neg (.str [c]) (.str j) = some (.bl (if neg then !(j.contains c) else j.contains c)) := (Eq.refl _).trans (Eq.refl _)
theorem runComp_nil {tg:FG} {ft:FT} {fe:FE} {env:DEnv}:runComp tg ft fe env [] = some [] := rfl
theorem runComp_t {tg:FG} {ft:FT} {fe:FE} {env e:DEnv} {d y:D} {ds ys:List D} (h1:tg d env = some e) (h2:ft e = some true) (h3:fe e = some y) (h4:runComp tg ft fe env ds = some ys):runComp tg ft fe env (d :: ds) = some (y :: ys) := by
  rw [runComp,h1]; dsimp only [Option.bind_some]; rw [h2]; dsimp only [Option.bind_some]; rw [if_pos rfl,h3,h4]; rfl
theorem eq_nil_nil:eqN 100 (.lst []) (.lst []) = some true := rfl
end DL
end
section
set_option Elab.async false
set_option linter.all false
set_option maxRecDepth 100000
namespace DL
open PySem PySem.Spec PyProof.Rows L2
section
variable {X:Cx} {c:Ct} {e o:Expr} {f g:FE} {pos:Pos}
end
end DL
end
section
set_option Elab.async false
set_option linter.all false
set_option maxRecDepth 100000
namespace DL
open PySem PySem.Spec PyProof.Rows L2
section
variable {X:Cx} {c:Ct} {xq:XQ} {e k:Expr} {f g:FE} {pos:Pos}
theorem tDs_item {T:Tx} {De:Ends} {σ:L2.St} {H:Hp} {i:Nat} {fk fv:FE} (h:tDs T xq (fsItem i fk fv) De σ H):tAsg (tP T (kD T) fv) (gSub (tVar i) (tP T (kD T) fk) rSetL) De σ H := by
  obtain ⟨W,O,env,fl,E,e,q⟩ := h
  unfold fsItem at e
  split at e
  · rename_i ds es
    cases e1:fv env with
    | none => rw [e1] at e; cases e
    | some v =>
      rw [e1] at e
      dsimp only [Option.bind_some] at e
      cases e2:fk env with
      | none => rw [e2] at e; cases e
      | some kd =>
        rw [e2] at e
        dsimp only [Option.bind_some] at e
        cases e3:intV kd with
        | none => rw [e3] at e; cases e
        | some kk =>
          rw [e3] at e
          dsimp only [Option.bind_some] at e
          cases intV_some e3
          unfold setI at e
          cases e4:ixN ds.length kk with
          | none => rw [e4] at e; cases e
          | some j =>
            rw [e4] at e
            cases e
            obtain ⟨a,xs,ea,o,n,hl,rl⟩ := E.own es
            refine ⟨W,O,env,v,E,e1,fun u H1 s1 r1 => ?_⟩
            have E1 := E.mono s1
            refine ⟨.ref a,ea,W,O,env,.int kk,E1,e2,fun w H2 s2 r2 => ?_⟩
            cases r2.int_
            have E2 := E1.mono s2
            have hl2 := s2 _ _ (s1 _ _ hl)
            refine ⟨a,xs,kk,j,rfl,rfl,hl2,by rw [← rl.length]; exact e4, ?_⟩
            have f1:Fr O H2 O (L2.upd H2 a (.lst (xs.set j u))) := ⟨fun b z h nn => by rw [upd_ne (by rintro rfl; exact nn o)]; exact h,fun b h => .inl h,fun b h => by
              by_cases z:b = a
              · subst z; rw [upd_same] at h; cases h
              · rw [upd_ne z] at h; exact h⟩
            have kp := E2.kp f1
            have rl2:RepL T (Cl W O) H2 (ds.set j v) (xs.set j u) := (rl.mono (s1.trans s2) fun _ z => z).set j (r1.mono s2 fun _ z => z)
            obtain ⟨E3,f3⟩ := E2.upd (t := .own (ds.set j v)) (o := .lst (xs.set j u)) es rfl ea trivial ⟨a,_,rfl,o,n,upd_same,rl2.kp kp⟩
            exact q _ _ O E3 ((Fr.same (s1.trans s2)).trans f3)
  · cases e
theorem pds_item {i:Nat} {x:Str} {p1 p2:Pos} (m:Nm X i x) (hk:PD X c k f) (hv:PD X c e g) (hs:noComp e = true := by rfl)
    (ha : ∀ v,assign (.Subscript (.Name x p1) k p2) X.env v = (do
      let ov ← holding [v] (eval (.Name x p1) X.env)
      let iv ← holding [v,ov] (eval k X.env)
      standAt p2
      holding [v,ov,iv] (setItem ov iv v)
      release [v,ov,iv] []) := by intro _; rfl) :
    PDS X c xq (.Assign [.Subscript (.Name x p1) k p2] e pos) (fsItem i f g) :=
  PS.imp (ps_asg hv (pg_sub (pe_var m.hN m.hv m.hd m.hc) hk set_list ha) (swaps_no (t := some (.Subscript (.Name x p1) k p2)) (l := pos.line) (env := X.env) hs) (by rfl) rfl) fun _ _ _ h => tDs_item h
end
end DL
end
section
set_option Elab.async false
set_option linter.all false
set_option maxRecDepth 100000
namespace L2
open PySem PySem.Spec PyProof.Rows
section
variable {X:Cx} {pins:List (Addr × Obj)} {σ:List (Option V)} {H H':Hp} {s:Shared} {h':Heap}
theorem Inv.turnedT {t':Nat} {e it p:Addr} {vs:List V} (I:Inv X pins σ H s) (k : ∀ b o,b ≠ e → b ≠ it → s.heap.get? b = some o → h'.get? b = some o) (fe:FpOk X pins H e) (fi:FpOk X pins H it) (fp:FpOk X pins H p)
    (hp:s.heap.get? p = none) (new:ObjOk X.prog X.w (upd H p (.tup vs)) h' p (.tup vs)):Inv X pins σ (upd H p (.tup vs)) { s with heap := h',toks := t' } := by
  have ne : ∀ b u,H b = some u → b ≠ e := fun b u q z => by rw [z,fe.1] at q; cases q
  have ni : ∀ b u,H b = some u → b ≠ it := fun b u q z => by rw [z,fi.1] at q; cases q
  have np : ∀ b u,H b = some u → b ≠ p := fun b u q z => by rw [z,fp.1] at q; cases q
  have kk : ∀ b o,b ∉ [e,it,p] → s.heap.get? b = some o → h'.get? b = some o := fun b o hb q => k b o (fun z => hb (by simp [z])) (fun z => hb (by simp [z])) q
  refine I.step (g' := s.gens) (d' := s.drawn) (ch := [e,it,p]) (fun b hb => ?_) (fun b o _ _ hc q _ => kk b o hc q) (fun b o _ _ hc q _ => ⟨o.slots,kk b o hc q⟩) (fun b _ hc _ n => by rw [upd_ne (fun z => hc (by simp [z]))]; exact n)
    (fun b o hc q => ⟨o,kk b o hc q⟩) (fun b xs q => by rw [upd_ne (np b _ q)]; exact q) (fun b _ _ q => by rw [upd_ne (np b _ q)]; exact q) (fun b ps q => ⟨#[],by rw [upd_ne (np b _ q),q]; simp⟩) (fun m hm => ?_) (fun b u q => ?_) I.bare
  · have:b = e ∨ b = it ∨ b = p := by simpa using hb
    rcases this with rfl | rfl | rfl
    · exact ⟨fe.2.2.2.1,fe.2.1,fe.2.2.2.2.1,fe.2.2.2.2.2⟩
    · exact ⟨fi.2.2.2.1,fi.2.1,fi.2.2.2.2.1,fi.2.2.2.2.2⟩
    · exact ⟨fp.2.2.2.1,fp.2.1,fp.2.2.2.2.1,fp.2.2.2.2.2⟩
  · obtain ⟨o,es,ep,ho,r⟩ := hm
    exact ⟨o,es,ep,k _ o (Ne.symm fe.2.1) (Ne.symm fi.2.1) ho,r⟩
  · by_cases hb:b = p
    · subst hb; rw [upd_same] at q; cases q; exact new
    · rw [upd_ne hb] at q
      refine (I.hok b u q).stay (fun c v hc z => k c v ?_ ?_ z) (fun c z => by rw [upd_ne (np c _ z)]; exact z) fun c xs z => by rw [upd_ne (np c _ z)]; exact z
      · rcases hc with z | z
        · rw [z]; exact ne b u q
        · exact ne c _ z
      · rcases hc with z | z
        · rw [z]; exact ni b u q
        · exact ni c _ z
end
noncomputable def Ite (K:PySem.W.Frag) (a:Addr):It :=
  ⟨fun i H => ∃ xs x,SqL K H a xs ∧ xs[i]? = some x,fun i H v H' => ∃ p y,H p = none ∧ v = .ref p ∧ H' = upd H p (.tup [.int (i:Nat),y]) ∧ ∀ xs,SqL K H a xs → xs[i]? = some y,fun i H => ∃ xs,SqL K H a xs ∧ xs.length ≤ i⟩
theorem turn_enum {P:Program} {w:World} {K:PySem.W.Frag} {ts:List Expr} {tk:Nat} {tp:Pos} (a e it:Addr) (hne:e ≠ it):Turn P w K (.Tuple ts tk tp) (Ite K a) [e,it] e (fun i h => (∃ old,IsEnum h e it (i:Nat) old) ∧ h.IsListIter it a i) where
  mem := by simp
  obj := fun i h st b hb => by
    obtain ⟨⟨old,he⟩,o,ho,c,d⟩ := st
    have:b = e ∨ b = it := by simpa using hb
    rcases this with rfl | rfl
    · exact ⟨_,he,fun v z => by cases z⟩
    · exact ⟨o,ho,fun v z => by rw [d] at z; cases z⟩
  keep := fun i h h' st k => ⟨let ⟨old,he⟩ := st.1; ⟨old,k e (by simp) _ he⟩,st.2.at fun o q => k it (by simp) o q⟩
  item := by
    intro X hP hw hK hc i pins s σ H E I hf st hg
    subst hP hw hK
    obtain ⟨⟨old,he⟩,hit⟩ := st
    obtain ⟨xs,x,hq,hx⟩ := hg
    obtain ⟨its,rv,p,hz⟩ := I.list hq
    obtain ⟨u,hu,ru⟩ := rv.get hx
    have fe := hf e (by simp)
    have fi := hf it (by simp)
    refine wpAny_pyNext_enum_item he hit p.isList (x := u) (by simpa using hu) hne fun h₁ heo hit₁ ht₁ hz₁ hk₁ => ?_
    refine ⟨_,rfl,wpAny_letOwnedTupleGo_enum heo fun h₂ he₂ hs₂ => ?_⟩
    have helt:e < s.heap.objs.size := Heap.lt_size he
    have hilt:it < s.heap.objs.size := by obtain ⟨o,ho,_⟩ := hit; exact Heap.lt_size ho
    have keep : ∀ b o,b ≠ e → b ≠ it → s.heap.get? b = some o → h₂.get? b = some o := fun b o h1 h2 q => (hs₂.2 b h1).trans (hk₁ b o h1 h2 q)
    have htup:IsTup h₂ s.heap.objs.size #[.int (i:Nat) s.toks,u] := ⟨_,(hs₂.2 _ (Nat.ne_of_gt helt)).trans ht₁,rfl,_,rfl⟩
    have hit₂:h₂.IsListIter it a (i + 1) := hit₁.at fun o q => (hs₂.2 it (Ne.symm hne)).trans q
    have fp := I.fpOk (Nat.le_refl _) (I.hok.fresh (Nat.le_refl _))
    refine ⟨.ref s.heap.objs.size,upd H s.heap.objs.size (.tup [.int (i:Nat),x]), ?_,rfl,⟨_,x,I.hok.fresh (Nat.le_refl _),rfl,rfl,fun ys hy => by rw [I.list_inj hy hq]; exact hx⟩,⟨⟨_,by simpa using he₂⟩,hit₂⟩,fun b hb => ?_⟩
    · exact I.turnedT (t' := s.toks + 1) keep fe fi fp (Heap.get?_none_of_le (Nat.le_refl _)) ⟨(show (2:Nat) ≤ sizeLine by decide),[.int (i:Nat) s.toks,u],.cons ⟨_,rfl⟩ (.cons ru .nil),htup⟩
    · have:b = e ∨ b = it := by simpa using hb
      rcases this with rfl | rfl
      · rw [upd_ne (Nat.ne_of_lt helt)]; exact fe.1
      · rw [upd_ne (Nat.ne_of_lt hilt)]; exact fi.1
  done := by
    intro X hP hw hK hc i pins s σ H E I hf st hg
    subst hP hw hK
    obtain ⟨⟨old,he⟩,hit⟩ := st
    obtain ⟨xs,hq,hx⟩ := hg
    obtain ⟨its,rv,p,hz⟩ := I.list hq
    obtain ⟨f0,f1,f2,f3,f4,f5⟩ := hf it (by simp)
    have hl := rv.length
    exact wpAny_pyNext_enum_end (I.ok.hd hc) he hit p.isList (by simp; omega) fun h' eb => ⟨rfl,I.turned (t' := s.toks) (fun b o hb q => eb b o hb q) f0 f1 f3 f4 f5⟩
  self := fun _ _ _ _ _ st h => by
    obtain ⟨⟨old,he⟩,_⟩ := st
    exact wpAny_pyIter_enum he h
noncomputable def iEnum (K:PySem.W.Frag) (ta:TA):TI := fun σ H R => ta σ H fun vs H1 => ∃ a,vs = [.ref a] ∧ (∃ xs,SqL K H1 a xs) ∧ R (Ite K a) H1
theorem pi_enum {X:Cx} {a:Expr} {ta:TA} {p pos:Pos} {ts:List Expr} {tk:Nat} {tp:Pos} (hg:Gl X "enumerate") (hm:X.mg "enumerate" = none) (ha:PA X [a] ta) (hs:starEach [a] X.env = [(false,eval a X.env)] := by rfl) :
    PI X (.Tuple ts tk tp) (.Call (.Name "enumerate" p) [a] [] pos) (iEnum X.K ta) := by
  intro pins s σ H R I h
  refine Call_ (ld_blt I hg hm boot_enumerate (PyProof.Rows.callWith_type1 (thn5 (ha pos pins s σ H _ I h) fun us s1 vs H1 I1 r1 q1 => ?_) hs rfl))
  obtain ⟨l,e,⟨xs,hq⟩,q⟩ := q1
  subst e
  cases r1 with
  | cons r rr =>
    cases rr
    cases r
    obtain ⟨its,rv,pl,hz⟩ := I1.list hq
    refine call_enumerate_list pl.isList fun h' he hit hsz hk => ?_
    refine wpAny_pyIter_enum he ?_
    refine ⟨s1.heap.objs.size + 1,[s1.heap.objs.size + 1,s1.heap.objs.size],_,_,H1,rfl,I1.kept (t' := s1.toks) hk,turn_enum l _ _ (Nat.succ_ne_self _),⟨⟨_,by simpa using he⟩,hit⟩,fun b hb => ?_,q⟩
    have:b = s1.heap.objs.size + 1 ∨ b = s1.heap.objs.size := by simpa using hb
    rcases this with rfl | rfl
    · exact I1.fpOk (Nat.le_succ _) (I1.hok.fresh (Nat.le_succ _))
    · exact I1.fpOk (Nat.le_refl _) (I1.hok.fresh (Nat.le_refl _))
end L2
end
section
set_option Elab.async false
set_option linter.all false
set_option maxRecDepth 100000
namespace DL
open PySem PySem.Spec PyProof.Rows L2
theorem seqL_some {x:D} {ds:List D} (h:seqL x = some ds):x = .lst ds := by
  unfold seqL at h
  split at h
  · cases h; rfl
  · cases h
theorem enumL_get {ds:List D} {j:Nat} {d:D} (h:ds[j]? = some d):(enumL ds)[j]? = some (.tup [.int (j:Nat),d]) := by
  unfold enumL
  rw [List.getElem?_map,List.getElem?_zipIdx,h]
  simp
section
variable {T:Tx} {X:XQ} {F:FS} {fi fe:FE} {ft:FT} {De:Ends} {σ:L2.St} {H:Hp} {tg:FG} {g:TG}
theorem tDs_forE (hg:SndG T tg g) (h:tDs T X (fsForE tg fi F) De σ H):tFor (iEnum T.K (tP T (kA T) (faCons fi faNil))) g (tDs T X F) De σ H := by
  obtain ⟨W,O,env,fl,E,e,q⟩ := h
  unfold fsForE at e
  cases e1:fi env with
  | none => rw [e1] at e; cases e
  | some x =>
    rw [e1] at e
    dsimp only [Option.bind_some] at e
    cases e2:seqL x with
    | none => rw [e2] at e; cases e
    | some ds =>
      rw [e2] at e
      dsimp only [Option.bind_some] at e
      cases seqL_some e2
      refine ⟨W,O,env,[.lst ds],E,by unfold faCons faNil; rw [e1]; rfl,fun vs H1 s1 r1 => ?_⟩
      obtain ⟨v,r,rfl,rv,rr⟩ := RepL.cons_ r1
      cases rr.nil_
      have E1 := E.mono s1
      have q1:EndsR T X W O H1 De fl := q.fr (Fr.same s1)
      obtain ⟨a,xs,rfl,hl,rl⟩ := Rep.lst_ rv
      have hlen := rl.length
      refine ⟨a,rfl,⟨xs,hl.sq⟩,fun j m σ' H' => m = ds.length - j ∧ j ≤ ds.length ∧ ∃ env' O',EnvR T W O' H' env' σ' ∧ Fr O H1 O' H' ∧ runFor tg F ((enumL ds).drop j) env' = some fl,⟨ds.length,by simp,Nat.zero_le _,env,O,E1,Fr.refl _ _,e⟩, ?_⟩
      rintro j m σ' H' ⟨rfl,hj,env',O',E',f,e'⟩
      have hlH := ((E1.kp f).ls hl).sq
      by_cases hlt:j < ds.length
      · refine .inr ⟨⟨xs,xs[j]'(by omega),hlH,by simp [show j < xs.length by omega]⟩,fun σ2 H2 => ∃ env' O',EnvR T W O' H2 env' σ2 ∧ Fr O H1 O' H2 ∧ runFor tg F ((enumL ds).drop (j + 1)) env' = some fl,fun σ2 H2 p => ⟨ds.length - (j + 1),by omega,rfl,hlt,p⟩,fun x H2 y => ?_⟩
        obtain ⟨p,y,hp,rfl,rfl,hy⟩ := y
        obtain ⟨d,hd,rd⟩ := rl.getV (hy xs hlH)
        have s2:Same H' (L2.upd H' p (.tup [.int (j:Nat),y])) := same_new hp _
        rw [drop_cons (enumL_get hd)] at e'
        have rd':Rep T (Cl W O') H' d y := E1.keepD f rd
        exact for_step hg q1 _ ((enumL ds).drop (j + 1)) (fun env2 O2 σ2 H2 E2 g2 e2 => ⟨env2,O2,E2,g2,e2⟩) (E'.mono s2) (f.trans (Fr.same s2)) e' (Rep.newT (.cons (.int _) (.cons rd' .nil)) hp)
      · refine .inl ⟨⟨xs,hlH,by omega⟩, ?_⟩
        rw [List.drop_eq_nil_of_le (by rw [enumL_len]; omega)] at e'
        cases e'
        exact q1 σ' H' O' E' f
end
section
variable {X:Cx} {c:Ct} {xq:XQ} {ts:List Expr} {tk:Nat} {tp p ip pos:Pos} {elt iter:Expr} {ifs:List Expr} {scope sc:Scope} {N N':List Str} {nt:Nat} {cap:List Nat} {fi fe:FE} {ft:FT} {tgf:FG} {gt:TG} {F:FS}
theorem pds_forE {body:List Stmt} (hp:PassesOwn (model X.prog X.w) X.A X.env X.xe) (hc:X.calm = true) (sg:SndG (tx X c) tgf gt) (pg:PG X (.Tuple ts tk tp) gt) (hgl:Gl X "enumerate") (hm:X.mg "enumerate" = none) (hi:PD X c iter fi) (hb:PDSs X c xq body F) (hst:isStar iter = false := by rfl) :
    PDS X c xq (.For (.Tuple ts tk tp) (.Call (.Name "enumerate" p) [iter] [] ip) body [] pos) (fsForE tgf fi F) :=
  PS.imp (ps_for hp hc (pi_enum hgl hm (pda_cons hi pda_nil hst) (star_one hst)) pg hb (folded_no rfl)) fun _ _ _ h => tDs_forE sg h
end
end DL
end
section
set_option Elab.async false
set_option linter.all false
set_option maxRecDepth 100000
namespace L2
open PySem PySem.Spec PyProof.Rows
end L2
namespace DL
open PySem PySem.Spec PyProof.Rows L2
section
variable {X:Cx} {c:Ct} {e a b:Expr} {f g h:FE} {pos p2:Pos}
end
end DL
end
section
set_option Elab.async false
set_option linter.all false
set_option maxRecDepth 100000
namespace DL
open PySem PySem.Spec PyProof.Rows L2
section
variable {X:Cx}
end
end DL
end
section
set_option Elab.async false
set_option linter.all false
set_option maxRecDepth 100000
namespace DL
open L2
theorem maxL_ge : ∀ (r:List Int) (m:Int),m ≤ maxL m r ∧ ∀ i ∈ r,i ≤ maxL m r
  | [],m => ⟨Int.le_refl _,by simp⟩
  | i :: r,m => by
    have ih := maxL_ge r (if i > m then i else m)
    unfold maxL
    refine ⟨Int.le_trans ?_ ih.1,fun j hj => ?_⟩
    · split <;> omega
    · rcases List.mem_cons.mp hj with rfl | hj
      · exact Int.le_trans (by split <;> omega) ih.1
      · exact ih.2 j hj
theorem maxL_mem : ∀ (r:List Int) (m:Int),maxL m r ∈ m :: r
  | [],m => by simp [maxL]
  | i :: r,m => by
    have ih := maxL_mem r (if i > m then i else m)
    unfold maxL
    rcases List.mem_cons.mp ih with e | e
    · rw [e]
      split
      · exact List.mem_cons_of_mem _ List.mem_cons_self
      · exact List.mem_cons_self
    · exact List.mem_cons_of_mem _ (List.mem_cons_of_mem _ e)
theorem intsOf_map (is:List Int):intsOf (is.map D.int) = some is := by
  induction is with
  | nil => rfl
  | cons x r ih => show (intsOf (r.map D.int)).map (x :: ·) = _; rw [ih]; rfl
end DL
namespace DL
open L2
noncomputable def lookD:List (List Nat) → List D → List Nat → Option D
  | k :: ks,d :: ds,x => if k = x then some d else lookD ks ds x
  | _,_,_ => none
noncomputable def dctIx:D → D → Option D
  | .dct ks ds,.str x => lookD ks ds x
  | _,_ => none
noncomputable def dctGet:D → D → D → Option D
  | .dct ks ds,.str x,v => some ((lookD ks ds x).getD v)
  | _,_,_ => none
@[simp] theorem ev_dctIx (ks:List (List Nat)) (ds:List D) (x:List Nat):dctIx (.dct ks ds) (.str x) = lookD ks ds x := (Eq.refl _).trans (Eq.refl _)
@[simp] theorem ev_dctGet (ks:List (List Nat)) (ds:List D) (x:List Nat) (v:D):dctGet (.dct ks ds) (.str x) v = some ((lookD ks ds x).getD v) := (Eq.refl _).trans (Eq.refl _)
noncomputable def rInts3 (lo st:Int) (n:Nat):List D := (List.range n).map fun k => D.int (lo + st * (k:Nat))
noncomputable def rng3:List D → Option (List D)
  | [.int lo,.int hi,.int st] => if (-1000000000 < lo ∧ lo < 1000000000) ∧ (-1000000000 < hi ∧ hi < 1000000000) ∧ 0 < st ∧ st < 1000000000 then some (rInts3 lo st ((hi - lo + st - 1) / st).toNat) else none
  | _ => none
theorem ev_rng3 (lo hi st:Int):rng3 [.int lo,.int hi,.int st] = if (-1000000000 < lo ∧ lo < 1000000000) ∧ (-1000000000 < hi ∧ hi < 1000000000) ∧ 0 < st ∧ st < 1000000000 then some (rInts3 lo st ((hi - lo + st - 1) / st).toNat) else none := rfl
end DL
end
section
set_option Elab.async false
set_option linter.all false
set_option maxRecDepth 100000
namespace DL
open PySem PySem.Spec PyProof.Rows L2
section
variable {X:Cx} {c:Ct} {e:Expr} {f:FE} {pos:Pos}
end
end DL
end
section
set_option Elab.async false
set_option linter.all false
set_option maxRecDepth 100000
namespace L2
open PySem PySem.Spec PyProof.Rows
section
variable {κ:Type} [DecidableEq κ]
noncomputable def valV (kvs:List (κ × V)) (k : κ):Option V := (kvs.find? fun kv => decide (kv.1 = k)).map (·.2)
noncomputable def putK (kvs:List (κ × V)) (k : κ) (v:V):List (κ × V) :=
  if (kvs.any fun kv => decide (kv.1 = k)) = true then kvs.map (fun kv => if kv.1 = k then (kv.1,v) else kv) else kvs ++ [(k,v)]
theorem valV_pos {p : κ × V} {r:List (κ × V)} {k : κ} (e:p.1 = k):valV (p :: r) k = some p.2 := by simp [valV,List.find?_cons,e]
theorem valV_neg {p : κ × V} {r:List (κ × V)} {k : κ} (e : ¬ p.1 = k):valV (p :: r) k = valV r k := by simp [valV,List.find?_cons,e]
theorem valV_any (k : κ) : ∀ kvs:List (κ × V),(kvs.any fun kv => decide (kv.1 = k)) = (valV kvs k).isSome
  | [] => rfl
  | p :: r => by
    rw [List.any_cons]
    by_cases e:p.1 = k
    · simp only [valV_pos e,decide_eq_true e,Bool.true_or,Option.isSome_some]
    · rw [valV_neg e,decide_eq_false e,Bool.false_or]; exact valV_any k r
theorem valV_snoc (k j : κ) (y:V) : ∀ kvs:List (κ × V),valV kvs k = none → valV (kvs ++ [(k,y)]) j = if j = k then some y else valV kvs j
  | [],_ => by
    by_cases e:k = j
    · rw [if_pos e.symm]; exact valV_pos (p := (k,y)) e
    · rw [if_neg (fun z => e z.symm)]; exact valV_neg (p := (k,y)) e
  | p :: r,hn => by
    rw [List.cons_append]
    have hk : ¬ p.1 = k := fun z => by rw [valV_pos z] at hn; cases hn
    rw [valV_neg hk] at hn
    have ih := valV_snoc k j y r hn
    by_cases e:p.1 = j
    · rw [valV_pos e,valV_pos e,if_neg (fun z => hk (e.trans z))]
    · rw [valV_neg e,valV_neg e,ih]
theorem length_putK (kvs:List (κ × V)) (k : κ) (v:V):(putK kvs k v).length ≤ kvs.length + 1 := by
  unfold putK
  split
  · rw [List.length_map]; omega
  · rw [List.length_append,List.length_cons,List.length_nil]; omega
theorem putK_new {kvs:List (κ × V)} {k : κ} (v:V) (h:valV kvs k = none):putK kvs k v = kvs ++ [(k,v)] := by
  unfold putK
  rw [valV_any,h]
  exact if_neg (by decide)
theorem RelO.getD {o:Option V} {u:Option Value} {d:V} {d':Value} (r:RelO o u) (rd:RelV d d'):RelV (o.getD d) (u.getD d') := by
  cases o with
  | none => cases u with
    | none => exact rd
    | some _ => exact (show False from r).elim
  | some _ => cases u with
    | none => exact (show False from r).elim
    | some _ => exact r
theorem KV.val {kvs:List (κ × V)} {vs:List (κ × Value)} (r:KV kvs vs) (k : κ):RelO (valV kvs k) (valueAt vs k) := by
  unfold KV at r
  induction r with
  | nil => exact True.intro
  | @cons p q ps qs h t ih =>
    obtain ⟨h1,h2⟩ := h
    by_cases e:p.1 = k
    · have e':q.1 = k := h1.symm.trans e
      have b:valueAt (q :: qs) k = some q.2 := by simp [valueAt,List.find?_cons,e']
      rw [valV_pos e,b]; exact h2
    · have e' : ¬ q.1 = k := fun z => e (h1.trans z)
      have b:valueAt (q :: qs) k = valueAt qs k := by simp [valueAt,List.find?_cons,e']
      rw [valV_neg e,b]; exact ih
theorem KV.any {kvs:List (κ × V)} {vs:List (κ × Value)} (r:KV kvs vs) (k : κ):(kvs.any fun kv => decide (kv.1 = k)) = vs.any fun kv => decide (kv.1 = k) := by
  unfold KV at r
  induction r with
  | nil => rfl
  | cons h t ih => rw [List.any_cons,List.any_cons,ih,h.1]
theorem KV.repl {kvs:List (κ × V)} {vs:List (κ × Value)} (r:KV kvs vs) (k : κ) {y:V} {u:Value} (ry:RelV y u) :
    KV (kvs.map fun kv => if kv.1 = k then (kv.1,y) else kv) (vs.map fun kv => if kv.1 = k then (kv.1,u) else kv) := by
  unfold KV at r ⊢
  induction r with
  | nil => exact .nil
  | @cons p q ps qs h t ih =>
    rw [List.map_cons,List.map_cons]
    refine .cons ?_ ih
    obtain ⟨h1,h2⟩ := h
    by_cases e:p.1 = k
    · rw [if_pos e,if_pos (h1.symm.trans e)]; exact ⟨h1,ry⟩
    · rw [if_neg e,if_neg (fun z => e (h1.trans z))]; exact ⟨h1,h2⟩
theorem KV.put {kvs:List (κ × V)} {vs:List (κ × Value)} (r:KV kvs vs) (k : κ) {y:V} {u:Value} (ry:RelV y u):KV (putK kvs k y) (stored vs k u) := by
  unfold putK stored
  rw [r.any k]
  by_cases e:(vs.any fun kv => decide (kv.1 = k)) = true
  · rw [if_pos e,if_pos e]; exact r.repl k ry
  · rw [if_neg e,if_neg e]; exact Paired.snoc r ⟨rfl,ry⟩
end
theorem kV_is {P:Program} {w:World} {k:Key} {u:Value} (r:RelV (kV k) u):(mixKind P w).is k u = true := by
  cases k with
  | inl i => obtain ⟨t,e⟩ := (show ∃ t,u = Value.int i t from r); subst e; exact mixKind_int P w i t
  | inr x => obtain ⟨t,e⟩ := (show ∃ t,u = Value.str x t from r); subst e; exact mixKind_str P w x t
theorem items_are {P:Program} {w:World} : ∀ {ks:List Key} {us:List Value},Vals (ks.map kV) us → ItemsAre (mixKind P w) ks us
  | [],_,r => by rw [List.map_nil] at r; cases r; exact .nil
  | k :: ks,_,r => by
    rw [List.map_cons] at r
    cases r with
    | cons h t => exact .cons (kV_is h) (items_are t)
noncomputable abbrev KT (H:Hp):List (List Key × V) → List (List Key × Addr × Value) → Prop := Paired fun p q => p.1 = q.1 ∧ H q.2.1 = some (.tup (p.1.map kV)) ∧ RelV p.2 q.2.2
theorem KT.val {H:Hp} {kvs:List (List Key × V)} {xs:List (List Key × Addr × Value)} (r:KT H kvs xs) (k:List Key):RelO (valV kvs k) ((atKey xs k).map (·.2)) := by
  induction r with
  | nil => exact True.intro
  | @cons p q ps qs h t ih =>
    obtain ⟨h1,_,h2⟩ := h
    by_cases e:p.1 = k
    · have e':q.1 = k := h1.symm.trans e
      have b:atKey (q :: qs) k = some q.2 := by simp [atKey,List.find?_cons,e']
      rw [valV_pos e,b]; exact h2
    · have e' : ¬ q.1 = k := fun z => e (h1.trans z)
      have b:atKey (q :: qs) k = atKey qs k := by simp [atKey,List.find?_cons,e']
      rw [valV_neg e,b]; exact ih
section
variable {P:Program} {w:World} {H:Hp} {h:Heap} {a:Addr}
theorem rd_of {u:HO} (ok:HOk P w H h) (e:Rd H a u):ObjOk P w H h a u := e.ok ok
theorem dk_rd {kvs:List (Key × V)} (ok:HOk P w H h) (e:Rd H a (.dK kvs)):kvs.length ≤ sizeLine ∧ (a == sysModules) = false ∧ ∃ vs,KV kvs vs ∧ h.DictOf (mixKind P w) a vs :=
  show ObjOk P w H h a (.dK kvs) from rd_of ok e
theorem dk_of {kvs:List (Key × V)} (ok:HOk P w H h) (e:H a = some (.dK kvs)):kvs.length ≤ sizeLine ∧ (a == sysModules) = false ∧ ∃ vs,KV kvs vs ∧ h.DictOf (mixKind P w) a vs := dk_rd ok (.inl e)
theorem key_of {ks:List Key} (ok:HOk P w H h) (e:H a = some (.tup (ks.map kV))):(tupleKind (mixKind P w)).is h ks a := by
  obtain ⟨_,its,r,o,h1,h2,n,h3⟩ := (show ObjOk P w H h a (.tup (ks.map kV)) from ok a _ e)
  exact ⟨o,its.toArray,n,h1,h2,h3,by simpa using items_are r⟩
theorem dt_rd {kvs:List (List Key × V)} (ok:HOk P w H h) (e:Rd H a (.dT kvs)):kvs.length ≤ sizeLine ∧ (a == sysModules) = false ∧
    ∃ xs,KT H kvs xs ∧ h.DictOfH (tupleKind (mixKind P w)) a xs := by
  obtain ⟨z,y,xs,r,o,es,ep,h1,h2,h3,h4,h5⟩ := (show ObjOk P w H h a (.dT kvs) from rd_of ok e)
  refine ⟨z,y,xs,r,o,es,ep,h1,h2,h3,h4,fun x hx => ?_,h5⟩
  have all : ∀ {l:List (List Key × V)} {m:List (List Key × Addr × Value)},KT H l m → ∀ x ∈ m,(tupleKind (mixKind P w)).is h x.1 x.2.1 := by
    intro l m q
    induction q with
    | nil => intro x hx; exact nomatch hx
    | @cons p q ps qs hq t ih =>
      intro x hx
      rcases List.mem_cons.mp hx with e | hx
      · subst e
        exact key_of ok (by rw [← hq.1]; exact hq.2.1)
      · exact ih x hx
  exact all r x hx
end
noncomputable def DGet (H:Hp) (a:Addr) (y:V) (r:Option V):Prop :=
  (∃ kvs k,Rd H a (.dK kvs) ∧ y = kV k ∧ r = valV kvs k) ∨ ∃ kvs k b,Rd H a (.dT kvs) ∧ y = .ref b ∧ H b = some (.tup (k.map kV)) ∧ r = valV kvs k
theorem DGet.k {H:Hp} {a:Addr} {kvs:List (Key × V)} {k:Key} (e:H a = some (.dK kvs)):DGet H a (kV k) (valV kvs k) := .inl ⟨kvs,k,.inl e,rfl,rfl⟩
section
variable {X:Cx} {pins:List (Addr × Obj)} {σ:St} {H:Hp} {s:Shared} {a:Addr} {y v:V} {u r:Value} {o:Option V} {A:Around} {E:Value → Shared → Prop}
theorem Inv.big (I:Inv X pins σ H s):sysModules < s.heap.objs.size := by
  have h:mainGlobals < s.heap.objs.size := (I.mod.glob.keeps I.bk).lt
  exact Nat.lt_trans (by decide) h
theorem d_getItem {Q:Value → Shared → Prop} (hu:A.units + 1 < cLine) (I:Inv X pins σ H s) (g:DGet H a y (some v)) (ry:RelV y u) (h : ∀ w' s',Inv X pins σ H s' → RelV v w' → Q w' s') :
    wpAny (model X.prog X.w) A (getItem (.ref a) u) Q E s := by
  rcases g with ⟨kvs,k,e,ey,l⟩ | ⟨kvs,k,b,e,ey,eb,l⟩
  · subst ey
    obtain ⟨z,hd,vs,rel,dd⟩ := dk_rd I.hok e
    obtain ⟨w',hw,rw'⟩ := RelO.some_of (v := v) (o := valueAt vs k) (by rw [l]; exact rel.val k)
    exact wpAny_getItem_of (kV_is ry) dd.mapOf hw (h w' _ (I.tok _) rw')
  · subst ey
    cases (show u = Value.ref b from ry)
    obtain ⟨z,hd,xs,rel,dd⟩ := dt_rd I.hok e
    obtain ⟨w',hw,rw'⟩ := RelO.some_of (v := v) (o := (atKey xs k).map (·.2)) (by rw [l]; exact rel.val k)
    obtain ⟨p,hp,hp2⟩ := Option.map_eq_some_iff.mp hw
    refine wpAny_getItem_heap (tupleKind_room_in1 hu) (key_of I.hok eb) dd hp ?_
    rw [hp2]
    exact h w' _ (I.tok _) rw'
theorem d_write {h':Heap} {t':Nat} {ob:HO} (I:Inv X pins σ H s) (mu:Mut (H a)) (hs:Heap.SameBut a s.heap h') (he : ∃ q,h'.get? a = some q) (new:ObjOk X.prog X.w (upd H a ob) h' a ob) :
    Inv X pins σ (upd H a ob) { s with heap := h',toks := t' } :=
  I.write (x := a) (e := a) mu (.inl rfl) (fun b q hb z => (hs.2 b hb).trans z) he new
theorem dk_new {P:Program} {w:World} {H':Hp} {h':Heap} {kvs:List (Key × V)} {vs:List (Key × Value)} (z:kvs.length ≤ sizeLine) (hd:(a == sysModules) = false) (rel:KV kvs vs) (dd:h'.DictOf (mixKind P w) a vs) :
    ObjOk P w H' h' a (.dK kvs) := ⟨z,hd,vs,rel,dd⟩
end
section
variable {X:Cx} {pins:List (Addr × Obj)} {σ:St} {H:Hp} {s:Shared} {a:Addr} {kvs:List (Key × V)} {k:Key} {u:Value} {A:Around} {E:Value → Shared → Prop}
end
noncomputable def NoSl (i:Expr):Prop := ∀ ov iv,subscripted i false ov iv = operate [ov,iv] (getItem ov iv)
theorem subD_of {prog:Program} {w:World} {A:Around} {E:Value → Shared → Prop} {s:Shared} {env:Env} {value slice:Expr} {pos:Pos} {T id:String} {Q:Value → Shared → Prop}
    (hl:typeLookup (.type T) "__getitem__" = pure (some (.builtin id))) (hs:NoSl slice)
    (h:wpAny (model prog w) A (eval value env) (fun o s₁ => wpAny (model prog w) A (eval slice env) (fun i s₂ => s₂.TypeIs o T ∧ wpAny (model prog w) A (getItem o i) Q E s₂) E s₁) E s) :
    wpAny (model prog w) A (eval (.Subscript value slice pos) env) Q E s := by
  refine Subscript_ (wpAny_mono h (fun o s₁ h₁ => wpAny_mono h₁ (fun i s₂ h₂ => ?_) fun _ _ x => x) fun _ _ x => x)
  obtain ⟨hT,h₂⟩ := h₂
  unfold subscriptTail
  refine wpAny_bind ?_
  rw [getitemInPython_of_ne hT.not_modules]
  refine wpAny_bind (wpAny_specialOf hT hl ?_)
  have fin:wpAny (model prog w) A (subscripted slice false o i) (fun r s₃ => wpAny (model prog w) A (letTemporaryGo value o r >>= fun _ => pure r) Q E s₃) E s₂ := by
    rw [hs o i]
    exact wpAny_operating (wpAny_mono h₂ (fun r s₃ h₃ => wpAny_bind (wpAny_letTemporaryGo (wpAny_pure h₃))) fun _ _ x => x)
  first
    | exact wpAny_pure (wpAny_bind fin)
    | exact wpAny_bind (wpAny_pure (wpAny_bind fin))
    | exact wpAny_bind fin
theorem dict_typeIs {X:Cx} {pins:List (Addr × Obj)} {σ:St} {H:Hp} {s:Shared} {a:Addr} {y:V} {o:Option V} (I:Inv X pins σ H s) (g:DGet H a y o):s.TypeIs (.ref a) "dict" := by
  rcases g with ⟨kvs,k,e,_,_⟩ | ⟨kvs,k,b,e,_,_,_⟩
  · obtain ⟨_,_,vs,_,dd⟩ := dk_rd I.hok e
    exact dd.typeIs
  · obtain ⟨_,_,xs,_,dd⟩ := dt_rd I.hok e
    exact dd.typeIs
noncomputable def tDGet (td ty:TE):TE := fun σ H Q => td σ H fun x H1 => ty σ H1 fun y H2 => ∃ a v,x = .ref a ∧ DGet H2 a y (some v) ∧ Q v H2
section
variable {X:Cx} {o i e value:Expr} {pos pos' tpos:Pos} {td ty tv:TE}
theorem pe_dget (hu:X.A.units + 1 < cLine) (ho:PE X o td) (hi:PE X i ty) (hs:NoSl i):PE X (.Subscript o i pos) (tDGet td ty) := by
  intro pins s σ H Q I h
  refine subD_of PySem.F.slot_dict_getitem.lookup hs (thn5 (ho pins s σ H _ I h) fun u s1 x H1 I1 rx q1 => thn5 (hi pins s1 σ H1 _ I1 q1) fun iv s2 y H2 I2 ry zz_ => ?_)
  obtain ⟨a,v,ex,g,q2⟩ := zz_
  subst ex
  obtain rfl:u = Value.ref a := rx
  exact ⟨dict_typeIs I2 g,d_getItem hu I2 g ry fun w' s3 I3 rw' => ⟨v,H2,I3,rw',q2⟩⟩
end
theorem dk_empty {P:Program} {w:World} {H:Hp} (h:Heap) (hb:sysModules < h.objs.size):ObjOk P w H (h.push { cls := .type "dict",data := .dict #[] }) h.objs.size (.dK []) :=
  ⟨Nat.zero_le _,beq_eq_false_iff_ne.mpr (Ne.symm (Nat.ne_of_lt hb)),[],.nil,Heap.DictOf.new h⟩
section
variable {X:Cx} {pos:Pos}
end
noncomputable def tPairs:List (TE × TE) → St → Hp → (List (V × V) → Hp → Prop) → Prop
  | [],_,H,Q => Q [] H
  | (tk,tv) :: r, σ,H,Q => tk σ H fun x H1 => tv σ H1 fun y H2 => tPairs r σ H2 fun ps H3 => Q ((x,y) :: ps) H3
noncomputable abbrev VV:List (V × V) → List (Value × Value) → Prop := Paired fun p q => RelV p.1 q.1 ∧ RelV p.2 q.2
noncomputable def PPs (X:Cx) (pos:Pos) (keys:List (Option Expr)) (values:List Expr) (trs:List (TE × TE)):Prop :=
  ∀ (pins:List (Addr × Obj)) (s:Shared) (σ:St) (H:Hp) (Q:List (V × V) → Hp → Prop),Inv X pins σ H s → tPairs trs σ H Q →
    wpAny (model X.prog X.w) X.A (evalPairs (pairTrees keys values X.env pos)) (fun vs s' => ∃ ps H',Inv X pins σ H' s' ∧ VV ps vs ∧ Q ps H') X.xe s
theorem pps_nil {X:Cx} {pos:Pos}:PPs X pos [] [] [] := fun pins s σ H Q I h => pairTrees_nil_walk ⟨[],H,I,.nil,h⟩
theorem pps_cons {X:Cx} {pos:Pos} {k v:Expr} {ks:List (Option Expr)} {vs:List Expr} {tk tv:TE} {trs:List (TE × TE)} (hk:PE X k tk) (hv:PE X v tv) (hr:PPs X pos ks vs trs) :
    PPs X pos (some k :: ks) (v :: vs) ((tk,tv) :: trs) := fun pins s σ H Q I h =>
  pairTrees_cons_walk (thn5 (hk pins s σ H _ I h) fun u s1 x H1 I1 rx q1 => thn5 (hv pins s1 σ H1 _ I1 q1) fun w2 s2 y H2 I2 ry q2 =>
    thn5 (hr pins s2 σ H2 _ I2 q2) fun ws s3 ps H3 I3 rel q3 => ⟨(x,y) :: ps,H3,I3,.cons ⟨rx,ry⟩ rel,q3⟩)
noncomputable def mergeK (kvs more:List (Key × V)):List (Key × V) := more.foldl (fun acc kv => putK acc kv.1 kv.2) kvs
theorem KV.merge : ∀ {more:List (Key × V)} {rs:List (Key × Value)} {kvs:List (Key × V)} {vs:List (Key × Value)},KV more rs → KV kvs vs → KV (mergeK kvs more) (merged vs rs) := by
  intro more rs kvs vs r
  unfold KV at r
  induction r generalizing kvs vs with
  | nil => intro q; exact q
  | @cons p q ps qs h t ih =>
    intro r0
    have e:KV (putK kvs p.1 p.2) (stored vs q.1 q.2) := by
      have := r0.put p.1 h.2
      rw [← h.1]; exact this
    exact ih e
theorem length_mergeK : ∀ (more kvs:List (Key × V)),(mergeK kvs more).length ≤ kvs.length + more.length
  | [],kvs => by show kvs.length ≤ kvs.length + 0; omega
  | p :: r,kvs => by
    have h1 := length_mergeK r (putK kvs p.1 p.2)
    have h2 := length_putK kvs p.1 p.2
    show (mergeK (putK kvs p.1 p.2) r).length ≤ _
    rw [List.length_cons]; omega
theorem carries_of {P:Program} {w:World} : ∀ {kvs:List (Key × V)} {ws:List (Value × Value)},VV (kvs.map fun kv => (kV kv.1,kv.2)) ws → ∃ rs,Carries (mixKind P w) ws rs ∧ KV kvs rs
  | [],_,r => by rw [List.map_nil] at r; cases r; exact ⟨[],True.intro,.nil⟩
  | p :: kvs,_,r => by
    rw [List.map_cons] at r
    cases r with
    | @cons a b as bs h t =>
      obtain ⟨rs,c,q⟩ := carries_of (P := P) (w := w) t
      obtain ⟨b1,b2⟩ := b
      exact ⟨(p.1,b2) :: rs,⟨kV_is h.1,rfl,c⟩,.cons ⟨rfl,h.2⟩ q⟩
noncomputable def tDisp (trs:List (TE × TE)):TE := fun σ H Q => ∀ p,H p = none → tPairs trs σ (upd H p (.dK [])) fun ps H2 => H2 p = some (.dK []) ∧ ∃ kvs:List (Key × V),ps = kvs.map (fun kv => (kV kv.1,kv.2)) ∧ kvs.length ≤ 15 ∧ Q (.ref p) (upd H2 p (.dK (mergeK [] kvs)))
theorem pe_disp {X:Cx} {pos:Pos} {keys:List (Option Expr)} {values:List Expr} {trs:List (TE × TE)} (h:PPs X pos keys values trs) (hall:keys.all (·.isSome) = true) (hl:keys.length = values.length) (h0:keys ≠ [])
    (h15:keys.length ≤ 15):PE X (.Dict keys values pos) (tDisp trs) := by
  intro pins s σ H Q I q
  have hn := I.hok.fresh (Nat.le_refl s.heap.objs.size)
  have I1 := I.laid (a := s.heap.objs.size) (o := .dK []) (h' := s.heap.push { cls := .type "dict",data := .dict #[] }) (t' := s.toks) (fun _ _ q => Heap.get?_push_of_some _ q) (Nat.le_refl _) (dk_empty s.heap I.big)
  refine wpAny_Dict_walk (knd := mixKind X.prog X.w) hall hl h0 h15 (thn5 (h pins _ σ _ _ I1 (q _ hn)) fun ws s2 ps H2 I2 rel zz_ => ?_)
  obtain ⟨e,kvs,ep,lk,q2⟩ := zz_
  subst ep
  obtain ⟨rs,c,rk⟩ := carries_of (P := X.prog) (w := X.w) rel
  obtain ⟨z,hd,vs0,r0,dd⟩ := dk_of I2.hok e
  cases r0
  refine ⟨rs,c,dd,fun h' dd' hs => ⟨.ref s.heap.objs.size,_, ?_,rfl,q2⟩⟩
  have hz:(mergeK [] kvs).length ≤ sizeLine := by
    have h1 := length_mergeK kvs []
    rw [List.length_nil] at h1
    rw [sizeLine_eq]; omega
  have he : ∃ q,h'.get? s.heap.objs.size = some q := let ⟨q,_,_,hq,_⟩ := dd'; ⟨q,hq⟩
  exact d_write I2 (by rw [e]; exact True.intro) hs he (dk_new hz hd (rk.merge .nil) dd')
structure M2 (X:Cx) (o:Expr) (m:Str) (apos:Pos) (e f:Expr) (cpos:Pos):Prop where
  base:attributeBase o m X.env (eval o X.env) = eval o X.env
  few:((backTo cpos (starEach [e,f] X.env)).all (fun x => !x.1) && (backToKw cpos (keywordEach [] X.env)).all (fun x => x.1.isSome)
    && decide (([e,f]:List Expr).length + ([]:List Keyword).length + (if ([]:List Keyword).isEmpty then 0 else 1) < 30)) = true
  line:(apos.endLine == cpos.line) = true
  trees:backTo cpos (starEach [e,f] X.env) = [(false,eval e X.env),(false,eval f X.env)]
noncomputable def IsD (H:Hp) (a:Addr):Prop := (∃ kvs,Rd H a (.dK kvs)) ∨ ∃ kvs,Rd H a (.dT kvs)
theorem isD_at {X:Cx} {pins:List (Addr × Obj)} {σ:St} {H:Hp} {s:Shared} {a:Addr} (I:Inv X pins σ H s) (d:IsD H a) :
    s.TypeIs (.ref a) "dict" ∧ (∀ b,Value.ref a = .ref b → ∃ ob,s.heap.get? b = some ob ∧ ob.dict = none) ∧ (a == sysModules) = false := by
  rcases d with ⟨kvs,e⟩ | ⟨kvs,e⟩
  · obtain ⟨_,hd,vs,_,dd⟩ := dk_rd I.hok e
    refine ⟨dd.typeIs,fun b q => ?_,hd⟩
    cases q
    obtain ⟨ob,_,_,h1,h2,_⟩ := dd
    exact ⟨ob,h1,h2.2.1⟩
  · obtain ⟨_,hd,xs,_,dd⟩ := dt_rd I.hok e
    refine ⟨dd.typeIs,fun b q => ?_,hd⟩
    cases q
    obtain ⟨ob,_,_,h1,h2,_⟩ := dd
    exact ⟨ob,h1,h2.2.1⟩
section
variable {X:Cx} {pins:List (Addr × Obj)} {σ:St} {H:Hp} {s:Shared} {a:Addr} {y d:V} {u r:Value} {o:Option V} {A:Around} {E:Value → Shared → Prop}
theorem d_get2 {Q:Value → Shared → Prop} (hu:A.units + 1 < cLine) (I:Inv X pins σ H s) (g:DGet H a y o) (ry:RelV y u) (rd:RelV d r) (h : ∀ w' s',Inv X pins σ H s' → RelV (o.getD d) w' → Q w' s') :
    wpAny (model X.prog X.w) A (call (.builtin "dict.get") [.ref a,u,r]) Q E s := by
  rcases g with ⟨kvs,k,e,ey,l⟩ | ⟨kvs,k,b,e,ey,eb,l⟩
  · subst ey
    obtain ⟨z,hd,vs,rel,dd⟩ := dk_rd I.hok e
    refine call_meetsIn PySem.F.slot_dict_get dd.typeIs PySem.F.entry_dict_get (PySem.F.args_dict_get_3 _ _ _) (meets_dict_get_default (mixKind X.prog X.w) a (kV_is ry) hd r) ⟨_,dd.mapOf,h _ _ (I.tok _) ?_⟩
    rw [l]
    exact (rel.val k).getD rd
  · subst ey
    cases (show u = Value.ref b from ry)
    obtain ⟨z,hd,xs,rel,dd⟩ := dt_rd I.hok e
    refine call_meetsIn PySem.F.slot_dict_get dd.typeIs PySem.F.entry_dict_get (PySem.F.args_dict_get_3 _ _ _) (meetsH_dict_get_default (tupleKind (mixKind X.prog X.w)) a b hd r) ⟨tupleKind_room_in1 hu,k,xs,key_of I.hok eb,dd,h _ _ (I.tok _) ?_⟩
    rw [l]
    exact (rel.val k).getD rd
end
noncomputable def tDGet2 (td ty tx:TE):TE := fun σ H Q => td σ H fun x H1 => ∃ a,x = .ref a ∧ IsD H1 a ∧ ty σ H1 fun y H2 => tx σ H2 fun z H3 => ∃ o,DGet H3 a y o ∧ Q (o.getD z) H3
section
variable {X:Cx} {o e f:Expr} {apos cpos:Pos} {td ty tx:TE}
theorem pe_dget2 (hu:X.A.units + 1 < cLine) (ho:PE X o td) (he:PE X e ty) (hf:PE X f tx) (m:M2 X o "get" apos e f cpos):PE X (.Call (.Attribute o "get" apos) [e,f] [] cpos) (tDGet2 td ty tx) := by
  intro pins s σ H Q I h
  refine wpAny_Call_method m.base m.few m.line PySem.F.plainAttrs_dict PySem.F.slot_dict_get PySem.F.type_dict_get (thn5 (ho pins s σ H _ I h) fun u s1 x H1 I1 rx zz_ => ?_)
  obtain ⟨a,ex,d,q1⟩ := zz_
  subst ex
  obtain rfl:u = Value.ref a := rx
  obtain ⟨t1,t2,_⟩ := isD_at I1 d
  refine ⟨t1,t2, ?_⟩
  rw [m.trees]
  refine Calls.callWith_builtin rfl (Calls.evalArgs_plain (Calls.spliced_cons (thn5 (he pins s1 σ H1 _ I1 q1) fun iv s2 y H2 I2 ry q2 =>
    Calls.spliced_cons (thn5 (hf pins s2 σ H2 _ I2 q2) fun fv s3 z H3 I3 rz ⟨ov,g,q3⟩ => Calls.spliced_nil ?_))))
  exact d_get2 hu I3 g ry rz fun w' s4 I4 rw' => ⟨_,H3,I4,rw',q3⟩
end
end L2
end
section
set_option Elab.async false
set_option linter.all false
set_option maxRecDepth 100000
namespace DL
open PySem PySem.Spec PyProof.Rows L2
noncomputable def kcT (ps:List (List Nat × Int)):List (TE × TE) := ps.map fun p => (tC (.str (mkS p.1)),tC (.int p.2))
noncomputable abbrev KC (X:Cx) (pos:Pos) (keys:List (Option Expr)) (values:List Expr) (ps:List (List Nat × Int)):Prop := PPs X pos keys values (kcT ps)
theorem kc_nil {X:Cx} {pos:Pos}:KC X pos [] [] [] := pps_nil
theorem kc_cons {X:Cx} {pos p1 p2:Pos} {x:Str} {z:List Nat} {i:Int} {j1 j2} {ks:List (Option Expr)} {vs:List Expr} {ps:List (List Nat × Int)} (hx:x = mkS z) (h:KC X pos ks vs ps):KC X pos (some (.Constant (.str x) j1 p1) :: ks) (.Constant (.int i) j2 p2 :: vs) ((z,i) :: ps) := by
  subst hx
  exact pps_cons pe_str pe_int h
theorem kc_pairs (σ:L2.St) : ∀ (ps:List (List Nat × Int)) (H:Hp) (Q:List (V × V) → Hp → Prop),Q (ps.map fun p => (V.str (mkS p.1),V.int p.2)) H → tPairs (kcT ps) σ H Q
  | [],H,Q,h => h
  | p :: ps,H,Q,h => kc_pairs σ ps H _ h
theorem merge_nodup : ∀ (more kvs:List (Key × V)),(more.map (·.1)).Nodup → (∀ k ∈ more,valV kvs k.1 = none) → mergeK kvs more = kvs ++ more
  | [],kvs,_,_ => by simp [mergeK]
  | p :: r,kvs,nd,h => by
    have e := putK_new p.2 (h p List.mem_cons_self)
    show mergeK (putK kvs p.1 p.2) r = _
    rw [e,merge_nodup r _ (List.nodup_cons.mp nd).2 fun q hq => ?_]
    · simp
    · have hne:q.1 ≠ p.1 := fun z => (List.nodup_cons.mp nd).1 (List.mem_map.mpr ⟨q,hq,z⟩)
      rw [valV_snoc _ _ _ _ (h p List.mem_cons_self),if_neg hne]
      exact h q (List.mem_cons_of_mem _ hq)
section
variable {X:Cx} {c:Ct} {a b e o:Expr} {f g h:FE} {pos:Pos}
theorem pd_dct {keys:List (Option Expr)} {values:List Expr} {ps:List (List Nat × Int)} (k:KC X pos keys values ps) (nd:(ps.map (·.1)).Nodup) (hall:keys.all (·.isSome) = true := by rfl) (hl:keys.length = values.length := by rfl) (h0:keys ≠ [] := by exact fun z => nomatch z) (h15:keys.length ≤ 15 := by decide) (h15':ps.length ≤ 15 := by decide) :
    PD X c (.Dict keys values pos) (feC (.dct (ps.map (·.1)) (ps.map fun p => .int p.2))) := PE.imp (pe_disp k hall hl h0 h15) fun σ H Q h => by
  obtain ⟨W,O,env,d,E,e,q⟩ := h
  cases e
  intro p hp
  refine kc_pairs σ ps _ _ ⟨upd_same,ps.map fun p => ((Sum.inr (mkS p.1):Key),V.int p.2), ?_,by simpa using h15', ?_⟩
  · rw [List.map_map]; rfl
  · have em:mergeK [] (ps.map fun p => ((Sum.inr (mkS p.1):Key),V.int p.2)) = ps.map fun p => ((Sum.inr (mkS p.1):Key),V.int p.2) := by
      rw [merge_nodup _ [] ?_ (fun _ _ => rfl)]
      · rfl
      · rw [List.map_map]
        have:((fun x:Key × V => x.1) ∘ fun p:List Nat × Int => ((Sum.inr (mkS p.1):Key),V.int p.2)) = (fun k:List Nat => (Sum.inr (mkS k):Key)) ∘ fun p => p.1 := rfl
        rw [this, ← List.map_map]
        exact List.Pairwise.map _ (fun a b hab z => hab (mkS_inj (Sum.inr.inj z))) nd
    rw [em]
    have s:Same H (L2.upd (L2.upd H p (.dK [])) p (.dK (ps.map fun p => ((Sum.inr (mkS p.1):Key),V.int p.2)))) := fun b u hb => by
      have:b ≠ p := fun z => by rw [z,hp] at hb; cases hb
      rw [upd_ne this,upd_ne this]; exact hb
    refine q _ _ s ?_
    show Rep _ _ _ _ _
    simp only [Rep]
    refine ⟨p,_,rfl,E.newA hp,upd_same, ?_, ?_⟩
    · rw [List.map_map,List.map_map]; rfl
    · rw [List.map_map]
      have:((fun x:Key × V => x.2) ∘ fun p:List Nat × Int => ((Sum.inr (mkS p.1):Key),V.int p.2)) = V.int ∘ fun p => p.2 := rfl
      rw [this, ← List.map_map]
      have e2:(ps.map fun p => D.int p.2) = (ps.map fun p => p.2).map D.int := by rw [List.map_map]; rfl
      rw [e2]
      exact RepL.ints_ _
theorem look_rep {T:Tx} {A:Addr → Prop} {H:Hp} (x:List Nat) : ∀ (ks:List (List Nat)) (ds:List D) (kvs:List (Key × V)),kvs.map (·.1) = ks.map (fun k => (Sum.inr (mkS k):Key)) → RepL T A H ds (kvs.map (·.2)) →
    (∃ d v,lookD ks ds x = some d ∧ valV kvs (Sum.inr (mkS x)) = some v ∧ Rep T A H d v) ∨ (lookD ks ds x = none ∧ valV kvs (Sum.inr (mkS x)) = none)
  | [],ds,kvs,hk,r => by
    have:kvs = [] := by simpa using hk
    subst this
    exact .inr ⟨by cases ds <;> rfl,rfl⟩
  | k :: ks,ds,kvs,hk,r => by
    cases kvs with
    | nil => simp at hk
    | cons p kvs =>
      simp only [List.map_cons,List.cons.injEq] at hk
      rw [List.map_cons] at r
      cases ds with
      | nil => have := r.nil_; cases this
      | cons d ds =>
        obtain ⟨v,t,ev,r1,r2⟩ := r.cons_
        cases ev
        by_cases h:k = x
        · subst h
          exact .inl ⟨d,p.2,by simp [lookD],valV_pos hk.1,r1⟩
        · have hne : ¬ p.1 = Sum.inr (mkS x) := fun z => h (mkS_inj (Sum.inr.inj (hk.1.symm.trans z)))
          have e1:lookD (k :: ks) (d :: ds) x = lookD ks ds x := by simp [lookD,h]
          rw [e1,valV_neg hne]
          exact look_rep x ks ds kvs hk.2 r2
theorem pd_dix (hu:X.A.units + 1 < cLine) (ha:PD X c a f) (hb:PD X c b g) (hs:NoSl b := by exact fun _ _ => rfl):PD X c (.Subscript a b pos) (fp2 dctIx f g) := PE.imp (pe_dget hu ha hb hs) fun σ H Q h => by
  obtain ⟨W,O,env,d,E,e,q⟩ := h
  unfold fp2 at e
  cases e1:f env with
  | none => rw [e1] at e; cases e
  | some x =>
    rw [e1] at e
    dsimp only [Option.bind_some] at e
    cases e2:g env with
    | none => rw [e2] at e; cases e
    | some y =>
      rw [e2] at e
      dsimp only [Option.bind_some] at e
      unfold dctIx at e
      split at e
      · rename_i ks ds z
        refine ⟨W,O,env,_,E,e1,fun v1 H1 s1 r1 => ?_⟩
        refine ⟨W,O,env,_,E.mono s1,e2,fun v2 H2 s2 r2 => ?_⟩
        cases Rep.str_ r2
        obtain ⟨a,kvs,rfl,_,hH,hk,rl⟩ := (r1.mono s2 (A' := Cl W O) fun _ z => z).dct_
        rcases look_rep z ks ds kvs hk rl with ⟨d',v,h1,h2,h3⟩ | ⟨h1,_⟩
        · rw [h1] at e; cases e
          exact ⟨a,v,rfl,h2 ▸ DGet.k (k := Sum.inr (mkS z)) hH,q _ _ (s1.trans s2) h3⟩
        · rw [h1] at e; cases e
      · cases e
theorem pd_dget {k v:Expr} {p2 p3:Pos} (hu:X.A.units + 1 < cLine) (ho:PD X c o f) (hk:PD X c k g) (hv:PD X c v h) (hb:attributeBase o "get" X.env (eval o X.env) = eval o X.env := by rfl) (hs:isStar k = false := by rfl) (hs2:isStar v = false := by rfl) (hl:(p2.endLine == p3.line) = true := by rfl) :
    PD X c (.Call (.Attribute o "get" p2) [k,v] [] p3) (fp3 dctGet f g h) :=
  PE.imp (pe_dget2 hu ho hk hv ⟨hb,by rw [star_two hs hs2]; rfl,hl,by rw [star_two hs hs2]; rfl⟩) fun σ H Q q => by
  obtain ⟨W,O,env,d,E,e,q⟩ := q
  unfold fp3 at e
  cases e1:f env with
  | none => rw [e1] at e; cases e
  | some x =>
    rw [e1] at e
    dsimp only [Option.bind_some] at e
    cases e2:g env with
    | none => rw [e2] at e; cases e
    | some y =>
      rw [e2] at e
      dsimp only [Option.bind_some] at e
      cases e3:h env with
      | none => rw [e3] at e; cases e
      | some w =>
        rw [e3] at e
        dsimp only [Option.bind_some] at e
        cases x with
        | dct ks ds =>
         cases y with
         | str z =>
          have e:some ((lookD ks ds z).getD w) = some d := e
          cases e
          refine ⟨W,O,env,_,E,e1,fun v1 H1 s1 r1 => ?_⟩
          obtain ⟨a,kvs,rfl,hA,hH,hk,rl⟩ := r1.dct_
          refine ⟨a,rfl,.inl ⟨kvs,.inl hH⟩,W,O,env,_,E.mono s1,e2,fun v2 H2 s2 r2 => ?_⟩
          cases Rep.str_ r2
          refine ⟨W,O,env,_,E.mono (s1.trans s2),e3,fun v3 H3 s3 r3 => ?_⟩
          have hH3 := (s2.trans s3) _ _ hH
          have rl3 := rl.mono (s2.trans s3) (A' := Cl W O) fun _ z => z
          refine ⟨_,DGet.k (k := Sum.inr (mkS z)) hH3,q _ _ (s1.trans (s2.trans s3)) ?_⟩
          rcases look_rep z ks ds kvs hk rl3 with ⟨d',v,h1,h2,h3⟩ | ⟨h1,h2⟩
          · rw [h1,h2]; exact h3
          · rw [h1,h2]; exact r3
         | _ => cases e
        | _ => cases e
end
end DL
end
section
set_option Elab.async false
set_option linter.all false
set_option maxRecDepth 100000
namespace L2
open PySem PySem.Spec PyProof.Rows
end L2
namespace DL
open PySem PySem.Spec PyProof.Rows L2
section
variable {T:Tx} {ft:FT} {fe:FE} {σ:L2.St} {H:Hp} {Q:VK} {tg:FG} {g:TG}
end
section
variable {X:Cx} {c:Ct} {pos:Pos} {elt tg a b e3:Expr} {ifs:List Expr} {scope sc:Scope} {N N':List Str} {nt:Nat} {cap:List Nat} {fe:FE} {ft:FT} {tgf:FG} {gt:TG}
end
end DL
end
section
set_option Elab.async false
set_option linter.all false
set_option maxRecDepth 100000
namespace L2
open PySem PySem.Spec PyProof.Rows
section
variable {pr:Program} {wd:World} {Ar:Around} {Rs:Result → Shared → Prop} {it:Addr} {fs ws:List Addr} {m:Nat} {Pv:Nat → Value → Prop} {Sv:Nat → Heap → Prop} {kw:List (Str × Value)}
theorem maxK_name:(toString "max" ++ toString ".loop":String) = "max.loop" := by decide
theorem maxK_loop (Wk:Walks pr wd Ar.in1 it fs ws m Pv Sv) (bt:Nat → Nat → Bool) (cmp:CmpOf pr wd Ar.in1 .Gt Pv bt) (B:Addr) (hB:B ∉ fs) :
    ∀ (k j:Nat) (sh:Shared) (vb:Value) (c:Nat),m - (j + 1) = k → j + 1 ≤ m → Sv (j + 1) sh.heap → Pv (argBest bt j) vb →
    sh.heap.get? B = some { cls := .type "list",dict := none,data := .seq #[vb,vb] c,slots := #[] } →
    (∀ v hp tk,Pv (argBest bt (m - 1)) v → (∀ b o,b ∉ ws → b ≠ B → sh.heap.get? b = some o → hp.get? b = some o) → Rs (.ok (.ret v)) { sh with heap := hp,toks := tk }) →
    codeAny (model pr wd) Ar (.builtin "max.loop" ⟨[.ref it,.none,.ref B],kw⟩) Rs sh := by
  have hBw:B ∉ ws := fun z => hB (Wk.sub _ z)
  intro k
  induction k with
  | zero =>
    intro j sh vb c e1 e2 st pb gB fin
    have em:j + 1 = m := by omega
    refine codeAny_builtin F.entry_max_loop ?_
    rw [Around.under_plainId F.plain_max_loop _]
    show wpAny _ Ar.in1 (seqItems? (.ref B) >>= _) _ _ sh
    refine wpAny_bind (wpAny_seqItems gB rfl ?_)
    show wpAny _ Ar.in1 (tryCatch (pyNext (.ref it)) _ >>= _) _ _ sh
    refine wpAny_bind (wpAny_tryCatch (Wk.done sh _ _ (em ▸ st) fun hp tk kp => ?_))
    have gB' := kp B _ hBw gB
    show wpAny _ Ar.in1 (updateSeq B (fun _ => #[]) >>= _) _ _ _
    refine wpAny_bind (wpAny_updateSeq gB' rfl (wpAny_bind (wpAny_letGo (wpAny_pure ?_))))
    exact fin vb _ tk (by rw [← em]; exact pb) fun b o hb hb2 e => (Heap.get?_update_other _ _ (Ne.symm hb2)).trans (kp b o hb e)
  | succ k ih =>
    intro j sh vb c e1 e2 st pb gB fin
    have lt:j + 1 < m := by omega
    refine codeAny_builtin F.entry_max_loop ?_
    rw [Around.under_plainId F.plain_max_loop _]
    show wpAny _ Ar.in1 (seqItems? (.ref B) >>= _) _ _ sh
    refine wpAny_bind (wpAny_seqItems gB rfl ?_)
    show wpAny _ Ar.in1 (tryCatch (pyNext (.ref it)) _ >>= _) _ _ sh
    refine wpAny_bind (wpAny_tryCatch (Wk.item (j + 1) sh _ _ lt st fun v hp tk pv st' kp => ?_))
    have gB' := kp B _ hBw gB
    show wpAny _ Ar.in1 (tryCatch (holding [v,v] (richCompare .Gt v vb >>= _)) _ >>= _) _ _ _
    refine wpAny_bind (wpAny_tryCatch (wpAny_holding (wpAny_bind (cmp (j + 1) (argBest bt j) v vb _ _ _ pv pb ?_))))
    refine wpAny_bind (wpAny_holding (wpAny_truthy_bool (wpAny_bind (wpAny_letGo (wpAny_pure ?_)))))
    cases hb:bt (j + 1) (argBest bt j) with
    | true =>
      simp only [if_true]
      refine wpAny_bind (wpAny_updateSeq gB' rfl (wpAny_bind (wpAny_letGo ?_)))
      rw [maxK_name]
      refine wpAny_pure ⟨plainId_quiet F.plain_max_loop _,ih (j + 1) _ v _ (by omega) lt (Wk.frame _ _ _ st' fun b hbf o e => (Heap.get?_update_other _ _ (fun z:B = b => hB (by rw [z]; exact hbf))).trans e) (by simp only [argBest,hb,if_true]; exact pv) (Heap.get?_update_self _ gB' rfl) fun v' hp2 tk2 pv' kp2 => ?_⟩
      exact fin v' hp2 tk2 pv' fun b o hbw hbB e => kp2 b o hbw hbB ((Heap.get?_update_other _ _ (Ne.symm hbB)).trans (kp b o hbw e))
    | false =>
      simp only [Bool.false_eq_true,if_false]
      refine wpAny_bind (wpAny_letGo ?_)
      rw [maxK_name]
      refine wpAny_pure ⟨plainId_quiet F.plain_max_loop _,ih (j + 1) _ vb c (by omega) lt st' (by simp only [argBest,hb,Bool.false_eq_true,if_false]; exact pb) gB' fun v' hp2 tk2 pv' kp2 => ?_⟩
      exact fin v' hp2 tk2 pv' fun b o hbw hbB e => kp2 b o hbw hbB (kp b o hbw e)
theorem maxK_first (Wk:Walks pr wd Ar.in1 it fs ws m Pv Sv) (bt:Nat → Nat → Bool) (cmp:CmpOf pr wd Ar.in1 .Gt Pv bt) (B:Addr) (hB:B ∉ fs) {nm:Str} {dv:Value} {sh:Shared} {c:Nat} (st:Sv 0 sh.heap)
    (gB:sh.heap.get? B = some { cls := .type "list",dict := none,data := .seq #[] c,slots := #[] })
    (fin : ∀ v hp tk,(0 < m → Pv (argBest bt (m - 1)) v) → (m = 0 → v = dv) → (∀ b o,b ∉ ws → b ≠ B → sh.heap.get? b = some o → hp.get? b = some o) → Rs (.ok (.ret v)) { sh with heap := hp,toks := tk }) :
    codeAny (model pr wd) Ar (.builtin "max.loop" ⟨[.ref it,.none,.ref B],[(nm,dv)]⟩) Rs sh := by
  have hBw:B ∉ ws := fun z => hB (Wk.sub _ z)
  refine codeAny_builtin F.entry_max_loop ?_
  rw [Around.under_plainId F.plain_max_loop _]
  show wpAny _ Ar.in1 (seqItems? (.ref B) >>= _) _ _ sh
  refine wpAny_bind (wpAny_seqItems gB rfl ?_)
  show wpAny _ Ar.in1 (tryCatch (pyNext (.ref it)) _ >>= _) _ _ sh
  by_cases h0:m = 0
  · refine wpAny_bind (wpAny_tryCatch (Wk.done sh _ _ (by rw [h0]; exact st) fun hp tk kp => ?_))
    show wpAny _ Ar.in1 (do rule _; ret dv) _ _ _
    exact wpAny_bind (wpAny_rule (wpAny_pure (fin dv hp tk (fun z => absurd z (by omega)) (fun _ => rfl) fun b o hb _ e => kp b o hb e)))
  · have hm : 0 < m := by omega
    refine wpAny_bind (wpAny_tryCatch (Wk.item 0 sh _ _ hm st fun v hp tk pv st' kp => ?_))
    have gB' := kp B _ hBw gB
    show wpAny _ Ar.in1 (updateSeq B (fun _ => #[v,v]) >>= _) _ _ _
    refine wpAny_bind (wpAny_updateSeq gB' rfl ?_)
    rw [maxK_name]
    refine wpAny_pure ⟨plainId_quiet F.plain_max_loop _,maxK_loop Wk bt cmp B hB _ 0 _ v _ rfl hm (Wk.frame _ _ _ st' fun b hbf o e => (Heap.get?_update_other _ _ (fun z:B = b => hB (by rw [z]; exact hbf))).trans e) pv (Heap.get?_update_self _ gB' rfl) fun v' hp2 tk2 pv' kp2 => ?_⟩
    exact fin v' hp2 tk2 (fun _ => pv') (fun z => absurd z h0) fun b o hbw hbB e => kp2 b o hbw hbB ((Heap.get?_update_other _ _ (Ne.symm hbB)).trans (kp b o hbw e))
end
section
variable {pr:Program} {wd:World} {Ar:Around} {Er:Value → Shared → Prop} {sh:Shared}
theorem tree_kw {id:String} {b:Builtin} {args:List Value} {kw:List (Str × Value)} {Q:Value → Shared → Prop} (hk:builtinKind id = none) (hp:plainId id = true) (hb:entryFor table id = some b) (ha:argsOk id ⟨args,kw⟩)
    (hc:wpAny (model pr wd) Ar.in1 (b ⟨args,kw⟩) (fun fin s' => match fin with
      | .done f => (match (Except.ok f:Result) with | .ok (.ret v) => Q v s' | .ok _ => False | .error e => Er e s')
      | .again c' => c'.quiet = true ∧ codeAny (model pr wd) Ar c' (fun r s' => match r with | .ok (.ret v) => Q v s' | .ok _ => False | .error e => Er e s') s') Er sh) :
    wpAny (model pr wd) Ar (call (.builtin id) args kw) Q Er sh := by
  refine wpAny_call (codeAny_call_builtin hp hb ?_)
  simp only [checkBuiltinCall,hk]
  cases hsig:Manifest.signature? id with
  | none => exact wpAny_pure hc
  | some sig =>
    have ha':Bind.checkArgs id sig ⟨args,kw⟩ = pure () := by simpa only [argsOk,hsig] using ha
    simp only [ha']
    exact wpAny_pure hc
theorem args_maxD (x d:Value):argsOk "max" ⟨[x],[("default",d)]⟩ := by unfold argsOk; kernel_rfl
theorem max_listD {l:Addr} {xs:Array (Int × Tok)} {dv:Value} {Q:Value → Shared → Prop} (hh:Ar.handled = none) (hl:sh.heap.IsList l (intItems xs))
    (h : ∀ v hp tk,(0 < xs.size → (intItems xs)[argBest (fun i j => decide (numAt xs i > numAt xs j)) (xs.size - 1)]? = some v) → (xs.size = 0 → v = dv) → (∀ b o,sh.heap.get? b = some o → hp.get? b = some o) → Q v { sh with heap := hp,toks := tk }) :
    wpAny (model pr wd) Ar (call (.builtin "max") [.ref l] [("default",dv)]) Q Er sh := by
  refine tree_kw F.kind_max F.plain_max F.entry_max (args_maxD _ _) ?_
  show wpAny _ Ar.in1 (Builtin.Builtins.bindParams "max" ["key", "default"] 0 ⟨[],[("default",dv)]⟩ >>= _) _ _ sh
  refine wpAny_bind (wpAny_of_eq (show Builtin.Builtins.bindParams "max" ["key", "default"] 0 ⟨[],[("default",dv)]⟩ = pure [none,some dv] from rfl) ?_)
  refine wpAny_bind (wpAny_pure ?_)
  refine wpAny_bind (iter_intList hl fun s2 e st hfp hlI => ?_)
  subst e
  refine wpAny_bind (wpAny_newObj_type ?_)
  have W := Walks.list (prog := pr) (w := wd) (A := Ar.in1) hh _ l hlI (intItems xs)
  rw [maxK_name]
  refine wpAny_pure ⟨plainId_quiet F.plain_max_loop _,maxK_first W _ (CmpOf.ints_gt (numAt xs) (fun _ _ => intItems_at)) _ (fun hm => Nat.lt_irrefl _ (hfp _ hm)) (W.frame _ _ _ st fun b _ o e => Heap.get?_push_of_some _ e) (Heap.get?_push_size _ rfl) fun v hp tk hP h0 hk => ?_⟩
  have hsz:(intItems xs).size = xs.size := by simp [intItems]
  refine h v hp tk (fun z => ?_) (fun z => h0 (by rw [hsz]; exact z)) ?_
  · have := hP (by rw [hsz]; exact z)
    rw [hsz] at this
    exact this
  · intro b o e
    have lt := Heap.lt_size e
    have e1:(sh.heap.push { cls := .type "list_iterator",data := .fields #[.ref l,.int 0 0] }).get? b = some o := Heap.get?_push_of_some _ e
    refine hk b o (fun z => ?_) (Nat.ne_of_lt (Heap.lt_size e1)) (Heap.get?_push_of_some _ e1)
    have:b = sh.heap.objs.size := by simpa using z
    rw [this] at lt
    exact Nat.lt_irrefl _ lt
end
section
variable {X:Cx} {a b:Expr} {ta tb:TE} {p pos kp:Pos}
noncomputable def tMaxD (K:PySem.W.Frag) (ta:TA) (tb:TE):TE := fun σ H Q => ta σ H fun vs H1 => tb σ H1 fun y H2 => ∃ (l:Addr) (is:List Int),vs = [.ref l] ∧ SqL K H2 l (is.map V.int) ∧ Q (match is with | [] => y | i :: r => .int (DL.maxL i r)) H2
theorem pe_maxD {ta:TA} (hc:X.calm = true) (hg:Gl X "max") (hm:X.mg "max" = none) (ha:PA X [a] ta) (hb:PE X b tb) (hs:starEach [a] X.env = [(false,eval a X.env)]) :
    PE X (.Call (.Name "max" p) [a] [⟨some "default",b,kp⟩] pos) (tMaxD X.K ta tb) := by
  intro pins s σ H Q I h
  refine wpAny_Call_Name_kw (ld_blt I hg hm boot_max ?_)
  refine callWith_kw (thn5 (ha pos pins s σ H _ I h) fun us s1 vs H1 I1 r1 q1 => kws_cons (thn5 (hb pins s1 σ H1 _ I1 q1) fun y s2 yv H2 I2 ry q2 => kws_nil ?_)) (by rw [hs]; rfl) (by rw [hs]; rfl) rfl rfl
  obtain ⟨l,is,rfl,hS,q⟩ := q2
  obtain ⟨u,rfl,ru⟩ := vals1 r1
  cases ru
  obtain ⟨its,rv,pl,hz⟩ := I2.list hS
  have hi := DL.vals_ints rv
  obtain ⟨ys,hy⟩ := hi.allInts.items
  have hl:s2.heap.IsList l (intItems ys) := hy ▸ pl.isList
  have e1:is = ys.toList.map (·.1) := by
    rw [← nums_intItems, ← hy]
    exact hi.numsOf.symm
  have e2:is.length = ys.size := by rw [e1]; simp
  show wpAny (model X.prog X.w) X.A (call (.builtin "max") [.ref l] [("default",y)]) _ _ _
  refine max_listD (I2.ok.hd hc) hl fun v hp tk hv h0 hk => ?_
  cases is with
  | nil =>
    have := h0 (by simpa using e2.symm)
    subst this
    exact ⟨yv,H2,I2.kept hk,ry,q⟩
  | cons i ns =>
    have hsz : 0 < ys.size := by simp at e2; omega
    obtain ⟨t,rfl⟩ := intItems_at (hv hsz)
    obtain ⟨h1,h2⟩ := argBest_gt (numAt ys) (ys.size - 1)
    generalize argBest (fun i j => decide (numAt ys i > numAt ys j)) (ys.size - 1) = k at h1 h2
    have hm:numAt ys k = DL.maxL i ns := by
      have m1:numAt ys k ∈ i :: ns := by rw [e1,numAt_eq]; exact getD_mem (by rw [List.length_map,Array.length_toList]; omega)
      have m2 : ∀ j ∈ i :: ns,j ≤ numAt ys k := fun j hj => by
        rw [e1] at hj
        obtain ⟨q,hq,rfl⟩ := mem_getD hj
        rw [List.length_map,Array.length_toList] at hq
        rw [← numAt_eq]; exact h2 q (by omega)
      have m3 := DL.maxL_ge ns i
      refine Int.le_antisymm ?_ (m2 _ (DL.maxL_mem ns i))
      rcases List.mem_cons.mp m1 with e | e
      · rw [e]; exact m3.1
      · exact m3.2 _ e
    exact ⟨.int (DL.maxL i ns),H2,I2.kept hk,⟨t,by rw [hm]⟩,q⟩
end
end L2
namespace DL
open PySem PySem.Spec PyProof.Rows L2
section
variable {X:Cx} {c:Ct} {a b:Expr} {f g:FE} {p pos kp:Pos}
theorem pd_maxdf (hg:Gl X "max") (hm:X.mg "max" = none) (hc:X.calm = true) (ha:PR X c a f) (hb:PD X c b g) (hs:isStar a = false := by rfl):PD X c (.Call (.Name "max" p) [a] [⟨some "default",b,kp⟩] pos) (fp2 maxDfD f g) :=
  PE.imp (pe_maxD hc hg hm (pa_one ha hs) hb (star_one hs)) fun σ H Q h => by
  obtain ⟨W,O,env,d,E,e,q⟩ := h
  unfold fp2 at e
  cases e1:f env with
  | none => rw [e1] at e; cases e
  | some x =>
    rw [e1] at e
    dsimp only [Option.bind_some] at e
    cases e2:g env with
    | none => rw [e2] at e; cases e
    | some y =>
      rw [e2] at e
      dsimp only [Option.bind_some] at e
      cases x with
      | lst ds =>
        have e:(intsOf ds).bind (fun is => match is with | [] => some y | i :: r => some (.int (maxL i r))) = some d := e
        cases e3:intsOf ds with
        | none => rw [e3] at e; cases e
        | some is =>
          rw [e3] at e
          dsimp only [Option.bind_some] at e
          refine ⟨W,O,env,[.lst ds],E,by unfold faR; rw [e1]; rfl,fun vs H1 s1 r1 => ?_⟩
          obtain ⟨v,rfl,rv⟩ := r1
          obtain ⟨l,us,rfl,hS,hr⟩ := RepR.lst_ rv
          cases intsOf_rep e3 hr
          refine ⟨W,O,env,y,E.mono s1,e2,fun w H2 s2 r2 => ⟨l,is,rfl,s2.seq hS, ?_⟩⟩
          cases is with
          | nil => cases e; exact q _ _ (s1.trans s2) r2
          | cons i r => cases e; exact q _ _ (s1.trans s2) (.int _)
      | _ => cases e
end
end DL
end
section
set_option Elab.async false
set_option linter.all false
set_option maxRecDepth 100000
namespace DL
open L2
noncomputable def extG (ds:List D):List D → Option (List D)
  | [.tup es] => if ds.length + es.length ≤ 1000000 then some (ds ++ es) else none
  | _ => none
noncomputable def fsExtend (i:Nat) (f:FE):FS := fsMutG i extG (faCons f faNil)
@[simp] theorem ev_fsExtend (i:Nat) (f:FE) (env:DEnv):fsExtend i f env = obind (slotO env[i]?) fun ds => obind (f env) fun x => omap (fun es => .nx (env.set i (.own es))) (extG ds [x]) := by
  unfold fsExtend fsMutG
  cases env[i]? with
  | none => rfl
  | some s =>
    cases s with
    | own ds =>
      show ((faCons f faNil env).bind _) = _
      unfold faCons faNil
      cases f env <;> rfl
    | _ => rfl
@[simp] theorem ev_extG (ds es:List D):extG ds [.tup es] = if ds.length + es.length ≤ 1000000 then some (ds ++ es) else none := (Eq.refl _).trans (Eq.refl _)
end DL
end
section
set_option Elab.async false
set_option linter.all false
set_option maxRecDepth 100000
namespace L2
open PySem PySem.Spec PyProof.Rows
theorem ext_tup (l b:Addr) (xs ys:Array Value) (k k2:Nat) (dd:Option Addr) (sl:Array (Option Value)) (h0 : ¬(!xs.isEmpty && Builtin.List.listTooLong (xs.size + ys.size)) = true) (h1:xs.size ≤ sizeLine) (h2:xs.size + ys.size ≤ sizeLine + 1) :
    Meets (Builtin.«list.extend» ⟨[.ref l,.ref b],[]⟩) (fun _ R s => s.heap.get? l = some { cls := .type "list",dict := none,data := .seq xs k,slots := #[] } ∧
      s.heap.get? b = some { cls := .type "tuple",dict := dd,data := .seq ys k2,slots := sl } ∧ R (.ok (.ret Value.none)) { s with heap := s.heap.update l (Obj.mapSeq fun x => x ++ ys),toks := s.toks }) :=
  .of_wp fun pr wd Ar R s h => by
    obtain ⟨hp,g,d,tk,os⟩ := s
    obtain ⟨hl,hb,h⟩ := h
    have f1 := AutoSeq1.idx_int
    have f2 := AutoSeq1.sub_tuple_tuple
    have f3 := AutoSeq1.sub_list_list
    have f4 := AutoSeq1.sub_tuple_list
    have f5 := AutoSeq1.sub_list_tuple
    have hz:(xs ++ ys).size ≤ sizeLine + 1 := by rw [Array.size_append]; exact h2
    wp_walk using (wpAny_updateSeq hl rfl (hz := h1) (_hz' := hz)),AutoSeq1.wpAny_loadPart' hl,AutoSeq1.wpAny_loadPart' hb
    exact ⟨_,rfl,h⟩
section
variable {X:Cx}
noncomputable def rExtT (K:PySem.W.Frag):V → List V → Hp → VK → Prop := fun x vs H Q => ∃ l b xs zs,x = .ref l ∧ vs = [.ref b] ∧ H l = some (.lst xs) ∧ SqT K H b zs ∧ xs.length + zs.length ≤ sizeLine ∧ Q .non (upd H l (.lst (xs ++ zs)))
theorem mt_extT:MtM X "list.extend" (rExtT X.K) := by
  intro pins s σ H x vs v us Q I rx rv h
  obtain ⟨l,b,xs,zs,rfl,rfl,hH,hB,hz,q⟩ := h
  cases rx
  obtain ⟨u,rfl,ru⟩ := rv.one
  cases ru
  obtain ⟨z,its,n,r,hl,e⟩ := I.lstM hH
  obtain ⟨its2,r2,pt,z2⟩ := I.tuple hB
  have hl2 := r2.length
  obtain ⟨⟨cls,dd,data,sl⟩,e2,hc,n2,hd⟩ := pt
  simp only at hc hd
  subst hc hd
  have hsz:its.toArray.size + its2.toArray.size ≤ sizeLine := by rw [List.size_toArray,List.size_toArray]; omega
  have hlong : ¬ (!its.toArray.isEmpty && Builtin.List.listTooLong (its.toArray.size + its2.toArray.size)) = true := by
    rw [notLongL hsz,Bool.and_false]
    exact Bool.false_ne_true
  refine call_meets F.slot_list_extend ⟨_,e,rfl⟩ F.entry_list_extend (F.args_list_extend_2 _ _) (ext_tup l b its.toArray its2.toArray n n2 dd sl hlong (by rw [List.size_toArray]; omega) (by omega)) ⟨e,e2, ?_⟩
  refine ⟨.non,_,I.lset (its' := its ++ its2) hH e (by simp) (r.append r2) ?_,rfl,q⟩
  rw [List.length_append]
  omega
end
end L2
namespace DL
open PySem PySem.Spec PyProof.Rows L2
section
variable {X:Cx} {c:Ct} {xq:XQ} {e:Expr} {f:FE} {pos:Pos}
theorem snd_extend {T:Tx} (A:Addr → Prop) (H:Hp) (a:Addr) (ds:List D) (xs:List V) (x:List D) (y:List V) (ds':List D) (Q:VK) (hl:H a = some (.lst xs)) (r:RepL T A H ds xs) (_ : ∀ b,A b → b ≠ a) (ra:kA T A H H x y) (e:extG ds x = some ds')
    (k : ∀ ys,(∀ A' H',(∀ d v,Rep T A H d v → Rep T A' H' d v) → (∀ d v,RepL T A H d v → RepL T A' H' d v) → RepL T A' H' ds' ys) → ∀ w,Q w (upd H a (.lst ys))):rExtT T.K (.ref a) y H Q := by
  unfold extG at e
  split at e
  · next es =>
    split at e
    · next hz =>
      cases e
      obtain ⟨v,r1,rfl,h1,h2⟩ := RepL.cons_ ra
      have h3 := h2.nil_
      subst h3
      obtain ⟨b,zs,rfl,hS,hr⟩ := Rep.tup_ h1
      refine ⟨a,b,xs,zs,rfl,rfl,hl,hS, ?_,k _ (fun A' H' g gl => ?_) _⟩
      · rw [← r.length, ← hr.length]; exact Nat.le_trans hz (by decide)
      · exact (gl _ _ r).append (gl _ _ hr)
    · cases e
  · cases e
theorem pds_extend {i:Nat} {x:Str} {p1 p2 p3:Pos} (n:Nm X i x) (he:PD X c e f) (hs:isStar e = false := by rfl) (hl:(p2.endLine == p3.line) = true := by rfl) :
    PDS X c xq (.Expr (.Call (.Attribute (.Name x p1) "extend" p2) [e] [] p3) pos) (fsExtend i f) := by
  refine PS.imp (ps_expr (pe_bm PySem.F.plainAttrs_list PySem.F.slot_list_extend PySem.F.type_list_extend mt_extT (pe_var n.hN n.hv n.hd n.hc) (pda_cons he pda_nil hs) rfl (by rw [star_one hs]; rfl) hl (star_cons hs) rfl) (swaps_no rfl)) fun De σ H h => ?_
  obtain ⟨v,h1,⟨xs,_,a,rfl,ha⟩,h3⟩ := tDs_mut (tf := tP (tx X c) (kA (tx X c)) (faCons f faNil)) (fun Q h => h) snd_extend (fun _ _ _ _ _ h => h) h
  obtain ⟨W,O,env,x,E,e1,q⟩ := h3
  exact ⟨.ref a,h1,.inl ⟨rfl,xs,SqL.of ha⟩,W,O,env,x,E,e1,fun v H' s r => (q v H' s r).2⟩
end
end DL
end
section
set_option Elab.async false
set_option linter.all false
set_option maxRecDepth 100000
namespace L2
open PySem PySem.Spec PyProof.Rows DL
section
variable {X:Cx} {elt iter tg:Expr} {ifs:List Expr} {scope:Scope} {pos:Pos} {wi:TI} {g:TG} {tt:TT} {te:TE} {sc:Scope} {N N':List Str} {nt:Nat} {cap:List Nat} {x0:Str}
end
end L2
end
section
set_option Elab.async false
set_option linter.all false
set_option maxRecDepth 100000
namespace DL
open PySem PySem.Spec PyProof.Rows L2
section
variable {X:Cx} {c:Ct} {pos:Pos} {a b:Expr} {x0:Str} {iter elt tg:Expr} {ifs:List Expr} {scope sc:Scope} {N N':List Str} {nt:Nat} {cap:List Nat} {fi fe:FE} {ft:FT} {tgf:FG} {gt:TG}
end
end DL
end
section
set_option Elab.async false
set_option linter.all false
set_option maxRecDepth 100000
namespace DL
open L2
noncomputable def fsForES (tg:FG) (fi:FE) (body:FS):FS := fun env => (fi env).bind fun x => (strD x).bind fun ds => runFor tg body (enumL ds) env
@[simp] theorem ev_fsForES (tg:FG) (fi:FE) (body:FS) (env:DEnv):fsForES tg fi body env = obind (fi env) (fun x => obind (strD x) (fun ds => runFor tg body (enumL ds) env)) := (Eq.refl _).trans (Eq.refl _)
end DL
end
section
set_option Elab.async false
set_option linter.all false
set_option maxRecDepth 100000
namespace DL
open PySem PySem.Spec PyProof.Rows L2
section
variable {T:Tx} {X:XQ} {F:FS} {fi fe:FE} {ft:FT} {De:Ends} {σ:L2.St} {H:Hp} {tg:FG} {g:TG}
end
section
variable {X:Cx} {c:Ct} {xq:XQ} {ts:List Expr} {tk:Nat} {tp p ip pos:Pos} {iter:Expr} {fi:FE} {tgf:FG} {gt:TG} {F:FS}
end
end DL
end
section
set_option Elab.async false
set_option linter.all false
set_option maxRecDepth 100000
namespace DL
open L2
noncomputable def isBl (neg q:Bool):D → Option D
  | .bl b => some (.bl (if neg then b != q else b == q))
  | _ => none
@[simp] theorem ev_isBl (neg q b:Bool):isBl neg q (.bl b) = some (.bl (if neg then b != q else b == q)) := (Eq.refl _).trans (Eq.refl _)
end DL
end
section
set_option Elab.async false
set_option linter.all false
set_option maxRecDepth 100000
namespace DL
open PySem PySem.Spec PyProof.Rows L2
section
variable {X:Cx} {c:Ct} {a:Expr} {ta:TE} {f:FE} {pos p2:Pos} {j:Nat} {q:Bool}
end
end DL
end
section
set_option Elab.async false
set_option linter.all false
set_option maxRecDepth 100000
namespace DL
open PySem PySem.Spec PyProof.Rows L2
section
variable {X:Cx} {c:Ct} {a:Expr} {ta:TE} {f:FE} {pos p:Pos} {x:Str} {tb:List (List Nat × Int)}
noncomputable def tTab (neg:Bool) (tb:List (List Nat × Int)) (ta:TE):TE := fun σ H Q => ta σ H fun v H1 => ∃ k:List Nat,v = .str (mkS k) ∧ Q (.bl (if neg then !(lookT k tb).isSome else (lookT k tb).isSome)) H1
theorem pc_tnotIn (G:Gt X x tb) (hg:Gl X x) (ha:PE X a ta) (hd:(x == ("__debug__":Str)) = false := by decide):PC X .NotIn a (.Name x p) (tTab true tb ta) := by
  obtain ⟨da,hm,T⟩ := G.ex
  intro pins s σ H Q I h
  refine thn5 (ha pins s σ H _ I h) fun v s1 y H1 I1 r1 q1 => ?_
  obtain ⟨k,rfl,q⟩ := q1
  obtain ⟨t,rfl⟩ := r1
  refine thn5 (pe_glob (v := .ref da) hg hm rfl hd pins s1 σ H1 (fun w H2 => w = .ref da ∧ H2 = H1) I1 ⟨rfl,rfl⟩) fun u s2 w H2 I2 r2 zz_ => ?_
  obtain ⟨e1,e2⟩ := zz_
  subst e1 e2
  cases r2
  exact PySem.W.kdp_notin (T _ I2.kIn) ⟨.bl _,_,I2.tok _,rfl,by rw [(look_kdp k tb).1]; exact q⟩
theorem tP_tab {T:Tx} {neg:Bool} {σ:L2.St} {H:Hp} {Q:VK} (h:tP T (kD T) (fp1 (tabIn neg tb) f) σ H Q):tTab neg tb (tP T (kD T) f) σ H Q := by
  obtain ⟨W,O,env,d,E,e,k⟩ := h
  unfold fp1 at e
  cases e1:f env with
  | none => rw [e1] at e; cases e
  | some y =>
    rw [e1] at e
    dsimp only [Option.bind_some] at e
    cases y with
    | str z =>
      cases e
      refine ⟨W,O,env,_,E,e1,fun v1 H1 s1 r1 => ?_⟩
      cases Rep.str_ r1
      exact ⟨z,rfl,k _ _ s1 (Rep.bl _)⟩
    | _ => cases e
theorem pdt_tnotIn (G:Gt X x tb) (hg:Gl X x) (ha:PD X c a f) (hd:(x == ("__debug__":Str)) = false := by decide):PDT X c (.Compare a [.NotIn] [.Name x p] pos) (ftB (fp1 (tabIn true tb) f)) := PT.imp (pt_cmp (pc_tnotIn G hg ha hd)) fun _ _ _ h => tB_of (fun _ _ _ h => tP_tab h) h
end
end DL
end
section
set_option Elab.async false
set_option linter.all false
set_option maxRecDepth 100000
namespace DL
open L2
noncomputable def rmD (c:Nat):D → Option D
  | .str z => if z.length ≤ 1000 then some (.str (z.filter (· != c))) else none
  | _ => none
@[simp] theorem ev_rmD (c:Nat) (z:List Nat):rmD c (.str z) = if z.length ≤ 1000 then some (.str (z.filter (· != c))) else none := (Eq.refl _).trans (Eq.refl _)
end DL
end
section
set_option Elab.async false
set_option linter.all false
set_option maxRecDepth 100000
namespace L2
open PySem PySem.Spec PyProof.Rows DL
section
variable {X:Cx} {st:Stmt} {rest:List Stmt} {t u:TS} {pos:Pos}
end
end L2
namespace DL
open PySem PySem.Spec PyProof.Rows L2
section
variable {X:Cx} {c:Ct} {xq:XQ} {st:Stmt} {rest:List Stmt} {a b o:Expr} {f g fe:FE} {F G:FS} {t:FT} {pos:Pos}
end
end DL
end
section
set_option Elab.async false
set_option linter.all false
set_option maxRecDepth 100000
namespace DL
open L2
noncomputable def tmulD:D → D → Option D
  | .tup (x :: xs),.int k => if (x :: xs).length ≤ 1000 ∧ 2 ≤ k ∧ k ≤ 1000 then some (.tup (List.replicate k.toNat (x :: xs)).flatten) else none
  | _,_ => none
@[simp] theorem ev_tmulD (x:D) (xs:List D) (k:Int):tmulD (.tup (x :: xs)) (.int k) = if (x :: xs).length ≤ 1000 ∧ 2 ≤ k ∧ k ≤ 1000 then some (.tup (List.replicate k.toNat (x :: xs)).flatten) else none := (Eq.refl _).trans (Eq.refl _)
end DL
end
section
set_option Elab.async false
set_option linter.all false
set_option maxRecDepth 100000
namespace L2
open PySem PySem.Spec PyProof.Rows DL Builtin
section
variable {X:Cx}
end
end L2
namespace DL
open PySem PySem.Spec PyProof.Rows L2
section
variable {X:Cx} {c:Ct} {a b:Expr} {f g:FE} {pos:Pos}
end
end DL
end
section
set_option Elab.async false
set_option linter.all false
set_option maxRecDepth 100000
namespace DL
open L2
noncomputable def fldL (k:Nat):List Nat → List D → Option D
  | k' :: ks,d :: ds => if k' = k then some d else fldL k ks ds
  | _,_ => none
noncomputable def fldD (k:Nat):D → Option D
  | .ob _ ks ds => fldL k ks ds
  | _ => none
noncomputable abbrev MTab (α:Type) := Nat → Option (List Nat × (List D → Option α))
noncomputable def methD {α:Type} (n:Nat) (tab:MTab α):D → List D → Option α
  | .ob c ks ds,as => (tab c).bind fun p => if ks = p.1 ∧ as.length = n then p.2 (.ob c ks ds :: as) else none
  | _,_ => none
noncomputable def fpMeth {α:Type} (n:Nat) (tab:MTab α) (fo:FE) (fa:FA):FP α := fun env => (fo env).bind fun d => (fa env).bind fun as => methD n tab d as
noncomputable abbrev IFn := Nat → List D → Option (List Nat × List D)
noncomputable def fpMake (k n:Nat) (I:IFn) (fa:FA):FE := fun env => (fa env).bind fun as => if as.length = n then (I k as).map fun p => .ob k p.1 p.2 else none
noncomputable def fsFld (i k:Nat) (f:FE):FS := fun env => match env[i]? with
  | some (.obj c ks ds) => if k ∈ ks ∨ 100 ≤ ks.length then none else (f env).map fun d => .nx (env.set i (.obj c (ks ++ [k]) (ds ++ [d])))
  | _ => none
noncomputable def fsBase (i n:Nat) (I:IFn) (fa:FA):FS := fun env => match env[i]? with
  | some (.obj c [] []) => (fa env).bind fun as => if as.length = n then (I c as).map fun p => .nx (env.set i (.obj c p.1 p.2)) else none
  | _ => none
end DL
end
section
set_option Elab.async false
set_option linter.all false
set_option maxRecDepth 100000
namespace DL
open PySem PySem.Spec PyProof.Rows L2
section
variable {X:Cx} {c:Ct} {xq:XQ} {o e:Expr} {es:List Expr} {f fo:FE} {fa:FA} {pos apos:Pos} {m:Str}
end
section
variable {X:Cx} {c:Ct} {xq:XQ} {o e:Expr} {es:List Expr} {f fo:FE} {fa:FA} {pos apos:Pos} {m:Str}
end
section
variable {X:Cx} {c:Ct} {xq:XQ} {o e:Expr} {es:List Expr} {f fo:FE} {fa:FA} {pos apos:Pos} {m:Str}
end
section
variable {P:Program} {w:World} {K:PySem.W.Frag} {mg:Str → Option Value} {base:Heap} {c:Ct}
end
end DL
end
section
set_option Elab.async false
set_option linter.all false
set_option maxRecDepth 100000
namespace DL
open L2
noncomputable def zipL (as bs:List D):List D := (as.zip bs).map fun p => .tup [p.1,p.2]
noncomputable def zipF:List D → Option (List D)
  | [.lst xs,.lst ys] => some (zipL xs ys)
  | _ => none
noncomputable def zipSF:List D → Option (List D)
  | [.str z,.lst ys] => if z.length ≤ 1000000 then some (zipL (z.map fun c => .str [c]) ys) else none
  | _ => none
noncomputable def fsForZ (zf:List D → Option (List D)) (tg:FG) (fa:FA) (body:FS):FS := fun env => (fa env).bind fun as => (zf as).bind fun ds => runFor tg body ds env
noncomputable def instC (cs:List Nat):D → Option D
  | .ob c _ _ => some (.bl (cs.contains c))
  | _ => none
theorem zipL_nil (bs:List D):zipL [] bs = [] := rfl
theorem zipL_cons (a b:D) (as bs:List D):zipL (a :: as) (b :: bs) = .tup [a,b] :: zipL as bs := rfl
@[simp] theorem ev_zipF (xs ys:List D):zipF [.lst xs,.lst ys] = some (zipL xs ys) := (Eq.refl _).trans (Eq.refl _)
@[simp] theorem ev_zipSF (z:List Nat) (ys:List D):zipSF [.str z,.lst ys] = if z.length ≤ 1000000 then some (zipL (z.map fun c => .str [c]) ys) else none := (Eq.refl _).trans (Eq.refl _)
@[simp] theorem ev_fsForZ (zf:List D → Option (List D)) (tg:FG) (fa:FA) (body:FS) (env:DEnv):fsForZ zf tg fa body env = obind (fa env) (fun as => obind (zf as) fun ds => runFor tg body ds env) := (Eq.refl _).trans (Eq.refl _)
@[simp] theorem ev_instC (cs:List Nat) (c:Nat) (ks:List Nat) (ds:List D):instC cs (.ob c ks ds) = some (.bl (cs.contains c)) := (Eq.refl _).trans (Eq.refl _)
@[simp] theorem ev_fldD (k c:Nat) (ks:List Nat) (ds:List D):fldD k (.ob c ks ds) = fldL k ks ds := (Eq.refl _).trans (Eq.refl _)
@[simp] theorem ev_fldL (k k':Nat) (ks:List Nat) (d:D) (ds:List D):fldL k (k' :: ks) (d :: ds) = if k' = k then some d else fldL k ks ds := (Eq.refl _).trans (Eq.refl _)
@[simp] theorem ev_methD {α:Type} (n:Nat) (tab:MTab α) (c:Nat) (ks:List Nat) (ds as:List D):methD n tab (.ob c ks ds) as = obind (tab c) fun p => if ks = p.1 ∧ as.length = n then p.2 (.ob c ks ds :: as) else none := (Eq.refl _).trans (Eq.refl _)
@[simp] theorem ev_fpMeth {α:Type} (n:Nat) (tab:MTab α) (fo:FE) (fa:FA) (env:DEnv):fpMeth n tab fo fa env = obind (fo env) fun d => obind (fa env) fun as => methD n tab d as := (Eq.refl _).trans (Eq.refl _)
@[simp] theorem ev_fpMake (k n:Nat) (I:IFn) (fa:FA) (env:DEnv):fpMake k n I fa env = obind (fa env) fun as => if as.length = n then omap (fun p:List Nat × List D => .ob k p.1 p.2) (I k as) else none := (Eq.refl _).trans (Eq.refl _)
noncomputable def slotJ:Option Slot → Option (Nat × List Nat × List D)
  | some (.obj c ks ds) => some (c,ks,ds)
  | _ => none
@[simp] theorem slotJ_obj (c:Nat) (ks:List Nat) (ds:List D):slotJ (some (.obj c ks ds)) = some (c,ks,ds) := (Eq.refl _).trans (Eq.refl _)
@[simp] theorem ev_fsFld (i k:Nat) (f:FE) (env:DEnv):fsFld i k f env = obind (slotJ env[i]?) fun p => if k ∈ p.2.1 ∨ 100 ≤ p.2.1.length then none else omap (fun d => .nx (env.set i (.obj p.1 (p.2.1 ++ [k]) (p.2.2 ++ [d])))) (f env) := by
  unfold fsFld slotJ
  cases h:env[i]? with
  | none => rfl
  | some s => cases s <;> rfl
@[simp] theorem ev_fsBase (i n:Nat) (I:IFn) (fa:FA) (env:DEnv):fsBase i n I fa env = obind (slotJ env[i]?) fun p => if p.2.1 = [] ∧ p.2.2 = [] then obind (fa env) fun as => if as.length = n then omap (fun r:List Nat × List D => .nx (env.set i (.obj p.1 r.1 r.2))) (I p.1 as) else none else none := by
  unfold fsBase slotJ
  cases h:env[i]? with
  | none => rfl
  | some s =>
    cases s with
    | obj c ks ds =>
      cases ks with
      | nil => cases ds <;> rfl
      | cons a b => rfl
    | no => rfl
    | val d => rfl
    | own d => rfl
    | red d => rfl
noncomputable def objK (k:Nat):DFl → Option (List Nat × List D)
  | .nx env' => obind (slotJ env'[0]?) fun p => if p.1 = k then some (p.2.1,p.2.2) else none
  | _ => none
@[simp] theorem objK_nx (k:Nat) (env':DEnv):objK k (.nx env') = obind (slotJ env'[0]?) fun p => if p.1 = k then some (p.2.1,p.2.2) else none := (Eq.refl _).trans (Eq.refl _)
end DL
end
section
set_option Elab.async false
set_option linter.all false
set_option maxRecDepth 100000
namespace L2
open PySem PySem.Spec PyProof.Rows
section
variable {X:Cx} {pins:List (Addr × Obj)} {σ:List (Option V)} {H H':Hp} {s:Shared} {h':Heap}
end
end L2
namespace DL
open PySem PySem.Spec PyProof.Rows L2
section
variable {T:Tx} {X:XQ} {F:FS} {fa:FA} {De:Ends} {σ:L2.St} {H:Hp} {tg:FG} {g:TG}
end
section
variable {X:Cx} {c:Ct} {xq:XQ} {ts:List Expr} {tk:Nat} {tp p ip pos:Pos} {a b:Expr} {fa:FA} {tgf:FG} {gt:TG} {F:FS} {f:FE} {e:Expr}
end
end DL
end
section
set_option Elab.async false
set_option linter.all false
set_option maxRecDepth 100000
namespace DL
open PySem PySem.Spec PyProof.Rows L2
section
variable {X:Cx} {c:Ct} {e:Expr} {f:FE} {pos:Pos}
noncomputable def spL (K:PySem.W.Frag) (F:List D → Option D):Sp := fun vs H Q _ => ∃ (a:Addr) (ns:List Int),vs = [.ref a] ∧ SqL K H a (ns.map V.int) ∧ F [.lst (ns.map .int)] = some (.bl true) ∧ ∀ H',Same H H' → Q (.bl true) H'
theorem spL_D {T:Tx} {F:List D → Option D} {vs:List V} {H:Hp} {Q:VK} {E:XK} (h:spL T.K F vs H Q E):spD T 1 F vs H Q E := by
  obtain ⟨a,ns,rfl,hS,hF,q⟩ := h
  exact ⟨rfl,fun _ => True,[.lst (ns.map .int)],.bl true,fun _ _ => trivial,.cons (.lst (hS.imp (fun h => ⟨h,trivial⟩) id) (ints_rep ns)) .nil,hF,fun v H' s r => by rw [r.bl_]; exact q H' s⟩
end
end DL
end
section
set_option Elab.async false
set_option linter.all false
set_option maxRecDepth 100000
namespace DL
open PySem PySem.Spec PyProof.Rows L2
section
variable {P:Program} {w:World} {K:PySem.W.Frag} {mg:Str → Option Value} {base:Heap} {c:Ct}
end
end DL
end
section
set_option Elab.async false
set_option linter.all false
set_option maxRecDepth 100000
namespace DL
open L2
noncomputable def fsClear (j:Nat):FS := fun env => match env[j]? with
  | some (.own _) => some (.nx (env.set j (.own [])))
  | _ => none
@[simp] theorem ev_fsClear (j:Nat) (env:DEnv):fsClear j env = obind (slotO env[j]?) fun _ => some (.nx (env.set j (.own []))) := by
  unfold fsClear slotO
  cases h:env[j]? with
  | none => rfl
  | some s => cases s <;> rfl
noncomputable def numL (i:Int):List Nat := (toString i).toList.map Char.toNat
noncomputable def strCD:D → Option D
  | .int i => if 0 ≤ i ∧ i < 1000000000000 then some (.str (numL i)) else none
  | _ => none
@[simp] theorem ev_strCD (i:Int):strCD (.int i) = if 0 ≤ i ∧ i < 1000000000000 then some (.str (numL i)) else none := (Eq.refl _).trans (Eq.refl _)
end DL
end
section
set_option Elab.async false
set_option linter.all false
set_option maxRecDepth 100000
namespace DL
open PySem PySem.Spec PyProof.Rows L2
section
variable {X:Cx} {c:Ct} {xq:XQ} {e:Expr} {f:FE} {pos:Pos}
end
end DL
end
section
set_option Elab.async false
set_option linter.all false
set_option maxRecDepth 100000
namespace L2
open PySem PySem.Spec PyProof.Rows
section
variable {prog:Program} {w:World} {A:Around} {E:Value → Shared → Prop} {s:Shared}
end
section
variable {prog:Program} {w:World} {A:Around} {E:Value → Shared → Prop} {s:Shared}
end
end L2
namespace DL
open PySem PySem.Spec PyProof.Rows L2
section
variable {T:Tx} {X:XQ} {F:FS} {fa:FA} {De:Ends} {σ:L2.St} {H:Hp} {tg:FG} {g:TG}
end
section
variable {X:Cx} {c:Ct} {xq:XQ} {ts:List Expr} {tk:Nat} {tp p ip pos:Pos} {a b:Expr} {fa:FA} {tgf:FG} {gt:TG} {F:FS}
end
end DL
end
section
set_option Elab.async false
set_option linter.all false
set_option maxRecDepth 100000
namespace DL
open PySem PySem.Spec PyProof.Rows L2
section
variable {X:Cx}
end
end DL
end
section
set_option Elab.async false
set_option linter.all false
set_option maxRecDepth 100000
namespace DL
open L2
noncomputable def feSelf (i k:Nat):FE := fun env => match env[i]? with
  | some (.obj _ ks ds) => fldL k ks ds
  | _ => none
@[simp] theorem ev_feSelf (i k:Nat) (env:DEnv):feSelf i k env = obind (slotJ env[i]?) fun p => fldL k p.2.1 p.2.2 := by
  unfold feSelf slotJ
  cases h:env[i]? with
  | none => rfl
  | some s => cases s <;> rfl
end DL
end
section
set_option Elab.async false
set_option linter.all false
set_option maxRecDepth 100000
namespace DL
open PySem PySem.Spec PyProof.Rows L2
section
variable {X:Cx} {c:Ct} {xq:XQ} {pos:Pos}
end
end DL
end
section
set_option Elab.async false
set_option linter.all false
set_option maxRecDepth 100000
namespace DL
open L2
noncomputable def fsRaise (c:Nat) (f:FE):FS := fun env => (f env).map fun _ => .ex c env
@[simp] theorem ev_fsRaise (c:Nat) (f:FE) (env:DEnv):fsRaise c f env = omap (fun _ => DFl.ex c env) (f env) := rfl
noncomputable def raisK:DFl → Option Nat
  | .ex c _ => some c
  | _ => none
@[simp] theorem raisK_ex (c:Nat) (e:DEnv):raisK (.ex c e) = some c := rfl
@[simp] theorem raisK_rt (d:D) (e:DEnv):raisK (.rt d e) = none := rfl
@[simp] theorem raisK_rf (d:List D) (e:DEnv):raisK (.rf d e) = none := rfl
@[simp] theorem raisK_nx (e:DEnv):raisK (.nx e) = none := rfl
@[simp] theorem retK_ex (c:Nat) (e:DEnv):retK (.ex c e) = none := rfl
@[simp] theorem retFK_ex (c:Nat) (e:DEnv):retFK (.ex c e) = none := rfl
noncomputable def bodyX (N:Nat) (F:FS):List D → Option Nat := fun ds => (F (envOf N ds)).bind raisK
theorem ev_bodyX (N:Nat) (F:FS) (ds:List D):bodyX N F ds = obind (F (envOf N ds)) raisK := rfl
noncomputable def fsTry {α:Type} (i j n:Nat) (F:List D → Option α) (Xf:List D → Option Nat) (c:Nat) (f:FA):FS := fun env => (f env).bind fun ds => if ds.length = n then (match F ds with
  | some _ => some (.nx env)
  | none => (Xf ds).bind fun k => if k = c then some (.nx (((env.set j .no).set i (.val (.exc c))).set j .no)) else none) else none
noncomputable def tryK (i j c:Nat) (env:DEnv) (a:Bool) (x:Option Nat):Option DFl := if a = true then some (.nx env) else x.bind fun k => if k = c then some (.nx (((env.set j .no).set i (.val (.exc c))).set j .no)) else none
theorem ev_fsTry {α:Type} (i j n:Nat) (F:List D → Option α) (Xf:List D → Option Nat) (c:Nat) (f:FA) (env:DEnv):fsTry i j n F Xf c f env = obind (f env) (fun ds => if ds.length = n then tryK i j c env (F ds).isSome (Xf ds) else none) := by
  unfold fsTry obind
  congr 1
  funext ds
  cases F ds <;> rfl
theorem tryK_ex (i j c:Nat) (env:DEnv):tryK i j c env false (some c) = some (.nx (((env.set j .no).set i (.val (.exc c))).set j .no)) := by simp [tryK]
noncomputable def instX (cs:List Nat):D → Option D
  | .exc c => some (.bl (cs.contains c))
  | _ => none
@[simp] theorem ev_instX (cs:List Nat) (c:Nat):instX cs (.exc c) = some (.bl (cs.contains c)) := rfl
noncomputable def xK (env:DEnv) (ok:Option DFl) (x:Option Nat):Option DFl := match ok with
  | some r => some r
  | none => x.map fun c => .ex c env
@[simp] theorem xK_some (env:DEnv) (r:DFl) (x:Option Nat):xK env (some r) x = some r := rfl
@[simp] theorem xK_none (env:DEnv) (c:Nat):xK env none (some c) = some (.ex c env) := rfl
noncomputable def fsCallX {α:Type} (k : α → DEnv → DFl) (n:Nat) (F:List D → Option α) (Xf:List D → Option Nat) (f:FA):FS := fun env => (f env).bind fun ds => if ds.length = n then xK env ((F ds).map fun d => k d env) (Xf ds) else none
theorem ev_fsCallX {α:Type} (k : α → DEnv → DFl) (n:Nat) (F:List D → Option α) (Xf:List D → Option Nat) (f:FA) (env:DEnv):fsCallX k n F Xf f env = obind (f env) (fun ds => if ds.length = n then xK env (omap (fun d => k d env) (F ds)) (Xf ds) else none) := rfl
noncomputable def kRet (d:D) (env:DEnv):DFl := .rt d env
noncomputable def kDrop {α:Type} (_ : α) (env:DEnv):DFl := .nx env
noncomputable def addT:D → D → Option D
  | .tup xs,.tup ys => if xs.length + ys.length ≤ 1000000 then some (.tup (xs ++ ys)) else none
  | _,_ => none
@[simp] theorem ev_addT (xs ys:List D):addT (.tup xs) (.tup ys) = if xs.length + ys.length ≤ 1000000 then some (.tup (xs ++ ys)) else none := (Eq.refl _).trans (Eq.refl _)
noncomputable def slW (x:D) (lo hi:Option Int):Option D := match x with
  | .tup ds => some (.tup (cutD ds lo hi))
  | x => slD x lo hi
@[simp] theorem ev_slW_tup (ds:List D) (lo hi:Option Int):slW (.tup ds) lo hi = some (.tup (cutD ds lo hi)) := (Eq.refl _).trans (Eq.refl _)
@[simp] theorem ev_slW_lst (ds:List D) (lo hi:Option Int):slW (.lst ds) lo hi = some (.lst (cutD ds lo hi)) := (Eq.refl _).trans (Eq.refl _)
@[simp] theorem ev_slW_str (z:List Nat) (lo hi:Option Int):slW (.str z) lo hi = if z.length ≤ 1000000 then some (.str (cutD z lo hi)) else none := (Eq.refl _).trans (Eq.refl _)
noncomputable def divmodD:List D → Option D
  | [.int i,.int j] => if 0 ≤ i ∧ i < 1000000 ∧ 0 < j ∧ j < 1000000 then some (.tup [.int (i / j),.int (i % j)]) else none
  | _ => none
@[simp] theorem ev_divmodD (i j:Int):divmodD [.int i,.int j] = if 0 ≤ i ∧ i < 1000000 ∧ 0 < j ∧ j < 1000000 then some (.tup [.int (i / j),.int (i % j)]) else none := (Eq.refl _).trans (Eq.refl _)
noncomputable def splL (k:Nat):List Nat → List (List Nat)
  | [] => [[]]
  | c :: r => if c = k then [] :: splL k r else match splL k r with
    | [] => [[c]]
    | y :: ys => (c :: y) :: ys
noncomputable def splF (k:Nat):D → Option (List D)
  | .str z => if z.length ≤ 1000000 then some ((splL k z).map .str) else none
  | _ => none
@[simp] theorem ev_splF (k:Nat) (z:List Nat):splF k (.str z) = if z.length ≤ 1000000 then some ((splL k z).map .str) else none := (Eq.refl _).trans (Eq.refl _)
end DL
end
section
set_option Elab.async false
set_option linter.all false
set_option maxRecDepth 100000
namespace DL
open PySem PySem.Spec PyProof.Rows L2
structure Tr (h:Heap) (ea t C:Addr) (fl:Value):Prop where
  ex : ∃ (oe oT:Obj) (vs ts:Array Value),h.get? ea = some oe ∧ oe.cls = .ref C ∧ oe.dict = none ∧ oe.data = .fields vs ∧ vs[1]? = some (.ref t) ∧ t ≠ ea ∧ h.get? t = some oT ∧ oT.data = .fields ts ∧ ts[3]? = some fl
structure Mv (l:List Env) (x:Addr → Prop) (h h':Heap):Prop where
  keep : ∀ b o,h.get? b = some o → ¬ x b → b ∉ frs l → h'.get? b = some o
  slot : ∀ b o,h.get? b = some o → ¬ x b → b ∈ frs l → ∃ sl,h'.get? b = some { o with slots := sl }
theorem Mv.any {l:List Env} {x:Addr → Prop} {h h':Heap} (m:Mv l x h h') {b:Addr} {o:Obj} (e:h.get? b = some o) (n : ¬ x b) : ∃ sl,h'.get? b = some { o with slots := sl } := by
  by_cases z:b ∈ frs l
  · exact m.slot b o e n z
  · exact ⟨o.slots,m.keep b o e n z⟩
theorem Mv.trans {l:List Env} {x:Addr → Prop} {h h1 h2:Heap} (a:Mv l x h h1) (b:Mv l x h1 h2):Mv l x h h2 :=
  ⟨fun c o e n f => b.keep c o (a.keep c o e n f) n f,fun c o e n f => by
    obtain ⟨sl,e1⟩ := a.slot c o e n f
    obtain ⟨sl2,e2⟩ := b.slot c _ e1 n f
    exact ⟨sl2,e2⟩⟩
theorem Mv.step {l:List Env} {x y:Addr → Prop} {h h1 h2:Heap} (a:Mv l x h h1) (b:Mv l y h1 h2) (w : ∀ b o,h.get? b = some o → y b → x b):Mv l x h h2 :=
  ⟨fun c o e n f => b.keep c o (a.keep c o e n f) (fun z => n (w c o e z)) f,fun c o e n f => by
    obtain ⟨sl,e1⟩ := a.slot c o e n f
    obtain ⟨sl2,e2⟩ := b.slot c _ e1 (fun z => n (w c o e z)) f
    exact ⟨sl2,e2⟩⟩
theorem Mv.mono {l:List Env} {x y:Addr → Prop} {h h':Heap} (a:Mv l x h h') (w : ∀ b o,h.get? b = some o → x b → y b):Mv l y h h' :=
  ⟨fun c o e n f => a.keep c o e (fun z => n (w c o e z)) f,fun c o e n f => a.slot c o e (fun z => n (w c o e z)) f⟩
theorem Mv.frames {l:List Env} {x:Addr → Prop} {h h' base:Heap} (a:Mv l x h h') (hl:h.FunFrames base l) (nx : ∀ b ∈ frs l, ¬ x b):h'.FunFrames base l := by
  have go : ∀ r:List Env,(∀ b ∈ frs r,b ∈ frs l) → h.FunFrames base r → h'.FunFrames base r := by
    intro r
    induction r with
    | nil => intro _ _; trivial
    | cons e r ih =>
      intro hs ⟨k,⟨L,o,hf,hb,ho,nd⟩,hr⟩
      have hL:L ∈ frs (e :: r) := by
        show L ∈ (e :: r).filterMap (·.frame)
        rw [List.filterMap_cons,hf]
        exact List.mem_cons.mpr (.inl rfl)
      obtain ⟨sl,q⟩ := a.slot L o ho (nx L (hs L hL)) (hs L hL)
      refine ⟨k,⟨L,_,hf,hb,q,nd⟩,ih (fun b m => hs b ?_) hr⟩
      show b ∈ (e :: r).filterMap (·.frame)
      rw [List.filterMap_cons,hf]
      exact List.mem_cons.mpr (.inr m)
  exact go l (fun _ z => z) hl
theorem frame_data {l:List Env} {h base:Heap} (hl:h.FunFrames base l) {b:Addr} {o:Obj} {vs:Array Value} (e:h.get? b = some o) (d:o.data = .fields vs):b ∉ frs l := fun m => by
  obtain ⟨_,o2,e2,nd⟩ := hl.mem m
  rw [e] at e2
  cases e2
  exact nd vs d
theorem mapF_dict (f:Array Value → Array Value) (o:Obj):(o.mapFields f).dict = o.dict := by
  obtain ⟨c,d,data,sl⟩ := o
  cases data <;> rfl
section
variable {M:Model} {A:Around} {E:Value → Shared → Prop} {s:Shared} {Q:Unit → Shared → Prop} {base:Heap} {env:Env} {outer:List Env} {L e t C:Addr} {fl:Value}
theorem entry_ok {oe:Obj} {vs:Array Value} {head:Value} {had:Bool} (hfr:A.frames = some (env :: outer)) (hl:s.heap.FunFrames base (env :: outer)) (hf:env.frame = some L)
    (he:s.heap.get? e = some oe) (hc:oe.cls = .ref C) (hn:oe.dict = none) (hd:oe.data = .fields vs) (hsz : 1 < vs.size)
    (k : ∀ h' t,Mv (env :: outer) (fun b => b = e) s.heap h' → s.heap.get? t = none → Tr h' e t C (rawInt L) → Q () { s with heap := h' }) :
    wpAny M A (do let fo ← frameOf env; let pl ← entryPlaceOf L had; let en ← EntryCells.newEntry head fo .none (rawInt L) .none pl; setField (.ref e) 1 en) Q E s := by
  have nfr:e ∉ frs (env :: outer) := frame_data hl he hd
  refine wpAny_bind (wpAny_frameOf_fun hfr hl hf fun h1 so => ?_)
  refine wpAny_bind (wpAny_entryPlaceOf fun pl hpl => ?_)
  unfold EntryCells.newEntry newFields
  refine wpAny_bind (wpAny_newObj_type ?_ (hpl.sizeOk5 _ _ _ _ _))
  have e1:h1.get? e = some oe := (so.2.1 e nfr).trans he
  refine wpAny_setField (Heap.get?_push_of_some _ e1) hd hsz ?_
  have ne:h1.objs.size ≠ e := Nat.ne_of_gt (Heap.lt_size e1)
  have tn:s.heap.get? h1.objs.size = none := Heap.get?_none_of_le (by rw [so.1]; exact Nat.le_refl _)
  refine k _ h1.objs.size ⟨fun b o q nb nf => ?_,fun b o q nb m => ?_⟩ tn ⟨_,_,_,_,Heap.get?_update_self _ (Heap.get?_push_of_some _ e1) (Obj.isFreed_of_fields (Obj.data_mapFields hd _)),(Obj.cls_mapFields _ _).trans hc,(mapF_dict _ _).trans hn,Obj.data_mapFields hd _, ?_,ne,(Heap.get?_update_other _ _ (Ne.symm ne)).trans (Heap.get?_push_size h1 rfl),rfl, ?_⟩
  · rw [Heap.get?_update_other _ _ (Ne.symm nb)]
    exact Heap.get?_push_of_some _ ((so.2.1 b nf).trans q)
  · obtain ⟨sl,q1⟩ := so.2.2 b o q
    refine ⟨sl, ?_⟩
    rw [Heap.get?_update_other _ _ (Ne.symm nb)]
    exact Heap.get?_push_of_some _ q1
  · simp [hsz]
  · first | (simp; done) | (rcases hpl with rfl | ⟨_,_,_,_,_,_,_,rfl⟩ <;> simp)
theorem note_first {oe:Obj} {vs:Array Value} (hfr:A.frames = some (env :: outer)) (hl:s.heap.FunFrames base (env :: outer)) (hf:env.frame = some L)
    (he:s.heap.get? e = some oe) (hc:oe.cls = .ref C) (hn:oe.dict = none) (hd:oe.data = .fields vs) (h1:vs[1]? = some .none)
    (k : ∀ h' t,Mv (env :: outer) (fun b => b = e) s.heap h' → s.heap.get? t = none → Tr h' e t C (rawInt L) → Q () { s with heap := h' }):wpAny M A (noteFrame (.ref e) env) Q E s := by
  unfold noteFrame
  simp only [hf]
  refine wpAny_bind (wpAny_field he hd h1 ?_)
  rw [if_neg (by decide)]
  exact entry_ok hfr hl hf he hc hn hd (Array.getElem?_eq_some_iff.mp h1).1 k
theorem note_next (hfr:A.frames = some (env :: outer)) (hl:s.heap.FunFrames base (env :: outer)) (hf:env.frame = some L) (tr:Tr s.heap e t C .none)
    (k : ∀ h' t',Mv (env :: outer) (fun b => b = e ∨ b = t) s.heap h' → (t' = t ∨ s.heap.get? t' = none) → Tr h' e t' C (rawInt L) → Q () { s with heap := h' }):wpAny M A (noteFrame (.ref e) env) Q E s := by
  obtain ⟨oe,oT,vs,ts,he,hc,hn,hd,h1,hte,hT,hdT,h3⟩ := tr.ex
  unfold noteFrame
  simp only [hf]
  refine wpAny_bind (wpAny_field he hd h1 ?_)
  rw [if_pos (show (Value.ref t != Value.none) = true from by simp)]
  refine wpAny_bind (wpAny_field hT hdT h3 ?_)
  rw [if_neg (show ¬ ((Value.none == rawInt L) = true) from by simp [rawInt])]
  refine wpAny_bind (wpAny_setField hT hdT (Array.getElem?_eq_some_iff.mp h3).1 ?_)
  have mv:Mv (env :: outer) (fun b => b = t) s.heap (s.heap.update t (Obj.mapFields (·.setIfInBounds 3 Value.none))) :=
    ⟨fun b o q nb _ => (Heap.get?_update_other _ _ (Ne.symm nb)).trans q,fun b o q nb _ => ⟨o.slots,(Heap.get?_update_other _ _ (Ne.symm nb)).trans q⟩⟩
  have nft:t ∉ frs (env :: outer) := frame_data hl hT hdT
  refine entry_ok hfr (mv.frames hl fun b m z => nft (z ▸ m)) hf ((Heap.get?_update_other _ _ hte).trans he) hc hn hd (Array.getElem?_eq_some_iff.mp h1).1 fun h' t' mv' tn tr' => k h' t' ((mv.mono fun _ _ _ z => .inr z).trans ⟨fun b o q nb nf => mv'.keep b o q (fun z => nb (.inl z)) nf,fun b o q nb nf => mv'.slot b o q (fun z => nb (.inl z)) nf⟩) ?_ tr'
  by_cases z:t' = t
  · exact .inl z
  · exact .inr ((Heap.get?_update_other _ _ (Ne.symm z)).symm.trans tn)
theorem land_ok (hl:s.heap.FunFrames base outer) (tr:Tr s.heap e t C fl) (k : ∀ h',Mv outer (fun b => b = t) s.heap h' → Tr h' e t C .none → Q () { s with heap := h' }):wpAny M A (setFlight (.ref e) none) Q E s := by
  obtain ⟨oe,oT,vs,ts,he,hc,hn,hd,h1,hte,hT,hdT,h3⟩ := tr.ex
  have sz : 3 < ts.size := (Array.getElem?_eq_some_iff.mp h3).1
  unfold setFlight
  refine wpAny_bind (wpAny_field he hd h1 ?_)
  rw [if_pos (show (Value.ref t != Value.none) = true from by simp)]
  refine wpAny_setField hT hdT sz (k _ ⟨fun b o q nb _ => (Heap.get?_update_other _ _ (Ne.symm nb)).trans q,fun b o q nb _ => ⟨o.slots,(Heap.get?_update_other _ _ (Ne.symm nb)).trans q⟩⟩ ⟨oe,_,vs,_,(Heap.get?_update_other _ _ hte).trans he,hc,hn,hd,h1,hte,Heap.get?_update_self _ hT (Obj.isFreed_of_fields (Obj.data_mapFields hdT _)),Obj.data_mapFields hdT _, ?_⟩)
  simp [sz]
theorem leave_first {oe:Obj} {vs:Array Value} (hfr:A.frames = some (env :: outer)) (hl:s.heap.FunFrames base (env :: outer)) (hf:env.frame = some L)
    (he:s.heap.get? e = some oe) (hc:oe.cls = .ref C) (hn:oe.dict = none) (hd:oe.data = .fields vs) (h1:vs[1]? = some .none)
    (k : ∀ h' t,Mv (env :: outer) (fun b => b = e) s.heap h' → s.heap.get? t = none → Tr h' e t C .none → Q () { s with heap := h' }):wpAny M A (leaving env (.ref e)) Q E s := by
  unfold leaving
  have nfr:e ∉ frs (env :: outer) := frame_data hl he hd
  refine wpAny_bind (note_first hfr hl hf he hc hn hd h1 fun h' t mv tn tr => ?_)
  refine land_ok (s := { s with heap := h' }) (mv.frames hl fun b m z => nfr (z ▸ m)) tr fun h2 mv2 tr2 => k h2 t ?_ tn tr2
  exact mv.step mv2 fun b o q z => by rw [show b = t from z,tn] at q; cases q
theorem leave_next (hfr:A.frames = some (env :: outer)) (hl:s.heap.FunFrames base (env :: outer)) (hf:env.frame = some L) (tr:Tr s.heap e t C .none)
    (k : ∀ h' t',Mv (env :: outer) (fun b => b = e ∨ b = t) s.heap h' → (t' = t ∨ s.heap.get? t' = none) → Tr h' e t' C .none → Q () { s with heap := h' }):wpAny M A (leaving env (.ref e)) Q E s := by
  unfold leaving
  obtain ⟨oe,oT,vs,ts,he,_,_,hd,_,_,hT,hdT,_⟩ := tr.ex
  have n1:e ∉ frs (env :: outer) := frame_data hl he hd
  have n2:t ∉ frs (env :: outer) := frame_data hl hT hdT
  refine wpAny_bind (note_next hfr hl hf tr fun h' t' mv tn tr' => ?_)
  refine land_ok (s := { s with heap := h' }) (mv.frames hl fun b m z => z.elim (fun z => n1 (z ▸ m)) fun z => n2 (z ▸ m)) tr' fun h2 mv2 tr2 => k h2 t' ?_ tn tr2
  exact mv.step mv2 fun b o q z => by
    rcases tn with tn | tn
    · exact .inr (z.trans tn)
    · rw [show b = t' from z,tn] at q; cases q
end
theorem obj_get {P:Program} {w:World} {H:Hp} {h:Heap} {a:Addr} : ∀ {o:HO},ObjOk P w H h a o → ∃ ob,h.get? a = some ob := fun {o} x => by
  cases o with
  | lst xs => obtain ⟨_,_,_,_,e⟩ := x; exact ⟨_,e⟩
  | tup xs => obtain ⟨_,_,_,ob,e,_⟩ := x; exact ⟨ob,e⟩
  | dK kvs => obtain ⟨_,_,_,_,ob,_,_,e,_⟩ := x; exact ⟨ob,e⟩
  | dT kvs => obtain ⟨_,_,_,_,ob,_,_,e,_⟩ := x; exact ⟨ob,e⟩
  | set S n => obtain ⟨ob,_,_,_,e,_⟩ := x; exact ⟨ob,e⟩
  | ins C dx fs => obtain ⟨_,_,_,e,_⟩ := x; exact ⟨_,e⟩
  | own y => exact x
  | xd fs => obtain ⟨_,⟨ob,_,_,e,_⟩,_⟩ := x; exact ⟨ob,e⟩
  | rng lo hi => obtain ⟨_,_,_,e⟩ := x; exact ⟨_,e⟩
  | frz ob u => obtain ⟨e,_⟩ := x; exact ⟨ob,e⟩
  | tbl ps => exact ⟨_,x⟩
  | met f y => exact ⟨_,x⟩
  | ext φ => exact x.2.1
theorem hok_none {P:Program} {w:World} {H:Hp} {h:Heap} {a:Addr} (ok:HOk P w H h) (n:h.get? a = none):H a = none := by
  cases e:H a with
  | none => rfl
  | some o =>
    obtain ⟨ob,q⟩ := obj_get (ok a o e)
    rw [n] at q; cases q
theorem unn_none {fs:List Addr} {H H':Hp} {h h':Heap} {a:Addr} (u:Un fs [] H H' h h') (n:h'.get? a = none):h.get? a = none := by
  cases e:h.get? a with
  | none => rfl
  | some o =>
    obtain ⟨o',q⟩ := u.there a o e (by simp)
    rw [n] at q; cases q
theorem un_mv {fs:List Addr} {l:List Env} {x:Addr → Prop} {H H':Hp} {h0 h h':Heap} (u:Un fs [] H H' h0 h) (mv:Mv l x h h') (hx : ∀ b,x b → h0.get? b = none) (hl : ∀ b ∈ frs l,b ∈ fs ∨ h0.get? b = none):Un fs [] H H' h0 h' where
  keep := fun b o e n nf _ => mv.keep b o (u.keep b o e n nf (by simp)) (fun z => by rw [hx b z] at e; cases e) fun m => (hl b m).elim nf fun z => by rw [z] at e; cases e
  slot := fun b o e n mf _ => by
    obtain ⟨sl,q⟩ := u.slot b o e n mf (by simp)
    obtain ⟨sl',q'⟩ := mv.any q fun z => by rw [hx b z] at e; cases e
    exact ⟨sl',q'⟩
  free := u.free
  there := fun b o e _ => by
    obtain ⟨o',q⟩ := u.there b o e (by simp)
    obtain ⟨sl',q'⟩ := mv.any q fun z => by rw [hx b z] at e; cases e
    exact ⟨_,q'⟩
  tups := u.tups
  frzs := u.frzs
  tbls := u.tbls
theorem hok_mv {P:Program} {w:World} {l:List Env} {x:Addr → Prop} {H:Hp} {h h':Heap} (ok:HOk P w H h) (mv:Mv l x h h') (hx : ∀ b,x b → H b = none) (hl : ∀ b ∈ frs l,H b = none):HOk P w H h' := fun a o e => by
  refine (ok a o e).stay (fun b u hb q => mv.keep b u q (fun z => ?_) fun m => ?_) (fun _ q => q) fun _ _ q => q
  · rcases hb with rfl | hb
    · rw [hx b z] at e; cases e
    · rw [hx b z] at hb; cases hb
  · rcases hb with rfl | hb
    · rw [hl b m] at e; cases e
    · rw [hl b m] at hb; cases hb
theorem hok_trk {P:Program} {w:World} {H:Hp} {h:Heap} {a:Addr} {o:HO} (ok:HOk P w H h) (n:H a = none) (new:ObjOk P w (upd H a o) h a o):HOk P w (upd H a o) h := fun b u e => by
  by_cases hb:b = a
  · subst hb; rw [upd_same] at e; cases e; exact new
  · rw [upd_ne hb] at e
    exact (ok b u e).stay (fun _ _ _ q => q) (fun c q => by rw [upd_ne (ne_of_none q n)]; exact q) fun c xs q => by rw [upd_ne (ne_of_none q n)]; exact q
theorem un_trk {fs:List Addr} {H H':Hp} {h h':Heap} {a:Addr} {o:HO} (u:Un fs [] H H' h h') (n:H' a = none) (na:h.get? a = none):Un fs [] H (upd H' a o) h h' where
  keep := u.keep
  slot := u.slot
  free := fun b ob e nb hx => by rw [upd_ne (fun z => by subst z; rw [na] at e; cases e)]; exact u.free b ob e nb hx
  there := u.there
  tups := fun b xs e => by have := u.tups b xs e; rw [upd_ne (ne_of_none this n)]; exact this
  frzs := fun b ob xs e => by have := u.frzs b ob xs e; rw [upd_ne (ne_of_none this n)]; exact this
  tbls := fun b ps e => by
    obtain ⟨m,q⟩ := u.tbls b ps e
    exact ⟨m,by rw [upd_ne (ne_of_none q n)]; exact q⟩
noncomputable def CXE (P:Program) (w:World):CXT := fun outer H s E e s' => ∃ (ea t C:Addr) (H':Hp),e = .ref ea ∧ s'.os = s.os ∧ AllBare s'.gens ∧ Un (frs outer) [] H H' s.heap s'.heap ∧ HOk P w H' s'.heap ∧
  Tr s'.heap ea t C .none ∧ s.heap.get? ea = none ∧ s.heap.get? t = none ∧ H' ea = none ∧ H' t = none ∧ E (.ref C) none H'
structure XR (X:Cx) (c:Ct) (xq:XQ):Prop where
  stk:X.stack = X.env :: X.outer
  fr:X.env.frame = some X.env.locals
  raise : ∀ (pins:List (Addr × Obj)) (σ:L2.St) (H:Hp) (s:Shared) (h':Heap) (ea C:Addr) (no:Nat) (args:List Value),Inv X pins σ H s → xq no σ H → c.cl no = some C → Heap.MadeExcOf s.heap h' ea (.ref C) args → X.xe (.ref ea) { s with heap := h' }
  pass : ∀ (pins:List (Addr × Obj)) (σ:L2.St) (H:Hp) (s:Shared) (e:Value) (s':Shared),Inv X pins σ H s → CXE X.prog X.w X.stack H s (fun cv _ H' => ∃ no C,c.cl no = some C ∧ cv = .ref C ∧ xq no σ H') e s' → X.xe e s'
section
variable {P:Program} {w:World} {K:PySem.W.Frag} {mg:Str → Option Value} {base:Heap} {c:Ct}
theorem xr_def {N:List Str} {qual:Str} {scope:Scope} {f:Addr} {cd:Value} {A:Around} {outer:List Env} {s:Shared} {H:Hp} {E:XK} :
    XR (cxOf (CXE P w) P w K mg base N qual scope f cd A outer s H E) c (fun no _ H' => ∀ C,c.cl no = some C → E (.ref C) none H') where
  stk := rfl
  fr := rfl
  raise := fun pins σ H1 s1 h' ea C no args I q hC hm => by
    obtain ⟨t0,he,htn,ht⟩ := hm.there
    have hl:s1.heap.FunFrames base (cxOf (CXE P w) P w K mg base N qual scope f cd A outer s H E).stack := I.stack
    have mv0:Mv (cxOf (CXE P w) P w K mg base N qual scope f cd A outer s H E).stack (fun _ => False) s1.heap h' := ⟨fun b o e _ _ => hm.keeps b o e,fun b o e _ _ => ⟨o.slots,hm.keeps b o e⟩⟩
    have hu:Un (frs outer) [] H H1 s.heap s1.heap := I.base
    refine leave_first (s := { s1 with heap := h' }) I.ok.frames (mv0.frames hl fun _ _ z => z) rfl he rfl rfl rfl rfl fun h2 t mv tn tr => ?_
    have mv1 := mv0.step mv fun b o e z => by rw [show b = ea from z,hm.new] at e; cases e
    have tn1:s1.heap.get? t = none := by
      cases e:s1.heap.get? t with
      | none => rfl
      | some o => have := hm.keeps t o e; rw [show h'.get? t = none from tn] at this; cases this
    refine ⟨ea,t,C,H1,rfl,I.os,I.bare,un_mv hu mv1 (fun _ z => z.elim) (fun b m => ?_),hok_mv I.hok mv1 (fun _ z => z.elim) I.stkFree,tr,unn_none hu hm.new,unn_none hu tn1,hok_none I.hok hm.new,hok_none I.hok tn1,q C hC⟩
    rcases List.mem_cons.mp (I.stkSub b m) with z | z
    · exact .inr (Heap.get?_none_of_le (by rw [z]; exact I.ok.above))
    · exact .inl z
  pass := fun pins σ H1 s1 e s2 I h => by
    obtain ⟨ea,t,C,H2,rfl,os,bare,un,hok,tr,n1,n2,n3,n4,no,C',hC,e2,q⟩ := h
    cases e2
    have I2 := I.call' (ch := []) os un hok bare (fun b z => absurd z (by simp))
    have hl := I2.stack
    have hu:Un (frs outer) [] H H1 s.heap s1.heap := I.base
    have hu2:Un (frs outer) [] H H2 s.heap s2.heap := I2.base
    refine leave_next I2.ok.frames hl rfl tr fun h3 t' mv tn tr' => ?_
    have m1:s.heap.get? ea = none := unn_none hu n1
    have m2:s.heap.get? t = none := unn_none hu n2
    refine ⟨ea,t',C,H2,rfl,I2.os,I2.bare,un_mv hu2 mv (fun b z => ?_) (fun b m => ?_),hok_mv hok mv (fun b z => ?_) I2.stkFree,tr',m1, ?_,n3, ?_,q C hC⟩
    · rcases z with rfl | rfl
      · exact m1
      · exact m2
    · rcases List.mem_cons.mp (I2.stkSub b m) with z | z
      · exact .inr (Heap.get?_none_of_le (by rw [z]; exact I2.ok.above))
      · exact .inl z
    · rcases z with rfl | rfl
      · exact n3
      · exact n4
    · rcases tn with rfl | tn
      · exact m2
      · exact unn_none hu2 tn
    · rcases tn with rfl | tn
      · exact n4
      · exact hok_none hok tn
noncomputable def spX (T:Tx) {α:Type} (ρ:RK α V) (n:Nat) (F:List D → Option α) (Xf:List D → Option Nat):Sp := fun vs H Q E => vs.length = n ∧ ∃ A ds,Nw A H ∧ RepL T A H ds vs ∧
  ((∃ d,F ds = some d ∧ ∀ v H',Same H H' → ρ A H H' d v → Q v H') ∨ ∃ no,Xf ds = some no ∧ ∀ C H',T.cl no = some C → Same H H' → E (.ref C) none H')
structure DefE (P:Program) (w:World) (K:PySem.W.Frag) (mg:Str → Option Value) (base:Heap) (c:Ct) {α:Type} (ρ:RK α V) (x:Str) (ps:List Str) (k:Nat) (F:List D → Option α) (Xf:List D → Option Nat):Prop where
  ex : ∃ fa fd,FnOk P w K mg base (CXE P w) k fa fd ps (spX ⟨K,c.cl,c.fld⟩ ρ ps.length F Xf) ∧ mg x = some (.ref fa) ∧ PySem.W.keepIn K (.ref fa) = true ∧ Binds K fd ps []
noncomputable abbrev DefED (P:Program) (w:World) (K:PySem.W.Frag) (mg:Str → Option Value) (base:Heap) (c:Ct) (x:Str) (ps:List Str) (k:Nat) (F:List D → Option D) (Xf:List D → Option Nat):Prop := DefE P w K mg base c (kD ⟨K,c.cl,c.fld⟩) x ps k F Xf
theorem run_noX {α:Type} {ρ:RK α V} {k:Nat} {fa:Addr} {fd:FuncData} {ps:List Str} {n:Nat} {T:Tx} {F:List D → Option α} {Xf:List D → Option Nat} {sp:Sp} (h1:FnOk P w K mg base (CXE P w) k fa fd ps (spX T ρ n F Xf))
    (hs : ∀ vs H Q E,sp vs H Q E → spX T ρ n F Xf vs H Q E0):FnOk P w K mg base CX0 k fa fd ps sp := by
  refine ⟨fun vs H Q E h => h1.len vs H Q E0 (hs vs H Q E h),fun A outer s H args us vs Q E hr he hb hv h => ?_⟩
  refine codeAny_mono (h1.run A outer s H args us vs Q E0 hr he hb hv (hs vs H Q E h)) fun r s' q => ?_
  cases r with
  | ok fl => cases fl <;> exact q
  | error e =>
    obtain ⟨_,_,_,_,_,_,_,_,_,_,_,_,_,_,z⟩ := q
    exact z.elim
theorem DefE.def_ {x:Str} {ps:List Str} {k:Nat} {F:List D → Option D} {Xf:List D → Option Nat} (G:DefED P w K mg base c x ps k F Xf):Def P w K mg base c x ps k F := by
  obtain ⟨fa,fd,h1,h2⟩ := G.ex
  exact ⟨fa,fd,run_noX h1 fun vs H Q E ⟨a,A,ds,d,b1,b2,b3,b4⟩ => ⟨a,A,ds,b1,b2,.inl ⟨d,b3,b4⟩⟩,h2⟩
structure BodyX (P:Program) (w:World) (K:PySem.W.Frag) (mg:Str → Option Value) (base:Heap) (c:Ct) (N:List Str) (st:Stmt) (k:Nat) (F:FS):Prop where
  ok : ∀ (X:Cx) (xq:XQ),X.prog = P → X.w = w → X.K = K → X.mg = mg → X.base = base → DefY X N (defScope st) → Room k X.A → XR X c xq → PDSs X c xq (defBody st) F
theorem body_exX {T:Tx} {N:Nat} {F:FS} {vs:List V} {H:Hp} {E:XK} {A:Addr → Prop} {ds:List D} {no:Nat} {De:Ends} (nw:Nw A H) (r:RepL T A H ds vs) (e:bodyX N F ds = some no) (q : ∀ C H',T.cl no = some C → Same H H' → E (.ref C) none H') :
    tDs T (fun no _ H' => ∀ C,T.cl no = some C → E (.ref C) none H') F De (vs.map some ++ List.replicate (N - vs.length) none) H := by
  unfold bodyX at e
  cases e1:F (envOf N ds) with
  | none => rw [e1] at e; cases e
  | some fl =>
    rw [e1] at e
    refine ⟨⟨A,H,fun _ => False⟩,fun _ => False,envOf N ds,fl,body_start nw r,e1, ?_⟩
    cases fl with
    | ex no' env' => cases e; exact fun σ' H' O' E' g C hC => q C H' hC fun b o h => g.keep b o h fun z => z
    | rf _ _ => cases e
    | nx _ => cases e
    | rt _ _ => cases e
    | bk _ => cases e
    | ct _ => cases e
theorem tDs_anyX {T:Tx} {F:FS} {De:Ends} {σ:L2.St} {H:Hp} {x y:XQ} (w : ∀ no σ H,x no σ H → y no σ H) (h:tDs T x F De σ H):tDs T y F De σ H := by
  obtain ⟨W,O,env,fl,E,e,q⟩ := h
  refine ⟨W,O,env,fl,E,e, ?_⟩
  cases fl with
  | ex no env' => exact fun σ' H' O' E' g => w _ _ _ (q σ' H' O' E' g)
  | rf _ _ => exact q
  | nx _ => exact q
  | rt _ _ => exact q
  | bk _ => exact q
  | ct _ => exact q
theorem defE_of {x qual:Str} {st:Stmt} {fa:Addr} {fd:FuncData} {N ps:List Str} {k:Nat} {F:FS} (Fn:Fun K x qual st fa fd) (S:FnScope N ps (defScope st)) (hm:mg x = some (.ref fa)) (hb:Binds K fd ps [])
    (body:BodyX P w K mg base c N st k F):DefED P w K mg base c x ps (k + 1) (bodyF N.length F) (bodyX N.length F) := by
  refine ⟨fa,fd, ?_,hm,Fn.kp,hb⟩
  obtain ⟨oc,od,kV,doc,pm,an,cdv,ct,osl,rfl,lk,hcd⟩ := Fn.ex
  refine L2.fn_of lk hcd S (fun vs H Q E h => h.1) fun A outer s H vs Q E hr h => ⟨_,body.ok _ _ rfl rfl rfl rfl rfl ⟨⟨rfl,rfl,rfl,S.nd⟩,fun _ => rfl,PassesOwn.leaving⟩ hr xr_def, ?_⟩
  obtain ⟨hn,A',ds,nw,r,h⟩ := h
  rcases h with ⟨d,e,q⟩ | ⟨no,e,q⟩
  · exact tDs_anyX (fun _ _ _ z => z.elim) (body_ok (n := ps.length) (E0 := E) ⟨hn,A',ds,d,nw,r,e,q⟩)
  · exact body_exX nw r e q
end
end DL
end
section
set_option Elab.async false
set_option linter.all false
set_option maxRecDepth 100000
namespace DL
open PySem PySem.Spec PyProof.Rows L2
noncomputable abbrev bmVE:List Value := [.type "ValueError",.type "Exception",.type "BaseException",.type "object"]
structure ExcG (K:PySem.W.Frag) (mg:Str → Option Value) (c:Ct) (x:Str) (no:Nat):Prop where
  ex : ∃ C,mg x = some (.ref C) ∧ c.cl no = some C ∧ PySem.W.excIn K C bmVE "ValueError.__new__" = true
theorem exc_at {K:PySem.W.Frag} {h:Heap} {C:Addr} {bmB:List Value} {newId:String} (X:K.In h) (q:PySem.W.excIn K C bmB newId = true) :
    ∃ (bm:List Value) (N:Addr) (nm qn:Str) (bs:List Value) (hd:Bool) (sn:List Str) (sub:List Value) (ab:Bool) (col:Option Bool) (dd:Option Addr) (k0 k1 k2 k3 k5:Option Value) (mN:Str → Option Value),
      h.get? C = some (excClassObj nm qn C N bs bm hd sn sub ab col dd k0 k1 k2 k3 k5 newId) ∧ h.Ns N mN ∧ mN "__init__" = none ∧ OwnTail h bmB bm := by
  unfold PySem.W.excIn at q
  split at q
  case h_2 => cases q
  case h_1 dd cd sl ho =>
    split at q
    case h_2 => cases q
    case h_1 D bm k0 k1 k2 k3 n k5 hm hs =>
      rw [Bool.and_eq_true,Bool.and_eq_true,Bool.and_eq_true,Bool.and_eq_true,Bool.and_eq_true] at q
      obtain ⟨⟨⟨⟨⟨q1,q2⟩,q3⟩,q4⟩,q5⟩,q6⟩ := q
      have q1 := beq_iff_eq.mp q1
      have q2 := beq_iff_eq.mp q2
      have q3:cd.hasDel = false := by simpa using q3
      have q6 := beq_iff_eq.mp q6
      subst q1 q2
      obtain ⟨nm,bs,mro,ns,qn,hd,sn,sub,ab,col,del⟩ := cd
      have hm:mro = _ := hm
      have q3:del = false := q3
      subst hm q3
      have hsl:sl = #[k0,k1,k2,k3,some (.builtin n),k5] := by
        obtain ⟨l⟩ := sl
        have hs:l = _ := hs
        rw [hs]
      subst hsl
      refine ⟨bm,ns,nm,qn,bs,hd,sn,sub,ab,col,dd,k0,k1,k2,k3,k5,h.nsMap ns,X _ _ ho,.of_isNs (PySem.W.isNs_of_in X q5),PySem.W.nsMap_none_of_in X q5 q6,PySem.W.tail_of_in X q4⟩
section
variable {X:Cx} {c:Ct} {xq:XQ} {a b e:Expr} {f g:FE} {pos:Pos}
theorem pds_raise {no:Nat} {x:Str} {np cpos:Pos} (xr:XR X c xq) (G:ExcG X.K X.mg c x no) (hg:Gl X x) (hc:X.calm = true) (ha:PD X c e f) (he:isStar e = false := by rfl) (hdb:(x == ("__debug__":Str)) = false := by decide) :
    PDS X c xq (.Raise (some (.Call (.Name x np) [e] [] cpos)) none pos) (fsRaise no f) := by
  obtain ⟨C,hm,hC,hx⟩ := G.ex
  intro pins s σ H De I h
  obtain ⟨W,O,env,fl,Er,ef,q⟩ := h
  unfold fsRaise at ef
  cases e1:f env with
  | none => rw [e1] at ef; cases ef
  | some d =>
    rw [e1] at ef
    cases ef
    obtain ⟨bm,N,nm,qn,bs,hd,sn,sub,ab,col,dd,k0,k1,k2,k3,k5,mN,hCo,hN,hni,TL⟩ := exc_at I.mod.kin hx
    have hA:PA X [e] (tCons (tP (tx X c) (kD (tx X c)) f) tNil) := pa_cons ha pa_nil (star_cons he)
    refine wpAny_Raise_call_subT (nm := nm) (q := qn) (N := N) (bs := bs) (hdct := hd) (sn := sn) (sub := sub) (ab := ab) (col := col) (dd := dd) (k0 := k0) (k1 := k1) (k2 := k2) (k3 := k3) (k5 := k5) PySem.F.excBase_ValueError (TL.hasType (by decide)) (I.ok.hd hc) (star_none (by unfold noStars noStars; rw [he]; rfl)) hni (ld_glob I hg hm ⟨rfl, ?_⟩ hdb)
    have z := hA cpos pins s σ H (fun vs H1 => ∃ v,vs = [v] ∧ Same H H1) I ⟨W,O,env,d,Er,e1,fun v H1 s1 r1 => ⟨v,rfl,s1⟩⟩
    rw [star_cons he] at z ⊢
    refine Calls.evalArgs_plain (thn5 z fun us s2 vs H1 I1 r ⟨v,ev,sm⟩ => ⟨rfl, ?_,I1.bk _ _ hCo,hN.keeps I1.bk,TL.keeps I1.bk,fun h' ea hm' => xr.raise pins σ H1 s2 h' ea C no us I1 (q σ H1 O (Er.mono sm) (Fr.same sm)) hC hm'⟩)
    have := r.length
    rw [ev] at this
    show us.length ≤ sizeLine
    rw [← this]
    exact small (by simp)
noncomputable def cxH (X:Cx) (e:Value) (xe:Value → Shared → Prop):Cx := { X with A := X.A.mark (some e),calm := false,xe := xe }
theorem inv_h {pins:List (Addr × Obj)} {σ:L2.St} {H:Hp} {s:Shared} {v:Value} {xe:Value → Shared → Prop} (I:Inv X pins σ H s):Inv (cxH X v xe) pins σ H s :=
  ⟨⟨I.ok.mod,I.ok.kind,I.ok.glob,I.ok.blt,I.ok.above,I.ok.inj,I.ok.has,I.ok.cab,fun z => Bool.noConfusion (show false = true from z),I.ok.frames,I.ok.stk,I.ok.exf,I.ok.bs,I.ok.bsz,I.ok.noex,I.ok.exfs,I.ok.funs,I.ok.frf⟩,I.os,I.bare,I.base,I.loc,I.cell,I.free,I.freeC,I.pin,I.hok,I.len⟩
theorem inv_unh {pins:List (Addr × Obj)} {σ σ':L2.St} {H H':Hp} {s s':Shared} {v:Value} {xe:Value → Shared → Prop} (I0:Inv X pins σ' H' s') (I:Inv (cxH X v xe) pins σ H s):Inv X pins σ H s :=
  ⟨I0.ok,I.os,I.bare,I.base,I.loc,I.cell,I.free,I.freeC,I.pin,I.hok,I.len⟩
theorem Nm.wish {i:Nat} {x:Str} {E:Value → Shared → Prop} (n:Nm X i x):Nm (X.wish E) i x := ⟨n.hN,n.hv,n.hd,n.hc⟩
theorem DefX.locl {N:List Str} {sc:Scope} (d:DefX X N sc) {z:Str} (h:sc.names.lookup z = some .local):X.env.scope.names.lookup z = some .local := by rw [d.hsc]; exact h
theorem Inv.goes {pins:List (Addr × Obj)} {σ:L2.St} {H:Hp} {s:Shared} {h':Heap} {t':Nat} {j:Nat} {z:Str} {m:Str → Option Value} {v:Option Value} (I:Inv X pins σ H s) (nd:X.N.Nodup) (hj:X.N[j]? = some z)
    (hm : ∀ (i:Nat) (x:Str) (v:V),X.N[i]? = some x → σ[i]? = some (some v) → Vis X.env.scope x → ∃ u,RelV v u ∧ Look X.env s.heap m x u) (hn:h'.Ns X.env.locals (fun x => if x = z then v else m x)) (hs:Heap.SameBut X.env.locals s.heap h') :
    Inv X pins (σ.set j none) H { s with heap := h',toks := t' } := by
  obtain ⟨m0,⟨ol,_,_,hol,_⟩,_⟩ := I.loc
  have cne := I.cne
  have nL : ∀ b o,X.s₀.heap.get? b = some o → b ≠ X.env.locals := fun b o e => Nat.ne_of_lt (Nat.lt_of_lt_of_le (Heap.lt_size e) I.ok.above)
  refine ⟨I.ok,I.os,I.bare,⟨fun b o e n hb hx => ?_,fun b o e n hb hx => ?_,I.base.free,fun b o e hx => ?_,I.base.tups,I.base.frzs,I.base.tbls⟩,⟨_,hn,fun i x u e1 e2 e3 => ?_⟩,fun x c e => ?_,I.free,I.freeC,fun p hp => ?_,fun b o e => ?_,by simpa using I.len⟩
  · exact (hs.2 b (nL b o e)).trans (I.base.keep b o e n hb hx)
  · obtain ⟨sl,q⟩ := I.base.slot b o e n hb hx
    exact ⟨sl,(hs.2 b (nL b o e)).trans q⟩
  · obtain ⟨o',q⟩ := I.base.there b o e hx
    exact ⟨o',(hs.2 b (nL b o e)).trans q⟩
  · have hij:j ≠ i := fun w => by
      subst w
      by_cases hl:j < σ.length
      · rw [List.getElem?_set_self hl] at e2; cases e2
      · rw [List.getElem?_eq_none (by simp; omega)] at e2; cases e2
    rw [List.getElem?_set_ne hij] at e2
    have hxz:x ≠ z := fun w => by
      subst w
      obtain ⟨l1,g1⟩ := List.getElem?_eq_some_iff.mp e1
      obtain ⟨l2,g2⟩ := List.getElem?_eq_some_iff.mp hj
      exact hij ((List.getElem_inj nd).mp (g2.trans g1.symm))
    obtain ⟨w,r,q⟩ := hm i x u e1 e2 e3
    refine ⟨w,r, ?_⟩
    rcases q with ⟨k,q⟩ | ⟨k,c,e,q⟩
    · exact .inl ⟨k,by show (if x = z then v else m x) = some w; rw [if_neg hxz]; exact q⟩
    · exact .inr ⟨k,c,e,q.sameBut hs (cne x c e)⟩
  · obtain ⟨w,q⟩ := I.cell x c e
    exact ⟨w,q.sameBut hs (cne x c e)⟩
  · obtain ⟨e,n,ne,nf,d⟩ := I.pin p hp
    exact ⟨(hs.2 p.1 ne).trans e,n,ne,nf,d⟩
  · have nl : ∀ b u,H b = some u → b ≠ X.env.locals := fun b u q w => by rw [w,I.free] at q; cases q
    refine (I.hok b o e).stay (fun b' u hb q => (hs.2 b' ?_).trans q) (fun _ q => q) fun _ _ q => q
    rcases hb with rfl | hb
    · exact nl _ _ e
    · exact nl _ _ hb
theorem EnvR.no {T:Tx} {W:Wf} {O:Addr → Prop} {H:Hp} {env:DEnv} {σ:L2.St} (E:EnvR T W O H env σ) (j:Nat) (v:Option V):EnvR T W O H (env.set j .no) (σ.set j v) where
  fr := E.fr
  new := E.new
  mu := E.mu
  slot := fun i s e => by
    rcases set_slot e with ⟨rfl,rfl,hl⟩ | ⟨h,e⟩
    · trivial
    · rw [List.getElem?_set_ne h]; exact E.slot i s e
  inj := fun i k s t a e1 e2 o1 o2 s1 s2 => by
    rcases set_slot e1 with ⟨rfl,rfl,hl⟩ | ⟨h,q1⟩
    · cases o1
    · rcases set_slot e2 with ⟨rfl,rfl,hl⟩ | ⟨h',q2⟩
      · cases o2
      · rw [List.getElem?_set_ne h] at s1
        rw [List.getElem?_set_ne h'] at s2
        exact E.inj i k s t a q1 q2 o1 o2 s1 s2
  len := by simp [E.len]
theorem try_call {α:Type} {ρ:RK α V} {k kk:Nat} {x:Str} {ps:List Str} {F:List D → Option α} {Xf:List D → Option Nat} {es:List Expr} {fs:FA} {p1 p2 p3:Pos} (G:DefE X.prog X.w X.K X.mg X.base c ρ x ps k F Xf) (hr:Room kk X.A) (hk:k ≤ kk) (hg:Gl X x)
    (ha : ∀ E,PDA (X.wish E) c (e :: es) fs) (he:isStar e = false) (hpl:noStars es = true) (hdb:(x == ("__debug__":Str)) = false)
    {pins:List (Addr × Obj)} {σ:L2.St} {H:Hp} {s:Shared} (I:Inv X pins σ H s) {W:Wf} {O:Addr → Prop} {env:DEnv} {ds:List D} (Er:EnvR (tx X c) W O H env σ) (e1:fs env = some ds) (hn:ds.length = ps.length)
    {Qn:Flow → Shared → Prop} {Ew:Value → Shared → Prop} {E:Hp → XK} {QH:Hp → Hp → Prop} (hE : ∀ H1,(∃ d,F ds = some d ∧ ∀ H',Same H1 H' → QH H1 H') ∨ ∃ no,Xf ds = some no ∧ ∀ C H',c.cl no = some C → Same H1 H' → E H1 (.ref C) none H')
    (nor : ∀ s' H1 H',Inv X pins σ H' s' → Same H H1 → QH H1 H' → Qn .next s') (exc : ∀ ev s1 H1 s',Inv X pins σ H1 s1 → Same H H1 → CXE X.prog X.w X.stack H1 s1 (E H1) ev s' → Ew ev s') :
    wpAny (model X.prog X.w) X.A (execs [.Expr (.Call (.Name x p1) (e :: es) [] p2) p3] X.env) Qn Ew s := by
  obtain ⟨fa,fd,g1,g2,g3,g4⟩ := G.ex
  have call:wpAny (model X.prog X.w) X.A (eval (.Call (.Name x p1) (e :: es) [] p2) X.env) (fun _ s1 => ∃ H0 H1,Inv X pins σ H1 s1 ∧ Same H H0 ∧ QH H0 H1) Ew s := by
    refine wpAny_Call_Name_kw (ld_glob I hg g2 ?_ hdb)
    refine PySem.W.callWith_K (h₀ := X.base) I.ok.mod.kin g3 (thn5 (ha Ew p2 pins s σ H (fun vs H1 => Same H H1 ∧ RepL (tx X c) (Cl W O) H1 ds vs) (I.wish Ew) ⟨W,O,env,ds,Er,e1,fun vs H1 s1 r1 => ⟨s1,r1⟩⟩) fun us s1 vs H1 I1 r ⟨sm,rr⟩ => ⟨I1.kIn, ?_⟩) (star_cons he) (star_none hpl)
    have J1:Inv X pins σ H1 s1 := I1.unwish
    have hl:us.length = ps.length := by rw [← r.length, ← rr.length]; exact hn
    have hb := g4 s1 us J1.kIn (by rw [List.append_nil]; exact hl)
    rw [List.append_nil] at hb
    have sp:spX (tx X c) ρ ps.length F Xf vs H1 (fun _ H' => QH H1 H') (E H1) := by
      refine ⟨by rw [← rr.length]; exact hn,Cl W O,ds,fun a n => (Er.mono sm).newA n,rr, ?_⟩
      rcases hE H1 with ⟨d,hd,hq⟩ | ⟨no,h1,h2⟩
      · exact .inl ⟨d,hd,fun _ H' s _ => hq H' s⟩
      · exact .inr ⟨no,h1,h2⟩
    refine wpAny_call (codeAny_mono (g1.run X.A X.stack s1 H1 ⟨us,[]⟩ us vs _ _ (hr.mono hk) J1.env0 hb r sp) fun rs s' hq => ?_)
    cases rs with
    | error ev => exact exc ev s1 H1 s' J1 sm hq
    | ok fl =>
      cases fl with
      | ret u =>
        obtain ⟨v,H',I2,_,q2⟩ := J1.after hq
        exact ⟨H1,H',I2,sm,q2⟩
      | next => exact False.elim hq
      | brk => exact False.elim hq
      | cont => exact False.elim hq
  refine wpAny_execs_cons (wpAny_Expr_any (thn5 call fun v s1 H0 H1 I1 sm hq => ?_) I.quiet (swaps_no rfl))
  exact wpAny_execs_nil (nor s1 H0 H1 I1 sm hq)
theorem pds_try {α:Type} {ρ:RK α V} {i j k kk no:Nat} {x cl y z:Str} {ps:List Str} {F:List D → Option α} {Xf:List D → Option Nat} {es:List Expr} {fs:FA} {p1 p2 p3 p4 p5 p6 p7 p8:Pos} (xr:XR X c xq) (G:DefE X.prog X.w X.K X.mg X.base c ρ x ps k F Xf) (hr:Room kk X.A) (hk:k ≤ kk) (hg:Gl X x)
    (Gc:ExcG X.K X.mg c cl no) (hgc:Gl X cl) (ni:Nl X i y) (nj:Nl X j z) (hz:X.env.scope.names.lookup z = some .local) (mj:Nm X j z) (ha : ∀ E,PDA (X.wish E) c (e :: es) fs) (hdb:(x == ("__debug__":Str)) = false := by decide) (hdc:(cl == ("__debug__":Str)) = false := by decide) (he:isStar e = false := by rfl) (hpl:noStars es = true := by rfl) :
    PDS X c xq (.Try [.Expr (.Call (.Name x p1) (e :: es) [] p2) p3] [.ExceptHandler (some (.Name cl p4)) (some z) [.Assign [.Name y p5] (.Name z p6) p7] p8] [] [] pos) (fsTry i j ps.length F Xf no fs) := by
  obtain ⟨C,hmC,hC,hxC⟩ := Gc.ex
  intro pins s σ H De I h
  obtain ⟨W,O,env,fl,Er,ef,q⟩ := h
  unfold fsTry at ef
  cases e1:fs env with
  | none => rw [e1] at ef; cases ef
  | some ds =>
  rw [e1] at ef
  dsimp only [Option.bind_some] at ef
  by_cases hn:ds.length = ps.length
  case neg => rw [if_neg hn] at ef; cases ef
  rw [if_pos hn] at ef
  refine wpAny_Try_except ?_
  cases hF:F ds with
  | some d =>
    rw [hF] at ef
    cases ef
    exact try_call G hr hk hg ha he hpl hdb I Er e1 hn (E := fun _ => E0) (QH := Same) (fun H1 => .inl ⟨d,hF,fun _ w => w⟩) (fun s' H1 H' I' sm sm2 => wpAny_execs_nil ⟨σ,H',I',q σ H' O (Er.mono (sm.trans sm2)) (Fr.same (sm.trans sm2))⟩) fun ev s1 H1 s' _ _ hx => by
      obtain ⟨_,_,_,_,_,_,_,_,_,_,_,_,_,_,w⟩ := hx
      exact w.elim
  | none =>
    rw [hF] at ef
    dsimp only at ef
    cases hX:Xf ds with
    | none => rw [hX] at ef; cases ef
    | some no' =>
    rw [hX] at ef
    dsimp only [Option.bind_some] at ef
    by_cases hno:no' = no
    case neg => rw [if_neg hno] at ef; cases ef
    rw [if_pos hno] at ef
    subst hno
    cases ef
    refine try_call G hr hk hg ha he hpl hdb I Er e1 hn (E := fun H1 cv _ H' => cv = .ref C ∧ Same H1 H') (QH := fun _ _ => False) (fun H1 => .inr ⟨no',hX,fun C' H' hC' sm => ⟨by rw [hC] at hC'; cases hC'; rfl,sm⟩⟩) (fun s' H1 H' I' sm w => w.elim) fun ev s1 H1 s2 I1 sm1 hx => ?_
    obtain ⟨ea,t,C2,H2,rfl,os,bare,un,hok,tr,n1,n2,n3,n4,ec,sm2⟩ := hx
    cases ec
    have I2:Inv X pins σ H2 s2 := I1.call' (ch := []) os un hok bare (fun b w => absurd w (by simp))
    have hl := I2.stack
    rw [xr.stk] at hl
    have hfr := I2.ok.frames
    rw [xr.stk] at hfr
    have free2 : ∀ b ∈ frs (X.env :: X.outer),H2 b = none := by
      have := I2.stkFree
      rw [xr.stk] at this
      exact this
    obtain ⟨oe,oT,vs,ts,g1,_,_,g2,_,_,g3,g4,_⟩ := tr.ex
    have f1:ea ∉ frs (X.env :: X.outer) := frame_data hl g1 g2
    have f2:t ∉ frs (X.env :: X.outer) := frame_data hl g3 g4
    refine note_next hfr hl xr.fr tr fun h3 t3 mv3 tn3 tr3 => ?_
    have hl3 := mv3.frames hl fun b m w => w.elim (fun w => f1 (w ▸ m)) fun w => f2 (w ▸ m)
    have x3 : ∀ b o,s2.heap.get? b = some o → b = t3 → b = ea ∨ b = t := fun b o e w => by
      subst w
      rcases tn3 with tn | tn
      · exact .inr tn
      · rw [tn] at e; cases e
    refine land_ok (s := { s2 with heap := h3 }) hl3 tr3 fun h4 mv4 tr4 => ?_
    have mv5 := mv3.step mv4 x3
    have f3:t3 ∉ frs (X.env :: X.outer) := by
      obtain ⟨_,oT,_,ts,_,_,_,_,_,_,g5,g6,_⟩ := tr3.ex
      exact frame_data hl3 g5 g6
    have hl4 := mv4.frames hl3 fun b m w => f3 (w ▸ m)
    have xx : ∀ b,b = ea ∨ b = t → s1.heap.get? b = none := fun b w => by
      rcases w with rfl | rfl
      · exact n1
      · exact n2
    have xh : ∀ b,b = ea ∨ b = t → H2 b = none := fun b w => by
      rcases w with rfl | rfl
      · exact n3
      · exact n4
    have at_ : ∀ h',Mv (X.env :: X.outer) (fun b => b = ea ∨ b = t) s2.heap h' → Un (frs X.stack) [] H1 H2 s1.heap h' ∧ HOk X.prog X.w H2 h' := fun h' mv =>
      ⟨un_mv un mv xx fun b m => .inl (by rw [xr.stk]; exact m),hok_mv hok mv xh free2⟩
    obtain ⟨un4,hok4⟩ := at_ h4 mv5
    have I4:Inv X pins σ H2 { s2 with heap := h4 } := I1.call' (ch := []) os un4 hok4 bare (fun b w => absurd w (by simp))
    refine wpAny_handleBy_cons (codeAny_handlers_test ?_) (by intro w; cases w)
    refine ld_glob (X := cxH X (.ref ea) fun _ _ => False) (inv_h I4) hgc hmC ?_ hdc
    obtain ⟨bm,N,nm,qn,bs,hd,sn,sub,ab,col,dd,k0,k1,k2,k3,k5,mN,hCo,hN,hni,TL⟩ := exc_at I4.kIn hxC
    obtain ⟨oe4,_,_,_,he4,hc4,_⟩ := tr4.ex
    refine wpAny_excMatches_sub_self hCo he4 hc4 (TL.hasType (by decide)) (codeAny_handlers_suite_as ?_)
    refine land_ok (s := { s2 with heap := h4 }) hl4 tr4 fun h6 mv6 tr6 => ?_
    have mv7 := mv5.step mv6 x3
    obtain ⟨un6,hok6⟩ := at_ h6 mv7
    obtain ⟨oe6,_,vs6,_,he6,hc6,hn6,hd6,_⟩ := tr6.ex
    have hokX:HOk X.prog X.w (upd H2 ea (XO ea C)) h6 := hok_trk hok6 n3 ⟨⟨oe6,he6,hc6,hn6,vs6,hd6⟩,⟨oe6,he6⟩,fun h1 h2 ⟨o,a,b⟩ k => ⟨o,k o a,b⟩⟩
    have I6:Inv X pins σ (upd H2 ea (XO ea C)) { s2 with heap := h6 } := I1.call' (ch := []) os (un_trk un6 n3 n1) hokX bare (fun b w => absurd w (by simp))
    have sm6:Same H (upd H2 ea (XO ea C)) := sm1.trans (sm2.trans (same_new n3 _))
    refine store_ok I6 nj.nd nj.hN nj.hl (v := .ref ea) rfl (fun s7 I7 => ?_) nj.hf
    have hjl:j < σ.length := by rw [I.len]; exact (List.getElem?_eq_some_iff.mp nj.hN).1
    have hp:PSs (cxH X (.ref ea) fun _ _ => False) [.Assign [.Name y p5] (.Name z p6) p7] (tAsg (tVar j) (gName i)) := pss_one (ps_set (X := cxH X (.ref ea) fun _ _ => False) ni.nd ni.hN ni.hl (pe_var mj.hN mj.hv mj.hd mj.hc) rfl ni.hf)
    refine wpAny_mono (hp pins s7 _ (upd H2 ea (XO ea C)) { nx := fun σ' H' => σ' = (σ.set j (some (.ref ea))).set i (some (.ref ea)) ∧ H' = upd H2 ea (XO ea C),rt := fun _ _ => False } (inv_h I7) ⟨.ref ea,List.getElem?_set_self hjl,rfl,rfl⟩) (fun f8 s8 h8 => ?_) fun _ _ w => w.elim
    cases f8 with
    | brk => obtain ⟨_,_,_,w⟩ := h8; exact w.elim
    | cont => obtain ⟨_,_,_,w⟩ := h8; exact w.elim
    | ret u => obtain ⟨_,_,_,_,_,w⟩ := h8; exact w.elim
    | next =>
      obtain ⟨σ8,H8,J8,rfl,rfl⟩ := h8
      have I8 := inv_unh I7 J8
      obtain ⟨m,hn8,hl8⟩ := id I8.loc
      have hcls:(X.env.scope.kind == .class || (X.env.scope.kind == .module && X.env.locals != X.env.globals)) = false := by rw [I.ok.kind]; rfl
      refine wpAny_nameGoes_keeps (m := m) hz hn8 hcls fun h9 v9 hn9 hs9 => ?_
      have I9 := Inv.goes (t' := s8.toks + 1) I8 nj.nd nj.hN hl8 hn9 hs9
      have E6 := Er.mono sm6
      refine ⟨_,_,I9,q _ _ O (((E6.no j (some (.ref ea))).set i ?_).no j none) (Fr.same sm6)⟩
      simp only [Rep]
      exact ⟨ea,C,rfl,hC,upd_same⟩
end
section
variable {K:PySem.W.Frag} {prog:Program} {w:World} {A:Around} {E:Value → Shared → Prop} {s:Shared} {x Cn:Addr} {ox:Obj}
  (hga:PySem.W.findIn K (.ref Cn) "__getattribute__" = some (some (.builtin "BaseException.__getattribute__"))) (hgt:PySem.W.findIn K (.ref Cn) "__getattr__" = some none)
  (hm:PySem.W.mroIn K Cn (.type "object") = some true) (hmB:PySem.W.mroIn K Cn (.type "BaseException") = some true)
  (hf:PySem.W.findObj K Cn none "__class__" = some (.bind (.builtin "getset_descriptor.__get__") (.builtin "object.__class__"))) (X:K.In s.heap) (I:PySem.W.InstAt s.heap x ox Cn none)
include hga hgt hm hmB hf X I
theorem exc_entry {tk:Tok} {Q:Fin → Shared → Prop} (h:Q (.done (.ret (.ref Cn))) s):wpAny (model prog w) A (Builtin.«object.__getattribute__» ⟨[.ref x,.str "__class__" tk],[]⟩) Q E s := by
  obtain ⟨hh,g,d,t,os⟩ := s
  have L0 := I.type (M := model prog w)
  have L1 := PySem.W.looks_find (M := model prog w) X I hf
  unfold Builtin.«object.__getattribute__»
  refine wpAny_bind (wpAny_pure ?_)
  refine wpAny_bind (wpAny_pure ?_)
  refine wpAny_bind (L0.at (wpAny_bind (L1.at ?_)))
  show wpAny _ _ (Builtin.ObjectAttr.bindTo (.builtin "getset_descriptor.__get__") (.builtin "object.__class__") (.ref x) (.ref Cn)) _ _ _
  show wpAny _ _ (holding [.builtin "object.__class__"] (call (.builtin "getset_descriptor.__get__") [.builtin "object.__class__",.ref x,.ref Cn]) >>= ret) _ _ _
  exact wpAny_bind (wpAny_holding (wpAny_call (PySem.W.class_get (ox := ox) (od := none) X I hm (wpAny_pure h))))
theorem exc_check {M:Model} {tk:Tok} {Q:Unit → Shared → Prop} (h:Q () s):wpAny M A (checkBuiltinCall "BaseException.__getattribute__" ⟨[.ref x,.str "__class__" tk],[]⟩) Q E s := by
  obtain ⟨hh,g,d,t,os⟩ := s
  have L0 := I.type (M := M)
  have L1 := PySem.W.looks_mroIn (M := M) X hmB
  have hk:builtinKind "BaseException.__getattribute__" = some .slot := by decide +kernel
  have hs:splitId "BaseException.__getattribute__" = some ("BaseException", "__getattribute__") := by decide +kernel
  have ha := PySem.F.args_bexc_ga (.ref x) (.str "__class__" tk)
  simp only [checkBuiltinCall,hk,hs]
  refine wpAny_bind ?_
  unfold isInstance
  refine wpAny_bind (L0.at (L1.at ?_))
  rw [if_neg (by decide)]
  repeat (any_goals (first | assumption | wp_step))
theorem exc_by {tk:Tok} {fill:Bool} {Q:Value → Shared → Prop} (h:Q (.ref Cn) s):wpAny (model prog w) A (getAttrBy (.ref x) (.str "__class__" tk) fill) Q E s := by
  obtain ⟨hh,g,d,t,os⟩ := s
  have L0 := I.type (M := model prog w)
  have L1 := PySem.W.looks_findIn (M := model prog w) X hga
  have L2 := PySem.W.looks_findIn (M := model prog w) X hgt
  have f3 := PySem.F.excAttr_ValueError.ga.bind (.ref x)
  have n1:(Value.builtin "BaseException.__getattribute__" == Value.builtin "object.__getattribute__") = false := by decide +kernel
  have n2 : ¬ ((onTheHeap (Value.ref Cn) && Value.builtin "BaseException.__getattribute__" == Value.builtin "object.__getattribute__") = true) := by rw [n1,Bool.and_false]; decide
  unfold getAttrBy
  refine wpAny_holding (wpAny_bind (L0.at (wpAny_bind (L1.at ?_))))
  dsimp only
  rw [if_neg n2]
  unfold getAttrByItsOwn hookBefore
  rw [if_pos (show onTheHeap (Value.ref Cn) = true from rfl)]
  refine wpAny_bind (L2.at (wpAny_bind ?_))
  refine wpAny_attempt (wpAny_holding ?_)
  unfold callGetattribute
  rw [if_neg (by simp)]
  unfold boundAndCalled
  refine wpAny_bind (wpAny_of_eq f3 ?_)
  refine wpAny_call (codeAny_call_builtin PySem.F.excAttr_ValueError.ga.plain PySem.F.entry_bexc_ga (exc_check hga hgt hm hmB hf X I (exc_entry hga hgt hm hmB hf X I ?_)))
  exact PySem.W.handed_on rfl h
theorem kin_excB {Q:Option Value → Shared → Prop} (h:Q (some (.ref Cn)) { s with toks := s.toks + 1 }):wpAny (model prog w) A (getAttr? (.ref x) "__class__") Q E s := by
  obtain ⟨hh,g,d,t,os⟩ := s
  unfold getAttr? getAttrBy?
  refine wpAny_bind (wpAny_mkText (wpAny_bind (wpAny_attempt ?_)))
  exact exc_by (s := ⟨hh,g,d,t + 1,os⟩) hga hgt hm hmB hf X I (wpAny_pure h)
end
theorem kitx_exc {K:PySem.W.Frag} {x Cn:Addr} (hga:PySem.W.findIn K (.ref Cn) "__getattribute__" = some (some (.builtin "BaseException.__getattribute__"))) (hgt:PySem.W.findIn K (.ref Cn) "__getattr__" = some none) (hdct:PySem.W.hasDictIn K Cn = true)
    (ha:PySem.W.findIn K (.ref Cn) "__class__" = some (some (.builtin "object.__class__"))) (hn:PySem.W.specialIn K (.builtin "object.__class__") "__get__" = some (some (.builtin "getset_descriptor.__get__"))) (htk:PySem.W.takesIn K (.builtin "object.__class__") = some true)
    (hm:PySem.W.mroIn K Cn (.type "object") = some true) (hmB:PySem.W.mroIn K Cn (.type "BaseException") = some true):PySem.W.KitX K (.ref x) (.ref Cn) (fun h => ∃ ox,PySem.W.InstAt h x ox Cn none) where
  ty := fun _ _ _ ⟨_,I⟩ => I.type
  it := fun _ _ X _ => by
    obtain ⟨cd,hc,_⟩ := PySem.W.any_some hdct
    unfold PySem.W.clsIn at hc
    split at hc
    · rename_i ho
      intro A' Q' E' s' k q
      unfold isType loadHead
      exact wpAny_bind (wpAny_loadPart (k _ _ (X _ _ ho)) (wpAny_pure q))
    · cases hc
  ne := fun h tp dd its n sl X htp => by
    obtain ⟨cd,hc,_⟩ := PySem.W.any_some hdct
    refine Bool.eq_false_iff.mpr fun q => ?_
    have e:Cn = tp := Value.ref.inj (beq_iff_eq.mp q)
    subst e
    unfold PySem.W.clsIn at hc
    split at hc
    · rename_i ho
      have z := (X _ _ ho).symm.trans htp
      cases z
    · cases hc
  ca := fun X ⟨_,I⟩ k => by
    have hf:PySem.W.findObj K Cn none "__class__" = some (.bind (.builtin "getset_descriptor.__get__") (.builtin "object.__class__")) := by
      obtain ⟨cd,hc,_⟩ := PySem.W.any_some hdct
      unfold PySem.W.findObj
      rw [hc,Option.bind_some,ha,Option.bind_some]
      simp [hn,htk]
    exact kin_excB hga hgt hm hmB hf X I k
section
variable {X:Cx} {c:Ct} {xq:XQ} {a b e:Expr} {f g:FE} {pos:Pos}
noncomputable def ExAsk (K:PySem.W.Frag) (v:Value) (cs:List Nat) (n:Nat) (Cn:Addr):Prop :=
  PySem.W.findIn K (.ref Cn) "__getattribute__" = some (some (.builtin "BaseException.__getattribute__")) ∧ PySem.W.findIn K (.ref Cn) "__getattr__" = some none ∧ PySem.W.hasDictIn K Cn = true ∧ PySem.W.findIn K (.ref Cn) "__class__" = some (some (.builtin "object.__class__")) ∧ PySem.W.specialIn K (.builtin "object.__class__") "__get__" = some (some (.builtin "getset_descriptor.__get__")) ∧
    PySem.W.takesIn K (.builtin "object.__class__") = some true ∧ PySem.W.mroIn K Cn (.type "object") = some true ∧ PySem.W.mroIn K Cn (.type "BaseException") = some true ∧ PySem.W.kitOne K (.ref Cn) v = some (cs.contains n)
structure InstX (K:PySem.W.Frag) (mg:Str → Option Value) (c:Ct) (x:Str) (cs:List Nat):Prop where
  ex : ∃ C,mg x = some (.ref C) ∧ ∀ n Cn,c.cl n = some Cn → ExAsk K (.ref C) cs n Cn
structure InstV (K:PySem.W.Frag) (c:Ct) (cs:List Nat):Prop where
  ex : ∀ n Cn,c.cl n = some Cn → ExAsk K (.type "ValueError") cs n Cn
theorem isinst_exc {cs:List Nat} {v:V} {cv:Value} {p:Pos} {p0:Pos} {ec:Expr} (hall : ∀ n Cn,c.cl n = some Cn → ExAsk X.K cv cs n Cn) (hrel : ∀ u,RelV v u → u = cv) (hN:PE X ec (tC v)) (hsc:isStar ec = false) (hg:Gl X "isinstance") (hm:X.mg "isinstance" = none) (ha:PD X c e f) (he:isStar e = false) :
    PD X c (.Call (.Name "isinstance" p) [e,ec] [] pos) (fp1 (instX cs) f) := by
  intro pins s σ H Q I h
  refine wpAny_Call_Name_kw (ld_blt I hg hm (show bootBuiltins "isinstance" = some (.builtin "isinstance") by decide +kernel) ?_ (by decide) (by decide))
  have hA:PA X [e,ec] (tCons (tP (tx X c) (kD (tx X c)) f) (tCons (tC v) tNil)) := pa_cons ha (pa_cons hN pa_nil (star_cons hsc)) (star_cons he)
  obtain ⟨W,O,env,d,E,ee,q⟩ := h
  unfold fp1 at ee
  cases e1:f env with
  | none => rw [e1] at ee; cases ee
  | some y =>
    rw [e1] at ee
    dsimp only [Option.bind_some] at ee
    cases y with
    | exc n =>
      cases ee
      refine PyProof.Rows.callWith_builtin1 (thn5 (hA pos pins s σ H (fun vs H1 => ∃ u,vs = [u,v] ∧ Same H H1 ∧ Rep (tx X c) (Cl W O) H1 (.exc n) u) I ⟨W,O,env,.exc n,E,e1,fun u H1 s1 r1 => ⟨u,rfl,s1,r1⟩⟩) fun us s1 vs H1 I1 r1 zz_ => ?_) (star_cons he) (star_none (by unfold noStars noStars; rw [hsc]; rfl))
      obtain ⟨u,ev,s1',rv⟩ := zz_
      subst ev
      obtain ⟨u1,u2,rfl,ru,ru2⟩ := vals2 r1
      obtain ⟨a,Cn,rfl,hCn,hH⟩ := rv.exc_
      cases (show u1 = Value.ref a from ru)
      obtain ⟨g1,g1',g2,g3,g4,g5,g6,g6',g7⟩ := hall n Cn hCn
      obtain ⟨⟨o,ho1,ho2,ho3,vs,ho4⟩,_⟩ := (show ObjOk X.prog X.w H1 s1.heap a (XO a Cn) from I1.hok a _ hH)
      have hi:PySem.W.InstAt s1.heap a o Cn none := ⟨ho1,ho2,by unfold PySem.W.notCls; rw [ho4],by rw [ho3]; trivial⟩
      have hu2:u2 = cv := hrel u2 ru2
      subst hu2
      exact PySem.W.kia_one (kitx_exc g1 g1' g2 g3 g4 g5 g6 g6') I1.kIn ⟨o,hi⟩ g7 (fun z => nomatch z) fun tk => ⟨.bl _,H1,I1.tok _,rfl,q _ H1 s1' (Rep.bl _)⟩
    | ob _ _ _ => cases ee
    | non => cases ee
    | bl _ => cases ee
    | int _ => cases ee
    | str _ => cases ee
    | tup _ => cases ee
    | lst _ => cases ee
    | dct _ _ => cases ee
theorem pd_isinstX {x:Str} {cs:List Nat} {p p2:Pos} (G:InstX X.K X.mg c x cs) (hg:Gl X "isinstance") (hm:X.mg "isinstance" = none) (hg2:Gl X x) (ha:PD X c e f) (he:isStar e = false := by rfl) (hdb:(x == ("__debug__":Str)) = false := by decide) :
    PD X c (.Call (.Name "isinstance" p) [e,.Name x p2] [] pos) (fp1 (instX cs) f) := by
  obtain ⟨C,hC,hall⟩ := G.ex
  exact isinst_exc (p0 := p2) (v := .ref C) hall (fun u h => h) (fun pins s σ H Q I h => ld_glob I hg2 hC ⟨.ref C,H,I,rfl,h⟩ hdb) rfl hg hm ha he
theorem pd_isinstV {cs:List Nat} {p p2:Pos} (G:InstV X.K c cs) (hg:Gl X "isinstance") (hm:X.mg "isinstance" = none) (hg2:Gl X "ValueError") (hm2:X.mg "ValueError" = none) (ha:PD X c e f) (he:isStar e = false := by rfl) :
    PD X c (.Call (.Name "isinstance" p) [e,.Name "ValueError" p2] [] pos) (fp1 (instX cs) f) :=
  isinst_exc (p0 := p2) (v := .ty "ValueError") G.ex (fun u h => h) (fun pins s σ H Q I h => ld_blt I hg2 hm2 (show bootBuiltins "ValueError" = some (.type "ValueError") by decide +kernel) ⟨.ty "ValueError",H,I,rfl,h⟩ (by decide) (by decide)) rfl hg hm ha he
end
end DL
end
section
set_option Elab.async false
set_option linter.all false
set_option maxRecDepth 100000
namespace L2
open PySem PySem.Spec PyProof.Rows
section
variable {prog:Program} {w:World} {A:Around} {E:Value → Shared → Prop} {s:Shared} {Q:Value → Shared → Prop}
theorem HT.cat_none {t b:Addr} {ws:List Value} (ht:IsTup s.heap t (#[]:Array Value)) (hb:IsTup s.heap b ws.toArray) (h:Q (.ref b) s):wpAny (model prog w) A (binaryOp .Add (.ref t) (.ref b)) Q E s := by
  obtain ⟨⟨cls,dd,data,sl⟩,ho,hc,n,hd⟩ := id ht
  obtain ⟨⟨cls2,dd2,data2,sl2⟩,ho2,hc2,n2,hd2⟩ := id hb
  simp only at hc hd hc2 hd2
  subst hc hd hc2 hd2
  exact concat_meets ⟨_,ho,rfl⟩ ⟨_,ho2,rfl⟩ noFill_tuple_add seq_tuple_add PySem.F.slot_tuple_add PySem.F.entry_tuple_add (PySem.F.args_tuple_add_2 _ _) (tuple_addW0 t b #[] ws.toArray n n2 dd dd2 sl sl2 rfl) ⟨ho,ho2,h⟩
theorem HT.getItem_tuple_whole {t sl:Addr} {items:Array Value} {vl vu:Value} {lo hi:Option Int} (ht:IsTup s.heap t items) (hs:s.heap.IsSliceOf sl vl vu .none) (pl:IsPart vl lo) (pu:IsPart vu hi)
    (h0 : _root_.HT.sIx items.size 0 lo = 0) (h1 : _root_.HT.sIx items.size items.size hi = items.size) (h:Q (.ref t) s):wpAny (model prog w) A (getItem (.ref t) (.ref sl)) Q E s := by
  obtain ⟨os,hos,hcs,hds⟩ := id hs
  have hTs:s.TypeIs (.ref sl) "slice" := ⟨os,hos,hcs⟩
  unfold getItem
  try with_reducible refine wpAny_holding ?_
  first | refine wpAny_bind (wpAny_pure ?_) | skip
  refine wpAny_bind (wpAny_sequenceKey ht.typeIs (by decide) ?_)
  refine wpAny_bind (wpAny_callSpecial?_slot (name := Str.ofString "__getitem__") ht.typeIs PyProof.Rows.slot_tuple_getitem (wpAny_call_entry PyProof.Rows.slot_tuple_getitem ht.typeIs entry_tuple_getitem ?_ (args_tuple_getitem _ _)))
  show wpAny _ _ (Builtin.Tuple.tupleItemsOf (.ref t) >>= _) _ _ s
  refine wpAny_bind (tupleItemsOf_ ht ?_)
  refine wpAny_bind (wpAny_typeOf hTs ?_)
  rw [if_pos (by decide)]
  refine wpAny_bind (_root_.HT.sliceApplied_gen hs pl pu ?_)
  rw [h0,h1]
  have yes:((((0:Nat):Int) == 0 && (1:Int) == 1 && (items.size - 0) == items.size) = true) := by simp
  show wpAny _ _ (if (((0:Nat):Int) == 0 && (1:Int) == 1 && (items.size - 0) == items.size) = true then _ else _) _ _ s
  rw [if_pos yes]
  unfold Builtin.Tuple.tupleIsExact
  refine wpAny_bind (wpAny_bind (wpAny_typeOf ht.typeIs (wpAny_pure ?_)))
  rw [if_pos (by decide)]
  refine wpAny_bind (wpAny_rule ?_)
  exact wpAny_pure ⟨_,rfl,wpAny_pure h⟩
end
section
variable {X:Cx}
noncomputable def rSlW (K:PySem.W.Frag):V → Option Int → Option Int → Hp → VK → Prop := fun x lo hi H Q => ∃ a xs,x = .ref a ∧ SqT K H a xs ∧ HT.sIx xs.length 0 lo = 0 ∧ HT.sIx xs.length xs.length hi = xs.length ∧ Q (.ref a) H
theorem sl_whole:SlR X (rSlW X.K) := by
  intro pins s σ H x v vl vu lo hi sl Q I rx hs pl pu h
  obtain ⟨a,xs,rfl,hx,h0,h1,q⟩ := h
  cases rx
  obtain ⟨its,r,ht,hz⟩ := I.tuple hx
  have hlen:its.toArray.size = xs.length := by rw [List.size_toArray]; exact r.length.symm
  refine ⟨"tuple",_,PyProof.Rows.slot_tuple_getitem.lookup,ht.typeIs, ?_⟩
  exact L2.HT.getItem_tuple_whole ht hs pl pu (by rw [hlen]; exact h0) (by rw [hlen]; exact h1) ⟨.ref a,H,I,rfl,q⟩
end
section
variable {X:Cx}
noncomputable def rCat0 (K:PySem.W.Frag):R2 := fun x y H Q => ∃ a b ys,x = .ref a ∧ y = .ref b ∧ SqT K H a [] ∧ SqT K H b ys ∧ Q (.ref b) H
theorem op_cat0:OpR X (binaryOp .Add) (rCat0 X.K) := by
  intro pins s σ H x y v u Q I rx ry h
  obtain ⟨a,b,ys,rfl,rfl,ha,hb,q⟩ := h
  cases rx
  cases ry
  obtain ⟨its,r1,p1,_⟩ := I.tuple ha
  obtain ⟨its2,r2,p2,_⟩ := I.tuple hb
  cases r1
  exact HT.cat_none p1 p2 ⟨.ref b,H,I,rfl,q⟩
end
end L2
namespace DL
open PySem PySem.Spec PyProof.Rows L2
section
variable {X:Cx} {c:Ct} {xq:XQ} {a b e o:Expr} {f g:FE} {pos:Pos}
theorem snd_addT {T:Tx} (A:Addr → Prop) (H0 H:Hp) (x y:D) (v u:V) (d:D) (Q:VK) (nw:Nw A H) (rx:kD T A H0 H x v) (ry:kD T A H0 H y u) (e:addT x y = some d)
    (k : ∀ w H',Same H H' → kD T A H H' d w → Q w H'):rCat0 T.K v u H Q ∨ rCatT T.K v u H Q := by
  unfold addT at e
  split at e
  · rename_i xs ys
    by_cases c:xs.length + ys.length ≤ 1000000
    · rw [if_pos c] at e; cases e
      obtain ⟨a,vs,rfl,ha,ra⟩ := Rep.tup_ rx
      obtain ⟨b,us,rfl,hb,rb⟩ := Rep.tup_ ry
      cases xs with
      | nil =>
        cases ra.nil_
        exact .inl ⟨a,b,us,rfl,rfl,ha,hb,k _ H (Same.refl _) (by rw [List.nil_append]; exact Rep.tup hb rb)⟩
      | cons x xs =>
        have hl := ra.length
        have hl2 := rb.length
        refine .inr ⟨a,b,vs,us,rfl,rfl,ha,hb,fun z => by rw [z] at hl; simp at hl,small (by omega),fun z => ?_,fun _ p hp => k _ _ (same_new hp _) (Rep.newT (ra.append rb) hp)⟩
        subst z
        have:ys = [] := List.length_eq_zero_iff.mp (by rw [hl2]; rfl)
        subst this
        exact k _ H (Same.refl _) (by rw [List.append_nil]; exact Rep.tup ha ra)
    · rw [if_neg c] at e; cases e
  · cases e
theorem pd_addT (ha:PD X c a f) (hb:PD X c b g):PD X c (.BinOp a .Add b pos) (fp2 addT f g) := PE.imp (pe_op (op_cat0.or op_catT) ha hb) fun _ _ _ h => tP_2 (ρ := kD (tx X c)) (ρ2 := kD (tx X c)) snd_addT h
theorem cut_whole {α:Type} (xs:List α) (lo hi:Option Int) (h0:HT.sIx xs.length 0 lo = 0) (h1:HT.sIx xs.length xs.length hi = xs.length):cutD xs lo hi = xs := by
  unfold cutD
  rw [h0,h1,List.drop_zero,Nat.sub_zero,List.take_of_length_le (Nat.le_refl _)]
theorem snd_slW {T:Tx} (A:Addr → Prop) (H0 H:Hp) (x:D) (v:V) (lo hi:Option Int) (d:D) (Q:VK) (nw:Nw A H) (r:kR T A H0 H x v) (e:slW x lo hi = some d) (k : ∀ w H',Same H H' → kD T A H H' d w → Q w H'):rSlW T.K v lo hi H Q ∨ rSlD T.K v lo hi H Q := by
  unfold slW at e
  split at e
  · rename_i ds
    cases e
    by_cases c:HT.sIx ds.length 0 lo = 0 ∧ HT.sIx ds.length ds.length hi = ds.length
    · obtain ⟨a,xs,rfl,hl,rl⟩ := RepR.tup_ r
      have len := rl.length
      exact .inl ⟨a,xs,rfl,hl,by rw [← len]; exact c.1,by rw [← len]; exact c.2,k _ H (Same.refl _) (by rw [cut_whole ds lo hi c.1 c.2]; exact Rep.tup hl rl)⟩
    · exact .inr (snd_sl A H0 H (.tup ds) v lo hi _ Q nw r (by show (if _ then _ else _) = _; rw [if_neg c]) k)
  · exact .inr (snd_sl A H0 H _ v lo hi d Q nw r e k)
theorem pd_slW {lo hi:Option Expr} {fl fh:FO} {p2:Pos} (ha:PR X c a f) (hl:PDO X c lo fl) (hh:PDO X c hi fh):PD X c (.Subscript a (.Slice lo hi none p2) pos) (feSl slW f fl fh) := PE.imp (pe_slice (sl_whole.or sl_D) ha hl hh) fun _ _ _ h => tP_slG snd_slW h
section
variable {prog:Program} {w:World} {A:Around} {E:Value → Shared → Prop} {s:Shared} {Q:Value → Shared → Prop}
end
end
end DL
end
section
set_option Elab.async false
set_option linter.all false
set_option maxRecDepth 100000
namespace DL
open PySem PySem.Spec PyProof.Rows L2
section
variable {X:Cx} {c:Ct} {xq:XQ} {e:Expr} {pos:Pos} {α:Type} {ρ:RK α V} {k kk:Nat} {x:Str} {ps:List Str} {F:List D → Option α} {Xf:List D → Option Nat} {es:List Expr} {fs:FA} {p1 p2:Pos}
theorem callX [Kd ρ] (xr:XR X c xq) (G:DefE X.prog X.w X.K X.mg X.base c ρ x ps k F Xf) (hr:Room kk X.A) (hk:k ≤ kk) (hg:Gl X x) (ha:PDA X c (e :: es) fs) (he:isStar e = false) (hpl:noStars es = true) (hdb:(x == ("__debug__":Str)) = false)
    {pins:List (Addr × Obj)} {σ:L2.St} {H:Hp} {s:Shared} (I:Inv X pins σ H s) {W:Wf} {O:Addr → Prop} {env:DEnv} {ds:List D} (Er:EnvR (tx X c) W O H env σ) (e1:fs env = some ds) (hn:ds.length = ps.length) {Qv:VK}
    (hE:(∃ d,F ds = some d ∧ ∀ v H',Same H H' → ρ (Cl W O) H H' d v → Qv v H') ∨ ∃ no,Xf ds = some no ∧ ∀ H',Same H H' → xq no σ H') :
    wpAny (model X.prog X.w) X.A (eval (.Call (.Name x p1) (e :: es) [] p2) X.env) (EP X pins σ Qv) X.xe s := by
  obtain ⟨fa,fd,g1,g2,g3,g4⟩ := G.ex
  refine wpAny_Call_Name_kw (ld_glob I hg g2 ?_ hdb)
  refine PySem.W.callWith_K (h₀ := X.base) I.ok.mod.kin g3 (thn5 (ha p2 pins s σ H (fun vs H1 => Same H H1 ∧ RepL (tx X c) (Cl W O) H1 ds vs) I ⟨W,O,env,ds,Er,e1,fun vs H1 s1 r1 => ⟨s1,r1⟩⟩) fun us s1 vs H1 I1 r ⟨sm,rr⟩ => ⟨I1.kIn, ?_⟩) (star_cons he) (star_none hpl)
  have hl:us.length = ps.length := by rw [← r.length, ← rr.length]; exact hn
  have hb := g4 s1 us I1.kIn (by rw [List.append_nil]; exact hl)
  rw [List.append_nil] at hb
  have sp:spX (tx X c) ρ ps.length F Xf vs H1 Qv (fun cv _ H' => ∃ no C,c.cl no = some C ∧ cv = .ref C ∧ xq no σ H') := by
    refine ⟨by rw [← rr.length]; exact hn,Cl W O,ds,fun a n => (Er.mono sm).newA n,rr, ?_⟩
    rcases hE with ⟨d,hd,hq⟩ | ⟨no,h1,h2⟩
    · exact .inl ⟨d,hd,fun v H' s r => hq v H' (sm.trans s) (Kd.an _ _ _ _ _ _ sm r)⟩
    · exact .inr ⟨no,h1,fun C H' hC s => ⟨no,C,hC,rfl,h2 H' (sm.trans s)⟩⟩
  refine wpAny_call (codeAny_mono (g1.run X.A X.stack s1 H1 ⟨us,[]⟩ us vs _ _ (hr.mono hk) I1.env0 hb r sp) fun rs s' hq => ?_)
  cases rs with
  | error ev => exact xr.pass pins σ H1 s1 ev s' I1 hq
  | ok fl =>
    cases fl with
    | ret u => exact I1.after hq
    | next => exact False.elim hq
    | brk => exact False.elim hq
    | cont => exact False.elim hq
theorem callX_read {T:Tx} {kf : α → DEnv → DFl} {De:Ends} {σ:L2.St} {H:Hp} {n:Nat} (h:tDs T xq (fsCallX kf n F Xf fs) De σ H) :
    ∃ W O env ds,EnvR T W O H env σ ∧ fs env = some ds ∧ ds.length = n ∧ ((∃ d,F ds = some d ∧ EndsR T xq W O H De (kf d env)) ∨ ∃ no,Xf ds = some no ∧ ∀ H',Same H H' → xq no σ H') := by
  obtain ⟨W,O,env,fl,Er,ef,q⟩ := h
  unfold fsCallX at ef
  cases e1:fs env with
  | none => rw [e1] at ef; cases ef
  | some ds =>
    rw [e1] at ef
    dsimp only [Option.bind_some] at ef
    by_cases hn:ds.length = n
    · rw [if_pos hn] at ef
      refine ⟨W,O,env,ds,Er,e1,hn, ?_⟩
      cases hF:F ds with
      | some d => rw [hF] at ef; cases ef; exact .inl ⟨d,rfl,q⟩
      | none =>
        rw [hF] at ef
        cases hX:Xf ds with
        | none => rw [hX] at ef; cases ef
        | some no => rw [hX] at ef; cases ef; exact .inr ⟨no,rfl,fun H' sm => q σ H' O (Er.mono sm) (Fr.same sm)⟩
    · rw [if_neg hn] at ef; cases ef
end
section
variable {X:Cx} {c:Ct} {xq:XQ} {e:Expr} {pos:Pos} {k kk:Nat} {x:Str} {ps:List Str} {Xf:List D → Option Nat} {es:List Expr} {fs:FA} {p1 p2:Pos}
theorem pds_retX {F:List D → Option D} (xr:XR X c xq) (G:DefED X.prog X.w X.K X.mg X.base c x ps k F Xf) (hr:Room kk X.A) (hk:k ≤ kk) (hg:Gl X x) (ha:PDA X c (e :: es) fs) (hdb:(x == ("__debug__":Str)) = false := by decide) (he:isStar e = false := by rfl) (hpl:noStars es = true := by rfl) :
    PDS X c xq (.Return (some (.Call (.Name x p1) (e :: es) [] p2)) pos) (fsCallX kRet ps.length F Xf fs) := by
  intro pins s σ H De I h
  obtain ⟨W,O,env,ds,Er,e1,hn,h⟩ := callX_read h
  refine wpAny_Return_some (thn5 (callX xr G hr hk hg ha he hpl hdb I Er e1 hn (Qv := De.rt) ?_) fun v s1 y H1 I1 r1 q1 => ⟨y, σ,H1,I1,r1,q1⟩)
  rcases h with ⟨d,hd,q⟩ | h
  · exact .inl ⟨d,hd,fun v H' sm r => q v σ H' O (Er.mono sm) (Fr.same sm) r⟩
  · exact .inr h
theorem pds_dropX {α:Type} {ρ:RK α V} [Kd ρ] {F:List D → Option α} (xr:XR X c xq) (G:DefE X.prog X.w X.K X.mg X.base c ρ x ps k F Xf) (hr:Room kk X.A) (hk:k ≤ kk) (hg:Gl X x) (ha:PDA X c (e :: es) fs) (hdb:(x == ("__debug__":Str)) = false := by decide) (he:isStar e = false := by rfl) (hpl:noStars es = true := by rfl) :
    PDS X c xq (.Expr (.Call (.Name x p1) (e :: es) [] p2) pos) (fsCallX kDrop ps.length F Xf fs) := by
  intro pins s σ H De I h
  obtain ⟨W,O,env,ds,Er,e1,hn,h⟩ := callX_read h
  refine wpAny_Expr_any (thn5 (callX xr G hr hk hg ha he hpl hdb I Er e1 hn (Qv := fun _ H' => De.nx σ H') ?_) fun v s1 y H1 I1 r1 q1 => ⟨σ,H1,I1,q1⟩) I.quiet (swaps_no rfl)
  rcases h with ⟨d,hd,q⟩ | h
  · exact .inl ⟨d,hd,fun v H' sm r => q σ H' O (Er.mono sm) (Fr.same sm)⟩
  · exact .inr h
end
end DL
end
section
set_option Elab.async false
set_option linter.all false
set_option maxRecDepth 100000
namespace DL
open PySem PySem.Spec PyProof.Rows L2
section
variable {X:Cx} {c:Ct} {xq:XQ} {a b e:Expr} {f g:FE} {pos:Pos}
theorem call_divmod:CallR X (.builtin "divmod") (fun xs H Q => ∃ i j:Int,xs = [.int i,.int j] ∧ 0 ≤ i ∧ i < 1000000 ∧ 0 < j ∧ j < 1000000 ∧ ∀ p,H p = none → Q (.ref p) (upd H p (.tup [.int (i / j),.int (i % j)]))) := by
  intro pins s σ H xs us Q I r h
  obtain ⟨i,j,rfl,h0,h1,h2,h3,q⟩ := h
  obtain ⟨u,v,rfl,ru,rv⟩ := Vals.two r
  obtain ⟨t,rfl⟩ := ru
  obtain ⟨t2,rfl⟩ := rv
  have e1:i.fdiv j = i / j := Int.fdiv_eq_ediv_of_nonneg i (by omega)
  have e2:i.fmod j = i % j := Int.fmod_eq_emod_of_nonneg i (by omega)
  refine divmod_int (by omega) ?_ (Or.inl (PyProof.noPylong_small (by omega)))
  rw [e1,e2]
  refine ⟨.ref s.heap.objs.size,_,I.laid (t' := s.toks + 1 + 1) (o := .tup [.int (i / j),.int (i % j)]) (fun b ob q => Heap.get?_push_of_some _ q) (Nat.le_refl _) ?_,rfl,q _ (I.hok.fresh (Nat.le_refl _))⟩
  exact ⟨by show 2 ≤ sizeLine; decide,_,.cons ⟨_,rfl⟩ (.cons ⟨_,rfl⟩ .nil),IsTup.new _ _⟩
theorem pd_divmod {p:Pos} {fs:FA} (hg:Gl X "divmod") (hm:X.mg "divmod" = none) (ha:PDA X c [a,b] fs) (he:isStar a = false := by rfl) (hpl:noStars [b] = true := by rfl) :
    PD X c (.Call (.Name "divmod" p) [a,b] [] pos) (fp1 divmodD fs) :=
  PE.imp (pe_callB call_divmod hg hm (by decide +kernel) ha (by decide) (by decide) (star_cons he) (star_none hpl)) fun _ _ _ h => tP_1 (ρ := kA (tx X c)) (r := fun vs H (Q:VK) => ∃ i j:Int,vs = [.int i,.int j] ∧ 0 ≤ i ∧ i < 1000000 ∧ 0 < j ∧ j < 1000000 ∧ ∀ p,H p = none → Q (.ref p) (upd H p (.tup [.int (i / j),.int (i % j)]))) (fun A H0 H x v d Q nw r e k => by
    unfold divmodD at e
    split at e
    · rename_i i j
      by_cases c : 0 ≤ i ∧ i < 1000000 ∧ 0 < j ∧ j < 1000000
      · rw [if_pos c] at e; cases e
        obtain ⟨v1,r1,rfl,h1,h2⟩ := RepL.cons_ r
        obtain ⟨v2,r2,rfl,h3,h4⟩ := h2.cons_
        cases h4.nil_
        cases h1.int_
        cases h3.int_
        exact ⟨i,j,rfl,c.1,c.2.1,c.2.2.1,c.2.2.2,fun p hp => k _ _ (same_new hp _) (Rep.newT (.cons (.int _) (.cons (.int _) .nil)) hp)⟩
      · rw [if_neg c] at e; cases e
    · cases e) h
end
end DL
end
section
set_option Elab.async false
set_option linter.all false
set_option maxRecDepth 100000
set_option maxHeartbeats 4000000
namespace K71
open DL L2
noncomputable def tb_LENGTHS:List (List Nat × Int) := [([110,97,109,101],2),([110,117,109,98,101,114],2),([101,118,101,110],2),([115,117,109],3),([116,105,109,101,115],2),([111,118,101,114],3),([114,111,111,116],2),([109,97,114,107,101,100],4),([104,101,108,100],2),([116,97,98,108,101],2)]
noncomputable def tb_LEVELS:List (List Nat × Int) := [([101,118,101,110],0),([115,117,109],1),([116,105,109,101,115],2),([111,118,101,114],3),([114,111,111,116],3),([109,97,114,107,101,100],3),([110,97,109,101],4),([110,117,109,98,101,114],4),([104,101,108,100],4),([116,97,98,108,101],4)]
noncomputable def c_ROW_KINDS:D := .tup [.str [101,118,101,110],.str [115,117,109],.str [116,105,109,101,115]]
noncomputable def c_MOST_LETTERS:D := .int 8
noncomputable def c_SMALL_LETTERS:D := .str [97,98,99,100,101,102,103,104,105,106,107,108,109,110,111,112,113,114,115,116,117,118,119,120,121,122]
noncomputable def c_GREATEST_NUMBER:D := .int 999999999
noncomputable def c_MOST_IN_TABLE:D := .int 9
noncomputable def c_MOST_PARTS:D := .int 80
noncomputable def c_MOST_DEPTH:D := .int 12
noncomputable def c_MOST_COUNT:D := .int 300
def LB_law_atom_1:FS := (fsSet 2 (fp2 addD (feName 2) (fp2 ixD (feC (.str [97,98,99,100,101,102,103,104,105,106,107,108,109,110,111,112,113,114,115,116,117,118,119,120,121,122])) (fp2 (intD modI) (fp2 (intD fdivI) (feName 1) (fp2 addD (feC (.int 624)) (feName 3))) (feC (.int 26))))))
def F_law_atom:FS := (fsSeq (fsSet 1 (fp2 (intD modI) (fp2 mulD (feName 0) (feC (.int 1099087573))) (feC (.int 10000000000037)))) (fsSeq (fsIf (ftB (fp2 (eqF false) (fp2 (intD modI) (feName 1) (feC (.int 3))) (feC (.int 0)))) (fsRet (feTup (faCons (feC (.str [110,117,109,98,101,114])) (faCons (fp2 (intD modI) (fp2 (intD fdivI) (feName 1) (feC (.int 3))) (fp2 (intD powI) (feC (.int 10)) (feC (.int 9)))) faNil)))) fsNext) (fsSeq (fsSet 2 (fp2 ixD (feC (.str [97,98,99,100,101,102,103,104,105,106,107,108,109,110,111,112,113,114,115,116,117,118,119,120,121,122])) (fp2 (intD modI) (fp2 (intD fdivI) (feName 1) (feC (.int 3))) (feC (.int 26))))) (fsSeq (fsForR rng1 (tgName 3) (faCons (fp2 (intD modI) (fp2 (intD fdivI) (feName 1) (feC (.int 78))) (feC (.int 8))) faNil) LB_law_atom_1) (fsRet (feTup (faCons (feC (.str [110,97,109,101])) (faCons (feName 2) faNil))))))))
def D_law_atom:List D → Option (D) := bodyF 4 F_law_atom
def CE_law_one_1:FE := (feCall 1 D_law_atom (faCons (fp2 addD (feName 1) (fp2 mulD (fp2 mulD (feC (.int 31)) (feName 0)) (feName 0))) faNil))
def CE_law_one_2:FE := (fp2 ixD (feC (.str [43,45])) (fp2 (intD modI) (fp2 (intD fdivI) (fp2 addD (feName 1) (fp2 mulD (feName 0) (feName 0))) (feC (.int 3))) (feC (.int 2))))
def CE_law_one_3:FE := (fp1 toTD (feSl slD (feName 1) (foSome (fp2 mulD (feName 0) (feName 2))) (foSome (fp2 addD (fp2 mulD (feName 0) (feName 2)) (feName 2)))))
def F_law_one:FS := (fsSeq (fsSet 3 (feFr (ffCompR rng1 1 [2] (tgName 0) (faCons (feC (.int 81)) faNil) ftYes CE_law_one_1))) (fsSeq (fsSet 4 (feFr (ffLst (faCons (feC (.str [101,118,101,110])) (faCons (feC (.str [116,105,109,101,115])) (faCons (feC (.str [115,117,109])) (faCons (feC (.str [111,118,101,114])) (faCons (feC (.str [114,111,111,116])) (faCons (feC (.str [104,101,108,100])) (faCons (feC (.str [109,97,114,107,101,100])) (faCons (feC (.str [116,97,98,108,101])) faNil))))))))))) (fsSeq (fsIf (ftB (fp2 (intD ltI) (feName 0) (feC (.int 2)))) (fsRet (feTup (faCons (fp2 ixD (feName 4) (feName 0)) (faCons (fp1 toTD (feSl slD (feName 3) foNone (foSome (fp2 addD (feC (.int 2)) (fp2 (intD modI) (feName 1) (feC (.int 79))))))) faNil)))) fsNext) (fsSeq (fsIf (ftB (fp2 (eqF false) (feName 0) (feC (.int 2)))) (fsSeq (fsSet 5 (fp2 addD (feC (.int 2)) (fp2 (intD modI) (feName 1) (feC (.int 79))))) (fsSeq (fsSet 6 (fp2 joinE (feC (.str [])) (feFr (ffCompR rng1 1 [2] (tgName 0) (faCons (fp2 (intD subI) (feName 5) (feC (.int 1))) faNil) ftYes CE_law_one_2)))) (fsRet (feTup (faCons (feC (.str [115,117,109])) (faCons (fp1 toTD (feSl slD (feName 3) foNone (foSome (feName 5)))) (faCons (feName 6) faNil))))))) fsNext) (fsSeq (fsIf (ftB (fp2 (eqF false) (feName 0) (feC (.int 3)))) (fsRet (feTup (faCons (feC (.str [111,118,101,114])) (faCons (fp2 ixD (feName 3) (feC (.int 0))) (faCons (fp2 ixD (feName 3) (feC (.int 1))) faNil))))) fsNext) (fsSeq (fsIf (ftB (fp2 (intD ltI) (feName 0) (feC (.int 6)))) (fsRet (feTup (faCons (fp2 ixD (feName 4) (feName 0)) (faCons (fp2 ixD (feName 3) (feC (.int 0))) faNil)))) fsNext) (fsSeq (fsIf (ftB (fp2 (eqF false) (feName 0) (feC (.int 6)))) (fsSeq (fsSet 7 (fp2 ixD (feFr (ffLst (faCons (fp2 ixD (feName 3) (feC (.int 1))) (faCons (feC .non) (faCons (fp2 ixD (feName 3) (feC (.int 1))) faNil))))) (fp2 (intD modI) (feName 1) (feC (.int 3))))) (fsRet (feTup (faCons (feC (.str [109,97,114,107,101,100])) (faCons (fp2 ixD (feName 3) (feC (.int 0))) (faCons (feName 7) (faCons (fp2 ixD (feFr (ffLst (faCons (feC .non) (faCons (fp2 ixD (feName 3) (feC (.int 2))) (faCons (fp2 ixD (feName 3) (feC (.int 2))) faNil))))) (fp2 (intD modI) (feName 1) (feC (.int 3)))) faNil))))))) fsNext) (fsSeq (fsSet 8 (fp2 addD (feC (.int 1)) (fp2 (intD modI) (fp2 (intD fdivI) (feName 1) (feC (.int 9))) (feC (.int 9))))) (fsSeq (fsSet 9 (feFr (ffCompR rng1 1 [3,8] (tgName 0) (faCons (fp2 addD (feC (.int 1)) (fp2 (intD modI) (feName 1) (feC (.int 9)))) faNil) ftYes CE_law_one_3))) (fsRet (feTup (faCons (feC (.str [116,97,98,108,101])) (faCons (fp1 toTD (feName 9)) faNil)))))))))))))
def D_law_one:List D → Option (D) := bodyF 10 F_law_one
def F_law_with:FS := (fsSeq (fsSet 3 (fp2 ixD (feName 0) (feC (.int 0)))) (fsSeq (fsIf (ftB (fp2 (inD false) (feName 3) (feTup (faCons (feC (.str [101,118,101,110])) (faCons (feC (.str [115,117,109])) (faCons (feC (.str [116,105,109,101,115])) faNil)))))) (fsRet (fp2 addT (feTup (faCons (feName 3) (faCons (fp2 addT (fp2 addT (feSl slW (fp2 ixD (feName 0) (feC (.int 1))) foNone (foSome (feName 1))) (feTup (faCons (feName 2) faNil))) (feSl slW (fp2 ixD (feName 0) (feC (.int 1))) (foSome (fp2 addD (feName 1) (feC (.int 1)))) foNone)) faNil))) (feSl slW (feName 0) (foSome (feC (.int 2))) foNone))) fsNext) (fsSeq (fsIf (ftB (fp2 (eqF false) (feName 3) (feC (.str [116,97,98,108,101])))) (fsSeq (fsUnp (tgTup [4,5]) (fp1 divmodD (faCons (feName 1) (faCons (fp1 lenD (fp2 ixD (fp2 ixD (feName 0) (feC (.int 1))) (feC (.int 0)))) faNil)))) (fsSeq (fsSet 6 (fp2 addT (fp2 addT (feSl slW (fp2 ixD (fp2 ixD (feName 0) (feC (.int 1))) (feName 4)) foNone (foSome (feName 5))) (feTup (faCons (feName 2) faNil))) (feSl slW (fp2 ixD (fp2 ixD (feName 0) (feC (.int 1))) (feName 4)) (foSome (fp2 addD (feName 5) (feC (.int 1)))) foNone))) (fsRet (feTup (faCons (feC (.str [116,97,98,108,101])) (faCons (fp2 addT (fp2 addT (feSl slW (fp2 ixD (feName 0) (feC (.int 1))) foNone (foSome (feName 4))) (feTup (faCons (feName 6) faNil))) (feSl slW (fp2 ixD (feName 0) (feC (.int 1))) (foSome (fp2 addD (feName 4) (feC (.int 1)))) foNone)) faNil)))))) fsNext) (fsSeq (fsSet 4 (fp2 addD (feC (.int 1)) (feName 1))) (fsSeq (fsIf (ftAnd (ftB (fp2 (eqF false) (feName 3) (feC (.str [109,97,114,107,101,100])))) (ftAnd (ftB (fp2 (eqF false) (feName 1) (feC (.int 1)))) (ftB (fp1 (isNon false) (fp2 ixD (feName 0) (feC (.int 2))))))) (fsSet 4 (feC (.int 3))) fsNext) (fsRet (fp2 addT (fp2 addT (feSl slW (feName 0) foNone (foSome (feName 4))) (feTup (faCons (feName 2) faNil))) (feSl slW (feName 0) (foSome (fp2 addD (feName 4) (feC (.int 1)))) foNone))))))))
def D_law_with:List D → Option (D) := bodyF 7 F_law_with
def LB_cells_of_1:FS := (fsExtend 1 (feName 2))
def F_cells_of:FS := (fsSeq (fsOwn 1 (ffLst faNil)) (fsSeq (fsFor (tgName 2) (feName 0) LB_cells_of_1) (fsRetO 1)))
def D_cells_of:List D → Option (List D) := bodyFF 3 F_cells_of
def CE_parts_of_1:FE := (feName 0)
def CT_parts_of_2:FT := (ftB (fp1 (isNon true) (feName 0)))
def F_parts_of:FS := (fsSeq (fsSet 1 (fp2 ixD (feName 0) (feC (.int 0)))) (fsSeq (fsIf (ftOr (ftB (fp2 (eqF false) (feName 1) (feC (.str [110,97,109,101])))) (ftB (fp2 (eqF false) (feName 1) (feC (.str [110,117,109,98,101,114]))))) (fsRetF (ffLst faNil)) fsNext) (fsSeq (fsIf (ftB (fp2 (inD false) (feName 1) (feC c_ROW_KINDS))) (fsRetF (fp1 seqD (fp2 ixD (feName 0) (feC (.int 1))))) fsNext) (fsSeq (fsIf (ftB (fp2 (eqF false) (feName 1) (feC (.str [109,97,114,107,101,100])))) (fsRetF (fp2 addF (feFr (ffLst (faCons (fp2 ixD (feName 0) (feC (.int 1))) faNil))) (feFr (ffComp 1 [] (tgName 0) (feSl slD (feName 0) (foSome (feC (.int 2))) foNone) CT_parts_of_2 CE_parts_of_1)))) fsNext) (fsSeq (fsIf (ftB (fp2 (eqF false) (feName 1) (feC (.str [116,97,98,108,101])))) (fsRetF (feCall 1 D_cells_of (faCons (fp2 ixD (feName 0) (feC (.int 1))) faNil))) fsNext) (fsRetF (fp1 seqD (feSl slD (feName 0) (foSome (feC (.int 1))) foNone))))))))
def D_parts_of:List D → Option (List D) := bodyFF 2 F_parts_of
def LB_part_of_1:FS := (fsSeq (fsSet 4 (feFr (feCall 1 D_parts_of (faCons (feName 2) faNil)))) (fsSeq (fsIf (ftNot (ftB (feChain leB ltB (feC (.int 0)) (feName 3) (fp1 lenD (feName 4))))) (fsRaise 2 (feC (.str [116,104,101,32,112,97,116,104,32,108,101,97,100,115,32,110,111,119,104,101,114,101]))) fsNext) (fsSet 2 (fp2 ixD (feName 4) (feName 3)))))
def F_part_of:FS := (fsSeq (fsSet 2 (feName 0)) (fsSeq (fsFor (tgName 3) (feName 1) LB_part_of_1) (fsRet (feName 2))))
def D_part_of:List D → Option (D) := bodyF 5 F_part_of
def X_part_of:List D → Option Nat := bodyX 5 F_part_of
def CE_is_word_1:FE := (fp2 (inD false) (feName 0) (feC c_SMALL_LETTERS))
def F_is_word:FS := (fsSeq (fsIf (ftOr (ftNot (ftB (fp1 (instD .str) (feName 0)))) (ftNot (ftB (feChain leB leB (feC (.int 1)) (fp1 lenD (feName 0)) (feC c_MOST_LETTERS))))) (fsRet (feC (.bl false))) fsNext) (fsRet (fp1 allD (feFr (ffCompS 1 [] (tgName 0) (feName 0) ftYes CE_is_word_1)))))
def D_is_word:List D → Option (D) := bodyF 1 F_is_word
def F_is_number_value:FS := (fsSeq (fsIf (ftOr (ftNot (ftB (fp1 (instD .int) (feName 0)))) (ftB (fp1 (instD .bool) (feName 0)))) (fsRet (feC (.bl false))) fsNext) (fsRet (feChain leB leB (feC (.int 0)) (feName 0) (feC c_GREATEST_NUMBER))))
def D_is_number_value:List D → Option (D) := bodyF 1 F_is_number_value
def F_is_stretch:FS := (fsRet (feAnd (fp1 (instD .tuple) (feName 0)) (feChain leB leB (feName 1) (fp1 lenD (feName 0)) (feName 2))))
def D_is_stretch:List D → Option (D) := bodyF 3 F_is_stretch
def CE_are_bands_1:FE := (feCall 3 D_is_stretch (faCons (feName 0) (faCons (feC (.int 1)) (faCons (feC c_MOST_IN_TABLE) faNil))))
def CE_are_bands_2:FE := (fp2 (eqF false) (fp1 lenD (feName 0)) (fp1 lenD (fp2 ixD (feName 1) (feC (.int 0)))))
def F_are_bands:FS := (fsSeq (fsIf (ftNot (ftB (feCall 3 D_is_stretch (faCons (feName 0) (faCons (feC (.int 1)) (faCons (feC c_MOST_IN_TABLE) faNil)))))) (fsRet (feC (.bl false))) fsNext) (fsSeq (fsIf (ftNot (ftB (fp1 allD (feFr (ffComp 1 [] (tgName 0) (feName 0) ftYes CE_are_bands_1))))) (fsRet (feC (.bl false))) fsNext) (fsRet (fp1 allD (feFr (ffComp 1 [0] (tgName 0) (feName 0) ftYes CE_are_bands_2))))))
def D_are_bands:List D → Option (D) := bodyF 1 F_are_bands
def CE_are_signs_1:FE := (fp2 (inD false) (feName 0) (feC (.str [43,45])))
def F_are_signs:FS := (fsRet (feAnd (fp1 (instD .str) (feName 0)) (feAnd (fp2 (eqF false) (fp1 lenD (feName 0)) (feName 1)) (fp1 allD (feFr (ffCompS 1 [] (tgName 0) (feName 0) ftYes CE_are_signs_1))))))
def D_are_signs:List D → Option (D) := bodyF 2 F_are_signs
def F_has_shell:FS := (fsSeq (fsIf (ftOr (ftNot (ftB (fp1 (instD .tuple) (feName 0)))) (ftOr (ftB (fp2 (eqF false) (fp1 lenD (feName 0)) (feC (.int 0)))) (ftNot (ftB (fp1 (instD .str) (fp2 ixD (feName 0) (feC (.int 0)))))))) (fsRet (feC (.bl false))) fsNext) (fsSeq (fsSet 1 (fp2 ixD (feName 0) (feC (.int 0)))) (fsSeq (fsIf (ftOr (ftB (fp1 (tabIn true tb_LENGTHS) (feName 1))) (ftB (fp2 (eqF true) (fp1 lenD (feName 0)) (fp1 (tabD tb_LENGTHS) (feName 1))))) (fsRet (feC (.bl false))) fsNext) (fsSeq (fsIf (ftB (fp2 (eqF false) (feName 1) (feC (.str [110,97,109,101])))) (fsRet (feCall 1 D_is_word (faCons (fp2 ixD (feName 0) (feC (.int 1))) faNil))) fsNext) (fsSeq (fsIf (ftB (fp2 (eqF false) (feName 1) (feC (.str [110,117,109,98,101,114])))) (fsRet (feCall 1 D_is_number_value (faCons (fp2 ixD (feName 0) (feC (.int 1))) faNil))) fsNext) (fsSeq (fsIf (ftB (fp2 (inD false) (feName 1) (feC c_ROW_KINDS))) (fsRet (feAnd (feCall 3 D_is_stretch (faCons (fp2 ixD (feName 0) (feC (.int 1))) (faCons (feC (.int 2)) (faCons (feC c_MOST_PARTS) faNil)))) (feOr (fp2 (eqF true) (feName 1) (feC (.str [115,117,109]))) (feCall 2 D_are_signs (faCons (fp2 ixD (feName 0) (feC (.int 2))) (faCons (fp2 (intD subI) (fp1 lenD (fp2 ixD (feName 0) (feC (.int 1)))) (feC (.int 1))) faNil)))))) fsNext) (fsSeq (fsIf (ftB (fp2 (eqF false) (feName 1) (feC (.str [109,97,114,107,101,100])))) (fsRet (feOr (fp1 (isNon true) (fp2 ixD (feName 0) (feC (.int 2)))) (fp1 (isNon true) (fp2 ixD (feName 0) (feC (.int 3)))))) fsNext) (fsRet (feOr (fp2 (eqF true) (feName 1) (feC (.str [116,97,98,108,101]))) (feCall 1 D_are_bands (faCons (fp2 ixD (feName 0) (feC (.int 1))) faNil)))))))))))
def D_has_shell:List D → Option (D) := bodyF 2 F_has_shell
def F_level_of:FS := (fsRet (fp1 (tabD tb_LEVELS) (fp2 ixD (feName 0) (feC (.int 0)))))
def D_level_of:List D → Option (D) := bodyF 1 F_level_of
def F_least_level:FS := (fsSeq (fsSet 2 (fp2 ixD (feName 0) (feC (.int 0)))) (fsSeq (fsIf (ftB (fp2 (inD false) (feName 2) (feC c_ROW_KINDS))) (fsRet (fp2 addD (feCall 1 D_level_of (faCons (feName 0) faNil)) (feC (.int 1)))) fsNext) (fsRet (feIf (ftAnd (ftB (fp2 (eqF false) (feName 2) (feC (.str [109,97,114,107,101,100])))) (ftB (fp2 (eqF false) (feName 1) (feC (.int 0))))) (feC (.int 4)) (feC (.int 0))))))
def D_least_level:List D → Option (D) := bodyF 3 F_least_level
def F_holds_table (D_holds_table:List D → Option (D)):FS := (fsRet (feOr (fp2 (eqF false) (fp2 ixD (feName 0) (feC (.int 0))) (feC (.str [116,97,98,108,101]))) (fp1 anyD (feFr (ffComp 1 [] (tgName 0) (feFr (feCall 1 D_parts_of (faCons (feName 0) faNil))) ftYes (feCall 1 D_holds_table (faCons (feName 0) faNil)))))))
def DN_holds_table:Nat → List D → Option (D)
  | 0 => fun _ => none
  | n + 1 => bodyF 1 (F_holds_table (DN_holds_table n))
abbrev fuel_holds_table:Nat := 16
abbrev D_holds_table:List D → Option (D) := DN_holds_table fuel_holds_table
def F_has_form (D_has_form:List D → Option (D)):FS := (fsSeq (fsIf (ftNot (ftB (feCall 1 D_has_shell (faCons (feName 0) faNil)))) (fsRet (feC (.bl false))) fsNext) (fsSeq (fsSet 1 (feFr (feCall 1 D_parts_of (faCons (feName 0) faNil)))) (fsSeq (fsForE (tgTup [2,3]) (feName 1) (fsIf (ftOr (ftNot (ftB (feCall 1 D_has_form (faCons (feName 3) faNil)))) (ftB (fp2 (intD ltI) (feCall 1 D_level_of (faCons (feName 3) faNil)) (feCall 2 D_least_level (faCons (feName 0) (faCons (feName 2) faNil)))))) (fsRet (feC (.bl false))) fsNext)) (fsRet (feOr (fp2 (eqF true) (fp2 ixD (feName 0) (feC (.int 0))) (feC (.str [116,97,98,108,101]))) (feNot (fp1 anyD (feFr (ffComp 1 [] (tgName 0) (feName 1) ftYes (feCall 1 D_holds_table (faCons (feName 0) faNil)))))))))))
def DN_has_form:Nat → List D → Option (D)
  | 0 => fun _ => none
  | n + 1 => bodyF 4 (F_has_form (DN_has_form n))
abbrev fuel_has_form:Nat := 16
abbrev D_has_form:List D → Option (D) := DN_has_form fuel_has_form
def F_depth_of (D_depth_of:List D → Option (D)):FS := (fsRet (fp2 addD (feC (.int 1)) (fp2 maxDfD (feFr (ffComp 1 [] (tgName 0) (feFr (feCall 1 D_parts_of (faCons (feName 0) faNil))) ftYes (feCall 1 D_depth_of (faCons (feName 0) faNil)))) (feC (.int 0)))))
def DN_depth_of:Nat → List D → Option (D)
  | 0 => fun _ => none
  | n + 1 => bodyF 1 (F_depth_of (DN_depth_of n))
abbrev fuel_depth_of:Nat := 16
abbrev D_depth_of:List D → Option (D) := DN_depth_of fuel_depth_of
def F_count_of (D_count_of:List D → Option (D)):FS := (fsRet (fp2 addD (feC (.int 1)) (fp1 sumD (feFr (ffComp 1 [] (tgName 0) (feFr (feCall 1 D_parts_of (faCons (feName 0) faNil))) ftYes (feCall 1 D_count_of (faCons (feName 0) faNil)))))))
def DN_count_of:Nat → List D → Option (D)
  | 0 => fun _ => none
  | n + 1 => bodyF 1 (F_count_of (DN_count_of n))
abbrev fuel_count_of:Nat := 16
abbrev D_count_of:List D → Option (D) := DN_count_of fuel_count_of
def F_is_formula:FS := (fsRet (feAnd (feCall 1 D_has_form (faCons (feName 0) faNil)) (feAnd (fp2 (intD leI) (feCall 1 D_depth_of (faCons (feName 0) faNil)) (feC c_MOST_DEPTH)) (fp2 (intD leI) (feCall 1 D_count_of (faCons (feName 0) faNil)) (feC c_MOST_COUNT)))))
def D_is_formula:List D → Option (D) := bodyF 1 F_is_formula
def F_let_by:FS := (fsSeq (fsIf (ftNot (ftB (feCall 1 D_is_formula (faCons (feName 0) faNil)))) (fsRaise 4 (feC (.str [119,104,97,116,32,99,111,109,101,115,32,105,115,32,110,111,32,102,111,114,109,117,108,97]))) fsNext) (fsRet (feName 0)))
def D_let_by:List D → Option (D) := bodyF 1 F_let_by
def X_let_by:List D → Option Nat := bodyX 1 F_let_by
def LB_marked_again_1:FS := (fsIf (ftB (fp1 (isNon false) (feName 4))) (fsAppend 2 (feC .non)) (fsSeq (fsAppend 2 (fp2 ixD (feName 1) (feName 3))) (fsAug 3 addA (feC (.int 1)))))
def F_marked_again:FS := (fsSeq (fsOwn 2 (ffLst (faCons (feC (.str [109,97,114,107,101,100])) (faCons (fp2 ixD (feName 1) (feC (.int 0))) faNil)))) (fsSeq (fsSet 3 (feC (.int 1))) (fsSeq (fsFor (tgName 4) (feSl slD (feName 0) (foSome (feC (.int 2))) foNone) LB_marked_again_1) (fsRet (fp1 toTD (feRead 2))))))
def D_marked_again:List D → Option (D) := bodyF 5 F_marked_again
def CE_bands_again_1:FE := (fp1 toTD (feSl slD (feName 1) (foSome (fp2 mulD (feName 0) (feName 2))) (foSome (fp2 mulD (fp2 addD (feName 0) (feC (.int 1))) (feName 2)))))
def F_bands_again:FS := (fsSeq (fsSet 2 (fp1 lenD (fp2 ixD (feName 0) (feC (.int 0))))) (fsRet (fp1 toTD (feFr (ffCompR rng1 1 [1,2] (tgName 0) (faCons (fp1 lenD (feName 0)) faNil) ftYes CE_bands_again_1)))))
def D_bands_again:List D → Option (D) := bodyF 3 F_bands_again
def F_rebuilt:FS := (fsSeq (fsSet 2 (fp2 ixD (feName 0) (feC (.int 0)))) (fsSeq (fsIf (ftOr (ftB (fp2 (eqF false) (feName 2) (feC (.str [110,97,109,101])))) (ftB (fp2 (eqF false) (feName 2) (feC (.str [110,117,109,98,101,114]))))) (fsRet (feName 0)) fsNext) (fsSeq (fsIf (ftB (fp2 (eqF false) (feName 2) (feC (.str [115,117,109])))) (fsRet (feTup (faCons (feC (.str [115,117,109])) (faCons (fp1 toTD (feName 1)) (faCons (fp2 ixD (feName 0) (feC (.int 2))) faNil))))) fsNext) (fsSeq (fsIf (ftB (fp2 (inD false) (feName 2) (feC c_ROW_KINDS))) (fsRet (feTup (faCons (feName 2) (faCons (fp1 toTD (feName 1)) faNil)))) fsNext) (fsSeq (fsIf (ftB (fp2 (eqF false) (feName 2) (feC (.str [109,97,114,107,101,100])))) (fsRet (feCall 2 D_marked_again (faCons (feName 0) (faCons (feName 1) faNil)))) fsNext) (fsSeq (fsIf (ftB (fp2 (eqF false) (feName 2) (feC (.str [116,97,98,108,101])))) (fsRet (feTup (faCons (feC (.str [116,97,98,108,101])) (faCons (feCall 2 D_bands_again (faCons (fp2 ixD (feName 0) (feC (.int 1))) (faCons (feName 1) faNil))) faNil)))) fsNext) (fsRet (fp2 addD (feTup (faCons (feName 2) faNil)) (fp1 toTD (feName 1))))))))))
def D_rebuilt:List D → Option (D) := bodyF 3 F_rebuilt
def F_fitting:FS := (fsRet (feIf (ftB (fp2 (intD geI) (feCall 1 D_level_of (faCons (feName 2) faNil)) (feCall 2 D_least_level (faCons (feName 0) (faCons (feName 1) faNil))))) (feName 2) (feTup (faCons (feC (.str [104,101,108,100])) (faCons (feName 2) faNil)))))
def D_fitting:List D → Option (D) := bodyF 3 F_fitting
def F_with_part (D_with_part:List D → Option (D)):FS := (fsSeq (fsIf (ftB (fp2 (eqF false) (feName 1) (feTup faNil))) (fsRet (feName 2)) fsNext) (fsSeq (fsOwn 3 (feCall 1 D_parts_of (faCons (feName 0) faNil))) (fsSeq (fsSet 4 (fp2 ixD (feName 1) (feC (.int 0)))) (fsSeq (fsItem 3 (feName 4) (feIf (ftB (fp2 (eqF false) (fp1 lenD (feName 1)) (feC (.int 1)))) (feCall 3 D_fitting (faCons (feName 0) (faCons (feName 4) (faCons (feName 2) faNil)))) (feCall 3 D_with_part (faCons (fp2 ixD (feRead 3) (feName 4)) (faCons (feSl slD (feName 1) (foSome (feC (.int 1))) foNone) (faCons (feName 2) faNil)))))) (fsFrz 3 (fsRet (feCall 2 D_rebuilt (faCons (feName 0) (faCons (feName 3) faNil)))))))))
def DN_with_part:Nat → List D → Option (D)
  | 0 => fun _ => none
  | n + 1 => bodyF 5 (F_with_part (DN_with_part n))
abbrev fuel_with_part:Nat := 16
abbrev D_with_part:List D → Option (D) := DN_with_part fuel_with_part
def F_put_in:FS := (fsSeq (fsCallX kDrop 2 D_part_of X_part_of (faCons (feName 0) (faCons (feName 1) faNil))) (fsCallX kRet 1 D_let_by X_let_by (faCons (feCall 3 D_with_part (faCons (feName 0) (faCons (feName 1) (faCons (feName 2) faNil)))) faNil)))
def D_put_in:List D → Option (D) := bodyF 3 F_put_in
def X_put_in:List D → Option Nat := bodyX 3 F_put_in
def F_law_cell_at:FS := (fsSeq (fsIf (ftB (fp2 (intD ltI) (feName 1) (fp1 lenD (feName 0)))) (fsRet (fp2 ixD (feName 0) (feName 1))) fsNext) (fsRet (feC (.int 0))))
def D_law_cell_at:List D → Option (D) := bodyF 2 F_law_cell_at
def CE_law_parts_1:FE := (feName 0)
def CT_law_parts_2:FT := (ftB (fp1 (isNon true) (feName 0)))
def LB_law_parts_3:FS := (fsSet 1 (feFr (fp2 addF (feName 1) (feFr (fp1 seqD (feName 2))))))
def F_law_parts:FS := (fsSeq (fsIf (ftB (fp2 (inD false) (fp2 ixD (feName 0) (feC (.int 0))) (feTup (faCons (feC (.str [101,118,101,110])) (faCons (feC (.str [115,117,109])) (faCons (feC (.str [116,105,109,101,115])) faNil)))))) (fsRet (feFr (fp1 seqD (fp2 ixD (feName 0) (feC (.int 1)))))) fsNext) (fsSeq (fsIf (ftB (fp2 (eqF true) (fp2 ixD (feName 0) (feC (.int 0))) (feC (.str [116,97,98,108,101])))) (fsRet (feFr (ffComp 1 [] (tgName 0) (feSl slD (feName 0) (foSome (feC (.int 1))) foNone) CT_law_parts_2 CE_law_parts_1))) fsNext) (fsSeq (fsSet 1 (feFr (ffLst faNil))) (fsSeq (fsFor (tgName 2) (fp2 ixD (feName 0) (feC (.int 1))) LB_law_parts_3) (fsRet (feName 1))))))
def D_law_parts:List D → Option (D) := bodyF 3 F_law_parts
def F_law_least:FS := (fsSeq (fsIf (ftB (fp2 (inD false) (fp2 ixD (feName 0) (feC (.int 0))) (feTup (faCons (feC (.str [101,118,101,110])) (faCons (feC (.str [115,117,109])) (faCons (feC (.str [116,105,109,101,115])) faNil)))))) (fsRet (fp2 dctIx (feC (.dct [[101,118,101,110],[115,117,109],[116,105,109,101,115]] [.int 1,.int 2,.int 3])) (fp2 ixD (feName 0) (feC (.int 0))))) fsNext) (fsSeq (fsIf (ftAnd (ftB (fp2 (eqF false) (fp2 ixD (feName 0) (feC (.int 0))) (feC (.str [109,97,114,107,101,100])))) (ftB (fp2 (eqF false) (feName 1) (feC (.int 0))))) (fsRet (feC (.int 4))) fsNext) (fsRet (feC (.int 0)))))
def D_law_least:List D → Option (D) := bodyF 2 F_law_least
def F_law_refused:FS := (fsSeq (fsSet 3 (feC .non)) (fsSeq (fsTry 3 4 3 D_put_in X_put_in 2 (faCons (feName 0) (faCons (feName 1) (faCons (feName 2) faNil)))) (fsSeq (fsSet 5 (feOr (fp1 (instX [4]) (feName 3)) (feOr (fp1 (instX [1]) (feName 3)) (fp1 (instX [3]) (feName 3))))) (fsRet (feAnd (fp1 (instX [0,1,2,3,4]) (feName 3)) (feAnd (fp1 (instX [0,1,2,3,4]) (feName 3)) (feNot (feName 5))))))))
def D_law_refused:List D → Option (D) := bodyF 6 F_law_refused
def X_law_refused:List D → Option Nat := bodyX 6 F_law_refused
def LB_law_1:FS := (fsIf (ftNot (ftB (feCall 3 D_law_refused (faCons (feName 2) (faCons (feName 10) (faCons (feName 4) faNil)))))) (fsRet (feC (.bl false))) fsNext)
def F_law:FS := (fsSeq (fsSet 1 (fp2 (intD modI) (feCall 2 D_law_cell_at (faCons (feName 0) (faCons (feC (.int 0)) faNil))) (feC (.int 8)))) (fsSeq (fsSet 2 (feCall 3 D_law_one (faCons (feName 1) (faCons (fp2 (intD modI) (feCall 2 D_law_cell_at (faCons (feName 0) (faCons (feC (.int 1)) faNil))) (feC (.int 711))) (faCons (feCall 2 D_law_cell_at (faCons (feName 0) (faCons (feC (.int 2)) faNil))) faNil))))) (fsSeq (fsSet 3 (fp2 (intD modI) (feCall 2 D_law_cell_at (faCons (feName 0) (faCons (feC (.int 3)) faNil))) (feC (.int 10)))) (fsSeq (fsSet 4 (feCall 1 D_law_atom (faCons (feCall 2 D_law_cell_at (faCons (feName 0) (faCons (feC (.int 5)) faNil))) faNil))) (fsSeq (fsIf (ftAnd (ftB (fp2 (intD ltI) (feName 3) (feC (.int 8)))) (ftNot (ftAnd (ftB (fp2 (eqF false) (feName 3) (feC (.int 7)))) (ftB (fp2 (eqF false) (feName 1) (feC (.int 7))))))) (fsSet 4 (feCall 3 D_law_one (faCons (feName 3) (faCons (fp2 (intD modI) (feCall 2 D_law_cell_at (faCons (feName 0) (faCons (feC (.int 4)) faNil))) (feC (.int 711))) (faCons (feCall 2 D_law_cell_at (faCons (feName 0) (faCons (feC (.int 5)) faNil))) faNil))))) fsNext) (fsSeq (fsSet 5 (fp1 lenD (feCall 1 D_law_parts (faCons (feName 2) faNil)))) (fsSeq (fsSet 6 (fp2 (intD modI) (feCall 2 D_law_cell_at (faCons (feName 0) (faCons (feC (.int 6)) faNil))) (feName 5))) (fsSeq (fsSet 7 (feC (.dct [[101,118,101,110],[115,117,109],[116,105,109,101,115],[111,118,101,114],[114,111,111,116],[109,97,114,107,101,100]] [.int 0,.int 1,.int 2,.int 3,.int 3,.int 3]))) (fsSeq (fsSet 8 (feName 4)) (fsSeq (fsIf (ftB (fp2 (intD ltI) (fp3 dctGet (feName 7) (fp2 ixD (feName 4) (feC (.int 0))) (feC (.int 4))) (feCall 2 D_law_least (faCons (feName 2) (faCons (feName 6) faNil))))) (fsSet 8 (feTup (faCons (feC (.str [104,101,108,100])) (faCons (feName 4) faNil)))) fsNext) (fsSeq (fsSet 8 (feCall 3 D_law_with (faCons (feName 2) (faCons (feName 6) (faCons (feName 8) faNil))))) (fsSeq (fsSet 9 (fp2 (intD modI) (feCall 2 D_law_cell_at (faCons (feName 0) (faCons (feC (.int 6)) faNil))) (feC (.int 999999000)))) (fsSeq (fsFor (tgName 10) (feFr (ffLst (faCons (feTup (faCons (feName 6) (faCons (feName 9) faNil))) (faCons (feTup (faCons (fp2 addD (feName 5) (feName 9)) faNil)) (faCons (feTup (faCons (fp2 (intD subI) (fp1 negD (feC (.int 1))) (feName 9)) faNil)) (faCons (feTup (faCons (fp2 (intD subI) (fp1 negD (feC (.int 1))) (feName 6)) faNil)) (faCons (feTup (faCons (feName 6) (faCons (feName 6) (faCons (feName 6) faNil)))) faNil))))))) LB_law_1) (fsSeq (fsSet 11 (feCall 3 D_put_in (faCons (feName 2) (faCons (feTup (faCons (feName 6) faNil)) (faCons (feName 4) faNil))))) (fsSeq (fsSet 12 (feCall 3 D_put_in (faCons (feName 2) (faCons (feTup faNil) (faCons (feName 4) faNil))))) (fsSeq (fsIf (ftOr (ftNot (ftB (fp1 (instD .tuple) (feName 11)))) (ftOr (ftB (fp2 (eqF true) (feName 11) (feName 8))) (ftOr (ftNot (ftB (fp1 (instD .tuple) (feName 12)))) (ftB (fp2 (eqF true) (feName 12) (feName 4)))))) (fsRet (feC (.bl false))) fsNext) (fsRet (fp2 (eqF false) (feCall 3 D_put_in (faCons (feName 2) (faCons (feTup (faCons (feName 6) faNil)) (faCons (feName 4) faNil)))) (feName 8)))))))))))))))))))
def D_law:List D → Option (D) := bodyF 13 F_law
def lev:D → Int
  | .tup (.str k :: _) => if k = [101,118,101,110] then 0 else if k = [115,117,109] then 1 else if k = [116,105,109,101,115] then 2 else if k = [111,118,101,114] then 3 else if k = [114,111,111,116] then 3 else if k = [109,97,114,107,101,100] then 3 else 4
  | _ => 4
inductive Fm:Nat → Bool → D → Prop
  | name (n:Nat) (t:Bool) (w:List Nat) : 1 ≤ w.length → w.length ≤ 8 → (∀ x ∈ w,97 ≤ x ∧ x ≤ 122) → Fm (n + 1) t (.tup [.str [110,97,109,101],.str w])
  | num (n:Nat) (t:Bool) (i:Int) : 0 ≤ i → i ≤ 999999999 → Fm (n + 1) t (.tup [.str [110,117,109,98,101,114],.int i])
  | even (n:Nat) (t:Bool) (ps:List D):(∀ p ∈ ps,Fm n t p) → (∀ p ∈ ps,1 ≤ lev p) → 2 ≤ ps.length → ps.length ≤ 80 → Fm (n + 1) t (.tup [.str [101,118,101,110],.tup ps])
  | sum (n:Nat) (t:Bool) (ps:List D) (z:List Nat):(∀ p ∈ ps,Fm n t p) → (∀ p ∈ ps,2 ≤ lev p) → 2 ≤ ps.length → ps.length ≤ 80 → z.length + 1 = ps.length → (∀ x ∈ z,x = 43 ∨ x = 45) → Fm (n + 1) t (.tup [.str [115,117,109],.tup ps,.str z])
  | times (n:Nat) (t:Bool) (ps:List D):(∀ p ∈ ps,Fm n t p) → (∀ p ∈ ps,3 ≤ lev p) → 2 ≤ ps.length → ps.length ≤ 80 → Fm (n + 1) t (.tup [.str [116,105,109,101,115],.tup ps])
  | over (n:Nat) (t:Bool) (a b:D):Fm n t a → Fm n t b → Fm (n + 1) t (.tup [.str [111,118,101,114],a,b])
  | root (n:Nat) (t:Bool) (a:D):Fm n t a → Fm (n + 1) t (.tup [.str [114,111,111,116],a])
  | held (n:Nat) (t:Bool) (a:D):Fm n t a → Fm (n + 1) t (.tup [.str [104,101,108,100],a])
  | markB (n:Nat) (t:Bool) (a r l:D):Fm n t a → 4 ≤ lev a → Fm n t r → Fm n t l → Fm (n + 1) t (.tup [.str [109,97,114,107,101,100],a,r,l])
  | markR (n:Nat) (t:Bool) (a r:D):Fm n t a → 4 ≤ lev a → Fm n t r → Fm (n + 1) t (.tup [.str [109,97,114,107,101,100],a,r,.non])
  | markL (n:Nat) (t:Bool) (a l:D):Fm n t a → 4 ≤ lev a → Fm n t l → Fm (n + 1) t (.tup [.str [109,97,114,107,101,100],a,.non,l])
  | table (n:Nat) (bs:List (List D)) (w:Nat) : 1 ≤ bs.length → bs.length ≤ 9 → 1 ≤ w → w ≤ 9 → (∀ b ∈ bs,b.length = w) → (∀ b ∈ bs, ∀ p ∈ b,Fm n false p) → Fm (n + 1) true (.tup [.str [116,97,98,108,101],.tup (bs.map .tup)])
theorem Fm.up {n:Nat} {t:Bool} {d:D} (h:Fm n t d):Fm (n + 1) t d := by
  induction h with
  | name n t w h1 h2 h3 => exact .name _ _ w h1 h2 h3
  | num n t i h1 h2 => exact .num _ _ i h1 h2
  | even n t ps _ h2 h3 h4 ih => exact .even _ _ ps ih h2 h3 h4
  | sum n t ps z _ h2 h3 h4 h5 h6 ih => exact .sum _ _ ps z ih h2 h3 h4 h5 h6
  | times n t ps _ h2 h3 h4 ih => exact .times _ _ ps ih h2 h3 h4
  | over n t a b _ _ i1 i2 => exact .over _ _ a b i1 i2
  | root n t a _ i1 => exact .root _ _ a i1
  | held n t a _ i1 => exact .held _ _ a i1
  | markB n t a r l _ h1 _ _ i1 i2 i3 => exact .markB _ _ a r l i1 h1 i2 i3
  | markR n t a r _ h1 _ i1 i2 => exact .markR _ _ a r i1 h1 i2
  | markL n t a l _ h1 _ i1 i2 => exact .markL _ _ a l i1 h1 i2
  | table n bs w h1 h2 h3 h4 h5 _ ih => exact .table _ bs w h1 h2 h3 h4 h5 ih
theorem Fm.le {n m:Nat} {t:Bool} {d:D} (h:Fm n t d) (hm:n ≤ m):Fm m t d := by
  induction hm with
  | refl => exact h
  | step _ ih => exact ih.up
theorem Fm.tt {n:Nat} {t:Bool} {d:D} (h:Fm n t d):Fm n true d := by
  induction h with
  | name n t w h1 h2 h3 => exact .name _ _ w h1 h2 h3
  | num n t i h1 h2 => exact .num _ _ i h1 h2
  | even n t ps _ h2 h3 h4 ih => exact .even _ _ ps ih h2 h3 h4
  | sum n t ps z _ h2 h3 h4 h5 h6 ih => exact .sum _ _ ps z ih h2 h3 h4 h5 h6
  | times n t ps _ h2 h3 h4 ih => exact .times _ _ ps ih h2 h3 h4
  | over n t a b _ _ i1 i2 => exact .over _ _ a b i1 i2
  | root n t a _ i1 => exact .root _ _ a i1
  | held n t a _ i1 => exact .held _ _ a i1
  | markB n t a r l _ h1 _ _ i1 i2 i3 => exact .markB _ _ a r l i1 h1 i2 i3
  | markR n t a r _ h1 _ i1 i2 => exact .markR _ _ a r i1 h1 i2
  | markL n t a l _ h1 _ i1 i2 => exact .markL _ _ a l i1 h1 i2
  | table n bs w h1 h2 h3 h4 h5 h6 _ => exact .table _ bs w h1 h2 h3 h4 h5 h6
theorem Fm.tle {n:Nat} {t u:Bool} {d:D} (h:Fm n t d) (hu:t = true → u = true):Fm n u d := by
  cases u with
  | true => exact h.tt
  | false => cases t with
    | true => exact absurd (hu rfl) (by simp)
    | false => exact h
def hdS:List D → Nat
  | .str _ :: _ => 1
  | _ => 0
mutual
def cn:D → Nat
  | .tup ds => hdS ds + cnL ds
  | _ => 0
def cnL:List D → Nat
  | [] => 0
  | d :: ds => cn d + cnL ds
end
theorem cnL_nil:cnL [] = 0 := by simp [cnL]
theorem cnL_cons (d:D) (ds:List D):cnL (d :: ds) = cn d + cnL ds := by simp [cnL]
theorem cn_tup (ds:List D):cn (.tup ds) = hdS ds + cnL ds := by simp [cn]
theorem cn_str (z:List Nat):cn (.str z) = 0 := by simp [cn]
theorem cn_non:cn .non = 0 := by simp [cn]
theorem cnL_app : ∀ a b:List D,cnL (a ++ b) = cnL a + cnL b
  | [],b => by simp [cnL]
  | x :: a,b => by rw [List.cons_append,cnL_cons,cnL_cons,cnL_app a b]; omega
theorem hdS_str (k:List Nat) (ds:List D):hdS (.str k :: ds) = 1 := rfl
theorem Fm.tup {n:Nat} {t:Bool} {d:D} (h:Fm n t d) : ∃ l,d = .tup l := by cases h <;> exact ⟨_,rfl⟩
theorem hdS_fm {n:Nat} {t:Bool} {ps:List D} (h : ∀ p ∈ ps,Fm n t p):hdS ps = 0 := by
  cases ps with
  | nil => rfl
  | cons p ps => obtain ⟨l,rfl⟩ := (h p List.mem_cons_self).tup; rfl
theorem hdS_tups (bs:List (List D)):hdS (bs.map .tup) = 0 := by cases bs <;> rfl
theorem all_cons {P:D → Prop} {a:D} {as:List D} (h:P a) (hs : ∀ b ∈ as,P b) : ∀ b ∈ a :: as,P b := fun b hb => by
  rcases List.mem_cons.mp hb with rfl | hb
  · exact h
  · exact hs b hb
theorem all_nil {P:D → Prop} : ∀ b ∈ ([]:List D),P b := fun b hb => by cases hb
theorem cut2 (k a:D) (r:List D):cutD (k :: a :: r) (some 2) none = r := by
  have := cut_from (k :: a :: r) 2
  simpa using this
theorem flat_len (w:Nat) : ∀ bs:List (List D),(∀ b ∈ bs,b.length = w) → bs.flatten.length = bs.length * w
  | [],_ => by simp
  | b :: bs,h => by
    rw [List.flatten_cons,List.length_append,h b List.mem_cons_self,flat_len w bs fun c hc => h c (List.mem_cons_of_mem _ hc),List.length_cons,Nat.succ_mul]; omega
theorem blsOf_map (bs:List Bool):blsOf (bs.map D.bl) = some bs := by
  induction bs with
  | nil => rfl
  | cons x r ih => show (blsOf (r.map D.bl)).map (x :: ·) = _; rw [ih]; rfl
theorem at4 {β:Type} (a b c d e : β) (r:List β):atI (a :: b :: c :: d :: e :: r) 4 = some e := by
  have := atI_k (a :: b :: c :: d :: e :: r) 4
  simpa using this
theorem at5 {β:Type} (a b c d e f : β) (r:List β):atI (a :: b :: c :: d :: e :: f :: r) 5 = some f := by
  have := atI_k (a :: b :: c :: d :: e :: f :: r) 5
  simpa using this
theorem cells_loop (d:D) : ∀ (bs:List (List D)) (acc:List D) (s2:Slot),acc.length + bs.flatten.length ≤ 1000 → ∃ t2,runFor (tgName 2) LB_cells_of_1 (bs.map .tup) [.val d,.own acc,s2] = some (.nx [.val d,.own (acc ++ bs.flatten),t2])
  | [],acc,s2,_ => ⟨s2,by simp⟩
  | b :: bs,acc,s2,hl => by
    rw [List.flatten_cons,List.length_append] at hl
    have hl1:acc.length + b.length ≤ 1000000 := by omega
    rw [List.map_cons,runFor_nx (e1 := [.val d,.own acc,.val (.tup b)]) (e2 := [.val d,.own (acc ++ b),.val (.tup b)]) (by simp) (by simp [LB_cells_of_1,hl1])]
    obtain ⟨t2,q⟩ := cells_loop d bs (acc ++ b) (.val (.tup b)) (by rw [List.length_append]; omega)
    exact ⟨t2,by simpa using q⟩
theorem cells_ok (bs:List (List D)) (hl:bs.flatten.length ≤ 100):D_cells_of [.tup (bs.map .tup)] = some bs.flatten := by
  obtain ⟨t2,q⟩ := cells_loop (.tup (bs.map .tup)) bs [] .no (by simp only [List.length_nil]; omega)
  simp only [List.nil_append] at q
  generalize bs.map D.tup = BB at q
  simp only [D_cells_of,ev_bodyFF,F_cells_of,envOf]
  simp [q]
def leastL:D → Nat → Int
  | .tup (.str k :: _),i => if k = [101,118,101,110] then 1 else if k = [115,117,109] then 2 else if k = [116,105,109,101,115] then 3 else if k = [109,97,114,107,101,100] ∧ i = 0 then 4 else 0
  | _,_ => 0
def isTab:D → Bool
  | .tup (.str k :: _) => k == [116,97,98,108,101]
  | _ => false
theorem lev_nn (d:D) : 0 ≤ lev d := by
  unfold lev
  split
  · repeat (split; omega)
    omega
  · omega
theorem of_row (ps:List D) (d:D) (l:Int) (hl : ∀ i,leastL d i = l) (h : ∀ p ∈ ps,l ≤ lev p) : ∀ (i:Nat) (x:D),ps[i]? = some x → leastL d i ≤ lev x := fun i x hx => by
  rw [hl i]; exact h x (List.mem_of_getElem? hx)
theorem of_mark (a:D) (ps:List D) (d:D) (h0:leastL d 0 = 4) (hs : ∀ i,leastL d (i + 1) = 0) (h : 4 ≤ lev a) : ∀ (i:Nat) (x:D),(a :: ps)[i]? = some x → leastL d i ≤ lev x
  | 0,x,hx => by
    have:a = x := by simpa using hx
    subst this; rw [h0]; exact h
  | i + 1,x,hx => by rw [hs i]; exact lev_nn x
theorem cn_a (k:List Nat) (a:D):cn (.tup [.str k,a]) = 1 + cnL [a] := by simp only [cn_tup,cnL_cons,cnL_nil,cn_str,hdS_str,Nat.zero_add,Nat.add_zero]
theorem cn_ab (k:List Nat) (a b:D):cn (.tup [.str k,a,b]) = 1 + cnL [a,b] := by simp only [cn_tup,cnL_cons,cnL_nil,cn_str,hdS_str,Nat.zero_add,Nat.add_zero]
theorem cn_abc (k:List Nat) (a b c:D):cn (.tup [.str k,a,b,c]) = 1 + cnL [a,b,c] := by simp only [cn_tup,cnL_cons,cnL_nil,cn_str,hdS_str,Nat.zero_add,Nat.add_zero]
theorem cn_abn (k:List Nat) (a b:D):cn (.tup [.str k,a,b,.non]) = 1 + cnL [a,b] := by simp only [cn_tup,cnL_cons,cnL_nil,cn_str,cn_non,hdS_str,Nat.zero_add,Nat.add_zero]
theorem cn_anb (k:List Nat) (a b:D):cn (.tup [.str k,a,.non,b]) = 1 + cnL [a,b] := by simp only [cn_tup,cnL_cons,cnL_nil,cn_str,cn_non,hdS_str,Nat.zero_add,Nat.add_zero]
theorem cn_ps (k:List Nat) (ps:List D) (h:hdS ps = 0):cn (.tup [.str k,.tup ps]) = 1 + cnL ps := by simp only [cn_tup,cnL_cons,cnL_nil,cn_str,hdS_str,h,Nat.zero_add,Nat.add_zero]
theorem cn_psz (k:List Nat) (ps:List D) (z:List Nat) (h:hdS ps = 0):cn (.tup [.str k,.tup ps,.str z]) = 1 + cnL ps := by simp only [cn_tup,cnL_cons,cnL_nil,cn_str,hdS_str,h,Nat.zero_add,Nat.add_zero]
theorem cnL_tupsF {n:Nat} {t:Bool} : ∀ bs:List (List D),(∀ b ∈ bs, ∀ p ∈ b,Fm n t p) → cnL (bs.map .tup) = cnL bs.flatten
  | [],_ => by simp [cnL_nil]
  | b :: r,hb => by
    rw [List.flatten_cons,cnL_app,List.map_cons,cnL_cons,cn_tup,hdS_fm (hb b List.mem_cons_self),cnL_tupsF r fun c hc => hb c (List.mem_cons_of_mem _ hc),Nat.zero_add]
structure Pt (n:Nat) (t:Bool) (d:D) (ps:List D):Prop where
  b:D_parts_of [d] = some ps
  fm : ∀ p ∈ ps,Fm n t p
  cn:cn d = 1 + cnL ps
  len:ps.length ≤ 81
  lv : ∀ (i:Nat) (x:D),ps[i]? = some x → leastL d i ≤ lev x
  tab:isTab d = true → ∀ p ∈ ps,Fm n false p
theorem tab_parts (bs:List (List D)) (hco:D_cells_of [.tup (bs.map .tup)] = some bs.flatten):D_parts_of [.tup [.str [116,97,98,108,101],.tup (bs.map .tup)]] = some bs.flatten := by
  generalize bs.map D.tup = BB at hco
  simp [D_parts_of,ev_bodyFF,F_parts_of,envOf,c_ROW_KINDS,hco]
theorem pt_ok {n:Nat} {t:Bool} {d:D} (h:Fm (n + 1) t d) : ∃ ps,Pt n t d ps := by
  cases h with
  | name _ _ w => exact ⟨[],by kernel_rfl,all_nil,by kernel_rfl,(by decide:(0:Nat) ≤ 81),(fun i x h => by simp at h),fun h => by cases h⟩
  | num _ _ i => exact ⟨[],by kernel_rfl,all_nil,by kernel_rfl,(by decide:(0:Nat) ≤ 81),(fun i x h => by simp at h),fun h => by cases h⟩
  | even _ _ ps h1 h2 h3 h4 => exact ⟨ps,by kernel_rfl,h1,cn_ps _ ps (hdS_fm h1),Nat.le_succ_of_le h4,of_row _ _ 1 (fun _ => rfl) h2,fun h => by cases h⟩
  | sum _ _ ps z h1 h2 h3 h4 h5 h6 => exact ⟨ps,by kernel_rfl,h1,cn_psz _ ps z (hdS_fm h1),Nat.le_succ_of_le h4,of_row _ _ 2 (fun _ => rfl) h2,fun h => by cases h⟩
  | times _ _ ps h1 h2 h3 h4 => exact ⟨ps,by kernel_rfl,h1,cn_ps _ ps (hdS_fm h1),Nat.le_succ_of_le h4,of_row _ _ 3 (fun _ => rfl) h2,fun h => by cases h⟩
  | over _ _ a b h1 h2 => exact ⟨[a,b],by kernel_rfl,all_cons h1 (all_cons h2 all_nil),cn_ab _ a b,(by decide:(2:Nat) ≤ 81),fun i x _ => lev_nn x,fun h => by cases h⟩
  | root _ _ a h1 => exact ⟨[a],by kernel_rfl,all_cons h1 all_nil,cn_a _ a,(by decide:(1:Nat) ≤ 81),fun i x _ => lev_nn x,fun h => by cases h⟩
  | held _ _ a h1 => exact ⟨[a],by kernel_rfl,all_cons h1 all_nil,cn_a _ a,(by decide:(1:Nat) ≤ 81),fun i x _ => lev_nn x,fun h => by cases h⟩
  | markB _ _ a r l h1 hl h2 h3 =>
    obtain ⟨z,rfl⟩ := h2.tup
    obtain ⟨z2,rfl⟩ := h3.tup
    exact ⟨[a,.tup z,.tup z2],by kernel_rfl,all_cons h1 (all_cons h2 (all_cons h3 all_nil)),cn_abc _ _ _ _,(by decide:(3:Nat) ≤ 81),of_mark a _ _ rfl (fun i => rfl) hl,fun h => by cases h⟩
  | markR _ _ a r h1 hl h2 =>
    obtain ⟨z2,rfl⟩ := h2.tup
    exact ⟨[a,.tup z2],by kernel_rfl,all_cons h1 (all_cons h2 all_nil),cn_abn _ _ _,(by decide:(2:Nat) ≤ 81),of_mark _ _ _ rfl (fun i => rfl) hl,fun h => by cases h⟩
  | markL _ _ a l h1 hl h2 =>
    obtain ⟨z2,rfl⟩ := h2.tup
    exact ⟨[a,.tup z2],by kernel_rfl,all_cons h1 (all_cons h2 all_nil),cn_anb _ _ _,(by decide:(2:Nat) ≤ 81),of_mark _ _ _ rfl (fun i => rfl) hl,fun h => by cases h⟩
  | table _ bs w h1 h2 h3 h4 h5 h6 =>
    have hfl := flat_len w bs h5
    have hml:bs.flatten.length ≤ 81 := by rw [hfl]; exact Nat.mul_le_mul h2 h4
    have hco := cells_ok bs (Nat.le_trans hml (by decide))
    refine ⟨bs.flatten,tab_parts bs hco,fun p hpm => ?_, ?_,hml,fun i x _ => lev_nn x,fun _ p hpm => ?_⟩
    · obtain ⟨b,hbm,hpb⟩ := List.mem_flatten.mp hpm
      exact (h6 b hbm p hpb).tt
    · rw [cn_ps _ _ (hdS_tups bs),cnL_tupsF bs h6]
    · obtain ⟨b,hbm,hpb⟩ := List.mem_flatten.mp hpm
      exact h6 b hbm p hpb
theorem level_ok {n:Nat} {t:Bool} {d:D} (h:Fm n t d):D_level_of [d] = some (.int (lev d)) := by
  cases h <;> kernel_rfl
theorem compS_all (P:Nat → Bool) (fe:FE) (h : ∀ x,fe [.val (.str [x])] = some (.bl (P x))) : ∀ w:List Nat,runComp (tgName 0) ftYes fe [.no] (w.map fun x => .str [x]) = some ((w.map P).map .bl)
  | [] => rfl
  | x :: w => runComp_t (e := [.val (.str [x])]) (by simp) rfl (h x) (compS_all P fe h w)
theorem allD_bl (bs:List Bool):allD (.lst (bs.map .bl)) = some (.bl (bs.all id)) := by
  show (blsOf _).map _ = _
  rw [blsOf_map]; rfl
theorem anyD_bl (bs:List Bool):anyD (.lst (bs.map .bl)) = some (.bl (bs.any id)) := by
  show (blsOf _).map _ = _
  rw [blsOf_map]; rfl
noncomputable def smallB (x:Nat):Bool := [97,98,99,100,101,102,103,104,105,106,107,108,109,110,111,112,113,114,115,116,117,118,119,120,121,122].contains x
theorem small_in (x:Nat):CE_is_word_1 [.val (.str [x])] = some (.bl (smallB x)) := by
  simp only [CE_is_word_1,c_SMALL_LETTERS,smallB]
  simp only [ev_fp2,ev_feName,ev_feC,List.getElem?_cons_zero,slotV_val,obind_some,ev_inD_str]
  rfl
theorem smallB_ok (x:Nat) (h : 97 ≤ x ∧ x ≤ 122):smallB x = true := by
  have : ∀ j < 26,smallB (97 + j) = true := by decide
  have := this (x - 97) (by omega)
  rwa [show 97 + (x - 97) = x by omega] at this
theorem is_word_eq (w:List Nat) (hw:w.length ≤ 1000000):D_is_word [.str w] = some (.bl (decide (1 ≤ w.length ∧ w.length ≤ 8) && w.all smallB)) := by
  have hc := compS_all smallB CE_is_word_1 small_in w
  have hs:strD (.str w) = some (w.map fun x => .str [x]) := if_pos hw
  have ha := allD_bl (w.map smallB)
  have hcap : ∀ a:Slot,capE 1 [] [a] = [.no] := fun _ => rfl
  have e:(w.map smallB).all id = w.all smallB := by rw [List.all_map]; rfl
  rw [e] at ha
  generalize (w.map smallB).map D.bl = T at hc ha
  by_cases h1 : 1 ≤ w.length ∧ w.length ≤ 8
  · have h2:(1:Int) ≤ w.length := by omega
    have h3:(w.length:Int) ≤ 8 := by omega
    simp only [D_is_word,ev_bodyF,F_is_word,envOf,c_MOST_LETTERS]
    simp [hs,hc,ha,hcap,hw,h1,h2,h3]
  · simp only [D_is_word,ev_bodyF,F_is_word,envOf,c_MOST_LETTERS]
    by_cases h2:(1:Int) ≤ w.length
    · have h3 : ¬ (w.length:Int) ≤ 8 := by omega
      have h3' : ¬ w.length ≤ 8 := by omega
      simp [hw,h2,h3,h3']
    · have h2' : ¬ 1 ≤ w.length := by omega
      simp [hw,h2,h2']
theorem is_num_eq (i:Int):D_is_number_value [.int i] = some (.bl (decide (0 ≤ i ∧ i ≤ 999999999))) := by
  have ei:(Ty.bool == Ty.int) = false := rfl
  have ej:(Ty.int == Ty.bool) = false := rfl
  simp only [D_is_number_value,ev_bodyF,F_is_number_value,envOf,c_GREATEST_NUMBER]
  by_cases h1 : 0 ≤ i
  · by_cases h2:i ≤ 999999999
    · simp [ei,ej,h1,h2]
    · simp [ei,ej,h1,h2]
  · simp [ei,ej,h1]
theorem stretch_tup (ds:List D) (a b:Int):D_is_stretch [.tup ds,.int a,.int b] = some (.bl (decide (a ≤ ds.length) && decide ((ds.length:Int) ≤ b))) := by
  simp only [D_is_stretch,ev_bodyF,F_is_stretch,envOf]
  by_cases h1:a ≤ ds.length
  · simp [h1]
  · simp [h1]
noncomputable def pmB (x:Nat):Bool := [43,45].contains x
theorem pm_in (x:Nat):CE_are_signs_1 [.val (.str [x])] = some (.bl (pmB x)) := by
  simp only [CE_are_signs_1,pmB]
  simp only [ev_fp2,ev_feName,ev_feC,List.getElem?_cons_zero,slotV_val,obind_some,ev_inD_str]
  rfl
theorem signs_eq (z:List Nat) (hz:z.length ≤ 1000000) (n:Int):D_are_signs [.str z,.int n] = some (.bl (decide ((z.length:Int) = n) && z.all pmB)) := by
  have hc := compS_all pmB CE_are_signs_1 pm_in z
  have hs:strD (.str z) = some (z.map fun x => .str [x]) := if_pos hz
  have ha := allD_bl (z.map pmB)
  have hcap : ∀ a b:Slot,capE 1 [] [a,b] = [.no] := fun _ _ => rfl
  have e:(z.map pmB).all id = z.all pmB := by rw [List.all_map]; rfl
  rw [e] at ha
  generalize (z.map pmB).map D.bl = T at hc ha
  simp only [D_are_signs,ev_bodyF,F_are_signs,envOf]
  by_cases h:(z.length:Int) = n
  · subst h
    simp [hs,hc,ha,hcap,hz]
  · have h':((z.length:Int) == n) = false := beq_eq_false_iff_ne.mpr h
    simp [hz,h,h']
theorem bands_one (bs:List (List D)) (w:Nat) (hw1 : 1 ≤ w) (hw9:w ≤ 9):(∀ b ∈ bs,b.length = w) → runComp (tgName 0) ftYes CE_are_bands_1 [.no] (bs.map .tup) = some ((bs.map fun _ => true).map .bl) := by
  intro h
  induction bs with
  | nil => rfl
  | cons b bs ih =>
    have hb := h b List.mem_cons_self
    have e := stretch_tup b 1 9
    rw [hb] at e
    have e1:decide ((1:Int) ≤ (w:Nat)) = true := by simp; omega
    have e2:decide (((w:Nat):Int) ≤ 9) = true := by simp; omega
    rw [e1,e2] at e
    exact runComp_t (e := [.val (.tup b)]) (by simp) rfl (by simp [CE_are_bands_1,c_MOST_IN_TABLE,e]) (ih fun c hc => h c (List.mem_cons_of_mem _ hc))
theorem bands_two (D0:D) (b0:List D) (r:List D) (hD0:D0 = .tup (.tup b0 :: r)) (w:Nat) (hb0:b0.length = w) (bs:List (List D)):(∀ b ∈ bs,b.length = w) → runComp (tgName 0) ftYes CE_are_bands_2 [.no,.val D0] (bs.map .tup) = some ((bs.map fun _ => true).map .bl) := by
  intro h
  subst hD0
  induction bs with
  | nil => rfl
  | cons b bs ih =>
    have hb := h b List.mem_cons_self
    exact runComp_t (e := [.val (.tup b),.val (.tup (.tup b0 :: r))]) (by simp) rfl (by simp [CE_are_bands_2,hb,hb0]) (ih fun c hc => h c (List.mem_cons_of_mem _ hc))
theorem bands_ok (bs:List (List D)) (w:Nat) (h1 : 1 ≤ bs.length) (h2:bs.length ≤ 9) (h3 : 1 ≤ w) (h4:w ≤ 9) (h5 : ∀ b ∈ bs,b.length = w):D_are_bands [.tup (bs.map .tup)] = some (.bl true) := by
  obtain ⟨b0,r,rfl⟩ : ∃ a b,bs = a :: b := by
    cases bs with
    | nil => simp at h1
    | cons a b => exact ⟨a,b,rfl⟩
  have e0 := stretch_tup ((b0 :: r).map .tup) 1 9
  rw [List.length_map] at e0
  have e1:decide ((1:Int) ≤ ((b0 :: r).length:Nat)) = true := by simp only [decide_eq_true_eq]; omega
  have e2:decide ((((b0 :: r).length:Nat):Int) ≤ 9) = true := by simp only [decide_eq_true_eq]; omega
  rw [e1,e2] at e0
  have c1 := bands_one (b0 :: r) w h3 h4 h5
  have c2 := bands_two (.tup ((b0 :: r).map .tup)) b0 (r.map .tup) rfl w (h5 b0 List.mem_cons_self) (b0 :: r) h5
  have ha := allD_bl ((b0 :: r).map fun _ => true)
  have ha2:((b0 :: r).map fun _ => true).all id = true := by simp
  rw [ha2] at ha
  have hcap0 : ∀ a:Slot,capE 1 [] [a] = [.no] := fun _ => rfl
  have hcap1 : ∀ a:Slot,capE 1 [0] [a] = [.no,a] := fun _ => rfl
  have hl:((b0 :: r).map D.tup).length ≤ 1000000 := by rw [List.length_map]; omega
  generalize (b0 :: r).map D.tup = B at *
  generalize ((b0 :: r).map fun _ => true).map D.bl = T at *
  simp only [D_are_bands,ev_bodyF,F_are_bands,envOf,c_MOST_IN_TABLE]
  simp [e0,c1,c2,ha,hcap0,hcap1,hl]
theorem tlen_NAME:lookT [110,97,109,101] tb_LENGTHS = some 2 := rfl
theorem tlen_NUMBER:lookT [110,117,109,98,101,114] tb_LENGTHS = some 2 := rfl
theorem tlen_EVEN:lookT [101,118,101,110] tb_LENGTHS = some 2 := rfl
theorem tlen_SUM:lookT [115,117,109] tb_LENGTHS = some 3 := rfl
theorem tlen_TIMES:lookT [116,105,109,101,115] tb_LENGTHS = some 2 := rfl
theorem tlen_TABLE:lookT [116,97,98,108,101] tb_LENGTHS = some 2 := rfl
theorem stretch_in (ps:List D) (h3 : 2 ≤ ps.length) (h4:ps.length ≤ 80):D_is_stretch [.tup ps,.int 2,.int 80] = some (.bl true) := by
  rw [stretch_tup,decide_eq_true (show (2:Int) ≤ ps.length by omega),decide_eq_true (show (ps.length:Int) ≤ 80 by omega)]; rfl
theorem shell_row (k:List Nat) (hk:k = [101,118,101,110] ∨ k = [116,105,109,101,115]) (ps:List D) (h3 : 2 ≤ ps.length) (h4:ps.length ≤ 80):D_has_shell [.tup [.str k,.tup ps]] = some (.bl true) := by
  have hw := stretch_in ps h3 h4
  rcases hk with rfl | rfl <;> simp [D_has_shell,ev_bodyF,F_has_shell,envOf,tlen_EVEN,tlen_TIMES,hw,c_ROW_KINDS,c_MOST_PARTS]
theorem shell_ok {n:Nat} {t:Bool} {d:D} (h:Fm n t d):D_has_shell [d] = some (.bl true) := by
  cases h with
  | name _ _ w h1 h2 h3 =>
    have hw := is_word_eq w (Nat.le_trans h2 (by decide))
    have e:(decide (1 ≤ w.length ∧ w.length ≤ 8) && w.all smallB) = true := by
      rw [decide_eq_true ⟨h1,h2⟩,Bool.true_and,List.all_eq_true]
      exact fun x hx => smallB_ok x (h3 x hx)
    rw [e] at hw
    simp [D_has_shell,ev_bodyF,F_has_shell,envOf,tlen_NAME,c_ROW_KINDS,hw]
  | num _ _ i h1 h2 =>
    have hw := is_num_eq i
    rw [decide_eq_true ⟨h1,h2⟩] at hw
    simp [D_has_shell,ev_bodyF,F_has_shell,envOf,tlen_NUMBER,c_ROW_KINDS,hw]
  | even _ _ ps h1 h2 h3 h4 => exact shell_row _ (.inl rfl) ps h3 h4
  | sum _ _ ps z h1 h2 h3 h4 h5 h6 =>
    have hw := stretch_in ps h3 h4
    have hz := signs_eq z (by omega) ((ps.length:Int) - 1)
    have e:z.all pmB = true := by
      rw [List.all_eq_true]
      intro x hx
      rcases h6 x hx with rfl | rfl <;> rfl
    rw [decide_eq_true (show (z.length:Int) = (ps.length:Int) - 1 by omega),e] at hz
    simp [D_has_shell,ev_bodyF,F_has_shell,envOf,tlen_SUM,hw,hz,c_ROW_KINDS,c_MOST_PARTS]
  | times _ _ ps h1 h2 h3 h4 => exact shell_row _ (.inr rfl) ps h3 h4
  | over _ _ a b h1 h2 => kernel_rfl
  | root _ _ a h1 => kernel_rfl
  | held _ _ a h1 => kernel_rfl
  | markB _ _ a r l h1 _ h2 h3 =>
    obtain ⟨z,rfl⟩ := h2.tup
    kernel_rfl
  | markR _ _ a r h1 _ h2 =>
    obtain ⟨z,rfl⟩ := h2.tup
    kernel_rfl
  | markL _ _ a l h1 _ h2 =>
    obtain ⟨z,rfl⟩ := h2.tup
    kernel_rfl
  | table _ bs w h1 h2 h3 h4 h5 h6 =>
    have hb := bands_ok bs w h1 h2 h3 h4 h5
    generalize bs.map D.tup = B at hb
    simp [D_has_shell,ev_bodyF,F_has_shell,envOf,tlen_TABLE,c_ROW_KINDS,hb]
theorem least_ok {n:Nat} {t:Bool} {d:D} (h:Fm n t d) (i:Nat):D_least_level [d,.int i] = some (.int (leastL d i)) := by
  cases h with
  | markB => cases i <;> kernel_rfl
  | markR => cases i <;> kernel_rfl
  | markL => cases i <;> kernel_rfl
  | _ => kernel_rfl
theorem comp_bl (DN:List D → Option D) (b:Bool) : ∀ ps:List D,(∀ p ∈ ps,DN [p] = some (.bl b)) → runComp (tgName 0) ftYes (feCall 1 DN (faCons (feName 0) faNil)) [.no] ps = some ((ps.map fun _ => b).map .bl)
  | [],_ => rfl
  | p :: ps,h => runComp_t (e := [.val p]) (by simp) rfl (by simp [h p List.mem_cons_self]) (comp_bl DN b ps fun q hq => h q (List.mem_cons_of_mem _ hq))
theorem any_false (ps:List D):(ps.map fun _ => false).any id = false := by
  induction ps with
  | nil => rfl
  | cons _ _ ih => simpa using ih
theorem holds_ok : ∀ (n m:Nat) (d:D),Fm n false d → n ≤ m → DN_holds_table m [d] = some (.bl false)
  | 0,m,d,h,_ => by cases h
  | n + 1,0,d,h,hm => by omega
  | n + 1,m + 1,d,h,hm => by
    obtain ⟨ps,p⟩ := pt_ok h
    have hc := comp_bl (DN_holds_table m) false ps (fun q hq => holds_ok n m q (p.fm q hq) (by omega))
    have ha := anyD_bl (ps.map fun _ => false)
    rw [any_false] at ha
    have hcap : ∀ a:Slot,capE 1 [] [a] = [.no] := fun _ => rfl
    have hl:ps.length ≤ 1000000 := by have := p.len; omega
    have pb := p.b
    generalize (ps.map fun _ => false).map D.bl = T at hc ha
    have : ∃ k r,d = .tup (.str k :: r) ∧ (k == [116,97,98,108,101]) = false := by cases h <;> exact ⟨_,_,rfl,rfl⟩
    obtain ⟨k,r,rfl,hk⟩ := this
    simp only [DN_holds_table,ev_bodyF,F_holds_table,envOf]
    simp [hk,pb,hl,hcap,hc,ha]
theorem form_loop2 (H:List D → Option D) (d:D) (ps:List D) (hH : ∀ p ∈ ps,H [p] = some (.bl true)) (hlv : ∀ p ∈ ps,D_level_of [p] = some (.int (lev p))) (hle : ∀ i:Nat,D_least_level [d,.int i] = some (.int (leastL d i))) (hok : ∀ (i:Nat) (x:D),ps[i]? = some x → leastL d i ≤ lev x) :
    ∀ (rest:List D) (i:Nat) (s2 s3:Slot),ps.drop i = rest → ∃ t2 t3,runFor (tgTup [2,3]) (fsIf (ftOr (ftNot (ftB (feCall 1 H (faCons (feName 3) faNil)))) (ftB (fp2 (intD ltI) (feCall 1 D_level_of (faCons (feName 3) faNil)) (feCall 2 D_least_level (faCons (feName 0) (faCons (feName 2) faNil)))))) (fsRet (feC (.bl false))) fsNext) (enumF i rest) [.val d,.val (.lst ps),s2,s3] = some (.nx [.val d,.val (.lst ps),t2,t3])
  | [],i,s2,s3,_ => ⟨s2,s3,rfl⟩
  | p :: rest,i,s2,s3,hd => by
    have hi:i < ps.length := by
      have := congrArg List.length hd
      simp at this; omega
    have hx:ps[i]? = some p := by
      have := congrArg (fun l => l[0]?) hd
      simpa using this
    have hd':ps.drop (i + 1) = rest := by
      rw [List.drop_eq_getElem_cons hi] at hd
      exact (List.cons.inj hd).2
    have hm := List.mem_of_getElem? hx
    have h1 := hH p hm
    have h2 := hlv p hm
    have h3 := hle i
    have h4 := hok i p hx
    have h5 : ¬ lev p < leastL d i := by omega
    rw [enumF_cons,runFor_nx (e1 := [.val d,.val (.lst ps),.val (.int i),.val p]) (e2 := [.val d,.val (.lst ps),.val (.int i),.val p]) (by simp) (by simp [h1,h2,h3,h5])]
    exact form_loop2 H d ps hH hlv hle hok rest (i + 1) _ _ hd'
theorem form_ok : ∀ (n m:Nat) (t:Bool) (d:D),Fm n t d → n ≤ m → n ≤ 16 → DN_has_form m [d] = some (.bl true)
  | 0,m,t,d,h,_,_ => by cases h
  | n + 1,0,t,d,h,hm,_ => by omega
  | n + 1,m + 1,t,d,h,hm,h16 => by
    obtain ⟨ps,p⟩ := pt_ok h
    have hs := shell_ok h
    obtain ⟨t2,t3,hlp⟩ := form_loop2 (DN_has_form m) d ps (fun q hq => form_ok n m t q (p.fm q hq) (by omega) (by omega)) (fun q hq => level_ok (p.fm q hq)) (least_ok h) p.lv ps 0 .no .no rfl
    have hcap : ∀ a b c d:Slot,capE 1 [] [a,b,c,d] = [.no] := fun _ _ _ _ => rfl
    have hl:ps.length ≤ 1000000 := by have := p.len; omega
    have pb := p.b
    have ptab := p.tab
    have : ∃ k r,d = .tup (.str k :: r) := by cases h <;> exact ⟨_,_,rfl⟩
    obtain ⟨k,r,rfl⟩ := this
    simp only [DN_has_form,ev_bodyF,F_has_form,envOf]
    by_cases hk:k = [116,97,98,108,101]
    · have hc := comp_bl (DN_holds_table 16) false ps (fun q hq => holds_ok n 16 q (ptab (by rw [hk]; rfl) q hq) (by omega))
      have ha := anyD_bl (ps.map fun _ => false)
      rw [any_false] at ha
      generalize (ps.map fun _ => false).map D.bl = T at hc ha
      subst hk
      simp [hs,pb,enumL_F,hlp,hl,hcap,hc,ha]
    · have hk':(k == [116,97,98,108,101]) = false := by simpa using hk
      simp [hs,pb,enumL_F,hlp,hk']
inductive Each (P:D → Int → Prop):List D → List Int → Prop
  | nil:Each P [] []
  | cons {q:D} {c:Int} {qs:List D} {cs:List Int}:P q c → Each P qs cs → Each P (q :: qs) (c :: cs)
theorem comp_int (DN:List D → Option D) (P:D → Int → Prop) : ∀ ps:List D,(∀ p ∈ ps, ∃ c:Int,DN [p] = some (.int c) ∧ P p c) →
    ∃ is:List Int,runComp (tgName 0) ftYes (feCall 1 DN (faCons (feName 0) faNil)) [.no] ps = some (is.map .int) ∧ is.length = ps.length ∧ Each P ps is
  | [],_ => ⟨[],rfl,rfl,.nil⟩
  | p :: ps,h => by
    obtain ⟨c,h1,h3⟩ := h p List.mem_cons_self
    obtain ⟨is,g1,g3,g4⟩ := comp_int DN P ps fun q hq => h q (List.mem_cons_of_mem _ hq)
    exact ⟨c :: is,runComp_t (e := [.val p]) (by simp) rfl (by simp [h1]) g1,by simp [g3],.cons h3 g4⟩
theorem each_mem {P:D → Int → Prop} {ps:List D} {is:List Int} (h:Each P ps is) : ∀ i ∈ is, ∃ p ∈ ps,P p i := by
  induction h with
  | nil => intro i hi; cases hi
  | cons h1 _ ih =>
    intro i hi
    rcases List.mem_cons.mp hi with rfl | hi
    · exact ⟨_,List.mem_cons_self,h1⟩
    · obtain ⟨p,hp,h⟩ := ih i hi
      exact ⟨p,List.mem_cons_of_mem _ hp,h⟩
theorem depth_ok : ∀ (n m:Nat) (t:Bool) (d:D),Fm n t d → n ≤ m → ∃ c:Int,DN_depth_of m [d] = some (.int c) ∧ c ≤ n
  | 0,m,t,d,h,_ => by cases h
  | n + 1,0,t,d,h,hm => by omega
  | n + 1,m + 1,t,d,h,hm => by
    obtain ⟨ps,p⟩ := pt_ok h
    obtain ⟨is,g1,g3,g4⟩ := comp_int (DN_depth_of m) (fun _ c => c ≤ n) ps (fun q hq => depth_ok n m t q (p.fm q hq) (by omega))
    obtain ⟨M,hM,hMn⟩ : ∃ M:Int,maxDfD (.lst (is.map .int)) (.int 0) = some (.int M) ∧ M ≤ n := by
      have hall : ∀ i ∈ is,i ≤ (n:Int) := fun i hi => (each_mem g4 i hi).elim fun _ h => h.2
      clear g1 g3 g4
      show ∃ M,(intsOf (is.map D.int)).bind _ = _ ∧ _
      rw [intsOf_map]
      cases is with
      | nil => exact ⟨0,rfl,by omega⟩
      | cons i r => exact ⟨maxL i r,rfl,hall _ (maxL_mem r i)⟩
    have hcap : ∀ a:Slot,capE 1 [] [a] = [.no] := fun _ => rfl
    have hl:ps.length ≤ 1000000 := by have := p.len; omega
    have pb := p.b
    refine ⟨1 + M, ?_,by omega⟩
    simp only [DN_depth_of,ev_bodyF,F_depth_of,envOf]
    simp [pb,hl,hcap,g1,hM]
theorem mem_cn {q:D} {ps:List D} (hq:q ∈ ps):cn q ≤ cnL ps := by
  obtain ⟨a,b,rfl⟩ := List.append_of_mem hq
  rw [cnL_app,cnL_cons]; omega
theorem count_ok : ∀ (n m:Nat) (t:Bool) (d:D),Fm n t d → n ≤ m → cn d ≤ 100000 → DN_count_of m [d] = some (.int (cn d))
  | 0,m,t,d,h,_,_ => by cases h
  | n + 1,0,t,d,h,hm,_ => by omega
  | n + 1,m + 1,t,d,h,hm,hw => by
    obtain ⟨ps,p⟩ := pt_ok h
    have hpc := p.cn
    obtain ⟨is,g1,g3,g4⟩ := comp_int (DN_count_of m) (fun q c => c = (cn q:Nat)) ps (fun q hq => ⟨_,count_ok n m t q (p.fm q hq) (by omega) (by have := mem_cn hq; omega),rfl⟩)
    have hsum:is.sum = (cnL ps:Nat) ∧ ∀ i ∈ is,0 ≤ i ∧ i ≤ 100000 := by
      refine ⟨?_,fun i hi => ?_⟩
      · clear g1 g3 hpc p
        induction g4 with
        | nil => simp [cnL_nil]
        | cons hc _ ih => rw [List.sum_cons,cnL_cons,hc,ih]; simp
      · obtain ⟨q,hq,h⟩ := each_mem g4 i hi
        have := mem_cn hq; omega
    have hsd:sumD (.lst (is.map .int)) = some (.int is.sum) := by
      show (intsOf (is.map D.int)).bind _ = _
      rw [intsOf_map]
      show (if _ then _ else _) = _
      have hpl := p.len
      rw [if_pos ⟨by omega,List.all_eq_true.mpr fun i hi => by have := hsum.2 i hi; simp; omega⟩]
    have hcap : ∀ a:Slot,capE 1 [] [a] = [.no] := fun _ => rfl
    have hl:ps.length ≤ 1000000 := by have := p.len; omega
    have pb := p.b
    rw [hsum.1] at hsd
    have hci:(cn d:Int) = 1 + (cnL ps:Nat) := by omega
    rw [hci]
    simp only [DN_count_of,ev_bodyF,F_count_of,envOf]
    simp [pb,hl,hcap,g1,hsd]
theorem formula_true {n:Nat} {t:Bool} {d:D} (h:Fm n t d) (hn:n ≤ 12) (hc:cn d ≤ 300):D_is_formula [d] = some (.bl true) := by
  have h1 := form_ok n 16 t d h (by omega) (by omega)
  obtain ⟨c,h2,h3⟩ := depth_ok n 16 t d h (by omega)
  have h4 := count_ok n 16 t d h (by omega) (by omega)
  have e1:c ≤ 12 := by omega
  have e2:(cn d:Int) ≤ 300 := by omega
  simp only [D_is_formula,ev_bodyF,F_is_formula,envOf,c_MOST_DEPTH,c_MOST_COUNT]
  simp [h1,h2,h4,e1,e2,hc]
theorem eqZ_refl (f:D → D → Option Bool) : ∀ as:List D,(∀ a ∈ as,f a a = some true) → eqZ f as as = some true
  | [],_ => rfl
  | a :: as,h => by
    show ((f a a).bind fun x => (eqZ f as as).map fun y => x && y) = _
    rw [h a List.mem_cons_self,eqZ_refl f as fun b hb => h b (List.mem_cons_of_mem _ hb)]; rfl
theorem eq_tup (m:Nat) (as:List D) (h : ∀ a ∈ as,eqN m a a = some true):eqN (m + 1) (.tup as) (.tup as) = some true := by
  show (eqZ (eqN m) as as).map (fun r => r && as.length == as.length) = _
  rw [eqZ_refl _ as h]; simp
theorem eq_strR (m:Nat) (z:List Nat):eqN (m + 1) (.str z) (.str z) = some true := by simp
theorem eq_intR (m:Nat) (z:Int):eqN (m + 1) (.int z) (.int z) = some true := by simp
theorem eq_nonR (m:Nat):eqN (m + 1) .non .non = some true := rfl
theorem Fm.eq {n:Nat} {t:Bool} {d:D} (h:Fm n t d) : ∀ j,eqN (3 * n + 1 + j) d d = some true := by
  induction h with
  | name n t w _ _ _ => intro j; rw [show 3 * (n + 1) + 1 + j = (3 * n + 2 + j) + 1 + 1 by omega]; exact eq_tup _ _ (all_cons (eq_strR _ _) (all_cons (eq_strR _ _) all_nil))
  | num n t i _ _ => intro j; rw [show 3 * (n + 1) + 1 + j = (3 * n + 2 + j) + 1 + 1 by omega]; exact eq_tup _ _ (all_cons (eq_strR _ _) (all_cons (eq_intR _ _) all_nil))
  | even n t ps _ _ _ _ ih => intro j; rw [show 3 * (n + 1) + 1 + j = (3 * n + 1 + (j + 1)) + 1 + 1 by omega]; exact eq_tup _ _ (all_cons (eq_strR _ _) (all_cons (eq_tup _ _ fun p hp => ih p hp (j + 1)) all_nil))
  | sum n t ps z _ _ _ _ _ _ ih => intro j; rw [show 3 * (n + 1) + 1 + j = (3 * n + 1 + (j + 1)) + 1 + 1 by omega]; exact eq_tup _ _ (all_cons (eq_strR _ _) (all_cons (eq_tup _ _ fun p hp => ih p hp (j + 1)) (all_cons (eq_strR _ _) all_nil)))
  | times n t ps _ _ _ _ ih => intro j; rw [show 3 * (n + 1) + 1 + j = (3 * n + 1 + (j + 1)) + 1 + 1 by omega]; exact eq_tup _ _ (all_cons (eq_strR _ _) (all_cons (eq_tup _ _ fun p hp => ih p hp (j + 1)) all_nil))
  | over n t a b _ _ i1 i2 => intro j; rw [show 3 * (n + 1) + 1 + j = (3 * n + 1 + (j + 2)) + 1 by omega]; exact eq_tup _ _ (all_cons (eq_strR (3 * n + 2 + j) _) (all_cons (i1 _) (all_cons (i2 _) all_nil)))
  | root n t a _ i1 => intro j; rw [show 3 * (n + 1) + 1 + j = (3 * n + 1 + (j + 2)) + 1 by omega]; exact eq_tup _ _ (all_cons (eq_strR (3 * n + 2 + j) _) (all_cons (i1 _) all_nil))
  | held n t a _ i1 => intro j; rw [show 3 * (n + 1) + 1 + j = (3 * n + 1 + (j + 2)) + 1 by omega]; exact eq_tup _ _ (all_cons (eq_strR (3 * n + 2 + j) _) (all_cons (i1 _) all_nil))
  | markB n t a r l _ _ _ _ i1 i2 i3 => intro j; rw [show 3 * (n + 1) + 1 + j = (3 * n + 1 + (j + 2)) + 1 by omega]; exact eq_tup _ _ (all_cons (eq_strR (3 * n + 2 + j) _) (all_cons (i1 _) (all_cons (i2 _) (all_cons (i3 _) all_nil))))
  | markR n t a r _ _ _ i1 i2 => intro j; rw [show 3 * (n + 1) + 1 + j = (3 * n + 1 + (j + 2)) + 1 by omega]; exact eq_tup _ _ (all_cons (eq_strR (3 * n + 2 + j) _) (all_cons (i1 _) (all_cons (i2 _) (all_cons (eq_nonR (3 * n + 2 + j)) all_nil))))
  | markL n t a l _ _ _ i1 i2 => intro j; rw [show 3 * (n + 1) + 1 + j = (3 * n + 1 + (j + 2)) + 1 by omega]; exact eq_tup _ _ (all_cons (eq_strR (3 * n + 2 + j) _) (all_cons (i1 _) (all_cons (eq_nonR (3 * n + 2 + j)) (all_cons (i2 _) all_nil))))
  | table n bs w _ _ _ _ _ _ ih =>
    intro j
    rw [show 3 * (n + 1) + 1 + j = (3 * n + 1 + j) + 1 + 1 + 1 by omega]
    refine eq_tup _ _ (all_cons (eq_strR _ _) (all_cons (eq_tup _ _ fun q hq => ?_) all_nil))
    obtain ⟨b,hb,rfl⟩ := List.mem_map.mp hq
    exact eq_tup _ _ fun p hp => ih b hb p hp j
theorem Fm.eq100 {n:Nat} {t:Bool} {d:D} (h:Fm n t d) (hn:n ≤ 30):eqN 100 d d = some true := by
  have := h.eq (99 - 3 * n)
  rwa [show 3 * n + 1 + (99 - 3 * n) = 100 by omega] at this
noncomputable def chunks (w:Nat):Nat → List D → List (List D)
  | 0,_ => []
  | r + 1,ps => ps.take w :: chunks w r (ps.drop w)
theorem chunks_len (w:Nat) : ∀ (r:Nat) (ps:List D),(chunks w r ps).length = r
  | 0,_ => rfl
  | r + 1,ps => by simp [chunks,chunks_len w r]
theorem chunks_flat (w:Nat) : ∀ bs:List (List D),(∀ b ∈ bs,b.length = w) → chunks w bs.length bs.flatten = bs
  | [],_ => rfl
  | b :: bs,h => by
    have hb := h b List.mem_cons_self
    show (b ++ bs.flatten).take w :: chunks w bs.length ((b ++ bs.flatten).drop w) = _
    rw [List.take_append_of_le_length (by omega),List.drop_append_of_le_length (by omega),List.take_of_length_le (by omega),List.drop_of_length_le (by omega),List.nil_append,chunks_flat w bs fun c hc => h c (List.mem_cons_of_mem _ hc)]
theorem again_comp (qs:List D) (w:Nat) (hw:w ≤ 9) : ∀ (r i:Nat),i + r ≤ 9 → runComp (tgName 0) ftYes CE_bands_again_1 [.no,.val (.lst qs),.val (.int w)] (rInts i r) = some ((chunks w r (qs.drop (i * w))).map .tup)
  | 0,i,_ => rfl
  | r + 1,i,hi => by
    have ih := again_comp qs w hw r (i + 1) (by omega)
    have m1 := mulD_right (i:Int) (w:Int) (by omega)
    have m2 := mulD_right ((i:Int) + 1) (w:Int) (by omega)
    have e1:(i:Int) * (w:Int) = ((i * w:Nat):Int) := by simp
    have e2:((i:Int) + 1) * (w:Int) = ((i * w + w:Nat):Int) := by rw [Int.add_mul,Int.one_mul]; simp
    rw [e1] at m1
    rw [e2] at m2
    have hc := cut_nat qs (i * w) (i * w + w)
    rw [show i * w + w - i * w = w by omega] at hc
    have e3:qs.drop ((i + 1) * w) = (qs.drop (i * w)).drop w := by rw [List.drop_drop,Nat.succ_mul]
    rw [rInts_succ]
    show runComp _ _ _ _ (D.int (i:Nat) :: rInts ((i:Int) + 1) r) = some (.tup ((qs.drop (i * w)).take w) :: (chunks w r ((qs.drop (i * w)).drop w)).map .tup)
    rw [← e3]
    exact runComp_t (e := [.val (.int (i:Nat)),.val (.lst qs),.val (.int w)]) (by simp) rfl (by simp only [CE_bands_again_1]; simp only [ev_fp1,ev_feSl,ev_feName,ev_foSome,ev_fp2,ev_feC,List.getElem?_cons_zero,List.getElem?_cons_succ,slotV_val,obind_some,ev_intO,ev_addD_int,ev_slD_lst,m1,m2,hc,ev_toTD_lst]) ih
theorem bands_again_ok (bs:List (List D)) (w:Nat) (qs:List D) (h1 : 1 ≤ bs.length) (h9:bs.length ≤ 9) (hw9:w ≤ 9) (hb : ∀ b ∈ bs,b.length = w):D_bands_again [.tup (bs.map .tup),.lst qs] = some (.tup ((chunks w bs.length qs).map .tup)) := by
  obtain ⟨b,r,rfl⟩ : ∃ b r,bs = b :: r := by
    match bs,h1 with
    | b :: r,_ => exact ⟨b,r,rfl⟩
  have hbw := hb b List.mem_cons_self
  have hc := again_comp qs w hw9 (b :: r).length 0 (by omega)
  simp only [Nat.zero_mul,List.drop_zero,Int.cast_ofNat_Int] at hc
  have hr:rng1 [.int (((b :: r).length:Nat):Int)] = some (rInts 0 (b :: r).length) := rng1_ok rfl (by omega)
  have hrl:(rInts 0 (b :: r).length).length ≤ 1000000 := by unfold rInts; simp only [List.length_map,List.length_range]; omega
  have hcap : ∀ a b c:Slot,capE 1 [1,2] [a,b,c] = [.no,b,c] := fun _ _ _ => rfl
  have hat:atI ((b :: r).map D.tup) 0 = some (.tup b) := by simp
  have hlen:(((b :: r).map D.tup).length:Int) = (((b :: r).length:Nat):Int) := by simp
  generalize (chunks w (b :: r).length qs).map D.tup = OUT at hc
  generalize (b :: r).map D.tup = BB at hat hlen
  generalize rInts 0 (b :: r).length = RR at hc hr hrl
  generalize (((b :: r).length:Nat):Int) = LL at hr hlen
  rw [atI_0] at hat
  simp only [D_bands_again,ev_bodyF,F_bands_again,envOf]
  simp [hat,hbw,hlen,hr,hrl,hcap,hc]
theorem reb_table (bs:List (List D)) (qs:List D) (t:D) (h:D_bands_again [.tup (bs.map .tup),.lst qs] = some t):D_rebuilt [.tup [.str [116,97,98,108,101],.tup (bs.map .tup)],.lst qs] = some (.tup [.str [116,97,98,108,101],t]) := by
  generalize bs.map D.tup = BB at h
  simp only [D_rebuilt,ev_bodyF,F_rebuilt,envOf]
  simp [c_ROW_KINDS,h]
theorem parts_loop (d:D) : ∀ (bs:List (List D)) (acc:List D) (s3:Slot),acc.length + bs.flatten.length ≤ 1000 → ∃ t3,runFor (tgName 2) LB_law_parts_3 (bs.map .tup) [.val d,.val (.lst acc),s3] = some (.nx [.val d,.val (.lst (acc ++ bs.flatten)),t3])
  | [],acc,s3,_ => ⟨s3,by simp⟩
  | b :: bs,acc,s3,hl => by
    rw [List.flatten_cons,List.length_append] at hl
    have hl1:acc.length + b.length ≤ 1000000 := by omega
    rw [List.map_cons,runFor_nx (e1 := [.val d,.val (.lst acc),.val (.tup b)]) (e2 := [.val d,.val (.lst (acc ++ b)),.val (.tup b)]) (by simp) (by simp [LB_law_parts_3,hl1])]
    obtain ⟨t3,q⟩ := parts_loop d bs (acc ++ b) (.val (.tup b)) (by rw [List.length_append]; omega)
    exact ⟨t3,by simpa using q⟩
theorem parts_table (bs:List (List D)) (hl:bs.flatten.length ≤ 100):D_law_parts [.tup [.str [116,97,98,108,101],.tup (bs.map .tup)]] = some (.lst bs.flatten) := by
  obtain ⟨t3,q⟩ := parts_loop (.tup [.str [116,97,98,108,101],.tup (bs.map .tup)]) bs [] .no (by simp; simp at hl; omega)
  simp only [List.nil_append] at q
  simp only [D_law_parts,ev_bodyF,F_law_parts,envOf]
  simp [-List.length_flatten,q]
structure At (p:D):Prop where
  fm:Fm 1 false p
  b:D_parts_of [p] = some []
  lv:lev p = 4
  cn:cn p = 1
theorem mod_in (r:Int) (n:Nat) (h : 0 < n) : ∃ k:Nat,r % (n:Int) = k ∧ k < n := by
  have h1 := Int.emod_nonneg r (b := (n:Int)) (by omega)
  have h2 := Int.emod_lt_of_pos r (b := (n:Int)) (by omega)
  exact ⟨(r % (n:Int)).toNat,by omega,by omega⟩
theorem letter_ok (r:Int) : ∃ x:Nat,atI [97,98,99,100,101,102,103,104,105,106,107,108,109,110,111,112,113,114,115,116,117,118,119,120,121,122] (r % 26) = some x ∧ 97 ≤ x ∧ x ≤ 122 := by
  obtain ⟨k,e,hk⟩ := mod_in r 26 (by decide)
  have e':r % 26 = (k:Int) := e
  rw [e',atI_k]
  have : ∀ k:Nat,k < 26 → ∃ x:Nat,([97,98,99,100,101,102,103,104,105,106,107,108,109,110,111,112,113,114,115,116,117,118,119,120,121,122]:List Nat)[k]? = some x ∧ 97 ≤ x ∧ x ≤ 122 := by decide
  exact this k hk
theorem atom_loop (a:Slot) (v:Int) : ∀ (n i:Nat) (z:List Nat) (s3:Slot),z.length + n ≤ 8 → i + n ≤ 10 → (∀ x ∈ z,97 ≤ x ∧ x ≤ 122) → ∃ z' t3,runFor (tgName 3) LB_law_atom_1 (rInts (i:Nat) n) [a,.val (.int v),.val (.str z),s3] = some (.nx [a,.val (.int v),.val (.str z'),t3]) ∧ z.length ≤ z'.length ∧ z'.length ≤ 8 ∧ ∀ x ∈ z',97 ≤ x ∧ x ≤ 122
  | 0,i,z,s3,hl,_,hz => ⟨z,s3,by rw [rInts_zero]; rfl,by omega,by omega,hz⟩
  | n + 1,i,z,s3,hl,hi,hz => by
    obtain ⟨x,ex,hx⟩ := letter_ok (v / (624 + (i:Int)))
    have h1:(0:Int) < 624 + (i:Int) := by omega
    have h2 : 624 + (i:Int) < 1073741824 := by omega
    have l1:z.length + 1 ≤ 1000000 := by omega
    obtain ⟨z',t3,q,a1,a2,a3⟩ := atom_loop a v n (i + 1) (z ++ [x]) (.val (.int (i:Nat))) (by simp; omega) (by omega) (fun y hy => by
      rcases List.mem_append.mp hy with hy | hy
      · exact hz y hy
      · rw [List.mem_singleton.mp hy]; exact hx)
    refine ⟨z',t3, ?_,by simp at a1; omega,a2,a3⟩
    rw [rInts_succ,runFor_nx (e1 := [a,.val (.int v),.val (.str z),.val (.int (i:Nat))]) (e2 := [a,.val (.int v),.val (.str (z ++ [x])),.val (.int (i:Nat))]) (by simp) (by simp [LB_law_atom_1,fdivI,modI,h1,h2,ex,l1])]
    exact q
theorem at_num (i:Int) (h0 : 0 ≤ i) (h1:i ≤ 999999999):At (.tup [.str [110,117,109,98,101,114],.int i]) :=
  ⟨.num 0 false i h0 h1,by kernel_rfl,rfl,by kernel_rfl⟩
theorem at_name (w:List Nat) (h1 : 1 ≤ w.length) (h8:w.length ≤ 8) (h : ∀ x ∈ w,97 ≤ x ∧ x ≤ 122):At (.tup [.str [110,97,109,101],.str w]) :=
  ⟨.name 0 false w h1 h8 h,by kernel_rfl,rfl,by kernel_rfl⟩
theorem mod_nine (v:Int) : 0 ≤ v % 1000000000 ∧ v % 1000000000 ≤ 999999999 := by omega
theorem atom_ok (c:Int) : ∃ p,D_law_atom [.int c] = some p ∧ At p := by
  have hm := mulD_right c 1099087573 (by decide)
  obtain ⟨v,ev⟩ : ∃ v,c * 1099087573 % 10000000000037 = v := ⟨_,rfl⟩
  by_cases h3:v % 3 = 0
  · obtain ⟨g1,g2⟩ := mod_nine (v / 3)
    refine ⟨.tup [.str [110,117,109,98,101,114],.int (v / 3 % 1000000000)], ?_,at_num _ g1 g2⟩
    clear g1 g2
    simp only [D_law_atom,ev_bodyF,F_law_atom,envOf]
    simp [hm,modI,fdivI,powI,ev,h3]
  · obtain ⟨x,ex,hx⟩ := letter_ok (v / 3)
    obtain ⟨m,em,hm8⟩ := mod_in (v / 78) 8 (by decide)
    have em:v / 78 % 8 = (m:Int) := em
    obtain ⟨z,t3,q,a1,a2,a3⟩ := atom_loop (.val (.int c)) v m 0 [x] .no (by simp; omega) (by omega) (fun y hy => by rw [List.mem_singleton.mp hy]; exact hx)
    have hr:rng1 [.int (m:Int)] = some (rInts 0 m) := rng1_ok rfl (by omega)
    have h3':(v % 3 == 0) = false := by simpa using h3
    refine ⟨.tup [.str [110,97,109,101],.str z], ?_,at_name z (by simpa using a1) a2 a3⟩
    have q:runFor (tgName 3) LB_law_atom_1 (rInts 0 m) _ = _ := q
    simp only [D_law_atom,ev_bodyF,F_law_atom,envOf]
    simp [hm,modI,fdivI,ev,h3',ex,em,hr,q]
structure One (t:Bool) (d:D) (ps:List D):Prop where
  fm:Fm 2 t d
  b:D_parts_of [d] = some ps
  lp:D_law_parts [d] = some (.lst ps)
  ats : ∀ p ∈ ps,At p
  len : 1 ≤ ps.length ∧ ps.length ≤ 81
  cnd:cn d ≤ 90
  w : ∀ (i:Nat) (x:D) (m:Nat) (u:Bool),i < ps.length → Fm (m + 1) u x → (t = true → u = false) → leastL d i ≤ lev x → ∃ d',D_rebuilt [d,.lst (ps.set i x)] = some d' ∧ D_law_with [d,.int (i:Nat),x] = some d' ∧ Fm (m + 2) true d' ∧ cn d' ≤ 90 + cn x
  least : ∀ i:Nat,D_law_least [d,.int (i:Nat)] = some (.int (leastL d i))
theorem set_parts (ps:List D) (i:Nat) (x:D) (h:i < ps.length):ps.take i ++ [x] ++ ps.drop (i + 1) = ps.set i x := by
  rw [List.set_eq_take_append_cons_drop,if_pos h]; simp
theorem mem_set {ps:List D} {i:Nat} {x y:D} (h:y ∈ ps.set i x):y ∈ ps ∨ y = x := List.mem_or_eq_of_mem_set h
theorem cn_set {ps:List D} (x:D) : ∀ (i:Nat),cnL (ps.set i x) ≤ cnL ps + cn x := by
  induction ps with
  | nil => intro i; simp [cnL_nil]
  | cons p ps ih =>
    intro i
    cases i with
    | zero => rw [List.set_cons_zero,cnL_cons,cnL_cons]; omega
    | succ i => rw [List.set_cons_succ,cnL_cons,cnL_cons]; have := ih i; omega
theorem cn_atoms : ∀ (ps:List D),(∀ p ∈ ps,At p) → cnL ps = ps.length
  | [],_ => by simp [cnL_nil]
  | p :: ps,h => by rw [cnL_cons,(h p List.mem_cons_self).cn,cn_atoms ps fun q hq => h q (List.mem_cons_of_mem _ hq)]; simp; omega
theorem At.up {p:D} (h:At p) (m:Nat) (u:Bool):Fm (m + 1) u p := (h.fm.le (by omega)).tle (fun z => by cases z)
theorem c_suc (i:Nat):((i + 1:Nat):Int) = (i:Int) + 1 := rfl
theorem takeB (l:List D) (k:Nat) (h:l.length ≤ 100):(l.take k).length + 1 ≤ 1000000 := by rw [List.length_take]; omega
theorem takeC (l:List D) (k j:Nat) (x:D) (h:l.length ≤ 100):(l.take k ++ [x]).length + (l.drop j).length ≤ 1000000 := by rw [List.length_append,List.length_take,List.length_drop,List.length_singleton]; omega
theorem two_r (n:Nat) (h:n ≤ 1) : 2 + n ≤ 1000000 := by omega
theorem wt_num (a k w L:Nat) (hal:a < L) (h9:L ≤ 9) (hw9:w ≤ 9) (hk:k < w):(0:Int) ≤ ((a * w + k:Nat):Int) ∧ ((a * w + k:Nat):Int) < 1000000 ∧ (0:Int) < (w:Int) ∧ (w:Int) < 1000000 := by
  have:a * w ≤ 9 * 9 := Nat.mul_le_mul (Nat.le_trans (Nat.le_of_lt hal) h9) hw9
  omega
theorem le_h {n:Nat} (h:n ≤ 9):n ≤ 100 := Nat.le_trans h (by decide)
theorem le_80 {n:Nat} (h:n ≤ 80):n ≤ 100 := Nat.le_trans h (by decide)
theorem with_row (k:List Nat) (hk:k = [101,118,101,110] ∨ k = [116,105,109,101,115] ∨ k = [115,117,109]) (ps:List D) (r:List D) (hr:r.length ≤ 1) (i:Nat) (x:D) (hi:i < ps.length) (h80:ps.length ≤ 80) :
    D_law_with [.tup (.str k :: .tup ps :: r),.int (i:Nat),x] = some (.tup (.str k :: .tup (ps.set i x) :: r)) := by
  have c1:cutD ps none (some (i:Int)) = ps.take i := cut_to ps i
  have c2:cutD ps (some ((i:Int) + 1)) none = ps.drop (i + 1) := by
    have := cut_from ps (i + 1)
    rwa [c_suc] at this
  have c3:cutD (.str k :: .tup ps :: r) (some 2) none = r := cut2 _ _ _
  have e := set_parts ps i x hi
  have b1 := takeB ps i (le_80 h80)
  have b2 := takeC ps i (i + 1) x (le_80 h80)
  have b3 := two_r _ hr
  generalize hT:ps.take i = T at *
  generalize hU:ps.drop (i + 1) = U at *
  generalize ps.set i x = S at *
  generalize hTX:T ++ [x] = TX at *
  rcases hk with rfl | rfl | rfl
  all_goals
    simp only [D_law_with,ev_bodyF,F_law_with,envOf]
    simp [-List.append_assoc, -List.cons_append,c1,c2,c3,b1,hTX,b2,e,b3]
theorem reb_row (k:List Nat) (hk:k = [101,118,101,110] ∨ k = [116,105,109,101,115]) (ps qs:List D):D_rebuilt [.tup [.str k,.tup ps],.lst qs] = some (.tup [.str k,.tup qs]) := by
  rcases hk with rfl | rfl <;> kernel_rfl
theorem reb_sum (ps qs:List D) (z:List Nat):D_rebuilt [.tup [.str [115,117,109],.tup ps,.str z],.lst qs] = some (.tup [.str [115,117,109],.tup qs,.str z]) := by kernel_rfl
theorem all_set {ps:List D} {m:Nat} {u:Bool} {x:D} (ha : ∀ p ∈ ps,At p) (hx:Fm (m + 1) u x) (i:Nat) : ∀ p ∈ ps.set i x,Fm (m + 1) true p := fun p hp => by
  rcases mem_set hp with hp | rfl
  · exact (ha p hp).up m true
  · exact hx.tt
theorem lv_set {ps:List D} {x:D} {l:Int} (hl:l ≤ 4) (ha : ∀ p ∈ ps,At p) (hx:l ≤ lev x) (i:Nat) : ∀ p ∈ ps.set i x,l ≤ lev p := fun p hp => by
  rcases mem_set hp with hp | rfl
  · rw [(ha p hp).lv]; exact hl
  · exact hx
theorem one_even (ps:List D) (ha : ∀ p ∈ ps,At p) (h2 : 2 ≤ ps.length) (h80:ps.length ≤ 80):One false (.tup [.str [101,118,101,110],.tup ps]) ps where
  fm := .even 1 false ps (fun p hp => (ha p hp).fm) (fun p hp => by rw [(ha p hp).lv]; omega) h2 h80
  b := by kernel_rfl
  lp := by kernel_rfl
  ats := ha
  len := by omega
  cnd := by rw [cn_ps _ ps (hdS_fm fun p hp => (ha p hp).fm),cn_atoms ps ha]; omega
  w := fun i x m u hi hx _ hl => ⟨.tup [.str [101,118,101,110],.tup (ps.set i x)],reb_row _ (.inl rfl) ps _,with_row _ (.inl rfl) ps [] (by simp) i x hi h80,
    .even (m + 1) true _ (all_set ha hx i) (lv_set (by omega) ha (by simpa [leastL] using hl) i) (by simpa using h2) (by simpa using h80),by
      rw [cn_ps _ _ (hdS_fm (all_set ha hx i))]; have := cn_set (ps := ps) x i; rw [cn_atoms ps ha] at this; omega⟩
  least := fun i => by kernel_rfl
theorem one_times (ps:List D) (ha : ∀ p ∈ ps,At p) (h2 : 2 ≤ ps.length) (h80:ps.length ≤ 80):One false (.tup [.str [116,105,109,101,115],.tup ps]) ps where
  fm := .times 1 false ps (fun p hp => (ha p hp).fm) (fun p hp => by rw [(ha p hp).lv]; omega) h2 h80
  b := by kernel_rfl
  lp := by kernel_rfl
  ats := ha
  len := by omega
  cnd := by rw [cn_ps _ ps (hdS_fm fun p hp => (ha p hp).fm),cn_atoms ps ha]; omega
  w := fun i x m u hi hx _ hl => ⟨.tup [.str [116,105,109,101,115],.tup (ps.set i x)],reb_row _ (.inr rfl) ps _,with_row _ (.inr (.inl rfl)) ps [] (by simp) i x hi h80,
    .times (m + 1) true _ (all_set ha hx i) (lv_set (by omega) ha (by simpa [leastL] using hl) i) (by simpa using h2) (by simpa using h80),by
      rw [cn_ps _ _ (hdS_fm (all_set ha hx i))]; have := cn_set (ps := ps) x i; rw [cn_atoms ps ha] at this; omega⟩
  least := fun i => by kernel_rfl
theorem one_sum (ps:List D) (z:List Nat) (ha : ∀ p ∈ ps,At p) (h2 : 2 ≤ ps.length) (h80:ps.length ≤ 80) (hz:z.length + 1 = ps.length) (hzz : ∀ x ∈ z,x = 43 ∨ x = 45):One false (.tup [.str [115,117,109],.tup ps,.str z]) ps where
  fm := .sum 1 false ps z (fun p hp => (ha p hp).fm) (fun p hp => by rw [(ha p hp).lv]; omega) h2 h80 hz hzz
  b := by kernel_rfl
  lp := by kernel_rfl
  ats := ha
  len := by omega
  cnd := by rw [cn_psz _ ps _ (hdS_fm fun p hp => (ha p hp).fm),cn_atoms ps ha]; omega
  w := fun i x m u hi hx _ hl => ⟨.tup [.str [115,117,109],.tup (ps.set i x),.str z],reb_sum ps _ z,with_row _ (.inr (.inr rfl)) ps [.str z] (by simp) i x hi h80,
    .sum (m + 1) true _ z (all_set ha hx i) (lv_set (by omega) ha (by simpa [leastL] using hl) i) (by simpa using h2) (by simpa using h80) (by simpa using hz) hzz,by
      rw [cn_psz _ _ _ (hdS_fm (all_set ha hx i))]; have := cn_set (ps := ps) x i; rw [cn_atoms ps ha] at this; omega⟩
  least := fun i => by kernel_rfl
theorem cn1 {a:D} {n:Nat} (h:cn a = n):cnL [a] = n := by rw [cnL_cons,cnL_nil,h]; rfl
theorem cn2 (a b:D):cnL [a,b] = cn a + cn b := by rw [cnL_cons,cnL_cons,cnL_nil]; rfl
theorem cn3 (a b c:D):cnL [a,b,c] = cn a + cn b + cn c := by rw [cnL_cons,cn2,Nat.add_assoc]
theorem le90 {n:Nat} (k m:Nat) (h:k + m ≤ 90):k + (n + m) ≤ 90 + n := by omega
theorem lt1 {i:Nat} (h:i < 1):i = 0 := by omega
theorem lt2 {i:Nat} (h:i < 2):i = 0 ∨ i = 1 := by omega
theorem lt3 {i:Nat} (h:i < 3):i = 0 ∨ i = 1 ∨ i = 2 := by omega
theorem one_over (a b:D) (ha:At a) (hb:At b):One false (.tup [.str [111,118,101,114],a,b]) [a,b] where
  fm := .over 1 false a b ha.fm hb.fm
  b := by kernel_rfl
  lp := by
    obtain ⟨l,rfl⟩ := ha.fm.tup
    obtain ⟨l2,rfl⟩ := hb.fm.tup
    kernel_rfl
  ats := all_cons ha (all_cons hb all_nil)
  len := ⟨(by decide:(1:Nat) ≤ 2),(by decide:(2:Nat) ≤ 81)⟩
  cnd := by rw [cn_ab,cn2,ha.cn,hb.cn]; decide
  w := fun i x m u hi hx _ _ => by
    rcases lt2 hi with rfl | rfl
    · exact ⟨.tup [.str [111,118,101,114],x,b],by kernel_rfl,by kernel_rfl,.over (m + 1) true x b hx.tt (hb.up m true),by rw [cn_ab,cn2,hb.cn]; exact le90 1 1 (by decide)⟩
    · exact ⟨.tup [.str [111,118,101,114],a,x],by kernel_rfl,by kernel_rfl,.over (m + 1) true a x (ha.up m true) hx.tt,by rw [cn_ab,cn2,ha.cn,Nat.add_comm 1 (cn x)]; exact le90 1 1 (by decide)⟩
  least := fun i => by kernel_rfl
theorem one_root (a:D) (ha:At a):One false (.tup [.str [114,111,111,116],a]) [a] where
  fm := .root 1 false a ha.fm
  b := by kernel_rfl
  lp := by
    obtain ⟨l,rfl⟩ := ha.fm.tup
    kernel_rfl
  ats := all_cons ha all_nil
  len := ⟨(by decide:(1:Nat) ≤ 1),(by decide:(1:Nat) ≤ 81)⟩
  cnd := by rw [cn_a,cn1 ha.cn]; decide
  w := fun i x m u hi hx _ _ => by
    have h0 := lt1 hi
    subst h0
    exact ⟨.tup [.str [114,111,111,116],x],by kernel_rfl,by kernel_rfl,.root (m + 1) true x hx.tt,by rw [cn_a,cn1 rfl]; exact le90 1 0 (by decide)⟩
  least := fun i => by kernel_rfl
theorem one_held (a:D) (ha:At a):One false (.tup [.str [104,101,108,100],a]) [a] where
  fm := .held 1 false a ha.fm
  b := by kernel_rfl
  lp := by
    obtain ⟨l,rfl⟩ := ha.fm.tup
    kernel_rfl
  ats := all_cons ha all_nil
  len := ⟨(by decide:(1:Nat) ≤ 1),(by decide:(1:Nat) ≤ 81)⟩
  cnd := by rw [cn_a,cn1 ha.cn]; decide
  w := fun i x m u hi hx _ _ => by
    have h0 := lt1 hi
    subst h0
    exact ⟨.tup [.str [104,101,108,100],x],by kernel_rfl,by kernel_rfl,.held (m + 1) true x hx.tt,by rw [cn_a,cn1 rfl]; exact le90 1 0 (by decide)⟩
  least := fun i => by kernel_rfl
theorem one_markB (a r l:D) (ha:At a) (hr:At r) (hl:At l):One false (.tup [.str [109,97,114,107,101,100],a,r,l]) [a,r,l] := by
  obtain ⟨za,ea⟩ := ha.fm.tup
  obtain ⟨zr,er⟩ := hr.fm.tup
  obtain ⟨zl,el⟩ := hl.fm.tup
  exact {
  fm := .markB 1 false a r l ha.fm (by rw [ha.lv]; decide) hr.fm hl.fm
  b := by subst er el; kernel_rfl
  lp := by subst ea er el; kernel_rfl
  ats := all_cons ha (all_cons hr (all_cons hl all_nil))
  len := ⟨(by decide:(1:Nat) ≤ 3),(by decide:(3:Nat) ≤ 81)⟩
  cnd := by rw [cn_abc,cn3,ha.cn,hr.cn,hl.cn]; decide
  w := fun i x m u hi hx _ hle => by
    obtain ⟨zx,ex⟩ := hx.tup
    rcases lt3 hi with rfl | rfl | rfl
    · exact ⟨.tup [.str [109,97,114,107,101,100],x,r,l],by subst er el; kernel_rfl,by subst er; kernel_rfl,.markB (m + 1) true x r l hx.tt hle (hr.up m true) (hl.up m true),by rw [cn_abc,cn3,hr.cn,hl.cn,Nat.add_assoc]; exact le90 1 2 (by decide)⟩
    · exact ⟨.tup [.str [109,97,114,107,101,100],a,x,l],by subst er el; kernel_rfl,by subst er; kernel_rfl,.markB (m + 1) true a x l (ha.up m true) (by rw [ha.lv]; decide) hx.tt (hl.up m true),by rw [cn_abc,cn3,ha.cn,hl.cn,Nat.add_comm 1 (cn x),Nat.add_assoc]; exact le90 1 2 (by decide)⟩
    · exact ⟨.tup [.str [109,97,114,107,101,100],a,r,x],by subst er el; kernel_rfl,by subst er; kernel_rfl,.markB (m + 1) true a r x (ha.up m true) (by rw [ha.lv]; decide) (hr.up m true) hx.tt,by rw [cn_abc,cn3,ha.cn,hr.cn,Nat.add_comm (1 + 1) (cn x)]; exact le90 1 2 (by decide)⟩
  least := fun i => by cases i <;> kernel_rfl }
theorem one_markR (a r:D) (ha:At a) (hr:At r):One false (.tup [.str [109,97,114,107,101,100],a,r,.non]) [a,r] := by
  obtain ⟨za,ea⟩ := ha.fm.tup
  obtain ⟨zr,er⟩ := hr.fm.tup
  exact {
  fm := .markR 1 false a r ha.fm (by rw [ha.lv]; decide) hr.fm
  b := by subst er; kernel_rfl
  lp := by subst ea er; kernel_rfl
  ats := all_cons ha (all_cons hr all_nil)
  len := ⟨(by decide:(1:Nat) ≤ 2),(by decide:(2:Nat) ≤ 81)⟩
  cnd := by rw [cn_abn,cn2,ha.cn,hr.cn]; decide
  w := fun i x m u hi hx _ hle => by
    rcases lt2 hi with rfl | rfl
    · exact ⟨.tup [.str [109,97,114,107,101,100],x,r,.non],by subst er; kernel_rfl,by subst er; kernel_rfl,.markR (m + 1) true x r hx.tt hle (hr.up m true),by rw [cn_abn,cn2,hr.cn]; exact le90 1 1 (by decide)⟩
    · exact ⟨.tup [.str [109,97,114,107,101,100],a,x,.non],by subst er; kernel_rfl,by subst er; kernel_rfl,.markR (m + 1) true a x (ha.up m true) (by rw [ha.lv]; decide) hx.tt,by rw [cn_abn,cn2,ha.cn,Nat.add_comm 1 (cn x)]; exact le90 1 1 (by decide)⟩
  least := fun i => by cases i <;> kernel_rfl }
theorem one_markL (a l:D) (ha:At a) (hl:At l):One false (.tup [.str [109,97,114,107,101,100],a,.non,l]) [a,l] := by
  obtain ⟨za,ea⟩ := ha.fm.tup
  obtain ⟨zl,el⟩ := hl.fm.tup
  exact {
  fm := .markL 1 false a l ha.fm (by rw [ha.lv]; decide) hl.fm
  b := by subst el; kernel_rfl
  lp := by subst ea el; kernel_rfl
  ats := all_cons ha (all_cons hl all_nil)
  len := ⟨(by decide:(1:Nat) ≤ 2),(by decide:(2:Nat) ≤ 81)⟩
  cnd := by rw [cn_anb,cn2,ha.cn,hl.cn]; decide
  w := fun i x m u hi hx _ hle => by
    rcases lt2 hi with rfl | rfl
    · exact ⟨.tup [.str [109,97,114,107,101,100],x,.non,l],by subst el; kernel_rfl,by kernel_rfl,.markL (m + 1) true x l hx.tt hle (hl.up m true),by rw [cn_anb,cn2,hl.cn]; exact le90 1 1 (by decide)⟩
    · exact ⟨.tup [.str [109,97,114,107,101,100],a,.non,x],by subst el; kernel_rfl,by kernel_rfl,.markL (m + 1) true a x (ha.up m true) (by rw [ha.lv]; decide) hx.tt,by rw [cn_anb,cn2,ha.cn,Nat.add_comm 1 (cn x)]; exact le90 1 1 (by decide)⟩
  least := fun i => by cases i <;> kernel_rfl }
theorem flat_set (w:Nat) (x:D) : ∀ (bs:List (List D)) (a k:Nat) (b:List D),(∀ c ∈ bs,c.length = w) → bs[a]? = some b → k < w → (bs.set a (b.set k x)).flatten = bs.flatten.set (a * w + k) x
  | [],a,k,b,_,h,_ => by simp at h
  | c :: bs,0,k,b,hw,h,hk => by
    have hc:c = b := by simpa using h
    subst hc
    have hl := hw c List.mem_cons_self
    rw [List.set_cons_zero,List.flatten_cons,List.flatten_cons,Nat.zero_mul,Nat.zero_add,List.set_append_left _ _ (by omega)]
  | c :: bs,a + 1,k,b,hw,h,hk => by
    have hl := hw c List.mem_cons_self
    have ih := flat_set w x bs a k b (fun e he => hw e (List.mem_cons_of_mem _ he)) (by simpa using h) hk
    rw [List.set_cons_succ,List.flatten_cons,List.flatten_cons,ih,Nat.succ_mul,List.set_append_right _ _ (by omega),show a * w + w + k - c.length = a * w + k by omega]
theorem cn_table {n:Nat} {t:Bool} (bs:List (List D)) (h : ∀ b ∈ bs, ∀ p ∈ b,Fm n t p):cn (.tup [.str [116,97,98,108,101],.tup (bs.map .tup)]) = 1 + cnL bs.flatten := by
  rw [cn_ps _ _ (hdS_tups bs),cnL_tupsF bs h]
theorem with_table (bs:List (List D)) (w a k:Nat) (x:D) (b:List D) (h1 : 1 ≤ bs.length) (h9:bs.length ≤ 9) (hw1 : 1 ≤ w) (hw9:w ≤ 9) (hb : ∀ c ∈ bs,c.length = w) (ha:bs[a]? = some b) (hk:k < w) :
    D_law_with [.tup [.str [116,97,98,108,101],.tup (bs.map .tup)],.int ((a * w + k:Nat):Int),x] = some (.tup [.str [116,97,98,108,101],.tup ((bs.set a (b.set k x)).map .tup)]) := by
  have hal:a < bs.length := (List.getElem?_eq_some_iff.mp ha).1
  have hbl:b.length = w := hb b (List.mem_of_getElem? ha)
  obtain ⟨b0,r0,e0⟩ : ∃ b0 r0,bs = b0 :: r0 := by
    match bs,h1 with
    | b0 :: r0,_ => exact ⟨b0,r0,rfl⟩
  have hb0:b0.length = w := hb b0 (by rw [e0]; exact List.mem_cons_self)
  have at0:(bs.map D.tup)[0]? = some (.tup b0) := by rw [e0]; rfl
  have ata:(bs.map D.tup)[a]? = some (.tup b) := by rw [List.getElem?_map,ha]; rfl
  have d1:((a * w + k:Nat):Int) / (w:Int) = (a:Int) := by
    rw [← Int.natCast_ediv,Nat.mul_comm,Nat.mul_add_div hw1,Nat.div_eq_of_lt hk,Nat.add_zero]
  have d2:((a * w + k:Nat):Int) % (w:Int) = (k:Int) := by
    rw [← Int.natCast_emod,Nat.mul_comm,Nat.mul_add_mod,Nat.mod_eq_of_lt hk]
  have g := wt_num a k w bs.length hal h9 hw9 hk
  have c1:cutD b none (some (k:Int)) = b.take k := cut_to b k
  have c2:cutD b (some ((k:Int) + 1)) none = b.drop (k + 1) := by
    have := cut_from b (k + 1)
    rwa [c_suc] at this
  have c3:cutD (bs.map D.tup) none (some (a:Int)) = (bs.map D.tup).take a := cut_to _ a
  have c4:cutD (bs.map D.tup) (some ((a:Int) + 1)) none = (bs.map D.tup).drop (a + 1) := by
    have := cut_from (bs.map D.tup) (a + 1)
    rwa [c_suc] at this
  have e1 := set_parts b k x (hbl.symm ▸ hk)
  have e2 := set_parts (bs.map D.tup) a (.tup (b.set k x)) (by simpa using hal)
  have e3:(bs.map D.tup).set a (.tup (b.set k x)) = (bs.set a (b.set k x)).map D.tup := by rw [List.map_set]
  rw [e3] at e2
  have lb:b.length ≤ 100 := hbl ▸ le_h hw9
  have lB:(bs.map D.tup).length ≤ 100 := (List.length_map (f := D.tup) (as := bs)).symm ▸ le_h h9
  have b1 := takeB b k lb
  have b2 := takeC b k (k + 1) x lb
  have b3 := takeB (bs.map D.tup) a lB
  have b4 := takeC (bs.map D.tup) a (a + 1) (.tup (b.set k x)) lB
  clear lb lB
  generalize ((a * w + k:Nat):Int) = I at *
  generalize (bs.set a (b.set k x)).map D.tup = OUT at *
  generalize b.set k x = BX at *
  generalize (bs.map D.tup).take a = T1 at *
  generalize (bs.map D.tup).drop (a + 1) = T2 at *
  generalize hT3:T1 ++ [D.tup BX] = T3 at *
  generalize b.take k = U1 at *
  generalize b.drop (k + 1) = U2 at *
  generalize hU3:U1 ++ [x] = U3 at *
  generalize bs.map D.tup = BB at *
  simp only [D_law_with,ev_bodyF,F_law_with,envOf]
  have hw0 : 0 < w := hw1
  simp [-List.append_assoc, -List.cons_append,at0,hb0,g,hw0,d1,d2,atI_k,ata,c1,c2,c3,c4,b1,hU3,b2,e1,b3,hT3,b4,e2]
theorem one_table (bs:List (List D)) (w:Nat) (h1 : 1 ≤ bs.length) (h9:bs.length ≤ 9) (hw1 : 1 ≤ w) (hw9:w ≤ 9) (hb : ∀ b ∈ bs,b.length = w) (ha : ∀ b ∈ bs, ∀ p ∈ b,At p):One true (.tup [.str [116,97,98,108,101],.tup (bs.map .tup)]) bs.flatten := by
  have hfl := flat_len w bs hb
  have hml:bs.length * w ≤ 9 * 9 := Nat.mul_le_mul h9 hw9
  have hml1 : 1 * 1 ≤ bs.length * w := Nat.mul_le_mul h1 hw1
  have hco := cells_ok bs (by omega)
  have hat : ∀ p ∈ bs.flatten,At p := fun p hp => by
    obtain ⟨b,hbm,hpb⟩ := List.mem_flatten.mp hp
    exact ha b hbm p hpb
  refine ⟨.table 1 bs w h1 h9 hw1 hw9 hb fun b hbm p hp => (ha b hbm p hp).fm, ?_,parts_table bs (by omega),hat,by omega, ?_, ?_,fun i => by kernel_rfl⟩
  · exact tab_parts bs hco
  · rw [cn_table bs fun b hbm p hp => (ha b hbm p hp).fm,cn_atoms _ hat]; omega
  · intro i x m u hi hx ht _
    have hu:u = false := ht rfl
    subst hu
    have hk:i % w < w := Nat.mod_lt _ (by omega)
    have ei:i / w * w + i % w = i := by rw [Nat.mul_comm]; exact Nat.div_add_mod i w
    have hal:i / w < bs.length := Nat.div_lt_of_lt_mul (by rw [Nat.mul_comm]; omega)
    obtain ⟨b,hbs⟩ : ∃ b,bs[i / w]? = some b := ⟨_,List.getElem?_eq_getElem hal⟩
    have hbm := List.mem_of_getElem? hbs
    obtain ⟨cs,ecs⟩ : ∃ cs,bs.set (i / w) (b.set (i % w) x) = cs := ⟨_,rfl⟩
    have fs := flat_set w x bs (i / w) (i % w) b hb hbs hk
    rw [ei,ecs] at fs
    have lcs:cs.length = bs.length := by rw [← ecs]; simp
    have wcs : ∀ c ∈ cs,c.length = w := fun c hc => by
      rw [← ecs] at hc
      rcases List.mem_or_eq_of_mem_set hc with hc | rfl
      · exact hb c hc
      · rw [List.length_set]; exact hb b hbm
    have fcs : ∀ c ∈ cs, ∀ p ∈ c,Fm (m + 1) false p := fun c hc p hp => by
      rw [← ecs] at hc
      rcases List.mem_or_eq_of_mem_set hc with hc | rfl
      · exact (ha c hc p hp).up m false
      · rcases mem_set hp with hp | rfl
        · exact (ha b hbm p hp).up m false
        · exact hx
    have hch := chunks_flat w cs wcs
    rw [lcs,fs] at hch
    have hba := bands_again_ok bs w (bs.flatten.set i x) h1 h9 hw9 hb
    rw [hch] at hba
    refine ⟨.tup [.str [116,97,98,108,101],.tup (cs.map .tup)],reb_table bs _ _ hba, ?_,.table (m + 1) cs w (by omega) (by omega) hw1 hw9 wcs fcs, ?_⟩
    · have := with_table bs w (i / w) (i % w) x b h1 h9 hw1 hw9 hb hbs hk
      rw [ei,ecs] at this
      exact this
    · rw [cn_table cs fcs,fs]
      have := cn_set (ps := bs.flatten) x i
      rw [cn_atoms _ hat] at this
      omega
theorem atoms_ok (c:Int) : ∀ (n i:Nat),i + n ≤ 100 → ∃ as,runComp (tgName 0) ftYes CE_law_one_1 [.no,.val (.int c)] (rInts (i:Nat) n) = some as ∧ as.length = n ∧ ∀ p ∈ as,At p
  | 0,i,_ => ⟨[],by rw [rInts_zero]; rfl,rfl,by simp⟩
  | n + 1,i,hi => by
    obtain ⟨as,q,hl,ha⟩ := atoms_ok c n (i + 1) (by omega)
    obtain ⟨p,hp,ap⟩ := atom_ok (c + 31 * (i:Int) * (i:Int))
    have m1 := mulD_left 31 (i:Int) (by decide)
    have m2 := mulD_right (31 * (i:Int)) (i:Int) (by omega)
    refine ⟨p :: as, ?_,by simp [hl],all_cons ap ha⟩
    rw [rInts_succ]
    exact runComp_t (e := [.val (.int (i:Nat)),.val (.int c)]) (by simp) rfl (by simp [CE_law_one_1,m1,m2,hp]) q
theorem sgn_ok (r:Int) : ∃ x:Nat,atI [43,45] (r % 2) = some x ∧ (x = 43 ∨ x = 45) := by
  have:r % 2 = 0 ∨ r % 2 = 1 := by omega
  rcases this with h | h <;> rw [h]
  · exact ⟨43,rfl,.inl rfl⟩
  · exact ⟨45,rfl,.inr rfl⟩
theorem sgns_ok (c:Int) : ∀ (n i:Nat),i + n ≤ 100 → ∃ z:List Nat,runComp (tgName 0) ftYes CE_law_one_2 [.no,.val (.int c)] (rInts (i:Nat) n) = some ((z.map fun x => [x]).map .str) ∧ z.length = n ∧ ∀ x ∈ z,x = 43 ∨ x = 45
  | 0,i,_ => ⟨[],by rw [rInts_zero]; rfl,rfl,by simp⟩
  | n + 1,i,hi => by
    obtain ⟨z,q,hl,hz⟩ := sgns_ok c n (i + 1) (by omega)
    obtain ⟨x,ex,hx⟩ := sgn_ok ((c + (i:Int) * (i:Int)) / 3)
    have m1 := mulD_right (i:Int) (i:Int) (by omega)
    refine ⟨x :: z, ?_,by simp [hl],fun y hy => ?_⟩
    · rw [rInts_succ]
      exact runComp_t (e := [.val (.int (i:Nat)),.val (.int c)]) (by simp) rfl (by simp [CE_law_one_2,m1,fdivI,modI,ex]) q
    · rcases List.mem_cons.mp hy with rfl | hy
      · exact hx
      · exact hz y hy
theorem join_ones : ∀ z:List Nat,joinL [] (z.map fun x => [x]) = z
  | [] => rfl
  | [x] => rfl
  | x :: y :: r => by
    have ih := join_ones (y :: r)
    rw [List.map_cons] at ih
    rw [List.map_cons,List.map_cons,joinL,ih]
    · simp
    · simp
theorem bands_comp (qs:List D) (w:Nat) (hw:w ≤ 9) : ∀ (r i:Nat),i + r ≤ 9 → runComp (tgName 0) ftYes CE_law_one_3 [.no,.val (.lst qs),.val (.int w)] (rInts i r) = some ((chunks w r (qs.drop (i * w))).map .tup)
  | 0,i,_ => rfl
  | r + 1,i,hi => by
    have ih := bands_comp qs w hw r (i + 1) (by omega)
    have m1 := mulD_right (i:Int) (w:Int) (by omega)
    have e1:(i:Int) * (w:Int) = ((i * w:Nat):Int) := by simp
    have e2:((i * w:Nat):Int) + (w:Int) = ((i * w + w:Nat):Int) := by omega
    rw [e1] at m1
    have hc := cut_nat qs (i * w) (i * w + w)
    rw [show i * w + w - i * w = w by omega] at hc
    have e3:qs.drop ((i + 1) * w) = (qs.drop (i * w)).drop w := by rw [List.drop_drop,Nat.succ_mul]
    rw [rInts_succ]
    show runComp _ _ _ _ (D.int (i:Nat) :: rInts ((i:Int) + 1) r) = some (.tup ((qs.drop (i * w)).take w) :: (chunks w r ((qs.drop (i * w)).drop w)).map .tup)
    rw [← e3]
    exact runComp_t (e := [.val (.int (i:Nat)),.val (.lst qs),.val (.int w)]) (by simp) rfl (by simp only [CE_law_one_3]; simp only [ev_fp1,ev_feSl,ev_feName,ev_foSome,ev_fp2,ev_feC,List.getElem?_cons_zero,List.getElem?_cons_succ,slotV_val,obind_some,ev_intO,ev_addD_int,ev_slD_lst,m1,e2,hc,ev_toTD_lst]) ih
theorem chunks_w (w:Nat) : ∀ (r:Nat) (ps:List D),r * w ≤ ps.length → ∀ b ∈ chunks w r ps,b.length = w
  | 0,_,_,b,hb => by simp [chunks] at hb
  | r + 1,ps,h,b,hb => by
    rw [Nat.succ_mul] at h
    rcases List.mem_cons.mp (show b ∈ ps.take w :: chunks w r (ps.drop w) from hb) with rfl | hb
    · simp; omega
    · exact chunks_w w r (ps.drop w) (by simp; omega) b hb
theorem chunks_mem (w:Nat) : ∀ (r:Nat) (ps:List D), ∀ b ∈ chunks w r ps, ∀ p ∈ b,p ∈ ps
  | 0,_,b,hb,_,_ => by simp [chunks] at hb
  | r + 1,ps,b,hb,p,hp => by
    rcases List.mem_cons.mp (show b ∈ ps.take w :: chunks w r (ps.drop w) from hb) with rfl | hb
    · exact List.mem_of_mem_take hp
    · exact List.mem_of_mem_drop (chunks_mem w r (ps.drop w) b hb p hp)
theorem at3L (x y z:D) (j:Int) (h0 : 0 ≤ j) (h3:j < 3):atI [x,y,z] j = some (if j = 0 then x else if j = 1 then y else z) := by
  have:j = 0 ∨ j = 1 ∨ j = 2 := by omega
  rcases this with rfl | rfl | rfl <;> rfl
theorem rlen (n:Nat) (h:n ≤ 1000):(rInts 0 n).length ≤ 1000000 := by unfold rInts; simp only [List.length_map,List.length_range]; omega
theorem sum_ones : ∀ z:List Nat,((z.map fun x => [x]).map List.length).sum = z.length
  | [] => rfl
  | x :: z => by
    have := sum_ones z
    rw [List.map_cons,List.map_cons,List.sum_cons,this,List.length_cons]; simp; omega
def P_law (R:FS):FS := (fsSeq (fsSet 1 (fp2 (intD modI) (feCall 2 D_law_cell_at (faCons (feName 0) (faCons (feC (.int 0)) faNil))) (feC (.int 8)))) (fsSeq (fsSet 2 (feCall 3 D_law_one (faCons (feName 1) (faCons (fp2 (intD modI) (feCall 2 D_law_cell_at (faCons (feName 0) (faCons (feC (.int 1)) faNil))) (feC (.int 711))) (faCons (feCall 2 D_law_cell_at (faCons (feName 0) (faCons (feC (.int 2)) faNil))) faNil))))) (fsSeq (fsSet 3 (fp2 (intD modI) (feCall 2 D_law_cell_at (faCons (feName 0) (faCons (feC (.int 3)) faNil))) (feC (.int 10)))) (fsSeq (fsSet 4 (feCall 1 D_law_atom (faCons (feCall 2 D_law_cell_at (faCons (feName 0) (faCons (feC (.int 5)) faNil))) faNil))) (fsSeq (fsIf (ftAnd (ftB (fp2 (intD ltI) (feName 3) (feC (.int 8)))) (ftNot (ftAnd (ftB (fp2 (eqF false) (feName 3) (feC (.int 7)))) (ftB (fp2 (eqF false) (feName 1) (feC (.int 7))))))) (fsSet 4 (feCall 3 D_law_one (faCons (feName 3) (faCons (fp2 (intD modI) (feCall 2 D_law_cell_at (faCons (feName 0) (faCons (feC (.int 4)) faNil))) (feC (.int 711))) (faCons (feCall 2 D_law_cell_at (faCons (feName 0) (faCons (feC (.int 5)) faNil))) faNil))))) fsNext) R)))))
def R_law:FS := (fsSeq (fsSet 5 (fp1 lenD (feCall 1 D_law_parts (faCons (feName 2) faNil)))) (fsSeq (fsSet 6 (fp2 (intD modI) (feCall 2 D_law_cell_at (faCons (feName 0) (faCons (feC (.int 6)) faNil))) (feName 5))) (fsSeq (fsSet 7 (feC (.dct [[101,118,101,110],[115,117,109],[116,105,109,101,115],[111,118,101,114],[114,111,111,116],[109,97,114,107,101,100]] [.int 0,.int 1,.int 2,.int 3,.int 3,.int 3]))) (fsSeq (fsSet 8 (feName 4)) (fsSeq (fsIf (ftB (fp2 (intD ltI) (fp3 dctGet (feName 7) (fp2 ixD (feName 4) (feC (.int 0))) (feC (.int 4))) (feCall 2 D_law_least (faCons (feName 2) (faCons (feName 6) faNil))))) (fsSet 8 (feTup (faCons (feC (.str [104,101,108,100])) (faCons (feName 4) faNil)))) fsNext) (fsSeq (fsSet 8 (feCall 3 D_law_with (faCons (feName 2) (faCons (feName 6) (faCons (feName 8) faNil))))) (fsSeq (fsSet 9 (fp2 (intD modI) (feCall 2 D_law_cell_at (faCons (feName 0) (faCons (feC (.int 6)) faNil))) (feC (.int 999999000)))) (fsSeq (fsFor (tgName 10) (feFr (ffLst (faCons (feTup (faCons (feName 6) (faCons (feName 9) faNil))) (faCons (feTup (faCons (fp2 addD (feName 5) (feName 9)) faNil)) (faCons (feTup (faCons (fp2 (intD subI) (fp1 negD (feC (.int 1))) (feName 9)) faNil)) (faCons (feTup (faCons (fp2 (intD subI) (fp1 negD (feC (.int 1))) (feName 6)) faNil)) (faCons (feTup (faCons (feName 6) (faCons (feName 6) (faCons (feName 6) faNil)))) faNil))))))) LB_law_1) (fsSeq (fsSet 11 (feCall 3 D_put_in (faCons (feName 2) (faCons (feTup (faCons (feName 6) faNil)) (faCons (feName 4) faNil))))) (fsSeq (fsSet 12 (feCall 3 D_put_in (faCons (feName 2) (faCons (feTup faNil) (faCons (feName 4) faNil))))) (fsSeq (fsIf (ftOr (ftNot (ftB (fp1 (instD .tuple) (feName 11)))) (ftOr (ftB (fp2 (eqF true) (feName 11) (feName 8))) (ftOr (ftNot (ftB (fp1 (instD .tuple) (feName 12)))) (ftB (fp2 (eqF true) (feName 12) (feName 4)))))) (fsRet (feC (.bl false))) fsNext) (fsRet (fp2 (eqF false) (feCall 3 D_put_in (faCons (feName 2) (faCons (feTup (faCons (feName 6) faNil)) (faCons (feName 4) faNil)))) (feName 8))))))))))))))
theorem law_cut:F_law = P_law R_law := by kernel_rfl
def P_one (R:FS):FS := (fsSeq (fsSet 3 (feFr (ffCompR rng1 1 [2] (tgName 0) (faCons (feC (.int 81)) faNil) ftYes CE_law_one_1))) (fsSeq (fsSet 4 (feFr (ffLst (faCons (feC (.str [101,118,101,110])) (faCons (feC (.str [116,105,109,101,115])) (faCons (feC (.str [115,117,109])) (faCons (feC (.str [111,118,101,114])) (faCons (feC (.str [114,111,111,116])) (faCons (feC (.str [104,101,108,100])) (faCons (feC (.str [109,97,114,107,101,100])) (faCons (feC (.str [116,97,98,108,101])) faNil))))))))))) R))
def R_one:FS := (fsSeq (fsIf (ftB (fp2 (intD ltI) (feName 0) (feC (.int 2)))) (fsRet (feTup (faCons (fp2 ixD (feName 4) (feName 0)) (faCons (fp1 toTD (feSl slD (feName 3) foNone (foSome (fp2 addD (feC (.int 2)) (fp2 (intD modI) (feName 1) (feC (.int 79))))))) faNil)))) fsNext) (fsSeq (fsIf (ftB (fp2 (eqF false) (feName 0) (feC (.int 2)))) (fsSeq (fsSet 5 (fp2 addD (feC (.int 2)) (fp2 (intD modI) (feName 1) (feC (.int 79))))) (fsSeq (fsSet 6 (fp2 joinE (feC (.str [])) (feFr (ffCompR rng1 1 [2] (tgName 0) (faCons (fp2 (intD subI) (feName 5) (feC (.int 1))) faNil) ftYes CE_law_one_2)))) (fsRet (feTup (faCons (feC (.str [115,117,109])) (faCons (fp1 toTD (feSl slD (feName 3) foNone (foSome (feName 5)))) (faCons (feName 6) faNil))))))) fsNext) (fsSeq (fsIf (ftB (fp2 (eqF false) (feName 0) (feC (.int 3)))) (fsRet (feTup (faCons (feC (.str [111,118,101,114])) (faCons (fp2 ixD (feName 3) (feC (.int 0))) (faCons (fp2 ixD (feName 3) (feC (.int 1))) faNil))))) fsNext) (fsSeq (fsIf (ftB (fp2 (intD ltI) (feName 0) (feC (.int 6)))) (fsRet (feTup (faCons (fp2 ixD (feName 4) (feName 0)) (faCons (fp2 ixD (feName 3) (feC (.int 0))) faNil)))) fsNext) (fsSeq (fsIf (ftB (fp2 (eqF false) (feName 0) (feC (.int 6)))) (fsSeq (fsSet 7 (fp2 ixD (feFr (ffLst (faCons (fp2 ixD (feName 3) (feC (.int 1))) (faCons (feC .non) (faCons (fp2 ixD (feName 3) (feC (.int 1))) faNil))))) (fp2 (intD modI) (feName 1) (feC (.int 3))))) (fsRet (feTup (faCons (feC (.str [109,97,114,107,101,100])) (faCons (fp2 ixD (feName 3) (feC (.int 0))) (faCons (feName 7) (faCons (fp2 ixD (feFr (ffLst (faCons (feC .non) (faCons (fp2 ixD (feName 3) (feC (.int 2))) (faCons (fp2 ixD (feName 3) (feC (.int 2))) faNil))))) (fp2 (intD modI) (feName 1) (feC (.int 3)))) faNil))))))) fsNext) (fsSeq (fsSet 8 (fp2 addD (feC (.int 1)) (fp2 (intD modI) (fp2 (intD fdivI) (feName 1) (feC (.int 9))) (feC (.int 9))))) (fsSeq (fsSet 9 (feFr (ffCompR rng1 1 [3,8] (tgName 0) (faCons (fp2 addD (feC (.int 1)) (fp2 (intD modI) (feName 1) (feC (.int 9)))) faNil) ftYes CE_law_one_3))) (fsRet (feTup (faCons (feC (.str [116,97,98,108,101])) (faCons (fp1 toTD (feName 9)) faNil)))))))))))
theorem one_cut:F_law_one = P_one R_one := by kernel_rfl
theorem one_run (w size c:Int) (as RR:List D) (hr:rng1 [.int 81] = some RR) (hrl:RR.length ≤ 1000000) (qa:runComp (tgName 0) ftYes CE_law_one_1 [.no,.val (.int c)] RR = some as):D_law_one [.int w,.int size,.int c] = obind (R_one [.val (.int w),.val (.int size),.val (.int c),.val (.lst as),.val (.lst [.str [101,118,101,110],.str [116,105,109,101,115],.str [115,117,109],.str [111,118,101,114],.str [114,111,111,116],.str [104,101,108,100],.str [109,97,114,107,101,100],.str [116,97,98,108,101]]),.no,.no,.no,.no,.no]) retK := by
  have hcap : ∀ a b c d e f g h i j:Slot,capE 1 [2] [a,b,c,d,e,f,g,h,i,j] = [.no,c] := fun _ _ _ _ _ _ _ _ _ _ => rfl
  rw [D_law_one,ev_bodyF,one_cut]
  generalize R_one = R
  simp only [P_one,envOf]
  simp [hr,hrl,hcap,qa]
theorem take_len (as:List D) (n:Nat) (h:n ≤ as.length):(as.take n).length = n := by rw [List.length_take]; exact Nat.min_eq_left h
theorem p1 {m l:Nat} (h:l = 2 + m) : 2 ≤ l := h ▸ Nat.le_add_right 2 m
theorem p2 {m l:Nat} (h:l = 2 + m) (hm:m < 79):l ≤ 80 := by omega
theorem p3 {m:Nat} (hm:m < 79) : 0 + (m + 1) ≤ 100 := by omega
theorem p5 {m:Nat} (hm:m < 79):m + 1 ≤ 1000 := by omega
theorem p6 {m z l:Nat} (h:l = 2 + m) (hz:z = m + 1):z + 1 = l := by omega
theorem p7 {m:Nat} (hm:m < 79) : 2 + m ≤ 81 := by omega
theorem u1 {u:Nat} (h:u < 9) : 1 + u ≤ 9 := by omega
theorem u2 {u:Nat} (h:u < 9) : 0 + (1 + u) ≤ 9 := by omega
theorem u3 {u:Nat} (h:u < 9) : 1 + u ≤ 1000 := by omega
theorem u4 (v:Nat) : 1 + (v:Int) = ((1 + v:Nat):Int) := by omega
theorem eight {w:Nat} (h:w < 8):w = 0 ∨ w = 1 ∨ w = 2 ∨ w = 3 ∨ w = 4 ∨ w = 5 ∨ w = 6 ∨ w = 7 := by omega
theorem three (s:Int):s % 3 = 0 ∨ s % 3 = 1 ∨ s % 3 = 2 := by omega
theorem c_two (m:Nat):((2 + m:Nat):Int) = 2 + (m:Int) := by omega
theorem one_ok (w:Nat) (hw:w < 8) (size c:Int) : ∃ f ps,D_law_one [.int w,.int size,.int c] = some f ∧ One (w == 7) f ps := by
  obtain ⟨as,qa,la,haa⟩ := atoms_ok c 81 0 (by decide)
  have qa:runComp (tgName 0) ftYes CE_law_one_1 [.no,.val (.int c)] (rInts 0 81) = some as := qa
  have hr:rng1 [.int 81] = some (rInts 0 81) := rng1_ok (n := 81) rfl (by omega)
  have hrl := rlen 81 (by decide)
  have hcap : ∀ a b c d e f g h i j:Slot,capE 1 [2] [a,b,c,d,e,f,g,h,i,j] = [.no,c] := fun _ _ _ _ _ _ _ _ _ _ => rfl
  have hcap3 : ∀ a b c d e f g h i j:Slot,capE 1 [3,8] [a,b,c,d,e,f,g,h,i,j] = [.no,d,i] := fun _ _ _ _ _ _ _ _ _ _ => rfl
  obtain ⟨a0,a1,a2,ar,ea⟩ : ∃ a0 a1 a2 ar,as = a0 :: a1 :: a2 :: ar := by
    match as,la with
    | a0 :: a1 :: a2 :: ar,_ => exact ⟨a0,a1,a2,ar,rfl⟩
  have A0:At a0 := haa a0 (by rw [ea]; simp)
  have A1:At a1 := haa a1 (by rw [ea]; simp)
  have A2:At a2 := haa a2 (by rw [ea]; simp)
  have g0:as[0]? = some a0 := by rw [ea]; rfl
  have g1:as[1]? = some a1 := by rw [ea]; rfl
  have g2:as[2]? = some a2 := by rw [ea]; rfl
  obtain ⟨m,em,hm⟩ := mod_in size 79 (by decide)
  have em:size % 79 = (m:Int) := em
  have cm:cutD as none (some (2 + (m:Int))) = as.take (2 + m) := by
    have := cut_to as (2 + m)
    rwa [c_two] at this
  have lt:(as.take (2 + m)).length = 2 + m := take_len as _ (la.symm ▸ p7 hm)
  have hta : ∀ p ∈ as.take (2 + m),At p := fun p hp => haa p (List.mem_of_mem_take hp)
  generalize rInts 0 81 = RR at qa hr hrl
  have run := one_run (w:Int) size c as RR hr hrl qa
  clear qa hr hrl hcap RR
  have cases8 := eight hw
  rcases cases8 with rfl | rfl | rfl | rfl | rfl | rfl | rfl | rfl
  · refine ⟨_,_, ?_,one_even (as.take (2 + m)) hta (p1 lt) (p2 lt hm)⟩
    rw [← cm, ← em]; exact run.trans (by kernel_rfl)
  · refine ⟨_,_, ?_,one_times (as.take (2 + m)) hta (p1 lt) (p2 lt hm)⟩
    rw [← cm, ← em]; exact run.trans (by kernel_rfl)
  · obtain ⟨z,qz,lz,hz⟩ := sgns_ok c (m + 1) 0 (p3 hm)
    have hr2:rng1 [.int (2 + (m:Int) - 1)] = some (rInts 0 (m + 1)) := rng1_ok (n := m + 1) (by omega) (by omega)
    have hrl2 := rlen (m + 1) (p5 hm)
    have qz:runComp (tgName 0) ftYes CE_law_one_2 [.no,.val (.int c)] (rInts 0 (m + 1)) = some ((z.map fun x => [x]).map .str) := qz
    have hj:joinE (.str []) (.lst ((z.map fun x => [x]).map .str)) = some (.str z) := by
      rw [ev_joinE,strsOf_map,obind_some,join_ones,if_pos]
      have := sum_ones z
      rw [this]
      simp; omega
    refine ⟨_,_, ?_,one_sum (as.take (2 + m)) z hta (p1 lt) (p2 lt hm) (p6 lt lz) hz⟩
    generalize rInts 0 (m + 1) = RR2 at qz hr2 hrl2
    generalize (z.map fun x => [x]).map D.str = ZZ at qz hj
    refine run.trans ?_
    have hcap : ∀ a b c d e f g h i j:Slot,capE 1 [2] [a,b,c,d,e,f,g,h,i,j] = [.no,c] := fun _ _ _ _ _ _ _ _ _ _ => rfl
    simp [R_one,hcap,modI,em,cm,hr2,hrl2,qz,hj]
  · refine ⟨_,_, ?_,one_over a0 a1 A0 A1⟩
    refine run.trans ?_; clear ea; simp [R_one,g0,g1]
  · refine ⟨_,_, ?_,one_root a0 A0⟩
    refine run.trans ?_; clear ea; simp [R_one,g0,at4]
  · refine ⟨_,_, ?_,one_held a0 A0⟩
    refine run.trans ?_; clear ea; simp [R_one,g0,at5]
  · have j0 : 0 ≤ size % 3 := Int.emod_nonneg _ (by decide)
    have j3:size % 3 < 3 := Int.emod_lt_of_pos _ (by decide)
    have q1 := at3L a1 .non a1 (size % 3) j0 j3
    have q2 := at3L .non a2 a2 (size % 3) j0 j3
    have := three size
    rcases this with e | e | e
    · refine ⟨_,_, ?_,one_markR a0 a1 A0 A1⟩
      refine run.trans ?_; clear ea; simp [R_one,g0,g1,g2,modI,e]
    · refine ⟨_,_, ?_,one_markL a0 a2 A0 A2⟩
      refine run.trans ?_; clear ea; simp [R_one,g0,g1,g2,modI,e]
    · refine ⟨_,_, ?_,one_markB a0 a1 a2 A0 A1 A2⟩
      refine run.trans ?_; clear ea; simp [R_one,g0,g1,g2,modI,e]
  · obtain ⟨u,eu,hu⟩ := mod_in (size / 9) 9 (by decide)
    have eu:size / 9 % 9 = (u:Int) := eu
    obtain ⟨v,ev,hv⟩ := mod_in size 9 (by decide)
    have ev:size % 9 = (v:Int) := ev
    have hb := bands_comp as (1 + u) (u1 hu) (1 + v) 0 (u2 hv)
    have hb:runComp (tgName 0) ftYes CE_law_one_3 [.no,.val (.lst as),.val (.int (1 + (u:Int)))] (rInts 0 (1 + v)) = some ((chunks (1 + u) (1 + v) as).map .tup) := by
      simpa using hb
    have hr2:rng1 [.int (1 + (v:Int))] = some (rInts 0 (1 + v)) := rng1_ok (n := 1 + v) (by omega) (by omega)
    have hrl2 := rlen (1 + v) (u3 hv)
    have hmul:(1 + v) * (1 + u) ≤ 9 * 9 := Nat.mul_le_mul (u1 hv) (u1 hu)
    have lc := chunks_len (1 + u) (1 + v) as
    refine ⟨_,_, ?_,one_table (chunks (1 + u) (1 + v) as) (1 + u) (lc.symm ▸ Nat.le_add_right 1 v) (lc.symm ▸ u1 hv) (Nat.le_add_right 1 u) (u1 hu) (chunks_w _ _ _ (la.symm ▸ hmul)) fun b hb p hp => haa p (chunks_mem _ _ _ b hb p hp)⟩
    generalize rInts 0 (1 + v) = RR2 at hb hr2 hrl2
    generalize (chunks (1 + u) (1 + v) as).map D.tup = OUT at *
    refine run.trans ?_
    simp [R_one,hcap3,modI,fdivI,eu,ev,hr2,hrl2,hb]
theorem One.step {t:Bool} {d:D} {ps:List D} (h:One t d ps) {k:Nat} {p:D} (hk:ps[k]? = some p) (a b s4:Slot):LB_part_of_1 [a,b,.val d,.val (.int k),s4] = some (.nx [a,b,.val p,.val (.int k),.val (.lst ps)]) := by
  have hl:k < ps.length := (List.getElem?_eq_some_iff.mp hk).1
  have h1:((k:Int) < (ps.length:Nat)) := by omega
  simp [LB_part_of_1,h.b,atI_k,hk,h1]
theorem bad_step {d:D} {ps:List D} (h:D_parts_of [d] = some ps) {i:Int} (hi : ¬ (0 ≤ i ∧ i < (ps.length:Nat))) (a b s4:Slot):LB_part_of_1 [a,b,.val d,.val (.int i),s4] = some (.ex 2 [a,b,.val d,.val (.int i),.val (.lst ps)]) := by
  by_cases h0 : 0 ≤ i
  · have h1 : ¬ (i < (ps.length:Nat)) := fun z => hi ⟨h0,z⟩
    simp [LB_part_of_1,h,h0,h1]
  · simp [LB_part_of_1,h,h0]
theorem bad_run {d:D} {ps:List D} (h:D_parts_of [d] = some ps) {i:Int} (hi : ¬ (0 ≤ i ∧ i < (ps.length:Nat))) (a b s3 s4:Slot) (rest:List D):runFor (tgName 3) LB_part_of_1 (.int i :: rest) [a,b,.val d,s3,s4] = some (.ex 2 [a,b,.val d,.val (.int i),.val (.lst ps)]) := by
  have z := bad_step h hi a b s4
  rw [ev_runFor_cons]
  simp [z]
theorem no_one {t:Bool} {d:D} {ps:List D} (h:One t d ps) {i:Int} (hi : ¬ (0 ≤ i ∧ i < (ps.length:Nat))):D_part_of [d,.tup [.int i]] = none ∧ X_part_of [d,.tup [.int i]] = some 2 := by
  have q := bad_run h.b hi (.val d) (.val (.tup [.int i])) .no .no []
  generalize [D.int i] = P at q
  refine ⟨?_, ?_⟩
  · simp only [D_part_of,ev_bodyF,F_part_of,envOf]
    simp [q]
  · simp only [X_part_of,ev_bodyX,F_part_of,envOf]
    simp [q]
theorem no_two {t:Bool} {d:D} {ps:List D} (h:One t d ps) {k:Nat} (hk:k < ps.length) (i:Int) (rest:List D):D_part_of [d,.tup (.int k :: .int i :: rest)] = none ∧ X_part_of [d,.tup (.int k :: .int i :: rest)] = some 2 := by
  have hg:ps[k]? = some ps[k] := List.getElem?_eq_getElem hk
  have ha := h.ats ps[k] (List.mem_of_getElem? hg)
  have q:runFor (tgName 3) LB_part_of_1 (.int k :: .int i :: rest) [.val d,.val (.tup (.int k :: .int i :: rest)),.val d,.no,.no] = some (.ex 2 [.val d,.val (.tup (.int k :: .int i :: rest)),.val ps[k],.val (.int i),.val (.lst [])]) := by
    rw [runFor_nx (by simp) (h.step hg (.val d) (.val (.tup (.int k :: .int i :: rest))) .no)]
    exact bad_run ha.b (fun z => by simp at z; omega) _ _ _ _ rest
  generalize .int (k:Int) :: .int i :: rest = P at q
  generalize ps[k] = pk at q
  refine ⟨?_, ?_⟩
  · simp only [D_part_of,ev_bodyF,F_part_of,envOf]
    simp [q]
  · simp only [X_part_of,ev_bodyX,F_part_of,envOf]
    simp [q]
theorem put_no {d P g:D} (h:D_part_of [d,P] = none ∧ X_part_of [d,P] = some 2):D_law_refused [d,P,g] = some (.bl true) := by
  have a:D_put_in [d,P,g] = none := by
    simp only [D_put_in,ev_bodyF,F_put_in,envOf]
    simp [ev_fsCallX,h.1,h.2]
  have b:X_put_in [d,P,g] = some 2 := by
    simp only [X_put_in,ev_bodyX,F_put_in,envOf]
    simp [ev_fsCallX,h.1,h.2]
  simp only [D_law_refused,ev_bodyF,F_law_refused,envOf]
  simp [ev_fsTry,a,b,tryK_ex]
theorem part_yes {t:Bool} {d:D} {ps:List D} (h:One t d ps) {k:Nat} (hk:k < ps.length) : ∃ p,D_part_of [d,.tup [.int k]] = some p := by
  have hg:ps[k]? = some ps[k] := List.getElem?_eq_getElem hk
  have q:runFor (tgName 3) LB_part_of_1 [.int k] [.val d,.val (.tup [.int k]),.val d,.no,.no] = some (.nx [.val d,.val (.tup [.int k]),.val ps[k],.val (.int k),.val (.lst ps)]) := by
    rw [runFor_nx (by simp) (h.step hg (.val d) (.val (.tup [.int k])) .no)]
    rfl
  refine ⟨ps[k], ?_⟩
  generalize ps[k] = pk at q
  generalize [D.int (k:Int)] = P at q
  simp only [D_part_of,ev_bodyF,F_part_of,envOf]
  simp [q]
theorem let_ok {n:Nat} {t:Bool} {d:D} (h:Fm n t d) (hn:n ≤ 12) (hc:cn d ≤ 300):D_let_by [d] = some d := by
  have := formula_true h hn hc
  simp only [D_let_by,ev_bodyF,F_let_by,envOf]
  simp [this]
noncomputable def dueX (f g:D) (k:Nat):D := if lev g < leastL f k then .tup [.str [104,101,108,100],g] else g
theorem fit_ok {t u:Bool} {f g:D} {ps:List D} (hf:One t f ps) (hg:Fm 2 u g) (k:Nat):D_fitting [f,.int k,g] = some (dueX f g k) := by
  have l1 := level_ok hg
  have l2 := least_ok hf.fm k
  simp only [D_fitting,ev_bodyF,F_fitting,envOf]
  by_cases h:lev g < leastL f k
  · have h' : ¬ lev g ≥ leastL f k := by omega
    simp [l1,l2,h',dueX,h]
  · have h':lev g ≥ leastL f k := by omega
    simp [l1,l2,h',dueX,h]
theorem least_le (f:D) (k:Nat):leastL f k ≤ 4 := by
  unfold leastL
  split
  · repeat' split
    all_goals omega
  · omega
theorem due_fm {u:Bool} {f g:D} (hg:Fm 2 u g) (k:Nat):Fm 3 u (dueX f g k) ∧ leastL f k ≤ lev (dueX f g k) ∧ cn (dueX f g k) ≤ 1 + cn g := by
  unfold dueX
  split
  · refine ⟨.held 2 u g hg, ?_, ?_⟩
    · exact least_le f k
    · simp only [cn_tup,cnL_cons,cnL_nil,cn_str,hdS_str]; omega
  · exact ⟨hg.up,by omega,by omega⟩
theorem with_one {t u:Bool} {f g:D} {ps:List D} (hf:One t f ps) (hg:Fm 2 u g) (htu:t = true → u = false) {k:Nat} (hk:k < ps.length) (hc:cn g ≤ 90) :
    ∃ d',D_with_part [f,.tup [.int k],g] = some d' ∧ D_law_with [f,.int k,dueX f g k] = some d' ∧ Fm 4 true d' ∧ cn d' ≤ 300 := by
  obtain ⟨x1,x2,x3⟩ := due_fm (f := f) hg k
  obtain ⟨d',r1,r2,r3,r4⟩ := hf.w k (dueX f g k) 2 u hk x1 htu x2
  refine ⟨d', ?_,r2,r3,by omega⟩
  have hfit := fit_ok hf hg k
  generalize dueX f g k = X at *
  have e1:eqN 100 (.tup [.int (k:Int)]) (.tup []) = some false := by rfl
  show bodyF 5 (F_with_part (DN_with_part 15)) _ = _
  generalize DN_with_part 15 = DN
  simp only [ev_bodyF,F_with_part,envOf]
  simp [e1,hf.b,hfit,setI_k,hk,r1]
theorem put_one {t u:Bool} {f g:D} {ps:List D} (hf:One t f ps) (hg:Fm 2 u g) (htu:t = true → u = false) {k:Nat} (hk:k < ps.length) (hc:cn g ≤ 90) :
    ∃ d',D_put_in [f,.tup [.int k],g] = some d' ∧ D_law_with [f,.int k,dueX f g k] = some d' ∧ Fm 4 true d' := by
  obtain ⟨d',r1,r2,r3,r4⟩ := with_one hf hg htu hk hc
  obtain ⟨p,hp⟩ := part_yes hf hk
  have hl := let_ok r3 (by omega) r4
  refine ⟨d', ?_,r2,r3⟩
  generalize [D.int (k:Int)] = P at *
  simp only [D_put_in,ev_bodyF,F_put_in,envOf]
  simp [ev_fsCallX,hp,r1,hl,kDrop,kRet]
theorem put_whole {u:Bool} {f g:D} (hg:Fm 2 u g) (hc:cn g ≤ 90):D_put_in [f,.tup [],g] = some g := by
  have hl := let_ok hg (by omega) (by omega)
  have hp:D_part_of [f,.tup []] = some f := by
    simp only [D_part_of,ev_bodyF,F_part_of,envOf]
    simp
  have e1:eqN 100 (.tup []) (.tup []) = some true := by rfl
  have hw:D_with_part [f,.tup [],g] = some g := by
    show bodyF 5 (F_with_part (DN_with_part 15)) _ = _
    generalize DN_with_part 15 = DN
    simp only [ev_bodyF,F_with_part,envOf]
    simp [e1]
  simp only [D_put_in,ev_bodyF,F_put_in,envOf]
  simp [ev_fsCallX,hp,hw,hl,kDrop,kRet]
theorem cell_ok (ns:List Int) (k:Nat) : ∃ c,D_law_cell_at [.lst (ns.map .int),.int k] = some (.int c) := by
  by_cases h:k < ns.length
  · have h':(k:Int) < (ns.length:Int) := by omega
    refine ⟨ns[k], ?_⟩
    simp [D_law_cell_at,ev_bodyF,F_law_cell_at,envOf,h',atI_k,h]
  · have h' : ¬ (k:Int) < (ns.length:Int) := by omega
    exact ⟨0,by simp [D_law_cell_at,ev_bodyF,F_law_cell_at,envOf,h']⟩
theorem lev_get {n:Nat} {t:Bool} {d:D} (h:Fm n t d) : ∃ (k:List Nat) (r:List D),d = .tup (.str k :: r) ∧ dctGet (.dct [[101,118,101,110],[115,117,109],[116,105,109,101,115],[111,118,101,114],[114,111,111,116],[109,97,114,107,101,100]] [.int 0,.int 1,.int 2,.int 3,.int 3,.int 3]) (.str k) (.int 4) = some (.int (lev d)) := by
  cases h <;> exact ⟨_,_,rfl,rfl⟩
theorem law_loop (f g:D) (a0 a1 a3 a5 a6 a7 a8 a9 a11 a12:Slot) : ∀ (Ps:List D) (s:Slot),(∀ P ∈ Ps,D_law_refused [f,P,g] = some (.bl true)) → ∃ t,runFor (tgName 10) LB_law_1 Ps [a0,a1,.val f,a3,.val g,a5,a6,a7,a8,a9,s,a11,a12] = some (.nx [a0,a1,.val f,a3,.val g,a5,a6,a7,a8,a9,t,a11,a12])
  | [],s,_ => ⟨s,rfl⟩
  | P :: Ps,s,h => by
    obtain ⟨t,q⟩ := law_loop f g a0 a1 a3 a5 a6 a7 a8 a9 a11 a12 Ps (.val P) fun Q hQ => h Q (List.mem_cons_of_mem _ hQ)
    have hP := h P List.mem_cons_self
    refine ⟨t, ?_⟩
    rw [runFor_nx (e1 := [a0,a1,.val f,a3,.val g,a5,a6,a7,a8,a9,.val P,a11,a12]) (e2 := [a0,a1,.val f,a3,.val g,a5,a6,a7,a8,a9,.val P,a11,a12]) (by simp) (by simp [LB_law_1,hP])]
    exact q
theorem refused_all {t:Bool} {f:D} {ps:List D} (hf:One t f ps) (g:D) {k:Nat} (hk:k < ps.length) (far:Int) (hfar : 0 ≤ far) : ∀ P ∈ [D.tup [.int k,.int far],.tup [.int ((ps.length:Nat) + far)],.tup [.int (-1 - far)],.tup [.int (-1 - (k:Int))],.tup [.int k,.int k,.int k]],D_law_refused [f,P,g] = some (.bl true) :=
  all_cons (put_no (no_two hf hk far [])) (all_cons (put_no (no_one hf (by omega))) (all_cons (put_no (no_one hf (by omega))) (all_cons (put_no (no_one hf (by omega))) (all_cons (put_no (no_two hf hk k [.int k])) all_nil))))
theorem law_ok (ns:List Int):D_law [.lst (ns.map .int)] = some (.bl true) := by
  obtain ⟨c0,h0⟩ := cell_ok ns 0
  obtain ⟨c1,h1⟩ := cell_ok ns 1
  obtain ⟨c2,h2⟩ := cell_ok ns 2
  obtain ⟨c3,h3⟩ := cell_ok ns 3
  obtain ⟨c4,h4⟩ := cell_ok ns 4
  obtain ⟨c5,h5⟩ := cell_ok ns 5
  obtain ⟨c6,h6⟩ := cell_ok ns 6
  generalize ns.map D.int = N at *
  have h0:D_law_cell_at [.lst N,.int 0] = some (.int c0) := h0
  have h1:D_law_cell_at [.lst N,.int 1] = some (.int c1) := h1
  have h2:D_law_cell_at [.lst N,.int 2] = some (.int c2) := h2
  have h3:D_law_cell_at [.lst N,.int 3] = some (.int c3) := h3
  have h4:D_law_cell_at [.lst N,.int 4] = some (.int c4) := h4
  have h5:D_law_cell_at [.lst N,.int 5] = some (.int c5) := h5
  have h6:D_law_cell_at [.lst N,.int 6] = some (.int c6) := h6
  obtain ⟨w,ew,hw⟩ := mod_in c0 8 (by decide)
  have ew:c0 % 8 = (w:Int) := ew
  obtain ⟨f,ps,qf,hf⟩ := one_ok w hw (c1 % 711) c2
  obtain ⟨o,eo,ho⟩ := mod_in c3 10 (by decide)
  have eo:c3 % 10 = (o:Int) := eo
  obtain ⟨g0,qg0,hg0⟩ := atom_ok c5
  obtain ⟨k,ek,hk⟩ := mod_in c6 ps.length (by have := hf.len; omega)
  have hpl:(0:Int) < (ps.length:Nat) := by omega
  have hpl' : 0 < ps.length := by omega
  obtain ⟨far,efar,hfar⟩ : ∃ far:Int,c6 % 999999000 = far ∧ 0 ≤ far := ⟨_,rfl,Int.emod_nonneg _ (by decide)⟩
  have hlp := hf.lp
  have hle := hf.least k
  have key : ∀ (g:D) (u:Bool),Fm 2 u g → ((w == 7) = true → u = false) → cn g ≤ 90 → ∃ (kk:List Nat) (r:List D) (d':List D),g = .tup (.str kk :: r) ∧ dctGet (.dct [[101,118,101,110],[115,117,109],[116,105,109,101,115],[111,118,101,114],[114,111,111,116],[109,97,114,107,101,100]] [.int 0,.int 1,.int 2,.int 3,.int 3,.int 3]) (.str kk) (.int 4) = some (.int (lev g)) ∧ D_put_in [f,.tup [.int k],g] = some (.tup d') ∧ D_law_with [f,.int k,dueX f g k] = some (.tup d') ∧ eqN 100 (.tup d') (.tup d') = some true ∧ D_put_in [f,.tup [],g] = some g ∧ eqN 100 g g = some true := by
    intro g u hg hu hc
    obtain ⟨kk,r,e1,e2⟩ := lev_get hg
    obtain ⟨d',p1,p2,p3⟩ := put_one hf hg hu hk hc
    have pe := p3.eq100 (by omega)
    obtain ⟨l,rfl⟩ := p3.tup
    exact ⟨kk,r,l,e1,e2,p1,p2,pe,put_whole hg hc,hg.eq100 (by omega)⟩
  have run : ∀ (g:D) (u:Bool),Fm 2 u g → ((w == 7) = true → u = false) → cn g ≤ 90 → obind (R_law [.val (.lst N),.val (.int w),.val f,.val (.int o),.val g,.no,.no,.no,.no,.no,.no,.no,.no]) retK = some (.bl true) := by
    intro g u hg hu hc
    obtain ⟨kk,r,d',eg,k1,k2,k3,k4,k5,k6⟩ := key g u hg hu hc
    have hall := refused_all hf g hk far hfar
    have hix:ixD g (.int 0) = some (.str kk) := by rw [eg]; simp
    have hins:instD .tuple g = some (.bl true) := by rw [eg]; kernel_rfl
    clear eg key
    generalize eN:ps.length = many at *
    by_cases hd:lev g < leastL f k
    · have ed:dueX f g k = .tup [.str [104,101,108,100],g] := if_pos hd
      rw [ed] at k3
      obtain ⟨t,ql⟩ := law_loop f g (.val (.lst N)) (.val (.int w)) (.val (.int o)) (.val (.int many)) (.val (.int k)) (.val (.dct [[101,118,101,110],[115,117,109],[116,105,109,101,115],[111,118,101,114],[114,111,111,116],[109,97,114,107,101,100]] [.int 0,.int 1,.int 2,.int 3,.int 3,.int 3])) (.val (.tup d')) (.val (.int far)) .no .no _ .no hall
      simp [R_law,h6,modI,hlp,eN,ek,hpl,hpl',hix,k1,hle,hd,k3,efar,ql,k2,k5,k4,k6,hins]
    · have ed:dueX f g k = g := if_neg hd
      rw [ed] at k3
      obtain ⟨t,ql⟩ := law_loop f g (.val (.lst N)) (.val (.int w)) (.val (.int o)) (.val (.int many)) (.val (.int k)) (.val (.dct [[101,118,101,110],[115,117,109],[116,105,109,101,115],[111,118,101,114],[114,111,111,116],[109,97,114,107,101,100]] [.int 0,.int 1,.int 2,.int 3,.int 3,.int 3])) (.val (.tup d')) (.val (.int far)) .no .no _ .no hall
      simp [R_law,h6,modI,hlp,eN,ek,hpl,hpl',hix,k1,hle,hd,k3,efar,ql,k2,k5,k4,k6,hins]
  rw [D_law,ev_bodyF,law_cut]
  generalize R_law = R at *
  by_cases hB:o < 8 ∧ ¬ (o = 7 ∧ w = 7)
  · obtain ⟨g,qs,qg,hg⟩ := one_ok o hB.1 (c4 % 711) c5
    have fin := run g _ hg.fm (fun z => by
      have:w = 7 := by simpa using z
      have : ¬ o = 7 := fun z => hB.2 ⟨z,this⟩
      simpa using this) hg.cnd
    have o8:(o:Int) < 8 := by omega
    refine Eq.trans ?_ fin
    congr 1
    by_cases ho7:o = 7
    · have x1:((o:Int) == 7) = true := by simp; omega
      have x2:((w:Int) == 7) = false := by
        have : ¬ (w:Int) = 7 := by omega
        simpa using this
      simp only [P_law,envOf]
      simp [h0,h1,h2,h3,h4,h5,modI,ew,qf,eo,qg0,o8,x1,x2,qg]
    · have x1:((o:Int) == 7) = false := by
        have : ¬ (o:Int) = 7 := by omega
        simpa using this
      simp only [P_law,envOf]
      simp [h0,h1,h2,h3,h4,h5,modI,ew,qf,eo,qg0,o8,x1,qg]
  · have fin := run g0 false hg0.fm.up (fun _ => rfl) (by rw [hg0.cn]; decide)
    refine Eq.trans ?_ fin
    congr 1
    by_cases o8':o < 8
    · have o8:(o:Int) < 8 := by omega
      have x1:((o:Int) == 7) = true := by simp; omega
      have x2:((w:Int) == 7) = true := by simp; omega
      simp only [P_law,envOf]
      simp [h0,h1,h2,h3,h5,modI,ew,qf,eo,qg0,o8,x1,x2]
    · have o8 : ¬ (o:Int) < 8 := by omega
      simp only [P_law,envOf]
      simp [h0,h1,h2,h3,h5,modI,ew,qf,eo,qg0,o8]
end K71
end
section
set_option Elab.async false
set_option linter.all false
set_option maxRecDepth 100000
set_option maxHeartbeats 4000000
namespace K71
open PySem PySem.Spec PyProof.Rows L2 DL
noncomputable def top (i:Nat):Stmt := PySem.Challenge.pw_inkform_k71_put_into_one.main.body.getD i (.Pass ⟨0,0,0,0⟩)
abbrev s_law_atom:Stmt := top 44
abbrev s_law_one:Stmt := top 45
abbrev s_law_with:Stmt := top 48
abbrev s_cells_of:Stmt := top 28
abbrev s_parts_of:Stmt := top 27
abbrev s_part_of:Stmt := top 36
abbrev s_is_word:Stmt := top 20
abbrev s_is_number_value:Stmt := top 21
abbrev s_is_stretch:Stmt := top 22
abbrev s_are_bands:Stmt := top 24
abbrev s_are_signs:Stmt := top 23
abbrev s_has_shell:Stmt := top 19
abbrev s_level_of:Stmt := top 26
abbrev s_least_level:Stmt := top 31
abbrev s_holds_table:Stmt := top 25
abbrev s_has_form:Stmt := top 18
abbrev s_depth_of:Stmt := top 29
abbrev s_count_of:Stmt := top 30
abbrev s_is_formula:Stmt := top 17
abbrev s_let_by:Stmt := top 41
abbrev s_marked_again:Stmt := top 33
abbrev s_bands_again:Stmt := top 34
abbrev s_rebuilt:Stmt := top 32
abbrev s_fitting:Stmt := top 40
abbrev s_with_part:Stmt := top 39
abbrev s_put_in:Stmt := top 38
abbrev s_law_cell_at:Stmt := top 43
abbrev s_law_parts:Stmt := top 46
abbrev s_law_least:Stmt := top 47
abbrev s_law_refused:Stmt := top 49
abbrev s_law:Stmt := top 50
theorem S_law_atom:FnScope ["cell", "n", "word", "k"] ["cell"] (defScope s_law_atom) := ⟨rfl,rfl,rfl,by decide +kernel,rfl,by decide +kernel,by decide +kernel⟩
theorem S_law_one:FnScope ["way", "size", "cell", "atoms", "kinds", "many", "signs", "raised", "wide", "bands"] ["way", "size", "cell"] (defScope s_law_one) := ⟨rfl,rfl,rfl,by decide +kernel,rfl,by decide +kernel,by decide +kernel⟩
theorem S_law_with:FnScope ["f", "n", "g", "kind", "at", "k", "band"] ["f", "n", "g"] (defScope s_law_with) := ⟨rfl,rfl,rfl,by decide +kernel,rfl,by decide +kernel,by decide +kernel⟩
theorem S_cells_of:FnScope ["bands", "cells", "band"] ["bands"] (defScope s_cells_of) := ⟨rfl,rfl,rfl,by decide +kernel,rfl,by decide +kernel,by decide +kernel⟩
theorem S_parts_of:FnScope ["f", "kind"] ["f"] (defScope s_parts_of) := ⟨rfl,rfl,rfl,by decide +kernel,rfl,by decide +kernel,by decide +kernel⟩
theorem S_part_of:FnScope ["f", "path", "part", "n", "parts"] ["f", "path"] (defScope s_part_of) := ⟨rfl,rfl,rfl,by decide +kernel,rfl,by decide +kernel,by decide +kernel⟩
theorem S_is_word:FnScope ["thing"] ["thing"] (defScope s_is_word) := ⟨rfl,rfl,rfl,by decide +kernel,rfl,by decide +kernel,by decide +kernel⟩
theorem S_is_number_value:FnScope ["thing"] ["thing"] (defScope s_is_number_value) := ⟨rfl,rfl,rfl,by decide +kernel,rfl,by decide +kernel,by decide +kernel⟩
theorem S_is_stretch:FnScope ["thing", "least", "most"] ["thing", "least", "most"] (defScope s_is_stretch) := ⟨rfl,rfl,rfl,by decide +kernel,rfl,by decide +kernel,by decide +kernel⟩
theorem S_are_bands:FnScope ["thing"] ["thing"] (defScope s_are_bands) := ⟨rfl,rfl,rfl,by decide +kernel,rfl,by decide +kernel,by decide +kernel⟩
theorem S_are_signs:FnScope ["thing", "number"] ["thing", "number"] (defScope s_are_signs) := ⟨rfl,rfl,rfl,by decide +kernel,rfl,by decide +kernel,by decide +kernel⟩
theorem S_has_shell:FnScope ["thing", "kind"] ["thing"] (defScope s_has_shell) := ⟨rfl,rfl,rfl,by decide +kernel,rfl,by decide +kernel,by decide +kernel⟩
theorem S_level_of:FnScope ["f"] ["f"] (defScope s_level_of) := ⟨rfl,rfl,rfl,by decide +kernel,rfl,by decide +kernel,by decide +kernel⟩
theorem S_least_level:FnScope ["f", "n", "kind"] ["f", "n"] (defScope s_least_level) := ⟨rfl,rfl,rfl,by decide +kernel,rfl,by decide +kernel,by decide +kernel⟩
theorem S_holds_table:FnScope ["f"] ["f"] (defScope s_holds_table) := ⟨rfl,rfl,rfl,by decide +kernel,rfl,by decide +kernel,by decide +kernel⟩
theorem S_has_form:FnScope ["thing", "parts", "n", "part"] ["thing"] (defScope s_has_form) := ⟨rfl,rfl,rfl,by decide +kernel,rfl,by decide +kernel,by decide +kernel⟩
theorem S_depth_of:FnScope ["f"] ["f"] (defScope s_depth_of) := ⟨rfl,rfl,rfl,by decide +kernel,rfl,by decide +kernel,by decide +kernel⟩
theorem S_count_of:FnScope ["f"] ["f"] (defScope s_count_of) := ⟨rfl,rfl,rfl,by decide +kernel,rfl,by decide +kernel,by decide +kernel⟩
theorem S_is_formula:FnScope ["thing"] ["thing"] (defScope s_is_formula) := ⟨rfl,rfl,rfl,by decide +kernel,rfl,by decide +kernel,by decide +kernel⟩
theorem S_let_by:FnScope ["f"] ["f"] (defScope s_let_by) := ⟨rfl,rfl,rfl,by decide +kernel,rfl,by decide +kernel,by decide +kernel⟩
theorem S_marked_again:FnScope ["f", "some", "again", "taken", "mark"] ["f", "some"] (defScope s_marked_again) := ⟨rfl,rfl,rfl,by decide +kernel,rfl,by decide +kernel,by decide +kernel⟩
theorem S_bands_again:FnScope ["bands", "some", "wide"] ["bands", "some"] (defScope s_bands_again) := ⟨rfl,rfl,rfl,by decide +kernel,rfl,by decide +kernel,by decide +kernel⟩
theorem S_rebuilt:FnScope ["f", "some", "kind"] ["f", "some"] (defScope s_rebuilt) := ⟨rfl,rfl,rfl,by decide +kernel,rfl,by decide +kernel,by decide +kernel⟩
theorem S_fitting:FnScope ["f", "n", "g"] ["f", "n", "g"] (defScope s_fitting) := ⟨rfl,rfl,rfl,by decide +kernel,rfl,by decide +kernel,by decide +kernel⟩
theorem S_with_part:FnScope ["f", "path", "g", "parts", "n"] ["f", "path", "g"] (defScope s_with_part) := ⟨rfl,rfl,rfl,by decide +kernel,rfl,by decide +kernel,by decide +kernel⟩
theorem S_put_in:FnScope ["f", "path", "g"] ["f", "path", "g"] (defScope s_put_in) := ⟨rfl,rfl,rfl,by decide +kernel,rfl,by decide +kernel,by decide +kernel⟩
theorem S_law_cell_at:FnScope ["script", "k"] ["script", "k"] (defScope s_law_cell_at) := ⟨rfl,rfl,rfl,by decide +kernel,rfl,by decide +kernel,by decide +kernel⟩
theorem S_law_parts:FnScope ["f", "some", "band"] ["f"] (defScope s_law_parts) := ⟨rfl,rfl,rfl,by decide +kernel,rfl,by decide +kernel,by decide +kernel⟩
theorem S_law_least:FnScope ["f", "n"] ["f", "n"] (defScope s_law_least) := ⟨rfl,rfl,rfl,by decide +kernel,rfl,by decide +kernel,by decide +kernel⟩
theorem S_law_refused:FnScope ["f", "path", "g", "error", "e", "others"] ["f", "path", "g"] (defScope s_law_refused) := ⟨rfl,rfl,rfl,by decide +kernel,rfl,by decide +kernel,by decide +kernel⟩
theorem S_law:FnScope ["script", "way", "f", "other", "g", "many", "n", "levels", "due", "far", "path", "found", "whole"] ["script"] (defScope s_law) := ⟨rfl,rfl,rfl,by decide +kernel,rfl,by decide +kernel,by decide +kernel⟩
abbrev ct (C0 C1 C2 C3 C4:Addr):Ct := ⟨fun n => [C0,C1,C2,C3,C4][n]?,fun i => ([]:List Str).getD i "!"⟩
structure Txt (P:Program) (w:World) (K:PySem.W.Frag) (mg:Str → Option Value) (C0 C1 C2 C3 C4:Addr):Prop where
  b_range:mg "range" = none
  b_tuple:mg "tuple" = none
  b_divmod:mg "divmod" = none
  b_len:mg "len" = none
  b_list:mg "list" = none
  b_isinstance:mg "isinstance" = none
  b_str:mg "str" = none
  b_all:mg "all" = none
  b_int:mg "int" = none
  b_bool:mg "bool" = none
  b_any:mg "any" = none
  b_enumerate:mg "enumerate" = none
  b_max:mg "max" = none
  b_sum:mg "sum" = none
  b_ValueError:mg "ValueError" = none
  t_LENGTHS : ∃ a,mg "LENGTHS" = some (.ref a) ∧ ∀ h,K.In h → StrTab P w h a (PySem.W.kdpD (tb_LENGTHS.map fun p => (mkS p.1,p.2)))
  t_LEVELS : ∃ a,mg "LEVELS" = some (.ref a) ∧ ∀ h,K.In h → StrTab P w h a (PySem.W.kdpD (tb_LEVELS.map fun p => (mkS p.1,p.2)))
  c_ROW_KINDS : ∃ v u,mg "ROW_KINDS" = some u ∧ RelV v u ∧ ∀ A H,Rep ⟨K,(ct C0 C1 C2 C3 C4).cl,(ct C0 C1 C2 C3 C4).fld⟩ A H c_ROW_KINDS v
  c_MOST_LETTERS : ∃ v u,mg "MOST_LETTERS" = some u ∧ RelV v u ∧ ∀ A H,Rep ⟨K,(ct C0 C1 C2 C3 C4).cl,(ct C0 C1 C2 C3 C4).fld⟩ A H c_MOST_LETTERS v
  c_SMALL_LETTERS : ∃ v u,mg "SMALL_LETTERS" = some u ∧ RelV v u ∧ ∀ A H,Rep ⟨K,(ct C0 C1 C2 C3 C4).cl,(ct C0 C1 C2 C3 C4).fld⟩ A H c_SMALL_LETTERS v
  c_GREATEST_NUMBER : ∃ v u,mg "GREATEST_NUMBER" = some u ∧ RelV v u ∧ ∀ A H,Rep ⟨K,(ct C0 C1 C2 C3 C4).cl,(ct C0 C1 C2 C3 C4).fld⟩ A H c_GREATEST_NUMBER v
  c_MOST_IN_TABLE : ∃ v u,mg "MOST_IN_TABLE" = some u ∧ RelV v u ∧ ∀ A H,Rep ⟨K,(ct C0 C1 C2 C3 C4).cl,(ct C0 C1 C2 C3 C4).fld⟩ A H c_MOST_IN_TABLE v
  c_MOST_PARTS : ∃ v u,mg "MOST_PARTS" = some u ∧ RelV v u ∧ ∀ A H,Rep ⟨K,(ct C0 C1 C2 C3 C4).cl,(ct C0 C1 C2 C3 C4).fld⟩ A H c_MOST_PARTS v
  c_MOST_DEPTH : ∃ v u,mg "MOST_DEPTH" = some u ∧ RelV v u ∧ ∀ A H,Rep ⟨K,(ct C0 C1 C2 C3 C4).cl,(ct C0 C1 C2 C3 C4).fld⟩ A H c_MOST_DEPTH v
  c_MOST_COUNT : ∃ v u,mg "MOST_COUNT" = some u ∧ RelV v u ∧ ∀ A H,Rep ⟨K,(ct C0 C1 C2 C3 C4).cl,(ct C0 C1 C2 C3 C4).fld⟩ A H c_MOST_COUNT v
  ex_NoPart:ExcG K mg (ct C0 C1 C2 C3 C4) "NoPart" 2
  ex_NoFormula:ExcG K mg (ct C0 C1 C2 C3 C4) "NoFormula" 4
  ix_NoFormula:InstX K mg (ct C0 C1 C2 C3 C4) "NoFormula" [4]
  ix_NoLine:InstX K mg (ct C0 C1 C2 C3 C4) "NoLine" [1]
  ix_NoDrawing:InstX K mg (ct C0 C1 C2 C3 C4) "NoDrawing" [3]
  ix_InkError:InstX K mg (ct C0 C1 C2 C3 C4) "InkError" [0,1,2,3,4]
  iv:InstV K (ct C0 C1 C2 C3 C4) [0,1,2,3,4]
def ClAll (P:Nat → Addr → Prop):Nat → List Addr → Prop
  | _,[] => True
  | n,a :: l => P n a ∧ ClAll P (n + 1) l
theorem cl_n {P:Nat → Addr → Prop} {n:Nat}:ClAll P n [] := trivial
theorem cl_c {P:Nat → Addr → Prop} {n:Nat} {a:Addr} {l:List Addr} (h:P n a) (r:ClAll P (n + 1) l):ClAll P n (a :: l) := ⟨h,r⟩
theorem cl_at {P:Nat → Addr → Prop} : ∀ {l:List Addr} {m:Nat},ClAll P m l → ∀ n C,l[n]? = some C → P (m + n) C
  | [],_,_,n,C,h => by simp at h
  | a :: l,m,⟨h1,h2⟩,0,C,h => by simp at h; subst h; exact h1
  | a :: l,m,⟨h1,h2⟩,n + 1,C,h => by
    have := cl_at h2 n C (by simpa using h)
    rwa [show m + 1 + n = m + (n + 1) by omega] at this
theorem cl_all {P:Nat → Addr → Prop} {l:List Addr} (h:ClAll P 0 l) : ∀ n C,l[n]? = some C → P n C := fun n C e => by
  have := cl_at h n C e
  rwa [Nat.zero_add] at this
section
variable {P:Program} {w:World} {K:PySem.W.Frag} {mg:Str → Option Value} {base:Heap} {C0 C1 C2 C3 C4:Addr}
theorem body_law_atom (T:Txt P w K mg C0 C1 C2 C3 C4) :BodyOk P w K mg base (ct C0 C1 C2 C3 C4) ["cell", "n", "word", "k"] s_law_atom 0 F_law_atom := by
  refine ⟨fun X hP hw hK hmg hb d hr => ?_⟩
  subst hP hw hK hmg hb
  have hS:defScope s_law_atom = _ := (by (conv => lhs; whnf))
  rw [hS] at d
  have hB:defBody s_law_atom = _ := (by (conv => lhs; whnf))
  rw [hB]
  have n_0:Nm X 0 "cell" := d.nm rfl (by first | exact .inl rfl | exact .inr (.inl rfl))
  have n_1:Nm X 1 "n" := d.nm rfl (by first | exact .inl rfl | exact .inr (.inl rfl))
  have n_2:Nm X 2 "word" := d.nm rfl (by first | exact .inl rfl | exact .inr (.inl rfl))
  have n_3:Nm X 3 "k" := d.nm rfl (by first | exact .inl rfl | exact .inr (.inl rfl))
  have l_1:Nl X 1 "n" := d.nl rfl (by first | exact .inl rfl | exact .inr rfl)
  have l_2:Nl X 2 "word" := d.nl rfl (by first | exact .inl rfl | exact .inr rfl)
  have l_3:Nl X 3 "k" := d.nl rfl (by first | exact .inl rfl | exact .inr rfl)
  have g_range:Gl X "range" := d.gl rfl
  have hu := hu_of hr
  delta F_law_atom LB_law_atom_1
  refine pdss_cons ?_ ?_
  refine pds_set ?_ ?_
  exact l_1
  refine pd_mod ?_ ?_
  refine pd_mul ?_ ?_
  refine pr_of ?_
  refine pd_name ?_
  exact n_0
  exact pd_int
  exact pd_int
  refine pdss_cons ?_ ?_
  refine pds_if ?_ ?_ ?_
  refine pdt_eq hr ?_ ?_
  refine pr_of ?_
  refine pd_mod ?_ ?_
  refine pd_name ?_
  exact n_1
  exact pd_int
  refine pr_of ?_
  exact pd_int
  refine pdss_one ?_
  refine pds_ret ?_
  refine pd_tup ?_
  refine pda_cons ?_ ?_
  exact pd_str (by decide +kernel)
  refine pda_cons ?_ ?_
  refine pd_mod ?_ ?_
  refine pd_fdiv ?_ ?_
  refine pd_name ?_
  exact n_1
  exact pd_int
  refine pd_pow ?_ ?_
  exact pd_int
  exact pd_int
  exact pda_nil
  exact pdss_nil
  refine pdss_cons ?_ ?_
  refine pds_set ?_ ?_
  exact l_2
  refine pd_ix ?_ ?_
  refine pr_of ?_
  exact pd_str (by decide +kernel)
  refine pd_mod ?_ ?_
  refine pd_fdiv ?_ ?_
  refine pd_name ?_
  exact n_1
  exact pd_int
  exact pd_int
  refine pdss_cons ?_ ?_
  refine pds_for1 d.never d.calm (sndG_name 3) ?_ ?_ ?_ ?_ ?_
  refine pg_nm ?_
  exact l_3
  exact g_range
  exact T.b_range
  refine pda_cons ?_ ?_
  refine pd_mod ?_ ?_
  refine pd_fdiv ?_ ?_
  refine pd_name ?_
  exact n_1
  exact pd_int
  exact pd_int
  exact pda_nil
  refine pdss_one ?_
  refine pds_set ?_ ?_
  exact l_2
  refine pd_add ?_ ?_
  refine pr_of ?_
  refine pd_name ?_
  exact n_2
  refine pr_of ?_
  refine pd_ix ?_ ?_
  refine pr_of ?_
  exact pd_str (by decide +kernel)
  refine pd_mod ?_ ?_
  refine pd_fdiv ?_ ?_
  refine pd_name ?_
  exact n_1
  refine pd_add ?_ ?_
  refine pr_of ?_
  exact pd_int
  refine pr_of ?_
  refine pd_name ?_
  exact n_3
  exact pd_int
  refine pdss_one ?_
  refine pds_ret ?_
  refine pd_tup ?_
  refine pda_cons ?_ ?_
  exact pd_str (by decide +kernel)
  refine pda_cons ?_ ?_
  refine pd_name ?_
  exact n_2
  exact pda_nil
theorem body_law_one (T:Txt P w K mg C0 C1 C2 C3 C4) (G_law_atom:Def P w K mg base (ct C0 C1 C2 C3 C4) "_law_atom" ["cell"] 1 D_law_atom):BodyOk P w K mg base (ct C0 C1 C2 C3 C4) ["way", "size", "cell", "atoms", "kinds", "many", "signs", "raised", "wide", "bands"] s_law_one 1 F_law_one := by
  refine ⟨fun X hP hw hK hmg hb d hr => ?_⟩
  subst hP hw hK hmg hb
  have hS:defScope s_law_one = _ := (by (conv => lhs; whnf))
  rw [hS] at d
  have hB:defBody s_law_one = _ := (by (conv => lhs; whnf))
  rw [hB]
  have n_0:Nm X 0 "way" := d.nm rfl (by first | exact .inl rfl | exact .inr (.inl rfl))
  have n_1:Nm X 1 "size" := d.nm rfl (by first | exact .inl rfl | exact .inr (.inl rfl))
  have n_3:Nm X 3 "atoms" := d.nm rfl (by first | exact .inl rfl | exact .inr (.inl rfl))
  have n_4:Nm X 4 "kinds" := d.nm rfl (by first | exact .inl rfl | exact .inr (.inl rfl))
  have n_5:Nm X 5 "many" := d.nm rfl (by first | exact .inl rfl | exact .inr (.inl rfl))
  have n_6:Nm X 6 "signs" := d.nm rfl (by first | exact .inl rfl | exact .inr (.inl rfl))
  have n_7:Nm X 7 "raised" := d.nm rfl (by first | exact .inl rfl | exact .inr (.inl rfl))
  have n_9:Nm X 9 "bands" := d.nm rfl (by first | exact .inl rfl | exact .inr (.inl rfl))
  have l_3:Nl X 3 "atoms" := d.nl rfl (by first | exact .inl rfl | exact .inr rfl)
  have l_4:Nl X 4 "kinds" := d.nl rfl (by first | exact .inl rfl | exact .inr rfl)
  have l_5:Nl X 5 "many" := d.nl rfl (by first | exact .inl rfl | exact .inr rfl)
  have l_6:Nl X 6 "signs" := d.nl rfl (by first | exact .inl rfl | exact .inr rfl)
  have l_7:Nl X 7 "raised" := d.nl rfl (by first | exact .inl rfl | exact .inr rfl)
  have l_8:Nl X 8 "wide" := d.nl rfl (by first | exact .inl rfl | exact .inr rfl)
  have l_9:Nl X 9 "bands" := d.nl rfl (by first | exact .inl rfl | exact .inr rfl)
  have g_range:Gl X "range" := d.gl rfl
  have g_tuple:Gl X "tuple" := d.gl rfl
  have hu := hu_of hr
  delta F_law_one CE_law_one_3 CE_law_one_2 CE_law_one_1
  refine pdss_cons ?_ ?_
  refine pds_setn d.toDefX ?_ ?_ ?s1
  case s1 => decide +kernel
  exact l_3
  refine pf_comp1 (N' := ["k", "cell"]) (nt := 1) (cap := [2]) d.toDefX ?s1 ?s2 ?s3 ?_ ?_ ?_ ?_ (gext_name (by decide)) (sndG_name 0) ?_ ?_
  case s1 => exact ⟨by rfl,by decide +kernel,by decide +kernel,by decide +kernel,by rfl,by decide +kernel⟩
  case s2 => decide
  case s3 => decide +kernel
  exact g_range
  exact T.b_range
  refine pda_cons ?_ ?_
  exact pd_int
  exact pda_nil
  intro cl C s2 H2 fp d1
  exact pg_nm (d1.nlc (i := 0) rfl rfl)
  intro cl C s2 H2 fp d1
  exact pdi_nil
  intro cl C s2 H2 fp d1
  refine pd_def (X := compCx _ _ _ _ _ _ _ _) G_law_atom hr ?s1 (d1.gl rfl) ?_
  case s1 => decide
  refine pda_cons ?_ ?_
  refine pd_add ?_ ?_
  refine pr_of ?_
  exact pd_name (d1.nm (i := 1) rfl (by first | exact .inl rfl | exact .inr (.inl rfl) | exact .inr (.inr rfl)))
  refine pr_of ?_
  refine pd_mul ?_ ?_
  refine pr_of ?_
  refine pd_mul ?_ ?_
  refine pr_of ?_
  exact pd_int
  exact pd_name (d1.nm (i := 0) rfl (by first | exact .inl rfl | exact .inr (.inl rfl) | exact .inr (.inr rfl)))
  exact pd_name (d1.nm (i := 0) rfl (by first | exact .inl rfl | exact .inr (.inl rfl) | exact .inr (.inr rfl)))
  exact pda_nil
  refine pdss_cons ?_ ?_
  refine pds_set ?_ ?_
  exact l_4
  refine pd_of ?_
  refine pf_lst ?_
  refine pda_cons ?_ ?_
  exact pd_str (by decide +kernel)
  refine pda_cons ?_ ?_
  exact pd_str (by decide +kernel)
  refine pda_cons ?_ ?_
  exact pd_str (by decide +kernel)
  refine pda_cons ?_ ?_
  exact pd_str (by decide +kernel)
  refine pda_cons ?_ ?_
  exact pd_str (by decide +kernel)
  refine pda_cons ?_ ?_
  exact pd_str (by decide +kernel)
  refine pda_cons ?_ ?_
  exact pd_str (by decide +kernel)
  refine pda_cons ?_ ?_
  exact pd_str (by decide +kernel)
  exact pda_nil
  refine pdss_cons ?_ ?_
  refine pds_if ?_ ?_ ?_
  refine pdt_lt ?_ ?_
  refine pd_name ?_
  exact n_0
  exact pd_int
  refine pdss_one ?_
  refine pds_ret ?_
  refine pd_tup ?_
  refine pda_cons ?_ ?_
  refine pd_ix ?_ ?_
  refine pr_of ?_
  refine pd_name ?_
  exact n_4
  refine pd_name ?_
  exact n_0
  refine pda_cons ?_ ?_
  refine pd_tuple ?_ ?_ ?_
  exact g_tuple
  exact T.b_tuple
  refine pr_of ?_
  refine pd_sl ?_ ?_ ?_
  refine pr_of ?_
  refine pd_name ?_
  exact n_3
  exact pdo_none
  refine pdo_some ?_
  refine pd_add ?_ ?_
  refine pr_of ?_
  exact pd_int
  refine pr_of ?_
  refine pd_mod ?_ ?_
  refine pd_name ?_
  exact n_1
  exact pd_int
  exact pda_nil
  exact pdss_nil
  refine pdss_cons ?_ ?_
  refine pds_if ?_ ?_ ?_
  refine pdt_eq hr ?_ ?_
  refine pr_of ?_
  refine pd_name ?_
  exact n_0
  refine pr_of ?_
  exact pd_int
  refine pdss_cons ?_ ?_
  refine pds_set ?_ ?_
  exact l_5
  refine pd_add ?_ ?_
  refine pr_of ?_
  exact pd_int
  refine pr_of ?_
  refine pd_mod ?_ ?_
  refine pd_name ?_
  exact n_1
  exact pd_int
  refine pdss_cons ?_ ?_
  refine pds_set ?_ ?_
  exact l_6
  refine pd_join ?_ ?_
  exact pd_str (by decide +kernel)
  refine pr_of ?_
  refine pd_of ?_
  refine pf_comp1 (N' := ["k", "cell"]) (nt := 1) (cap := [2]) d.toDefX ?s1 ?s2 ?s3 ?_ ?_ ?_ ?_ (gext_name (by decide)) (sndG_name 0) ?_ ?_
  case s1 => exact ⟨by rfl,by decide +kernel,by decide +kernel,by decide +kernel,by rfl,by decide +kernel⟩
  case s2 => decide
  case s3 => decide +kernel
  exact g_range
  exact T.b_range
  refine pda_cons ?_ ?_
  refine pd_sub ?_ ?_
  refine pd_name ?_
  exact n_5
  exact pd_int
  exact pda_nil
  intro cl C s2 H2 fp d1
  exact pg_nm (d1.nlc (i := 0) rfl rfl)
  intro cl C s2 H2 fp d1
  exact pdi_nil
  intro cl C s2 H2 fp d1
  refine pd_ix ?_ ?_
  refine pr_of ?_
  exact pd_str (by decide +kernel)
  refine pd_mod ?_ ?_
  refine pd_fdiv ?_ ?_
  refine pd_add ?_ ?_
  refine pr_of ?_
  exact pd_name (d1.nm (i := 1) rfl (by first | exact .inl rfl | exact .inr (.inl rfl) | exact .inr (.inr rfl)))
  refine pr_of ?_
  refine pd_mul ?_ ?_
  refine pr_of ?_
  exact pd_name (d1.nm (i := 0) rfl (by first | exact .inl rfl | exact .inr (.inl rfl) | exact .inr (.inr rfl)))
  exact pd_name (d1.nm (i := 0) rfl (by first | exact .inl rfl | exact .inr (.inl rfl) | exact .inr (.inr rfl)))
  exact pd_int
  exact pd_int
  refine pdss_one ?_
  refine pds_ret ?_
  refine pd_tup ?_
  refine pda_cons ?_ ?_
  exact pd_str (by decide +kernel)
  refine pda_cons ?_ ?_
  refine pd_tuple ?_ ?_ ?_
  exact g_tuple
  exact T.b_tuple
  refine pr_of ?_
  refine pd_sl ?_ ?_ ?_
  refine pr_of ?_
  refine pd_name ?_
  exact n_3
  exact pdo_none
  refine pdo_some ?_
  refine pd_name ?_
  exact n_5
  refine pda_cons ?_ ?_
  refine pd_name ?_
  exact n_6
  exact pda_nil
  exact pdss_nil
  refine pdss_cons ?_ ?_
  refine pds_if ?_ ?_ ?_
  refine pdt_eq hr ?_ ?_
  refine pr_of ?_
  refine pd_name ?_
  exact n_0
  refine pr_of ?_
  exact pd_int
  refine pdss_one ?_
  refine pds_ret ?_
  refine pd_tup ?_
  refine pda_cons ?_ ?_
  exact pd_str (by decide +kernel)
  refine pda_cons ?_ ?_
  refine pd_ix ?_ ?_
  refine pr_of ?_
  refine pd_name ?_
  exact n_3
  exact pd_int
  refine pda_cons ?_ ?_
  refine pd_ix ?_ ?_
  refine pr_of ?_
  refine pd_name ?_
  exact n_3
  exact pd_int
  exact pda_nil
  exact pdss_nil
  refine pdss_cons ?_ ?_
  refine pds_if ?_ ?_ ?_
  refine pdt_lt ?_ ?_
  refine pd_name ?_
  exact n_0
  exact pd_int
  refine pdss_one ?_
  refine pds_ret ?_
  refine pd_tup ?_
  refine pda_cons ?_ ?_
  refine pd_ix ?_ ?_
  refine pr_of ?_
  refine pd_name ?_
  exact n_4
  refine pd_name ?_
  exact n_0
  refine pda_cons ?_ ?_
  refine pd_ix ?_ ?_
  refine pr_of ?_
  refine pd_name ?_
  exact n_3
  exact pd_int
  exact pda_nil
  exact pdss_nil
  refine pdss_cons ?_ ?_
  refine pds_if ?_ ?_ ?_
  refine pdt_eq hr ?_ ?_
  refine pr_of ?_
  refine pd_name ?_
  exact n_0
  refine pr_of ?_
  exact pd_int
  refine pdss_cons ?_ ?_
  refine pds_set ?_ ?_
  exact l_7
  refine pd_ix ?_ ?_
  refine pr_of ?_
  refine pd_of ?_
  refine pf_lst ?_
  refine pda_cons ?_ ?_
  refine pd_ix ?_ ?_
  refine pr_of ?_
  refine pd_name ?_
  exact n_3
  exact pd_int
  refine pda_cons ?_ ?_
  exact pd_non
  refine pda_cons ?_ ?_
  refine pd_ix ?_ ?_
  refine pr_of ?_
  refine pd_name ?_
  exact n_3
  exact pd_int
  exact pda_nil
  refine pd_mod ?_ ?_
  refine pd_name ?_
  exact n_1
  exact pd_int
  refine pdss_one ?_
  refine pds_ret ?_
  refine pd_tup ?_
  refine pda_cons ?_ ?_
  exact pd_str (by decide +kernel)
  refine pda_cons ?_ ?_
  refine pd_ix ?_ ?_
  refine pr_of ?_
  refine pd_name ?_
  exact n_3
  exact pd_int
  refine pda_cons ?_ ?_
  refine pd_name ?_
  exact n_7
  refine pda_cons ?_ ?_
  refine pd_ix ?_ ?_
  refine pr_of ?_
  refine pd_of ?_
  refine pf_lst ?_
  refine pda_cons ?_ ?_
  exact pd_non
  refine pda_cons ?_ ?_
  refine pd_ix ?_ ?_
  refine pr_of ?_
  refine pd_name ?_
  exact n_3
  exact pd_int
  refine pda_cons ?_ ?_
  refine pd_ix ?_ ?_
  refine pr_of ?_
  refine pd_name ?_
  exact n_3
  exact pd_int
  exact pda_nil
  refine pd_mod ?_ ?_
  refine pd_name ?_
  exact n_1
  exact pd_int
  exact pda_nil
  exact pdss_nil
  refine pdss_cons ?_ ?_
  refine pds_set ?_ ?_
  exact l_8
  refine pd_add ?_ ?_
  refine pr_of ?_
  exact pd_int
  refine pr_of ?_
  refine pd_mod ?_ ?_
  refine pd_fdiv ?_ ?_
  refine pd_name ?_
  exact n_1
  exact pd_int
  exact pd_int
  refine pdss_cons ?_ ?_
  refine pds_setc d.toDefX ?_ ?_ ?s1
  case s1 => decide +kernel
  exact l_9
  refine pfc_comp1 (N' := ["at", "atoms", "wide"]) (nt := 1) (cap := [3,8]) d.toDefX ?s1 ?s2 ?s3 ?_ ?_ ?_ ?_ (gext_name (by decide)) (sndG_name 0) ?_ ?_
  case s1 => exact ⟨by rfl,by decide +kernel,by decide +kernel,by decide +kernel,by rfl,by decide +kernel⟩
  case s2 => decide
  case s3 => decide +kernel
  exact g_range
  exact T.b_range
  refine pda_cons ?_ ?_
  refine pd_add ?_ ?_
  refine pr_of ?_
  exact pd_int
  refine pr_of ?_
  refine pd_mod ?_ ?_
  refine pd_name ?_
  exact n_1
  exact pd_int
  exact pda_nil
  intro cl C s2 H2 fp d1
  exact pg_nm (d1.nlc (i := 0) rfl rfl)
  intro cl C s2 H2 fp d1
  exact pdi_nil
  intro cl C s2 H2 fp d1
  refine pd_tuple (d1.gl rfl) ?_ ?_
  exact T.b_tuple
  refine pr_of ?_
  refine pd_sl ?_ ?_ ?_
  refine pr_of ?_
  exact pd_name (d1.nm (i := 1) rfl (by first | exact .inl rfl | exact .inr (.inl rfl) | exact .inr (.inr rfl)))
  refine pdo_some ?_
  refine pd_mul ?_ ?_
  refine pr_of ?_
  exact pd_name (d1.nm (i := 0) rfl (by first | exact .inl rfl | exact .inr (.inl rfl) | exact .inr (.inr rfl)))
  exact pd_name (d1.nm (i := 2) rfl (by first | exact .inl rfl | exact .inr (.inl rfl) | exact .inr (.inr rfl)))
  refine pdo_some ?_
  refine pd_add ?_ ?_
  refine pr_of ?_
  refine pd_mul ?_ ?_
  refine pr_of ?_
  exact pd_name (d1.nm (i := 0) rfl (by first | exact .inl rfl | exact .inr (.inl rfl) | exact .inr (.inr rfl)))
  exact pd_name (d1.nm (i := 2) rfl (by first | exact .inl rfl | exact .inr (.inl rfl) | exact .inr (.inr rfl)))
  refine pr_of ?_
  exact pd_name (d1.nm (i := 2) rfl (by first | exact .inl rfl | exact .inr (.inl rfl) | exact .inr (.inr rfl)))
  refine pdss_one ?_
  refine pds_ret ?_
  refine pd_tup ?_
  refine pda_cons ?_ ?_
  exact pd_str (by decide +kernel)
  refine pda_cons ?_ ?_
  refine pd_tuple ?_ ?_ ?_
  exact g_tuple
  exact T.b_tuple
  refine pr_of ?_
  refine pd_name ?_
  exact n_9
  exact pda_nil
theorem body_law_with (T:Txt P w K mg C0 C1 C2 C3 C4) :BodyOk P w K mg base (ct C0 C1 C2 C3 C4) ["f", "n", "g", "kind", "at", "k", "band"] s_law_with 0 F_law_with := by
  refine ⟨fun X hP hw hK hmg hb d hr => ?_⟩
  subst hP hw hK hmg hb
  have hS:defScope s_law_with = _ := (by (conv => lhs; whnf))
  rw [hS] at d
  have hB:defBody s_law_with = _ := (by (conv => lhs; whnf))
  rw [hB]
  have n_0:Nm X 0 "f" := d.nm rfl (by first | exact .inl rfl | exact .inr (.inl rfl))
  have n_1:Nm X 1 "n" := d.nm rfl (by first | exact .inl rfl | exact .inr (.inl rfl))
  have n_2:Nm X 2 "g" := d.nm rfl (by first | exact .inl rfl | exact .inr (.inl rfl))
  have n_3:Nm X 3 "kind" := d.nm rfl (by first | exact .inl rfl | exact .inr (.inl rfl))
  have n_4:Nm X 4 "at" := d.nm rfl (by first | exact .inl rfl | exact .inr (.inl rfl))
  have n_5:Nm X 5 "k" := d.nm rfl (by first | exact .inl rfl | exact .inr (.inl rfl))
  have n_6:Nm X 6 "band" := d.nm rfl (by first | exact .inl rfl | exact .inr (.inl rfl))
  have l_3:Nl X 3 "kind" := d.nl rfl (by first | exact .inl rfl | exact .inr rfl)
  have l_4:Nl X 4 "at" := d.nl rfl (by first | exact .inl rfl | exact .inr rfl)
  have l_5:Nl X 5 "k" := d.nl rfl (by first | exact .inl rfl | exact .inr rfl)
  have l_6:Nl X 6 "band" := d.nl rfl (by first | exact .inl rfl | exact .inr rfl)
  have g_divmod:Gl X "divmod" := d.gl rfl
  have g_len:Gl X "len" := d.gl rfl
  have hu := hu_of hr
  delta F_law_with 
  refine pdss_cons ?_ ?_
  refine pds_set ?_ ?_
  exact l_3
  refine pd_ix ?_ ?_
  refine pr_of ?_
  refine pd_name ?_
  exact n_0
  exact pd_int
  refine pdss_cons ?_ ?_
  refine pds_if ?_ ?_ ?_
  refine pdt_in ?_ ?_
  refine pd_name ?_
  exact n_3
  refine pr_of ?_
  refine pd_tup ?_
  refine pda_cons ?_ ?_
  exact pd_str (by decide +kernel)
  refine pda_cons ?_ ?_
  exact pd_str (by decide +kernel)
  refine pda_cons ?_ ?_
  exact pd_str (by decide +kernel)
  exact pda_nil
  refine pdss_one ?_
  refine pds_ret ?_
  refine pd_addT ?_ ?_
  refine pd_tup ?_
  refine pda_cons ?_ ?_
  refine pd_name ?_
  exact n_3
  refine pda_cons ?_ ?_
  refine pd_addT ?_ ?_
  refine pd_addT ?_ ?_
  refine pd_slW ?_ ?_ ?_
  refine pr_of ?_
  refine pd_ix ?_ ?_
  refine pr_of ?_
  refine pd_name ?_
  exact n_0
  exact pd_int
  exact pdo_none
  refine pdo_some ?_
  refine pd_name ?_
  exact n_1
  refine pd_tup ?_
  refine pda_cons ?_ ?_
  refine pd_name ?_
  exact n_2
  exact pda_nil
  refine pd_slW ?_ ?_ ?_
  refine pr_of ?_
  refine pd_ix ?_ ?_
  refine pr_of ?_
  refine pd_name ?_
  exact n_0
  exact pd_int
  refine pdo_some ?_
  refine pd_add ?_ ?_
  refine pr_of ?_
  refine pd_name ?_
  exact n_1
  refine pr_of ?_
  exact pd_int
  exact pdo_none
  exact pda_nil
  refine pd_slW ?_ ?_ ?_
  refine pr_of ?_
  refine pd_name ?_
  exact n_0
  refine pdo_some ?_
  exact pd_int
  exact pdo_none
  exact pdss_nil
  refine pdss_cons ?_ ?_
  refine pds_if ?_ ?_ ?_
  refine pdt_eq hr ?_ ?_
  refine pr_of ?_
  refine pd_name ?_
  exact n_3
  refine pr_of ?_
  exact pd_str (by decide +kernel)
  refine pdss_cons ?_ ?_
  refine pds_unp (sndG_tup (sndGs_cons 4 (sndGs_cons 5 sndGs_nil))) ?_ ?_
  refine pg_tup d.calm ?_
  refine pgs_cons ?_ ?_
  refine pg_nm ?_
  exact l_4
  refine pgs_cons ?_ ?_
  refine pg_nm ?_
  exact l_5
  exact pgs_nil
  refine pd_divmod ?_ ?_ ?_
  exact g_divmod
  exact T.b_divmod
  refine pda_cons ?_ ?_
  refine pd_name ?_
  exact n_1
  refine pda_cons ?_ ?_
  refine pd_len ?_ ?_ ?_
  exact g_len
  exact T.b_len
  refine pr_of ?_
  refine pd_ix ?_ ?_
  refine pr_of ?_
  refine pd_ix ?_ ?_
  refine pr_of ?_
  refine pd_name ?_
  exact n_0
  exact pd_int
  exact pd_int
  exact pda_nil
  refine pdss_cons ?_ ?_
  refine pds_set ?_ ?_
  exact l_6
  refine pd_addT ?_ ?_
  refine pd_addT ?_ ?_
  refine pd_slW ?_ ?_ ?_
  refine pr_of ?_
  refine pd_ix ?_ ?_
  refine pr_of ?_
  refine pd_ix ?_ ?_
  refine pr_of ?_
  refine pd_name ?_
  exact n_0
  exact pd_int
  refine pd_name ?_
  exact n_4
  exact pdo_none
  refine pdo_some ?_
  refine pd_name ?_
  exact n_5
  refine pd_tup ?_
  refine pda_cons ?_ ?_
  refine pd_name ?_
  exact n_2
  exact pda_nil
  refine pd_slW ?_ ?_ ?_
  refine pr_of ?_
  refine pd_ix ?_ ?_
  refine pr_of ?_
  refine pd_ix ?_ ?_
  refine pr_of ?_
  refine pd_name ?_
  exact n_0
  exact pd_int
  refine pd_name ?_
  exact n_4
  refine pdo_some ?_
  refine pd_add ?_ ?_
  refine pr_of ?_
  refine pd_name ?_
  exact n_5
  refine pr_of ?_
  exact pd_int
  exact pdo_none
  refine pdss_one ?_
  refine pds_ret ?_
  refine pd_tup ?_
  refine pda_cons ?_ ?_
  exact pd_str (by decide +kernel)
  refine pda_cons ?_ ?_
  refine pd_addT ?_ ?_
  refine pd_addT ?_ ?_
  refine pd_slW ?_ ?_ ?_
  refine pr_of ?_
  refine pd_ix ?_ ?_
  refine pr_of ?_
  refine pd_name ?_
  exact n_0
  exact pd_int
  exact pdo_none
  refine pdo_some ?_
  refine pd_name ?_
  exact n_4
  refine pd_tup ?_
  refine pda_cons ?_ ?_
  refine pd_name ?_
  exact n_6
  exact pda_nil
  refine pd_slW ?_ ?_ ?_
  refine pr_of ?_
  refine pd_ix ?_ ?_
  refine pr_of ?_
  refine pd_name ?_
  exact n_0
  exact pd_int
  refine pdo_some ?_
  refine pd_add ?_ ?_
  refine pr_of ?_
  refine pd_name ?_
  exact n_4
  refine pr_of ?_
  exact pd_int
  exact pdo_none
  exact pda_nil
  exact pdss_nil
  refine pdss_cons ?_ ?_
  refine pds_set ?_ ?_
  exact l_4
  refine pd_add ?_ ?_
  refine pr_of ?_
  exact pd_int
  refine pr_of ?_
  refine pd_name ?_
  exact n_1
  refine pdss_cons ?_ ?_
  refine pds_if ?_ ?_ ?_
  refine PDW.pt ?_
  refine pdw_and ?_ ?_
  refine pdt_eq hr ?_ ?_
  refine pr_of ?_
  refine pd_name ?_
  exact n_3
  refine pr_of ?_
  exact pd_str (by decide +kernel)
  refine pdw_and ?_ ?_
  refine pdt_eq hr ?_ ?_
  refine pr_of ?_
  refine pd_name ?_
  exact n_1
  refine pr_of ?_
  exact pd_int
  refine pdw_and1 ?_
  refine pdt_isN ?_
  refine pr_of ?_
  refine pd_ix ?_ ?_
  refine pr_of ?_
  refine pd_name ?_
  exact n_0
  exact pd_int
  refine pdss_one ?_
  refine pds_set ?_ ?_
  exact l_4
  exact pd_int
  exact pdss_nil
  refine pdss_one ?_
  refine pds_ret ?_
  refine pd_addT ?_ ?_
  refine pd_addT ?_ ?_
  refine pd_slW ?_ ?_ ?_
  refine pr_of ?_
  refine pd_name ?_
  exact n_0
  exact pdo_none
  refine pdo_some ?_
  refine pd_name ?_
  exact n_4
  refine pd_tup ?_
  refine pda_cons ?_ ?_
  refine pd_name ?_
  exact n_2
  exact pda_nil
  refine pd_slW ?_ ?_ ?_
  refine pr_of ?_
  refine pd_name ?_
  exact n_0
  refine pdo_some ?_
  refine pd_add ?_ ?_
  refine pr_of ?_
  refine pd_name ?_
  exact n_4
  refine pr_of ?_
  exact pd_int
  exact pdo_none
theorem body_cells_of (T:Txt P w K mg C0 C1 C2 C3 C4) :BodyOk P w K mg base (ct C0 C1 C2 C3 C4) ["bands", "cells", "band"] s_cells_of 0 F_cells_of := by
  refine ⟨fun X hP hw hK hmg hb d hr => ?_⟩
  subst hP hw hK hmg hb
  have hS:defScope s_cells_of = _ := (by (conv => lhs; whnf))
  rw [hS] at d
  have hB:defBody s_cells_of = _ := (by (conv => lhs; whnf))
  rw [hB]
  have n_0:Nm X 0 "bands" := d.nm rfl (by first | exact .inl rfl | exact .inr (.inl rfl))
  have n_1:Nm X 1 "cells" := d.nm rfl (by first | exact .inl rfl | exact .inr (.inl rfl))
  have n_2:Nm X 2 "band" := d.nm rfl (by first | exact .inl rfl | exact .inr (.inl rfl))
  have l_1:Nl X 1 "cells" := d.nl rfl (by first | exact .inl rfl | exact .inr rfl)
  have l_2:Nl X 2 "band" := d.nl rfl (by first | exact .inl rfl | exact .inr rfl)
  have hu := hu_of hr
  delta F_cells_of LB_cells_of_1
  refine pdss_cons ?_ ?_
  refine pds_own ?_ ?_
  exact l_1
  refine pf_lst ?_
  exact pda_nil
  refine pdss_cons ?_ ?_
  refine pds_for d.never d.calm (sndG_name 2) ?_ ?_ ?_
  refine pg_nm ?_
  exact l_2
  refine pd_name ?_
  exact n_0
  refine pdss_one ?_
  refine pds_extend ?_ ?_
  exact n_1
  refine pd_name ?_
  exact n_2
  refine pdss_one ?_
  refine pds_retO ?_
  exact n_1
theorem body_parts_of (T:Txt P w K mg C0 C1 C2 C3 C4) (G_cells_of:DefF P w K mg base (ct C0 C1 C2 C3 C4) "cells_of" ["bands"] 1 D_cells_of):BodyOk P w K mg base (ct C0 C1 C2 C3 C4) ["f", "kind"] s_parts_of 1 F_parts_of := by
  refine ⟨fun X hP hw hK hmg hb d hr => ?_⟩
  subst hP hw hK hmg hb
  have hS:defScope s_parts_of = _ := (by (conv => lhs; whnf))
  rw [hS] at d
  have hB:defBody s_parts_of = _ := (by (conv => lhs; whnf))
  rw [hB]
  have n_0:Nm X 0 "f" := d.nm rfl (by first | exact .inl rfl | exact .inr (.inl rfl))
  have n_1:Nm X 1 "kind" := d.nm rfl (by first | exact .inl rfl | exact .inr (.inl rfl))
  have l_1:Nl X 1 "kind" := d.nl rfl (by first | exact .inl rfl | exact .inr rfl)
  have g_ROW_KINDS:Gl X "ROW_KINDS" := d.gl rfl
  have g_cells_of:Gl X "cells_of" := d.gl rfl
  have g_list:Gl X "list" := d.gl rfl
  have hu := hu_of hr
  delta F_parts_of CT_parts_of_2 CE_parts_of_1
  refine pdss_cons ?_ ?_
  refine pds_set ?_ ?_
  exact l_1
  refine pd_ix ?_ ?_
  refine pr_of ?_
  refine pd_name ?_
  exact n_0
  exact pd_int
  refine pdss_cons ?_ ?_
  refine pds_if ?_ ?_ ?_
  refine PDW.pt ?_
  refine pdw_or ?_ ?_
  refine pdt_eq hr ?_ ?_
  refine pr_of ?_
  refine pd_name ?_
  exact n_1
  refine pr_of ?_
  exact pd_str (by decide +kernel)
  refine pdw_or1 ?_
  refine pdt_eq hr ?_ ?_
  refine pr_of ?_
  refine pd_name ?_
  exact n_1
  refine pr_of ?_
  exact pd_str (by decide +kernel)
  refine pdss_one ?_
  refine pds_retF ?_
  refine pf_lst ?_
  exact pda_nil
  exact pdss_nil
  refine pdss_cons ?_ ?_
  refine pds_if ?_ ?_ ?_
  refine pdt_in ?_ ?_
  refine pd_name ?_
  exact n_1
  refine pr_of ?_
  refine pd_glob ⟨T.c_ROW_KINDS⟩ ?_
  exact g_ROW_KINDS
  refine pdss_one ?_
  refine pds_retF ?_
  refine pf_list ?_ ?_ ?_
  exact g_list
  exact T.b_list
  refine pr_of ?_
  refine pd_ix ?_ ?_
  refine pr_of ?_
  refine pd_name ?_
  exact n_0
  exact pd_int
  exact pdss_nil
  refine pdss_cons ?_ ?_
  refine pds_if ?_ ?_ ?_
  refine pdt_eq hr ?_ ?_
  refine pr_of ?_
  refine pd_name ?_
  exact n_1
  refine pr_of ?_
  exact pd_str (by decide +kernel)
  refine pdss_one ?_
  refine pds_retF ?_
  refine pf_add ?_ ?_
  refine pr_of ?_
  refine pd_of ?_
  refine pf_lst ?_
  refine pda_cons ?_ ?_
  refine pd_ix ?_ ?_
  refine pr_of ?_
  refine pd_name ?_
  exact n_0
  exact pd_int
  exact pda_nil
  refine pr_of ?_
  refine pd_of ?_
  refine pf_comp (N' := ["mark"]) (nt := 1) (cap := []) d.toDefX ?s1 ?s2 ?s3 ?_ ?_ (gext_name (by decide)) (sndG_name 0) ?_ ?_
  case s1 => exact ⟨by rfl,by decide +kernel,by decide +kernel,by decide +kernel,by rfl,by decide +kernel⟩
  case s2 => decide
  case s3 => decide +kernel
  refine pr_of ?_
  refine pd_sl ?_ ?_ ?_
  refine pr_of ?_
  refine pd_name ?_
  exact n_0
  refine pdo_some ?_
  exact pd_int
  exact pdo_none
  intro cl C s2 H2 fp d1
  exact pg_nm (d1.nlc (i := 0) rfl rfl)
  intro cl C s2 H2 fp d1
  refine pdi_one ?_
  refine pdt_isnotN ?_
  refine pr_of ?_
  exact pd_name (d1.nm (i := 0) rfl (by first | exact .inl rfl | exact .inr (.inl rfl) | exact .inr (.inr rfl)))
  intro cl C s2 H2 fp d1
  exact pd_name (d1.nm (i := 0) rfl (by first | exact .inl rfl | exact .inr (.inl rfl) | exact .inr (.inr rfl)))
  exact pdss_nil
  refine pdss_cons ?_ ?_
  refine pds_if ?_ ?_ ?_
  refine pdt_eq hr ?_ ?_
  refine pr_of ?_
  refine pd_name ?_
  exact n_1
  refine pr_of ?_
  exact pd_str (by decide +kernel)
  refine pdss_one ?_
  refine pds_retF ?_
  refine pf_def G_cells_of hr ?s1 ?_ ?_
  case s1 => decide
  exact g_cells_of
  refine pda_cons ?_ ?_
  refine pd_ix ?_ ?_
  refine pr_of ?_
  refine pd_name ?_
  exact n_0
  exact pd_int
  exact pda_nil
  exact pdss_nil
  refine pdss_one ?_
  refine pds_retF ?_
  refine pf_list ?_ ?_ ?_
  exact g_list
  exact T.b_list
  refine pr_of ?_
  refine pd_sl ?_ ?_ ?_
  refine pr_of ?_
  refine pd_name ?_
  exact n_0
  refine pdo_some ?_
  exact pd_int
  exact pdo_none
theorem body_part_of (T:Txt P w K mg C0 C1 C2 C3 C4) (G_parts_of:DefF P w K mg base (ct C0 C1 C2 C3 C4) "parts_of" ["f"] 2 D_parts_of):BodyX P w K mg base (ct C0 C1 C2 C3 C4) ["f", "path", "part", "n", "parts"] s_part_of 2 F_part_of := by
  refine ⟨fun X xq hP hw hK hmg hb d hr xr => ?_⟩
  subst hP hw hK hmg hb
  have hS:defScope s_part_of = _ := (by (conv => lhs; whnf))
  rw [hS] at d
  have hB:defBody s_part_of = _ := (by (conv => lhs; whnf))
  rw [hB]
  have n_0:Nm X 0 "f" := d.nm rfl (by first | exact .inl rfl | exact .inr (.inl rfl))
  have n_1:Nm X 1 "path" := d.nm rfl (by first | exact .inl rfl | exact .inr (.inl rfl))
  have n_2:Nm X 2 "part" := d.nm rfl (by first | exact .inl rfl | exact .inr (.inl rfl))
  have n_3:Nm X 3 "n" := d.nm rfl (by first | exact .inl rfl | exact .inr (.inl rfl))
  have n_4:Nm X 4 "parts" := d.nm rfl (by first | exact .inl rfl | exact .inr (.inl rfl))
  have l_2:Nl X 2 "part" := d.nl rfl (by first | exact .inl rfl | exact .inr rfl)
  have l_3:Nl X 3 "n" := d.nl rfl (by first | exact .inl rfl | exact .inr rfl)
  have l_4:Nl X 4 "parts" := d.nl rfl (by first | exact .inl rfl | exact .inr rfl)
  have g_NoPart:Gl X "NoPart" := d.gl rfl
  have g_len:Gl X "len" := d.gl rfl
  have g_parts_of:Gl X "parts_of" := d.gl rfl
  have hu := hu_of hr
  delta F_part_of LB_part_of_1
  refine pdss_cons ?_ ?_
  refine pds_set ?_ ?_
  exact l_2
  refine pd_name ?_
  exact n_0
  refine pdss_cons ?_ ?_
  refine pds_for d.never d.calm (sndG_name 3) ?_ ?_ ?_
  refine pg_nm ?_
  exact l_3
  refine pd_name ?_
  exact n_1
  refine pdss_cons ?_ ?_
  refine pds_set ?_ ?_
  exact l_4
  refine pd_of ?_
  refine pf_def G_parts_of hr ?s1 ?_ ?_
  case s1 => decide
  exact g_parts_of
  refine pda_cons ?_ ?_
  refine pd_name ?_
  exact n_2
  exact pda_nil
  refine pdss_cons ?_ ?_
  refine pds_if ?_ ?_ ?_
  refine pdt_not ?_
  refine pdt_chain .le .lt ?_ ?_ ?_
  exact pd_int
  refine pd_name ?_
  exact n_3
  refine pd_len ?_ ?_ ?_
  exact g_len
  exact T.b_len
  refine pr_of ?_
  refine pd_name ?_
  exact n_4
  refine pdss_one ?_
  refine pds_raise xr T.ex_NoPart ?_ d.calm ?_
  exact g_NoPart
  exact pd_str (by decide +kernel)
  exact pdss_nil
  refine pdss_one ?_
  refine pds_set ?_ ?_
  exact l_2
  refine pd_ix ?_ ?_
  refine pr_of ?_
  refine pd_name ?_
  exact n_4
  refine pd_name ?_
  exact n_3
  refine pdss_one ?_
  refine pds_ret ?_
  refine pd_name ?_
  exact n_2
theorem body_is_word (T:Txt P w K mg C0 C1 C2 C3 C4) :BodyOk P w K mg base (ct C0 C1 C2 C3 C4) ["thing"] s_is_word 0 F_is_word := by
  refine ⟨fun X hP hw hK hmg hb d hr => ?_⟩
  subst hP hw hK hmg hb
  have hS:defScope s_is_word = _ := (by (conv => lhs; whnf))
  rw [hS] at d
  have hB:defBody s_is_word = _ := (by (conv => lhs; whnf))
  rw [hB]
  have n_0:Nm X 0 "thing" := d.nm rfl (by first | exact .inl rfl | exact .inr (.inl rfl))
  have g_MOST_LETTERS:Gl X "MOST_LETTERS" := d.gl rfl
  have g_all:Gl X "all" := d.gl rfl
  have g_isinstance:Gl X "isinstance" := d.gl rfl
  have g_len:Gl X "len" := d.gl rfl
  have g_str:Gl X "str" := d.gl rfl
  have hu := hu_of hr
  delta F_is_word CE_is_word_1
  refine pdss_cons ?_ ?_
  refine pds_if ?_ ?_ ?_
  refine PDW.pt ?_
  refine pdw_or ?_ ?_
  refine pdt_not ?_
  refine pdt_val ?_
  refine pd_isinst .str ?_ ?_ ?_ ?_ ?_
  exact g_isinstance
  exact T.b_isinstance
  exact g_str
  exact T.b_str
  refine pr_of ?_
  refine pd_name ?_
  exact n_0
  refine pdw_or1 ?_
  refine pdt_not ?_
  refine pdt_chain .le .le ?_ ?_ ?_
  exact pd_int
  refine pd_len ?_ ?_ ?_
  exact g_len
  exact T.b_len
  refine pr_of ?_
  refine pd_name ?_
  exact n_0
  refine pd_glob ⟨T.c_MOST_LETTERS⟩ ?_
  exact g_MOST_LETTERS
  refine pdss_one ?_
  refine pds_ret ?_
  exact pd_bl
  exact pdss_nil
  refine pdss_one ?_
  refine pds_ret ?_
  refine pd_all ?_ ?_ d.calm ?_
  exact g_all
  exact T.b_all
  refine pr_of ?_
  refine pd_of ?_
  refine pf_compS (N' := ["letter"]) (nt := 1) (cap := []) d.toDefX ?s1 ?s2 ?s3 ?_ ?_ (gext_name (by decide)) (sndG_name 0) ?_ ?_
  case s1 => exact ⟨by rfl,by decide +kernel,by decide +kernel,by decide +kernel,by rfl,by decide +kernel⟩
  case s2 => decide
  case s3 => decide +kernel
  refine pd_name ?_
  exact n_0
  intro cl C s2 H2 fp d1
  exact pg_nm (d1.nlc (i := 0) rfl rfl)
  intro cl C s2 H2 fp d1
  exact pdi_nil
  intro cl C s2 H2 fp d1
  refine pd_in ?_ ?_
  exact pd_name (d1.nm (i := 0) rfl (by first | exact .inl rfl | exact .inr (.inl rfl) | exact .inr (.inr rfl)))
  refine pr_of ?_
  exact pd_glob ⟨T.c_SMALL_LETTERS⟩ (d1.gl rfl)
theorem body_is_number_value (T:Txt P w K mg C0 C1 C2 C3 C4) :BodyOk P w K mg base (ct C0 C1 C2 C3 C4) ["thing"] s_is_number_value 0 F_is_number_value := by
  refine ⟨fun X hP hw hK hmg hb d hr => ?_⟩
  subst hP hw hK hmg hb
  have hS:defScope s_is_number_value = _ := (by (conv => lhs; whnf))
  rw [hS] at d
  have hB:defBody s_is_number_value = _ := (by (conv => lhs; whnf))
  rw [hB]
  have n_0:Nm X 0 "thing" := d.nm rfl (by first | exact .inl rfl | exact .inr (.inl rfl))
  have g_GREATEST_NUMBER:Gl X "GREATEST_NUMBER" := d.gl rfl
  have g_bool:Gl X "bool" := d.gl rfl
  have g_int:Gl X "int" := d.gl rfl
  have g_isinstance:Gl X "isinstance" := d.gl rfl
  have hu := hu_of hr
  delta F_is_number_value 
  refine pdss_cons ?_ ?_
  refine pds_if ?_ ?_ ?_
  refine PDW.pt ?_
  refine pdw_or ?_ ?_
  refine pdt_not ?_
  refine pdt_val ?_
  refine pd_isinst .int ?_ ?_ ?_ ?_ ?_
  exact g_isinstance
  exact T.b_isinstance
  exact g_int
  exact T.b_int
  refine pr_of ?_
  refine pd_name ?_
  exact n_0
  refine pdw_or1 ?_
  refine pdt_val ?_
  refine pd_isinst .bool ?_ ?_ ?_ ?_ ?_
  exact g_isinstance
  exact T.b_isinstance
  exact g_bool
  exact T.b_bool
  refine pr_of ?_
  refine pd_name ?_
  exact n_0
  refine pdss_one ?_
  refine pds_ret ?_
  exact pd_bl
  exact pdss_nil
  refine pdss_one ?_
  refine pds_ret ?_
  refine pd_chain .le .le ?_ ?_ ?_
  exact pd_int
  refine pd_name ?_
  exact n_0
  refine pd_glob ⟨T.c_GREATEST_NUMBER⟩ ?_
  exact g_GREATEST_NUMBER
theorem body_is_stretch (T:Txt P w K mg C0 C1 C2 C3 C4) :BodyOk P w K mg base (ct C0 C1 C2 C3 C4) ["thing", "least", "most"] s_is_stretch 0 F_is_stretch := by
  refine ⟨fun X hP hw hK hmg hb d hr => ?_⟩
  subst hP hw hK hmg hb
  have hS:defScope s_is_stretch = _ := (by (conv => lhs; whnf))
  rw [hS] at d
  have hB:defBody s_is_stretch = _ := (by (conv => lhs; whnf))
  rw [hB]
  have n_0:Nm X 0 "thing" := d.nm rfl (by first | exact .inl rfl | exact .inr (.inl rfl))
  have n_1:Nm X 1 "least" := d.nm rfl (by first | exact .inl rfl | exact .inr (.inl rfl))
  have n_2:Nm X 2 "most" := d.nm rfl (by first | exact .inl rfl | exact .inr (.inl rfl))
  have g_isinstance:Gl X "isinstance" := d.gl rfl
  have g_len:Gl X "len" := d.gl rfl
  have g_tuple:Gl X "tuple" := d.gl rfl
  have hu := hu_of hr
  delta F_is_stretch 
  refine pdss_one ?_
  refine pds_ret ?_
  refine pd_and ?_ ?_
  refine pd_isinst .tuple ?_ ?_ ?_ ?_ ?_
  exact g_isinstance
  exact T.b_isinstance
  exact g_tuple
  exact T.b_tuple
  refine pr_of ?_
  refine pd_name ?_
  exact n_0
  refine pd_one ?_
  refine pd_chain .le .le ?_ ?_ ?_
  refine pd_name ?_
  exact n_1
  refine pd_len ?_ ?_ ?_
  exact g_len
  exact T.b_len
  refine pr_of ?_
  refine pd_name ?_
  exact n_0
  refine pd_name ?_
  exact n_2
theorem body_are_bands (T:Txt P w K mg C0 C1 C2 C3 C4) (G_is_stretch:Def P w K mg base (ct C0 C1 C2 C3 C4) "is_stretch" ["thing", "least", "most"] 1 D_is_stretch):BodyOk P w K mg base (ct C0 C1 C2 C3 C4) ["thing"] s_are_bands 1 F_are_bands := by
  refine ⟨fun X hP hw hK hmg hb d hr => ?_⟩
  subst hP hw hK hmg hb
  have hS:defScope s_are_bands = _ := (by (conv => lhs; whnf))
  rw [hS] at d
  have hB:defBody s_are_bands = _ := (by (conv => lhs; whnf))
  rw [hB]
  have n_0:Nm X 0 "thing" := d.nm rfl (by first | exact .inl rfl | exact .inr (.inl rfl))
  have g_MOST_IN_TABLE:Gl X "MOST_IN_TABLE" := d.gl rfl
  have g_all:Gl X "all" := d.gl rfl
  have g_is_stretch:Gl X "is_stretch" := d.gl rfl
  have hu := hu_of hr
  delta F_are_bands CE_are_bands_2 CE_are_bands_1
  refine pdss_cons ?_ ?_
  refine pds_if ?_ ?_ ?_
  refine pdt_not ?_
  refine pdt_val ?_
  refine pd_def G_is_stretch hr ?s1 ?_ ?_
  case s1 => decide
  exact g_is_stretch
  refine pda_cons ?_ ?_
  refine pd_name ?_
  exact n_0
  refine pda_cons ?_ ?_
  exact pd_int
  refine pda_cons ?_ ?_
  refine pd_glob ⟨T.c_MOST_IN_TABLE⟩ ?_
  exact g_MOST_IN_TABLE
  exact pda_nil
  refine pdss_one ?_
  refine pds_ret ?_
  exact pd_bl
  exact pdss_nil
  refine pdss_cons ?_ ?_
  refine pds_if ?_ ?_ ?_
  refine pdt_not ?_
  refine pdt_val ?_
  refine pd_all ?_ ?_ d.calm ?_
  exact g_all
  exact T.b_all
  refine pr_of ?_
  refine pd_of ?_
  refine pf_comp (N' := ["band"]) (nt := 1) (cap := []) d.toDefX ?s1 ?s2 ?s3 ?_ ?_ (gext_name (by decide)) (sndG_name 0) ?_ ?_
  case s1 => exact ⟨by rfl,by decide +kernel,by decide +kernel,by decide +kernel,by rfl,by decide +kernel⟩
  case s2 => decide
  case s3 => decide +kernel
  refine pr_of ?_
  refine pd_name ?_
  exact n_0
  intro cl C s2 H2 fp d1
  exact pg_nm (d1.nlc (i := 0) rfl rfl)
  intro cl C s2 H2 fp d1
  exact pdi_nil
  intro cl C s2 H2 fp d1
  refine pd_def (X := compCx _ _ _ _ _ _ _ _) G_is_stretch hr ?s1 (d1.gl rfl) ?_
  case s1 => decide
  refine pda_cons ?_ ?_
  exact pd_name (d1.nm (i := 0) rfl (by first | exact .inl rfl | exact .inr (.inl rfl) | exact .inr (.inr rfl)))
  refine pda_cons ?_ ?_
  exact pd_int
  refine pda_cons ?_ ?_
  exact pd_glob ⟨T.c_MOST_IN_TABLE⟩ (d1.gl rfl)
  exact pda_nil
  refine pdss_one ?_
  refine pds_ret ?_
  exact pd_bl
  exact pdss_nil
  refine pdss_one ?_
  refine pds_ret ?_
  refine pd_all ?_ ?_ d.calm ?_
  exact g_all
  exact T.b_all
  refine pr_of ?_
  refine pd_of ?_
  refine pf_comp (N' := ["band", "thing"]) (nt := 1) (cap := [0]) d.toDefX ?s1 ?s2 ?s3 ?_ ?_ (gext_name (by decide)) (sndG_name 0) ?_ ?_
  case s1 => exact ⟨by rfl,by decide +kernel,by decide +kernel,by decide +kernel,by rfl,by decide +kernel⟩
  case s2 => decide
  case s3 => decide +kernel
  refine pr_of ?_
  refine pd_name ?_
  exact n_0
  intro cl C s2 H2 fp d1
  exact pg_nm (d1.nlc (i := 0) rfl rfl)
  intro cl C s2 H2 fp d1
  exact pdi_nil
  intro cl C s2 H2 fp d1
  refine pd_eq hr ?_ ?_
  refine pr_of ?_
  refine pd_len (d1.gl rfl) ?_ ?_
  exact T.b_len
  refine pr_of ?_
  exact pd_name (d1.nm (i := 0) rfl (by first | exact .inl rfl | exact .inr (.inl rfl) | exact .inr (.inr rfl)))
  refine pr_of ?_
  refine pd_len (d1.gl rfl) ?_ ?_
  exact T.b_len
  refine pr_of ?_
  refine pd_ix ?_ ?_
  refine pr_of ?_
  exact pd_name (d1.nm (i := 1) rfl (by first | exact .inl rfl | exact .inr (.inl rfl) | exact .inr (.inr rfl)))
  exact pd_int
theorem body_are_signs (T:Txt P w K mg C0 C1 C2 C3 C4) :BodyOk P w K mg base (ct C0 C1 C2 C3 C4) ["thing", "number"] s_are_signs 0 F_are_signs := by
  refine ⟨fun X hP hw hK hmg hb d hr => ?_⟩
  subst hP hw hK hmg hb
  have hS:defScope s_are_signs = _ := (by (conv => lhs; whnf))
  rw [hS] at d
  have hB:defBody s_are_signs = _ := (by (conv => lhs; whnf))
  rw [hB]
  have n_0:Nm X 0 "thing" := d.nm rfl (by first | exact .inl rfl | exact .inr (.inl rfl))
  have n_1:Nm X 1 "number" := d.nm rfl (by first | exact .inl rfl | exact .inr (.inl rfl))
  have g_all:Gl X "all" := d.gl rfl
  have g_isinstance:Gl X "isinstance" := d.gl rfl
  have g_len:Gl X "len" := d.gl rfl
  have g_str:Gl X "str" := d.gl rfl
  have hu := hu_of hr
  delta F_are_signs CE_are_signs_1
  refine pdss_one ?_
  refine pds_ret ?_
  refine pd_and ?_ ?_
  refine pd_isinst .str ?_ ?_ ?_ ?_ ?_
  exact g_isinstance
  exact T.b_isinstance
  exact g_str
  exact T.b_str
  refine pr_of ?_
  refine pd_name ?_
  exact n_0
  refine pd_and ?_ ?_
  refine pd_eq hr ?_ ?_
  refine pr_of ?_
  refine pd_len ?_ ?_ ?_
  exact g_len
  exact T.b_len
  refine pr_of ?_
  refine pd_name ?_
  exact n_0
  refine pr_of ?_
  refine pd_name ?_
  exact n_1
  refine pd_one ?_
  refine pd_all ?_ ?_ d.calm ?_
  exact g_all
  exact T.b_all
  refine pr_of ?_
  refine pd_of ?_
  refine pf_compS (N' := ["sign"]) (nt := 1) (cap := []) d.toDefX ?s1 ?s2 ?s3 ?_ ?_ (gext_name (by decide)) (sndG_name 0) ?_ ?_
  case s1 => exact ⟨by rfl,by decide +kernel,by decide +kernel,by decide +kernel,by rfl,by decide +kernel⟩
  case s2 => decide
  case s3 => decide +kernel
  refine pd_name ?_
  exact n_0
  intro cl C s2 H2 fp d1
  exact pg_nm (d1.nlc (i := 0) rfl rfl)
  intro cl C s2 H2 fp d1
  exact pdi_nil
  intro cl C s2 H2 fp d1
  refine pd_in ?_ ?_
  exact pd_name (d1.nm (i := 0) rfl (by first | exact .inl rfl | exact .inr (.inl rfl) | exact .inr (.inr rfl)))
  refine pr_of ?_
  exact pd_str (by decide +kernel)
theorem body_has_shell (T:Txt P w K mg C0 C1 C2 C3 C4) (G_is_word:Def P w K mg base (ct C0 C1 C2 C3 C4) "is_word" ["thing"] 1 D_is_word) (G_is_number_value:Def P w K mg base (ct C0 C1 C2 C3 C4) "is_number_value" ["thing"] 1 D_is_number_value) (G_are_bands:Def P w K mg base (ct C0 C1 C2 C3 C4) "are_bands" ["thing"] 2 D_are_bands) (G_is_stretch:Def P w K mg base (ct C0 C1 C2 C3 C4) "is_stretch" ["thing", "least", "most"] 1 D_is_stretch) (G_are_signs:Def P w K mg base (ct C0 C1 C2 C3 C4) "are_signs" ["thing", "number"] 1 D_are_signs):BodyOk P w K mg base (ct C0 C1 C2 C3 C4) ["thing", "kind"] s_has_shell 2 F_has_shell := by
  refine ⟨fun X hP hw hK hmg hb d hr => ?_⟩
  subst hP hw hK hmg hb
  have hS:defScope s_has_shell = _ := (by (conv => lhs; whnf))
  rw [hS] at d
  have hB:defBody s_has_shell = _ := (by (conv => lhs; whnf))
  rw [hB]
  have n_0:Nm X 0 "thing" := d.nm rfl (by first | exact .inl rfl | exact .inr (.inl rfl))
  have n_1:Nm X 1 "kind" := d.nm rfl (by first | exact .inl rfl | exact .inr (.inl rfl))
  have l_1:Nl X 1 "kind" := d.nl rfl (by first | exact .inl rfl | exact .inr rfl)
  have g_LENGTHS:Gl X "LENGTHS" := d.gl rfl
  have g_MOST_PARTS:Gl X "MOST_PARTS" := d.gl rfl
  have g_ROW_KINDS:Gl X "ROW_KINDS" := d.gl rfl
  have g_are_bands:Gl X "are_bands" := d.gl rfl
  have g_are_signs:Gl X "are_signs" := d.gl rfl
  have g_is_number_value:Gl X "is_number_value" := d.gl rfl
  have g_is_stretch:Gl X "is_stretch" := d.gl rfl
  have g_is_word:Gl X "is_word" := d.gl rfl
  have g_isinstance:Gl X "isinstance" := d.gl rfl
  have g_len:Gl X "len" := d.gl rfl
  have g_str:Gl X "str" := d.gl rfl
  have g_tuple:Gl X "tuple" := d.gl rfl
  have hu := hu_of hr
  delta F_has_shell 
  refine pdss_cons ?_ ?_
  refine pds_if ?_ ?_ ?_
  refine PDW.pt ?_
  refine pdw_or ?_ ?_
  refine pdt_not ?_
  refine pdt_val ?_
  refine pd_isinst .tuple ?_ ?_ ?_ ?_ ?_
  exact g_isinstance
  exact T.b_isinstance
  exact g_tuple
  exact T.b_tuple
  refine pr_of ?_
  refine pd_name ?_
  exact n_0
  refine pdw_or ?_ ?_
  refine pdt_eq hr ?_ ?_
  refine pr_of ?_
  refine pd_len ?_ ?_ ?_
  exact g_len
  exact T.b_len
  refine pr_of ?_
  refine pd_name ?_
  exact n_0
  refine pr_of ?_
  exact pd_int
  refine pdw_or1 ?_
  refine pdt_not ?_
  refine pdt_val ?_
  refine pd_isinst .str ?_ ?_ ?_ ?_ ?_
  exact g_isinstance
  exact T.b_isinstance
  exact g_str
  exact T.b_str
  refine pr_of ?_
  refine pd_ix ?_ ?_
  refine pr_of ?_
  refine pd_name ?_
  exact n_0
  exact pd_int
  refine pdss_one ?_
  refine pds_ret ?_
  exact pd_bl
  exact pdss_nil
  refine pdss_cons ?_ ?_
  refine pds_set ?_ ?_
  exact l_1
  refine pd_ix ?_ ?_
  refine pr_of ?_
  refine pd_name ?_
  exact n_0
  exact pd_int
  refine pdss_cons ?_ ?_
  refine pds_if ?_ ?_ ?_
  refine PDW.pt ?_
  refine pdw_or ?_ ?_
  refine pdt_tnotIn ⟨T.t_LENGTHS⟩ ?_ ?_
  exact g_LENGTHS
  refine pd_name ?_
  exact n_1
  refine pdw_or1 ?_
  refine pdt_ne hr ?_ ?_
  refine pr_of ?_
  refine pd_len ?_ ?_ ?_
  exact g_len
  exact T.b_len
  refine pr_of ?_
  refine pd_name ?_
  exact n_0
  refine pr_of ?_
  refine pd_tab ⟨T.t_LENGTHS⟩ ?_ ?_
  exact g_LENGTHS
  refine pd_name ?_
  exact n_1
  refine pdss_one ?_
  refine pds_ret ?_
  exact pd_bl
  exact pdss_nil
  refine pdss_cons ?_ ?_
  refine pds_if ?_ ?_ ?_
  refine pdt_eq hr ?_ ?_
  refine pr_of ?_
  refine pd_name ?_
  exact n_1
  refine pr_of ?_
  exact pd_str (by decide +kernel)
  refine pdss_one ?_
  refine pds_ret ?_
  refine pd_def G_is_word hr ?s1 ?_ ?_
  case s1 => decide
  exact g_is_word
  refine pda_cons ?_ ?_
  refine pd_ix ?_ ?_
  refine pr_of ?_
  refine pd_name ?_
  exact n_0
  exact pd_int
  exact pda_nil
  exact pdss_nil
  refine pdss_cons ?_ ?_
  refine pds_if ?_ ?_ ?_
  refine pdt_eq hr ?_ ?_
  refine pr_of ?_
  refine pd_name ?_
  exact n_1
  refine pr_of ?_
  exact pd_str (by decide +kernel)
  refine pdss_one ?_
  refine pds_ret ?_
  refine pd_def G_is_number_value hr ?s1 ?_ ?_
  case s1 => decide
  exact g_is_number_value
  refine pda_cons ?_ ?_
  refine pd_ix ?_ ?_
  refine pr_of ?_
  refine pd_name ?_
  exact n_0
  exact pd_int
  exact pda_nil
  exact pdss_nil
  refine pdss_cons ?_ ?_
  refine pds_if ?_ ?_ ?_
  refine pdt_in ?_ ?_
  refine pd_name ?_
  exact n_1
  refine pr_of ?_
  refine pd_glob ⟨T.c_ROW_KINDS⟩ ?_
  exact g_ROW_KINDS
  refine pdss_one ?_
  refine pds_ret ?_
  refine pd_and ?_ ?_
  refine pd_def G_is_stretch hr ?s1 ?_ ?_
  case s1 => decide
  exact g_is_stretch
  refine pda_cons ?_ ?_
  refine pd_ix ?_ ?_
  refine pr_of ?_
  refine pd_name ?_
  exact n_0
  exact pd_int
  refine pda_cons ?_ ?_
  exact pd_int
  refine pda_cons ?_ ?_
  refine pd_glob ⟨T.c_MOST_PARTS⟩ ?_
  exact g_MOST_PARTS
  exact pda_nil
  refine pd_one ?_
  refine pd_or ?_ ?_
  refine pd_ne hr ?_ ?_
  refine pr_of ?_
  refine pd_name ?_
  exact n_1
  refine pr_of ?_
  exact pd_str (by decide +kernel)
  refine pd_one ?_
  refine pd_def G_are_signs hr ?s1 ?_ ?_
  case s1 => decide
  exact g_are_signs
  refine pda_cons ?_ ?_
  refine pd_ix ?_ ?_
  refine pr_of ?_
  refine pd_name ?_
  exact n_0
  exact pd_int
  refine pda_cons ?_ ?_
  refine pd_sub ?_ ?_
  refine pd_len ?_ ?_ ?_
  exact g_len
  exact T.b_len
  refine pr_of ?_
  refine pd_ix ?_ ?_
  refine pr_of ?_
  refine pd_name ?_
  exact n_0
  exact pd_int
  exact pd_int
  exact pda_nil
  exact pdss_nil
  refine pdss_cons ?_ ?_
  refine pds_if ?_ ?_ ?_
  refine pdt_eq hr ?_ ?_
  refine pr_of ?_
  refine pd_name ?_
  exact n_1
  refine pr_of ?_
  exact pd_str (by decide +kernel)
  refine pdss_one ?_
  refine pds_ret ?_
  refine pd_or ?_ ?_
  refine pd_isnotN ?_
  refine pr_of ?_
  refine pd_ix ?_ ?_
  refine pr_of ?_
  refine pd_name ?_
  exact n_0
  exact pd_int
  refine pd_one ?_
  refine pd_isnotN ?_
  refine pr_of ?_
  refine pd_ix ?_ ?_
  refine pr_of ?_
  refine pd_name ?_
  exact n_0
  exact pd_int
  exact pdss_nil
  refine pdss_one ?_
  refine pds_ret ?_
  refine pd_or ?_ ?_
  refine pd_ne hr ?_ ?_
  refine pr_of ?_
  refine pd_name ?_
  exact n_1
  refine pr_of ?_
  exact pd_str (by decide +kernel)
  refine pd_one ?_
  refine pd_def G_are_bands hr ?s1 ?_ ?_
  case s1 => decide
  exact g_are_bands
  refine pda_cons ?_ ?_
  refine pd_ix ?_ ?_
  refine pr_of ?_
  refine pd_name ?_
  exact n_0
  exact pd_int
  exact pda_nil
theorem body_level_of (T:Txt P w K mg C0 C1 C2 C3 C4) :BodyOk P w K mg base (ct C0 C1 C2 C3 C4) ["f"] s_level_of 0 F_level_of := by
  refine ⟨fun X hP hw hK hmg hb d hr => ?_⟩
  subst hP hw hK hmg hb
  have hS:defScope s_level_of = _ := (by (conv => lhs; whnf))
  rw [hS] at d
  have hB:defBody s_level_of = _ := (by (conv => lhs; whnf))
  rw [hB]
  have n_0:Nm X 0 "f" := d.nm rfl (by first | exact .inl rfl | exact .inr (.inl rfl))
  have g_LEVELS:Gl X "LEVELS" := d.gl rfl
  have hu := hu_of hr
  delta F_level_of 
  refine pdss_one ?_
  refine pds_ret ?_
  refine pd_tab ⟨T.t_LEVELS⟩ ?_ ?_
  exact g_LEVELS
  refine pd_ix ?_ ?_
  refine pr_of ?_
  refine pd_name ?_
  exact n_0
  exact pd_int
theorem body_least_level (T:Txt P w K mg C0 C1 C2 C3 C4) (G_level_of:Def P w K mg base (ct C0 C1 C2 C3 C4) "level_of" ["f"] 1 D_level_of):BodyOk P w K mg base (ct C0 C1 C2 C3 C4) ["f", "n", "kind"] s_least_level 1 F_least_level := by
  refine ⟨fun X hP hw hK hmg hb d hr => ?_⟩
  subst hP hw hK hmg hb
  have hS:defScope s_least_level = _ := (by (conv => lhs; whnf))
  rw [hS] at d
  have hB:defBody s_least_level = _ := (by (conv => lhs; whnf))
  rw [hB]
  have n_0:Nm X 0 "f" := d.nm rfl (by first | exact .inl rfl | exact .inr (.inl rfl))
  have n_1:Nm X 1 "n" := d.nm rfl (by first | exact .inl rfl | exact .inr (.inl rfl))
  have n_2:Nm X 2 "kind" := d.nm rfl (by first | exact .inl rfl | exact .inr (.inl rfl))
  have l_2:Nl X 2 "kind" := d.nl rfl (by first | exact .inl rfl | exact .inr rfl)
  have g_ROW_KINDS:Gl X "ROW_KINDS" := d.gl rfl
  have g_level_of:Gl X "level_of" := d.gl rfl
  have hu := hu_of hr
  delta F_least_level 
  refine pdss_cons ?_ ?_
  refine pds_set ?_ ?_
  exact l_2
  refine pd_ix ?_ ?_
  refine pr_of ?_
  refine pd_name ?_
  exact n_0
  exact pd_int
  refine pdss_cons ?_ ?_
  refine pds_if ?_ ?_ ?_
  refine pdt_in ?_ ?_
  refine pd_name ?_
  exact n_2
  refine pr_of ?_
  refine pd_glob ⟨T.c_ROW_KINDS⟩ ?_
  exact g_ROW_KINDS
  refine pdss_one ?_
  refine pds_ret ?_
  refine pd_add ?_ ?_
  refine pr_of ?_
  refine pd_def G_level_of hr ?s1 ?_ ?_
  case s1 => decide
  exact g_level_of
  refine pda_cons ?_ ?_
  refine pd_name ?_
  exact n_0
  exact pda_nil
  refine pr_of ?_
  exact pd_int
  exact pdss_nil
  refine pdss_one ?_
  refine pds_ret ?_
  refine pd_ifExp ?_ ?_ ?_
  refine PDW.pt ?_
  refine pdw_and ?_ ?_
  refine pdt_eq hr ?_ ?_
  refine pr_of ?_
  refine pd_name ?_
  exact n_2
  refine pr_of ?_
  exact pd_str (by decide +kernel)
  refine pdw_and1 ?_
  refine pdt_eq hr ?_ ?_
  refine pr_of ?_
  refine pd_name ?_
  exact n_1
  refine pr_of ?_
  exact pd_int
  exact pd_int
  exact pd_int
theorem body_holds_table (T:Txt P w K mg C0 C1 C2 C3 C4) (G_parts_of:DefF P w K mg base (ct C0 C1 C2 C3 C4) "parts_of" ["f"] 2 D_parts_of) {kr:Nat} (hk : 2 ≤ kr) {D_holds_table:List D → Option (D)} (G_holds_table:Def P w K mg base (ct C0 C1 C2 C3 C4) "holds_table" ["f"] kr D_holds_table):BodyOk P w K mg base (ct C0 C1 C2 C3 C4) ["f"] s_holds_table kr (F_holds_table D_holds_table) := by
  refine ⟨fun X hP hw hK hmg hb d hr => ?_⟩
  subst hP hw hK hmg hb
  have hS:defScope s_holds_table = _ := (by (conv => lhs; whnf))
  rw [hS] at d
  have hB:defBody s_holds_table = _ := (by (conv => lhs; whnf))
  rw [hB]
  have n_0:Nm X 0 "f" := d.nm rfl (by first | exact .inl rfl | exact .inr (.inl rfl))
  have g_any:Gl X "any" := d.gl rfl
  have g_parts_of:Gl X "parts_of" := d.gl rfl
  have hu := hu_of hr
  delta F_holds_table 
  refine pdss_one ?_
  refine pds_ret ?_
  refine pd_or ?_ ?_
  refine pd_eq hr ?_ ?_
  refine pr_of ?_
  refine pd_ix ?_ ?_
  refine pr_of ?_
  refine pd_name ?_
  exact n_0
  exact pd_int
  refine pr_of ?_
  exact pd_str (by decide +kernel)
  refine pd_one ?_
  refine pd_any ?_ ?_ d.calm ?_
  exact g_any
  exact T.b_any
  refine pr_of ?_
  refine pd_of ?_
  refine pf_comp (N' := ["part"]) (nt := 1) (cap := []) d.toDefX ?s1 ?s2 ?s3 ?_ ?_ (gext_name (by decide)) (sndG_name 0) ?_ ?_
  case s1 => exact ⟨by rfl,by decide +kernel,by decide +kernel,by decide +kernel,by rfl,by decide +kernel⟩
  case s2 => first | decide | omega
  case s3 => decide +kernel
  refine pr_of ?_
  refine pd_of ?_
  refine pf_def G_parts_of hr ?s1 ?_ ?_
  case s1 => first | decide | omega
  exact g_parts_of
  refine pda_cons ?_ ?_
  refine pd_name ?_
  exact n_0
  exact pda_nil
  intro cl C s2 H2 fp d1
  exact pg_nm (d1.nlc (i := 0) rfl rfl)
  intro cl C s2 H2 fp d1
  exact pdi_nil
  intro cl C s2 H2 fp d1
  refine pd_def (X := compCx _ _ _ _ _ _ _ _) G_holds_table hr ?s1 (d1.gl rfl) ?_
  case s1 => first | decide | omega
  refine pda_cons ?_ ?_
  exact pd_name (d1.nm (i := 0) rfl (by first | exact .inl rfl | exact .inr (.inl rfl) | exact .inr (.inr rfl)))
  exact pda_nil
theorem body_has_form (T:Txt P w K mg C0 C1 C2 C3 C4) (G_parts_of:DefF P w K mg base (ct C0 C1 C2 C3 C4) "parts_of" ["f"] 2 D_parts_of) (G_has_shell:Def P w K mg base (ct C0 C1 C2 C3 C4) "has_shell" ["thing"] 3 D_has_shell) (G_level_of:Def P w K mg base (ct C0 C1 C2 C3 C4) "level_of" ["f"] 1 D_level_of) (G_least_level:Def P w K mg base (ct C0 C1 C2 C3 C4) "least_level" ["f", "n"] 2 D_least_level) (G_holds_table:Def P w K mg base (ct C0 C1 C2 C3 C4) "holds_table" ["f"] 18 D_holds_table) {kr:Nat} (hk : 18 ≤ kr) {D_has_form:List D → Option (D)} (G_has_form:Def P w K mg base (ct C0 C1 C2 C3 C4) "has_form" ["thing"] kr D_has_form):BodyOk P w K mg base (ct C0 C1 C2 C3 C4) ["thing", "parts", "n", "part"] s_has_form kr (F_has_form D_has_form) := by
  refine ⟨fun X hP hw hK hmg hb d hr => ?_⟩
  subst hP hw hK hmg hb
  have hS:defScope s_has_form = _ := (by (conv => lhs; whnf))
  rw [hS] at d
  have hB:defBody s_has_form = _ := (by (conv => lhs; whnf))
  rw [hB]
  have n_0:Nm X 0 "thing" := d.nm rfl (by first | exact .inl rfl | exact .inr (.inl rfl))
  have n_1:Nm X 1 "parts" := d.nm rfl (by first | exact .inl rfl | exact .inr (.inl rfl))
  have n_2:Nm X 2 "n" := d.nm rfl (by first | exact .inl rfl | exact .inr (.inl rfl))
  have n_3:Nm X 3 "part" := d.nm rfl (by first | exact .inl rfl | exact .inr (.inl rfl))
  have l_1:Nl X 1 "parts" := d.nl rfl (by first | exact .inl rfl | exact .inr rfl)
  have l_2:Nl X 2 "n" := d.nl rfl (by first | exact .inl rfl | exact .inr rfl)
  have l_3:Nl X 3 "part" := d.nl rfl (by first | exact .inl rfl | exact .inr rfl)
  have g_any:Gl X "any" := d.gl rfl
  have g_enumerate:Gl X "enumerate" := d.gl rfl
  have g_has_form:Gl X "has_form" := d.gl rfl
  have g_has_shell:Gl X "has_shell" := d.gl rfl
  have g_least_level:Gl X "least_level" := d.gl rfl
  have g_level_of:Gl X "level_of" := d.gl rfl
  have g_parts_of:Gl X "parts_of" := d.gl rfl
  have hu := hu_of hr
  delta F_has_form 
  refine pdss_cons ?_ ?_
  refine pds_if ?_ ?_ ?_
  refine pdt_not ?_
  refine pdt_val ?_
  refine pd_def G_has_shell hr ?s1 ?_ ?_
  case s1 => first | decide | omega
  exact g_has_shell
  refine pda_cons ?_ ?_
  refine pd_name ?_
  exact n_0
  exact pda_nil
  refine pdss_one ?_
  refine pds_ret ?_
  exact pd_bl
  exact pdss_nil
  refine pdss_cons ?_ ?_
  refine pds_set ?_ ?_
  exact l_1
  refine pd_of ?_
  refine pf_def G_parts_of hr ?s1 ?_ ?_
  case s1 => first | decide | omega
  exact g_parts_of
  refine pda_cons ?_ ?_
  refine pd_name ?_
  exact n_0
  exact pda_nil
  refine pdss_cons ?_ ?_
  refine pds_forE d.never d.calm (sndG_tup (sndGs_cons 2 (sndGs_cons 3 sndGs_nil))) ?_ ?_ ?_ ?_ ?_
  refine pg_tup d.calm ?_
  refine pgs_cons ?_ ?_
  refine pg_nm ?_
  exact l_2
  refine pgs_cons ?_ ?_
  refine pg_nm ?_
  exact l_3
  exact pgs_nil
  exact g_enumerate
  exact T.b_enumerate
  refine pd_name ?_
  exact n_1
  refine pdss_one ?_
  refine pds_if ?_ ?_ ?_
  refine PDW.pt ?_
  refine pdw_or ?_ ?_
  refine pdt_not ?_
  refine pdt_val ?_
  refine pd_def G_has_form hr ?s1 ?_ ?_
  case s1 => first | decide | omega
  exact g_has_form
  refine pda_cons ?_ ?_
  refine pd_name ?_
  exact n_3
  exact pda_nil
  refine pdw_or1 ?_
  refine pdt_lt ?_ ?_
  refine pd_def G_level_of hr ?s1 ?_ ?_
  case s1 => first | decide | omega
  exact g_level_of
  refine pda_cons ?_ ?_
  refine pd_name ?_
  exact n_3
  exact pda_nil
  refine pd_def G_least_level hr ?s1 ?_ ?_
  case s1 => first | decide | omega
  exact g_least_level
  refine pda_cons ?_ ?_
  refine pd_name ?_
  exact n_0
  refine pda_cons ?_ ?_
  refine pd_name ?_
  exact n_2
  exact pda_nil
  refine pdss_one ?_
  refine pds_ret ?_
  exact pd_bl
  exact pdss_nil
  refine pdss_one ?_
  refine pds_ret ?_
  refine pd_or ?_ ?_
  refine pd_ne hr ?_ ?_
  refine pr_of ?_
  refine pd_ix ?_ ?_
  refine pr_of ?_
  refine pd_name ?_
  exact n_0
  exact pd_int
  refine pr_of ?_
  exact pd_str (by decide +kernel)
  refine pd_one ?_
  refine pd_not ?_
  refine pd_any ?_ ?_ d.calm ?_
  exact g_any
  exact T.b_any
  refine pr_of ?_
  refine pd_of ?_
  refine pf_comp (N' := ["part"]) (nt := 1) (cap := []) d.toDefX ?s1 ?s2 ?s3 ?_ ?_ (gext_name (by decide)) (sndG_name 0) ?_ ?_
  case s1 => exact ⟨by rfl,by decide +kernel,by decide +kernel,by decide +kernel,by rfl,by decide +kernel⟩
  case s2 => first | decide | omega
  case s3 => decide +kernel
  refine pr_of ?_
  refine pd_name ?_
  exact n_1
  intro cl C s2 H2 fp d1
  exact pg_nm (d1.nlc (i := 0) rfl rfl)
  intro cl C s2 H2 fp d1
  exact pdi_nil
  intro cl C s2 H2 fp d1
  refine pd_def (X := compCx _ _ _ _ _ _ _ _) G_holds_table hr ?s1 (d1.gl rfl) ?_
  case s1 => first | decide | omega
  refine pda_cons ?_ ?_
  exact pd_name (d1.nm (i := 0) rfl (by first | exact .inl rfl | exact .inr (.inl rfl) | exact .inr (.inr rfl)))
  exact pda_nil
theorem body_depth_of (T:Txt P w K mg C0 C1 C2 C3 C4) (G_parts_of:DefF P w K mg base (ct C0 C1 C2 C3 C4) "parts_of" ["f"] 2 D_parts_of) {kr:Nat} (hk : 2 ≤ kr) {D_depth_of:List D → Option (D)} (G_depth_of:Def P w K mg base (ct C0 C1 C2 C3 C4) "depth_of" ["f"] kr D_depth_of):BodyOk P w K mg base (ct C0 C1 C2 C3 C4) ["f"] s_depth_of kr (F_depth_of D_depth_of) := by
  refine ⟨fun X hP hw hK hmg hb d hr => ?_⟩
  subst hP hw hK hmg hb
  have hS:defScope s_depth_of = _ := (by (conv => lhs; whnf))
  rw [hS] at d
  have hB:defBody s_depth_of = _ := (by (conv => lhs; whnf))
  rw [hB]
  have n_0:Nm X 0 "f" := d.nm rfl (by first | exact .inl rfl | exact .inr (.inl rfl))
  have g_max:Gl X "max" := d.gl rfl
  have g_parts_of:Gl X "parts_of" := d.gl rfl
  have hu := hu_of hr
  delta F_depth_of 
  refine pdss_one ?_
  refine pds_ret ?_
  refine pd_add ?_ ?_
  refine pr_of ?_
  exact pd_int
  refine pr_of ?_
  refine pd_maxdf ?_ ?_ d.calm ?_ ?_
  exact g_max
  exact T.b_max
  refine pr_of ?_
  refine pd_of ?_
  refine pf_comp (N' := ["part"]) (nt := 1) (cap := []) d.toDefX ?s1 ?s2 ?s3 ?_ ?_ (gext_name (by decide)) (sndG_name 0) ?_ ?_
  case s1 => exact ⟨by rfl,by decide +kernel,by decide +kernel,by decide +kernel,by rfl,by decide +kernel⟩
  case s2 => first | decide | omega
  case s3 => decide +kernel
  refine pr_of ?_
  refine pd_of ?_
  refine pf_def G_parts_of hr ?s1 ?_ ?_
  case s1 => first | decide | omega
  exact g_parts_of
  refine pda_cons ?_ ?_
  refine pd_name ?_
  exact n_0
  exact pda_nil
  intro cl C s2 H2 fp d1
  exact pg_nm (d1.nlc (i := 0) rfl rfl)
  intro cl C s2 H2 fp d1
  exact pdi_nil
  intro cl C s2 H2 fp d1
  refine pd_def (X := compCx _ _ _ _ _ _ _ _) G_depth_of hr ?s1 (d1.gl rfl) ?_
  case s1 => first | decide | omega
  refine pda_cons ?_ ?_
  exact pd_name (d1.nm (i := 0) rfl (by first | exact .inl rfl | exact .inr (.inl rfl) | exact .inr (.inr rfl)))
  exact pda_nil
  exact pd_int
theorem body_count_of (T:Txt P w K mg C0 C1 C2 C3 C4) (G_parts_of:DefF P w K mg base (ct C0 C1 C2 C3 C4) "parts_of" ["f"] 2 D_parts_of) {kr:Nat} (hk : 2 ≤ kr) {D_count_of:List D → Option (D)} (G_count_of:Def P w K mg base (ct C0 C1 C2 C3 C4) "count_of" ["f"] kr D_count_of):BodyOk P w K mg base (ct C0 C1 C2 C3 C4) ["f"] s_count_of kr (F_count_of D_count_of) := by
  refine ⟨fun X hP hw hK hmg hb d hr => ?_⟩
  subst hP hw hK hmg hb
  have hS:defScope s_count_of = _ := (by (conv => lhs; whnf))
  rw [hS] at d
  have hB:defBody s_count_of = _ := (by (conv => lhs; whnf))
  rw [hB]
  have n_0:Nm X 0 "f" := d.nm rfl (by first | exact .inl rfl | exact .inr (.inl rfl))
  have g_parts_of:Gl X "parts_of" := d.gl rfl
  have g_sum:Gl X "sum" := d.gl rfl
  have hu := hu_of hr
  delta F_count_of 
  refine pdss_one ?_
  refine pds_ret ?_
  refine pd_add ?_ ?_
  refine pr_of ?_
  exact pd_int
  refine pr_of ?_
  refine pd_sum ?_ ?_ d.calm ?_
  exact g_sum
  exact T.b_sum
  refine pr_of ?_
  refine pd_of ?_
  refine pf_comp (N' := ["part"]) (nt := 1) (cap := []) d.toDefX ?s1 ?s2 ?s3 ?_ ?_ (gext_name (by decide)) (sndG_name 0) ?_ ?_
  case s1 => exact ⟨by rfl,by decide +kernel,by decide +kernel,by decide +kernel,by rfl,by decide +kernel⟩
  case s2 => first | decide | omega
  case s3 => decide +kernel
  refine pr_of ?_
  refine pd_of ?_
  refine pf_def G_parts_of hr ?s1 ?_ ?_
  case s1 => first | decide | omega
  exact g_parts_of
  refine pda_cons ?_ ?_
  refine pd_name ?_
  exact n_0
  exact pda_nil
  intro cl C s2 H2 fp d1
  exact pg_nm (d1.nlc (i := 0) rfl rfl)
  intro cl C s2 H2 fp d1
  exact pdi_nil
  intro cl C s2 H2 fp d1
  refine pd_def (X := compCx _ _ _ _ _ _ _ _) G_count_of hr ?s1 (d1.gl rfl) ?_
  case s1 => first | decide | omega
  refine pda_cons ?_ ?_
  exact pd_name (d1.nm (i := 0) rfl (by first | exact .inl rfl | exact .inr (.inl rfl) | exact .inr (.inr rfl)))
  exact pda_nil
theorem body_is_formula (T:Txt P w K mg C0 C1 C2 C3 C4) (G_has_form:Def P w K mg base (ct C0 C1 C2 C3 C4) "has_form" ["thing"] 34 D_has_form) (G_depth_of:Def P w K mg base (ct C0 C1 C2 C3 C4) "depth_of" ["f"] 18 D_depth_of) (G_count_of:Def P w K mg base (ct C0 C1 C2 C3 C4) "count_of" ["f"] 18 D_count_of):BodyOk P w K mg base (ct C0 C1 C2 C3 C4) ["thing"] s_is_formula 34 F_is_formula := by
  refine ⟨fun X hP hw hK hmg hb d hr => ?_⟩
  subst hP hw hK hmg hb
  have hS:defScope s_is_formula = _ := (by (conv => lhs; whnf))
  rw [hS] at d
  have hB:defBody s_is_formula = _ := (by (conv => lhs; whnf))
  rw [hB]
  have n_0:Nm X 0 "thing" := d.nm rfl (by first | exact .inl rfl | exact .inr (.inl rfl))
  have g_MOST_COUNT:Gl X "MOST_COUNT" := d.gl rfl
  have g_MOST_DEPTH:Gl X "MOST_DEPTH" := d.gl rfl
  have g_count_of:Gl X "count_of" := d.gl rfl
  have g_depth_of:Gl X "depth_of" := d.gl rfl
  have g_has_form:Gl X "has_form" := d.gl rfl
  have hu := hu_of hr
  delta F_is_formula 
  refine pdss_one ?_
  refine pds_ret ?_
  refine pd_and ?_ ?_
  refine pd_def G_has_form hr ?s1 ?_ ?_
  case s1 => decide
  exact g_has_form
  refine pda_cons ?_ ?_
  refine pd_name ?_
  exact n_0
  exact pda_nil
  refine pd_and ?_ ?_
  refine pd_le ?_ ?_
  refine pd_def G_depth_of hr ?s1 ?_ ?_
  case s1 => decide
  exact g_depth_of
  refine pda_cons ?_ ?_
  refine pd_name ?_
  exact n_0
  exact pda_nil
  refine pd_glob ⟨T.c_MOST_DEPTH⟩ ?_
  exact g_MOST_DEPTH
  refine pd_one ?_
  refine pd_le ?_ ?_
  refine pd_def G_count_of hr ?s1 ?_ ?_
  case s1 => decide
  exact g_count_of
  refine pda_cons ?_ ?_
  refine pd_name ?_
  exact n_0
  exact pda_nil
  refine pd_glob ⟨T.c_MOST_COUNT⟩ ?_
  exact g_MOST_COUNT
theorem body_let_by (T:Txt P w K mg C0 C1 C2 C3 C4) (G_is_formula:Def P w K mg base (ct C0 C1 C2 C3 C4) "is_formula" ["thing"] 35 D_is_formula):BodyX P w K mg base (ct C0 C1 C2 C3 C4) ["f"] s_let_by 35 F_let_by := by
  refine ⟨fun X xq hP hw hK hmg hb d hr xr => ?_⟩
  subst hP hw hK hmg hb
  have hS:defScope s_let_by = _ := (by (conv => lhs; whnf))
  rw [hS] at d
  have hB:defBody s_let_by = _ := (by (conv => lhs; whnf))
  rw [hB]
  have n_0:Nm X 0 "f" := d.nm rfl (by first | exact .inl rfl | exact .inr (.inl rfl))
  have g_NoFormula:Gl X "NoFormula" := d.gl rfl
  have g_is_formula:Gl X "is_formula" := d.gl rfl
  have hu := hu_of hr
  delta F_let_by 
  refine pdss_cons ?_ ?_
  refine pds_if ?_ ?_ ?_
  refine pdt_not ?_
  refine pdt_val ?_
  refine pd_def G_is_formula hr ?s1 ?_ ?_
  case s1 => decide
  exact g_is_formula
  refine pda_cons ?_ ?_
  refine pd_name ?_
  exact n_0
  exact pda_nil
  refine pdss_one ?_
  refine pds_raise xr T.ex_NoFormula ?_ d.calm ?_
  exact g_NoFormula
  exact pd_str (by decide +kernel)
  exact pdss_nil
  refine pdss_one ?_
  refine pds_ret ?_
  refine pd_name ?_
  exact n_0
theorem body_marked_again (T:Txt P w K mg C0 C1 C2 C3 C4) :BodyOk P w K mg base (ct C0 C1 C2 C3 C4) ["f", "some", "again", "taken", "mark"] s_marked_again 0 F_marked_again := by
  refine ⟨fun X hP hw hK hmg hb d hr => ?_⟩
  subst hP hw hK hmg hb
  have hS:defScope s_marked_again = _ := (by (conv => lhs; whnf))
  rw [hS] at d
  have hB:defBody s_marked_again = _ := (by (conv => lhs; whnf))
  rw [hB]
  have n_0:Nm X 0 "f" := d.nm rfl (by first | exact .inl rfl | exact .inr (.inl rfl))
  have n_1:Nm X 1 "some" := d.nm rfl (by first | exact .inl rfl | exact .inr (.inl rfl))
  have n_2:Nm X 2 "again" := d.nm rfl (by first | exact .inl rfl | exact .inr (.inl rfl))
  have n_3:Nm X 3 "taken" := d.nm rfl (by first | exact .inl rfl | exact .inr (.inl rfl))
  have n_4:Nm X 4 "mark" := d.nm rfl (by first | exact .inl rfl | exact .inr (.inl rfl))
  have l_2:Nl X 2 "again" := d.nl rfl (by first | exact .inl rfl | exact .inr rfl)
  have l_3:Nl X 3 "taken" := d.nl rfl (by first | exact .inl rfl | exact .inr rfl)
  have l_4:Nl X 4 "mark" := d.nl rfl (by first | exact .inl rfl | exact .inr rfl)
  have g_tuple:Gl X "tuple" := d.gl rfl
  have hu := hu_of hr
  delta F_marked_again LB_marked_again_1
  refine pdss_cons ?_ ?_
  refine pds_own ?_ ?_
  exact l_2
  refine pf_lst ?_
  refine pda_cons ?_ ?_
  exact pd_str (by decide +kernel)
  refine pda_cons ?_ ?_
  refine pd_ix ?_ ?_
  refine pr_of ?_
  refine pd_name ?_
  exact n_1
  exact pd_int
  exact pda_nil
  refine pdss_cons ?_ ?_
  refine pds_set ?_ ?_
  exact l_3
  exact pd_int
  refine pdss_cons ?_ ?_
  refine pds_for d.never d.calm (sndG_name 4) ?_ ?_ ?_
  refine pg_nm ?_
  exact l_4
  refine pd_sl ?_ ?_ ?_
  refine pr_of ?_
  refine pd_name ?_
  exact n_0
  refine pdo_some ?_
  exact pd_int
  exact pdo_none
  refine pdss_one ?_
  refine pds_if ?_ ?_ ?_
  refine pdt_isN ?_
  refine pr_of ?_
  refine pd_name ?_
  exact n_4
  refine pdss_one ?_
  refine pds_append ?_ ?_
  exact n_2
  exact pd_non
  refine pdss_cons ?_ ?_
  refine pds_append ?_ ?_
  exact n_2
  refine pd_ix ?_ ?_
  refine pr_of ?_
  refine pd_name ?_
  exact n_1
  refine pd_name ?_
  exact n_3
  refine pdss_one ?_
  refine pds_aug_add ?_ ?_
  exact l_3
  exact pd_int
  refine pdss_one ?_
  refine pds_ret ?_
  refine pd_tuple ?_ ?_ ?_
  exact g_tuple
  exact T.b_tuple
  refine pr_name ?_
  exact n_2
theorem body_bands_again (T:Txt P w K mg C0 C1 C2 C3 C4) :BodyOk P w K mg base (ct C0 C1 C2 C3 C4) ["bands", "some", "wide"] s_bands_again 0 F_bands_again := by
  refine ⟨fun X hP hw hK hmg hb d hr => ?_⟩
  subst hP hw hK hmg hb
  have hS:defScope s_bands_again = _ := (by (conv => lhs; whnf))
  rw [hS] at d
  have hB:defBody s_bands_again = _ := (by (conv => lhs; whnf))
  rw [hB]
  have n_0:Nm X 0 "bands" := d.nm rfl (by first | exact .inl rfl | exact .inr (.inl rfl))
  have l_2:Nl X 2 "wide" := d.nl rfl (by first | exact .inl rfl | exact .inr rfl)
  have g_len:Gl X "len" := d.gl rfl
  have g_range:Gl X "range" := d.gl rfl
  have g_tuple:Gl X "tuple" := d.gl rfl
  have hu := hu_of hr
  delta F_bands_again CE_bands_again_1
  refine pdss_cons ?_ ?_
  refine pds_set ?_ ?_
  exact l_2
  refine pd_len ?_ ?_ ?_
  exact g_len
  exact T.b_len
  refine pr_of ?_
  refine pd_ix ?_ ?_
  refine pr_of ?_
  refine pd_name ?_
  exact n_0
  exact pd_int
  refine pdss_one ?_
  refine pds_ret ?_
  refine pd_tuple ?_ ?_ ?_
  exact g_tuple
  exact T.b_tuple
  refine pr_of ?_
  refine pd_of ?_
  refine pf_comp1 (N' := ["n", "some", "wide"]) (nt := 1) (cap := [1,2]) d.toDefX ?s1 ?s2 ?s3 ?_ ?_ ?_ ?_ (gext_name (by decide)) (sndG_name 0) ?_ ?_
  case s1 => exact ⟨by rfl,by decide +kernel,by decide +kernel,by decide +kernel,by rfl,by decide +kernel⟩
  case s2 => decide
  case s3 => decide +kernel
  exact g_range
  exact T.b_range
  refine pda_cons ?_ ?_
  refine pd_len ?_ ?_ ?_
  exact g_len
  exact T.b_len
  refine pr_of ?_
  refine pd_name ?_
  exact n_0
  exact pda_nil
  intro cl C s2 H2 fp d1
  exact pg_nm (d1.nlc (i := 0) rfl rfl)
  intro cl C s2 H2 fp d1
  exact pdi_nil
  intro cl C s2 H2 fp d1
  refine pd_tuple (d1.gl rfl) ?_ ?_
  exact T.b_tuple
  refine pr_of ?_
  refine pd_sl ?_ ?_ ?_
  refine pr_of ?_
  exact pd_name (d1.nm (i := 1) rfl (by first | exact .inl rfl | exact .inr (.inl rfl) | exact .inr (.inr rfl)))
  refine pdo_some ?_
  refine pd_mul ?_ ?_
  refine pr_of ?_
  exact pd_name (d1.nm (i := 0) rfl (by first | exact .inl rfl | exact .inr (.inl rfl) | exact .inr (.inr rfl)))
  exact pd_name (d1.nm (i := 2) rfl (by first | exact .inl rfl | exact .inr (.inl rfl) | exact .inr (.inr rfl)))
  refine pdo_some ?_
  refine pd_mul ?_ ?_
  refine pr_of ?_
  refine pd_add ?_ ?_
  refine pr_of ?_
  exact pd_name (d1.nm (i := 0) rfl (by first | exact .inl rfl | exact .inr (.inl rfl) | exact .inr (.inr rfl)))
  refine pr_of ?_
  exact pd_int
  exact pd_name (d1.nm (i := 2) rfl (by first | exact .inl rfl | exact .inr (.inl rfl) | exact .inr (.inr rfl)))
theorem body_rebuilt (T:Txt P w K mg C0 C1 C2 C3 C4) (G_marked_again:Def P w K mg base (ct C0 C1 C2 C3 C4) "marked_again" ["f", "some"] 1 D_marked_again) (G_bands_again:Def P w K mg base (ct C0 C1 C2 C3 C4) "bands_again" ["bands", "some"] 1 D_bands_again):BodyOk P w K mg base (ct C0 C1 C2 C3 C4) ["f", "some", "kind"] s_rebuilt 1 F_rebuilt := by
  refine ⟨fun X hP hw hK hmg hb d hr => ?_⟩
  subst hP hw hK hmg hb
  have hS:defScope s_rebuilt = _ := (by (conv => lhs; whnf))
  rw [hS] at d
  have hB:defBody s_rebuilt = _ := (by (conv => lhs; whnf))
  rw [hB]
  have n_0:Nm X 0 "f" := d.nm rfl (by first | exact .inl rfl | exact .inr (.inl rfl))
  have n_1:Nm X 1 "some" := d.nm rfl (by first | exact .inl rfl | exact .inr (.inl rfl))
  have n_2:Nm X 2 "kind" := d.nm rfl (by first | exact .inl rfl | exact .inr (.inl rfl))
  have l_2:Nl X 2 "kind" := d.nl rfl (by first | exact .inl rfl | exact .inr rfl)
  have g_ROW_KINDS:Gl X "ROW_KINDS" := d.gl rfl
  have g_bands_again:Gl X "bands_again" := d.gl rfl
  have g_marked_again:Gl X "marked_again" := d.gl rfl
  have g_tuple:Gl X "tuple" := d.gl rfl
  have hu := hu_of hr
  delta F_rebuilt 
  refine pdss_cons ?_ ?_
  refine pds_set ?_ ?_
  exact l_2
  refine pd_ix ?_ ?_
  refine pr_of ?_
  refine pd_name ?_
  exact n_0
  exact pd_int
  refine pdss_cons ?_ ?_
  refine pds_if ?_ ?_ ?_
  refine PDW.pt ?_
  refine pdw_or ?_ ?_
  refine pdt_eq hr ?_ ?_
  refine pr_of ?_
  refine pd_name ?_
  exact n_2
  refine pr_of ?_
  exact pd_str (by decide +kernel)
  refine pdw_or1 ?_
  refine pdt_eq hr ?_ ?_
  refine pr_of ?_
  refine pd_name ?_
  exact n_2
  refine pr_of ?_
  exact pd_str (by decide +kernel)
  refine pdss_one ?_
  refine pds_ret ?_
  refine pd_name ?_
  exact n_0
  exact pdss_nil
  refine pdss_cons ?_ ?_
  refine pds_if ?_ ?_ ?_
  refine pdt_eq hr ?_ ?_
  refine pr_of ?_
  refine pd_name ?_
  exact n_2
  refine pr_of ?_
  exact pd_str (by decide +kernel)
  refine pdss_one ?_
  refine pds_ret ?_
  refine pd_tup ?_
  refine pda_cons ?_ ?_
  exact pd_str (by decide +kernel)
  refine pda_cons ?_ ?_
  refine pd_tuple ?_ ?_ ?_
  exact g_tuple
  exact T.b_tuple
  refine pr_of ?_
  refine pd_name ?_
  exact n_1
  refine pda_cons ?_ ?_
  refine pd_ix ?_ ?_
  refine pr_of ?_
  refine pd_name ?_
  exact n_0
  exact pd_int
  exact pda_nil
  exact pdss_nil
  refine pdss_cons ?_ ?_
  refine pds_if ?_ ?_ ?_
  refine pdt_in ?_ ?_
  refine pd_name ?_
  exact n_2
  refine pr_of ?_
  refine pd_glob ⟨T.c_ROW_KINDS⟩ ?_
  exact g_ROW_KINDS
  refine pdss_one ?_
  refine pds_ret ?_
  refine pd_tup ?_
  refine pda_cons ?_ ?_
  refine pd_name ?_
  exact n_2
  refine pda_cons ?_ ?_
  refine pd_tuple ?_ ?_ ?_
  exact g_tuple
  exact T.b_tuple
  refine pr_of ?_
  refine pd_name ?_
  exact n_1
  exact pda_nil
  exact pdss_nil
  refine pdss_cons ?_ ?_
  refine pds_if ?_ ?_ ?_
  refine pdt_eq hr ?_ ?_
  refine pr_of ?_
  refine pd_name ?_
  exact n_2
  refine pr_of ?_
  exact pd_str (by decide +kernel)
  refine pdss_one ?_
  refine pds_ret ?_
  refine pd_def G_marked_again hr ?s1 ?_ ?_
  case s1 => decide
  exact g_marked_again
  refine pda_cons ?_ ?_
  refine pd_name ?_
  exact n_0
  refine pda_cons ?_ ?_
  refine pd_name ?_
  exact n_1
  exact pda_nil
  exact pdss_nil
  refine pdss_cons ?_ ?_
  refine pds_if ?_ ?_ ?_
  refine pdt_eq hr ?_ ?_
  refine pr_of ?_
  refine pd_name ?_
  exact n_2
  refine pr_of ?_
  exact pd_str (by decide +kernel)
  refine pdss_one ?_
  refine pds_ret ?_
  refine pd_tup ?_
  refine pda_cons ?_ ?_
  exact pd_str (by decide +kernel)
  refine pda_cons ?_ ?_
  refine pd_def G_bands_again hr ?s1 ?_ ?_
  case s1 => decide
  exact g_bands_again
  refine pda_cons ?_ ?_
  refine pd_ix ?_ ?_
  refine pr_of ?_
  refine pd_name ?_
  exact n_0
  exact pd_int
  refine pda_cons ?_ ?_
  refine pd_name ?_
  exact n_1
  exact pda_nil
  exact pda_nil
  exact pdss_nil
  refine pdss_one ?_
  refine pds_ret ?_
  refine pd_add ?_ ?_
  refine pr_of ?_
  refine pd_tup ?_
  refine pda_cons ?_ ?_
  refine pd_name ?_
  exact n_2
  exact pda_nil
  refine pr_of ?_
  refine pd_tuple ?_ ?_ ?_
  exact g_tuple
  exact T.b_tuple
  refine pr_of ?_
  refine pd_name ?_
  exact n_1
theorem body_fitting (T:Txt P w K mg C0 C1 C2 C3 C4) (G_level_of:Def P w K mg base (ct C0 C1 C2 C3 C4) "level_of" ["f"] 1 D_level_of) (G_least_level:Def P w K mg base (ct C0 C1 C2 C3 C4) "least_level" ["f", "n"] 2 D_least_level):BodyOk P w K mg base (ct C0 C1 C2 C3 C4) ["f", "n", "g"] s_fitting 2 F_fitting := by
  refine ⟨fun X hP hw hK hmg hb d hr => ?_⟩
  subst hP hw hK hmg hb
  have hS:defScope s_fitting = _ := (by (conv => lhs; whnf))
  rw [hS] at d
  have hB:defBody s_fitting = _ := (by (conv => lhs; whnf))
  rw [hB]
  have n_0:Nm X 0 "f" := d.nm rfl (by first | exact .inl rfl | exact .inr (.inl rfl))
  have n_1:Nm X 1 "n" := d.nm rfl (by first | exact .inl rfl | exact .inr (.inl rfl))
  have n_2:Nm X 2 "g" := d.nm rfl (by first | exact .inl rfl | exact .inr (.inl rfl))
  have g_least_level:Gl X "least_level" := d.gl rfl
  have g_level_of:Gl X "level_of" := d.gl rfl
  have hu := hu_of hr
  delta F_fitting 
  refine pdss_one ?_
  refine pds_ret ?_
  refine pd_ifExp ?_ ?_ ?_
  refine pdt_ge ?_ ?_
  refine pd_def G_level_of hr ?s1 ?_ ?_
  case s1 => decide
  exact g_level_of
  refine pda_cons ?_ ?_
  refine pd_name ?_
  exact n_2
  exact pda_nil
  refine pd_def G_least_level hr ?s1 ?_ ?_
  case s1 => decide
  exact g_least_level
  refine pda_cons ?_ ?_
  refine pd_name ?_
  exact n_0
  refine pda_cons ?_ ?_
  refine pd_name ?_
  exact n_1
  exact pda_nil
  refine pd_name ?_
  exact n_2
  refine pd_tup ?_
  refine pda_cons ?_ ?_
  exact pd_str (by decide +kernel)
  refine pda_cons ?_ ?_
  refine pd_name ?_
  exact n_2
  exact pda_nil
theorem body_with_part (T:Txt P w K mg C0 C1 C2 C3 C4) (G_parts_of:DefF P w K mg base (ct C0 C1 C2 C3 C4) "parts_of" ["f"] 2 D_parts_of) (G_rebuilt:Def P w K mg base (ct C0 C1 C2 C3 C4) "rebuilt" ["f", "some"] 2 D_rebuilt) (G_fitting:Def P w K mg base (ct C0 C1 C2 C3 C4) "fitting" ["f", "n", "g"] 3 D_fitting) {kr:Nat} (hk : 3 ≤ kr) {D_with_part:List D → Option (D)} (G_with_part:Def P w K mg base (ct C0 C1 C2 C3 C4) "with_part" ["f", "path", "g"] kr D_with_part):BodyOk P w K mg base (ct C0 C1 C2 C3 C4) ["f", "path", "g", "parts", "n"] s_with_part kr (F_with_part D_with_part) := by
  refine ⟨fun X hP hw hK hmg hb d hr => ?_⟩
  subst hP hw hK hmg hb
  have hS:defScope s_with_part = _ := (by (conv => lhs; whnf))
  rw [hS] at d
  have hB:defBody s_with_part = _ := (by (conv => lhs; whnf))
  rw [hB]
  have n_0:Nm X 0 "f" := d.nm rfl (by first | exact .inl rfl | exact .inr (.inl rfl))
  have n_1:Nm X 1 "path" := d.nm rfl (by first | exact .inl rfl | exact .inr (.inl rfl))
  have n_2:Nm X 2 "g" := d.nm rfl (by first | exact .inl rfl | exact .inr (.inl rfl))
  have n_3:Nm X 3 "parts" := d.nm rfl (by first | exact .inl rfl | exact .inr (.inl rfl))
  have n_4:Nm X 4 "n" := d.nm rfl (by first | exact .inl rfl | exact .inr (.inl rfl))
  have l_3:Nl X 3 "parts" := d.nl rfl (by first | exact .inl rfl | exact .inr rfl)
  have l_4:Nl X 4 "n" := d.nl rfl (by first | exact .inl rfl | exact .inr rfl)
  have g_fitting:Gl X "fitting" := d.gl rfl
  have g_len:Gl X "len" := d.gl rfl
  have g_parts_of:Gl X "parts_of" := d.gl rfl
  have g_rebuilt:Gl X "rebuilt" := d.gl rfl
  have g_with_part:Gl X "with_part" := d.gl rfl
  have hu := hu_of hr
  delta F_with_part 
  refine pdss_cons ?_ ?_
  refine pds_if ?_ ?_ ?_
  refine pdt_eq hr ?_ ?_
  refine pr_of ?_
  refine pd_name ?_
  exact n_1
  refine pr_of ?_
  refine pd_tup ?_
  exact pda_nil
  refine pdss_one ?_
  refine pds_ret ?_
  refine pd_name ?_
  exact n_2
  exact pdss_nil
  refine pdss_cons ?_ ?_
  refine pds_own ?_ ?_
  exact l_3
  refine pf_def G_parts_of hr ?s1 ?_ ?_
  case s1 => first | decide | omega
  exact g_parts_of
  refine pda_cons ?_ ?_
  refine pd_name ?_
  exact n_0
  exact pda_nil
  refine pdss_cons ?_ ?_
  refine pds_set ?_ ?_
  exact l_4
  refine pd_ix ?_ ?_
  refine pr_of ?_
  refine pd_name ?_
  exact n_1
  exact pd_int
  refine pdss_cons ?_ ?_
  refine pds_item ?_ ?_ ?_
  exact n_3
  refine pd_name ?_
  exact n_4
  refine pd_ifExp ?_ ?_ ?_
  refine pdt_eq hr ?_ ?_
  refine pr_of ?_
  refine pd_len ?_ ?_ ?_
  exact g_len
  exact T.b_len
  refine pr_of ?_
  refine pd_name ?_
  exact n_1
  refine pr_of ?_
  exact pd_int
  refine pd_def G_fitting hr ?s1 ?_ ?_
  case s1 => first | decide | omega
  exact g_fitting
  refine pda_cons ?_ ?_
  refine pd_name ?_
  exact n_0
  refine pda_cons ?_ ?_
  refine pd_name ?_
  exact n_4
  refine pda_cons ?_ ?_
  refine pd_name ?_
  exact n_2
  exact pda_nil
  refine pd_def G_with_part hr ?s1 ?_ ?_
  case s1 => first | decide | omega
  exact g_with_part
  refine pda_cons ?_ ?_
  refine pd_ix ?_ ?_
  refine pr_name ?_
  exact n_3
  refine pd_name ?_
  exact n_4
  refine pda_cons ?_ ?_
  refine pd_sl ?_ ?_ ?_
  refine pr_of ?_
  refine pd_name ?_
  exact n_1
  refine pdo_some ?_
  exact pd_int
  exact pdo_none
  refine pda_cons ?_ ?_
  refine pd_name ?_
  exact n_2
  exact pda_nil
  refine pdss_frz ?_
  refine pdss_one ?_
  refine pds_ret ?_
  refine pd_def G_rebuilt hr ?s1 ?_ ?_
  case s1 => first | decide | omega
  exact g_rebuilt
  refine pda_cons ?_ ?_
  refine pd_name ?_
  exact n_0
  refine pda_cons ?_ ?_
  refine pd_name ?_
  exact n_3
  exact pda_nil
theorem body_put_in (T:Txt P w K mg C0 C1 C2 C3 C4) (G_part_of:Def P w K mg base (ct C0 C1 C2 C3 C4) "part_of" ["f", "path"] 3 D_part_of) (GX_part_of:DefED P w K mg base (ct C0 C1 C2 C3 C4) "part_of" ["f", "path"] 3 D_part_of X_part_of) (G_let_by:Def P w K mg base (ct C0 C1 C2 C3 C4) "let_by" ["f"] 36 D_let_by) (GX_let_by:DefED P w K mg base (ct C0 C1 C2 C3 C4) "let_by" ["f"] 36 D_let_by X_let_by) (G_with_part:Def P w K mg base (ct C0 C1 C2 C3 C4) "with_part" ["f", "path", "g"] 19 D_with_part):BodyX P w K mg base (ct C0 C1 C2 C3 C4) ["f", "path", "g"] s_put_in 36 F_put_in := by
  refine ⟨fun X xq hP hw hK hmg hb d hr xr => ?_⟩
  subst hP hw hK hmg hb
  have hS:defScope s_put_in = _ := (by (conv => lhs; whnf))
  rw [hS] at d
  have hB:defBody s_put_in = _ := (by (conv => lhs; whnf))
  rw [hB]
  have n_0:Nm X 0 "f" := d.nm rfl (by first | exact .inl rfl | exact .inr (.inl rfl))
  have n_1:Nm X 1 "path" := d.nm rfl (by first | exact .inl rfl | exact .inr (.inl rfl))
  have n_2:Nm X 2 "g" := d.nm rfl (by first | exact .inl rfl | exact .inr (.inl rfl))
  have g_let_by:Gl X "let_by" := d.gl rfl
  have g_part_of:Gl X "part_of" := d.gl rfl
  have g_with_part:Gl X "with_part" := d.gl rfl
  have hu := hu_of hr
  delta F_put_in 
  refine pdss_cons ?_ ?_
  refine pds_dropX xr GX_part_of hr ?s1 ?_ ?_
  case s1 => decide
  exact g_part_of
  refine pda_cons ?_ ?_
  refine pd_name ?_
  exact n_0
  refine pda_cons ?_ ?_
  refine pd_name ?_
  exact n_1
  exact pda_nil
  refine pdss_one ?_
  refine pds_retX xr GX_let_by hr ?s1 ?_ ?_
  case s1 => decide
  exact g_let_by
  refine pda_cons ?_ ?_
  refine pd_def G_with_part hr ?s1 ?_ ?_
  case s1 => decide
  exact g_with_part
  refine pda_cons ?_ ?_
  refine pd_name ?_
  exact n_0
  refine pda_cons ?_ ?_
  refine pd_name ?_
  exact n_1
  refine pda_cons ?_ ?_
  refine pd_name ?_
  exact n_2
  exact pda_nil
  exact pda_nil
theorem body_law_cell_at (T:Txt P w K mg C0 C1 C2 C3 C4) :BodyOk P w K mg base (ct C0 C1 C2 C3 C4) ["script", "k"] s_law_cell_at 0 F_law_cell_at := by
  refine ⟨fun X hP hw hK hmg hb d hr => ?_⟩
  subst hP hw hK hmg hb
  have hS:defScope s_law_cell_at = _ := (by (conv => lhs; whnf))
  rw [hS] at d
  have hB:defBody s_law_cell_at = _ := (by (conv => lhs; whnf))
  rw [hB]
  have n_0:Nm X 0 "script" := d.nm rfl (by first | exact .inl rfl | exact .inr (.inl rfl))
  have n_1:Nm X 1 "k" := d.nm rfl (by first | exact .inl rfl | exact .inr (.inl rfl))
  have g_len:Gl X "len" := d.gl rfl
  have hu := hu_of hr
  delta F_law_cell_at 
  refine pdss_cons ?_ ?_
  refine pds_if ?_ ?_ ?_
  refine pdt_lt ?_ ?_
  refine pd_name ?_
  exact n_1
  refine pd_len ?_ ?_ ?_
  exact g_len
  exact T.b_len
  refine pr_of ?_
  refine pd_name ?_
  exact n_0
  refine pdss_one ?_
  refine pds_ret ?_
  refine pd_ix ?_ ?_
  refine pr_of ?_
  refine pd_name ?_
  exact n_0
  refine pd_name ?_
  exact n_1
  exact pdss_nil
  refine pdss_one ?_
  refine pds_ret ?_
  exact pd_int
theorem body_law_parts (T:Txt P w K mg C0 C1 C2 C3 C4) :BodyOk P w K mg base (ct C0 C1 C2 C3 C4) ["f", "some", "band"] s_law_parts 0 F_law_parts := by
  refine ⟨fun X hP hw hK hmg hb d hr => ?_⟩
  subst hP hw hK hmg hb
  have hS:defScope s_law_parts = _ := (by (conv => lhs; whnf))
  rw [hS] at d
  have hB:defBody s_law_parts = _ := (by (conv => lhs; whnf))
  rw [hB]
  have n_0:Nm X 0 "f" := d.nm rfl (by first | exact .inl rfl | exact .inr (.inl rfl))
  have n_1:Nm X 1 "some" := d.nm rfl (by first | exact .inl rfl | exact .inr (.inl rfl))
  have n_2:Nm X 2 "band" := d.nm rfl (by first | exact .inl rfl | exact .inr (.inl rfl))
  have l_1:Nl X 1 "some" := d.nl rfl (by first | exact .inl rfl | exact .inr rfl)
  have l_2:Nl X 2 "band" := d.nl rfl (by first | exact .inl rfl | exact .inr rfl)
  have g_list:Gl X "list" := d.gl rfl
  have hu := hu_of hr
  delta F_law_parts LB_law_parts_3 CT_law_parts_2 CE_law_parts_1
  refine pdss_cons ?_ ?_
  refine pds_if ?_ ?_ ?_
  refine pdt_in ?_ ?_
  refine pd_ix ?_ ?_
  refine pr_of ?_
  refine pd_name ?_
  exact n_0
  exact pd_int
  refine pr_of ?_
  refine pd_tup ?_
  refine pda_cons ?_ ?_
  exact pd_str (by decide +kernel)
  refine pda_cons ?_ ?_
  exact pd_str (by decide +kernel)
  refine pda_cons ?_ ?_
  exact pd_str (by decide +kernel)
  exact pda_nil
  refine pdss_one ?_
  refine pds_ret ?_
  refine pd_of ?_
  refine pf_list ?_ ?_ ?_
  exact g_list
  exact T.b_list
  refine pr_of ?_
  refine pd_ix ?_ ?_
  refine pr_of ?_
  refine pd_name ?_
  exact n_0
  exact pd_int
  exact pdss_nil
  refine pdss_cons ?_ ?_
  refine pds_if ?_ ?_ ?_
  refine pdt_ne hr ?_ ?_
  refine pr_of ?_
  refine pd_ix ?_ ?_
  refine pr_of ?_
  refine pd_name ?_
  exact n_0
  exact pd_int
  refine pr_of ?_
  exact pd_str (by decide +kernel)
  refine pdss_one ?_
  refine pds_ret ?_
  refine pd_of ?_
  refine pf_comp (N' := ["one"]) (nt := 1) (cap := []) d.toDefX ?s1 ?s2 ?s3 ?_ ?_ (gext_name (by decide)) (sndG_name 0) ?_ ?_
  case s1 => exact ⟨by rfl,by decide +kernel,by decide +kernel,by decide +kernel,by rfl,by decide +kernel⟩
  case s2 => decide
  case s3 => decide +kernel
  refine pr_of ?_
  refine pd_sl ?_ ?_ ?_
  refine pr_of ?_
  refine pd_name ?_
  exact n_0
  refine pdo_some ?_
  exact pd_int
  exact pdo_none
  intro cl C s2 H2 fp d1
  exact pg_nm (d1.nlc (i := 0) rfl rfl)
  intro cl C s2 H2 fp d1
  refine pdi_one ?_
  refine pdt_isnotN ?_
  refine pr_of ?_
  exact pd_name (d1.nm (i := 0) rfl (by first | exact .inl rfl | exact .inr (.inl rfl) | exact .inr (.inr rfl)))
  intro cl C s2 H2 fp d1
  exact pd_name (d1.nm (i := 0) rfl (by first | exact .inl rfl | exact .inr (.inl rfl) | exact .inr (.inr rfl)))
  exact pdss_nil
  refine pdss_cons ?_ ?_
  refine pds_set ?_ ?_
  exact l_1
  refine pd_of ?_
  refine pf_lst ?_
  exact pda_nil
  refine pdss_cons ?_ ?_
  refine pds_for d.never d.calm (sndG_name 2) ?_ ?_ ?_
  refine pg_nm ?_
  exact l_2
  refine pd_ix ?_ ?_
  refine pr_of ?_
  refine pd_name ?_
  exact n_0
  exact pd_int
  refine pdss_one ?_
  refine pds_set ?_ ?_
  exact l_1
  refine pd_of ?_
  refine pf_add ?_ ?_
  refine pr_of ?_
  refine pd_name ?_
  exact n_1
  refine pr_of ?_
  refine pd_of ?_
  refine pf_list ?_ ?_ ?_
  exact g_list
  exact T.b_list
  refine pr_of ?_
  refine pd_name ?_
  exact n_2
  refine pdss_one ?_
  refine pds_ret ?_
  refine pd_name ?_
  exact n_1
theorem body_law_least (T:Txt P w K mg C0 C1 C2 C3 C4) :BodyOk P w K mg base (ct C0 C1 C2 C3 C4) ["f", "n"] s_law_least 0 F_law_least := by
  refine ⟨fun X hP hw hK hmg hb d hr => ?_⟩
  subst hP hw hK hmg hb
  have hS:defScope s_law_least = _ := (by (conv => lhs; whnf))
  rw [hS] at d
  have hB:defBody s_law_least = _ := (by (conv => lhs; whnf))
  rw [hB]
  have n_0:Nm X 0 "f" := d.nm rfl (by first | exact .inl rfl | exact .inr (.inl rfl))
  have n_1:Nm X 1 "n" := d.nm rfl (by first | exact .inl rfl | exact .inr (.inl rfl))
  have hu := hu_of hr
  delta F_law_least 
  refine pdss_cons ?_ ?_
  refine pds_if ?_ ?_ ?_
  refine pdt_in ?_ ?_
  refine pd_ix ?_ ?_
  refine pr_of ?_
  refine pd_name ?_
  exact n_0
  exact pd_int
  refine pr_of ?_
  refine pd_tup ?_
  refine pda_cons ?_ ?_
  exact pd_str (by decide +kernel)
  refine pda_cons ?_ ?_
  exact pd_str (by decide +kernel)
  refine pda_cons ?_ ?_
  exact pd_str (by decide +kernel)
  exact pda_nil
  refine pdss_one ?_
  refine pds_ret ?_
  refine pd_dix hu ?_ ?_
  refine pd_dct (ps := [([101,118,101,110],1),([115,117,109],2),([116,105,109,101,115],3)]) ?_ ?s1 ?s2 ?s3 ?s4 ?s5 ?s6
  case s1 => decide +kernel
  case s2 => rfl
  case s3 => rfl
  case s4 => exact fun z => nomatch z
  case s5 => decide +kernel
  case s6 => decide +kernel
  refine kc_cons (by decide +kernel) ?_
  refine kc_cons (by decide +kernel) ?_
  refine kc_cons (by decide +kernel) ?_
  exact kc_nil
  refine pd_ix ?_ ?_
  refine pr_of ?_
  refine pd_name ?_
  exact n_0
  exact pd_int
  exact pdss_nil
  refine pdss_cons ?_ ?_
  refine pds_if ?_ ?_ ?_
  refine PDW.pt ?_
  refine pdw_and ?_ ?_
  refine pdt_eq hr ?_ ?_
  refine pr_of ?_
  refine pd_ix ?_ ?_
  refine pr_of ?_
  refine pd_name ?_
  exact n_0
  exact pd_int
  refine pr_of ?_
  exact pd_str (by decide +kernel)
  refine pdw_and1 ?_
  refine pdt_eq hr ?_ ?_
  refine pr_of ?_
  refine pd_name ?_
  exact n_1
  refine pr_of ?_
  exact pd_int
  refine pdss_one ?_
  refine pds_ret ?_
  exact pd_int
  exact pdss_nil
  refine pdss_one ?_
  refine pds_ret ?_
  exact pd_int
theorem body_law_refused (T:Txt P w K mg C0 C1 C2 C3 C4) (G_put_in:Def P w K mg base (ct C0 C1 C2 C3 C4) "put_in" ["f", "path", "g"] 37 D_put_in) (GX_put_in:DefED P w K mg base (ct C0 C1 C2 C3 C4) "put_in" ["f", "path", "g"] 37 D_put_in X_put_in):BodyX P w K mg base (ct C0 C1 C2 C3 C4) ["f", "path", "g", "error", "e", "others"] s_law_refused 37 F_law_refused := by
  refine ⟨fun X xq hP hw hK hmg hb d hr xr => ?_⟩
  subst hP hw hK hmg hb
  have hS:defScope s_law_refused = _ := (by (conv => lhs; whnf))
  rw [hS] at d
  have hB:defBody s_law_refused = _ := (by (conv => lhs; whnf))
  rw [hB]
  have n_0:Nm X 0 "f" := d.nm rfl (by first | exact .inl rfl | exact .inr (.inl rfl))
  have n_1:Nm X 1 "path" := d.nm rfl (by first | exact .inl rfl | exact .inr (.inl rfl))
  have n_2:Nm X 2 "g" := d.nm rfl (by first | exact .inl rfl | exact .inr (.inl rfl))
  have n_3:Nm X 3 "error" := d.nm rfl (by first | exact .inl rfl | exact .inr (.inl rfl))
  have n_4:Nm X 4 "e" := d.nm rfl (by first | exact .inl rfl | exact .inr (.inl rfl))
  have n_5:Nm X 5 "others" := d.nm rfl (by first | exact .inl rfl | exact .inr (.inl rfl))
  have l_3:Nl X 3 "error" := d.nl rfl (by first | exact .inl rfl | exact .inr rfl)
  have l_4:Nl X 4 "e" := d.nl rfl (by first | exact .inl rfl | exact .inr rfl)
  have l_5:Nl X 5 "others" := d.nl rfl (by first | exact .inl rfl | exact .inr rfl)
  have g_InkError:Gl X "InkError" := d.gl rfl
  have g_NoDrawing:Gl X "NoDrawing" := d.gl rfl
  have g_NoFormula:Gl X "NoFormula" := d.gl rfl
  have g_NoLine:Gl X "NoLine" := d.gl rfl
  have g_NoPart:Gl X "NoPart" := d.gl rfl
  have g_ValueError:Gl X "ValueError" := d.gl rfl
  have g_isinstance:Gl X "isinstance" := d.gl rfl
  have g_put_in:Gl X "put_in" := d.gl rfl
  have hu := hu_of hr
  delta F_law_refused 
  refine pdss_cons ?_ ?_
  refine pds_set ?_ ?_
  exact l_3
  exact pd_non
  refine pdss_cons ?_ ?_
  refine pds_try xr GX_put_in hr ?s1 ?_ T.ex_NoPart ?_ ?_ ?_ (d.locl rfl) ?_ ?_
  case s1 => decide
  exact g_put_in
  exact g_NoPart
  exact l_3
  exact l_4
  exact n_4
  intro cl
  refine pda_cons ?_ ?_
  exact pd_name n_0.wish
  refine pda_cons ?_ ?_
  exact pd_name n_1.wish
  refine pda_cons ?_ ?_
  exact pd_name n_2.wish
  exact pda_nil
  refine pdss_cons ?_ ?_
  refine pds_set ?_ ?_
  exact l_5
  refine pd_or ?_ ?_
  refine pd_isinstX T.ix_NoFormula ?_ ?_ ?_ ?_
  exact g_isinstance
  exact T.b_isinstance
  exact g_NoFormula
  refine pd_name ?_
  exact n_3
  refine pd_or ?_ ?_
  refine pd_isinstX T.ix_NoLine ?_ ?_ ?_ ?_
  exact g_isinstance
  exact T.b_isinstance
  exact g_NoLine
  refine pd_name ?_
  exact n_3
  refine pd_one ?_
  refine pd_isinstX T.ix_NoDrawing ?_ ?_ ?_ ?_
  exact g_isinstance
  exact T.b_isinstance
  exact g_NoDrawing
  refine pd_name ?_
  exact n_3
  refine pdss_one ?_
  refine pds_ret ?_
  refine pd_and ?_ ?_
  refine pd_isinstX T.ix_InkError ?_ ?_ ?_ ?_
  exact g_isinstance
  exact T.b_isinstance
  exact g_InkError
  refine pd_name ?_
  exact n_3
  refine pd_and ?_ ?_
  refine pd_isinstV T.iv ?_ ?_ ?_ ?_ ?_
  exact g_isinstance
  exact T.b_isinstance
  exact g_ValueError
  exact T.b_ValueError
  refine pd_name ?_
  exact n_3
  refine pd_one ?_
  refine pd_not ?_
  refine pd_name ?_
  exact n_5
theorem body_law (T:Txt P w K mg C0 C1 C2 C3 C4) (G_law_one:Def P w K mg base (ct C0 C1 C2 C3 C4) "_law_one" ["way", "size", "cell"] 2 D_law_one) (G_law_atom:Def P w K mg base (ct C0 C1 C2 C3 C4) "_law_atom" ["cell"] 1 D_law_atom) (G_law_with:Def P w K mg base (ct C0 C1 C2 C3 C4) "_law_with" ["f", "n", "g"] 1 D_law_with) (G_put_in:Def P w K mg base (ct C0 C1 C2 C3 C4) "put_in" ["f", "path", "g"] 37 D_put_in) (GX_put_in:DefED P w K mg base (ct C0 C1 C2 C3 C4) "put_in" ["f", "path", "g"] 37 D_put_in X_put_in) (G_law_cell_at:Def P w K mg base (ct C0 C1 C2 C3 C4) "_law_cell_at" ["script", "k"] 1 D_law_cell_at) (G_law_parts:Def P w K mg base (ct C0 C1 C2 C3 C4) "_law_parts" ["f"] 1 D_law_parts) (G_law_least:Def P w K mg base (ct C0 C1 C2 C3 C4) "_law_least" ["f", "n"] 1 D_law_least) (G_law_refused:Def P w K mg base (ct C0 C1 C2 C3 C4) "_law_refused" ["f", "path", "g"] 38 D_law_refused) (GX_law_refused:DefED P w K mg base (ct C0 C1 C2 C3 C4) "_law_refused" ["f", "path", "g"] 38 D_law_refused X_law_refused):BodyOk P w K mg base (ct C0 C1 C2 C3 C4) ["script", "way", "f", "other", "g", "many", "n", "levels", "due", "far", "path", "found", "whole"] s_law 38 F_law := by
  refine ⟨fun X hP hw hK hmg hb d hr => ?_⟩
  subst hP hw hK hmg hb
  have hS:defScope s_law = _ := (by (conv => lhs; whnf))
  rw [hS] at d
  have hB:defBody s_law = _ := (by (conv => lhs; whnf))
  rw [hB]
  have n_0:Nm X 0 "script" := d.nm rfl (by first | exact .inl rfl | exact .inr (.inl rfl))
  have n_1:Nm X 1 "way" := d.nm rfl (by first | exact .inl rfl | exact .inr (.inl rfl))
  have n_2:Nm X 2 "f" := d.nm rfl (by first | exact .inl rfl | exact .inr (.inl rfl))
  have n_3:Nm X 3 "other" := d.nm rfl (by first | exact .inl rfl | exact .inr (.inl rfl))
  have n_4:Nm X 4 "g" := d.nm rfl (by first | exact .inl rfl | exact .inr (.inl rfl))
  have n_5:Nm X 5 "many" := d.nm rfl (by first | exact .inl rfl | exact .inr (.inl rfl))
  have n_6:Nm X 6 "n" := d.nm rfl (by first | exact .inl rfl | exact .inr (.inl rfl))
  have n_7:Nm X 7 "levels" := d.nm rfl (by first | exact .inl rfl | exact .inr (.inl rfl))
  have n_8:Nm X 8 "due" := d.nm rfl (by first | exact .inl rfl | exact .inr (.inl rfl))
  have n_9:Nm X 9 "far" := d.nm rfl (by first | exact .inl rfl | exact .inr (.inl rfl))
  have n_10:Nm X 10 "path" := d.nm rfl (by first | exact .inl rfl | exact .inr (.inl rfl))
  have n_11:Nm X 11 "found" := d.nm rfl (by first | exact .inl rfl | exact .inr (.inl rfl))
  have n_12:Nm X 12 "whole" := d.nm rfl (by first | exact .inl rfl | exact .inr (.inl rfl))
  have l_1:Nl X 1 "way" := d.nl rfl (by first | exact .inl rfl | exact .inr rfl)
  have l_2:Nl X 2 "f" := d.nl rfl (by first | exact .inl rfl | exact .inr rfl)
  have l_3:Nl X 3 "other" := d.nl rfl (by first | exact .inl rfl | exact .inr rfl)
  have l_4:Nl X 4 "g" := d.nl rfl (by first | exact .inl rfl | exact .inr rfl)
  have l_5:Nl X 5 "many" := d.nl rfl (by first | exact .inl rfl | exact .inr rfl)
  have l_6:Nl X 6 "n" := d.nl rfl (by first | exact .inl rfl | exact .inr rfl)
  have l_7:Nl X 7 "levels" := d.nl rfl (by first | exact .inl rfl | exact .inr rfl)
  have l_8:Nl X 8 "due" := d.nl rfl (by first | exact .inl rfl | exact .inr rfl)
  have l_9:Nl X 9 "far" := d.nl rfl (by first | exact .inl rfl | exact .inr rfl)
  have l_10:Nl X 10 "path" := d.nl rfl (by first | exact .inl rfl | exact .inr rfl)
  have l_11:Nl X 11 "found" := d.nl rfl (by first | exact .inl rfl | exact .inr rfl)
  have l_12:Nl X 12 "whole" := d.nl rfl (by first | exact .inl rfl | exact .inr rfl)
  have g_law_atom:Gl X "_law_atom" := d.gl rfl
  have g_law_cell_at:Gl X "_law_cell_at" := d.gl rfl
  have g_law_least:Gl X "_law_least" := d.gl rfl
  have g_law_one:Gl X "_law_one" := d.gl rfl
  have g_law_parts:Gl X "_law_parts" := d.gl rfl
  have g_law_refused:Gl X "_law_refused" := d.gl rfl
  have g_law_with:Gl X "_law_with" := d.gl rfl
  have g_isinstance:Gl X "isinstance" := d.gl rfl
  have g_len:Gl X "len" := d.gl rfl
  have g_put_in:Gl X "put_in" := d.gl rfl
  have g_tuple:Gl X "tuple" := d.gl rfl
  have hu := hu_of hr
  delta F_law LB_law_1
  refine pdss_cons ?_ ?_
  refine pds_set ?_ ?_
  exact l_1
  refine pd_mod ?_ ?_
  refine pd_def G_law_cell_at hr ?s1 ?_ ?_
  case s1 => decide
  exact g_law_cell_at
  refine pda_cons ?_ ?_
  refine pd_name ?_
  exact n_0
  refine pda_cons ?_ ?_
  exact pd_int
  exact pda_nil
  exact pd_int
  refine pdss_cons ?_ ?_
  refine pds_set ?_ ?_
  exact l_2
  refine pd_def G_law_one hr ?s1 ?_ ?_
  case s1 => decide
  exact g_law_one
  refine pda_cons ?_ ?_
  refine pd_name ?_
  exact n_1
  refine pda_cons ?_ ?_
  refine pd_mod ?_ ?_
  refine pd_def G_law_cell_at hr ?s1 ?_ ?_
  case s1 => decide
  exact g_law_cell_at
  refine pda_cons ?_ ?_
  refine pd_name ?_
  exact n_0
  refine pda_cons ?_ ?_
  exact pd_int
  exact pda_nil
  exact pd_int
  refine pda_cons ?_ ?_
  refine pd_def G_law_cell_at hr ?s1 ?_ ?_
  case s1 => decide
  exact g_law_cell_at
  refine pda_cons ?_ ?_
  refine pd_name ?_
  exact n_0
  refine pda_cons ?_ ?_
  exact pd_int
  exact pda_nil
  exact pda_nil
  refine pdss_cons ?_ ?_
  refine pds_set ?_ ?_
  exact l_3
  refine pd_mod ?_ ?_
  refine pd_def G_law_cell_at hr ?s1 ?_ ?_
  case s1 => decide
  exact g_law_cell_at
  refine pda_cons ?_ ?_
  refine pd_name ?_
  exact n_0
  refine pda_cons ?_ ?_
  exact pd_int
  exact pda_nil
  exact pd_int
  refine pdss_cons ?_ ?_
  refine pds_set ?_ ?_
  exact l_4
  refine pd_def G_law_atom hr ?s1 ?_ ?_
  case s1 => decide
  exact g_law_atom
  refine pda_cons ?_ ?_
  refine pd_def G_law_cell_at hr ?s1 ?_ ?_
  case s1 => decide
  exact g_law_cell_at
  refine pda_cons ?_ ?_
  refine pd_name ?_
  exact n_0
  refine pda_cons ?_ ?_
  exact pd_int
  exact pda_nil
  exact pda_nil
  refine pdss_cons ?_ ?_
  refine pds_if ?_ ?_ ?_
  refine PDW.pt ?_
  refine pdw_and ?_ ?_
  refine pdt_lt ?_ ?_
  refine pd_name ?_
  exact n_3
  exact pd_int
  refine pdw_and1 ?_
  refine pdt_not ?_
  refine PDW.pt ?_
  refine pdw_and ?_ ?_
  refine pdt_eq hr ?_ ?_
  refine pr_of ?_
  refine pd_name ?_
  exact n_3
  refine pr_of ?_
  exact pd_int
  refine pdw_and1 ?_
  refine pdt_eq hr ?_ ?_
  refine pr_of ?_
  refine pd_name ?_
  exact n_1
  refine pr_of ?_
  exact pd_int
  refine pdss_one ?_
  refine pds_set ?_ ?_
  exact l_4
  refine pd_def G_law_one hr ?s1 ?_ ?_
  case s1 => decide
  exact g_law_one
  refine pda_cons ?_ ?_
  refine pd_name ?_
  exact n_3
  refine pda_cons ?_ ?_
  refine pd_mod ?_ ?_
  refine pd_def G_law_cell_at hr ?s1 ?_ ?_
  case s1 => decide
  exact g_law_cell_at
  refine pda_cons ?_ ?_
  refine pd_name ?_
  exact n_0
  refine pda_cons ?_ ?_
  exact pd_int
  exact pda_nil
  exact pd_int
  refine pda_cons ?_ ?_
  refine pd_def G_law_cell_at hr ?s1 ?_ ?_
  case s1 => decide
  exact g_law_cell_at
  refine pda_cons ?_ ?_
  refine pd_name ?_
  exact n_0
  refine pda_cons ?_ ?_
  exact pd_int
  exact pda_nil
  exact pda_nil
  exact pdss_nil
  refine pdss_cons ?_ ?_
  refine pds_set ?_ ?_
  exact l_5
  refine pd_len ?_ ?_ ?_
  exact g_len
  exact T.b_len
  refine pr_of ?_
  refine pd_def G_law_parts hr ?s1 ?_ ?_
  case s1 => decide
  exact g_law_parts
  refine pda_cons ?_ ?_
  refine pd_name ?_
  exact n_2
  exact pda_nil
  refine pdss_cons ?_ ?_
  refine pds_set ?_ ?_
  exact l_6
  refine pd_mod ?_ ?_
  refine pd_def G_law_cell_at hr ?s1 ?_ ?_
  case s1 => decide
  exact g_law_cell_at
  refine pda_cons ?_ ?_
  refine pd_name ?_
  exact n_0
  refine pda_cons ?_ ?_
  exact pd_int
  exact pda_nil
  refine pd_name ?_
  exact n_5
  refine pdss_cons ?_ ?_
  refine pds_set ?_ ?_
  exact l_7
  refine pd_dct (ps := [([101,118,101,110],0),([115,117,109],1),([116,105,109,101,115],2),([111,118,101,114],3),([114,111,111,116],3),([109,97,114,107,101,100],3)]) ?_ ?s1 ?s2 ?s3 ?s4 ?s5 ?s6
  case s1 => decide +kernel
  case s2 => rfl
  case s3 => rfl
  case s4 => exact fun z => nomatch z
  case s5 => decide +kernel
  case s6 => decide +kernel
  refine kc_cons (by decide +kernel) ?_
  refine kc_cons (by decide +kernel) ?_
  refine kc_cons (by decide +kernel) ?_
  refine kc_cons (by decide +kernel) ?_
  refine kc_cons (by decide +kernel) ?_
  refine kc_cons (by decide +kernel) ?_
  exact kc_nil
  refine pdss_cons ?_ ?_
  refine pds_set ?_ ?_
  exact l_8
  refine pd_name ?_
  exact n_4
  refine pdss_cons ?_ ?_
  refine pds_if ?_ ?_ ?_
  refine pdt_lt ?_ ?_
  refine pd_dget hu ?_ ?_ ?_
  refine pd_name ?_
  exact n_7
  refine pd_ix ?_ ?_
  refine pr_of ?_
  refine pd_name ?_
  exact n_4
  exact pd_int
  exact pd_int
  refine pd_def G_law_least hr ?s1 ?_ ?_
  case s1 => decide
  exact g_law_least
  refine pda_cons ?_ ?_
  refine pd_name ?_
  exact n_2
  refine pda_cons ?_ ?_
  refine pd_name ?_
  exact n_6
  exact pda_nil
  refine pdss_one ?_
  refine pds_set ?_ ?_
  exact l_8
  refine pd_tup ?_
  refine pda_cons ?_ ?_
  exact pd_str (by decide +kernel)
  refine pda_cons ?_ ?_
  refine pd_name ?_
  exact n_4
  exact pda_nil
  exact pdss_nil
  refine pdss_cons ?_ ?_
  refine pds_set ?_ ?_
  exact l_8
  refine pd_def G_law_with hr ?s1 ?_ ?_
  case s1 => decide
  exact g_law_with
  refine pda_cons ?_ ?_
  refine pd_name ?_
  exact n_2
  refine pda_cons ?_ ?_
  refine pd_name ?_
  exact n_6
  refine pda_cons ?_ ?_
  refine pd_name ?_
  exact n_8
  exact pda_nil
  refine pdss_cons ?_ ?_
  refine pds_set ?_ ?_
  exact l_9
  refine pd_mod ?_ ?_
  refine pd_def G_law_cell_at hr ?s1 ?_ ?_
  case s1 => decide
  exact g_law_cell_at
  refine pda_cons ?_ ?_
  refine pd_name ?_
  exact n_0
  refine pda_cons ?_ ?_
  exact pd_int
  exact pda_nil
  exact pd_int
  refine pdss_cons ?_ ?_
  refine pds_for d.never d.calm (sndG_name 10) ?_ ?_ ?_
  refine pg_nm ?_
  exact l_10
  refine pd_of ?_
  refine pf_lst ?_
  refine pda_cons ?_ ?_
  refine pd_tup ?_
  refine pda_cons ?_ ?_
  refine pd_name ?_
  exact n_6
  refine pda_cons ?_ ?_
  refine pd_name ?_
  exact n_9
  exact pda_nil
  refine pda_cons ?_ ?_
  refine pd_tup ?_
  refine pda_cons ?_ ?_
  refine pd_add ?_ ?_
  refine pr_of ?_
  refine pd_name ?_
  exact n_5
  refine pr_of ?_
  refine pd_name ?_
  exact n_9
  exact pda_nil
  refine pda_cons ?_ ?_
  refine pd_tup ?_
  refine pda_cons ?_ ?_
  refine pd_sub ?_ ?_
  refine pd_neg ?_
  exact pd_int
  refine pd_name ?_
  exact n_9
  exact pda_nil
  refine pda_cons ?_ ?_
  refine pd_tup ?_
  refine pda_cons ?_ ?_
  refine pd_sub ?_ ?_
  refine pd_neg ?_
  exact pd_int
  refine pd_name ?_
  exact n_6
  exact pda_nil
  refine pda_cons ?_ ?_
  refine pd_tup ?_
  refine pda_cons ?_ ?_
  refine pd_name ?_
  exact n_6
  refine pda_cons ?_ ?_
  refine pd_name ?_
  exact n_6
  refine pda_cons ?_ ?_
  refine pd_name ?_
  exact n_6
  exact pda_nil
  exact pda_nil
  refine pdss_one ?_
  refine pds_if ?_ ?_ ?_
  refine pdt_not ?_
  refine pdt_val ?_
  refine pd_def G_law_refused hr ?s1 ?_ ?_
  case s1 => decide
  exact g_law_refused
  refine pda_cons ?_ ?_
  refine pd_name ?_
  exact n_2
  refine pda_cons ?_ ?_
  refine pd_name ?_
  exact n_10
  refine pda_cons ?_ ?_
  refine pd_name ?_
  exact n_4
  exact pda_nil
  refine pdss_one ?_
  refine pds_ret ?_
  exact pd_bl
  exact pdss_nil
  refine pdss_cons ?_ ?_
  refine pds_set ?_ ?_
  exact l_11
  refine pd_def G_put_in hr ?s1 ?_ ?_
  case s1 => decide
  exact g_put_in
  refine pda_cons ?_ ?_
  refine pd_name ?_
  exact n_2
  refine pda_cons ?_ ?_
  refine pd_tup ?_
  refine pda_cons ?_ ?_
  refine pd_name ?_
  exact n_6
  exact pda_nil
  refine pda_cons ?_ ?_
  refine pd_name ?_
  exact n_4
  exact pda_nil
  refine pdss_cons ?_ ?_
  refine pds_set ?_ ?_
  exact l_12
  refine pd_def G_put_in hr ?s1 ?_ ?_
  case s1 => decide
  exact g_put_in
  refine pda_cons ?_ ?_
  refine pd_name ?_
  exact n_2
  refine pda_cons ?_ ?_
  refine pd_tup ?_
  exact pda_nil
  refine pda_cons ?_ ?_
  refine pd_name ?_
  exact n_4
  exact pda_nil
  refine pdss_cons ?_ ?_
  refine pds_if ?_ ?_ ?_
  refine PDW.pt ?_
  refine pdw_or ?_ ?_
  refine pdt_not ?_
  refine pdt_val ?_
  refine pd_isinst .tuple ?_ ?_ ?_ ?_ ?_
  exact g_isinstance
  exact T.b_isinstance
  exact g_tuple
  exact T.b_tuple
  refine pr_of ?_
  refine pd_name ?_
  exact n_11
  refine pdw_or ?_ ?_
  refine pdt_ne hr ?_ ?_
  refine pr_of ?_
  refine pd_name ?_
  exact n_11
  refine pr_of ?_
  refine pd_name ?_
  exact n_8
  refine pdw_or ?_ ?_
  refine pdt_not ?_
  refine pdt_val ?_
  refine pd_isinst .tuple ?_ ?_ ?_ ?_ ?_
  exact g_isinstance
  exact T.b_isinstance
  exact g_tuple
  exact T.b_tuple
  refine pr_of ?_
  refine pd_name ?_
  exact n_12
  refine pdw_or1 ?_
  refine pdt_ne hr ?_ ?_
  refine pr_of ?_
  refine pd_name ?_
  exact n_12
  refine pr_of ?_
  refine pd_name ?_
  exact n_4
  refine pdss_one ?_
  refine pds_ret ?_
  exact pd_bl
  exact pdss_nil
  refine pdss_one ?_
  refine pds_ret ?_
  refine pd_eq hr ?_ ?_
  refine pr_of ?_
  refine pd_def G_put_in hr ?s1 ?_ ?_
  case s1 => decide
  exact g_put_in
  refine pda_cons ?_ ?_
  refine pd_name ?_
  exact n_2
  refine pda_cons ?_ ?_
  refine pd_tup ?_
  refine pda_cons ?_ ?_
  refine pd_name ?_
  exact n_6
  exact pda_nil
  refine pda_cons ?_ ?_
  refine pd_name ?_
  exact n_4
  exact pda_nil
  refine pr_of ?_
  refine pd_name ?_
  exact n_8
end
theorem all_mk {l:PySem.W.OpenLaw} {w:World} {K:PySem.W.Frag} {h:Heap} {mg:Str → Option Value} {fa f1 f2 f3 f4 f5 f6 f7 f8 f9 f10 f11 f12 f13 f14 f15 f16 f17 f18 f19 f20 f21 f22 f23 f24 f25 f26 f27 f28 f29 f30 f31 C0 C1 C2 C3 C4:Addr} (X:K.In h) (G:h.Ns mainGlobals mg) (hfa:mg "law" = some (.ref fa))
    (aC0:PySem.W.nsIn K mainGlobals "InkError" = some (some (.ref C0)))
    (aC1:PySem.W.nsIn K mainGlobals "NoLine" = some (some (.ref C1)))
    (aC2:PySem.W.nsIn K mainGlobals "NoPart" = some (some (.ref C2)))
    (aC3:PySem.W.nsIn K mainGlobals "NoDrawing" = some (some (.ref C3)))
    (aC4:PySem.W.nsIn K mainGlobals "NoFormula" = some (some (.ref C4)))
    {oc1 kV1 dc1 pm1 cd1 ct1:Value} {od1 an1:Option Addr} {sl1:Array (Option Value)}
    (a1:PySem.W.nsIn K mainGlobals "_law_atom" = some (some (.ref f1)))
    (l1:K.lookup f1 = some ⟨oc1,od1,.func (PySem.W.fnOf "_law_atom" "_law_atom" (defArgs s_law_atom) (defBody s_law_atom) (defScope s_law_atom) .none kV1 dc1 pm1 an1 cd1 ct1),sl1⟩)
    (c1:PySem.W.codeIn K cd1 "_law_atom" = true)
    (k1:PySem.W.keepIn K (.ref f1) = true)
    {oc2 kV2 dc2 pm2 cd2 ct2:Value} {od2 an2:Option Addr} {sl2:Array (Option Value)}
    (a2:PySem.W.nsIn K mainGlobals "_law_one" = some (some (.ref f2)))
    (l2:K.lookup f2 = some ⟨oc2,od2,.func (PySem.W.fnOf "_law_one" "_law_one" (defArgs s_law_one) (defBody s_law_one) (defScope s_law_one) .none kV2 dc2 pm2 an2 cd2 ct2),sl2⟩)
    (c2:PySem.W.codeIn K cd2 "_law_one" = true)
    (k2:PySem.W.keepIn K (.ref f2) = true)
    {oc3 kV3 dc3 pm3 cd3 ct3:Value} {od3 an3:Option Addr} {sl3:Array (Option Value)}
    (a3:PySem.W.nsIn K mainGlobals "_law_with" = some (some (.ref f3)))
    (l3:K.lookup f3 = some ⟨oc3,od3,.func (PySem.W.fnOf "_law_with" "_law_with" (defArgs s_law_with) (defBody s_law_with) (defScope s_law_with) .none kV3 dc3 pm3 an3 cd3 ct3),sl3⟩)
    (c3:PySem.W.codeIn K cd3 "_law_with" = true)
    (k3:PySem.W.keepIn K (.ref f3) = true)
    {oc4 kV4 dc4 pm4 cd4 ct4:Value} {od4 an4:Option Addr} {sl4:Array (Option Value)}
    (a4:PySem.W.nsIn K mainGlobals "cells_of" = some (some (.ref f4)))
    (l4:K.lookup f4 = some ⟨oc4,od4,.func (PySem.W.fnOf "cells_of" "cells_of" (defArgs s_cells_of) (defBody s_cells_of) (defScope s_cells_of) .none kV4 dc4 pm4 an4 cd4 ct4),sl4⟩)
    (c4:PySem.W.codeIn K cd4 "cells_of" = true)
    (k4:PySem.W.keepIn K (.ref f4) = true)
    {oc5 kV5 dc5 pm5 cd5 ct5:Value} {od5 an5:Option Addr} {sl5:Array (Option Value)}
    (a5:PySem.W.nsIn K mainGlobals "parts_of" = some (some (.ref f5)))
    (l5:K.lookup f5 = some ⟨oc5,od5,.func (PySem.W.fnOf "parts_of" "parts_of" (defArgs s_parts_of) (defBody s_parts_of) (defScope s_parts_of) .none kV5 dc5 pm5 an5 cd5 ct5),sl5⟩)
    (c5:PySem.W.codeIn K cd5 "parts_of" = true)
    (k5:PySem.W.keepIn K (.ref f5) = true)
    {oc6 kV6 dc6 pm6 cd6 ct6:Value} {od6 an6:Option Addr} {sl6:Array (Option Value)}
    (a6:PySem.W.nsIn K mainGlobals "part_of" = some (some (.ref f6)))
    (l6:K.lookup f6 = some ⟨oc6,od6,.func (PySem.W.fnOf "part_of" "part_of" (defArgs s_part_of) (defBody s_part_of) (defScope s_part_of) .none kV6 dc6 pm6 an6 cd6 ct6),sl6⟩)
    (c6:PySem.W.codeIn K cd6 "part_of" = true)
    (k6:PySem.W.keepIn K (.ref f6) = true)
    {oc7 kV7 dc7 pm7 cd7 ct7:Value} {od7 an7:Option Addr} {sl7:Array (Option Value)}
    (a7:PySem.W.nsIn K mainGlobals "is_word" = some (some (.ref f7)))
    (l7:K.lookup f7 = some ⟨oc7,od7,.func (PySem.W.fnOf "is_word" "is_word" (defArgs s_is_word) (defBody s_is_word) (defScope s_is_word) .none kV7 dc7 pm7 an7 cd7 ct7),sl7⟩)
    (c7:PySem.W.codeIn K cd7 "is_word" = true)
    (k7:PySem.W.keepIn K (.ref f7) = true)
    {oc8 kV8 dc8 pm8 cd8 ct8:Value} {od8 an8:Option Addr} {sl8:Array (Option Value)}
    (a8:PySem.W.nsIn K mainGlobals "is_number_value" = some (some (.ref f8)))
    (l8:K.lookup f8 = some ⟨oc8,od8,.func (PySem.W.fnOf "is_number_value" "is_number_value" (defArgs s_is_number_value) (defBody s_is_number_value) (defScope s_is_number_value) .none kV8 dc8 pm8 an8 cd8 ct8),sl8⟩)
    (c8:PySem.W.codeIn K cd8 "is_number_value" = true)
    (k8:PySem.W.keepIn K (.ref f8) = true)
    {oc9 kV9 dc9 pm9 cd9 ct9:Value} {od9 an9:Option Addr} {sl9:Array (Option Value)}
    (a9:PySem.W.nsIn K mainGlobals "is_stretch" = some (some (.ref f9)))
    (l9:K.lookup f9 = some ⟨oc9,od9,.func (PySem.W.fnOf "is_stretch" "is_stretch" (defArgs s_is_stretch) (defBody s_is_stretch) (defScope s_is_stretch) .none kV9 dc9 pm9 an9 cd9 ct9),sl9⟩)
    (c9:PySem.W.codeIn K cd9 "is_stretch" = true)
    (k9:PySem.W.keepIn K (.ref f9) = true)
    {oc10 kV10 dc10 pm10 cd10 ct10:Value} {od10 an10:Option Addr} {sl10:Array (Option Value)}
    (a10:PySem.W.nsIn K mainGlobals "are_bands" = some (some (.ref f10)))
    (l10:K.lookup f10 = some ⟨oc10,od10,.func (PySem.W.fnOf "are_bands" "are_bands" (defArgs s_are_bands) (defBody s_are_bands) (defScope s_are_bands) .none kV10 dc10 pm10 an10 cd10 ct10),sl10⟩)
    (c10:PySem.W.codeIn K cd10 "are_bands" = true)
    (k10:PySem.W.keepIn K (.ref f10) = true)
    {oc11 kV11 dc11 pm11 cd11 ct11:Value} {od11 an11:Option Addr} {sl11:Array (Option Value)}
    (a11:PySem.W.nsIn K mainGlobals "are_signs" = some (some (.ref f11)))
    (l11:K.lookup f11 = some ⟨oc11,od11,.func (PySem.W.fnOf "are_signs" "are_signs" (defArgs s_are_signs) (defBody s_are_signs) (defScope s_are_signs) .none kV11 dc11 pm11 an11 cd11 ct11),sl11⟩)
    (c11:PySem.W.codeIn K cd11 "are_signs" = true)
    (k11:PySem.W.keepIn K (.ref f11) = true)
    {oc12 kV12 dc12 pm12 cd12 ct12:Value} {od12 an12:Option Addr} {sl12:Array (Option Value)}
    (a12:PySem.W.nsIn K mainGlobals "has_shell" = some (some (.ref f12)))
    (l12:K.lookup f12 = some ⟨oc12,od12,.func (PySem.W.fnOf "has_shell" "has_shell" (defArgs s_has_shell) (defBody s_has_shell) (defScope s_has_shell) .none kV12 dc12 pm12 an12 cd12 ct12),sl12⟩)
    (c12:PySem.W.codeIn K cd12 "has_shell" = true)
    (k12:PySem.W.keepIn K (.ref f12) = true)
    {oc13 kV13 dc13 pm13 cd13 ct13:Value} {od13 an13:Option Addr} {sl13:Array (Option Value)}
    (a13:PySem.W.nsIn K mainGlobals "level_of" = some (some (.ref f13)))
    (l13:K.lookup f13 = some ⟨oc13,od13,.func (PySem.W.fnOf "level_of" "level_of" (defArgs s_level_of) (defBody s_level_of) (defScope s_level_of) .none kV13 dc13 pm13 an13 cd13 ct13),sl13⟩)
    (c13:PySem.W.codeIn K cd13 "level_of" = true)
    (k13:PySem.W.keepIn K (.ref f13) = true)
    {oc14 kV14 dc14 pm14 cd14 ct14:Value} {od14 an14:Option Addr} {sl14:Array (Option Value)}
    (a14:PySem.W.nsIn K mainGlobals "least_level" = some (some (.ref f14)))
    (l14:K.lookup f14 = some ⟨oc14,od14,.func (PySem.W.fnOf "least_level" "least_level" (defArgs s_least_level) (defBody s_least_level) (defScope s_least_level) .none kV14 dc14 pm14 an14 cd14 ct14),sl14⟩)
    (c14:PySem.W.codeIn K cd14 "least_level" = true)
    (k14:PySem.W.keepIn K (.ref f14) = true)
    {oc15 kV15 dc15 pm15 cd15 ct15:Value} {od15 an15:Option Addr} {sl15:Array (Option Value)}
    (a15:PySem.W.nsIn K mainGlobals "holds_table" = some (some (.ref f15)))
    (l15:K.lookup f15 = some ⟨oc15,od15,.func (PySem.W.fnOf "holds_table" "holds_table" (defArgs s_holds_table) (defBody s_holds_table) (defScope s_holds_table) .none kV15 dc15 pm15 an15 cd15 ct15),sl15⟩)
    (c15:PySem.W.codeIn K cd15 "holds_table" = true)
    (k15:PySem.W.keepIn K (.ref f15) = true)
    {oc16 kV16 dc16 pm16 cd16 ct16:Value} {od16 an16:Option Addr} {sl16:Array (Option Value)}
    (a16:PySem.W.nsIn K mainGlobals "has_form" = some (some (.ref f16)))
    (l16:K.lookup f16 = some ⟨oc16,od16,.func (PySem.W.fnOf "has_form" "has_form" (defArgs s_has_form) (defBody s_has_form) (defScope s_has_form) .none kV16 dc16 pm16 an16 cd16 ct16),sl16⟩)
    (c16:PySem.W.codeIn K cd16 "has_form" = true)
    (k16:PySem.W.keepIn K (.ref f16) = true)
    {oc17 kV17 dc17 pm17 cd17 ct17:Value} {od17 an17:Option Addr} {sl17:Array (Option Value)}
    (a17:PySem.W.nsIn K mainGlobals "depth_of" = some (some (.ref f17)))
    (l17:K.lookup f17 = some ⟨oc17,od17,.func (PySem.W.fnOf "depth_of" "depth_of" (defArgs s_depth_of) (defBody s_depth_of) (defScope s_depth_of) .none kV17 dc17 pm17 an17 cd17 ct17),sl17⟩)
    (c17:PySem.W.codeIn K cd17 "depth_of" = true)
    (k17:PySem.W.keepIn K (.ref f17) = true)
    {oc18 kV18 dc18 pm18 cd18 ct18:Value} {od18 an18:Option Addr} {sl18:Array (Option Value)}
    (a18:PySem.W.nsIn K mainGlobals "count_of" = some (some (.ref f18)))
    (l18:K.lookup f18 = some ⟨oc18,od18,.func (PySem.W.fnOf "count_of" "count_of" (defArgs s_count_of) (defBody s_count_of) (defScope s_count_of) .none kV18 dc18 pm18 an18 cd18 ct18),sl18⟩)
    (c18:PySem.W.codeIn K cd18 "count_of" = true)
    (k18:PySem.W.keepIn K (.ref f18) = true)
    {oc19 kV19 dc19 pm19 cd19 ct19:Value} {od19 an19:Option Addr} {sl19:Array (Option Value)}
    (a19:PySem.W.nsIn K mainGlobals "is_formula" = some (some (.ref f19)))
    (l19:K.lookup f19 = some ⟨oc19,od19,.func (PySem.W.fnOf "is_formula" "is_formula" (defArgs s_is_formula) (defBody s_is_formula) (defScope s_is_formula) .none kV19 dc19 pm19 an19 cd19 ct19),sl19⟩)
    (c19:PySem.W.codeIn K cd19 "is_formula" = true)
    (k19:PySem.W.keepIn K (.ref f19) = true)
    {oc20 kV20 dc20 pm20 cd20 ct20:Value} {od20 an20:Option Addr} {sl20:Array (Option Value)}
    (a20:PySem.W.nsIn K mainGlobals "let_by" = some (some (.ref f20)))
    (l20:K.lookup f20 = some ⟨oc20,od20,.func (PySem.W.fnOf "let_by" "let_by" (defArgs s_let_by) (defBody s_let_by) (defScope s_let_by) .none kV20 dc20 pm20 an20 cd20 ct20),sl20⟩)
    (c20:PySem.W.codeIn K cd20 "let_by" = true)
    (k20:PySem.W.keepIn K (.ref f20) = true)
    {oc21 kV21 dc21 pm21 cd21 ct21:Value} {od21 an21:Option Addr} {sl21:Array (Option Value)}
    (a21:PySem.W.nsIn K mainGlobals "marked_again" = some (some (.ref f21)))
    (l21:K.lookup f21 = some ⟨oc21,od21,.func (PySem.W.fnOf "marked_again" "marked_again" (defArgs s_marked_again) (defBody s_marked_again) (defScope s_marked_again) .none kV21 dc21 pm21 an21 cd21 ct21),sl21⟩)
    (c21:PySem.W.codeIn K cd21 "marked_again" = true)
    (k21:PySem.W.keepIn K (.ref f21) = true)
    {oc22 kV22 dc22 pm22 cd22 ct22:Value} {od22 an22:Option Addr} {sl22:Array (Option Value)}
    (a22:PySem.W.nsIn K mainGlobals "bands_again" = some (some (.ref f22)))
    (l22:K.lookup f22 = some ⟨oc22,od22,.func (PySem.W.fnOf "bands_again" "bands_again" (defArgs s_bands_again) (defBody s_bands_again) (defScope s_bands_again) .none kV22 dc22 pm22 an22 cd22 ct22),sl22⟩)
    (c22:PySem.W.codeIn K cd22 "bands_again" = true)
    (k22:PySem.W.keepIn K (.ref f22) = true)
    {oc23 kV23 dc23 pm23 cd23 ct23:Value} {od23 an23:Option Addr} {sl23:Array (Option Value)}
    (a23:PySem.W.nsIn K mainGlobals "rebuilt" = some (some (.ref f23)))
    (l23:K.lookup f23 = some ⟨oc23,od23,.func (PySem.W.fnOf "rebuilt" "rebuilt" (defArgs s_rebuilt) (defBody s_rebuilt) (defScope s_rebuilt) .none kV23 dc23 pm23 an23 cd23 ct23),sl23⟩)
    (c23:PySem.W.codeIn K cd23 "rebuilt" = true)
    (k23:PySem.W.keepIn K (.ref f23) = true)
    {oc24 kV24 dc24 pm24 cd24 ct24:Value} {od24 an24:Option Addr} {sl24:Array (Option Value)}
    (a24:PySem.W.nsIn K mainGlobals "fitting" = some (some (.ref f24)))
    (l24:K.lookup f24 = some ⟨oc24,od24,.func (PySem.W.fnOf "fitting" "fitting" (defArgs s_fitting) (defBody s_fitting) (defScope s_fitting) .none kV24 dc24 pm24 an24 cd24 ct24),sl24⟩)
    (c24:PySem.W.codeIn K cd24 "fitting" = true)
    (k24:PySem.W.keepIn K (.ref f24) = true)
    {oc25 kV25 dc25 pm25 cd25 ct25:Value} {od25 an25:Option Addr} {sl25:Array (Option Value)}
    (a25:PySem.W.nsIn K mainGlobals "with_part" = some (some (.ref f25)))
    (l25:K.lookup f25 = some ⟨oc25,od25,.func (PySem.W.fnOf "with_part" "with_part" (defArgs s_with_part) (defBody s_with_part) (defScope s_with_part) .none kV25 dc25 pm25 an25 cd25 ct25),sl25⟩)
    (c25:PySem.W.codeIn K cd25 "with_part" = true)
    (k25:PySem.W.keepIn K (.ref f25) = true)
    {oc26 kV26 dc26 pm26 cd26 ct26:Value} {od26 an26:Option Addr} {sl26:Array (Option Value)}
    (a26:PySem.W.nsIn K mainGlobals "put_in" = some (some (.ref f26)))
    (l26:K.lookup f26 = some ⟨oc26,od26,.func (PySem.W.fnOf "put_in" "put_in" (defArgs s_put_in) (defBody s_put_in) (defScope s_put_in) .none kV26 dc26 pm26 an26 cd26 ct26),sl26⟩)
    (c26:PySem.W.codeIn K cd26 "put_in" = true)
    (k26:PySem.W.keepIn K (.ref f26) = true)
    {oc27 kV27 dc27 pm27 cd27 ct27:Value} {od27 an27:Option Addr} {sl27:Array (Option Value)}
    (a27:PySem.W.nsIn K mainGlobals "_law_cell_at" = some (some (.ref f27)))
    (l27:K.lookup f27 = some ⟨oc27,od27,.func (PySem.W.fnOf "_law_cell_at" "_law_cell_at" (defArgs s_law_cell_at) (defBody s_law_cell_at) (defScope s_law_cell_at) .none kV27 dc27 pm27 an27 cd27 ct27),sl27⟩)
    (c27:PySem.W.codeIn K cd27 "_law_cell_at" = true)
    (k27:PySem.W.keepIn K (.ref f27) = true)
    {oc28 kV28 dc28 pm28 cd28 ct28:Value} {od28 an28:Option Addr} {sl28:Array (Option Value)}
    (a28:PySem.W.nsIn K mainGlobals "_law_parts" = some (some (.ref f28)))
    (l28:K.lookup f28 = some ⟨oc28,od28,.func (PySem.W.fnOf "_law_parts" "_law_parts" (defArgs s_law_parts) (defBody s_law_parts) (defScope s_law_parts) .none kV28 dc28 pm28 an28 cd28 ct28),sl28⟩)
    (c28:PySem.W.codeIn K cd28 "_law_parts" = true)
    (k28:PySem.W.keepIn K (.ref f28) = true)
    {oc29 kV29 dc29 pm29 cd29 ct29:Value} {od29 an29:Option Addr} {sl29:Array (Option Value)}
    (a29:PySem.W.nsIn K mainGlobals "_law_least" = some (some (.ref f29)))
    (l29:K.lookup f29 = some ⟨oc29,od29,.func (PySem.W.fnOf "_law_least" "_law_least" (defArgs s_law_least) (defBody s_law_least) (defScope s_law_least) .none kV29 dc29 pm29 an29 cd29 ct29),sl29⟩)
    (c29:PySem.W.codeIn K cd29 "_law_least" = true)
    (k29:PySem.W.keepIn K (.ref f29) = true)
    {oc30 kV30 dc30 pm30 cd30 ct30:Value} {od30 an30:Option Addr} {sl30:Array (Option Value)}
    (a30:PySem.W.nsIn K mainGlobals "_law_refused" = some (some (.ref f30)))
    (l30:K.lookup f30 = some ⟨oc30,od30,.func (PySem.W.fnOf "_law_refused" "_law_refused" (defArgs s_law_refused) (defBody s_law_refused) (defScope s_law_refused) .none kV30 dc30 pm30 an30 cd30 ct30),sl30⟩)
    (c30:PySem.W.codeIn K cd30 "_law_refused" = true)
    (k30:PySem.W.keepIn K (.ref f30) = true)
    {oc31 kV31 dc31 pm31 cd31 ct31:Value} {od31 an31:Option Addr} {sl31:Array (Option Value)}
    (a31:PySem.W.nsIn K mainGlobals "law" = some (some (.ref f31)))
    (l31:K.lookup f31 = some ⟨oc31,od31,.func (PySem.W.fnOf "law" "law" (defArgs s_law) (defBody s_law) (defScope s_law) .none kV31 dc31 pm31 an31 cd31 ct31),sl31⟩)
    (c31:PySem.W.codeIn K cd31 "law" = true)
    (k31:PySem.W.keepIn K (.ref f31) = true)
    (z1:PySem.W.nsIn K mainGlobals "range" = some none)
    (z2:PySem.W.nsIn K mainGlobals "tuple" = some none)
    (z3:PySem.W.nsIn K mainGlobals "divmod" = some none)
    (z4:PySem.W.nsIn K mainGlobals "len" = some none)
    (z5:PySem.W.nsIn K mainGlobals "list" = some none)
    (z6:PySem.W.nsIn K mainGlobals "isinstance" = some none)
    (z7:PySem.W.nsIn K mainGlobals "str" = some none)
    (z8:PySem.W.nsIn K mainGlobals "all" = some none)
    (z9:PySem.W.nsIn K mainGlobals "int" = some none)
    (z10:PySem.W.nsIn K mainGlobals "bool" = some none)
    (z11:PySem.W.nsIn K mainGlobals "any" = some none)
    (z12:PySem.W.nsIn K mainGlobals "enumerate" = some none)
    (z13:PySem.W.nsIn K mainGlobals "max" = some none)
    (z14:PySem.W.nsIn K mainGlobals "sum" = some none)
    (z15:PySem.W.nsIn K mainGlobals "ValueError" = some none)
    {t1:Addr}
    (ta1:PySem.W.nsIn K mainGlobals "LENGTHS" = some (some (.ref t1)))
    (tl1:KTD.tabLook KTD.flatLooks (fun b => K.lookup b) t1 (tb_LENGTHS.map fun p => (mkS p.1,PyData.int p.2)) = true)
    (th1:KTD.hashesOf (fun b => K.lookup b) t1 = (tb_LENGTHS.map fun p => (mkS p.1,PyData.int p.2)).map fun p => (PySem.strKind l.prog w).hash p.1)
    {t2:Addr}
    (ta2:PySem.W.nsIn K mainGlobals "LEVELS" = some (some (.ref t2)))
    (tl2:KTD.tabLook KTD.flatLooks (fun b => K.lookup b) t2 (tb_LEVELS.map fun p => (mkS p.1,PyData.int p.2)) = true)
    (th2:KTD.hashesOf (fun b => K.lookup b) t2 = (tb_LEVELS.map fun p => (mkS p.1,PyData.int p.2)).map fun p => (PySem.strKind l.prog w).hash p.1)
    {u1:Addr} {uc1:Value} {ud1:Option Addr} {ux1:Data} {us1:Array (Option Value)}
    (ua1:PySem.W.nsIn K mainGlobals "ROW_KINDS" = some (some (.ref u1)))
    (ul1:K.lookup u1 = some ⟨uc1,ud1,ux1,us1⟩)
    (ue1:tupOk [.str [101,118,101,110],.str [115,117,109],.str [116,105,109,101,115]] ⟨uc1,ud1,ux1,us1⟩ = true)
    {u2:Value}
    (ua2:PySem.W.nsIn K mainGlobals "MOST_LETTERS" = some (some u2))
    (ue2:cOk c_MOST_LETTERS u2 = true)
    {u3:Value}
    (ua3:PySem.W.nsIn K mainGlobals "SMALL_LETTERS" = some (some u3))
    (ue3:cOk c_SMALL_LETTERS u3 = true)
    {u4:Value}
    (ua4:PySem.W.nsIn K mainGlobals "GREATEST_NUMBER" = some (some u4))
    (ue4:cOk c_GREATEST_NUMBER u4 = true)
    {u5:Value}
    (ua5:PySem.W.nsIn K mainGlobals "MOST_IN_TABLE" = some (some u5))
    (ue5:cOk c_MOST_IN_TABLE u5 = true)
    {u6:Value}
    (ua6:PySem.W.nsIn K mainGlobals "MOST_PARTS" = some (some u6))
    (ue6:cOk c_MOST_PARTS u6 = true)
    {u7:Value}
    (ua7:PySem.W.nsIn K mainGlobals "MOST_DEPTH" = some (some u7))
    (ue7:cOk c_MOST_DEPTH u7 = true)
    {u8:Value}
    (ua8:PySem.W.nsIn K mainGlobals "MOST_COUNT" = some (some u8))
    (ue8:cOk c_MOST_COUNT u8 = true)
    (xi2:PySem.W.excIn K C2 bmVE "ValueError.__new__" = true)
    (xi4:PySem.W.excIn K C4 bmVE "ValueError.__new__" = true)
    (is0:PySem.W.specialIn K (.builtin "object.__class__") "__get__" = some (some (.builtin "getset_descriptor.__get__")))
    (it0:PySem.W.takesIn K (.builtin "object.__class__") = some true)
    (xg0:PySem.W.findIn K (.ref C0) "__getattribute__" = some (some (.builtin "BaseException.__getattribute__")))
    (xh0:PySem.W.findIn K (.ref C0) "__getattr__" = some none)
    (xb0:PySem.W.mroIn K C0 (.type "BaseException") = some true)
    (xd0:PySem.W.hasDictIn K C0 = true)
    (ic0:PySem.W.findIn K (.ref C0) "__class__" = some (some (.builtin "object.__class__")))
    (im0:PySem.W.mroIn K C0 (.type "object") = some true)
    (ik0_4:PySem.W.kitOne K (.ref C0) (.ref C4) = some false)
    (ik0_1:PySem.W.kitOne K (.ref C0) (.ref C1) = some false)
    (ik0_3:PySem.W.kitOne K (.ref C0) (.ref C3) = some false)
    (ik0_0:PySem.W.kitOne K (.ref C0) (.ref C0) = some true)
    (iv0:PySem.W.kitOne K (.ref C0) (.type "ValueError") = some true)
    (xg1:PySem.W.findIn K (.ref C1) "__getattribute__" = some (some (.builtin "BaseException.__getattribute__")))
    (xh1:PySem.W.findIn K (.ref C1) "__getattr__" = some none)
    (xb1:PySem.W.mroIn K C1 (.type "BaseException") = some true)
    (xd1:PySem.W.hasDictIn K C1 = true)
    (ic1:PySem.W.findIn K (.ref C1) "__class__" = some (some (.builtin "object.__class__")))
    (im1:PySem.W.mroIn K C1 (.type "object") = some true)
    (ik1_4:PySem.W.kitOne K (.ref C1) (.ref C4) = some false)
    (ik1_1:PySem.W.kitOne K (.ref C1) (.ref C1) = some true)
    (ik1_3:PySem.W.kitOne K (.ref C1) (.ref C3) = some false)
    (ik1_0:PySem.W.kitOne K (.ref C1) (.ref C0) = some true)
    (iv1:PySem.W.kitOne K (.ref C1) (.type "ValueError") = some true)
    (xg2:PySem.W.findIn K (.ref C2) "__getattribute__" = some (some (.builtin "BaseException.__getattribute__")))
    (xh2:PySem.W.findIn K (.ref C2) "__getattr__" = some none)
    (xb2:PySem.W.mroIn K C2 (.type "BaseException") = some true)
    (xd2:PySem.W.hasDictIn K C2 = true)
    (ic2:PySem.W.findIn K (.ref C2) "__class__" = some (some (.builtin "object.__class__")))
    (im2:PySem.W.mroIn K C2 (.type "object") = some true)
    (ik2_4:PySem.W.kitOne K (.ref C2) (.ref C4) = some false)
    (ik2_1:PySem.W.kitOne K (.ref C2) (.ref C1) = some false)
    (ik2_3:PySem.W.kitOne K (.ref C2) (.ref C3) = some false)
    (ik2_0:PySem.W.kitOne K (.ref C2) (.ref C0) = some true)
    (iv2:PySem.W.kitOne K (.ref C2) (.type "ValueError") = some true)
    (xg3:PySem.W.findIn K (.ref C3) "__getattribute__" = some (some (.builtin "BaseException.__getattribute__")))
    (xh3:PySem.W.findIn K (.ref C3) "__getattr__" = some none)
    (xb3:PySem.W.mroIn K C3 (.type "BaseException") = some true)
    (xd3:PySem.W.hasDictIn K C3 = true)
    (ic3:PySem.W.findIn K (.ref C3) "__class__" = some (some (.builtin "object.__class__")))
    (im3:PySem.W.mroIn K C3 (.type "object") = some true)
    (ik3_4:PySem.W.kitOne K (.ref C3) (.ref C4) = some false)
    (ik3_1:PySem.W.kitOne K (.ref C3) (.ref C1) = some false)
    (ik3_3:PySem.W.kitOne K (.ref C3) (.ref C3) = some true)
    (ik3_0:PySem.W.kitOne K (.ref C3) (.ref C0) = some true)
    (iv3:PySem.W.kitOne K (.ref C3) (.type "ValueError") = some true)
    (xg4:PySem.W.findIn K (.ref C4) "__getattribute__" = some (some (.builtin "BaseException.__getattribute__")))
    (xh4:PySem.W.findIn K (.ref C4) "__getattr__" = some none)
    (xb4:PySem.W.mroIn K C4 (.type "BaseException") = some true)
    (xd4:PySem.W.hasDictIn K C4 = true)
    (ic4:PySem.W.findIn K (.ref C4) "__class__" = some (some (.builtin "object.__class__")))
    (im4:PySem.W.mroIn K C4 (.type "object") = some true)
    (ik4_4:PySem.W.kitOne K (.ref C4) (.ref C4) = some true)
    (ik4_1:PySem.W.kitOne K (.ref C4) (.ref C1) = some false)
    (ik4_3:PySem.W.kitOne K (.ref C4) (.ref C3) = some false)
    (ik4_0:PySem.W.kitOne K (.ref C4) (.ref C0) = some true)
    (iv4:PySem.W.kitOne K (.ref C4) (.type "ValueError") = some true)
    : ∃ fd:FuncData,(∀ (s:Shared) (v:Value),BindsTo s fd ⟨[v],[]⟩ [("script",v)]) ∧ ∀ base:Heap,K.In base → base.Ns mainGlobals mg → FnOk l.prog w K mg base CX0 39 fa fd ["script"] (spL K D_law) := by
  have e := hfa.symm.trans (PySem.W.mg_of X G a31)
  cases e
  have T:Txt l.prog w K mg C0 C1 C2 C3 C4 := ⟨PySem.W.mg_none_of X G z1,PySem.W.mg_none_of X G z2,PySem.W.mg_none_of X G z3,PySem.W.mg_none_of X G z4,PySem.W.mg_none_of X G z5,PySem.W.mg_none_of X G z6,PySem.W.mg_none_of X G z7,PySem.W.mg_none_of X G z8,PySem.W.mg_none_of X G z9,PySem.W.mg_none_of X G z10,PySem.W.mg_none_of X G z11,PySem.W.mg_none_of X G z12,PySem.W.mg_none_of X G z13,PySem.W.mg_none_of X G z14,PySem.W.mg_none_of X G z15,tab_of (PySem.W.mg_of X G ta1) tl1 (by decide +kernel) th1,tab_of (PySem.W.mg_of X G ta2) tl2 (by decide +kernel) th2,const_tup (PySem.W.mg_of X G ua1) ul1 ue1,const_flat (PySem.W.mg_of X G ua2) ue2,const_flat (PySem.W.mg_of X G ua3) ue3,const_flat (PySem.W.mg_of X G ua4) ue4,const_flat (PySem.W.mg_of X G ua5) ue5,const_flat (PySem.W.mg_of X G ua6) ue6,const_flat (PySem.W.mg_of X G ua7) ue7,const_flat (PySem.W.mg_of X G ua8) ue8,⟨C2,PySem.W.mg_of X G aC2,rfl,xi2⟩,⟨C4,PySem.W.mg_of X G aC4,rfl,xi4⟩,⟨C4,PySem.W.mg_of X G aC4,cl_all (cl_c ⟨xg0,xh0,xd0,ic0,is0,it0,im0,xb0,ik0_4⟩ (cl_c ⟨xg1,xh1,xd1,ic1,is0,it0,im1,xb1,ik1_4⟩ (cl_c ⟨xg2,xh2,xd2,ic2,is0,it0,im2,xb2,ik2_4⟩ (cl_c ⟨xg3,xh3,xd3,ic3,is0,it0,im3,xb3,ik3_4⟩ (cl_c ⟨xg4,xh4,xd4,ic4,is0,it0,im4,xb4,ik4_4⟩ cl_n)))))⟩,⟨C1,PySem.W.mg_of X G aC1,cl_all (cl_c ⟨xg0,xh0,xd0,ic0,is0,it0,im0,xb0,ik0_1⟩ (cl_c ⟨xg1,xh1,xd1,ic1,is0,it0,im1,xb1,ik1_1⟩ (cl_c ⟨xg2,xh2,xd2,ic2,is0,it0,im2,xb2,ik2_1⟩ (cl_c ⟨xg3,xh3,xd3,ic3,is0,it0,im3,xb3,ik3_1⟩ (cl_c ⟨xg4,xh4,xd4,ic4,is0,it0,im4,xb4,ik4_1⟩ cl_n)))))⟩,⟨C3,PySem.W.mg_of X G aC3,cl_all (cl_c ⟨xg0,xh0,xd0,ic0,is0,it0,im0,xb0,ik0_3⟩ (cl_c ⟨xg1,xh1,xd1,ic1,is0,it0,im1,xb1,ik1_3⟩ (cl_c ⟨xg2,xh2,xd2,ic2,is0,it0,im2,xb2,ik2_3⟩ (cl_c ⟨xg3,xh3,xd3,ic3,is0,it0,im3,xb3,ik3_3⟩ (cl_c ⟨xg4,xh4,xd4,ic4,is0,it0,im4,xb4,ik4_3⟩ cl_n)))))⟩,⟨C0,PySem.W.mg_of X G aC0,cl_all (cl_c ⟨xg0,xh0,xd0,ic0,is0,it0,im0,xb0,ik0_0⟩ (cl_c ⟨xg1,xh1,xd1,ic1,is0,it0,im1,xb1,ik1_0⟩ (cl_c ⟨xg2,xh2,xd2,ic2,is0,it0,im2,xb2,ik2_0⟩ (cl_c ⟨xg3,xh3,xd3,ic3,is0,it0,im3,xb3,ik3_0⟩ (cl_c ⟨xg4,xh4,xd4,ic4,is0,it0,im4,xb4,ik4_0⟩ cl_n)))))⟩,⟨cl_all (cl_c ⟨xg0,xh0,xd0,ic0,is0,it0,im0,xb0,iv0⟩ (cl_c ⟨xg1,xh1,xd1,ic1,is0,it0,im1,xb1,iv1⟩ (cl_c ⟨xg2,xh2,xd2,ic2,is0,it0,im2,xb2,iv2⟩ (cl_c ⟨xg3,xh3,xd3,ic3,is0,it0,im3,xb3,iv3⟩ (cl_c ⟨xg4,xh4,xd4,ic4,is0,it0,im4,xb4,iv4⟩ cl_n)))))⟩⟩
  have F1 := fun_mk (st := s_law_atom) l1 c1 k1
  have b1 := F1.binds (ps := ["cell"]) fun _ _ _ _ _ _ us hl => match us,hl with | [_],_ => rfl
  have F2 := fun_mk (st := s_law_one) l2 c2 k2
  have b2 := F2.binds (ps := ["way", "size", "cell"]) fun _ _ _ _ _ _ us hl => match us,hl with | [_,_,_],_ => rfl
  have F3 := fun_mk (st := s_law_with) l3 c3 k3
  have b3 := F3.binds (ps := ["f", "n", "g"]) fun _ _ _ _ _ _ us hl => match us,hl with | [_,_,_],_ => rfl
  have F4 := fun_mk (st := s_cells_of) l4 c4 k4
  have b4 := F4.binds (ps := ["bands"]) fun _ _ _ _ _ _ us hl => match us,hl with | [_],_ => rfl
  have F5 := fun_mk (st := s_parts_of) l5 c5 k5
  have b5 := F5.binds (ps := ["f"]) fun _ _ _ _ _ _ us hl => match us,hl with | [_],_ => rfl
  have F6 := fun_mk (st := s_part_of) l6 c6 k6
  have b6 := F6.binds (ps := ["f", "path"]) fun _ _ _ _ _ _ us hl => match us,hl with | [_,_],_ => rfl
  have F7 := fun_mk (st := s_is_word) l7 c7 k7
  have b7 := F7.binds (ps := ["thing"]) fun _ _ _ _ _ _ us hl => match us,hl with | [_],_ => rfl
  have F8 := fun_mk (st := s_is_number_value) l8 c8 k8
  have b8 := F8.binds (ps := ["thing"]) fun _ _ _ _ _ _ us hl => match us,hl with | [_],_ => rfl
  have F9 := fun_mk (st := s_is_stretch) l9 c9 k9
  have b9 := F9.binds (ps := ["thing", "least", "most"]) fun _ _ _ _ _ _ us hl => match us,hl with | [_,_,_],_ => rfl
  have F10 := fun_mk (st := s_are_bands) l10 c10 k10
  have b10 := F10.binds (ps := ["thing"]) fun _ _ _ _ _ _ us hl => match us,hl with | [_],_ => rfl
  have F11 := fun_mk (st := s_are_signs) l11 c11 k11
  have b11 := F11.binds (ps := ["thing", "number"]) fun _ _ _ _ _ _ us hl => match us,hl with | [_,_],_ => rfl
  have F12 := fun_mk (st := s_has_shell) l12 c12 k12
  have b12 := F12.binds (ps := ["thing"]) fun _ _ _ _ _ _ us hl => match us,hl with | [_],_ => rfl
  have F13 := fun_mk (st := s_level_of) l13 c13 k13
  have b13 := F13.binds (ps := ["f"]) fun _ _ _ _ _ _ us hl => match us,hl with | [_],_ => rfl
  have F14 := fun_mk (st := s_least_level) l14 c14 k14
  have b14 := F14.binds (ps := ["f", "n"]) fun _ _ _ _ _ _ us hl => match us,hl with | [_,_],_ => rfl
  have F15 := fun_mk (st := s_holds_table) l15 c15 k15
  have b15 := F15.binds (ps := ["f"]) fun _ _ _ _ _ _ us hl => match us,hl with | [_],_ => rfl
  have F16 := fun_mk (st := s_has_form) l16 c16 k16
  have b16 := F16.binds (ps := ["thing"]) fun _ _ _ _ _ _ us hl => match us,hl with | [_],_ => rfl
  have F17 := fun_mk (st := s_depth_of) l17 c17 k17
  have b17 := F17.binds (ps := ["f"]) fun _ _ _ _ _ _ us hl => match us,hl with | [_],_ => rfl
  have F18 := fun_mk (st := s_count_of) l18 c18 k18
  have b18 := F18.binds (ps := ["f"]) fun _ _ _ _ _ _ us hl => match us,hl with | [_],_ => rfl
  have F19 := fun_mk (st := s_is_formula) l19 c19 k19
  have b19 := F19.binds (ps := ["thing"]) fun _ _ _ _ _ _ us hl => match us,hl with | [_],_ => rfl
  have F20 := fun_mk (st := s_let_by) l20 c20 k20
  have b20 := F20.binds (ps := ["f"]) fun _ _ _ _ _ _ us hl => match us,hl with | [_],_ => rfl
  have F21 := fun_mk (st := s_marked_again) l21 c21 k21
  have b21 := F21.binds (ps := ["f", "some"]) fun _ _ _ _ _ _ us hl => match us,hl with | [_,_],_ => rfl
  have F22 := fun_mk (st := s_bands_again) l22 c22 k22
  have b22 := F22.binds (ps := ["bands", "some"]) fun _ _ _ _ _ _ us hl => match us,hl with | [_,_],_ => rfl
  have F23 := fun_mk (st := s_rebuilt) l23 c23 k23
  have b23 := F23.binds (ps := ["f", "some"]) fun _ _ _ _ _ _ us hl => match us,hl with | [_,_],_ => rfl
  have F24 := fun_mk (st := s_fitting) l24 c24 k24
  have b24 := F24.binds (ps := ["f", "n", "g"]) fun _ _ _ _ _ _ us hl => match us,hl with | [_,_,_],_ => rfl
  have F25 := fun_mk (st := s_with_part) l25 c25 k25
  have b25 := F25.binds (ps := ["f", "path", "g"]) fun _ _ _ _ _ _ us hl => match us,hl with | [_,_,_],_ => rfl
  have F26 := fun_mk (st := s_put_in) l26 c26 k26
  have b26 := F26.binds (ps := ["f", "path", "g"]) fun _ _ _ _ _ _ us hl => match us,hl with | [_,_,_],_ => rfl
  have F27 := fun_mk (st := s_law_cell_at) l27 c27 k27
  have b27 := F27.binds (ps := ["script", "k"]) fun _ _ _ _ _ _ us hl => match us,hl with | [_,_],_ => rfl
  have F28 := fun_mk (st := s_law_parts) l28 c28 k28
  have b28 := F28.binds (ps := ["f"]) fun _ _ _ _ _ _ us hl => match us,hl with | [_],_ => rfl
  have F29 := fun_mk (st := s_law_least) l29 c29 k29
  have b29 := F29.binds (ps := ["f", "n"]) fun _ _ _ _ _ _ us hl => match us,hl with | [_,_],_ => rfl
  have F30 := fun_mk (st := s_law_refused) l30 c30 k30
  have b30 := F30.binds (ps := ["f", "path", "g"]) fun _ _ _ _ _ _ us hl => match us,hl with | [_,_,_],_ => rfl
  have F31 := fun_mk (st := s_law) l31 c31 k31
  have b31 := F31.binds (ps := ["script"]) fun _ _ _ _ _ _ us hl => match us,hl with | [_],_ => rfl
  refine ⟨PySem.W.fnOf "law" "law" (defArgs s_law) (defBody s_law) (defScope s_law) .none kV31 dc31 pm31 an31 cd31 ct31,fun s v => .of_eq rfl,fun base _ _ => ?_⟩
  have G_law_atom:Def l.prog w K mg base (ct C0 C1 C2 C3 C4) "_law_atom" ["cell"] 1 D_law_atom := def_of F1 S_law_atom (PySem.W.mg_of X G a1) b1 (body_law_atom T  )
  have G_law_one:Def l.prog w K mg base (ct C0 C1 C2 C3 C4) "_law_one" ["way", "size", "cell"] 2 D_law_one := def_of F2 S_law_one (PySem.W.mg_of X G a2) b2 (body_law_one T G_law_atom )
  have G_law_with:Def l.prog w K mg base (ct C0 C1 C2 C3 C4) "_law_with" ["f", "n", "g"] 1 D_law_with := def_of F3 S_law_with (PySem.W.mg_of X G a3) b3 (body_law_with T  )
  have G_cells_of:DefF l.prog w K mg base (ct C0 C1 C2 C3 C4) "cells_of" ["bands"] 1 D_cells_of := def_ofF F4 S_cells_of (PySem.W.mg_of X G a4) b4 (body_cells_of T  )
  have G_parts_of:DefF l.prog w K mg base (ct C0 C1 C2 C3 C4) "parts_of" ["f"] 2 D_parts_of := def_ofF F5 S_parts_of (PySem.W.mg_of X G a5) b5 (body_parts_of T G_cells_of )
  have GX_part_of:DefED l.prog w K mg base (ct C0 C1 C2 C3 C4) "part_of" ["f", "path"] 3 D_part_of X_part_of := defE_of F6 S_part_of (PySem.W.mg_of X G a6) b6 (body_part_of T G_parts_of )
  have G_part_of:Def l.prog w K mg base (ct C0 C1 C2 C3 C4) "part_of" ["f", "path"] 3 D_part_of := GX_part_of.def_
  have G_is_word:Def l.prog w K mg base (ct C0 C1 C2 C3 C4) "is_word" ["thing"] 1 D_is_word := def_of F7 S_is_word (PySem.W.mg_of X G a7) b7 (body_is_word T  )
  have G_is_number_value:Def l.prog w K mg base (ct C0 C1 C2 C3 C4) "is_number_value" ["thing"] 1 D_is_number_value := def_of F8 S_is_number_value (PySem.W.mg_of X G a8) b8 (body_is_number_value T  )
  have G_is_stretch:Def l.prog w K mg base (ct C0 C1 C2 C3 C4) "is_stretch" ["thing", "least", "most"] 1 D_is_stretch := def_of F9 S_is_stretch (PySem.W.mg_of X G a9) b9 (body_is_stretch T  )
  have G_are_bands:Def l.prog w K mg base (ct C0 C1 C2 C3 C4) "are_bands" ["thing"] 2 D_are_bands := def_of F10 S_are_bands (PySem.W.mg_of X G a10) b10 (body_are_bands T G_is_stretch )
  have G_are_signs:Def l.prog w K mg base (ct C0 C1 C2 C3 C4) "are_signs" ["thing", "number"] 1 D_are_signs := def_of F11 S_are_signs (PySem.W.mg_of X G a11) b11 (body_are_signs T  )
  have G_has_shell:Def l.prog w K mg base (ct C0 C1 C2 C3 C4) "has_shell" ["thing"] 3 D_has_shell := def_of F12 S_has_shell (PySem.W.mg_of X G a12) b12 (body_has_shell T G_is_word G_is_number_value G_are_bands G_is_stretch G_are_signs )
  have G_level_of:Def l.prog w K mg base (ct C0 C1 C2 C3 C4) "level_of" ["f"] 1 D_level_of := def_of F13 S_level_of (PySem.W.mg_of X G a13) b13 (body_level_of T  )
  have G_least_level:Def l.prog w K mg base (ct C0 C1 C2 C3 C4) "least_level" ["f", "n"] 2 D_least_level := def_of F14 S_least_level (PySem.W.mg_of X G a14) b14 (body_least_level T G_level_of )
  have R_holds_table : ∀ n:Nat,Def l.prog w K mg base (ct C0 C1 C2 C3 C4) "holds_table" ["f"] (2 + n) (DN_holds_table n) := fun n => Nat.rec (def_none F15 (PySem.W.mg_of X G a15) b15) (fun n ih => def_of F15 S_holds_table (PySem.W.mg_of X G a15) b15 (body_holds_table T G_parts_of  (Nat.le_add_right 2 n) ih)) n
  have G_holds_table:Def l.prog w K mg base (ct C0 C1 C2 C3 C4) "holds_table" ["f"] 18 D_holds_table := R_holds_table fuel_holds_table
  have R_has_form : ∀ n:Nat,Def l.prog w K mg base (ct C0 C1 C2 C3 C4) "has_form" ["thing"] (18 + n) (DN_has_form n) := fun n => Nat.rec (def_none F16 (PySem.W.mg_of X G a16) b16) (fun n ih => def_of F16 S_has_form (PySem.W.mg_of X G a16) b16 (body_has_form T G_parts_of G_has_shell G_level_of G_least_level G_holds_table  (Nat.le_add_right 18 n) ih)) n
  have G_has_form:Def l.prog w K mg base (ct C0 C1 C2 C3 C4) "has_form" ["thing"] 34 D_has_form := R_has_form fuel_has_form
  have R_depth_of : ∀ n:Nat,Def l.prog w K mg base (ct C0 C1 C2 C3 C4) "depth_of" ["f"] (2 + n) (DN_depth_of n) := fun n => Nat.rec (def_none F17 (PySem.W.mg_of X G a17) b17) (fun n ih => def_of F17 S_depth_of (PySem.W.mg_of X G a17) b17 (body_depth_of T G_parts_of  (Nat.le_add_right 2 n) ih)) n
  have G_depth_of:Def l.prog w K mg base (ct C0 C1 C2 C3 C4) "depth_of" ["f"] 18 D_depth_of := R_depth_of fuel_depth_of
  have R_count_of : ∀ n:Nat,Def l.prog w K mg base (ct C0 C1 C2 C3 C4) "count_of" ["f"] (2 + n) (DN_count_of n) := fun n => Nat.rec (def_none F18 (PySem.W.mg_of X G a18) b18) (fun n ih => def_of F18 S_count_of (PySem.W.mg_of X G a18) b18 (body_count_of T G_parts_of  (Nat.le_add_right 2 n) ih)) n
  have G_count_of:Def l.prog w K mg base (ct C0 C1 C2 C3 C4) "count_of" ["f"] 18 D_count_of := R_count_of fuel_count_of
  have G_is_formula:Def l.prog w K mg base (ct C0 C1 C2 C3 C4) "is_formula" ["thing"] 35 D_is_formula := def_of F19 S_is_formula (PySem.W.mg_of X G a19) b19 (body_is_formula T G_has_form G_depth_of G_count_of )
  have GX_let_by:DefED l.prog w K mg base (ct C0 C1 C2 C3 C4) "let_by" ["f"] 36 D_let_by X_let_by := defE_of F20 S_let_by (PySem.W.mg_of X G a20) b20 (body_let_by T G_is_formula )
  have G_let_by:Def l.prog w K mg base (ct C0 C1 C2 C3 C4) "let_by" ["f"] 36 D_let_by := GX_let_by.def_
  have G_marked_again:Def l.prog w K mg base (ct C0 C1 C2 C3 C4) "marked_again" ["f", "some"] 1 D_marked_again := def_of F21 S_marked_again (PySem.W.mg_of X G a21) b21 (body_marked_again T  )
  have G_bands_again:Def l.prog w K mg base (ct C0 C1 C2 C3 C4) "bands_again" ["bands", "some"] 1 D_bands_again := def_of F22 S_bands_again (PySem.W.mg_of X G a22) b22 (body_bands_again T  )
  have G_rebuilt:Def l.prog w K mg base (ct C0 C1 C2 C3 C4) "rebuilt" ["f", "some"] 2 D_rebuilt := def_of F23 S_rebuilt (PySem.W.mg_of X G a23) b23 (body_rebuilt T G_marked_again G_bands_again )
  have G_fitting:Def l.prog w K mg base (ct C0 C1 C2 C3 C4) "fitting" ["f", "n", "g"] 3 D_fitting := def_of F24 S_fitting (PySem.W.mg_of X G a24) b24 (body_fitting T G_level_of G_least_level )
  have R_with_part : ∀ n:Nat,Def l.prog w K mg base (ct C0 C1 C2 C3 C4) "with_part" ["f", "path", "g"] (3 + n) (DN_with_part n) := fun n => Nat.rec (def_none F25 (PySem.W.mg_of X G a25) b25) (fun n ih => def_of F25 S_with_part (PySem.W.mg_of X G a25) b25 (body_with_part T G_parts_of G_rebuilt G_fitting  (Nat.le_add_right 3 n) ih)) n
  have G_with_part:Def l.prog w K mg base (ct C0 C1 C2 C3 C4) "with_part" ["f", "path", "g"] 19 D_with_part := R_with_part fuel_with_part
  have GX_put_in:DefED l.prog w K mg base (ct C0 C1 C2 C3 C4) "put_in" ["f", "path", "g"] 37 D_put_in X_put_in := defE_of F26 S_put_in (PySem.W.mg_of X G a26) b26 (body_put_in T G_part_of GX_part_of G_let_by GX_let_by G_with_part )
  have G_put_in:Def l.prog w K mg base (ct C0 C1 C2 C3 C4) "put_in" ["f", "path", "g"] 37 D_put_in := GX_put_in.def_
  have G_law_cell_at:Def l.prog w K mg base (ct C0 C1 C2 C3 C4) "_law_cell_at" ["script", "k"] 1 D_law_cell_at := def_of F27 S_law_cell_at (PySem.W.mg_of X G a27) b27 (body_law_cell_at T  )
  have G_law_parts:Def l.prog w K mg base (ct C0 C1 C2 C3 C4) "_law_parts" ["f"] 1 D_law_parts := def_of F28 S_law_parts (PySem.W.mg_of X G a28) b28 (body_law_parts T  )
  have G_law_least:Def l.prog w K mg base (ct C0 C1 C2 C3 C4) "_law_least" ["f", "n"] 1 D_law_least := def_of F29 S_law_least (PySem.W.mg_of X G a29) b29 (body_law_least T  )
  have GX_law_refused:DefED l.prog w K mg base (ct C0 C1 C2 C3 C4) "_law_refused" ["f", "path", "g"] 38 D_law_refused X_law_refused := defE_of F30 S_law_refused (PySem.W.mg_of X G a30) b30 (body_law_refused T G_put_in GX_put_in )
  have G_law_refused:Def l.prog w K mg base (ct C0 C1 C2 C3 C4) "_law_refused" ["f", "path", "g"] 38 D_law_refused := GX_law_refused.def_
  exact (fn_of F31 S_law (body_law T G_law_one G_law_atom G_law_with G_put_in GX_put_in G_law_cell_at G_law_parts G_law_least G_law_refused GX_law_refused )).imp fun vs H Q E h => spL_D h
theorem walk {l:PySem.W.OpenLaw} {q:Program} {loose:List Str} {XP:(Str → Option Value) → Heap → Prop} {YP:World → Heap → Prop} {d:DefRec} {K:Params → PySem.W.Frag} (hn:l.most = some 63) (hdf:d.params.defaults = []) (hY : ∀ (w:World) (h:Heap),YP w h → (K w.params).In h)
    (F : ∀ (w:World) (mg:Str → Option Value) (fa:Addr) (h:Heap),(K w.params).In h → h.Ns mainGlobals mg → mg d.name = some (.ref fa) → ∃ fd:FuncData,(∀ (s:Shared) (u:Value),BindsTo s fd ⟨[u],[]⟩ [("script",u)]) ∧ ∀ base:Heap,(K w.params).In base → base.Ns mainGlobals mg → FnOk l.prog w (K w.params) mg base CX0 39 fa fd ["script"] (spL (K w.params) D_law)) :
    PySem.W.WalkO q loose XP YP l.row.toRowW d [] (fun f vs => PySem.call f vs) :=
  L2.walk_of (n := 63) (k := 39) (x := "script") (CX := fun _ => CX0) (sp := fun w => spL (K w.params) D_law) hn (by decide) hdf ⟨rfl,by decide,by decide⟩ hY F (fun w H a ns hl _ hS => ⟨a,ns,rfl,hS,law_ok ns,fun _ _ => rfl⟩) fun _ _ _ _ _ z => z
end K71
end
section
set_option Elab.async false
set_option linter.all false
namespace DL
open PySem PySem.W PySem.W.X PySem.W.ZRun PyProof.Rows
theorem walkX_of {q:Program} {loose:List Str} {XP:(Str → Option Value) → Heap → Prop} {as:List Addr} {K:Params → Frag} {n t:Nat} {r:RowW} {d:DefRec} {kwd:List (Str × Expr)} {run:Value → List Value → Sem Value}
    (e : ∀ P,as = (K P).map (·.1)) (h:WalkO q loose XP (InK K) r d kwd run):WalkX q loose XP (obsZ as) (valZ K n t) r d kwd run :=
  fun w s₀ s₁ mg mb G y a o pm cd doc dV kV ho hd hcd hD hmg hg args vals as' L hpre hlay hrd hwl hlo => h w s₀ s₁ mg mb G (InK.keeps w _ _ (z_facts e y).2.1 L.keeps) a o pm cd doc dV kV ho hd hcd hD hmg hg args vals as' hpre hlay hrd hwl hlo
end DL
end
end
open PySem PySem.W PyProof.Rows
set_option maxRecDepth 100000 in
set_option maxHeartbeats 0 in
theorem PySem.Challenge.cw_inkform_k71_put_into_one_holds : PySem.Challenge.rw_inkform_k71_put_into_one.Holds := by
  w_on; o_law; z_head; (case hw => w_witness2)
  k_fill
  refine DL.walkX_of (fun _ => by kernel_rfl) ?_
  refine K71.walk (l := PySem.Challenge.rw_inkform_k71_put_into_one) rfl rfl (fun w h Y => Y) ?F
  case F =>
    intro w mg fa h KX G hmg
    refine' K71.all_mk KX G hmg ?aC0 ?aC1 ?aC2 ?aC3 ?aC4 ?a1 ?l1 ?c1 ?k1 ?a2 ?l2 ?c2 ?k2 ?a3 ?l3 ?c3 ?k3 ?a4 ?l4 ?c4 ?k4 ?a5 ?l5 ?c5 ?k5 ?a6 ?l6 ?c6 ?k6 ?a7 ?l7 ?c7 ?k7 ?a8 ?l8 ?c8 ?k8 ?a9 ?l9 ?c9 ?k9 ?a10 ?l10 ?c10 ?k10 ?a11 ?l11 ?c11 ?k11 ?a12 ?l12 ?c12 ?k12 ?a13 ?l13 ?c13 ?k13 ?a14 ?l14 ?c14 ?k14 ?a15 ?l15 ?c15 ?k15 ?a16 ?l16 ?c16 ?k16 ?a17 ?l17 ?c17 ?k17 ?a18 ?l18 ?c18 ?k18 ?a19 ?l19 ?c19 ?k19 ?a20 ?l20 ?c20 ?k20 ?a21 ?l21 ?c21 ?k21 ?a22 ?l22 ?c22 ?k22 ?a23 ?l23 ?c23 ?k23 ?a24 ?l24 ?c24 ?k24 ?a25 ?l25 ?c25 ?k25 ?a26 ?l26 ?c26 ?k26 ?a27 ?l27 ?c27 ?k27 ?a28 ?l28 ?c28 ?k28 ?a29 ?l29 ?c29 ?k29 ?a30 ?l30 ?c30 ?k30 ?a31 ?l31 ?c31 ?k31 ?z1 ?z2 ?z3 ?z4 ?z5 ?z6 ?z7 ?z8 ?z9 ?z10 ?z11 ?z12 ?z13 ?z14 ?z15 ?ta1 ?tl1 ?th1 ?ta2 ?tl2 ?th2 ?ua1 ?ul1 ?ue1 ?ua2 ?ue2 ?ua3 ?ue3 ?ua4 ?ue4 ?ua5 ?ue5 ?ua6 ?ue6 ?ua7 ?ue7 ?ua8 ?ue8 ?xi2 ?xi4 ?is0 ?it0 ?xg0 ?xh0 ?xb0 ?xd0 ?ic0 ?im0 ?ik0_4 ?ik0_1 ?ik0_3 ?ik0_0 ?iv0 ?xg1 ?xh1 ?xb1 ?xd1 ?ic1 ?im1 ?ik1_4 ?ik1_1 ?ik1_3 ?ik1_0 ?iv1 ?xg2 ?xh2 ?xb2 ?xd2 ?ic2 ?im2 ?ik2_4 ?ik2_1 ?ik2_3 ?ik2_0 ?iv2 ?xg3 ?xh3 ?xb3 ?xd3 ?ic3 ?im3 ?ik3_4 ?ik3_1 ?ik3_3 ?ik3_0 ?iv3 ?xg4 ?xh4 ?xb4 ?xd4 ?ic4 ?im4 ?ik4_4 ?ik4_1 ?ik4_3 ?ik4_0 ?iv4
    (case aC0 => k_is)
    (case aC1 => k_is)
    (case aC2 => k_is)
    (case aC3 => k_is)
    (case aC4 => k_is)
    (case a1 => k_is)
    (case l1 => k_is)
    (case c1 => k_is)
    (case k1 => k_is)
    (case a2 => k_is)
    (case l2 => k_is)
    (case c2 => k_is)
    (case k2 => k_is)
    (case a3 => k_is)
    (case l3 => k_is)
    (case c3 => k_is)
    (case k3 => k_is)
    (case a4 => k_is)
    (case l4 => k_is)
    (case c4 => k_is)
    (case k4 => k_is)
    (case a5 => k_is)
    (case l5 => k_is)
    (case c5 => k_is)
    (case k5 => k_is)
    (case a6 => k_is)
    (case l6 => k_is)
    (case c6 => k_is)
    (case k6 => k_is)
    (case a7 => k_is)
    (case l7 => k_is)
    (case c7 => k_is)
    (case k7 => k_is)
    (case a8 => k_is)
    (case l8 => k_is)
    (case c8 => k_is)
    (case k8 => k_is)
    (case a9 => k_is)
    (case l9 => k_is)
    (case c9 => k_is)
    (case k9 => k_is)
    (case a10 => k_is)
    (case l10 => k_is)
    (case c10 => k_is)
    (case k10 => k_is)
    (case a11 => k_is)
    (case l11 => k_is)
    (case c11 => k_is)
    (case k11 => k_is)
    (case a12 => k_is)
    (case l12 => k_is)
    (case c12 => k_is)
    (case k12 => k_is)
    (case a13 => k_is)
    (case l13 => k_is)
    (case c13 => k_is)
    (case k13 => k_is)
    (case a14 => k_is)
    (case l14 => k_is)
    (case c14 => k_is)
    (case k14 => k_is)
    (case a15 => k_is)
    (case l15 => k_is)
    (case c15 => k_is)
    (case k15 => k_is)
    (case a16 => k_is)
    (case l16 => k_is)
    (case c16 => k_is)
    (case k16 => k_is)
    (case a17 => k_is)
    (case l17 => k_is)
    (case c17 => k_is)
    (case k17 => k_is)
    (case a18 => k_is)
    (case l18 => k_is)
    (case c18 => k_is)
    (case k18 => k_is)
    (case a19 => k_is)
    (case l19 => k_is)
    (case c19 => k_is)
    (case k19 => k_is)
    (case a20 => k_is)
    (case l20 => k_is)
    (case c20 => k_is)
    (case k20 => k_is)
    (case a21 => k_is)
    (case l21 => k_is)
    (case c21 => k_is)
    (case k21 => k_is)
    (case a22 => k_is)
    (case l22 => k_is)
    (case c22 => k_is)
    (case k22 => k_is)
    (case a23 => k_is)
    (case l23 => k_is)
    (case c23 => k_is)
    (case k23 => k_is)
    (case a24 => k_is)
    (case l24 => k_is)
    (case c24 => k_is)
    (case k24 => k_is)
    (case a25 => k_is)
    (case l25 => k_is)
    (case c25 => k_is)
    (case k25 => k_is)
    (case a26 => k_is)
    (case l26 => k_is)
    (case c26 => k_is)
    (case k26 => k_is)
    (case a27 => k_is)
    (case l27 => k_is)
    (case c27 => k_is)
    (case k27 => k_is)
    (case a28 => k_is)
    (case l28 => k_is)
    (case c28 => k_is)
    (case k28 => k_is)
    (case a29 => k_is)
    (case l29 => k_is)
    (case c29 => k_is)
    (case k29 => k_is)
    (case a30 => k_is)
    (case l30 => k_is)
    (case c30 => k_is)
    (case k30 => k_is)
    (case a31 => k_is)
    (case l31 => k_is)
    (case c31 => k_is)
    (case k31 => k_is)
    (case z1 => k_is)
    (case z2 => k_is)
    (case z3 => k_is)
    (case z4 => k_is)
    (case z5 => k_is)
    (case z6 => k_is)
    (case z7 => k_is)
    (case z8 => k_is)
    (case z9 => k_is)
    (case z10 => k_is)
    (case z11 => k_is)
    (case z12 => k_is)
    (case z13 => k_is)
    (case z14 => k_is)
    (case z15 => k_is)
    (case ta1 => k_is)
    (case tl1 => kernel_rfl)
    (case th1 => kernel_rfl)
    (case ta2 => k_is)
    (case tl2 => kernel_rfl)
    (case th2 => kernel_rfl)
    (case ua1 => k_is)
    (case ul1 => k_is)
    (case ue1 => decide +kernel)
    (case ua2 => k_is)
    (case ue2 => decide +kernel)
    (case ua3 => k_is)
    (case ue3 => decide +kernel)
    (case ua4 => k_is)
    (case ue4 => decide +kernel)
    (case ua5 => k_is)
    (case ue5 => decide +kernel)
    (case ua6 => k_is)
    (case ue6 => decide +kernel)
    (case ua7 => k_is)
    (case ue7 => decide +kernel)
    (case ua8 => k_is)
    (case ue8 => decide +kernel)
    (case xi2 => first | k_is | kernel_rfl | decide +kernel)
    (case xi4 => first | k_is | kernel_rfl | decide +kernel)
    (case is0 => k_is)
    (case it0 => k_is)
    (case xg0 => k_is)
    (case xh0 => k_is)
    (case xb0 => k_is)
    (case xd0 => k_is)
    (case ic0 => k_is)
    (case im0 => k_is)
    (case ik0_4 => first | k_is | kernel_rfl | decide +kernel)
    (case ik0_1 => first | k_is | kernel_rfl | decide +kernel)
    (case ik0_3 => first | k_is | kernel_rfl | decide +kernel)
    (case ik0_0 => first | k_is | kernel_rfl | decide +kernel)
    (case iv0 => first | k_is | kernel_rfl | decide +kernel)
    (case xg1 => k_is)
    (case xh1 => k_is)
    (case xb1 => k_is)
    (case xd1 => k_is)
    (case ic1 => k_is)
    (case im1 => k_is)
    (case ik1_4 => first | k_is | kernel_rfl | decide +kernel)
    (case ik1_1 => first | k_is | kernel_rfl | decide +kernel)
    (case ik1_3 => first | k_is | kernel_rfl | decide +kernel)
    (case ik1_0 => first | k_is | kernel_rfl | decide +kernel)
    (case iv1 => first | k_is | kernel_rfl | decide +kernel)
    (case xg2 => k_is)
    (case xh2 => k_is)
    (case xb2 => k_is)
    (case xd2 => k_is)
    (case ic2 => k_is)
    (case im2 => k_is)
    (case ik2_4 => first | k_is | kernel_rfl | decide +kernel)
    (case ik2_1 => first | k_is | kernel_rfl | decide +kernel)
    (case ik2_3 => first | k_is | kernel_rfl | decide +kernel)
    (case ik2_0 => first | k_is | kernel_rfl | decide +kernel)
    (case iv2 => first | k_is | kernel_rfl | decide +kernel)
    (case xg3 => k_is)
    (case xh3 => k_is)
    (case xb3 => k_is)
    (case xd3 => k_is)
    (case ic3 => k_is)
    (case im3 => k_is)
    (case ik3_4 => first | k_is | kernel_rfl | decide +kernel)
    (case ik3_1 => first | k_is | kernel_rfl | decide +kernel)
    (case ik3_3 => first | k_is | kernel_rfl | decide +kernel)
    (case ik3_0 => first | k_is | kernel_rfl | decide +kernel)
    (case iv3 => first | k_is | kernel_rfl | decide +kernel)
    (case xg4 => k_is)
    (case xh4 => k_is)
    (case xb4 => k_is)
    (case xd4 => k_is)
    (case ic4 => k_is)
    (case im4 => k_is)
    (case ik4_4 => first | k_is | kernel_rfl | decide +kernel)
    (case ik4_1 => first | k_is | kernel_rfl | decide +kernel)
    (case ik4_3 => first | k_is | kernel_rfl | decide +kernel)
    (case ik4_0 => first | k_is | kernel_rfl | decide +kernel)
    (case iv4 => first | k_is | kernel_rfl | decide +kernel)
#print axioms PySem.Challenge.cw_inkform_k71_put_into_one_holds
