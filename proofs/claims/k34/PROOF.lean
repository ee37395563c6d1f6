import PyProof.Rows.All
import Wide.All
import OpenK.AllK
import Wide.FinOn
import Lean
import PyProof.EqAt
import PyProof.EqKinds
import PyProof.TupleCall
import PyProof.NeKinds
import PyProof.DictWalks
import PyProof.DictItems
import PyProof.CollectWalk
import KE.KDictList
import PyProof.AutoSeq1
import PyProof.Rows.Range3
import KE.KUnpack
import PyProof.MeetsSeq2
import PyProof.ZipIter
import KE.KRevSl
import PyProof.MeetsSeq
import PyProof.EnumMake
import PyProof.EnumFor
import PyProof.EnumStmt
import PyProof.MinMaxWalk
import PyProof.WalkInts
import PyProof.SumAny
import KE.KRevIter
import PyProof.Rows.FactsT2
import PyProof.IsiH_list
import PyProof.AttrMiss
import KE.KDictOf
import PyProof.ListRange
import KE.KDictLaws
import KE.KSortTup
import KE.KItemsList
import PySem.Challenge.RW_deskround_k34_no_deal_is_cheaper
set_option bootstrap.genMatcherCode false
set_option Elab.async false
set_option linter.all false
set_option maxRecDepth 100000
namespace L2
open PySem PySem.Spec PyProof.Rows
noncomputable abbrev Key := Sum Int Str
noncomputable def keyIs : Key → Value → Bool
  | .inl k, v => Value.isInt k v
  | .inr x, v => Value.isStrOf x v
noncomputable def keyH (w : World) : Key → Int
  | .inl k => hashInt k
  | .inr x => hashStr w x
theorem keyIs_shape : ∀ {k : Key} {v : Value}, keyIs k v = true → (∃ i t, k = Sum.inl i ∧ v = Value.int i t) ∨ (∃ x t, k = Sum.inr x ∧ v = Value.str x t)
  | .inl i, v, h => by
    obtain ⟨t, e⟩ := Value.isInt_shape (k := i) (v := v) h
    exact .inl ⟨i, t, rfl, e⟩
  | .inr x, v, h => by
    obtain ⟨t, e⟩ := Value.isStrOf_shape (x := x) (v := v) h
    exact .inr ⟨x, t, rfl, e⟩
theorem keyIs_int (i : Int) (t : Tok) : keyIs (.inl i) (.int i t) = true := by simp [keyIs, Value.isInt]
theorem keyIs_str (x : Str) (t : Tok) : keyIs (.inr x) (.str x t) = true := by simp [keyIs, Value.isStrOf]
theorem key_ll (a b : Int) : decide ((Sum.inl a : Key) = Sum.inl b) = (a == b) := by
  by_cases e : a = b
  · subst e; simp
  · have h : ¬ (Sum.inl a : Key) = Sum.inl b := fun q => e (Sum.inl.inj q)
    rw [decide_eq_false h]
    exact (beq_eq_false_iff_ne.mpr e).symm
theorem key_rr (a b : Str) : decide ((Sum.inr a : Key) = Sum.inr b) = decide (a = b) := by
  by_cases e : a = b
  · subst e; simp
  · have h : ¬ (Sum.inr a : Key) = Sum.inr b := fun q => e (Sum.inr.inj q)
    rw [decide_eq_false h, decide_eq_false e]
theorem key_lr (a : Int) (b : Str) : decide ((Sum.inl a : Key) = Sum.inr b) = false := decide_eq_false (fun q => nomatch q)
theorem key_rl (a : Str) (b : Int) : decide ((Sum.inr a : Key) = Sum.inl b) = false := decide_eq_false (fun q => nomatch q)
noncomputable def mixKind (prog : Program) (w : World) : PySem.KeyKind prog w Key where
  is := keyIs
  hash := keyH w
  inj := fun v a b ha hb => by
    rcases keyIs_shape ha with ⟨i, t, rfl, rfl⟩ | ⟨x, t, rfl, rfl⟩
    · rcases keyIs_shape hb with ⟨j, u, rfl, e⟩ | ⟨y, u, rfl, e⟩
      · injection e with e1 _; rw [e1]
      · exact nomatch e
    · rcases keyIs_shape hb with ⟨j, u, rfl, e⟩ | ⟨y, u, rfl, e⟩
      · exact nomatch e
      · injection e with e1 _; rw [e1]
  byValue := fun k v h => by
    rcases keyIs_shape h with ⟨i, t, rfl, rfl⟩ | ⟨x, t, rfl, rfl⟩ <;> rfl
  pyHash := fun hv h => by
    rcases keyIs_shape hv with ⟨i, t, rfl, rfl⟩ | ⟨x, t, rfl, rfl⟩
    · exact wpAny_pyHash_int h
    · exact wpAny_pyHash_str h
  eqBool := fun hu hv h => by
    rcases keyIs_shape hu with ⟨i, t, rfl, rfl⟩ | ⟨x, t, rfl, rfl⟩
    · rcases keyIs_shape hv with ⟨j, u, rfl, rfl⟩ | ⟨y, u, rfl, rfl⟩
      · rw [key_ll] at h; exact wpAny_eqBool_int h
      · rw [key_lr] at h; exact SeqAt.EqAt.int_str i t y u _ _ _ _ h
    · rcases keyIs_shape hv with ⟨j, u, rfl, rfl⟩ | ⟨y, u, rfl, rfl⟩
      · rw [key_rl] at h; exact SeqAt.EqAt.str_int x t j u _ _ _ _ h
      · rw [key_rr] at h; exact wpAny_eqBool_str h
  «strs» := fun k x t v h => by
    rcases keyIs_shape h with ⟨i, u, rfl, e⟩ | ⟨y, u, rfl, e⟩
    · exact nomatch e
    · injection e with e1 _
      subst e1
      cases v <;> rfl
theorem mixKind_int (prog : Program) (w : World) (i : Int) (t : Tok) : (mixKind prog w).is (.inl i) (.int i t) = true := keyIs_int i t
theorem mixKind_str (prog : Program) (w : World) (x : Str) (t : Tok) : (mixKind prog w).is (.inr x) (.str x t) = true := keyIs_str x t
end L2
namespace L2
open PySem PySem.Spec PyProof.Rows
inductive V where
  | non | bl (b : Bool) | int (i : Int) | str (x : Str) | byt (b : Array UInt8) | flt (b : UInt64) | ref (a : Addr) | ty (n : String)
  deriving DecidableEq
noncomputable def RelV : V → Value → Prop
  | .non, u => u = Value.none
  | .bl b, u => u = Value.bool b
  | .int i, u => ∃ t, u = Value.int i t
  | .str x, u => ∃ t, u = Value.str x t
  | .byt b, u => ∃ t, u = Value.bytes b t
  | .flt b, u => ∃ t, u = Value.float b t
  | .ref a, u => u = Value.ref a
  | .ty n, u => u = Value.type n
noncomputable abbrev Vals : List V → List Value → Prop := Paired RelV
theorem Vals.length {xs : List V} {us : List Value} (r : Vals xs us) : xs.length = us.length := Paired.length r
theorem Vals.get : ∀ {xs : List V} {us : List Value} {i : Nat} {x : V}, Vals xs us → xs[i]? = some x → ∃ u, us[i]? = some u ∧ RelV x u := by
  intro xs us i x h
  induction h generalizing i with
  | nil => intro e; simp at e
  | cons r t ih =>
    intro e
    cases i with
    | zero => cases e; exact ⟨_, rfl, r⟩
    | succ i => exact ih e
theorem Vals.set {x : V} {u : Value} (r : RelV x u) : ∀ {xs : List V} {us : List Value} (i : Nat), Vals xs us → Vals (xs.set i x) (us.set i u) := by
  intro xs us i h
  induction h generalizing i with
  | nil => exact .nil
  | cons q t ih =>
    cases i with
    | zero => exact .cons r t
    | succ i => exact .cons q (ih i)
theorem Vals.append : ∀ {xs ys : List V} {us ws : List Value}, Vals xs us → Vals ys ws → Vals (xs ++ ys) (us ++ ws) := by
  intro xs ys us ws h s
  induction h with
  | nil => exact s
  | cons r t ih => exact .cons r ih
theorem Vals.take : ∀ {xs : List V} {us : List Value} (n : Nat), Vals xs us → Vals (xs.take n) (us.take n) := by
  intro xs us n h
  induction h generalizing n with
  | nil => cases n <;> exact .nil
  | cons r t ih =>
    cases n with
    | zero => exact .nil
    | succ n => exact .cons r (ih n)
theorem Vals.drop : ∀ {xs : List V} {us : List Value} (n : Nat), Vals xs us → Vals (xs.drop n) (us.drop n) := by
  intro xs us n h
  induction h generalizing n with
  | nil => cases n <;> exact .nil
  | cons r t ih =>
    cases n with
    | zero => exact .cons r t
    | succ n => exact ih n
noncomputable def RelO : Option V → Option Value → Prop
  | some v, some u => RelV v u
  | none, none => True
  | _, _ => False
noncomputable def KV {κ : Type} : List (κ × V) → List (κ × Value) → Prop := Paired fun (p : κ × V) (q : κ × Value) => p.1 = q.1 ∧ RelV p.2 q.2
noncomputable def kV : Key → V
  | .inl i => .int i
  | .inr x => .str x
inductive HO where
  /-- a list -/
  | lst (xs : List V)
  /-- a tuple (never changes) -/
  | tup (xs : List V)
  /-- a dict whose keys are ints and texts; one whose keys are tuples of ints and texts (the empty one is both) -/
  | dK (kvs : List (Key × V)) | dT (kvs : List (List Key × V))
  /-- a set of ints: its members, its size -/
  | set (S : Int → Bool) (n : Nat)
  /-- an instance of the class at C, its dict at dx, its attributes -/
  | ins (C dx : Addr) (fs : List (Str × V))
  /-- the dict of the instance at x -/
  | own (x : Addr)
  /-- the dict of an exception -/
  | xd (fs : List (Str × V))
  /-- a bound method, f of x -/
  | met (f x : Addr)
  /-- a range object lo, lo + 1, .. below hi -/
  | rng (lo hi : Int)
  /-- a thing that is known to the object (the script; a dict while a loop walks it): read, never written while it is so -/
  | frz (o : Obj) (u : HO)
  /-- a code object's table -/
  | tbl (ps : Array Value)
  /-- any other thing, by what is true of its one object (a def of one's own: SetO a S n := HO.ext fun h => ..) -/
  | ext (φ : Heap → Prop)
noncomputable abbrev Hp := Addr → Option HO
noncomputable def upd (H : Hp) (a : Addr) (o : HO) : Hp := fun b => if b = a then some o else H b
theorem upd_same {H : Hp} {a : Addr} {o : HO} : upd H a o a = some o := by unfold upd; rw [if_pos rfl]
theorem upd_ne {H : Hp} {a b : Addr} {o : HO} (h : b ≠ a) : upd H a o b = H b := by unfold upd; rw [if_neg h]
theorem upd_upd {H : Hp} {a : Addr} {o u : HO} : upd (upd H a o) a u = upd H a u := by
  funext b; unfold upd; split <;> rfl
theorem ne_of {H : Hp} {a b : Addr} {o u : HO} (h : H a = some o) (h' : H b = some u) (d : o ≠ u) : a ≠ b := by
  intro e; subst e; rw [h] at h'; exact d (Option.some.inj h')
theorem ne_of_none {H : Hp} {a b : Addr} {o : HO} (h : H a = some o) (h' : H b = none) : a ≠ b := by
  intro e; subst e; rw [h] at h'; cases h'
section
variable (P : Program) (w : World)
noncomputable def ObjOk (H : Hp) (h : Heap) (a : Addr) : HO → Prop
  | .lst xs => xs.length ≤ sizeLine ∧ ∃ (its : List Value) (n : Nat), Vals xs its ∧ h.get? a = some { cls := .type "list", data := .seq its.toArray n }
  | .tup xs => xs.length ≤ sizeLine ∧ ∃ its : List Value, Vals xs its ∧ IsTup h a its.toArray
  | .dK kvs => kvs.length ≤ sizeLine ∧ (a == sysModules) = false ∧ ∃ vs, KV kvs vs ∧ h.DictOf (mixKind P w) a vs
  | .dT kvs => kvs.length ≤ sizeLine ∧ (a == sysModules) = false ∧ ∃ xs : List (List Key × Addr × Value),
      Paired (fun (p : List Key × V) (q : List Key × Addr × Value) => p.1 = q.1 ∧ H q.2.1 = some (.tup (p.1.map kV)) ∧ RelV p.2 q.2.2) kvs xs ∧
      ∃ o es ep, h.get? a = some o ∧ o.ExactDict ∧ o.data = .dict es ep ∧ es.toList = xs.map (entryOfKey (tupleKind (mixKind P w))) ∧ (xs.map (·.1)).Nodup
  | .set S n => h.SetOf (intKind P w) a S n
  | .ins C dx fs => H dx = some (.own a) ∧ fs.length ≤ 1000 ∧ dx ≠ a ∧ h.get? a = some (PySem.W.instObj C dx) ∧
      ∃ mA, h.Ns1 dx mA ∧ (∀ f, RelO (fs.lookup f) (mA f)) ∧ PySem.Within mA (fs.map (·.1))
  | .own _ => ∃ o, h.get? a = some o
  | .xd fs => ∃ mA, h.Ns1 a mA ∧ ∀ f, RelO (fs.lookup f) (mA f)
  | .rng lo hi => ∃ t u v, h.get? a = some { cls := .type "range", data := .fields #[.int lo t, .int hi u, .int 1 v] }
  | .frz o u => h.get? a = some o ∧ ObjOk H h a u
  | .tbl ps => h.get? a = some { cls := .none, data := .fields ps }
  | .met f x => h.get? a = some (PySem.W.methodObj (.ref f) (.ref x))
  | .ext φ => φ h ∧ (∃ o, h.get? a = some o) ∧ ∀ h1 h2 : Heap, φ h1 → (∀ o, h1.get? a = some o → h2.get? a = some o) → φ h2
noncomputable def HOk (H : Hp) (h : Heap) : Prop := ∀ a o, H a = some o → ObjOk P w H h a o
end
section
variable {P : Program} {w : World} {H H' : Hp} {h h' : Heap} {a : Addr} {o : HO}
theorem ObjOk.lt (x : ObjOk P w H h a o) : a < h.objs.size := by
  cases o with
  | lst xs => obtain ⟨_, _, _, _, e⟩ := x; exact Heap.lt_size e
  | tup xs => obtain ⟨_, _, _, p⟩ := x; exact p.lt
  | dK kvs => obtain ⟨_, _, _, _, o, _, _, e, _⟩ := x; exact Heap.lt_size e
  | dT kvs => obtain ⟨_, _, _, _, o, _, _, e, _⟩ := x; exact Heap.lt_size e
  | set S n => obtain ⟨o, _, _, _, e, _⟩ := x; exact Heap.lt_size e
  | ins C dx fs => obtain ⟨_, _, _, e, _⟩ := x; exact Heap.lt_size e
  | own y => obtain ⟨_, e⟩ := x; exact Heap.lt_size e
  | xd fs => obtain ⟨_, ⟨_, _, _, e, _⟩, _⟩ := x; exact Heap.lt_size e
  | rng lo hi => obtain ⟨_, _, _, e⟩ := x; exact Heap.lt_size e
  | frz ob u => obtain ⟨e, _⟩ := x; exact Heap.lt_size e
  | tbl ps => exact Heap.lt_size (show h.get? a = some _ from x)
  | met f y => exact Heap.lt_size (show h.get? a = some _ from x)
  | ext φ => obtain ⟨_, ⟨_, e⟩, _⟩ := x; exact Heap.lt_size e
theorem Paired.mapP {α β : Type} {F G : α → β → Prop} : ∀ {l₁ : List α} {l₂ : List β}, Paired F l₁ l₂ → (∀ a b, F a b → G a b) → Paired G l₁ l₂ := by
  intro l₁ l₂ h f
  induction h with
  | nil => exact .nil
  | cons r t ih => exact .cons (f _ _ r) ih
theorem ObjOk.stay (x : ObjOk P w H h a o) (k : ∀ b u, (b = a ∨ H b = some (.own a)) → h.get? b = some u → h'.get? b = some u)
    (ho : ∀ b, H b = some (.own a) → H' b = some (.own a)) (ht : ∀ b xs, H b = some (.tup xs) → H' b = some (.tup xs)) : ObjOk P w H' h' a o := by
  induction o with
  | lst xs => obtain ⟨z, its, n, r, e⟩ := x; exact ⟨z, its, n, r, k _ _ (.inl rfl) e⟩
  | tup xs => obtain ⟨z, its, r, ob, e, c⟩ := x; exact ⟨z, its, r, ob, k _ _ (.inl rfl) e, c⟩
  | dK kvs => obtain ⟨z, y, vs, r, ob, es, ep, e, c⟩ := x; exact ⟨z, y, vs, r, ob, es, ep, k _ _ (.inl rfl) e, c⟩
  | dT kvs =>
    obtain ⟨z, y, xs, r, ob, es, ep, e, c⟩ := x
    exact ⟨z, y, xs, Paired.mapP r fun p q z => ⟨z.1, ht _ _ z.2.1, z.2.2⟩, ob, es, ep, k _ _ (.inl rfl) e, c⟩
  | set S n => obtain ⟨ob, es, ep, t, e, c⟩ := x; exact ⟨ob, es, ep, t, k _ _ (.inl rfl) e, c⟩
  | ins C dx fs =>
    obtain ⟨d, z, ne, e, mA, ⟨od, es, ep, e2, c⟩, r⟩ := x
    exact ⟨ho _ d, z, ne, k _ _ (.inl rfl) e, mA, ⟨od, es, ep, k _ _ (.inr d) e2, c⟩, r⟩
  | own y => obtain ⟨ob, e⟩ := x; exact ⟨ob, k _ _ (.inl rfl) e⟩
  | xd fs => obtain ⟨mA, ⟨od, es, ep, e, c⟩, r⟩ := x; exact ⟨mA, ⟨od, es, ep, k _ _ (.inl rfl) e, c⟩, r⟩
  | rng lo hi => obtain ⟨t, u, v, e⟩ := x; exact ⟨t, u, v, k _ _ (.inl rfl) e⟩
  | frz ob u ih => obtain ⟨e, q⟩ := x; exact ⟨k _ _ (.inl rfl) e, ih q⟩
  | tbl ps =>
    have e : h.get? a = some { cls := .none, data := .fields ps } := x
    show h'.get? a = some { cls := .none, data := .fields ps }
    exact k a _ (.inl rfl) e
  | met f y =>
    have e : h.get? a = some (PySem.W.methodObj (.ref f) (.ref y)) := x
    show h'.get? a = some (PySem.W.methodObj (.ref f) (.ref y))
    exact k a _ (.inl rfl) e
  | ext φ => obtain ⟨p, ⟨o, e⟩, st⟩ := x; exact ⟨st _ _ p fun o q => k _ _ (.inl rfl) q, ⟨o, k _ _ (.inl rfl) e⟩, st⟩
theorem HOk.lt (x : HOk P w H h) (e : H a = some o) : a < h.objs.size := (x a o e).lt
theorem HOk.fresh (x : HOk P w H h) (e : h.objs.size ≤ a) : H a = none := by
  cases q : H a with
  | none => rfl
  | some u => exact absurd (Nat.lt_of_lt_of_le (x.lt q) e) (Nat.lt_irrefl _)
theorem HOk.kept (x : HOk P w H h) (k : ∀ b u, h.get? b = some u → h'.get? b = some u) : HOk P w H h' := fun a o e =>
  (x a o e).stay (fun b u _ q => k b u q) (fun _ q => q) fun _ _ q => q
theorem HOk.laid (x : HOk P w H h) (k : ∀ b u, h.get? b = some u → h'.get? b = some u) (hp : h.objs.size ≤ a) (new : ObjOk P w (upd H a o) h' a o) : HOk P w (upd H a o) h' := fun b u e => by
  have hn := x.fresh hp
  by_cases hb : b = a
  · subst hb; rw [upd_same] at e; cases e; exact new
  · rw [upd_ne hb] at e
    exact (x b u e).stay (fun c v _ q => k c v q) (fun c q => by rw [upd_ne (ne_of_none q hn)]; exact q) fun c xs q => by rw [upd_ne (ne_of_none q hn)]; exact q
end
noncomputable def Rd (H : Hp) (a : Addr) (u : HO) : Prop := H a = some u ∨ ∃ o, H a = some (.frz o u)
theorem Rd.of {H : Hp} {a : Addr} {u : HO} (h : H a = some u) : Rd H a u := .inl h
theorem Rd.ok {P : Program} {w : World} {H : Hp} {h : Heap} {a : Addr} {u : HO} (r : Rd H a u) (x : HOk P w H h) : ObjOk P w H h a u := by
  rcases r with r | ⟨o, r⟩
  · exact x a u r
  · obtain ⟨_, q⟩ := x a _ r
    exact q
noncomputable def Mut : Option HO → Prop
  | some (.lst _) => True
  | some (.dK _) => True
  | some (.dT _) => True
  | some (.set _ _) => True
  | some (.ins _ _ _) => True
  | some (.ext _) => True
  | _ => False
section
variable {P : Program} {w : World} {H : Hp} {h h' : Heap} {x e : Addr} {o' : HO}
theorem HOk.write (ok : HOk P w H h) (mu : Mut (H x)) (he : e = x ∨ H e = some (.own x)) (k : ∀ b u, b ≠ e → h.get? b = some u → h'.get? b = some u) (heo : ∃ u, h'.get? e = some u)
    (new : ObjOk P w (upd H x o') h' x o') : HOk P w (upd H x o') h' := fun b u q => by
  have nown : ∀ c y, H c = some (.own y) → c ≠ x := fun c y r z => by subst z; rw [r] at mu; exact mu
  have ntup : ∀ c xs, H c = some (.tup xs) → c ≠ x := fun c xs r z => by subst z; rw [r] at mu; exact mu
  by_cases hb : b = x
  · subst hb; rw [upd_same] at q; cases q; exact new
  · rw [upd_ne hb] at q
    by_cases hbe : b = e
    · have q' : H b = some (.own x) := by
        rcases he with z | z
        · exact absurd (hbe.trans z) hb
        · rw [hbe]; exact z
      rw [q] at q'; cases q'
      obtain ⟨v, hv⟩ := heo
      exact ⟨v, by rw [hbe]; exact hv⟩
    · refine (ok b u q).stay (fun c v hc r => k c v ?_ r) (fun c r => by rw [upd_ne (nown c b r)]; exact r) fun c xs r => by rw [upd_ne (ntup c xs r)]; exact r
      rcases hc with rfl | hc
      · exact hbe
      · rintro rfl
        rcases he with z | z
        · exact nown c b hc z
        · rw [hc] at z; cases z; exact hb rfl
end
structure Un (fs ex : List Addr) (H H' : Hp) (h h' : Heap) : Prop where
  keep : ∀ b o, h.get? b = some o → H b = none → b ∉ fs → b ∉ ex → h'.get? b = some o
  slot : ∀ b o, h.get? b = some o → H b = none → b ∈ fs → b ∉ ex → ∃ sl, h'.get? b = some { o with slots := sl }
  free : ∀ b o, h.get? b = some o → H b = none → b ∉ ex → H' b = none
  there : ∀ b o, h.get? b = some o → b ∉ ex → ∃ o', h'.get? b = some o'
  tups : ∀ b xs, H b = some (.tup xs) → H' b = some (.tup xs)
  frzs : ∀ b o u, H b = some (.frz o u) → H' b = some (.frz o u)
  tbls : ∀ b ps, H b = some (.tbl ps) → ∃ more, H' b = some (.tbl (ps ++ more))
section
variable {fs fs' ex ex' : List Addr} {H H1 H2 : Hp} {h h1 h2 h' : Heap} {a x e : Addr} {o : HO}
theorem Un.any (u : Un fs ex H H1 h h1) {b : Addr} {ob : Obj} (q : h.get? b = some ob) (n : H b = none) (hx : b ∉ ex) : ∃ sl, h1.get? b = some { ob with slots := sl } := by
  by_cases hb : b ∈ fs
  · exact u.slot b ob q n hb hx
  · exact ⟨ob.slots, u.keep b ob q n hb hx⟩
theorem Un.trans (a : Un fs ex H H1 h h1) (b : Un fs ex H1 H2 h1 h2) : Un fs ex H H2 h h2 where
  keep := fun c ob q n hc hx => b.keep c ob (a.keep c ob q n hc hx) (a.free c ob q n hx) hc hx
  slot := fun c ob q n hc hx => by
    obtain ⟨sl, e1⟩ := a.slot c ob q n hc hx
    obtain ⟨sl', e2⟩ := b.slot c _ e1 (a.free c ob q n hx) hc hx
    exact ⟨sl', e2⟩
  free := fun c ob q n hx => by
    obtain ⟨o', e1⟩ := a.there c ob q hx
    exact b.free c o' e1 (a.free c ob q n hx) hx
  there := fun c ob q hx => by
    obtain ⟨o', e1⟩ := a.there c ob q hx
    exact b.there c o' e1 hx
  tups := fun c xs q => b.tups c xs (a.tups c xs q)
  frzs := fun c ob xs q => b.frzs c ob xs (a.frzs c ob xs q)
  tbls := fun c ps q => by
    obtain ⟨m1, e1⟩ := a.tbls c ps q
    obtain ⟨m2, e2⟩ := b.tbls c _ e1
    exact ⟨m1 ++ m2, by rw [e2, Array.append_assoc]⟩
theorem Un.kept (k : ∀ b u, h.get? b = some u → h'.get? b = some u) : Un fs ex H H h h' :=
  ⟨fun b ob q _ _ _ => k b ob q, fun b ob q _ _ _ => ⟨ob.slots, k b ob q⟩, fun _ _ _ n _ => n, fun b ob q _ => ⟨ob, k b ob q⟩, fun _ _ q => q, fun _ _ _ q => q, fun _ ps q => ⟨#[], by rw [q]; simp⟩⟩
theorem Un.refl : Un fs ex H H h h := Un.kept fun _ _ q => q
theorem Un.laid (k : ∀ b u, h.get? b = some u → h'.get? b = some u) (hp : h.objs.size ≤ a) (hn : H a = none) : Un fs ex H (upd H a o) h h' where
  keep := fun b u q _ _ _ => k b u q
  slot := fun b u q _ _ _ => ⟨u.slots, k b u q⟩
  free := fun b u q n _ => by rw [upd_ne (Nat.ne_of_lt (Nat.lt_of_lt_of_le (Heap.lt_size q) hp))]; exact n
  there := fun b u q _ => ⟨u, k b u q⟩
  tups := fun b xs q => by rw [upd_ne (ne_of_none q hn)]; exact q
  frzs := fun b u xs q => by rw [upd_ne (ne_of_none q hn)]; exact q
  tbls := fun b ps q => ⟨#[], by rw [upd_ne (ne_of_none q hn), q]; simp⟩
theorem Un.write (mu : Mut (H x)) (he : e = x ∨ H e = some (.own x)) (k : ∀ b u, b ≠ e → h.get? b = some u → h'.get? b = some u) (heo : ∃ u, h'.get? e = some u) : Un fs ex H (upd H x o) h h' := by
  have hx : ∀ b, H b = none → b ≠ x := fun b n z => by subst z; rw [n] at mu; exact mu
  have hb : ∀ b, H b = none → b ≠ e := fun b n z => by
    subst z
    rcases he with r | r
    · exact hx b n r
    · rw [n] at r; cases r
  have hm : ∀ b u, H b = some u → ¬ Mut (some u) → b ≠ x := fun b u q nm z => by subst z; rw [q] at mu; exact nm mu
  refine ⟨fun b u q n _ _ => k b u (hb b n) q, fun b u q n _ _ => ⟨u.slots, k b u (hb b n) q⟩, fun b u q n _ => by rw [upd_ne (hx b n)]; exact n, fun b u q _ => ?_,
    fun b xs q => by rw [upd_ne (hm b _ q fun z => z)]; exact q, fun b u xs q => by rw [upd_ne (hm b _ q fun z => z)]; exact q, fun b ps q => ⟨#[], by rw [upd_ne (hm b _ q fun z => z), q]; simp⟩⟩
  by_cases hbe : b = e
  · subst hbe; exact heo
  · exact ⟨u, k b u hbe q⟩
end
noncomputable def trk (h : Heap) (H : Hp) : List Addr := (List.range h.objs.size).filter fun a => (H a).isSome
noncomputable def hidT (h : Heap) (H : Hp) : Heap := PySem.W.hideAll h (trk h H)
theorem hidT_size (h : Heap) (H : Hp) : (hidT h H).objs.size = h.objs.size := PySem.W.hideAll_size _ _
theorem hidT_get {h : Heap} {H : Hp} {b : Addr} {o : Obj} (e : h.get? b = some o) (n : H b = none) : (hidT h H).get? b = some o :=
  PySem.W.hideAll_get _ e fun hm => by
    have q : (H b).isSome = true := (List.mem_filter.mp hm).2
    rw [n] at q; simp at q
theorem of_hidT {h : Heap} {H : Hp} {b : Addr} {o : Obj} (e : (hidT h H).get? b = some o) : h.get? b = some o ∧ H b = none := by
  have e' : h.get? b = some o := PySem.W.of_hideAll (trk h H) e
  refine ⟨e', ?_⟩
  cases q : H b with
  | none => rfl
  | some x =>
    have hm : b ∈ trk h H := List.mem_filter.mpr ⟨List.mem_range.mpr (Heap.lt_size e'), by simp [q]⟩
    have z : (hidT h H).get? b = none := PySem.W.hideAll_none (trk h H) hm
    rw [z] at e; cases e
noncomputable def allNews (g h : Heap) (L : Addr) : List (Addr × Obj) := (List.range h.objs.size).filterMap fun a => if a = L ∨ (g.get? a).isSome = true then none else (h.get? a).map fun o => (a, o)
noncomputable def rest (g h : Heap) (L d : Addr) : List (Addr × Obj) := (allNews g h L).filter fun p => decide (p.1 ≠ d)
end L2
namespace L2
open PySem PySem.Spec PyProof.Rows
structure Mod (K : PySem.W.Frag) (mg : Str → Option Value) (base : Heap) : Prop where
  kin : K.In base
  glob : base.Ns mainGlobals mg
  blt : ∃ mb, base.Ns builtinsNs mb ∧ ∀ x : Str, x ≠ "__name__" → mb x = bootBuiltins x
  nolimit : base.NoLimit
/-- the context: a def's body (or a comprehension's block) running. base: fixed through the whole law; s₀, H₀: the entry; outer: the frames whose slots others may change (a def's callers); stack: all frames that run;
   ex: iterators that were made ahead of the entry and are walked here (a comprehension's); fn: the names whose cells were made at the entry (a def: all; a comprehension's block: its own); calm: not within an except suite; pn: pins that every state bears; xe: what is wanted of an exception that leaves the code -/
structure Cx where
  prog : Program
  w : World
  K : PySem.W.Frag
  mg : Str → Option Value
  base : Heap
  A : Around
  N : List Str
  s₀ : Shared
  H₀ : Hp
  env : Env
  outer : List Env
  stack : List Env
  ex : List Addr
  fn : Str → Bool
  calm : Bool
  pn : List (Addr × Obj)
  xe : Value → Shared → Prop
noncomputable def frs (l : List Env) : List Addr := l.filterMap (·.frame)
noncomputable abbrev Cx.fs (X : Cx) : List Addr := frs X.outer
noncomputable def Vis (sc : Scope) (x : Str) : Prop := sc.names.lookup x = some .local ∨ sc.names.lookup x = some .cell ∨ sc.names.lookup x = some .free
noncomputable def Loc (sc : Scope) (x : Str) : Prop := sc.names.lookup x = some .local ∨ sc.names.lookup x = some .cell
noncomputable def Look (env : Env) (h : Heap) (m : Str → Option Value) (x : Str) (u : Value) : Prop :=
  (env.kindOf x = some .local ∧ m x = some u) ∨ ((env.kindOf x = some .cell ∨ env.kindOf x = some .free) ∧ ∃ c, env.cells.lookup x = some c ∧ h.IsCell c (some u))
structure Cx.Ok (X : Cx) : Prop where
  mod : Mod X.K X.mg X.base
  kind : X.env.scope.kind = .function
  glob : X.env.globals = mainGlobals
  blt : X.env.builtins = builtinsNs
  above : X.s₀.heap.objs.size ≤ X.env.locals
  inj : ∀ x y c, X.env.cells.lookup x = some c → X.env.cells.lookup y = some c → x = y
  has : ∀ x, (X.env.kindOf x = some .cell ∨ X.env.kindOf x = some .free) → ∃ c, X.env.cells.lookup x = some c
  cab : ∀ x c, X.fn x = true → X.env.cells.lookup x = some c → X.s₀.heap.objs.size ≤ c
  hd : X.calm = true → X.A.handled = none
  frames : X.A.frames = some X.stack
  stk : X.stack = X.outer ∨ (X.stack = X.env :: X.outer ∧ X.env.frame = some X.env.locals)
  exf : ∀ b ∈ X.ex, b ≠ X.env.locals ∧ ∀ x c, X.env.cells.lookup x = some c → c ≠ b
  bs : ∀ b o, X.base.get? b = some o → X.s₀.heap.get? b = some o ∧ X.H₀ b = none
  bsz : X.base.objs.size ≤ X.s₀.heap.objs.size
  noex : ∀ b o, X.base.get? b = some o → b ∉ X.ex
  exfs : ∀ b ∈ X.ex, b ∉ X.fs
  funs : X.s₀.heap.FunFrames X.base X.outer
  frf : ∀ b ∈ X.fs, X.H₀ b = none
structure Inv (X : Cx) (pins : List (Addr × Obj)) (σ : List (Option V)) (H : Hp) (s : Shared) : Prop where
  ok : X.Ok
  os : s.os = X.s₀.os
  bare : AllBare s.gens
  base : Un X.fs X.ex X.H₀ H X.s₀.heap s.heap
  loc : ∃ m, s.heap.Ns X.env.locals m ∧ ∀ (i : Nat) (x : Str) (v : V), X.N[i]? = some x → σ[i]? = some (some v) → Vis X.env.scope x → ∃ u, RelV v u ∧ Look X.env s.heap m x u
  cell : ∀ x c, X.env.cells.lookup x = some c → ∃ v, s.heap.IsCell c v
  free : H X.env.locals = none
  freeC : ∀ x c, X.env.cells.lookup x = some c → H c = none
  pin : ∀ p ∈ X.pn ++ pins, s.heap.get? p.1 = some p.2 ∧ H p.1 = none ∧ p.1 ≠ X.env.locals ∧ p.1 ∉ X.fs ∧ ∀ v, p.2.data ≠ .cell v
  hok : HOk X.prog X.w H s.heap
  len : σ.length = X.N.length
section
variable {X : Cx} {pins : List (Addr × Obj)} {σ : List (Option V)} {H H' : Hp} {s : Shared} {h' : Heap}
theorem Cx.Ok.nofr (ok : X.Ok) {b : Addr} {o : Obj} (e : X.base.get? b = some o) : b ∉ X.fs := fun hb => by
  have := (ok.funs.mem hb).1
  rw [e] at this; cases this
theorem Inv.bs (I : Inv X pins σ H s) : ∀ b o, X.base.get? b = some o → s.heap.get? b = some o ∧ H b = none := fun b o e =>
  ⟨I.base.keep b o (I.ok.bs b o e).1 (I.ok.bs b o e).2 (I.ok.nofr e) (I.ok.noex b o e), I.base.free b o (I.ok.bs b o e).1 (I.ok.bs b o e).2 (I.ok.noex b o e)⟩
theorem Inv.bk (I : Inv X pins σ H s) : ∀ b o, X.base.get? b = some o → s.heap.get? b = some o := fun b o e => (I.bs b o e).1
theorem Inv.mod (I : Inv X pins σ H s) : Mod X.K X.mg X.base := I.ok.mod
theorem Inv.kIn (I : Inv X pins σ H s) : X.K.In s.heap := I.ok.mod.kin.keeps I.bk
theorem Inv.fr (I : Inv X pins σ H s) : ∃ m, Fr X.base X.env.locals s.heap m :=
  let ⟨m, hn, _⟩ := I.loc
  ⟨m, hn, I.bk, Nat.le_trans I.ok.bsz I.ok.above⟩
theorem Inv.lt (I : Inv X pins σ H s) : X.env.locals < s.heap.objs.size := let ⟨_, hn, _⟩ := I.loc; hn.lt
theorem Inv.sz (I : Inv X pins σ H s) : X.s₀.heap.objs.size ≤ s.heap.objs.size := Nat.le_trans I.ok.above (Nat.le_of_lt I.lt)
theorem Inv.nofs (I : Inv X pins σ H s) {a : Addr} (h : s.heap.objs.size ≤ a) : a ∉ X.fs := fun hb => by
  obtain ⟨_, o, ho, _⟩ := I.ok.funs.mem hb
  exact absurd (Nat.lt_of_lt_of_le (Heap.lt_size ho) (Nat.le_trans I.sz h)) (Nat.lt_irrefl _)
theorem Inv.cne (I : Inv X pins σ H s) : ∀ x c, X.env.cells.lookup x = some c → c ≠ X.env.locals := fun x c e z => by
  obtain ⟨v, o, ho, hd⟩ := I.cell x c e
  obtain ⟨m, ⟨o', es, ep, ho', hd', _⟩, _⟩ := I.loc
  rw [z, ho'] at ho; cases ho; rw [hd'] at hd; cases hd
theorem Inv.funs (I : Inv X pins σ H s) : s.heap.FunFrames X.base X.outer := by
  have all : ∀ (l : List Env), (∀ b ∈ frs l, b ∈ X.fs) → X.s₀.heap.FunFrames X.base l → s.heap.FunFrames X.base l := by
    intro l
    induction l with
    | nil => intro _ _; trivial
    | cons env r ih =>
      intro hs hl
      obtain ⟨hk, ⟨L, o, hf, hn, ho, hd⟩, hr⟩ := hl
      have hL : L ∈ X.fs := hs L (by unfold frs; rw [List.filterMap_cons, hf]; exact List.mem_cons_self)
      obtain ⟨sl, e⟩ := I.base.slot L o ho (I.ok.frf L hL) hL fun z => I.ok.exfs L z hL
      exact ⟨hk, ⟨L, _, hf, hn, e, hd⟩, ih (fun b hb => hs b (by unfold frs; rw [List.filterMap_cons, hf]; exact List.mem_cons_of_mem _ hb)) hr⟩
  exact all X.outer (fun _ hb => hb) I.ok.funs
theorem Inv.stack (I : Inv X pins σ H s) : s.heap.FunFrames X.base X.stack := by
  rcases I.ok.stk with e | ⟨e, hf⟩
  · rw [e]; exact I.funs
  · rw [e]
    obtain ⟨m, hn, _⟩ := I.loc
    refine .cons (by rw [I.ok.kind]; decide) hf hn ?_ I.funs
    exact Heap.get?_none_of_le (Nat.le_trans I.ok.bsz I.ok.above)
theorem Inv.stkSub (I : Inv X pins σ H s) : ∀ b ∈ frs X.stack, b ∈ X.env.locals :: X.fs := fun b hb => by
  rcases I.ok.stk with e | ⟨e, hf⟩
  · rw [e] at hb; exact List.mem_cons_of_mem _ hb
  · rw [e] at hb
    unfold frs at hb
    rw [List.filterMap_cons, hf] at hb
    exact hb
theorem Inv.stkFree (I : Inv X pins σ H s) : ∀ b ∈ frs X.stack, H b = none := fun b hb => by
  rcases List.mem_cons.mp (I.stkSub b hb) with e | hb
  · rw [e]; exact I.free
  · obtain ⟨_, o, ho, _⟩ := I.ok.funs.mem hb
    exact I.base.free b o ho (I.ok.frf b hb) fun z => I.ok.exfs b z hb
theorem Inv.step {g' : Array GenState} {t' : Nat} {d' : Drawn} {ch : List Addr} (I : Inv X pins σ H s)
    (hch : ∀ b ∈ ch, (b ∈ X.ex ∨ X.s₀.heap.objs.size ≤ b) ∧ b ≠ X.env.locals ∧ (∀ x c, X.env.cells.lookup x = some c → c ≠ b) ∧ ∀ p ∈ X.pn ++ pins, p.1 ≠ b)
    (keep : ∀ b o, b ≠ X.env.locals → b ∉ X.fs → b ∉ ch → s.heap.get? b = some o → H b = none → h'.get? b = some o)
    (slot : ∀ b o, b ≠ X.env.locals → b ∈ X.fs → b ∉ ch → s.heap.get? b = some o → H b = none → ∃ sl, h'.get? b = some { o with slots := sl }) (free : ∀ b o, b ∉ ch → s.heap.get? b = some o → H b = none → H' b = none)
    (there : ∀ b o, b ∉ ch → s.heap.get? b = some o → ∃ o', h'.get? b = some o')
    (tups : ∀ b xs, H b = some (.tup xs) → H' b = some (.tup xs)) (frzs : ∀ b o u, H b = some (.frz o u) → H' b = some (.frz o u)) (tbls : ∀ b ps, H b = some (.tbl ps) → ∃ more, H' b = some (.tbl (ps ++ more)))
    (ns : ∀ m, s.heap.Ns X.env.locals m → h'.Ns X.env.locals m) (hok : HOk X.prog X.w H' h') (hg : AllBare g') :
    Inv X pins σ H' { s with heap := h', gens := g', drawn := d', toks := t' } := by
  have neL : ∀ b o, X.s₀.heap.get? b = some o → b ≠ X.env.locals := fun b o e => Nat.ne_of_lt (Nat.lt_of_lt_of_le (Heap.lt_size e) I.ok.above)
  have neC : ∀ b o, X.s₀.heap.get? b = some o → b ∉ X.ex → b ∉ ch := fun b o e hx hb => by
    rcases (hch b hb).1 with z | z
    · exact hx z
    · exact absurd (Nat.lt_of_lt_of_le (Heap.lt_size e) z) (Nat.lt_irrefl _)
  have cellK : ∀ x c, X.env.cells.lookup x = some c → ∀ v, s.heap.IsCell c v → h'.IsCell c v := fun x c e v ⟨o, ho, hd⟩ => by
    have nch : c ∉ ch := fun z => (hch c z).2.2.1 x c e rfl
    by_cases hc : c ∈ X.fs
    · obtain ⟨sl, q⟩ := slot c o (I.cne x c e) hc nch ho (I.freeC x c e)
      exact ⟨_, q, hd⟩
    · exact ⟨o, keep c o (I.cne x c e) hc nch ho (I.freeC x c e), hd⟩
  refine ⟨I.ok, I.os, hg, ⟨fun b o e n hb hx => ?_, fun b o e n hb hx => ?_, fun b o e n hx => ?_, fun b o e hx => ?_, fun b xs e => tups b xs (I.base.tups b xs e), fun b o xs e => frzs b o xs (I.base.frzs b o xs e), fun b ps e => ?_⟩, ?_, fun x c e => ?_, ?_, fun x c e => ?_, fun p hp => ?_, hok, I.len⟩
  · exact keep b o (neL b o e) hb (neC b o e hx) (I.base.keep b o e n hb hx) (I.base.free b o e n hx)
  · obtain ⟨sl, e1⟩ := I.base.slot b o e n hb hx
    obtain ⟨sl', e2⟩ := slot b _ (neL b o e) hb (neC b o e hx) e1 (I.base.free b o e n hx)
    exact ⟨sl', e2⟩
  · obtain ⟨o', e1⟩ := I.base.there b o e hx
    exact free b o' (neC b o e hx) e1 (I.base.free b o e n hx)
  · obtain ⟨o', e1⟩ := I.base.there b o e hx
    exact there b o' (neC b o e hx) e1
  · obtain ⟨m1, e1⟩ := I.base.tbls b ps e
    obtain ⟨m2, e2⟩ := tbls b _ e1
    exact ⟨m1 ++ m2, by rw [e2, Array.append_assoc]⟩
  · obtain ⟨m, hn, hl⟩ := I.loc
    refine ⟨m, ns m hn, fun i x v e1 e2 e3 => ?_⟩
    obtain ⟨u, r, l⟩ := hl i x v e1 e2 e3
    refine ⟨u, r, ?_⟩
    rcases l with l | ⟨k, c, e, z⟩
    · exact .inl l
    · exact .inr ⟨k, c, e, cellK x c e _ z⟩
  · obtain ⟨v, z⟩ := I.cell x c e
    exact ⟨v, cellK x c e v z⟩
  · obtain ⟨m, ⟨o, _, _, ho, _⟩, _⟩ := I.loc
    exact free _ o (fun z => (hch _ z).2.1 rfl) ho I.free
  · obtain ⟨v, o, ho, hd⟩ := I.cell x c e
    exact free c o (fun z => (hch c z).2.2.1 x c e rfl) ho (I.freeC x c e)
  · obtain ⟨e, n, ne, nf, d⟩ := I.pin p hp
    have nch : p.1 ∉ ch := fun z => (hch p.1 z).2.2.2 p hp rfl
    exact ⟨keep p.1 p.2 ne nf nch e n, free p.1 p.2 nch e n, ne, nf, d⟩
theorem Inv.un {t' : Nat} (I : Inv X pins σ H s) (u : Un X.fs [] H H' s.heap h') (hok : HOk X.prog X.w H' h') : Inv X pins σ H' { s with heap := h', toks := t' } := by
  obtain ⟨m, ⟨o, es, ep, ho, r⟩, _⟩ := id I.loc
  obtain ⟨sl, hL⟩ := u.any ho I.free (by simp)
  exact I.step (g' := s.gens) (d' := s.drawn) (ch := []) (fun _ z => nomatch z) (fun b o _ hb _ e n => u.keep b o e n hb (by simp)) (fun b o _ hb _ e n => u.slot b o e n hb (by simp)) (fun b o _ e n => u.free b o e n (by simp)) (fun b o _ e => u.there b o e (by simp)) u.tups u.frzs u.tbls (fun m' hm => by
    obtain ⟨o', es', ep', ho', r'⟩ := hm
    rw [ho] at ho'; cases ho'
    exact ⟨_, es', ep', hL, r'⟩) hok I.bare
theorem Inv.call {g' : Array GenState} {t' : Nat} {d' : Drawn} {ch : List Addr} (I : Inv X pins σ H s) (u : Un (frs X.stack) ch H H' s.heap h') (hok : HOk X.prog X.w H' h') (hg : AllBare g')
    (hch : ∀ b ∈ ch, (b ∈ X.ex ∨ X.s₀.heap.objs.size ≤ b) ∧ b ≠ X.env.locals ∧ (∀ x c, X.env.cells.lookup x = some c → c ≠ b) ∧ ∀ p ∈ X.pn ++ pins, p.1 ≠ b) :
    Inv X pins σ H' { s with heap := h', gens := g', drawn := d', toks := t' } := by
  obtain ⟨m, ⟨o, es, ep, ho, r⟩, _⟩ := id I.loc
  obtain ⟨sl, hL⟩ := u.any ho I.free fun z => (hch _ z).2.1 rfl
  exact I.step (ch := ch) hch (fun b o hL hb hc e n => u.keep b o e n (fun z => (List.mem_cons.mp (I.stkSub b z)).elim hL hb) hc) (fun b o _ _ hc e n => u.any e n hc) (fun b o hc e n => u.free b o e n hc) (fun b o hc e => u.there b o e hc) u.tups u.frzs u.tbls (fun m' hm => by
    obtain ⟨o', es', ep', ho', r'⟩ := hm
    rw [ho] at ho'; cases ho'
    exact ⟨_, es', ep', hL, r'⟩) hok hg
theorem Inv.turned {t' : Nat} {it : Addr} (I : Inv X pins σ H s) (k : ∀ b o, b ≠ it → s.heap.get? b = some o → h'.get? b = some o) (hn : H it = none) (hL : it ≠ X.env.locals)
    (h1 : it ∈ X.ex ∨ X.s₀.heap.objs.size ≤ it) (h2 : ∀ x c, X.env.cells.lookup x = some c → c ≠ it) (h3 : ∀ p ∈ X.pn ++ pins, p.1 ≠ it) : Inv X pins σ H { s with heap := h', toks := t' } := by
  have nit : ∀ b u, H b = some u → b ≠ it := fun b u e z => by rw [z, hn] at e; cases e
  refine I.step (g' := s.gens) (d' := s.drawn) (ch := [it]) (fun b hb => ?_) (fun b o _ _ hc e _ => k b o (fun z => hc (by simp [z])) e) (fun b o _ _ hc e _ => ⟨o.slots, k b o (fun z => hc (by simp [z])) e⟩) (fun _ _ _ _ n => n)
    (fun b o hc e => ⟨o, k b o (fun z => hc (by simp [z])) e⟩) (fun _ _ e => e) (fun _ _ _ e => e) (fun b ps e => ⟨#[], by rw [e]; simp⟩) (fun m hm => ?_) (fun b u e => ?_) I.bare
  · have e : b = it := by simpa using hb
    subst e
    exact ⟨h1, hL, h2, h3⟩
  · obtain ⟨o, es, ep, ho, r⟩ := hm
    exact ⟨o, es, ep, k _ o (Ne.symm hL) ho, r⟩
  · refine (I.hok b u e).stay (fun c v hc q => k c v ?_ q) (fun _ q => q) fun _ _ q => q
    rcases hc with z | z
    · rw [z]; exact nit b u e
    · exact nit c _ z
theorem Inv.tok (I : Inv X pins σ H s) (t : Nat) : Inv X pins σ H { s with toks := t } := I.un (h' := s.heap) (t' := t) Un.refl I.hok
theorem Inv.kept {t' : Nat} (I : Inv X pins σ H s) (k : ∀ b u, s.heap.get? b = some u → h'.get? b = some u) : Inv X pins σ H { s with heap := h', toks := t' } := I.un (Un.kept k) (I.hok.kept k)
theorem Inv.laid {a : Addr} {o : HO} {t' : Nat} (I : Inv X pins σ H s) (k : ∀ b u, s.heap.get? b = some u → h'.get? b = some u) (hp : s.heap.objs.size ≤ a) (new : ObjOk X.prog X.w (upd H a o) h' a o) :
    Inv X pins σ (upd H a o) { s with heap := h', toks := t' } := I.un (Un.laid k hp (I.hok.fresh hp)) (I.hok.laid k hp new)
theorem Inv.write {x e : Addr} {o : HO} {t' : Nat} (I : Inv X pins σ H s) (mu : Mut (H x)) (he : e = x ∨ H e = some (.own x)) (k : ∀ b u, b ≠ e → s.heap.get? b = some u → h'.get? b = some u) (heo : ∃ u, h'.get? e = some u)
    (new : ObjOk X.prog X.w (upd H x o) h' x o) : Inv X pins σ (upd H x o) { s with heap := h', toks := t' } := I.un (Un.write mu he k heo) (I.hok.write mu he k heo new)
theorem Inv.weak {σ' : List (Option V)} (I : Inv X pins σ H s) (hl : σ'.length = σ.length) (w : ∀ (i : Nat) v, σ'[i]? = some (some v) → σ[i]? = some (some v)) : Inv X pins σ' H s :=
  ⟨I.ok, I.os, I.bare, I.base, let ⟨m, hn, hl'⟩ := I.loc; ⟨m, hn, fun i x v e1 e2 e3 => hl' i x v e1 (w i v e2) e3⟩, I.cell, I.free, I.freeC, I.pin, I.hok, hl.trans I.len⟩
theorem Inv.pins_of {pins' : List (Addr × Obj)} (I : Inv X pins σ H s) (h : ∀ p ∈ pins', s.heap.get? p.1 = some p.2 ∧ H p.1 = none ∧ p.1 ≠ X.env.locals ∧ p.1 ∉ X.fs ∧ ∀ v, p.2.data ≠ .cell v) : Inv X pins' σ H s :=
  ⟨I.ok, I.os, I.bare, I.base, I.loc, I.cell, I.free, I.freeC, fun p hp => (List.mem_append.mp hp).elim (fun z => I.pin p (List.mem_append_left _ z)) (h p), I.hok, I.len⟩
theorem nodup_ix {N : List Str} (hN : N.Nodup) {i j : Nat} {x : Str} (a : N[i]? = some x) (b : N[j]? = some x) : i = j := by
  obtain ⟨h1, e1⟩ := List.getElem?_eq_some_iff.mp a
  obtain ⟨h2, e2⟩ := List.getElem?_eq_some_iff.mp b
  exact (List.getElem_inj hN).mp (e1.trans e2.symm)
theorem store_ok2 {M : Model} {A : Around} {E : Value → Shared → Prop} {i : Nat} {x : Str} {v : V} {u : Value} {Q : Unit → Shared → Prop} (I : Inv X pins σ H s) (hN : X.N.Nodup) (hi : X.N[i]? = some x) (hx : Loc X.env.scope x) (r : RelV v u)
    (h : ∀ s', Inv X pins (σ.set i (some v)) H s' → (∃ a, Heap.SameBut a s.heap s'.heap ∧ (a = X.env.locals ∨ X.env.cells.lookup x = some a)) → Q () s') (hf : X.fn x = true ∨ X.env.scope.names.lookup x = some .local := by first | exact .inl rfl | exact .inr rfl | assumption) : wpAny M A (storeName X.env x u) Q E s := by
  obtain ⟨m, hn, hl⟩ := id I.loc
  have hcls : (X.env.scope.kind == .class || (X.env.scope.kind == .module && X.env.locals != X.env.globals)) = false := by rw [I.ok.kind]; rfl
  have hiσ : i < σ.length := by rw [I.len]; exact (List.getElem?_eq_some_iff.mp hi).1
  have cne := I.cne
  have tracked : ∀ {a : Addr} {h' : Heap}, (∃ o, s.heap.get? a = some o ∧ H a = none) → Heap.SameBut a s.heap h' → HOk X.prog X.w H h' := fun {a h'} ha hs b ob e => by
    obtain ⟨_, _, hfree⟩ := ha
    refine (I.hok b ob e).stay (fun c w' hc q => (hs.2 c ?_).trans q) (fun _ q => q) fun _ _ q => q
    rintro rfl
    rcases hc with rfl | hc
    · rw [hfree] at e; cases e
    · rw [hfree] at hc; cases hc
  rcases hx with hk | hk
  · refine wpAny_storeName_local hk hn (fun h' hn' hs => ?_) hcls
    obtain ⟨oL, _, _, hoL, _⟩ := id hn
    refine h _ ⟨I.ok, I.os, I.bare, ⟨fun b o e n hb hx => ?_, fun b o e n hb hx => ?_, I.base.free, fun b o e hx => ?_, I.base.tups, I.base.frzs, I.base.tbls⟩, ⟨_, hn', fun j y v' e1 e2 e3 => ?_⟩, fun y c e => ?_, I.free, I.freeC, fun p hp => ?_, tracked ⟨oL, hoL, I.free⟩ hs, by simpa using I.len⟩ ⟨_, hs, .inl rfl⟩
    · exact (hs.2 b (Nat.ne_of_lt (Nat.lt_of_lt_of_le (Heap.lt_size e) I.ok.above))).trans (I.base.keep b o e n hb hx)
    · obtain ⟨sl, e1⟩ := I.base.slot b o e n hb hx
      exact ⟨sl, (hs.2 b (Nat.ne_of_lt (Nat.lt_of_lt_of_le (Heap.lt_size e) I.ok.above))).trans e1⟩
    · obtain ⟨o', e1⟩ := I.base.there b o e hx
      exact ⟨o', (hs.2 b (Nat.ne_of_lt (Nat.lt_of_lt_of_le (Heap.lt_size e) I.ok.above))).trans e1⟩
    · by_cases hj : j = i
      · subst hj
        rw [hi] at e1; cases e1
        rw [List.getElem?_set_self hiσ] at e2
        cases e2
        exact ⟨u, r, .inl ⟨hk, by simp⟩⟩
      · rw [List.getElem?_set_ne (Ne.symm hj)] at e2
        obtain ⟨u', r', q⟩ := hl j y v' e1 e2 e3
        refine ⟨u', r', ?_⟩
        rcases q with ⟨k, e⟩ | ⟨k, c, e, z⟩
        · refine .inl ⟨k, ?_⟩
          have : y ≠ x := fun e => hj (nodup_ix hN e1 (e ▸ hi))
          simp [this, e]
        · exact .inr ⟨k, c, e, z.sameBut hs (cne y c e)⟩
    · obtain ⟨w', z⟩ := I.cell y c e
      exact ⟨w', z.sameBut hs (cne y c e)⟩
    · obtain ⟨e, n, ne, nf, d⟩ := I.pin p hp
      exact ⟨(hs.2 p.1 ne).trans e, n, ne, nf, d⟩
  · have hfn : X.fn x = true := by
      rcases hf with z | z
      · exact z
      · rw [z] at hk; cases hk
    obtain ⟨c, hc⟩ := I.ok.has x (.inl hk)
    obtain ⟨w', z⟩ := I.cell x c hc
    refine wpAny_storeName_cell I.ok.kind hk hc z (fun h' hc' hs => ?_)
    obtain ⟨oc, hoc, hocd⟩ := id z
    refine h { s with heap := h' } ⟨I.ok, I.os, I.bare, ⟨fun b o e n hb hx => ?_, fun b o e n hb hx => ?_, I.base.free, fun b o e hx => ?_, I.base.tups, I.base.frzs, I.base.tbls⟩, ⟨m, hn.sameBut hs (Ne.symm (cne x c hc)), fun j y v' e1 e2 e3 => ?_⟩, fun y c' e => ?_, I.free, I.freeC, fun p hp => ?_, tracked ⟨oc, hoc, I.freeC x c hc⟩ hs, by simpa using I.len⟩ ⟨c, hs, .inr hc⟩
    · exact (hs.2 b (Nat.ne_of_lt (Nat.lt_of_lt_of_le (Heap.lt_size e) (I.ok.cab x c hfn hc)))).trans (I.base.keep b o e n hb hx)
    · obtain ⟨sl, e1⟩ := I.base.slot b o e n hb hx
      exact ⟨sl, (hs.2 b (Nat.ne_of_lt (Nat.lt_of_lt_of_le (Heap.lt_size e) (I.ok.cab x c hfn hc)))).trans e1⟩
    · obtain ⟨o', e1⟩ := I.base.there b o e hx
      exact ⟨o', (hs.2 b (Nat.ne_of_lt (Nat.lt_of_lt_of_le (Heap.lt_size e) (I.ok.cab x c hfn hc)))).trans e1⟩
    · by_cases hj : j = i
      · subst hj
        rw [hi] at e1; cases e1
        rw [List.getElem?_set_self hiσ] at e2
        cases e2
        exact ⟨u, r, .inr ⟨.inl hk, c, hc, hc'⟩⟩
      · rw [List.getElem?_set_ne (Ne.symm hj)] at e2
        obtain ⟨u', r', q⟩ := hl j y v' e1 e2 e3
        refine ⟨u', r', ?_⟩
        rcases q with q | ⟨k, c', e, z'⟩
        · exact .inl q
        · refine .inr ⟨k, c', e, z'.sameBut hs ?_⟩
          rintro rfl
          exact hj (nodup_ix hN e1 (I.ok.inj _ _ _ e hc ▸ hi))
    · by_cases hcc : c' = c
      · subst hcc; exact ⟨_, hc'⟩
      · obtain ⟨w2, z2⟩ := I.cell y c' e
        exact ⟨w2, z2.sameBut hs hcc⟩
    · obtain ⟨e, n, ne, nf, d⟩ := I.pin p hp
      refine ⟨(hs.2 p.1 ?_).trans e, n, ne, nf, d⟩
      intro q
      rw [q, hoc] at e
      have q' : oc = p.2 := Option.some.inj e
      exact d w' (by rw [← q']; exact hocd)
theorem store_ok {M : Model} {A : Around} {E : Value → Shared → Prop} {i : Nat} {x : Str} {v : V} {u : Value} {Q : Unit → Shared → Prop} (I : Inv X pins σ H s) (hN : X.N.Nodup) (hi : X.N[i]? = some x) (hx : Loc X.env.scope x) (r : RelV v u)
    (h : ∀ s', Inv X pins (σ.set i (some v)) H s' → Q () s') (hf : X.fn x = true ∨ X.env.scope.names.lookup x = some .local := by first | exact .inl rfl | exact .inr rfl | assumption) : wpAny M A (storeName X.env x u) Q E s :=
  store_ok2 I hN hi hx r (fun s' I' _ => h s' I') hf
theorem Inv.call' {s' : Shared} {ch : List Addr} (I : Inv X pins σ H s) (ho : s'.os = s.os) (u : Un (frs X.stack) ch H H' s.heap s'.heap) (hok : HOk X.prog X.w H' s'.heap) (hg : AllBare s'.gens)
    (hch : ∀ b ∈ ch, (b ∈ X.ex ∨ X.s₀.heap.objs.size ≤ b) ∧ b ≠ X.env.locals ∧ (∀ x c, X.env.cells.lookup x = some c → c ≠ b) ∧ ∀ p ∈ X.pn ++ pins, p.1 ≠ b) : Inv X pins σ H' s' := by
  obtain ⟨h', g', d', t', o'⟩ := s'
  have e : o' = s.os := ho
  subst e
  exact I.call (g' := g') (t' := t') (d' := d') u hok hg hch
end
noncomputable abbrev XK := Value → Option Addr → Hp → Prop
noncomputable abbrev St := List (Option V)
noncomputable abbrev VK := V → Hp → Prop
noncomputable abbrev TE := St → Hp → VK → Prop
noncomputable abbrev TT := St → Hp → (Bool → Hp → Prop) → Prop
noncomputable abbrev TA := St → Hp → (List V → Hp → Prop) → Prop
structure Ends where
  nx : St → Hp → Prop
  rt : VK
  bk : St → Hp → Prop := fun _ _ => False
  ct : St → Hp → Prop := fun _ _ => False
noncomputable abbrev TS := Ends → St → Hp → Prop
noncomputable def EP (X : Cx) (pins : List (Addr × Obj)) (σ : St) (Q : VK) (u : Value) (s' : Shared) : Prop := ∃ v H', Inv X pins σ H' s' ∧ RelV v u ∧ Q v H'
noncomputable def TP (X : Cx) (pins : List (Addr × Obj)) (σ : St) (Q : Bool → Hp → Prop) (b : Bool) (s' : Shared) : Prop := ∃ H', Inv X pins σ H' s' ∧ Q b H'
noncomputable def AP (X : Cx) (pins : List (Addr × Obj)) (σ : St) (Q : List V → Hp → Prop) (us : List Value) (s' : Shared) : Prop := ∃ vs H', Inv X pins σ H' s' ∧ Vals vs us ∧ Q vs H'
noncomputable def SP (X : Cx) (pins : List (Addr × Obj)) (D : Ends) (f : Flow) (s' : Shared) : Prop :=
  match f with
  | .next => ∃ σ' H', Inv X pins σ' H' s' ∧ D.nx σ' H'
  | .brk => ∃ σ' H', Inv X pins σ' H' s' ∧ D.bk σ' H'
  | .cont => ∃ σ' H', Inv X pins σ' H' s' ∧ D.ct σ' H'
  | .ret u => ∃ v σ' H', Inv X pins σ' H' s' ∧ RelV v u ∧ D.rt v H'
noncomputable def PE (X : Cx) (e : Expr) (t : TE) : Prop :=
  ∀ (pins : List (Addr × Obj)) (s : Shared) (σ : St) (H : Hp) (Q : VK), Inv X pins σ H s → t σ H Q → wpAny (model X.prog X.w) X.A (eval e X.env) (EP X pins σ Q) X.xe s
noncomputable def PT (X : Cx) (e : Expr) (t : TT) : Prop :=
  ∀ (pins : List (Addr × Obj)) (s : Shared) (σ : St) (H : Hp) (Q : Bool → Hp → Prop), Inv X pins σ H s → t σ H Q → wpAny (model X.prog X.w) X.A (isTrue e X.env (eval e X.env)) (TP X pins σ Q) X.xe s
noncomputable def PW (X : Cx) (e : Expr) (t : TT) : Prop :=
  ∀ (whole : Sem Value) (pins : List (Addr × Obj)) (s : Shared) (σ : St) (H : Hp) (Q : Bool → Hp → Prop), Inv X pins σ H s → t σ H Q → wpAny (model X.prog X.w) X.A (isTrue e X.env whole) (TP X pins σ Q) X.xe s
theorem PW.pt {X : Cx} {e : Expr} {t : TT} (h : PW X e t) : PT X e t := h _
noncomputable def PA (X : Cx) (es : List Expr) (t : TA) : Prop :=
  ∀ (pos : Pos) (pins : List (Addr × Obj)) (s : Shared) (σ : St) (H : Hp) (Q : List V → Hp → Prop), Inv X pins σ H s → t σ H Q → wpAny (model X.prog X.w) X.A (spliced (backTo pos (starEach es X.env))) (AP X pins σ Q) X.xe s
noncomputable def PS (X : Cx) (st : Stmt) (t : TS) : Prop :=
  ∀ (pins : List (Addr × Obj)) (s : Shared) (σ : St) (H : Hp) (D : Ends), Inv X pins σ H s → t D σ H → wpAny (model X.prog X.w) X.A (exec st X.env) (SP X pins D) X.xe s
noncomputable def PSs (X : Cx) (st : List Stmt) (t : TS) : Prop :=
  ∀ (pins : List (Addr × Obj)) (s : Shared) (σ : St) (H : Hp) (D : Ends), Inv X pins σ H s → t D σ H → wpAny (model X.prog X.w) X.A (execs st X.env) (SP X pins D) X.xe s
theorem thn {α : Type} {t : Sem α} {Q Q' : α → Shared → Prop} {M : Model} {A : Around} {E : Value → Shared → Prop} {s : Shared} (h : wpAny M A t Q E s) (hQ : ∀ a s, Q a s → Q' a s) : wpAny M A t Q' E s := wpAny_mono h hQ fun _ _ x => x
end L2
namespace L2
open PySem PySem.Spec PyProof.Rows
section
variable {X : Cx}
theorem bin {a b : Expr} {ta tb : TE} (ha : PE X a ta) (hb : PE X b tb) {pins : List (Addr × Obj)} {s : Shared} {σ : St} {H : Hp} {R : V → V → Hp → Prop} (I : Inv X pins σ H s) (h : ta σ H fun x H1 => tb σ H1 fun y H2 => R x y H2)
    {α : Type} {Q : α → Shared → Prop} {f : Value → Value → Sem α}
    (hf : ∀ v u s2 x y H2, Inv X pins σ H2 s2 → RelV x v → RelV y u → R x y H2 → wpAny (model X.prog X.w) X.A (f v u) Q X.xe s2) :
    wpAny (model X.prog X.w) X.A (eval a X.env) (fun v s₁ => wpAny (model X.prog X.w) X.A (eval b X.env) (fun u s₂ => wpAny (model X.prog X.w) X.A (f v u) Q X.xe s₂) X.xe s₁) X.xe s := by
  refine thn (ha pins s σ H _ I h) fun v s1 hq__ => ?_
  obtain ⟨x, H1, I1, r1, q1⟩ := hq__
  refine thn (hb pins s1 σ H1 _ I1 q1) fun u s2 hq__ => ?_
  obtain ⟨y, H2, I2, r2, q2⟩ := hq__
  exact hf v u s2 x y H2 I2 r1 r2 q2
noncomputable def tVar (i : Nat) : TE := fun σ H Q => ∃ v, σ[i]? = some (some v) ∧ Q v H
noncomputable def tC (v : V) : TE := fun _ H Q => Q v H
theorem pe_var {i : Nat} {x : Str} {pos : Pos} (hN : X.N[i]? = some x) (hv : Vis X.env.scope x) (hd : (x == ("__debug__" : Str)) = false := by decide) (hcd : (x == ("__classdict__" : Str)) = false := by decide) : PE X (.Name x pos) (tVar i) := by
  intro pins s σ H Q I h
  obtain ⟨v, e, h⟩ := h
  obtain ⟨m, hn, hl⟩ := I.loc
  obtain ⟨u, r, l⟩ := hl i x v hN e hv
  have fin : EP X pins σ Q u s := ⟨v, H, I, r, h⟩
  rcases l with ⟨hk, hm⟩ | ⟨hk, c, hc, hcell⟩
  · exact wpAny_Name (wpAny_loadName_local I.ok.kind hk hn hm fin) hd
  · rcases hk with hk | hk
    · exact wpAny_Name (wpAny_loadName_cell I.ok.kind hk hc hcell fin) hd
    · exact wpAny_Name (wpAny_loadName_free I.ok.kind hk hc hcell fin hcd) hd
theorem pe_int {i j pos} : PE X (.Constant (.int i) j pos) (tC (.int i)) := fun _ _ _ H _ I h => wpAny_Constant_int ⟨.int i, H, I.tok _, ⟨_, rfl⟩, h⟩
theorem pe_bl {b j pos} : PE X (.Constant (.bool b) j pos) (tC (.bl b)) := fun _ _ _ H _ I h => Constant_bool ⟨.bl b, H, I, rfl, h⟩
theorem pe_non {j pos} : PE X (.Constant .none j pos) (tC .non) := fun _ _ _ H _ I h => Constant_none ⟨.non, H, I, rfl, h⟩
theorem pe_str {x j pos} : PE X (.Constant (.str x) j pos) (tC (.str x)) := fun _ _ _ H _ I h => Calls.Constant_str ⟨.str x, H, I.tok _, ⟨_, rfl⟩, h⟩
noncomputable def Gl (X : Cx) (x : Str) : Prop := X.env.kindOf x = some .globalImplicit
theorem ld_glob {E : Value → Shared → Prop} {pins : List (Addr × Obj)} {s : Shared} {σ : St} {H : Hp} {x : Str} {u : Value} {pos : Pos} {Q : Value → Shared → Prop} (I : Inv X pins σ H s) (hg : Gl X x) (hm : X.mg x = some u) (h : Q u s)
    (hd : (x == ("__debug__" : Str)) = false := by decide) : wpAny (model X.prog X.w) X.A (eval (.Name x pos) X.env) Q E s :=
  Calls.Name_function_global I.ok.kind hg (Calls.loadGlobal_global (by rw [I.ok.glob]; exact I.mod.glob.keeps I.bk) hm h) hd
theorem ld_blt {E : Value → Shared → Prop} {pins : List (Addr × Obj)} {s : Shared} {σ : St} {H : Hp} {x : Str} {u : Value} {pos : Pos} {Q : Value → Shared → Prop} (I : Inv X pins σ H s) (hg : Gl X x) (hm : X.mg x = none) (hv : bootBuiltins x = some u) (h : Q u s)
    (hn : x ≠ "__name__" := by decide) (hd : (x == ("__debug__" : Str)) = false := by decide) : wpAny (model X.prog X.w) X.A (eval (.Name x pos) X.env) Q E s := by
  obtain ⟨mb, h1, h2⟩ := I.mod.blt
  exact Calls.Name_function_global I.ok.kind hg (Calls.loadGlobal_builtin (by rw [I.ok.glob]; exact I.mod.glob.keeps I.bk) hm (by rw [I.ok.blt]; exact h1.keeps I.bk) ((h2 x hn).trans hv) h) hd
theorem pe_bltn {x : Str} {v : V} {u : Value} {pos : Pos} (hg : Gl X x) (hm : X.mg x = none) (hv : bootBuiltins x = some u) (r : RelV v u) (hn : x ≠ "__name__" := by decide) (hd : (x == ("__debug__" : Str)) = false := by decide) : PE X (.Name x pos) (tC v) :=
  fun _ _ _ H _ I h => ld_blt I hg hm hv ⟨v, H, I, r, h⟩ hn hd
variable {a b : Expr} {ta tb : TE} {pos : Pos}
noncomputable def PC (X : Cx) (op : CmpOp) (a b : Expr) (t : TE) : Prop :=
  ∀ (pins : List (Addr × Obj)) (s : Shared) (σ : St) (H : Hp) (Q : VK), Inv X pins σ H s → t σ H Q →
    wpAny (model X.prog X.w) X.A (eval a X.env) (fun v s₁ => wpAny (model X.prog X.w) X.A (eval b X.env) (fun u s₂ => wpAny (model X.prog X.w) X.A (compareOp op v u) (EP X pins σ Q) X.xe s₂) X.xe s₁) X.xe s
theorem nobehind (b : Expr) {op : CmpOp} (h : op ≠ .In) (h2 : op ≠ .NotIn) : behindInMarks op b = false := by
  have e1 : (op == CmpOp.In) = false := by cases op <;> first | rfl | exact absurd rfl h
  have e2 : (op == CmpOp.NotIn) = false := by cases op <;> first | rfl | exact absurd rfl h2
  cases b <;> simp [behindInMarks, e1, e2]
noncomputable def tB (t : TE) : TT := fun σ H Q => t σ H fun x H1 => ∃ c, x = .bl c ∧ Q c H1
theorem pt_cmp {op : CmpOp} {t : TE} (h : PC X op a b t) (h1 : behindInMarks op b = false := by first | exact nobehind _ (by decide) (by decide) | rfl) : PT X (.Compare a [op] [b] pos) (tB t) := by
  intro pins s σ H Q I hw
  refine wpAny_isTrue_Compare1 (thn (h pins s σ H _ I hw) fun v s1 h1 => thn h1 fun u s2 h2 => thn h2 fun c s3 ⟨x, H1, I1, r1, q1⟩ => ?_) h1
  obtain ⟨d, rfl, q⟩ := q1
  cases r1
  exact wpAny_truthy_bool ⟨H1, I1, q⟩
theorem pt_val {e : Expr} {t : TE} (h : PE X e t) (he : ∀ whole, isTrue e X.env whole = (do let v ← whole; standAt e.pos; holding [v] (truthy v)) := by intro _; rfl) : PT X e (tB t) := by
  intro pins s σ H Q I hw
  refine isTrue_plain (thn (h pins s σ H _ I hw) fun v s1 ⟨x, H1, I1, r1, q1⟩ => ?_) (he _)
  obtain ⟨d, rfl, q⟩ := q1
  cases r1
  exact wpAny_truthy_bool ⟨H1, I1, q⟩
variable {tA tB' : TT} {rest : List Expr}
noncomputable def tAnd (t u : TT) : TT := fun σ H Q => t σ H fun c H1 => if c = true then u σ H1 Q else Q false H1
noncomputable def tOr (t u : TT) : TT := fun σ H Q => t σ H fun c H1 => if c = true then Q true H1 else u σ H1 Q
noncomputable def tNot (t : TT) : TT := fun σ H Q => t σ H fun c H1 => Q (!c) H1
theorem pw_and1 (ha : PT X a tA) : PW X (.BoolOp .And [a] pos) tA := by
  intro wh pins s σ H Q I h
  refine isTrue_and (thn (ha pins s σ H Q I h) fun c s1 e => ?_)
  cases c with
  | true => exact isTrue_and_nil e
  | false => exact e
theorem pw_or1 (ha : PT X a tA) : PW X (.BoolOp .Or [a] pos) tA := by
  intro wh pins s σ H Q I h
  refine isTrue_or (thn (ha pins s σ H Q I h) fun c s1 e => ?_)
  cases c with
  | false => exact isTrue_or_nil e
  | true => exact e
theorem pw_and (ha : PT X a tA) (hb : PW X (.BoolOp .And (b :: rest) pos) tB') : PW X (.BoolOp .And (a :: b :: rest) pos) (tAnd tA tB') := by
  intro wh pins s σ H Q I h
  refine isTrue_and (thn (ha pins s σ H _ I h) fun c s1 hq__ => ?_)
  obtain ⟨H1, I1, q1⟩ := hq__
  cases c with
  | true => exact hb wh pins s1 σ H1 Q I1 q1
  | false => exact ⟨H1, I1, q1⟩
theorem pw_or (ha : PT X a tA) (hb : PW X (.BoolOp .Or (b :: rest) pos) tB') : PW X (.BoolOp .Or (a :: b :: rest) pos) (tOr tA tB') := by
  intro wh pins s σ H Q I h
  refine isTrue_or (thn (ha pins s σ H _ I h) fun c s1 hq__ => ?_)
  obtain ⟨H1, I1, q1⟩ := hq__
  cases c with
  | true => exact ⟨H1, I1, q1⟩
  | false => exact hb wh pins s1 σ H1 Q I1 q1
theorem pt_not (ha : PT X a tA) : PT X (.UnaryOp .Not a pos) (tNot tA) := by
  intro pins s σ H Q I h
  exact isTrue_not (ha pins s σ H (fun c H1 => Q (!c) H1) I h)
noncomputable def tAndV (ta tb : TE) : TE := fun σ H Q => ta σ H fun x H1 => ∃ c, x = .bl c ∧ if c = true then tb σ H1 Q else Q (.bl false) H1
noncomputable def tNotV (ta : TE) : TE := fun σ H Q => ta σ H fun x H1 => ∃ c, x = .bl c ∧ Q (.bl (!c)) H1
theorem pe_one {op} {t : TE} (h : PE X a t) : PE X (.BoolOp op [a] pos) t := fun pins s σ H Q I hw => BoolOp_one (h pins s σ H Q I hw)
theorem pe_and (ha : PE X a ta) (hb : PE X (.BoolOp .And (b :: rest) pos) tb) : PE X (.BoolOp .And (a :: b :: rest) pos) (tAndV ta tb) := by
  intro pins s σ H Q I h
  refine BoolOp_and (thn (ha pins s σ H _ I h) fun v s1 hq__ => ?_)
  obtain ⟨x, H1, I1, r1, q1⟩ := hq__
  obtain ⟨c, rfl, q1⟩ := q1
  cases r1
  refine wpAny_truthy_bool ?_
  cases c with
  | true => exact hb pins s1 σ H1 Q I1 q1
  | false => exact ⟨.bl false, H1, I1, rfl, q1⟩
theorem pe_not (ha : PE X a ta) : PE X (.UnaryOp .Not a pos) (tNotV ta) := by
  intro pins s σ H Q I h
  refine UnaryOp_ (thn (ha pins s σ H _ I h) fun v s1 hq__ => ?_)
  obtain ⟨x, H1, I1, r1, q1⟩ := hq__
  obtain ⟨c, rfl, q1⟩ := q1
  cases r1
  exact not_of (wpAny_truthy_bool ⟨.bl (!c), H1, I1, rfl, q1⟩)
end
end L2
namespace L2
open PySem PySem.Spec PyProof.Rows
noncomputable def SqL (K : PySem.W.Frag) (H : Hp) (a : Addr) (xs : List V) : Prop :=
  Rd H a (.lst xs) ∨
    ∃ (o : Obj) (its : Array Value) (n : Nat), K.lookup a = some o ∧ o.cls = .type "list" ∧ o.dict = none ∧ o.data = .seq its n ∧ its.size ≤ sizeLine ∧ Vals xs its.toList
noncomputable def SqT (K : PySem.W.Frag) (H : Hp) (a : Addr) (xs : List V) : Prop :=
  Rd H a (.tup xs) ∨
    ∃ (o : Obj) (its : Array Value) (n : Nat), K.lookup a = some o ∧ o.cls = .type "tuple" ∧ o.data = .seq its n ∧ its.size ≤ sizeLine ∧ Vals xs its.toList
noncomputable def absV : Value → Option V
  | .none => some .non
  | .bool b => some (.bl b)
  | .int i _ => some (.int i)
  | .str x _ => some (.str x)
  | .bytes b _ => some (.byt b)
  | .float b _ => some (.flt b)
  | .ref a => some (.ref a)
  | .type n => some (.ty n)
  | _ => none
theorem RelV.abs {x : V} {u : Value} (r : RelV x u) : absV u = some x := by
  cases x with
  | non => cases r; rfl
  | bl _ => cases r; rfl
  | int _ => obtain ⟨t, rfl⟩ := r; rfl
  | str _ => obtain ⟨t, rfl⟩ := r; rfl
  | byt _ => obtain ⟨t, rfl⟩ := r; rfl
  | flt _ => obtain ⟨t, rfl⟩ := r; rfl
  | ref _ => cases r; rfl
  | ty _ => cases r; rfl
theorem RelV.inj {x y : V} {u : Value} (r : RelV x u) (q : RelV y u) : x = y := Option.some.inj (r.abs.symm.trans q.abs)
theorem Vals.inj : ∀ {xs ys : List V} {us : List Value}, Vals xs us → Vals ys us → xs = ys := by
  intro xs ys us h
  induction h generalizing ys with
  | nil => intro h'; cases h'; rfl
  | cons r t ih =>
    intro h'
    cases h' with
    | cons r' t' => rw [r.inj r', ih t']
section
variable {X : Cx} {pins : List (Addr × Obj)} {σ : St} {H : Hp} {s : Shared} {a : Addr} {xs ys : List V}
theorem SqL.of {K : PySem.W.Frag} (h : H a = some (.lst xs)) : SqL K H a xs := .inl (.inl h)
theorem SqT.of {K : PySem.W.Frag} (h : H a = some (.tup xs)) : SqT K H a xs := .inl (.inl h)
theorem Inv.list (I : Inv X pins σ H s) (h : SqL X.K H a xs) : ∃ its : List Value, Vals xs its ∧ PlainL s.heap a its.toArray ∧ xs.length ≤ sizeLine := by
  rcases h with h | ⟨o, its, n, hk, hc, hd, hs, hz, r⟩
  · obtain ⟨z, its, n, r, e⟩ := h.ok I.hok
    exact ⟨its, r, ⟨_, n, e, rfl, rfl, rfl⟩, z⟩
  · refine ⟨its.toList, r, ⟨o, n, I.kIn a o hk, hc, hd, by simpa using hs⟩, ?_⟩
    have e := r.length
    simp only [Array.length_toList] at e
    omega
theorem Inv.tuple (I : Inv X pins σ H s) (h : SqT X.K H a xs) : ∃ its : List Value, Vals xs its ∧ IsTup s.heap a its.toArray ∧ xs.length ≤ sizeLine := by
  rcases h with h | ⟨o, its, n, hk, hc, hs, hz, r⟩
  · obtain ⟨z, its, r, p⟩ := h.ok I.hok
    exact ⟨its, r, p, z⟩
  · refine ⟨its.toList, r, ⟨o, I.kIn a o hk, hc, n, by simpa using hs⟩, ?_⟩
    have e := r.length
    simp only [Array.length_toList] at e
    omega
theorem Inv.list_inj (I : Inv X pins σ H s) (h : SqL X.K H a xs) (h' : SqL X.K H a ys) : xs = ys := by
  obtain ⟨its, r, ⟨o, n, e, _, _, d⟩, _⟩ := I.list h
  obtain ⟨its', r', ⟨o', n', e', _, _, d'⟩, _⟩ := I.list h'
  rw [e] at e'; cases e'
  rw [d] at d'
  injection d' with d1 _
  have : its = its' := by simpa using congrArg Array.toList d1
  subst this
  exact r.inj r'
theorem Inv.tuple_inj (I : Inv X pins σ H s) (h : SqT X.K H a xs) (h' : SqT X.K H a ys) : xs = ys := by
  obtain ⟨its, r, ⟨o, e, _, n, d⟩, _⟩ := I.tuple h
  obtain ⟨its', r', ⟨o', e', _, n', d'⟩, _⟩ := I.tuple h'
  rw [e] at e'; cases e'
  rw [d] at d'
  injection d' with d1 _
  have : its = its' := by simpa using congrArg Array.toList d1
  subst this
  exact r.inj r'
end
noncomputable abbrev Cx.wish (X : Cx) (E : Value → Shared → Prop) : Cx := { X with xe := E }
noncomputable abbrev Cx.nox (X : Cx) : Cx := X.wish fun _ _ => False
theorem Cx.Ok.wish {X : Cx} (ok : X.Ok) (E : Value → Shared → Prop) : (X.wish E).Ok :=
  ⟨ok.mod, ok.kind, ok.glob, ok.blt, ok.above, ok.inj, ok.has, ok.cab, ok.hd, ok.frames, ok.stk, ok.exf, ok.bs, ok.bsz, ok.noex, ok.exfs, ok.funs, ok.frf⟩
theorem Cx.Ok.unwish {X : Cx} {E : Value → Shared → Prop} (ok : (X.wish E).Ok) : X.Ok :=
  ⟨ok.mod, ok.kind, ok.glob, ok.blt, ok.above, ok.inj, ok.has, ok.cab, ok.hd, ok.frames, ok.stk, ok.exf, ok.bs, ok.bsz, ok.noex, ok.exfs, ok.funs, ok.frf⟩
section
variable {X : Cx} {pins : List (Addr × Obj)} {σ : St} {H : Hp} {s : Shared} {E : Value → Shared → Prop}
theorem Inv.wish (I : Inv X pins σ H s) (E : Value → Shared → Prop) : Inv (X.wish E) pins σ H s := ⟨I.ok.wish E, I.os, I.bare, I.base, I.loc, I.cell, I.free, I.freeC, I.pin, I.hok, I.len⟩
theorem Inv.unwish (I : Inv (X.wish E) pins σ H s) : Inv X pins σ H s := ⟨I.ok.unwish, I.os, I.bare, I.base, I.loc, I.cell, I.free, I.freeC, I.pin, I.hok, I.len⟩
theorem SP.unwish {D : Ends} {f : Flow} {s' : Shared} (h : SP (X.wish E) pins D f s') : SP X pins D f s' := by
  cases f with
  | next => obtain ⟨σ', H', I, q⟩ := h; exact ⟨σ', H', I.unwish, q⟩
  | brk => obtain ⟨σ', H', I, q⟩ := h; exact ⟨σ', H', I.unwish, q⟩
  | cont => obtain ⟨σ', H', I, q⟩ := h; exact ⟨σ', H', I.unwish, q⟩
  | ret u => obtain ⟨v, σ', H', I, r, q⟩ := h; exact ⟨v, σ', H', I.unwish, r, q⟩
theorem PSs.nox {st : List Stmt} {t : TS} (h : PSs X.nox st t) : PSs X st t := fun pins s σ H D I hw =>
  wpAny_mono (h pins s σ H D (I.wish _) hw) (fun _ _ q => q.unwish) fun _ _ z => False.elim z
end
section
variable {X : Cx} {st : Stmt} {rest : List Stmt} {t u : TS} {e : Expr} {te : TE} {pos : Pos}
noncomputable def tNext : TS := fun D σ H => D.nx σ H
noncomputable def tSeq (t u : TS) : TS := fun D σ H => t { D with nx := u D } σ H
theorem pss_nil : PSs X [] tNext := fun _ _ σ H _ I h => wpAny_execs_nil ⟨σ, H, I, h⟩
theorem pss_cons (h1 : PS X st t) (h2 : PSs X rest u) : PSs X (st :: rest) (tSeq t u) := by
  intro pins s σ H D I h
  refine wpAny_execs_cons (thn (h1 pins s σ H { D with nx := u D } I h) fun f s1 q => ?_)
  cases f with
  | next =>
    obtain ⟨σ', H', I', q⟩ := q
    exact h2 pins s1 σ' H' D I' q
  | ret v => exact q
  | brk => exact q
  | cont => exact q
theorem pss_one (h1 : PS X st t) : PSs X [st] t := by
  intro pins s σ H D I h
  refine wpAny_execs_cons (thn (h1 pins s σ H D I h) fun f s1 q => ?_)
  cases f with
  | next => exact wpAny_execs_nil q
  | ret v => exact q
  | brk => exact q
  | cont => exact q
theorem Inv.quiet {pins : List (Addr × Obj)} {σ : St} {H : Hp} {s : Shared} (I : Inv X pins σ H s) : interactive X.env = false := by simp [interactive, I.ok.kind]
noncomputable def tDrop (te : TE) : TS := fun D σ H => te σ H fun _ H1 => D.nx σ H1
theorem ps_expr (he : PE X e te) (hs : swapsWith e none pos.line X.env = pure false := by rfl) : PS X (.Expr e pos) (tDrop te) := by
  intro pins s σ H D I h
  exact wpAny_Expr_any (thn (he pins s σ H _ I h) fun v s1 ⟨x, H1, I1, r1, q1⟩ => ⟨σ, H1, I1, q1⟩) I.quiet hs
noncomputable def tRet (te : TE) : TS := fun D σ H => te σ H D.rt
theorem ps_ret (he : PE X e te) : PS X (.Return (some e) pos) (tRet te) := by
  intro pins s σ H D I h
  exact wpAny_Return_some (thn (he pins s σ H _ I h) fun v s1 ⟨x, H1, I1, r1, q1⟩ => ⟨x, σ, H1, I1, r1, q1⟩)
noncomputable def tRetN : TS := fun D _ H => D.rt .non H
theorem ps_retN : PS X (.Return none pos) tRetN := fun _ _ σ H _ I h => wpAny_Return_none ⟨.non, σ, H, I, rfl, h⟩
noncomputable def tIfS (c : TT) (t u : TS) : TS := fun D σ H => c σ H fun b H1 => if b = true then t D σ H1 else u D σ H1
theorem ps_if {c : Expr} {a b : List Stmt} {tc : TT} (hc : PT X c tc) (ha : PSs X a t) (hb : PSs X b u) : PS X (.If c a b pos) (tIfS tc t u) := by
  intro pins s σ H D I h
  refine wpAny_If (thn (hc pins s σ H _ I h) fun d s1 hq__ => ?_)
  obtain ⟨H1, I1, q1⟩ := hq__
  cases d with
  | true => exact ha pins s1 σ H1 D I1 q1
  | false => exact hb pins s1 σ H1 D I1 q1
end
noncomputable abbrev TG := V → St → Hp → (St → Hp → Prop) → Prop
noncomputable abbrev TGs := List V → St → Hp → (St → Hp → Prop) → Prop
noncomputable def PG (X : Cx) (target : Expr) (t : TG) : Prop :=
  ∀ (pins : List (Addr × Obj)) (s : Shared) (σ : St) (H : Hp) (v : V) (u : Value) (Q : St → Hp → Prop), Inv X pins σ H s → RelV v u → t v σ H Q →
    wpAny (model X.prog X.w) X.A (assign target X.env u) (fun _ s' => ∃ σ' H', Inv X pins σ' H' s' ∧ Q σ' H') X.xe s
noncomputable def PGs (X : Cx) (ts : List Expr) (t : TGs) : Prop :=
  ∀ (pins : List (Addr × Obj)) (s : Shared) (σ : St) (H : Hp) (vs : List V) (us : List Value) (Q : St → Hp → Prop), Inv X pins σ H s → Vals vs us → t vs σ H Q →
    wpAny (model X.prog X.w) X.A (assignInOrder ((assignEach ts X.env).map (·.2)) us) (fun _ s' => ∃ σ' H', Inv X pins σ' H' s' ∧ Q σ' H') X.xe s
noncomputable abbrev TSet := V → V → V → Hp → (Hp → Prop) → Prop
noncomputable def PSet (X : Cx) (t : TSet) : Prop :=
  ∀ (pins : List (Addr × Obj)) (s : Shared) (σ : St) (H : Hp) (o i v : V) (ov iv u : Value) (Q : Hp → Prop), Inv X pins σ H s → RelV o ov → RelV i iv → RelV v u → t o i v H Q →
    wpAny (model X.prog X.w) X.A (setItem ov iv u) (fun _ s' => ∃ H', Inv X pins σ H' s' ∧ Q H') X.xe s
noncomputable abbrev TIp := V → V → Hp → VK → Prop
noncomputable def PIp (X : Cx) (op : Operator) (t : TIp) : Prop :=
  ∀ (pins : List (Addr × Obj)) (s : Shared) (σ : St) (H : Hp) (x y : V) (v u : Value) (Q : VK), Inv X pins σ H s → RelV x v → RelV y u → t x y H Q →
    wpAny (model X.prog X.w) X.A (inplaceOp op v u) (EP X pins σ Q) X.xe s
section
variable {X : Cx} {pos : Pos}
noncomputable def gName (i : Nat) : TG := fun v σ H Q => Q (σ.set i (some v)) H
theorem pg_name {i : Nat} {x : Str} (hN : X.N.Nodup) (hi : X.N[i]? = some x) (hx : Loc X.env.scope x) (hf : X.fn x = true ∨ X.env.scope.names.lookup x = some .local := by first | exact .inl rfl | exact .inr rfl | assumption) : PG X (.Name x pos) (gName i) := by
  intro pins s σ H v u Q I r h
  exact wpAny_assign_Name (store_ok I hN hi hx r (fun s' I' => ⟨_, H, I', h⟩) hf)
noncomputable def gNil : TGs := fun vs σ H Q => vs = [] ∧ Q σ H
noncomputable def gCons (t : TG) (u : TGs) : TGs := fun vs σ H Q => ∃ v r, vs = v :: r ∧ t v σ H fun σ' H' => u r σ' H' Q
theorem pgs_nil : PGs X [] gNil := by
  intro pins s σ H vs us Q I r h
  obtain ⟨e, h⟩ := h
  subst e
  cases r
  exact assignInOrder_nil ⟨σ, H, I, h⟩
theorem pgs_cons {e : Expr} {es : List Expr} {t : TG} {u : TGs} (h1 : PG X e t) (h2 : PGs X es u)
    (hs : (assignEach (e :: es) X.env).map (·.2) = assign e X.env :: (assignEach es X.env).map (·.2) := by rfl) : PGs X (e :: es) (gCons t u) := by
  intro pins s σ H vs us Q I r h
  obtain ⟨v, vr, e1, h⟩ := h
  subst e1
  cases r with
  | cons r rr =>
    rw [hs]
    refine assignInOrder_cons (thn (h1 pins s σ H _ _ _ I r h) fun _ s1 hq__ => ?_)
    obtain ⟨σ1, H1, I1, q1⟩ := hq__
    exact h2 pins s1 σ1 H1 _ _ Q I1 rr q1
noncomputable def gTup (K : PySem.W.Frag) (n : Nat) (t : TGs) : TG := fun v σ H Q => ∃ a xs, v = .ref a ∧ SqT K H a xs ∧ xs.length = n ∧ t xs σ H Q
theorem pg_tup {es : List Expr} {k : Nat} {t : TGs} {n : Nat} (hc : X.calm = true) (h : PGs X es t)
    (hn : (assignEach es X.env).length = n := by rfl) (hst : (assignEach es X.env).findIdx? (·.1) = none := by rfl) : PG X (.Tuple es k pos) (gTup X.K n t) := by
  intro pins s σ H v u Q I r hw
  obtain ⟨a, xs, e1, hq, hl, hw⟩ := hw
  subst e1
  cases r
  obtain ⟨its, rv, ht, hz⟩ := I.tuple hq
  refine assign_Tuple_tuple (I.ok.hd hc) ht (by simp [hn, ← hl, rv.length]) hst fun h' hx => ?_
  have I1 : Inv X pins σ H { s with heap := h' } := I.kept (t' := s.toks) fun b o e => hx b o (Nat.ne_of_lt (Heap.lt_size e)) e
  exact h pins _ σ H xs _ Q I1 (by simpa using rv) hw
noncomputable def gSub (to ti : TE) (t : TSet) : TG := fun v σ H Q => to σ H fun o H1 => ti σ H1 fun i H2 => t o i v H2 fun H3 => Q σ H3
theorem pg_sub {o i : Expr} {to ti : TE} {t : TSet} (ho : PE X o to) (hi : PE X i ti) (hs : PSet X t)
    (ha : ∀ v, assign (.Subscript o i pos) X.env v = (do
      let ov ← holding [v] (eval o X.env)
      let iv ← holding [v, ov] (eval i X.env)
      standAt pos
      holding [v, ov, iv] (setItem ov iv v)
      release [v, ov, iv] []) := by intro _; rfl) : PG X (.Subscript o i pos) (gSub to ti t) := by
  intro pins s σ H v u Q I r h
  rw [ha]
  refine wpAny_bind (wpAny_holding (thn (ho pins s σ H _ I h) fun ov s1 hq__ => ?_))
  obtain ⟨x, H1, I1, r1, q1⟩ := hq__
  refine wpAny_bind (wpAny_holding (thn (hi pins s1 σ H1 _ I1 q1) fun iv s2 hq__ => ?_))
  obtain ⟨y, H2, I2, r2, q2⟩ := hq__
  refine wpAny_bind (wpAny_standAt (wpAny_bind (wpAny_holding (thn (hs pins s2 σ H2 x y v ov iv u _ I2 r1 r2 r q2) fun _ s3 hq__ => ?_))))
  obtain ⟨H3, I3, q3⟩ := hq__
  exact wpAny_release ⟨σ, H3, I3, q3⟩
noncomputable def tAsg (te : TE) (g : TG) : TS := fun D σ H => te σ H fun x H1 => g x σ H1 D.nx
theorem ps_asg {tg e : Expr} {te : TE} {g : TG} (he : PE X e te) (hg : PG X tg g) (hs : swapsWithSole [tg] e pos.line X.env = pure false := by rfl) (hw : swappedStores [tg] e X.env = pure none := by rfl)
    (h1 : (assignEach [tg] X.env).map (·.2) = [assign tg X.env] := by rfl) : PS X (.Assign [tg] e pos) (tAsg te g) := by
  intro pins s σ H D I h
  refine wpAny_Assign_stores (thn (he pins s σ H _ I h) fun v s1 ⟨x, H1, I1, r1, q1⟩ => ?_) hs hw
  rw [h1]
  exact thn (hg pins s1 σ H1 x v _ I1 r1 q1) fun _ s2 q => q
theorem ps_set {i : Nat} {x : Str} {e : Expr} {te : TE} {pos' : Pos} (hN : X.N.Nodup) (hi : X.N[i]? = some x) (hx : Loc X.env.scope x) (he : PE X e te) (hs : swapsWith e (some (.Name x pos')) pos.line X.env = pure false := by rfl) (hf : X.fn x = true ∨ X.env.scope.names.lookup x = some .local := by first | exact .inl rfl | exact .inr rfl | assumption) :
    PS X (.Assign [.Name x pos'] e pos) (tAsg te (gName i)) := by
  intro pins s σ H D I h
  refine wpAny_Assign_Name (thn (he pins s σ H _ I h) fun v s1 ⟨y, H1, I1, r1, q1⟩ => ?_) hs
  exact store_ok I1 hN hi hx r1 (fun s2 I2 => ⟨_, H1, I2, q1⟩) hf
noncomputable def tAugS (to ti te : TE) (tget : V → V → Hp → VK → Prop) (tip : TIp) (tset : TSet) : TS := fun D σ H => to σ H fun o H1 => ti σ H1 fun i H2 => tget o i H2 fun x H3 => te σ H3 fun y H4 => tip x y H4 fun z H5 => tset o i z H5 fun H6 => D.nx σ H6
noncomputable def PGet (X : Cx) (t : V → V → Hp → VK → Prop) : Prop :=
  ∀ (pins : List (Addr × Obj)) (s : Shared) (σ : St) (H : Hp) (o i : V) (ov iv : Value) (Q : VK), Inv X pins σ H s → RelV o ov → RelV i iv → t o i H Q →
    wpAny (model X.prog X.w) X.A (getItem ov iv) (EP X pins σ Q) X.xe s
theorem ps_augS {o i e : Expr} {to ti te : TE} {tget : V → V → Hp → VK → Prop} {tip : TIp} {tset : TSet} {op : Operator} {tpos : Pos} (ho : PE X o to) (hi : PE X i ti) (hg : PGet X tget) (he : PE X e te) (hp : PIp X op tip) (hs : PSet X tset)
    (ha : ∀ ov iv new, augStore i ov iv new = (do holding [new, ov, iv] (setItem ov iv new); release [new, ov, iv] []; pure .next) := by intros; rfl) : PS X (.AugAssign (.Subscript o i tpos) op e pos) (tAugS to ti te tget tip tset) := by
  intro pins s σ H D I h
  refine wpAny_AugAssign_SubscriptAny (thn (ho pins s σ H _ I h) fun ov s1 ⟨x1, H1, I1, r1, q1⟩ => ?_) ha
  refine thn (hi pins s1 σ H1 _ I1 q1) fun iv s2 hq__ => ?_
  obtain ⟨x2, H2, I2, r2, q2⟩ := hq__
  refine thn (hg pins s2 σ H2 x1 x2 ov iv _ I2 r1 r2 q2) fun old s3 hq__ => ?_
  obtain ⟨x3, H3, I3, r3, q3⟩ := hq__
  refine thn (he pins s3 σ H3 _ I3 q3) fun v s4 hq__ => ?_
  obtain ⟨x4, H4, I4, r4, q4⟩ := hq__
  refine thn (hp pins s4 σ H4 x3 x4 old v _ I4 r3 r4 q4) fun new s5 hq__ => ?_
  obtain ⟨x5, H5, I5, r5, q5⟩ := hq__
  exact thn (hs pins s5 σ H5 x1 x2 x5 ov iv new _ I5 r1 r2 r5 q5) fun _ s6 ⟨H6, I6, q6⟩ => ⟨σ, H6, I6, q6⟩
noncomputable def ipI (f : Int → Int → Int) : TIp := fun x y H Q => ∃ i j, x = .int i ∧ y = .int j ∧ Q (.int (f i j)) H
theorem ip_add : PIp X .Add (ipI fun i j => i + j) := by
  intro pins s σ H x y v u Q I r1 r2 h
  obtain ⟨i, j, e1, e2, q⟩ := h
  subst e1; subst e2
  obtain ⟨t, rfl⟩ := r1
  obtain ⟨t', rfl⟩ := r2
  exact iadd_int ⟨.int _, H, I.tok _, ⟨_, rfl⟩, q⟩
end
section
variable {X : Cx} {pos : Pos}
noncomputable def tWhile (c : TT) (tb : TS) : TS := fun D σ H => ∃ W : Nat → St → Hp → Prop, (∃ m, W m σ H) ∧ ∀ m σ H, W m σ H →
  c σ H fun b H1 => if b = true then ∃ N : St → Hp → Prop, (∀ σ' H', N σ' H' → ∃ m', m' < m ∧ W m' σ' H') ∧ tb { D with nx := N, ct := N, bk := D.nx } σ H1 else D.nx σ H1
theorem ps_while {c : Expr} {body : List Stmt} {tc : TT} {tb : TS} (hp : PassesOwn (model X.prog X.w) X.A X.env X.xe) (hc : PT X c tc) (hb : PSs X body tb) : PS X (.While c body [] pos) (tWhile tc tb) := by
  intro pins s σ H D I h
  obtain ⟨W, ⟨m0, w0⟩, turn⟩ := h
  refine wpAny_While (codeAny_whileLoop (fun n s' => ∃ σ' H', Inv X pins σ' H' s' ∧ W n σ' H') ?_ m0 ⟨σ, H, I, w0⟩)
  rintro n s1 ⟨σ1, H1, I1, w1⟩
  refine wpAny_passesOwn hp (thn (hc pins s1 σ1 H1 _ I1 (turn n σ1 H1 w1)) fun b s2 hq__ => ?_)
  obtain ⟨H2, I2, q2⟩ := hq__
  cases b with
  | true =>
    obtain ⟨N, hN, q2⟩ := q2
    rw [if_pos rfl]
    refine wpAny_passesOwn hp (thn (hb pins s2 σ1 H2 _ I2 q2) fun f s3 q3 => ?_)
    cases f with
    | next =>
      obtain ⟨σ3, H3, I3, n3⟩ := q3
      obtain ⟨m', hm, w3⟩ := hN σ3 H3 n3
      exact ⟨m', hm, σ3, H3, I3, w3⟩
    | cont =>
      obtain ⟨σ3, H3, I3, n3⟩ := q3
      obtain ⟨m', hm, w3⟩ := hN σ3 H3 n3
      exact ⟨m', hm, σ3, H3, I3, w3⟩
    | brk => exact q3
    | ret v => exact q3
  | false =>
    rw [if_neg Bool.false_ne_true]
    exact wpAny_execs_nil ⟨σ1, H2, I2, q2⟩
end
structure It where
  go : Nat → Hp → Prop
  yld : Nat → Hp → V → Hp → Prop
  stop : Nat → Hp → Prop
noncomputable def FpOk (X : Cx) (pins : List (Addr × Obj)) (H : Hp) (b : Addr) : Prop :=
  H b = none ∧ b ≠ X.env.locals ∧ b ∉ X.fs ∧ (b ∈ X.ex ∨ X.s₀.heap.objs.size ≤ b) ∧ (∀ x c, X.env.cells.lookup x = some c → c ≠ b) ∧ ∀ p ∈ X.pn ++ pins, p.1 ≠ b
theorem Inv.fpOk {X : Cx} {pins : List (Addr × Obj)} {σ : St} {H H' : Hp} {s : Shared} {b : Addr} (I : Inv X pins σ H s) (hb : s.heap.objs.size ≤ b) (hn : H' b = none) : FpOk X pins H' b := by
  refine ⟨hn, Nat.ne_of_gt (Nat.lt_of_lt_of_le I.lt hb), I.nofs hb, .inr (Nat.le_trans I.sz hb), fun x c e z => ?_, fun p hp z => ?_⟩
  · obtain ⟨v, q⟩ := I.cell x c e
    exact absurd (Nat.lt_of_lt_of_le q.lt (by rw [z]; exact hb)) (Nat.lt_irrefl _)
  · exact absurd (Nat.lt_of_lt_of_le (Heap.lt_size (I.pin p hp).1) (by rw [z]; exact hb)) (Nat.lt_irrefl _)
structure Turn (P : Program) (w : World) (K : PySem.W.Frag) (tg : Expr) (J : It) (fp : List Addr) (it : Addr) (tn : Nat → Heap → Prop) : Prop where
  mem : it ∈ fp
  obj : ∀ i h, tn i h → ∀ b ∈ fp, ∃ o, h.get? b = some o ∧ ∀ v, o.data ≠ .cell v
  keep : ∀ i h h', tn i h → (∀ b ∈ fp, ∀ o, h.get? b = some o → h'.get? b = some o) → tn i h'
  item : ∀ (X : Cx), X.prog = P → X.w = w → X.K = K → X.calm = true → ∀ (i : Nat) (pins : List (Addr × Obj)) (s : Shared) (σ : St) (H : Hp) (E : Value → Shared → Prop), Inv X pins σ H s → (∀ b ∈ fp, FpOk X pins H b) → tn i s.heap → J.go i H →
    wpAny (model P w) X.A (pyNext (.ref it)) (fun r s1 => ∃ u, r = some u ∧
      wpAny (model P w) X.A (letOwnedTupleGo tg (.ref it) u) (fun _ s2 => ∃ x H', Inv X pins σ H' s2 ∧ RelV x u ∧ J.yld i H x H' ∧ tn (i + 1) s2.heap ∧ ∀ b ∈ fp, H' b = none) E s1) E s
  done : ∀ (X : Cx), X.prog = P → X.w = w → X.K = K → X.calm = true → ∀ (i : Nat) (pins : List (Addr × Obj)) (s : Shared) (σ : St) (H : Hp) (E : Value → Shared → Prop), Inv X pins σ H s → (∀ b ∈ fp, FpOk X pins H b) → tn i s.heap → J.stop i H →
    wpAny (model P w) X.A (pyNext (.ref it)) (fun r s1 => r = none ∧ Inv X pins σ H s1) E s
  self : ∀ (A : Around) (i : Nat) (s : Shared) (Q : Value → Shared → Prop) (E : Value → Shared → Prop), tn i s.heap → Q (.ref it) s → wpAny (model P w) A (pyIter (.ref it)) Q E s
noncomputable abbrev TI := St → Hp → (It → Hp → Prop) → Prop
noncomputable def PIE (X : Cx) (pins : List (Addr × Obj)) (σ : St) (tg : Expr) (R : It → Hp → Prop) (itv : Value) (s2 : Shared) : Prop :=
  ∃ (it : Addr) (fp : List Addr) (tn : Nat → Heap → Prop) (J : It) (H' : Hp), itv = .ref it ∧ Inv X pins σ H' s2 ∧ Turn X.prog X.w X.K tg J fp it tn ∧ tn 0 s2.heap ∧ (∀ b ∈ fp, FpOk X pins H' b) ∧ R J H'
noncomputable def PI (X : Cx) (tg iter : Expr) (wi : TI) : Prop :=
  ∀ (pins : List (Addr × Obj)) (s : Shared) (σ : St) (H : Hp) (R : It → Hp → Prop), Inv X pins σ H s → wi σ H R →
    wpAny (model X.prog X.w) X.A (eval iter X.env) (fun v s1 => wpAny (model X.prog X.w) X.A (pyIter v) (PIE X pins σ tg R) X.xe s1) X.xe s
theorem go_of {M : Model} {A : Around} {E : Value → Shared → Prop} {s : Shared} {tg : Expr} {it : Addr} {u : Value} {o : Obj} {n : String} {vs : Array Value} {Q : Unit → Shared → Prop} (ho : s.heap.get? it = some o) (hc : o.cls = .type n) (hd : o.data = .fields vs)
    (hn : ["enumerate", "zip", "dict_itemiterator", "dict_reverseitemiterator", "odict_iterator", "itertools.zip_longest", "itertools.pairwise"].contains n = false) (hQ : Q () s) : wpAny M A (letOwnedTupleGo tg (.ref it) u) Q E s := by
  unfold letOwnedTupleGo
  cases tg <;> first
    | exact wpAny_pure hQ
    | (cases u <;> first
        | exact wpAny_pure hQ
        | (refine wpAny_bind (wpAny_load ho ?_)
           rw [hc, hd]
           show wpAny M A (if (["enumerate", "zip", "dict_itemiterator", "dict_reverseitemiterator", "odict_iterator", "itertools.zip_longest", "itertools.pairwise"].contains n && vs[0]? == some (rawInt _)) = true then _ else _) Q E s
           rw [if_neg (by intro h; rw [hn, Bool.false_and] at h; cases h)]
           exact wpAny_pure hQ))
noncomputable def Itl (K : PySem.W.Frag) (a : Addr) : It :=
  ⟨fun i H => ∃ xs x, SqL K H a xs ∧ xs[i]? = some x, fun i H x H' => H' = H ∧ ∀ xs, SqL K H a xs → xs[i]? = some x, fun i H => ∃ xs, SqL K H a xs ∧ xs.length ≤ i⟩
noncomputable def Itr (lo : Int) (n : Nat) : It := ⟨fun i _ => i < n, fun i H x H' => H' = H ∧ x = .int (lo + i), fun i _ => n ≤ i⟩
theorem turn_list {P : Program} {w : World} {K : PySem.W.Frag} {tg : Expr} (a it : Addr) : Turn P w K tg (Itl K a) [it] it (fun i h => h.IsListIter it a i) where
  mem := by simp
  obj := fun i h st b hb => by
    have e : b = it := by simpa using hb
    subst e
    obtain ⟨o, e, c, d⟩ := st
    exact ⟨o, e, fun v z => by rw [d] at z; cases z⟩
  keep := fun i h h' st k => st.at fun o e => k it (by simp) o e
  item := by
    intro X hP hw hK hc i pins s σ H E I hf st hg
    subst hP hw hK
    obtain ⟨xs, x, hq, hx⟩ := hg
    obtain ⟨its, rv, p, hz⟩ := I.list hq
    obtain ⟨u, hu, ru⟩ := rv.get hx
    obtain ⟨f0, f1, f2, f3, f4, f5⟩ := hf it (by simp)
    refine wpAny_pyNext_list_item st p.isList (x := u) (by simpa using hu) fun h' st' sb => ?_
    have I1 : Inv X pins σ H { s with heap := h' } := I.turned (t' := s.toks) (fun b o hb e => (sb.2 b hb).trans e) f0 f1 f3 f4 f5
    obtain ⟨o, e, c, d⟩ := id st'
    exact ⟨u, rfl, go_of (s := { s with heap := h' }) e c d (by decide) ⟨x, H, I1, ru, ⟨rfl, fun ys hy => by rw [I.list_inj hy hq]; exact hx⟩, st', fun b hb => (hf b hb).1⟩⟩
  done := by
    intro X hP hw hK hc i pins s σ H E I hf st hg
    subst hP hw hK
    obtain ⟨xs, hq, hx⟩ := hg
    obtain ⟨its, rv, p, hz⟩ := I.list hq
    obtain ⟨f0, f1, f2, f3, f4, f5⟩ := hf it (by simp)
    have hl := rv.length
    exact wpAny_pyNext_list_end (I.ok.hd hc) st p.isList (by simp; omega) fun h' eb => ⟨rfl, I.turned (t' := s.toks) (fun b o hb e => eb b o hb e) f0 f1 f3 f4 f5⟩
  self := fun _ _ _ _ _ st h => wpAny_pyIter_listiter st h
theorem turn_range {P : Program} {w : World} {K : PySem.W.Frag} {tg : Expr} (it : Addr) (lo : Int) (n : Nat) : Turn P w K tg (Itr lo n) [it] it (fun i h => IsRangeIter h it (lo + (i : Nat) * 1) ((n : Int) - (i : Nat)) 1) where
  mem := by simp
  obj := fun i h st b hb => by
    have e : b = it := by simpa using hb
    subst e
    exact ⟨_, st, fun v z => by
      have z' : Data.fields _ = Data.cell v := z
      cases z'⟩
  keep := fun i h h' st k => k it (by simp) _ st
  item := by
    intro X hP hw hK hc i pins s σ H E I hf st hg
    subst hP hw hK
    obtain ⟨f0, f1, f2, f3, f4, f5⟩ := hf it (by simp)
    have W := Walks.range (prog := X.prog) (w := X.w) (I.ok.hd hc) it lo 1 n
    refine W.item i s _ _ hg st fun v h' tk hv st' kk => ?_
    obtain ⟨t, rfl⟩ := hv
    have I1 : Inv X pins σ H { s with heap := h', toks := tk } := I.turned (fun b o hb e => kk b o (by simpa using hb) e) f0 f1 f3 f4 f5
    refine ⟨_, rfl, go_of (s := { s with heap := h', toks := tk }) (n := "range_iterator") st' rfl rfl (by decide) ⟨.int (lo + i), H, I1, ⟨t, ?_⟩, ⟨rfl, rfl⟩, st', fun b hb => (hf b hb).1⟩⟩
    rw [Int.mul_one]
  done := by
    intro X hP hw hK hc i pins s σ H E I hf st hg
    subst hP hw hK
    obtain ⟨f0, f1, f2, f3, f4, f5⟩ := hf it (by simp)
    exact wpAny_pyNext_range_end (I.ok.hd hc) st (by have : n ≤ i := hg; omega) fun h' eb => ⟨rfl, I.turned (t' := s.toks) (fun b o hb e => eb b o hb e) f0 f1 f3 f4 f5⟩
  self := fun _ _ _ _ _ st h => wpAny_pyIter_rangeiter st h
end L2
namespace L2
open PySem PySem.Spec PyProof.Rows
section
variable {X : Cx} {tg : Expr}
noncomputable def iList (K : PySem.W.Frag) (tl : TE) : TI := fun σ H R => tl σ H fun x H1 => ∃ a, x = .ref a ∧ (∃ xs, SqL K H1 a xs) ∧ R (Itl K a) H1
theorem pi_list {l : Expr} {tl : TE} (hl : PE X l tl) : PI X tg l (iList X.K tl) := by
  intro pins s σ H R I h
  refine thn (hl pins s σ H _ I h) fun v s1 hq__ => ?_
  obtain ⟨x, H1, I1, r1, q1⟩ := hq__
  obtain ⟨a, e, ⟨xs, hq⟩, q⟩ := q1
  subst e
  cases r1
  obtain ⟨its, rv, p, hz⟩ := I1.list hq
  refine wpAny_pyIter_list p.isList ?_
  refine ⟨s1.heap.objs.size, [s1.heap.objs.size], _, _, H1, rfl, I1.kept (t' := s1.toks) fun b o e => Heap.get?_push_of_some _ e, turn_list a _, ⟨_, Heap.get?_push_size _ rfl, rfl, rfl⟩, fun b hb => ?_, q⟩
  have e : b = s1.heap.objs.size := by simpa using hb
  subst e
  exact I1.fpOk (Nat.le_refl _) (I1.hok.fresh (Nat.le_refl _))
theorem range_it {pins : List (Addr × Obj)} {σ : St} {H : Hp} {s : Shared} {R : It → Hp → Prop} {E : Value → Shared → Prop} {lo hi : Int} {t u v : Tok} {tk : Nat} (I : Inv X pins σ H s) (h1 : -(2 ^ 62) ≤ lo) (h2 : lo < 2 ^ 62) (h3 : -(2 ^ 62) ≤ hi) (h4 : hi < 2 ^ 62)
    (q : R (Itr lo (hi - lo).toNat) H) : wpAny (model X.prog X.w) X.A (pyIter (.ref s.heap.objs.size)) (PIE X pins σ tg R) E { s with heap := s.heap.push { cls := .type "range", data := .fields #[.int lo t, .int hi u, .int 1 v] }, toks := tk } := by
  refine wpAny_pyIter_range (IsRange.new ..) (small_one h1 h2 h3 h4) ?_
  have I1 : Inv X pins σ H { s with heap := s.heap.push { cls := .type "range", data := .fields #[.int lo t, .int hi u, .int 1 v] }, toks := tk } := I.kept fun b o e => Heap.get?_push_of_some _ e
  refine ⟨(s.heap.push { cls := .type "range", data := .fields #[.int lo t, .int hi u, .int 1 v] }).objs.size, [(s.heap.push { cls := .type "range", data := .fields #[.int lo t, .int hi u, .int 1 v] }).objs.size], _, _, H, rfl,
    I1.kept (t' := tk) fun b o e => Heap.get?_push_of_some _ e, turn_range _ lo (hi - lo).toNat, ?_, fun b hb => ?_, q⟩
  · have e1 : lo + ((0 : Nat) : Int) * 1 = lo := by simp
    have e2 : (((hi - lo).toNat : Nat) : Int) - ((0 : Nat) : Int) = Builtin.Range.rangeSize lo hi 1 := by rw [rangeSize_one]; split <;> omega
    show IsRangeIter _ _ (lo + ((0 : Nat) : Int) * 1) ((((hi - lo).toNat : Nat) : Int) - ((0 : Nat) : Int)) 1
    rw [e1, e2]
    exact Heap.get?_push_size _ rfl
  · have e : b = (s.heap.push { cls := .type "range", data := .fields #[.int lo t, .int hi u, .int 1 v] }).objs.size := by simpa using hb
    subst e
    exact I1.fpOk (Nat.le_refl _) (I1.hok.fresh (Nat.le_refl _))
noncomputable def iRng1 (ta : TA) : TI := fun σ H R => ta σ H fun vs H1 => ∃ j : Int, vs = [.int j] ∧ -(2 ^ 62) ≤ j ∧ j < 2 ^ 62 ∧ R (Itr 0 j.toNat) H1
noncomputable def iRng2 (ta : TA) : TI := fun σ H R => ta σ H fun vs H1 => ∃ i j : Int, vs = [.int i, .int j] ∧ (-(2 ^ 62) ≤ i ∧ i < 2 ^ 62 ∧ -(2 ^ 62) ≤ j ∧ j < 2 ^ 62) ∧ R (Itr i (j - i).toNat) H1
theorem pi_range1 {a : Expr} {ta : TA} {p pos : Pos} (hg : Gl X "range") (hm : X.mg "range" = none) (ha : PA X [a] ta) (hs : starEach [a] X.env = [(false, eval a X.env)] := by rfl) : PI X tg (.Call (.Name "range" p) [a] [] pos) (iRng1 ta) := by
  intro pins s σ H R I h
  refine Call_ (ld_blt I hg hm boot_range (PyProof.Rows.callWith_type1 (thn (ha pos pins s σ H _ I h) fun us s1 ⟨vs, H1, I1, r1, q1⟩ => ?_) hs rfl))
  obtain ⟨j, e, q1, q2, q⟩ := q1
  subst e
  cases r1 with
  | cons r rr =>
    cases rr
    obtain ⟨t, rfl⟩ := r
    exact call_range_1 (range_it I1 (by omega) (by omega) q1 q2 (by simpa using q))
theorem pi_range2 {a b : Expr} {ta : TA} {p pos : Pos} (hg : Gl X "range") (hm : X.mg "range" = none) (ha : PA X [a, b] ta) (hs : starEach [a, b] X.env = [(false, eval a X.env), (false, eval b X.env)] := by rfl) (hs2 : starEach [b] X.env = [(false, eval b X.env)] := by rfl) :
    PI X tg (.Call (.Name "range" p) [a, b] [] pos) (iRng2 ta) := by
  intro pins s σ H R I h
  refine Call_ (ld_blt I hg hm boot_range (PyProof.Rows.callWith_type1 (thn (ha pos pins s σ H _ I h) fun us s1 ⟨vs, H1, I1, r1, q1⟩ => ?_) (by rw [hs, hs2]) (by rw [hs2]; rfl)))
  obtain ⟨i, j, e, ⟨q1, q2, q3, q4⟩, q⟩ := q1
  subst e
  cases r1 with
  | cons r rr =>
    cases rr with
    | cons r' rr =>
      cases rr
      obtain ⟨t, rfl⟩ := r
      obtain ⟨t', rfl⟩ := r'
      exact call_range_2 (range_it I1 q1 q2 q3 q4 q)
noncomputable def tFor (wi : TI) (g : TG) (tb : TS) : TS := fun D σ H => wi σ H fun J H1 => ∃ W : Nat → Nat → St → Hp → Prop, (∃ m, W 0 m σ H1) ∧ ∀ i m σ H, W i m σ H →
  (J.stop i H ∧ D.nx σ H) ∨ (J.go i H ∧ ∃ N : St → Hp → Prop, (∀ σ' H', N σ' H' → ∃ m', m' < m ∧ W (i + 1) m' σ' H') ∧ ∀ x H', J.yld i H x H' → g x σ H' fun σ2 H2 => tb { D with nx := N, ct := N, bk := D.nx } σ2 H2)
noncomputable def pinsAt (fp : List Addr) (h : Heap) : List (Addr × Obj) := fp.filterMap fun b => (h.get? b).map fun o => (b, o)
theorem mem_pinsAt {fp : List Addr} {h : Heap} {b : Addr} {o : Obj} (hb : b ∈ fp) (e : h.get? b = some o) : (b, o) ∈ pinsAt fp h := List.mem_filterMap.mpr ⟨b, hb, by rw [e]; rfl⟩
theorem of_pinsAt {fp : List Addr} {h : Heap} {p : Addr × Obj} (hp : p ∈ pinsAt fp h) : p.1 ∈ fp ∧ h.get? p.1 = some p.2 := by
  obtain ⟨b, hb, e⟩ := List.mem_filterMap.mp hp
  cases q : h.get? b with
  | none => rw [q] at e; cases e
  | some o =>
    rw [q] at e
    have e' : (b, o) = p := Option.some.inj e
    subst e'
    exact ⟨hb, q⟩
theorem Inv.pinned {pins : List (Addr × Obj)} {σ : St} {H : Hp} {s : Shared} {fp : List Addr} (I : Inv X pins σ H s) (hf : ∀ b ∈ fp, FpOk X pins H b) (ho : ∀ b ∈ fp, ∃ o, s.heap.get? b = some o ∧ ∀ v, o.data ≠ .cell v) : Inv X (pins ++ pinsAt fp s.heap) σ H s :=
  I.pins_of fun p hp => (List.mem_append.mp hp).elim (fun z => I.pin p (List.mem_append_right _ z)) fun z => by
    obtain ⟨hb, e⟩ := of_pinsAt z
    obtain ⟨f0, f1, f2, _⟩ := hf p.1 hb
    obtain ⟨o, e', d⟩ := ho p.1 hb
    rw [e] at e'; cases e'
    exact ⟨e, f0, f1, f2, d⟩
theorem Inv.unpinned {pins pl : List (Addr × Obj)} {σ : St} {H : Hp} {s : Shared} (I : Inv X (pins ++ pl) σ H s) : Inv X pins σ H s := I.pins_of fun p hp => I.pin p (List.mem_append_right _ (List.mem_append_left _ hp))
theorem ps_for {iter : Expr} {body : List Stmt} {wi : TI} {g : TG} {tb : TS} {pos : Pos} (hp : PassesOwn (model X.prog X.w) X.A X.env X.xe) (hc : X.calm = true) (hi : PI X tg iter wi) (hg : PG X tg g) (hb : PSs X body tb)
    (hs : ∀ x, foldedSetIterable iter X.env x = pure x := by intro _; rfl) : PS X (.For tg iter body [] pos) (tFor wi g tb) := by
  intro pins s σ H D I h
  refine wpAny_For (thn (hi pins s σ H _ I h) fun v s1 h1 => thn h1 fun itv s2 h2 => ?_) hs
  obtain ⟨it, fp, tn, J, H2, e, I2, T, st2, f2, W, ⟨m0, w0⟩, turn⟩ := h2
  subst e
  have stat : ∀ {H' : Hp}, (∀ b ∈ fp, H' b = none) → ∀ b ∈ fp, FpOk X pins H' b := fun hn b hb => ⟨hn b hb, (f2 b hb).2⟩
  refine codeAny_forLoop_any (fun n s' => ∃ i σ' H', Inv X pins σ' H' s' ∧ tn i s'.heap ∧ (∀ b ∈ fp, H' b = none) ∧ W i n σ' H') ?_ m0 ⟨0, σ, H2, I2, st2, fun b hb => (f2 b hb).1, w0⟩
  rintro n s3 ⟨i, σ3, H3, I3, st3, fr3, w3⟩
  rcases turn i n σ3 H3 w3 with ⟨stop, qn⟩ | ⟨go, N, hN, step⟩
  · refine wpAny_passesOwn hp (thn (T.done X rfl rfl rfl hc i pins s3 σ3 H3 X.xe I3 (stat fr3) st3 stop) fun r s4 hq__ => ?_)
    obtain ⟨hr, I4⟩ := hq__
    subst hr
    exact wpAny_execs_nil ⟨σ3, H3, I4, qn⟩
  · refine wpAny_passesOwn hp (thn (T.item X rfl rfl rfl hc i pins s3 σ3 H3 X.xe I3 (stat fr3) st3 go) fun r s4 hq__ => ?_)
    obtain ⟨u, hr, h4⟩ := hq__
    subst hr
    refine wpAny_passesOwn hp (thn h4 fun _ s5 hq__ => ?_)
    obtain ⟨x, H5, I5, r5, y5, st5, fr5⟩ := hq__
    have I5' := I5.pinned (stat fr5) (T.obj _ _ st5)
    refine wpAny_passesOwn hp (thn (hg _ s5 σ3 H5 x u _ I5' r5 (step x H5 y5)) fun _ s6 hq__ => ?_)
    obtain ⟨σ6, H6, I6, q6⟩ := hq__
    refine wpAny_passesOwn hp (thn (hb _ s6 σ6 H6 _ I6 q6) fun f s7 q7 => ?_)
    have again : ∀ {σ7 : St} {H7 : Hp}, Inv X (pins ++ pinsAt fp s5.heap) σ7 H7 s7 → N σ7 H7 → ∃ m, m < n ∧ ∃ i σ' H', Inv X pins σ' H' s7 ∧ tn i s7.heap ∧ (∀ b ∈ fp, H' b = none) ∧ W i m σ' H' := fun {σ7 H7} I7 n7 => by
      obtain ⟨m', hm, w7⟩ := hN σ7 H7 n7
      refine ⟨m', hm, i + 1, σ7, H7, I7.unpinned, T.keep _ _ _ st5 fun b hb o e => (I7.pin (b, o) (List.mem_append_right _ (List.mem_append_right _ (mem_pinsAt hb e)))).1, fun b hb => ?_, w7⟩
      obtain ⟨o, e, d⟩ := T.obj _ _ st5 b hb
      exact (I7.pin (b, o) (List.mem_append_right _ (List.mem_append_right _ (mem_pinsAt hb e)))).2.1
    cases f with
    | next => obtain ⟨σ7, H7, I7, n7⟩ := q7; exact again I7 n7
    | cont => obtain ⟨σ7, H7, I7, n7⟩ := q7; exact again I7 n7
    | brk => obtain ⟨σ7, H7, I7, q7⟩ := q7; exact ⟨σ7, H7, I7.unpinned, q7⟩
    | ret v => obtain ⟨x7, σ7, H7, I7, r7, q7⟩ := q7; exact ⟨x7, σ7, H7, I7.unpinned, r7, q7⟩
end
theorem for_list {K : PySem.W.Frag} {a : Addr} {xs : List V} {g : TG} {tb : TS} {D : Ends} {σ : St} {H : Hp} (Pv : Nat → St → Hp → Prop) (h0 : Pv 0 σ H) (hl : ∀ i σ H, i ≤ xs.length → Pv i σ H → SqL K H a xs)
    (hs : ∀ i x σ H, xs[i]? = some x → Pv i σ H → g x σ H fun σ2 H2 => tb { D with nx := Pv (i + 1), ct := Pv (i + 1), bk := D.nx } σ2 H2) (hd : ∀ σ H, Pv xs.length σ H → D.nx σ H) :
    ∃ W : Nat → Nat → St → Hp → Prop, (∃ m, W 0 m σ H) ∧ ∀ i m σ H, W i m σ H →
      ((Itl K a).stop i H ∧ D.nx σ H) ∨ ((Itl K a).go i H ∧ ∃ N : St → Hp → Prop, (∀ σ' H', N σ' H' → ∃ m', m' < m ∧ W (i + 1) m' σ' H') ∧ ∀ x H', (Itl K a).yld i H x H' → g x σ H' fun σ2 H2 => tb { D with nx := N, ct := N, bk := D.nx } σ2 H2) := by
  refine ⟨fun i m σ H => m = xs.length - i ∧ i ≤ xs.length ∧ Pv i σ H, ⟨xs.length, by simp, Nat.zero_le _, h0⟩, ?_⟩
  rintro i m σ H ⟨rfl, hi, p⟩
  have q := hl i σ H hi p
  by_cases hlt : i < xs.length
  · refine .inr ⟨⟨xs, xs[i], q, by simp [hlt]⟩, Pv (i + 1), fun σ' H' p' => ⟨xs.length - (i + 1), by omega, rfl, hlt, p'⟩, fun x H' y => ?_⟩
    obtain ⟨e, y⟩ := y
    subst e
    exact hs i x σ _ (y xs q) p
  · have e : i = xs.length := by omega
    subst e
    exact .inl ⟨⟨xs, q, Nat.le_refl _⟩, hd σ H p⟩
theorem for_range {lo : Int} {n : Nat} {g : TG} {tb : TS} {D : Ends} {σ : St} {H : Hp} (Pv : Nat → St → Hp → Prop) (h0 : Pv 0 σ H)
    (hs : ∀ i σ H, i < n → Pv i σ H → g (.int (lo + i)) σ H fun σ2 H2 => tb { D with nx := Pv (i + 1), ct := Pv (i + 1), bk := D.nx } σ2 H2) (hd : ∀ σ H, Pv n σ H → D.nx σ H) :
    ∃ W : Nat → Nat → St → Hp → Prop, (∃ m, W 0 m σ H) ∧ ∀ i m σ H, W i m σ H →
      ((Itr lo n).stop i H ∧ D.nx σ H) ∨ ((Itr lo n).go i H ∧ ∃ N : St → Hp → Prop, (∀ σ' H', N σ' H' → ∃ m', m' < m ∧ W (i + 1) m' σ' H') ∧ ∀ x H', (Itr lo n).yld i H x H' → g x σ H' fun σ2 H2 => tb { D with nx := N, ct := N, bk := D.nx } σ2 H2) := by
  refine ⟨fun i m σ H => m = n - i ∧ i ≤ n ∧ Pv i σ H, ⟨n, by simp, Nat.zero_le _, h0⟩, ?_⟩
  rintro i m σ H ⟨rfl, hi, p⟩
  by_cases hlt : i < n
  · refine .inr ⟨hlt, Pv (i + 1), fun σ' H' p' => ⟨n - (i + 1), by omega, rfl, hlt, p'⟩, fun x H' y => ?_⟩
    obtain ⟨e, y⟩ := y
    subst e y
    exact hs i σ _ hlt p
  · have e : i = n := by omega
    subst e
    exact .inl ⟨Nat.le_refl _, hd σ H p⟩
end L2
namespace L2
open PySem PySem.Spec PyProof.Rows
noncomputable abbrev R2 := V → V → Hp → VK → Prop
noncomputable def OpR (X : Cx) (f : Value → Value → Sem Value) (r : R2) : Prop :=
  ∀ (pins : List (Addr × Obj)) (s : Shared) (σ : St) (H : Hp) (x y : V) (v u : Value) (Q : VK), Inv X pins σ H s → RelV x v → RelV y u → r x y H Q →
    wpAny (model X.prog X.w) X.A (f v u) (EP X pins σ Q) X.xe s
noncomputable def UnR (X : Cx) (f : Value → Sem Value) (r : V → Hp → VK → Prop) : Prop :=
  ∀ (pins : List (Addr × Obj)) (s : Shared) (σ : St) (H : Hp) (x : V) (v : Value) (Q : VK), Inv X pins σ H s → RelV x v → r x H Q →
    wpAny (model X.prog X.w) X.A (f v) (EP X pins σ Q) X.xe s
noncomputable def CallR (X : Cx) (f : Value) (r : List V → Hp → VK → Prop) : Prop :=
  ∀ (pins : List (Addr × Obj)) (s : Shared) (σ : St) (H : Hp) (xs : List V) (us : List Value) (Q : VK), Inv X pins σ H s → Vals xs us → r xs H Q →
    wpAny (model X.prog X.w) X.A (call f us) (EP X pins σ Q) X.xe s
noncomputable def TruR (X : Cx) (r : V → Hp → (Bool → Hp → Prop) → Prop) : Prop :=
  ∀ (pins : List (Addr × Obj)) (s : Shared) (σ : St) (H : Hp) (x : V) (v : Value) (Q : Bool → Hp → Prop), Inv X pins σ H s → RelV x v → r x H Q →
    wpAny (model X.prog X.w) X.A (truthy v) (TP X pins σ Q) X.xe s
noncomputable def tOp (r : R2) (ta tb : TE) : TE := fun σ H Q => ta σ H fun x H1 => tb σ H1 fun y H2 => r x y H2 Q
noncomputable def tUn (r : V → Hp → VK → Prop) (ta : TE) : TE := fun σ H Q => ta σ H fun x H1 => r x H1 Q
noncomputable def rI (C : Int → Int → Prop) (g : Int → Int → V) : R2 := fun x y H Q => ∃ i j, x = .int i ∧ y = .int j ∧ C i j ∧ Q (g i j) H
noncomputable def rI0 (g : Int → Int → V) : R2 := fun x y H Q => ∃ i j, x = .int i ∧ y = .int j ∧ Q (g i j) H
noncomputable def rU (g : Int → V) : V → Hp → VK → Prop := fun x H Q => ∃ i, x = .int i ∧ Q (g i) H
section
variable {X : Cx} {a b c : Expr} {ta tb tc : TE} {pos : Pos}
theorem binT (ha : PE X a ta) (hb : PE X b tb) {pins : List (Addr × Obj)} {s : Shared} {σ : St} {H : Hp} {R : V → V → Hp → Prop} (I : Inv X pins σ H s)
    (h : ta σ H fun x H1 => tb σ H1 fun y H2 => R x y H2) {Q : Value → Shared → Prop} {f : Value → Value → Sem Value}
    (hf : ∀ v u s2 x y H2, Inv X pins σ H2 s2 → RelV x v → RelV y u → R x y H2 → wpAny (model X.prog X.w) X.A (f v u) Q X.xe s2) :
    wpAny (model X.prog X.w) X.A (eval a X.env) (fun v s₁ => wpAny (model X.prog X.w) X.A (eval b X.env) (fun u s₂ => wpAny (model X.prog X.w) X.A (f v u) Q X.xe s₂) X.xe s₁) X.xe s := by
  refine thn (ha pins s σ H _ I h) fun v s1 hq__ => ?_
  obtain ⟨x, H1, I1, r1, q1⟩ := hq__
  refine thn (hb pins s1 σ H1 _ I1 q1) fun u s2 hq__ => ?_
  obtain ⟨y, H2, I2, r2, q2⟩ := hq__
  exact hf v u s2 x y H2 I2 r1 r2 q2
theorem pe_op {op : Operator} {r : R2} (ho : OpR X (binaryOp op) r) (ha : PE X a ta) (hb : PE X b tb) : PE X (.BinOp a op b pos) (tOp r ta tb) := by
  intro pins s σ H Q I h
  exact wpAny_BinOp (binT ha hb I h fun v u s2 x y H2 I2 rx ry q => ho pins s2 σ H2 x y v u Q I2 rx ry q)
theorem pe_un {op : UnaryOp} {r : V → Hp → VK → Prop} (ho : UnR X (unaryOp op) r) (ha : PE X a ta) : PE X (.UnaryOp op a pos) (tUn r ta) := by
  intro pins s σ H Q I h
  exact UnaryOp_ (thn (ha pins s σ H _ I h) fun v s1 ⟨x, H1, I1, r1, q1⟩ => ho pins s1 σ H1 x v Q I1 r1 q1)
theorem opI {f : Value → Value → Sem Value} {C : Int → Int → Prop} {g : Int → Int → Int}
    (rule : ∀ (i j : Int) (t u : Tok) (s : Shared) (Q : Value → Shared → Prop) (E : Value → Shared → Prop), C i j → Q (.int (g i j) s.toks) { s with toks := s.toks + 1 } → wpAny (model X.prog X.w) X.A (f (.int i t) (.int j u)) Q E s) :
    OpR X f (rI C fun i j => .int (g i j)) := by
  intro pins s σ H x y v u Q I rx ry h
  obtain ⟨i, j, rfl, rfl, hc, q⟩ := h
  obtain ⟨t, rfl⟩ := rx
  obtain ⟨t', rfl⟩ := ry
  exact rule i j t t' s _ _ hc ⟨.int (g i j), H, I.tok _, ⟨_, rfl⟩, q⟩
theorem opI0 {f : Value → Value → Sem Value} {g : Int → Int → Int}
    (rule : ∀ (i j : Int) (t u : Tok) (s : Shared) (Q : Value → Shared → Prop) (E : Value → Shared → Prop), Q (.int (g i j) s.toks) { s with toks := s.toks + 1 } → wpAny (model X.prog X.w) X.A (f (.int i t) (.int j u)) Q E s) :
    OpR X f (rI0 fun i j => .int (g i j)) := by
  intro pins s σ H x y v u Q I rx ry h
  obtain ⟨i, j, rfl, rfl, q⟩ := h
  obtain ⟨t, rfl⟩ := rx
  obtain ⟨t', rfl⟩ := ry
  exact rule i j t t' s _ _ ⟨.int (g i j), H, I.tok _, ⟨_, rfl⟩, q⟩
theorem opB0 {f : Value → Value → Sem Value} {g : Int → Int → Bool}
    (rule : ∀ (i j : Int) (t u : Tok) (s : Shared) (Q : Value → Shared → Prop) (E : Value → Shared → Prop), Q (.bool (g i j)) s → wpAny (model X.prog X.w) X.A (f (.int i t) (.int j u)) Q E s) :
    OpR X f (rI0 fun i j => .bl (g i j)) := by
  intro pins s σ H x y v u Q I rx ry h
  obtain ⟨i, j, rfl, rfl, q⟩ := h
  obtain ⟨t, rfl⟩ := rx
  obtain ⟨t', rfl⟩ := ry
  exact rule i j t t' s _ _ ⟨.bl (g i j), H, I, rfl, q⟩
noncomputable def CDiv (i j : Int) : Prop := 0 < j ∧ j < 1073741824
noncomputable def CPow (i j : Int) : Prop := 0 ≤ j ∧ j ≤ 1000000 ∧ i.natAbs < 2 ^ 64
noncomputable def CMul (i j : Int) : Prop := (-(2 ^ 64) < i ∧ i < 2 ^ 64) ∨ (-(2 ^ 64) < j ∧ j < 2 ^ 64)
theorem CMul.ok {i j : Int} (h : CMul i j) : IntMulOk i j := by
  rcases h with ⟨h1, h2⟩ | ⟨h1, h2⟩
  · exact .of_left (intBits_le_64 h1 h2)
  · exact .of_right (intBits_le_64 h1 h2)
theorem op_add : OpR X (binaryOp .Add) (rI0 fun i j => .int (i + j)) := opI0 fun _ _ _ _ _ _ _ q => add_int q
theorem op_sub : OpR X (binaryOp .Sub) (rI0 fun i j => .int (i - j)) := opI0 fun _ _ _ _ _ _ _ q => sub_int q
theorem op_mul : OpR X (binaryOp .Mult) (rI CMul fun i j => .int (i * j)) := opI fun _ _ _ _ _ _ _ hc q => mul_int q hc.ok
theorem op_fdiv : OpR X (binaryOp .FloorDiv) (rI CDiv fun i j => .int (i / j)) := opI fun i j _ _ _ _ _ hc q => by
  have h1 : (0 : Int) < j := hc.1
  have h2 : j < 1073741824 := hc.2
  exact floordiv_int (by omega) (by rw [Int.fdiv_eq_ediv_of_nonneg i (by omega)]; exact q) (.inl (PyProof.noPylong_small (by omega)))
theorem op_mod : OpR X (binaryOp .Mod) (rI (fun _ j => 0 < j) fun i j => .int (i % j)) := opI fun i j _ _ _ _ _ hc q => by
  have h1 : (0 : Int) < j := hc
  exact mod_int' (by omega) (by rw [Int.fmod_eq_emod_of_nonneg i (by omega)]; exact q)
theorem op_pow : OpR X (binaryOp .Pow) (rI CPow fun i j => .int (i ^ j.toNat)) := opI fun _ _ _ _ _ _ _ hc q => pow_int_small hc.1 hc.2.1 hc.2.2 q
theorem unI {f : Value → Sem Value} {g : Int → Int}
    (rule : ∀ (i : Int) (t : Tok) (s : Shared) (Q : Value → Shared → Prop) (E : Value → Shared → Prop), Q (.int (g i) s.toks) { s with toks := s.toks + 1 } → wpAny (model X.prog X.w) X.A (f (.int i t)) Q E s) :
    UnR X f (rU fun i => .int (g i)) := by
  intro pins s σ H x v Q I rx h
  obtain ⟨i, rfl, q⟩ := h
  obtain ⟨t, rfl⟩ := rx
  exact rule i t s _ _ ⟨.int (g i), H, I.tok _, ⟨_, rfl⟩, q⟩
theorem un_neg : UnR X (unaryOp .USub) (rU fun i => .int (-i)) := unI fun _ _ _ _ _ q => neg_int q
end
noncomputable def scal : V → V → Bool
  | .non, .non => true | .non, .int _ => true | .int _, .non => true | .non, .bl _ => true | .bl _, .non => true | .non, .str _ => true | .str _, .non => true
  | .int _, .int _ => true | .bl _, .bl _ => true | .str _, .str _ => true | .byt _, .byt _ => true
  | .int _, .str _ => true | .str _, .int _ => true | .bl _, .str _ => true | .str _, .bl _ => true
  | _, _ => false
noncomputable def rEq : R2 := fun x y H Q => scal x y = true ∧ Q (.bl (decide (x = y))) H
noncomputable def rNe : R2 := fun x y H Q => scal x y = true ∧ Q (.bl (!decide (x = y))) H
theorem dec_int {i j : Int} : decide (V.int i = V.int j) = (i == j) := by
  rw [Bool.eq_iff_iff]
  simp
theorem dec_bl {i j : Bool} : decide (V.bl i = V.bl j) = (i == j) := by
  rw [Bool.eq_iff_iff]
  simp
theorem dec_str {i j : Str} : decide (V.str i = V.str j) = (i == j) := by
  rw [Bool.eq_iff_iff]
  simp
theorem dec_byt {i j : Array UInt8} : decide (V.byt i = V.byt j) = (i.toList == j.toList) := by
  rw [Bool.eq_iff_iff]
  cases i
  cases j
  simp
section
variable {X : Cx} {a b c : Expr} {ta tb tc : TE} {pos : Pos}
theorem fin_bl {pins : List (Addr × Obj)} {σ : St} {H : Hp} {s : Shared} {Q : VK} {k k' : Bool} (I : Inv X pins σ H s) (q : Q (.bl k) H) (e : k = k') : EP X pins σ Q (.bool k') s := by
  subst e
  exact ⟨.bl k, H, I, rfl, q⟩
theorem op_eq : OpR X (compareOp .Eq) rEq := by
  intro pins s σ H x y v u Q I rx ry h
  obtain ⟨hs, q⟩ := h
  cases x with
  | non =>
    cases rx
    cases y with
    | non => cases ry; exact PySem.EqNone.eq_none_none (fin_bl I q (by simp))
    | bl j => cases ry; exact PySem.EqNone.eq_none_bool (fin_bl I q (by simp))
    | int j => obtain ⟨t', rfl⟩ := ry; exact PySem.EqNone.eq_none_int (fin_bl I q (by simp))
    | str j => obtain ⟨t', rfl⟩ := ry; exact PySem.EqNone.eq_none_str (fin_bl I q (by simp))
    | _ => exact absurd (show false = true from hs) Bool.false_ne_true
  | bl i =>
    cases rx
    cases y with
    | non => cases ry; exact PySem.EqNone.eq_bool_none (fin_bl I q (by simp))
    | bl j => cases ry; exact eq_bool (fin_bl I q dec_bl)
    | str j => obtain ⟨t', rfl⟩ := ry; exact PySem.EqMixed.eq_bool_str (fin_bl I q (by simp))
    | _ => exact absurd (show false = true from hs) Bool.false_ne_true
  | int i =>
    obtain ⟨t, rfl⟩ := rx
    cases y with
    | non => cases ry; exact PySem.EqNone.eq_int_none (fin_bl I q (by simp))
    | int j => obtain ⟨t', rfl⟩ := ry; exact eq_int (fin_bl I q dec_int)
    | str j => obtain ⟨t', rfl⟩ := ry; exact PySem.EqMixed.eq_int_str (fin_bl I q (by simp))
    | _ => exact absurd (show false = true from hs) Bool.false_ne_true
  | str i =>
    obtain ⟨t, rfl⟩ := rx
    cases y with
    | non => cases ry; exact PySem.EqNone.eq_str_none (fin_bl I q (by simp))
    | bl j => cases ry; exact PySem.EqMixed.eq_str_bool (fin_bl I q (by simp))
    | int j => obtain ⟨t', rfl⟩ := ry; exact PySem.EqMixed.eq_str_int (fin_bl I q (by simp))
    | str j => obtain ⟨t', rfl⟩ := ry; exact eq_str (fin_bl I q dec_str)
    | _ => exact absurd (show false = true from hs) Bool.false_ne_true
  | byt i =>
    obtain ⟨t, rfl⟩ := rx
    cases y with
    | byt j => obtain ⟨t', rfl⟩ := ry; exact PySem.W.eq_bytes (fin_bl I q dec_byt)
    | _ => exact absurd (show false = true from hs) Bool.false_ne_true
  | _ => cases y <;> exact absurd (show false = true from hs) Bool.false_ne_true
theorem op_ne : OpR X (compareOp .NotEq) rNe := by
  intro pins s σ H x y v u Q I rx ry h
  obtain ⟨hs, q⟩ := h
  cases x with
  | non =>
    cases rx
    cases y with
    | non => cases ry; exact PySem.EqNone.ne_none_none (fin_bl I q (by simp))
    | bl j => cases ry; exact PySem.EqNone.ne_none_bool (fin_bl I q (by simp))
    | int j => obtain ⟨t', rfl⟩ := ry; exact PySem.EqNone.ne_none_int (fin_bl I q (by simp))
    | str j => obtain ⟨t', rfl⟩ := ry; exact PySem.EqNone.ne_none_str (fin_bl I q (by simp))
    | _ => exact absurd (show false = true from hs) Bool.false_ne_true
  | bl i =>
    cases rx
    cases y with
    | non => cases ry; exact PySem.EqNone.ne_bool_none (fin_bl I q (by simp))
    | bl j => cases ry; exact ne_bool (fin_bl I q (congrArg not dec_bl))
    | str j => obtain ⟨t', rfl⟩ := ry; exact PySem.EqMixed.ne_bool_str (fin_bl I q (by simp))
    | _ => exact absurd (show false = true from hs) Bool.false_ne_true
  | int i =>
    obtain ⟨t, rfl⟩ := rx
    cases y with
    | non => cases ry; exact PySem.EqNone.ne_int_none (fin_bl I q (by simp))
    | int j => obtain ⟨t', rfl⟩ := ry; exact ne_int (fin_bl I q (congrArg not dec_int))
    | str j => obtain ⟨t', rfl⟩ := ry; exact PySem.EqMixed.ne_int_str (fin_bl I q (by simp))
    | _ => exact absurd (show false = true from hs) Bool.false_ne_true
  | str i =>
    obtain ⟨t, rfl⟩ := rx
    cases y with
    | non => cases ry; exact PySem.EqNone.ne_str_none (fin_bl I q (by simp))
    | bl j => cases ry; exact PySem.EqMixed.ne_str_bool (fin_bl I q (by simp))
    | int j => obtain ⟨t', rfl⟩ := ry; exact PySem.EqMixed.ne_str_int (fin_bl I q (by simp))
    | str j => obtain ⟨t', rfl⟩ := ry; exact ne_str (fin_bl I q (congrArg not dec_str))
    | _ => exact absurd (show false = true from hs) Bool.false_ne_true
  | byt i =>
    obtain ⟨t, rfl⟩ := rx
    cases y with
    | byt j => obtain ⟨t', rfl⟩ := ry; exact PySem.W.ne_bytes (fin_bl I q (congrArg not dec_byt))
    | _ => exact absurd (show false = true from hs) Bool.false_ne_true
  | _ => cases y <;> exact absurd (show false = true from hs) Bool.false_ne_true
theorem op_lt : OpR X (compareOp .Lt) (rI0 fun i j => .bl (decide (i < j))) := opB0 fun _ _ _ _ _ _ _ q => lt_int q
theorem op_le : OpR X (compareOp .LtE) (rI0 fun i j => .bl (decide (i ≤ j))) := opB0 fun _ _ _ _ _ _ _ q => le_int q
theorem op_gt : OpR X (compareOp .Gt) (rI0 fun i j => .bl (decide (j < i))) := opB0 fun _ _ _ _ _ _ _ q => gt_int q
theorem op_isN : OpR X (compareOp .Is) (fun x y H Q => y = .non ∧ Q (.bl (decide (x = .non))) H) := by
  intro pins s σ H x y v u Q I rx ry h
  obtain ⟨rfl, q⟩ := h
  cases ry
  refine is_none_gen (fin_bl I q ?_)
  cases x <;> first
    | (cases rx; rfl)
    | (obtain ⟨t, rfl⟩ := rx; rfl)
theorem op_notN : OpR X (compareOp .IsNot) (fun x y H Q => y = .non ∧ Q (.bl (!decide (x = .non))) H) := by
  intro pins s σ H x y v u Q I rx ry h
  obtain ⟨rfl, q⟩ := h
  cases ry
  refine isnot_none_gen (fin_bl I q ?_)
  cases x <;> first
    | (cases rx; rfl)
    | (obtain ⟨t, rfl⟩ := rx; rfl)
theorem nomark (b : Expr) {op : CmpOp} (h : op ≠ .In := by decide) (h2 : op ≠ .NotIn := by decide) : behindInMarks op b = false := by
  have e1 : (op == CmpOp.In) = false := by cases op <;> first | rfl | exact absurd rfl h
  have e2 : (op == CmpOp.NotIn) = false := by cases op <;> first | rfl | exact absurd rfl h2
  cases b <;> simp [behindInMarks, e1, e2]
theorem pe_cmpR {op : CmpOp} {r : R2} (ho : OpR X (compareOp op) r) (ha : PE X a ta) (hb : PE X b tb) (hm : behindInMarks op b = false) : PE X (.Compare a [op] [b] pos) (tOp r ta tb) := by
  intro pins s σ H Q I h
  exact wpAny_Compare1 (binT ha hb I h fun v u s2 x y H2 I2 rx ry q => ho pins s2 σ H2 x y v u Q I2 rx ry q) hm
noncomputable def tTest (t : TE) : TT := fun σ H Q => t σ H fun x H' => ∃ k, x = .bl k ∧ Q k H'
theorem pt_cmpR {op : CmpOp} {r : R2} (ho : OpR X (compareOp op) r) (ha : PE X a ta) (hb : PE X b tb) (hm : behindInMarks op b = false) : PT X (.Compare a [op] [b] pos) (tTest (tOp r ta tb)) := by
  intro pins s σ H Q I h
  refine wpAny_isTrue_Compare1 (thn (ha pins s σ H _ I h) fun v s1 h1 => ?_) hm
  obtain ⟨x, H1, I1, r1, q1⟩ := h1
  refine thn (hb pins s1 σ H1 _ I1 q1) fun u s2 h2 => ?_
  obtain ⟨y, H2, I2, r2, q2⟩ := h2
  refine thn (ho pins s2 σ H2 x y v u _ I2 r1 r2 q2) fun c s3 h3 => ?_
  obtain ⟨z, H3, I3, r3, k, e, q3⟩ := h3
  subst e
  cases r3
  exact wpAny_truthy_bool ⟨H3, I3, q3⟩
noncomputable def tChain (r r' : R2) (ta tb tc : TE) : TE := fun σ H Q => ta σ H fun x H1 => tb σ H1 fun y H2 => r x y H2 fun z H3 => ∃ k, z = .bl k ∧
  (if k = true then tc σ H3 fun w' H4 => r' y w' H4 Q else Q (.bl false) H3)
theorem pe_chain {op op' : CmpOp} {r r' : R2} (ho : OpR X (compareOp op) r) (ho' : OpR X (compareOp op') r') (ha : PE X a ta) (hb : PE X b tb) (hc : PE X c tc)
    (hm : lastMarks [op, op'] [b, c] = false := by with_unfolding_all rfl) : PE X (.Compare a [op, op'] [b, c] pos) (tChain r r' ta tb tc) := by
  intro pins s σ H Q I h
  refine Compare_chain (thn (ha pins s σ H _ I h) fun v s1 h1 => ?_) hm
  obtain ⟨x, H1, I1, r1, q1⟩ := h1
  refine chain_link (thn (hb pins s1 σ H1 _ I1 q1) fun u s2 h2 => ?_)
  obtain ⟨y, H2, I2, r2, q2⟩ := h2
  refine thn (ho pins s2 σ H2 x y v u _ I2 r1 r2 q2) fun d s3 h3 => ?_
  obtain ⟨z, H3, I3, r3, k, e, q3⟩ := h3
  subst e
  cases r3
  refine wpAny_truthy_bool ?_
  cases k with
  | false => exact ite_ff ⟨.bl false, H3, I3, rfl, q3⟩
  | true =>
    refine ite_tt (chain_last (thn (hc pins s3 σ H3 _ I3 q3) fun w' s4 h4 => ?_))
    obtain ⟨z', H4, I4, r4, q4⟩ := h4
    exact ho' pins s4 σ H4 y z' u w' Q I4 r2 r4 q4
noncomputable def TruV (K : PySem.W.Frag) (x : V) (H : Hp) (k : Bool) : Prop :=
  match x with
  | .non => k = false
  | .bl b => k = b
  | .int i => k = (i != 0)
  | .str y => y.length ≤ sizeLine ∧ k = ((y.length : Int) != 0)
  | .byt y => y.size ≤ sizeLine ∧ k = ((y.size : Int) != 0)
  | .ref p => (∃ xs, SqL K H p xs ∧ k = !xs.isEmpty) ∨ (∃ xs, SqT K H p xs ∧ k = !xs.isEmpty) ∨ ∃ kvs, H p = some (.dK kvs) ∧ k = !kvs.isEmpty
  | _ => False
theorem isEmpty_kv {κ : Type} {kvs : List (κ × V)} {vs : List (κ × Value)} (r : KV kvs vs) : (!vs.isEmpty) = !kvs.isEmpty := by
  cases r <;> rfl
theorem isEmpty_of {xs : List V} {its : List Value} (r : Vals xs its) : (!its.toArray.isEmpty) = !xs.isEmpty := by
  cases r <;> simp
theorem line63 : (sizeLine : Nat) < 2 ^ 63 := by rw [sizeLine_eq]; decide
theorem tru_ok : TruR X (fun x H Q => ∃ k, TruV X.K x H k ∧ Q k H) := by
  intro pins s σ H x v Q I rx h
  obtain ⟨k, e, q⟩ := h
  have hl := line63
  have hs : sizeLine = 16777216 := sizeLine_eq
  cases x with
  | non =>
    cases rx
    have e' : k = false := e
    subst e'
    exact truthy_none ⟨H, I, q⟩
  | bl b =>
    cases rx
    have e' : k = b := e
    subst e'
    exact wpAny_truthy_bool ⟨H, I, q⟩
  | int i =>
    obtain ⟨t, rfl⟩ := rx
    have e' : k = (i != 0) := e
    subst e'
    exact PySem.P.truthy_int ⟨H, I, q⟩
  | str y =>
    obtain ⟨t, rfl⟩ := rx
    obtain ⟨hy, e'⟩ : y.length ≤ sizeLine ∧ k = ((y.length : Int) != 0) := e
    subst e'
    exact PySem.P.truthy_str (by omega) ⟨H, I.tok _, q⟩
  | byt y =>
    obtain ⟨t, rfl⟩ := rx
    obtain ⟨hy, e'⟩ : y.size ≤ sizeLine ∧ k = ((y.size : Int) != 0) := e
    subst e'
    exact PySem.W.truthy_bytes (by omega) ⟨H, I.tok _, q⟩
  | ref p =>
    cases rx
    have e' : (∃ xs, SqL X.K H p xs ∧ k = !xs.isEmpty) ∨ (∃ xs, SqT X.K H p xs ∧ k = !xs.isEmpty) ∨ ∃ kvs, H p = some (.dK kvs) ∧ k = !kvs.isEmpty := e
    rcases e' with ⟨xs, hx, e'⟩ | ⟨xs, hx, e'⟩ | ⟨kvs, hx, e'⟩
    · subst e'
      obtain ⟨its, r, pl, hz⟩ := I.list hx
      have hlen := r.length
      exact wpAny_truthy_list pl.isList (by simp only [List.size_toArray]; omega) ⟨H, I.tok _, by rw [isEmpty_of r]; exact q⟩
    · subst e'
      obtain ⟨its, r, pl, hz⟩ := I.tuple hx
      have hlen := r.length
      exact truthy_tuple pl (by simp only [List.size_toArray]; omega) ⟨H, I.tok _, by rw [isEmpty_of r]; exact q⟩
    · subst e'
      obtain ⟨hz, hS, vs, r, m⟩ : kvs.length ≤ sizeLine ∧ (p == sysModules) = false ∧ ∃ vs, KV kvs vs ∧ s.heap.DictOf (mixKind X.prog X.w) p vs := I.hok p _ hx
      have hlen : kvs.length = vs.length := Paired.length r
      exact wpAny_truthy_dict hS m (by omega) ⟨H, I.tok _, by rw [isEmpty_kv r]; exact q⟩
  | _ => exact (show False from e).elim
theorem vals1 {x : V} {us : List Value} (r : Vals [x] us) : ∃ u, us = [u] ∧ RelV x u := by
  cases r with
  | cons r1 r2 => cases r2; exact ⟨_, rfl, r1⟩
theorem vals2 {x y : V} {us : List Value} (r : Vals [x, y] us) : ∃ u w', us = [u, w'] ∧ RelV x u ∧ RelV y w' := by
  cases r with
  | cons r1 r2 =>
    cases r2 with
    | cons r3 r4 => cases r4; exact ⟨_, _, rfl, r1, r3⟩
noncomputable def LenV (K : PySem.W.Frag) (x : V) (H : Hp) (n : Nat) : Prop :=
  match x with
  | .str y => y.length ≤ sizeLine ∧ n = y.length
  | .byt y => y.size ≤ sizeLine ∧ n = y.size
  | .ref p => (∃ xs, SqL K H p xs ∧ n = xs.length) ∨ ∃ xs, SqT K H p xs ∧ n = xs.length
  | _ => False
theorem call_len : CallR X (.builtin "len") (fun xs H Q => ∃ x n, xs = [x] ∧ LenV X.K x H n ∧ Q (.int n) H) := by
  intro pins s σ H xs us Q I r h
  obtain ⟨x, n, rfl, e, q⟩ := h
  obtain ⟨u, rfl, rx⟩ := vals1 r
  have hl := line63
  have hs : sizeLine = 16777216 := sizeLine_eq
  cases x with
  | str y =>
    obtain ⟨t, rfl⟩ := rx
    obtain ⟨hy, e'⟩ : y.length ≤ sizeLine ∧ n = y.length := e
    subst e'
    exact len_str (by omega) ⟨.int _, H, I.tok _, ⟨_, rfl⟩, q⟩
  | byt y =>
    obtain ⟨t, rfl⟩ := rx
    obtain ⟨hy, e'⟩ : y.size ≤ sizeLine ∧ n = y.size := e
    subst e'
    exact PySem.W.len_bytes (by omega) ⟨.int _, H, I.tok _, ⟨_, rfl⟩, q⟩
  | ref p =>
    cases rx
    have e' : (∃ xs, SqL X.K H p xs ∧ n = xs.length) ∨ ∃ xs, SqT X.K H p xs ∧ n = xs.length := e
    rcases e' with ⟨xs, hx, e'⟩ | ⟨xs, hx, e'⟩
    · subst e'
      obtain ⟨its, r', pl, hz⟩ := I.list hx
      have hlen := r'.length
      exact Calls.call_len_list pl.isList (by simp only [List.size_toArray]; omega) ⟨.int xs.length, H, I.tok _, ⟨_, by simp only [List.size_toArray]; rw [hlen]⟩, q⟩
    · subst e'
      obtain ⟨its, r', pl, hz⟩ := I.tuple hx
      have hlen := r'.length
      exact len_tuple pl (by simp only [List.size_toArray]; omega) ⟨.int xs.length, H, I.tok _, ⟨_, by simp only [List.size_toArray]; rw [hlen]⟩, q⟩
  | _ => exact (show False from e).elim
end
end L2
namespace L2
open PySem PySem.Spec PyProof.Rows
structure ObjM (h : Heap) (x dx C : Addr) (mA : Str → Option Value) : Prop where
  obj : h.get? x = some (PySem.W.instObj C dx)
  ns : h.Ns1 dx mA
  ne : dx ≠ x
theorem lookIn_ns {h : Heap} {dx : Addr} {mA : Str → Option Value} (n : h.Ns1 dx mA) : ∃ od, h.get? dx = some od ∧ ∀ name, PySem.W.lookIn name od = some (mA name) := by
  obtain ⟨o, es, ep, ho, hd, hk, _, hm⟩ := n
  refine ⟨o, ho, fun name => ?_⟩
  have e := hm name
  unfold nsFind findBy at e
  rw [← Array.find?_toList] at e
  unfold PySem.W.lookIn
  rw [hd]
  dsimp only
  split
  · rename_i y q
    rw [q] at e
    exact congrArg some e
  · rename_i q
    rw [q] at e
    have a : es.toList.any (·.refKey) = false := by
      rw [List.any_eq_false]
      intro y hy
      obtain ⟨z, t, hkey⟩ := hk y (Array.mem_toList_iff.mp hy)
      simp [DictEntry.refKey, hkey]
    have a' : ¬ es.toList.any (·.refKey) = true := by rw [a]; exact Bool.false_ne_true
    rw [if_neg a']
    exact congrArg some e
theorem ObjM.look {h : Heap} {x dx C : Addr} {mA : Str → Option Value} (I : ObjM h x dx C mA) : ∃ od, PySem.W.InstAt h x (PySem.W.instObj C dx) C (some od) ∧ ∀ name, PySem.W.lookIn name od = some (mA name) :=
  let ⟨od, ho, hl⟩ := lookIn_ns I.ns
  ⟨od, ⟨I.obj, rfl, rfl, ho⟩, hl⟩
section
variable {prog : Program} {w : World} {A : Around} {E : Value → Shared → Prop} {s : Shared} {K : PySem.W.Frag} {x dx C f : Addr} {mA : Str → Option Value} {name : Str} {v : Value}
end
theorem RelO.some_of {v : V} {o : Option Value} (r : RelO (some v) o) : ∃ u, o = some u ∧ RelV v u := by
  cases o with
  | none => exact (show False from r).elim
  | some u => exact ⟨u, rfl, r⟩
section
variable {P : Program} {w : World} {H H' : Hp} {h h' : Heap} {a C dx : Addr} {fs fs' : List (Str × V)}
theorem ins_get (hok : HOk P w H h) (e : H a = some (.ins C dx fs)) : ∃ mA, ObjM h a dx C mA ∧ (∀ f, RelO (fs.lookup f) (mA f)) ∧ PySem.Within mA (fs.map (·.1)) ∧ fs.length ≤ 1000 ∧ H dx = some (.own a) := by
  obtain ⟨d, z, ne, ob, mA, n, r, q⟩ := (show ObjOk P w H h a (.ins C dx fs) from hok a _ e)
  exact ⟨mA, ⟨ob, n, ne⟩, r, q, z, d⟩
end
structure Cls (K : PySem.W.Frag) (C : Addr) : Prop where
  pg : PySem.W.plainGet K C Str.empty = true
  hd : PySem.W.hasDictIn K C = true
  po : PySem.W.plainOver K C = true
  sa : PySem.W.findIn K (.ref C) "__setattr__" = some (some (.builtin "object.__setattr__"))
theorem Cls.get {K : PySem.W.Frag} {C : Addr} (c : Cls K C) (f : Str) : PySem.W.plainGet K C f = true := c.pg
section
variable {X : Cx} {pins : List (Addr × Obj)} {σ : St} {H : Hp} {s : Shared} {a C dx : Addr} {fs : List (Str × V)} {f : Str} {v : V} {A : Around} {E : Value → Shared → Prop}
end
noncomputable def InOp (X : Cx) (op : Operator) (rd : V → V → Hp → VK → Prop) : Prop :=
  ∀ (pins : List (Addr × Obj)) (s : Shared) (σ : St) (H : Hp) (x y : V) (u v : Value) (Q : VK), Inv X pins σ H s → RelV x u → RelV y v → rd x y H Q → wpAny (model X.prog X.w) X.A (inplaceOp op u v) (EP X pins σ Q) X.xe s
section
variable {X : Cx} {o e value : Expr} {f : Str} {pos pos' tpos : Pos} {ta tv : TE}
noncomputable def rAdd : V → V → Hp → VK → Prop := fun x y H Q => ∃ i j, x = .int i ∧ y = .int j ∧ Q (.int (i + j)) H
theorem in_add : InOp X .Add rAdd := by
  rintro pins s σ H x y u v Q I rx ry ⟨i, j, rfl, rfl, q⟩
  obtain ⟨t, rfl⟩ := (show ∃ t, u = Value.int i t from rx)
  obtain ⟨t', rfl⟩ := (show ∃ t', v = Value.int j t' from ry)
  exact PyProof.Rows.iadd_int ⟨.int (i + j), H, I.tok _, ⟨_, rfl⟩, q⟩
end
section
variable {X : Cx} {pins : List (Addr × Obj)} {σ : St} {H : Hp} {s : Shared} {A : Around} {E : Value → Shared → Prop} {Q : Value → Shared → Prop} {c : Value} {b : Bool}
inductive TyOf (K : PySem.W.Frag) (H : Hp) : V → Value → Prop where
  | non : TyOf K H .non (.type "NoneType")
  | bl (x : Bool) : TyOf K H (.bl x) (.type "bool")
  | int (i : Int) : TyOf K H (.int i) (.type "int")
  | str (x : Str) : TyOf K H (.str x) (.type "str")
  | flt (x : UInt64) : TyOf K H (.flt x) (.type "float")
  | lst {a : Addr} {xs : List V} (e : H a = some (.lst xs)) : TyOf K H (.ref a) (.type "list")
  | frz {a : Addr} {o : Obj} {xs : List V} (e : H a = some (.frz o (.lst xs))) : TyOf K H (.ref a) (.type "list")
  | tup {a : Addr} {xs : List V} (e : H a = some (.tup xs)) : TyOf K H (.ref a) (.type "tuple")
  | dK {a : Addr} {kvs : List (Key × V)} (e : H a = some (.dK kvs)) : TyOf K H (.ref a) (.type "dict")
  | dT {a : Addr} {kvs : List (List Key × V)} (e : H a = some (.dT kvs)) : TyOf K H (.ref a) (.type "dict")
  | ins {a C dx : Addr} {fs : List (Str × V)} (e : H a = some (.ins C dx fs)) (cl : Cls K C) (ha : PySem.W.findIn K (.ref C) "__class__" = some (some (.builtin "object.__class__")))
      (hn : PySem.W.specialIn K (.builtin "object.__class__") "__get__" = some (some (.builtin "getset_descriptor.__get__"))) (htk : PySem.W.takesIn K (.builtin "object.__class__") = some true)
      (hm : PySem.W.mroIn K C (.type "object") = some true) : TyOf K H (.ref a) (.ref C)
theorem isinst_ok {x : V} {u t : Value} (I : Inv X pins σ H s) (rx : RelV x u) (ty : TyOf X.K H x t) (e : PySem.W.kitOne X.K t c = some b) (h : ∀ tk, Q (.bool b) { s with toks := tk }) :
    wpAny (model X.prog X.w) A (call (.builtin "isinstance") [u, c]) Q E s := by
  cases ty with
  | non => cases (show u = Value.none from rx); exact PySem.W.kia_one PySem.W.kitx_none I.kIn True.intro e (fun z => nomatch z) h
  | bl y => cases (show u = Value.bool y from rx); exact PySem.W.kia_one PySem.W.kitx_bool I.kIn True.intro e (fun z => nomatch z) h
  | int i => obtain ⟨t, q⟩ := (show ∃ t, u = Value.int i t from rx); cases q; exact PySem.W.kia_one PySem.W.kitx_int I.kIn True.intro e (fun z => nomatch z) h
  | str y => obtain ⟨t, q⟩ := (show ∃ t, u = Value.str y t from rx); cases q; exact PySem.W.kia_one PySem.W.kitx_str I.kIn True.intro e (fun z => nomatch z) h
  | flt y => obtain ⟨t, q⟩ := (show ∃ t, u = Value.float y t from rx); cases q; exact PySem.W.kia_one PySem.W.kitx_float I.kIn True.intro e (fun z => nomatch z) h
  | @lst a xs ea =>
    cases (show u = Value.ref a from rx)
    obtain ⟨_, _, n, _, h1⟩ := (show ObjOk X.prog X.w H s.heap a (.lst xs) from I.hok a _ ea)
    exact PySem.W.kia_one PySem.W.kitx_list I.kIn ⟨_, h1, rfl⟩ e (fun z => nomatch z) h
  | @frz a ob xs ea =>
    cases (show u = Value.ref a from rx)
    obtain ⟨_, _, _, n, _, h1⟩ := (show ObjOk X.prog X.w H s.heap a (.frz ob (.lst xs)) from I.hok a _ ea)
    exact PySem.W.kia_one PySem.W.kitx_list I.kIn ⟨_, h1, rfl⟩ e (fun z => nomatch z) h
  | @tup a xs ea =>
    cases (show u = Value.ref a from rx)
    obtain ⟨_, _, _, p⟩ := (show ObjOk X.prog X.w H s.heap a (.tup xs) from I.hok a _ ea)
    obtain ⟨o, h1, h2, _⟩ := p
    exact PySem.W.kia_one PySem.W.kitx_tuple I.kIn ⟨o, h1, h2⟩ e (fun z => nomatch z) h
  | @dK a kvs ea =>
    cases (show u = Value.ref a from rx)
    obtain ⟨_, _, vs, _, p⟩ := (show ObjOk X.prog X.w H s.heap a (.dK kvs) from I.hok a _ ea)
    obtain ⟨o, es, ep, h1, h2, _⟩ := p
    exact PySem.W.kia_one PySem.W.kitx_dict I.kIn ⟨o, h1, h2.1⟩ e (fun z => nomatch z) h
  | @dT a kvs ea =>
    cases (show u = Value.ref a from rx)
    obtain ⟨_, _, xs, _, o, es, ep, h1, h2, _⟩ := (show ObjOk X.prog X.w H s.heap a (.dT kvs) from I.hok a _ ea)
    exact PySem.W.kia_one PySem.W.kitx_dict I.kIn ⟨o, h1, h2.1⟩ e (fun z => nomatch z) h
  | @ins a C dx fs ea cl ha hn htk hm =>
    cases (show u = Value.ref a from rx)
    obtain ⟨mA, O, _⟩ := ins_get I.hok ea
    obtain ⟨od, J, _⟩ := O.look
    exact PySem.W.kia_one (PySem.W.kitx_own (cl.get _) cl.hd ha hn htk hm) I.kIn J e (fun z => nomatch z) h
end
end L2
namespace L2
open PySem PySem.Spec PyProof.Rows
structure Room (k : Nat) (A : Around) : Prop where
  hd : A.handled = none
  dp : A.depth + 3 * k + 5 < recursionLimit
  un : A.units + 16 * k + 200 < cLine
theorem Room.mono {j k : Nat} {A : Around} (r : Room k A) (h : j ≤ k) : Room j A := ⟨r.hd, by have := r.dp; omega, by have := r.un; omega⟩
theorem Room.deeper {k : Nat} {A : Around} (r : Room (k + 1) A) (env : Env) : Room k (A.deeper env) :=
  ⟨r.hd, by have := r.dp; show A.depth + 1 + 3 * k + 5 < _; omega, by have := r.un; show A.units + 3 + 16 * k + 200 < _; omega⟩
theorem Room.depth {k : Nat} {A : Around} (r : Room k A) : A.depth < recursionLimit := by have := r.dp; omega
theorem Room.units {k : Nat} {A : Around} (r : Room k A) : A.units + 64 < cLine := by have := r.un; omega
noncomputable def tNil : TA := fun _ H Q => Q [] H
noncomputable def tCons (ta : TE) (tr : TA) : TA := fun σ H Q => ta σ H fun x H1 => tr σ H1 fun xs H2 => Q (x :: xs) H2
section
variable {X : Cx} {e : Expr} {es : List Expr} {te : TE} {t : TA} {pos : Pos}
theorem pa_nil : PA X [] tNil := fun _ _ _ _ H Q I h => Calls.spliced_nil ⟨[], H, I, .nil, h⟩
theorem pa_cons (ha : PE X e te) (hr : PA X es t) (hs : starEach (e :: es) X.env = (false, eval e X.env) :: starEach es X.env := by rfl) : PA X (e :: es) (tCons te t) := by
  intro pos pins s σ H Q I h
  rw [hs]
  show wpAny _ _ (spliced ((false, eval e X.env) :: backTo pos (starEach es X.env))) _ _ s
  refine Calls.spliced_cons (thn (ha pins s σ H _ I h) fun u s1 hq__ => ?_)
  obtain ⟨x, H1, I1, r1, q1⟩ := hq__
  exact thn (hr pos pins s1 σ H1 _ I1 q1) fun us s2 ⟨xs, H2, I2, r2, q2⟩ => ⟨x :: xs, H2, I2, .cons r1 r2, q2⟩
noncomputable def tTup (t : TA) : TE := fun σ H Q => t σ H fun xs H1 => xs.length ≤ sizeLine ∧ ∀ p, H1 p = none → Q (.ref p) (upd H1 p (.tup xs))
noncomputable def tLst (t : TA) : TE := fun σ H Q => t σ H fun xs H1 => xs.length ≤ sizeLine ∧ ∀ p, H1 p = none → Q (.ref p) (upd H1 p (.lst xs))
theorem pe_tup {x1} (h : PA X es t) : PE X (.Tuple es x1 pos) (tTup t) := by
  intro pins s σ H Q I hq
  refine wpAny_Tuple_spliced (thn (h pos pins s σ H _ I hq) fun us s1 ⟨xs, H1, I1, r, z, q⟩ => ⟨by rw [← r.length]; exact z, ?_⟩)
  have hf : H1 s1.heap.objs.size = none := I1.hok.fresh (Nat.le_refl _)
  refine ⟨.ref s1.heap.objs.size, upd H1 s1.heap.objs.size (.tup xs), I1.laid (t' := s1.toks) (fun b u e => Heap.get?_push_of_some _ e) (Nat.le_refl _) ?_, rfl, q _ hf⟩
  exact ⟨z, us, r, ⟨_, Heap.get?_push_size _ rfl, rfl, _, rfl⟩⟩
theorem pe_lst (h : PA X es t) : PE X (.List es pos) (tLst t) := by
  intro pins s σ H Q I hq
  refine wpAny_List_spliced (thn (h pos pins s σ H _ I hq) fun us s1 ⟨xs, H1, I1, r, z, q⟩ => ⟨by rw [← r.length]; exact z, ?_⟩)
  have hf : H1 s1.heap.objs.size = none := I1.hok.fresh (Nat.le_refl _)
  refine ⟨.ref s1.heap.objs.size, upd H1 s1.heap.objs.size (.lst xs), I1.laid (t' := s1.toks) (fun b u e => Heap.get?_push_of_some _ e) (Nat.le_refl _) ?_, rfl, q _ hf⟩
  exact ⟨z, us, 0, r, Heap.get?_push_size _ rfl⟩
end
noncomputable abbrev Sp := List V → Hp → VK → XK → Prop
noncomputable abbrev CXT := List Env → Hp → Shared → XK → Value → Shared → Prop
structure Env0 (P : Program) (w : World) (K : PySem.W.Frag) (mg : Str → Option Value) (base : Heap) (A : Around) (outer : List Env) (s : Shared) (H : Hp) : Prop where
  frames : A.frames = some outer
  mod : Mod K mg base
  bs : ∀ b o, base.get? b = some o → s.heap.get? b = some o ∧ H b = none
  bsz : base.objs.size ≤ s.heap.objs.size
  funs : s.heap.FunFrames base outer
  frf : ∀ b ∈ frs outer, H b = none
  hok : HOk P w H s.heap
  bare : AllBare s.gens
noncomputable def CE (outer : List Env) (P : Program) (w : World) (H : Hp) (s : Shared) (Q : VK) (u : Value) (s' : Shared) : Prop :=
  ∃ v H', s'.os = s.os ∧ AllBare s'.gens ∧ Un (frs outer) [] H H' s.heap s'.heap ∧ HOk P w H' s'.heap ∧ RelV v u ∧ Q v H'
noncomputable def CR (CX : CXT) (outer : List Env) (P : Program) (w : World) (H : Hp) (s : Shared) (Q : VK) (E : XK) (r : Result) (s' : Shared) : Prop :=
  match r with
  | .ok (.ret u) => CE outer P w H s Q u s'
  | .ok _ => False
  | .error e => CX outer H s E e s'
structure FnOk (P : Program) (w : World) (K : PySem.W.Frag) (mg : Str → Option Value) (base : Heap) (CX : CXT) (k : Nat) (f : Addr) (fd : FuncData) (ps : List Str) (sp : Sp) : Prop where
  len : ∀ vs H Q E, sp vs H Q E → vs.length = ps.length
  run : ∀ (A : Around) (outer : List Env) (s : Shared) (H : Hp) (args : Args) (us : List Value) (vs : List V) (Q : VK) (E : XK), Room k A → Env0 P w K mg base A outer s H → BindsTo s fd args (ps.zip us) → Vals vs us → sp vs H Q E →
    codeAny (model P w) A (.call (.ref f) args) (CR CX outer P w H s Q E) s
theorem FnOk.imp {P : Program} {w : World} {K : PySem.W.Frag} {mg : Str → Option Value} {base : Heap} {CX : CXT} {k : Nat} {f : Addr} {fd : FuncData} {ps : List Str} {sp sp' : Sp} (F : FnOk P w K mg base CX k f fd ps sp)
    (h : ∀ vs H Q E, sp' vs H Q E → sp vs H Q E) : FnOk P w K mg base CX k f fd ps sp' :=
  ⟨fun vs H Q E q => F.len vs H Q E (h _ _ _ _ q), fun A outer s H args us vs Q E hr he hb hv hs => F.run A outer s H args us vs Q E hr he hb hv (h _ _ _ _ hs)⟩
section
variable {X : Cx} {pins : List (Addr × Obj)} {σ : St} {H : Hp} {s s' : Shared}
theorem Inv.env0 (I : Inv X pins σ H s) : Env0 X.prog X.w X.K X.mg X.base X.A X.stack s H :=
  ⟨I.ok.frames, I.ok.mod, I.bs, Nat.le_trans I.ok.bsz I.sz, I.stack, I.stkFree, I.hok, I.bare⟩
theorem Inv.after {Q : VK} {u : Value} (I : Inv X pins σ H s) (h : CE X.stack X.prog X.w H s Q u s') : EP X pins σ Q u s' := by
  obtain ⟨v, H', os, bare, un, hok, r, q⟩ := h
  obtain ⟨hh, g, d, t, os'⟩ := s'
  obtain rfl : os' = s.os := os
  exact ⟨v, H', I.call (h' := hh) (g' := g) (d' := d) (t' := t) (ch := []) un hok bare (fun b z => absurd z (by simp)), r, q⟩
end
noncomputable def tCall (sp : Sp) (dvs : List V) (E : XK) (t : TA) : TE := fun σ H Q => t σ H fun vs H1 => sp (vs ++ dvs) H1 Q E
noncomputable def Binds (K : PySem.W.Frag) (fd : FuncData) (ps : List Str) (ds : List Value) : Prop :=
  ∀ (s : Shared) (us : List Value), K.In s.heap → (us ++ ds).length = ps.length → BindsTo s fd ⟨us, []⟩ (ps.zip (us ++ ds))
theorem Binds.all {K : PySem.W.Frag} {fd : FuncData} {ps : List Str} (h : ∀ us : List Value, us.length = ps.length → bindArgs fd ⟨us, []⟩ = pure (ps.zip us)) : Binds K fd ps [] := fun s us _ hl => by
  rw [List.append_nil] at hl ⊢
  exact .of_eq (h us hl)
noncomputable def Passes (CX : CXT) (X : Cx) (E : XK) : Prop := ∀ (pins : List (Addr × Obj)) (σ : St) (H : Hp) (s : Shared) (e : Value) (s' : Shared), Inv X pins σ H s → CX X.stack H s E e s' → X.xe e s'
section
variable {X : Cx} {CX : CXT} {k : Nat} {f C : Addr} {fd : FuncData} {ps : List Str} {sp : Sp} {dvs : List V} {ds : List Value} {E : XK} {x m : Str} {p pos apos : Pos} {e o : Expr} {es : List Expr} {ta : TE} {t : TA}
theorem run_fn {pins : List (Addr × Obj)} {σ : St} {H : Hp} {s : Shared} {Q : VK} {us : List Value} {vs : List V} (F : FnOk X.prog X.w X.K X.mg X.base CX k f fd ps sp) (hr : Room k X.A) (hb : Binds X.K fd ps ds) (hd : Vals dvs ds) (hx : Passes CX X E)
    (I : Inv X pins σ H s) (r : Vals vs us) (h : sp (vs ++ dvs) H Q E) : wpAny (model X.prog X.w) X.A (call (.ref f) us) (EP X pins σ Q) X.xe s := by
  have r2 : Vals (vs ++ dvs) (us ++ ds) := r.append hd
  have hl : (us ++ ds).length = ps.length := by rw [← r2.length]; exact F.len _ _ _ _ h
  refine wpAny_call (codeAny_mono (F.run X.A X.stack s H ⟨us, []⟩ (us ++ ds) (vs ++ dvs) Q E hr I.env0 (hb s us I.kIn hl) r2 h) fun r s' hq => ?_)
  cases r with
  | error e => exact hx pins σ H s e s' I hq
  | ok fl =>
    cases fl with
    | ret u => exact I.after hq
    | next => exact False.elim hq
    | brk => exact False.elim hq
    | cont => exact False.elim hq
theorem pe_call (F : FnOk X.prog X.w X.K X.mg X.base CX k f fd ps sp) (hr : Room k X.A) (hg : Gl X x) (hm : X.mg x = some (.ref f)) (hk : PySem.W.keepIn X.K (.ref f) = true) (hb : Binds X.K fd ps ds) (hd : Vals dvs ds) (hx : Passes CX X E)
    (ha : PA X (e :: es) t) (hdb : (x == ("__debug__" : Str)) = false := by decide) (he : starEach (e :: es) X.env = (false, eval e X.env) :: starEach es X.env := by rfl) (hpl : (backTo pos (starEach es X.env)).any (·.1) = false := by rfl) :
    PE X (.Call (.Name x p) (e :: es) [] pos) (tCall sp dvs E t) := by
  intro pins s σ H Q I h
  refine wpAny_Call_Name_kw (ld_glob I hg hm ?_ hdb)
  refine PySem.W.callWith_K (h₀ := X.base) I.ok.mod.kin hk (thn (ha pos pins s σ H _ I h) fun us s1 ⟨vs, H1, I1, r, q⟩ => ⟨I1.kIn, ?_⟩) he hpl
  exact run_fn F hr hb hd hx I1 r q
end
section
variable {X : Cx} {CX : CXT} {k : Nat} {f C : Addr} {fd : FuncData} {ps ks : List Str} {sp : Sp} {E : XK} {x m : Str} {p pos apos kpos : Pos} {e o : Expr} {es : List Expr} {kws : List Keyword} {te ta : TE} {t tk : TA} {nm : Option Str}
variable {g : List Value → List Value → List Value} {gV : List V → List V → List V}
end
structure FnScope (N P : List Str) (sc : Scope) : Prop where
  kind : sc.kind = .function
  co : sc.isCoroutine = false
  gen : sc.isGenerator = false
  nd : N.Nodup
  pre : N.take P.length = P
  par : ∀ x ∈ P, sc.names.lookup x = some .local ∨ sc.names.lookup x = some .cell
  nofree : ∀ y ∈ sc.names, y.2 ≠ .free
theorem bindL_out {kindOf : Str → Option NameKind} {x : Str} : ∀ {binds : List (Str × Value)} {m : Str → Option Value}, (∀ v, (x, v) ∉ binds) → bindL kindOf binds m x = m x
  | [], _, _ => rfl
  | (n, v) :: r, m, h => by
    unfold bindL
    rw [bindL_out fun w hw => h w (List.mem_cons_of_mem _ hw)]
    split
    · have : x ≠ n := by rintro rfl; exact h v List.mem_cons_self
      simp [this]
    · rfl
theorem bindC_out {kindOf : Str → Option NameKind} {x : Str} : ∀ {binds : List (Str × Value)} {m : Str → Option Value}, (∀ v, (x, v) ∉ binds) → bindC kindOf binds m x = m x
  | [], _, _ => rfl
  | (n, v) :: r, m, h => by
    unfold bindC
    rw [bindC_out fun w hw => h w (List.mem_cons_of_mem _ hw)]
    split
    · rfl
    · have : x ≠ n := by rintro rfl; exact h v List.mem_cons_self
      simp [this]
theorem bindL_get {kindOf : Str → Option NameKind} {x : Str} {v : Value} : ∀ {P : List Str} {vs : List Value} {i : Nat} {m : Str → Option Value}, P.Nodup → P[i]? = some x → vs[i]? = some v → kindOf x = some .local →
    bindL kindOf (P.zip vs) m x = some v := by
  intro P
  induction P with
  | nil => intro vs i m _ h; cases h
  | cons p P ih =>
    intro vs i m nd h1 h2 hk
    cases vs with
    | nil => cases h2
    | cons w vs =>
      show bindL kindOf ((p, w) :: P.zip vs) m x = _
      unfold bindL
      cases i with
      | zero =>
        cases h1; cases h2
        rw [bindL_out fun v hv => (List.nodup_cons.mp nd).1 (List.of_mem_zip hv).1, if_pos hk]
        simp
      | succ i => exact ih (List.nodup_cons.mp nd).2 h1 h2 hk
theorem bindC_get {kindOf : Str → Option NameKind} {x : Str} {v : Value} : ∀ {P : List Str} {vs : List Value} {i : Nat} {m : Str → Option Value}, P.Nodup → P[i]? = some x → vs[i]? = some v → kindOf x ≠ some .local →
    bindC kindOf (P.zip vs) m x = some v := by
  intro P
  induction P with
  | nil => intro vs i m _ h; cases h
  | cons p P ih =>
    intro vs i m nd h1 h2 hk
    cases vs with
    | nil => cases h2
    | cons w vs =>
      show bindC kindOf ((p, w) :: P.zip vs) m x = _
      unfold bindC
      cases i with
      | zero =>
        cases h1; cases h2
        rw [bindC_out fun v hv => (List.nodup_cons.mp nd).1 (List.of_mem_zip hv).1, if_neg hk]
        simp
      | succ i => exact ih (List.nodup_cons.mp nd).2 h1 h2 hk
noncomputable def start (N : List Str) (vs : List V) : St := vs.map some ++ List.replicate (N.length - vs.length) none
noncomputable def cxOf (CX : CXT) (P : Program) (w : World) (K : PySem.W.Frag) (mg : Str → Option Value) (base : Heap) (N : List Str) (qual : Str) (scope : Scope) (f : Addr) (cd : Value) (A : Around) (outer : List Env) (s : Shared) (H : Hp) (E : XK) : Cx where
  prog := P
  w := w
  K := K
  mg := mg
  base := base
  A := A.deeper (envOfC qual scope s.heap.objs.size f cd)
  N := N
  s₀ := s
  H₀ := H
  env := envOfC qual scope s.heap.objs.size f cd
  outer := outer
  stack := envOfC qual scope s.heap.objs.size f cd :: outer
  ex := []
  calm := true
  fn := fun _ => true
  pn := []
  xe := fun e s' => wpAny (model P w) (A.deeper (envOfC qual scope s.heap.objs.size f cd)) (leaving (envOfC qual scope s.heap.objs.size f cd) e) (fun _ s'' => CX outer H s E e s'') (fun e' s'' => CX outer H s E e' s'') s'
theorem cell_has {sc : Scope} {n : Nat} {x : Str} (h : sc.names.lookup x = some .cell) : ∃ c, (cellsFrom n sc.names []).lookup x = some c := by
  have q := PySem.W.cellsFrom_some sc.names n [] (.inl h)
  exact Option.isSome_iff_exists.mp q
theorem inv_start {CX : CXT} {P : Program} {w : World} {K : PySem.W.Frag} {mg : Str → Option Value} {base : Heap} {N ps : List Str} {qual : Str} {scope : Scope} {f : Addr} {cd : Value} {A : Around} {outer : List Env} {s s1 : Shared} {H : Hp} {E : XK} {us : List Value} {vs : List V}
    (S : FnScope N ps scope) (hd : A.handled = none) (e0 : Env0 P w K mg base A outer s H) (hl : vs.length = ps.length) (r : Vals vs us)
    (x : InCallC s s.heap.objs.size (bindL (envOfC qual scope s.heap.objs.size f cd).kindOf (ps.zip us) fun _ => none) (cellsFrom (s.heap.objs.size + 1) scope.names []) (bindC (envOfC qual scope s.heap.objs.size f cd).kindOf (ps.zip us) fun _ => none) s1) :
    Inv (cxOf CX P w K mg base N qual scope f cd A outer s H E) [] (start N vs) H s1 := by
  have hpl : ps.length ≤ N.length := by have := congrArg List.length S.pre; rw [List.length_take] at this; omega
  obtain ⟨h1, tk, rfl, hk⟩ := x.done
  have noA : ∀ b : Addr, b ∉ (cxOf CX P w K mg base N qual scope f cd A outer s H E).ex := fun b z => absurd (show b ∈ ([] : List Addr) from z) (by simp)
  refine ⟨⟨e0.mod, S.kind, rfl, rfl, Nat.le_refl _, fun y z c h1 h2 => ?_, fun y hy => ?_, fun y c _ h => ?_, fun _ => hd, Around.frames_deeper e0.frames, .inr ⟨rfl, rfl⟩, fun b z => absurd z (noA b), e0.bs, e0.bsz, fun b _ _ => noA b, fun b z => absurd z (noA b), e0.funs, e0.frf⟩,
    rfl, e0.bare, Un.kept hk, ⟨_, x.toInCall.ns, fun i y v h1 h2 h3 => ?_⟩, fun y c h => ⟨_, x.cell y c h⟩, e0.hok.fresh (Nat.le_refl _), fun y c h => ?_, fun p hp => absurd (show p ∈ ([] : List (Addr × Obj)) from hp) (by simp), e0.hok.kept hk, ?_⟩
  · exact name_of_addr x.apart (PySem.mem_of_lookup h1) (PySem.mem_of_lookup h2)
  · have hy : scope.names.lookup y = some .cell ∨ scope.names.lookup y = some .free := hy
    rcases hy with hy | hy
    · exact cell_has hy
    · exact absurd rfl (S.nofree _ (PySem.mem_of_lookup hy))
  · exact Nat.le_of_lt (x.above y c (PySem.mem_of_lookup h))
  · have hi : i < vs.length := by
      unfold start at h2
      by_cases hi : i < vs.length
      · exact hi
      · rw [List.getElem?_append_right (by simpa using hi)] at h2
        rw [List.getElem?_replicate] at h2
        split at h2 <;> cases h2
    have ha : vs[i]? = some v := by
      unfold start at h2
      rw [List.getElem?_append_left (by simpa using hi), List.getElem?_map] at h2
      cases e : vs[i]? with
      | none => rw [e] at h2; cases h2
      | some a => rw [e] at h2; cases h2; rfl
    obtain ⟨u, hu, rv⟩ := r.get ha
    have hp : ps[i]? = some y := by
      rw [← S.pre, List.getElem?_take_of_lt (by omega)]; exact h1
    have ndP : ps.Nodup := by rw [← S.pre]; exact S.nd.sublist (List.take_sublist _ _)
    refine ⟨u, rv, ?_⟩
    rcases S.par y (List.mem_of_getElem? hp) with k | k
    · exact .inl ⟨k, bindL_get ndP hp hu k⟩
    · obtain ⟨c, e⟩ := cell_has (n := s.heap.objs.size + 1) k
      refine .inr ⟨.inl k, c, e, ?_⟩
      have q := x.cell y c e
      rw [bindC_get ndP hp hu (by show scope.names.lookup y ≠ _; rw [k]; decide)] at q
      exact q
  · exact e0.hok.fresh (Nat.le_of_lt (x.above y c (PySem.mem_of_lookup h)))
  · unfold start
    show _ = N.length
    rw [List.length_append, List.length_map, List.length_replicate]
    omega
theorem fn_of {CX : CXT} {P : Program} {w : World} {K : PySem.W.Frag} {mg : Str → Option Value} {base : Heap} {k : Nat} {f : Addr} {name qual : Str} {params : Arguments} {body : List Stmt} {scope : Scope} {dV kV doc pm cdv ct oc : Value} {an od : Option Addr}
    {osl : Array (Option Value)} {N ps : List Str} {sp : Sp} (lk : K.lookup f = some ⟨oc, od, .func (PySem.W.fnOf name qual params body scope dV kV doc pm an cdv ct), osl⟩) (hcd : PySem.W.codeIn K cdv qual = true) (S : FnScope N ps scope)
    (len : ∀ vs H Q E, sp vs H Q E → vs.length = ps.length)
    (hbody : ∀ (A : Around) (outer : List Env) (s : Shared) (H : Hp) (vs : List V) (Q : VK) (E : XK), Room k (A.deeper (envOfC qual scope s.heap.objs.size f cdv)) → sp vs H Q E →
      ∃ t, PSs (cxOf CX P w K mg base N qual scope f cdv A outer s H E) body t ∧ t { nx := fun _ H' => Q .non H', rt := Q } (start N vs) H) :
    FnOk P w K mg base CX (k + 1) f (PySem.W.fnOf name qual params body scope dV kV doc pm an cdv ct) ps sp := by
  refine ⟨len, fun A outer s H args us vs Q E hr e0 hb r hsp => ?_⟩
  have hl := len _ _ _ _ hsp
  have KX : K.In s.heap := e0.mod.kin.keeps fun b o e => (e0.bs b o e).1
  have lim : s.heap.NoLimit := e0.mod.nolimit.keeps fun b o e => (e0.bs b o e).1
  have hkind : ∀ y ∈ ps.zip us, scope.names.lookup y.1 = some .local ∨ (scope.names.lookup y.1 = some .cell ∧ ((cellsFrom (s.heap.objs.size + 1) scope.names []).lookup y.1).isSome = true) := fun ⟨n, v⟩ hy => by
    rcases S.par n (List.of_mem_zip hy).1 with q | q
    · exact .inl q
    · exact .inr ⟨q, PySem.W.cellsFrom_some _ _ _ (.inl q)⟩
  refine codeAny_call_function hr.depth (KX _ _ lk) rfl S.co S.gen rfl (PySem.W.codeRec_of KX hcd) (hb _ _ _ _ ?_)
  refine wpAny_newFunctionEnv_cells S.kind hkind fun env he s1 x => ?_
  subst he
  refine ⟨lim.keeps x.toInCall.keep, codeAny_func ?_⟩
  obtain ⟨t, ht, hq⟩ := hbody A outer s H vs Q E (hr.deeper _) hsp
  have I : Inv (cxOf CX P w K mg base N qual scope f cdv A outer s H E) [] (start N vs) H s1 := inv_start S hr.hd e0 hl r x
  refine wpAny_mono (ht [] s1 (start N vs) H _ I hq) (fun fl s' hs => ?_) fun e s' hs => hs
  have fin : ∀ {σ' : St} {H' : Hp} {v : V} {u : Value}, Inv (cxOf CX P w K mg base N qual scope f cdv A outer s H E) [] σ' H' s' → RelV v u → Q v H' → CE outer P w H s Q u s' :=
    fun {σ' H' v u} J rv q => ⟨v, H', J.os, J.bare, J.base, J.hok, rv, q⟩
  cases fl with
  | ret u =>
    obtain ⟨v, σ', H', J, rv, q⟩ := hs
    exact fin J rv q
  | next =>
    obtain ⟨σ', H', J, q⟩ := hs
    exact fin (v := V.non) (u := Value.none) J rfl q
  | brk =>
    obtain ⟨_, _, _, q⟩ := hs
    exact False.elim q
  | cont =>
    obtain ⟨_, _, _, q⟩ := hs
    exact False.elim q
end L2
namespace L2
open PySem PySem.Spec PyProof.Rows
section
variable {X : Cx} {x : Str} {p pos : Pos} {e : Expr} {es : List Expr} {t : TA} {id T : String} {r : List V → Hp → VK → Prop}
noncomputable def tCB (r : List V → Hp → VK → Prop) (t : TA) : TE := fun σ H Q => t σ H fun vs H1 => r vs H1 Q
theorem pe_callB (hc : CallR X (.builtin id) r) (hg : Gl X x) (hm : X.mg x = none) (hv : bootBuiltins x = some (.builtin id)) (ha : PA X (e :: es) t) (hn : x ≠ "__name__" := by decide) (hdb : (x == ("__debug__" : Str)) = false := by decide)
    (he : starEach (e :: es) X.env = (false, eval e X.env) :: starEach es X.env := by rfl) (hpl : (backTo pos (starEach es X.env)).any (·.1) = false := by rfl) : PE X (.Call (.Name x p) (e :: es) [] pos) (tCB r t) := by
  intro pins s σ H Q I h
  refine wpAny_Call_Name_kw (ld_blt I hg hm hv ?_ hn hdb)
  exact PyProof.Rows.callWith_builtin1 (thn (ha pos pins s σ H _ I h) fun us s1 ⟨vs, H1, I1, r1, q1⟩ => hc pins s1 σ H1 vs us Q I1 r1 q1) he hpl
theorem pe_callTy (hc : CallR X (.type T) r) (hg : Gl X x) (hm : X.mg x = none) (hv : bootBuiltins x = some (.type T)) (ha : PA X (e :: es) t) (hn : x ≠ "__name__" := by decide) (hdb : (x == ("__debug__" : Str)) = false := by decide)
    (he : starEach (e :: es) X.env = (false, eval e X.env) :: starEach es X.env := by rfl) (hpl : (backTo pos (starEach es X.env)).any (·.1) = false := by rfl) : PE X (.Call (.Name x p) (e :: es) [] pos) (tCB r t) := by
  intro pins s σ H Q I h
  refine wpAny_Call_Name_kw (ld_blt I hg hm hv ?_ hn hdb)
  exact PyProof.Rows.callWith_type1 (thn (ha pos pins s σ H _ I h) fun us s1 ⟨vs, H1, I1, r1, q1⟩ => hc pins s1 σ H1 vs us Q I1 r1 q1) he hpl
end
end L2
namespace HT
open PySem PyProof.Rows
section
open PySem.SeqAt
open PySem.AutoSeq1 (wpAny_loadPart')
open PySem.MeetsSeq PySem.MeetsSeq2 PySem.MeetsSeq3
end
section
variable {prog : Program} {w : World} {A : Around} {E : Value → Shared → Prop} {s : Shared}
noncomputable def sIx (n d : Nat) : Option Int → Nat
  | none => d
  | some v => if v < 0 then (v + (n : Int)).toNat else min v.toNat n
theorem sIx_none (n d : Nat) : sIx n d none = d := rfl
theorem sIx_nat (n d k : Nat) : sIx n d (some (k : Int)) = min k n := by
  show (if (k : Int) < 0 then ((k : Int) + (n : Int)).toNat else min (k : Int).toNat n) = min k n
  rw [if_neg (by omega), Int.toNat_natCast]
end
end HT
namespace L2
open PySem PySem.Spec PyProof.Rows
noncomputable abbrev TO := St → Hp → (Option Int → Hp → Prop) → Prop
noncomputable def PO (X : Cx) (e : Option Expr) (t : TO) : Prop :=
  ∀ (pins : List (Addr × Obj)) (s : Shared) (σ : St) (H : Hp) (Q : Option Int → Hp → Prop), Inv X pins σ H s → t σ H Q →
    wpAny (model X.prog X.w) X.A (evalPart e X.env) (fun u s' => ∃ o H', Inv X pins σ H' s' ∧ IsPart u o ∧ Q o H') X.xe s
noncomputable def tNoPart : TO := fun _ H Q => Q none H
noncomputable def tPart (t : TE) : TO := fun σ H Q => t σ H fun x H1 => ∃ i, x = .int i ∧ Q (some i) H1
theorem intsAre_of {ns : List Int} : ∀ {us : List Value}, Vals (ns.map V.int) us → IntsAre us ns := by
  induction ns with
  | nil => intro us r; rw [List.map_nil] at r; cases r; exact .nil
  | cons n ns ih =>
    intro us r
    rw [List.map_cons] at r
    cases r with
    | cons r1 r2 =>
      obtain ⟨t, e⟩ := r1
      subst e
      exact .cons n t (ih r2)
section
variable {X : Cx} {e : Expr} {te : TE} {lo hi : Option Expr} {tl th : TO} {pos p2 : Pos}
theorem po_none : PO X none tNoPart := by
  intro pins s σ H Q I h
  rw [evalPart_none]
  exact wpAny_pure ⟨none, H, I, .none, h⟩
theorem po_some (h : PE X e te) : PO X (some e) (tPart te) := by
  intro pins s σ H Q I hw
  rw [evalPart_some]
  refine thn (h pins s σ H _ I hw) fun u s1 hq__ => ?_
  obtain ⟨x, H1, I1, r1, q1⟩ := hq__
  obtain ⟨i, rfl, q⟩ := q1
  obtain ⟨t, rfl⟩ := r1
  exact ⟨some i, H1, I1, .int i t, q⟩
noncomputable def SlR (X : Cx) (r : V → Option Int → Option Int → Hp → VK → Prop) : Prop :=
  ∀ (pins : List (Addr × Obj)) (s : Shared) (σ : St) (H : Hp) (x : V) (v vl vu : Value) (lo hi : Option Int) (sl : Addr) (Q : VK), Inv X pins σ H s → RelV x v → s.heap.IsSliceOf sl vl vu .none → IsPart vl lo → IsPart vu hi → r x lo hi H Q →
    ∃ T id, typeLookup (.type T) "__getitem__" = pure (some (.builtin id)) ∧ s.TypeIs v T ∧ wpAny (model X.prog X.w) X.A (getItem v (.ref sl)) (EP X pins σ Q) X.xe s
noncomputable def tSl (r : V → Option Int → Option Int → Hp → VK → Prop) (te : TE) (tl th : TO) : TE := fun σ H Q => te σ H fun x H1 => tl σ H1 fun l H2 => th σ H2 fun u H3 => r x l u H3 Q
theorem pe_slice {r : V → Option Int → Option Int → Hp → VK → Prop} (hr : SlR X r) (he : PE X e te) (hl : PO X lo tl) (hu : PO X hi th) : PE X (.Subscript e (.Slice lo hi none p2) pos) (tSl r te tl th) := by
  intro pins s σ H Q I h
  refine Subscript_ (thn (he pins s σ H _ I h) fun v s1 h1 => ?_)
  obtain ⟨x, H1, I1, r1, q1⟩ := h1
  refine wpAny_Slice (thn (hl pins s1 σ H1 _ I1 q1) fun vl s2 h2 => ?_)
  obtain ⟨l, H2, I2, pl, q2⟩ := h2
  refine thn (hu pins s2 σ H2 _ I2 q2) fun vu s3 h3 => ?_
  obtain ⟨u, H3, I3, pu, q3⟩ := h3
  rw [evalPart_none]
  refine wpAny_pure ?_
  have I4 : Inv X pins σ H3 { s3 with heap := s3.heap.push { cls := .type "slice", data := .fields #[vl, vu, .none] } } := I3.kept (t' := s3.toks) fun b ob q => Heap.get?_push_of_some _ q
  obtain ⟨T, id, hT, ht, hg⟩ := hr pins { s3 with heap := s3.heap.push { cls := .type "slice", data := .fields #[vl, vu, .none] } } σ H3 x v vl vu l u s3.heap.objs.size Q I4 r1 (Heap.IsSliceOf.new ..) pl pu q3
  show wpAny (model X.prog X.w) X.A (subscriptTail e (.Slice lo hi none p2) v (.ref s3.heap.objs.size)) (EP X pins σ Q) X.xe { s3 with heap := s3.heap.push { cls := .type "slice", data := .fields #[vl, vu, .none] } }
  exact tail_any (ops := [.ref s3.heap.objs.size, v]) ht hT hg (by with_unfolding_all rfl)
noncomputable def cutV (xs : List V) (lo hi : Option Int) : List V := (xs.drop (HT.sIx xs.length 0 lo)).take (HT.sIx xs.length xs.length hi - HT.sIx xs.length 0 lo)
theorem cutV_length (xs : List V) (lo hi : Option Int) : (cutV xs lo hi).length ≤ xs.length := by
  unfold cutV
  rw [List.length_take, List.length_drop]
  omega
end
end L2
namespace L2
open PySem PySem.Spec PyProof.Rows
noncomputable def ixN (n : Nat) (i : Int) : Option Nat := if 0 ≤ i then (if i < n then some i.toNat else none) else if -(n : Int) ≤ i then some (i + n).toNat else none
noncomputable def atI {α : Type} (xs : List α) (i : Int) : Option α := (ixN xs.length i).bind fun j => xs[j]?
theorem ixN_seq {n : Nat} {i : Int} {j : Nat} (h : ixN n i = some j) : seqIndex? i n = some j ∧ j < n ∧ -(n : Int) ≤ i ∧ i < n := by
  unfold ixN at h
  by_cases h0 : 0 ≤ i
  · rw [if_pos h0] at h
    by_cases h1 : i < n
    · rw [if_pos h1] at h
      have e : i.toNat = j := Option.some.inj h
      exact ⟨by rw [seqIndex_of h0 h1, e], by omega, by omega, h1⟩
    · rw [if_neg h1] at h; cases h
  · rw [if_neg h0] at h
    by_cases h1 : -(n : Int) ≤ i
    · rw [if_pos h1] at h
      have e : (i + n).toNat = j := Option.some.inj h
      exact ⟨by rw [seqIndex_neg (by omega) h1, e], by omega, h1, by omega⟩
    · rw [if_neg h1] at h; cases h
theorem atI_get {α : Type} {xs : List α} {i : Int} {v : α} (h : atI xs i = some v) : ∃ j, seqIndex? i xs.length = some j ∧ xs[j]? = some v ∧ j < xs.length ∧ -(xs.length : Int) ≤ i ∧ i < xs.length := by
  unfold atI at h
  cases e : ixN xs.length i with
  | none => rw [e] at h; cases h
  | some j =>
    rw [e] at h
    obtain ⟨h1, h2, h3, h4⟩ := ixN_seq e
    exact ⟨j, h1, h, h2, h3, h4⟩
theorem atI_nat {α : Type} {xs : List α} {j : Nat} {v : α} (h : xs[j]? = some v) : atI xs (j : Int) = some v := by
  have hj : j < xs.length := (List.getElem?_eq_some_iff.mp h).1
  have e : ixN xs.length (j : Int) = some j := by
    unfold ixN
    rw [if_pos (by omega), if_pos (by omega)]; simp
  unfold atI; rw [e]; exact h
noncomputable def PlainIx (b : Expr) : Prop := ∀ o i, subscripted b false o i = operate [o, i] (getItem o i)
noncomputable def IxR (X : Cx) (r : R2) : Prop :=
  ∀ (value slice : Expr) (pins : List (Addr × Obj)) (s : Shared) (σ : St) (H : Hp) (x y : V) (v u : Value) (Q : VK), Inv X pins σ H s → RelV x v → RelV y u → r x y H Q →
    subscripted slice false v u = operate [v, u] (getItem v u) → wpAny (model X.prog X.w) X.A (subscriptTail value slice v u) (EP X pins σ Q) X.xe s
noncomputable def MtR (X : Cx) (id : String) (r : V → List V → Hp → VK → Prop) : Prop :=
  ∀ (pins : List (Addr × Obj)) (s : Shared) (σ : St) (H : Hp) (x : V) (xs : List V) (v : Value) (us : List Value) (Q : VK), Inv X pins σ H s → RelV x v → Vals xs us → r x xs H Q →
    wpAny (model X.prog X.w) X.A (call (.builtin id) (v :: us)) (EP X pins σ Q) X.xe s
section
variable {X : Cx} {a b : Expr} {ta tb : TE} {pos : Pos}
theorem pe_ix {r : R2} (hr : IxR X r) (ha : PE X a ta) (hb : PE X b tb) (hs : PlainIx b) : PE X (.Subscript a b pos) (tOp r ta tb) := by
  intro pins s σ H Q I h
  exact Subscript_ (binT ha hb I h fun v u s2 x y H2 I2 rx ry q => hr a b pins s2 σ H2 x y v u Q I2 rx ry q (hs _ _))
noncomputable def rIxL (K : PySem.W.Frag) : R2 := fun x y H Q => ∃ p xs i v, x = .ref p ∧ y = .int i ∧ SqL K H p xs ∧ atI xs i = some v ∧ Q v H
noncomputable def rIxT (K : PySem.W.Frag) : R2 := fun x y H Q => ∃ p xs i v, x = .ref p ∧ y = .int i ∧ SqT K H p xs ∧ atI xs i = some v ∧ Q v H
theorem ix_list : IxR X (rIxL X.K) := by
  intro value slice pins s σ H x y v u Q I rx ry h hs
  obtain ⟨p, xs, i, z, rfl, rfl, hq, he, q⟩ := h
  cases rx
  obtain ⟨t, rfl⟩ := ry
  obtain ⟨its, r, pl, hz⟩ := I.list hq
  obtain ⟨j, h1, h2, h3, h4, h5⟩ := atI_get he
  obtain ⟨w, ew, rw'⟩ := r.get h2
  have hl := r.length
  have hn := line63
  have fin : EP X pins σ Q w s := ⟨z, H, I, rw', q⟩
  by_cases h0 : 0 ≤ i
  · have hj : i.toNat = j := by
      rw [seqIndex_of h0 h5] at h1
      exact Option.some.inj h1
    exact item_listR pl.isList h0 (by omega) (by rw [hj]; simpa using ew) fin hs
  · have hj : (i + (its.toArray.size : Int)).toNat = j := by
      rw [seqIndex_neg (by omega) h4] at h1
      rw [List.size_toArray, ← hl]
      exact Option.some.inj h1
    exact subscriptTail_builtinR (x := w) pl.isList.typeIs slot_list_getitem.lookup
      (wpAny_getItem_list_neg (Q := fun r s' => r = w ∧ EP X pins σ Q r s') pl.isList (by omega) (by rw [List.size_toArray] <;> omega) (by omega) (by rw [hj]; simpa using ew) ⟨rfl, fin⟩) hs
theorem ix_tup : IxR X (rIxT X.K) := by
  intro value slice pins s σ H x y v u Q I rx ry h hs
  obtain ⟨p, xs, i, z, rfl, rfl, hq, he, q⟩ := h
  cases rx
  obtain ⟨t, rfl⟩ := ry
  obtain ⟨its, r, pl, hz⟩ := I.tuple hq
  obtain ⟨j, h1, h2, h3, h4, h5⟩ := atI_get he
  obtain ⟨w, ew, rw'⟩ := r.get h2
  have hl := r.length
  have hn := line63
  have fin : EP X pins σ Q w s := ⟨z, H, I, rw', q⟩
  exact subscriptTail_builtinR (x := w) pl.typeIs slot_tuple_getitem.lookup
    (getItem_tuple (j := j) (Q := fun r s' => r = w ∧ EP X pins σ Q r s') pl (by omega) (by omega) (by rw [List.size_toArray, ← hl]; exact h1) (by simpa using ew) ⟨rfl, fin⟩) hs
theorem mapSeq_set (its : List Value) (n j : Nat) (u : Value) : Obj.mapSeq (·.setIfInBounds j u) { cls := .type "list", data := .seq its.toArray n } = { cls := .type "list", data := .seq (its.set j u).toArray n } := by
  simp [Obj.mapSeq]
theorem Inv.lst {pins : List (Addr × Obj)} {σ : St} {H : Hp} {s : Shared} {p : Addr} {xs : List V} (I : Inv X pins σ H s) (h : H p = some (.lst xs)) :
    ∃ (its : List Value) (n : Nat), Vals xs its ∧ s.heap.get? p = some { cls := .type "list", data := .seq its.toArray n } ∧ xs.length ≤ sizeLine := by
  obtain ⟨z, its, n, r, e⟩ := I.hok p _ h
  exact ⟨its, n, r, e, z⟩
theorem Inv.lstUpd {pins : List (Addr × Obj)} {σ : St} {H : Hp} {s : Shared} {p : Addr} {xs ys : List V} {its its' : List Value} {n n' : Nat} {f : Obj → Obj} (I : Inv X pins σ H s) (h : H p = some (.lst xs))
    (ho : s.heap.get? p = some { cls := .type "list", data := .seq its.toArray n }) (hf : f { cls := .type "list", data := .seq its.toArray n } = { cls := .type "list", data := .seq its'.toArray n' }) (r : Vals ys its') (hz : ys.length ≤ sizeLine) (t : Nat) :
    Inv X pins σ (upd H p (.lst ys)) { s with heap := s.heap.update p f, toks := t } := by
  have e : (s.heap.update p f).get? p = some { cls := .type "list", data := .seq its'.toArray n' } := by
    rw [Heap.get?_update_self f ho (by rw [hf] <;> rfl), hf]
  refine I.write (x := p) (e := p) (by rw [h]; trivial) (.inl rfl) (fun b u hb q => (Heap.get?_update_other _ _ (Ne.symm hb)).trans q) ⟨_, e⟩ ?_
  exact ⟨hz, its', n', r, e⟩
noncomputable def rSetL : V → V → V → Hp → (Hp → Prop) → Prop := fun o i v H Q => ∃ p xs k j, o = .ref p ∧ i = .int k ∧ H p = some (.lst xs) ∧ ixN xs.length k = some j ∧ Q (upd H p (.lst (xs.set j v)))
theorem set_list : PSet X rSetL := by
  intro pins s σ H o i v ov iv u Q I ro ri rv h
  obtain ⟨p, xs, k, j, rfl, rfl, hp, hj, q⟩ := h
  cases ro
  obtain ⟨t, rfl⟩ := ri
  obtain ⟨its, n, r, ho, hz⟩ := I.lst hp
  obtain ⟨h1, h2, h3, h4⟩ := ixN_seq hj
  have hl := r.length
  have hn := line63
  have I' : Inv X pins σ (upd H p (.lst (xs.set j v))) { s with heap := s.heap.update p (Obj.mapSeq (·.setIfInBounds j u)) } :=
    I.lstUpd hp ho (mapSeq_set its n j u) (r.set rv j) (by rw [List.length_set]; exact hz) s.toks
  by_cases h0 : 0 ≤ k
  · have hk : k.toNat = j := by
      rw [seqIndex_of h0 h4] at h1
      exact Option.some.inj h1
    exact PySem.W.ki_setAt ho h0 (by omega) (by rw [List.size_toArray, ← hl]; exact h4) (by rw [hk]; exact ⟨_, I', q⟩)
  · have hk : (k + (its.toArray.size : Int)).toNat = j := by
      rw [seqIndex_neg (by omega) h3] at h1
      rw [List.size_toArray, ← hl]
      exact Option.some.inj h1
    exact PySem.W.ki_setBack ho (by omega) (by rw [List.size_toArray, ← hl]; exact h3) (by omega) (by rw [hk]; exact ⟨_, I', q⟩)
theorem slice_bounds (lo hi : Option Int) (n : Nat) : (sliceBounds lo hi none n).1 = ((HT.sIx n 0 lo : Nat) : Int) ∧ (sliceBounds lo hi none n).2.1 = ((HT.sIx n n hi : Nat) : Int) ∧ (sliceBounds lo hi none n).2.2 = 1 := by
  refine ⟨?_, ?_, rfl⟩
  · cases lo with
    | none => simp [sliceBounds, HT.sIx]
    | some i =>
      simp only [sliceBounds, HT.sIx, Option.getD_none, show (1 : Int) > 0 by decide, if_true]
      by_cases h : i < 0
      · simp only [h, if_true] <;> omega
      · simp only [h, if_false] <;> omega
  · cases hi with
    | none => simp [sliceBounds, HT.sIx]
    | some i =>
      simp only [sliceBounds, HT.sIx, Option.getD_none, show (1 : Int) > 0 by decide, if_true]
      by_cases h : i < 0
      · simp only [h, if_true] <;> omega
      · simp only [h, if_false] <;> omega
theorem slicePick_cut (its : List Value) (lo hi : Option Int) : slicePick its.toArray lo hi none = ((its.drop (HT.sIx its.length 0 lo)).take (HT.sIx its.length its.length hi - HT.sIx its.length 0 lo)).toArray := by
  obtain ⟨h1, h2, h3⟩ := slice_bounds lo hi its.toArray.size
  unfold slicePick
  rw [h1, h2, h3]
  simp only [sliceRange_one, pick_run, List.size_toArray] <;> rfl
noncomputable def rSlL (K : PySem.W.Frag) : V → Option Int → Option Int → Hp → VK → Prop := fun x lo hi H Q => ∃ a xs, x = .ref a ∧ SqL K H a xs ∧ ∀ p, H p = none → Q (.ref p) (upd H p (.lst (cutV xs lo hi)))
theorem sl_list : SlR X (rSlL X.K) := by
  intro pins s σ H x v vl vu lo hi sl Q I rx hs pl pu h
  obtain ⟨a, xs, rfl, hx, q⟩ := h
  cases rx
  obtain ⟨its, r, ht, hz⟩ := I.list hx
  have hlen := r.length
  refine ⟨"list", _, slot_list_getitem.lookup, ht.isList.typeIs, ?_⟩
  refine wpAny_getItem_list_slice ht.isList hs pl pu .none (by simp) ?_ (by rw [List.size_toArray] <;> omega)
  rw [slicePick_cut, ← hlen]
  refine ⟨.ref s.heap.objs.size, _, I.laid (t' := s.toks) (o := .lst (cutV xs lo hi)) (fun b ob q => Heap.get?_push_of_some _ q) (Nat.le_refl _) ?_, rfl, q _ (I.hok.fresh (Nat.le_refl _))⟩
  exact ⟨Nat.le_trans (cutV_length xs lo hi) hz, _, 0, (r.drop (HT.sIx xs.length 0 lo)).take (HT.sIx xs.length xs.length hi - HT.sIx xs.length 0 lo), Heap.get?_push_size _ rfl⟩
noncomputable def flatV : V → Bool
  | .non => true
  | .bl _ => true
  | .int _ => true
  | .str _ => true
  | _ => false
noncomputable def eqV : V → V → Bool
  | .non, .non => true
  | .bl a, .bl b => a == b
  | .bl a, .int b => (if a then 1 else 0) == b
  | .int a, .bl b => a == (if b then 1 else 0)
  | .int a, .int b => a == b
  | .str a, .str b => a == b
  | _, _ => false
theorem eqAt_V {A : Around} {s : Shared} {y x : V} {u v : Value} (ry : RelV y u) (rx : RelV x v) (fy : flatV y = true) (fx : flatV x = true) : SeqAt.EqAt A s u v (eqV y x) := by
  cases y with
  | non =>
    cases ry
    cases x with
    | non => cases rx; exact SeqAt.EqAt.same _
    | bl b => cases rx; exact SeqAt.EqAt.none_bool b
    | int b => obtain ⟨t, rfl⟩ := rx; exact SeqAt.EqAt.none_int b t
    | str b => obtain ⟨t, rfl⟩ := rx; exact SeqAt.EqAt.none_str b t
    | _ => exact absurd (show false = true from fx) Bool.false_ne_true
  | bl a =>
    cases ry
    cases x with
    | non => cases rx; exact SeqAt.EqAt.bool_none a
    | bl b => cases rx; exact SeqAt.EqAt.bool_bool a b
    | int b => obtain ⟨t, rfl⟩ := rx; exact SeqAt.EqAt.bool_int a b t
    | str b => obtain ⟨t, rfl⟩ := rx; exact SeqAt.EqAt.bool_str a b t
    | _ => exact absurd (show false = true from fx) Bool.false_ne_true
  | int a =>
    obtain ⟨t', rfl⟩ := ry
    cases x with
    | non => cases rx; exact SeqAt.EqAt.int_none a t'
    | bl b => cases rx; exact SeqAt.EqAt.int_bool a t' b
    | int b => obtain ⟨t, rfl⟩ := rx; exact SeqAt.EqAt.int_int a t' b t
    | str b => obtain ⟨t, rfl⟩ := rx; exact SeqAt.EqAt.int_str a t' b t
    | _ => exact absurd (show false = true from fx) Bool.false_ne_true
  | str a =>
    obtain ⟨t', rfl⟩ := ry
    cases x with
    | non => cases rx; exact SeqAt.EqAt.str_none a t'
    | bl b => cases rx; exact SeqAt.EqAt.str_bool a t' b
    | int b => obtain ⟨t, rfl⟩ := rx; exact SeqAt.EqAt.str_int a t' b t
    | str b => obtain ⟨t, rfl⟩ := rx; exact SeqAt.EqAt.str_str a t' b t
    | _ => exact absurd (show false = true from fx) Bool.false_ne_true
  | _ => exact absurd (show false = true from fy) Bool.false_ne_true
noncomputable def eqU (x : V) (u : Value) : Bool := match u with
  | .none => eqV .non x
  | .bool b => eqV (.bl b) x
  | .int i _ => eqV (.int i) x
  | .str z _ => eqV (.str z) x
  | _ => false
theorem eqU_of {x y : V} {u : Value} (r : RelV y u) (f : flatV y = true) : eqU x u = eqV y x := by
  cases y with
  | non => cases r; rfl
  | bl b => cases r; rfl
  | int i => obtain ⟨t, rfl⟩ := r; rfl
  | str z => obtain ⟨t, rfl⟩ := r; rfl
  | _ => exact absurd (show false = true from f) Bool.false_ne_true
theorem any_eqU {x : V} : ∀ {xs : List V} {us : List Value}, Vals xs us → xs.all flatV = true → us.any (eqU x) = xs.any fun y => eqV y x := by
  intro xs us h
  induction h with
  | nil => intro _; rfl
  | cons r t ih =>
    intro f
    rw [List.all_cons, Bool.and_eq_true] at f
    rw [List.any_cons, List.any_cons, eqU_of r f.1, ih f.2]
theorem mem_eqAt {A : Around} {s : Shared} {x : V} {v : Value} (rx : RelV x v) (fx : flatV x = true) : ∀ {xs : List V} {us : List Value}, Vals xs us → xs.all flatV = true → ∀ u ∈ us, SeqAt.EqAt A s u v (eqU x u) := by
  intro xs us h
  induction h with
  | nil => intro _ u hu; cases hu
  | cons r t ih =>
    intro f u' hu
    rw [List.all_cons, Bool.and_eq_true] at f
    rcases List.mem_cons.mp hu with rfl | hu
    · rw [eqU_of r f.1]; exact eqAt_V r rx f.1 fx
    · exact ih f.2 u' hu
noncomputable def inV (x : V) (xs : List V) : Bool := xs.any fun y => eqV y x
noncomputable def rIn (K : PySem.W.Frag) (neg : Bool) : R2 := fun x y H Q => ∃ p xs, y = .ref p ∧ (SqL K H p xs ∨ SqT K H p xs) ∧ flatV x = true ∧ xs.all flatV = true ∧ Q (.bl (if neg then !inV x xs else inV x xs)) H
theorem op_notIn_seq : OpR X (compareOp .NotIn) (rIn X.K true) := by
  intro pins s σ H x y v u Q I rx ry h
  obtain ⟨p, xs, rfl, hq, fx, fs, q⟩ := h
  cases ry
  rcases hq with hq | hq
  · obtain ⟨its, r, pl, hz⟩ := I.list hq
    refine SeqAt.notIn_listAt (eqU x) pl.isList (fun w hw => mem_eqAt rx fx r fs w (by simpa using hw)) ⟨.bl _, H, I, rfl, ?_⟩
    rw [show its.toArray.any (eqU x) = its.any (eqU x) by simp, any_eqU r fs]
    exact q
  · obtain ⟨its, r, pl, hz⟩ := I.tuple hq
    refine SeqAt.notIn_tupleAt (eqU x) pl (fun w hw => mem_eqAt rx fx r fs w (by simpa using hw)) ⟨.bl _, H, I, rfl, ?_⟩
    rw [show its.toArray.any (eqU x) = its.any (eqU x) by simp, any_eqU r fs]
    exact q
theorem call_list_of : CallR X (.type "list") (fun xs H Q => ∃ p ys, xs = [.ref p] ∧ (SqL X.K H p ys ∨ SqT X.K H p ys) ∧ ∀ l, H l = none → Q (.ref l) (upd H l (.lst ys))) := by
  intro pins s σ H xs us Q I r h
  obtain ⟨p, ys, rfl, hq, q⟩ := h
  obtain ⟨u, rfl, rx⟩ := vals1 r
  cases rx
  have fin : ∀ (its : List Value), Vals ys its → ys.length ≤ sizeLine → ∀ (h' : Heap) (c' : Nat), (∀ b o', s.heap.get? b = some o' → h'.get? b = some o') →
      h'.get? s.heap.objs.size = some { cls := .type "list", dict := none, data := .seq its.toArray c', slots := #[] } → EP X pins σ Q (.ref s.heap.objs.size) { s with heap := h' } := fun its r' hz h' c' kp e =>
    ⟨.ref s.heap.objs.size, _, I.laid (t' := s.toks) kp (Nat.le_refl _) (show ObjOk X.prog X.w _ h' _ (.lst ys) from ⟨hz, its, c', r', e⟩), rfl, q _ (I.hok.fresh (Nat.le_refl _))⟩
  rcases hq with hq | hq
  · obtain ⟨its, r', pl, hz⟩ := I.list hq
    have hlen := r'.length
    obtain ⟨o, ho, hc, n, hd⟩ := pl.isList
    exact call_list_seq p (.inl rfl) ho hc hd (fun h' c' kp e => fin its r' hz h' c' kp e) (by simp only [List.size_toArray] <;> omega)
  · obtain ⟨its, r', pl, hz⟩ := I.tuple hq
    have hlen := r'.length
    obtain ⟨o, ho, hc, n, hd⟩ := pl
    exact call_list_seq p (.inr rfl) ho hc hd (fun h' c' kp e => fin its r' hz h' c' kp e) (by simp only [List.size_toArray] <;> omega)
noncomputable def tyV (K : PySem.W.Frag) (T : String) (x : V) (H : Hp) : Prop := match x with
  | .str _ => T = "str"
  | .int _ => T = "int"
  | .ref p => (T = "list" ∧ ∃ xs, SqL K H p xs) ∨ (T = "tuple" ∧ ∃ o, K.lookup p = some o ∧ o.cls = .type "tuple" ∧ o.dict = none) ∨
      (T = "dict" ∧ ((∃ kvs, H p = some (.dK kvs)) ∨ ∃ kvs, H p = some (.dT kvs))) ∨ (T = "set" ∧ ∃ S n, H p = some (.set S n))
  | _ => False
theorem tyV_is {pins : List (Addr × Obj)} {σ : St} {H : Hp} {s : Shared} {T : String} {x : V} {v : Value} (I : Inv X pins σ H s) (r : RelV x v) (ty : tyV X.K T x H) :
    s.TypeIs v T ∧ ∀ a, v = .ref a → ∃ ob, s.heap.get? a = some ob ∧ ob.dict = none := by
  cases x with
  | str z =>
    obtain ⟨t, rfl⟩ := r
    cases (show T = "str" from ty)
    exact ⟨typeIs_str s z t, fun _ e => nomatch e⟩
  | int i =>
    obtain ⟨t, rfl⟩ := r
    cases (show T = "int" from ty)
    exact ⟨typeIs_int s i t, fun _ e => nomatch e⟩
  | ref p =>
    cases r
    rcases ty with ⟨rfl, xs, hq⟩ | ⟨rfl, o, hk, hc, hd⟩ | ⟨rfl, hk⟩ | ⟨rfl, S, n, hk⟩
    · obtain ⟨its, _, pl, _⟩ := I.list hq
      refine ⟨pl.isList.typeIs, fun a e => ?_⟩
      cases e
      obtain ⟨o, n, e, c, hd, _⟩ := pl
      exact ⟨o, e, hd⟩
    · refine ⟨⟨o, I.kIn p o hk, hc⟩, fun a e => ?_⟩
      cases e
      exact ⟨o, I.kIn _ o hk, hd⟩
    · have z : ∃ o, s.heap.get? p = some o ∧ o.ExactDict := by
        rcases hk with ⟨kvs, hk⟩ | ⟨kvs, hk⟩
        · obtain ⟨_, _, _, _, o, _, _, e, ex, _⟩ := I.hok p _ hk
          exact ⟨o, e, ex⟩
        · obtain ⟨_, _, _, _, o, _, _, e, ex, _⟩ := I.hok p _ hk
          exact ⟨o, e, ex⟩
      obtain ⟨o, e, ex⟩ := z
      refine ⟨⟨o, e, ex.1⟩, fun a e2 => ?_⟩
      cases e2
      exact ⟨o, e, ex.2.1⟩
    · obtain ⟨o, _, _, _, e, ex, _⟩ := I.hok p _ hk
      refine ⟨⟨o, e, ex.1⟩, fun a e2 => ?_⟩
      cases e2
      exact ⟨o, e, ex.2.1⟩
  | _ => exact False.elim ty
noncomputable def tBM0 (K : PySem.W.Frag) (T : String) (r : V → List V → Hp → VK → Prop) (to : TE) : TE := fun σ H Q => to σ H fun x H1 => tyV K T x H1 ∧ r x [] H1 Q
noncomputable def tBM (K : PySem.W.Frag) (T : String) (r : V → List V → Hp → VK → Prop) (to : TE) (t : TA) : TE := fun σ H Q => to σ H fun x H1 => tyV K T x H1 ∧ t σ H1 fun xs H2 => r x xs H2 Q
variable {o e : Expr} {es : List Expr} {to : TE} {t : TA} {name : Str} {apos cpos : Pos} {T id : String} {r : V → List V → Hp → VK → Prop}
theorem pe_bm0 (pa : PlainAttrs T) (slot : Slot T name id) (hty : typeOf (.builtin id) = pure (.type "method_descriptor")) (hm : MtR X id r) (ho : PE X o to)
    (hbase : attributeBase o name X.env (eval o X.env) = eval o X.env := by rfl) (hline : (apos.endLine == cpos.line) = true := by rfl) : PE X (.Call (.Attribute o name apos) [] [] cpos) (tBM0 X.K T r to) := by
  intro pins s σ H Q I h
  refine wpAny_Call_method0_late hbase hline (thn (ho pins s σ H _ I h) fun v s1 hq__ => ?_)
  obtain ⟨x, H1, I1, r1, ty, q1⟩ := hq__
  obtain ⟨h1, h2⟩ := tyV_is I1 r1 ty
  exact ⟨T, id, pa, slot, hty, h1, h2, Calls.callWith_builtin rfl (PySem.evalArgs_none (hm pins s1 σ H1 x [] v [] Q I1 r1 .nil q1))⟩
theorem pe_bm (pa : PlainAttrs T) (slot : Slot T name id) (hty : typeOf (.builtin id) = pure (.type "method_descriptor")) (hm : MtR X id r) (ho : PE X o to) (ha : PA X (e :: es) t)
    (hbase : attributeBase o name X.env (eval o X.env) = eval o X.env := by rfl)
    (hfew : ((backTo cpos (starEach (e :: es) X.env)).all (fun x => !x.1) && (backToKw cpos (keywordEach [] X.env)).all (fun x => x.1.isSome)
      && decide ((e :: es).length + ([] : List Keyword).length + (if ([] : List Keyword).isEmpty then 0 else 1) < 30)) = true := by rfl)
    (hline : (apos.endLine == cpos.line) = true := by rfl) (hs : starEach (e :: es) X.env = (false, eval e X.env) :: starEach es X.env := by rfl) (hplain : (backTo cpos (starEach es X.env)).any (·.1) = false := by rfl) :
    PE X (.Call (.Attribute o name apos) (e :: es) [] cpos) (tBM X.K T r to t) := by
  intro pins s σ H Q I h
  refine wpAny_Call_method_late hbase hfew hline rfl (thn (ho pins s σ H _ I h) fun v s1 hq__ => ?_)
  obtain ⟨x, H1, I1, r1, ty, q1⟩ := hq__
  obtain ⟨h1, h2⟩ := tyV_is I1 r1 ty
  refine ⟨T, id, pa, slot, hty, h1, h2, ?_⟩
  have hA := ha cpos pins s1 σ H1 _ I1 q1
  rw [hs] at hA ⊢
  refine Calls.callWith_builtin (by show (false || (backTo cpos (starEach es X.env)).any (·.1)) = false; rw [hplain] <;> rfl) (Calls.evalArgs_plain ?_)
  exact thn hA fun us s2 ⟨vs, H2, I2, r2, q2⟩ => hm pins s2 σ H2 x vs v us Q I2 r1 r2 q2
/- xs.append(e), list.index on a module's tuple .. are MtR facts of 06m -/
end
end L2
namespace L2
open PySem PySem.Spec PyProof.Rows
noncomputable def MtM (X : Cx) (id : String) (r : V → List V → Hp → VK → Prop) : Prop :=
  ∀ (pins : List (Addr × Obj)) (s : Shared) (σ : St) (H : Hp) (x : V) (xs : List V) (v : Value) (us : List Value) (Q : VK), Inv X pins σ H s → RelV x v → Vals xs us → r x xs H Q →
    wpAny (model X.prog X.w) X.A (call (.builtin id) (v :: us)) (EP X pins σ Q) X.xe s
theorem Vals.one : ∀ {x : V} {us : List Value}, Vals [x] us → ∃ u, us = [u] ∧ RelV x u := by
  intro x us h
  cases h with
  | cons r t => cases t; exact ⟨_, rfl, r⟩
theorem Vals.zero : ∀ {us : List Value}, Vals [] us → us = []
  | _, .nil => rfl
theorem Vals.eraseIdx : ∀ {xs : List V} {us : List Value} (i : Nat), Vals xs us → Vals (xs.eraseIdx i) (us.eraseIdx i)
  | _, _, _, .nil => .nil
  | _, _, 0, .cons _ t => t
  | _, _, i + 1, .cons r t => .cons r (Vals.eraseIdx i t)
theorem Vals.rep {xs : List V} {us : List Value} (h : Vals xs us) : ∀ k : Nat, Vals (List.replicate k xs).flatten (List.replicate k us).flatten
  | 0 => .nil
  | k + 1 => by
    rw [List.replicate_succ, List.replicate_succ, List.flatten_cons, List.flatten_cons]
    exact Vals.append h (Vals.rep h k)
theorem foldl_rep (its : List Value) : ∀ (k : Nat) (acc : List Value),
    List.foldl (fun x1 x2 => x1 ++ x2) acc.toArray (List.replicate k its.toArray) = (acc ++ (List.replicate k its).flatten).toArray
  | 0, acc => by simp
  | k + 1, acc => by
    have e : acc.toArray ++ its.toArray = (acc ++ its).toArray := by simp
    have e2 : (acc ++ its) ++ (List.replicate k its).flatten = acc ++ (List.replicate (k + 1) its).flatten := by
      rw [List.replicate_succ, List.flatten_cons, List.append_assoc]
    rw [← e2, ← foldl_rep its k (acc ++ its), ← e, List.replicate_succ, List.foldl_cons]
section
variable {X : Cx} {pins : List (Addr × Obj)} {σ : St} {H : Hp} {s : Shared} {l b : Addr} {xs ys zs : List V}
theorem Inv.lset {its its' : List Value} {n : Nat} {f : Array Value → Array Value} {t' : Nat} (I : Inv X pins σ H s) (hH : H l = some (.lst xs))
    (e : s.heap.get? l = some { cls := .type "list", data := .seq its.toArray n }) (hf : f its.toArray = its'.toArray) (hv : Vals ys its') (hz : ys.length ≤ sizeLine) :
    Inv X pins σ (upd H l (.lst ys)) { s with heap := s.heap.update l (Obj.mapSeq f), toks := t' } := by
  have q := PySem.IsL.update e f
  rw [hf] at q
  refine I.write (x := l) (e := l) (by rw [hH]; exact trivial) (.inl rfl) (fun b' u hb hu => (Heap.get?_update_other s.heap (Obj.mapSeq f) (Ne.symm hb)).trans hu) ⟨_, q⟩ ?_
  exact ⟨hz, its', _, hv, q⟩
theorem Inv.lnew {its : List Value} {t' : Nat} (I : Inv X pins σ H s) (hv : Vals ys its) (hz : ys.length ≤ sizeLine) :
    Inv X pins σ (upd H s.heap.objs.size (.lst ys)) { s with heap := s.heap.push { cls := .type "list", data := .seq its.toArray }, toks := t' } :=
  I.laid (fun _ _ q => Heap.get?_push_of_some _ q) (Nat.le_refl _) ⟨hz, its, 0, hv, Heap.get?_push_size _ rfl⟩
theorem Inv.fresh (I : Inv X pins σ H s) : H s.heap.objs.size = none := I.hok.fresh (Nat.le_refl _)
theorem Inv.lstM (I : Inv X pins σ H s) (hH : H l = some (.lst xs)) : xs.length ≤ sizeLine ∧ ∃ (its : List Value) (n : Nat), Vals xs its ∧ xs.length = its.length ∧ s.heap.get? l = some { cls := .type "list", data := .seq its.toArray n } := by
  obtain ⟨z, its, n, r, e⟩ := I.hok l _ hH
  exact ⟨z, its, n, r, r.length, e⟩
theorem notLongL {n : Nat} (h : n ≤ sizeLine) : Builtin.List.listTooLong n = false := by
  unfold Builtin.List.listTooLong
  exact decide_eq_false (by omega)
end
section
variable {X : Cx}
noncomputable def rAppend : V → List V → Hp → VK → Prop := fun x vs H Q => ∃ l xs y, x = .ref l ∧ vs = [y] ∧ H l = some (.lst xs) ∧ xs.length < sizeLine ∧ Q .non (upd H l (.lst (xs ++ [y])))
theorem mt_append : MtM X "list.append" rAppend := by
  intro pins s σ H x vs v us Q I rx rv h
  obtain ⟨l, xs, y, rfl, rfl, hH, hz, q⟩ := h
  cases rx
  obtain ⟨u, rfl, ru⟩ := rv.one
  obtain ⟨z, its, n, r, hl, e⟩ := I.lstM hH
  refine call_meets F.slot_list_append ⟨_, e, rfl⟩ F.entry_list_append (F.args_list_append_2 _ _) (PySem.list_append l its.toArray n u (by rw [List.size_toArray]; omega)) ⟨e, ?_⟩
  refine ⟨.non, _, I.lset (its' := its ++ [u]) hH e (by simp) (r.append (.cons ru .nil)) ?_, rfl, q⟩
  rw [List.length_append, List.length_singleton]
  omega
noncomputable def rExtend : V → List V → Hp → VK → Prop := fun x vs H Q => ∃ l b xs zs, x = .ref l ∧ vs = [.ref b] ∧ H l = some (.lst xs) ∧ H b = some (.lst zs) ∧ xs.length + zs.length ≤ sizeLine ∧ Q .non (upd H l (.lst (xs ++ zs)))
theorem mt_extend : MtM X "list.extend" rExtend := by
  intro pins s σ H x vs v us Q I rx rv h
  obtain ⟨l, b, xs, zs, rfl, rfl, hH, hB, hz, q⟩ := h
  cases rx
  obtain ⟨u, rfl, ru⟩ := rv.one
  cases ru
  obtain ⟨z, its, n, r, hl, e⟩ := I.lstM hH
  obtain ⟨z2, its2, n2, r2, hl2, e2⟩ := I.lstM hB
  have hsz : its.toArray.size + its2.toArray.size ≤ sizeLine := by rw [List.size_toArray, List.size_toArray]; omega
  have hlong : ¬ (!its.toArray.isEmpty && Builtin.List.listTooLong (its.toArray.size + its2.toArray.size)) = true := by
    rw [notLongL hsz, Bool.and_false]
    exact Bool.false_ne_true
  refine call_meets F.slot_list_extend ⟨_, e, rfl⟩ F.entry_list_extend (F.args_list_extend_2 _ _)
    (AutoSeq1.list_extend_list_list_0 l its.toArray n b its2.toArray n2 hlong (by rw [List.size_toArray]; omega) (by omega)) ⟨e, e2, ?_⟩
  refine ⟨.non, _, I.lset (its' := its ++ its2) hH e (by simp) (r.append r2) ?_, rfl, q⟩
  rw [List.length_append]
  omega
noncomputable def rCat : R2 := fun x y H Q => ∃ l b xs zs, x = .ref l ∧ y = .ref b ∧ H l = some (.lst xs) ∧ H b = some (.lst zs) ∧ xs.length + zs.length ≤ sizeLine ∧ ∀ p, H p = none → Q (.ref p) (upd H p (.lst (xs ++ zs)))
theorem op_cat : OpR X (binaryOp .Add) rCat := by
  intro pins s σ H x y v u Q I rx ry h
  obtain ⟨l, b, xs, zs, rfl, rfl, hH, hB, hz, q⟩ := h
  cases rx
  cases ry
  obtain ⟨z, its, n, r, hl, e⟩ := I.lstM hH
  obtain ⟨z2, its2, n2, r2, hl2, e2⟩ := I.lstM hB
  refine PySem.P.add_list e e2 ?_ (by rw [List.size_toArray, List.size_toArray]; omega)
  have ea : its.toArray ++ its2.toArray = (its ++ its2).toArray := by simp
  rw [ea]
  exact ⟨.ref _, _, I.lnew (t' := s.toks) (r.append r2) (by rw [List.length_append]; omega), rfl, q _ I.fresh⟩
noncomputable def rRep : R2 := fun x y H Q => ∃ l k xs, x = .ref l ∧ y = .int k ∧ H l = some (.lst xs) ∧ -(2 ^ 63) ≤ k ∧ k < 2 ^ 63 ∧ xs.length * k.toNat ≤ sizeLine ∧
  ∀ p, H p = none → Q (.ref p) (upd H p (.lst (List.replicate k.toNat xs).flatten))
theorem len_rep {α : Type} (xs : List α) (k : Nat) : (List.replicate k xs).flatten.length = k * xs.length := by
  induction k with
  | zero => simp
  | succ k ih => rw [List.replicate_succ, List.flatten_cons, List.length_append, ih, Nat.succ_mul, Nat.add_comm]
theorem op_rep : OpR X (binaryOp .Mult) rRep := by
  intro pins s σ H x y v u Q I rx ry h
  obtain ⟨l, k, xs, rfl, rfl, hH, h1, h2, hz, q⟩ := h
  cases rx
  obtain ⟨t, rfl⟩ := ry
  obtain ⟨z, its, n, r, hl, e⟩ := I.lstM hH
  have hlen : its.toArray.size * k.toNat ≤ sizeLine := by rw [List.size_toArray, ← hl]; exact hz
  have hcap : ¬ its.toArray.size * k.toNat > (2 ^ 63 - 1) / 8 := by
    have : (sizeLine : Nat) ≤ (2 ^ 63 - 1) / 8 := by decide
    omega
  have hfit : ¬ (!Builtin.List.listFitsIndex k) = true := by
    rw [fitsIndex_both h1 h2]
    exact Bool.false_ne_true
  have hlong : ¬ Builtin.List.listTooLong (its.toArray.size * k.toNat) = true := by
    rw [notLongL hlen]
    exact Bool.false_ne_true
  have hnew : List.foldl (fun x1 x2 => x1 ++ x2) #[] (List.replicate (if its.toArray.isEmpty = true then 0 else k.toNat) its.toArray) = (List.replicate k.toNat its).flatten.toArray := by
    have f0 : ∀ m : Nat, List.foldl (fun x1 x2 => x1 ++ x2) #[] (List.replicate m its.toArray) = (List.replicate m its).flatten.toArray := fun m => by
      have := foldl_rep its m []
      rw [List.nil_append] at this
      exact this
    rw [f0]
    cases its with
    | nil => simp
    | cons a r' => rw [if_neg (by simp)]
  refine wpAny_binaryOp_repeat_ref (T := "list") (U := "int") (by decide) ⟨_, e, rfl⟩ (fun s' => typeIs_int s' k t) noFill_list_mul F.fills_int_mul F.slot_int_rmul repeat_list F.slot_int_index.lookup
    (call_meets F.slot_int_rmul (typeIs_int s k t) F.entry_int_rmul (F.args_int_rmul_2 _ _) (int___rmul___int_list k t l its.toArray n)
      ⟨e, rfl, ⟨_, e, rfl⟩, call_meets F.slot_list_mul ⟨_, e, rfl⟩ F.entry_list_mul (F.args_list_mul_2 _ _) (AutoListH.list___mul___list_int_3 l its.toArray n k t hfit hcap hlong) ⟨e, ?_⟩⟩)
  rw [hnew]
  exact ⟨.ref _, _, I.lnew (t' := s.toks) (r.rep k.toNat) (by rw [len_rep, Nat.mul_comm]; exact hz), rfl, q _ I.fresh⟩
end
section
variable {prog : Program} {w : World} {A : Around} {E : Value → Shared → Prop} {s : Shared}
end
section
variable {X : Cx}
end
end L2
namespace L2
open PySem PySem.Spec PyProof.Rows
section
variable {κ : Type} [DecidableEq κ]
noncomputable def valV (kvs : List (κ × V)) (k : κ) : Option V := (kvs.find? fun kv => decide (kv.1 = k)).map (·.2)
noncomputable def putK (kvs : List (κ × V)) (k : κ) (v : V) : List (κ × V) :=
  if (kvs.any fun kv => decide (kv.1 = k)) = true then kvs.map (fun kv => if kv.1 = k then (kv.1, v) else kv) else kvs ++ [(k, v)]
noncomputable def dropK (kvs : List (κ × V)) (k : κ) : List (κ × V) := kvs.filter fun kv => decide (kv.1 ≠ k)
theorem valV_pos {p : κ × V} {r : List (κ × V)} {k : κ} (e : p.1 = k) : valV (p :: r) k = some p.2 := by simp [valV, List.find?_cons, e]
theorem valV_neg {p : κ × V} {r : List (κ × V)} {k : κ} (e : ¬ p.1 = k) : valV (p :: r) k = valV r k := by simp [valV, List.find?_cons, e]
theorem valV_any (k : κ) : ∀ kvs : List (κ × V), (kvs.any fun kv => decide (kv.1 = k)) = (valV kvs k).isSome
  | [] => rfl
  | p :: r => by
    rw [List.any_cons]
    by_cases e : p.1 = k
    · simp only [valV_pos e, decide_eq_true e, Bool.true_or, Option.isSome_some]
    · rw [valV_neg e, decide_eq_false e, Bool.false_or]; exact valV_any k r
theorem valV_map (k j : κ) (y : V) : ∀ kvs : List (κ × V), valV (kvs.map fun kv => if kv.1 = k then (kv.1, y) else kv) j = (valV kvs j).map fun x => if j = k then y else x
  | [] => rfl
  | p :: r => by
    have ih := valV_map k j y r
    rw [List.map_cons]
    by_cases h : p.1 = k
    · rw [if_pos h]
      by_cases e : p.1 = j
      · rw [valV_pos (p := (p.1, y)) e, valV_pos e, Option.map_some, if_pos (e.symm.trans h)]
      · rw [valV_neg (p := (p.1, y)) e, valV_neg e, ih]
    · rw [if_neg h]
      by_cases e : p.1 = j
      · rw [valV_pos (p := p) e, valV_pos e, Option.map_some, if_neg (fun z => h (e.trans z))]
      · rw [valV_neg (p := p) e, valV_neg e, ih]
theorem valV_snoc (k j : κ) (y : V) : ∀ kvs : List (κ × V), valV kvs k = none → valV (kvs ++ [(k, y)]) j = if j = k then some y else valV kvs j := by
  intro kvs
  induction kvs with
  | nil =>
    intro _
    by_cases e : k = j
    · rw [if_pos e.symm]; exact valV_pos (p := (k, y)) e
    · rw [if_neg (fun z => e z.symm)]; exact valV_neg (p := (k, y)) e
  | cons p r ih =>
    intro hn
    rw [List.cons_append]
    have hk : ¬ p.1 = k := fun z => by rw [valV_pos z] at hn; cases hn
    rw [valV_neg hk] at hn
    have ih := ih hn
    by_cases e : p.1 = j
    · rw [valV_pos e, valV_pos e, if_neg (fun z => hk (e.trans z))]
    · rw [valV_neg e, valV_neg e, ih]
theorem valV_put (kvs : List (κ × V)) (k j : κ) (y : V) : valV (putK kvs k y) j = if j = k then some y else valV kvs j := by
  unfold putK
  by_cases a : (kvs.any fun kv => decide (kv.1 = k)) = true
  · rw [if_pos a, valV_map]
    rw [valV_any] at a
    by_cases e : j = k
    · obtain ⟨x, hx⟩ := Option.isSome_iff_exists.mp a
      rw [if_pos e, e, hx, Option.map_some, if_pos rfl]
    · rw [if_neg e]
      cases valV kvs j with
      | none => rfl
      | some x => rw [Option.map_some, if_neg e]
  · rw [if_neg a]
    refine valV_snoc k j y kvs ?_
    rw [valV_any] at a
    cases q : valV kvs k with
    | none => rfl
    | some x => rw [q] at a; exact (a rfl).elim
theorem length_putK (kvs : List (κ × V)) (k : κ) (v : V) : (putK kvs k v).length ≤ kvs.length + 1 := by
  unfold putK
  split
  · rw [List.length_map]; omega
  · rw [List.length_append, List.length_cons, List.length_nil]; omega
theorem putK_new {kvs : List (κ × V)} {k : κ} (v : V) (h : valV kvs k = none) : putK kvs k v = kvs ++ [(k, v)] := by
  unfold putK
  rw [valV_any, h]
  exact if_neg (by decide)
theorem RelO.isSome_eq {o : Option V} {u : Option Value} (r : RelO o u) : o.isSome = u.isSome := by
  cases o with
  | none => cases u with
    | none => rfl
    | some _ => exact (show False from r).elim
  | some _ => cases u with
    | none => exact (show False from r).elim
    | some _ => rfl
theorem RelO.getD {o : Option V} {u : Option Value} {d : V} {d' : Value} (r : RelO o u) (rd : RelV d d') : RelV (o.getD d) (u.getD d') := by
  cases o with
  | none => cases u with
    | none => exact rd
    | some _ => exact (show False from r).elim
  | some _ => cases u with
    | none => exact (show False from r).elim
    | some _ => exact r
theorem KV.val {kvs : List (κ × V)} {vs : List (κ × Value)} (r : KV kvs vs) (k : κ) : RelO (valV kvs k) (valueAt vs k) := by
  unfold KV at r
  induction r with
  | nil => exact True.intro
  | @cons p q ps qs h t ih =>
    obtain ⟨h1, h2⟩ := h
    by_cases e : p.1 = k
    · have e' : q.1 = k := h1.symm.trans e
      have b : valueAt (q :: qs) k = some q.2 := by simp [valueAt, List.find?_cons, e']
      rw [valV_pos e, b]; exact h2
    · have e' : ¬ q.1 = k := fun z => e (h1.trans z)
      have b : valueAt (q :: qs) k = valueAt qs k := by simp [valueAt, List.find?_cons, e']
      rw [valV_neg e, b]; exact ih
theorem KV.any {kvs : List (κ × V)} {vs : List (κ × Value)} (r : KV kvs vs) (k : κ) : (kvs.any fun kv => decide (kv.1 = k)) = vs.any fun kv => decide (kv.1 = k) := by
  unfold KV at r
  induction r with
  | nil => rfl
  | cons h t ih => rw [List.any_cons, List.any_cons, ih, h.1]
theorem KV.repl {kvs : List (κ × V)} {vs : List (κ × Value)} (r : KV kvs vs) (k : κ) {y : V} {u : Value} (ry : RelV y u) :
    KV (kvs.map fun kv => if kv.1 = k then (kv.1, y) else kv) (vs.map fun kv => if kv.1 = k then (kv.1, u) else kv) := by
  unfold KV at r ⊢
  induction r with
  | nil => exact .nil
  | @cons p q ps qs h t ih =>
    rw [List.map_cons, List.map_cons]
    refine .cons ?_ ih
    obtain ⟨h1, h2⟩ := h
    by_cases e : p.1 = k
    · rw [if_pos e, if_pos (h1.symm.trans e)]; exact ⟨h1, ry⟩
    · rw [if_neg e, if_neg (fun z => e (h1.trans z))]; exact ⟨h1, h2⟩
theorem KV.put {kvs : List (κ × V)} {vs : List (κ × Value)} (r : KV kvs vs) (k : κ) {y : V} {u : Value} (ry : RelV y u) : KV (putK kvs k y) (stored vs k u) := by
  unfold putK stored
  rw [r.any k]
  by_cases e : (vs.any fun kv => decide (kv.1 = k)) = true
  · rw [if_pos e, if_pos e]; exact r.repl k ry
  · rw [if_neg e, if_neg e]; exact Paired.snoc r ⟨rfl, ry⟩
theorem KV.drop {kvs : List (κ × V)} {vs : List (κ × Value)} (r : KV kvs vs) (k : κ) : KV (dropK kvs k) (without vs k) := by
  unfold KV at r ⊢
  unfold dropK without
  induction r with
  | nil => exact .nil
  | @cons p q ps qs h t ih =>
    obtain ⟨h1, h2⟩ := h
    rw [List.filter_cons, List.filter_cons]
    by_cases e : p.1 = k
    · have a : ¬ decide (p.1 ≠ k) = true := by simp [e]
      have b : ¬ decide (q.1 ≠ k) = true := by simp [h1.symm.trans e]
      rw [if_neg a, if_neg b]; exact ih
    · have e' : ¬ q.1 = k := fun z => e (h1.trans z)
      have a : decide (p.1 ≠ k) = true := by simp [e]
      have b : decide (q.1 ≠ k) = true := by simp [e']
      rw [if_pos a, if_pos b]; exact .cons ⟨h1, h2⟩ ih
theorem KV.length {kvs : List (κ × V)} {vs : List (κ × Value)} (r : KV kvs vs) : kvs.length = vs.length := Paired.length r
end
theorem kV_is {P : Program} {w : World} {k : Key} {u : Value} (r : RelV (kV k) u) : (mixKind P w).is k u = true := by
  cases k with
  | inl i => obtain ⟨t, e⟩ := (show ∃ t, u = Value.int i t from r); subst e; exact mixKind_int P w i t
  | inr x => obtain ⟨t, e⟩ := (show ∃ t, u = Value.str x t from r); subst e; exact mixKind_str P w x t
theorem items_are {P : Program} {w : World} : ∀ {ks : List Key} {us : List Value}, Vals (ks.map kV) us → ItemsAre (mixKind P w) ks us
  | [], _, r => by rw [List.map_nil] at r; cases r; exact .nil
  | k :: ks, _, r => by
    rw [List.map_cons] at r
    cases r with
    | cons h t => exact .cons (kV_is h) (items_are t)
noncomputable abbrev KT (H : Hp) : List (List Key × V) → List (List Key × Addr × Value) → Prop := Paired fun p q => p.1 = q.1 ∧ H q.2.1 = some (.tup (p.1.map kV)) ∧ RelV p.2 q.2.2
theorem KT.val {H : Hp} {kvs : List (List Key × V)} {xs : List (List Key × Addr × Value)} (r : KT H kvs xs) (k : List Key) : RelO (valV kvs k) ((atKey xs k).map (·.2)) := by
  induction r with
  | nil => exact True.intro
  | @cons p q ps qs h t ih =>
    obtain ⟨h1, _, h2⟩ := h
    by_cases e : p.1 = k
    · have e' : q.1 = k := h1.symm.trans e
      have b : atKey (q :: qs) k = some q.2 := by simp [atKey, List.find?_cons, e']
      rw [valV_pos e, b]; exact h2
    · have e' : ¬ q.1 = k := fun z => e (h1.trans z)
      have b : atKey (q :: qs) k = atKey qs k := by simp [atKey, List.find?_cons, e']
      rw [valV_neg e, b]; exact ih
theorem KT.repl {H : Hp} {kvs : List (List Key × V)} {xs : List (List Key × Addr × Value)} (r : KT H kvs xs) (k : List Key) {y : V} {u : Value} (ry : RelV y u) :
    KT H (kvs.map fun kv => if kv.1 = k then (kv.1, y) else kv) (xs.map (putAt k u)) := by
  induction r with
  | nil => exact .nil
  | @cons p q ps qs h t ih =>
    rw [List.map_cons, List.map_cons]
    refine .cons ?_ ih
    obtain ⟨h1, h2, h3⟩ := h
    unfold putAt
    by_cases e : p.1 = k
    · rw [if_pos e, if_pos (h1.symm.trans e)]; exact ⟨h1, h2, ry⟩
    · rw [if_neg e, if_neg (fun z => e (h1.trans z))]; exact ⟨h1, h2, h3⟩
theorem KT.put {H : Hp} {kvs : List (List Key × V)} {xs : List (List Key × Addr × Value)} (r : KT H kvs xs) (k : List Key) {b : Addr} {y : V} {u : Value} (hb : H b = some (.tup (k.map kV))) (ry : RelV y u) :
    KT H (putK kvs k y) (storedH xs k b u) := by
  have e : (kvs.any fun kv => decide (kv.1 = k)) = (atKey xs k).isSome := by
    rw [valV_any, (r.val k).isSome_eq, Option.isSome_map]
  unfold putK storedH
  rw [e]
  by_cases q : (atKey xs k).isSome = true
  · rw [if_pos q, if_pos q]; exact r.repl k ry
  · rw [if_neg q, if_neg q]; exact Paired.snoc r ⟨rfl, hb, ry⟩
theorem KT.keeps {H H' : Hp} {kvs : List (List Key × V)} {xs : List (List Key × Addr × Value)} (r : KT H kvs xs) (ht : ∀ b ys, H b = some (.tup ys) → H' b = some (.tup ys)) : KT H' kvs xs :=
  Paired.mapP r fun _ _ z => ⟨z.1, ht _ _ z.2.1, z.2.2⟩
section
variable {P : Program} {w : World} {H : Hp} {h : Heap} {a : Addr}
theorem rd_of {u : HO} (ok : HOk P w H h) (e : Rd H a u) : ObjOk P w H h a u := e.ok ok
theorem dk_rd {kvs : List (Key × V)} (ok : HOk P w H h) (e : Rd H a (.dK kvs)) : kvs.length ≤ sizeLine ∧ (a == sysModules) = false ∧ ∃ vs, KV kvs vs ∧ h.DictOf (mixKind P w) a vs :=
  show ObjOk P w H h a (.dK kvs) from rd_of ok e
theorem dk_of {kvs : List (Key × V)} (ok : HOk P w H h) (e : H a = some (.dK kvs)) : kvs.length ≤ sizeLine ∧ (a == sysModules) = false ∧ ∃ vs, KV kvs vs ∧ h.DictOf (mixKind P w) a vs := dk_rd ok (.inl e)
theorem key_of {ks : List Key} (ok : HOk P w H h) (e : H a = some (.tup (ks.map kV))) : (tupleKind (mixKind P w)).is h ks a := by
  obtain ⟨_, its, r, o, h1, h2, n, h3⟩ := (show ObjOk P w H h a (.tup (ks.map kV)) from ok a _ e)
  exact ⟨o, its.toArray, n, h1, h2, h3, by simpa using items_are r⟩
theorem dt_rd {kvs : List (List Key × V)} (ok : HOk P w H h) (e : Rd H a (.dT kvs)) : kvs.length ≤ sizeLine ∧ (a == sysModules) = false ∧
    ∃ xs, KT H kvs xs ∧ h.DictOfH (tupleKind (mixKind P w)) a xs := by
  obtain ⟨z, y, xs, r, o, es, ep, h1, h2, h3, h4, h5⟩ := (show ObjOk P w H h a (.dT kvs) from rd_of ok e)
  refine ⟨z, y, xs, r, o, es, ep, h1, h2, h3, h4, fun x hx => ?_, h5⟩
  have all : ∀ {l : List (List Key × V)} {m : List (List Key × Addr × Value)}, KT H l m → ∀ x ∈ m, (tupleKind (mixKind P w)).is h x.1 x.2.1 := by
    intro l m q
    induction q with
    | nil => intro x hx; exact nomatch hx
    | @cons p q ps qs hq t ih =>
      intro x hx
      rcases List.mem_cons.mp hx with e | hx
      · subst e
        exact key_of ok (by rw [← hq.1]; exact hq.2.1)
      · exact ih x hx
  exact all r x hx
theorem dt_of {kvs : List (List Key × V)} (ok : HOk P w H h) (e : H a = some (.dT kvs)) : kvs.length ≤ sizeLine ∧ (a == sysModules) = false ∧
    ∃ xs, KT H kvs xs ∧ h.DictOfH (tupleKind (mixKind P w)) a xs := dt_rd ok (.inl e)
end
noncomputable def DGet (H : Hp) (a : Addr) (y : V) (r : Option V) : Prop :=
  (∃ kvs k, Rd H a (.dK kvs) ∧ y = kV k ∧ r = valV kvs k) ∨ ∃ kvs k b, Rd H a (.dT kvs) ∧ y = .ref b ∧ H b = some (.tup (k.map kV)) ∧ r = valV kvs k
noncomputable def DPut (H : Hp) (a : Addr) (y v : V) (H' : Hp) : Prop :=
  (∃ kvs k, H a = some (.dK kvs) ∧ y = kV k ∧ kvs.length < sizeLine ∧ H' = upd H a (.dK (putK kvs k v))) ∨
  ∃ kvs k b, H a = some (.dT kvs) ∧ y = .ref b ∧ H b = some (.tup (k.map kV)) ∧ kvs.length < sizeLine ∧ H' = upd H a (.dT (putK kvs k v))
theorem DGet.k {H : Hp} {a : Addr} {kvs : List (Key × V)} {k : Key} (e : H a = some (.dK kvs)) : DGet H a (kV k) (valV kvs k) := .inl ⟨kvs, k, .inl e, rfl, rfl⟩
theorem DPut.k {H : Hp} {a : Addr} {kvs : List (Key × V)} {k : Key} {v : V} (e : H a = some (.dK kvs)) (hl : kvs.length < sizeLine) : DPut H a (kV k) v (upd H a (.dK (putK kvs k v))) := .inl ⟨kvs, k, e, rfl, hl, rfl⟩
section
variable {X : Cx} {pins : List (Addr × Obj)} {σ : St} {H : Hp} {s : Shared} {a : Addr} {y v : V} {u r : Value} {o : Option V} {A : Around} {E : Value → Shared → Prop}
theorem Inv.big (I : Inv X pins σ H s) : sysModules < s.heap.objs.size := by
  have h : mainGlobals < s.heap.objs.size := (I.mod.glob.keeps I.bk).lt
  exact Nat.lt_trans (by decide) h
theorem d_getItem {Q : Value → Shared → Prop} (hu : A.units + 1 < cLine) (I : Inv X pins σ H s) (g : DGet H a y (some v)) (ry : RelV y u) (h : ∀ w' s', Inv X pins σ H s' → RelV v w' → Q w' s') :
    wpAny (model X.prog X.w) A (getItem (.ref a) u) Q E s := by
  rcases g with ⟨kvs, k, e, ey, l⟩ | ⟨kvs, k, b, e, ey, eb, l⟩
  · subst ey
    obtain ⟨z, hd, vs, rel, dd⟩ := dk_rd I.hok e
    obtain ⟨w', hw, rw'⟩ := RelO.some_of (v := v) (o := valueAt vs k) (by rw [l]; exact rel.val k)
    exact wpAny_getItem_of (kV_is ry) dd.mapOf hw (h w' _ (I.tok _) rw')
  · subst ey
    cases (show u = Value.ref b from ry)
    obtain ⟨z, hd, xs, rel, dd⟩ := dt_rd I.hok e
    obtain ⟨w', hw, rw'⟩ := RelO.some_of (v := v) (o := (atKey xs k).map (·.2)) (by rw [l]; exact rel.val k)
    obtain ⟨p, hp, hp2⟩ := Option.map_eq_some_iff.mp hw
    refine wpAny_getItem_heap (tupleKind_room_in1 hu) (key_of I.hok eb) dd hp ?_
    rw [hp2]
    exact h w' _ (I.tok _) rw'
theorem d_notIn {Q : Value → Shared → Prop} (hu : A.units + 1 < cLine) (I : Inv X pins σ H s) (g : DGet H a y o) (ry : RelV y u) (h : ∀ s', Inv X pins σ H s' → Q (.bool (!o.isSome)) s') :
    wpAny (model X.prog X.w) A (compareOp .NotIn u (.ref a)) Q E s := by
  rcases g with ⟨kvs, k, e, ey, l⟩ | ⟨kvs, k, b, e, ey, eb, l⟩
  · subst ey
    obtain ⟨z, hd, vs, rel, dd⟩ := dk_rd I.hok e
    refine wpAny_notIn_of (kV_is ry) hd dd.mapOf ?_
    rw [← (rel.val k).isSome_eq, ← l]
    exact h _ (I.tok _)
  · subst ey
    cases (show u = Value.ref b from ry)
    obtain ⟨z, hd, xs, rel, dd⟩ := dt_rd I.hok e
    refine wpAny_notIn_heap (tupleKind_room_in1 hu) (key_of I.hok eb) hd dd ?_
    have q := (rel.val k).isSome_eq
    rw [Option.isSome_map] at q
    rw [← q, ← l]
    exact h _ (I.tok _)
theorem d_write {h' : Heap} {t' : Nat} {ob : HO} (I : Inv X pins σ H s) (mu : Mut (H a)) (hs : Heap.SameBut a s.heap h') (he : ∃ q, h'.get? a = some q) (new : ObjOk X.prog X.w (upd H a ob) h' a ob) :
    Inv X pins σ (upd H a ob) { s with heap := h', toks := t' } :=
  I.write (x := a) (e := a) mu (.inl rfl) (fun b q hb z => (hs.2 b hb).trans z) he new
theorem dk_new {P : Program} {w : World} {H' : Hp} {h' : Heap} {kvs : List (Key × V)} {vs : List (Key × Value)} (z : kvs.length ≤ sizeLine) (hd : (a == sysModules) = false) (rel : KV kvs vs) (dd : h'.DictOf (mixKind P w) a vs) :
    ObjOk P w H' h' a (.dK kvs) := ⟨z, hd, vs, rel, dd⟩
theorem d_setItem {H' : Hp} {Q : Unit → Shared → Prop} (hu : A.units + 1 < cLine) (I : Inv X pins σ H s) (g : DPut H a y v H') (ry : RelV y u) (rv : RelV v r) (h : ∀ s', Inv X pins σ H' s' → Q () s') :
    wpAny (model X.prog X.w) A (setItem (.ref a) u r) Q E s := by
  rcases g with ⟨kvs, k, e, ey, l, eH⟩ | ⟨kvs, k, b, e, ey, eb, l, eH⟩
  · subst ey eH
    obtain ⟨z, hd, vs, rel, dd⟩ := dk_of I.hok e
    have hz : vs.length ≤ sizeLine := by rw [← rel.length]; exact z
    have hl : (putK kvs k v).length ≤ sizeLine := by have := length_putK kvs k v; omega
    refine wpAny_setItem_pairs (hsz := hz) (kV_is ry) dd fun h' dd' hs => h _ ?_
    have he : ∃ q, h'.get? a = some q := let ⟨q, _, _, hq, _⟩ := dd'; ⟨q, hq⟩
    exact d_write I (by rw [e]; exact True.intro) hs he (dk_new hl hd (rel.put k rv) dd')
  · subst ey eH
    cases (show u = Value.ref b from ry)
    obtain ⟨z, hd, xs, rel, dd⟩ := dt_of I.hok e
    have hz : xs.length ≤ sizeLine := by rw [← Paired.length rel]; exact z
    have hl : (putK kvs k v).length ≤ sizeLine := by have := length_putK kvs k v; omega
    refine wpAny_setItem_heap (hsz := hz) (tupleKind_room_in1 hu) (key_of I.hok eb) dd fun h' dd' hs => h _ ?_
    obtain ⟨q, es, ep, hq, h2, h3, h4, _, h5⟩ := dd'
    refine d_write I (by rw [e]; exact True.intro) hs ⟨q, hq⟩ ⟨hl, hd, _, (rel.put k eb rv).keeps fun c ys ec => ?_, q, es, ep, hq, h2, h3, h4, h5⟩
    rw [upd_ne (ne_of ec e (fun z => nomatch z))]
    exact ec
end
section
variable {X : Cx} {pins : List (Addr × Obj)} {σ : St} {H : Hp} {s : Shared} {a : Addr} {kvs : List (Key × V)} {k : Key} {u : Value} {A : Around} {E : Value → Shared → Prop}
end
noncomputable def NoSl (i : Expr) : Prop := ∀ ov iv, subscripted i false ov iv = operate [ov, iv] (getItem ov iv)
theorem subD_of {prog : Program} {w : World} {A : Around} {E : Value → Shared → Prop} {s : Shared} {env : Env} {value slice : Expr} {pos : Pos} {T id : String} {Q : Value → Shared → Prop}
    (hl : typeLookup (.type T) "__getitem__" = pure (some (.builtin id))) (hs : NoSl slice)
    (h : wpAny (model prog w) A (eval value env) (fun o s₁ => wpAny (model prog w) A (eval slice env) (fun i s₂ => s₂.TypeIs o T ∧ wpAny (model prog w) A (getItem o i) Q E s₂) E s₁) E s) :
    wpAny (model prog w) A (eval (.Subscript value slice pos) env) Q E s := by
  refine Subscript_ (wpAny_mono h (fun o s₁ h₁ => wpAny_mono h₁ (fun i s₂ h₂ => ?_) fun _ _ x => x) fun _ _ x => x)
  obtain ⟨hT, h₂⟩ := h₂
  unfold subscriptTail
  refine wpAny_bind ?_
  rw [getitemInPython_of_ne hT.not_modules]
  refine wpAny_bind (wpAny_specialOf hT hl ?_)
  have fin : wpAny (model prog w) A (subscripted slice false o i) (fun r s₃ => wpAny (model prog w) A (letTemporaryGo value o r >>= fun _ => pure r) Q E s₃) E s₂ := by
    rw [hs o i]
    exact wpAny_operating (wpAny_mono h₂ (fun r s₃ h₃ => wpAny_bind (wpAny_letTemporaryGo (wpAny_pure h₃))) fun _ _ x => x)
  first
    | exact wpAny_pure (wpAny_bind fin)
    | exact wpAny_bind (wpAny_pure (wpAny_bind fin))
    | exact wpAny_bind fin
theorem dict_typeIs {X : Cx} {pins : List (Addr × Obj)} {σ : St} {H : Hp} {s : Shared} {a : Addr} {y : V} {o : Option V} (I : Inv X pins σ H s) (g : DGet H a y o) : s.TypeIs (.ref a) "dict" := by
  rcases g with ⟨kvs, k, e, _, _⟩ | ⟨kvs, k, b, e, _, _, _⟩
  · obtain ⟨_, _, vs, _, dd⟩ := dk_rd I.hok e
    exact dd.typeIs
  · obtain ⟨_, _, xs, _, dd⟩ := dt_rd I.hok e
    exact dd.typeIs
noncomputable def tDGet (td ty : TE) : TE := fun σ H Q => td σ H fun x H1 => ty σ H1 fun y H2 => ∃ a v, x = .ref a ∧ DGet H2 a y (some v) ∧ Q v H2
noncomputable def tDNotIn (ty td : TE) : TE := fun σ H Q => ty σ H fun y H1 => td σ H1 fun x H2 => ∃ a o, x = .ref a ∧ DGet H2 a y o ∧ Q (.bl (!o.isSome)) H2
noncomputable def sDPut (td ty tv : TE) : TS := fun D σ H => tv σ H fun v H1 => td σ H1 fun x H2 => ty σ H2 fun y H3 => ∃ a H4, x = .ref a ∧ DPut H3 a y v H4 ∧ D.nx σ H4
noncomputable def sDAug (td ty tv : TE) (rd : V → V → Hp → VK → Prop) : TS := fun D σ H => td σ H fun x H1 => ty σ H1 fun y H2 => ∃ a v, x = .ref a ∧ DGet H2 a y (some v) ∧
  tv σ H2 fun y2 H3 => rd v y2 H3 fun z H4 => ∃ H5, DPut H4 a y z H5 ∧ D.nx σ H5
section
variable {X : Cx} {o i e value : Expr} {pos pos' tpos : Pos} {td ty tv : TE}
theorem pe_dget (hu : X.A.units + 1 < cLine) (ho : PE X o td) (hi : PE X i ty) (hs : NoSl i) : PE X (.Subscript o i pos) (tDGet td ty) := by
  intro pins s σ H Q I h
  refine subD_of PySem.F.slot_dict_getitem.lookup hs (thn (ho pins s σ H _ I h) fun u s1 h1 => ?_)
  obtain ⟨x, H1, I1, rx, q1⟩ := h1
  refine thn (hi pins s1 σ H1 _ I1 q1) fun iv s2 h2 => ?_
  obtain ⟨y, H2, I2, ry, a, v, ex, g, q2⟩ := h2
  subst ex
  obtain rfl : u = Value.ref a := rx
  exact ⟨dict_typeIs I2 g, d_getItem hu I2 g ry fun w' s3 I3 rw' => ⟨v, H2, I3, rw', q2⟩⟩
theorem pc_dnotin (hu : X.A.units + 1 < cLine) (hi : PE X i ty) (ho : PE X o td) : PC X .NotIn i o (tDNotIn ty td) := by
  intro pins s σ H Q I h
  refine thn (hi pins s σ H _ I h) fun iv s1 h1 => ?_
  obtain ⟨y, H1, I1, ry, q1⟩ := h1
  refine thn (ho pins s1 σ H1 _ I1 q1) fun u s2 h2 => ?_
  obtain ⟨x, H2, I2, rx, a, ov, ex, g, q2⟩ := h2
  subst ex
  obtain rfl : u = Value.ref a := rx
  exact d_notIn hu I2 g ry fun s3 I3 => ⟨.bl (!ov.isSome), H2, I3, rfl, q2⟩
theorem ps_dput (hu : X.A.units + 1 < cLine) (ho : PE X o td) (hi : PE X i ty) (hv : PE X value tv) (hs : swapsWith value (some (.Subscript o i pos')) pos.line X.env = pure false) :
    PS X (.Assign [.Subscript o i pos'] value pos) (sDPut td ty tv) := by
  intro pins s σ H D I h
  refine wpAny_Assign_Subscript (thn (hv pins s σ H _ I h) fun r s1 h1 => ?_) hs
  obtain ⟨v, H1, I1, rv, q1⟩ := h1
  refine thn (ho pins s1 σ H1 _ I1 q1) fun u s2 h2 => ?_
  obtain ⟨x, H2, I2, rx, q2⟩ := h2
  refine thn (hi pins s2 σ H2 _ I2 q2) fun iv s3 h3 => ?_
  obtain ⟨y, H3, I3, ry, a, H4, ex, g, q3⟩ := h3
  subst ex
  obtain rfl : u = Value.ref a := rx
  exact d_setItem hu I3 g ry rv fun s4 I4 => ⟨σ, H4, I4, q3⟩
theorem ps_daug {op : Operator} {rd : V → V → Hp → VK → Prop} (hu : X.A.units + 1 < cLine) (ho : PE X o td) (hi : PE X i ty) (hv : PE X value tv) (hop : InOp X op rd)
    (ha : ∀ ov iv new, augStore i ov iv new = (do holding [new, ov, iv] (setItem ov iv new); release [new, ov, iv] []; pure .next)) : PS X (.AugAssign (.Subscript o i tpos) op value pos) (sDAug td ty tv rd) := by
  intro pins s σ H D I h
  refine wpAny_AugAssign_SubscriptAny (thn (ho pins s σ H _ I h) fun u s1 ⟨x, H1, I1, rx, q1⟩ => thn (hi pins s1 σ H1 _ I1 q1) fun iv s2 ⟨y, H2, I2, ry, a, v, ex, g, q2⟩ => ?_) ha
  subst ex
  obtain rfl : u = Value.ref a := rx
  refine d_getItem hu I2 g ry fun w' s3 I3 rw' => thn (hv pins s3 σ H2 _ I3 q2) fun w2 s4 ⟨y2, H3, I4, ry2, q3⟩ => thn (hop pins s4 σ H3 v y2 w' w2 _ I4 rw' ry2 q3) fun w3 s5 hq__ => ?_
  obtain ⟨z, H4, I5, rz, H5, g5, q4⟩ := hq__
  exact d_setItem hu I5 g5 ry rz fun s6 I6 => ⟨σ, H5, I6, q4⟩
end
theorem dk_empty {P : Program} {w : World} {H : Hp} (h : Heap) (hb : sysModules < h.objs.size) : ObjOk P w H (h.push { cls := .type "dict", data := .dict #[] }) h.objs.size (.dK []) :=
  ⟨Nat.zero_le _, beq_eq_false_iff_ne.mpr (Ne.symm (Nat.ne_of_lt hb)), [], .nil, Heap.DictOf.new h⟩
noncomputable def tDNewK : TE := fun _ H Q => ∀ p, H p = none → Q (.ref p) (upd H p (.dK []))
section
variable {X : Cx} {pos : Pos}
theorem pe_dnewK : PE X (.Dict [] [] pos) tDNewK := fun pins s σ H Q I h =>
  wpAny_Dict_empty ⟨.ref s.heap.objs.size, _, I.laid (a := s.heap.objs.size) (o := .dK []) (t' := s.toks) (fun _ _ q => Heap.get?_push_of_some _ q) (Nat.le_refl _) (dk_empty s.heap I.big), rfl, h _ (I.hok.fresh (Nat.le_refl _))⟩
end
structure M2 (X : Cx) (o : Expr) (m : Str) (apos : Pos) (e f : Expr) (cpos : Pos) : Prop where
  base : attributeBase o m X.env (eval o X.env) = eval o X.env
  few : ((backTo cpos (starEach [e, f] X.env)).all (fun x => !x.1) && (backToKw cpos (keywordEach [] X.env)).all (fun x => x.1.isSome)
    && decide (([e, f] : List Expr).length + ([] : List Keyword).length + (if ([] : List Keyword).isEmpty then 0 else 1) < 30)) = true
  line : (apos.endLine == cpos.line) = true
  trees : backTo cpos (starEach [e, f] X.env) = [(false, eval e X.env), (false, eval f X.env)]
noncomputable def IsD (H : Hp) (a : Addr) : Prop := (∃ kvs, Rd H a (.dK kvs)) ∨ ∃ kvs, Rd H a (.dT kvs)
theorem isD_at {X : Cx} {pins : List (Addr × Obj)} {σ : St} {H : Hp} {s : Shared} {a : Addr} (I : Inv X pins σ H s) (d : IsD H a) :
    s.TypeIs (.ref a) "dict" ∧ (∀ b, Value.ref a = .ref b → ∃ ob, s.heap.get? b = some ob ∧ ob.dict = none) ∧ (a == sysModules) = false := by
  rcases d with ⟨kvs, e⟩ | ⟨kvs, e⟩
  · obtain ⟨_, hd, vs, _, dd⟩ := dk_rd I.hok e
    refine ⟨dd.typeIs, fun b q => ?_, hd⟩
    cases q
    obtain ⟨ob, _, _, h1, h2, _⟩ := dd
    exact ⟨ob, h1, h2.2.1⟩
  · obtain ⟨_, hd, xs, _, dd⟩ := dt_rd I.hok e
    refine ⟨dd.typeIs, fun b q => ?_, hd⟩
    cases q
    obtain ⟨ob, _, _, h1, h2, _⟩ := dd
    exact ⟨ob, h1, h2.2.1⟩
section
variable {X : Cx} {pins : List (Addr × Obj)} {σ : St} {H : Hp} {s : Shared} {a : Addr} {y d : V} {u r : Value} {o : Option V} {A : Around} {E : Value → Shared → Prop}
theorem d_get2 {Q : Value → Shared → Prop} (hu : A.units + 1 < cLine) (I : Inv X pins σ H s) (g : DGet H a y o) (ry : RelV y u) (rd : RelV d r) (h : ∀ w' s', Inv X pins σ H s' → RelV (o.getD d) w' → Q w' s') :
    wpAny (model X.prog X.w) A (call (.builtin "dict.get") [.ref a, u, r]) Q E s := by
  rcases g with ⟨kvs, k, e, ey, l⟩ | ⟨kvs, k, b, e, ey, eb, l⟩
  · subst ey
    obtain ⟨z, hd, vs, rel, dd⟩ := dk_rd I.hok e
    refine call_meetsIn PySem.F.slot_dict_get dd.typeIs PySem.F.entry_dict_get (PySem.F.args_dict_get_3 _ _ _) (meets_dict_get_default (mixKind X.prog X.w) a (kV_is ry) hd r) ⟨_, dd.mapOf, h _ _ (I.tok _) ?_⟩
    rw [l]
    exact (rel.val k).getD rd
  · subst ey
    cases (show u = Value.ref b from ry)
    obtain ⟨z, hd, xs, rel, dd⟩ := dt_rd I.hok e
    refine call_meetsIn PySem.F.slot_dict_get dd.typeIs PySem.F.entry_dict_get (PySem.F.args_dict_get_3 _ _ _) (meetsH_dict_get_default (tupleKind (mixKind X.prog X.w)) a b hd r) ⟨tupleKind_room_in1 hu, k, xs, key_of I.hok eb, dd, h _ _ (I.tok _) ?_⟩
    rw [l]
    exact (rel.val k).getD rd
end
noncomputable def tDGet2 (td ty tx : TE) : TE := fun σ H Q => td σ H fun x H1 => ∃ a, x = .ref a ∧ IsD H1 a ∧ ty σ H1 fun y H2 => tx σ H2 fun z H3 => ∃ o, DGet H3 a y o ∧ Q (o.getD z) H3
section
variable {X : Cx} {o e f : Expr} {apos cpos : Pos} {td ty tx : TE}
theorem pe_dget2 (hu : X.A.units + 1 < cLine) (ho : PE X o td) (he : PE X e ty) (hf : PE X f tx) (m : M2 X o "get" apos e f cpos) : PE X (.Call (.Attribute o "get" apos) [e, f] [] cpos) (tDGet2 td ty tx) := by
  intro pins s σ H Q I h
  refine wpAny_Call_method m.base m.few m.line PySem.F.plainAttrs_dict PySem.F.slot_dict_get PySem.F.type_dict_get (thn (ho pins s σ H _ I h) fun u s1 hq__ => ?_)
  obtain ⟨x, H1, I1, rx, a, ex, d, q1⟩ := hq__
  subst ex
  obtain rfl : u = Value.ref a := rx
  obtain ⟨t1, t2, _⟩ := isD_at I1 d
  refine ⟨t1, t2, ?_⟩
  rw [m.trees]
  refine Calls.callWith_builtin rfl (Calls.evalArgs_plain (Calls.spliced_cons (thn (he pins s1 σ H1 _ I1 q1) fun iv s2 ⟨y, H2, I2, ry, q2⟩ =>
    Calls.spliced_cons (thn (hf pins s2 σ H2 _ I2 q2) fun fv s3 ⟨z, H3, I3, rz, ov, g, q3⟩ => Calls.spliced_nil ?_))))
  exact d_get2 hu I3 g ry rz fun w' s4 I4 rw' => ⟨_, H3, I4, rw', q3⟩
end
section
variable {X : Cx} {pins : List (Addr × Obj)} {σ : St} {H : Hp} {s : Shared} {a : Addr} {kvs : List (Key × V)} {A : Around} {E : Value → Shared → Prop}
end
section
variable {X : Cx} {pins : List (Addr × Obj)} {σ : St} {H : Hp} {s : Shared} {a : Addr} {y : V} {u : Value} {A : Around} {E : Value → Shared → Prop}
end
end L2
namespace Att
open PySem PySem.W PySem.Calls PyProof.Rows
theorem ints_of_wellAll {P : Params} {h : Heap} : ∀ (ns : List Int) (vs : List Value), WellAll P h vs (ns.map WData.int) → IntsAre vs ns := by
  intro ns
  induction ns with
  | nil =>
    intro vs w
    rw [List.map_nil] at w
    cases w
    exact .nil
  | cons n ns ih =>
    intro vs w
    rw [List.map_cons] at w
    cases w with
    | cons a b =>
      cases a
      exact .cons _ _ (ih _ b)
theorem script_of {l : OpenLaw} {n : Nat} (hn : l.most = some n) {P : Params} {h : Heap} {args : List WData} {vals : List Value}
    (hpre : l.row.toRowW.claim.pre args = true) (hwl : WellAll P h vals args) :
    ∃ a vs ns, vals = [Value.ref a] ∧ args = [WData.list (ns.map WData.int)] ∧ h.get? a = some { cls := .type "list", data := .seq vs.toArray } ∧ IntsAre vs ns ∧ ns.length ≤ n := by
  have hsh : WShape.hasAll [] args [.list .int] = true := (pre_splitW hpre).1
  have hc : l.pre.holds [] { args := args } = true := (pre_splitW hpre).2
  obtain ⟨d, r, rfl, h1, h2⟩ := hasAllW_cons hsh
  obtain rfl := hasAllW_nil h2
  obtain ⟨xs, rfl, h3⟩ := hasW_list h1
  obtain ⟨ns, rfl⟩ := items_int h3
  have hlen : ns.length ≤ n := by
    unfold OpenLaw.pre at hc
    have h4 : (WTm.not (.lt (.lit (.int (n : Int))) (.len (.arg 0)))).holds [] { args := [.list (ns.map .int)] } = true := by
      have h4 := (holds_andW hc).1
      rw [hn] at h4
      exact h4
    have h5 := condW_of h4 (w_not (w_lt w_lit (w_len_list (w_arg rfl))))
    rw [List.length_map] at h5
    refine Nat.le_of_not_lt fun q => ?_
    have q' : (n : Int) < ((ns.length : Nat) : Int) := by omega
    first
      | (rw [decide_eq_true q'] at h5; exact absurd h5 (by decide))
      | (simp at h5; omega)
  cases hwl with
  | cons w1 w2 =>
    cases w2
    cases w1 with
    | list ho hall => exact ⟨_, _, ns, rfl, rfl, ho, ints_of_wellAll ns _ hall, hlen⟩
theorem post_true (l : OpenLaw) (args : List WData) : l.row.toRowW.claim.post args (.bool true) args = true :=
  postW_of (r := l.row.toRowW) (X := (true == true))
    (show WShape.has [] (.bool true) .bool = true by first | rfl | decide | simp [WShape.has, WShape.arms, WShape.armsAll])
    (show (WTm.eq .res (.lit (.bool true))).value [] { args := args, res := some (.bool true), after := args } = some (.bool (true == true)) from w_eq_bool (w_res rfl) w_lit) rfl
theorem attach_call {l : OpenLaw} {n : Nat} {q : Program} {loose : List Str} {XP : (Str → Option Value) → Heap → Prop} {YP : World → Heap → Prop} {d : DefRec}
    (hn : l.most = some n) (hdf : d.params.defaults = [])
    (call : ∀ (w : World) (s₀ s₁ : Shared) (mg mb : Str → Option Value) (fa : Addr) (o : Obj) (pm cd doc : Value) (a : Addr) (vs : List Value) (ns : List Int),
      Ground q loose [] XP w s₀ mg mb s₁.heap → YP w s₁.heap →
      s₁.heap.get? fa = some o → o.data = .func (docDef d.name d.params d.body d.scope pm cd doc) → s₁.heap.CodeRec cd d.name → mg d.name = some (.ref fa) →
      s₁.heap.get? a = some { cls := .type "list", data := .seq vs.toArray } → IntsAre vs ns → ns.length ≤ n → s₁.gens = #[] →
      codeAny (model l.prog w) callerA (.call (.ref fa) ⟨[.ref a], []⟩) (fun r s' => r = .ok (.ret (.bool true)) ∧ OldK s₁.heap s'.heap ∧ s'.os = s₁.os ∧ AllBare s'.gens) s₁) :
    WalkO q loose XP YP l.row.toRowW d [] (fun f vs => PySem.call f vs) := by
  intro w s₀ s₁ mg mb G Y fa o pm cd doc dV kV ho hd hcd hD hmg hg args vals as hpre hlay hrd hwl hlo
  obtain rfl : dV = .none := Dflts.none hD hdf
  obtain rfl : kV = .none := Dflts.noKw hD
  obtain ⟨a, vs, ns, rfl, rfl, hobj, hints, hlen⟩ := script_of hn hpre hwl
  refine enter_call (codeAny_mono (call w s₀ s₁ mg mb fa o pm cd doc a vs ns G Y ho (fd_plain hd) hcd hmg hobj hints hlen hg) fun r s' hq => ?_)
  obtain ⟨rfl, h2, h3, h4⟩ := hq
  exact ⟨.inl ⟨.bool true, .bool true, [], rfl, fun _ => rfl, .bool true, post_true l _, fun _ => ⟨List.Pairwise.nil, fun _ hm => (nomatch hm)⟩⟩, h2, h3, h4⟩
section
variable {prog : Program} {w : World} {A : Around} {E : Value → Shared → Prop} {s : Shared} {K : Frag}
end
end Att
namespace L2
open PySem PySem.Spec PyProof.Rows
theorem vals_ints : ∀ {vs : List Value} {ns : List Int}, IntsAre vs ns → Vals (ns.map V.int) vs := by
  intro vs ns h
  induction h with
  | nil => exact .nil
  | cons n t h ih => exact .cons ⟨t, rfl⟩ ih
noncomputable def Only (H : Hp) : Prop := ∀ b, H b = none ∨ ∃ o xs, H b = some (.frz o (.lst xs))
theorem law_call {P : Program} {w : World} {K : PySem.W.Frag} {mg mb : Str → Option Value} {CX : CXT} {k : Nat} {fa a : Addr} {fd : FuncData} {x : Str} {sp : Sp} {s₁ : Shared} {vs : List Value} {ns : List Int}
    (KX : K.In s₁.heap) (hns : s₁.heap.Ns mainGlobals mg) (hb : s₁.heap.Ns builtinsNs mb) (hbb : ∀ x : Str, x ≠ "__name__" → mb x = bootBuiltins x) (hlim : s₁.heap.NoLimit) (hg : s₁.gens = #[])
    (ha : s₁.heap.get? a = some { cls := .type "list", data := .seq vs.toArray }) (hi : IntsAre vs ns) (hl : ns.length ≤ sizeLine) (hr : Room k callerA)
    (F : ∀ base : Heap, K.In base → base.Ns mainGlobals mg → FnOk P w K mg base CX k fa fd [x] sp) (hbind : ∀ (s : Shared) (u : Value), BindsTo s fd ⟨[u], []⟩ [(x, u)])
    (hsp : ∀ H : Hp, Only H → SqL K H a (ns.map V.int) → sp [.ref a] H (fun v _ => v = .bl true) fun _ _ _ => False)
    (hCX : ∀ H e s', CX [] H s₁ (fun _ _ _ => False) e s' → False) :
    codeAny (model P w) callerA (.call (.ref fa) ⟨[.ref a], []⟩) (fun r s' => r = .ok (.ret (.bool true)) ∧ OldK s₁.heap s'.heap ∧ s'.os = s₁.os ∧ AllBare s'.gens) s₁ := by
  have rv := vals_ints hi
  have lenV := hi.length
  have core : ∀ H : Hp, Only H → SqL K H a (ns.map V.int) → HOk P w H s₁.heap → (∀ b, H b ≠ none → b = a) → (H a ≠ none → K.lookup a = none) →
      codeAny (model P w) callerA (.call (.ref fa) ⟨[.ref a], []⟩) (fun r s' => r = .ok (.ret (.bool true)) ∧ OldK s₁.heap s'.heap ∧ s'.os = s₁.os ∧ AllBare s'.gens) s₁ := by
    intro H hO hS hok hA hK
    have base_of : ∀ {b : Addr} {o : Obj}, s₁.heap.get? b = some o → H b = none → (hidT s₁.heap H).get? b = some o := fun e n => hidT_get e n
    have noA : ∀ {b : Addr} {o : Obj} {es : Array DictEntry} {ep : Nat}, s₁.heap.get? b = some o → o.data = .dict es ep → H b = none := fun {b o es ep} e d => by
      cases q : H b with
      | none => rfl
      | some u =>
        have e' : b = a := hA b (by rw [q]; simp)
        subst e'
        rw [ha] at e; cases e
        have d' : Data.seq vs.toArray _ = Data.dict es ep := d
        cases d'
    have nsK : ∀ {b : Addr} {m : Str → Option Value}, s₁.heap.Ns b m → (hidT s₁.heap H).Ns b m := fun {b m} ⟨o, es, ep, e, d, r⟩ => ⟨o, es, ep, base_of e (noA e d), d, r⟩
    have hKb : K.In (hidT s₁.heap H) := fun b o e => base_of (KX b o e) (by
      cases q : H b with
      | none => rfl
      | some u =>
        have e' : b = a := hA b (by rw [q]; simp)
        subst e'
        rw [hK (by rw [q]; simp)] at e; cases e)
    have hM : Mod K mg (hidT s₁.heap H) := ⟨hKb, nsK hns, ⟨mb, nsK hb, hbb⟩, let ⟨mc, h1, h2⟩ := hlim; ⟨mc, nsK h1, h2⟩⟩
    have e0 : Env0 P w K mg (hidT s₁.heap H) callerA [] s₁ H := ⟨rfl, hM, fun b o e => of_hidT e, Nat.le_of_eq (hidT_size _ _), trivial, fun b hb => absurd (show b ∈ ([] : List Addr) from hb) (by simp), hok, .of_eq hg⟩
    refine codeAny_mono ((F _ hKb (nsK hns)).run callerA [] s₁ H ⟨[.ref a], []⟩ [.ref a] [.ref a] _ _ hr e0 (hbind s₁ (.ref a)) (.cons rfl .nil) (hsp H hO hS)) fun r s' h => ?_
    cases r with
    | error e => exact (hCX H e s' h).elim
    | ok fl =>
      cases fl with
      | next => exact False.elim h
      | brk => exact False.elim h
      | cont => exact False.elim h
      | ret u =>
        obtain ⟨v, H', os, bare, un, hok', r', q⟩ := h
        have q' : v = .bl true := q
        subst q'
        obtain rfl : u = Value.bool true := r'
        refine ⟨rfl, OldK.of_keep fun b o e => ?_, os, bare⟩
        cases q : H b with
        | none => exact un.keep b o e q (by intro z; exact absurd (show b ∈ ([] : List Addr) from z) (by simp)) (by simp)
        | some u =>
          rcases hO b with z | ⟨ob, xs, z⟩
          · rw [q] at z; cases z
          · have z2 := un.frzs b ob _ z
            obtain ⟨e1, _⟩ := hok b _ z
            obtain ⟨e2, _⟩ := hok' b _ z2
            rw [e] at e1; cases e1
            exact e2
  cases hk : K.lookup a with
  | some o =>
    have e := KX a o hk
    rw [ha] at e
    cases e
    refine core (fun _ => none) (fun _ => .inl rfl) (.inr ⟨_, vs.toArray, _, hk, rfl, rfl, rfl, by rw [List.size_toArray, lenV]; exact hl, by simpa using rv⟩) (fun b u z => by have z' : (none : Option HO) = some u := z; cases z') (fun b z => absurd rfl z) fun z => absurd rfl z
  | none =>
    refine core (fun b => if b = a then some (.frz { cls := .type "list", data := .seq vs.toArray } (.lst (ns.map V.int))) else none) (fun b => ?_) (.inl (.inr ⟨{ cls := .type "list", data := .seq vs.toArray }, if_pos rfl⟩)) (fun b u z => ?_) (fun b z => ?_) fun _ => hk
    · by_cases hb : b = a
      · exact .inr ⟨_, _, if_pos hb⟩
      · exact .inl (if_neg hb)
    · by_cases hb : b = a
      · have z' := (if_pos hb).symm.trans z
        cases z'
        subst hb
        exact ⟨ha, by rw [List.length_map]; exact hl, vs, _, rv, ha⟩
      · have z' := (if_neg hb).symm.trans z
        cases z'
    · by_cases hb : b = a
      · exact hb
      · exact absurd (if_neg hb) z
end L2
namespace L2
open PySem PySem.Spec PyProof.Rows
noncomputable abbrev KOf {K : PySem.W.Frag} {h : Heap} (_ : K.In h) : PySem.W.Frag := K
theorem walk_of {l : PySem.W.OpenLaw} {n k : Nat} {q : Program} {loose : List Str} {XP : (Str → Option Value) → Heap → Prop} {YP : World → Heap → Prop} {d : DefRec} {K : Params → PySem.W.Frag} {CX : World → CXT} {sp : World → Sp} {x : Str}
    (hn : l.most = some n) (hn2 : n ≤ sizeLine) (hdf : d.params.defaults = []) (hr : Room k callerA)
    (hY : ∀ (w : World) (h : Heap), YP w h → (K w.params).In h)
    (F : ∀ (w : World) (mg : Str → Option Value) (fa : Addr) (h : Heap), (K w.params).In h → h.Ns mainGlobals mg → mg d.name = some (.ref fa) →
      ∃ fd : FuncData, (∀ (s : Shared) (u : Value), BindsTo s fd ⟨[u], []⟩ [(x, u)]) ∧
        ∀ base : Heap, (K w.params).In base → base.Ns mainGlobals mg → FnOk l.prog w (K w.params) mg base (CX w) k fa fd [x] (sp w))
    (hsp : ∀ (w : World) (H : Hp) (a : Addr) (ns : List Int), ns.length ≤ n → Only H → SqL (K w.params) H a (ns.map V.int) → sp w [.ref a] H (fun v _ => v = .bl true) fun _ _ _ => False)
    (hCX : ∀ (w : World) (H : Hp) (s : Shared) (e : Value) (s' : Shared), CX w [] H s (fun _ _ _ => False) e s' → False) :
    PySem.W.WalkO q loose XP YP l.row.toRowW d [] (fun f vs => PySem.call f vs) := by
  refine Att.attach_call hn hdf fun w s₀ s₁ mg mb fa o pm cd doc a vs ns G Y ho hd hcd hmg hobj hints hlen hg => ?_
  have KX := hY w _ Y
  obtain ⟨fd, hb, hF⟩ := F w mg fa _ KX G.T.g hmg
  exact law_call KX G.T.g G.T.b G.T.builtins G.T.nolimit hg hobj hints (Nat.le_trans hlen hn2) hr hF hb (fun H hO hS => hsp w H a ns hlen hO hS) fun H e s' => hCX w H s₁ e s'
end L2
/- THE LAST THEOREM (shape; LID, My.* are yours):
   My.Adr: a structure of the addresses that your layer names (classes, functions); My.Txt K t: a structure (Prop) of the equations over K;
   My.txt_mk : {K} {implicit addresses ..} (e1 : nsIn K mainGlobals "law" = some (some (.ref f))) (e2 : K.lookup f = some ⟨oc, od, .func (fnOf "law" "law" params body scope dV kV doc pm an cdv ct), sl⟩) (e3 : codeIn K cdv "law" = true) .. : ∃ t, My.Txt K t
set_option maxRecDepth 100000 in
set_option maxHeartbeats 0 in
theorem PySem.Challenge.cw_LID_holds : PySem.Challenge.rw_LID.Holds := by
  w_on; o_law; k_head; (case hw => w_witness2)
  k_fill
  refine L2.walk_of (l := PySem.Challenge.rw_LID) (n := 63) (k := 40) (x := "script") (CX := fun w => ..) (sp := fun _ => My.sp_law) rfl (by decide) rfl ⟨rfl, by decide, by decide⟩ (fun w h Y => PySem.W.kIn_of Y) ?F ?S ?C
  case F =>
    intro w mg fa h KX G hmg
    have T : ∃ t, My.Txt (L2.KOf KX) t := by
      dsimp only [L2.KOf]                          -- K must stand as «<heap const> w.params» for k_is
      refine' My.txt_mk ?e1 ?e2 ?e3 ..
      (case e1 => PySem.W.k_is)                    -- in the order: a name -> its address -> its object -> its parts
      (case e2 => PySem.W.k_is)
      ..
    obtain ⟨t, T⟩ := T
    have e0 := hmg.symm.trans (PySem.W.mg_of KX G T.law)
    cases e0                                       -- fa is the law's own address
    exact ⟨_, fun s u => .of_eq rfl, fun base kb nb => My.law_fn T kb nb⟩     -- if «.of_eq rfl» comes too early: refine' ⟨_, ?b, fun base kb nb => My.law_fn T kb nb⟩; exact fun s u => .of_eq rfl
  case S => exact fun w H a ns hl hO hS => ..
  case C => exact ..
(the tactic k_is has no namespace: write k_is) -/
namespace L2
open PySem PySem.Spec PyProof.Rows
noncomputable def defArgs (s : Stmt) : Arguments := match s with
  | .FunctionDef _ a _ _ _ _ _ _ _ _ => a
  | _ => { posonlyargs := [], args := [], vararg := none, kwonlyargs := [], kw_defaults := [], kwarg := none, defaults := [] }
noncomputable def defBody (s : Stmt) : List Stmt := match s with
  | .FunctionDef _ _ b _ _ _ _ _ _ _ => b
  | _ => []
noncomputable def defScope (s : Stmt) : Scope := match s with
  | .FunctionDef _ _ _ _ _ _ sc _ _ _ => sc
  | _ => { kind := .function, names := [], isGenerator := false, isCoroutine := false }
noncomputable abbrev CX0 : CXT := fun _ _ _ _ _ _ => False
noncomputable abbrev E0 : XK := fun _ _ _ => False
theorem pass0 {X : Cx} : Passes CX0 X E0 := fun _ _ _ _ _ _ _ h => h.elim
structure Fun (K : PySem.W.Frag) (x qual : Str) (st : Stmt) (f : Addr) (fd : FuncData) : Prop where
  ex : ∃ (oc : Value) (od : Option Addr) (kV doc pm : Value) (an : Option Addr) (cdv ct : Value) (osl : Array (Option Value)),
    fd = PySem.W.fnOf x qual (defArgs st) (defBody st) (defScope st) .none kV doc pm an cdv ct ∧ K.lookup f = some ⟨oc, od, .func fd, osl⟩ ∧ PySem.W.codeIn K cdv qual = true
  kp : PySem.W.keepIn K (.ref f) = true
section
variable {P : Program} {w : World} {K : PySem.W.Frag} {mg : Str → Option Value} {base : Heap}
theorem Fun.ok {x qual : Str} {st : Stmt} {f : Addr} {fd : FuncData} {N ps : List Str} {k : Nat} {sp : Sp} (F : Fun K x qual st f fd) (S : FnScope N ps (defScope st)) (len : ∀ vs H Q E, sp vs H Q E → vs.length = ps.length)
    (hbody : ∀ (cdv : Value) (A : Around) (outer : List Env) (s : Shared) (H : Hp) (vs : List V) (Q : VK) (E : XK), Room k (A.deeper (envOfC qual (defScope st) s.heap.objs.size f cdv)) → sp vs H Q E →
      ∃ t, PSs (cxOf CX0 P w K mg base N qual (defScope st) f cdv A outer s H E).nox (defBody st) t ∧ t { nx := fun _ H' => Q .non H', rt := Q } (start N vs) H) : FnOk P w K mg base CX0 (k + 1) f fd ps sp := by
  obtain ⟨oc, od, kV, doc, pm, an, cdv, ct, osl, rfl, lk, hcd⟩ := F.ex
  refine fn_of lk hcd S len fun A outer s H vs Q E hr hsp => ?_
  obtain ⟨t, h, q⟩ := hbody cdv A outer s H vs Q E hr hsp
  exact ⟨t, h.nox, q⟩
theorem Fun.binds {x qual : Str} {st : Stmt} {f : Addr} {fd : FuncData} {ps : List Str} (F : Fun K x qual st f fd)
    (h : ∀ (kV doc pm : Value) (an : Option Addr) (cdv ct : Value) (us : List Value), us.length = ps.length → bindArgs (PySem.W.fnOf x qual (defArgs st) (defBody st) (defScope st) .none kV doc pm an cdv ct) ⟨us, []⟩ = pure (ps.zip us)) : Binds K fd ps [] := by
  obtain ⟨oc, od, kV, doc, pm, an, cdv, ct, osl, rfl, lk, hcd⟩ := F.ex
  exact .all (h kV doc pm an cdv ct)
theorem fun_mk {x qual : Str} {st : Stmt} {f : Addr} {oc : Value} {od an : Option Addr} {osl : Array (Option Value)} {kV doc pm cdv ct : Value} (l : K.lookup f = some ⟨oc, od, .func (PySem.W.fnOf x qual (defArgs st) (defBody st) (defScope st) .none kV doc pm an cdv ct), osl⟩)
    (c : PySem.W.codeIn K cdv qual = true) (k : PySem.W.keepIn K (.ref f) = true) : Fun K x qual st f (PySem.W.fnOf x qual (defArgs st) (defBody st) (defScope st) .none kV doc pm an cdv ct) := ⟨⟨oc, od, kV, doc, pm, an, cdv, ct, osl, rfl, l, c⟩, k⟩
end
theorem hu_of {A : Around} {k : Nat} (hr : Room k A) : A.units + 1 < cLine := Nat.lt_of_le_of_lt (Nat.add_le_add_left (by decide : 1 ≤ 64) _) hr.units
theorem small1000 {n : Nat} (h : n ≤ 1000) : n < sizeLine := Nat.lt_of_le_of_lt h (by decide)
section
variable {X : Cx}
theorem pv (i : Nat) {x : Str} {pos : Pos} (hN : X.N[i]? = some x := by rfl) (hv : Vis X.env.scope x := by first | exact Or.inl rfl | exact Or.inr (Or.inl rfl) | exact Or.inr (Or.inr rfl)) (hd : (x == ("__debug__" : Str)) = false := by decide)
    (hcd : (x == ("__classdict__" : Str)) = false := by decide) : PE X (.Name x pos) (tVar i) := pe_var hN hv hd hcd
end
theorem iteF {A B : Prop} (h : B) : if false = true then A else B := by
  rw [if_neg Bool.false_ne_true]
  exact h
theorem iteT {A B : Prop} (h : A) : if true = true then A else B := by
  rw [if_pos rfl]
  exact h
noncomputable def Same (H H' : Hp) : Prop := ∀ b o, H b = some o → H' b = some o
theorem Same.refl (H : Hp) : Same H H := fun _ _ h => h
theorem Same.trans {H H1 H2 : Hp} (a : Same H H1) (b : Same H1 H2) : Same H H2 := fun c o h => b c o (a c o h)
theorem Same.free {H H' : Hp} (e : Same H H') {l : Addr} (h : H' l = Option.none) : H l = Option.none := by
  cases q : H l with
  | none => rfl
  | some o =>
    rw [e l o q] at h
    cases h
theorem Same.seq {K : PySem.W.Frag} {H H' : Hp} {a : Addr} {xs : List V} (e : Same H H') (h : SqL K H a xs) : SqL K H' a xs := by
  rcases h with (h | ⟨o, h⟩) | h
  · exact .inl (.inl (e _ _ h))
  · exact .inl (.inr ⟨o, e _ _ h⟩)
  · exact .inr h
section
variable {κ : Type} [DecidableEq κ]
theorem valV_not {kvs : List (κ × V)} {k : κ} (h : valV kvs k = none) : ¬ k ∈ kvs.map (·.1) := by
  intro m
  obtain ⟨p, hp, e⟩ := List.mem_map.mp m
  have q : (kvs.any fun kv => decide (kv.1 = k)) = true := List.any_eq_true.mpr ⟨p, hp, decide_eq_true e⟩
  rw [valV_any, h] at q
  exact absurd q (by simp)
theorem nd_snoc : ∀ {l : List κ} {k : κ}, l.Nodup → ¬ k ∈ l → (l ++ [k]).Nodup
  | [], k, _, _ => by simp
  | a :: r, k, h, hk => by
    obtain ⟨h1, h2⟩ := List.nodup_cons.mp h
    show (a :: (r ++ [k])).Nodup
    refine List.nodup_cons.mpr ⟨fun m => ?_, nd_snoc h2 fun m => hk (List.mem_cons.mpr (Or.inr m))⟩
    rcases List.mem_append.mp m with q | q
    · exact h1 q
    · exact hk (List.mem_cons.mpr (Or.inl (List.mem_singleton.mp q).symm))
theorem nd_putK {kvs : List (κ × V)} {k : κ} (v : V) (hn : (kvs.map (·.1)).Nodup) (h : valV kvs k = none) : ((putK kvs k v).map (·.1)).Nodup := by
  rw [putK_new v h, List.map_append]
  exact nd_snoc hn (valV_not h)
end
end L2
set_option Elab.async false
set_option linter.all false
set_option maxRecDepth 100000
namespace L2
open PySem PySem.Spec PyProof.Rows
structure BA where
  cl : List (Str × Addr)
  C : Addr
  s₀ : Shared
  H₀ : Hp
  ex : List Addr
noncomputable abbrev blk (X : Cx) (sc : Scope) (N : List Str) (b : BA) : Cx :=
  { prog := X.prog, w := X.w, K := X.K, mg := X.mg, base := X.base, A := X.A, N := N, s₀ := b.s₀, H₀ := b.H₀, env := compEnvC sc b.cl b.C X.env, outer := X.stack, stack := X.stack, ex := b.ex, fn := fun _ => false, calm := X.calm, pn := [], xe := fun _ _ => False }
noncomputable def closFrom (env : Env) : List (Str × Addr) → List (Str × NameKind) → List (Str × Addr)
  | acc, [] => acc
  | acc, (n, k) :: r => closFrom env (if k == .free then (match env.cells.lookup n with | some c => (n, c) :: acc | none => acc) else acc) r
theorem clos_run (env : Env) : ∀ (l : List (Str × NameKind)) (acc : List (Str × Addr)), (∀ y ∈ l, y.2 = .free → ∃ c, env.cells.lookup y.1 = some c) →
    (forIn l acc (fun (x : Str × NameKind) (cs : List (Str × Addr)) => (match x with
      | (name, kind) => if (kind == .free) = true then (do let a ← cellOf env name; pure (ForInStep.yield ((name, a) :: cs))) else pure (ForInStep.yield cs) : Sem (ForInStep (List (Str × Addr)))))) = (pure (closFrom env acc l) : Sem (List (Str × Addr))) := by
  intro l
  induction l with
  | nil => intro acc _; rfl
  | cons nk r ih =>
    obtain ⟨n, k⟩ := nk
    intro acc h
    have hr : ∀ y ∈ r, y.2 = .free → ∃ c, env.cells.lookup y.1 = some c := fun y hy => h y (List.mem_cons_of_mem _ hy)
    rw [List.forIn_cons]
    by_cases hk : k = .free
    · subst hk
      obtain ⟨c, hc⟩ := h (n, .free) List.mem_cons_self rfl
      have hc' : env.cells.lookup n = some c := hc
      simp only [beq_self_eq_true, if_true, closFrom, hc']
      have e : cellOf env n = pure c := by unfold cellOf; rw [hc']
      rw [e, pure_bind, pure_bind]
      exact ih _ hr
    · have hb : (k == NameKind.free) = false := by simpa using hk
      simp only [hb, Bool.false_eq_true, if_false, closFrom]
      rw [pure_bind]
      exact ih _ hr
theorem clos_eq {env : Env} {sc : Scope} (h : ∀ y ∈ sc.names, y.2 = .free → ∃ c, env.cells.lookup y.1 = some c) : closureFor sc env = pure (closFrom env [] sc.names) := by
  unfold closureFor
  exact (congrArg (fun m => m >>= fun cs => pure cs) (clos_run env sc.names [] h)).trans (pure_bind _ _)
theorem clos_sound {env : Env} : ∀ (l : List (Str × NameKind)) (acc : List (Str × Addr)), (∀ x c, acc.lookup x = some c → env.cells.lookup x = some c) →
    ∀ x c, (closFrom env acc l).lookup x = some c → env.cells.lookup x = some c := by
  intro l
  induction l with
  | nil => intro acc h x c e; exact h x c e
  | cons nk r ih =>
    obtain ⟨n, k⟩ := nk
    intro acc h x c e
    refine ih _ (fun y d q => ?_) x c e
    by_cases hk : (k == NameKind.free) = true
    · rw [if_pos hk] at q
      cases hl : env.cells.lookup n with
      | none => rw [hl] at q; exact h y d q
      | some a =>
        rw [hl] at q
        simp only [List.lookup_cons] at q
        by_cases hy : (y == n) = true
        · rw [hy] at q
          have e1 : y = n := by simpa using hy
          subst e1
          cases q
          exact hl
        · rw [Bool.not_eq_true] at hy
          rw [hy] at q
          exact h y d q
    · rw [if_neg hk] at q
      exact h y d q
theorem clos_grow {env : Env} : ∀ (l : List (Str × NameKind)) (acc : List (Str × Addr)) (x : Str), (acc.lookup x).isSome = true → ((closFrom env acc l).lookup x).isSome = true
  | [], acc, x, h => h
  | (n, k) :: r, acc, x, h => by
    refine clos_grow r _ x ?_
    by_cases hk : (k == NameKind.free) = true
    · rw [if_pos hk]
      cases env.cells.lookup n with
      | none => exact h
      | some a =>
        show (List.lookup x ((n, a) :: acc)).isSome = true
        rw [List.lookup_cons]
        by_cases hy : (x == n) = true
        · rw [hy]; rfl
        · rw [Bool.not_eq_true] at hy
          rw [hy]; exact h
    · rw [if_neg hk]; exact h
theorem clos_some {env : Env} : ∀ (l : List (Str × NameKind)) (acc : List (Str × Addr)) (x : Str), (x, NameKind.free) ∈ l → (∃ c, env.cells.lookup x = some c) → ((closFrom env acc l).lookup x).isSome = true
  | [], _, _, h, _ => by cases h
  | (n, k) :: r, acc, x, h, ⟨c, hc⟩ => by
    rcases List.mem_cons.mp h with e | h
    · obtain ⟨rfl, rfl⟩ := Prod.mk.inj e
      refine clos_grow r _ x ?_
      rw [if_pos (beq_self_eq_true _), hc]
      show (List.lookup x ((x, c) :: acc)).isSome = true
      rw [List.lookup_cons, beq_self_eq_true]; rfl
    · exact clos_some r _ x h ⟨c, hc⟩
theorem relab_free {env : Env} : ∀ (l : List (Str × NameKind)) (x : Str) (k : NameKind), (∀ y ∈ l, y.2 ≠ .cell) → k = .cell ∨ k = .free →
    (l.map fun (n, k) => if (k == NameKind.free && env.scope.kind == .function && env.kindOf n == some .cell) then (n, NameKind.cell) else (n, k)).lookup x = some k → (x, NameKind.free) ∈ l := by
  intro l
  induction l with
  | nil => intro _ _ _ _ h; simp at h
  | cons nk r ih =>
    obtain ⟨n, k'⟩ := nk
    intro x k hc hk h
    rw [List.map_cons] at h
    by_cases hx : (x == n) = true
    · have e1 : x = n := by simpa using hx
      subst e1
      by_cases hf : k' = .free
      · subst hf; exact List.mem_cons_self
      · exfalso
        have hb : (k' == NameKind.free) = false := by simpa using hf
        simp only [hb, Bool.false_and, Bool.false_eq_true, if_false, List.lookup_cons, beq_self_eq_true] at h
        have e2 : k' = k := Option.some.inj h
        rcases hk with z | z
        · exact hc (x, k') List.mem_cons_self (e2.trans z)
        · exact hf (e2.trans z)
    · rw [Bool.not_eq_true] at hx
      refine List.mem_cons_of_mem _ (ih x k (fun y hy => hc y (List.mem_cons_of_mem _ hy)) hk ?_)
      by_cases hq : (k' == NameKind.free && env.scope.kind == .function && env.kindOf n == some .cell) = true
      · simp only [hq, if_true, List.lookup_cons, hx] at h; exact h
      · rw [Bool.not_eq_true] at hq
        simp only [hq, Bool.false_eq_true, if_false, List.lookup_cons, hx] at h; exact h
theorem relab_of_free {env : Env} : ∀ (l : List (Str × NameKind)) (x : Str), l.lookup x = some .free →
    ∃ k, (k = NameKind.cell ∨ k = NameKind.free) ∧ (l.map fun (n, k) => if (k == NameKind.free && env.scope.kind == .function && env.kindOf n == some .cell) then (n, NameKind.cell) else (n, k)).lookup x = some k := by
  intro l
  induction l with
  | nil => intro _ h; simp at h
  | cons nk r ih =>
    obtain ⟨n, k'⟩ := nk
    intro x h
    rw [List.map_cons]
    by_cases hx : (x == n) = true
    · simp only [List.lookup_cons, hx] at h
      have e2 : k' = .free := Option.some.inj h
      subst e2
      by_cases hq : (NameKind.free == NameKind.free && env.scope.kind == .function && env.kindOf n == some .cell) = true
      · exact ⟨.cell, .inl rfl, by simp only [hq, if_true, List.lookup_cons, hx]⟩
      · rw [Bool.not_eq_true] at hq
        exact ⟨.free, .inr rfl, by simp only [hq, Bool.false_eq_true, if_false, List.lookup_cons, hx]⟩
    · rw [Bool.not_eq_true] at hx
      simp only [List.lookup_cons, hx] at h
      obtain ⟨k, hk, e⟩ := ih x h
      refine ⟨k, hk, ?_⟩
      by_cases hq : (k' == NameKind.free && env.scope.kind == .function && env.kindOf n == some .cell) = true
      · simp only [hq, if_true, List.lookup_cons, hx]; exact e
      · rw [Bool.not_eq_true] at hq
        simp only [hq, Bool.false_eq_true, if_false, List.lookup_cons, hx]; exact e
theorem mem_of_look {l : List (Str × NameKind)} {x : Str} {k : NameKind} : l.lookup x = some k → (x, k) ∈ l := by
  induction l with
  | nil => intro h; simp at h
  | cons p r ih =>
    intro h
    obtain ⟨n, k'⟩ := p
    by_cases hx : (x == n) = true
    · simp only [List.lookup_cons, hx] at h
      have e1 : x = n := by simpa using hx
      subst e1
      cases h
      exact List.mem_cons_self
    · rw [Bool.not_eq_true] at hx
      simp only [List.lookup_cons, hx] at h
      exact List.mem_cons_of_mem _ (ih h)
section
variable {prog : Program} {w : World} {A : Around} {E : Value → Shared → Prop} {R : Result → Shared → Prop} {s : Shared}
noncomputable abbrev NoX : Value → Shared → Prop := fun _ _ => False
theorem comp_turns {elt target iter : Expr} {ifs : List Expr} {scope : Scope} {pos : Pos} {it acc : Value} {env : Env} (J : Nat → Shared → Prop)
    (turn : ∀ n s, J n s → wpAny (model prog w) A (pyNext it) (fun r s₁ => (r = none ∧ R (.ok .next) s₁) ∨ ∃ v, r = some v ∧
      wpAny (model prog w) A (letOwnedTupleGo target it v) (fun _ s₁' => wpAny (model prog w) A (assign target env v) (fun _ s₂ =>
        wpAny (model prog w) A (forIn ifs true fun c r => if r = true then do let ok ← isTrue c env (eval c env); pure (ForInStep.yield ok) else pure (ForInStep.yield r)) (fun ok s₃ =>
          (ok = true → wpAny (model prog w) A (eval elt env) (fun x s₄ => wpAny (model prog w) A (call (.builtin "list.append") [acc, x]) (fun _ s₅ => ∃ m, m < n ∧ J m s₅) NoX s₄) NoX s₃) ∧
          (ok = false → ∃ m, m < n ∧ J m s₃)) NoX s₂) NoX s₁') NoX s₁) NoX s)
    (n : Nat) (h : J n s) : codeAny (model prog w) A (.compLoop (.ListComp elt [⟨target, iter, ifs, 0⟩] scope pos) 0 it acc env) R s := by
  refine codeAny_loop (M := model prog w) (A := A) rfl J (fun n s hJ => ?_) n h
  refine wpAny_noted (m := compTurn (.ListComp elt [⟨target, iter, ifs, 0⟩] scope pos) 0 it acc env) ?_
  rw [compTurn_list]
  refine wpAny_bind (wpAny_standAt (wpAny_bind (wpAny_mono (turn n s hJ) (fun r s₁ q => ?_) fun _ _ z => z.elim)))
  rcases q with ⟨e, q⟩ | ⟨v, e, q⟩
  · subst e
    exact wpAny_pure q
  · subst e
    refine wpAny_bind (wpAny_mono q (fun _ s₂ q => ?_) fun _ _ z => z.elim)
    refine wpAny_bind (wpAny_mono q (fun _ s₃ q => ?_) fun _ _ z => z.elim)
    refine wpAny_bind (wpAny_mono q (fun ok s₄ q => ?_) fun _ _ z => z.elim)
    cases ok with
    | false => exact wpAny_pure ⟨rfl, q.2 rfl⟩
    | true =>
      refine wpAny_bind (wpAny_bind (wpAny_mono (q.1 rfl) (fun x s₅ q => ?_) fun _ _ z => z.elim))
      exact wpAny_bind (wpAny_mono q (fun _ s₆ q => wpAny_pure (wpAny_pure ⟨rfl, q⟩)) fun _ _ z => z.elim)
end
noncomputable def PIf (X : Cx) (ifs : List Expr) (t : TT) : Prop :=
  ∀ (pins : List (Addr × Obj)) (s : Shared) (σ : St) (H : Hp) (Q : Bool → Hp → Prop), Inv X pins σ H s → t σ H Q →
    wpAny (model X.prog X.w) X.A (forIn ifs true fun c r => if r = true then do let ok ← isTrue c X.env (eval c X.env); pure (ForInStep.yield ok) else pure (ForInStep.yield r)) (TP X pins σ Q) X.xe s
noncomputable def tYes : TT := fun _ H Q => Q true H
theorem pif_nil {X : Cx} : PIf X [] tYes := fun _ _ _ H _ I h => wpAny_tests_nil ⟨H, I, h⟩
theorem pif_one {X : Cx} {c : Expr} {t : TT} (h : PT X c t) : PIf X [c] t := fun pins s σ H Q I hw => wpAny_tests_one (h pins s σ H Q I hw)
noncomputable def pick (σ : St) (js : List (Option Nat)) : St := js.map fun j => j.bind fun i => (σ[i]?).join
noncomputable def Kept (σ σ' : St) : Prop := σ'.length = σ.length ∧ ∀ (i : Nat) v, σ[i]? = some (some v) → σ'[i]? = some (some v)
noncomputable def CompB (J : It) (H1 : Hp) (js : List (Option Nat)) (g : TG) (tc : TT) (te : TE) (σ : St) (Q : VK) : Prop := ∀ acc, H1 acc = none →
  ∃ W : Nat → Nat → List V → Hp → Prop, (∃ m, W 0 m [] (upd H1 acc (.lst []))) ∧ ∀ i m ys H, W i m ys H →
    (J.stop i H ∧ Q (.ref acc) H) ∨ (J.go i H ∧ ∃ N : List V → Hp → Prop, (∀ ys' H', N ys' H' → ∃ m', m' < m ∧ W (i + 1) m' ys' H') ∧
      ∀ x H', J.yld i H x H' → g x (pick σ js) H' fun σ2 H2 => Kept (pick σ js) σ2 ∧ tc σ2 H2 fun b H3 =>
        (b = true → te σ2 H3 fun y H4 => H4 acc = some (.lst ys) ∧ ys.length < sizeLine ∧ N (ys ++ [y]) (upd H4 acc (.lst (ys ++ [y])))) ∧ (b = false → N ys H3))
noncomputable def tComp (wi : TI) (js : List (Option Nat)) (g : TG) (tc : TT) (te : TE) : TE := fun σ H Q => wi σ H fun J H1 => CompB J H1 js g tc te σ Q
theorem Un.but {fs ex : List Addr} {H H1 : Hp} {h h1 h2 : Heap} (u : Un fs ex H H1 h h1) (k : ∀ b o, h.get? b = some o → ∀ o', h1.get? b = some o' → h2.get? b = some o') : Un fs ex H H1 h h2 where
  keep := fun b o e n h1 h2 => k b o e _ (u.keep b o e n h1 h2)
  slot := fun b o e n h1 h2 => let ⟨sl, q⟩ := u.slot b o e n h1 h2; ⟨sl, k b o e _ q⟩
  free := u.free
  there := fun b o e hx => let ⟨o', q⟩ := u.there b o e hx; ⟨o', k b o e _ q⟩
  tups := u.tups
  frzs := u.frzs
  tbls := u.tbls
theorem stays_but {P : Program} {w : World} {H : Hp} {h h' : Heap} {C : Addr} (ok : HOk P w H h) (hn : H C = none) (k : ∀ b o, b ≠ C → h.get? b = some o → h'.get? b = some o) : HOk P w H h' := fun b o e => by
  refine (ok b o e).stay (fun c u hc q => k c u ?_ q) (fun _ q => q) fun _ _ q => q
  rintro rfl
  rcases hc with z | z
  · rw [z] at hn; rw [hn] at e; cases e
  · rw [hn] at z; cases z
theorem pair_get {α β : Type} {F : α → β → Prop} : ∀ {l : List α} {r : List β} {i : Nat} {b : β}, Paired F l r → r[i]? = some b → ∃ a, l[i]? = some a ∧ F a b := by
  intro l r i b h
  induction h generalizing i with
  | nil => intro e; simp at e
  | cons r t ih =>
    intro e
    cases i with
    | zero => cases e; exact ⟨_, rfl, r⟩
    | succ i => exact ih e
theorem blk_ok {X : Cx} {pins : List (Addr × Obj)} {σ : St} {H : Hp} {s : Shared} {sc : Scope} {N : List Str} {fp : List Addr} (I : Inv X pins σ H s) (hk : sc.kind = .function)
    (hcell : ∀ y ∈ sc.names, y.2 ≠ .cell) (hcl : ∀ y ∈ sc.names, y.2 = .free → ∃ c, X.env.cells.lookup y.1 = some c) (f : ∀ b ∈ fp, FpOk X pins H b) (fl : ∀ b ∈ fp, b < s.heap.objs.size) :
    (blk X sc N ⟨closFrom X.env [] sc.names, s.heap.objs.size, s, H, fp⟩).Ok where
  mod := I.ok.mod
  kind := hk
  glob := I.ok.glob
  blt := I.ok.blt
  above := Nat.le_refl _
  inj := fun x y c e1 e2 => I.ok.inj x y c (clos_sound _ [] (fun _ _ z => by simp at z) x c e1) (clos_sound _ [] (fun _ _ z => by simp at z) y c e2)
  has := fun x hx => by
    have m : (x, NameKind.free) ∈ sc.names := by
      rcases hx with z | z
      · exact relab_free (env := X.env) sc.names x _ hcell (.inl rfl) z
      · exact relab_free (env := X.env) sc.names x _ hcell (.inr rfl) z
    exact Option.isSome_iff_exists.mp (clos_some sc.names [] x m (hcl _ m rfl))
  cab := fun _ _ z => by cases z
  hd := I.ok.hd
  frames := I.ok.frames
  stk := .inl rfl
  exf := fun b hb => ⟨Nat.ne_of_lt (fl b hb), fun x c e => (f b hb).2.2.2.2.1 x c (clos_sound _ [] (fun _ _ z => by simp at z) x c e)⟩
  bs := I.bs
  bsz := Nat.le_trans I.ok.bsz I.sz
  noex := fun b o e hb => by
    rcases (f b hb).2.2.2.1 with z | z
    · exact I.ok.noex b o e z
    · exact absurd (Nat.lt_of_lt_of_le (Heap.lt_size (I.ok.bs b o e).1) z) (Nat.lt_irrefl _)
  exfs := fun b hb hs => by
    rcases List.mem_cons.mp (I.stkSub b hs) with z | z
    · exact (f b hb).2.1 z
    · exact (f b hb).2.2.1 z
  funs := I.stack
  frf := I.stkFree
theorem blk_inv {X : Cx} {pins : List (Addr × Obj)} {σ : St} {H : Hp} {s s4 : Shared} {sc : Scope} {N : List Str} {js : List (Option Nat)} {fp : List Addr} {m : Str → Option Value} (I : Inv X pins σ H s)
    (ok : (blk X sc N ⟨closFrom X.env [] sc.names, s.heap.objs.size, s, H, fp⟩).Ok) (hfree : ∀ y ∈ sc.names, y.2 = .free → X.env.kindOf y.1 = some .cell ∨ X.env.kindOf y.1 = some .free)
    (hN : Paired (fun (j : Option Nat) n => ∀ i, j = some i → X.N[i]? = some n ∧ sc.names.lookup n = some .free) js N)
    (ho : s4.os = s.os) (hg : s4.gens = s.gens) (ns : s4.heap.Ns s.heap.objs.size m) (kp : ∀ b u, s.heap.get? b = some u → s4.heap.get? b = some u) :
    Inv (blk X sc N ⟨closFrom X.env [] sc.names, s.heap.objs.size, s, H, fp⟩) [] (pick σ js) H s4 where
  ok := ok
  os := ho
  bare := by rw [hg]; exact I.bare
  base := Un.kept kp
  loc := by
    refine ⟨m, ns, fun i x v e1 e2 e3 => ?_⟩
    have e1' : N[i]? = some x := e1
    obtain ⟨j, ej, fj⟩ := pair_get hN e1'
    unfold pick at e2
    rw [List.getElem?_map, ej] at e2
    cases j with
    | none => cases e2
    | some k =>
      obtain ⟨a1, a2⟩ := fj k rfl
      have e2' : (σ[k]?).join = some v := Option.some.inj e2
      have e4 : σ[k]? = some (some v) := by
        cases z : σ[k]? with
        | none => rw [z] at e2'; cases e2'
        | some y => rw [z] at e2'; exact congrArg some e2'
      have mem := mem_of_look a2
      have kn := hfree _ mem rfl
      have vis : Vis X.env.scope x := .inr kn
      obtain ⟨m', hn', hl'⟩ := I.loc
      obtain ⟨u, ru, lk⟩ := hl' k x v a1 e4 vis
      refine ⟨u, ru, .inr ⟨?_, ?_⟩⟩
      · obtain ⟨k', hk', e⟩ := relab_of_free (env := X.env) sc.names x a2
        rcases hk' with z | z
        · subst z; exact .inl e
        · subst z; exact .inr e
      · rcases lk with ⟨z, _⟩ | ⟨_, c, hc, hcl⟩
        · rcases kn with q | q
          · have q' : X.env.kindOf x = some .cell := q
            rw [z] at q'; cases q'
          · have q' : X.env.kindOf x = some .free := q
            rw [z] at q'; cases q'
        · obtain ⟨c', e'⟩ := Option.isSome_iff_exists.mp (clos_some (env := X.env) sc.names [] x mem ⟨c, hc⟩)
          have e2 := clos_sound sc.names [] (fun _ _ z => by simp at z) x c' e'
          rw [hc] at e2
          cases e2
          obtain ⟨o, h1, h2⟩ := hcl
          exact ⟨c, e', o, kp c o h1, h2⟩
  cell := fun x c e => by
    obtain ⟨v, o, h1, h2⟩ := I.cell x c (clos_sound _ [] (fun _ _ z => by simp at z) x c e)
    exact ⟨v, o, kp c o h1, h2⟩
  free := I.hok.fresh (Nat.le_refl _)
  freeC := fun x c e => I.freeC x c (clos_sound _ [] (fun _ _ z => by simp at z) x c e)
  pin := fun p hp => by cases hp
  hok := I.hok.kept kp
  len := by
    unfold pick
    rw [List.length_map]
    exact Paired.length hN
set_option maxHeartbeats 4000000 in
theorem pe_lcomp {X : Cx} {elt iter tg : Expr} {ifs : List Expr} {sc : Scope} {pos : Pos} {wi : TI} {g : TG} {tc : TT} {te : TE} (N : List Str) (js : List (Option Nat))
    (hcalm : X.calm = true) (hi : PI X tg iter wi) (hg : ∀ b, PG (blk X sc N b) tg g) (hc : ∀ b, PIf (blk X sc N b) ifs tc) (he : ∀ b, PE (blk X sc N b) elt te)
    (hN : Paired (fun (j : Option Nat) n => ∀ i, j = some i → X.N[i]? = some n ∧ sc.names.lookup n = some .free) js N)
    (hk : sc.kind = .function := by rfl)
    (hcell : (sc.names.all fun y => y.2 != .cell) = true := by rfl)
    (hfree : (sc.names.all fun y => y.2 != .free || (X.env.scope.names.lookup y.1 == some .cell || X.env.scope.names.lookup y.1 == some .free)) = true := by rfl)
    (hnames : (sc.names.all fun y => y.2 != .local || sc.names.lookup y.1 == some .local) = true := by rfl)
    (hs : ∀ x, foldedSetIterable iter X.env x = pure x := by intro _; rfl) : PE X (.ListComp elt [⟨tg, iter, ifs, 0⟩] sc pos) (tComp wi js g tc te) := by
  intro pins s σ H Q I h
  have hcell' : ∀ y ∈ sc.names, y.2 ≠ .cell := fun y hy => by simpa using List.all_eq_true.mp hcell y hy
  have hfree' : ∀ y ∈ sc.names, y.2 = .free → X.env.kindOf y.1 = some .cell ∨ X.env.kindOf y.1 = some .free := fun y hy e => by
    have q := List.all_eq_true.mp hfree y hy
    rw [e] at q
    have q' : X.env.scope.names.lookup y.1 = some .cell ∨ X.env.scope.names.lookup y.1 = some .free := by simpa using q
    exact q'
  have hnames' : ∀ y ∈ sc.names, y.2 = .local → sc.names.lookup y.1 = some .local := fun y hy e => by
    have q := List.all_eq_true.mp hnames y hy
    rw [e] at q
    simpa using q
  have hcl : ∀ y ∈ sc.names, y.2 = .free → ∃ c, X.env.cells.lookup y.1 = some c := fun y hy e => I.ok.has y.1 (hfree' y hy e)
  rw [eval_ListComp]
  refine wpAny_comprehension_free (use := none) (g := ⟨tg, iter, ifs, 0⟩) (gs := []) rfl hs (clos_eq hcl) hk hnames' ?_
  refine thn (hi pins s σ H _ I h) fun v s1 h1 => thn h1 fun itv s2 h2 => ?_
  obtain ⟨it, fp, tn, J, H2, e, I2, T, st2, f2, q⟩ := h2
  subst e
  obtain ⟨W, ⟨m0, w0⟩, step⟩ := q _ I2.fresh
  refine wpAny_newObj_type (wpAny_newFunctionEnv hcell' (by intro y hy; simp at hy) (fun h₁ hns hsb => ?_) hk)
  dsimp only at hns hsb ⊢
  have I3 : Inv X pins σ (upd H2 s2.heap.objs.size (.lst [])) { s2 with heap := s2.heap.push { cls := .type "list", data := .seq ([] : List Value).toArray }, toks := s2.toks } := I2.lnew .nil (Nat.zero_le _)
  generalize hs3 : ({ s2 with heap := s2.heap.push { cls := .type "list", data := .seq ([] : List Value).toArray }, toks := s2.toks } : Shared) = s3 at I3
  generalize hH3 : upd H2 s2.heap.objs.size (.lst []) = H3 at I3 w0
  have es3 : s3.heap = s2.heap.push { cls := .type "list", data := .seq ([] : List Value).toArray } := by rw [← hs3]
  have hC : (s2.heap.push { cls := .type "list", data := .seq ([] : List Value).toArray }).objs.size = s3.heap.objs.size := by rw [es3]
  have f3 : ∀ b ∈ fp, FpOk X pins H3 b := fun b hb => ⟨by rw [← hH3, upd_ne (Nat.ne_of_lt (by obtain ⟨o, e, _⟩ := T.obj _ _ st2 b hb; exact Heap.lt_size e))]; exact (f2 b hb).1, (f2 b hb).2⟩
  have fl3 : ∀ b ∈ fp, b < s3.heap.objs.size := fun b hb => by
    obtain ⟨o, e, _⟩ := T.obj _ _ st2 b hb
    rw [es3, Heap.size_push]
    exact Nat.lt_succ_of_lt (Heap.lt_size e)
  have ok := blk_ok (N := N) (sc := sc) (fp := fp) I3 hk hcell' hcl f3 fl3
  have k23 : ∀ b u, s2.heap.get? b = some u → s3.heap.get? b = some u := fun b u e => by rw [es3]; exact Heap.get?_push_of_some _ e
  have k34 : ∀ b u, s3.heap.get? b = some u → h₁.get? b = some u := fun b u e => by
    rw [hC] at hsb
    refine (hsb.2 b (Nat.ne_of_lt (Heap.lt_size e))).trans (Heap.get?_push_of_some _ ?_)
    rw [← es3]; exact e
  have I4 := blk_inv (s4 := { s2 with heap := h₁, toks := s2.toks + ([] : List (Str × Value)).length }) (js := js) I3 ok hfree' hN (by rw [← hs3]) (by rw [← hs3]) (by rw [← hC]; exact hns) k34
  have st4 : tn 0 h₁ := T.keep _ _ _ st2 fun b _ o e => k34 b o (k23 b o e)
  generalize hs4 : ({ s2 with heap := h₁, toks := s2.toks + ([] : List (Str × Value)).length } : Shared) = s4 at I4
  have eh4 : s4.heap = h₁ := by rw [← hs4]
  rw [hC]
  generalize hB : (⟨closFrom X.env [] sc.names, s3.heap.objs.size, s3, H3, fp⟩ : BA) = B at ok I4
  have eC : B.C = s3.heap.objs.size := by rw [← hB]
  have stat : ∀ {H' : Hp}, (∀ b ∈ fp, H' b = none) → ∀ b ∈ fp, FpOk (blk X sc N B) [] H' b := fun hn b hb => by
    refine ⟨hn b hb, ?_, fun z => ?_, .inl (by rw [← hB]; exact hb), fun x c e => (ok.exf b (by rw [← hB]; exact hb)).2 x c e, fun p hp => by cases hp⟩
    · exact (ok.exf b (by rw [← hB]; exact hb)).1
    · exact ok.exfs b (by rw [← hB]; exact hb) z
  have fin : ∀ {s' : Shared} {H' : Hp} {σ' : St}, Inv (blk X sc N B) [] σ' H' s' → Q (.ref s2.heap.objs.size) H' →
      compPost (model X.prog X.w) X.A X.xe none (EP X pins σ Q) (.ref s2.heap.objs.size) s3.heap.objs.size (.ok .next) s' := fun {s' H' σ'} I' q' => by
    obtain ⟨m, hm, _⟩ := id I'.loc
    have hm' : s'.heap.Ns s3.heap.objs.size m := by rw [← eC]; exact hm
    refine ⟨m, hm', fun h' hsb' => ⟨.ref s2.heap.objs.size, H', ?_, rfl, q'⟩⟩
    have u1 : Un (frs X.stack) fp H2 H3 s2.heap s3.heap := by rw [← hH3]; exact Un.laid k23 (Nat.le_refl _) I2.fresh
    have u2 : Un (frs X.stack) fp H3 H' s3.heap s'.heap := by
      have z := I'.base
      rw [← hB] at z
      exact z
    have u3 : Un (frs X.stack) fp H2 H' s2.heap h' := (u1.trans u2).but fun b o e o' e' => (hsb'.2 b (by
      have z := Heap.lt_size e
      intro w
      rw [w, es3, Heap.size_push] at z
      exact Nat.lt_irrefl _ (Nat.lt_of_succ_lt z))).trans e'
    have fr' : H' s3.heap.objs.size = none := by rw [← eC]; exact I'.free
    have hok' : HOk X.prog X.w H' h' := stays_but I'.hok fr' fun b o hb e => (hsb'.2 b hb).trans e
    have os' : s'.os = s2.os := by
      have z := I'.os
      rw [← hB] at z
      rw [z, ← hs3]
    exact I2.call' (s' := { s' with heap := h' }) (ch := fp) os' u3 hok' I'.bare fun b hb => ⟨(f2 b hb).2.2.2.1, (f2 b hb).2.1, (f2 b hb).2.2.2.2.1, (f2 b hb).2.2.2.2.2⟩
  have loop : codeAny (model X.prog X.w) X.A (.compLoop (.ListComp elt [⟨tg, iter, ifs, 0⟩] sc pos) 0 (.ref it) (.ref s2.heap.objs.size) (blk X sc N B).env)
      (compPost (model X.prog X.w) X.A X.xe none (EP X pins σ Q) (.ref s2.heap.objs.size) s3.heap.objs.size) s4 := by
    refine comp_turns (fun n s' => ∃ i ys σ' H', Inv (blk X sc N B) [] σ' H' s' ∧ Kept (pick σ js) σ' ∧ tn i s'.heap ∧ (∀ b ∈ fp, H' b = none) ∧ W i n ys H') ?_ m0
      ⟨0, [], pick σ js, H3, I4, ⟨rfl, fun _ _ z => z⟩, by rw [eh4]; exact st4, fun b hb => (f3 b hb).1, w0⟩
    rintro n s5 ⟨i, ys, σ5, H5, I5', kp5, st5, fr5, w5⟩
    have I5 : Inv (blk X sc N B) [] (pick σ js) H5 s5 := I5'.weak kp5.1.symm kp5.2
    rcases step i n ys H5 w5 with ⟨stop, qn⟩ | ⟨go, N', hN', turn⟩
    · refine thn (T.done (blk X sc N B) rfl rfl rfl hcalm i [] s5 _ H5 NoX I5 (stat fr5) st5 stop) fun r s6 ⟨hr, I6⟩ => .inl ⟨hr, fin I6 qn⟩
    · refine thn (T.item (blk X sc N B) rfl rfl rfl hcalm i [] s5 _ H5 NoX I5 (stat fr5) st5 go) fun r s6 ⟨u, hr, h6⟩ => .inr ⟨u, hr, ?_⟩
      refine thn h6 fun _ s7 hq__ => ?_
      obtain ⟨x, H7, I7, r7, y7, st7, fr7⟩ := hq__
      have I7' := I7.pinned (stat fr7) (T.obj _ _ st7)
      have back : ∀ {σ8 : St} {H8 : Hp} {s8 : Shared}, Inv (blk X sc N B) ([] ++ pinsAt fp s7.heap) σ8 H8 s8 → tn (i + 1) s8.heap ∧ ∀ b ∈ fp, H8 b = none := fun {σ8 H8 s8} I8 => by
        refine ⟨T.keep _ _ _ st7 fun b hb o e => (I8.pin (b, o) (List.mem_append_right _ (List.mem_append_right _ (mem_pinsAt hb e)))).1, fun b hb => ?_⟩
        obtain ⟨o, e, d⟩ := T.obj _ _ st7 b hb
        exact (I8.pin (b, o) (List.mem_append_right _ (List.mem_append_right _ (mem_pinsAt hb e)))).2.1
      refine thn (hg B _ s7 _ H7 x u _ I7' r7 (turn x H7 y7)) fun _ s8 hq__ => ?_
      obtain ⟨σ8, H8, I8, kp8, q8⟩ := hq__
      refine thn (hc B _ s8 σ8 H8 _ I8 q8) fun ok s9 ⟨H9, I9, q9⟩ => ⟨fun e => ?_, fun e => ?_⟩
      · refine thn (he B _ s9 σ8 H9 _ I9 (q9.1 e)) fun yv s10 hq__ => ?_
        obtain ⟨y, H10, I10, r10, q10⟩ := hq__
        obtain ⟨e10, l10, n10⟩ := q10
        refine thn (mt_append _ s10 σ8 H10 (.ref s2.heap.objs.size) [y] _ _ (fun _ H' => N' (ys ++ [y]) H') I10 rfl (.cons r10 .nil) ⟨_, ys, y, rfl, rfl, e10, l10, n10⟩) fun _ s11 hq__ => ?_
        obtain ⟨_, H11, I11, _, q11⟩ := hq__
        obtain ⟨m', hm, w11⟩ := hN' _ _ q11
        obtain ⟨st11, fr11⟩ := back I11
        exact ⟨m', hm, i + 1, ys ++ [y], σ8, H11, I11.unpinned, kp8, st11, fr11, w11⟩
      · obtain ⟨m', hm, w11⟩ := hN' _ _ (q9.2 e)
        obtain ⟨st11, fr11⟩ := back I9
        exact ⟨m', hm, i + 1, ys, σ8, H9, I9.unpinned, kp8, st11, fr11, w11⟩
  have env_eq : (blk X sc N B).env = compEnvC sc (closFrom X.env [] sc.names) s3.heap.objs.size X.env := by rw [← hB]
  rw [env_eq] at loop
  have st4' : tn 0 s4.heap := by rw [eh4]; exact st4
  exact codeAny_compStart_list loop (T.self X.A 0 _ _ _ st4' loop)
end L2
set_option Elab.async false
set_option linter.all false
set_option maxRecDepth 100000
namespace L2
open PySem PySem.Spec PyProof.Rows
set_option maxHeartbeats 4000000 in
theorem ps_setC {X : Cx} {i₀ : Nat} {y₀ : Str} {py spos : Pos} {elt iter tg : Expr} {ifs : List Expr} {sc : Scope} {pos : Pos} {wi : TI} {g : TG} {tc : TT} {te : TE} (hN₀ : X.N.Nodup) (hi₀ : X.N[i₀]? = some y₀) (hx₀ : Loc X.env.scope y₀) (N : List Str) (js : List (Option Nat))
    (hcalm : X.calm = true) (hi : PI X tg iter wi) (hg : ∀ b, PG (blk X sc N b) tg g) (hc : ∀ b, PIf (blk X sc N b) ifs tc) (he : ∀ b, PE (blk X sc N b) elt te)
    (hN : Paired (fun (j : Option Nat) n => ∀ i, j = some i → X.N[i]? = some n ∧ sc.names.lookup n = some .free) js N)
    (hk : sc.kind = .function := by rfl)
    (hcell : (sc.names.all fun y => y.2 != .cell) = true := by rfl)
    (hfree : (sc.names.all fun y => y.2 != .free || (X.env.scope.names.lookup y.1 == some .cell || X.env.scope.names.lookup y.1 == some .free)) = true := by rfl)
    (hnames : (sc.names.all fun y => y.2 != .local || sc.names.lookup y.1 == some .local) = true := by rfl)
    (hs : ∀ x, foldedSetIterable iter X.env x = pure x := by intro _; rfl) (hsw : swapsWith (.ListComp elt [⟨tg, iter, ifs, 0⟩] sc pos) (some (.Name y₀ py)) spos.line X.env = pure true := by rfl)
    (hf₀ : X.fn y₀ = true ∨ X.env.scope.names.lookup y₀ = some .local := by first | exact .inl rfl | exact .inr rfl | assumption) : PS X (.Assign [.Name y₀ py] (.ListComp elt [⟨tg, iter, ifs, 0⟩] sc pos) spos) (tAsg (tComp wi js g tc te) (gName i₀)) := by
  intro pins s σ H D I h
  have hcell' : ∀ y ∈ sc.names, y.2 ≠ .cell := fun y hy => by simpa using List.all_eq_true.mp hcell y hy
  have hfree' : ∀ y ∈ sc.names, y.2 = .free → X.env.kindOf y.1 = some .cell ∨ X.env.kindOf y.1 = some .free := fun y hy e => by
    have q := List.all_eq_true.mp hfree y hy
    rw [e] at q
    have q' : X.env.scope.names.lookup y.1 = some .cell ∨ X.env.scope.names.lookup y.1 = some .free := by simpa using q
    exact q'
  have hnames' : ∀ y ∈ sc.names, y.2 = .local → sc.names.lookup y.1 = some .local := fun y hy e => by
    have q := List.all_eq_true.mp hnames y hy
    rw [e] at q
    simpa using q
  have hcl : ∀ y ∈ sc.names, y.2 = .free → ∃ c, X.env.cells.lookup y.1 = some c := fun y hy e => I.ok.has y.1 (hfree' y hy e)
  rw [exec_Assign_Name_used _ _ _ _ hsw]
  refine wpAny_bind (wpAny_standAt (wpAny_bind ?_))
  show wpAny _ X.A (do let _ ← comprehension (.ListComp elt [⟨tg, iter, ifs, 0⟩] sc pos) sc X.env _ (newList []) false (eval iter X.env) (some (assign (.Name y₀ py) X.env))) _ _ s
  refine wpAny_bind (wpAny_mono (wpAny_comprehension_free (use := some (assign (.Name y₀ py) X.env)) (Q := fun _ s' => SP X pins D .next s') (g := ⟨tg, iter, ifs, 0⟩) (gs := []) rfl hs (clos_eq hcl) hk hnames' ?_) (fun _ s' hq => wpAny_pure (wpAny_pure hq)) fun _ _ e => e)
  refine thn (hi pins s σ H _ I h) fun v s1 h1 => thn h1 fun itv s2 h2 => ?_
  obtain ⟨it, fp, tn, J, H2, e, I2, T, st2, f2, q⟩ := h2
  subst e
  obtain ⟨W, ⟨m0, w0⟩, step⟩ := q _ I2.fresh
  refine wpAny_newObj_type (wpAny_newFunctionEnv hcell' (by intro y hy; simp at hy) (fun h₁ hns hsb => ?_) hk)
  dsimp only at hns hsb ⊢
  have I3 : Inv X pins σ (upd H2 s2.heap.objs.size (.lst [])) { s2 with heap := s2.heap.push { cls := .type "list", data := .seq ([] : List Value).toArray }, toks := s2.toks } := I2.lnew .nil (Nat.zero_le _)
  generalize hs3 : ({ s2 with heap := s2.heap.push { cls := .type "list", data := .seq ([] : List Value).toArray }, toks := s2.toks } : Shared) = s3 at I3
  generalize hH3 : upd H2 s2.heap.objs.size (.lst []) = H3 at I3 w0
  have es3 : s3.heap = s2.heap.push { cls := .type "list", data := .seq ([] : List Value).toArray } := by rw [← hs3]
  have hC : (s2.heap.push { cls := .type "list", data := .seq ([] : List Value).toArray }).objs.size = s3.heap.objs.size := by rw [es3]
  have f3 : ∀ b ∈ fp, FpOk X pins H3 b := fun b hb => ⟨by rw [← hH3, upd_ne (Nat.ne_of_lt (by obtain ⟨o, e, _⟩ := T.obj _ _ st2 b hb; exact Heap.lt_size e))]; exact (f2 b hb).1, (f2 b hb).2⟩
  have fl3 : ∀ b ∈ fp, b < s3.heap.objs.size := fun b hb => by
    obtain ⟨o, e, _⟩ := T.obj _ _ st2 b hb
    rw [es3, Heap.size_push]
    exact Nat.lt_succ_of_lt (Heap.lt_size e)
  have ok := blk_ok (N := N) (sc := sc) (fp := fp) I3 hk hcell' hcl f3 fl3
  have k23 : ∀ b u, s2.heap.get? b = some u → s3.heap.get? b = some u := fun b u e => by rw [es3]; exact Heap.get?_push_of_some _ e
  have k34 : ∀ b u, s3.heap.get? b = some u → h₁.get? b = some u := fun b u e => by
    rw [hC] at hsb
    refine (hsb.2 b (Nat.ne_of_lt (Heap.lt_size e))).trans (Heap.get?_push_of_some _ ?_)
    rw [← es3]; exact e
  have I4 := blk_inv (s4 := { s2 with heap := h₁, toks := s2.toks + ([] : List (Str × Value)).length }) (js := js) I3 ok hfree' hN (by rw [← hs3]) (by rw [← hs3]) (by rw [← hC]; exact hns) k34
  have st4 : tn 0 h₁ := T.keep _ _ _ st2 fun b _ o e => k34 b o (k23 b o e)
  generalize hs4 : ({ s2 with heap := h₁, toks := s2.toks + ([] : List (Str × Value)).length } : Shared) = s4 at I4
  have eh4 : s4.heap = h₁ := by rw [← hs4]
  rw [hC]
  generalize hB : (⟨closFrom X.env [] sc.names, s3.heap.objs.size, s3, H3, fp⟩ : BA) = B at ok I4
  have eC : B.C = s3.heap.objs.size := by rw [← hB]
  have stat : ∀ {H' : Hp}, (∀ b ∈ fp, H' b = none) → ∀ b ∈ fp, FpOk (blk X sc N B) [] H' b := fun hn b hb => by
    refine ⟨hn b hb, ?_, fun z => ?_, .inl (by rw [← hB]; exact hb), fun x c e => (ok.exf b (by rw [← hB]; exact hb)).2 x c e, fun p hp => by cases hp⟩
    · exact (ok.exf b (by rw [← hB]; exact hb)).1
    · exact ok.exfs b (by rw [← hB]; exact hb) z
  have fin : ∀ {s' : Shared} {H' : Hp} {σ' : St}, Inv (blk X sc N B) [] σ' H' s' → D.nx (σ.set i₀ (some (.ref s2.heap.objs.size))) H' →
      compPost (model X.prog X.w) X.A X.xe (some (assign (.Name y₀ py) X.env)) (fun _ s' => SP X pins D .next s') (.ref s2.heap.objs.size) s3.heap.objs.size (.ok .next) s' := fun {s' H' σ'} I' q' => by
    obtain ⟨m, hm, _⟩ := id I'.loc
    have hm' : s'.heap.Ns s3.heap.objs.size m := by rw [← eC]; exact hm
    have u1 : Un (frs X.stack) fp H2 H3 s2.heap s3.heap := by rw [← hH3]; exact Un.laid k23 (Nat.le_refl _) I2.fresh
    have u2 : Un (frs X.stack) fp H3 H' s3.heap s'.heap := by
      have z := I'.base
      rw [← hB] at z
      exact z
    have fr' : H' s3.heap.objs.size = none := by rw [← eC]; exact I'.free
    have os' : s'.os = s2.os := by
      have z := I'.os
      rw [← hB] at z
      rw [z, ← hs3]
    have Io : Inv X pins σ H' s' := I2.call' (s' := s') (ch := fp) os' (u1.trans u2) I'.hok I'.bare fun b hb => ⟨(f2 b hb).2.2.2.1, (f2 b hb).2.1, (f2 b hb).2.2.2.2.1, (f2 b hb).2.2.2.2.2⟩
    have ltC : s2.heap.objs.size < s3.heap.objs.size := by rw [es3, Heap.size_push]; exact Nat.lt_succ_self _
    have cC : ∀ x c, X.env.cells.lookup x = some c → c ≠ s3.heap.objs.size := fun x c e z => by
      obtain ⟨v, q⟩ := I2.cell x c e
      exact absurd q.lt (by rw [z]; exact Nat.not_lt.mpr (Nat.le_of_lt ltC))
    have lC : X.env.locals ≠ s3.heap.objs.size := Nat.ne_of_lt (Nat.lt_trans I2.lt ltC)
    show wpAny (model X.prog X.w) X.A (assign (.Name y₀ py) X.env (.ref s2.heap.objs.size)) _ X.xe s'
    refine wpAny_assign_Name (store_ok2 Io hN₀ hi₀ hx₀ (v := .ref s2.heap.objs.size) rfl (fun s'' I'' ⟨a, sb, ha⟩ => ?_) hf₀)
    have haC : s3.heap.objs.size ≠ a := by
      rcases ha with z | z
      · rw [z]; exact lC.symm
      · exact (cC _ _ z).symm
    refine ⟨m, hm'.sameBut sb haC, fun h' sb' => ⟨_, H', I''.turned (t' := s''.toks) (it := s3.heap.objs.size) (fun b o hb e => (sb'.2 b hb).trans e) fr' lC.symm (.inr (Nat.le_trans I2.sz (Nat.le_of_lt ltC))) cC fun p hp z => ?_, q'⟩⟩
    exact absurd (Heap.lt_size (I2.pin p hp).1) (by rw [z]; exact Nat.not_lt.mpr (Nat.le_of_lt ltC))
  have loop : codeAny (model X.prog X.w) X.A (.compLoop (.ListComp elt [⟨tg, iter, ifs, 0⟩] sc pos) 0 (.ref it) (.ref s2.heap.objs.size) (blk X sc N B).env)
      (compPost (model X.prog X.w) X.A X.xe (some (assign (.Name y₀ py) X.env)) (fun _ s' => SP X pins D .next s') (.ref s2.heap.objs.size) s3.heap.objs.size) s4 := by
    refine comp_turns (fun n s' => ∃ i ys σ' H', Inv (blk X sc N B) [] σ' H' s' ∧ Kept (pick σ js) σ' ∧ tn i s'.heap ∧ (∀ b ∈ fp, H' b = none) ∧ W i n ys H') ?_ m0
      ⟨0, [], pick σ js, H3, I4, ⟨rfl, fun _ _ z => z⟩, by rw [eh4]; exact st4, fun b hb => (f3 b hb).1, w0⟩
    rintro n s5 ⟨i, ys, σ5, H5, I5', kp5, st5, fr5, w5⟩
    have I5 : Inv (blk X sc N B) [] (pick σ js) H5 s5 := I5'.weak kp5.1.symm kp5.2
    rcases step i n ys H5 w5 with ⟨stop, qn⟩ | ⟨go, N', hN', turn⟩
    · refine thn (T.done (blk X sc N B) rfl rfl rfl hcalm i [] s5 _ H5 NoX I5 (stat fr5) st5 stop) fun r s6 ⟨hr, I6⟩ => .inl ⟨hr, fin I6 qn⟩
    · refine thn (T.item (blk X sc N B) rfl rfl rfl hcalm i [] s5 _ H5 NoX I5 (stat fr5) st5 go) fun r s6 ⟨u, hr, h6⟩ => .inr ⟨u, hr, ?_⟩
      refine thn h6 fun _ s7 hq__ => ?_
      obtain ⟨x, H7, I7, r7, y7, st7, fr7⟩ := hq__
      have I7' := I7.pinned (stat fr7) (T.obj _ _ st7)
      have back : ∀ {σ8 : St} {H8 : Hp} {s8 : Shared}, Inv (blk X sc N B) ([] ++ pinsAt fp s7.heap) σ8 H8 s8 → tn (i + 1) s8.heap ∧ ∀ b ∈ fp, H8 b = none := fun {σ8 H8 s8} I8 => by
        refine ⟨T.keep _ _ _ st7 fun b hb o e => (I8.pin (b, o) (List.mem_append_right _ (List.mem_append_right _ (mem_pinsAt hb e)))).1, fun b hb => ?_⟩
        obtain ⟨o, e, d⟩ := T.obj _ _ st7 b hb
        exact (I8.pin (b, o) (List.mem_append_right _ (List.mem_append_right _ (mem_pinsAt hb e)))).2.1
      refine thn (hg B _ s7 _ H7 x u _ I7' r7 (turn x H7 y7)) fun _ s8 hq__ => ?_
      obtain ⟨σ8, H8, I8, kp8, q8⟩ := hq__
      refine thn (hc B _ s8 σ8 H8 _ I8 q8) fun ok s9 ⟨H9, I9, q9⟩ => ⟨fun e => ?_, fun e => ?_⟩
      · refine thn (he B _ s9 σ8 H9 _ I9 (q9.1 e)) fun yv s10 hq__ => ?_
        obtain ⟨y, H10, I10, r10, q10⟩ := hq__
        obtain ⟨e10, l10, n10⟩ := q10
        refine thn (mt_append _ s10 σ8 H10 (.ref s2.heap.objs.size) [y] _ _ (fun _ H' => N' (ys ++ [y]) H') I10 rfl (.cons r10 .nil) ⟨_, ys, y, rfl, rfl, e10, l10, n10⟩) fun _ s11 hq__ => ?_
        obtain ⟨_, H11, I11, _, q11⟩ := hq__
        obtain ⟨m', hm, w11⟩ := hN' _ _ q11
        obtain ⟨st11, fr11⟩ := back I11
        exact ⟨m', hm, i + 1, ys ++ [y], σ8, H11, I11.unpinned, kp8, st11, fr11, w11⟩
      · obtain ⟨m', hm, w11⟩ := hN' _ _ (q9.2 e)
        obtain ⟨st11, fr11⟩ := back I9
        exact ⟨m', hm, i + 1, ys, σ8, H9, I9.unpinned, kp8, st11, fr11, w11⟩
  have env_eq : (blk X sc N B).env = compEnvC sc (closFrom X.env [] sc.names) s3.heap.objs.size X.env := by rw [← hB]
  rw [env_eq] at loop
  have st4' : tn 0 s4.heap := by rw [eh4]; exact st4
  exact codeAny_compStart_list loop (T.self X.A 0 _ _ _ st4' loop)
end L2
set_option Elab.async false
set_option linter.all false
set_option maxRecDepth 100000
namespace L2
open PySem PySem.Spec PyProof.Rows
section
variable {X : Cx} {p : Pos}
theorem ty_int (h : X.mg "int" = none) (hg : Gl X "int" := by rfl) : PE X (.Name "int" p) (tC (.ty "int")) := pe_bltn hg h PyProof.Rows.boot_int rfl
theorem ty_bool (h : X.mg "bool" = none) (hg : Gl X "bool" := by rfl) : PE X (.Name "bool" p) (tC (.ty "bool")) := pe_bltn hg h PyProof.Rows.boot_bool rfl
theorem ty_tuple (h : X.mg "tuple" = none) (hg : Gl X "tuple" := by rfl) : PE X (.Name "tuple" p) (tC (.ty "tuple")) := pe_bltn hg h PyProof.Rows.boot_tuple rfl
theorem call_isi : CallR X (.builtin "isinstance") (fun xs H Q => ∃ x Y t b, xs = [x, .ty Y] ∧ TyOf X.K H x t ∧ PySem.W.kitOne X.K t (.type Y) = some b ∧ Q (.bl b) H) := by
  intro pins s σ H xs us Q I r h
  obtain ⟨x, Y, t, b, e, ty, ko, q⟩ := h
  subst e
  obtain ⟨u, w', e, rx, ry⟩ := vals2 r
  subst e
  cases ry
  exact isinst_ok I rx ty ko fun tk => ⟨.bl b, H, I.tok _, rfl, q⟩
end
structure Def (K : PySem.W.Frag) (mg : Str → Option Value) (x : Str) (st : Stmt) (ps : List Str) (f : Addr) (fd : FuncData) : Prop where
  fn : Fun K x x st f fd
  bd : Binds K fd ps []
  at' : mg x = some (.ref f)
section
variable {X : Cx} {k : Nat} {x : Str} {st : Stmt} {ps : List Str} {f : Addr} {fd : FuncData} {sp : Sp} {e : Expr} {es : List Expr} {t : TA} {p pos : Pos}
theorem pc (D : Def X.K X.mg x st ps f fd) (F : FnOk X.prog X.w X.K X.mg X.base CX0 k f fd ps sp) (hr : Room k X.A) (ha : PA X (e :: es) t) (hg : Gl X x := by rfl) (hdb : (x == ("__debug__" : Str)) = false := by decide)
    (he : starEach (e :: es) X.env = (false, eval e X.env) :: starEach es X.env := by rfl) (hpl : (backTo pos (starEach es X.env)).any (·.1) = false := by rfl) : PE X (.Call (.Name x p) (e :: es) [] pos) (tCall sp [] E0 t) :=
  pe_call F hr hg D.at' D.fn.kp D.bd .nil pass0 ha hdb he hpl
end
theorem Same.new {H : Hp} {a : Addr} {o : HO} (h : H a = none) : Same H (upd H a o) := fun b u e => by rw [upd_ne (ne_of_none e h)]; exact e
theorem Same.put {H H' : Hp} {a : Addr} {o : HO} (s : Same H H') (h : H a = none) : Same H (upd H' a o) := fun b u e => by rw [upd_ne (ne_of_none e h)]; exact s b u e
theorem Same.to {H H' : Hp} {a : Addr} {o : HO} (s : Same H H') (h : H' a = none) : Same H (upd H' a o) := s.trans (Same.new h)
end L2
set_option Elab.async false
set_option linter.all false
set_option maxRecDepth 100000
namespace L2
open PySem PySem.Spec PyProof.Rows
inductive DEq (K : PySem.W.Frag) (H : Hp) : Nat → V → V → Bool → Prop
  | flat {d : Nat} {x y : V} (fx : flatV x = true) (fy : flatV y = true) : DEq K H d x y (eqV x y)
  | lst {d : Nat} {a b : Addr} {xs ys : List V} {e : Nat → Bool} (h1 : SqL K H a xs) (h2 : SqL K H b ys) (hl : xs.length = ys.length)
      (he : ∀ (j : Nat) x y, xs[j]? = some x → ys[j]? = some y → DEq K H d x y (e j)) : DEq K H (d + 1) (.ref a) (.ref b) ((List.range xs.length).all e)
  | len {d : Nat} {a b : Addr} {xs ys : List V} (h1 : SqL K H a xs) (h2 : SqL K H b ys) (hl : xs.length ≠ ys.length) : DEq K H (d + 1) (.ref a) (.ref b) false
  | tup {d : Nat} {a b : Addr} {xs ys : List V} {e : Nat → Bool} (h1 : SqT K H a xs) (h2 : SqT K H b ys)
      (he : ∀ (j : Nat) x y, xs[j]? = some x → ys[j]? = some y → DEq K H d x y (e j)) : DEq K H (d + 1) (.ref a) (.ref b) ((List.range (min xs.length ys.length)).all e && xs.length == ys.length)
theorem eqV_refl : ∀ {x : V}, flatV x = true → eqV x x = true
  | .non, _ => rfl
  | .bl b, _ => by cases b <;> rfl
  | .int i, _ => by simp [eqV]
  | .str y, _ => by simp [eqV]
theorem DEq.self {X : Cx} {pins : List (Addr × Obj)} {σ : St} {H : Hp} {s : Shared} (I : Inv X pins σ H s) {d : Nat} {x y : V} {b : Bool} (h : DEq X.K H d x y b) : x = y → b = true := by
  induction h with
  | flat fx fy => intro e; subst e; exact eqV_refl fx
  | @lst d a b xs ys e h1 h2 hl he ih =>
    intro z
    cases z
    have q := I.list_inj h1 h2
    subst q
    rw [List.all_eq_true]
    intro j hj
    have hj' : j < xs.length := List.mem_range.mp hj
    exact ih j _ _ (List.getElem?_eq_getElem hj') (List.getElem?_eq_getElem hj') rfl
  | len h1 h2 hl =>
    intro z
    cases z
    have q := I.list_inj h1 h2
    exact absurd (congrArg List.length q) hl
  | @tup d a b xs ys e h1 h2 he ih =>
    intro z
    cases z
    have q := I.tuple_inj h1 h2
    subst q
    rw [Bool.and_eq_true, List.all_eq_true]
    refine ⟨fun j hj => ?_, by simp⟩
    have hj' : j < xs.length := by have := List.mem_range.mp hj; omega
    exact ih j _ _ (List.getElem?_eq_getElem hj') (List.getElem?_eq_getElem hj') rfl
theorem Vals.at {xs : List V} {us : List Value} (r : Vals xs us) {j : Nat} (h : j < us.toArray.size) : ∃ x, xs[j]? = some x ∧ RelV x us.toArray[j] := by
  have hl := r.length
  have h' : j < xs.length := by simpa [hl] using h
  obtain ⟨u, e, ru⟩ := r.get (List.getElem?_eq_getElem h')
  refine ⟨_, List.getElem?_eq_getElem h', ?_⟩
  have h2 : j < us.length := by simpa using h
  rw [List.getElem?_eq_getElem h2] at e
  have e2 : us[j] = u := Option.some.inj e
  simpa [e2] using ru
theorem DEq.at {X : Cx} {pins : List (Addr × Obj)} {σ : St} {H : Hp} {s : Shared} (I : Inv X pins σ H s) {d : Nat} {x y : V} {b : Bool} (h : DEq X.K H d x y b) :
    ∀ {A : Around} {u v : Value}, A.units + d < cLine → RelV x u → RelV y v → SeqAt.EqAt A s u v b := by
  induction h with
  | flat fx fy => intro A u v hu rx ry; exact eqAt_V rx ry fx fy
  | @lst d a b xs ys e h1 h2 hl he ih =>
    intro A u v hu rx ry
    cases rx; cases ry
    by_cases hab : a = b
    · have z : (List.range xs.length).all e = true := (DEq.lst h1 h2 hl he).self I (by rw [hab])
      rw [z, hab]
      exact SeqAt.EqAt.same _
    · obtain ⟨its, r, pl, _⟩ := I.list h1
      obtain ⟨its2, r2, pl2, _⟩ := I.list h2
      have l1 := r.length
      have l2 := r2.length
      have q := SeqAt.RcAt.lists (A := A) (e := e) pl.isList pl2.isList (by simp; omega) (by omega) fun j j1 j2 => by
        obtain ⟨x, ex, rx⟩ := r.at j1
        obtain ⟨y, ey, ry⟩ := r2.at j2
        exact ih j x y ex ey (by show A.units + 1 + d < cLine; omega) rx ry
      refine SeqAt.EqAt.of_refs hab ?_
      simpa [l1] using q
  | @len d a b xs ys h1 h2 hl =>
    intro A u v hu rx ry
    cases rx; cases ry
    have hab : a ≠ b := by
      rintro rfl
      exact hl (congrArg List.length (I.list_inj h1 h2))
    obtain ⟨its, r, pl, _⟩ := I.list h1
    obtain ⟨its2, r2, pl2, _⟩ := I.list h2
    have l1 := r.length
    have l2 := r2.length
    exact SeqAt.EqAt.of_refs hab (SeqAt.RcAt.lists_lengths pl.isList pl2.isList (by simp; omega) (by omega))
  | @tup d a b xs ys e h1 h2 he ih =>
    intro A u v hu rx ry
    cases rx; cases ry
    by_cases hab : a = b
    · have z := (DEq.tup h1 h2 he).self I (by rw [hab])
      rw [z, hab]
      exact SeqAt.EqAt.same _
    · obtain ⟨its, r, pl, _⟩ := I.tuple h1
      obtain ⟨its2, r2, pl2, _⟩ := I.tuple h2
      have l1 := r.length
      have l2 := r2.length
      have q := SeqAt.RcAt.tuples (A := A) (e := e) (show s.heap.IsTuple a its.toArray from pl) (show s.heap.IsTuple b its2.toArray from pl2) (by omega) fun j j1 j2 => by
        obtain ⟨x, ex, rx⟩ := r.at j1
        obtain ⟨y, ey, ry⟩ := r2.at j2
        exact ih j x y ex ey (by show A.units + 1 + d < cLine; omega) rx ry
      refine SeqAt.EqAt.of_refs hab ?_
      simpa [l1, l2] using q
section
variable {X : Cx}
noncomputable def rEqD (K : PySem.W.Frag) : R2 := fun x y H Q => ∃ d b, DEq K H d x y b ∧ d < 64 ∧ flatV x = false ∧ Q (.bl b) H
theorem op_eqD (hu : X.A.units + 64 < cLine) : OpR X (compareOp .Eq) (rEqD X.K) := by
  intro pins s σ H x y v u Q I rx ry h
  obtain ⟨d, b, dq, hd, fl, q⟩ := h
  cases dq with
  | flat fx fy => rw [fx] at fl; cases fl
  | @lst d a b xs ys e h1 h2 hl he =>
    cases rx; cases ry
    obtain ⟨its, r, pl, _⟩ := I.list h1
    obtain ⟨its2, r2, pl2, _⟩ := I.list h2
    have l1 := r.length
    have l2 := r2.length
    refine SeqAt.eq_listAt (e := e) pl.isList pl2.isList (by simp; omega) (by omega) (fun j j1 j2 => ?_) ?_
    · obtain ⟨x, ex, rx⟩ := r.at j1
      obtain ⟨y, ey, ry⟩ := r2.at j2
      exact (he j x y ex ey).at I (by show X.A.units + 1 + d < cLine; omega) rx ry
    · refine ⟨.bl _, H, I, rfl, ?_⟩
      simpa [← l1] using q
  | @len d a b xs ys h1 h2 hl =>
    cases rx; cases ry
    obtain ⟨its, r, pl, _⟩ := I.list h1
    obtain ⟨its2, r2, pl2, _⟩ := I.list h2
    have l1 := r.length
    have l2 := r2.length
    exact SeqAt.eq_list_lengthsAt pl.isList pl2.isList (by simp; omega) (by omega) ⟨.bl _, H, I, rfl, q⟩
  | @tup d a b xs ys e h1 h2 he =>
    cases rx; cases ry
    obtain ⟨its, r, pl, _⟩ := I.tuple h1
    obtain ⟨its2, r2, pl2, _⟩ := I.tuple h2
    have l1 := r.length
    have l2 := r2.length
    refine SeqAt.eq_tupleAt (e := e) (show s.heap.IsTuple a its.toArray from pl) (show s.heap.IsTuple b its2.toArray from pl2) (by omega) (fun j j1 j2 => ?_) ?_
    · obtain ⟨x, ex, rx⟩ := r.at j1
      obtain ⟨y, ey, ry⟩ := r2.at j2
      exact (he j x y ex ey).at I (by show X.A.units + 1 + d < cLine; omega) rx ry
    · refine ⟨.bl _, H, I, rfl, ?_⟩
      simpa [← l1, ← l2] using q
theorem call_sorted : CallR X (.builtin "sorted") (fun xs H Q => ∃ (p : Addr) (ns : List Int), xs = [.ref p] ∧ SqL X.K H p (ns.map V.int) ∧ ns.length < 64 ∧
    ∀ l (ms : List Int), H l = none → ms.Perm ns → ms.Pairwise (· ≤ ·) → Q (.ref l) (upd H l (.lst (ms.map V.int)))) := by
  intro pins s σ H xs us Q I r h
  obtain ⟨p, ns, e, hq, h64, q⟩ := h
  subst e
  obtain ⟨u, e, rx⟩ := vals1 r
  subst e
  cases rx
  obtain ⟨its, rv, pl, hz⟩ := I.list hq
  have hl := rv.length
  rw [List.length_map] at hl
  refine sorted_ints (vs := its) (ns := ns) pl.isList (intsAre_of rv) (by omega) fun out ns' a1 a2 a3 => ?_
  obtain ⟨ep, e⟩ := sortedAll_at s.heap its out
  have hn : s.heap.objs.size ≤ s.heap.objs.size + 1 := Nat.le_succ _
  refine ⟨.ref (s.heap.objs.size + 1), _, I.laid (t' := s.toks) (fun b o eb => sortedAll_old eb) hn (show ObjOk X.prog X.w _ _ _ (.lst (ns'.map V.int)) from ⟨?_, out.toList, ep, vals_ints a1, ?_⟩), rfl, q _ ns' (I.hok.fresh hn) a2 a3⟩
  · rw [List.length_map, a2.length_eq]; exact Nat.le_of_lt (small1000 (by omega))
  · simpa [seqObj] using e
end
end L2
set_option Elab.async false
set_option linter.all false
set_option maxRecDepth 100000
namespace L2
open PySem PySem.Spec PyProof.Rows
noncomputable def SameBut (acc : Addr) (H H' : Hp) : Prop := ∀ b o, b ≠ acc → H b = some o → H' b = some o
theorem Same.but {acc : Addr} {H H' : Hp} (s : Same H H') : SameBut acc H H' := fun b o _ e => s b o e
theorem SameBut.trans {acc : Addr} {H H1 H2 : Hp} (a : SameBut acc H H1) (b : SameBut acc H1 H2) : SameBut acc H H2 := fun c o n h => b c o n (a c o n h)
theorem SameBut.upd {acc : Addr} {H : Hp} {o : HO} : SameBut acc H (upd H acc o) := fun b u n e => by rw [upd_ne n]; exact e
theorem SameBut.same {acc : Addr} {H H' : Hp} (h : SameBut acc H H') (n : H acc = none) : Same H H' := fun b o e => h b o (ne_of_none e n) e
theorem szl {n : Nat} (h : n ≤ 1000) : n ≤ sizeLine := Nat.le_of_lt (small1000 h)
theorem szr {n : Nat} (h : Nat.ble n 1000 = true := by rfl) : n ≤ sizeLine := szl (Nat.le_of_ble_eq_true h)
theorem szn {n : Nat} (h : n < 100000) : n < sizeLine := by rw [sizeLine_eq]; omega
theorem kept1 {x : Option V} {σ : St} : Kept (none :: σ) (x :: σ) := ⟨rfl, fun i v e => by
  cases i with
  | zero => cases e
  | succ i => exact e⟩
theorem comp_walk {J : It} {H1 : Hp} {js : List (Option Nat)} {σ : St} {tc : TT} {te : TE} {Q : VK} (n : Nat) (item : Nat → V) (p : Nat → Bool) (P : Addr → Nat → V → Hp → Prop) (hn : n < 100000)
    (mono : ∀ acc i v H H', P acc i v H → SameBut acc H H' → P acc i v H')
    (hgo : ∀ i H, i < n → Same H1 H → J.go i H) (hst : ∀ H, Same H1 H → J.stop n H) (hy : ∀ i H x H', i < n → Same H1 H → J.yld i H x H' → H' = H ∧ x = item i)
    (hc : ∀ i, i < n → ∀ H2 R, Same H1 H2 → R (p i) H2 → tc (some (item i) :: pick σ js) H2 R)
    (he : ∀ acc i, i < n → p i = true → ∀ H2 R, Same H1 H2 → H1 acc = none → H2 acc ≠ none → (∀ v H3, Same H2 H3 → P acc i v H3 → R v H3) → te (some (item i) :: pick σ js) H2 R)
    (hQ : ∀ acc vs H', Same H1 H' → H1 acc = none → H' acc = some (.lst vs) → Paired (fun i v => P acc i v H') ((List.range n).filter p) vs → Q (.ref acc) H') :
    CompB J H1 (none :: js) (gName 0) tc te σ Q := by
  intro acc hacc
  refine ⟨fun i m ys H => m = n - i ∧ i ≤ n ∧ Same H1 H ∧ H acc = some (.lst ys) ∧ Paired (fun k v => P acc k v H) ((List.range i).filter p) ys, ⟨n, by simp, Nat.zero_le _, Same.new hacc, upd_same, .nil⟩, ?_⟩
  rintro i m ys H ⟨rfl, hi, s1, ha, hp⟩
  by_cases hlt : i < n
  · refine .inr ⟨hgo i H hlt s1, fun ys' H' => i < n ∧ Same H1 H' ∧ H' acc = some (.lst ys') ∧ Paired (fun k v => P acc k v H') ((List.range (i + 1)).filter p) ys', fun ys' H' ⟨z, a, b, c⟩ => ⟨n - (i + 1), by omega, rfl, hlt, a, b, c⟩, fun x H' y => ?_⟩
    obtain ⟨rfl, rfl⟩ := hy i H x H' hlt s1 y
    refine ⟨kept1, hc i hlt _ _ s1 ⟨fun hb => ?_, fun hb => ?_⟩⟩
    · refine he acc i hlt hb _ _ s1 hacc (by rw [ha]; simp) fun v H3 s3 pv => ?_
      have hlen : ys.length ≤ i := by
        rw [← Paired.length hp]
        exact Nat.le_trans (List.length_filter_le _ _) (by simp)
      refine ⟨s3 _ _ ha, szn (by omega), hlt, (s1.trans s3).put hacc, upd_same, ?_⟩
      rw [List.range_succ, List.filter_append]
      have e : List.filter p [i] = [i] := by simp [hb]
      rw [e]
      refine Paired.snoc (Paired.mapP hp fun k v q => ?_) ?_
      · exact mono acc k v _ _ (mono acc k v _ _ q s3.but) SameBut.upd
      · exact mono acc i v _ _ pv SameBut.upd
    · refine ⟨hlt, s1, ha, ?_⟩
      rw [List.range_succ, List.filter_append]
      have e : List.filter p [i] = [] := by simp [hb]
      rw [e, List.append_nil]
      exact hp
  · have e : i = n := by omega
    subst e
    exact .inl ⟨hst H s1, hQ acc ys H s1 hacc ha hp⟩
theorem paired_map {α β : Type} {f : α → β} : ∀ {l : List α} {r : List β}, Paired (fun a b => b = f a) l r → r = l.map f := by
  intro l r h
  induction h with
  | nil => rfl
  | cons h t ih => rw [h, ih]; rfl
section
variable {K : PySem.W.Frag} {H1 : Hp} {js : List (Option Nat)} {σ : St} {tc : TT} {te : TE} {Q : VK}
theorem comp_range {lo : Int} {n : Nat} (f : Nat → V) (hn : n < 100000)
    (he : ∀ i : Nat, i < n → ∀ H2 R, Same H1 H2 → (∀ H3, Same H2 H3 → R (f i) H3) → te (some (.int (lo + i)) :: pick σ js) H2 R)
    (hQ : ∀ acc H', Same H1 H' → H1 acc = none → H' acc = some (.lst ((List.range n).map f)) → Q (.ref acc) H') : CompB (Itr lo n) H1 (none :: js) (gName 0) tYes te σ Q :=
  comp_walk (J := Itr lo n) (H1 := H1) (js := js) (σ := σ) (tc := tYes) (te := te) (Q := Q) n (fun i => .int (lo + i)) (fun _ => true) (fun _ i v _ => v = f i) hn (fun _ _ _ _ _ h _ => h)
    (fun _ _ h _ => h) (fun _ _ => Nat.le_refl _) (fun _ _ _ _ _ _ y => y) (fun _ _ _ _ _ h => h) (fun _ i hi _ H2 R s _ _ k => he i hi H2 R s fun H3 s3 => k _ H3 s3 rfl)
    fun acc vs H' s n' e p => hQ acc H' s n' (by rw [e, paired_map p, List.filter_eq_self.mpr (fun _ _ => rfl)])
theorem comp_list {a : Addr} {xs : List V} (p : Nat → Bool) (P : Addr → Nat → V → Hp → Prop) (hl : SqL K H1 a xs) (hn : xs.length < 100000)
    (mono : ∀ acc i v H H', P acc i v H → SameBut acc H H' → P acc i v H')
    (hc : ∀ (i : Nat) x, xs[i]? = some x → ∀ H2 R, Same H1 H2 → R (p i) H2 → tc (some x :: pick σ js) H2 R)
    (he : ∀ acc (i : Nat) x, xs[i]? = some x → p i = true → ∀ H2 R, Same H1 H2 → H1 acc = none → H2 acc ≠ none → (∀ v H3, Same H2 H3 → P acc i v H3 → R v H3) → te (some x :: pick σ js) H2 R)
    (hQ : ∀ acc vs H', Same H1 H' → H1 acc = none → H' acc = some (.lst vs) → Paired (fun i v => P acc i v H') ((List.range xs.length).filter p) vs → Q (.ref acc) H') : CompB (Itl K a) H1 (none :: js) (gName 0) tc te σ Q :=
  comp_walk (J := Itl K a) (H1 := H1) (js := js) (σ := σ) (tc := tc) (te := te) (Q := Q) xs.length (fun i => xs.getD i .non) p P hn mono
    (fun i H h s => ⟨xs, xs[i], s.seq hl, by simp [h]⟩) (fun H s => ⟨xs, s.seq hl, Nat.le_refl _⟩)
    (fun i H x H' h s y => ⟨y.1, by have e := y.2 xs (s.seq hl); simp [e]⟩)
    (fun i h H2 R s k => hc i _ (by simp [h]) H2 R s k) (fun acc i h hp H2 R s n1 n2 k => he acc i _ (by simp [h]) hp H2 R s n1 n2 k) hQ
end
end L2
set_option Elab.async false
set_option linter.all false
set_option maxRecDepth 100000
namespace L2
open PySem PySem.Spec PyProof.Rows
section
variable {X : Cx} {tg l : Expr} {tl : TE} {es : List Expr} {k n : Nat} {t : TGs} {pos : Pos} {a : Expr} {ta : TE}
theorem ixL (K : PySem.W.Frag) (h : X.K = K := by rfl) : IxR X (rIxL K) := by subst h; exact ix_list
theorem ixT (K : PySem.W.Frag) (h : X.K = K := by rfl) : IxR X (rIxT K) := by subst h; exact ix_tup
theorem slL (K : PySem.W.Frag) (h : X.K = K := by rfl) : SlR X (rSlL K) := by subst h; exact sl_list
theorem ninS (K : PySem.W.Frag) (h : X.K = K := by rfl) : OpR X (compareOp .NotIn) (rIn K true) := by subst h; exact op_notIn_seq
theorem eqD (K : PySem.W.Frag) (hu : X.A.units + 64 < cLine) (h : X.K = K := by rfl) : OpR X (compareOp .Eq) (rEqD K) := by subst h; exact op_eqD hu
theorem cLen (K : PySem.W.Frag) (h : X.K = K := by rfl) : CallR X (.builtin "len") (fun xs H Q => ∃ x n, xs = [x] ∧ LenV K x H n ∧ Q (.int n) H) := by subst h; exact call_len
theorem cIsi (K : PySem.W.Frag) (h : X.K = K := by rfl) : CallR X (.builtin "isinstance") (fun xs H Q => ∃ x Y t b, xs = [x, .ty Y] ∧ TyOf K H x t ∧ PySem.W.kitOne K t (.type Y) = some b ∧ Q (.bl b) H) := by subst h; exact call_isi
theorem cSorted (K : PySem.W.Frag) (h : X.K = K := by rfl) : CallR X (.builtin "sorted") (fun xs H Q => ∃ (p : Addr) (ns : List Int), xs = [.ref p] ∧ SqL K H p (ns.map V.int) ∧ ns.length < 64 ∧
    ∀ l (ms : List Int), H l = none → ms.Perm ns → ms.Pairwise (· ≤ ·) → Q (.ref l) (upd H l (.lst (ms.map V.int)))) := by subst h; exact call_sorted
theorem cList (K : PySem.W.Frag) (h : X.K = K := by rfl) : CallR X (.type "list") (fun xs H Q => ∃ p ys, xs = [.ref p] ∧ (SqL K H p ys ∨ SqT K H p ys) ∧ ∀ l, H l = none → Q (.ref l) (upd H l (.lst ys))) := by subst h; exact call_list_of
theorem piL (K : PySem.W.Frag) (hl : PE X l tl) (h : X.K = K := by rfl) : PI X tg l (iList K tl) := by subst h; exact pi_list hl
theorem pgT (K : PySem.W.Frag) (hc : X.calm = true) (hg : PGs X es t) (h : X.K = K := by rfl) (hn : (assignEach es X.env).length = n := by rfl) (hst : (assignEach es X.env).findIdx? (·.1) = none := by rfl) : PG X (.Tuple es k pos) (gTup K n t) := by
  subst h; exact pg_tup hc hg hn hst
end
theorem nodupN {X : Cx} {N : List Str} (h : N.Nodup) (e : X.N = N := by rfl) : X.N.Nodup := by rw [e]; exact h
theorem cut_to (xs : List V) (k : Nat) : cutV xs none (some (k : Int)) = xs.take k := by
  unfold cutV
  rw [HT.sIx_nat, HT.sIx_none, List.drop_zero, Nat.sub_zero]
  by_cases h : k ≤ xs.length
  · rw [Nat.min_eq_left h]
  · rw [Nat.min_eq_right (by omega), List.take_of_length_le (Nat.le_refl _), List.take_of_length_le (by omega)]
theorem cut_from (xs : List V) (k : Nat) : cutV xs (some (k : Int)) none = xs.drop k := by
  unfold cutV
  rw [HT.sIx_nat, HT.sIx_none]
  by_cases h : k ≤ xs.length
  · rw [Nat.min_eq_left h, List.take_of_length_le (by rw [List.length_drop]; omega)]
  · rw [Nat.min_eq_right (by omega), Nat.sub_self, List.take_zero, List.drop_of_length_le (by omega)]
theorem cut_mid (xs : List V) (i j : Nat) : cutV xs (some (i : Int)) (some (j : Int)) = (xs.drop i).take (j - i) := by
  unfold cutV
  rw [HT.sIx_nat, HT.sIx_nat]
  by_cases h : i ≤ xs.length
  · rw [Nat.min_eq_left h]
    by_cases h2 : j ≤ xs.length
    · rw [Nat.min_eq_left h2]
    · rw [Nat.min_eq_right (by omega), List.take_of_length_le (by rw [List.length_drop]; omega), List.take_of_length_le (by rw [List.length_drop]; omega)]
  · have e : min i xs.length = xs.length := Nat.min_eq_right (by omega)
    rw [e, List.drop_of_length_le (Nat.le_refl _), List.drop_of_length_le (l := xs) (i := i) (by omega), List.take_nil, List.take_nil]
section
variable {K : PySem.W.Frag} {H : Hp} {a b : Addr}
theorem deq_flat {xs : List V} (h1 : SqL K H a xs) (h2 : SqL K H b xs) (hf : ∀ x ∈ xs, flatV x = true) : DEq K H 1 (.ref a) (.ref b) true := by
  have q := DEq.lst (d := 0) (e := fun _ => true) h1 h2 rfl fun j x y ex ey => by
    rw [ex] at ey
    cases ey
    have f := hf x (List.mem_of_getElem? ex)
    have e := DEq.flat (K := K) (H := H) (d := 0) f f
    rw [eqV_refl f] at e
    exact e
  have e : ((List.range xs.length).all fun _ => true) = true := List.all_eq_true.mpr fun _ _ => rfl
  rw [e] at q
  exact q
theorem deq_nil {xs : List V} (h1 : SqL K H a xs) (h2 : SqL K H b []) : DEq K H 1 (.ref a) (.ref b) xs.isEmpty := by
  cases xs with
  | nil => exact deq_flat h1 h2 fun x hx => by cases hx
  | cons x r => exact DEq.len h1 h2 (by simp)
end
theorem ifB {b : Bool} {A B : Prop} (h1 : b = true → A) (h2 : b = false → B) : if b = true then A else B := by
  cases b with
  | true => exact iteT (h1 rfl)
  | false => exact iteF (h2 rfl)
theorem ifEq {i j : Int} {A B : Prop} (h1 : i = j → A) (h2 : i ≠ j → B) : if decide (V.int i = V.int j) = true then A else B := by
  by_cases h : i = j
  · rw [if_pos (by simp [h])]; exact h1 h
  · rw [if_neg (by simp [h])]; exact h2 h
theorem ifD {c : Prop} [Decidable c] {A B : Prop} (h1 : c → A) (h2 : ¬ c → B) : if decide c = true then A else B := by
  by_cases h : c
  · rw [if_pos (decide_eq_true h)]; exact h1 h
  · rw [if_neg (by simp [h])]; exact h2 h
end L2
set_option Elab.async false
set_option linter.all false
set_option maxRecDepth 100000
namespace L2
open PySem PySem.Spec PyProof.Rows
section
variable {X : Cx} {tg l : Expr} {tl : TE}
end
end L2
set_option Elab.async false
set_option linter.all false
set_option maxRecDepth 100000
namespace L2
open PySem PySem.Spec PyProof.Rows
section
variable {X : Cx} {es : List Expr} {t : TA}
end
end L2
set_option Elab.async false
set_option linter.all false
set_option maxRecDepth 100000
namespace L2
open PySem PySem.Spec PyProof.Rows
theorem Inv.view {X : Cx} {pins : List (Addr × Obj)} {σ : L2.St} {H : Hp} {s : Shared} {a : Addr} {o : HO} (I : Inv X pins σ H s) (mu : Mut (H a)) (new : ObjOk X.prog X.w (upd H a o) s.heap a o) : Inv X pins σ (upd H a o) s := by
  have hex : ∃ u, s.heap.get? a = some u := by
    cases q : H a with
    | none => rw [q] at mu; exact mu.elim
    | some u =>
      have lt := I.hok.lt q
      have := I.hok a u q
      rw [q] at mu
      cases u with
      | lst xs => obtain ⟨_, _, _, _, e⟩ := this; exact ⟨_, e⟩
      | dK kvs => obtain ⟨_, _, _, _, o, _, _, e, _⟩ := this; exact ⟨_, e⟩
      | dT kvs => obtain ⟨_, _, _, _, o, _, _, e, _⟩ := this; exact ⟨_, e⟩
      | set S n => obtain ⟨o, _, _, _, e, _⟩ := this; exact ⟨_, e⟩
      | ins C dx fs => obtain ⟨_, _, _, e, _⟩ := this; exact ⟨_, e⟩
      | ext φ => obtain ⟨_, e, _⟩ := this; exact e
      | _ => exact mu.elim
  exact I.write (h' := s.heap) (x := a) (e := a) (t' := s.toks) mu (.inl rfl) (fun _ _ _ e => e) hex new
theorem entry_dict_itemiterator_iter : entryFor table "dict_itemiterator.__iter__" = some Builtin.«dict_keyiterator.__iter__» :=
  entryFor_alias (id' := "dict_keyiterator.__iter__") (by kernel_rfl) rfl (by decide +kernel) (by kernel_rfl)
noncomputable def DW (P : Program) (w : World) (d : Addr) (vs : List (Key × Value)) (ep : Nat) : Heap → Prop := fun h => h.DictAt (mixKind P w) d vs ep
theorem DW.ok {P : Program} {w : World} {H : Hp} {h : Heap} {d : Addr} {vs : List (Key × Value)} {ep : Nat} (x : h.DictAt (mixKind P w) d vs ep) : ObjOk P w H h d (.ext (DW P w d vs ep)) :=
  ⟨x, by obtain ⟨o, _, e, _⟩ := x; exact ⟨o, e⟩, fun _ _ y k => y.at' k⟩
theorem key_rel {P : Program} {w : World} {k : Key} {u : Value} (h : (mixKind P w).is k u = true) : RelV (kV k) u := by
  rcases keyIs_shape (k := k) (v := u) h with ⟨i, t, e1, e2⟩ | ⟨x, t, e1, e2⟩
  · subst e1 e2; exact ⟨t, rfl⟩
  · subst e1 e2; exact ⟨t, rfl⟩
noncomputable def Itk (φ : Heap → Prop) (d : Addr) (kvs : List (Key × V)) : It :=
  ⟨fun i H => H d = some (.ext φ) ∧ i < kvs.length, fun i H x H' => H' = H ∧ ∃ k v, kvs[i]? = some (k, v) ∧ x = kV k, fun i H => H d = some (.ext φ) ∧ kvs.length ≤ i⟩
noncomputable def Iti (φ : Heap → Prop) (d : Addr) (kvs : List (Key × V)) : It :=
  ⟨fun i H => H d = some (.ext φ) ∧ i < kvs.length, fun i H x H' => ∃ p k v, H p = none ∧ kvs[i]? = some (k, v) ∧ x = .ref p ∧ H' = upd H p (.tup [kV k, v]), fun i H => H d = some (.ext φ) ∧ kvs.length ≤ i⟩
theorem kv_at {kvs : List (Key × V)} {vs : List (Key × Value)} (r : KV kvs vs) {i : Nat} (h : i < kvs.length) : ∃ k v u, kvs[i]? = some (k, v) ∧ vs[i]? = some (k, u) ∧ RelV v u := by
  have hl := r.length
  obtain ⟨a, ha, f⟩ := pair_get (i := i) (b := vs[i]) r (List.getElem?_eq_getElem (by omega))
  refine ⟨a.1, a.2, vs[i].2, ha, ?_, f.2⟩
  rw [List.getElem?_eq_getElem (by omega), f.1]
theorem turn_keys {P : Program} {w : World} {K : PySem.W.Frag} {tg : Expr} (d it : Addr) {kvs : List (Key × V)} {vs : List (Key × Value)} {ep : Nat} (r : KV kvs vs) :
    Turn P w K tg (Itk (DW P w d vs ep) d kvs) [it] it (fun i h => h.IsKeyIter it d i vs.length ep) where
  mem := by simp
  obj := fun i h st b hb => by
    have e : b = it := by simpa using hb
    subst e
    obtain ⟨o, e, c, d⟩ := st
    exact ⟨o, e, fun v z => by rw [d] at z; cases z⟩
  keep := fun i h h' st k => st.at fun o e => k it (by simp) o e
  item := by
    intro X hP hw hK hc i pins s σ H E I hf st hg
    subst hP hw hK
    obtain ⟨hd, hi⟩ := hg
    obtain ⟨dm, _⟩ := (show ObjOk X.prog X.w H s.heap d (.ext (DW X.prog X.w d vs ep)) from I.hok d _ hd)
    obtain ⟨k, v, u, e1, e2, _⟩ := kv_at r hi
    obtain ⟨f0, f1, f2, f3, f4, f5⟩ := hf it (by simp)
    refine wpAny_pyNext_dict_item st dm e2 fun key h' hkey st' sb => ?_
    have I1 : Inv X pins σ H { s with heap := h' } := I.turned (t' := s.toks) (fun b o hb e => (sb.2 b hb).trans e) f0 f1 f3 f4 f5
    obtain ⟨o, e, c, d'⟩ := id st'
    exact ⟨key, rfl, go_of (s := { s with heap := h' }) e c d' (by decide) ⟨kV k, H, I1, key_rel hkey, ⟨rfl, k, v, e1, rfl⟩, st', fun b hb => (hf b hb).1⟩⟩
  done := by
    intro X hP hw hK hc i pins s σ H E I hf st hg
    subst hP hw hK
    obtain ⟨hd, hi⟩ := hg
    obtain ⟨dm, _⟩ := (show ObjOk X.prog X.w H s.heap d (.ext (DW X.prog X.w d vs ep)) from I.hok d _ hd)
    obtain ⟨f0, f1, f2, f3, f4, f5⟩ := hf it (by simp)
    have hl := r.length
    exact wpAny_pyNext_dict_end (I.ok.hd hc) st dm (List.getElem?_eq_none (by omega)) fun h' eb => ⟨rfl, I.turned (t' := s.toks) (fun b o hb e => eb b o hb e) f0 f1 f3 f4 f5⟩
  self := fun _ _ _ _ _ st h => wpAny_pyIter_keyiter st h
theorem turn_items {P : Program} {w : World} {K : PySem.W.Frag} {es : List Expr} {k1 : Nat} {pos : Pos} (d it : Addr) {kvs : List (Key × V)} {vs : List (Key × Value)} {ep : Nat} (r : KV kvs vs) :
    Turn P w K (.Tuple es k1 pos) (Iti (DW P w d vs ep) d kvs) [it] it (fun i h => ∃ ok ov, IsItemIter h it d i vs.length ep ok ov) where
  mem := by simp
  obj := fun i h st b hb => by
    have e : b = it := by simpa using hb
    subst e
    obtain ⟨_, _, e⟩ := st
    exact ⟨_, e, fun v z => by
      have z' : Data.fields _ = Data.cell v := z
      cases z'⟩
  keep := fun i h h' st k => let ⟨a, b, e⟩ := st; ⟨a, b, k it (by simp) _ e⟩
  item := by
    intro X hP hw hK hc i pins s σ H E I hf st hg
    subst hP hw hK
    obtain ⟨hd, hi⟩ := hg
    obtain ⟨ok, ov, st⟩ := st
    obtain ⟨dm, _⟩ := (show ObjOk X.prog X.w H s.heap d (.ext (DW X.prog X.w d vs ep)) from I.hok d _ hd)
    obtain ⟨k, v, u, e1, e2, rv⟩ := kv_at r hi
    obtain ⟨f0, f1, f2, f3, f4, f5⟩ := hf it (by simp)
    refine wpAny_pyNext_items_item st dm e2 fun key h' hkey st' tu hz kp => ?_
    refine ⟨_, rfl, wpAny_letOwnedTupleGo_items st' fun h2 st2 sb => ?_⟩
    have hne : s.heap.objs.size ≠ it := fun z => absurd (Heap.lt_size st) (by rw [← z]; exact Nat.lt_irrefl _)
    have I1 : Inv X pins σ H { s with heap := h2 } := I.turned (t' := s.toks) (fun b o hb e => (sb.2 b hb).trans (kp b o hb e)) f0 f1 f3 f4 f5
    have fr : H s.heap.objs.size = none := I.fresh
    have e3 : h2.get? s.heap.objs.size = some { cls := .type "tuple", data := .seq #[key, u] } := (sb.2 _ hne).trans tu
    have I2 : Inv X pins σ (upd H s.heap.objs.size (.tup [kV k, v])) { s with heap := h2 } := by
      have un : Un (frs X.stack) [it] H (upd H s.heap.objs.size (.tup [kV k, v])) s.heap h2 := {
        keep := fun b o q _ _ hx => (sb.2 b (by simpa using hx)).trans (kp b o (by simpa using hx) q)
        slot := fun b o q _ _ hx => ⟨o.slots, (sb.2 b (by simpa using hx)).trans (kp b o (by simpa using hx) q)⟩
        free := fun b o q n hx => by rw [upd_ne (Nat.ne_of_lt (Heap.lt_size q))]; exact n
        there := fun b o q hx => ⟨o, (sb.2 b (by simpa using hx)).trans (kp b o (by simpa using hx) q)⟩
        tups := fun b xs q => by rw [upd_ne (ne_of_none q fr)]; exact q
        frzs := fun b o xs q => by rw [upd_ne (ne_of_none q fr)]; exact q
        tbls := fun b ps q => ⟨#[], by rw [upd_ne (ne_of_none q fr), q]; simp⟩ }
      refine I.call' (s' := { s with heap := h2 }) (ch := [it]) rfl un (fun b o e => ?_) I.bare (fun b hb => ?_)
      · by_cases hb : b = s.heap.objs.size
        · subst hb
          rw [upd_same] at e
          cases e
          refine ⟨szr, [key, u], .cons (key_rel hkey) (.cons rv .nil), _, e3, rfl, _, rfl⟩
        · rw [upd_ne hb] at e
          refine (I1.hok b o e).stay (fun _ _ _ q => q) (fun c q => by rw [upd_ne (ne_of_none q fr)]; exact q) fun c xs q => by rw [upd_ne (ne_of_none q fr)]; exact q
      · have e : b = it := by simpa using hb
        subst e
        exact ⟨f3, f1, f4, f5⟩
    exact ⟨.ref s.heap.objs.size, _, I2, rfl, ⟨_, k, v, fr, e1, rfl, rfl⟩, ⟨key, u, st2⟩, fun b hb => by
      have e : b = it := by simpa using hb
      subst e
      rw [upd_ne hne.symm]; exact f0⟩
  done := by
    intro X hP hw hK hc i pins s σ H E I hf st hg
    subst hP hw hK
    obtain ⟨hd, hi⟩ := hg
    obtain ⟨ok, ov, st⟩ := st
    obtain ⟨dm, _⟩ := (show ObjOk X.prog X.w H s.heap d (.ext (DW X.prog X.w d vs ep)) from I.hok d _ hd)
    obtain ⟨f0, f1, f2, f3, f4, f5⟩ := hf it (by simp)
    have hl := r.length
    exact wpAny_pyNext_items_end (I.ok.hd hc) st dm (List.getElem?_eq_none (by omega)) fun h' eb => ⟨rfl, I.turned (t' := s.toks) (fun b o hb e => eb b o hb e) f0 f1 f3 f4 f5⟩
  self := fun A i s Q E st h => by
    obtain ⟨ok, ov, st⟩ := st
    have hT : s.TypeIs (.ref it) "dict_itemiterator" := ⟨_, st, rfl⟩
    refine wpAny_pyIter_slot hT F.slot_dict_itemiterator_iter (wpAny_call_entry F.slot_dict_itemiterator_iter hT entry_dict_itemiterator_iter ?_ (F.args_dict_itemiterator_iter_1 _))
    show wpAny _ _ (ret (.ref it)) _ _ s
    exact wpAny_pure ⟨_, rfl, "dict_itemiterator", _, hT, F.slot_dict_itemiterator_next.lookup, h⟩
section
variable {X : Cx} {tg l : Expr} {tl : TE}
noncomputable def iKeys (tl : TE) : TI := fun σ H R => tl σ H fun x H1 => ∃ d kvs, x = .ref d ∧ H1 d = some (.dK kvs) ∧ ∀ φ, R (Itk φ d kvs) (upd H1 d (.ext φ))
theorem pi_keys (hl : PE X l tl) : PI X tg l (iKeys tl) := by
  intro pins s σ H R I h
  refine thn (hl pins s σ H _ I h) fun v s1 hq__ => ?_
  obtain ⟨x, H1, I1, r1, q1⟩ := hq__
  obtain ⟨d, kvs, e, hd, q⟩ := q1
  subst e
  cases r1
  obtain ⟨hz, hm, vs, r, dd⟩ := dk_of I1.hok hd
  obtain ⟨ep, da⟩ := dd.dictAt
  have I2 : Inv X pins σ (upd H1 d (.ext (DW X.prog X.w d vs ep))) s1 := I1.view (by rw [hd]; trivial) (DW.ok da)
  refine wpAny_pyIter_dict hm da ?_
  refine ⟨s1.heap.objs.size, [s1.heap.objs.size], _, _, _, rfl, I2.kept (t' := s1.toks) fun b o e => Heap.get?_push_of_some _ e, turn_keys d _ r, ⟨_, Heap.get?_push_size _ rfl, rfl, rfl⟩, fun b hb => ?_, q _⟩
  have e : b = s1.heap.objs.size := by simpa using hb
  subst e
  exact I2.fpOk (Nat.le_refl _) (I2.hok.fresh (Nat.le_refl _))
noncomputable def VW (v d : Addr) : Heap → Prop := fun h => h.IsItemsView v d
theorem mt_items : MtR X "dict.items" (fun x xs H Q => ∃ d kvs, x = .ref d ∧ xs = [] ∧ H d = some (.dK kvs) ∧ ∀ v, H v = none → Q (.ref v) (upd H v (.ext (VW v d)))) := by
  intro pins s σ H x xs v us Q I rx rv h
  obtain ⟨d, kvs, e, e2, hd, q⟩ := h
  subst e e2
  cases rx
  have hus := rv.zero
  subst hus
  obtain ⟨hz, hm, vs, r, dd⟩ := dk_of I.hok hd
  refine call_meetsIn PySem.F.slot_dict_items dd.typeIs PySem.F.entry_dict_items (PySem.F.args_dict_items_1 _) (meets_dict_items (mixKind X.prog X.w) d hm) ⟨⟨vs, dd⟩, ?_⟩
  refine ⟨.ref s.heap.objs.size, _, I.laid (t' := s.toks) (fun b o e => Heap.get?_push_of_some _ e) (Nat.le_refl _) ?_, rfl, q _ I.fresh⟩
  exact ⟨⟨_, Heap.get?_push_size _ rfl, rfl, rfl⟩, ⟨_, Heap.get?_push_size _ rfl⟩, fun h1 h2 ⟨o, e, c⟩ k => ⟨o, k o e, c⟩⟩
noncomputable def iItems (tl : TE) : TI := fun σ H R => tl σ H fun x H1 => ∃ v d kvs, x = .ref v ∧ H1 v = some (.ext (VW v d)) ∧ H1 d = some (.dK kvs) ∧ ∀ φ, R (Iti φ d kvs) (upd H1 d (.ext φ))
theorem pi_items {es : List Expr} {k1 : Nat} {pos : Pos} (hl : PE X l tl) : PI X (.Tuple es k1 pos) l (iItems tl) := by
  intro pins s σ H R I h
  refine thn (hl pins s σ H _ I h) fun v s1 hq__ => ?_
  obtain ⟨x, H1, I1, r1, q1⟩ := hq__
  obtain ⟨v, d, kvs, e, hv, hd, q⟩ := q1
  subst e
  cases r1
  obtain ⟨hz, hm, vs, r, dd⟩ := dk_of I1.hok hd
  obtain ⟨ep, da⟩ := dd.dictAt
  obtain ⟨vw, _⟩ := (show ObjOk X.prog X.w H1 s1.heap v (.ext (VW v d)) from I1.hok v _ hv)
  have I2 : Inv X pins σ (upd H1 d (.ext (DW X.prog X.w d vs ep))) s1 := I1.view (by rw [hd]; trivial) (DW.ok da)
  refine wpAny_pyIter_items vw da ?_
  refine ⟨s1.heap.objs.size, [s1.heap.objs.size], _, _, _, rfl, I2.kept (t' := s1.toks) fun b o e => Heap.get?_push_of_some _ e, turn_items d _ r, ⟨.none, .none, Heap.get?_push_size _ rfl⟩, fun b hb => ?_, q _⟩
  have e : b = s1.heap.objs.size := by simpa using hb
  subst e
  exact I2.fpOk (Nat.le_refl _) (I2.hok.fresh (Nat.le_refl _))
theorem for_items {φ : Heap → Prop} {d : Addr} {kvs : List (Key × V)} {g : TG} {tb : TS} {D : Ends} {σ : L2.St} {H : Hp} (Pv : Nat → L2.St → Hp → Prop) (h0 : Pv 0 σ H) (hw : ∀ i σ H, i ≤ kvs.length → Pv i σ H → H d = some (.ext φ))
    (hs : ∀ i k v σ H p, kvs[i]? = some (k, v) → Pv i σ H → H p = none → g (.ref p) σ (upd H p (.tup [kV k, v])) fun σ2 H2 => tb { D with nx := Pv (i + 1), ct := Pv (i + 1), bk := D.nx } σ2 H2) (hd : ∀ σ H, Pv kvs.length σ H → D.nx σ H) :
    ∃ W : Nat → Nat → L2.St → Hp → Prop, (∃ m, W 0 m σ H) ∧ ∀ i m σ H, W i m σ H →
      ((Iti φ d kvs).stop i H ∧ D.nx σ H) ∨ ((Iti φ d kvs).go i H ∧ ∃ N : L2.St → Hp → Prop, (∀ σ' H', N σ' H' → ∃ m', m' < m ∧ W (i + 1) m' σ' H') ∧ ∀ v H', (Iti φ d kvs).yld i H v H' → g v σ H' fun σ2 H2 => tb { D with nx := N, ct := N, bk := D.nx } σ2 H2) := by
  refine ⟨fun i m σ H => m = kvs.length - i ∧ i ≤ kvs.length ∧ Pv i σ H, ⟨kvs.length, by simp, Nat.zero_le _, h0⟩, ?_⟩
  rintro i m σ H ⟨rfl, hi, p⟩
  by_cases hlt : i < kvs.length
  · refine .inr ⟨⟨hw i σ H hi p, hlt⟩, Pv (i + 1), fun σ' H' p' => ⟨kvs.length - (i + 1), by omega, rfl, hlt, p'⟩, fun v H' y => ?_⟩
    obtain ⟨q, k, v', hn, e, e2, e3⟩ := y
    subst e2 e3
    exact hs i k v' σ H q e p hn
  · have e : i = kvs.length := by omega
    subst e
    exact .inl ⟨⟨hw _ σ H hi p, Nat.le_refl _⟩, hd σ H p⟩
end
theorem comp_keys {H1 : Hp} {js : List (Option Nat)} {σ : L2.St} {te : TE} {Q : VK} {φ : Heap → Prop} {d : Addr} {kvs : List (Key × V)} (f : Key → V) (hn : kvs.length < 100000) (hd : H1 d = some (.ext φ))
    (he : ∀ (i : Nat) k v, kvs[i]? = some (k, v) → ∀ H2 R, Same H1 H2 → (∀ H3, Same H2 H3 → R (f k) H3) → te (some (kV k) :: pick σ js) H2 R)
    (hQ : ∀ acc H', Same H1 H' → H1 acc = none → H' acc = some (.lst (kvs.map fun p => f p.1)) → Q (.ref acc) H') : CompB (Itk φ d kvs) H1 (none :: js) (gName 0) tYes te σ Q :=
  comp_walk (J := Itk φ d kvs) (H1 := H1) (js := js) (σ := σ) (tc := tYes) (te := te) (Q := Q) kvs.length (fun i => ((kvs[i]?).map fun p => kV p.1).getD .non) (fun _ => true) (fun _ i v _ => v = ((kvs[i]?).map fun p => f p.1).getD .non) hn (fun _ _ _ _ _ h _ => h)
    (fun _ H h s => ⟨s _ _ hd, h⟩) (fun H s => ⟨s _ _ hd, Nat.le_refl _⟩)
    (fun i H x H' h s y => ⟨y.1, by obtain ⟨_, k, v, e, ex⟩ := y; rw [e, ex]; rfl⟩)
    (fun _ _ _ _ _ h => h)
    (fun _ i hi _ H2 R s _ _ k => by
      have e : kvs[i]? = some (kvs[i].1, kvs[i].2) := List.getElem?_eq_getElem hi
      rw [e]
      exact he i _ _ e H2 R s fun H3 s3 => k _ H3 s3 (by rw [e]; rfl))
    fun acc vs H' s n' e p => hQ acc H' s n' (by
      rw [e, paired_map p, List.filter_eq_self.mpr (fun _ _ => rfl)]
      congr 1; congr 1
      apply List.ext_getElem?
      intro i
      rw [List.getElem?_map, List.getElem?_map]
      by_cases hi : i < kvs.length
      · rw [List.getElem?_range hi, Option.map_some, List.getElem?_eq_getElem hi]; rfl
      · rw [List.getElem?_eq_none (by simp; omega), List.getElem?_eq_none (by omega)]; rfl)
end L2
set_option Elab.async false
set_option linter.all false
set_option maxRecDepth 100000
namespace L2
noncomputable abbrev HK := List (Key × V)
noncomputable def cnt (kvs : HK) (q : Nat) : Nat := (kvs.map (·.2)).count (V.int q)
noncomputable def bit (p : Prop) [Decidable p] : Nat := if p then 1 else 0
noncomputable def encA (as : List Int) : HK := as.map fun b => (Sum.inl b, V.bl true)
theorem int_dec (p q : Nat) : (V.int (p : Int) == V.int (q : Int)) = decide (q = p) := by
  by_cases h : q = p
  · subst h; simp
  · have : ¬ (V.int (p : Int) = V.int (q : Int)) := fun e => h (by injection e with e; omega)
    simp [h, this]
theorem cnt_new {kvs : HK} {k : Key} {p q : Nat} (h : valV kvs k = none) : cnt (putK kvs k (.int p)) q = cnt kvs q + bit (q = p) := by
  have a : ¬ (kvs.any fun kv => decide (kv.1 = k)) = true := by rw [valV_any, h]; simp
  unfold cnt putK bit
  rw [if_neg a, List.map_append, List.count_append]
  simp only [List.map_cons, List.map_nil, List.count_cons, List.count_nil, int_dec]
  by_cases e : q = p <;> simp [e]
theorem cnt_map_no {k : Key} {y : V} : ∀ {kvs : HK}, ¬ k ∈ kvs.map (·.1) → (kvs.map fun kv => if kv.1 = k then (kv.1, y) else kv) = kvs
  | [], _ => rfl
  | p :: r, h => by
    rw [List.map_cons, List.mem_cons] at h
    rw [List.map_cons, if_neg (fun e => h (.inl e.symm)), cnt_map_no (fun m => h (.inr m))]
theorem cnt_old : ∀ {kvs : HK} {k : Key} {p p0 q : Nat}, (kvs.map (·.1)).Nodup → valV kvs k = some (.int p0) → cnt (putK kvs k (.int p)) q + bit (q = p0) = cnt kvs q + bit (q = p) := by
  intro kvs k p p0 q nd h
  have a : (kvs.any fun kv => decide (kv.1 = k)) = true := by rw [valV_any, h]; rfl
  unfold putK
  rw [if_pos a]
  clear a
  induction kvs with
  | nil => cases h
  | cons e r ih =>
    have nd' : (e.1 :: r.map (·.1)).Nodup := nd
    obtain ⟨n1, n2⟩ := List.nodup_cons.mp nd'
    by_cases ek : e.1 = k
    · rw [valV_pos ek] at h
      have hv : e.2 = V.int p0 := Option.some.inj h
      rw [List.map_cons, if_pos ek, cnt_map_no (by rw [← ek]; exact n1)]
      unfold cnt bit
      rw [List.map_cons, List.map_cons, List.count_cons, List.count_cons, hv, int_dec, int_dec]
      simp only [decide_eq_true_eq]
      omega
    · rw [valV_neg ek] at h
      have := ih n2 h
      rw [List.map_cons, if_neg ek]
      unfold cnt bit at *
      rw [List.map_cons, List.map_cons, List.count_cons, List.count_cons]
      omega
theorem nd_put {kvs : HK} {k : Key} {v : V} (nd : (kvs.map (·.1)).Nodup) : ((putK kvs k v).map (·.1)).Nodup := by
  cases h : valV kvs k with
  | none => exact nd_putK v nd h
  | some x =>
    have a : (kvs.any fun kv => decide (kv.1 = k)) = true := by rw [valV_any, h]; rfl
    unfold putK
    rw [if_pos a, List.map_map]
    have e : ((fun x : Key × V => x.1) ∘ fun kv : Key × V => if kv.1 = k then (kv.1, v) else kv) = fun x => x.1 := by
      funext x
      show (if x.1 = k then (x.1, v) else x).1 = x.1
      split <;> rfl
    rw [e]; exact nd
theorem mem_put {kvs : HK} {k : Key} {v : V} {e : Key × V} (h : e ∈ putK kvs k v) : e = (k, v) ∨ e ∈ kvs := by
  unfold putK at h
  split at h
  · obtain ⟨x, hx, ex⟩ := List.mem_map.mp h
    by_cases c : x.1 = k
    · rw [if_pos c] at ex
      left; rw [← ex, c]
    · rw [if_neg c] at ex
      right; rw [← ex]; exact hx
  · rcases List.mem_append.mp h with m | m
    · exact .inr m
    · exact .inl (List.mem_singleton.mp m)
theorem valV_mem {kvs : HK} {k : Key} {v : V} (h : valV kvs k = some v) : (k, v) ∈ kvs := by
  unfold valV at h
  obtain ⟨x, hx, e⟩ := Option.map_eq_some_iff.mp h
  have := List.find?_some hx
  have e1 : x.1 = k := of_decide_eq_true this
  have := List.mem_of_find?_eq_some hx
  rw [← e1, ← e]; exact this
theorem valV_of_mem : ∀ {kvs : HK} {k : Key} {v : V}, (kvs.map (·.1)).Nodup → (k, v) ∈ kvs → valV kvs k = some v
  | [], _, _, _, m => by cases m
  | e :: r, k, v, nd, m => by
    have nd' : (e.1 :: r.map (·.1)).Nodup := nd
    obtain ⟨n1, n2⟩ := List.nodup_cons.mp nd'
    rcases List.mem_cons.mp m with h | h
    · subst h; exact valV_pos rfl
    · have : ¬ e.1 = k := fun z => n1 (by rw [z]; exact List.mem_map.mpr ⟨_, h, rfl⟩)
      rw [valV_neg this]; exact valV_of_mem n2 h
theorem encA_val (as : List Int) (b : Int) : valV (encA as) (Sum.inl b) = if b ∈ as then some (V.bl true) else none := by
  induction as with
  | nil => rfl
  | cons a r ih =>
    show valV ((Sum.inl a, V.bl true) :: encA r) _ = _
    by_cases e : a = b
    · subst e; rw [valV_pos rfl]; simp
    · rw [valV_neg (fun z => e (Sum.inl.inj z)), ih]
      have : ¬ b = a := fun z => e z.symm
      simp [this]
theorem encA_put {as : List Int} {b : Int} (h : ¬ b ∈ as) : putK (encA as) (Sum.inl b) (V.bl true) = encA (as ++ [b]) := by
  have a : ¬ ((encA as).any fun kv => decide (kv.1 = Sum.inl b)) = true := by rw [valV_any, encA_val, if_neg h]; simp
  unfold putK
  rw [if_neg a]
  unfold encA
  rw [List.map_append]; rfl
noncomputable def Good (ps : List (List Int)) (kvs : HK) : Prop := ∀ e ∈ kvs, ∃ (b : Int) (q : Nat) (p : List Int), e = (Sum.inl b, V.int q) ∧ ps[q]? = some p ∧ b ∈ p
theorem Good.put {ps : List (List Int)} {kvs : HK} (g : Good ps kvs) {b : Int} {q : Nat} {p : List Int} (h : ps[q]? = some p) (hb : b ∈ p) : Good ps (putK kvs (Sum.inl b) (.int q)) := fun e he => by
  rcases mem_put he with z | z
  · exact ⟨b, q, p, z, h, hb⟩
  · exact g e z
theorem Good.val {ps : List (List Int)} {kvs : HK} (g : Good ps kvs) {b : Int} {v : V} (h : valV kvs (Sum.inl b) = some v) : ∃ (q : Nat) (p : List Int), v = .int q ∧ ps[q]? = some p ∧ b ∈ p := by
  obtain ⟨b', q, p, e, h1, h2⟩ := g _ (valV_mem h)
  injection e with e1 e2
  cases e1
  exact ⟨q, p, e2, h1, h2⟩
noncomputable def Clo (ps : List (List Int)) (kvs : HK) (as as' : List Int) : Prop := ∀ b ∈ as', b ∉ as → ∃ (q : Nat) (p : List Int), valV kvs (Sum.inl b) = some (.int q) ∧ ps[q]? = some p ∧ ∀ c ∈ p, c ∈ as'
structure Sett (ps : List (List Int)) (U : List Int) (pl : Nat) (kvs : HK) (as : List Int) (ok : Bool) (kvs' : HK) (as' : List Int) : Prop where
  grow : ∀ b ∈ as, b ∈ as'
  nd : as'.Nodup
  sub : ∀ b ∈ as', b ∈ U
  no : ok = false → kvs' = kvs ∧ (∀ p, ps[pl]? = some p → ∀ b ∈ p, b ∈ as') ∧ Clo ps kvs as as'
  yes : ok = true → (kvs'.map (·.1)).Nodup ∧ Good ps kvs' ∧ (∀ q, cnt kvs' q = cnt kvs q + bit (q = pl)) ∧ (∀ b ∈ as, valV kvs' (Sum.inl b) = valV kvs (Sum.inl b)) ∧ kvs'.length ≤ kvs.length + U.length
structure SLoop (ps : List (List Int)) (U : List Int) (p : List Int) (kvs : HK) (as : List Int) (i : Nat) (ai : List Int) : Prop where
  grow : ∀ b ∈ as, b ∈ ai
  nd : ai.Nodup
  sub : ∀ b ∈ ai, b ∈ U
  past : ∀ b ∈ p.take i, b ∈ ai
  clo : Clo ps kvs as ai
theorem take_succ_mem {p : List Int} {i : Nat} {b c : Int} (h : p[i]? = some b) (hc : c ∈ p.take (i + 1)) : c ∈ p.take i ∨ c = b := by
  rw [List.take_add_one, h] at hc
  rcases List.mem_append.mp hc with z | z
  · exact .inl z
  · exact .inr (by simpa using z)
theorem SLoop.skip {ps : List (List Int)} {U p : List Int} {kvs : HK} {as ai : List Int} {i : Nat} {b : Int} (s : SLoop ps U p kvs as i ai) (h : p[i]? = some b) (hb : b ∈ ai) : SLoop ps U p kvs as (i + 1) ai :=
  ⟨s.grow, s.nd, s.sub, fun c hc => (take_succ_mem h hc).elim (s.past c) (fun e => e ▸ hb), s.clo⟩
theorem SLoop.miss {ps : List (List Int)} {U p : List Int} {kvs : HK} {as ai : List Int} {i q : Nat} {b : Int} {kvs2 : HK} {as2 : List Int} (s : SLoop ps U p kvs as i ai) (h : p[i]? = some b) (hb : b ∉ ai) (hq : valV kvs (Sum.inl b) = some (.int q)) (hl : q < ps.length)
    (r : Sett ps U q kvs (ai ++ [b]) false kvs2 as2) : kvs2 = kvs ∧ SLoop ps U p kvs as (i + 1) as2 := by
  obtain ⟨e, h1, h2⟩ := r.no rfl
  have g : ∀ c ∈ ai, c ∈ as2 := fun c hc => r.grow c (List.mem_append_left _ hc)
  have gb : b ∈ as2 := r.grow b (by simp)
  refine ⟨e, fun c hc => g c (s.grow c hc), r.nd, r.sub, fun c hc => (take_succ_mem h hc).elim (fun z => g c (s.past c z)) (fun e => e ▸ gb), fun c hc hn => ?_⟩
  by_cases c1 : c ∈ ai
  · obtain ⟨q', p', a1, a2, a3⟩ := s.clo c c1 hn
    exact ⟨q', p', a1, a2, fun d hd => g d (a3 d hd)⟩
  · by_cases c2 : c = b
    · subst c2
      exact ⟨q, ps[q], hq, List.getElem?_eq_getElem hl, h1 _ (List.getElem?_eq_getElem hl)⟩
    · exact h2 c hc (by simp [c1, c2])
theorem SLoop.free {ps : List (List Int)} {U p : List Int} {kvs : HK} {as ai : List Int} {i pl : Nat} {b : Int} (s : SLoop ps U p kvs as i ai) (hp : ps[pl]? = some p) (hU : ∀ b ∈ p, b ∈ U) (h : p[i]? = some b) (hb : b ∉ ai) (hq : valV kvs (Sum.inl b) = none)
    (nd : (kvs.map (·.1)).Nodup) (g : Good ps kvs) : Sett ps U pl kvs as true (putK kvs (Sum.inl b) (.int pl)) (ai ++ [b]) where
  grow := fun c hc => List.mem_append_left _ (s.grow c hc)
  nd := nd_snoc s.nd hb
  sub := fun c hc => (List.mem_append.mp hc).elim (s.sub c) fun z => by rw [List.mem_singleton.mp z]; exact hU b (List.mem_of_getElem? h)
  no := fun e => by cases e
  yes := fun _ => ⟨nd_put nd, g.put hp (List.mem_of_getElem? h), fun q => cnt_new hq, fun c hc => by
    rw [valV_put, if_neg (fun e => hb (by cases e; exact s.grow _ hc))], by
    have h1 := length_putK kvs (Sum.inl b) (V.int (pl : Int))
    have h2 : 0 < U.length := List.length_pos_of_mem (hU b (List.mem_of_getElem? h))
    omega⟩
theorem SLoop.turn {ps : List (List Int)} {U p : List Int} {kvs : HK} {as ai : List Int} {i pl q : Nat} {b : Int} {kvs2 : HK} {as2 : List Int} (s : SLoop ps U p kvs as i ai) (hp : ps[pl]? = some p) (h : p[i]? = some b) (hb : b ∉ ai)
    (hq : valV kvs (Sum.inl b) = some (.int q)) (r : Sett ps U q kvs (ai ++ [b]) true kvs2 as2) : Sett ps U pl kvs as true (putK kvs2 (Sum.inl b) (.int pl)) as2 := by
  obtain ⟨n2, g2, c2, v2, l2⟩ := r.yes rfl
  have hb2 : valV kvs2 (Sum.inl b) = some (.int q) := (v2 b (by simp)).trans hq
  refine ⟨fun c hc => r.grow c (List.mem_append_left _ (s.grow c hc)), r.nd, r.sub, (fun e => by cases e), fun _ => ⟨nd_put n2, g2.put hp (List.mem_of_getElem? h), fun t => ?_, fun c hc => ?_, ?_⟩⟩
  · have h1 := cnt_old (p := pl) (q := t) n2 hb2
    have h2 := c2 t
    omega
  · rw [valV_put, if_neg (fun e => hb (by cases e; exact s.grow _ hc)), v2 c (List.mem_append_left _ (s.grow c hc))]
  · have a : (kvs2.any fun kv => decide (kv.1 = Sum.inl b)) = true := by rw [valV_any, hb2]; rfl
    unfold putK
    rw [if_pos a, List.length_map]; exact l2
theorem SLoop.done {ps : List (List Int)} {U p : List Int} {kvs : HK} {as ai : List Int} {pl : Nat} (s : SLoop ps U p kvs as p.length ai) (hp : ps[pl]? = some p) : Sett ps U pl kvs as false kvs ai :=
  ⟨s.grow, s.nd, s.sub, fun _ => ⟨rfl, fun p' e b hb => by
    rw [hp] at e; cases e
    exact s.past b (by rw [List.take_length]; exact hb), s.clo⟩, fun e => by cases e⟩
theorem left_lt {U ai as : List Int} {b : Int} (hU : b ∈ U) (hb : b ∉ ai) (g : ∀ c ∈ as, c ∈ ai) : (U.filter fun c => decide (c ∉ ai ++ [b])).length < (U.filter fun c => decide (c ∉ as)).length := by
  induction U with
  | nil => cases hU
  | cons u r ih =>
    have le : ∀ l : List Int, (l.filter fun c => decide (c ∉ ai ++ [b])).length ≤ (l.filter fun c => decide (c ∉ as)).length := fun l => by
      induction l with
      | nil => exact Nat.le_refl _
      | cons x t ih =>
        by_cases hx : x ∈ as
        · rw [List.filter_cons_of_neg (by simp [g x hx]), List.filter_cons_of_neg (by simp [hx])]; exact ih
        · rw [List.filter_cons_of_pos (p := fun c => decide (c ∉ as)) (by simp [hx])]
          by_cases hy : x ∈ ai ++ [b]
          · rw [List.filter_cons_of_neg (by simp only [decide_eq_true_eq]; exact fun z => z hy), List.length_cons]; omega
          · rw [List.filter_cons_of_pos (by simp only [decide_eq_true_eq]; exact hy), List.length_cons, List.length_cons]; omega
    have hbs : b ∉ as := fun z => hb (g b z)
    by_cases e : u = b
    · subst e
      rw [List.filter_cons_of_neg (by simp), List.filter_cons_of_pos (p := fun c => decide (c ∉ as)) (by simp [hbs]), List.length_cons]
      have := le r
      omega
    · have hr : b ∈ r := (List.mem_cons.mp hU).resolve_left fun z => e z.symm
      have := ih hr
      by_cases hx : u ∈ as
      · rw [List.filter_cons_of_neg (by simp [g u hx]), List.filter_cons_of_neg (by simp [hx])]; exact this
      · rw [List.filter_cons_of_pos (p := fun c => decide (c ∉ as)) (by simp [hx])]
        by_cases hy : u ∈ ai ++ [b]
        · rw [List.filter_cons_of_neg (by simp only [decide_eq_true_eq]; exact fun z => z hy), List.length_cons]; omega
        · rw [List.filter_cons_of_pos (by simp only [decide_eq_true_eq]; exact hy), List.length_cons, List.length_cons]; omega
structure Deal (ps : List (List Int)) (hs : List Int) : Prop where
  len : hs.length = ps.length
  of : ∀ k (h1 : k < hs.length) (h2 : k < ps.length), hs[k] ∈ ps[k]
  nd : hs.Nodup
structure Short (ps : List (List Int)) (ms : List Nat) : Prop where
  up : ms.Pairwise (· < ·)
  few : ∃ X : List Int, X.length < ms.length ∧ ∀ q ∈ ms, ∃ p, ps[q]? = some p ∧ ∀ c ∈ p, c ∈ X
structure Held (ps : List (List Int)) (kvs : HK) (n : Nat) : Prop where
  nd : (kvs.map (·.1)).Nodup
  good : Good ps kvs
  one : ∀ q, cnt kvs q = bit (q < n)
theorem Held.start {ps : List (List Int)} : Held ps [] 0 := ⟨List.nodup_nil, fun _ h => (by cases h), fun q => by unfold cnt bit; simp⟩
theorem Held.next {ps : List (List Int)} {U : List Int} {kvs kvs' : HK} {n : Nat} {as' : List Int} (h : Held ps kvs n) (r : Sett ps U n kvs [] true kvs' as') : Held ps kvs' (n + 1) := by
  obtain ⟨a, b, c, _⟩ := r.yes rfl
  refine ⟨a, b, fun q => ?_⟩
  rw [c q, h.one q]
  unfold bit
  by_cases h1 : q < n
  · rw [if_pos h1, if_neg (by omega), if_pos (by omega)]
  · by_cases h2 : q = n
    · rw [if_neg h1, if_pos h2, if_pos (by omega)]
    · rw [if_neg h1, if_neg h2, if_neg (by omega)]
theorem nodup_of_count {α : Type} [DecidableEq α] : ∀ {l : List α}, (∀ a, l.count a ≤ 1) → l.Nodup
  | [], _ => List.nodup_nil
  | x :: r, h => by
    refine List.nodup_cons.mpr ⟨fun m => ?_, nodup_of_count fun a => ?_⟩
    · have := h x
      have h2 := List.count_pos_iff.mpr m
      rw [List.count_cons_self] at this
      omega
    · have := h a
      rw [List.count_cons] at this
      omega
theorem Held.vals {ps : List (List Int)} {kvs : HK} {n : Nat} (h : Held ps kvs n) : (kvs.map (·.2)).Nodup := nodup_of_count fun a => by
  by_cases m : a ∈ kvs.map (·.2)
  · obtain ⟨e, he, ea⟩ := List.mem_map.mp m
    obtain ⟨b, q, p, e1, _⟩ := h.good e he
    have ea' : a = V.int q := by rw [← ea, e1]
    have := h.one q
    unfold cnt bit at this
    rw [ea', this]
    split <;> omega
  · rw [List.count_eq_zero_of_not_mem m]; omega
theorem Held.lt {ps : List (List Int)} {kvs : HK} {n : Nat} (h : Held ps kvs n) {k : Key} {q : Nat} (m : (k, V.int q) ∈ kvs) : q < n := by
  have h1 : V.int (q : Int) ∈ kvs.map (·.2) := List.mem_map.mpr ⟨_, m, rfl⟩
  have h2 := List.count_pos_iff.mpr h1
  have := h.one q
  unfold cnt bit at this
  rw [this] at h2
  split at h2
  · assumption
  · omega
theorem Held.mem {ps : List (List Int)} {kvs : HK} {n q : Nat} (h : Held ps kvs n) (hq : q < n) : ∃ (b : Int) (p : List Int), (Sum.inl b, V.int q) ∈ kvs ∧ ps[q]? = some p ∧ b ∈ p := by
  have := h.one q
  unfold cnt bit at this
  rw [if_pos hq] at this
  have h1 : V.int (q : Int) ∈ kvs.map (·.2) := List.count_pos_iff.mp (by omega)
  obtain ⟨e, he, ea⟩ := List.mem_map.mp h1
  obtain ⟨b, q', p, e1, e2, e3⟩ := h.good e he
  subst e1
  have : q' = q := by
    have z : V.int (q' : Int) = V.int q := ea
    injection z with z
    omega
  subst this
  exact ⟨b, p, he, e2, e3⟩
theorem Held.key {ps : List (List Int)} {kvs : HK} {n q q' : Nat} {b : Int} (h : Held ps kvs n) (h1 : (Sum.inl b, V.int q) ∈ kvs) (h2 : (Sum.inl b, V.int q') ∈ kvs) : q = q' := by
  have a := valV_of_mem h.nd h1
  have c := valV_of_mem h.nd h2
  rw [a] at c
  have c := Option.some.inj c
  injection c with c
  omega
theorem Held.inj {ps : List (List Int)} {kvs : HK} {n q : Nat} {k k' : Key} (h : Held ps kvs n) (h1 : (k, V.int q) ∈ kvs) (h2 : (k', V.int q) ∈ kvs) : k = k' := by
  obtain ⟨i, hi, ei⟩ := List.mem_iff_getElem.mp h1
  obtain ⟨j, hj, ej⟩ := List.mem_iff_getElem.mp h2
  have nd := h.vals
  have e : (kvs.map (·.2))[i]'(by simpa using hi) = (kvs.map (·.2))[j]'(by simpa using hj) := by simp [ei, ej]
  have := (List.getElem_inj nd).mp e
  subst this
  rw [ei] at ej
  exact congrArg Prod.fst ej
theorem Held.deal {ps : List (List Int)} {kvs : HK} {hs : List Int} (h : Held ps kvs ps.length) (hl : hs.length = ps.length) (e : ∀ b (q : Nat), (Sum.inl b, V.int q) ∈ kvs → hs[q]? = some b) : Deal ps hs := by
  refine ⟨hl, fun k h1 h2 => ?_, ?_⟩
  · obtain ⟨b, p, m, e2, e3⟩ := h.mem h2
    have := e b k m
    rw [List.getElem?_eq_getElem h1] at this
    rw [Option.some.inj this]
    rw [List.getElem?_eq_getElem h2] at e2
    rw [Option.some.inj e2]; exact e3
  · rw [List.nodup_iff_pairwise_ne, List.pairwise_iff_getElem]
    intro i j hi hj hij z
    obtain ⟨b, _, m, _, _⟩ := h.mem (q := i) (by omega)
    obtain ⟨c, _, m', _, _⟩ := h.mem (q := j) (by omega)
    have e1 := e b i m
    have e2 := e c j m'
    rw [List.getElem?_eq_getElem hi] at e1
    rw [List.getElem?_eq_getElem hj] at e2
    have e1 := Option.some.inj e1
    have e2 := Option.some.inj e2
    have : b = c := by rw [← e1, ← e2]; exact z
    subst this
    have := h.key m m'
    omega
noncomputable def hold (kvs : HK) (b : Int) : Int := match valV kvs (Sum.inl b) with
  | some (.int i) => i
  | _ => 0
theorem hold_of {kvs : HK} {b i : Int} (h : valV kvs (Sum.inl b) = some (.int i)) : hold kvs b = i := by unfold hold; rw [h]
theorem Held.short {ps : List (List Int)} {U : List Int} {kvs kvs' : HK} {n : Nat} {as' : List Int} {ms : List Int} (h : Held ps kvs n) (hn : n < ps.length) (r : Sett ps U n kvs [] false kvs' as') (hp : ms.Perm ((n : Int) :: as'.map (hold kvs))) (hs : ms.Pairwise (· ≤ ·)) :
    ∃ qs : List Nat, ms = qs.map Int.ofNat ∧ Short ps qs := by
  obtain ⟨_, h1, h2⟩ := r.no rfl
  have hv : ∀ b ∈ as', ∃ (q : Nat) (p : List Int), valV kvs (Sum.inl b) = some (.int q) ∧ ps[q]? = some p ∧ ∀ c ∈ p, c ∈ as' := fun b hb => h2 b hb (by simp)
  have nd0 : ((n : Int) :: as'.map (hold kvs)).Nodup := by
    refine List.nodup_cons.mpr ⟨fun m => ?_, ?_⟩
    · obtain ⟨b, hb, e⟩ := List.mem_map.mp m
      obtain ⟨q, p, a1, _⟩ := hv b hb
      rw [hold_of a1] at e
      have := h.lt (valV_mem a1)
      omega
    · rw [List.nodup_iff_pairwise_ne, List.pairwise_map]
      refine List.Pairwise.imp_of_mem (R := (· ≠ ·)) ?_ (List.nodup_iff_pairwise_ne.mp r.nd)
      intro b c hb hc hne z
      obtain ⟨q, p, a1, _⟩ := hv b hb
      obtain ⟨q', p', a2, _⟩ := hv c hc
      rw [hold_of a1, hold_of a2] at z
      have : q = q' := by omega
      subst this
      have := h.inj (valV_mem a1) (valV_mem a2)
      exact hne (Sum.inl.inj this)
  have ndm : ms.Nodup := hp.nodup_iff.mpr nd0
  have nn : ∀ m ∈ ms, ∃ q : Nat, m = Int.ofNat q ∧ ∃ p, ps[q]? = some p ∧ ∀ c ∈ p, c ∈ as' := fun m hm => by
    rcases List.mem_cons.mp (hp.mem_iff.mp hm) with e | e
    · exact ⟨n, e, ps[n], List.getElem?_eq_getElem hn, h1 _ (List.getElem?_eq_getElem hn)⟩
    · obtain ⟨b, hb, e⟩ := List.mem_map.mp e
      obtain ⟨q, p, a1, a2, a3⟩ := hv b hb
      rw [hold_of a1] at e
      exact ⟨q, e.symm, p, a2, a3⟩
  refine ⟨ms.map Int.toNat, ?_, ?_, as', ?_, fun q hq => ?_⟩
  · rw [List.map_map]
    have : ∀ m ∈ ms, (Int.ofNat ∘ Int.toNat) m = m := fun m hm => by
      obtain ⟨q, e, _⟩ := nn m hm
      rw [e]; rfl
    exact ((List.map_congr_left this).trans (List.map_id _)).symm
  · rw [List.pairwise_map]
    have both : ms.Pairwise fun a b => a ≤ b ∧ a ≠ b := hs.and (List.nodup_iff_pairwise_ne.mp ndm)
    refine List.Pairwise.imp_of_mem ?_ both
    intro a b ha hb ⟨h1, h2⟩
    obtain ⟨q, e, _⟩ := nn a ha
    obtain ⟨q', e', _⟩ := nn b hb
    subst e e'
    have : (q : Int) ≤ q' := h1
    have h3 : (q : Int) ≠ q' := h2
    show q < q'
    omega
  · rw [List.length_map, hp.length_eq, List.length_cons, List.length_map]; omega
  · obtain ⟨m, hm, e⟩ := List.mem_map.mp hq
    obtain ⟨q', e', z⟩ := nn m hm
    subst e'
    have : q = q' := by rw [← e]; rfl
    subst this
    exact z
end L2
set_option Elab.async false
set_option linter.all false
set_option maxRecDepth 100000
namespace L2
open PySem PySem.Spec PyProof.Rows
noncomputable def SameX (ex : List Addr) (H H' : Hp) : Prop := ∀ b o, b ∉ ex → H b = some o → H' b = some o
theorem SameX.refl {ex : List Addr} {H : Hp} : SameX ex H H := fun _ _ _ h => h
theorem SameX.trans {ex : List Addr} {H H1 H2 : Hp} (a : SameX ex H H1) (b : SameX ex H1 H2) : SameX ex H H2 := fun c o n h => b c o n (a c o n h)
theorem SameX.upd {ex : List Addr} {H : Hp} {a : Addr} {o : HO} (h : a ∈ ex) : SameX ex H (upd H a o) := fun b u n e => by rw [upd_ne (fun z : b = a => n (by rw [z]; exact h))]; exact e
theorem Same.x {ex : List Addr} {H H' : Hp} (s : Same H H') : SameX ex H H' := fun b o _ h => s b o h
noncomputable def IsDk (H : Hp) (a : Addr) : Prop := ∃ kvs, H a = some (.dK kvs)
theorem SameX.seq {K : PySem.W.Frag} {ex : List Addr} {H H' : Hp} {a : Addr} {xs : List V} (s : SameX ex H H') (hx : ∀ x ∈ ex, IsDk H x) (h : SqL K H a xs) : SqL K H' a xs := by
  have ne : ∀ u, H a = some u → (∀ kvs, u ≠ .dK kvs) → a ∉ ex := fun u e n m => by
    obtain ⟨kvs, q⟩ := hx a m
    rw [e] at q
    exact n kvs (Option.some.inj q)
  rcases h with (h | ⟨o, h⟩) | h
  · exact .inl (.inl (s _ _ (ne _ h (fun _ z => by cases z)) h))
  · exact .inl (.inr ⟨o, s _ _ (ne _ h (fun _ z => by cases z)) h⟩)
  · exact .inr h
noncomputable def PoolsL (K : PySem.W.Frag) (H : Hp) (rs : List Addr) (ps : List (List Int)) : Prop := Paired (fun r p => SqL K H r (p.map V.int)) rs ps
theorem PoolsL.mono {K : PySem.W.Frag} {ex : List Addr} {H H' : Hp} {rs : List Addr} {ps : List (List Int)} (h : PoolsL K H rs ps) (s : SameX ex H H') (hx : ∀ x ∈ ex, IsDk H x) : PoolsL K H' rs ps := Paired.mapP h fun _ _ q => s.seq hx q
theorem PoolsL.same {K : PySem.W.Frag} {H H' : Hp} {rs : List Addr} {ps : List (List Int)} (h : PoolsL K H rs ps) (s : Same H H') : PoolsL K H' rs ps := Paired.mapP h fun _ _ q => s.seq q
theorem PoolsL.at {K : PySem.W.Frag} {H : Hp} {rs : List Addr} {ps : List (List Int)} (h : PoolsL K H rs ps) {i : Nat} {p : List Int} (e : ps[i]? = some p) : ∃ r, rs[i]? = some r ∧ SqL K H r (p.map V.int) := pair_get (F := fun (r : Addr) (p : List Int) => SqL K H r (p.map V.int)) h e
theorem PoolsL.len {K : PySem.W.Frag} {H : Hp} {rs : List Addr} {ps : List (List Int)} (h : PoolsL K H rs ps) : rs.length = ps.length := Paired.length h
theorem paired_of {α β : Type} {F : α → β → Prop} : ∀ {l : List α} {r : List β}, l.length = r.length → (∀ (i : Nat) a b, l[i]? = some a → r[i]? = some b → F a b) → Paired F l r := by
  intro l
  induction l with
  | nil =>
    intro r h f
    cases r with
    | nil => exact .nil
    | cons b r => cases h
  | cons a l ih =>
    intro r h f
    cases r with
    | nil => cases h
    | cons b r => exact .cons (f 0 a b rfl rfl) (ih (Nat.succ.inj h) fun i x y e1 e2 => f (i + 1) x y e1 e2)
theorem keys_le {ps : List (List Int)} {U : List Int} {kvs : HK} (hU : ∀ p ∈ ps, ∀ b ∈ p, b ∈ U) (g : Good ps kvs) (nd : (kvs.map (·.1)).Nodup) : kvs.length ≤ U.length := by
  have h : (kvs.map (·.1)).length ≤ (U.map (Sum.inl : Int → Key)).length := nd.length_le_of_subset fun k hk => by
    obtain ⟨e, he, ek⟩ := List.mem_map.mp hk
    obtain ⟨b, q, p, e1, e2, e3⟩ := g e he
    rw [← ek, e1]
    exact List.mem_map.mpr ⟨b, hU p (List.mem_of_getElem? e2) b e3, rfl⟩
  simpa using h
theorem inV_int (b : Int) (bs : List Int) : inV (.int b) (bs.map V.int) = decide (b ∈ bs) := by
  unfold inV
  induction bs with
  | nil => rfl
  | cons c r ih =>
    rw [List.map_cons, List.any_cons, ih]
    by_cases h : c = b
    · subst h; simp [eqV]
    · have h' : ¬ b = c := fun z => h z.symm
      simp [eqV, h, h']
theorem flat_all (bs : List Int) : (bs.map V.int).all flatV = true := by
  rw [List.all_eq_true]
  intro x hx
  obtain ⟨i, _, e⟩ := List.mem_map.mp hx
  rw [← e]; rfl
theorem paired_refs {G : Nat → Addr → Prop} : ∀ {l : List Nat} {vs : List V}, Paired (fun i v => ∃ r, v = .ref r ∧ G i r) l vs → ∃ rs : List Addr, vs = rs.map V.ref ∧ Paired G l rs := by
  intro l vs h
  induction h with
  | nil => exact ⟨[], rfl, .nil⟩
  | cons q t ih =>
    obtain ⟨r, e, g⟩ := q
    obtain ⟨rs, e2, p⟩ := ih
    exact ⟨r :: rs, by rw [e, e2]; rfl, .cons g p⟩
theorem comp_lists {K : PySem.W.Frag} {H1 : Hp} {js : List (Option Nat)} {σ : L2.St} {te : TE} {Q : VK} {a : Addr} {xs : List V} (f : Nat → List V) (hl : SqL K H1 a xs) (hn : xs.length < 100000)
    (he : ∀ (i : Nat) x, xs[i]? = some x → ∀ H2 R, Same H1 H2 → (∀ r H3, Same H2 H3 → H2 r = none → H3 r = some (.lst (f i)) → R (.ref r) H3) → te (some x :: pick σ js) H2 R)
    (hQ : ∀ acc (rs : List Addr) H', Same H1 H' → H1 acc = none → H' acc = some (.lst (rs.map V.ref)) → rs.length = xs.length → (∀ (i : Nat) r, rs[i]? = some r → H' r = some (.lst (f i)) ∧ H1 r = none) → (∀ r ∈ rs, r ≠ acc) → Q (.ref acc) H') :
    CompB (Itl K a) H1 (none :: js) (gName 0) tYes te σ Q :=
  comp_list (K := K) (H1 := H1) (js := js) (σ := σ) (tc := tYes) (te := te) (Q := Q) (a := a) (xs := xs) (fun _ => true) (fun acc i v H => ∃ r, v = .ref r ∧ r ≠ acc ∧ H1 r = none ∧ H r = some (.lst (f i))) hl hn
    (fun acc i v H H' ⟨r, e, n, h0, h⟩ s => ⟨r, e, n, h0, s r _ n h⟩) (fun _ _ _ _ _ _ h => h)
    (fun acc i x hx _ H2 R s n1 n2 k => he i x hx H2 R s fun r H3 s3 nr h3 => k _ H3 s3 ⟨r, rfl, fun z => n2 (by rw [← z]; exact nr), s.free nr, h3⟩)
    fun acc vs H' s n' e p => by
      rw [List.filter_eq_self.mpr (fun _ _ => rfl)] at p
      obtain ⟨rs, e2, p2⟩ := paired_refs p
      have ln : rs.length = xs.length := by rw [← Paired.length p2, List.length_range]
      have all : ∀ (i : Nat) r, rs[i]? = some r → r ≠ acc ∧ H1 r = none ∧ H' r = some (.lst (f i)) := fun i r hi => by
        obtain ⟨j, hj, g⟩ := pair_get p2 hi
        have lt : i < xs.length := by rw [← ln]; exact (List.getElem?_eq_some_iff.mp hi).1
        rw [List.getElem?_range lt] at hj
        cases hj
        exact g
      refine hQ acc rs H' s n' (by rw [e, e2]) ln (fun i r hi => ⟨(all i r hi).2.2, (all i r hi).2.1⟩) fun r hr => ?_
      obtain ⟨i, hi, ei⟩ := List.mem_iff_getElem.mp hr
      exact (all i r (by rw [List.getElem?_eq_getElem hi, ei])).1
theorem Deal.noShort {ps : List (List Int)} {hs : List Int} {qs : List Nat} (d : Deal ps hs) (s : Short ps qs) : False := by
  obtain ⟨X, hX, hq⟩ := s.few
  have nd : qs.Nodup := s.up.imp fun h => Nat.ne_of_lt h
  have lt : ∀ q ∈ qs, q < ps.length := fun q m => by
    obtain ⟨p, e, _⟩ := hq q m
    exact (List.getElem?_eq_some_iff.mp e).1
  have nd2 : (qs.map fun q => hs.getD q 0).Nodup := by
    rw [List.nodup_iff_pairwise_ne, List.pairwise_map]
    refine List.Pairwise.imp_of_mem ?_ (List.nodup_iff_pairwise_ne.mp nd)
    intro q q' h1 h2 hne z
    have l1 : q < hs.length := by rw [d.len]; exact lt q h1
    have l2 : q' < hs.length := by rw [d.len]; exact lt q' h2
    have e1 : hs.getD q 0 = hs[q] := by simp [l1]
    have e2 : hs.getD q' 0 = hs[q'] := by simp [l2]
    rw [e1, e2] at z
    exact hne ((List.getElem_inj d.nd).mp z)
  have := nd2.length_le_of_subset (l₂ := X) fun c hc => by
    obtain ⟨q, m, e⟩ := List.mem_map.mp hc
    obtain ⟨p, ep, hp⟩ := hq q m
    have l0 := lt q m
    have l1 : q < hs.length := by rw [d.len]; exact l0
    have e1 : hs.getD q 0 = hs[q] := by simp [l1]
    have := d.of q l1 l0
    rw [List.getElem?_eq_getElem l0] at ep
    rw [← e, e1]
    exact hp _ (by rw [← Option.some.inj ep]; exact this)
  rw [List.length_map] at this
  omega
end L2
set_option Elab.async false
set_option linter.all false
set_option maxRecDepth 100000
namespace L2
open PySem PySem.Spec PyProof.Rows
noncomputable abbrev Rise (xs : List Nat) : Prop := xs.Pairwise (· < ·)
structure TabK (led : Bool) (t : SetTable) : Prop where
  led : t.led = led
  rise : t.plain = true → Rise t.place.toList
end L2
set_option Elab.async false
set_option linter.all false
set_option maxRecDepth 100000
namespace L2
open PySem PySem.Spec PyProof.Rows
noncomputable abbrev byText (w : World) : Bool := w.params.followText "set-order"
noncomputable def Ents (es : List (Int × Value)) (ks : List Int) : Prop := Paired (fun (e : Int × Value) (k : Int) => ∃ t, e = (hashInt k, Value.int k t)) es ks
structure SetIn (w : World) (o : Obj) (es : Array (Int × Value)) (ep : Nat) (t : SetTable) (ks : List Int) : Prop where
  ex : o.ExactSet
  da : o.data = .set es ep t
  en : Ents es.toList ks
  nd : ks.Nodup
  sz : ks.length < 4000
  ft : t.fits es.size = true
  tb : TabK (!byText w) t
noncomputable def SX (w : World) (a : Addr) (ms : List Int) : Heap → Prop := fun h => ∃ o es ep t ks, h.get? a = some o ∧ SetIn w o es ep t ks ∧ ks.Perm ms
theorem SX.at {w : World} {a : Addr} {ms : List Int} {h h' : Heap} (x : SX w a ms h) (k : ∀ o, h.get? a = some o → h'.get? a = some o) : SX w a ms h' := by
  obtain ⟨o, es, ep, t, ks, e, r⟩ := x
  exact ⟨o, es, ep, t, ks, k o e, r⟩
theorem SX.lt {w : World} {a : Addr} {ms : List Int} {h : Heap} (x : SX w a ms h) : a < h.objs.size := by
  obtain ⟨o, es, ep, t, ks, e, r⟩ := x
  exact Heap.lt_size e
theorem SX.perm {w : World} {a : Addr} {ms ns : List Int} {h : Heap} (x : SX w a ms h) (p : ms.Perm ns) : SX w a ns h := by
  obtain ⟨o, es, ep, t, ks, e, r, q⟩ := x
  exact ⟨o, es, ep, t, ks, e, r, q.trans p⟩
theorem Ents.mem : ∀ {es : List (Int × Value)} {ks : List Int}, Ents es ks → ∀ {e : Int × Value}, e ∈ es → ∃ k t, k ∈ ks ∧ e = (hashInt k, Value.int k t) := by
  intro es ks h e
  unfold Ents at h
  induction h with
  | nil => intro h; cases h
  | cons q r ih =>
    intro h
    obtain ⟨t, q⟩ := q
    rcases List.mem_cons.mp h with z | z
    · exact ⟨_, t, List.mem_cons_self, z.trans q⟩
    · obtain ⟨k, t, m, q⟩ := ih z
      exact ⟨k, t, List.mem_cons_of_mem _ m, q⟩
theorem Ents.elems {P : Program} {w : World} {es : List (Int × Value)} {ks : List Int} (h : Ents es ks) : ElemsOf (intKind P w) es := fun e he => by
  obtain ⟨k, t, _, q⟩ := h.mem he
  subst q
  exact ⟨⟨k, intKind_is P w k t, rfl⟩, rfl⟩
theorem Ents.len {es : List (Int × Value)} {ks : List Int} (h : Ents es ks) : es.length = ks.length := Paired.length h
theorem Ents.perm {es es' : List (Int × Value)} (p : es'.Perm es) : ∀ {ks : List Int}, Ents es ks → ∃ ks', Ents es' ks' ∧ ks'.Perm ks := by
  induction p with
  | nil => intro ks h; cases h; exact ⟨[], .nil, .nil⟩
  | cons x _ ih =>
    intro ks h
    cases h with
    | cons q r =>
      obtain ⟨ks', a, b⟩ := ih r
      exact ⟨_ :: ks', .cons q a, b.cons _⟩
  | swap x y l =>
    intro ks h
    cases h with
    | cons q r =>
      cases r with
      | cons q' r => exact ⟨_ :: _ :: _, .cons q' (.cons q r), .swap _ _ _⟩
  | trans _ _ ih1 ih2 =>
    intro ks h
    obtain ⟨k2, a, b⟩ := ih2 h
    obtain ⟨k3, c, d⟩ := ih1 a
    exact ⟨k3, c, d.trans b⟩
theorem isInt_dec (k j : Int) (t : Tok) : Value.isInt k (.int j t) = decide (k = j) := by
  by_cases h : k = j
  · subst h; simp [Value.isInt]
  · simp [Value.isInt, h]
    exact fun z => h z.symm
theorem Ents.find {P : Program} {w : World} {k : Int} : ∀ {es : List (Int × Value)} {ks : List Int}, Ents es ks → (es.findIdx? (fun e => (intKind P w).is k e.2)).isSome = decide (k ∈ ks) := by
  intro es ks h
  unfold Ents at h
  induction h with
  | nil => rfl
  | @cons a j es ks q r ih =>
    obtain ⟨t, q⟩ := q
    subst q
    rw [List.findIdx?_cons]
    have e : (intKind P w).is k (hashInt j, Value.int j t).2 = decide (k = j) := isInt_dec k j t
    rw [e]
    by_cases h : k = j
    · subst h; simp
    · simp [h, ih]
section
variable {P : Program} {w : World} {A : Around} {E : Value → Shared → Prop} {s : Shared} {a : Addr} {ms ks : List Int} {o : Obj} {es : Array (Int × Value)} {ep : Nat} {t : SetTable}
theorem SetIn.bound (h : SetIn w o es ep t ks) : es.size < scanBound := by
  have : es.size = ks.length := by rw [← h.en.len, Array.length_toList]
  have := h.sz
  have e : scanBound = 4096 := rfl
  omega
theorem SetIn.size (h : SetIn w o es ep t ks) : es.size = ks.length := by rw [← h.en.len, Array.length_toList]
theorem put_SX {es' : Array (Int × Value)} {t' : SetTable} {ks' : List Int} (ho : s.heap.get? a = some o) (h : SetIn w o es ep t ks) (en : Ents es'.toList ks') (nd : ks'.Nodup) (sz : ks'.length < 4000) (ft : t'.fits es'.size = true) (tb : TabK (!byText w) t') :
    ∃ o', (s.heap.update a (Obj.putSet es' t')).get? a = some o' ∧ SetIn w o' es' (ep + 1) t' ks' := by
  have g := Heap.get?_update_self (Obj.putSet es' t') ho (by rw [putSet_of es' t' h.da]; rfl)
  rw [putSet_of es' t' h.da] at g
  exact ⟨_, g, ⟨h.ex, rfl, en, nd, sz, ft, tb⟩⟩
end
end L2
set_option Elab.async false
set_option linter.all false
set_option maxRecDepth 100000
namespace L2
open PySem PySem.Spec PyProof.Rows
end L2
set_option Elab.async false
set_option linter.all false
set_option maxRecDepth 100000
namespace L2
open PySem PySem.Spec PyProof.Rows
theorem erase_perm {α : Type} {l : List α} {i : Nat} {x : α} (h : l[i]? = some x) : l.Perm (x :: l.eraseIdx i) := by
  induction l generalizing i with
  | nil => simp at h
  | cons y r ih =>
    cases i with
    | zero => simp at h; subst h; simp
    | succ i =>
      simp at h
      exact ((ih h).cons y).trans (.swap _ _ _)
section
variable {M : Model} {A : Around} {E : Value → Shared → Prop} {s : Shared}
end
section
variable {P : Program} {w : World} {A : Around} {E : Value → Shared → Prop} {s : Shared} {I S : Addr} {ks : List Int} {o : Obj} {es : Array (Int × Value)} {ep i : Nat} {t : SetTable} {first : Value}
end
end L2
set_option Elab.async false
set_option linter.all false
set_option maxRecDepth 100000
namespace L2
open PySem PySem.Spec PyProof.Rows
section
variable {P : Program} {w : World} {A : Around} {E : Value → Shared → Prop} {s : Shared} {I S : Addr} {ks : List Int} {o : Obj} {es : Array (Int × Value)} {ep i : Nat} {t : SetTable}
noncomputable def SetAt (w : World) (S : Addr) (es : Array (Int × Value)) (ep : Nat) (t : SetTable) (ks : List Int) (h : Heap) : Prop := ∃ o, h.get? S = some o ∧ SetIn w o es ep t ks
theorem SetAt.at {h h' : Heap} (x : SetAt w S es ep t ks h) (k : ∀ o, h.get? S = some o → h'.get? S = some o) : SetAt w S es ep t ks h' := let ⟨o, e, r⟩ := x; ⟨o, k o e, r⟩
theorem fits_size (h : t.fits es.size = true) : t.place.size = es.size := by
  simp only [SetTable.fits, Bool.and_eq_true, beq_iff_eq, decide_eq_true_eq] at h
  exact h.1
end
end L2
set_option Elab.async false
set_option linter.all false
set_option maxRecDepth 100000
namespace L2
open PySem PySem.Spec PyProof.Rows
section
variable {P : Program} {w : World} {A : Around} {E : Value → Shared → Prop} {s : Shared} {S : Addr} {ks ms : List Int} {o : Obj} {es : Array (Int × Value)} {ep i : Nat} {t : SetTable}
end
end L2
set_option Elab.async false
set_option linter.all false
set_option maxRecDepth 100000
namespace L2
open PySem PySem.Spec PyProof.Rows
section
variable {P : Program} {w : World} {A : Around} {E : Value → Shared → Prop} {s : Shared} {S : Addr} {ks ms : List Int} {o : Obj} {es : Array (Int × Value)} {ep i : Nat} {t : SetTable}
noncomputable def dstep (acc : List Int) (x : Int) : List Int := if x ∈ acc then acc else acc ++ [x]
noncomputable def dd (ns : List Int) : List Int := ns.foldl dstep []
theorem dd_snoc (ns : List Int) (x : Int) : dd (ns ++ [x]) = dstep (dd ns) x := by unfold dd; rw [List.foldl_append]; rfl
theorem dstep_mem {acc : List Int} {x y : Int} : y ∈ dstep acc x ↔ y ∈ acc ∨ y = x := by
  unfold dstep
  split
  · rename_i h
    exact ⟨.inl, fun z => z.elim id fun e => e ▸ h⟩
  · simp
theorem fold_mem : ∀ (ns acc : List Int) (y : Int), y ∈ ns.foldl dstep acc ↔ y ∈ acc ∨ y ∈ ns
  | [], acc, y => by simp
  | x :: r, acc, y => by
    rw [List.foldl_cons, fold_mem r, dstep_mem, List.mem_cons, or_assoc]
theorem dd_mem {ns : List Int} {y : Int} : y ∈ dd ns ↔ y ∈ ns := by unfold dd; rw [fold_mem]; simp
theorem fold_nd : ∀ (ns acc : List Int), acc.Nodup → (ns.foldl dstep acc).Nodup
  | [], acc, h => h
  | x :: r, acc, h => by
    rw [List.foldl_cons]
    refine fold_nd r _ ?_
    unfold dstep
    split
    · exact h
    · rename_i hx; exact nd_snoc h hx
theorem dd_nd (ns : List Int) : (dd ns).Nodup := fold_nd ns [] List.nodup_nil
end
end L2
set_option Elab.async false
set_option linter.all false
set_option maxRecDepth 100000
set_option maxHeartbeats 3000000
namespace L2
open PySem PySem.Spec PyProof.Rows
section
variable {P : Program} {w : World} {A : Around} {E : Value → Shared → Prop} {s : Shared} {S : Addr} {ks ms : List Int}
end
end L2
set_option Elab.async false
set_option linter.all false
set_option maxRecDepth 100000
namespace L2
open PySem PySem.Spec PyProof.Rows
theorem SX.ok {P : Program} {w : World} {H : Hp} {h : Heap} {a : Addr} {ms : List Int} (x : SX w a ms h) : ObjOk P w H h a (.ext (SX w a ms)) :=
  ⟨x, by obtain ⟨o, _, _, _, _, e, _⟩ := x; exact ⟨o, e⟩, fun _ _ y k => y.at k⟩
section
variable {X : Cx}
end
end L2
set_option Elab.async false
set_option linter.all false
set_option maxRecDepth 100000
namespace L2
theorem Short.lt {ps : List (List Int)} {qs : List Nat} (s : Short ps qs) : ∀ q ∈ qs, q < ps.length := fun q m => by
  obtain ⟨X, hX, hq⟩ := s.few
  obtain ⟨p, e, _⟩ := hq q m
  exact (List.getElem?_eq_some_iff.mp e).1
theorem Short.len {ps : List (List Int)} {qs : List Nat} (s : Short ps qs) : qs.length ≤ ps.length := by
  have nd : qs.Nodup := s.up.imp fun h => Nat.ne_of_lt h
  have := nd.length_le_of_subset (l₂ := List.range ps.length) fun q m => List.mem_range.mpr (s.lt q m)
  rw [List.length_range] at this
  exact this
end L2
set_option Elab.async false
set_option linter.all false
set_option maxRecDepth 100000
namespace L2
open PySem PySem.Spec PyProof.Rows
section
variable {X : Cx} {tg : Expr}
end
end L2
set_option Elab.async false
set_option linter.all false
set_option maxRecDepth 100000
namespace L2
open PySem PySem.Spec PyProof.Rows
section
variable {X : Cx} {pos : Pos}
end
theorem getD_get {hs : List Int} {k : Nat} (h : k < hs.length) : hs.getD k 0 = hs[k] := by simp [h]
theorem getD_getL {hs : List (List Int)} {k : Nat} (h : k < hs.length) : hs.getD k [] = hs[k] := by simp [h]
end L2
set_option Elab.async false
set_option linter.all false
set_option maxRecDepth 100000
namespace L2
open PySem PySem.Spec PyProof.Rows
noncomputable def lp (mask : Nat) : Nat → Nat × Nat → Nat × Nat
  | 0, x => x
  | n + 1, x => lp mask n (SetTable.leap mask x.1 x.2)
structure Ownd (mask : Nat) (ow : Array (Option Nat)) (k : Nat) : Prop where
  sz : ow.size = mask + 1
  pm : (ow.toList.filterMap id).Perm (List.range k)
theorem Ownd.set {mask : Nat} {ow : Array (Option Nat)} {k j : Nat} (o : Ownd mask ow k) (h : (ow.getD j (some 0)).isNone = true) : Ownd mask (ow.setIfInBounds j (some k)) (k + 1) where
  sz := by rw [Array.size_setIfInBounds]; exact o.sz
  pm := by
    have hj : j < ow.size := by
      refine Decidable.byContradiction fun hn => ?_
      have : ow.getD j (some 0) = some 0 := by simp [Array.getD, hn]
      rw [this] at h; cases h
    have e : ow.toList[j]'(by rw [Array.length_toList]; exact hj) = none := by
      have : ow.getD j (some 0) = ow[j] := by simp [Array.getD, hj]
      rw [this] at h
      rw [Array.getElem_toList]
      exact Option.isNone_iff_eq_none.mp h
    have hjl : j < ow.toList.length := by rw [Array.length_toList]; exact hj
    rw [Array.toList_setIfInBounds, List.set_eq_take_append_cons_drop, if_pos hjl, List.filterMap_append, List.filterMap_cons]
    dsimp only [id]
    have e1 : ow.toList = ow.toList.take j ++ none :: ow.toList.drop (j + 1) := by
      conv => lhs; rw [← List.take_append_drop j ow.toList, List.drop_eq_getElem_cons hjl, e]
    have p := o.pm
    rw [e1, List.filterMap_append, List.filterMap_cons] at p
    dsimp only [id] at p
    rw [List.range_succ]
    exact (List.perm_middle.trans (p.cons k)).trans (List.perm_append_singleton k _).symm
end L2
set_option Elab.async false
set_option linter.all false
set_option maxRecDepth 100000
namespace L2
open PySem PySem.Spec PyProof.Rows
section
variable {P : Program} {w : World} {A : Around} {E : Value → Shared → Prop} {s : Shared} {S : Addr} {ks ms : List Int} {es : Array (Int × Value)} {ep : Nat} {t : SetTable}
theorem sl_big {n : Nat} (h : n < 5000) : n ≤ sizeLine := Nat.le_of_lt (szn (by omega))
theorem SetAt.store {es' : Array (Int × Value)} {t' : SetTable} {ks' : List Int} {Q : Unit → Shared → Prop} (hS : SetAt w S es ep t ks s.heap) (en : Ents es'.toList ks') (nd : ks'.Nodup) (sz : ks'.length < 4000) (ft : t'.fits es'.size = true) (tb : TabK (!byText w) t')
    (h : ∀ h', Heap.SameBut S s.heap h' → SetAt w S es' (ep + 1) t' ks' h' → Q () { s with heap := h' }) : wpAny (model P w) A (storeSet S es' t') Q E s := by
  obtain ⟨o, ho, hs⟩ := hS
  have z : es'.size = ks'.length := by rw [← en.len, Array.length_toList]
  refine wpAny_storeSet_of ho hs.da (h _ (Heap.SameBut.update ..) ?_) (by rw [z]; exact sl_big (by omega))
  obtain ⟨o', ho', hs'⟩ := put_SX (s := s) ho hs en nd sz ft tb
  exact ⟨o', ho', hs'⟩
theorem SetAt.state {Q : Array (Int × Value) × Nat × SetTable → Shared → Prop} (hS : SetAt w S es ep t ks s.heap) (h : Q (es, ep, t) s) : wpAny (model P w) A (setState S) Q E s := by
  obtain ⟨o, ho, hs⟩ := hS
  exact wpAny_setState_of ho hs.da hs.ft h
theorem SetAt.en (hS : SetAt w S es ep t ks s.heap) : Ents es.toList ks := let ⟨_, _, hs⟩ := hS; hs.en
theorem SetAt.nd (hS : SetAt w S es ep t ks s.heap) : ks.Nodup := let ⟨_, _, hs⟩ := hS; hs.nd
theorem SetAt.ft (hS : SetAt w S es ep t ks s.heap) : t.fits es.size = true := let ⟨_, _, hs⟩ := hS; hs.ft
theorem SetAt.tb (hS : SetAt w S es ep t ks s.heap) : TabK (!byText w) t := let ⟨_, _, hs⟩ := hS; hs.tb
theorem SetAt.sz (hS : SetAt w S es ep t ks s.heap) : es.size = ks.length := let ⟨_, _, hs⟩ := hS; hs.size
theorem SetAt.lt4 (hS : SetAt w S es ep t ks s.heap) : ks.length < 4000 := let ⟨_, _, hs⟩ := hS; hs.sz
theorem SetAt.sx (hS : SetAt w S es ep t ks s.heap) (p : ks.Perm ms) : SX w S ms s.heap := let ⟨o, e, r⟩ := hS; ⟨o, es, ep, t, ks, e, r, p⟩
theorem SetAt.find {x : Int} {tk : Tok} {Q : Option Nat → Shared → Prop} (hS : SetAt w S es ep t ks s.heap) (h1 : ∀ i, ks[i]? = some x → Q (some i) s) (h2 : x ∉ ks → Q none s) : wpAny (model P w) A (setFind S (.int x tk) (hashInt x)) Q E s := by
  obtain ⟨o, ho, hs⟩ := hS
  have hel := hs.en.elems (P := P) (w := w)
  have hky : (intKind P w).is x (.int x tk) = true := intKind_is P w x tk
  unfold setFind setFindIn
  refine wpAny_bind (wpAny_setState_of ho hs.da hs.ft ?_)
  dsimp only
  rw [byScan_of (knd := intKind P w) rfl hs.bound hel, if_pos rfl]
  refine wpAny_bind (wpAny_rule ?_)
  refine wpAny_bind (wpAny_setScan_of (knd := intKind P w) (k := x) hky ho hs.da hs.ft hel ?_)
  have fd := hs.en.find (P := P) (w := w) (k := x)
  cases hr : List.findIdx? (fun e => (intKind P w).is x e.2) es.toList with
  | some j =>
    refine wpAny_pure ?_
    rw [Nat.zero_add]
    refine h1 j ?_
    obtain ⟨hj, p1, _⟩ := List.findIdx?_eq_some_iff_getElem.mp hr
    have hjk : j < ks.length := by rw [← hs.en.len]; exact hj
    have gk := List.getElem?_eq_getElem hjk
    obtain ⟨e', g, tk', q⟩ := pair_get hs.en gk
    rw [List.getElem?_eq_getElem hj] at g
    have g := Option.some.inj g
    rw [g, q] at p1
    have : x = ks[j] := by
      have z : (intKind P w).is x (hashInt ks[j], Value.int ks[j] tk').2 = decide (x = ks[j]) := isInt_dec x ks[j] tk'
      rw [z] at p1
      exact of_decide_eq_true p1
    rw [gk, this]
  | none =>
    rw [hr] at fd
    exact wpAny_pure (h2 (of_decide_eq_false fd.symm))
end
end L2
set_option Elab.async false
set_option linter.all false
set_option maxRecDepth 100000
namespace L2
open PySem PySem.Spec PyProof.Rows
section
variable {P : Program} {w : World} {A : Around} {E : Value → Shared → Prop} {s : Shared} {S : Addr} {ks ms : List Int} {es : Array (Int × Value)} {ep : Nat} {t : SetTable}
end
end L2
set_option Elab.async false
set_option linter.all false
set_option maxRecDepth 100000
namespace L2
open PySem PySem.Spec PyProof.Rows
section
variable {P : Program} {w : World} {A : Around} {E : Value → Shared → Prop} {s : Shared} {S T : Addr} {ks ms ns : List Int} {es : Array (Int × Value)} {ep : Nat} {t : SetTable}
end
end L2
set_option Elab.async false
set_option linter.all false
set_option maxRecDepth 100000
namespace L2
open PySem PySem.Spec PyProof.Rows
section
variable {P : Program} {w : World} {A : Around} {E : Value → Shared → Prop} {s : Shared} {S T : Addr} {ks ms ns : List Int} {es : Array (Int × Value)} {ep : Nat} {t : SetTable}
end
end L2
set_option Elab.async false
set_option linter.all false
set_option maxRecDepth 100000
namespace L2
open PySem PySem.Spec PyProof.Rows
section
variable {P : Program} {w : World} {A : Around} {E : Value → Shared → Prop} {s : Shared} {S T r : Addr} {ks ms ns : List Int} {es : Array (Int × Value)} {ep : Nat} {t : SetTable}
end
end L2
set_option Elab.async false
set_option linter.all false
set_option maxRecDepth 100000
namespace L2
open PySem PySem.Spec PyProof.Rows
section
variable {P : Program} {w : World} {A : Around} {E : Value → Shared → Prop} {s : Shared} {S T r : Addr} {ks kr ms ns : List Int} {es er : Array (Int × Value)} {ep epr : Nat} {t tr : SetTable}
theorem SX.nd {h : Heap} (x : SX w S ms h) : ms.Nodup := by
  obtain ⟨o, es, ep, t, ks, e, r, p⟩ := x
  exact p.nodup_iff.mp r.nd
end
end L2
set_option Elab.async false
set_option linter.all false
set_option maxRecDepth 100000
namespace L2
open PySem PySem.Spec PyProof.Rows
theorem eraseAt_list {α : Type} (xs : Array α) (i : Nat) (h : i < xs.size) : (SetTable.eraseAt xs i).toList = xs.toList.eraseIdx i := by
  unfold SetTable.eraseAt
  rw [Array.toList_append, Array.toList_extract, Array.toList_extract, List.eraseIdx_eq_take_drop_succ]
  simp [List.extract_eq_take_drop]
  exact List.take_of_length_le (by simp)
theorem insertAt_size {α : Type} (xs : Array α) (p : Nat) (x : α) : (SetTable.insertAt xs p x).size = xs.size + 1 := by
  unfold SetTable.insertAt
  simp
  omega
section
variable {P : Program} {w : World} {A : Around} {E : Value → Shared → Prop} {s : Shared} {S T r : Addr} {ks kr ms ns : List Int} {es er : Array (Int × Value)} {ep epr : Nat} {t tr : SetTable}
theorem SetAt.drop {x : Int} {tk : Tok} {Q : Bool → Shared → Prop} (hR : SetAt w r er epr tr kr s.heap)
    (h : ∀ b h' kr', Heap.SameBut r s.heap h' → SX w r kr' h' → (∀ y, y ∈ kr' ↔ y ∈ kr ∧ y ≠ x) → kr'.length ≤ kr.length → Q b { s with heap := h' }) : wpAny (model P w) A (setDiscardHashed r (.int x tk) (hashInt x)) Q E s := by
  unfold setDiscardHashed
  refine wpAny_bind (hR.find (fun i hi => ?_) fun hn => ?_)
  · dsimp only
    refine wpAny_bind (hR.state ?_)
    dsimp only
    have hik : i < kr.length := (List.getElem?_eq_some_iff.mp hi).1
    have sz := hR.sz
    have pz := fits_size hR.ft
    have hie : i < er.size := by omega
    have hip : i < tr.place.size := by omega
    have gp := Array.getElem?_eq_getElem hip
    have p1 : er.toList.Perm (er[i] :: er.toList.eraseIdx i) := erase_perm (by simp [hie])
    obtain ⟨k1, n1, q1⟩ := Ents.perm p1.symm hR.en
    cases n1 with
    | @cons _ k _ k1' q n1' =>
      obtain ⟨t1, e1⟩ := q
      obtain ⟨a', ga, t2, e2⟩ := pair_get hR.en hi
      have ga' : er[i] = a' := by
        rw [Array.getElem?_toList, Array.getElem?_eq_getElem hie] at ga
        exact Option.some.inj ga
      rw [ga', e2] at e1
      have ekx : x = k := by
        have := congrArg Prod.snd e1
        injection this
      subst ekx
      have nd1 : (x :: k1').Nodup := q1.nodup_iff.mpr hR.nd
      rw [List.nodup_cons] at nd1
      have le : k1'.length + 1 = kr.length := by rw [← q1.length_eq]; rfl
      have el : (SetTable.eraseAt er i).toList = er.toList.eraseIdx i := eraseAt_list er i hie
      have ez : (SetTable.eraseAt er i).size = er.size - 1 := by rw [← Array.length_toList, el, List.length_eraseIdx_of_lt (by rw [Array.length_toList]; exact hie), Array.length_toList]
      have ed : tr.drop i = { tr with place := SetTable.eraseAt tr.place i, dummies := SetTable.insertAt tr.dummies (SetTable.below tr.dummies tr.place[i]) tr.place[i] } := by unfold SetTable.drop; rw [gp]
      have pl : (SetTable.eraseAt tr.place i).toList = tr.place.toList.eraseIdx i := eraseAt_list tr.place i hip
      have pe : (SetTable.eraseAt tr.place i).size = tr.place.size - 1 := by rw [← Array.length_toList, pl, List.length_eraseIdx_of_lt (by rw [Array.length_toList]; exact hip), Array.length_toList]
      have ft := hR.ft
      simp only [SetTable.fits, SetTable.fill, Bool.and_eq_true, beq_iff_eq, decide_eq_true_eq] at ft
      refine wpAny_bind (hR.store (es' := SetTable.eraseAt er i) (t' := tr.drop i) (ks' := k1') (by rw [el]; exact n1') nd1.2 (by have := hR.lt4; omega) ?_ ?_ fun h' sb st => ?_)
      · rw [ed]
        simp only [SetTable.fits, SetTable.fill, Bool.and_eq_true, beq_iff_eq, decide_eq_true_eq, pe, ez, insertAt_size]
        have f2 := of_decide_eq_true ft.2
        omega
      · rw [ed]
        refine ⟨hR.tb.led, fun z => ?_⟩
        show Rise (SetTable.eraseAt tr.place i).toList
        rw [pl]
        exact (hR.tb.rise z).sublist (List.eraseIdx_sublist ..)
      · refine wpAny_bind (wpAny_point (wpAny_pure (h true h' k1' sb (SetAt.sx (s := { s with heap := h' }) st (.refl _)) (fun y => ?_) (by omega))))
        rw [← q1.mem_iff (a := y), List.mem_cons]
        constructor
        · exact fun m => ⟨.inr m, fun z => nd1.1 (by rw [← z]; exact m)⟩
        · exact fun ⟨m, n⟩ => m.resolve_left n
  · exact wpAny_pure (h false s.heap kr (Heap.SameBut.refl _ _) (hR.sx (.refl _)) (fun y => ⟨fun m => ⟨m, fun z => hn (by rw [← z]; exact m)⟩, fun m => m.1⟩) (Nat.le_refl _))
end
end L2
set_option Elab.async false
set_option linter.all false
set_option maxRecDepth 100000
namespace L2
open PySem PySem.Spec PyProof.Rows
section
variable {P : Program} {w : World} {A : Around} {E : Value → Shared → Prop} {s : Shared} {S T r : Addr} {ks kr ms ns : List Int} {es er : Array (Int × Value)} {ep epr : Nat} {t tr : SetTable}
end
end L2
set_option Elab.async false
set_option linter.all false
set_option maxRecDepth 100000
namespace L2
open PySem PySem.Spec PyProof.Rows
section
variable {X : Cx}
end
end L2
set_option Elab.async false
set_option linter.all false
set_option maxRecDepth 100000
namespace L2
open PySem PySem.Spec PyProof.Rows
noncomputable def Itz (K : PySem.W.Frag) (a b : Addr) : It :=
  ⟨fun i H => ∃ xs ys x y, SqL K H a xs ∧ SqL K H b ys ∧ xs[i]? = some x ∧ ys[i]? = some y,
   fun i H v H' => ∃ p x y, H p = none ∧ (∀ xs, SqL K H a xs → xs[i]? = some x) ∧ (∀ ys, SqL K H b ys → ys[i]? = some y) ∧ v = .ref p ∧ H' = upd H p (.tup [x, y]),
   fun i H => ∃ xs ys, SqL K H a xs ∧ SqL K H b ys ∧ xs.length ≤ i⟩
theorem zip_stay {fs ex : List Addr} {H : Hp} {h h' : Heap} (k : ∀ b o, b ∉ ex → h.get? b = some o → h'.get? b = some o) : Un fs ex H H h h' where
  keep := fun b o q _ _ hx => k b o hx q
  slot := fun b o q _ _ hx => ⟨o.slots, k b o hx q⟩
  free := fun _ _ _ n _ => n
  there := fun b o q hx => ⟨o, k b o hx q⟩
  tups := fun _ _ q => q
  frzs := fun _ _ _ q => q
  tbls := fun b ps q => ⟨#[], by rw [q]; simp⟩
theorem turn_zip {P : Program} {w : World} {K : PySem.W.Frag} {es : List Expr} {k1 : Nat} {pos : Pos} (z TI TO i1 i2 l1 l2 : Addr) (D : ZipApart z TI TO i1 i2 l1 l2) :
    Turn P w K (.Tuple es k1 pos) (Itz K l1 l2) [z, TI, TO, i1, i2] z (fun i h => IsZip h z TI TO .none ∧ IsPair h TI (.ref i1) (.ref i2) ∧ (∃ a b, IsPair h TO a b) ∧ h.IsListIter i1 l1 i ∧ h.IsListIter i2 l2 i) where
  mem := by simp
  obj := fun i h st b hb => by
    obtain ⟨hz, hTI, ⟨a, c, hTO⟩, ⟨o1, e1, c1, d1⟩, ⟨o2, e2, c2, d2⟩⟩ := st
    simp only [List.mem_cons, List.not_mem_nil, or_false] at hb
    rcases hb with e | e | e | e | e <;> subst e
    · exact ⟨_, hz, fun v y => by have y' : Data.fields _ = Data.cell v := y; cases y'⟩
    · exact ⟨_, hTI, fun v y => by have y' : Data.seq _ _ = Data.cell v := y; cases y'⟩
    · exact ⟨_, hTO, fun v y => by have y' : Data.seq _ _ = Data.cell v := y; cases y'⟩
    · exact ⟨o1, e1, fun v y => by rw [d1] at y; cases y⟩
    · exact ⟨o2, e2, fun v y => by rw [d2] at y; cases y⟩
  keep := fun i h h' st k => by
    obtain ⟨hz, hTI, ⟨a, c, hTO⟩, h1, h2⟩ := st
    exact ⟨k z (by simp) _ hz, k TI (by simp) _ hTI, ⟨a, c, k TO (by simp) _ hTO⟩, h1.at fun o e => k i1 (by simp) o e, h2.at fun o e => k i2 (by simp) o e⟩
  item := by
    intro X hP hw hK hc i pins s σ H E I hf st hg
    subst hP hw hK
    obtain ⟨xs, ys, x, y, hq1, hq2, hx, hy⟩ := hg
    obtain ⟨its1, rv1, p1, _⟩ := I.list hq1
    obtain ⟨its2, rv2, p2, _⟩ := I.list hq2
    obtain ⟨u, hu, ru⟩ := rv1.get hx
    obtain ⟨v, hv, rv⟩ := rv2.get hy
    obtain ⟨hz, hTI, ⟨a, c, hTO⟩, h1, h2⟩ := st
    refine wpAny_pyNext_zip_item D hz hTI hTO h1 h2 p1.isList p2.isList (x := u) (y := v) (by simpa using hu) (by simpa using hv) fun h' a1 a2 a3 a4 a5 a6 kp => ?_
    refine ⟨_, rfl, wpAny_letOwnedTupleGo_zip a1 fun h2' z2 sb => ?_⟩
    have lt : ∀ {c o}, s.heap.get? c = some o → s.heap.objs.size ≠ c := fun e => Nat.ne_of_gt (Heap.lt_size e)
    have kp2 : ∀ b o, b ∉ [z, TI, TO, i1, i2] → s.heap.get? b = some o → h2'.get? b = some o := fun b o hb e => by
      simp only [List.mem_cons, List.not_mem_nil, or_false, not_or] at hb
      exact (sb.2 b hb.1).trans (kp b o hb.1 hb.2.2.1 hb.2.2.2.1 hb.2.2.2.2 e)
    have nz := lt hz
    have nTI := lt hTI
    have nTO := lt hTO
    have n1 : s.heap.objs.size ≠ i1 := by obtain ⟨_, e, _⟩ := h1; exact lt e
    have n2 : s.heap.objs.size ≠ i2 := by obtain ⟨_, e, _⟩ := h2; exact lt e
    have fr : H s.heap.objs.size = none := I.fresh
    have e3 : h2'.get? s.heap.objs.size = some { cls := .type "tuple", data := .seq #[u, v] } := (sb.2 _ nz).trans a5
    have hch : ∀ b ∈ [z, TI, TO, i1, i2], (b ∈ X.ex ∨ X.s₀.heap.objs.size ≤ b) ∧ b ≠ X.env.locals ∧ (∀ x c, X.env.cells.lookup x = some c → c ≠ b) ∧ ∀ p ∈ X.pn ++ pins, p.1 ≠ b := fun b hb => by
      obtain ⟨f0, f1, f2, f3, f4, f5⟩ := hf b hb
      exact ⟨f3, f1, f4, f5⟩
    have off : ∀ b o, H b = some o → b ∉ [z, TI, TO, i1, i2] := fun b o e m => by rw [(hf b m).1] at e; cases e
    have hok1 : HOk X.prog X.w H h2' := fun b o e => (I.hok b o e).stay (fun c oc hc q => kp2 c oc (by rcases hc with y | y; exact (by rw [y]; exact off b o e); exact off c _ y) q) (fun _ q => q) fun _ _ q => q
    have I2 : Inv X pins σ (upd H s.heap.objs.size (.tup [x, y])) { s with heap := h2' } := by
      have un : Un (frs X.stack) [z, TI, TO, i1, i2] H (upd H s.heap.objs.size (.tup [x, y])) s.heap h2' := {
        keep := fun b o q _ _ hx => kp2 b o hx q
        slot := fun b o q _ _ hx => ⟨o.slots, kp2 b o hx q⟩
        free := fun b o q n hx => by rw [upd_ne (Nat.ne_of_lt (Heap.lt_size q))]; exact n
        there := fun b o q hx => ⟨o, kp2 b o hx q⟩
        tups := fun b xs q => by rw [upd_ne (ne_of_none q fr)]; exact q
        frzs := fun b o xs q => by rw [upd_ne (ne_of_none q fr)]; exact q
        tbls := fun b ps q => ⟨#[], by rw [upd_ne (ne_of_none q fr), q]; simp⟩ }
      refine I.call' (s' := { s with heap := h2' }) (ch := [z, TI, TO, i1, i2]) rfl un (fun b o e => ?_) I.bare hch
      by_cases hb : b = s.heap.objs.size
      · subst hb
        rw [upd_same] at e
        cases e
        refine ⟨szr, [u, v], .cons ru (.cons rv .nil), _, e3, rfl, _, rfl⟩
      · rw [upd_ne hb] at e
        refine (hok1 b o e).stay (fun _ _ _ q => q) (fun c q => by rw [upd_ne (ne_of_none q fr)]; exact q) fun c xs q => by rw [upd_ne (ne_of_none q fr)]; exact q
    refine ⟨.ref s.heap.objs.size, _, I2, rfl, ⟨_, x, y, fr, fun xs' h => by rw [I.list_inj h hq1]; exact hx, fun ys' h => by rw [I.list_inj h hq2]; exact hy, rfl, rfl⟩, ⟨z2, ?_, ⟨u, v, ?_⟩, ?_, ?_⟩, fun b hb => ?_⟩
    · exact (sb.2 TI D.TIz).trans (kp TI _ D.TIz D.TITO D.TIi1 D.TIi2 hTI)
    · exact (sb.2 TO D.TOz).trans a2
    · exact a3.at fun o e => (sb.2 i1 D.i1z).trans e
    · exact a4.at fun o e => (sb.2 i2 D.i2z).trans e
    · have hne : b ≠ s.heap.objs.size := fun q => by
        subst q
        simp only [List.mem_cons, List.not_mem_nil, or_false] at hb
        rcases hb with e | e | e | e | e
        · exact nz e
        · exact nTI e
        · exact nTO e
        · exact n1 e
        · exact n2 e
      rw [upd_ne hne]; exact (hf b hb).1
  done := by
    intro X hP hw hK hc i pins s σ H E I hf st hg
    subst hP hw hK
    obtain ⟨xs, ys, hq1, hq2, hx⟩ := hg
    obtain ⟨its1, rv1, p1, _⟩ := I.list hq1
    obtain ⟨its2, rv2, p2, _⟩ := I.list hq2
    obtain ⟨hz, hTI, ⟨a, c, hTO⟩, h1, h2⟩ := st
    have hl := rv1.length
    have off : ∀ b o, H b = some o → b ∉ [z, TI, TO, i1, i2] := fun b o e m => by rw [(hf b m).1] at e; cases e
    refine wpAny_pyNext_zip_end (I.ok.hd hc) D hz hTI hTO h1 h2 p1.isList p2.isList (.inl (by simp; omega)) fun h' kp => ⟨rfl, ?_⟩
    have kp2 : ∀ b o, b ∉ [z, TI, TO, i1, i2] → s.heap.get? b = some o → h'.get? b = some o := fun b o hb e => by
      simp only [List.mem_cons, List.not_mem_nil, or_false, not_or] at hb
      exact kp b o hb.1 hb.2.2.1 hb.2.2.2.1 hb.2.2.2.2 e
    refine I.call' (s' := { s with heap := h' }) (ch := [z, TI, TO, i1, i2]) rfl (zip_stay kp2) (fun b o e => (I.hok b o e).stay (fun c oc hc q => kp2 c oc (by rcases hc with y | y; exact (by rw [y]; exact off b o e); exact off c _ y) q) (fun _ q => q) fun _ _ q => q) I.bare fun b hb => ?_
    obtain ⟨f0, f1, f2, f3, f4, f5⟩ := hf b hb
    exact ⟨f3, f1, f4, f5⟩
  self := fun _ _ _ _ _ st h => wpAny_pyIter_zip st.1 h
theorem zip_apart (n l1 l2 : Nat) (t1 : l1 < n) (t2 : l2 < n) : ZipApart (n + 4) (n + 2) (n + 3) n (n + 1) l1 l2 := by
  constructor <;> first | exact Nat.ne_of_lt (by omega) | exact Nat.ne_of_gt (by omega)
section
variable {X : Cx}
noncomputable def iZip (K : PySem.W.Frag) (ta : TA) : TI := fun σ H R => ta σ H fun vs H1 => ∃ a b xs ys, vs = [.ref a, .ref b] ∧ SqL K H1 a xs ∧ SqL K H1 b ys ∧ R (Itz K a b) H1
theorem pi_zip {a b : Expr} {ta : TA} {p pos tp : Pos} {es : List Expr} {k1 : Nat} (K : PySem.W.Frag) (hg : Gl X "zip") (hm : X.mg "zip" = none) (ha : PA X [a, b] ta) (hK : X.K = K := by rfl) (hs : starEach [a, b] X.env = [(false, eval a X.env), (false, eval b X.env)] := by rfl) (hs2 : starEach [b] X.env = [(false, eval b X.env)] := by rfl) :
    PI X (.Tuple es k1 tp) (.Call (.Name "zip" p) [a, b] [] pos) (iZip K ta) := by
  subst hK
  intro pins s σ H R I h
  refine Call_ (ld_blt I hg hm boot_zip (PyProof.Rows.callWith_type1 (thn (ha pos pins s σ H _ I h) fun us s1 ⟨vs, H1, I1, r1, q1⟩ => ?_) (by rw [hs, hs2]) (by rw [hs2]; rfl)))
  obtain ⟨l1, l2, xs, ys, e, hq1, hq2, q⟩ := q1
  subst e
  cases r1 with
  | cons r rr =>
    cases rr with
    | cons r' rr =>
      cases rr
      cases r
      cases r'
      obtain ⟨its1, rv1, p1, _⟩ := I1.list hq1
      obtain ⟨its2, rv2, p2, _⟩ := I1.list hq2
      have t1 : l1 < s1.heap.objs.size := by obtain ⟨o, e, _⟩ := p1.isList; exact Heap.lt_size e
      have t2 : l2 < s1.heap.objs.size := by obtain ⟨o, e, _⟩ := p2.isList; exact Heap.lt_size e
      refine call_zip_2 p1.isList p2.isList fun h' hz hTI hTO h1 h2 hsz kp => ?_
      refine wpAny_pyIter_zip hz ?_
      have D := zip_apart s1.heap.objs.size l1 l2 t1 t2
      have I2 : Inv X pins σ H1 { s1 with heap := h' } := I1.kept (t' := s1.toks) kp
      refine ⟨_, [s1.heap.objs.size + 4, s1.heap.objs.size + 2, s1.heap.objs.size + 3, s1.heap.objs.size, s1.heap.objs.size + 1], _, _, H1, rfl, I2, turn_zip _ _ _ _ _ _ _ D, ⟨hz, hTI, ⟨_, _, hTO⟩, h1, h2⟩, fun b hb => ?_, q⟩
      have le : s1.heap.objs.size ≤ b := by
        simp only [List.mem_cons, List.not_mem_nil, or_false] at hb
        rcases hb with e | e | e | e | e <;> subst e
        · exact Nat.le_add_right _ _
        · exact Nat.le_add_right _ _
        · exact Nat.le_add_right _ _
        · exact Nat.le_refl _
        · exact Nat.le_add_right _ _
      exact I1.fpOk le (I1.hok.fresh le)
end
end L2
set_option Elab.async false
set_option linter.all false
set_option maxRecDepth 100000
namespace L2
open PySem PySem.Spec PyProof.Rows
section
variable {X : Cx}
end
end L2
set_option Elab.async false
set_option linter.all false
set_option maxRecDepth 100000
namespace L2
open PySem PySem.Spec PyProof.Rows
section
variable {X : Cx}
end
section
variable {X : Cx}
end
end L2
set_option Elab.async false
set_option linter.all false
set_option maxRecDepth 100000
namespace L2
open PySem PySem.Spec PyProof.Rows
section
variable {X : Cx}
end
end L2
set_option Elab.async false
set_option linter.all false
set_option maxRecDepth 100000
namespace L2
open PySem PySem.Spec PyProof.Rows
section
open PySem.AutoSeq1 (wpAny_loadPart')
open PySem.MeetsSeq PySem.MeetsSeq2 PySem.MeetsSeq3
end
section
variable {X : Cx}
end
end L2
set_option Elab.async false
set_option linter.all false
set_option maxRecDepth 100000
namespace L2
open PySem PySem.Spec PyProof.Rows
theorem comp_walk2 {J : It} {H1 : Hp} {js : List (Option Nat)} {σ : L2.St} {tc : TT} {te : TE} {Q : VK} (n : Nat) (item : Nat → V) (p : Nat → Bool) (P : Addr → Nat → V → Hp → Prop) (hn : n < 100000)
    (mono : ∀ acc i v H H', P acc i v H → SameBut acc H H' → P acc i v H')
    (hgo : ∀ i H, i < n → Same H1 H → J.go i H) (hst : ∀ H, Same H1 H → J.stop n H) (hy : ∀ i H x H', i < n → Same H1 H → J.yld i H x H' → H' = H ∧ x = item i)
    (hc : ∀ i, i < n → ∀ H2 R, Same H1 H2 → (∀ H3, Same H2 H3 → R (p i) H3) → tc (some (item i) :: pick σ js) H2 R)
    (he : ∀ acc i, i < n → p i = true → ∀ H2 R, Same H1 H2 → H1 acc = none → H2 acc ≠ none → (∀ v H3, Same H2 H3 → P acc i v H3 → R v H3) → te (some (item i) :: pick σ js) H2 R)
    (hQ : ∀ acc vs H', Same H1 H' → H1 acc = none → H' acc = some (.lst vs) → Paired (fun i v => P acc i v H') ((List.range n).filter p) vs → Q (.ref acc) H') :
    CompB J H1 (none :: js) (gName 0) tc te σ Q := by
  intro acc hacc
  refine ⟨fun i m ys H => m = n - i ∧ i ≤ n ∧ Same H1 H ∧ H acc = some (.lst ys) ∧ Paired (fun k v => P acc k v H) ((List.range i).filter p) ys, ⟨n, by simp, Nat.zero_le _, Same.new hacc, upd_same, .nil⟩, ?_⟩
  rintro i m ys H ⟨rfl, hi, s1, ha, hp⟩
  by_cases hlt : i < n
  · refine .inr ⟨hgo i H hlt s1, fun ys' H' => i < n ∧ Same H1 H' ∧ H' acc = some (.lst ys') ∧ Paired (fun k v => P acc k v H') ((List.range (i + 1)).filter p) ys', fun ys' H' ⟨z, a, b, c⟩ => ⟨n - (i + 1), by omega, rfl, hlt, a, b, c⟩, fun x H' y => ?_⟩
    obtain ⟨rfl, rfl⟩ := hy i H x H' hlt s1 y
    refine ⟨kept1, hc i hlt _ _ s1 fun H2 s2 => ⟨fun hb => ?_, fun hb => ?_⟩⟩
    · have ha2 := s2 _ _ ha
      refine he acc i hlt hb _ _ (s1.trans s2) hacc (by rw [ha2]; simp) fun v H3 s3 pv => ?_
      have hlen : ys.length ≤ i := by
        rw [← Paired.length hp]
        exact Nat.le_trans (List.length_filter_le _ _) (by simp)
      refine ⟨s3 _ _ ha2, szn (by omega), hlt, ((s1.trans s2).trans s3).put hacc, upd_same, ?_⟩
      rw [List.range_succ, List.filter_append]
      have e : List.filter p [i] = [i] := by simp [hb]
      rw [e]
      refine Paired.snoc (Paired.mapP hp fun k v q => ?_) ?_
      · exact mono acc k v _ _ (mono acc k v _ _ q (s2.trans s3).but) SameBut.upd
      · exact mono acc i v _ _ pv SameBut.upd
    · refine ⟨hlt, s1.trans s2, s2 _ _ ha, ?_⟩
      rw [List.range_succ, List.filter_append]
      have e : List.filter p [i] = [] := by simp [hb]
      rw [e, List.append_nil]
      exact Paired.mapP hp fun k v q => mono acc k v _ _ q s2.but
  · have e : i = n := by omega
    subst e
    exact .inl ⟨hst H s1, hQ acc ys H s1 hacc ha hp⟩
noncomputable def unl (f : Nat → Int) (st : List Nat) : Nat := (dd (st.map f)).length
theorem unl_snoc (f : Nat → Int) (st : List Nat) (i : Nat) : unl f (st ++ [i]) = if f i ∈ st.map f then unl f st else unl f st + 1 := by
  unfold unl
  rw [List.map_append, List.map_cons, List.map_nil, dd_snoc]
  unfold dstep
  by_cases h : f i ∈ st.map f
  · rw [if_pos h, if_pos (dd_mem.mpr h)]
  · rw [if_neg h, if_neg fun z => h (dd_mem.mp z), List.length_append, List.length_singleton]
theorem comp_list2 {K : PySem.W.Frag} {H1 : Hp} {js : List (Option Nat)} {σ : L2.St} {tc : TT} {te : TE} {Q : VK} {a : Addr} {xs : List V} (p : Nat → Bool) (f : Nat → V) (hl : SqL K H1 a xs) (hn : xs.length < 100000)
    (hc : ∀ (i : Nat) x, xs[i]? = some x → ∀ H2 R, Same H1 H2 → (∀ H3, Same H2 H3 → R (p i) H3) → tc (some x :: pick σ js) H2 R)
    (he : ∀ (i : Nat) x, xs[i]? = some x → p i = true → ∀ H2 R, Same H1 H2 → (∀ H3, Same H2 H3 → R (f i) H3) → te (some x :: pick σ js) H2 R)
    (hQ : ∀ acc H', Same H1 H' → H1 acc = none → H' acc = some (.lst (((List.range xs.length).filter p).map f)) → Q (.ref acc) H') : CompB (Itl K a) H1 (none :: js) (gName 0) tc te σ Q :=
  comp_walk2 (J := Itl K a) (H1 := H1) (js := js) (σ := σ) (tc := tc) (te := te) (Q := Q) xs.length (fun i => xs.getD i .non) p (fun _ i v _ => v = f i) hn (fun _ _ _ _ _ h _ => h)
    (fun i H h s => ⟨xs, xs[i], s.seq hl, by simp [h]⟩) (fun H s => ⟨xs, s.seq hl, Nat.le_refl _⟩)
    (fun i H x H' h s y => ⟨y.1, by have e := y.2 xs (s.seq hl); simp [e]⟩)
    (fun i h H2 R s k => hc i _ (by simp [h]) H2 R s k) (fun acc i h hp H2 R s n1 n2 k => he i _ (by simp [h]) hp H2 R s fun H3 s3 => k _ H3 s3 rfl)
    fun acc vs H' s n' e p => hQ acc H' s n' (by rw [e, paired_map p])
noncomputable def brk (f : Nat → Int) (n : Nat) (wd : Str) (k : Int) (st : List Nat) : Bool :=
  if wd = "most" then decide (k < ((unl f (st.filter fun i => decide (i < n)) : Nat) : Int)) else decide (((unl f (st.filter fun i => decide (i < n)) : Nat) : Int) + (st.length : Int) - ((st.filter fun i => decide (i < n)).length : Int) < k)
noncomputable def fx (hs : List Int) (x : Int) : Nat := hs.findIdx fun y => decide (y = x)
theorem fx_at {hs : List Int} {x : Int} (h : x ∈ hs) : hs[fx hs x]? = some x := by
  have hl : fx hs x < hs.length := List.findIdx_lt_length_of_exists ⟨x, h, by simp⟩
  have := List.findIdx_getElem (xs := hs) (p := fun y => decide (y = x)) (w := hl)
  rw [List.getElem?_eq_getElem hl]
  exact congrArg some (of_decide_eq_true this)
theorem fx_no {hs : List Int} {x : Int} {m : Nat} (h : m < fx hs x) : hs[m]? ≠ some x := fun z => by
  obtain ⟨hm, e⟩ := List.getElem?_eq_some_iff.mp z
  have := List.not_of_lt_findIdx h
  rw [e] at this
  simp at this
noncomputable def shN (hs : List Int) (k : Nat) : Nat := (dd (hs.take (fx hs (hs.getD k 0)))).length
noncomputable def shp (hs : List Int) : List Nat := (List.range hs.length).map (shN hs)
theorem shp_len {hs : List Int} : (shp hs).length = hs.length := by unfold shp; simp
theorem shp_at {hs : List Int} {k : Nat} (h : k < hs.length) : (shp hs)[k]? = some (shN hs k) := by
  unfold shp
  rw [List.getElem?_map, List.getElem?_range h]; rfl
end L2
set_option Elab.async false
set_option linter.all false
set_option maxRecDepth 100000
namespace L2
open PySem PySem.Spec PyProof.Rows
end L2
set_option Elab.async false
set_option linter.all false
set_option maxRecDepth 100000
namespace L2
open PySem PySem.Spec PyProof.Rows
theorem fx_app {l r : List Int} {b : Int} (h : b ∈ l) : fx (l ++ r) b = fx l b := by
  have hl : fx l b < l.length := List.findIdx_lt_length_of_exists ⟨b, h, by simp⟩
  unfold fx at *
  rw [List.findIdx_append, if_pos hl]
theorem fx_lt {l : List Int} {b : Int} (h : b ∈ l) : fx l b < l.length := List.findIdx_lt_length_of_exists ⟨b, h, by simp⟩
end L2
set_option Elab.async false
set_option linter.all false
set_option maxRecDepth 100000
namespace L2
open PySem PySem.Spec PyProof.Rows
section
variable {X : Cx}
end
end L2
set_option Elab.async false
set_option linter.all false
set_option maxRecDepth 100000
namespace L2
open PySem PySem.Spec PyProof.Rows
noncomputable def num (hs : List Int) (b : Int) : Nat := (dd (hs.take (fx hs b))).length
theorem shp_map (hs : List Int) : shp hs = hs.map (num hs) := by
  apply List.ext_getElem
  · rw [shp_len, List.length_map]
  · intro i h1 h2
    rw [shp_len] at h1
    have := shp_at h1
    rw [List.getElem?_eq_getElem (by rw [shp_len]; exact h1)] at this
    rw [Option.some.inj this, List.getElem_map]
    unfold shN num
    rw [getD_get h1]
theorem num_lt {hs : List Int} {a b : Int} (ha : a ∈ hs) (h : fx hs a < fx hs b) : num hs a < num hs b := by
  have na : a ∉ hs.take (fx hs a) := fun m => by
    obtain ⟨i, hi, e⟩ := List.mem_iff_getElem.mp m
    rw [List.length_take] at hi
    rw [List.getElem_take] at e
    exact fx_no (show i < fx hs a by omega) (by rw [List.getElem?_eq_getElem (by omega), e])
  have ma : a ∈ hs.take (fx hs b) := by
    have hl := fx_lt ha
    have e := fx_at ha
    rw [List.getElem?_eq_getElem hl] at e
    rw [List.mem_iff_getElem]
    exact ⟨fx hs a, by rw [List.length_take]; omega, by rw [List.getElem_take]; exact Option.some.inj e⟩
  have nd : (dd (hs.take (fx hs a)) ++ [a]).Nodup := nd_snoc (dd_nd _) fun z => na (dd_mem.mp z)
  have := nd.length_le_of_subset (l₂ := dd (hs.take (fx hs b))) fun x hx => by
    rcases List.mem_append.mp hx with z | z
    · refine dd_mem.mpr ?_
      have hx' := dd_mem.mp z
      have : hs.take (fx hs a) = (hs.take (fx hs b)).take (fx hs a) := by rw [List.take_take, Nat.min_eq_left (by omega)]
      rw [this] at hx'
      exact List.mem_of_mem_take hx'
    · rw [List.mem_singleton.mp z]; exact dd_mem.mpr ma
  rw [List.length_append, List.length_singleton] at this
  exact this
theorem num_inj {hs : List Int} {a b : Int} (ha : a ∈ hs) (hb : b ∈ hs) (h : num hs a = num hs b) : a = b := by
  rcases Nat.lt_trichotomy (fx hs a) (fx hs b) with z | z | z
  · have := num_lt ha z; omega
  · have e1 := fx_at ha
    have e2 := fx_at hb
    rw [z, e2] at e1
    exact (Option.some.inj e1).symm
  · have := num_lt hb z; omega
theorem shp_take {hs : List Int} {k : Nat} (h : k ≤ hs.length) : shp (hs.take k) = (shp hs).take k := by
  rw [shp_map, shp_map, ← List.map_take]
  apply List.map_congr_left
  intro b hb
  have e : fx (hs.take k) b = fx hs b := by
    have := fx_app (r := hs.drop k) hb
    rw [List.take_append_drop] at this
    exact this.symm
  unfold num
  rw [e, List.take_take, Nat.min_eq_left]
  have := fx_lt hb
  rw [List.length_take] at this
  omega
end L2
set_option Elab.async false
set_option linter.all false
set_option maxRecDepth 100000
namespace L2
open PySem PySem.Spec PyProof.Rows
end L2
set_option Elab.async false
set_option linter.all false
set_option maxRecDepth 100000
namespace L2
open PySem PySem.Spec PyProof.Rows
section
variable {X : Cx} {tg l : Expr} {tl : TE}
end
section
variable {X : Cx}
end
end L2
set_option Elab.async false
set_option linter.all false
set_option maxRecDepth 100000
namespace L2
open PySem PySem.Spec PyProof.Rows
theorem comp_inv {J : It} {H1 : Hp} {js : List (Option Nat)} {σ : L2.St} {te : TE} {Q : VK} (n : Nat) (item : Nat → V) (P : Addr → List V → Hp → Prop) (hn : n < 100000)
    (mono : ∀ acc ys H H', P acc ys H → SameBut acc H H' → P acc ys H') (h0 : ∀ acc H, P acc [] H)
    (hgo : ∀ i H, i < n → Same H1 H → J.go i H) (hst : ∀ H, Same H1 H → J.stop n H) (hy : ∀ i H x H', i < n → Same H1 H → J.yld i H x H' → H' = H ∧ x = item i)
    (he : ∀ acc i ys H2 R, i < n → Same H1 H2 → H1 acc = none → H2 acc = some (.lst ys) → ys.length = i → P acc ys H2 → (∀ v H3, Same H2 H3 → P acc (ys ++ [v]) H3 → R v H3) → te (some (item i) :: pick σ js) H2 R)
    (hQ : ∀ acc ys H', Same H1 H' → H1 acc = none → H' acc = some (.lst ys) → ys.length = n → P acc ys H' → Q (.ref acc) H') :
    CompB J H1 (none :: js) (gName 0) tYes te σ Q := by
  intro acc hacc
  refine ⟨fun i m ys H => m = n - i ∧ i ≤ n ∧ Same H1 H ∧ H acc = some (.lst ys) ∧ ys.length = i ∧ P acc ys H, ⟨n, by simp, Nat.zero_le _, Same.new hacc, upd_same, rfl, h0 _ _⟩, ?_⟩
  rintro i m ys H ⟨rfl, hi, s1, ha, hl, hp⟩
  by_cases hlt : i < n
  · refine .inr ⟨hgo i H hlt s1, fun ys' H' => i < n ∧ Same H1 H' ∧ H' acc = some (.lst ys') ∧ ys'.length = i + 1 ∧ P acc ys' H', fun ys' H' ⟨z, a, b, c, d⟩ => ⟨n - (i + 1), by omega, rfl, hlt, a, b, c, d⟩, fun x H' y => ?_⟩
    obtain ⟨rfl, rfl⟩ := hy i H x H' hlt s1 y
    refine ⟨kept1, ⟨fun _ => ?_, fun hb => by cases hb⟩⟩
    refine he acc i ys _ _ hlt s1 hacc ha hl hp fun v H3 s3 pv => ?_
    refine ⟨s3 _ _ ha, szn (by omega), hlt, (s1.trans s3).put hacc, upd_same, by rw [List.length_append, List.length_singleton, hl], ?_⟩
    exact mono acc _ _ _ pv SameBut.upd
  · have e : i = n := by omega
    subst e
    exact .inl ⟨hst H s1, hQ acc ys H s1 hacc ha hl hp⟩
theorem atI_int {ns : List Int} {j : Nat} (h : j < ns.length) : atI (ns.map V.int) (j : Int) = some (.int (ns.getD j 0)) := atI_nat (by simp [h])
noncomputable def RowsL (H : Hp) (rs : List Addr) (ps : List (List Int)) : Prop := Paired (fun r p => H r = some (.lst (p.map V.int))) rs ps
theorem RowsL.len {H : Hp} {rs : List Addr} {ps : List (List Int)} (h : RowsL H rs ps) : rs.length = ps.length := Paired.length h
theorem RowsL.same {H H' : Hp} {rs : List Addr} {ps : List (List Int)} (h : RowsL H rs ps) (s : Same H H') : RowsL H' rs ps := Paired.mapP h fun _ _ q => s _ _ q
theorem RowsL.pools {K : PySem.W.Frag} {H : Hp} {rs : List Addr} {ps : List (List Int)} (h : RowsL H rs ps) : PoolsL K H rs ps := Paired.mapP h fun _ _ q => SqL.of q
theorem RowsL.at {H : Hp} {rs : List Addr} {ps : List (List Int)} (h : RowsL H rs ps) {i : Nat} {p : List Int} (e : ps[i]? = some p) : ∃ r, rs[i]? = some r ∧ H r = some (.lst (p.map V.int)) := pair_get (F := fun (r : Addr) (p : List Int) => H r = some (.lst (p.map V.int))) h e
theorem RowsL.get {H : Hp} {rs : List Addr} {ps : List (List Int)} (h : RowsL H rs ps) {i : Nat} {r : Addr} (e : rs[i]? = some r) : ∃ p, ps[i]? = some p ∧ H r = some (.lst (p.map V.int)) := by
  have hi : i < ps.length := by rw [← h.len]; exact (List.getElem?_eq_some_iff.mp e).1
  obtain ⟨r', e1, e2⟩ := h.at (List.getElem?_eq_getElem hi)
  rw [e] at e1
  cases e1
  exact ⟨_, List.getElem?_eq_getElem hi, e2⟩
theorem RowsL.of {H : Hp} {rs : List Addr} {ps : List (List Int)} (hl : rs.length = ps.length) (h : ∀ (i : Nat) r p, rs[i]? = some r → ps[i]? = some p → H r = some (.lst (p.map V.int))) : RowsL H rs ps := paired_of hl h
theorem RowsL.set {H : Hp} {rs : List Addr} {ps : List (List Int)} (h : RowsL H rs ps) (nd : rs.Nodup) {j : Nat} {r : Addr} (e : rs[j]? = some r) (p : List Int) : RowsL (upd H r (.lst (p.map V.int))) rs (ps.set j p) := by
  refine RowsL.of (by rw [List.length_set, h.len]) fun i r' p' e1 e2 => ?_
  by_cases z : i = j
  · subst z
    rw [e] at e1
    cases e1
    have hi : i < ps.length := by rw [← h.len]; exact (List.getElem?_eq_some_iff.mp e).1
    rw [List.getElem?_set_self hi] at e2
    cases e2
    exact upd_same
  · rw [List.getElem?_set_ne (fun y => z y.symm)] at e2
    have ne : r' ≠ r := fun y => by
      subst y
      obtain ⟨h1, h1'⟩ := List.getElem?_eq_some_iff.mp e1
      obtain ⟨h2, h2'⟩ := List.getElem?_eq_some_iff.mp e
      exact z ((List.getElem_inj nd).mp (h1'.trans h2'.symm))
    obtain ⟨p2, e3, e4⟩ := h.get e1
    rw [e2] at e3
    cases e3
    rw [upd_ne ne]
    exact e4
structure TieT (H : Hp) (x : Addr × Addr × Str × Int × List Nat) : Prop where
  tp : H x.1 = some (.tup [.str x.2.2.1, .int x.2.2.2.1, .ref x.2.1])
  ts : H x.2.1 = some (.tup (x.2.2.2.2.map fun (i : Nat) => V.int (i : Int)))
  wd : x.2.2.1 = "most" ∨ x.2.2.1 = "least"
  sl : x.2.2.2.2.length ≤ 6
theorem TieT.same {H H' : Hp} {x : Addr × Addr × Str × Int × List Nat} (h : TieT H x) (s : Same H H') : TieT H' x := ⟨s _ _ h.tp, s _ _ h.ts, h.wd, h.sl⟩
structure TieG (n : Nat) (x : Addr × Addr × Str × Int × List Nat) : Prop where
  k1 : 1 ≤ x.2.2.2.1
  k6 : x.2.2.2.1 ≤ 6
  ne : x.2.2.2.2 ≠ []
  lt : ∀ i ∈ x.2.2.2.2, i < n
  up : x.2.2.2.2.Pairwise (· < ·)
structure Drawn (H : Hp) (l m L T : Addr) (ms : List Int) (rs : List Addr) (ps : List (List Int)) (ts : List (Addr × Addr × Str × Int × List Nat)) (top : Nat) : Prop where
  hl : H l = some (.lst [.ref m, .ref L, .ref T])
  hm : H m = some (.lst (ms.map V.int))
  hL : H L = some (.lst (rs.map V.ref))
  hT : H T = some (.lst (ts.map fun x => V.ref x.1))
  rows : RowsL H rs ps
  mup : ms.Pairwise (· < ·)
  mne : ms ≠ []
  m8 : ms.length ≤ 8
  mb : ∀ b ∈ ms, 1 ≤ b ∧ b ≤ 10 ^ 18
  pup : ∀ p ∈ ps, p.Pairwise (· < ·)
  psub : ∀ p ∈ ps, ∀ b ∈ p, b ∈ ms
  p1 : 1 ≤ ps.length
  ptop : ps.length ≤ top
  p6 : ps.length ≤ 6
  tea : ∀ x ∈ ts, TieT H x
  tg : ∀ x ∈ ts, TieG ps.length x
  t12 : ts.length ≤ 12
theorem Drawn.same {H H' : Hp} {l m L T : Addr} {ms : List Int} {rs : List Addr} {ps : List (List Int)} {ts : List (Addr × Addr × Str × Int × List Nat)} {top : Nat} (d : Drawn H l m L T ms rs ps ts top) (s : Same H H') : Drawn H' l m L T ms rs ps ts top :=
  ⟨s _ _ d.hl, s _ _ d.hm, s _ _ d.hL, s _ _ d.hT, d.rows.same s, d.mup, d.mne, d.m8, d.mb, d.pup, d.psub, d.p1, d.ptop, d.p6, fun x hx => (d.tea x hx).same s, d.tg, d.t12⟩
end L2
set_option Elab.async false
set_option linter.all false
set_option maxRecDepth 100000
namespace L2
open PySem PySem.Spec PyProof.Rows
theorem dd_le {l r : List Int} (h : ∀ x ∈ l, x ∈ r) : (dd l).length ≤ (dd r).length := (dd_nd l).length_le_of_subset fun x hx => dd_mem.mpr (h x (dd_mem.mp hx))
theorem snoc_indN {P : List Nat → Prop} (h0 : P []) (hs : ∀ l x, P l → P (l ++ [x])) (l : List Nat) : P l := by
  have : ∀ n (l : List Nat), l.length = n → P l := by
    intro n
    induction n with
    | zero => intro l e; rw [List.length_eq_zero_iff.mp e]; exact h0
    | succ n ih =>
      intro l e
      have hne : l ≠ [] := fun z => by rw [z] at e; simp at e
      rw [← List.dropLast_concat_getLast hne]
      exact hs _ _ (ih _ (by rw [List.length_dropLast, e]; rfl))
  exact this _ l rfl
theorem unl_iff {f g : Nat → Int} (A : List Nat) : (∀ i ∈ A, ∀ j ∈ A, f i = f j ↔ g i = g j) → unl f A = unl g A := by
  refine snoc_indN (P := fun A => (∀ i ∈ A, ∀ j ∈ A, f i = f j ↔ g i = g j) → unl f A = unl g A) (fun _ => rfl) (fun l x ih h => ?_) A
  have ih' := ih fun i hi j hj => h i (List.mem_append_left _ hi) j (List.mem_append_left _ hj)
  rw [unl_snoc, unl_snoc, ih']
  have e : f x ∈ l.map f ↔ g x ∈ l.map g := by
    constructor
    · intro m
      obtain ⟨i, hi, e⟩ := List.mem_map.mp m
      exact List.mem_map.mpr ⟨i, hi, (h i (List.mem_append_left _ hi) x (by simp)).mp e⟩
    · intro m
      obtain ⟨i, hi, e⟩ := List.mem_map.mp m
      exact List.mem_map.mpr ⟨i, hi, (h i (List.mem_append_left _ hi) x (by simp)).mpr e⟩
  by_cases z : f x ∈ l.map f
  · rw [if_pos z, if_pos (e.mp z)]
  · rw [if_neg z, if_neg fun y => z (e.mpr y)]
noncomputable def kp (f : Nat → Int) (wd : Str) (k : Int) (st : List Nat) : Bool := if wd = "most" then decide (((unl f st : Nat) : Int) ≤ k) else decide (k ≤ ((unl f st : Nat) : Int))
theorem shpI_at {hs : List Int} {i : Nat} (h : i < hs.length) : ((shp hs).map fun (i : Nat) => (i : Int)).getD i 0 = (num hs (hs.getD i 0) : Int) := by
  rw [shp_map, List.map_map]
  simp [h, List.getD_eq_getElem?_getD]
theorem shp_same {hs : List Int} {i j : Nat} (hi : i < hs.length) (hj : j < hs.length) : ((shp hs).map fun (i : Nat) => (i : Int)).getD i 0 = ((shp hs).map fun (i : Nat) => (i : Int)).getD j 0 ↔ hs.getD i 0 = hs.getD j 0 := by
  rw [shpI_at hi, shpI_at hj]
  constructor
  · intro h
    exact num_inj (by rw [getD_get hi]; exact List.getElem_mem hi) (by rw [getD_get hj]; exact List.getElem_mem hj) (by omega)
  · intro h; rw [h]
theorem shN_iff {hs os : List Int} (hl : hs.length = os.length) (h : ∀ i, i < hs.length → ∀ j, j < hs.length → (hs.getD i 0 = hs.getD j 0 ↔ os.getD i 0 = os.getD j 0)) {k : Nat} (hk : k < hs.length) : shN hs k = shN os k := by
  have hk' : k < os.length := by omega
  have mh : hs.getD k 0 ∈ hs := by rw [getD_get hk]; exact List.getElem_mem hk
  have mo : os.getD k 0 ∈ os := by rw [getD_get hk']; exact List.getElem_mem hk'
  have ef : fx hs (hs.getD k 0) = fx os (os.getD k 0) := by
    have a1 := fx_lt mh
    have a2 := fx_lt mo
    have b1 := fx_at mh
    have b2 := fx_at mo
    have c1 : hs.getD (fx hs (hs.getD k 0)) 0 = hs.getD k 0 := by rw [List.getD_eq_getElem?_getD, b1]; rfl
    have c2 : os.getD (fx os (os.getD k 0)) 0 = os.getD k 0 := by rw [List.getD_eq_getElem?_getD, b2]; rfl
    have d1 := (h _ a1 _ hk).mp c1
    have d2 := (h _ (by omega) _ hk).mpr c2
    have g1 : ∀ m, m < fx os (os.getD k 0) → os.getD m 0 ≠ os.getD k 0 := fun m hm e => by
      have := List.not_of_lt_findIdx hm
      rw [getD_get (by omega : m < os.length)] at e
      simp at this
      exact this (by rw [e, List.getD_eq_getElem?_getD])
    have g2 : ∀ m, m < fx hs (hs.getD k 0) → hs.getD m 0 ≠ hs.getD k 0 := fun m hm e => by
      have := List.not_of_lt_findIdx hm
      rw [getD_get (by omega : m < hs.length)] at e
      simp at this
      exact this (by rw [e, List.getD_eq_getElem?_getD])
    rcases Nat.lt_trichotomy (fx hs (hs.getD k 0)) (fx os (os.getD k 0)) with y | y | y
    · exact absurd d1 (g1 _ y)
    · exact y
    · exact absurd d2 (g2 _ y)
  have el : ∀ n, n ≤ hs.length → (dd (hs.take n)).length = (dd (os.take n)).length := fun n hn => by
    have e1 : ∀ (l : List Int), n ≤ l.length → l.take n = (List.range n).map fun i => l.getD i 0 := fun l hl' => by
      apply List.ext_getElem
      · simp; omega
      · intro i h1 h2
        simp only [List.length_take] at h1
        have : i < l.length := by omega
        simp [this]
    have u := unl_iff (f := fun i => hs.getD i 0) (g := fun i => os.getD i 0) (List.range n) fun i hi j hj => h i (by have := List.mem_range.mp hi; omega) j (by have := List.mem_range.mp hj; omega)
    unfold unl at u
    rw [← e1 hs hn, ← e1 os (by omega)] at u
    exact u
  unfold shN
  rw [← ef]
  exact el _ (Nat.le_of_lt (fx_lt mh))
theorem shp_eq_iff {hs os : List Int} (hl : hs.length = os.length) : shp hs = shp os ↔ ∀ i, i < hs.length → ∀ j, j < i → (hs.getD i 0 = hs.getD j 0 ↔ os.getD i 0 = os.getD j 0) := by
  constructor
  · intro e i hi j hj
    rw [← shp_same hi (by omega), ← shp_same (hs := os) (by omega) (by omega), e]
  · intro h
    have h' : ∀ i, i < hs.length → ∀ j, j < hs.length → (hs.getD i 0 = hs.getD j 0 ↔ os.getD i 0 = os.getD j 0) := fun i hi j hj => by
      rcases Nat.lt_trichotomy i j with y | y | y
      · have := h j hj i y
        exact ⟨fun e => (this.mp e.symm).symm, fun e => (this.mpr e.symm).symm⟩
      · subst y; simp
      · exact h i hi j y
    unfold shp
    rw [← hl]
    exact List.map_congr_left fun k hk => shN_iff hl h' (List.mem_range.mp hk)
theorem dd_snoc_len (l : List Int) (x : Int) : (dd (l ++ [x])).length = if x ∈ l then (dd l).length else (dd l).length + 1 := by
  rw [dd_snoc]
  unfold dstep
  by_cases h : x ∈ l
  · rw [if_pos h, if_pos (dd_mem.mpr h)]
  · rw [if_neg h, if_neg fun z => h (dd_mem.mp z), List.length_append, List.length_singleton]
noncomputable def Canon (p : List Int) : Prop := p = (shp p).map fun (i : Nat) => (i : Int)
theorem shp_lt {hs : List Int} {k : Nat} (h : k < hs.length) : shN hs k < (dd hs).length := by
  unfold shN
  have m : hs.getD k 0 ∈ hs := by rw [getD_get h]; exact List.getElem_mem h
  have a := fx_lt m
  have nm : hs.getD k 0 ∉ hs.take (fx hs (hs.getD k 0)) := fun z => by
    obtain ⟨i, hi, e⟩ := List.mem_iff_getElem.mp z
    rw [List.length_take] at hi
    have := List.not_of_lt_findIdx (show i < fx hs (hs.getD k 0) by omega)
    rw [List.getElem_take] at e
    simp at this
    exact this (by rw [e, List.getD_eq_getElem?_getD])
  have e := dd_snoc_len (hs.take (fx hs (hs.getD k 0))) (hs.getD k 0)
  rw [if_neg nm] at e
  have := dd_le (l := hs.take (fx hs (hs.getD k 0)) ++ [hs.getD k 0]) (r := hs) fun x hx => by
    rcases List.mem_append.mp hx with z | z
    · exact List.mem_of_mem_take z
    · rw [List.mem_singleton.mp z]; exact m
  omega
theorem canon_mem {p : List Int} (c : Canon p) {x : Int} (h : x ∈ p) : ∃ j : Nat, x = (j : Int) ∧ j < (dd p).length := by
  rw [c] at h
  obtain ⟨j, hj, e⟩ := List.mem_map.mp h
  obtain ⟨i, hi, e2⟩ := List.mem_iff_getElem.mp hj
  rw [shp_len] at hi
  have g := shp_at hi
  rw [List.getElem?_eq_getElem (by rw [shp_len]; exact hi), e2] at g
  have := shp_lt hi
  refine ⟨j, e.symm, ?_⟩
  have : j = shN p i := Option.some.inj g
  omega
theorem canon_has {p : List Int} (c : Canon p) {j : Nat} (h : j < (dd p).length) : (j : Int) ∈ p := by
  refine Decidable.byContradiction fun n => ?_
  have := (dd_nd p).length_le_of_subset (l₂ := ((List.range (dd p).length).filter fun i => decide (i ≠ j)).map fun (i : Nat) => (i : Int)) fun x hx => by
    have hx := dd_mem.mp hx
    obtain ⟨i, e, hi⟩ := canon_mem c hx
    refine List.mem_map.mpr ⟨i, List.mem_filter.mpr ⟨List.mem_range.mpr hi, decide_eq_true fun z => n ?_⟩, e.symm⟩
    rw [← z, ← e]; exact hx
  rw [List.length_map] at this
  have lt : ((List.range (dd p).length).filter fun i => decide (i ≠ j)).length < (List.range (dd p).length).length := by
    refine Nat.lt_of_le_of_ne (List.length_filter_le _ _) fun z => ?_
    have := List.length_filter_eq_length_iff.mp z j (List.mem_range.mpr h)
    simp at this
  rw [List.length_range] at lt
  omega
end L2
set_option Elab.async false
set_option linter.all false
set_option maxRecDepth 100000
namespace L2
open PySem PySem.Spec PyProof.Rows
end L2
set_option Elab.async false
set_option linter.all false
set_option maxRecDepth 100000
namespace L2
open PySem PySem.Spec PyProof.Rows
noncomputable def blkS (p : List Int) (b : Nat) : List Nat := (List.range p.length).filter fun i => decide (p.getD i 0 = (b : Int))
theorem blkS_mem {p : List Int} {b i : Nat} : i ∈ blkS p b ↔ i < p.length ∧ p.getD i 0 = (b : Int) := by
  unfold blkS
  rw [List.mem_filter, List.mem_range, decide_eq_true_iff]
theorem blkS_ne {p : List Int} (c : Canon p) {b : Nat} (h : b < (dd p).length) : blkS p b ≠ [] := by
  obtain ⟨i, hi, e⟩ := List.mem_iff_getElem.mp (canon_has c h)
  intro z
  have : i ∈ blkS p b := blkS_mem.mpr ⟨hi, by rw [getD_get hi, e]⟩
  rw [z] at this
  cases this
noncomputable def poolS (st : List Nat) (may : List (List Int)) : List Int := (may.getD (st.getD 0 0) []).filter fun x => st.all fun s => decide (x ∈ may.getD s [])
noncomputable def poolN (may : List (List Int)) (p : List Int) (b : Nat) : List Int := poolS (blkS p b) may
noncomputable def pools (may : List (List Int)) (p : List Int) : List (List Int) := (List.range (dd p).length).map (poolN may p)
theorem pools_len {may : List (List Int)} {p : List Int} : (pools may p).length = (dd p).length := by unfold pools; simp
theorem pools_at {may : List (List Int)} {p : List Int} {b : Nat} (h : b < (dd p).length) : (pools may p)[b]? = some (poolN may p b) := by
  unfold pools
  rw [List.getElem?_map, List.getElem?_range h]; rfl
theorem poolS_mem {st : List Nat} {may : List (List Int)} {x : Int} (h : st ≠ []) : x ∈ poolS st may ↔ ∀ s ∈ st, x ∈ may.getD s [] := by
  unfold poolS
  rw [List.mem_filter, List.all_eq_true]
  constructor
  · intro ⟨_, a⟩ s hs
    exact of_decide_eq_true (a s hs)
  · intro a
    refine ⟨a _ ?_, fun s hs => decide_eq_true (a s hs)⟩
    cases st with
    | nil => exact absurd rfl h
    | cons s r => simp
theorem poolN_mem {may : List (List Int)} {p : List Int} {b : Nat} {x : Int} (c : Canon p) (h : b < (dd p).length) : x ∈ poolN may p b ↔ ∀ i, i < p.length → p.getD i 0 = (b : Int) → x ∈ may.getD i [] := by
  unfold poolN
  rw [poolS_mem (blkS_ne c h)]
  exact ⟨fun a i h1 h2 => a i (blkS_mem.mpr ⟨h1, h2⟩), fun a s hs => a s (blkS_mem.mp hs).1 (blkS_mem.mp hs).2⟩
noncomputable abbrev Tie := Str × Int × List Nat
noncomputable def Beg (p hs : List Int) : Prop := p.length ≤ hs.length ∧ ((shp hs).map fun (i : Nat) => (i : Int)).take p.length = p
theorem Beg.at {p hs : List Int} (b : Beg p hs) {i : Nat} (h : i < p.length) : ((shp hs).map fun (i : Nat) => (i : Int)).getD i 0 = p.getD i 0 := by
  rw [← congrArg (fun l => List.getD l i 0) b.2]
  simp [List.getD_eq_getElem?_getD, List.getElem?_take, h]
theorem Beg.same {p hs : List Int} (b : Beg p hs) {i j : Nat} (hi : i < p.length) (hj : j < p.length) : p.getD i 0 = p.getD j 0 ↔ hs.getD i 0 = hs.getD j 0 := by
  rw [← b.at hi, ← b.at hj]
  exact shp_same (Nat.lt_of_lt_of_le hi b.1) (Nat.lt_of_lt_of_le hj b.1)
theorem Beg.canon {p hs : List Int} (b : Beg p hs) : Canon p := by
  have e : shp p = (shp hs).take p.length := by
    rw [← shp_take b.1]
    refine (shp_eq_iff (by rw [List.length_take]; have := b.1; omega)).mpr fun i hi j hj => ?_
    have e1 : (hs.take p.length).getD i 0 = hs.getD i 0 := by simp [List.getD_eq_getElem?_getD, List.getElem?_take, hi]
    have e2 : (hs.take p.length).getD j 0 = hs.getD j 0 := by simp [List.getD_eq_getElem?_getD, List.getElem?_take, (by omega : j < p.length)]
    rw [e1, e2]
    exact b.same hi (by omega)
  unfold Canon
  rw [e, List.map_take]
  exact b.2.symm
theorem Beg.short {may : List (List Int)} {p hs : List Int} (b : Beg p hs) (of : ∀ i, i < hs.length → hs.getD i 0 ∈ may.getD i []) {ms : List Nat} (s : Short (pools may p) ms) : False := by
  obtain ⟨X, hX, hq⟩ := s.few
  have c := b.canon
  have nd : ms.Nodup := s.up.imp fun h => Nat.ne_of_lt h
  have lt : ∀ q ∈ ms, q < (dd p).length := fun q m => by
    obtain ⟨r, e, _⟩ := hq q m
    have := (List.getElem?_eq_some_iff.mp e).1
    rw [pools_len] at this
    exact this
  have fs : ∀ q ∈ ms, ∃ i, i < p.length ∧ p.getD i 0 = (q : Int) := fun q m => by
    obtain ⟨i, hi, e⟩ := List.mem_iff_getElem.mp (canon_has c (lt q m))
    exact ⟨i, hi, by rw [getD_get hi, e]⟩
  let f : Nat → Int := fun q => hs.getD (fx p (q : Int)) 0
  have fa : ∀ q ∈ ms, fx p (q : Int) < p.length ∧ p.getD (fx p (q : Int)) 0 = (q : Int) := fun q m => by
    have := canon_has c (lt q m)
    refine ⟨fx_lt this, ?_⟩
    rw [List.getD_eq_getElem?_getD, fx_at this]; rfl
  have nd2 : (ms.map f).Nodup := by
    rw [List.nodup_iff_pairwise_ne, List.pairwise_map]
    refine List.Pairwise.imp_of_mem ?_ (List.nodup_iff_pairwise_ne.mp nd)
    intro q r hq hr hne e
    obtain ⟨a1, a2⟩ := fa q hq
    obtain ⟨b1, b2⟩ := fa r hr
    have := (b.same a1 b1).mpr e
    rw [a2, b2] at this
    omega
  have := nd2.length_le_of_subset (l₂ := X) fun x hx => by
    obtain ⟨q, m, e⟩ := List.mem_map.mp hx
    obtain ⟨r, er, hr⟩ := hq q m
    rw [pools_at (lt q m)] at er
    cases er
    refine hr x ((poolN_mem c (lt q m)).mpr fun i hi ei => ?_)
    obtain ⟨a1, a2⟩ := fa q m
    have : p.getD (fx p (q : Int)) 0 = p.getD i 0 := by rw [a2, ei]
    have := (b.same a1 hi).mp this
    have h2 := of i (Nat.lt_of_lt_of_le hi b.1)
    rw [← this] at h2
    rw [← e]
    exact h2
  rw [List.length_map] at this
  omega
theorem Beg.nil (hs : List Int) : Beg [] hs := ⟨Nat.zero_le _, rfl⟩
inductive Pap where
  | tie (j : Nat)
  | short (bs : List Nat)
  | split (ps : List Pap)
inductive Shows (may : List (List Int)) (ts : List Tie) : List Int → Pap → Prop where
  | tie {p : List Int} {j : Nat} {t : Tie} (h : ts[j]? = some t) (b : brk (fun i => p.getD i 0) p.length t.1 t.2.1 t.2.2 = true) : Shows may ts p (.tie j)
  | short {p : List Int} {bs : List Nat} (s : Short (pools may p) bs) : Shows may ts p (.short bs)
  | split {p : List Int} {ps : List Pap} (hl : p.length < may.length) (hn : ps.length = (dd p).length + 1) (h : ∀ (j : Nat) (q : Pap), ps[j]? = some q → Shows may ts (p ++ [(j : Int)]) q) : Shows may ts p (.split ps)
end L2
set_option Elab.async false
set_option linter.all false
set_option maxRecDepth 100000
namespace L2
open PySem PySem.Spec PyProof.Rows
theorem lt_nd {F : List Int} (h : F.Pairwise (· < ·)) : F.Nodup := h.imp fun h => Int.ne_of_lt h
structure May (K : PySem.W.Frag) (H : Hp) (a : Addr) (rs : List Addr) (may : List (List Int)) (U : List Int) : Prop where
  ls : SqL K H a (rs.map V.ref)
  po : PoolsL K H rs may
  up : ∀ p ∈ may, p.Pairwise (· < ·)
  sub : ∀ p ∈ may, ∀ b ∈ p, b ∈ U
  m6 : may.length ≤ 6
  u20 : U.length ≤ 26
theorem May.same {K : PySem.W.Frag} {H H' : Hp} {a : Addr} {rs : List Addr} {may : List (List Int)} {U : List Int} (m : May K H a rs may U) (s : Same H H') : May K H' a rs may U := ⟨s.seq m.ls, m.po.same s, m.up, m.sub, m.m6, m.u20⟩
theorem May.rows {K : PySem.W.Frag} {H : Hp} {a : Addr} {rs : List Addr} {may : List (List Int)} {U : List Int} (m : May K H a rs may U) {i : Nat} (h : i < may.length) : ∃ r, rs[i]? = some r ∧ SqL K H r ((may.getD i []).map V.int) ∧ (may.getD i []).Pairwise (· < ·) ∧ ∀ b ∈ may.getD i [], b ∈ U := by
  have e : may.getD i [] = may[i] := getD_getL h
  obtain ⟨r, e1, e2⟩ := m.po.at (List.getElem?_eq_getElem h)
  rw [e]
  exact ⟨r, e1, e2, m.up _ (List.getElem_mem h), m.sub _ (List.getElem_mem h)⟩
theorem at_int {st : List Int} {j : Nat} {x : V} (hx : (st.map V.int)[j]? = some x) : ∃ d : Int, st[j]? = some d ∧ x = V.int d ∧ st.getD j 0 = d := by
  rw [List.getElem?_map] at hx
  obtain ⟨b, h1, h2⟩ := Option.map_eq_some_iff.mp hx
  exact ⟨b, h1, h2.symm, by rw [List.getD_eq_getElem?_getD, h1]; rfl⟩
end L2
set_option Elab.async false
set_option linter.all false
set_option maxRecDepth 100000
namespace L2
open PySem PySem.Spec PyProof.Rows
theorem kept2 {x y : Option V} {σ : St} : Kept (none :: none :: σ) (x :: y :: σ) := ⟨rfl, fun i v e => by
  cases i with
  | zero => cases e
  | succ i =>
    cases i with
    | zero => cases e
    | succ i => exact e⟩
theorem comp_zip {K : PySem.W.Frag} {H1 : Hp} {js : List (Option Nat)} {σ : L2.St} {te : TE} {Q : VK} {a b : Addr} {xs ys : List V} (P : Addr → List V → Hp → Prop) (hl : xs.length = ys.length) (h1 : SqL K H1 a xs) (h2 : SqL K H1 b ys) (hn : xs.length < 100000)
    (mono : ∀ acc ys H H', P acc ys H → SameBut acc H H' → P acc ys H') (h0 : ∀ acc H, P acc [] H)
    (he : ∀ acc (i : Nat) x y zs H2 R, xs[i]? = some x → ys[i]? = some y → Same H1 H2 → H1 acc = none → H2 acc = some (.lst zs) → zs.length = i → P acc zs H2 → (∀ v H3, Same H2 H3 → P acc (zs ++ [v]) H3 → R v H3) → te (some x :: some y :: pick σ js) H2 R)
    (hQ : ∀ acc zs H', Same H1 H' → H1 acc = none → H' acc = some (.lst zs) → zs.length = xs.length → P acc zs H' → Q (.ref acc) H') :
    CompB (Itz K a b) H1 (none :: none :: js) (gTup K 2 (gCons (gName 0) (gCons (gName 1) gNil))) tYes te σ Q := by
  intro acc hacc
  refine ⟨fun i m zs H => m = xs.length - i ∧ i ≤ xs.length ∧ Same H1 H ∧ H acc = some (.lst zs) ∧ zs.length = i ∧ P acc zs H, ⟨xs.length, by simp, Nat.zero_le _, Same.new hacc, upd_same, rfl, h0 _ _⟩, ?_⟩
  rintro i m zs H ⟨rfl, hi, s1, ha, hz, hp⟩
  have w1 := s1.seq h1
  have w2 := s1.seq h2
  by_cases hlt : i < xs.length
  · have hlt2 : i < ys.length := by omega
    refine .inr ⟨⟨xs, ys, xs[i], ys[i], w1, w2, List.getElem?_eq_getElem hlt, List.getElem?_eq_getElem hlt2⟩, fun zs' H' => i < xs.length ∧ Same H1 H' ∧ H' acc = some (.lst zs') ∧ zs'.length = i + 1 ∧ P acc zs' H', fun zs' H' ⟨z, a, b, c, d⟩ => ⟨xs.length - (i + 1), by omega, rfl, hlt, a, b, c, d⟩, fun v H' y => ?_⟩
    obtain ⟨q, x, y, hq, e1, e2, e3, e4⟩ := y
    subst e3 e4
    have sq := Same.new (o := .tup [x, y]) hq
    refine ⟨q, [x, y], rfl, SqT.of upd_same, rfl, x, [y], rfl, y, [], rfl, rfl, kept2, fun _ => ?_, fun hb => by cases hb⟩
    refine he acc i x y zs _ _ (e1 xs w1) (e2 ys w2) (s1.trans sq) hacc (sq _ _ ha) hz (mono _ _ _ _ hp sq.but) fun v H3 s3 pv => ?_
    have s13 := (s1.trans sq).trans s3
    refine ⟨s3 _ _ (sq _ _ ha), szn (by omega), hlt, s13.put hacc, upd_same, by rw [List.length_append, List.length_singleton, hz], ?_⟩
    exact mono acc _ _ _ pv SameBut.upd
  · have e : i = xs.length := by omega
    subst e
    exact .inl ⟨⟨xs, ys, w1, w2, Nat.le_refl _⟩, hQ acc zs H s1 hacc ha hz hp⟩
theorem comp_zipV {K : PySem.W.Frag} {H1 : Hp} {js : List (Option Nat)} {σ : L2.St} {te : TE} {Q : VK} {a b : Addr} {xs ys : List V} (f : Nat → V) (hl : xs.length = ys.length) (h1 : SqL K H1 a xs) (h2 : SqL K H1 b ys) (hn : xs.length < 100000)
    (he : ∀ (i : Nat) x y H2 R, xs[i]? = some x → ys[i]? = some y → Same H1 H2 → (∀ H3, Same H2 H3 → R (f i) H3) → te (some x :: some y :: pick σ js) H2 R)
    (hQ : ∀ acc H', Same H1 H' → H1 acc = none → H' acc = some (.lst ((List.range xs.length).map f)) → Q (.ref acc) H') :
    CompB (Itz K a b) H1 (none :: none :: js) (gTup K 2 (gCons (gName 0) (gCons (gName 1) gNil))) tYes te σ Q :=
  comp_zip (fun _ zs _ => zs = (List.range zs.length).map f) hl h1 h2 hn (fun _ _ _ _ h _ => h) (fun _ _ => rfl)
    (fun acc i x y zs H2 R ex ey s _ _ hz hp k => he i x y H2 R ex ey s fun H3 s3 => k _ H3 s3 (by
      rw [List.length_append, List.length_singleton, List.range_succ, List.map_append, ← hp, hz]; rfl))
    fun acc zs H' s n e hz hp => hQ acc H' s n (by rw [e, ← hz, ← hp])
end L2
set_option Elab.async false
set_option linter.all false
set_option maxRecDepth 100000
namespace L2
open PySem PySem.Spec PyProof.Rows
noncomputable def hV : Option Int → V
  | none => .non
  | some b => .int b
end L2
set_option Elab.async false
set_option linter.all false
set_option maxRecDepth 100000
namespace L2
open PySem PySem.Spec PyProof.Rows
theorem DEq.up {K : PySem.W.Frag} {H : Hp} {d : Nat} {x y : V} {b : Bool} (h : DEq K H d x y b) : DEq K H (d + 1) x y b := by
  induction h with
  | flat fx fy => exact .flat fx fy
  | lst h1 h2 hl he ih => exact .lst h1 h2 hl ih
  | len h1 h2 hl => exact .len h1 h2 hl
  | tup h1 h2 he ih => exact .tup h1 h2 ih
end L2
set_option Elab.async false
set_option linter.all false
set_option maxRecDepth 100000
namespace L2
open PySem PySem.Spec PyProof.Rows
end L2
set_option Elab.async false
set_option linter.all false
set_option maxRecDepth 100000
namespace L2
open PySem PySem.Spec PyProof.Rows
theorem RowsL.append {H : Hp} : ∀ {rs rs' : List Addr} {ps ps' : List (List Int)}, RowsL H rs ps → RowsL H rs' ps' → RowsL H (rs ++ rs') (ps ++ ps') := by
  intro rs rs' ps ps' h h'
  unfold RowsL at *
  induction h with
  | nil => exact h'
  | cons a t ih => exact .cons a ih
end L2
set_option Elab.async false
set_option linter.all false
set_option maxRecDepth 100000
namespace L2
open PySem PySem.Spec PyProof.Rows
inductive PapAt (H : Hp) : V → Pap → Prop where
  | tie {t : Addr} {j : Nat} (ht : H t = some (.tup [.str "tie", .int ((j : Nat) : Int)])) : PapAt H (.ref t) (.tie j)
  | short {t l : Addr} {bs : List Nat} (ht : H t = some (.tup [.str "short", .ref l])) (hl : H l = some (.lst (bs.map fun (i : Nat) => V.int (i : Int)))) : PapAt H (.ref t) (.short bs)
  | split {t l : Addr} {vs : List V} {ps : List Pap} (ht : H t = some (.tup [.str "split", .ref l])) (hl : H l = some (.lst vs)) (hn : vs.length = ps.length) (h : ∀ (i : Nat) v q, vs[i]? = some v → ps[i]? = some q → PapAt H v q) : PapAt H (.ref t) (.split ps)
theorem PapAt.same {H H' : Hp} {v : V} {q : Pap} (p : PapAt H v q) (s : Same H H') : PapAt H' v q := by
  induction p with
  | tie ht => exact .tie (s _ _ ht)
  | short ht hl => exact .short (s _ _ ht) (s _ _ hl)
  | split ht hl hn h ih => exact .split (s _ _ ht) (s _ _ hl) hn fun i v q e1 e2 => ih i v q e1 e2
noncomputable def nw (H H' : Hp) : Hp := fun a => match H a with
  | none => H' a
  | some _ => none
end L2
set_option Elab.async false
set_option linter.all false
set_option maxRecDepth 100000
namespace L2
open PySem PySem.Spec PyProof.Rows
theorem PoolsL.ref {K : PySem.W.Frag} {H : Hp} {rs : List Addr} {may : List (List Int)} (po : PoolsL K H rs may) {i : Nat} {x : V} (hx : (rs.map V.ref)[i]? = some x) : ∃ r, x = .ref r ∧ SqL K H r ((may.getD i []).map V.int) := by
  rw [List.getElem?_map] at hx
  obtain ⟨r, hr, rfl⟩ := Option.map_eq_some_iff.mp hx
  have hi : i < may.length := by rw [← po.len]; exact (List.getElem?_eq_some_iff.mp hr).1
  obtain ⟨r', e1, e2⟩ := po.at (List.getElem?_eq_getElem hi)
  rw [hr] at e1
  cases e1
  rw [← getD_getL hi] at e2
  exact ⟨r, rfl, e2⟩
end L2
set_option Elab.async false
set_option linter.all false
set_option maxRecDepth 100000
namespace L2
open PySem PySem.Spec PyProof.Rows
section
variable {X : Cx}
end
end L2
set_option Elab.async false
set_option linter.all false
set_option maxRecDepth 100000
namespace L2
open PySem PySem.Spec PyProof.Rows
end L2
set_option Elab.async false
set_option linter.all false
set_option maxRecDepth 100000
namespace L2
open PySem PySem.Spec PyProof.Rows
inductive GPap where
  | tie (j : Int)
  | short (bs : List Int)
  | split (ps : List GPap)
noncomputable instance : Inhabited GPap := ⟨.tie 0⟩
inductive GPapAt (H : Hp) : V → GPap → Prop where
  | tie {t : Addr} {j : Int} (ht : H t = some (.tup [.str "tie", .int j])) : GPapAt H (.ref t) (.tie j)
  | short {t l : Addr} {bs : List Int} (ht : H t = some (.tup [.str "short", .ref l])) (hl : H l = some (.lst (bs.map V.int))) : GPapAt H (.ref t) (.short bs)
  | split {t l : Addr} {vs : List V} {ps : List GPap} (ht : H t = some (.tup [.str "split", .ref l])) (hl : H l = some (.lst vs)) (hn : vs.length = ps.length) (h : ∀ (i : Nat) v q, vs[i]? = some v → ps[i]? = some q → GPapAt H v q) : GPapAt H (.ref t) (.split ps)
theorem GPapAt.same {H H' : Hp} {v : V} {q : GPap} (p : GPapAt H v q) (s : Same H H') : GPapAt H' v q := by
  induction p with
  | tie ht => exact .tie (s _ _ ht)
  | short ht hl => exact .short (s _ _ ht) (s _ _ hl)
  | split ht hl hn h ih => exact .split (s _ _ ht) (s _ _ hl) hn fun i v q e1 e2 => ih i v q e1 e2
noncomputable def risB (ns : List Int) : Bool := (List.range (ns.length - 1)).all fun k => decide (ns.getD k 0 < ns.getD (k + 1) 0)
theorem risB_iff {ns : List Int} : risB ns = true ↔ ns.Pairwise (· < ·) := by
  unfold risB
  rw [List.all_eq_true]
  constructor
  · intro h
    have st : ∀ i, i + 1 < ns.length → ns.getD i 0 < ns.getD (i + 1) 0 := fun i hi => of_decide_eq_true (h i (List.mem_range.mpr (by omega)))
    have lt : ∀ d i, i + d + 1 < ns.length → ns.getD i 0 < ns.getD (i + d + 1) 0 := by
      intro d
      induction d with
      | zero => intro i hi; exact st i hi
      | succ d ih => intro i hi; exact Int.lt_trans (ih i (by omega)) (st (i + d + 1) (by omega))
    rw [List.pairwise_iff_getElem]
    intro i j h1 h2 h3
    have := lt (j - i - 1) i (by omega)
    have e : i + (j - i - 1) + 1 = j := by omega
    rw [e, getD_get h1, getD_get h2] at this
    exact this
  · intro h i hi
    have := List.mem_range.mp hi
    have := List.pairwise_iff_getElem.mp h i (i + 1) (by omega) (by omega) (by omega)
    rw [getD_get (by omega), getD_get (by omega)]
    exact decide_eq_true this
noncomputable def poolsU (may : List (List Int)) (p : List Int) (bs : List Int) : List Int := bs.flatMap fun b => poolN may p b.toNat
noncomputable def inB (p : List Int) (bs : List Int) : Bool := bs.all fun b => decide (0 ≤ b ∧ b < (((dd p).length : Nat) : Int))
noncomputable def shortB (may : List (List Int)) (p : List Int) (bs : List Int) : Bool := risB bs && inB p bs && decide ((dd (poolsU may p bs)).length < bs.length)
theorem shortB_of {may : List (List Int)} {p : List Int} {bs : List Nat} (s : Short (pools may p) bs) : shortB may p (bs.map fun (i : Nat) => (i : Int)) = true := by
  obtain ⟨X, hX, hq⟩ := s.few
  have lt : ∀ q ∈ bs, q < (dd p).length := fun q m => by
    obtain ⟨r, e, _⟩ := hq q m
    have := (List.getElem?_eq_some_iff.mp e).1
    rw [pools_len] at this
    exact this
  unfold shortB
  rw [Bool.and_eq_true, Bool.and_eq_true]
  refine ⟨⟨risB_iff.mpr ?_, ?_⟩, decide_eq_true ?_⟩
  · rw [List.pairwise_map]
    exact s.up.imp fun h => by omega
  · refine List.all_eq_true.mpr fun b hb => ?_
    obtain ⟨q, hq', e⟩ := List.mem_map.mp hb
    have := lt q hq'
    exact decide_eq_true (by omega)
  · rw [List.length_map]
    refine Nat.lt_of_le_of_lt ((dd_nd _).length_le_of_subset (l₂ := X) fun x hx => ?_) hX
    obtain ⟨b, hb, hx⟩ := List.mem_flatMap.mp (dd_mem.mp hx)
    obtain ⟨q, hq', e⟩ := List.mem_map.mp hb
    obtain ⟨r, er, hr⟩ := hq q hq'
    rw [pools_at (lt q hq')] at er
    cases er
    rw [← e, Int.toNat_natCast] at hx
    exact hr x hx
inductive ShowsIs (may : List (List Int)) (ts : List Tie) : List Int → GPap → Bool → Prop where
  | tie {p : List Int} {j : Int} {t : Tie} (h0 : 0 ≤ j) (h : ts[j.toNat]? = some t) : ShowsIs may ts p (.tie j) (brk (fun i => p.getD i 0) p.length t.1 t.2.1 t.2.2)
  | noTie {p : List Int} {j : Int} (h : ¬ (0 ≤ j ∧ j < (ts.length : Int))) : ShowsIs may ts p (.tie j) false
  | short {p : List Int} {bs : List Int} : ShowsIs may ts p (.short bs) (shortB may p bs)
  | noSplit {p : List Int} {ps : List GPap} (h : ¬ (p.length < may.length ∧ ps.length = (dd p).length + 1)) : ShowsIs may ts p (.split ps) false
  | split {p : List Int} {ps : List GPap} {bs : List Bool} (hl : p.length < may.length) (hn : ps.length = (dd p).length + 1) (hb : bs.length = ps.length) (h : ∀ (j : Nat) (q : GPap) (b : Bool), ps[j]? = some q → bs[j]? = some b → ShowsIs may ts (p ++ [(j : Int)]) q b) : ShowsIs may ts p (.split ps) (bs.all id)
theorem Shows.is {may : List (List Int)} {ts : List Tie} {p : List Int} {q : Pap} (s : Shows may ts p q) : ∀ {H : Hp} {v : V}, PapAt H v q → ∃ g, GPapAt H v g ∧ ShowsIs may ts p g true := by
  induction s with
  | @tie p j t h b =>
    intro H v a
    cases a with
    | tie ht =>
      have := ShowsIs.tie (may := may) (ts := ts) (p := p) (j := (j : Int)) (t := t) (by omega) (by rw [Int.toNat_natCast]; exact h)
      rw [b] at this
      exact ⟨.tie (j : Int), .tie ht, this⟩
  | @short p bs sh =>
    intro H v a
    cases a with
    | short ht hl =>
      have := ShowsIs.short (may := may) (ts := ts) (p := p) (bs := bs.map fun (i : Nat) => (i : Int))
      rw [shortB_of sh] at this
      exact ⟨_, .short ht (by rw [hl, List.map_map]; rfl), this⟩
  | @split p ps hl hn h ih =>
    intro H v a
    cases a with
    | @split t l vs _ ht hl' hvn hat =>
      have ex : ∀ j : Nat, ∃ g, j < ps.length → ∀ v', vs[j]? = some v' → GPapAt H v' g ∧ ShowsIs may ts (p ++ [(j : Int)]) g true := fun j => by
        by_cases z : j < ps.length
        · have z2 : j < vs.length := by omega
          obtain ⟨g, g1, g2⟩ := ih j ps[j] (List.getElem?_eq_getElem z) (hat j vs[j] ps[j] (List.getElem?_eq_getElem z2) (List.getElem?_eq_getElem z))
          exact ⟨g, fun _ v' e => by rw [List.getElem?_eq_getElem z2] at e; cases e; exact ⟨g1, g2⟩⟩
        · exact ⟨default, fun y => absurd y z⟩
      have gs : ((List.range ps.length).map fun j => Classical.choose (ex j)).length = ps.length := by simp
      refine ⟨.split ((List.range ps.length).map fun j => Classical.choose (ex j)), .split ht hl' (by omega) fun i v' q e1 e2 => ?_, ?_⟩
      · have hi := (List.getElem?_eq_some_iff.mp e2).1
        rw [gs] at hi
        rw [List.getElem?_map, List.getElem?_range hi] at e2
        have e2 : Classical.choose (ex i) = q := Option.some.inj e2
        rw [← e2]
        exact (Classical.choose_spec (ex i) hi v' e1).1
      · have all : (List.replicate ps.length true).all id = true := List.all_eq_true.mpr fun x hx => List.eq_of_mem_replicate hx
        have fin : ShowsIs may ts p (.split ((List.range ps.length).map fun j => Classical.choose (ex j))) ((List.replicate ps.length true).all id) := by
          refine .split hl (by omega) (by simp) fun j q b e1 e2 => ?_
          have hj := (List.getElem?_eq_some_iff.mp e1).1
          rw [gs] at hj
          rw [List.getElem?_map, List.getElem?_range hj] at e1
          have e1 : Classical.choose (ex j) = q := Option.some.inj e1
          rw [List.getElem?_replicate, if_pos hj] at e2
          cases e2
          rw [← e1]
          have z2 : j < vs.length := by omega
          exact (Classical.choose_spec (ex j) hj vs[j] (List.getElem?_eq_getElem z2)).2
        rw [all] at fin
        exact fin
end L2
set_option Elab.async false
set_option linter.all false
set_option maxRecDepth 100000
namespace L2
open PySem PySem.Spec PyProof.Rows
structure LSt (H : Hp) (L : Addr) (rs : List Addr) (ps : List (List Int)) (ms : List Int) (n : Nat) : Prop where
  hL : H L = some (.lst (rs.map V.ref))
  rows : RowsL H rs ps
  nin : L ∉ rs
  len : ps.length = n
  up : ∀ p ∈ ps, p.Pairwise (· < ·)
  sub : ∀ p ∈ ps, ∀ b ∈ p, b ∈ ms
theorem LSt.same {H H' : Hp} {L : Addr} {rs : List Addr} {ps : List (List Int)} {ms : List Int} {n : Nat} (h : LSt H L rs ps ms n) (s : Same H H') : LSt H' L rs ps ms n := ⟨s _ _ h.hL, h.rows.same s, h.nin, h.len, h.up, h.sub⟩
end L2
set_option Elab.async false
set_option linter.all false
set_option maxRecDepth 100000
namespace L2
open PySem PySem.Spec PyProof.Rows
theorem lo62 (n : Nat) : -(2 ^ 62) ≤ ((n : Nat) : Int) := by omega
theorem modN (c : Int) {n : Nat} (h : 0 < n) : ∃ m : Nat, m < n ∧ c % ((n : Nat) : Int) = ((m : Nat) : Int) := by
  have w1 := Int.emod_nonneg c (show ((n : Nat) : Int) ≠ 0 by omega)
  have w2 := Int.emod_lt_of_pos c (show (0 : Int) < ((n : Nat) : Int) by omega)
  exact ⟨(c % ((n : Nat) : Int)).toNat, by omega, by omega⟩
theorem ex1 {α : Type} {us : List α} (hl : us.length = 1) : ∃ a, us = [a] := by
  match us, hl with
  | [a], _ => exact ⟨a, rfl⟩
theorem ex2 {α : Type} {us : List α} (hl : us.length = 2) : ∃ a b, us = [a, b] := by
  match us, hl with
  | [a, b], _ => exact ⟨a, b, rfl⟩
theorem ex3 {α : Type} {us : List α} (hl : us.length = 3) : ∃ a b c, us = [a, b, c] := by
  match us, hl with
  | [a, b, c], _ => exact ⟨a, b, c, rfl⟩
theorem ex4 {α : Type} {us : List α} (hl : us.length = 4) : ∃ a b c d, us = [a, b, c, d] := by
  match us, hl with
  | [a, b, c, d], _ => exact ⟨a, b, c, d, rfl⟩
theorem ex5 {α : Type} {us : List α} (hl : us.length = 5) : ∃ a b c d e, us = [a, b, c, d, e] := by
  match us, hl with
  | [a, b, c, d, e], _ => exact ⟨a, b, c, d, e, rfl⟩
end L2
set_option Elab.async false
set_option linter.all false
set_option maxRecDepth 100000
namespace L2
open PySem PySem.Spec PyProof.Rows
theorem preSum_take (ns : List Int) : ∀ k, k ≤ ns.length → preSum (fun i => ns.getD i 0) k = (ns.take k).sum
  | 0, _ => by simp [preSum]
  | k + 1, h => by
    have ih := preSum_take ns k (by omega)
    have h2 : k < ns.length := by omega
    rw [preSum, ih, List.take_add_one, List.sum_append, List.getD_eq_getElem?_getD, List.getElem?_eq_getElem h2]
    simp
theorem Moved.eq_heap {wr : List Addr} {s s' : Shared} (m : Moved wr (fun a b => b = a) s s') : s' = { s with heap := s'.heap, toks := s'.toks } := by
  obtain ⟨h, g, d, t, os⟩ := s
  obtain ⟨h', g', d', t', os'⟩ := s'
  obtain ⟨_, e1, e2, e3, _⟩ := m
  simp only at e1 e2 e3
  subst e1 e2 e3
  rfl
section
variable {X : Cx}
theorem cSum (K : PySem.W.Frag) (hc : X.calm = true := by rfl) (h : X.K = K := by rfl) : CallR X (.builtin "sum") (fun xs H Q => ∃ (p : Addr) (ns : List Int), xs = [.ref p] ∧ SqL K H p (ns.map V.int) ∧ Q (.int ns.sum) H) := by
  subst h
  intro pins s σ H xs us Q I r h
  obtain ⟨p, ns, e, hq, q⟩ := h
  subst e
  obtain ⟨u, e, rx⟩ := vals1 r
  subst e
  cases rx
  obtain ⟨its, rv, pl, hz⟩ := I.list hq
  have hl := rv.length
  rw [List.length_map] at hl
  refine call_sum_walkAnyS (wpAny_pyIter_list pl.isList ?_)
  have hlt : p < s.heap.objs.size := by
    obtain ⟨o, ho, _⟩ := pl.isList
    exact Heap.lt_size ho
  have hval : ∀ (i : Nat) (v : Value), its.toArray[i]? = some v → ∃ t, v = .int (ns.getD i 0) t := fun i v hi => by
    have hi' : its[i]? = some v := by simpa using hi
    have h2 : i < ns.length := by rw [hl]; exact (List.getElem?_eq_some_iff.mp hi').1
    obtain ⟨u, eu, ru⟩ := rv.get (i := i) (x := .int ns[i]) (by simp [h2])
    rw [hi'] at eu
    cases eu
    obtain ⟨t, e⟩ := ru
    exact ⟨t, by rw [e]; simp [h2]⟩
  refine ⟨s.heap.objs.size, _, _, _, _, _, _, fun i => ns.getD i 0, rfl, (Walks.list (A := X.A.in1) (show X.A.in1.handled = none from I.ok.hd hc) _ p (Nat.ne_of_lt hlt) its.toArray).toS, ?_, ?_, hval, ?_⟩
  · refine ⟨⟨_, Heap.get?_push_size _ rfl, rfl, rfl⟩, ?_⟩
    obtain ⟨o, ho, z⟩ := pl.isList
    exact ⟨o, Heap.get?_push_of_some _ ho, z⟩
  · intro b hb
    show b < (s.heap.push _).objs.size
    rw [Heap.size_push]
    simp only [List.mem_cons, List.not_mem_nil, or_false] at hb
    rcases hb with z | z <;> subst z
    · exact Nat.lt_succ_self _
    · exact Nat.lt_succ_of_lt hlt
  · intro s' t' hm
    rw [Moved.eq_heap hm]
    have hs : its.toArray.size = ns.length := by rw [List.size_toArray]; omega
    refine ⟨.int _, H, I.kept (fun b o e => hm.heap b o ?_ (Heap.get?_push_of_some _ e)), ⟨t', rfl⟩, ?_⟩
    · have := Heap.lt_size e
      intro z
      rw [List.mem_singleton] at z
      exact absurd this (by rw [z]; exact Nat.lt_irrefl _)
    · rw [hs, preSum_take ns _ (Nat.le_refl _), List.take_length]
      exact q
end
noncomputable def Itrv (K : PySem.W.Frag) (a : Addr) (n : Nat) : It :=
  ⟨fun i H => i < n ∧ ∃ xs, SqL K H a xs ∧ xs.length = n, fun i H x H' => H' = H ∧ ∀ xs, SqL K H a xs → xs[n - 1 - i]? = some x, fun i _ => n ≤ i⟩
theorem turn_rev {P : Program} {w : World} {K : PySem.W.Frag} {tg : Expr} (a it : Addr) (n : Nat) : Turn P w K tg (Itrv K a n) [it] it (fun i h => i ≤ n ∧ h.IsRevIter it a ((n : Int) - 1 - (i : Int))) where
  mem := by simp
  obj := fun i h st b hb => by
    have e : b = it := by simpa using hb
    subst e
    obtain ⟨_, o, e, c, d⟩ := st
    exact ⟨o, e, fun v z => by rw [d] at z; cases z⟩
  keep := fun i h h' st k => ⟨st.1, st.2.at fun o e => k it (by simp) o e⟩
  item := by
    intro X hP hw hK hc i pins s σ H E I hf st hg
    subst hP hw hK
    obtain ⟨hi, xs, hq, hn⟩ := hg
    obtain ⟨its, rv, p, hz⟩ := I.list hq
    have hx : xs[n - 1 - i]? = some (xs[n - 1 - i]'(by omega)) := List.getElem?_eq_getElem (by omega)
    obtain ⟨u, hu, ru⟩ := rv.get hx
    obtain ⟨f0, f1, f2, f3, f4, f5⟩ := hf it (by simp)
    obtain ⟨_, st⟩ := st
    have e : (n : Int) - 1 - (i : Int) = ((n - 1 - i : Nat) : Int) := by omega
    rw [e] at st
    refine wpAny_pyNext_rev_item st p.isList (x := u) (by simpa using hu) fun h' st' sb => ?_
    have e2 : ((n - 1 - i : Nat) : Int) - 1 = (n : Int) - 1 - ((i + 1 : Nat) : Int) := by omega
    rw [e2] at st'
    have I1 : Inv X pins σ H { s with heap := h' } := I.turned (t' := s.toks) (fun b o hb e => (sb.2 b hb).trans e) f0 f1 f3 f4 f5
    obtain ⟨o, e, c, d⟩ := id st'
    exact ⟨u, rfl, go_of (s := { s with heap := h' }) e c d (by decide) ⟨_, H, I1, ru, ⟨rfl, fun ys hy => by rw [I.list_inj hy hq]; exact hx⟩, ⟨hi, st'⟩, fun b hb => (hf b hb).1⟩⟩
  done := by
    intro X hP hw hK hc i pins s σ H E I hf st hg
    subst hP hw hK
    obtain ⟨f0, f1, f2, f3, f4, f5⟩ := hf it (by simp)
    obtain ⟨hi, st⟩ := st
    have hg : n ≤ i := hg
    have e : (n : Int) - 1 - (i : Int) = -1 := by omega
    rw [e] at st
    exact wpAny_pyNext_rev_end (I.ok.hd hc) st fun h' eb => ⟨rfl, I.turned (t' := s.toks) (fun b o hb e => eb b o hb e) f0 f1 f3 f4 f5⟩
  self := fun _ _ _ _ _ st h => wpAny_pyIter_revIter st.2 h
section
variable {X : Cx}
noncomputable def iRev (K : PySem.W.Frag) (ta : TA) : TI := fun σ H R => ta σ H fun vs H1 => ∃ a xs, vs = [.ref a] ∧ SqL K H1 a xs ∧ R (Itrv K a xs.length) H1
theorem pi_rev {a tg : Expr} {ta : TA} {p pos : Pos} (K : PySem.W.Frag) (hg : Gl X "reversed") (hm : X.mg "reversed" = none) (ha : PA X [a] ta) (hK : X.K = K := by rfl) (hs : starEach [a] X.env = [(false, eval a X.env)] := by rfl) :
    PI X tg (.Call (.Name "reversed" p) [a] [] pos) (iRev K ta) := by
  subst hK
  intro pins s σ H R I h
  refine Call_ (ld_blt I hg hm boot_reversed (PyProof.Rows.callWith_type1 (thn (ha pos pins s σ H _ I h) fun us s1 ⟨vs, H1, I1, r1, q1⟩ => ?_) (by rw [hs]; rfl) (by rfl)))
  obtain ⟨l1, xs, e, hq1, q⟩ := q1
  subst e
  cases r1 with
  | cons r rr =>
    cases rr
    cases r
    obtain ⟨its1, rv1, p1, _⟩ := I1.list hq1
    have hl := rv1.length
    refine call_reversed_list p1.isList ?_
    have hit : (s1.heap.push (revObj l1 ((its1.toArray.size : Int) - 1))).IsRevIter s1.heap.objs.size l1 ((its1.toArray.size : Int) - 1) := ⟨_, Heap.get?_push_size _ rfl, rfl, rfl⟩
    refine wpAny_pyIter_revIter hit ?_
    have I2 : Inv X pins σ H1 { s1 with heap := s1.heap.push (revObj l1 ((its1.toArray.size : Int) - 1)) } := I1.kept (t' := s1.toks) fun b o e => Heap.get?_push_of_some _ e
    refine ⟨_, [s1.heap.objs.size], _, _, H1, rfl, I2, turn_rev l1 _ xs.length, ⟨Nat.zero_le _, ?_⟩, fun b hb => ?_, q⟩
    · have e : (xs.length : Int) - 1 - ((0 : Nat) : Int) = (its1.toArray.size : Int) - 1 := by rw [List.size_toArray]; omega
      rw [e]; exact hit
    · have e : b = s1.heap.objs.size := by simpa using hb
      subst e
      exact I1.fpOk (Nat.le_refl _) (I1.hok.fresh (Nat.le_refl _))
end
end L2
set_option Elab.async false
set_option linter.all false
set_option maxRecDepth 100000
namespace L2
open PySem PySem.Spec PyProof.Rows
theorem lk_list_keys : typeLookup (.type "list") "keys" = pure none := by rw [typeLookup_type, builtinLookup_eq_fast]; kernel_rfl
theorem lk_list_gat : typeLookup (.type "list") "__getattr__" = pure none := by rw [typeLookup_type, builtinLookup_eq_fast]; kernel_rfl
section
variable {prog : Program} {w : World} {A : Around} {E : Value → Shared → Prop} {h : Heap} {g : Array GenState} {d : PySem.Drawn} {t : Nat} {os : OsState} {a : Addr} {o : Obj}
theorem keys_entry_list {tk : Tok} {its : Array Value} {n : Nat} {sl : Array (Option Value)} {Q : Fin → Shared → Prop} (hh : A.handled = none) (hx : h.get? a = some { cls := .type "list", dict := none, data := .seq its n, slots := sl })
   (hq : ∀ h' tk e, Heap.NewAttrErr h h' e (.ref a) "keys" → E (.ref e) ⟨h', g, d, tk, os⟩) :
    wpAny (model prog w) A (Builtin.«object.__getattribute__» ⟨[.ref a, .str "keys" tk], []⟩) Q E ⟨h, g, d, t, os⟩ := by
  have hT : (⟨h, g, d, t, os⟩ : Shared).TypeIs (.ref a) "list" := ⟨_, hx, rfl⟩
  have f4 := lk_list_keys
  repeat (any_goals (first | assumption | wp_step))
  exact wpAny_raiseAttrError hh hq (attrMsg_fits (by decide +kernel) (by size_fits))
theorem keys_attr_list {its : Array Value} {n : Nat} {sl : Array (Option Value)} {Q : Option Value → Shared → Prop} (hh : A.handled = none) (hx : h.get? a = some { cls := .type "list", dict := none, data := .seq its n, slots := sl })
   (hq : ∀ h' tk, (∀ b o, h.get? b = some o → h'.get? b = some o) → Q none ⟨h', g, d, tk, os⟩) :
    wpAny (model prog w) A (getAttr? (.ref a) "keys") Q E ⟨h, g, d, t, os⟩ := by
  have hT : ∀ t, (⟨h, g, d, t, os⟩ : Shared).TypeIs (.ref a) "list" := fun _ => ⟨_, hx, rfl⟩
  have f1 := sub_AttributeError
  have f2 := F.slot_list_getattribute.lookup
  have f3 := F.slot_list_getattribute.bind (.ref a)
  have f5 := lk_list_gat
  unfold getAttr? getAttrBy? getAttrBy
  repeat (any_goals (first | assumption | apply hT | wp_step))
  refine codeAny_call_builtin F.slot_list_getattribute.plain F.entry_list_ga (F.slot_list_getattribute.check _ _ _ _ _ _ _ _ (hT _) (F.args_list_getattribute_2 _ _) (keys_entry_list hh hx fun h' tk' e ne => ?_))
  obtain ⟨t', u', he⟩ := ne.there
  show wpAny _ _ (getattributeRaised _ _ _ _ _ _ _) _ _ _
  unfold getattributeRaised
  repeat (any_goals (first | assumption | wp_step))
  exact hq _ _ ne.keeps
end
theorem entry_dict_loop : entryFor table "dict.update.loop" = some Builtin.«dict.update.loop» := entryFor_of_tree (by kernel_rfl)
theorem plain_dict_loop : plainId "dict.update.loop" = true := by decide +kernel
theorem stored_fresh {α : Type} [DecidableEq α] {vs : List (α × Value)} {k : α} {v : Value} (h : ∀ q ∈ vs, q.1 ≠ k) : stored vs k v = vs ++ [(k, v)] := by
  unfold stored
  rw [if_neg]
  intro z
  obtain ⟨q, hq, e⟩ := List.any_eq_true.mp z
  exact h q hq (of_decide_eq_true e)
theorem take_fresh {α : Type} {vs : List (α × Value)} (nd : (vs.map (·.1)).Nodup) {i : Nat} {k : α} {v : Value} (h : vs[i]? = some (k, v)) : ∀ q ∈ vs.take i, q.1 ≠ k := by
  intro q hq e
  obtain ⟨j, ej⟩ := List.mem_iff_getElem?.mp hq
  have hj := (List.getElem?_eq_some_iff.mp ej).1
  rw [List.length_take] at hj
  have hji : j < i := by omega
  rw [List.getElem?_take_of_lt hji] at ej
  have hi := (List.getElem?_eq_some_iff.mp h).1
  have e1 : (vs.map (·.1))[j]? = some k := by rw [List.getElem?_map, ej]; simp [e]
  have e2 : (vs.map (·.1))[i]? = some k := by rw [List.getElem?_map, h]; rfl
  obtain ⟨l1, x1⟩ := List.getElem?_eq_some_iff.mp e1
  obtain ⟨l2, x2⟩ := List.getElem?_eq_some_iff.mp e2
  exact List.pairwise_iff_getElem.mp nd j i l1 l2 hji (x1.trans x2.symm)
section
variable {P : Program} {w : World} {A : Around} {R : Result → Shared → Prop} {p d I : Addr} {its : List Value} {vs : List (Key × Value)} {h0 : Heap}
theorem dict_loop (hh : A.handled = none) (hp : h0.IsList p its.toArray) (hd : h0.objs.size ≤ d) (hI : h0.objs.size ≤ I) (hne : d ≠ I) (nd : (vs.map (·.1)).Nodup) (hz : vs.length ≤ sizeLine) (hl : its.length = vs.length)
    (hat : ∀ (i : Nat) u, its[i]? = some u → ∃ a k key v, u = .ref a ∧ h0.IsTuple a #[key, v] ∧ (mixKind P w).is k key = true ∧ vs[i]? = some (k, v)) :
    ∀ (m i : Nat) (s : Shared), vs.length - i = m → i ≤ vs.length → (∀ b o, h0.get? b = some o → s.heap.get? b = some o) → s.heap.IsListIter I p i → s.heap.DictOf (mixKind P w) d (vs.take i) →
    (∀ h' tk, (∀ b o, h0.get? b = some o → h'.get? b = some o) → h'.DictOf (mixKind P w) d vs → R (.ok (.ret .none)) { s with heap := h', toks := tk }) →
    codeAny (model P w) A (.builtin "dict.update.loop" ⟨[.ref d, .ref I, rawInt (i : Int), .none], []⟩) R s := by
  have lp : p < h0.objs.size := let ⟨_, e, _⟩ := hp; Heap.lt_size e
  intro m
  induction m with
  | zero =>
    intro i s hm hi kp it dk hR
    have hin : i = vs.length := by omega
    subst hin
    refine codeAny_builtin entry_dict_loop ?_
    rw [Around.under_plainId plain_dict_loop _]
    show wpAny _ A.in1 (pyNext (.ref I) >>= _) _ _ s
    have hp' : s.heap.IsList p its.toArray := let ⟨o, e, r⟩ := hp; ⟨o, kp _ _ e, r⟩
    refine wpAny_bind (wpAny_pyNext_list_end (show A.in1.handled = none from hh) it hp' (by simp [hl]) fun h' eb => ?_)
    show wpAny _ A.in1 (Builtin.Dict.addKeywords d [] >>= fun _ => ret Value.none) _ _ _
    refine wpAny_bind (wpAny_pure (wpAny_pure ?_))
    refine hR h' s.toks (fun b o e => eb b o (fun z => ?_) (kp b o e)) ?_
    · have := Heap.lt_size e
      rw [z] at this
      exact absurd this (Nat.not_lt.mpr hI)
    · rw [List.take_length] at dk
      exact dk.at fun o e => eb d o hne e
  | succ m ih =>
    intro i s hm hi kp it dk hR
    have hlt : i < vs.length := by omega
    have hx : its[i]? = some (its[i]'(by omega)) := List.getElem?_eq_getElem (by omega)
    obtain ⟨a, k, key, v, eu, ht, hk, hv⟩ := hat i _ hx
    rw [eu] at hx
    refine codeAny_builtin entry_dict_loop ?_
    rw [Around.under_plainId plain_dict_loop _]
    show wpAny _ A.in1 (pyNext (.ref I) >>= _) _ _ s
    have hp' : s.heap.IsList p its.toArray := let ⟨o, e, r⟩ := hp; ⟨o, kp _ _ e, r⟩
    refine wpAny_bind (wpAny_pyNext_list_item it hp' (x := .ref a) (by simpa using hx) fun h' it' sb => ?_)
    obtain ⟨ot, eot, ct, nt, dt⟩ := ht
    have la : a ≠ I := fun z => by
      have := Heap.lt_size eot
      rw [z] at this
      exact absurd this (Nat.not_lt.mpr hI)
    have eot' : h'.get? a = some ot := (sb.2 a la).trans (kp _ _ eot)
    refine wpAny_bind (wpAny_holding ?_)
    refine wpAny_bind (wpAny_tryCatch ?_)
    unfold Builtin.Dict.pairItems
    refine wpAny_bind (wpAny_typeOf (T := "tuple") ⟨ot, eot', ct⟩ ?_)
    rw [if_pos (by decide)]
    refine wpAny_bind (wpAny_seqItems (s := { s with heap := h' }) eot' dt (wpAny_pure ?_))
    show wpAny _ A.in1 (holding [key, v] (dictSet d key v)) _ _ _
    refine wpAny_holding ?_
    have dk' : h'.DictOf (mixKind P w) d (vs.take i) := dk.at fun o e => (sb.2 d hne).trans e
    refine wpAny_dictSet_pairs (s := { s with heap := h' }) hk dk' (fun h2 dk2 sb2 => ?_) (by rw [List.length_take]; omega)
    rw [stored_fresh (take_fresh nd hv)] at dk2
    have et : vs.take i ++ [(k, v)] = vs.take (i + 1) := by rw [List.take_add_one, hv]; rfl
    rw [et] at dk2
    refine wpAny_pure ⟨plainId_quiet plain_dict_loop _, ?_⟩
    refine ih (i + 1) _ (by omega) hlt (fun b o e => ?_) (it'.at fun o e => (sb2.2 I (Ne.symm hne)).trans e) dk2 fun h3 tk kp3 dk3 => hR h3 tk kp3 dk3
    have lb := Heap.lt_size e
    exact (sb2.2 b (fun z => by rw [z] at lb; exact absurd lb (Nat.not_lt.mpr hd))).trans ((sb.2 b (fun z => by rw [z] at lb; exact absurd lb (Nat.not_lt.mpr hI))).trans (kp b o e))
end
section
variable {X : Cx}
theorem cDict (K : PySem.W.Frag) (hc : X.calm = true := by rfl) (hK : X.K = K := by rfl) : CallR X (.type "dict") (fun xs H Q => ∃ (p : Addr) (ps : List Addr) (kvs : List (Key × V)), xs = [.ref p] ∧ SqL K H p (ps.map V.ref) ∧ ps.length = kvs.length ∧ (kvs.map (·.1)).Nodup ∧
    (∀ (i : Nat) a, ps[i]? = some a → ∃ k v, kvs[i]? = some (k, v) ∧ SqT K H a [kV k, v]) ∧ ∀ l, H l = none → Q (.ref l) (upd H l (.dK kvs))) := by
  subst hK
  intro pins s σ H xs us Q I r h
  obtain ⟨p, ps, kvs, e, hq, hn, nd, hat, q⟩ := h
  subst e
  obtain ⟨u, e, rx⟩ := vals1 r
  subst e
  cases rx
  obtain ⟨its, rv, pl, hz⟩ := I.list hq
  have hl := rv.length
  rw [List.length_map] at hl hz
  have hnd : X.A.handled = none := I.ok.hd hc
  have raw : ∃ vs : List (Key × Value), KV kvs vs ∧ ∀ (i : Nat) u, its[i]? = some u → ∃ a k key v, u = .ref a ∧ s.heap.IsTuple a #[key, v] ∧ (mixKind X.prog X.w).is k key = true ∧ vs[i]? = some (k, v) := by
    have key : ∀ (kvs : List (Key × V)) (ps : List Addr), ps.length = kvs.length → (∀ (i : Nat) a, ps[i]? = some a → ∃ k v, kvs[i]? = some (k, v) ∧ SqT X.K H a [kV k, v]) →
        ∃ vs : List (Key × Value), KV kvs vs ∧ ∀ (i : Nat) a, ps[i]? = some a → ∃ k key v, s.heap.IsTuple a #[key, v] ∧ (mixKind X.prog X.w).is k key = true ∧ vs[i]? = some (k, v) := by
      intro kvs
      induction kvs with
      | nil =>
        intro ps hn _
        exact ⟨[], .nil, fun i a z => by rw [List.length_eq_zero_iff.mp hn] at z; cases z⟩
      | cons kv kvs ih =>
        intro ps hn hat
        obtain ⟨a, ps, rfl⟩ : ∃ a qs, ps = a :: qs := by
          cases ps with
          | nil => simp at hn
          | cons a qs => exact ⟨a, qs, rfl⟩
        obtain ⟨k, v, e, ht⟩ := hat 0 a rfl
        cases e
        obtain ⟨vs, rel, hr⟩ := ih ps (by simpa using hn) fun i b hb => hat (i + 1) b hb
        obtain ⟨its, rv, pt, _⟩ := I.tuple ht
        obtain ⟨u1, u2, rfl, r1, r2⟩ := vals2 rv
        refine ⟨(k, u2) :: vs, .cons ⟨rfl, r2⟩ rel, fun i b hb => ?_⟩
        cases i with
        | zero => cases hb; exact ⟨k, u1, u2, pt, kV_is r1, rfl⟩
        | succ i => exact hr i b hb
    obtain ⟨vs, rel, hr⟩ := key kvs ps hn hat
    refine ⟨vs, rel, fun i u hu => ?_⟩
    have hi : i < ps.length := by rw [hl]; exact (List.getElem?_eq_some_iff.mp hu).1
    obtain ⟨u', eu, ru⟩ := rv.get (i := i) (x := .ref ps[i]) (by simp [hi])
    rw [hu] at eu
    cases eu
    cases (show u = Value.ref ps[i] from ru)
    obtain ⟨k, key, v, a1, a2, a3⟩ := hr i ps[i] (List.getElem?_eq_getElem hi)
    exact ⟨_, k, key, v, rfl, a1, a2, a3⟩
  obtain ⟨vs, rel, hraw⟩ := raw
  have lv : kvs.length = vs.length := rel.length
  have ek : kvs.map (·.1) = vs.map (·.1) := by
    clear hraw hat lv nd hn q
    induction rel with
    | nil => rfl
    | cons h _ ih => rw [List.map_cons, List.map_cons, ih, h.1]
  refine callType_codes (Q₁ := fun obj s₁ => obj = .ref s.heap.objs.size ∧ s₁ = { s with heap := s.heap.push { cls := .type "dict", data := .dict #[] } }) F.kt_called_dict (F.kt_typeCall_dict_1 _) F.entry_dict_init (kt_code_dict_new _ ⟨rfl, rfl⟩) ?_
  rintro obj s₁ ⟨rfl, rfl⟩
  have hnew : (s.heap.push { cls := .type "dict", data := .dict #[] }).DictOf (mixKind X.prog X.w) s.heap.objs.size [] := Heap.DictOf.new s.heap
  refine ⟨hnew.typeIs, F.args_dict_init_2 _ _, ?_⟩
  unfold Builtin.«dict.__init__»
  refine wpAny_bind ?_
  unfold Builtin.Dict.selfAndRest
  refine wpAny_bind (wpAny_notOrdered_dict hnew.typeIs ?_)
  show wpAny _ _ (pure (s.heap.objs.size, [Value.ref p])) _ _ _
  refine wpAny_pure ?_
  show wpAny _ _ (Builtin.Dict.updateFrom "dict.__init__" s.heap.objs.size (.ref p) [] .none) _ _ _
  unfold Builtin.Dict.updateFrom
  obtain ⟨o, n, ho, c1, c2, c3⟩ := pl
  have ho' : (s.heap.push { cls := .type "dict", data := .dict #[] }).get? p = some o := Heap.get?_push_of_some _ ho
  refine wpAny_bind (wpAny_typeOf (T := "list") ⟨o, ho', c1⟩ ?_)
  rw [if_pos (by decide)]
  obtain ⟨oc, od, oda, osl⟩ := o
  simp only at c1 c2 c3
  subst c1 c2 c3
  refine wpAny_bind (keys_attr_list hnd ho' fun h2 tk kp2 => ?_)
  have hlst : h2.IsList p its.toArray := ⟨_, kp2 _ _ ho', rfl, n, rfl⟩
  show wpAny _ _ (rule _ >>= _) _ _ _
  refine wpAny_bind (wpAny_rule ?_)
  refine wpAny_bind (wpAny_pyIter_list (s := { s with heap := h2, toks := tk }) hlst ?_)
  refine wpAny_pure ⟨plainId_quiet plain_dict_loop _, ?_⟩
  have lt : s.heap.objs.size < h2.objs.size := by
    have := Heap.lt_size (kp2 s.heap.objs.size _ (Heap.get?_push_size _ rfl))
    exact this
  refine dict_loop (P := X.prog) (w := X.w) (h0 := s.heap) (vs := vs) (its := its) (A := X.A.in1) (show X.A.in1.handled = none from hnd) ⟨_, ho, rfl, n, rfl⟩ (Nat.le_refl _) (Nat.le_of_lt lt) (Nat.ne_of_lt lt) (by rw [← ek]; exact nd) (by omega) (by omega) hraw _ 0 _ rfl (Nat.zero_le _) (fun b o e => ?_) ?_ ?_ fun h' tk' kp' dk' => ?_
  · exact Heap.get?_push_of_some _ (kp2 _ _ (Heap.get?_push_of_some _ e))
  · exact ⟨_, Heap.get?_push_size _ rfl, rfl, rfl⟩
  · rw [List.take_zero]
    exact hnew.at fun o e => Heap.get?_push_of_some _ (kp2 _ _ e)
  · refine ⟨rfl, .ref s.heap.objs.size, _, I.laid (t' := tk') kp' (Nat.le_refl _) (dk_new (by omega) (beq_false_of_ne (Nat.ne_of_gt I.big)) rel dk'), rfl, q _ (I.hok.fresh (Nat.le_refl _))⟩
end
end L2
set_option Elab.async false
set_option linter.all false
set_option maxRecDepth 100000
namespace L2
open PySem PySem.Spec PyProof.Rows
noncomputable def PairT (H : Hp) (a : Addr) (x : Int × Int) : Prop := H a = some (.tup [.int x.1, .int x.2])
noncomputable def TupsL (H : Hp) (ps : List Addr) (row : List (Int × Int)) : Prop := Paired (PairT H) ps row
noncomputable def RowAt (H : Hp) (r : Addr) (row : List (Int × Int)) : Prop := ∃ ps : List Addr, H r = some (.lst (ps.map V.ref)) ∧ TupsL H ps row
noncomputable def BillL (H : Hp) (rs : List Addr) (rows : List (List (Int × Int))) : Prop := Paired (RowAt H) rs rows
theorem pair_at {α β : Type} {F : α → β → Prop} : ∀ {l : List α} {r : List β} {i : Nat} {a : α}, Paired F l r → l[i]? = some a → ∃ b, r[i]? = some b ∧ F a b
  | _, _, _, _, .nil, e => by simp at e
  | _, _, 0, _, .cons h _, e => by simp at e; subst e; exact ⟨_, rfl, h⟩
  | _, _, i + 1, b, .cons _ t, e => by
    have e' := e
    rw [List.getElem?_cons_succ] at e'
    obtain ⟨a, ea, fa⟩ := pair_at t e'
    exact ⟨a, by rw [List.getElem?_cons_succ]; exact ea, fa⟩
theorem TupsL.same {H H' : Hp} {ps : List Addr} {row : List (Int × Int)} (h : TupsL H ps row) (s : Same H H') : TupsL H' ps row := Paired.mapP h fun _ _ q => s _ _ q
theorem TupsL.len {H : Hp} {ps : List Addr} {row : List (Int × Int)} (h : TupsL H ps row) : ps.length = row.length := Paired.length h
theorem RowAt.same {H H' : Hp} {r : Addr} {row : List (Int × Int)} (h : RowAt H r row) (s : Same H H') : RowAt H' r row := let ⟨ps, a, b⟩ := h; ⟨ps, s _ _ a, b.same s⟩
theorem BillL.same {H H' : Hp} {rs : List Addr} {rows : List (List (Int × Int))} (h : BillL H rs rows) (s : Same H H') : BillL H' rs rows := Paired.mapP h fun _ _ q => q.same s
theorem BillL.len {H : Hp} {rs : List Addr} {rows : List (List (Int × Int))} (h : BillL H rs rows) : rs.length = rows.length := Paired.length h
theorem BillL.at {H : Hp} {rs : List Addr} {rows : List (List (Int × Int))} (h : BillL H rs rows) {i : Nat} {row : List (Int × Int)} (e : rows[i]? = some row) : ∃ r, rs[i]? = some r ∧ RowAt H r row := pair_get h e
theorem BillL.get {H : Hp} {rs : List Addr} {rows : List (List (Int × Int))} (h : BillL H rs rows) {i : Nat} {r : Addr} (e : rs[i]? = some r) : ∃ row, rows[i]? = some row ∧ RowAt H r row := pair_at h e
theorem comp_pairs {K : PySem.W.Frag} {H1 : Hp} {js : List (Option Nat)} {σ : L2.St} {tc : TT} {te : TE} {Q : VK} {r : Addr} {ps : List Addr} {row : List (Int × Int)} (p : Nat → Bool) (P : Addr → Nat → V → Hp → Prop)
    (hr : SqL K H1 r (ps.map V.ref)) (ht : TupsL H1 ps row) (hn : row.length < 100000)
    (mono : ∀ acc i v H H', P acc i v H → SameBut acc H H' → P acc i v H')
    (hc : ∀ (i : Nat) x, row[i]? = some x → ∀ H2 R, Same H1 H2 → (∀ H3, Same H2 H3 → R (p i) H3) → tc (some (.int x.1) :: some (.int x.2) :: pick σ js) H2 R)
    (he : ∀ acc (i : Nat) x, row[i]? = some x → p i = true → ∀ H2 R, Same H1 H2 → H1 acc = none → H2 acc ≠ none → (∀ v H3, Same H2 H3 → P acc i v H3 → R v H3) → te (some (.int x.1) :: some (.int x.2) :: pick σ js) H2 R)
    (hQ : ∀ acc vs H', Same H1 H' → H1 acc = none → H' acc = some (.lst vs) → Paired (fun i v => P acc i v H') ((List.range row.length).filter p) vs → Q (.ref acc) H') :
    CompB (Itl K r) H1 (none :: none :: js) (gTup K 2 (gCons (gName 0) (gCons (gName 1) gNil))) tc te σ Q := by
  have hl := ht.len
  intro acc hacc
  refine ⟨fun i m ys H => m = row.length - i ∧ i ≤ row.length ∧ Same H1 H ∧ H acc = some (.lst ys) ∧ Paired (fun k v => P acc k v H) ((List.range i).filter p) ys, ⟨row.length, by simp, Nat.zero_le _, Same.new hacc, upd_same, .nil⟩, ?_⟩
  rintro i m ys H ⟨rfl, hi, s1, ha, hp⟩
  by_cases hlt : i < row.length
  · have hps : i < ps.length := by omega
    have ex : row[i]? = some row[i] := List.getElem?_eq_getElem hlt
    refine .inr ⟨⟨_, .ref ps[i], s1.seq hr, by simp [hps]⟩, fun ys' H' => i < row.length ∧ Same H1 H' ∧ H' acc = some (.lst ys') ∧ Paired (fun k v => P acc k v H') ((List.range (i + 1)).filter p) ys', fun ys' H' ⟨z, a, b, c⟩ => ⟨row.length - (i + 1), by omega, rfl, hlt, a, b, c⟩, fun x H' y => ?_⟩
    obtain ⟨rfl, y⟩ := y
    have y := y _ (s1.seq hr)
    rw [List.getElem?_map] at y
    obtain ⟨a, ea, rfl⟩ := Option.map_eq_some_iff.mp y
    obtain ⟨x', ex', ft⟩ := pair_at ht ea
    rw [ex] at ex'
    cases ex'
    refine ⟨a, _, rfl, SqT.of (s1 _ _ ft), rfl, _, _, rfl, _, _, rfl, rfl, kept2, hc i _ ex _ _ s1 fun H2 s2 => ⟨fun hb => ?_, fun hb => ?_⟩⟩
    · have ha2 := s2 _ _ ha
      refine he acc i _ ex hb _ _ (s1.trans s2) hacc (by rw [ha2]; simp) fun v H3 s3 pv => ?_
      have hlen : ys.length ≤ i := by
        rw [← Paired.length hp]
        exact Nat.le_trans (List.length_filter_le _ _) (by simp)
      refine ⟨s3 _ _ ha2, szn (by omega), hlt, ((s1.trans s2).trans s3).put hacc, upd_same, ?_⟩
      rw [List.range_succ, List.filter_append]
      have e : List.filter p [i] = [i] := by simp [hb]
      rw [e]
      refine Paired.snoc (Paired.mapP hp fun k v q => ?_) ?_
      · exact mono acc k v _ _ (mono acc k v _ _ q (s2.trans s3).but) SameBut.upd
      · exact mono acc i v _ _ pv SameBut.upd
    · refine ⟨hlt, s1.trans s2, s2 _ _ ha, ?_⟩
      rw [List.range_succ, List.filter_append]
      have e : List.filter p [i] = [] := by simp [hb]
      rw [e, List.append_nil]
      exact Paired.mapP hp fun k v q => mono acc k v _ _ q s2.but
  · have e : i = row.length := by omega
    subst e
    exact .inl ⟨⟨_, s1.seq hr, by rw [List.length_map]; omega⟩, hQ acc ys H s1 hacc ha hp⟩
theorem map_atP {α β : Type} {f : Nat → β} {g : α → β} {l : List α} (h : ∀ (i : Nat) x, l[i]? = some x → f i = g x) : (List.range l.length).map f = l.map g := by
  apply List.ext_getElem
  · simp
  · intro i h1 h2
    simp only [List.getElem_map, List.getElem_range]
    exact h i _ (List.getElem?_eq_getElem (by simpa using h2))
theorem comp_pairsV {K : PySem.W.Frag} {H1 : Hp} {js : List (Option Nat)} {σ : L2.St} {te : TE} {Q : VK} {r : Addr} {row : List (Int × Int)} (f : Int × Int → V)
    (hr : RowAt H1 r row) (hn : row.length < 100000)
    (he : ∀ (i : Nat) x, row[i]? = some x → ∀ H2 R, Same H1 H2 → (∀ H3, Same H2 H3 → R (f x) H3) → te (some (.int x.1) :: some (.int x.2) :: pick σ js) H2 R)
    (hQ : ∀ acc H', Same H1 H' → H1 acc = none → H' acc = some (.lst (row.map f)) → Q (.ref acc) H') :
    CompB (Itl K r) H1 (none :: none :: js) (gTup K 2 (gCons (gName 0) (gCons (gName 1) gNil))) tYes te σ Q := by
  obtain ⟨ps, h1, h2⟩ := hr
  refine comp_pairs (ps := ps) (row := row) (fun _ => true) (fun _ i v _ => v = f (row.getD i (0, 0))) (SqL.of h1) h2 hn (fun _ _ _ _ _ h _ => h) (fun _ _ _ _ _ _ k => k _ (Same.refl _)) (fun acc i x ex _ H2 R s _ _ k => he i x ex H2 R s fun H3 s3 => k _ H3 s3 ?_) fun acc vs H' s n e p => ?_
  · rw [List.getD_eq_getElem?_getD, ex]; rfl
  · refine hQ acc H' s n ?_
    rw [e, paired_map p, List.filter_eq_self.mpr (fun _ _ => rfl)]
    rw [map_atP (g := f) fun i x hx => by rw [List.getD_eq_getElem?_getD, hx]; rfl]
noncomputable def kvR (row : List (Int × Int)) : List (Key × V) := row.map fun x => (Sum.inl x.1, V.int x.2)
noncomputable def look (row : List (Int × Int)) (b : Int) : Option Int := (row.find? fun x => x.1 == b).map (·.2)
theorem kvR_nd {row : List (Int × Int)} (h : (row.map (·.1)).Nodup) : ((kvR row).map (·.1)).Nodup := by
  unfold kvR
  rw [List.map_map]
  have e : row.map ((fun x : Key × V => x.1) ∘ fun x : Int × Int => ((Sum.inl x.1 : Key), V.int x.2)) = (row.map (·.1)).map (Sum.inl : Int → Key) := by rw [List.map_map]; rfl
  rw [e]
  exact List.Pairwise.map _ (fun a b n z => n (by injection z)) h
theorem valV_kvR (b : Int) : ∀ row : List (Int × Int), valV (kvR row) (Sum.inl b) = (look row b).map V.int
  | [] => rfl
  | x :: row => by
    have ih := valV_kvR b row
    unfold kvR look valV at *
    rw [List.map_cons, List.find?_cons, List.find?_cons]
    by_cases z : x.1 = b
    · have z1 : (x.1 == b) = true := by simpa using z
      have z2 : decide ((Sum.inl x.1 : Key) = Sum.inl b) = true := by rw [z]; simp
      simp only [z1, z2, Option.map_some]
    · have z1 : (x.1 == b) = false := by simpa using z
      have z2 : decide ((Sum.inl x.1 : Key) = Sum.inl b) = false := decide_eq_false fun y => z (by injection y)
      simp only [z1, z2]
      exact ih
theorem TupsL.kv {K : PySem.W.Frag} {H : Hp} {ps : List Addr} {row : List (Int × Int)} (h : TupsL H ps row) (i : Nat) (a : Addr) (e : ps[i]? = some a) : ∃ k v, (kvR row)[i]? = some (k, v) ∧ SqT K H a [kV k, v] := by
  obtain ⟨x, hx, t⟩ := pair_at h e
  exact ⟨Sum.inl x.1, V.int x.2, by unfold kvR; rw [List.getElem?_map, hx]; rfl, SqT.of t⟩
theorem look_mem {row : List (Int × Int)} (nd : (row.map (·.1)).Nodup) {x : Int × Int} (h : x ∈ row) : look row x.1 = some x.2 := by
  induction row with
  | nil => cases h
  | cons y row ih =>
    rw [List.map_cons, List.nodup_cons] at nd
    unfold look
    rw [List.find?_cons]
    rcases List.mem_cons.mp h with e | h
    · subst e; simp
    · have z : (y.1 == x.1) = false := by
        refine beq_false_of_ne fun e => nd.1 ?_
        rw [e]
        exact List.mem_map.mpr ⟨x, h, rfl⟩
      rw [z]
      exact ih nd.2 h
theorem look_some {row : List (Int × Int)} {b c : Int} (h : look row b = some c) : (b, c) ∈ row := by
  unfold look at h
  obtain ⟨x, hx, e⟩ := Option.map_eq_some_iff.mp h
  have e1 := List.find?_some hx
  have e2 := List.mem_of_find?_eq_some hx
  have e3 : x.1 = b := by simpa using e1
  rw [← e3, ← e]
  exact e2
theorem look_none {row : List (Int × Int)} {b : Int} : look row b = none ↔ b ∉ row.map (·.1) := by
  unfold look
  rw [Option.map_eq_none_iff, List.find?_eq_none]
  constructor
  · intro h z
    obtain ⟨x, hx, e⟩ := List.mem_map.mp z
    exact h x hx (by simp [e])
  · intro h x hx z
    exact h (List.mem_map.mpr ⟨x, hx, by simpa using z⟩)
end L2
set_option Elab.async false
set_option linter.all false
set_option maxRecDepth 100000
namespace L2
open PySem PySem.Spec PyProof.Rows
theorem ixN_natE {n j : Nat} (h : j < n) : ixN n (j : Int) = some j := by
  unfold ixN
  rw [if_pos (by omega), if_pos (by omega), Int.toNat_natCast]
theorem pick_mem (L : List Int) (c : Int) {n : Nat} (e : L.length = n) (h : 0 < n) : ∃ d, atI (L.map V.int) (c % (n : Int)) = some (.int d) ∧ d ∈ L := by
  obtain ⟨m, hm, em⟩ := modN c h
  rw [em]
  have hl : m < L.length := by omega
  exact ⟨L[m], atI_nat (by simp [hl]), List.getElem_mem hl⟩
theorem comp_rev {K : PySem.W.Frag} {H1 : Hp} {js : List (Option Nat)} {σ : L2.St} {te : TE} {Q : VK} {a : Addr} {ns : List Int} (f : Int → V) (hl : SqL K H1 a (ns.map V.int)) (hn : ns.length < 100000)
    (he : ∀ (i : Nat) x, ns[i]? = some x → ∀ H2 R, Same H1 H2 → (∀ H3, Same H2 H3 → R (f x) H3) → te (some (.int x) :: pick σ js) H2 R)
    (hQ : ∀ acc H', Same H1 H' → H1 acc = none → H' acc = some (.lst (ns.reverse.map f)) → Q (.ref acc) H') : CompB (Itrv K a (ns.map V.int).length) H1 (none :: js) (gName 0) tYes te σ Q := by
  have ln : (ns.map V.int).length = ns.length := List.length_map ..
  rw [ln]
  refine comp_walk2 (J := Itrv K a ns.length) (H1 := H1) (js := js) (σ := σ) (tc := tYes) (te := te) (Q := Q) ns.length (fun i => .int (ns.getD (ns.length - 1 - i) 0)) (fun _ => true) (fun _ i v _ => v = f (ns.getD (ns.length - 1 - i) 0)) hn (fun _ _ _ _ _ h _ => h)
    (fun i H h s => ⟨h, _, s.seq hl, ln⟩) (fun H s => Nat.le_refl _)
    (fun i H x H' h s y => ⟨y.1, ?_⟩)
    (fun i h H2 R s k => k _ (Same.refl _)) (fun acc i h hp H2 R s n1 n2 k => ?_)
    fun acc vs H' s n' e p => hQ acc H' s n' ?_
  · have e := y.2 _ (s.seq hl)
    rw [List.getElem?_map] at e
    obtain ⟨z, hz, rfl⟩ := Option.map_eq_some_iff.mp e
    rw [List.getD_eq_getElem?_getD, hz]; rfl
  · have hx : ns[ns.length - 1 - i]? = some (ns.getD (ns.length - 1 - i) 0) := by rw [List.getD_eq_getElem?_getD, List.getElem?_eq_getElem (by omega)]; rfl
    exact he _ _ hx H2 R s fun H3 s3 => k _ H3 s3 rfl
  · rw [e, paired_map p, List.filter_eq_self.mpr (fun _ _ => rfl)]
    congr 2
    apply List.ext_getElem
    · simp
    · intro i h1 h2
      simp only [List.length_map, List.length_range] at h1
      simp only [List.getElem_map, List.getElem_range, List.getElem_reverse]
      rw [List.getD_eq_getElem?_getD, List.getElem?_eq_getElem (by omega)]; rfl
theorem rev_up {ns : List Int} (c : Int) (h : ns.Pairwise (· < ·)) : ((ns.reverse.map fun x => c - x) : List Int).Pairwise (· < ·) := by
  refine List.Pairwise.map _ (fun a b (z : b < a) => by show c - a < c - b; omega) ?_
  exact List.pairwise_reverse.mpr h
structure RowOk (bs : List Int) (tp : Int) (row : List (Int × Int)) : Prop where
  up : (row.map (·.1)).Pairwise (· < ·)
  inn : ∀ x ∈ row, x.1 ∈ bs ∧ 0 ≤ x.2 ∧ x.2 < tp
  len : row.length ≤ bs.length
theorem RowOk.nd {bs : List Int} {tp : Int} {row : List (Int × Int)} (h : RowOk bs tp row) : (row.map (·.1)).Nodup := lt_nd h.up
theorem RowAt.but {H : Hp} {r l : Addr} {row : List (Int × Int)} {xs : List V} {o : HO} (h : RowAt H r row) (hl : H l = some (.lst xs)) (ne : r ≠ l) : RowAt (upd H l o) r row := by
  obtain ⟨ps, a, b⟩ := h
  exact ⟨ps, by rw [upd_ne ne]; exact a, Paired.mapP b fun a x q => by
    show upd H l o a = _
    rw [upd_ne (fun z => by rw [PairT, z, hl] at q; cases q)]; exact q⟩
theorem TupsL.but {H : Hp} {l : Addr} {ps : List Addr} {row : List (Int × Int)} {xs : List V} {o : HO} (h : TupsL H ps row) (hl : H l = some (.lst xs)) : TupsL (upd H l o) ps row :=
  Paired.mapP h fun a x q => by
    show upd H l o a = _
    rw [upd_ne (fun z => by rw [PairT, z, hl] at q; cases q)]; exact q
theorem BillL.but {H : Hp} {l : Addr} {rs : List Addr} {rows : List (List (Int × Int))} {xs : List V} {o : HO} (h : BillL H rs rows) (hl : H l = some (.lst xs)) (ne : l ∉ rs) : BillL (upd H l o) rs rows := by
  refine paired_of h.len fun i r row e1 e2 => ?_
  obtain ⟨row', e3, q⟩ := h.get e1
  rw [e2] at e3
  cases e3
  exact q.but hl fun z => ne (z ▸ List.mem_of_getElem? e1)
theorem up_snoc {l : List Int} {x : Int} (h : l.Pairwise (· < ·)) (hx : ∀ y ∈ l, y < x) : (l ++ [x]).Pairwise (· < ·) :=
  List.pairwise_append.mpr ⟨h, List.pairwise_singleton .., fun a ha b hb => by rw [List.mem_singleton.mp hb]; exact hx a ha⟩
theorem up_take {bs : List Int} (h : bs.Pairwise (· < ·)) {i : Nat} {x : Int} (hx : bs[i]? = some x) : ∀ y ∈ bs.take i, y < x := by
  intro y hy
  obtain ⟨hi, ex⟩ := List.getElem?_eq_some_iff.mp hx
  obtain ⟨j, hj, ej⟩ := List.mem_iff_getElem.mp hy
  rw [List.length_take] at hj
  rw [List.getElem_take] at ej
  rw [← ej, ← ex]
  exact List.pairwise_iff_getElem.mp h j i _ _ (by omega)
theorem paired_snoc_len {α β : Type} {F : α → β → Prop} {l : List α} {r : List β} (h : Paired F l r) {a : α} {b : β} (q : F a b) : Paired F (l ++ [a]) (r ++ [b]) := Paired.snoc h q
theorem BillL.parts {H : Hp} {rs : List Addr} {rows : List (List (Int × Int))} (h : BillL H rs rows) : ∃ pss : List (List Addr), pss.length = rs.length ∧ ∀ (i : Nat) r, rs[i]? = some r → ∃ ps row, pss[i]? = some ps ∧ rows[i]? = some row ∧ H r = some (.lst (ps.map V.ref)) ∧ TupsL H ps row := by
  induction h with
  | nil => exact ⟨[], rfl, fun i r z => by cases z⟩
  | cons h _ ih =>
    obtain ⟨pss, l, f⟩ := ih
    obtain ⟨ps, a, b⟩ := h
    refine ⟨ps :: pss, by rw [List.length_cons, List.length_cons, l], fun i r e => ?_⟩
    cases i with
    | zero => cases e; exact ⟨ps, _, rfl, rfl, a, b⟩
    | succ i => exact f i r e
theorem comp_copyB {K : PySem.W.Frag} {H1 : Hp} {js : List (Option Nat)} {σ : L2.St} {te : TE} {Q : VK} {b : Addr} {rs : List Addr} {rows : List (List (Int × Int))} (hb : H1 b = some (.lst (rs.map V.ref))) (bl : BillL H1 rs rows) (hn : rows.length < 100000)
    (he : ∀ r (xs : List V) H2 R, H2 r = some (.lst xs) → (∀ l H3, Same H2 H3 → H2 l = none → H3 l = some (.lst xs) → R (.ref l) H3) → te (some (.ref r) :: pick σ js) H2 R)
    (hQ : ∀ acc ls H', Same H1 H' → H1 acc = none → H' acc = some (.lst (ls.map V.ref)) → BillL H' ls rows → (∀ r ∈ ls, H1 r = none ∧ r ≠ acc) → ls.Nodup → Q (.ref acc) H') :
    CompB (Itl K b) H1 (none :: js) (gName 0) tYes te σ Q := by
  obtain ⟨pss, lp, fp⟩ := bl.parts
  have ln := bl.len
  refine comp_inv (J := Itl K b) (H1 := H1) (js := js) (σ := σ) (te := te) (Q := Q) rs.length (fun i => (rs.map V.ref).getD i .non) (fun acc ys H => ∃ ls : List Addr, ys = ls.map V.ref ∧ ls.Nodup ∧ (∀ r ∈ ls, H1 r = none ∧ r ≠ acc) ∧ ∀ (i : Nat) l, ls[i]? = some l → H l = some (.lst ((pss.getD i []).map V.ref))) (by omega)
    ?_ (fun acc H => ⟨[], rfl, .nil, (fun _ z => by cases z), fun i l z => by cases z⟩)
    (fun i H h s => ⟨_, .ref rs[i], s.seq (SqL.of hb), by simp [h]⟩) (fun H s => ⟨_, s.seq (SqL.of hb), by simp⟩) ?_ ?_ ?_
  · rintro acc ys H H' ⟨ls, e, nd, n, f⟩ s
    exact ⟨ls, e, nd, n, fun i l z => s l _ (n l (List.mem_of_getElem? z)).2 (f i l z)⟩
  · intro i H x H' h s y
    refine ⟨y.1, ?_⟩
    have e := y.2 _ (s.seq (SqL.of hb))
    rw [List.getD_eq_getElem?_getD, e]; rfl
  · rintro acc i ys H2 R hi s n1 n2 ln2 ⟨ls, rfl, nd, n, f⟩ k
    have er : rs[i]? = some rs[i] := List.getElem?_eq_getElem hi
    obtain ⟨ps, row, e1, e2, e3, e4⟩ := fp i _ er
    have eg : (rs.map V.ref).getD i .non = .ref rs[i] := by rw [List.getD_eq_getElem?_getD, List.getElem?_map, er]; rfl
    rw [List.length_map] at ln2
    show te (some ((rs.map V.ref).getD i .non) :: pick σ js) H2 R
    rw [eg]
    refine he _ _ H2 R (s _ _ e3) fun l H3 s3 nl hl => k (.ref l) H3 s3 ⟨ls ++ [l], by rw [List.map_append]; rfl, ?_, fun r hr => ?_, fun j l' z => ?_⟩
    · refine List.nodup_append.mpr ⟨nd, by simp, fun x hx y hy z => ?_⟩
      rw [List.mem_singleton.mp hy] at z
      subst z
      obtain ⟨j, hj, ej⟩ := List.mem_iff_getElem.mp hx
      have := f j x (by rw [List.getElem?_eq_getElem hj, ej])
      rw [this] at nl
      cases nl
    · rcases List.mem_append.mp hr with z | z
      · exact n r z
      · rw [List.mem_singleton.mp z]
        exact ⟨s.free nl, fun z => by rw [z, n2] at nl; cases nl⟩
    · by_cases hj : j < ls.length
      · rw [List.getElem?_append_left hj] at z
        exact s3 _ _ (f j l' z)
      · have hj' := (List.getElem?_eq_some_iff.mp z).1
        rw [List.length_append, List.length_singleton] at hj'
        have ej : j = ls.length := by omega
        subst ej
        rw [List.getElem?_append_right (Nat.le_refl _), Nat.sub_self] at z
        cases z
        rw [ln2, List.getD_eq_getElem?_getD, e1]
        exact hl
  · rintro acc ys H' s n1 n2 l2 ⟨ls, rfl, nd, n, f⟩
    rw [List.length_map] at l2
    refine hQ acc ls H' s n1 n2 (paired_of (by omega) fun i l row z1 z2 => ?_) n nd
    have hi : i < rs.length := by rw [← l2]; exact (List.getElem?_eq_some_iff.mp z1).1
    obtain ⟨ps, row', e1, e2, e3, e4⟩ := fp i _ (List.getElem?_eq_getElem hi)
    rw [z2] at e2
    cases e2
    have g := f i l z1
    rw [List.getD_eq_getElem?_getD, e1] at g
    exact ⟨ps, g, e4.same s⟩
noncomputable def minAt (rows : List (List (Int × Int))) (hands : List Int) (i : Nat) : Int := (look (rows.getD i []) (hands.getD i 0)).getD 0
noncomputable def minOf (rows : List (List (Int × Int))) (hands : List Int) : Int := ((List.range rows.length).map (minAt rows hands)).sum
end L2
set_option Elab.async false
set_option linter.all false
set_option maxRecDepth 100000
namespace L2
open PySem PySem.Spec PyProof.Rows
noncomputable def keysOf (row : List (Int × Int)) : List Int := row.map (·.1)
theorem look_isSome {row : List (Int × Int)} {b : Int} : (look row b).isSome = decide (b ∈ keysOf row) := by
  cases e : look row b with
  | none => exact (decide_eq_false (show b ∉ keysOf row from look_none.mp e)).symm
  | some c => exact (decide_eq_true (show b ∈ keysOf row from List.mem_map.mpr ⟨_, look_some e, rfl⟩)).symm
noncomputable def RowN (acc : Addr) (H : Hp) (r : Addr) (row : List (Int × Int)) : Prop := r ≠ acc ∧ ∃ ps : List Addr, H r = some (.lst (ps.map V.ref)) ∧ (∀ a ∈ ps, a ≠ acc) ∧ TupsL H ps row
theorem RowN.at {acc : Addr} {H : Hp} {r : Addr} {row : List (Int × Int)} (h : RowN acc H r row) : RowAt H r row := let ⟨_, ps, a, _, c⟩ := h; ⟨ps, a, c⟩
end L2
set_option Elab.async false
set_option linter.all false
set_option maxRecDepth 100000
namespace L2
open PySem PySem.Spec PyProof.Rows
section
variable {X : Cx}
end
end L2
set_option Elab.async false
set_option linter.all false
set_option maxRecDepth 100000
namespace L2
open PySem PySem.Spec PyProof.Rows
inductive GRk : Nat → GPap → Prop where
  | tie {r : Nat} {j : Int} : GRk r (.tie j)
  | short {r : Nat} {bs : List Int} : GRk r (.short bs)
  | split {r : Nat} {ps : List GPap} (h : ∀ q ∈ ps, GRk r q) : GRk (r + 1) (.split ps)
theorem GRk.up {r : Nat} {g : GPap} (h : GRk r g) : GRk (r + 1) g := by
  induction h with
  | tie => exact .tie
  | short => exact .short
  | split h ih => exact .split ih
noncomputable def hidA (lf : Addr) (H : Hp) : Hp := fun b => if b = lf then none else H b
theorem hidA_ne {lf b : Addr} {H : Hp} (h : b ≠ lf) : hidA lf H b = H b := if_neg h
theorem paired_drop {α β : Type} {F : α → β → Prop} {l : List α} {r : List β} (h : Paired F l r) (n : Nat) : Paired F (l.drop n) (r.drop n) :=
  paired_of (by rw [List.length_drop, List.length_drop, Paired.length h]) fun i a b e1 e2 => by
    rw [List.getElem?_drop] at e1 e2
    obtain ⟨b', e3, q⟩ := pair_at h e1
    rw [e2] at e3
    cases e3
    exact q
theorem paired_take {α β : Type} {F : α → β → Prop} {l : List α} {r : List β} (h : Paired F l r) (n : Nat) : Paired F (l.take n) (r.take n) :=
  paired_of (by rw [List.length_take, List.length_take, Paired.length h]) fun i a b e1 e2 => by
    have hi := (List.getElem?_eq_some_iff.mp e1).1
    rw [List.length_take] at hi
    rw [List.getElem?_take_of_lt (by omega)] at e1 e2
    obtain ⟨b', e3, q⟩ := pair_at h e1
    rw [e2] at e3
    cases e3
    exact q
theorem paired_app {α β : Type} {F : α → β → Prop} {l l2 : List α} {r r2 : List β} (h : Paired F l r) (h2 : Paired F l2 r2) : Paired F (l ++ l2) (r ++ r2) := by
  induction h with
  | nil => exact h2
  | cons h _ ih => exact .cons h ih
noncomputable def Kept1 (lf : Addr) (H H' : Hp) : Prop := Same (hidA lf H) (hidA lf H') ∧ ∃ o, H' lf = some o
theorem Kept1.at {lf : Addr} {H H' : Hp} (k : Kept1 lf H H') {b : Addr} {o : HO} (n : b ≠ lf) (h : H b = some o) : H' b = some o := by
  have := k.1 b o (by rw [hidA_ne n]; exact h)
  rw [hidA_ne n] at this
  exact this
end L2
set_option Elab.async false
set_option linter.all false
set_option maxRecDepth 100000
namespace L2
open PySem PySem.Spec PyProof.Rows
noncomputable abbrev Rows := List (List (Int × Int))
noncomputable def du (ds : List (Int × Int)) (b : Int) : Int := (look ds b).getD 0
noncomputable def hA (hs : List (Option Int)) (j : Nat) : Option Int := hs.getD j none
noncomputable def pA (ps : List Int) (j : Nat) : Int := ps.getD j 0
noncomputable def rA (rows : Rows) (j : Nat) : List (Int × Int) := rows.getD j []
noncomputable def Tgt (rows : Rows) (ps : List Int) (ds : List (Int × Int)) (j : Nat) (b : Int) : Prop := ∃ c, look (rA rows j) b = some c ∧ pA ps j - du ds b = c
structure PInv (rows : Rows) (hs : List (Option Int)) (ps : List Int) (ds : List (Int × Int)) : Prop where
  lh : hs.length = rows.length
  lp : ps.length = rows.length
  tight : ∀ j b, hA hs j = some b → Tgt rows ps ds j b
  inj : ∀ j k b, hA hs j = some b → hA hs k = some b → j = k
  feas : ∀ j, ∀ x ∈ rA rows j, pA ps j - du ds x.1 ≤ x.2
  dnn : ∀ x ∈ ds, 0 ≤ x.2
  dnd : (ds.map (·.1)).Nodup
  held : ∀ x ∈ ds, ∃ j, hA hs j = some x.1
theorem hA_lt {hs : List (Option Int)} {j : Nat} {b : Int} (h : hA hs j = some b) : j < hs.length := by
  unfold hA at h
  rw [List.getD_eq_getElem?_getD] at h
  cases e : hs[j]? with
  | none => rw [e] at h; cases h
  | some v => exact (List.getElem?_eq_some_iff.mp e).1
theorem du_nn {ds : List (Int × Int)} (h : ∀ x ∈ ds, 0 ≤ x.2) (b : Int) : 0 ≤ du ds b := by
  unfold du
  cases e : look ds b with
  | none => exact Int.le_refl _
  | some d => exact h _ (look_some e)
structure PTree (rows : Rows) (hs : List (Option Int)) (ps : List Int) (ds : List (Int × Int)) (i : Nat) (R : List Nat) (A : List (Int × Nat)) : Prop where
  root : R[0]? = some i
  free : hA hs i = none
  len : R.length = A.length + 1
  hold : ∀ (t : Nat) x, A[t]? = some x → ∃ j, R[t + 1]? = some j ∧ hA hs j = some x.1
  ask : ∀ (t : Nat) x, A[t]? = some x → (∃ u, u ≤ t ∧ R[u]? = some x.2) ∧ Tgt rows ps ds x.2 x.1
  nd : (A.map (·.1)).Nodup
  lt : ∀ j ∈ R, j < rows.length
  keys : ∀ x ∈ A, x.1 ∈ ds.map (·.1)
theorem PTree.iff {rows : Rows} {hs : List (Option Int)} {ps : List Int} {ds : List (Int × Int)} {i : Nat} {R : List Nat} {A : List (Int × Nat)} (I : PInv rows hs ps ds) (T : PTree rows hs ps ds i R A) {j : Nat} {b : Int} (h : hA hs j = some b) : j ∈ R ↔ b ∈ A.map (·.1) := by
  constructor
  · intro m
    obtain ⟨t, ht⟩ := List.mem_iff_getElem?.mp m
    cases t with
    | zero =>
      rw [T.root] at ht
      cases ht
      rw [T.free] at h
      cases h
    | succ t =>
      have hl := (List.getElem?_eq_some_iff.mp ht).1
      have hA' : t < A.length := by have := T.len; omega
      obtain ⟨j', e1, e2⟩ := T.hold t A[t] (List.getElem?_eq_getElem hA')
      rw [ht] at e1
      cases e1
      rw [h] at e2
      exact List.mem_map.mpr ⟨A[t], List.getElem_mem hA', (Option.some.inj e2).symm⟩
  · intro m
    obtain ⟨x, hx, e⟩ := List.mem_map.mp m
    obtain ⟨t, ht⟩ := List.mem_iff_getElem?.mp hx
    obtain ⟨j', e1, e2⟩ := T.hold t x ht
    rw [e] at e2
    rw [I.inj j j' b h e2]
    exact List.mem_of_getElem? e1
theorem PTree.rnd {rows : Rows} {hs : List (Option Int)} {ps : List Int} {ds : List (Int × Int)} {i : Nat} {R : List Nat} {A : List (Int × Nat)} (T : PTree rows hs ps ds i R A) : R.Nodup := by
  rw [List.nodup_iff_pairwise_ne, List.pairwise_iff_getElem]
  intro a b ha hb hab e
  have tl := T.len
  obtain ⟨t, rfl⟩ : ∃ t, b = t + 1 := ⟨b - 1, by omega⟩
  obtain ⟨j, e1, e2⟩ := T.hold t _ (List.getElem?_eq_getElem (show t < A.length by omega))
  rw [List.getElem?_eq_getElem hb] at e1
  have e1 := Option.some.inj e1
  cases a with
  | zero =>
    have r := T.root
    rw [List.getElem?_eq_getElem ha] at r
    have r := Option.some.inj r
    have : hA hs i = some A[t].1 := by rw [← r, e, e1]; exact e2
    rw [T.free] at this
    cases this
  | succ a =>
    obtain ⟨j2, f1, f2⟩ := T.hold a _ (List.getElem?_eq_getElem (show a < A.length by omega))
    rw [List.getElem?_eq_getElem ha] at f1
    have f1 := Option.some.inj f1
    have ej : j2 = j := by rw [← f1, ← e1, e]
    rw [ej, e2] at f2
    have f2 := Option.some.inj f2
    have n1 := T.nd
    rw [List.nodup_iff_pairwise_ne, List.pairwise_iff_getElem] at n1
    exact n1 a t (by rw [List.length_map]; omega) (by rw [List.length_map]; omega) (by omega) (by rw [List.getElem_map, List.getElem_map]; exact f2.symm)
structure Raised (R : List Nat) (A : List (Int × Nat)) (g : Int) (ps : List Int) (ds : List (Int × Int)) (ps' : List Int) (ds' : List (Int × Int)) : Prop where
  lp : ps'.length = ps.length
  pr : ∀ j, pA ps' j = pA ps j + if j ∈ R then g else 0
  ky : ds'.map (·.1) = ds.map (·.1)
  nn : (∀ x ∈ ds, 0 ≤ x.2) → ∀ x ∈ ds', 0 ≤ x.2
  dr : ∀ b, du ds' b = du ds b + if b ∈ A.map (·.1) then g else 0
theorem raise_ok {rows : Rows} {hs : List (Option Int)} {ps ps' : List Int} {ds ds' : List (Int × Int)} {i : Nat} {R : List Nat} {A : List (Int × Nat)} {g : Int} (I : PInv rows hs ps ds) (T : PTree rows hs ps ds i R A) (g0 : 0 ≤ g)
    (hmin : ∀ q ∈ R, ∀ x ∈ rA rows q, x.1 ∉ A.map (·.1) → g ≤ x.2 + du ds x.1 - pA ps q) (W : Raised R A g ps ds ps' ds') : PInv rows hs ps' ds' ∧ PTree rows hs ps' ds' i R A := by
  have tg : ∀ j b, (j ∈ R ↔ b ∈ A.map (·.1)) → Tgt rows ps ds j b → Tgt rows ps' ds' j b := fun j b e ⟨c, h1, h2⟩ => ⟨c, h1, by
    rw [W.pr, W.dr]
    by_cases z : j ∈ R
    · rw [if_pos z, if_pos (e.mp z)]; omega
    · rw [if_neg z, if_neg fun y => z (e.mpr y)]; omega⟩
  refine ⟨⟨I.lh, by rw [W.lp]; exact I.lp, fun j b h => tg j b (T.iff I h) (I.tight j b h), I.inj, fun j x hx => ?_, W.nn I.dnn, by rw [W.ky]; exact I.dnd, fun x hx => ?_⟩, ⟨T.root, T.free, T.len, T.hold, fun t x hx => ⟨(T.ask t x hx).1, tg _ _ ?_ (T.ask t x hx).2⟩, T.nd, T.lt, fun x hx => by rw [W.ky]; exact T.keys x hx⟩⟩
  · rw [W.pr, W.dr]
    have f := I.feas j x hx
    by_cases z : j ∈ R
    · rw [if_pos z]
      by_cases y : x.1 ∈ A.map (·.1)
      · rw [if_pos y]; omega
      · rw [if_neg y]
        have := hmin j z x hx y
        omega
    · rw [if_neg z]
      split <;> omega
  · have : x.1 ∈ ds.map (·.1) := by rw [← W.ky]; exact List.mem_map.mpr ⟨x, hx, rfl⟩
    obtain ⟨y, hy, e⟩ := List.mem_map.mp this
    rw [← e]
    exact I.held y hy
  · obtain ⟨u, _, hu⟩ := (T.ask t x hx).1
    exact ⟨fun _ => List.mem_map.mpr ⟨x, List.mem_of_getElem? hx, rfl⟩, fun _ => List.mem_of_getElem? hu⟩
theorem extend_ok {rows : Rows} {hs : List (Option Int)} {ps : List Int} {ds ds' : List (Int × Int)} {i h q : Nat} {b : Int} {R : List Nat} {A : List (Int × Nat)} (I : PInv rows hs ps ds) (T : PTree rows hs ps ds i R A) (hq : q ∈ R) (hb : b ∉ A.map (·.1)) (tg : Tgt rows ps ds q b) (hh : hA hs h = some b)
    (e : ds' = if b ∈ ds.map (·.1) then ds else ds ++ [(b, 0)]) : PInv rows hs ps ds' ∧ PTree rows hs ps ds' i (R ++ [h]) (A ++ [(b, q)]) := by
  have ed : ∀ c, du ds' c = du ds c := fun c => by
    rw [e]
    split
    · rfl
    · rename_i n
      unfold du look
      rw [List.find?_append]
      cases z : ds.find? fun x => x.1 == c with
      | some x => rfl
      | none =>
        rw [Option.none_or, List.find?_singleton]
        split <;> rfl
  have ek : ∀ c, c ∈ ds.map (·.1) → c ∈ ds'.map (·.1) := fun c hc => by
    rw [e]
    split
    · exact hc
    · rw [List.map_append]; exact List.mem_append_left _ hc
  have eb : b ∈ ds'.map (·.1) := by
    rw [e]
    split
    · assumption
    · rw [List.map_append]; exact List.mem_append_right _ (by simp)
  have tg' : ∀ j c, Tgt rows ps ds j c → Tgt rows ps ds' j c := fun j c ⟨x, h1, h2⟩ => ⟨x, h1, by rw [ed]; exact h2⟩
  have em : ∀ x ∈ ds', x ∈ ds ∨ x = (b, 0) := fun x hx => by
    rw [e] at hx
    split at hx
    · exact .inl hx
    · rcases List.mem_append.mp hx with z | z
      · exact .inl z
      · exact .inr (List.mem_singleton.mp z)
  have tl := T.len
  obtain ⟨uq, hu⟩ := List.mem_iff_getElem?.mp hq
  have huq := (List.getElem?_eq_some_iff.mp hu).1
  refine ⟨⟨I.lh, I.lp, fun j c hc => tg' j c (I.tight j c hc), I.inj, fun j x hx => by rw [ed]; exact I.feas j x hx, fun x hx => ?_, ?_, fun x hx => ?_⟩, ⟨?_, T.free, by rw [List.length_append, List.length_append, tl]; rfl, fun t x hx => ?_, fun t x hx => ?_, ?_, fun j hj => ?_, fun x hx => ?_⟩⟩
  · rcases em x hx with z | z
    · exact I.dnn x z
    · rw [z]; exact Int.le_refl _
  · rw [e]
    split
    · exact I.dnd
    · rename_i n
      rw [List.map_append]
      exact List.nodup_append.mpr ⟨I.dnd, by simp, fun x hx y hy z => by rw [List.map_singleton, List.mem_singleton] at hy; rw [z, hy] at hx; exact n hx⟩
  · rcases em x hx with z | z
    · exact I.held x z
    · rw [z]; exact ⟨h, hh⟩
  · rw [List.getElem?_append_left (by omega)]; exact T.root
  · by_cases z : t < A.length
    · rw [List.getElem?_append_left z] at hx
      obtain ⟨j, e1, e2⟩ := T.hold t x hx
      exact ⟨j, by rw [List.getElem?_append_left (by omega)]; exact e1, e2⟩
    · have ht := (List.getElem?_eq_some_iff.mp hx).1
      rw [List.length_append, List.length_singleton] at ht
      have et : t = A.length := by omega
      subst et
      rw [List.getElem?_append_right (Nat.le_refl _), Nat.sub_self] at hx
      cases hx
      exact ⟨h, by rw [List.getElem?_append_right (by omega), show A.length + 1 - R.length = 0 by omega]; rfl, hh⟩
  · by_cases z : t < A.length
    · rw [List.getElem?_append_left z] at hx
      obtain ⟨⟨u, ul, hu'⟩, tgx⟩ := T.ask t x hx
      exact ⟨⟨u, ul, by rw [List.getElem?_append_left (by omega)]; exact hu'⟩, tg' _ _ tgx⟩
    · have ht := (List.getElem?_eq_some_iff.mp hx).1
      rw [List.length_append, List.length_singleton] at ht
      have et : t = A.length := by omega
      subst et
      rw [List.getElem?_append_right (Nat.le_refl _), Nat.sub_self] at hx
      cases hx
      exact ⟨⟨uq, by omega, by rw [List.getElem?_append_left huq]; exact hu⟩, tg' _ _ tg⟩
  · rw [List.map_append]
    exact List.nodup_append.mpr ⟨T.nd, by simp, fun x hx y hy z => by rw [List.map_singleton, List.mem_singleton] at hy; rw [z, hy] at hx; exact hb hx⟩
  · rcases List.mem_append.mp hj with z | z
    · exact T.lt j z
    · rw [List.mem_singleton.mp z, ← I.lh]; exact hA_lt hh
  · rcases List.mem_append.mp hx with z | z
    · exact ek _ (T.keys x z)
    · rw [List.mem_singleton.mp z]; exact eb
theorem more_there {rows : Rows} {hs : List (Option Int)} {ps : List Int} {ds : List (Int × Int)} {i : Nat} {R : List Nat} {A : List (Int × Nat)} {rep : List Int} (T : PTree rows hs ps ds i R A) (rl : rep.length = rows.length) (rn : rep.Nodup) (rin : ∀ (j : Nat) b, rep[j]? = some b → b ∈ keysOf (rA rows j)) :
    ∃ q ∈ R, ∃ x ∈ rA rows q, x.1 ∉ A.map (·.1) := by
  refine Decidable.byContradiction fun n => ?_
  have all : ∀ q ∈ R, ∀ x ∈ rA rows q, x.1 ∈ A.map (·.1) := fun q hq x hx => Decidable.byContradiction fun z => n ⟨q, hq, x, hx, z⟩
  have nd : (R.map fun j => rep.getD j 0).Nodup := by
    have rnd := T.rnd
    rw [List.nodup_iff_pairwise_ne, List.pairwise_map]
    rw [List.nodup_iff_pairwise_ne] at rnd
    refine List.Pairwise.imp_of_mem ?_ rnd
    intro a b ha hb hne e
    have la : a < rep.length := by rw [rl]; exact T.lt a ha
    have lb : b < rep.length := by rw [rl]; exact T.lt b hb
    rw [getD_get la, getD_get lb] at e
    exact hne ((List.getElem_inj rn).mp e)
  have := nd.length_le_of_subset (l₂ := A.map (·.1)) fun b hb => by
    obtain ⟨j, hj, e⟩ := List.mem_map.mp hb
    have lj : j < rep.length := by rw [rl]; exact T.lt j hj
    rw [getD_get lj] at e
    obtain ⟨x, hx, ex⟩ := List.mem_map.mp (rin j rep[j] (List.getElem?_eq_getElem lj))
    rw [← e, ← ex]
    exact all j hj x hx
  rw [List.length_map, List.length_map] at this
  have := T.len
  omega
structure POn (rows : Rows) (hs0 hs : List (Option Int)) (ps : List Int) (ds : List (Int × Int)) (i : Nat) (R : List Nat) (A : List (Int × Nat)) (b0 b : Int) (t : Nat) : Prop where
  lh : hs.length = rows.length
  tight : ∀ j c, hA hs j = some c → Tgt rows ps ds j c
  inj : ∀ j k c, hA hs j = some c → hA hs k = some c → j = k
  out : ∀ j, hA hs j ≠ some b
  has : ∀ c, ((∃ j, hA hs j = some c) ∨ c = b) ↔ ((∃ j, hA hs0 j = some c) ∨ c = b0)
  dom : ∀ j, hA hs j = none ↔ hA hs0 j = none
  at' : ∃ q, A[t]? = some (b, q)
  low : ∀ u, u ≤ t → ∀ j, R[u]? = some j → hA hs j = hA hs0 j
structure PTop (rows : Rows) (hs : List (Option Int)) (ps : List Int) (ds : List (Int × Int)) (i : Nat) (R : List Nat) (A : List (Int × Nat)) : Prop where
  root : R[0]? = some i
  free : hA hs i = none
  rnd : R.Nodup
  lt : ∀ j ∈ R, j < rows.length
  hold : ∀ (t : Nat) x, A[t]? = some x → t + 1 < A.length → ∃ j, R[t + 1]? = some j ∧ hA hs j = some x.1
  ask : ∀ (t : Nat) x, A[t]? = some x → (∃ u, u ≤ t ∧ R[u]? = some x.2) ∧ Tgt rows ps ds x.2 x.1
  len : R.length = A.length
theorem hA_set {hs : List (Option Int)} {q j : Nat} {v : Option Int} (h : q < hs.length) : hA (hs.set q v) j = if j = q then v else hA hs j := by
  unfold hA
  rw [List.getD_eq_getElem?_getD, List.getD_eq_getElem?_getD, List.getElem?_set]
  by_cases z : q = j
  · subst z
    rw [if_pos rfl, if_pos h, if_pos rfl]; rfl
  · rw [if_neg z, if_neg fun y => z y.symm]
theorem hand_step {rows : Rows} {hs0 hs : List (Option Int)} {ps : List Int} {ds : List (Int × Int)} {i : Nat} {R : List Nat} {A : List (Int × Nat)} {b0 b : Int} {t q : Nat} (T : PTop rows hs0 ps ds i R A) (O : POn rows hs0 hs ps ds i R A b0 b t) (hq : A[t]? = some (b, q)) :
    q < hs.length ∧ (match hA hs q with
      | some c => ∃ u, u < t ∧ POn rows hs0 (hs.set q (some b)) ps ds i R A b0 c u
      | none => q = i ∧ (∀ j c, hA (hs.set q (some b)) j = some c → Tgt rows ps ds j c) ∧ (∀ j k c, hA (hs.set q (some b)) j = some c → hA (hs.set q (some b)) k = some c → j = k) ∧
          (∀ c, (∃ j, hA (hs.set q (some b)) j = some c) ↔ ((∃ j, hA hs0 j = some c) ∨ c = b0)) ∧ ∀ j, hA (hs.set q (some b)) j = none ↔ (hA hs0 j = none ∧ j ≠ i)) := by
  obtain ⟨⟨u, ul, hu⟩, tg⟩ := T.ask t _ hq
  have hqR := List.mem_of_getElem? hu
  have ql : q < hs.length := by rw [O.lh]; exact T.lt q hqR
  have eq0 : hA hs q = hA hs0 q := O.low u ul q hu
  have tight' : ∀ j c, hA (hs.set q (some b)) j = some c → Tgt rows ps ds j c := fun j c h => by
    rw [hA_set ql] at h
    split at h
    · rename_i z; cases h; rw [z]; exact tg
    · exact O.tight j c h
  have inj' : ∀ j k c, hA (hs.set q (some b)) j = some c → hA (hs.set q (some b)) k = some c → j = k := fun j k c h1 h2 => by
    rw [hA_set ql] at h1 h2
    split at h1
    · rename_i z1
      split at h2
      · rename_i z2; rw [z1, z2]
      · cases h1; exact absurd h2 (O.out k)
    · split at h2
      · cases h2; exact absurd h1 (O.out j)
      · exact O.inj j k c h1 h2
  refine ⟨ql, ?_⟩
  cases e : hA hs q with
  | none =>
    rw [e] at eq0
    have hqi : q = i := by
      cases u with
      | zero => rw [T.root] at hu; exact (Option.some.inj hu).symm
      | succ u =>
        have hl := (List.getElem?_eq_some_iff.mp hu).1
        have tl := T.len
        have htl := (List.getElem?_eq_some_iff.mp hq).1
        obtain ⟨j, e1, e2⟩ := T.hold u _ (List.getElem?_eq_getElem (show u < A.length by omega)) (by omega)
        rw [hu] at e1
        cases e1
        rw [← eq0] at e2
        cases e2
    refine ⟨hqi, tight', inj', fun c => ?_, fun j => ?_⟩
    · rw [← O.has c]
      constructor
      · rintro ⟨j, h⟩
        rw [hA_set ql] at h
        split at h
        · cases h; exact .inr rfl
        · exact .inl ⟨j, h⟩
      · rintro (⟨j, h⟩ | h)
        · have nj : j ≠ q := fun z => by rw [z, e] at h; cases h
          exact ⟨j, by rw [hA_set ql, if_neg nj]; exact h⟩
        · exact ⟨q, by rw [hA_set ql, if_pos rfl, h]⟩
    · rw [hA_set ql]
      split
      · rename_i z; constructor
        · intro h; cases h
        · intro h; exact absurd (z.trans hqi) h.2
      · rename_i z
        rw [O.dom j]
        exact ⟨fun h => ⟨h, fun y => z (y.trans hqi.symm)⟩, fun h => h.1⟩
  | some c =>
    rw [e] at eq0
    have u0 : u ≠ 0 := fun z => by
      rw [z, T.root] at hu
      have ei : i = q := Option.some.inj hu
      rw [← ei, T.free] at eq0
      cases eq0
    obtain ⟨u', rfl⟩ : ∃ u', u = u' + 1 := ⟨u - 1, by omega⟩
    have hl := (List.getElem?_eq_some_iff.mp hu).1
    have tl := T.len
    obtain ⟨j, e1, e2⟩ := T.hold u' _ (List.getElem?_eq_getElem (show u' < A.length by omega)) (by omega)
    rw [hu] at e1
    cases e1
    rw [← eq0] at e2
    have ec := Option.some.inj e2
    refine ⟨u', by omega, ?_⟩
    refine { lh := by rw [List.length_set]; exact O.lh, tight := tight', inj := inj', out := fun j h => ?_, has := fun x => ?_, dom := fun j => ?_, at' := ⟨A[u'].2, by rw [List.getElem?_eq_getElem (show u' < A.length by omega), ec]⟩, low := fun w hw j hj => ?_ }
    · rw [hA_set ql] at h
      split at h
      · have hb : b = c := Option.some.inj h
        exact O.out q (by rw [hb]; exact e)
      · rename_i z
        exact z (O.inj j q c h e)
    · rw [← O.has x]
      constructor
      · rintro (⟨j, h⟩ | h)
        · rw [hA_set ql] at h
          split at h
          · cases h; exact .inr rfl
          · exact .inl ⟨j, h⟩
        · rw [h]; exact .inl ⟨q, e⟩
      · rintro (⟨j, h⟩ | h)
        · by_cases z : j = q
          · rw [z, e] at h; exact .inr (Option.some.inj h).symm
          · exact .inl ⟨j, by rw [hA_set ql, if_neg z]; exact h⟩
        · exact .inl ⟨q, by rw [hA_set ql, if_pos rfl, h]⟩
    · rw [hA_set ql]
      split
      · rename_i z
        rw [z, ← eq0]
        constructor
        · intro h; cases h
        · intro h; cases h
      · exact O.dom j
    · have nj : j ≠ q := fun z => by
        have hw' := (List.getElem?_eq_some_iff.mp hj).1
        have x1 : R[w] = R[u' + 1] := by
          have y1 := (List.getElem?_eq_some_iff.mp hj).2
          have y2 := (List.getElem?_eq_some_iff.mp hu).2
          rw [y1, y2, z]
        have := (List.getElem_inj T.rnd).mp x1
        omega
      rw [hA_set ql, if_neg nj]
      exact O.low w (by omega) j hj
theorem sum_at {hs : List Int} {k d : Int} (nd : hs.Nodup) (h : k ∈ hs) : (hs.map fun b => if b = k then d else 0).sum = d := by
  induction hs with
  | nil => cases h
  | cons a r ih =>
    rw [List.nodup_cons] at nd
    rw [List.map_cons, List.sum_cons]
    by_cases z : a = k
    · subst z
      rw [if_pos rfl]
      have : (r.map fun b => if b = a then d else 0).sum = 0 := by
        have e : r.map (fun b => if b = a then d else 0) = r.map fun _ => (0 : Int) := List.map_congr_left fun b hb => if_neg fun (y : b = a) => nd.1 (by rw [← y]; exact hb)
        rw [e]
        clear ih e nd h
        induction r with
        | nil => rfl
        | cons x r ih => rw [List.map_cons, List.sum_cons, ih]; rfl
      rw [this]; omega
    · rw [if_neg z]
      rcases List.mem_cons.mp h with y | y
      · exact absurd y.symm z
      · rw [ih nd.2 y]; omega
theorem dues_sum {hs : List Int} (nd : hs.Nodup) : ∀ {ds : List (Int × Int)}, (ds.map (·.1)).Nodup → (∀ x ∈ ds, x.1 ∈ hs) → (hs.map (du ds)).sum = (ds.map (·.2)).sum := by
  intro ds
  induction ds with
  | nil =>
    intro _ h
    clear nd h
    induction hs with
    | nil => rfl
    | cons a r ih => rw [List.map_cons, List.sum_cons, ih]; rfl
  | cons x ds ih =>
    intro n1 h
    rw [List.map_cons, List.nodup_cons] at n1
    rw [List.map_cons, List.sum_cons, ← ih n1.2 fun y hy => h y (List.mem_cons_of_mem _ hy)]
    have e : hs.map (du (x :: ds)) = hs.map fun b => (if b = x.1 then x.2 else 0) + du ds b := by
      apply List.map_congr_left
      intro b _
      unfold du look
      rw [List.find?_cons]
      by_cases z : b = x.1
      · have z1 : (x.1 == b) = true := by simp [z]
        have z2 : look ds b = none := look_none.mpr (by rw [z]; exact n1.1)
        unfold look at z2
        rw [z1, if_pos z, z2]
        show x.2 = x.2 + 0
        omega
      · have z1 : (x.1 == b) = false := beq_false_of_ne fun y => z y.symm
        rw [z1, if_neg z, Int.zero_add]
    rw [e]
    have s : ∀ (l : List Int) (f g : Int → Int), (l.map fun b => f b + g b).sum = (l.map f).sum + (l.map g).sum := by
      intro l f g
      induction l with
      | nil => rfl
      | cons a r ih => rw [List.map_cons, List.map_cons, List.map_cons, List.sum_cons, List.sum_cons, List.sum_cons, ih]; omega
    rw [s, sum_at nd (h x List.mem_cons_self)]
end L2
set_option Elab.async false
set_option linter.all false
set_option maxRecDepth 100000
namespace L2
open PySem PySem.Spec PyProof.Rows
section
variable {X : Cx}
noncomputable def orS (t t' : TS) : TS := fun D σ H => t D σ H ∨ t' D σ H
theorem ps_or {st : Stmt} {t t' : TS} (h : PS X st t) (h' : PS X st t') : PS X st (orS t t') := fun pins s σ H D I q => by
  rcases q with q | q
  · exact h pins s σ H D I q
  · exact h' pins s σ H D I q
noncomputable def rGetL (K : PySem.W.Frag) : V → V → Hp → VK → Prop := fun x y H Q => ∃ p xs i v, x = .ref p ∧ y = .int i ∧ 0 ≤ i ∧ SqL K H p xs ∧ atI xs i = some v ∧ Q v H
theorem get_list (K : PySem.W.Frag) (hK : X.K = K := by rfl) : PGet X (rGetL K) := by
  subst hK
  intro pins s σ H x y v u Q I rx ry h
  obtain ⟨p, xs, i, z, rfl, rfl, h0, hq, he, q⟩ := h
  cases rx
  obtain ⟨t, rfl⟩ := ry
  obtain ⟨its, r, pl, hz⟩ := I.list hq
  obtain ⟨j, h1, h2, h3, h4, h5⟩ := atI_get he
  obtain ⟨w, ew, rw'⟩ := r.get h2
  have hl := r.length
  have hn := line63
  have hj : i.toNat = j := by
    rw [seqIndex_of h0 h5] at h1
    exact Option.some.inj h1
  exact PySem.wpAny_getItem_list pl.isList h0 (by omega) (by rw [hj]; simpa using ew) ⟨z, H, I, rw', q⟩
noncomputable def rIndexF : V → List V → Hp → VK → Prop := fun x vs H Q => ∃ (l : Addr) (xs : List V) (c : V) (j : Nat) (y : V), x = .ref l ∧ vs = [c] ∧ flatV c = true ∧ xs.all flatV = true ∧ H l = some (.lst xs) ∧ xs[j]? = some y ∧ eqV y c = true ∧
  (∀ m z, m < j → xs[m]? = some z → eqV z c = false) ∧ xs.length < 100000 ∧ Q (.int ((j : Nat) : Int)) H
theorem mt_indexF : MtM X "list.index" rIndexF := by
  intro pins s σ H x vs v us Q I rx rv h
  obtain ⟨l, xs, c, j, y, rfl, rfl, fc, fx, hH, hj, hy, hno, hz, q⟩ := h
  cases rx
  obtain ⟨u, e1, ru⟩ := vals1 rv
  subst e1
  obtain ⟨z, its, n, r, hl, e⟩ := I.lstM hH
  have fxs : ∀ i x, xs[i]? = some x → flatV x = true := fun i x hi => List.all_eq_true.mp fx x (List.mem_of_getElem? hi)
  have at' : ∀ {i : Nat} (hi : i < its.toArray.size), ∃ x, xs[i]? = some x ∧ eqU c its.toArray[i] = eqV x c := fun {i} hi => by
    have hi' : i < its.length := by simpa using hi
    obtain ⟨x, hx, rx⟩ := pair_get r (List.getElem?_eq_getElem hi')
    refine ⟨x, hx, ?_⟩
    have : its.toArray[i] = its[i] := by simp
    rw [this]
    exact eqU_of rx (fxs i x hx)
  have hjl := (List.getElem?_eq_some_iff.mp hj).1
  have hji : j < its.toArray.size := by rw [List.size_toArray]; omega
  refine call_meets PySem.F.slot_list_index ⟨_, e, rfl⟩ PySem.F.entry_list_index (PySem.F.args_list_index_2 _ _) (MeetsSeq.list_index l its.toArray n u (eqU c) (fun y hy prog w A E s Q h => ?_) j hji (by omega) ?_ fun m hm hlt => ?_) ⟨e, ?_⟩
  · exact mem_eqAt (A := A) (s := s) ru fc r fx y (by simpa using hy) prog w E Q h
  · obtain ⟨x, hx, ex⟩ := at' hji
    rw [hj] at hx
    cases hx
    rw [ex]; exact hy
  · obtain ⟨x, hx, ex⟩ := at' hm
    rw [ex]
    exact hno m x hlt hx
  · exact ⟨.int ((j : Nat) : Int), H, I.tok _, ⟨_, rfl⟩, q⟩
noncomputable def rSetDef : V → List V → Hp → VK → Prop := fun x vs H Q => ∃ (d : Addr) (kvs : List (Key × V)) (k : Key) (v : V), x = .ref d ∧ vs = [kV k, v] ∧ H d = some (.dK kvs) ∧ kvs.length < sizeLine ∧
  (∀ y, valV kvs k = some y → Q y H) ∧ (valV kvs k = none → Q v (upd H d (.dK (putK kvs k v))))
theorem mt_setdefault : MtR X "dict.setdefault" rSetDef := by
  intro pins s σ H x vs v us Q I rx rv h
  obtain ⟨d, kvs, k, y, rfl, rfl, hd, hl, q1, q2⟩ := h
  cases rx
  cases rv with
  | cons rk rv =>
  cases rv with
  | cons ry rv =>
  cases rv
  rename_i u1 u2
  obtain ⟨z, hm, ws, rel, dd⟩ := dk_of I.hok hd
  refine call_meetsIn PySem.F.slot_dict_setdefault dd.typeIs PySem.F.entry_dict_setdefault (PySem.F.args_dict_setdefault_3 _ _ _) (kt_meets_setdefault (mixKind X.prog X.w) d (kV_is rk) hm u2) ⟨ws, dd, by rw [← rel.length]; exact z, fun v' hv' => ?_, fun hn h' dd' hs => ?_⟩
  · have rr := rel.val k
    rw [hv'] at rr
    cases e : valV kvs k with
    | none => rw [e] at rr; cases rr
    | some w' =>
      rw [e] at rr
      exact ⟨w', H, I.tok _, rr, q1 w' e⟩
  · have e : valV kvs k = none := by
      have rr := rel.val k
      rw [hn] at rr
      cases e : valV kvs k with
      | none => rfl
      | some w' => rw [e] at rr; cases rr
    have he : ∃ q, h'.get? d = some q := let ⟨q, _, _, hq, _⟩ := dd'; ⟨q, hq⟩
    have hl' : (putK kvs k y).length ≤ sizeLine := by have := length_putK kvs k y; omega
    exact ⟨y, _, d_write I (by rw [hd]; exact True.intro) hs he (dk_new hl' hm (rel.put k ry) dd'), ry, q2 e⟩
noncomputable def BackK (P : Program) (w : World) (φ : Heap → Prop) (d : Addr) (kvs : List (Key × V)) : Prop := ∀ H h, φ h → ObjOk P w H h d (.dK kvs)
noncomputable def iKeysB (B : (Heap → Prop) → Addr → List (Key × V) → Prop) (tl : TE) : TI := fun σ H R => tl σ H fun x H1 => ∃ d kvs, x = .ref d ∧ H1 d = some (.dK kvs) ∧ ∀ φ, B φ d kvs → R (Itk φ d kvs) (upd H1 d (.ext φ))
theorem pi_keysB {tg l : Expr} {tl : TE} (hl : PE X l tl) : PI X tg l (iKeysB (BackK X.prog X.w) tl) := by
  intro pins s σ H R I h
  refine thn (hl pins s σ H _ I h) fun v s1 hq__ => ?_
  obtain ⟨x, H1, I1, r1, q1⟩ := hq__
  obtain ⟨d, kvs, e, hd, q⟩ := q1
  subst e
  cases r1
  obtain ⟨hz, hm, vs, r, dd⟩ := dk_of I1.hok hd
  obtain ⟨ep, da⟩ := dd.dictAt
  have I2 : Inv X pins σ (upd H1 d (.ext (DW X.prog X.w d vs ep))) s1 := I1.view (by rw [hd]; trivial) (DW.ok da)
  refine wpAny_pyIter_dict hm da ?_
  refine ⟨s1.heap.objs.size, [s1.heap.objs.size], _, _, _, rfl, I2.kept (t' := s1.toks) fun b o e => Heap.get?_push_of_some _ e, turn_keys d _ r, ⟨_, Heap.get?_push_size _ rfl, rfl, rfl⟩, fun b hb => ?_, q _ fun H h x => ⟨hz, hm, vs, r, x.dictOf⟩⟩
  have e : b = s1.heap.objs.size := by simpa using hb
  subst e
  exact I2.fpOk (Nat.le_refl _) (I2.hok.fresh (Nat.le_refl _))
noncomputable def backE (B : (Heap → Prop) → Addr → List (Key × V) → Prop) (D : Ends) : Ends := { D with nx := fun σ' H' => ∃ d kvs φ, B φ d kvs ∧ H' d = some (.ext φ) ∧ D.nx σ' (upd H' d (.dK kvs)) }
noncomputable def tBack (B : (Heap → Prop) → Addr → List (Key × V) → Prop) (t : TS) : TS := fun D σ H => t (backE B D) σ H
theorem ps_back {st : Stmt} {t : TS} (h : PS X st t) : PS X st (tBack (BackK X.prog X.w) t) := fun pins s σ H D I q =>
  thn (h pins s σ H _ I q) fun f s1 z => by
    cases f with
    | next =>
      obtain ⟨σ1, H1, I1, d, kvs, φ, b, e, n⟩ := z
      exact ⟨σ1, _, I1.view (by rw [e]; trivial) (b _ _ (I1.hok d _ e).1), n⟩
    | brk => exact z
    | cont => exact z
    | ret u => exact z
end
theorem for_keys {φ : Heap → Prop} {d : Addr} {kvs : List (Key × V)} {g : TG} {tb : TS} {D : Ends} {σ : L2.St} {H : Hp} (Pv : Nat → L2.St → Hp → Prop) (h0 : Pv 0 σ H) (hw : ∀ i σ H, i ≤ kvs.length → Pv i σ H → H d = some (.ext φ))
    (hs : ∀ i k v σ H, kvs[i]? = some (k, v) → Pv i σ H → g (kV k) σ H fun σ2 H2 => tb { D with nx := Pv (i + 1), ct := Pv (i + 1), bk := D.nx } σ2 H2) (hd : ∀ σ H, Pv kvs.length σ H → D.nx σ H) :
    ∃ W : Nat → Nat → L2.St → Hp → Prop, (∃ m, W 0 m σ H) ∧ ∀ i m σ H, W i m σ H →
      ((Itk φ d kvs).stop i H ∧ D.nx σ H) ∨ ((Itk φ d kvs).go i H ∧ ∃ N : L2.St → Hp → Prop, (∀ σ' H', N σ' H' → ∃ m', m' < m ∧ W (i + 1) m' σ' H') ∧ ∀ v H', (Itk φ d kvs).yld i H v H' → g v σ H' fun σ2 H2 => tb { D with nx := N, ct := N, bk := D.nx } σ2 H2) := by
  refine ⟨fun i m σ H => m = kvs.length - i ∧ i ≤ kvs.length ∧ Pv i σ H, ⟨kvs.length, by simp, Nat.zero_le _, h0⟩, ?_⟩
  rintro i m σ H ⟨rfl, hi, p⟩
  by_cases hlt : i < kvs.length
  · refine .inr ⟨⟨hw i σ H hi p, hlt⟩, Pv (i + 1), fun σ' H' p' => ⟨kvs.length - (i + 1), by omega, rfl, hlt, p'⟩, fun v H' y => ?_⟩
    obtain ⟨e3, k, v', e, e2⟩ := y
    subst e2 e3
    exact hs i k v' σ _ e p
  · have e : i = kvs.length := by omega
    subst e
    exact .inl ⟨⟨hw _ σ H hi p, Nat.le_refl _⟩, hd σ H p⟩
noncomputable def encP (ds : List (Int × Int)) : List (Key × V) := ds.map fun x => (Sum.inl x.1, V.int x.2)
theorem encP_val (ds : List (Int × Int)) (b : Int) : valV (encP ds) (Sum.inl b) = (look ds b).map V.int := by
  induction ds with
  | nil => rfl
  | cons x ds ih =>
    unfold valV look encP at *
    rw [List.map_cons, List.find?_cons, List.find?_cons]
    by_cases z : x.1 = b
    · have z1 : (x.1 == b) = true := by simp [z]
      have z2 : decide ((Sum.inl x.1 : Key) = Sum.inl b) = true := by simp [z]
      simp only [z1, z2]
      rfl
    · have z1 : (x.1 == b) = false := beq_false_of_ne z
      have z2 : decide ((Sum.inl x.1 : Key) = Sum.inl b) = false := by simp [z]
      simp only [z1, z2]
      exact ih
noncomputable def putD (ds : List (Int × Int)) (b d : Int) : List (Int × Int) := if b ∈ ds.map (·.1) then ds.map fun x => if x.1 = b then (b, d) else x else ds ++ [(b, d)]
end L2
set_option Elab.async false
set_option linter.all false
set_option maxRecDepth 100000
namespace L2
open PySem PySem.Spec PyProof.Rows
theorem encP_put (ds : List (Int × Int)) (b d : Int) : putK (encP ds) (Sum.inl b) (.int d) = encP (putD ds b d) := by
  unfold putK putD
  have e : ((encP ds).any fun kv => decide (kv.1 = Sum.inl b)) = decide (b ∈ ds.map (·.1)) := by
    rw [Bool.eq_iff_iff, List.any_eq_true, decide_eq_true_iff]
    unfold encP
    constructor
    · rintro ⟨x, hx, e⟩
      obtain ⟨y, hy, rfl⟩ := List.mem_map.mp hx
      have := Sum.inl.inj (of_decide_eq_true e)
      exact List.mem_map.mpr ⟨y, hy, this⟩
    · intro h
      obtain ⟨y, hy, e⟩ := List.mem_map.mp h
      exact ⟨(Sum.inl y.1, V.int y.2), List.mem_map.mpr ⟨y, hy, rfl⟩, by simp [e]⟩
  rw [e]
  by_cases z : b ∈ ds.map (·.1)
  · rw [if_pos (by simpa using z), if_pos z]
    unfold encP
    rw [List.map_map, List.map_map]
    apply List.map_congr_left
    intro x _
    show (if (Sum.inl x.1 : Key) = Sum.inl b then _ else _) = _
    by_cases y : x.1 = b
    · rw [if_pos (by rw [y])]
      show (Sum.inl x.1, V.int d) = (fun x : Int × Int => ((Sum.inl x.1 : Key), V.int x.2)) (if x.1 = b then (b, d) else x)
      rw [if_pos y, y]
    · rw [if_neg (fun h => y (Sum.inl.inj h))]
      show _ = (fun x : Int × Int => ((Sum.inl x.1 : Key), V.int x.2)) (if x.1 = b then (b, d) else x)
      rw [if_neg y]
  · rw [if_neg (by simpa using z), if_neg z]
    unfold encP
    rw [List.map_append]; rfl
theorem putD_keys {ds : List (Int × Int)} {b d : Int} (h : b ∈ ds.map (·.1)) : (putD ds b d).map (·.1) = ds.map (·.1) := by
  unfold putD
  rw [if_pos h, List.map_map]
  apply List.map_congr_left
  intro x _
  show (if x.1 = b then (b, d) else x).1 = x.1
  split
  · rename_i e; exact e.symm
  · rfl
theorem putD_look (ds : List (Int × Int)) (b d c : Int) : look (putD ds b d) c = if c = b then some d else look ds c := by
  have h := valV_put (encP ds) (Sum.inl b : Key) (Sum.inl c) (.int d)
  rw [encP_put, encP_val, encP_val] at h
  by_cases z : c = b
  · rw [if_pos (by rw [z])] at h
    rw [if_pos z]
    obtain ⟨v, e1, e2⟩ := Option.map_eq_some_iff.mp h
    cases e2
    exact e1
  · rw [if_neg (fun y => z (Sum.inl.inj y))] at h
    rw [if_neg z]
    cases e : look ds c with
    | none => rw [e] at h; exact Option.map_eq_none_iff.mp h
    | some v =>
      rw [e] at h
      obtain ⟨v', e1, e2⟩ := Option.map_eq_some_iff.mp h
      cases e2
      exact e1
theorem putD_mem {ds : List (Int × Int)} {b d : Int} {x : Int × Int} (h : x ∈ putD ds b d) : x ∈ ds ∨ x = (b, d) := by
  unfold putD at h
  split at h
  · obtain ⟨y, hy, e⟩ := List.mem_map.mp h
    split at e
    · exact .inr e.symm
    · rw [← e]; exact .inl hy
  · rcases List.mem_append.mp h with z | z
    · exact .inl z
    · exact .inr (List.mem_singleton.mp z)
theorem look_key {ds : List (Int × Int)} {b : Int} (h : b ∈ ds.map (·.1)) : look ds b = some (du ds b) := by
  unfold du
  cases e : look ds b with
  | none => exact absurd h (look_none.mp e)
  | some d => rfl
structure RaD (Ks : List Int) (g : Int) (ds ds' : List (Int × Int)) : Prop where
  ky : ds'.map (·.1) = ds.map (·.1)
  nn : (∀ x ∈ ds, 0 ≤ x.2) → ∀ x ∈ ds', 0 ≤ x.2
  dr : ∀ b, du ds' b = du ds b + if b ∈ Ks then g else 0
theorem RaD.start {g : Int} {ds : List (Int × Int)} : RaD [] g ds ds := ⟨rfl, fun h => h, fun b => by simp⟩
theorem RaD.step {Ks : List Int} {g b : Int} {ds ds' : List (Int × Int)} (r : RaD Ks g ds ds') (g0 : 0 ≤ g) (hb : b ∉ Ks) (hk : b ∈ ds.map (·.1)) : RaD (Ks ++ [b]) g ds (putD ds' b (du ds' b + g)) := by
  have hk' : b ∈ ds'.map (·.1) := by rw [r.ky]; exact hk
  refine ⟨by rw [putD_keys hk', r.ky], fun h x hx => ?_, fun c => ?_⟩
  · rcases putD_mem hx with z | z
    · exact r.nn h x z
    · rw [z]
      have := du_nn (r.nn h) b
      show 0 ≤ du ds' b + g
      omega
  · have e : du (putD ds' b (du ds' b + g)) c = if c = b then du ds' b + g else du ds' c := by
      show (look (putD ds' b (du ds' b + g)) c).getD 0 = _
      rw [putD_look]
      split <;> rfl
    rw [e, r.dr c]
    by_cases z : c = b
    · subst z
      rw [if_pos rfl, r.dr, if_neg hb, if_pos (by simp)]
      omega
    · rw [if_neg z]
      have : c ∈ Ks ++ [b] ↔ c ∈ Ks := by simp [z]
      by_cases y : c ∈ Ks
      · rw [if_pos y, if_pos (this.mpr y)]
      · rw [if_neg y, if_neg fun h => y (this.mp h)]
structure RaP (R : List Nat) (g : Int) (ps ps' : List Int) : Prop where
  lp : ps'.length = ps.length
  pr : ∀ j, pA ps' j = pA ps j + if j ∈ R then g else 0
theorem RaP.start {g : Int} {ps : List Int} : RaP [] g ps ps := ⟨rfl, fun b => by simp⟩
theorem pA_set {ps : List Int} {q j : Nat} {v : Int} (h : q < ps.length) : pA (ps.set q v) j = if j = q then v else pA ps j := by
  unfold pA
  rw [List.getD_eq_getElem?_getD, List.getD_eq_getElem?_getD, List.getElem?_set]
  by_cases z : q = j
  · subst z
    rw [if_pos rfl, if_pos h, if_pos rfl]; rfl
  · rw [if_neg z, if_neg fun y => z y.symm]
theorem RaP.step {R : List Nat} {g : Int} {q : Nat} {ps ps' : List Int} (r : RaP R g ps ps') (hq : q ∉ R) (hl : q < ps.length) : RaP (R ++ [q]) g ps (ps'.set q (pA ps' q + g)) := by
  refine ⟨by rw [List.length_set, r.lp], fun c => ?_⟩
  rw [pA_set (by rw [r.lp]; exact hl), r.pr c]
  by_cases z : c = q
  · subst z
    rw [if_pos rfl, r.pr, if_neg hq, if_pos (by simp)]
    omega
  · rw [if_neg z]
    have : c ∈ R ++ [q] ↔ c ∈ R := by simp [z]
    by_cases y : c ∈ R
    · rw [if_pos y, if_pos (this.mpr y)]
    · rw [if_neg y, if_neg fun h => y (this.mp h)]
theorem raised_of {R : List Nat} {A : List (Int × Nat)} {g : Int} {ps ps' : List Int} {ds ds' : List (Int × Int)} (p : RaP R g ps ps') (d : RaD (A.map (·.1)) g ds ds') : Raised R A g ps ds ps' ds' := ⟨p.lp, p.pr, d.ky, d.nn, d.dr⟩
theorem upd_id {H : Hp} {a : Addr} {o : HO} (h : H a = some o) : upd H a o = H := by
  funext b
  by_cases z : b = a
  · rw [z, upd_same, h]
  · rw [upd_ne z]
theorem upd_comm {H : Hp} {a b : Addr} {o u : HO} (h : a ≠ b) : upd (upd H b u) a o = upd (upd H a o) b u := by
  funext c
  by_cases z : c = a
  · subst z; rw [upd_same, upd_ne h, upd_same]
  · rw [upd_ne z]
    by_cases y : c = b
    · subst y; rw [upd_same, upd_same]
    · rw [upd_ne y, upd_ne y, upd_ne z]
theorem take_snoc {α : Type} {l : List α} {i : Nat} {x : α} (h : l[i]? = some x) : l.take (i + 1) = l.take i ++ [x] := by
  rw [List.take_add_one, h]; rfl
theorem nodup_take {α : Type} {l : List α} {i : Nat} {x : α} (nd : l.Nodup) (h : l[i]? = some x) : x ∉ l.take i := by
  intro m
  obtain ⟨j, hj, e⟩ := List.mem_iff_getElem.mp m
  have hi := (List.getElem?_eq_some_iff.mp h).1
  have ex := (List.getElem?_eq_some_iff.mp h).2
  rw [List.length_take] at hj
  rw [List.getElem_take] at e
  have := (List.getElem_inj nd).mp (e.trans ex.symm)
  omega
noncomputable def cndR (ps : List Int) (ds : List (Int × Int)) (As : List Int) (q : Nat) (row : List (Int × Int)) : List (Int × Int × Nat) := (row.filter fun x => decide (x.1 ∉ As)).map fun x => (x.2 + du ds x.1 - pA ps q, x.1, q)
noncomputable def cnd (rows : Rows) (ps : List Int) (ds : List (Int × Int)) (As : List Int) (R : List Nat) : List (Int × Int × Nat) := R.flatMap fun q => cndR ps ds As q (rA rows q)
structure Near (L : List (Int × Int × Nat)) (f : Option (Int × Int × Nat)) : Prop where
  no : f = none → L = []
  yes : ∀ t, f = some t → t ∈ L ∧ ∀ u ∈ L, t.1 ≤ u.1
theorem Near.start : Near [] none := ⟨fun _ => rfl, fun _ h => by cases h⟩
theorem Near.put {L : List (Int × Int × Nat)} {f : Option (Int × Int × Nat)} {u : Int × Int × Nat} (n : Near L f) (h : ∀ t, f = some t → u.1 < t.1) : Near (L ++ [u]) (some u) := by
  refine ⟨fun h => (by cases h), fun t e => ?_⟩
  cases e
  refine ⟨by simp, fun v hv => ?_⟩
  rcases List.mem_append.mp hv with z | z
  · cases ef : f with
    | none => rw [n.no ef] at z; cases z
    | some t =>
      have := h t ef
      have := (n.yes t ef).2 v z
      omega
  · rw [List.mem_singleton.mp z]; exact Int.le_refl _
theorem Near.keep {L : List (Int × Int × Nat)} {t u : Int × Int × Nat} (n : Near L (some t)) (h : ¬ u.1 < t.1) : Near (L ++ [u]) (some t) := by
  refine ⟨fun h => (by cases h), fun t' e => ?_⟩
  cases e
  refine ⟨List.mem_append_left _ (n.yes t rfl).1, fun v hv => ?_⟩
  rcases List.mem_append.mp hv with z | z
  · exact (n.yes t rfl).2 v z
  · rw [List.mem_singleton.mp z]; omega
theorem cndR_snoc {ps : List Int} {ds : List (Int × Int)} {As : List Int} {q : Nat} {row : List (Int × Int)} {k : Nat} {x : Int × Int} (h : row[k]? = some x) :
    cndR ps ds As q (row.take (k + 1)) = cndR ps ds As q (row.take k) ++ if x.1 ∈ As then [] else [(x.2 + du ds x.1 - pA ps q, x.1, q)] := by
  unfold cndR
  rw [take_snoc h, List.filter_append, List.map_append]
  congr 1
  by_cases z : x.1 ∈ As
  · rw [if_pos z, List.filter_cons_of_neg (by simpa using z)]; rfl
  · rw [if_neg z, List.filter_cons_of_pos (by simpa using z)]; rfl
theorem cnd_snoc {rows : Rows} {ps : List Int} {ds : List (Int × Int)} {As : List Int} {R : List Nat} {i q : Nat} (h : R[i]? = some q) : cnd rows ps ds As (R.take (i + 1)) = cnd rows ps ds As (R.take i) ++ cndR ps ds As q (rA rows q) := by
  unfold cnd
  rw [take_snoc h, List.flatMap_append]
  congr 1
  rw [List.flatMap_cons, List.flatMap_nil, List.append_nil]
theorem mem_cnd {rows : Rows} {ps : List Int} {ds : List (Int × Int)} {As : List Int} {R : List Nat} {u : Int × Int × Nat} : u ∈ cnd rows ps ds As R ↔ ∃ q ∈ R, ∃ x ∈ rA rows q, x.1 ∉ As ∧ u = (x.2 + du ds x.1 - pA ps q, x.1, q) := by
  unfold cnd cndR
  rw [List.mem_flatMap]
  constructor
  · rintro ⟨q, hq, h⟩
    obtain ⟨x, hx, e⟩ := List.mem_map.mp h
    obtain ⟨h1, h2⟩ := List.mem_filter.mp hx
    exact ⟨q, hq, x, h1, of_decide_eq_true h2, e.symm⟩
  · rintro ⟨q, hq, x, hx, hn, e⟩
    exact ⟨q, hq, List.mem_map.mpr ⟨x, List.mem_filter.mpr ⟨hx, decide_eq_true hn⟩, e.symm⟩⟩
noncomputable def FndAt (H0 H : Hp) (f : Option (Int × Int × Nat)) (v : V) : Prop := match f with
  | none => v = .non
  | some t => ∃ p, v = .ref p ∧ H0 p = none ∧ H p = some (.tup [.int t.1, .int t.2.1, .int (t.2.2 : Int)])
theorem FndAt.same {H0 H H' : Hp} {f : Option (Int × Int × Nat)} {v : V} (h : FndAt H0 H f v) (s : Same H H') : FndAt H0 H' f v := by
  cases f with
  | none => exact h
  | some t => obtain ⟨p, e, n, hp⟩ := h; exact ⟨p, e, n, s _ _ hp⟩
theorem encP_in (as : List (Int × Int)) (b : Int) : (valV (encP as) (Sum.inl b)).isSome = decide (b ∈ as.map (·.1)) := by
  rw [encP_val, Option.isSome_map, look_isSome]; rfl
noncomputable def oV : Option Int → V
  | none => .non
  | some b => .int b
structure Handed (rows : Rows) (hs0 : List (Option Int)) (ps : List Int) (ds : List (Int × Int)) (i : Nat) (b0 : Int) (hs : List (Option Int)) : Prop where
  lh : hs.length = rows.length
  tight : ∀ j c, hA hs j = some c → Tgt rows ps ds j c
  inj : ∀ j k c, hA hs j = some c → hA hs k = some c → j = k
  has : ∀ c, (∃ j, hA hs j = some c) ↔ ((∃ j, hA hs0 j = some c) ∨ c = b0)
  dom : ∀ j, hA hs j = none ↔ (hA hs0 j = none ∧ j ≠ i)
noncomputable def asI (A : List (Int × Nat)) : List (Int × Int) := A.map fun x => (x.1, (x.2 : Int))
theorem asI_keys (A : List (Int × Nat)) : (asI A).map (·.1) = A.map (·.1) := by unfold asI; rw [List.map_map]; rfl
theorem asI_look {A : List (Int × Nat)} {t : Nat} {b : Int} {q : Nat} (nd : (A.map (·.1)).Nodup) (h : A[t]? = some (b, q)) : look (asI A) b = some (q : Int) := by
  have := look_mem (row := asI A) (by rw [asI_keys]; exact nd) (x := (b, (q : Int))) (List.mem_map.mpr ⟨(b, q), List.mem_of_getElem? h, rfl⟩)
  exact this
theorem oV_at {hs : List (Option Int)} {q : Nat} (h : q < hs.length) : atI (hs.map oV) (q : Int) = some (oV (hA hs q)) := by
  refine atI_nat ?_
  rw [List.getElem?_map, List.getElem?_eq_getElem h]
  unfold hA
  rw [List.getD_eq_getElem?_getD, List.getElem?_eq_getElem h]; rfl
theorem oV_flat (hs : List (Option Int)) : (hs.map oV).all flatV = true := by
  rw [List.all_eq_true]
  intro x hx
  obtain ⟨y, _, rfl⟩ := List.mem_map.mp hx
  cases y <;> rfl
theorem oV_eq {o : Option Int} {b : Int} : eqV (oV o) (.int b) = decide (o = some b) := by
  cases o with
  | none => rfl
  | some c => show (c == b) = _; rw [Bool.eq_iff_iff]; simp
theorem hA_of {hs : List (Option Int)} {j : Nat} {o : Option Int} (h : hs[j]? = some o) : hA hs j = o := by
  unfold hA; rw [List.getD_eq_getElem?_getD, h]; rfl
theorem hA_get {hs : List (Option Int)} {j : Nat} {b : Int} (h : hA hs j = some b) : hs[j]? = some (some b) := by
  have l := hA_lt h
  unfold hA at h
  rw [List.getD_eq_getElem?_getD, List.getElem?_eq_getElem l] at h
  rw [List.getElem?_eq_getElem l]
  exact congrArg some h
theorem oV_in {hs : List (Option Int)} {b : Int} : inV (.int b) (hs.map oV) = true ↔ ∃ j, hA hs j = some b := by
  unfold inV
  rw [List.any_eq_true]
  constructor
  · rintro ⟨v, hv, e⟩
    obtain ⟨o, ho, rfl⟩ := List.mem_map.mp hv
    rw [oV_eq] at e
    obtain ⟨j, hj⟩ := List.mem_iff_getElem?.mp ho
    exact ⟨j, by rw [hA_of hj]; exact of_decide_eq_true e⟩
  · rintro ⟨j, h⟩
    exact ⟨oV (some b), List.mem_map.mpr ⟨some b, List.mem_of_getElem? (hA_get h), rfl⟩, by rw [oV_eq]; simp⟩
theorem PTree.top {rows : Rows} {hs : List (Option Int)} {ps : List Int} {ds : List (Int × Int)} {i q : Nat} {b : Int} {R : List Nat} {A : List (Int × Nat)} (T : PTree rows hs ps ds i R A) (hq : q ∈ R) (tg : Tgt rows ps ds q b) : PTop rows hs ps ds i R (A ++ [(b, q)]) := by
  have tl := T.len
  obtain ⟨uq, hu⟩ := List.mem_iff_getElem?.mp hq
  have huq := (List.getElem?_eq_some_iff.mp hu).1
  refine ⟨T.root, T.free, T.rnd, T.lt, fun t x hx hl => ?_, fun t x hx => ?_, by rw [List.length_append, tl]; rfl⟩
  · rw [List.length_append, List.length_singleton] at hl
    rw [List.getElem?_append_left (by omega)] at hx
    exact T.hold t x hx
  · by_cases z : t < A.length
    · rw [List.getElem?_append_left z] at hx
      exact T.ask t x hx
    · have ht := (List.getElem?_eq_some_iff.mp hx).1
      rw [List.length_append, List.length_singleton] at ht
      have et : t = A.length := by omega
      subst et
      rw [List.getElem?_append_right (Nat.le_refl _), Nat.sub_self] at hx
      cases hx
      exact ⟨⟨uq, by omega, hu⟩, tg⟩
theorem POn.first {rows : Rows} {hs : List (Option Int)} {ps : List Int} {ds : List (Int × Int)} {i q : Nat} {b : Int} {R : List Nat} {A : List (Int × Nat)} (I : PInv rows hs ps ds) (hn : ∀ j, hA hs j ≠ some b) : POn rows hs hs ps ds i R (A ++ [(b, q)]) b b A.length :=
  ⟨I.lh, I.tight, I.inj, hn, fun _ => Iff.rfl, fun _ => Iff.rfl, ⟨q, by rw [List.getElem?_append_right (Nat.le_refl _), Nat.sub_self]; rfl⟩, fun _ _ _ _ => rfl⟩
theorem PInv.handed {rows : Rows} {hs hs' : List (Option Int)} {ps : List Int} {ds : List (Int × Int)} {i : Nat} {b : Int} (I : PInv rows hs ps ds) (h : Handed rows hs ps ds i b hs') : PInv rows hs' ps ds :=
  ⟨h.lh, I.lp, h.tight, h.inj, I.feas, I.dnn, I.dnd, fun x hx => (h.has x.1).mpr (.inl (I.held x hx))⟩
theorem PTree.start {rows : Rows} {hs : List (Option Int)} {ps : List Int} {ds : List (Int × Int)} {i : Nat} (h : hA hs i = none) (hi : i < rows.length) : PTree rows hs ps ds i [i] [] :=
  ⟨rfl, h, rfl, fun t x hx => by simp at hx, fun t x hx => by simp at hx, .nil, fun j hj => by rw [List.mem_singleton.mp hj]; exact hi, fun x hx => by cases hx⟩
theorem PTree.le {rows : Rows} {hs : List (Option Int)} {ps : List Int} {ds : List (Int × Int)} {i : Nat} {R : List Nat} {A : List (Int × Nat)} (T : PTree rows hs ps ds i R A) : R.length ≤ rows.length := by
  have := T.rnd.length_le_of_subset (l₂ := List.range rows.length) fun j hj => List.mem_range.mpr (T.lt j hj)
  rwa [List.length_range] at this
theorem filterMap_le {α : Type} (l : List (Option α)) : (l.filterMap id).length ≤ l.length := List.length_filterMap_le _ _
theorem PInv.dlen {rows : Rows} {hs : List (Option Int)} {ps : List Int} {ds : List (Int × Int)} (I : PInv rows hs ps ds) : ds.length ≤ rows.length := by
  have := I.dnd.length_le_of_subset (l₂ := hs.filterMap id) fun b hb => by
    obtain ⟨x, hx, e⟩ := List.mem_map.mp hb
    obtain ⟨j, hj⟩ := I.held x hx
    rw [← e]
    exact List.mem_filterMap.mpr ⟨some x.1, List.mem_of_getElem? (hA_get hj), rfl⟩
  have h2 := filterMap_le hs
  rw [List.length_map] at this
  rw [← I.lh]
  omega
theorem asI_put {A : List (Int × Nat)} {b : Int} {q : Nat} (h : b ∉ A.map (·.1)) : putK (encP (asI A)) (Sum.inl b) (.int (q : Int)) = encP (asI (A ++ [(b, q)])) := by
  rw [encP_put]
  unfold putD
  rw [asI_keys, if_neg h]
  unfold asI
  rw [List.map_append]; rfl
theorem near_some {rows : Rows} {hs : List (Option Int)} {ps : List Int} {ds : List (Int × Int)} {i : Nat} {R : List Nat} {A : List (Int × Nat)} {g b : Int} {q : Nat} (I : PInv rows hs ps ds) (T : PTree rows hs ps ds i R A) (rn : ∀ row ∈ rows, (row.map (·.1)).Nodup)
    (n : Near (cnd rows ps ds (A.map (·.1)) R) (some (g, b, q))) : q ∈ R ∧ b ∉ A.map (·.1) ∧ 0 ≤ g ∧ (∀ p ∈ R, ∀ x ∈ rA rows p, x.1 ∉ A.map (·.1) → g ≤ x.2 + du ds x.1 - pA ps p) ∧
      ∀ ps' ds', Raised R A g ps ds ps' ds' → Tgt rows ps' ds' q b := by
  obtain ⟨m, mn⟩ := n.yes _ rfl
  obtain ⟨p, hp, x, hx, hn, e⟩ := mem_cnd.mp m
  cases e
  have f := I.feas q x hx
  refine ⟨hp, hn, by omega, fun p' hp' y hy hny => mn _ (mem_cnd.mpr ⟨p', hp', y, hy, hny, rfl⟩), fun ps' ds' W => ⟨x.2, look_mem ?_ hx, ?_⟩⟩
  · have ql := T.lt q hp
    refine rn _ ?_
    unfold rA
    rw [List.getD_eq_getElem?_getD, List.getElem?_eq_getElem ql]
    exact List.getElem_mem ql
  · rw [W.pr, W.dr, if_pos hp, if_neg hn]; omega
end L2
set_option Elab.async false
set_option linter.all false
set_option maxRecDepth 100000
namespace L2
open PySem PySem.Spec PyProof.Rows PySem.W
noncomputable def runC {α : Type} (n : Nat) (lt : Nat → Nat → Bool) : KasT α → Option α
  | .ret a => some a
  | .ask i j k => if decide (i < n) && decide (j < n) && !(i == j) then runC n lt (k (lt i j)) else none
theorem kasWp_run {α : Type} {cmp : Nat → Nat → (Bool → Shared → Prop) → Shared → Prop} {n : Nat} {lt : Nat → Nat → Bool} {s : Shared} (hc : ∀ i j C, i < n → j < n → i ≠ j → C (lt i j) s → cmp i j C s) {Q : α → Shared → Prop} {a : α} :
    ∀ (t : KasT α), runC n lt t = some a → Q a s → t.kasWp cmp Q s
  | .ret b, h, q => by cases h; exact q
  | .ask i j k, h, q => by
    unfold runC at h
    split at h
    · rename_i hh
      rw [Bool.and_eq_true, Bool.and_eq_true] at hh
      obtain ⟨⟨h1, h2⟩, h3⟩ := hh
      exact hc i j _ (of_decide_eq_true h1) (of_decide_eq_true h2) (by simpa using h3) (kasWp_run hc _ h q)
    · cases h
noncomputable def chk (n : Nat) (l : List Nat) : Bool := match runC n (fun i j => decide (l.getD i 0 < l.getD j 0)) (kas_sort n) with
  | some p => (p.toList.map fun i => l.getD i 0) == List.range n && p.toList.all (fun i => decide (i < n)) && p.toList.length == n
  | none => false
noncomputable def chkAll (n : Nat) : Nat → List Nat → Bool
  | 0, acc => chk n acc
  | f + 1, acc => (List.range n).all fun x => acc.contains x || chkAll n f (acc ++ [x])
theorem chkAll_ok {n : Nat} : ∀ (f : Nat) (acc ext : List Nat), chkAll n f acc = true → ext.length = f → (acc ++ ext).Nodup → (∀ x ∈ ext, x < n) → chk n (acc ++ ext) = true
  | 0, acc, ext, h, hl, nd, hx => by
    have : ext = [] := List.eq_nil_of_length_eq_zero hl
    subst this
    rw [List.append_nil]; exact h
  | f + 1, acc, ext, h, hl, nd, hx => by
    obtain ⟨x, r, rfl⟩ : ∃ x r, ext = x :: r := by
      cases ext with
      | nil => simp at hl
      | cons x r => exact ⟨x, r, rfl⟩
    unfold chkAll at h
    rw [List.all_eq_true] at h
    have h1 := h x (List.mem_range.mpr (hx x (by simp)))
    rw [Bool.or_eq_true] at h1
    rcases h1 with z | z
    · rw [List.nodup_append] at nd
      exact absurd rfl (nd.2.2 x (by simpa using z) x (by simp))
    · have := chkAll_ok f (acc ++ [x]) r z (by simpa using hl) (by simpa using nd) fun y hy => hx y (by simp [hy])
      simpa using this
theorem chk2 : chkAll 2 2 [] = true := by decide +kernel
theorem chk3 : chkAll 3 3 [] = true := by decide +kernel
theorem chk4 : chkAll 4 4 [] = true := by decide +kernel
theorem chk5 : chkAll 5 5 [] = true := by decide +kernel
theorem chk6 : chkAll 6 6 [] = true := by decide +kernel
theorem chk_few {n : Nat} {l : List Nat} (h2 : 2 ≤ n) (h6 : n ≤ 6) (hl : l.length = n) (nd : l.Nodup) (hx : ∀ x ∈ l, x < n) : chk n l = true := by
  have : chkAll n n [] = true := by
    obtain h | h | h | h | h : n = 2 ∨ n = 3 ∨ n = 4 ∨ n = 5 ∨ n = 6 := by omega
    · rw [h]; exact chk2
    · rw [h]; exact chk3
    · rw [h]; exact chk4
    · rw [h]; exact chk5
    · rw [h]; exact chk6
  have := chkAll_ok n [] l this hl (by simpa using nd) hx
  simpa using this
theorem runC_congr {α : Type} {n : Nat} {f g : Nat → Nat → Bool} (h : ∀ i j, i < n → j < n → f i j = g i j) : ∀ t : KasT α, runC n f t = runC n g t
  | .ret a => rfl
  | .ask i j k => by
    unfold runC
    by_cases z : (decide (i < n) && decide (j < n) && !(i == j)) = true
    · rw [if_pos z, if_pos z]
      rw [Bool.and_eq_true, Bool.and_eq_true] at z
      rw [h i j (of_decide_eq_true z.1.1) (of_decide_eq_true z.1.2)]
      exact runC_congr h _
    · rw [if_neg z, if_neg z]
noncomputable def rkOf (ks : List Int) (x : Int) : Nat := (ks.filter fun y => decide (y < x)).length
theorem rk_mono {ks : List Int} {x y : Int} (h : x < y) (hx : x ∈ ks) : rkOf ks x < rkOf ks y := by
  unfold rkOf
  induction ks with
  | nil => cases hx
  | cons a r ih =>
    have le : ∀ (r : List Int), (r.filter fun z => decide (z < x)).length ≤ (r.filter fun z => decide (z < y)).length := by
      intro r
      induction r with
      | nil => exact Nat.le_refl _
      | cons b r ih =>
        rw [List.filter_cons, List.filter_cons]
        by_cases z : b < x
        · rw [if_pos (decide_eq_true z), if_pos (decide_eq_true (by omega))]
          simp only [List.length_cons]; omega
        · rw [if_neg (by simpa using z)]
          split <;> (try simp only [List.length_cons]) <;> omega
    rw [List.filter_cons, List.filter_cons]
    rcases List.mem_cons.mp hx with e | e
    · subst e
      rw [if_neg (by simp), if_pos (decide_eq_true h)]
      have := le r
      simp only [List.length_cons]; omega
    · have := ih e
      by_cases z : a < x
      · rw [if_pos (decide_eq_true z), if_pos (decide_eq_true (by omega))]
        simp only [List.length_cons]; omega
      · rw [if_neg (by simpa using z)]
        split <;> (try simp only [List.length_cons]) <;> omega
theorem rk_lt {ks : List Int} {x : Int} (hx : x ∈ ks) : rkOf ks x < ks.length := by
  unfold rkOf
  induction ks with
  | nil => cases hx
  | cons a r ih =>
    rw [List.filter_cons]
    rcases List.mem_cons.mp hx with e | e
    · subst e
      rw [if_neg (by simp)]
      have := List.length_filter_le (fun y => decide (y < x)) r
      simp only [List.length_cons]; omega
    · have := ih e
      split <;> (try simp only [List.length_cons]) <;> omega
theorem rk_iff {ks : List Int} {x y : Int} (hx : x ∈ ks) (hy : y ∈ ks) : rkOf ks x < rkOf ks y ↔ x < y := by
  constructor
  · intro h
    rcases Int.lt_trichotomy x y with z | z | z
    · exact z
    · subst z; omega
    · have := rk_mono z hy; omega
  · exact fun h => rk_mono h hx
theorem sort_few {ks : List Int} (nd : ks.Nodup) (h2 : 2 ≤ ks.length) (h6 : ks.length ≤ 6) :
    ∃ p : Array Nat, runC ks.length (fun i j => decide (ks.getD i 0 < ks.getD j 0)) (kas_sort ks.length) = some p ∧ p.toList.Perm (List.range ks.length) ∧ (p.toList.map fun i => ks.getD i 0).Pairwise (· < ·) := by
  have mem : ∀ i, i < ks.length → ks.getD i 0 ∈ ks := fun i hi => by rw [getD_get hi]; exact List.getElem_mem hi
  have gl : ∀ i, i < ks.length → (ks.map (rkOf ks)).getD i 0 = rkOf ks (ks.getD i 0) := fun i hi => by
    rw [getD_get hi, List.getD_eq_getElem?_getD, List.getElem?_map, List.getElem?_eq_getElem hi]; rfl
  have ndr : (ks.map (rkOf ks)).Nodup := by
    rw [List.nodup_iff_pairwise_ne, List.pairwise_map]
    rw [List.nodup_iff_pairwise_ne] at nd
    refine List.Pairwise.imp_of_mem ?_ nd
    intro a b ha hb hne e
    rcases Int.lt_trichotomy a b with z | z | z
    · have := rk_mono z ha; omega
    · exact hne z
    · have := rk_mono z hb; omega
  have c := chk_few (n := ks.length) (l := ks.map (rkOf ks)) h2 h6 (List.length_map ..) ndr fun x hx => by
    obtain ⟨y, hy, rfl⟩ := List.mem_map.mp hx
    exact rk_lt hy
  unfold chk at c
  have e := runC_congr (n := ks.length) (f := fun i j => decide (ks.getD i 0 < ks.getD j 0)) (g := fun i j => decide ((ks.map (rkOf ks)).getD i 0 < (ks.map (rkOf ks)).getD j 0)) (fun i j hi hj => by
    rw [gl i hi, gl j hj]
    exact decide_eq_decide.mpr (rk_iff (mem i hi) (mem j hj)).symm) (kas_sort ks.length)
  rw [e]
  cases hr : runC ks.length (fun i j => decide ((ks.map (rkOf ks)).getD i 0 < (ks.map (rkOf ks)).getD j 0)) (kas_sort ks.length) with
  | none => rw [hr] at c; cases c
  | some p =>
    rw [hr] at c
    dsimp only at c
    rw [Bool.and_eq_true, Bool.and_eq_true] at c
    obtain ⟨⟨c1, c2⟩, c3⟩ := c
    have c1 : (p.toList.map fun i => (ks.map (rkOf ks)).getD i 0) = List.range ks.length := by simpa using c1
    have c2 : ∀ i ∈ p.toList, i < ks.length := fun i hi => of_decide_eq_true (List.all_eq_true.mp c2 i hi)
    have c3 : p.toList.length = ks.length := by simpa using c3
    have pnd : p.toList.Nodup := by
      have h : (p.toList.map fun i => (ks.map (rkOf ks)).getD i 0).Nodup := by rw [c1]; exact List.nodup_range
      rw [List.nodup_iff_pairwise_ne, List.pairwise_map] at h
      rw [List.nodup_iff_pairwise_ne]
      exact h.imp fun h e => h (by rw [e])
    refine ⟨p, rfl, ?_, ?_⟩
    · rw [List.perm_ext_iff_of_nodup pnd List.nodup_range]
      intro a
      refine ⟨fun h => List.mem_range.mpr (c2 a h), fun h => Decidable.byContradiction fun hn => ?_⟩
      have := (List.nodup_cons.mpr ⟨hn, pnd⟩).length_le_of_subset (l₂ := List.range ks.length) fun b hb => by
        rcases List.mem_cons.mp hb with z | z
        · rw [z]; exact h
        · exact List.mem_range.mpr (c2 b z)
      rw [List.length_cons, List.length_range] at this
      omega
    · have pw : (p.toList.map fun i => (ks.map (rkOf ks)).getD i 0).Pairwise (· < ·) := by rw [c1]; exact List.pairwise_lt_range
      rw [List.pairwise_map] at pw ⊢
      refine List.Pairwise.imp_of_mem ?_ pw
      intro i j hi hj h
      rw [gl i (c2 i hi), gl j (c2 j hj)] at h
      exact (rk_iff (mem i (c2 i hi)) (mem j (c2 j hj))).mp h
end L2
set_option Elab.async false
set_option linter.all false
set_option maxRecDepth 100000
namespace L2
open PySem PySem.Spec PyProof.Rows PySem.W
noncomputable def PairsAt (h : Heap) (as : List Addr) (ks : List Int) : Prop := as.length = ks.length ∧ ∀ (i : Nat) a k, as[i]? = some a → ks[i]? = some k → ∃ t x n, h.get? a = some { cls := .type "tuple", data := .seq #[.int k t, x] n }
section
variable {prog : Program} {w : World} {A : Around} {E : Value → Shared → Prop} {s : Shared}
theorem katTups_of {h : Heap} : ∀ {as : List Addr} {ks : List Int}, PairsAt h as ks → ∃ fs : List Value, KatTups h (as.map Value.ref) fs ∧ fs.length = as.length ∧ ∀ v ∈ fs, ∃ k t, v = Value.int k t
  | [], [], _ => ⟨[], .nil, rfl, fun _ h => by cases h⟩
  | [], _ :: _, ⟨h, _⟩ => by simp at h
  | _ :: _, [], ⟨h, _⟩ => by simp at h
  | a :: as, k :: ks, ⟨hl, h⟩ => by
    obtain ⟨t, x, n, e⟩ := h 0 a k rfl rfl
    obtain ⟨fs, f1, f2, f3⟩ := katTups_of (as := as) (ks := ks) ⟨by simpa using hl, fun i b c hb hc => h (i + 1) b c (by simpa using hb) (by simpa using hc)⟩
    refine ⟨.int k t :: fs, .cons e rfl rfl rfl f1, by simp [f2], fun v hv => ?_⟩
    rcases List.mem_cons.mp hv with z | z
    · exact ⟨k, t, z⟩
    · exact f3 v z
theorem ask_pairs {as : List Addr} {ks : List Int} (hp : PairsAt s.heap as ks) (nd : ks.Nodup) {i j : Nat} {C : Bool → Shared → Prop} (hi : i < ks.length) (hj : j < ks.length) (hij : i ≠ j) (h : C (decide (ks.getD i 0 < ks.getD j 0)) s) :
    kas_ask prog w A (tuples' true) (as.map Value.ref) i j C s := by
  have la := hp.1
  have hi' : i < as.length := by omega
  have hj' : j < as.length := by omega
  obtain ⟨t1, x1, n1, e1⟩ := hp.2 i as[i] ks[i] (List.getElem?_eq_getElem hi') (List.getElem?_eq_getElem hi)
  obtain ⟨t2, x2, n2, e2⟩ := hp.2 j as[j] ks[j] (List.getElem?_eq_getElem hj') (List.getElem?_eq_getElem hj)
  unfold kas_ask
  have g1 : (as.map Value.ref).getD i Value.none = .ref as[i] := by rw [List.getD_eq_getElem?_getD, List.getElem?_map, List.getElem?_eq_getElem hi']; rfl
  have g2 : (as.map Value.ref).getD j Value.none = .ref as[j] := by rw [List.getD_eq_getElem?_getD, List.getElem?_map, List.getElem?_eq_getElem hj']; rfl
  rw [g1, g2]
  rw [getD_get hi, getD_get hj] at h
  have ne : ks[i] ≠ ks[j] := fun z => hij ((List.getElem_inj nd).mp z)
  refine kat_lt e1 rfl e2 rfl (kat_cons (wpAny_eqBool_int ?_))
  rw [show (ks[i] == ks[j]) = false from beq_false_of_ne ne]
  exact kat_no (oneLt_int h)
theorem list_sort_tups {a : Addr} {as : List Addr} {ks : List Int} {n : Nat} {P : Fin → Shared → Prop} (ho : s.heap.get? a = some (seqObj "list" (as.map Value.ref).toArray n)) (hp : PairsAt s.heap as ks) (hna : a ∉ as) (nd : ks.Nodup) (h6 : ks.length ≤ 6)
    (h : ∀ q : List Nat, q.Perm (List.range ks.length) → (q.map fun i => ks.getD i 0).Pairwise (· < ·) → P (.done (.ret .none)) { s with heap := sortedHeap s.heap a (as.map Value.ref) (List.toArray (q.map fun i => (as.map Value.ref).getD i Value.none)) }) :
    wpAny (model prog w) A (Builtin.«list.sort» ⟨[.ref a], []⟩) P E s := by
  have la := hp.1
  generalize hvs : as.map Value.ref = vs at ho h
  have lv : vs.length = ks.length := by rw [← hvs, List.length_map, la]
  rw [list_sort_plain]
  have ha : a < s.heap.objs.size := Heap.lt_size ho
  refine wpAny_bind (listItems_at ho rfl ?_)
  refine wpAny_bind (listUpdate_at ho rfl ?_ (by rw [List.size_toArray, sizeLine_eq]; omega) (Nat.zero_le _))
  obtain ⟨e1, ho1⟩ : ∃ e1, (s.heap.update a (Obj.mapSeq fun _ => #[])).get? a = some (seqObj "list" #[] e1) := ⟨_, get?_update_seq ho (fun _ => #[])⟩
  refine wpAny_bind (seqEpoch_at ho1 rfl ?_)
  refine wpAny_bind (wpAny_newTuple ?_ (by show vs.length ≤ _; rw [sizeLine_eq]; omega))
  refine wpAny_bind (wpAny_newList ?_ (Nat.zero_le _))
  refine wpAny_holding ?_
  have ho6 : (((s.heap.update a (Obj.mapSeq fun _ => #[])).push (seqObj "tuple" vs.toArray 0)).push (seqObj "list" #[] 0)).get? a = some (seqObj "list" #[] e1) := by
    rw [Heap.get?_push_ne _ _ _ (by rw [size_push', Heap.size_update]; exact Nat.ne_of_lt (Nat.lt_succ_of_lt ha)), Heap.get?_push_ne _ _ _ (by rw [Heap.size_update]; exact Nat.ne_of_lt ha)]
    exact ho1
  have hp' : PairsAt (((s.heap.update a (Obj.mapSeq fun _ => #[])).push (seqObj "tuple" vs.toArray 0)).push (seqObj "list" #[] 0)) as ks := ⟨la, fun i b k hb hk => by
    obtain ⟨t, x, m, e⟩ := hp.2 i b k hb hk
    have hne : b ≠ a := fun z => hna (by rw [← z]; exact List.mem_of_getElem? hb)
    have hlt := Heap.lt_size e
    refine ⟨t, x, m, ?_⟩
    rw [Heap.get?_push_ne _ _ _ (by rw [size_push', Heap.size_update]; exact Nat.ne_of_lt (Nat.lt_succ_of_lt hlt)), Heap.get?_push_ne _ _ _ (by rw [Heap.size_update]; exact Nat.ne_of_lt hlt), Heap.get?_update_ne _ _ _ _ hne]
    exact e⟩
  show wpAny (model prog w) A _ P E { s with heap := ((s.heap.update a (Obj.mapSeq fun _ => #[])).push (seqObj "tuple" vs.toArray 0)).push (seqObj "list" #[] 0) }
  dsimp only
  have hsz : vs.toArray.size = vs.length := by simp
  by_cases h2 : vs.toArray.size < 2
  · rw [if_pos h2, if_pos h2]
    refine wpAny_bind (wpAny_pure ?_)
    rw [StateT.run_pure]
    refine wpAny_bind (wpAny_pure ?_)
    dsimp only
    have eo : (arrOf (SortSt.mk' general' (vs.toArray.zip vs.toArray) #[] 7 none)).map (·.2) = List.toArray ((List.range ks.length).map fun i => vs.getD i Value.none) := by
      have := kat_snds (ks := vs) (vs := vs) rfl (st := SortSt.mk' general' (vs.toArray.zip vs.toArray) #[] 7 none) (p := List.toArray (List.range ks.length)) (by
        have e := kas_range (vs.toArray.zip vs.toArray)
        rw [show (vs.toArray.zip vs.toArray).size = ks.length by simp [lv]] at e
        exact e.symm)
      exact this
    rw [eo]
    refine wpAny_bind (seqEpoch_at ho6 rfl ?_)
    refine wpAny_bind (listUpdate_at ho6 rfl ?_ (Nat.zero_le _) (by rw [List.size_toArray, List.length_map, List.length_range, sizeLine_eq]; omega))
    simp only [bne_self_eq_false, Bool.false_eq_true, if_false]
    refine wpAny_pure (h _ (List.Perm.refl _) ?_)
    have l1 : ks.length ≤ 1 := by omega
    rw [List.pairwise_map]
    match hk : ks.length, l1 with
    | 0, _ => exact .nil
    | 1, _ => exact List.pairwise_singleton _ _
  · rw [if_neg h2, if_neg h2]
    obtain ⟨fs, f1, f2, f3⟩ := katTups_of hp'
    rw [hvs] at f1
    refine wpAny_bind (kat_kind (T := .type "int") f1 (by omega) (fun v hv => by obtain ⟨k, t, rfl⟩ := f3 v hv; exact Looks.of_pure rfl) rfl ?_)
    obtain ⟨q, r1, r2, r3⟩ := sort_few nd (by omega) h6
    have go : (kas_sort vs.length).kasWp (kas_ask prog w A (tuples' (Value.type "int" != Value.type "tuple")) vs) (fun p s' => p = q ∧ s' = { s with heap := ((s.heap.update a (Obj.mapSeq fun _ => #[])).push (seqObj "tuple" vs.toArray 0)).push (seqObj "list" #[] 0) }) { s with heap := ((s.heap.update a (Obj.mapSeq fun _ => #[])).push (seqObj "tuple" vs.toArray 0)).push (seqObj "list" #[] 0) } := by
      rw [lv]
      refine kasWp_run (n := ks.length) (lt := fun i j => decide (ks.getD i 0 < ks.getD j 0)) (fun i j C hi hj hij hC => ?_) _ r1 ⟨rfl, rfl⟩
      rw [← hvs]
      rw [← hvs] at hp' hC
      exact ask_pairs (s := { s with heap := _ }) hp' nd hi hj hij hC
    refine wpAny_bind (wpAny_mono (kat_run (Q := fun st' s' => (arrOf st').map (·.2) = List.toArray (q.toList.map fun i => vs.getD i Value.none) ∧ failedOf st' = none ∧ s' = { s with heap := ((s.heap.update a (Obj.mapSeq fun _ => #[])).push (seqObj "tuple" vs.toArray 0)).push (seqObj "list" #[] 0) })
      (ks := vs) rfl (by omega) (by omega) (fun p st' s' a1 a2 a3 a4 => ⟨by rw [kat_snds rfl a2, a4.1], a3, a4.2⟩) go) ?_ fun _ _ e => e)
    rintro ⟨⟨⟩, st'⟩ s' ⟨e1', e2', rfl⟩
    dsimp only at e1' e2' ⊢
    rw [e1', e2']
    refine wpAny_bind (seqEpoch_at ho6 rfl ?_)
    refine wpAny_bind (listUpdate_at ho6 rfl ?_ (Nat.zero_le _) (by rw [List.size_toArray, List.length_map, r2.length_eq, List.length_range, sizeLine_eq]; omega))
    simp only [bne_self_eq_false, Bool.false_eq_true, if_false]
    exact wpAny_pure (h q.toList r2 r3)
end
end L2
set_option Elab.async false
set_option linter.all false
set_option maxRecDepth 100000
namespace L2
open PySem PySem.Spec PyProof.Rows PySem.W
theorem ObjOk.get {P : Program} {w : World} {H : Hp} {h : Heap} {a : Addr} {o : HO} (x : ObjOk P w H h a o) : ∃ u, h.get? a = some u := by
  cases o with
  | lst xs => obtain ⟨_, _, _, _, e⟩ := x; exact ⟨_, e⟩
  | tup xs => obtain ⟨_, _, _, o, e, _⟩ := x; exact ⟨_, e⟩
  | dK kvs => obtain ⟨_, _, _, _, o, _, _, e, _⟩ := x; exact ⟨_, e⟩
  | dT kvs => obtain ⟨_, _, _, _, o, _, _, e, _⟩ := x; exact ⟨_, e⟩
  | set S n => obtain ⟨o, _, _, _, e, _⟩ := x; exact ⟨_, e⟩
  | ins C dx fs => obtain ⟨_, _, _, e, _⟩ := x; exact ⟨_, e⟩
  | own y => obtain ⟨_, e⟩ := x; exact ⟨_, e⟩
  | xd fs => obtain ⟨_, ⟨_, _, _, e, _⟩, _⟩ := x; exact ⟨_, e⟩
  | rng lo hi => obtain ⟨_, _, _, e⟩ := x; exact ⟨_, e⟩
  | frz ob u => obtain ⟨e, _⟩ := x; exact ⟨_, e⟩
  | tbl ps => exact ⟨_, show h.get? a = some _ from x⟩
  | met f y => exact ⟨_, show h.get? a = some _ from x⟩
  | ext φ => obtain ⟨_, ⟨_, e⟩, _⟩ := x; exact ⟨_, e⟩
theorem Inv.many {X : Cx} {pins : List (Addr × Obj)} {σ : L2.St} {H H' : Hp} {s : Shared} {h' : Heap} {t' : Nat} (I : Inv X pins σ H s) (k : ∀ b u, s.heap.get? b = some u → h'.get? b = some u) (old : ∀ b u, s.heap.get? b = some u → H' b = H b)
    (new : ∀ a o, s.heap.get? a = none → H' a = some o → ObjOk X.prog X.w H' h' a o) : Inv X pins σ H' { s with heap := h', toks := t' } := by
  have lo : ∀ b o, H b = some o → H' b = some o := fun b o e => by obtain ⟨u, hu⟩ := (I.hok b o e).get; rw [old b u hu]; exact e
  refine I.un ⟨fun b u q _ _ _ => k b u q, fun b u q _ _ _ => ⟨u.slots, k b u q⟩, fun b u q n _ => by rw [old b u q]; exact n, fun b u q _ => ⟨u, k b u q⟩, fun b xs q => lo b _ q, fun b u xs q => lo b _ q, fun b ps q => ⟨#[], by rw [lo b _ q]; simp⟩⟩ fun b u e => ?_
  cases hb : s.heap.get? b with
  | some ob =>
    rw [old b ob hb] at e
    exact (I.hok b u e).stay (fun c v _ q => k c v q) (fun c q => lo c _ q) fun c xs q => lo c _ q
  | none => exact new b u hb e
noncomputable def addP (H : Hp) (as : List Addr) (ds : List (Int × Int)) : Hp := fun b => match (as.zip ds).find? (fun x => x.1 == b) with
  | some x => some (.tup [.int x.2.1, .int x.2.2])
  | none => H b
theorem addP_old {H : Hp} {as : List Addr} {ds : List (Int × Int)} {b : Addr} (h : b ∉ as) : addP H as ds b = H b := by
  unfold addP
  have : (as.zip ds).find? (fun x => x.1 == b) = none := by
    rw [List.find?_eq_none]
    rintro ⟨x, y⟩ hx e
    have : x = b := by simpa using e
    exact h (by rw [← this]; exact (List.of_mem_zip hx).1)
  rw [this]
theorem addP_at {H : Hp} : ∀ {as : List Addr} {ds : List (Int × Int)} {i : Nat} {a : Addr} {d : Int × Int}, as.Nodup → as[i]? = some a → ds[i]? = some d → addP H as ds a = some (.tup [.int d.1, .int d.2])
  | [], _, i, a, d, _, h, _ => by simp at h
  | _ :: _, [], i, a, d, _, _, h => by simp at h
  | x :: as, y :: ds, 0, a, d, _, h1, h2 => by
    simp at h1 h2
    subst h1 h2
    unfold addP
    rw [List.zip_cons_cons, List.find?_cons]
    simp
  | x :: as, y :: ds, i + 1, a, d, nd, h1, h2 => by
    rw [List.nodup_cons] at nd
    have h1' : as[i]? = some a := by simpa using h1
    have ne : x ≠ a := fun z => nd.1 (by rw [z]; exact List.mem_of_getElem? h1')
    have ih := addP_at (H := H) (as := as) (ds := ds) (i := i) nd.2 h1' (by simpa using h2)
    unfold addP at ih ⊢
    rw [List.zip_cons_cons, List.find?_cons]
    have e : (x == a) = false := by simpa using ne
    simp only [e]
    exact ih
theorem addP_get {H : Hp} {as : List Addr} {ds : List (Int × Int)} {b : Addr} {o : HO} (hl : as.length = ds.length) (nd : as.Nodup) (h : b ∈ as) (e : addP H as ds b = some o) : ∃ (i : Nat) (d : Int × Int), as[i]? = some b ∧ ds[i]? = some d ∧ o = .tup [.int d.1, .int d.2] := by
  obtain ⟨i, hi⟩ := List.mem_iff_getElem?.mp h
  have il := (List.getElem?_eq_some_iff.mp hi).1
  have hd : ds[i]? = some (ds[i]'(by omega)) := List.getElem?_eq_getElem (by omega)
  refine ⟨i, _, hi, hd, ?_⟩
  rw [addP_at nd hi hd] at e
  exact (Option.some.inj e).symm
theorem kv_ints {P : Program} {w : World} {ds : List (Int × Int)} {vs : List (Key × Value)} (r : KV (encP ds) vs) {i : Nat} {d : Int × Int} (h : ds[i]? = some d) : ∃ t, vs[i]? = some (Sum.inl d.1, .int d.2 t) := by
  have hh : (encP ds)[i]? = some (Sum.inl d.1, V.int d.2) := by unfold encP; rw [List.getElem?_map, h]; rfl
  obtain ⟨b, hb, e1, e2⟩ := pair_at r hh
  obtain ⟨t, e2⟩ := e2
  refine ⟨t, ?_⟩
  rw [hb]
  obtain ⟨k, v⟩ := b
  cases e1
  cases e2
  rfl
section
variable {X : Cx}
theorem cSortedI (hc : X.calm = true := by rfl) : CallR X (.builtin "sorted") (fun xs H Q => ∃ (v d : Addr) (ds : List (Int × Int)), xs = [.ref v] ∧ H v = some (.ext (VW v d)) ∧ H d = some (.dK (encP ds)) ∧ (ds.map (·.1)).Nodup ∧ ds.length ≤ 6 ∧
    ∀ l (es : List (Int × Int)) H', es.Perm ds → (es.map (·.1)).Pairwise (· < ·) → Same H H' → H l = none → RowAt H' l es → Q (.ref l) H') := by
  intro pins s σ H xs us Q I r h
  obtain ⟨v, d, ds, e, hv, hd, nd, h6, q⟩ := h
  subst e
  obtain ⟨u, e, rx⟩ := vals1 r
  subst e
  cases rx
  obtain ⟨hz, hm, vs, rk, dd⟩ := dk_of I.hok hd
  obtain ⟨ep, da⟩ := dd.dictAt
  obtain ⟨vw, _⟩ := (show ObjOk X.prog X.w H s.heap v (.ext (VW v d)) from I.hok v _ hv)
  have lv : vs.length = ds.length := by rw [← rk.length]; unfold encP; rw [List.length_map]
  refine Calls.call_function_entry kind_sorted plain_sorted entry_sorted (args_sorted1 _) ?_
  unfold Builtin.«sorted»
  refine wpAny_bind (m := checkCount "sorted" 1 1 _) (wpAny_pure ?_)
  refine wpAny_bind (kdx_collect (A := X.A.in1) (knd := mixKind X.prog X.w) (kvs := vs) (ep := ep) (show X.A.in1.handled = none from I.ok.hd hc) vw da (by rw [lv, sizeLine_eq]; omega) fun h1 tk as k1 la g1 => ?_)
  refine wpAny_bind (wpAny_newList ?_ (by rw [List.length_map, la, lv, sizeLine_eq]; omega))
  have hoL : (h1.push (seqObj "list" (as.map Value.ref).toArray 0)).get? h1.objs.size = some (seqObj "list" (as.map Value.ref).toArray 0) := Heap.get?_push_size _ rfl
  have lt1 : ∀ a ∈ as, a < h1.objs.size := fun a ha => g1.there ha
  have ge1 : ∀ a ∈ as, s.heap.objs.size ≤ a := fun a ha => Nat.le_of_lt (g1.above a ha)
  have and' : as.Nodup := by
    rw [List.nodup_iff_pairwise_ne]
    exact g1.rise.imp fun h => Nat.ne_of_lt h
  have pr : ∀ (i : Nat) a x, as[i]? = some a → ds[i]? = some x → ∃ t t', h1.get? a = some { cls := .type "tuple", data := .seq #[.int x.1 t, .int x.2 t'] } := fun i a x ha hx => by
    obtain ⟨key, k, y, e1, e2, e3⟩ := g1.pairs i a ha
    obtain ⟨t', e4⟩ := kv_ints (P := X.prog) (w := X.w) rk hx
    rw [e4] at e1
    cases e1
    obtain ⟨t, e5⟩ := (show ∃ t, key = Value.int x.1 t from key_rel e2)
    rw [e5] at e3
    exact ⟨t, t', e3⟩
  have pa : PairsAt (h1.push (seqObj "list" (as.map Value.ref).toArray 0)) as (ds.map (·.1)) := ⟨by rw [la, lv, List.length_map], fun i a k ha hk => by
    rw [List.getElem?_map] at hk
    obtain ⟨x, hx, rfl⟩ := Option.map_eq_some_iff.mp hk
    obtain ⟨t, t', e⟩ := pr i a x ha hx
    exact ⟨t, _, _, Heap.get?_push_of_some _ e⟩⟩
  refine wpAny_bind (wpAny_holding (wpAny_call_entry slot_list_sort ⟨_, hoL, rfl⟩ entry_list_sort (list_sort_tups (ks := ds.map (·.1)) hoL pa (fun m => absurd (lt1 _ m) (Nat.lt_irrefl _)) nd (by rw [List.length_map]; exact h6) fun p hp hs => ⟨_, rfl, ?_⟩) (args_list_sort _)))
  refine wpAny_pure ⟨_, rfl, ?_⟩
  rw [List.length_map] at hp
  obtain ⟨e, he⟩ := sortedHeap_at (out := List.toArray (p.map fun i => (as.map Value.ref).getD i Value.none)) hoL
  have k2 : ∀ b o, h1.get? b = some o → (sortedHeap (h1.push (seqObj "list" (as.map Value.ref).toArray 0)) h1.objs.size (as.map Value.ref) (List.toArray (p.map fun i => (as.map Value.ref).getD i Value.none))).get? b = some o := fun b o eb => by
    have lt := Heap.lt_size eb
    rw [sortedHeap_old (Nat.ne_of_lt lt) (by rw [Heap.size_push]; exact Nat.lt_succ_of_lt lt)]
    exact Heap.get?_push_of_some _ eb
  have plt : ∀ i ∈ p, i < ds.length := fun i hi => List.mem_range.mp (hp.mem_iff.mp hi)
  have oldne : ∀ b o, s.heap.get? b = some o → b ≠ h1.objs.size ∧ b ∉ as := fun b o eb => ⟨Nat.ne_of_lt (Heap.lt_size (k1 b o eb)), fun m => absurd (ge1 b m) (Nat.not_le_of_lt (Heap.lt_size eb))⟩
  have hl2 : as.length = ds.length := by rw [la, lv]
  have nL : H h1.objs.size = none := by
    cases z : H h1.objs.size with
    | none => rfl
    | some o =>
      obtain ⟨u, hu⟩ := (I.hok _ o z).get
      exact absurd rfl (oldne _ u hu).1
  have nas : ∀ a ∈ as, H a = none := fun a ha => by
    cases z : H a with
    | none => rfl
    | some o =>
      obtain ⟨u, hu⟩ := (I.hok _ o z).get
      exact absurd ha (oldne _ u hu).2
  have Las : ∀ a ∈ as, a ≠ h1.objs.size := fun a ha => Nat.ne_of_lt (lt1 a ha)
  have I2 : Inv X pins σ (upd (addP H as ds) h1.objs.size (.lst ((p.map fun i => as.getD i 0).map V.ref))) { s with heap := sortedHeap (h1.push (seqObj "list" (as.map Value.ref).toArray 0)) h1.objs.size (as.map Value.ref) (List.toArray (p.map fun i => (as.map Value.ref).getD i Value.none)), toks := tk } := by
    refine I.many (fun b u eb => k2 b u (k1 b u eb)) (fun b u eb => ?_) fun a o ha ea => ?_
    · obtain ⟨z1, z2⟩ := oldne b u eb
      rw [upd_ne z1, addP_old z2]
    · by_cases za : a = h1.objs.size
      · subst za
        rw [upd_same] at ea
        cases ea
        refine ⟨?_, p.map fun i => (as.map Value.ref).getD i Value.none, e, ?_, by simpa [seqObj] using he⟩
        · rw [List.length_map, List.length_map, hp.length_eq, List.length_range, sizeLine_eq]; omega
        · rw [List.map_map]
          have : ∀ (q : List Nat), (∀ i ∈ q, i < as.length) → Vals (q.map (V.ref ∘ fun i => as.getD i 0)) (q.map fun i => (as.map Value.ref).getD i Value.none) := by
            intro q
            induction q with
            | nil => intro _; exact .nil
            | cons i q ih =>
              intro hq
              have hi := hq i (by simp)
              refine .cons ?_ (ih fun j hj => hq j (by simp [hj]))
              show (as.map Value.ref).getD i Value.none = Value.ref (as.getD i 0)
              rw [List.getD_eq_getElem?_getD, List.getElem?_map, List.getElem?_eq_getElem hi, List.getD_eq_getElem?_getD, List.getElem?_eq_getElem hi]; rfl
          exact this p fun i hi => by rw [hl2]; exact plt i hi
      · rw [upd_ne za] at ea
        by_cases zm : a ∈ as
        · obtain ⟨i, x, hi, hx, eo⟩ := addP_get hl2 and' zm ea
          subst eo
          obtain ⟨t, t', e⟩ := pr i a x hi hx
          exact ⟨by rw [sizeLine_eq]; show 2 ≤ _; omega, [.int x.1 t, .int x.2 t'], .cons ⟨t, rfl⟩ (.cons ⟨t', rfl⟩ .nil), _, k2 _ _ e, rfl, _, rfl⟩
        · rw [addP_old zm] at ea
          obtain ⟨u, hu⟩ := (I.hok a o ea).get
          rw [ha] at hu
          cases hu
  refine ⟨.ref h1.objs.size, _, I2, rfl, ?_⟩
  refine q h1.objs.size (p.map fun i => ds.getD i (0, 0)) _ ?_ ?_ ?_ nL ⟨p.map fun i => as.getD i 0, upd_same, ?_⟩
  · have h1 : (p.map fun i => ds.getD i (0, 0)).Perm ((List.range ds.length).map fun i => ds.getD i (0, 0)) := hp.map _
    have h2 : (List.range ds.length).map (fun i => ds.getD i (0, 0)) = ds := by
      apply List.ext_getElem?
      intro i
      rw [List.getElem?_map]
      by_cases hi : i < ds.length
      · rw [List.getElem?_range hi, List.getElem?_eq_getElem hi, Option.map_some, List.getD_eq_getElem?_getD, List.getElem?_eq_getElem hi]; rfl
      · rw [List.getElem?_eq_none (by rw [List.length_range]; omega), List.getElem?_eq_none (by omega)]; rfl
    rw [h2] at h1
    exact h1
  · have e2 : (p.map fun i => ds.getD i (0, 0)).map (·.1) = p.map fun i => (ds.map (·.1)).getD i 0 := by
      rw [List.map_map]
      apply List.map_congr_left
      intro i hi
      have hi := plt i hi
      show (ds.getD i (0, 0)).1 = _
      rw [List.getD_eq_getElem?_getD, List.getElem?_eq_getElem hi, List.getD_eq_getElem?_getD, List.getElem?_map, List.getElem?_eq_getElem hi]; rfl
    rw [e2]
    exact hs
  · intro b o eb
    obtain ⟨u, hu⟩ := (I.hok b o eb).get
    obtain ⟨z1, z2⟩ := oldne b u hu
    rw [upd_ne z1, addP_old z2]
    exact eb
  · have : ∀ (q : List Nat), (∀ i ∈ q, i < ds.length) → TupsL (upd (addP H as ds) h1.objs.size (.lst ((p.map fun i => as.getD i 0).map V.ref))) (q.map fun i => as.getD i 0) (q.map fun i => ds.getD i (0, 0)) := by
      intro q
      induction q with
      | nil => intro _; exact .nil
      | cons i q ih =>
        intro hq
        have hi := hq i (by simp)
        have hi' : i < as.length := by rw [hl2]; exact hi
        refine .cons ?_ (ih fun j hj => hq j (by simp [hj]))
        show upd (addP H as ds) h1.objs.size (.lst ((p.map fun i => as.getD i 0).map V.ref)) (as.getD i 0) = some (.tup [.int (ds.getD i (0, 0)).1, .int (ds.getD i (0, 0)).2])
        have ea : as.getD i 0 = as[i] := by rw [List.getD_eq_getElem?_getD, List.getElem?_eq_getElem hi']; rfl
        have ed : ds.getD i (0, 0) = ds[i] := by rw [List.getD_eq_getElem?_getD, List.getElem?_eq_getElem hi]; rfl
        rw [ea, ed, upd_ne (Las _ (List.getElem_mem hi'))]
        exact addP_at and' (List.getElem?_eq_getElem hi') (List.getElem?_eq_getElem hi)
    exact this p plt
end
theorem PInv.start {rows : Rows} (c0 : ∀ row ∈ rows, ∀ x ∈ row, 0 ≤ x.2) : PInv rows (List.replicate rows.length none) (List.replicate rows.length 0) [] := by
  have h0 : ∀ j, hA (List.replicate rows.length none) j = none := fun j => by
    unfold hA
    rw [List.getD_eq_getElem?_getD, List.getElem?_replicate]
    split <;> rfl
  have p0 : ∀ j, pA (List.replicate rows.length 0) j = 0 := fun j => by
    unfold pA
    rw [List.getD_eq_getElem?_getD, List.getElem?_replicate]
    split <;> rfl
  refine ⟨List.length_replicate, List.length_replicate, (fun j b h => by rw [h0] at h; cases h), (fun j k b h => by rw [h0] at h; cases h), fun j x hx => ?_, (fun _ h => by cases h), .nil, fun _ h => by cases h⟩
  rw [p0]
  have : rA rows j ∈ rows ∨ rA rows j = [] := by
    unfold rA
    rw [List.getD_eq_getElem?_getD]
    cases e : rows[j]? with
    | none => exact .inr rfl
    | some r => exact .inl (List.mem_of_getElem? e)
  rcases this with z | z
  · have := c0 _ z x hx
    show (0 : Int) - 0 ≤ x.2
    omega
  · rw [z] at hx; cases hx
theorem all_some {hs : List (Option Int)} (h : ∀ j, j < hs.length → hA hs j ≠ none) : ∃ ns : List Int, hs = ns.map some := by
  induction hs with
  | nil => exact ⟨[], rfl⟩
  | cons a r ih =>
    obtain ⟨ns, e⟩ := ih fun j hj z => h (j + 1) (by rw [List.length_cons]; omega) (by unfold hA at z ⊢; rw [List.getD_eq_getElem?_getD] at z ⊢; rw [List.getElem?_cons_succ]; exact z)
    have h0 := h 0 (by rw [List.length_cons]; omega)
    cases a with
    | none => exact absurd rfl h0
    | some b => exact ⟨b :: ns, by rw [e]; rfl⟩
theorem oV_some (ns : List Int) : (ns.map some).map oV = ns.map V.int := by rw [List.map_map]; rfl
theorem hA_some {ns : List Int} {j : Nat} (h : j < ns.length) : hA (ns.map some) j = some ns[j] := by
  refine hA_of ?_
  rw [List.getElem?_map, List.getElem?_eq_getElem h]; rfl
structure Priced (rows : Rows) (hs : List Int) (tot : Int) (ps : List Int) (es : List (Int × Int)) : Prop where
  inv : ∃ ds, PInv rows (hs.map some) ps ds ∧ es.Perm ds
  up : (es.map (·.1)).Pairwise (· < ·)
  tot : tot = minOf rows hs
theorem PInv.deal {rows : Rows} {hs ps : List Int} {ds : List (Int × Int)} (I : PInv rows (hs.map some) ps ds) : Deal (rows.map keysOf) hs := by
  have lh := I.lh
  rw [List.length_map] at lh
  refine ⟨by rw [List.length_map, lh], fun k h1 h2 => ?_, ?_⟩
  · rw [List.length_map] at h2
    obtain ⟨c, hc, _⟩ := I.tight k hs[k] (hA_some h1)
    have e : rA rows k = rows[k] := by unfold rA; rw [List.getD_eq_getElem?_getD, List.getElem?_eq_getElem h2]; rfl
    rw [e] at hc
    rw [List.getElem_map]
    exact List.mem_map.mpr ⟨_, look_some hc, rfl⟩
  · rw [List.nodup_iff_pairwise_ne, List.pairwise_iff_getElem]
    intro i j hi hj hij e
    have := I.inj i j hs[i] (hA_some hi) (by rw [hA_some hj, e])
    omega
theorem rep_flat {α : Type} (x : α) (n : Nat) : (List.replicate n [x]).flatten = List.replicate n x := by
  induction n with
  | zero => rfl
  | succ n ih => rw [List.replicate_succ, List.flatten_cons, ih, List.replicate_succ]; rfl
end L2
set_option Elab.async false
set_option linter.all false
namespace L2
open PySem PySem.Spec PyProof.Rows PySem.W
noncomputable def tLRev (K : PySem.W.Frag) (ta : TA) : TE := fun σ H Q => ta σ H fun vs H1 => ∃ p xs, vs = [.ref p] ∧ SqL K H1 p xs ∧ xs.length ≤ 1000 ∧ ∀ l, H1 l = none → Q (.ref l) (upd H1 l (.lst xs.reverse))
theorem BillL.rev {H : Hp} {rs : List Addr} {rows : Rows} (h : BillL H rs rows) : BillL H rs.reverse rows.reverse := by
  induction h with
  | nil => exact .nil
  | cons r t ih =>
    rw [List.reverse_cons, List.reverse_cons]
    clear t
    revert ih
    generalize List.reverse _ = l1
    generalize List.reverse _ = l2
    intro ih
    induction ih with
    | nil => exact .cons r .nil
    | cons r' t' ih' => exact .cons r' ih'
end L2
set_option Elab.async false
set_option linter.all false
set_option maxRecDepth 100000
namespace L2
open PySem PySem.Spec PyProof.Rows PySem.W
theorem nolen_lri : typeLookup (.type "list_reverseiterator") "__len__" = pure none := by rw [typeLookup_type, builtinLookup_eq_fast]; kernel_rfl
theorem hint_lri : typeLookup (.type "list_reverseiterator") "__length_hint__" = pure (some (.builtin "list_reverseiterator.__length_hint__")) := by rw [typeLookup_type, builtinLookup_eq_fast]; kernel_rfl
section
variable {prog : Program} {w : World} {A : Around} {E : Value → Shared → Prop} {s : Shared}
theorem hint_rev {r l : Addr} {i : Int} {Q : Bool → Shared → Prop} (hit : s.heap.IsRevIter r l i) (h : Q false s) : wpAny (model prog w) A (Builtin.List.listLengthHint (.ref r)) Q E s := by
  unfold Builtin.List.listLengthHint
  refine wpAny_bind (wpAny_specialOf hit.typeIs nolen_lri ?_)
  show wpAny _ A (specialOf (Value.ref r) (Str.ofString "__length_hint__") >>= _) _ _ _
  refine wpAny_bind (wpAny_specialOf hit.typeIs hint_lri ?_)
  (generalize hid : ("list_reverseiterator.__length_hint__" : String) = id0; (fail_if_success (clear hid id0)); wp_delta; rw [show splitId id0 = some ("list_reverseiterator", "__length_hint__") from by subst hid; decide +kernel]; subst hid)
  refine wpAny_bind (wpAny_isInstance (b := true) hit.typeIs (by rw [isSubtype_type]; kernel_rfl) ?_)
  exact wpAny_pure h
theorem call_list_rev {Q : Value → Shared → Prop} {I l : Addr} {items : Array Value} (hh : A.handled = none) (hit : s.heap.IsRevIter I l ((items.size : Int) - 1)) (hl : s.heap.IsList l items) (hne : l ≠ I) (hn : items.size ≤ sizeLine)
    (hQ : ∀ h' tk acc' c', (∀ b o, b ≠ I → s.heap.get? b = some o → h'.get? b = some o) → h'.get? s.heap.objs.size = some { cls := .type "list", dict := none, data := .seq acc' c', slots := #[] } → ItemsOf (fun i v => items[items.size - 1 - i]? = some v) acc' items.size → Q (.ref s.heap.objs.size) { s with heap := h', toks := tk }) :
    wpAny (model prog w) A (call (.type "list") [.ref I]) Q E s := by
  refine callType_codes (Q₁ := fun obj s₁ => obj = .ref s.heap.objs.size ∧ s₁ = { s with heap := s.heap.push { cls := .type "list", data := .seq #[] } }) PySem.F.called_list (PySem.F.typeCall_list_1 _) PySem.F.entry_list_init
    (code_list_new _ ⟨rfl, rfl⟩) fun obj s₁ h₁ => ?_
  obtain ⟨rfl, rfl⟩ := h₁
  have hS : (s.heap.push { cls := .type "list", data := .seq #[] }).get? s.heap.objs.size = some { cls := .type "list", data := .seq #[] } := Heap.get?_push_size _ rfl
  have hIl : I < s.heap.objs.size := by obtain ⟨o, ho, _⟩ := hit; exact Heap.lt_size ho
  have hll : l < s.heap.objs.size := by obtain ⟨o, ho, _⟩ := hl; exact Heap.lt_size ho
  refine ⟨⟨_, hS, rfl⟩, PySem.F.args_list_init_2 _ _, ?_⟩
  have lt : ∀ b o, s.heap.get? b = some o → b < s.heap.objs.size := fun b o e => Heap.lt_size e
  generalize s.heap.objs.size = S at *
  show wpAny _ _ (do let old ← Builtin.List.listItems (.ref S); Builtin.List.listUpdate (.ref S) (fun _ => #[]); letGo old.toList.reverse; Builtin.List.listExtendWith (.ref S) (.ref I) .none) _ _ _
  refine wpAny_bind ?_
  unfold Builtin.List.listItems
  refine wpAny_bind (wpAny_seqItems hS rfl (wpAny_pure ?_))
  show wpAny _ _ (updateSeq S (fun _ => #[]) >>= fun _ => letGo (#[] : Array Value).toList.reverse >>= fun _ => Builtin.List.listExtendWith (.ref S) (.ref I) .none) _ _ _
  refine wpAny_bind (wpAny_updateSeq hS rfl ?_)
  have hS₂ := Heap.get?_update_self (Obj.mapSeq (fun _ => (#[] : Array Value))) hS rfl
  have oth : ∀ b o, s.heap.get? b = some o → ((s.heap.push { cls := .type "list", data := .seq #[] }).update S (Obj.mapSeq (fun _ => (#[] : Array Value)))).get? b = some o :=
    fun b o e => (Heap.get?_update_other _ _ (Nat.ne_of_gt (lt b o e))).trans (Heap.get?_push_of_some _ e)
  refine wpAny_bind (wpAny_letGo ?_)
  have hit2 := hit.at (oth I)
  have hl2 := hl.at (oth l)
  unfold Builtin.List.listExtendWith
  refine wpAny_bind (wpAny_typeOf (T := "list_reverseiterator") hit2.typeIs ?_)
  have h1 : Builtin.List.listSameRef (.ref S) (.ref I) = false := by simp [Builtin.List.listSameRef, Nat.ne_of_gt hIl]
  rw [if_neg (by rw [h1]; decide)]
  refine wpAny_bind (wpAny_pyIter_revIter hit2 ?_)
  refine wpAny_bind (wpAny_holding (hint_rev hit2 ?_))
  rw [if_neg (by decide)]
  have hSf : S ∉ [I, l] := by
    simp only [List.mem_cons, List.not_mem_nil, or_false, not_or]
    exact ⟨Nat.ne_of_gt hIl, Nat.ne_of_gt hll⟩
  refine wpAny_pure ⟨plainId_quiet PySem.F.plain_extend_loop _, codeAny_extend_loopS (Walks.listRev (A := A.in1.in1) hh I l hne items).toS hn S hSf .none items.size 0 _ #[] _ rfl (Nat.zero_le _) ⟨Nat.zero_le _, by simpa using hit2, hl2⟩ hS₂ (ItemsOf.nil _) fun s' acc' c' hm hS' hacc => ?_⟩
  rw [Moved.eq_heap hm]
  refine ⟨rfl, hQ s'.heap s'.toks acc' c' (fun b o hb e => hm.heap b o (fun hmem => ?_) (oth b o e)) hS' hacc⟩
  rcases List.mem_cons.mp hmem with e' | hmem
  · exact Nat.ne_of_lt (lt b o e) e'
  · exact hb (List.mem_singleton.mp hmem)
end
section
variable {X : Cx}
theorem pe_lrev {a : Expr} {ta : TA} {p1 p2 pos1 pos2 : Pos} (K : PySem.W.Frag) (hg : Gl X "list") (hm : X.mg "list" = none) (hg2 : Gl X "reversed") (hm2 : X.mg "reversed" = none) (ha : PA X [a] ta) (hK : X.K = K := by rfl) (hc : X.calm = true := by rfl) (hs : starEach [a] X.env = [(false, eval a X.env)] := by rfl) :
    PE X (.Call (.Name "list" p1) [.Call (.Name "reversed" p2) [a] [] pos2] [] pos1) (tLRev K ta) := by
  subst hK
  intro pins s σ H Q I h
  refine Call_ (ld_blt I hg hm boot_list (PyProof.Rows.callWith_type1 ?_ (by rfl) (by rfl)))
  show wpAny _ _ (spliced [(false, eval (.Call (.Name "reversed" p2) [a] [] pos2) X.env)]) _ _ s
  refine Calls.spliced_cons ?_
  refine Call_ (ld_blt I hg2 hm2 boot_reversed (PyProof.Rows.callWith_type1 (thn (ha pos2 pins s σ H _ I h) fun us s1 ⟨vs, H1, I1, r1, q1⟩ => ?_) (by rw [hs]; rfl) (by rfl)))
  obtain ⟨l1, xs, e, hq1, hn1, q⟩ := q1
  subst e
  cases r1 with
  | cons r rr =>
    cases rr
    cases r
    obtain ⟨its1, rv1, p1, hz⟩ := I1.list hq1
    have hl := rv1.length
    refine call_reversed_list p1.isList ?_
    refine Calls.spliced_nil ?_
    have hl1 : l1 < s1.heap.objs.size := by obtain ⟨o, ho, _⟩ := p1.isList; exact Heap.lt_size ho
    have hit : (s1.heap.push (revObj l1 ((its1.toArray.size : Int) - 1))).IsRevIter s1.heap.objs.size l1 ((its1.toArray.size : Int) - 1) := ⟨_, Heap.get?_push_size _ rfl, rfl, rfl⟩
    refine call_list_rev (I1.ok.hd hc) hit (p1.isList.at fun o e => Heap.get?_push_of_some _ e) (Nat.ne_of_lt hl1) (by rw [List.size_toArray, ← hl]; exact hz) fun h' tk acc' c' kp ho' ia => ?_
    refine ⟨.ref _, _, I1.laid (t' := tk) (fun b o e => kp b o (Nat.ne_of_lt (Heap.lt_size e)) (Heap.get?_push_of_some _ e)) (by show _ ≤ (s1.heap.push _).objs.size; rw [Heap.size_push]; omega) (show ObjOk X.prog X.w _ h' _ (.lst xs.reverse) from ⟨by rw [List.length_reverse]; exact hz, acc'.toList, c', ?_, ?_⟩), rfl, q _ (I1.hok.fresh (by show _ ≤ (s1.heap.push _).objs.size; rw [Heap.size_push]; omega))⟩
    · refine paired_of (by have h3 := ia.1; simp at h3 ⊢; omega) fun i x y ex ey => ?_
      have hi := (List.getElem?_eq_some_iff.mp ex).1
      rw [List.length_reverse] at hi
      rw [List.getElem?_reverse hi] at ex
      have e2 := ia.2 i y (by rw [← Array.getElem?_toList]; exact ey)
      rw [List.size_toArray, ← hl] at e2
      obtain ⟨u, hu, ru⟩ := rv1.get ex
      have : y = u := by
        have e3 : its1[xs.length - 1 - i]? = some y := by simpa using e2
        rw [e3] at hu; exact Option.some.inj hu
      subst this
      exact ru
    · rw [Array.toArray_toList]; exact ho'
end
end L2
set_option Elab.async false
set_option linter.all false
set_option maxRecDepth 100000
namespace L2
open PySem PySem.Spec PyProof.Rows PySem.W
noncomputable def cstR : Rows → List Int → Int
  | r :: rs, h :: hs => (look r h).getD 0 + cstR rs hs
  | _, _ => 0
inductive DP : Rows → List Int → Prop
  | nil : DP [] []
  | cons {r : List (Int × Int)} {h : Int} {rs : Rows} {hs : List Int} : h ∈ keysOf r → DP rs hs → DP (r :: rs) (h :: hs)
theorem DP.len {rows : Rows} {hs : List Int} (h : DP rows hs) : hs.length = rows.length := by
  induction h with
  | nil => rfl
  | cons _ _ ih => rw [List.length_cons, List.length_cons, ih]
theorem minOf_cst {rows : Rows} : ∀ {hs : List Int}, hs.length = rows.length → minOf rows hs = cstR rows hs := by
  induction rows with
  | nil => intro hs h; rfl
  | cons r rs ih =>
    intro hs h
    cases hs with
    | nil => cases h
    | cons b hs =>
      have h' : hs.length = rs.length := by simpa using h
      have e : minOf (r :: rs) (b :: hs) = minAt (r :: rs) (b :: hs) 0 + minOf rs hs := by
        unfold minOf
        rw [List.length_cons, List.range_succ_eq_map, List.map_cons, List.sum_cons, List.map_map]
        rfl
      rw [e, ih h']
      rfl
theorem deal_iff {rows : Rows} {hs : List Int} : Deal (rows.map keysOf) hs ↔ DP rows hs ∧ hs.Nodup := by
  constructor
  · intro d
    refine ⟨?_, d.nd⟩
    have len := d.len
    have of := d.of
    clear d
    rw [List.length_map] at len
    induction rows generalizing hs with
    | nil =>
      cases hs with
      | nil => exact .nil
      | cons _ _ => cases len
    | cons r rs ih =>
      cases hs with
      | nil => cases len
      | cons b hs =>
        refine .cons (of 0 (Nat.succ_pos _) (Nat.succ_pos _)) (ih (by simpa using len) fun k h1 h2 => ?_)
        exact of (k + 1) (Nat.succ_lt_succ h1) (Nat.succ_lt_succ h2)
  · rintro ⟨d, nd⟩
    refine ⟨by rw [List.length_map]; exact d.len, ?_, nd⟩
    clear nd
    induction d with
    | nil => intro k h1; cases h1
    | cons hm _ ih =>
      intro k h1 h2
      cases k with
      | zero => exact hm
      | succ k => exact ih k (Nat.lt_of_succ_lt_succ h1) (Nat.lt_of_succ_lt_succ h2)
theorem DP.split {A B : Rows} : ∀ {hs : List Int}, DP (A ++ B) hs → ∃ ha hb, hs = ha ++ hb ∧ DP A ha ∧ DP B hb := by
  induction A with
  | nil => intro hs h; exact ⟨[], hs, rfl, .nil, h⟩
  | cons r A ih =>
    intro hs h
    rw [List.cons_append] at h
    cases h with
    | cons hm t =>
      obtain ⟨ha, hb, rfl, h1, h2⟩ := ih t
      exact ⟨_ :: ha, hb, rfl, .cons hm h1, h2⟩
theorem DP.app {A B : Rows} {ha hb : List Int} (h : DP A ha) (h2 : DP B hb) : DP (A ++ B) (ha ++ hb) := by
  induction h with
  | nil => exact h2
  | cons hm _ ih => exact .cons hm ih
theorem cst_app {A B : Rows} {ha hb : List Int} (h : DP A ha) : cstR (A ++ B) (ha ++ hb) = cstR A ha + cstR B hb := by
  induction h with
  | nil => show _ = 0 + _; rw [Int.zero_add]; rfl
  | cons hm _ ih => rw [List.cons_append, List.cons_append]; show _ + _ = _ + _ + _; rw [ih, Int.add_assoc]
theorem DP.rev {rows : Rows} {hs : List Int} (h : DP rows hs) : DP rows.reverse hs.reverse ∧ cstR rows.reverse hs.reverse = cstR rows hs := by
  induction h with
  | nil => exact ⟨.nil, rfl⟩
  | cons hm t ih =>
    rw [List.reverse_cons, List.reverse_cons]
    refine ⟨ih.1.app (.cons hm .nil), ?_⟩
    rw [cst_app ih.1, ih.2]
    show _ + (_ + 0) = _ + _
    omega
theorem low_cst {f : Int → Int} {rows : Rows} {hs : List Int} (d : DP rows hs) : ∀ {ps : List Int}, ps.length = rows.length → (∀ j, ∀ x ∈ rA rows j, pA ps j - f x.1 ≤ x.2) → ps.sum - (hs.map f).sum ≤ cstR rows hs := by
  induction d with
  | nil =>
    intro ps lp _
    have : ps = [] := List.eq_nil_of_length_eq_zero lp
    rw [this]
    exact Int.le_refl _
  | @cons r h rs hs hm _ ih =>
    intro ps lp fe
    cases ps with
    | nil => cases lp
    | cons p ps =>
      have h1 := ih (ps := ps) (by simpa using lp) fun j x hx => fe (j + 1) x hx
      rw [List.sum_cons, List.map_cons, List.sum_cons]
      show _ ≤ _ + _
      cases e : look r h with
      | none => exact absurd hm (look_none.mp e)
      | some c =>
        have h2 : p - f h ≤ c := fe 0 (h, c) (look_some e)
        show _ ≤ c + _
        omega
theorem tight_cst {f : Int → Int} {rows : Rows} : ∀ {hs ps : List Int}, hs.length = rows.length → ps.length = rows.length → (∀ j b, hs[j]? = some b → ∃ c, look (rA rows j) b = some c ∧ pA ps j - f b = c) → cstR rows hs = ps.sum - (hs.map f).sum := by
  induction rows with
  | nil =>
    intro hs ps lh lp _
    have : ps = [] := List.eq_nil_of_length_eq_zero lp
    have : hs = [] := List.eq_nil_of_length_eq_zero lh
    subst this
    subst ps
    rfl
  | cons r rs ih =>
    intro hs ps lh lp ti
    cases hs with
    | nil => cases lh
    | cons h hs =>
      cases ps with
      | nil => cases lp
      | cons p ps =>
        have h1 := ih (hs := hs) (ps := ps) (by simpa using lh) (by simpa using lp) fun j b hb => ti (j + 1) b hb
        obtain ⟨c, hc, e⟩ := ti 0 h rfl
        have hc : look r h = some c := hc
        have e : p - f h = c := e
        rw [List.sum_cons, List.map_cons, List.sum_cons]
        show (look r h).getD 0 + _ = _
        rw [hc, h1]
        show c + _ = _
        omega
theorem sum_at0 {hs : List Int} {k d : Int} (h : k ∉ hs) : (hs.map fun b => if b = k then d else 0).sum = 0 := by
  induction hs with
  | nil => rfl
  | cons a r ih =>
    rw [List.mem_cons, not_or] at h
    rw [List.map_cons, List.sum_cons, ih h.2, if_neg fun z => h.1 z.symm]
    rfl
theorem du_cons {x : Int × Int} {ds : List (Int × Int)} (n : x.1 ∉ ds.map (·.1)) (b : Int) : du (x :: ds) b = (if b = x.1 then x.2 else 0) + du ds b := by
  unfold du look
  rw [List.find?_cons]
  by_cases z : b = x.1
  · have z1 : (x.1 == b) = true := by simp [z]
    have z2 : look ds b = none := look_none.mpr (by rw [z]; exact n)
    unfold look at z2
    rw [z1, if_pos z, z2]
    show x.2 = x.2 + 0
    omega
  · have z1 : (x.1 == b) = false := beq_false_of_ne fun y => z y.symm
    rw [z1, if_neg z, Int.zero_add]
theorem sum_add (l : List Int) (f g : Int → Int) : (l.map fun b => f b + g b).sum = (l.map f).sum + (l.map g).sum := by
  induction l with
  | nil => rfl
  | cons a r ih => rw [List.map_cons, List.map_cons, List.map_cons, List.sum_cons, List.sum_cons, List.sum_cons, ih]; omega
theorem dues_le {hs : List Int} (nd : hs.Nodup) : ∀ {ds : List (Int × Int)}, (ds.map (·.1)).Nodup → (∀ x ∈ ds, 0 ≤ x.2) → (hs.map (du ds)).sum ≤ (ds.map (·.2)).sum := by
  intro ds
  induction ds with
  | nil =>
    intro _ _
    clear nd
    induction hs with
    | nil => exact Int.le_refl _
    | cons a r ih =>
      rw [List.map_cons, List.sum_cons]
      show 0 + _ ≤ _
      rw [Int.zero_add]
      exact ih
  | cons x ds ih =>
    intro n1 h
    rw [List.map_cons, List.nodup_cons] at n1
    have i1 := ih n1.2 fun y hy => h y (List.mem_cons_of_mem _ hy)
    have x0 := h x List.mem_cons_self
    have e : hs.map (du (x :: ds)) = hs.map fun b => (if b = x.1 then x.2 else 0) + du ds b := List.map_congr_left fun b _ => du_cons n1.1 b
    rw [List.map_cons, List.sum_cons, e, sum_add hs (fun b => if b = x.1 then x.2 else 0) (du ds)]
    by_cases z : x.1 ∈ hs
    · have := sum_at (d := x.2) nd z
      omega
    · have := sum_at0 (d := x.2) z
      omega
theorem PInv.sum {rows : Rows} {hs ps : List Int} {ds : List (Int × Int)} (I : PInv rows (hs.map some) ps ds) : cstR rows hs = ps.sum - (ds.map (·.2)).sum := by
  have lh := I.lh
  rw [List.length_map] at lh
  have hAs : ∀ (j : Nat) (b : Int), hs[j]? = some b → hA (hs.map some) j = some b := fun j b e => by
    obtain ⟨hj, e'⟩ := List.getElem?_eq_some_iff.mp e
    rw [hA_some hj, e']
  have h1 := tight_cst (f := du ds) (rows := rows) (hs := hs) (ps := ps) lh I.lp fun j b e => I.tight j b (hAs j b e)
  have h2 : (hs.map (du ds)).sum = (ds.map (·.2)).sum := dues_sum I.deal.nd I.dnd fun x hx => by
    obtain ⟨j, hj⟩ := I.held x hx
    unfold hA at hj
    rw [List.getD_eq_getElem?_getD, List.getElem?_map] at hj
    cases e : hs[j]? with
    | none => rw [e] at hj; cases hj
    | some v => rw [e] at hj; cases hj; exact List.mem_of_getElem? e
  rw [h1, h2]
noncomputable def Best (rows : Rows) : Option Int → Prop
  | none => ∀ hs, DP rows hs → ¬ hs.Nodup
  | some t => (∃ hs, DP rows hs ∧ hs.Nodup ∧ cstR rows hs = t) ∧ ∀ hs, DP rows hs → hs.Nodup → t ≤ cstR rows hs
theorem Priced.best {rows : Rows} {hs ps : List Int} {tot : Int} {es : List (Int × Int)} (p : Priced rows hs tot ps es) : Best rows (some tot) := by
  obtain ⟨ds, I, pm⟩ := p.inv
  have hd := deal_iff.mp I.deal
  have e : cstR rows hs = tot := by rw [p.tot, minOf_cst hd.1.len]
  refine ⟨⟨hs, hd.1, hd.2, e⟩, fun hs' d nd => ?_⟩
  have h1 := low_cst d I.lp I.feas
  have h2 := dues_le nd I.dnd I.dnn
  have h3 := I.sum
  omega
theorem Best.uniq {rows : Rows} {o o' : Option Int} (h : Best rows o) (h' : Best rows o') : o = o' := by
  cases o with
  | none =>
    cases o' with
    | none => rfl
    | some t => obtain ⟨⟨hs, d, nd, _⟩, _⟩ := h'; exact absurd nd (h hs d)
  | some t =>
    cases o' with
    | none => obtain ⟨⟨hs, d, nd, _⟩, _⟩ := h; exact absurd nd (h' hs d)
    | some t' =>
      obtain ⟨⟨hs, d, nd, e⟩, l⟩ := h
      obtain ⟨⟨hs', d', nd', e'⟩, l'⟩ := h'
      have := l hs' d' nd'
      have := l' hs d nd
      congr 1; omega
theorem nd_rev {l : List Int} (h : l.Nodup) : l.reverse.Nodup := List.pairwise_reverse.mpr (h.imp fun z => Ne.symm z)
theorem Best.rev {rows : Rows} {o : Option Int} (h : Best rows o) : Best rows.reverse o := by
  have back : ∀ hs, DP rows.reverse hs → DP rows hs.reverse ∧ cstR rows hs.reverse = cstR rows.reverse hs := fun hs d => by
    have := d.rev
    rw [List.reverse_reverse] at this
    exact this
  cases o with
  | none => exact fun hs d nd => h hs.reverse (back hs d).1 (nd_rev nd)
  | some t =>
    obtain ⟨⟨hs, d, nd, e⟩, l⟩ := h
    refine ⟨⟨hs.reverse, d.rev.1, nd_rev nd, d.rev.2.trans e⟩, fun hs' d' nd' => ?_⟩
    rw [← (back hs' d').2]
    exact l _ (back hs' d').1 (nd_rev nd')
theorem cst_nn {rows : Rows} {hs : List Int} (ok : ∀ row ∈ rows, ∀ x ∈ row, 0 ≤ x.2) : 0 ≤ cstR rows hs := by
  induction rows generalizing hs with
  | nil => exact Int.le_refl _
  | cons r rs ih =>
    cases hs with
    | nil => exact Int.le_refl _
    | cons h hs =>
      show 0 ≤ _ + _
      have h1 := ih (hs := hs) fun row hr => ok row (List.mem_cons_of_mem _ hr)
      cases e : look r h with
      | none => show 0 ≤ 0 + _; omega
      | some c => have := ok r List.mem_cons_self _ (look_some e); show 0 ≤ c + _; simp only at this; omega
theorem Best.nn {rows : Rows} {t : Int} (ok : ∀ row ∈ rows, ∀ x ∈ row, 0 ≤ x.2) (h : Best rows (some t)) : 0 ≤ t := by
  obtain ⟨⟨hs, _, _, e⟩, _⟩ := h
  have := cst_nn (hs := hs) ok
  omega
noncomputable def dearR (more : Int) (row : List (Int × Int)) : List (Int × Int) := row.map fun x => (x.1, x.2 + more)
theorem dear_keys {more : Int} {row : List (Int × Int)} : keysOf (dearR more row) = keysOf row := by unfold keysOf dearR; rw [List.map_map]; rfl
theorem dear_look {more : Int} {row : List (Int × Int)} {b : Int} : look (dearR more row) b = (look row b).map (· + more) := by
  unfold look dearR
  rw [List.find?_map]
  show Option.map _ (Option.map _ (row.find? fun x => x.1 == b)) = _
  rw [Option.map_map, Option.map_map]
  rfl
theorem DP.dear {A B : Rows} {r : List (Int × Int)} {more : Int} {hs : List Int} (d : DP (A ++ r :: B) hs) : DP (A ++ dearR more r :: B) hs ∧ cstR (A ++ dearR more r :: B) hs = cstR (A ++ r :: B) hs + more := by
  obtain ⟨ha, hb, rfl, h1, h2⟩ := d.split
  cases h2 with
  | @cons _ h _ hs hm t =>
    refine ⟨h1.app (.cons (by rw [dear_keys]; exact hm) t), ?_⟩
    rw [cst_app h1, cst_app h1]
    show _ + ((look (dearR more r) h).getD 0 + _) = _ + ((look r h).getD 0 + _) + more
    rw [dear_look]
    cases e : look r h with
    | none => exact absurd hm (look_none.mp e)
    | some c => show _ + (c + more + _) = _ + (c + _) + more; omega
theorem dear_back {more : Int} {row : List (Int × Int)} : dearR (-more) (dearR more row) = row := by
  unfold dearR
  rw [List.map_map]
  refine List.map_id'' (fun x => ?_) row
  show (x.1, x.2 + more + -more) = x
  rw [Int.add_neg_cancel_right]
theorem Best.dear {A B : Rows} {r : List (Int × Int)} {more : Int} {o : Option Int} (h : Best (A ++ r :: B) o) : Best (A ++ dearR more r :: B) (o.map (· + more)) := by
  have back : ∀ hs, DP (A ++ dearR more r :: B) hs → DP (A ++ r :: B) hs ∧ cstR (A ++ dearR more r :: B) hs = cstR (A ++ r :: B) hs + more := fun hs d => by
    have := d.dear (more := -more)
    rw [dear_back] at this
    exact ⟨this.1, by omega⟩
  cases o with
  | none => exact fun hs d => h hs (back hs d).1
  | some t =>
    obtain ⟨⟨hs, d, nd, e⟩, l⟩ := h
    refine ⟨⟨hs, d.dear.1, nd, by rw [d.dear.2, e]⟩, fun hs' d' nd' => ?_⟩
    have := l _ (back hs' d').1 nd'
    have := (back hs' d').2
    show t + more ≤ _
    omega
theorem Best.fewer {A B : Rows} {r : List (Int × Int)} {t : Int} {o : Option Int} (ok : ∀ row ∈ A ++ r :: B, ∀ x ∈ row, 0 ≤ x.2) (h : Best (A ++ r :: B) (some t)) (h2 : Best (A ++ B) o) : ∃ t', o = some t' ∧ 0 ≤ t' ∧ t' ≤ t := by
  obtain ⟨⟨hs, d, nd, e⟩, l⟩ := h
  obtain ⟨ha, hb, rfl, h1, h3⟩ := d.split
  cases h3 with
  | @cons _ b _ hs hm tt =>
    have nd2 : (ha ++ hs).Nodup := nd.sublist (List.Sublist.append (List.Sublist.refl _) (List.sublist_cons_self _ _))
    have d2 := h1.app tt
    have ok2 : ∀ row ∈ A ++ B, ∀ x ∈ row, 0 ≤ x.2 := fun row hr => ok row (by
      rcases List.mem_append.mp hr with z | z
      · exact List.mem_append_left _ z
      · exact List.mem_append_right _ (List.mem_cons_of_mem _ z))
    cases o with
    | none => exact absurd nd2 (h2 _ d2)
    | some t' =>
      refine ⟨t', rfl, h2.nn ok2, ?_⟩
      have h4 := h2.2 _ d2 nd2
      rw [cst_app h1] at h4 e
      have e : cstR A ha + ((look r b).getD 0 + cstR B hs) = t := e
      have : 0 ≤ (look r b).getD 0 := by
        cases e2 : look r b with
        | none => exact Int.le_refl _
        | some c => exact ok r (by simp) _ (look_some e2)
      omega
theorem Best.nil {o : Option Int} (h : Best [] o) : o = some 0 := h.uniq ⟨⟨[], .nil, List.nodup_nil, rfl⟩, fun hs _ _ => by cases hs <;> exact Int.le_refl _⟩
end L2
set_option Elab.async false
set_option linter.all false
set_option maxRecDepth 100000
namespace L2
open PySem PySem.Spec PyProof.Rows PySem.W
end L2
set_option Elab.async false
set_option linter.all false
set_option maxRecDepth 100000
namespace L2
open PySem PySem.Spec PyProof.Rows PySem.W
section
variable {X : Cx}
end
end L2
set_option Elab.async false
set_option linter.all false
set_option maxRecDepth 100000
set_option maxHeartbeats 4000000
namespace My
seal L2.PE L2.PA L2.PS L2.PSs L2.PT L2.PW L2.PI L2.PG L2.PGs L2.PIf L2.PO L2.OpR L2.CallR L2.IxR L2.SlR L2.UnR
open PySem L2 PyProof.Rows
local macro_rules | `(tactic| walk_at "go") => `(tactic| repeat (first | refine ⟨_, rfl, ?_⟩ | refine ⟨_, _, rfl, rfl, (show (0 : Int) < _ by decide), ?_⟩ | refine ⟨_, _, rfl, rfl, (show CDiv _ _ from ⟨by decide, by decide⟩), ?_⟩ | refine ⟨_, _, rfl, rfl, (show CPow _ _ from ⟨by decide, by decide, by decide⟩), ?_⟩ | refine ⟨_, _, rfl, rfl, (show CMul _ _ from .inl ⟨by decide, by decide⟩), ?_⟩ | refine ⟨_, _, rfl, rfl, (show CMul _ _ from .inr ⟨by decide, by decide⟩), ?_⟩ | refine ⟨_, _, rfl, rfl, ?_⟩ | refine ⟨rfl, ?_⟩))
noncomputable def top (i : Nat) : Stmt := PySem.Challenge.pw_deskround_k34_no_deal_is_cheaper.main.body.getD i (.Pass ⟨0, 0, 0, 0⟩)
noncomputable abbrev s_deal : Stmt := top 1
noncomputable abbrev s_settle : Stmt := top 2
noncomputable abbrev s_short_places : Stmt := top 3
noncomputable abbrev s_hands_of : Stmt := top 4
noncomputable abbrev s_cheap : Stmt := top 6
noncomputable abbrev s_serve : Stmt := top 7
noncomputable abbrev s_nearest_badge : Stmt := top 8
noncomputable abbrev s_raise_all : Stmt := top 9
noncomputable abbrev s_hand_on : Stmt := top 10
noncomputable abbrev s_law_cell : Stmt := top 12
noncomputable abbrev s_law_entries : Stmt := top 13
noncomputable abbrev s_law_whole : Stmt := top 14
noncomputable abbrev s_law_badges : Stmt := top 15
noncomputable abbrev s_law_bill : Stmt := top 16
noncomputable abbrev s_law_pools : Stmt := top 17
noncomputable abbrev s_law_total : Stmt := top 18
noncomputable abbrev s_law_drawn : Stmt := top 19
noncomputable abbrev s_law_dearer : Stmt := top 20
noncomputable abbrev s_law : Stmt := top 21
structure Txt (mg : Str → Option Value) : Prop where
  z_bool : mg "bool" = none
  z_dict : mg "dict" = none
  z_int : mg "int" = none
  z_isinstance : mg "isinstance" = none
  z_len : mg "len" = none
  z_list : mg "list" = none
  z_range : mg "range" = none
  z_reversed : mg "reversed" = none
  z_sorted : mg "sorted" = none
  z_sum : mg "sum" = none
  z_tuple : mg "tuple" = none
  z_zip : mg "zip" = none
structure Dfs (K : PySem.W.Frag) (mg : Str → Option Value) (aF : Nat → Addr) (dF : Nat → FuncData) : Prop where
  deal : Def K mg "deal" s_deal ["pools"] (aF 0) (dF 0)
  settle : Def K mg "settle" s_settle ["pools", "holders", "place", "asked"] (aF 1) (dF 1)
  short_places : Def K mg "short_places" s_short_places ["holders", "place", "asked"] (aF 2) (dF 2)
  hands_of : Def K mg "hands_of" s_hands_of ["holders", "count"] (aF 3) (dF 3)
  cheap : Def K mg "cheap" s_cheap ["pools"] (aF 4) (dF 4)
  serve : Def K mg "serve" s_serve ["pools", "hands", "prices", "dues", "place"] (aF 5) (dF 5)
  nearest_badge : Def K mg "nearest_badge" s_nearest_badge ["pools", "prices", "dues", "reached", "askers"] (aF 6) (dF 6)
  raise_all : Def K mg "raise_all" s_raise_all ["numbers", "keys", "gap"] (aF 7) (dF 7)
  hand_on : Def K mg "hand_on" s_hand_on ["hands", "askers", "badge"] (aF 8) (dF 8)
  law_cell : Def K mg "_law_cell" s_law_cell ["script", "k"] (aF 9) (dF 9)
  law_entries : Def K mg "_law_entries" s_law_entries ["script", "size"] (aF 10) (dF 10)
  law_whole : Def K mg "_law_whole" s_law_whole ["found"] (aF 11) (dF 11)
  law_badges : Def K mg "_law_badges" s_law_badges ["cells", "gap", "high"] (aF 12) (dF 12)
  law_bill : Def K mg "_law_bill" s_law_bill ["cells", "badges", "dense", "top", "count"] (aF 13) (dF 13)
  law_pools : Def K mg "_law_pools" s_law_pools ["script", "tops"] (aF 14) (dF 14)
  law_total : Def K mg "_law_total" s_law_total ["pools"] (aF 15) (dF 15)
  law_drawn : Def K mg "_law_drawn" s_law_drawn ["pools", "cells"] (aF 16) (dF 16)
  law_dearer : Def K mg "_law_dearer" s_law_dearer ["pools", "at", "more"] (aF 17) (dF 17)
  law : Def K mg "law" s_law ["script"] (aF 18) (dF 18)
section
variable {P : Program} {w : World} {K : PySem.W.Frag} {mg : Str → Option Value} {base : Heap} {aF : Nat → Addr} {dF : Nat → FuncData}
noncomputable def spN_settle (K : PySem.W.Frag) (n : Nat) : Sp := fun vs H Q _ => ∃ (a hd ad : Addr) (rs : List Addr) (ps : List (List Int)) (U : List Int) (pl : Nat) (kvs : HK) (as : List Int), vs = [.ref a, .ref hd, .int pl, .ref ad] ∧
  SqL K H a (rs.map V.ref) ∧ PoolsL K H rs ps ∧ pl < ps.length ∧ (∀ p ∈ ps, ∀ b ∈ p, b ∈ U) ∧ U.length ≤ 60 ∧ H hd = some (.dK kvs) ∧ H ad = some (.dK (encA as)) ∧ hd ≠ ad ∧
  (kvs.map (·.1)).Nodup ∧ Good ps kvs ∧ as.Nodup ∧ (∀ b ∈ as, b ∈ U) ∧ (U.filter fun c => decide (c ∉ as)).length < n ∧
  ∀ ok kvs' as' H', Sett ps U pl kvs as ok kvs' as' → SameX [hd, ad] H H' → H' hd = some (.dK kvs') → H' ad = some (.dK (encA as')) → Q (.bl ok) H'
noncomputable def sp_settle (K : PySem.W.Frag) : Sp := spN_settle K 28
theorem sc_settle : FnScope ["pools", "holders", "place", "asked", "badge"] ["pools", "holders", "place", "asked"] (defScope s_settle) := ⟨rfl, rfl, rfl, by decide +kernel, rfl, by decide +kernel, by decide +kernel⟩
theorem ok_settle (D : Dfs K mg aF dF) (T : Txt mg) : FnOk P w K mg base CX0 28 (aF 1) (dF 1) ["pools", "holders", "place", "asked"] (sp_settle K) := by
  have all : ∀ n, FnOk P w K mg base CX0 n (aF 1) (dF 1) ["pools", "holders", "place", "asked"] (spN_settle K n) := by
    intro n
    induction n with
    | zero =>
      have no : ∀ vs H Q E, ¬ spN_settle K 0 vs H Q E := fun vs H Q E h => by
        obtain ⟨a, hd, ad, rs, ps, U, pl, kvs, as, _, _, _, _, _, _, _, _, _, _, _, _, _, h, _⟩ := h
        omega
      exact ⟨fun vs H Q E h => absurd h (no vs H Q E), fun A outer s H args us vs Q E _ _ _ _ h => absurd h (no vs H Q E)⟩
    | succ n Gsettle =>
      refine D.settle.fn.ok sc_settle (fun vs H Q E h => ?_) (fun cdv A outer s H vs Q E hr h => ?_)
      · obtain ⟨a, hd, ad, rs, ps, U, pl, kvs, as, rfl, _⟩ := h; rfl
      have hu : A.units + 3 + 1 < cLine := by have := hr.un; show A.units + 3 + 1 < cLine; simp only [Around.deeper] at this; omega
      obtain ⟨a, hd, ad, rs, ps, U, pl, kvs, as, rfl, hS, hP, hpl, hU, hU60, hH, hA, hne, nd, g, nda, hsub, hleft, q⟩ := h
      refine ⟨_, (pss_cons (ps_for PassesOwn.never rfl (piL K (pe_ix (ixL K) (pv 0) (pv 2) (fun _ _ => rfl))) (pg_name (i := 4) sc_settle.nd rfl (Or.inl rfl))
        (pss_one (ps_if (pt_cmp (pc_dnotin hu (pv 4) (pv 3)))
          (pss_cons (ps_dput hu (pv 3) (pv 4) pe_bl rfl)
          (pss_one (ps_if (PW.pt (pw_or (pt_cmp (pc_dnotin hu (pv 4) (pv 1))) (pw_or1 (pt_val (pc D.settle Gsettle hr (pa_cons (pv 0) (pa_cons (pv 1) (pa_cons (pe_dget hu (pv 1) (pv 4) (fun _ _ => rfl)) (pa_cons (pv 3) pa_nil)))))))))
            (pss_cons (ps_dput hu (pv 1) (pv 4) (pv 2) rfl)
            (pss_one (ps_ret pe_bl)))
            pss_nil)))
          pss_nil)))
      (pss_one (ps_ret pe_bl))), ?_⟩
      have hp : ps[pl]? = some ps[pl] := List.getElem?_eq_getElem hpl
      generalize ps[pl] = p at hp
      obtain ⟨r, hr1, hr2⟩ := hP.at hp
      have dk0 : ∀ x ∈ [hd, ad], IsDk H x := fun x hx => by
        simp only [List.mem_cons, List.not_mem_nil, or_false] at hx
        rcases hx with e | e <;> subst e
        · exact ⟨_, hH⟩
        · exact ⟨_, hA⟩
      refine ⟨_, rfl, _, rfl, a, _, _, _, rfl, rfl, hS, atI_nat (by rw [List.getElem?_map, hr1]; rfl), r, rfl, ⟨_, hr2⟩, ?_⟩
      refine for_list (K := K) (a := r) (xs := p.map V.int) (fun i σ H1 => ∃ ai v, σ = [some (.ref a), some (.ref hd), some (.int pl), some (.ref ad), v] ∧ SLoop ps U p kvs as i ai ∧ SameX [hd, ad] H H1 ∧ H1 hd = some (.dK kvs) ∧ H1 ad = some (.dK (encA ai)))
        ⟨as, none, rfl, ⟨fun _ h => h, nda, hsub, fun _ h => by simp at h, fun b hb hn => absurd hb hn⟩, SameX.refl, hH, hA⟩ (fun i σ H1 _ hq__ => by obtain ⟨_, _, _, _, s1, _⟩ := hq__; exact s1.seq dk0 hr2) ?_ ?_
      · rintro i y σ H1 hi ⟨ai, v, rfl, sl, s1, hH1, hA1⟩
        obtain ⟨b, hb, rfl⟩ : ∃ b, p[i]? = some b ∧ y = V.int b := by
          rw [List.getElem?_map] at hi
          obtain ⟨b, h1, h2⟩ := Option.map_eq_some_iff.mp hi
          exact ⟨b, h1, h2.symm⟩
        have hbU : b ∈ U := hU p (List.mem_of_getElem? hp) b (List.mem_of_getElem? hb)
        have al : ai.length ≤ U.length := sl.nd.length_le_of_subset sl.sub
        have dk1 : ∀ x ∈ [hd, ad], IsDk H1 x := fun x hx => by
          simp only [List.mem_cons, List.not_mem_nil, or_false] at hx
          rcases hx with e | e <;> subst e
          · exact ⟨_, hH1⟩
          · exact ⟨_, hA1⟩
        refine ⟨_, rfl, _, rfl, ad, _, rfl, DGet.k (k := Sum.inl b) hA1, _, rfl, ?_⟩
        rw [encA_val]
        by_cases hba : b ∈ ai
        · rw [if_pos hba]
          exact iteF ⟨ai, _, rfl, sl.skip hb hba, s1, hH1, hA1⟩
        rw [if_neg hba]
        refine iteT ?_
        refine ⟨_, rfl, _, rfl, ad, _, rfl, DPut.k (k := Sum.inl b) hA1 (szn (by unfold encA; rw [List.length_map]; omega)), ?_⟩
        rw [encA_put hba]
        have hH2 : upd H1 ad (.dK (encA (ai ++ [b]))) hd = some (.dK kvs) := by rw [upd_ne hne]; exact hH1
        have s2 : SameX [hd, ad] H (upd H1 ad (.dK (encA (ai ++ [b])))) := s1.trans (SameX.upd (by simp))
        have dk2 : ∀ x ∈ [hd, ad], IsDk (upd H1 ad (.dK (encA (ai ++ [b])))) x := fun x hx => by
          simp only [List.mem_cons, List.not_mem_nil, or_false] at hx
          rcases hx with e | e <;> subst e
          · exact ⟨_, hH2⟩
          · exact ⟨_, upd_same⟩
        have kl := keys_le hU g nd
        refine ⟨_, rfl, _, rfl, hd, _, rfl, DGet.k (k := Sum.inl b) hH2, _, rfl, ?_⟩
        cases hv : valV kvs (Sum.inl b) with
        | none =>
          refine iteT (iteT ?_)
          refine ⟨_, rfl, _, rfl, _, rfl, hd, _, rfl, DPut.k (k := Sum.inl b) hH2 (szn (by omega)), ?_⟩
          refine q true _ (ai ++ [b]) _ (sl.free hp (hU p (List.mem_of_getElem? hp)) hb hba hv nd g) (s2.trans (SameX.upd (by simp))) upd_same ?_
          rw [upd_ne hne.symm]; exact upd_same
        | some vv =>
          obtain ⟨t, pt, rfl, ht, _⟩ := g.val hv
          have htl : t < ps.length := (List.getElem?_eq_some_iff.mp ht).1
          refine iteF ?_
          refine ⟨_, rfl, _, rfl, _, rfl, _, rfl, hd, _, rfl, (by rw [← hv]; exact DGet.k (k := Sum.inl b) hH2), _, rfl, ?_⟩
          refine ⟨a, hd, ad, rs, ps, U, t, kvs, ai ++ [b], rfl, s2.seq dk0 hS, hP.mono s2 dk0, htl, hU, hU60, hH2, upd_same, hne, nd, g, nd_snoc sl.nd hba, ?_, ?_, ?_⟩
          · intro c hc
            rcases List.mem_append.mp hc with z | z
            · exact sl.sub c z
            · rw [List.mem_singleton.mp z]; exact hbU
          · have := left_lt hbU hba sl.grow
            omega
          intro ok kvs2 as2 H3 st s3 hH3 hA3
          refine ⟨ok, rfl, ?_⟩
          cases ok with
          | false =>
            obtain ⟨e, sl2⟩ := sl.miss hb hba hv htl st
            subst e
            exact iteF ⟨as2, _, rfl, sl2, s2.trans s3, hH3, hA3⟩
          | true =>
            obtain ⟨n2, g2, _⟩ := st.yes rfl
            have kl2 := keys_le hU g2 n2
            refine iteT ?_
            refine ⟨_, rfl, _, rfl, _, rfl, hd, _, rfl, DPut.k (k := Sum.inl b) hH3 (szn (by omega)), ?_⟩
            refine q true _ as2 _ (sl.turn hp hb hba hv st) ((s2.trans s3).trans (SameX.upd (by simp))) upd_same ?_
            rw [upd_ne hne.symm]; exact hA3
      · rintro σ H1 ⟨ai, v, rfl, sl, s1, hH1, hA1⟩
        rw [List.length_map] at sl
        exact q false kvs ai H1 (sl.done hp) s1 hH1 hA1
  exact all 28
noncomputable def sp_short_places (K : PySem.W.Frag) : Sp := fun vs H Q _ => ∃ (hd ad : Addr) (pl : Nat) (kvs : HK) (as : List Int), vs = [.ref hd, .int pl, .ref ad] ∧ H hd = some (.dK kvs) ∧ H ad = some (.dK (encA as)) ∧ hd ≠ ad ∧ as.length ≤ 60 ∧
  (∀ b ∈ as, ∃ i : Int, valV kvs (Sum.inl b) = some (.int i)) ∧
  ∀ l (ms : List Int) H', SameX [ad] H H' → H l = none → H' l = some (.lst (ms.map V.int)) → ms.Perm ((pl : Int) :: as.map (hold kvs)) → ms.Pairwise (· ≤ ·) → Q (.ref l) H'
theorem sc_short_places : FnScope ["holders", "place", "asked"] ["holders", "place", "asked"] (defScope s_short_places) := ⟨rfl, rfl, rfl, by decide +kernel, rfl, by decide +kernel, by decide +kernel⟩
theorem ok_short_places (D : Dfs K mg aF dF) (T : Txt mg) : FnOk P w K mg base CX0 1 (aF 2) (dF 2) ["holders", "place", "asked"] (sp_short_places K) := by
  refine D.short_places.fn.ok sc_short_places (fun vs H Q E h => ?_) (fun cdv A outer s H vs Q E hr h => ?_)
  · obtain ⟨hd, ad, pl, kvs, as, rfl, _⟩ := h; rfl
  · have hu := hu_of hr
    obtain ⟨hd, ad, pl, kvs, as, rfl, hH, hA, hne, h60, hv, q⟩ := h
    refine ⟨_, (pss_one (ps_ret (pe_callB (cSorted K) (by rfl) T.z_sorted boot_sorted (pa_cons (pe_op op_cat (pe_lst (pa_cons (pv 1) pa_nil)) (pe_lcomp ["badge", "holders"] [none, some 0] rfl (pi_keys (pv 2)) (fun _ => pg_name (i := 0) (nodupN (N := ["badge", "holders"]) (by decide +kernel)) rfl (Or.inl rfl)) (fun _ => pif_nil) (fun _ => (pe_dget hu (pv 1) (pv 0) (fun _ _ => rfl))) ((.cons (fun _ e => by cases e) (.cons (fun _ e => by cases e; exact ⟨rfl, rfl⟩) .nil))))) pa_nil)))), ?_⟩
    refine ⟨_, rfl, szr, fun l1 n1 => ?_⟩
    have nl1 : ad ≠ l1 := ne_of_none hA n1
    refine ⟨_, rfl, ad, _, rfl, by rw [upd_ne nl1]; exact hA, fun φ => ?_⟩
    have hH1 : upd (upd H l1 (.lst [.int pl])) ad (.ext φ) hd = some (.dK kvs) := by rw [upd_ne hne, upd_ne (ne_of_none hH n1)]; exact hH
    refine comp_keys (kvs := encA as) (fun k => match k with | .inl b => .int (hold kvs b) | .inr _ => .non) (by unfold encA; rw [List.length_map]; omega) upd_same (fun i k v hi H2 R s2 kk => ?_) fun acc H2 s2 na hacc => ?_
    · obtain ⟨b, hb, e⟩ : ∃ b, b ∈ as ∧ (Sum.inl b, V.bl true) = (k, v) := by
        have m := List.mem_of_getElem? hi
        obtain ⟨b, hb, e⟩ := List.mem_map.mp m
        exact ⟨b, hb, e⟩
      cases e
      obtain ⟨z, hz⟩ := hv b hb
      refine ⟨_, rfl, _, rfl, hd, _, rfl, (by rw [← hz]; exact DGet.k (k := Sum.inl b) (s2 _ _ hH1)), ?_⟩
      have e := hold_of hz
      rw [← e]
      exact kk H2 (Same.refl _)
    have e1 : (encA as).map (fun p => match p.1 with | Sum.inl b => V.int (hold kvs b) | Sum.inr _ => V.non) = (as.map (hold kvs)).map V.int := by
      unfold encA
      rw [List.map_map, List.map_map]; rfl
    have hacc' : H2 acc = some (.lst ((as.map (hold kvs)).map V.int)) := hacc.trans (congrArg (fun z => some (HO.lst z)) e1)
    have hl2 : H2 l1 = some (.lst [.int pl]) := s2 _ _ (by rw [upd_ne nl1.symm]; exact upd_same)
    refine ⟨l1, acc, _, _, rfl, rfl, hl2, hacc', by rw [List.length_map, List.length_map]; exact szl (by show 1 + _ ≤ 1000; omega), fun l3 n3 => ?_⟩
    refine ⟨l3, (pl : Int) :: as.map (hold kvs), rfl, SqL.of upd_same, by rw [List.length_cons, List.length_map]; omega, fun l4 ms n4 hp hs => ?_⟩
    have sA : SameX [ad] H H2 := fun b o hb e => s2 b o (by rw [upd_ne (by simpa using hb), upd_ne (ne_of_none e n1)]; exact e)
    have n4' : H l4 = none := by
      cases z : H l4 with
      | none => rfl
      | some o =>
        by_cases hb : l4 = ad
        · have : upd H2 l3 (.lst (V.int (pl : Int) :: (as.map (hold kvs)).map V.int)) ad = none := hb ▸ n4
          rw [upd_ne (ne_of_none (s2 _ _ upd_same) n3), s2 _ _ upd_same] at this
          cases this
        · have z2 := sA l4 o (by simpa using hb) z
          have : upd H2 l3 (.lst (V.int (pl : Int) :: (as.map (hold kvs)).map V.int)) l4 = none := n4
          rw [upd_ne (ne_of_none z2 n3), z2] at this
          cases this
    refine q l4 ms _ ?_ n4' upd_same hp hs
    exact sA.trans (Same.x ((Same.new n3).to n4))
noncomputable def sp_hands_of (K : PySem.W.Frag) : Sp := fun vs H Q _ => ∃ (hd : Addr) (ps : List (List Int)) (kvs : HK), vs = [.ref hd, .int ps.length] ∧ H hd = some (.dK kvs) ∧ ps.length ≤ 60 ∧ Held ps kvs ps.length ∧
  ∀ l (hs : List Int) H', SameX [hd] H H' → H l = none → H' l = some (.lst (hs.map V.int)) → Deal ps hs → Q (.ref l) H'
theorem sc_hands_of : FnScope ["holders", "count", "hands", "badge", "place"] ["holders", "count"] (defScope s_hands_of) := ⟨rfl, rfl, rfl, by decide +kernel, rfl, by decide +kernel, by decide +kernel⟩
theorem ok_hands_of (D : Dfs K mg aF dF) (T : Txt mg) : FnOk P w K mg base CX0 1 (aF 3) (dF 3) ["holders", "count"] (sp_hands_of K) := by
  refine D.hands_of.fn.ok sc_hands_of (fun vs H Q E h => ?_) (fun cdv A outer s H vs Q E hr h => ?_)
  · obtain ⟨hd, ps, kvs, rfl, _⟩ := h; rfl
  · have hu := hu_of hr
    obtain ⟨hd, ps, kvs, rfl, hH, h60, he, q⟩ := h
    refine ⟨_, (pss_cons (ps_set (i := 2) sc_hands_of.nd rfl (Or.inl rfl) (pe_op op_rep (pe_lst (pa_cons pe_int pa_nil)) (pv 1)))
      (pss_cons (ps_for PassesOwn.never rfl (pi_items (pe_bm0 PySem.F.plainAttrs_dict PySem.F.slot_dict_items PySem.F.type_dict_items mt_items (pv 0))) (pgT K rfl (pgs_cons (pg_name (i := 3) sc_hands_of.nd rfl (Or.inl rfl)) (pgs_cons (pg_name (i := 4) sc_hands_of.nd rfl (Or.inl rfl)) pgs_nil)))
        (pss_one (ps_asg (pv 3) (pg_sub (pv 2) (pv 4) set_list))))
      (pss_one (ps_ret (pv 2))))), ?_⟩
    refine ⟨szr, fun l0 n0 => ⟨_, rfl, l0, _, _, rfl, rfl, upd_same, by omega, by omega, by show 1 * _ ≤ _; exact szl (by omega), fun l nl => ?_⟩⟩
    have el : (List.replicate ((ps.length : Int)).toNat [V.int 0]).flatten = (List.replicate ps.length (0 : Int)).map V.int := by
      have : ((ps.length : Int)).toNat = ps.length := by omega
      rw [this]
      generalize ps.length = m
      induction m with
      | zero => rfl
      | succ m ih => rw [List.replicate_succ, List.flatten_cons, ih, List.replicate_succ]; rfl
    rw [el]
    have nhd0 : hd ≠ l0 := ne_of_none hH n0
    have nhd : hd ≠ l := ne_of_none (show upd H l0 (.lst [.int 0]) hd = some _ by rw [upd_ne nhd0]; exact hH) nl
    have nl' : H l = none := by
      cases z : H l with
      | none => rfl
      | some o =>
        rw [upd_ne (ne_of_none z n0), z] at nl
        cases nl
    have hH1 : upd (upd H l0 (.lst [.int 0])) l (.lst ((List.replicate ps.length (0 : Int)).map V.int)) hd = some (.dK kvs) := by rw [upd_ne nhd, upd_ne nhd0]; exact hH
    refine ⟨_, rfl, .inr (.inr (.inl ⟨rfl, .inl ⟨_, hH1⟩⟩)), hd, kvs, rfl, rfl, hH1, fun v nv => ?_⟩
    have nvd : hd ≠ v := ne_of_none hH1 nv
    have nvl : l ≠ v := ne_of_none upd_same nv
    refine ⟨v, hd, kvs, rfl, upd_same, by rw [upd_ne nvd]; exact hH1, fun φ => ?_⟩
    refine for_items (fun i σ H1 => ∃ (hs : List Int) (x y : Option V), σ = [some (.ref hd), some (.int ps.length), some (.ref l), x, y] ∧ SameX [hd] H H1 ∧ H1 hd = some (.ext φ) ∧ H1 l = some (.lst (hs.map V.int)) ∧ hs.length = ps.length ∧
        ∀ j (b : Int) (t : Nat), j < i → kvs[j]? = some (Sum.inl b, V.int t) → hs[t]? = some b) ⟨List.replicate ps.length 0, none, none, rfl, ?_, upd_same, ?_, by rw [List.length_replicate], fun j b t h => by omega⟩ (fun i σ H1 _ hq__ => by obtain ⟨_, _, _, _, _, h, _⟩ := hq__; exact h) ?_ ?_
    · intro b o hb e
      have h1 : b ≠ hd := by simpa using hb
      rw [upd_ne h1, upd_ne (ne_of_none (show upd (upd H l0 _) l _ b = some o by rw [upd_ne (ne_of_none e nl'), upd_ne (ne_of_none e n0)]; exact e) nv), upd_ne (ne_of_none e nl'), upd_ne (ne_of_none e n0)]; exact e
    · rw [upd_ne nhd.symm, upd_ne nvl]; exact upd_same
    · rintro i k v' σ H1 p hi ⟨hs, x, y, rfl, s1, hx1, hl1, hlen, hin⟩ np
      obtain ⟨b, t, pl, e, e2, e3⟩ := he.good _ (List.mem_of_getElem? hi)
      cases e
      have ht : t < ps.length := (List.getElem?_eq_some_iff.mp e2).1
      have npl : l ≠ p := ne_of_none hl1 np
      refine ⟨p, _, rfl, SqT.of upd_same, rfl, _, _, rfl, _, _, rfl, rfl, ?_⟩
      refine ⟨_, rfl, _, rfl, _, rfl, l, _, _, t, rfl, rfl, by rw [upd_ne npl]; exact hl1, ?_, ?_⟩
      · unfold ixN
        rw [if_pos (by omega), if_pos (by rw [List.length_map]; omega)]
        congr 1
      refine ⟨hs.set t b, _, _, rfl, ?_, ?_, ?_, by rw [List.length_set]; exact hlen, fun j b' t' hj hj' => ?_⟩
      · intro c o hc e
        rw [upd_ne (ne_of_none e nl'), upd_ne (ne_of_none (s1 c o hc e) np)]; exact s1 c o hc e
      · rw [upd_ne nhd, upd_ne (ne_of_none hx1 np)]; exact hx1
      · rw [upd_same]; congr 1; congr 1
        rw [List.map_set]; rfl
      · by_cases hji : j = i
        · subst hji
          rw [hi] at hj'
          have z := Option.some.inj hj'
          injection z with z1 z2
          have z1 := Sum.inl.inj z1
          injection z2 with z2
          have : t = t' := by omega
          subst this z1
          rw [List.getElem?_set_self (by omega)]
        · have h1 := hin j b' t' (by omega) hj'
          have : t ≠ t' := fun z => by
            subst z
            have nd := he.vals
            have l1 : j < kvs.length := (List.getElem?_eq_some_iff.mp hj').1
            have l2 : i < kvs.length := (List.getElem?_eq_some_iff.mp hi).1
            rw [List.getElem?_eq_getElem l1] at hj'
            rw [List.getElem?_eq_getElem l2] at hi
            have e1 : (kvs.map (·.2))[j]'(by simpa using l1) = (kvs.map (·.2))[i]'(by simpa using l2) := by simp [Option.some.inj hj', Option.some.inj hi]
            exact hji ((List.getElem_inj nd).mp e1)
          rw [List.getElem?_set_ne this]; exact h1
    · rintro σ H1 ⟨hs, x, y, rfl, s1, hx1, hl1, hlen, hin⟩
      refine ⟨_, rfl, q l hs H1 s1 nl' hl1 (he.deal hlen fun b t m => ?_)⟩
      obtain ⟨j, hj, ej⟩ := List.mem_iff_getElem.mp m
      exact hin j b t hj (by rw [List.getElem?_eq_getElem hj, ej])
noncomputable def Told (H : Hp) (t : Addr) (ps : List (List Int)) : Prop := (∃ (l : Addr) (hs : List Int), H t = some (.tup [.str "dealt", .ref l]) ∧ H l = some (.lst (hs.map V.int)) ∧ Deal ps hs) ∨
  ∃ (l : Addr) (qs : List Nat), H t = some (.tup [.str "short", .ref l]) ∧ H l = some (.lst (qs.map fun (q : Nat) => V.int (q : Int))) ∧ Short ps qs
noncomputable def New (H H' : Hp) (t : Addr) : Prop := H t = none ∧ ∀ s l, H' t = some (.tup [.str s, .ref l]) → H l = none
noncomputable def sp_deal (K : PySem.W.Frag) : Sp := fun vs H Q _ => ∃ (a : Addr) (rs : List Addr) (ps : List (List Int)) (U : List Int), vs = [.ref a] ∧ SqL K H a (rs.map V.ref) ∧ PoolsL K H rs ps ∧ ps.length ≤ 6 ∧ (∀ p ∈ ps, ∀ b ∈ p, b ∈ U) ∧ U.length ≤ 26 ∧
  ∀ t H', Same H H' → New H H' t → Told H' t ps → Q (.ref t) H'
theorem sc_deal : FnScope ["pools", "holders", "place", "asked"] ["pools"] (defScope s_deal) := ⟨rfl, rfl, rfl, by decide +kernel, rfl, by decide +kernel, by decide +kernel⟩
theorem ok_deal (D : Dfs K mg aF dF) (T : Txt mg) : FnOk P w K mg base CX0 29 (aF 0) (dF 0) ["pools"] (sp_deal K) := by
  have Gsettle : FnOk P w K mg base CX0 28 (aF 1) (dF 1) ["pools", "holders", "place", "asked"] (sp_settle K) := ok_settle D T
  have Gshort_places : FnOk P w K mg base CX0 1 (aF 2) (dF 2) ["holders", "place", "asked"] (sp_short_places K) := ok_short_places D T
  have Ghands_of : FnOk P w K mg base CX0 1 (aF 3) (dF 3) ["holders", "count"] (sp_hands_of K) := ok_hands_of D T
  refine D.deal.fn.ok sc_deal (fun vs H Q E h => ?_) (fun cdv A outer s H vs Q E hr h => ?_)
  · obtain ⟨a, rs, ps, U, rfl, _⟩ := h; rfl
  · have hu := hu_of hr
    obtain ⟨a, rs, ps, U, rfl, hS, hP, h6, hU, hU26, q⟩ := h
    refine ⟨_, (pss_cons (ps_set (i := 1) sc_deal.nd rfl (Or.inl rfl) pe_dnewK)
      (pss_cons (ps_for PassesOwn.never rfl (pi_range1 rfl T.z_range (pa_cons (pe_callB (cLen K) (by rfl) T.z_len boot_len (pa_cons (pv 0) pa_nil)) pa_nil)) (pg_name (i := 2) sc_deal.nd rfl (Or.inl rfl))
        (pss_cons (ps_set (i := 3) sc_deal.nd rfl (Or.inl rfl) pe_dnewK)
        (pss_one (ps_if (pt_not (pt_val (pc D.settle Gsettle (hr.mono (by decide)) (pa_cons (pv 0) (pa_cons (pv 1) (pa_cons (pv 2) (pa_cons (pv 3) pa_nil)))))))
          (pss_one (ps_ret (pe_tup (pa_cons pe_str (pa_cons (pc D.short_places Gshort_places (hr.mono (by decide)) (pa_cons (pv 1) (pa_cons (pv 2) (pa_cons (pv 3) pa_nil)))) pa_nil)))))
          pss_nil))))
      (pss_one (ps_ret (pe_tup (pa_cons pe_str (pa_cons (pc D.hands_of Ghands_of (hr.mono (by decide)) (pa_cons (pv 1) (pa_cons (pe_callB (cLen K) (by rfl) T.z_len boot_len (pa_cons (pv 0) pa_nil)) pa_nil))) pa_nil))))))), ?_⟩
    intro hd nh
    have hl : rs.length = ps.length := Paired.length hP
    refine ⟨_, rfl, _, _, rfl, .inl ⟨_, (Same.new nh).seq hS, rfl⟩, _, rfl, lo62 _, by rw [List.length_map]; omega, ?_⟩
    rw [List.length_map, hl]
    have e0 : ((ps.length : Int)).toNat = ps.length := by omega
    rw [e0]
    refine for_range (n := ps.length) (fun i σ H1 => ∃ (kvs : HK) (x y : Option V), σ = [some (.ref a), some (.ref hd), x, y] ∧ Same H H1 ∧ H1 hd = some (.dK kvs) ∧ Held ps kvs i) ⟨[], none, none, rfl, Same.new nh, upd_same, Held.start⟩ ?_ ?_
    · rintro i σ H1 hi ⟨kvs, x, y, rfl, s1, hH1, he⟩
      intro ad na
      have hne : hd ≠ ad := ne_of_none hH1 na
      have na' : H ad = none := s1.free na
      refine ⟨_, rfl, _, rfl, _, rfl, _, rfl, ?_⟩
      have ei : (0 : Int) + (i : Int) = (i : Int) := by omega
      rw [ei]
      have s2 : Same H (upd H1 ad (.dK [])) := s1.to na
      have hH2 : upd H1 ad (.dK []) hd = some (.dK kvs) := by rw [upd_ne hne]; exact hH1
      refine ⟨a, hd, ad, rs, ps, U, i, kvs, [], rfl, s2.seq hS, hP.same s2, hi, hU, by omega, hH2, upd_same, hne, he.nd, he.good, List.nodup_nil, (fun _ h => by cases h), ?_, ?_⟩
      · have := List.length_filter_le (fun c => decide (c ∉ ([] : List Int))) U
        omega
      intro ok kvs' as' H3 st s3 hH3 hA3
      have fr : ∀ b o, H b = some o → b ∉ [hd, ad] := fun b o e m => by
        simp only [List.mem_cons, List.not_mem_nil, or_false] at m
        rcases m with z | z
        · rw [z, nh] at e; cases e
        · rw [z, na'] at e; cases e
      have s4 : Same H H3 := fun b o e => s3 b o (fr b o e) (s2 b o e)
      refine ⟨ok, rfl, ?_⟩
      cases ok with
      | true => exact iteF ⟨kvs', _, _, rfl, s4, hH3, he.next st⟩
      | false =>
        obtain ⟨e, h1, h2⟩ := st.no rfl
        subst e
        refine iteT ?_
        refine ⟨_, rfl, _, rfl, _, rfl, ?_⟩
        have al : as'.length ≤ U.length := st.nd.length_le_of_subset st.sub
        refine ⟨hd, ad, i, kvs', as', rfl, hH3, hA3, hne, by omega, fun b hb => ?_, fun l ms H4 s5 nl hl4 hp hs => ?_⟩
        · obtain ⟨t, _, e, _⟩ := h2 b hb (by simp)
          exact ⟨t, e⟩
        obtain ⟨qs, eq, sh⟩ := he.short hi st hp hs
        have s6 : Same H H4 := fun b o e => s5 b o (fun m => fr b o e (List.mem_cons_of_mem _ m)) (s4 b o e)
        refine ⟨szr, fun t nt => q t _ (s6.to nt) ⟨s6.free nt, fun s l' e => ?_⟩ (.inr ⟨l, qs, upd_same, ?_, sh⟩)⟩
        · rw [upd_same] at e
          cases e
          exact s4.free nl
        · rw [upd_ne (ne_of_none hl4 nt), hl4, eq, List.map_map]; rfl
    · rintro σ H1 ⟨kvs, x, y, rfl, s1, hH1, he⟩
      refine ⟨_, rfl, _, rfl, _, _, rfl, .inl ⟨_, s1.seq hS, rfl⟩, ?_⟩
      rw [List.length_map, hl]
      refine ⟨hd, ps, kvs, rfl, hH1, by omega, he, fun l hs H2 s2 nl hl2 dl => ?_⟩
      have s6 : Same H H2 := fun b o e => s2 b o (fun m => by
        rw [List.mem_singleton.mp m, nh] at e
        cases e) (s1 b o e)
      refine ⟨szr, fun t nt => q t _ (s6.to nt) ⟨s6.free nt, fun s l' e => ?_⟩ (.inl ⟨l, hs, upd_same, ?_, dl⟩)⟩
      · rw [upd_same] at e
        cases e
        exact s1.free nl
      · rw [upd_ne (ne_of_none hl2 nt)]; exact hl2
noncomputable def sp_nearest_badge (K : PySem.W.Frag) : Sp := fun vs H Q _ => ∃ (a pa da ra ka : Addr) (rs : List Addr) (rows : Rows) (ps : List Int) (ds as : List (Int × Int)) (R : List Nat), vs = [.ref a, .ref pa, .ref da, .ref ra, .ref ka] ∧ SqL K H a (rs.map V.ref) ∧ BillL H rs rows ∧ H pa = some (.lst (ps.map V.int)) ∧ H da = some (.dK (encP ds)) ∧ H ra = some (.lst (R.map fun (q : Nat) => V.int (q : Int))) ∧ H ka = some (.dK (encP as)) ∧ ps.length = rows.length ∧ (∀ q ∈ R, q < rows.length) ∧
  ∀ f v H', Near (cnd rows ps ds (as.map (·.1)) R) f → Same H H' → FndAt H H' f v → Q v H'
theorem sc_nearest_badge : FnScope ["pools", "prices", "dues", "reached", "askers", "found", "place", "badge", "cost", "gap"] ["pools", "prices", "dues", "reached", "askers"] (defScope s_nearest_badge) := ⟨rfl, rfl, rfl, by decide +kernel, rfl, by decide +kernel, by decide +kernel⟩
theorem ok_nearest_badge (D : Dfs K mg aF dF) (T : Txt mg) : FnOk P w K mg base CX0 1 (aF 6) (dF 6) ["pools", "prices", "dues", "reached", "askers"] (sp_nearest_badge K) := by
  refine D.nearest_badge.fn.ok sc_nearest_badge (fun vs H Q E h => ?_) (fun cdv A outer s H vs Q E hr h => ?_)
  · obtain ⟨a, pa, da, ra, ka, rs, rows, ps, ds, as, R, rfl, _⟩ := h; rfl
  · have hu := hu_of hr
    obtain ⟨a, pa, da, ra, ka, rs, rows, ps, ds, as, R, rfl, hS, hB, hp, hd, hr, hk, lp, lt, q⟩ := h
    refine ⟨_, (pss_cons (ps_set (i := 5) sc_nearest_badge.nd rfl (Or.inl rfl) pe_non)
      (pss_cons (ps_for PassesOwn.never rfl (piL K (pv 3)) (pg_name (i := 6) sc_nearest_badge.nd rfl (Or.inl rfl))
        (pss_one (ps_for PassesOwn.never rfl (piL K (pe_ix (ixL K) (pv 0) (pv 6) (fun _ _ => rfl))) (pgT K rfl (pgs_cons (pg_name (i := 7) sc_nearest_badge.nd rfl (Or.inl rfl)) (pgs_cons (pg_name (i := 8) sc_nearest_badge.nd rfl (Or.inl rfl)) pgs_nil)))
          (pss_cons (ps_set (i := 9) sc_nearest_badge.nd rfl (Or.inl rfl) (pe_op op_sub (pe_op op_add (pv 8) (pe_dget2 hu (pv 2) (pv 7) pe_int ⟨rfl, rfl, rfl, rfl⟩)) (pe_ix (ixL K) (pv 1) (pv 6) (fun _ _ => rfl))))
          (pss_one (ps_if (PW.pt (pw_and (pt_cmp (pc_dnotin hu (pv 7) (pv 4))) (pw_and1 (PW.pt (pw_or (pt_cmpR op_isN (pv 5) pe_non (nomark _)) (pw_or1 (pt_cmpR op_lt (pv 9) (pe_ix (ixT K) (pv 5) pe_int (fun _ _ => rfl)) (nomark _))))))))
            (pss_one (ps_set (i := 5) sc_nearest_badge.nd rfl (Or.inl rfl) (pe_tup (pa_cons (pv 9) (pa_cons (pv 7) (pa_cons (pv 6) pa_nil))))))
            pss_nil))))))
      (pss_one (ps_ret (pv 5))))), ?_⟩
    refine ⟨_, rfl, ra, rfl, ⟨_, SqL.of hr⟩, ?_⟩
    refine for_list (K := K) (a := ra) (xs := R.map fun (q : Nat) => V.int (q : Int)) (fun i σ H1 => ∃ f v x1 x2 x3 x4, σ = [some (.ref a), some (.ref pa), some (.ref da), some (.ref ra), some (.ref ka), some v, x1, x2, x3, x4] ∧ Same H H1 ∧ Near (cnd rows ps ds (as.map (·.1)) (R.take i)) f ∧ FndAt H H1 f v)
      ⟨none, .non, none, none, none, none, rfl, Same.refl _, Near.start, rfl⟩ (fun i σ H1 _ hq__ => by obtain ⟨_, _, _, _, _, _, _, s, _⟩ := hq__; exact s.seq (SqL.of hr)) ?_ ?_
    · rintro i v σ H1 hi ⟨f, v, x1, x2, x3, x4, rfl, s1, n1, fd1⟩
      rw [List.getElem?_map] at hi
      obtain ⟨k, hk1, rfl⟩ := Option.map_eq_some_iff.mp hi
      have kl := lt k (List.mem_of_getElem? hk1)
      have hrow : rows[k]? = some (rA rows k) := by unfold rA; rw [List.getD_eq_getElem?_getD, List.getElem?_eq_getElem kl]; rfl
      obtain ⟨r, hr1, pt, hpt, tps⟩ := (hB.same s1).at hrow
      refine ⟨_, rfl, _, rfl, a, _, _, _, rfl, rfl, s1.seq hS, atI_nat (by rw [List.getElem?_map, hr1]; rfl), r, rfl, ⟨_, SqL.of hpt⟩, ?_⟩
      rw [cnd_snoc hk1]
      refine for_list (K := K) (a := r) (xs := pt.map V.ref) (fun j σ H2 => ∃ f v x2 x3 x4, σ = [some (.ref a), some (.ref pa), some (.ref da), some (.ref ra), some (.ref ka), some v, some (.int (k : Int)), x2, x3, x4] ∧ Same H1 H2 ∧ Near (cnd rows ps ds (as.map (·.1)) (R.take i) ++ cndR ps ds (as.map (·.1)) k ((rA rows k).take j)) f ∧ FndAt H H2 f v)
        ⟨f, v, x2, x3, x4, rfl, Same.refl _, by rw [List.take_zero]; show Near (_ ++ []) f; rw [List.append_nil]; exact n1, fd1⟩ (fun i σ H2 _ hq__ => by obtain ⟨_, _, _, _, _, _, s, _⟩ := hq__; exact s.seq (SqL.of hpt)) ?_ ?_
      · rintro j v σ H2 hj ⟨f, v, x2, x3, x4, rfl, s2, n2, fd2⟩
        rw [List.getElem?_map] at hj
        obtain ⟨t, ht, rfl⟩ := Option.map_eq_some_iff.mp hj
        obtain ⟨x, hx, px⟩ := pair_at tps ht
        have s02 := s1.trans s2
        have px2 : H2 t = some (.tup [.int x.1, .int x.2]) := s2 _ _ px
        have hgd := DGet.k (k := Sum.inl x.1) (s02 _ _ hd)
        rw [encP_val] at hgd
        have hgk := DGet.k (k := Sum.inl x.1) (s02 _ _ hk)
        have ev : ((look ds x.1).map V.int).getD (V.int 0) = V.int (du ds x.1) := by unfold du; cases look ds x.1 <;> rfl
        refine ⟨t, _, rfl, SqT.of px2, rfl, _, _, rfl, _, _, rfl, rfl, ?_⟩
        refine ⟨_, rfl, _, rfl, da, rfl, .inl ⟨_, .inl (s02 _ _ hd)⟩, _, rfl, _, hgd, ?_⟩
        rw [ev]
        refine ⟨_, _, rfl, rfl, _, rfl, _, rfl, pa, _, _, _, rfl, rfl, SqL.of (s02 _ _ hp), atI_int (by omega), _, _, rfl, rfl, ?_⟩
        refine ⟨_, rfl, _, rfl, ka, _, rfl, hgk, _, rfl, ?_⟩
        rw [encP_in]
        by_cases hm : x.1 ∈ as.map (·.1)
        · rw [decide_eq_true hm]
          refine iteF (iteF ⟨f, v, _, _, _, rfl, s2, ?_, fd2⟩)
          rw [cndR_snoc hx, if_pos hm, List.append_nil]
          exact n2
        rw [decide_eq_false hm]
        refine iteT ?_
        have put : (∀ t, f = some t → x.2 + du ds x.1 - pA ps k < t.1) → ∀ p, H2 p = none → ∃ f v x2 x3 x4, [some (.ref a), some (.ref pa), some (.ref da), some (.ref ra), some (.ref ka), some (.ref p), some (.int (k : Int)), some (.int x.1), some (.int x.2), some (.int (x.2 + du ds x.1 - pA ps k))] = [some (V.ref a), some (.ref pa), some (.ref da), some (.ref ra), some (.ref ka), some v, some (.int (k : Int)), x2, x3, x4] ∧ Same H1 (upd H2 p (.tup [.int (x.2 + du ds x.1 - pA ps k), .int x.1, .int (k : Int)])) ∧
            Near (cnd rows ps ds (as.map (·.1)) (R.take i) ++ cndR ps ds (as.map (·.1)) k ((rA rows k).take (j + 1))) f ∧ FndAt H (upd H2 p (.tup [.int (x.2 + du ds x.1 - pA ps k), .int x.1, .int (k : Int)])) f v := fun hlt p np =>
          ⟨some (x.2 + du ds x.1 - pA ps k, x.1, k), .ref p, _, _, _, rfl, s2.to np, by
            rw [cndR_snoc hx, if_neg hm, ← List.append_assoc]
            exact n2.put hlt, p, rfl, s02.free np, upd_same⟩
        refine ⟨_, rfl, rfl, _, rfl, ?_⟩
        cases f with
        | none =>
          have ev2 : v = .non := fd2
          subst ev2
          refine iteT (iteT ?_)
          refine ⟨_, rfl, _, rfl, _, rfl, szr, fun p np => put (fun _ h => by cases h) p np⟩
        | some t0 =>
          obtain ⟨p0, ep, np0, hp0⟩ := fd2
          subst ep
          refine iteF ?_
          refine ⟨_, rfl, _, rfl, p0, _, _, _, rfl, rfl, SqT.of hp0, atI_nat (j := 0) rfl, _, _, rfl, rfl, _, rfl, ifD (fun hlt => ?_) fun hlt => ?_⟩
          · refine ⟨_, rfl, _, rfl, _, rfl, szr, fun p np => put (fun t h => ?_) p np⟩
            cases h
            exact hlt
          · refine ⟨some t0, _, _, _, _, rfl, s2, ?_, p0, rfl, np0, hp0⟩
            rw [cndR_snoc hx, if_neg hm, ← List.append_assoc]
            exact n2.keep hlt
      · rintro σ H2 ⟨f, v, x2, x3, x4, rfl, s2, n2, fd2⟩
        have el : (pt.map V.ref).length = (rA rows k).length := by rw [List.length_map]; exact Paired.length tps
        rw [el, List.take_length] at n2
        exact ⟨f, v, _, _, _, _, rfl, s1.trans s2, n2, fd2⟩
    · rintro σ H1 ⟨f, v, x1, x2, x3, x4, rfl, s1, n1, fd1⟩
      rw [List.length_map, List.take_length] at n1
      exact ⟨_, rfl, q f v H1 n1 s1 fd1⟩
noncomputable def sp_raise_all (K : PySem.W.Frag) : Sp := fun vs H Q _ => ∃ (x y : Addr) (g : Int), vs = [.ref x, .ref y, .int g] ∧ ((∃ (ps : List Int) (R : List Nat), H x = some (.lst (ps.map V.int)) ∧ H y = some (.lst (R.map fun (q : Nat) => V.int (q : Int))) ∧ x ≠ y ∧ R.Nodup ∧ (∀ q ∈ R, q < ps.length) ∧ ∀ ps', RaP R g ps ps' → Q .non (upd H x (.lst (ps'.map V.int)))) ∨
  ∃ (ds as : List (Int × Int)), H x = some (.dK (encP ds)) ∧ H y = some (.dK (encP as)) ∧ x ≠ y ∧ (as.map (·.1)).Nodup ∧ (∀ b ∈ as.map (·.1), b ∈ ds.map (·.1)) ∧ 0 ≤ g ∧ ds.length ≤ 1000 ∧ ∀ ds', RaD (as.map (·.1)) g ds ds' → Q .non (upd H x (.dK (encP ds'))))
theorem sc_raise_all : FnScope ["numbers", "keys", "gap", "key"] ["numbers", "keys", "gap"] (defScope s_raise_all) := ⟨rfl, rfl, rfl, by decide +kernel, rfl, by decide +kernel, by decide +kernel⟩
theorem ok_raise_all (D : Dfs K mg aF dF) (T : Txt mg) : FnOk P w K mg base CX0 1 (aF 7) (dF 7) ["numbers", "keys", "gap"] (sp_raise_all K) := by
  refine D.raise_all.fn.ok sc_raise_all (fun vs H Q E h => ?_) (fun cdv A outer s H vs Q E hr h => ?_)
  · obtain ⟨x, y, g, rfl, _⟩ := h; rfl
  · have hu := hu_of hr
    obtain ⟨x, y, g, rfl, h⟩ := h
    refine ⟨_, (pss_one (ps_or (ps_for PassesOwn.never rfl (piL K (pv 1)) (pg_name (i := 3) sc_raise_all.nd rfl (Or.inl rfl)) (pss_one (ps_augS (pv 0) (pv 3) (get_list K) (pv 2) ip_add set_list)))
      (ps_back (ps_for PassesOwn.never rfl (pi_keysB (pv 1)) (pg_name (i := 3) sc_raise_all.nd rfl (Or.inl rfl)) (pss_one (ps_daug hu (pv 0) (pv 3) (pv 2) in_add (fun _ _ _ => rfl))))))), ?_⟩
    rcases h with ⟨ps, R, hx, hy, hne, nd, lt, q⟩ | ⟨ds, as, hx, hy, hne, nd, sub, g0, hz, q⟩
    · refine .inl ⟨_, rfl, y, rfl, ⟨_, SqL.of hy⟩, ?_⟩
      refine for_list (K := K) (a := y) (xs := R.map fun (q : Nat) => V.int (q : Int)) (fun i σ H1 => ∃ v ps', σ = [some (.ref x), some (.ref y), some (.int g), v] ∧ RaP (R.take i) g ps ps' ∧ H1 = upd H x (.lst (ps'.map V.int)))
        ⟨none, ps, rfl, by rw [List.take_zero]; exact RaP.start, (upd_id hx).symm⟩ (fun i σ H1 _ hq__ => by obtain ⟨_, _, _, _, e⟩ := hq__; exact by rw [e]; exact SqL.of (by rw [upd_ne hne.symm]; exact hy)) ?_ ?_
      · rintro i v σ H1 hi ⟨v0, ps', rfl, r, rfl⟩
        rw [List.getElem?_map] at hi
        obtain ⟨k, hk, rfl⟩ := Option.map_eq_some_iff.mp hi
        have kl : k < ps'.length := by rw [r.lp]; exact lt k (List.mem_of_getElem? hk)
        refine ⟨_, rfl, _, rfl, x, ps'.map V.int, _, .int (pA ps' k), rfl, rfl, by omega, SqL.of upd_same, ?_, _, rfl, _, _, rfl, rfl, x, _, _, k, rfl, rfl, upd_same, ixN_natE (by rw [List.length_map]; exact kl), ?_⟩
        · exact atI_int kl
        · refine ⟨_, ps'.set k (pA ps' k + g), rfl, ?_, by rw [upd_upd, List.map_set]⟩
          rw [take_snoc hk]
          exact r.step (nodup_take nd hk) (by rw [← r.lp]; exact kl)
      · rintro σ H1 ⟨v0, ps', rfl, r, rfl⟩
        rw [List.length_map, List.take_length] at r
        exact q ps' r
    · refine .inr ⟨_, rfl, y, _, rfl, hy, fun φ hφ => ?_⟩
      refine for_keys (φ := φ) (d := y) (kvs := encP as) (fun i σ H1 => ∃ v ds', σ = [some (.ref x), some (.ref y), some (.int g), v] ∧ RaD ((as.map (·.1)).take i) g ds ds' ∧ ds'.length = ds.length ∧ H1 = upd (upd H y (.ext φ)) x (.dK (encP ds')))
        ⟨none, ds, rfl, by rw [List.take_zero]; exact RaD.start, rfl, (upd_id (by rw [upd_ne hne]; exact hx)).symm⟩ (fun i σ H1 _ hq__ => by obtain ⟨_, _, _, _, _, e⟩ := hq__; exact by rw [e, upd_ne hne.symm]; exact upd_same) ?_ ?_
      · rintro i k v σ H1 hi ⟨v0, ds', rfl, r, ld, rfl⟩
        unfold encP at hi
        rw [List.getElem?_map] at hi
        obtain ⟨p, hp, e⟩ := Option.map_eq_some_iff.mp hi
        cases e
        have hk : (as.map (·.1))[i]? = some p.1 := by rw [List.getElem?_map, hp]; rfl
        have hb : p.1 ∈ ds.map (·.1) := sub _ (List.mem_of_getElem? hk)
        have hb' : p.1 ∈ ds'.map (·.1) := by rw [r.ky]; exact hb
        refine ⟨_, rfl, _, rfl, x, .int (du ds' p.1), rfl, ?_, _, rfl, _, _, rfl, rfl, _, DPut.k (k := Sum.inl p.1) upd_same (szn (by unfold encP; rw [List.length_map]; omega)), ?_⟩
        · have := DGet.k (k := Sum.inl p.1) (show upd (upd H y (.ext φ)) x (.dK (encP ds')) x = some (.dK (encP ds')) from upd_same)
          rw [encP_val, look_key hb'] at this
          exact this
        · refine ⟨_, putD ds' p.1 (du ds' p.1 + g), rfl, ?_, ?_, by rw [upd_upd, encP_put]⟩
          · rw [take_snoc hk]
            exact r.step g0 (nodup_take nd hk) hb
          · have := congrArg List.length (putD_keys (d := du ds' p.1 + g) hb')
            rw [List.length_map, List.length_map] at this
            omega
      · rintro σ H1 ⟨v0, ds', rfl, r, ld, rfl⟩
        rw [show (encP as).length = (as.map (·.1)).length by unfold encP; rw [List.length_map, List.length_map], List.take_length] at r
        refine ⟨y, _, φ, hφ, by rw [upd_ne hne.symm]; exact upd_same, ?_⟩
        rw [upd_comm hne, upd_upd, upd_id (show upd H x (.dK (encP ds')) y = some (.dK (encP as)) by rw [upd_ne hne.symm]; exact hy)]
        exact q ds' r
noncomputable def sp_hand_on (K : PySem.W.Frag) : Sp := fun vs H Q _ => ∃ (ha ka : Addr) (rows : Rows) (hs0 : List (Option Int)) (ps : List Int) (ds : List (Int × Int)) (i t : Nat) (R : List Nat) (A : List (Int × Nat)) (b0 : Int), vs = [.ref ha, .ref ka, .int b0] ∧ H ha = some (.lst (hs0.map oV)) ∧ H ka = some (.dK (encP (asI A))) ∧ ha ≠ ka ∧ (A.map (·.1)).Nodup ∧ PTop rows hs0 ps ds i R A ∧ POn rows hs0 hs0 ps ds i R A b0 b0 t ∧
  ∀ hs, Handed rows hs0 ps ds i b0 hs → Q .non (upd H ha (.lst (hs.map oV)))
theorem sc_hand_on : FnScope ["hands", "askers", "badge", "place", "given"] ["hands", "askers", "badge"] (defScope s_hand_on) := ⟨rfl, rfl, rfl, by decide +kernel, rfl, by decide +kernel, by decide +kernel⟩
theorem ok_hand_on (D : Dfs K mg aF dF) (T : Txt mg) : FnOk P w K mg base CX0 1 (aF 8) (dF 8) ["hands", "askers", "badge"] (sp_hand_on K) := by
  refine D.hand_on.fn.ok sc_hand_on (fun vs H Q E h => ?_) (fun cdv A outer s H vs Q E hr h => ?_)
  · obtain ⟨ha, ka, rows, hs0, ps, ds, i, t, R, A, b0, rfl, _⟩ := h; rfl
  · have hu := hu_of hr
    obtain ⟨ha, ka, rows, hs0, ps, ds, i, t, R, A, b0, rfl, hh, hk, hne, nd, T, O, q⟩ := h
    refine ⟨_, (pss_one (ps_while PassesOwn.never (pt_cmpR op_notN (pv 2) pe_non (nomark _))
        (pss_cons (ps_set (i := 3) sc_hand_on.nd rfl (Or.inl rfl) (pe_dget hu (pv 1) (pv 2) (fun _ _ => rfl)))
        (pss_cons (ps_set (i := 4) sc_hand_on.nd rfl (Or.inl rfl) (pe_ix (ixL K) (pv 0) (pv 3) (fun _ _ => rfl)))
        (pss_cons (ps_asg (pv 2) (pg_sub (pv 0) (pv 3) set_list))
        (pss_one (ps_set (i := 2) sc_hand_on.nd rfl (Or.inl rfl) (pv 4)))))))), ?_⟩
    refine ⟨fun m σ H1 => ∃ hs v x3 x4, σ = [some (.ref ha), some (.ref ka), some v, x3, x4] ∧ H1 = upd H ha (.lst (hs.map oV)) ∧ ((∃ b t, v = .int b ∧ m = t + 1 ∧ POn rows hs0 hs ps ds i R A b0 b t) ∨ (v = .non ∧ Handed rows hs0 ps ds i b0 hs)), ⟨t + 1, hs0, _, none, none, rfl, (upd_id hh).symm, .inl ⟨b0, t, rfl, rfl, O⟩⟩, ?_⟩
    rintro m σ H1 ⟨hs, v, x3, x4, rfl, rfl, h⟩
    rcases h with ⟨b, t, rfl, rfl, O⟩ | ⟨rfl, hd⟩
    · obtain ⟨p, hp⟩ := O.at'
      obtain ⟨pl, st⟩ := hand_step T O hp
      refine ⟨_, rfl, rfl, _, rfl, iteT ?_⟩
      refine ⟨fun σ' H' => ∃ m', m' < t + 1 ∧ ∃ hs v x3 x4, σ' = [some (.ref ha), some (.ref ka), some v, x3, x4] ∧ H' = upd H ha (.lst (hs.map oV)) ∧ ((∃ b t, v = .int b ∧ m' = t + 1 ∧ POn rows hs0 hs ps ds i R A b0 b t) ∨ (v = .non ∧ Handed rows hs0 ps ds i b0 hs)), fun σ' H' h => h, ?_⟩
      have hgk := DGet.k (k := Sum.inl b) (show upd H ha (.lst (hs.map oV)) ka = some (.dK (encP (asI A))) by rw [upd_ne hne.symm]; exact hk)
      rw [encP_val, asI_look nd hp] at hgk
      refine ⟨_, rfl, _, rfl, ka, _, rfl, hgk, ?_⟩
      refine ⟨_, rfl, _, rfl, ha, _, _, _, rfl, rfl, SqL.of upd_same, oV_at pl, ?_⟩
      refine ⟨_, rfl, _, rfl, _, rfl, ha, _, _, p, rfl, rfl, upd_same, ixN_natE (by rw [List.length_map]; exact pl), ?_⟩
      refine ⟨_, rfl, ?_⟩
      have eu : upd (upd H ha (.lst (hs.map oV))) ha (.lst ((hs.map oV).set p (.int b))) = upd H ha (.lst ((hs.set p (some b)).map oV)) := by
        rw [upd_upd, List.map_set]; rfl
      rw [eu]
      cases e : hA hs p with
      | none =>
        rw [e] at st
        obtain ⟨_, h1, h2, h3, h4⟩ := st
        exact ⟨0, by omega, hs.set p (some b), .non, _, _, rfl, rfl, .inr ⟨rfl, by rw [List.length_set]; exact O.lh, h1, h2, h3, h4⟩⟩
      | some c =>
        rw [e] at st
        obtain ⟨u, hu, O2⟩ := st
        exact ⟨u + 1, by omega, hs.set p (some b), .int c, _, _, rfl, rfl, .inl ⟨c, u, rfl, rfl, O2⟩⟩
    · refine ⟨_, rfl, rfl, _, rfl, iteF ?_⟩
      exact q hs hd
structure Reps (rows : Rows) (rep : List Int) : Prop where
  len : rep.length = rows.length
  nd : rep.Nodup
  mem : ∀ (j : Nat) b, rep[j]? = some b → b ∈ keysOf (rA rows j)
noncomputable def sp_serve (K : PySem.W.Frag) : Sp := fun vs H Q _ => ∃ (H0 : Hp) (a ha pa da : Addr) (rs : List Addr) (rows : Rows) (hs : List (Option Int)) (ps : List Int) (ds : List (Int × Int)) (i : Nat) (rep : List Int), vs = [.ref a, .ref ha, .ref pa, .ref da, .int (i : Int)] ∧ Same H0 H ∧ H0 ha = none ∧ H0 pa = none ∧ H0 da = none ∧ SqL K H0 a (rs.map V.ref) ∧ BillL H0 rs rows ∧ rows.length ≤ 60 ∧ (∀ row ∈ rows, (row.map (·.1)).Nodup) ∧ Reps rows rep ∧
  H ha = some (.lst (hs.map oV)) ∧ H pa = some (.lst (ps.map V.int)) ∧ H da = some (.dK (encP ds)) ∧ ha ≠ pa ∧ PInv rows hs ps ds ∧ hA hs i = none ∧ i < rows.length ∧
  ∀ hs' ps' ds' H', Same H0 H' → H' ha = some (.lst (hs'.map oV)) → H' pa = some (.lst (ps'.map V.int)) → H' da = some (.dK (encP ds')) → PInv rows hs' ps' ds' → (∀ j, hA hs' j = none ↔ (hA hs j = none ∧ j ≠ i)) → Q .non H'
theorem sc_serve : FnScope ["pools", "hands", "prices", "dues", "place", "reached", "askers", "nearest", "badge"] ["pools", "hands", "prices", "dues", "place"] (defScope s_serve) := ⟨rfl, rfl, rfl, by decide +kernel, rfl, by decide +kernel, by decide +kernel⟩
theorem ok_serve (D : Dfs K mg aF dF) (T : Txt mg) : FnOk P w K mg base CX0 2 (aF 5) (dF 5) ["pools", "hands", "prices", "dues", "place"] (sp_serve K) := by
  have Gnearest_badge : FnOk P w K mg base CX0 1 (aF 6) (dF 6) ["pools", "prices", "dues", "reached", "askers"] (sp_nearest_badge K) := ok_nearest_badge D T
  have Graise_all : FnOk P w K mg base CX0 1 (aF 7) (dF 7) ["numbers", "keys", "gap"] (sp_raise_all K) := ok_raise_all D T
  have Ghand_on : FnOk P w K mg base CX0 1 (aF 8) (dF 8) ["hands", "askers", "badge"] (sp_hand_on K) := ok_hand_on D T
  refine D.serve.fn.ok sc_serve (fun vs H Q E h => ?_) (fun cdv A outer s H vs Q E hr h => ?_)
  · obtain ⟨H0, a, ha, pa, da, rs, rows, hs, ps, ds, i, rep, rfl, _⟩ := h; rfl
  · have hu := hu_of hr
    obtain ⟨H0, a, ha, pa, da, rs, rows, hs, ps, ds, i, rep, rfl, s0, na, np, nda, hS, hB, r60, rn, rp, hh, hp, hd, hap, I, fr, il, q⟩ := h
    refine ⟨_, (pss_cons (ps_set (i := 5) sc_serve.nd rfl (Or.inl rfl) (pe_lst (pa_cons (pv 4) pa_nil)))
      (pss_cons (ps_set (i := 6) sc_serve.nd rfl (Or.inl rfl) pe_dnewK)
      (pss_one (ps_while PassesOwn.never (pt_val pe_bl)
        (pss_cons (ps_set (i := 7) sc_serve.nd rfl (Or.inl rfl) (pc D.nearest_badge Gnearest_badge (hr.mono (by decide)) (pa_cons (pv 0) (pa_cons (pv 2) (pa_cons (pv 3) (pa_cons (pv 5) (pa_cons (pv 6) pa_nil)))))))
        (pss_cons (ps_expr (pc D.raise_all Graise_all (hr.mono (by decide)) (pa_cons (pv 2) (pa_cons (pv 5) (pa_cons (pe_ix (ixT K) (pv 7) pe_int (fun _ _ => rfl)) pa_nil)))))
        (pss_cons (ps_expr (pc D.raise_all Graise_all (hr.mono (by decide)) (pa_cons (pv 3) (pa_cons (pv 6) (pa_cons (pe_ix (ixT K) (pv 7) pe_int (fun _ _ => rfl)) pa_nil)))))
        (pss_cons (ps_set (i := 8) sc_serve.nd rfl (Or.inl rfl) (pe_ix (ixT K) (pv 7) pe_int (fun _ _ => rfl)))
        (pss_cons (ps_dput hu (pv 6) (pv 8) (pe_ix (ixT K) (pv 7) pe_int (fun _ _ => rfl)) rfl)
        (pss_cons (ps_if (pt_cmpR (ninS K) (pv 8) (pv 1) (by with_unfolding_all rfl))
          (pss_cons (ps_expr (pc D.hand_on Ghand_on (hr.mono (by decide)) (pa_cons (pv 1) (pa_cons (pv 6) (pa_cons (pv 8) pa_nil)))))
          (pss_one ps_retN))
          pss_nil)
        (pss_cons (ps_expr (pe_bm PySem.F.plainAttrs_dict PySem.F.slot_dict_setdefault PySem.F.type_dict_setdefault mt_setdefault (pv 3) (pa_cons (pv 8) (pa_cons pe_int pa_nil))))
        (pss_one (ps_expr (pe_bm PySem.F.plainAttrs_list PySem.F.slot_list_append PySem.F.type_list_append mt_append (pv 5) (pa_cons (pe_bm PySem.F.plainAttrs_list PySem.F.slot_list_index PySem.F.type_list_index mt_indexF (pv 1) (pa_cons (pv 8) pa_nil)) pa_nil))))))))))))))), ?_⟩
    have nad : ha ≠ da := fun e => by rw [e, hd] at hh; cases hh
    have npd : pa ≠ da := fun e => by rw [e, hd] at hp; cases hp
    refine ⟨_, rfl, szr, fun ra nra => ?_⟩
    intro ka nka
    have n0ra : H0 ra = none := s0.free nra
    have s1 : Same H0 (upd H ra (.lst [.int (i : Int)])) := s0.to nra
    have n0ka : H0 ka = none := s1.free nka
    have ne1 : ha ≠ ra := ne_of_none hh nra
    have ne2 : pa ≠ ra := ne_of_none hp nra
    have ne3 : da ≠ ra := ne_of_none hd nra
    have ne4 : ra ≠ ka := ne_of_none upd_same nka
    have ne5 : ha ≠ ka := ne_of_none (show upd H ra (.lst [.int (i : Int)]) ha = some _ by rw [upd_ne ne1]; exact hh) nka
    have ne6 : pa ≠ ka := ne_of_none (show upd H ra (.lst [.int (i : Int)]) pa = some _ by rw [upd_ne ne2]; exact hp) nka
    have ne7 : da ≠ ka := ne_of_none (show upd H ra (.lst [.int (i : Int)]) da = some _ by rw [upd_ne ne3]; exact hd) nka
    refine ⟨fun m σ H1 => ∃ ps ds R A x7 x8, σ = [some (.ref a), some (.ref ha), some (.ref pa), some (.ref da), some (.int (i : Int)), some (.ref ra), some (.ref ka), x7, x8] ∧ m = rows.length + 1 - R.length ∧ Same H0 H1 ∧ H1 ha = some (.lst (hs.map oV)) ∧ H1 pa = some (.lst (ps.map V.int)) ∧ H1 da = some (.dK (encP ds)) ∧ H1 ra = some (.lst (R.map fun (q : Nat) => V.int (q : Int))) ∧ H1 ka = some (.dK (encP (asI A))) ∧ PInv rows hs ps ds ∧ PTree rows hs ps ds i R A,
      ⟨_, ps, ds, [i], [], none, none, rfl, rfl, s1.to nka, by rw [upd_ne ne5, upd_ne ne1]; exact hh, by rw [upd_ne ne6, upd_ne ne2]; exact hp, by rw [upd_ne ne7, upd_ne ne3]; exact hd, by rw [upd_ne ne4]; exact upd_same, upd_same, I, PTree.start fr il⟩, ?_⟩
    rintro m σ H1 ⟨ps, ds, R, A, x7, x8, rfl, rfl, s1, hh, hp, hd, hr, hk, I, T⟩
    refine ⟨_, rfl, iteT ?_⟩
    refine ⟨fun σ' H' => ∃ m', m' < rows.length + 1 - R.length ∧ ∃ ps ds R A x7 x8, σ' = [some (.ref a), some (.ref ha), some (.ref pa), some (.ref da), some (.int (i : Int)), some (.ref ra), some (.ref ka), x7, x8] ∧ m' = rows.length + 1 - R.length ∧ Same H0 H' ∧ H' ha = some (.lst (hs.map oV)) ∧ H' pa = some (.lst (ps.map V.int)) ∧ H' da = some (.dK (encP ds)) ∧ H' ra = some (.lst (R.map fun (q : Nat) => V.int (q : Int))) ∧ H' ka = some (.dK (encP (asI A))) ∧ PInv rows hs ps ds ∧ PTree rows hs ps ds i R A, fun σ' H' h => h, ?_⟩
    refine ⟨_, rfl, _, rfl, _, rfl, _, rfl, _, rfl, ?_⟩
    refine ⟨a, pa, da, ra, ka, rs, rows, ps, ds, asI A, R, rfl, s1.seq hS, hB.same s1, hp, hd, hr, hk, I.lp, T.lt, fun f v H2 nr s12 fd => ?_⟩
    rw [asI_keys] at nr
    have s2 := s1.trans s12
    have hh := s12 _ _ hh
    have hp := s12 _ _ hp
    have hd := s12 _ _ hd
    have hr := s12 _ _ hr
    have hk := s12 _ _ hk
    clear s12 s1
    cases f with
    | none =>
      obtain ⟨p', hp', x, hx, hn⟩ := more_there T rp.len rp.nd rp.mem
      have : (x.2 + du ds x.1 - pA ps p', x.1, p') ∈ cnd rows ps ds (A.map (·.1)) R := mem_cnd.mpr ⟨p', hp', x, hx, hn, rfl⟩
      rw [nr.no rfl] at this
      cases this
    | some fnd =>
    obtain ⟨g, b, p⟩ := fnd
    obtain ⟨t, rfl, nt, ht⟩ := fd
    obtain ⟨pR, bA, g0, mn, tgt⟩ := near_some I T rn nr
    have tp : t ≠ pa := fun e => by rw [e, hp] at ht; cases ht
    have td : t ≠ da := fun e => by rw [e, hd] at ht; cases ht
    have tk : t ≠ ka := fun e => by rw [e, hk] at ht; cases ht
    refine ⟨_, rfl, _, rfl, _, rfl, t, _, _, _, rfl, rfl, SqT.of ht, atI_nat (j := 0) rfl, ?_⟩
    refine ⟨pa, ra, g, rfl, .inl ⟨ps, R, hp, hr, ne2, T.rnd, fun q hq => by rw [I.lp]; exact T.lt q hq, fun ps' rps => ?_⟩⟩
    have s3 : Same H0 (upd H2 pa (.lst (ps'.map V.int))) := s2.put np
    have hh : upd H2 pa (.lst (ps'.map V.int)) ha = some (.lst (hs.map oV)) := by rw [upd_ne hap]; exact hh
    have hd : upd H2 pa (.lst (ps'.map V.int)) da = some (.dK (encP ds)) := by rw [upd_ne npd.symm]; exact hd
    have hr : upd H2 pa (.lst (ps'.map V.int)) ra = some (.lst (R.map fun (q : Nat) => V.int (q : Int))) := by rw [upd_ne ne2.symm]; exact hr
    have hk : upd H2 pa (.lst (ps'.map V.int)) ka = some (.dK (encP (asI A))) := by rw [upd_ne ne6.symm]; exact hk
    have ht : upd H2 pa (.lst (ps'.map V.int)) t = some (.tup [.int g, .int b, .int (p : Int)]) := by rw [upd_ne tp]; exact ht
    have hp : upd H2 pa (.lst (ps'.map V.int)) pa = some (.lst (ps'.map V.int)) := upd_same
    generalize upd H2 pa (.lst (ps'.map V.int)) = H3 at s3 hh hd hr hk ht hp
    refine ⟨_, rfl, _, rfl, _, rfl, t, _, _, _, rfl, rfl, SqT.of ht, atI_nat (j := 0) rfl, ?_⟩
    have dl := I.dlen
    refine ⟨da, ka, g, rfl, .inr ⟨ds, asI A, hd, hk, ne7, by rw [asI_keys]; exact T.nd, fun c hc => ?_, g0, by omega, fun ds' rds => ?_⟩⟩
    · rw [asI_keys] at hc
      obtain ⟨x, hx, e⟩ := List.mem_map.mp hc
      rw [← e]
      exact T.keys x hx
    rw [asI_keys] at rds
    have W := raised_of rps rds
    obtain ⟨I, T⟩ := raise_ok I T g0 mn W
    have tg := tgt ps' ds' W
    clear tgt mn nr W rds rps
    have s4 : Same H0 (upd H3 da (.dK (encP ds'))) := s3.put nda
    have hh : upd H3 da (.dK (encP ds')) ha = some (.lst (hs.map oV)) := by rw [upd_ne nad]; exact hh
    have hr : upd H3 da (.dK (encP ds')) ra = some (.lst (R.map fun (q : Nat) => V.int (q : Int))) := by rw [upd_ne ne3.symm]; exact hr
    have hk : upd H3 da (.dK (encP ds')) ka = some (.dK (encP (asI A))) := by rw [upd_ne ne7.symm]; exact hk
    have ht : upd H3 da (.dK (encP ds')) t = some (.tup [.int g, .int b, .int (p : Int)]) := by rw [upd_ne td]; exact ht
    have hp : upd H3 da (.dK (encP ds')) pa = some (.lst (ps'.map V.int)) := by rw [upd_ne npd]; exact hp
    have hd : upd H3 da (.dK (encP ds')) da = some (.dK (encP ds')) := upd_same
    generalize upd H3 da (.dK (encP ds')) = H4 at s4 hh hd hr hk ht hp
    have dl := I.dlen
    have tl := T.len
    have tle := T.le
    refine ⟨_, rfl, t, _, _, _, rfl, rfl, SqT.of ht, atI_nat (j := 1) rfl, ?_⟩
    refine ⟨_, rfl, t, _, _, _, rfl, rfl, SqT.of ht, atI_nat (j := 2) rfl, _, rfl, _, rfl, ka, _, rfl, DPut.k (k := Sum.inl b) hk (szn (by unfold encP asI; rw [List.length_map, List.length_map]; omega)), ?_⟩
    rw [asI_put bA]
    have s5 : Same H0 (upd H4 ka (.dK (encP (asI (A ++ [(b, p)]))))) := s4.put n0ka
    have hh : upd H4 ka (.dK (encP (asI (A ++ [(b, p)])))) ha = some (.lst (hs.map oV)) := by rw [upd_ne ne5]; exact hh
    have hr : upd H4 ka (.dK (encP (asI (A ++ [(b, p)])))) ra = some (.lst (R.map fun (q : Nat) => V.int (q : Int))) := by rw [upd_ne ne4]; exact hr
    have hp : upd H4 ka (.dK (encP (asI (A ++ [(b, p)])))) pa = some (.lst (ps'.map V.int)) := by rw [upd_ne ne6]; exact hp
    have hd : upd H4 ka (.dK (encP (asI (A ++ [(b, p)])))) da = some (.dK (encP ds')) := by rw [upd_ne ne7]; exact hd
    have hk : upd H4 ka (.dK (encP (asI (A ++ [(b, p)])))) ka = some (.dK (encP (asI (A ++ [(b, p)])))) := upd_same
    generalize upd H4 ka (.dK (encP (asI (A ++ [(b, p)])))) = H5 at s5 hh hd hr hk hp
    have nd' : ((A ++ [(b, p)]).map (·.1)).Nodup := by
      rw [List.map_append]
      exact nd_snoc T.nd bA
    refine ⟨_, rfl, _, rfl, ha, _, rfl, .inl (SqL.of hh), rfl, oV_flat hs, _, rfl, ?_⟩
    rw [if_pos rfl]
    by_cases hin : ∃ j, hA hs j = some b
    · rw [oV_in.mpr hin]
      refine iteF ?_
      obtain ⟨j, hj⟩ := hin
      have jl := hA_lt hj
      have recu : ∀ (ds'' : List (Int × Int)) (H6 : Hp), ds'' = (if b ∈ ds'.map (·.1) then ds' else ds' ++ [(b, 0)]) → Same H0 H6 → H6 ha = some (.lst (hs.map oV)) → H6 pa = some (.lst (ps'.map V.int)) → H6 da = some (.dK (encP ds'')) → H6 ra = some (.lst ((R ++ [j]).map fun (q : Nat) => V.int (q : Int))) → H6 ka = some (.dK (encP (asI (A ++ [(b, p)])))) →
          ∃ m', m' < rows.length + 1 - R.length ∧ ∃ ps ds R A x7 x8, [some (V.ref a), some (.ref ha), some (.ref pa), some (.ref da), some (.int (i : Int)), some (.ref ra), some (.ref ka), some (.ref t), some (.int b)] = [some (.ref a), some (.ref ha), some (.ref pa), some (.ref da), some (.int (i : Int)), some (.ref ra), some (.ref ka), x7, x8] ∧ m' = rows.length + 1 - R.length ∧ Same H0 H6 ∧ H6 ha = some (.lst (hs.map oV)) ∧ H6 pa = some (.lst (ps.map V.int)) ∧ H6 da = some (.dK (encP ds)) ∧ H6 ra = some (.lst (R.map fun (q : Nat) => V.int (q : Int))) ∧ H6 ka = some (.dK (encP (asI A))) ∧ PInv rows hs ps ds ∧ PTree rows hs ps ds i R A := fun ds'' H6 e s h1 h2 h3 h4 h5 => by
        obtain ⟨I2, T2⟩ := extend_ok I T pR bA tg hj e
        exact ⟨_, by rw [List.length_append, List.length_singleton]; omega, ps', ds'', R ++ [j], A ++ [(b, p)], _, _, rfl, rfl, s, h1, h2, h3, h4, h5, I2, T2⟩
      have hj' : (hs.map oV)[j]? = some (oV (some b)) := by rw [List.getElem?_map, hA_get hj]; rfl
      have first : ∀ m z, m < j → (hs.map oV)[m]? = some z → eqV z (.int b) = false := fun m z hm hz => by
        rw [List.getElem?_map] at hz
        obtain ⟨o, ho, rfl⟩ := Option.map_eq_some_iff.mp hz
        rw [oV_eq]
        refine decide_eq_false fun e => ?_
        have := I.inj m j b (by rw [hA_of ho]; exact e) hj
        omega
      have lh := I.lh
      refine ⟨_, rfl, .inr (.inr (.inl ⟨rfl, .inl ⟨_, hd⟩⟩)), _, rfl, da, encP ds', Sum.inl b, .int 0, rfl, rfl, hd, szn (by unfold encP; rw [List.length_map]; omega), fun y hy => ?_, fun hn => ?_⟩
      · have kin : b ∈ ds'.map (·.1) := Decidable.byContradiction fun z => by
          rw [encP_val, look_none.mpr z] at hy
          cases hy
        refine ⟨_, rfl, .inl ⟨rfl, _, SqL.of hr⟩, _, rfl, .inl ⟨rfl, _, SqL.of hh⟩, _, rfl, ?_⟩
        refine ⟨ha, hs.map oV, .int b, j, _, rfl, rfl, rfl, oV_flat hs, hh, hj', (by rw [oV_eq]; simp), first, by rw [List.length_map]; omega, ra, _, _, rfl, rfl, hr, szn (by rw [List.length_map]; omega), ?_⟩
        exact recu ds' (upd H5 ra (.lst ((R.map fun (q : Nat) => V.int (q : Int)) ++ [.int (j : Int)]))) (by rw [if_pos kin]) (s5.put n0ra) (by rw [upd_ne ne1]; exact hh) (by rw [upd_ne ne2]; exact hp) (by rw [upd_ne ne3]; exact hd) (by rw [upd_same, List.map_append]; rfl) (by rw [upd_ne ne4.symm]; exact hk)
      · have kin : b ∉ ds'.map (·.1) := fun z => by
          rw [encP_val, look_key z] at hn
          cases hn
        rw [encP_put]
        have e0 : putD ds' b 0 = ds' ++ [(b, 0)] := by unfold putD; rw [if_neg kin]
        rw [e0]
        have s6 : Same H0 (upd H5 da (.dK (encP (ds' ++ [(b, 0)])))) := s5.put nda
        have hh : upd H5 da (.dK (encP (ds' ++ [(b, 0)]))) ha = some (.lst (hs.map oV)) := by rw [upd_ne nad]; exact hh
        have hr : upd H5 da (.dK (encP (ds' ++ [(b, 0)]))) ra = some (.lst (R.map fun (q : Nat) => V.int (q : Int))) := by rw [upd_ne ne3.symm]; exact hr
        have hp : upd H5 da (.dK (encP (ds' ++ [(b, 0)]))) pa = some (.lst (ps'.map V.int)) := by rw [upd_ne npd]; exact hp
        have hk : upd H5 da (.dK (encP (ds' ++ [(b, 0)]))) ka = some (.dK (encP (asI (A ++ [(b, p)])))) := by rw [upd_ne ne7.symm]; exact hk
        have hd : upd H5 da (.dK (encP (ds' ++ [(b, 0)]))) da = some (.dK (encP (ds' ++ [(b, 0)]))) := upd_same
        generalize upd H5 da (.dK (encP (ds' ++ [(b, 0)]))) = H6 at s6 hh hd hr hk hp
        refine ⟨_, rfl, .inl ⟨rfl, _, SqL.of hr⟩, _, rfl, .inl ⟨rfl, _, SqL.of hh⟩, _, rfl, ?_⟩
        refine ⟨ha, hs.map oV, .int b, j, _, rfl, rfl, rfl, oV_flat hs, hh, hj', (by rw [oV_eq]; simp), first, by rw [List.length_map]; omega, ra, _, _, rfl, rfl, hr, szn (by rw [List.length_map]; omega), ?_⟩
        exact recu (ds' ++ [(b, 0)]) (upd H6 ra (.lst ((R.map fun (q : Nat) => V.int (q : Int)) ++ [.int (j : Int)]))) (by rw [if_neg kin]) (s6.put n0ra) (by rw [upd_ne ne1]; exact hh) (by rw [upd_ne ne2]; exact hp) (by rw [upd_ne ne3]; exact hd) (by rw [upd_same, List.map_append]; rfl) (by rw [upd_ne ne4.symm]; exact hk)
    · have e : inV (.int b) (hs.map oV) = false := Bool.eq_false_iff.mpr fun z => hin (oV_in.mp z)
      rw [e]
      refine iteT ?_
      refine ⟨_, rfl, _, rfl, _, rfl, ?_⟩
      refine ⟨ha, ka, rows, hs, ps', ds', i, A.length, R, A ++ [(b, p)], b, rfl, hh, hk, ne5, nd', T.top pR tg, POn.first I fun j h => hin ⟨j, h⟩, fun hs' hd' => ?_⟩
      exact q hs' ps' ds' _ (s5.put na) upd_same (by rw [upd_ne hap.symm]; exact hp) (by rw [upd_ne nad.symm]; exact hd) (I.handed hd') hd'.dom
noncomputable def CheapT (H H' : Hp) (t : Addr) (rows : Rows) : Prop := (∃ (l : Addr) (qs : List Nat), H' t = some (.tup [.str "short", .ref l]) ∧ H l = none ∧ H' l = some (.lst (qs.map fun (q : Nat) => V.int (q : Int))) ∧ Short (rows.map keysOf) qs) ∨
  ∃ (lh lp ld : Addr) (hs ps : List Int) (tot : Int) (es : List (Int × Int)), H' t = some (.tup [.str "dealt", .ref lh, .int tot, .ref lp, .ref ld]) ∧ H lh = none ∧ H lp = none ∧ H ld = none ∧ H' lh = some (.lst (hs.map V.int)) ∧ H' lp = some (.lst (ps.map V.int)) ∧ RowAt H' ld es ∧ Priced rows hs tot ps es
noncomputable def sp_cheap (K : PySem.W.Frag) : Sp := fun vs H Q _ => ∃ (a : Addr) (rs : List Addr) (rows : Rows) (U : List Int), vs = [.ref a] ∧ H a = some (.lst (rs.map V.ref)) ∧ BillL H rs rows ∧ rows.length ≤ 6 ∧ (∀ row ∈ rows, (row.map (·.1)).Nodup ∧ row.length ≤ 20 ∧ ∀ x ∈ row, 0 ≤ x.2 ∧ x.1 ∈ U) ∧ U.length ≤ 26 ∧
  ∀ t H', Same H H' → H t = none → CheapT H H' t rows → Q (.ref t) H'
theorem sc_cheap : FnScope ["pools", "dealt", "hands", "prices", "dues", "place", "total"] ["pools"] (defScope s_cheap) := ⟨rfl, rfl, rfl, by decide +kernel, rfl, by decide +kernel, by decide +kernel⟩
theorem ok_cheap (D : Dfs K mg aF dF) (T : Txt mg) : FnOk P w K mg base CX0 30 (aF 4) (dF 4) ["pools"] (sp_cheap K) := by
  have Gdeal : FnOk P w K mg base CX0 29 (aF 0) (dF 0) ["pools"] (sp_deal K) := ok_deal D T
  have Gserve : FnOk P w K mg base CX0 2 (aF 5) (dF 5) ["pools", "hands", "prices", "dues", "place"] (sp_serve K) := ok_serve D T
  refine D.cheap.fn.ok sc_cheap (fun vs H Q E h => ?_) (fun cdv A outer s H vs Q E hr h => ?_)
  · obtain ⟨a, rs, rows, U, rfl, _⟩ := h; rfl
  · have hu := hu_of hr
    obtain ⟨a, rs, rows, U, rfl, hb, bl, r6, ok, u26, q⟩ := h
    refine ⟨_, (pss_cons (ps_set (i := 1) sc_cheap.nd rfl (Or.inl rfl) (pc D.deal Gdeal (hr.mono (by decide)) (pa_cons (pe_lcomp ["pool"] [none] rfl (piL K (pv 0)) (fun _ => pg_name (i := 0) (nodupN (N := ["pool"]) (by decide +kernel)) rfl (Or.inl rfl)) (fun _ => pif_nil) (fun _ => (pe_lcomp ["badge", "cost"] [none, none] rfl (piL K (pv 0)) (fun _ => pgT K (n := 2) rfl (pgs_cons (pg_name (i := 0) (nodupN (N := ["badge", "cost"]) (by decide +kernel)) rfl (Or.inl rfl)) (pgs_cons (pg_name (i := 1) (nodupN (N := ["badge", "cost"]) (by decide +kernel)) rfl (Or.inl rfl)) pgs_nil))) (fun _ => pif_nil) (fun _ => (pv 0)) ((.cons (fun _ e => by cases e) (.cons (fun _ e => by cases e) .nil))))) ((.cons (fun _ e => by cases e) .nil))) pa_nil)))
      (pss_cons (ps_if (pt_cmpR op_eq (pe_ix (ixT K) (pv 1) pe_int (fun _ _ => rfl)) pe_str (nomark _))
        (pss_one (ps_ret (pv 1)))
        pss_nil)
      (pss_cons (ps_set (i := 2) sc_cheap.nd rfl (Or.inl rfl) (pe_op op_rep (pe_lst (pa_cons pe_non pa_nil)) (pe_callB (cLen K) (by rfl) T.z_len boot_len (pa_cons (pv 0) pa_nil))))
      (pss_cons (ps_set (i := 3) sc_cheap.nd rfl (Or.inl rfl) (pe_op op_rep (pe_lst (pa_cons pe_int pa_nil)) (pe_callB (cLen K) (by rfl) T.z_len boot_len (pa_cons (pv 0) pa_nil))))
      (pss_cons (ps_set (i := 4) sc_cheap.nd rfl (Or.inl rfl) pe_dnewK)
      (pss_cons (ps_for PassesOwn.never rfl (pi_range1 rfl T.z_range (pa_cons (pe_callB (cLen K) (by rfl) T.z_len boot_len (pa_cons (pv 0) pa_nil)) pa_nil)) (pg_name (i := 5) sc_cheap.nd rfl (Or.inl rfl))
        (pss_one (ps_expr (pc D.serve Gserve (hr.mono (by decide)) (pa_cons (pv 0) (pa_cons (pv 2) (pa_cons (pv 3) (pa_cons (pv 4) (pa_cons (pv 5) pa_nil)))))))))
      (pss_cons (ps_set (i := 6) sc_cheap.nd rfl (Or.inl rfl) (pe_callB (cSum K) (by rfl) T.z_sum boot_sum (pa_cons (pe_lcomp ["pool", "hand"] [none, none] rfl (pi_zip K rfl T.z_zip (pa_cons (pv 0) (pa_cons (pv 2) pa_nil))) (fun _ => pgT K (n := 2) rfl (pgs_cons (pg_name (i := 0) (nodupN (N := ["pool", "hand"]) (by decide +kernel)) rfl (Or.inl rfl)) (pgs_cons (pg_name (i := 1) (nodupN (N := ["pool", "hand"]) (by decide +kernel)) rfl (Or.inl rfl)) pgs_nil))) (fun _ => pif_nil) (fun _ => (pe_dget hu (pe_callTy (cDict K) (by rfl) T.z_dict PyProof.Rows.boot_dict (pa_cons (pv 0) pa_nil)) (pv 1) (fun _ _ => rfl))) ((.cons (fun _ e => by cases e) (.cons (fun _ e => by cases e) .nil)))) pa_nil)))
      (pss_one (ps_ret (pe_tup (pa_cons pe_str (pa_cons (pv 2) (pa_cons (pv 6) (pa_cons (pv 3) (pa_cons (pe_callB cSortedI (by rfl) T.z_sorted boot_sorted (pa_cons (pe_bm0 PySem.F.plainAttrs_dict PySem.F.slot_dict_items PySem.F.type_dict_items mt_items (pv 4)) pa_nil)) pa_nil))))))))))))))), ?_⟩
    refine ⟨_, rfl, a, rfl, ⟨_, SqL.of hb⟩, ?_⟩
    have ln := bl.len
    refine comp_lists (xs := rs.map V.ref) (fun i => (rows.getD i []).map fun x => V.int x.1) (SqL.of hb) (by rw [List.length_map]; omega) (fun i x hx H2 R s2 k => ?_) fun acc ls H2 s2 nacc hacc hls hall hne => ?_
    · rw [List.getElem?_map] at hx
      obtain ⟨r, hr, rfl⟩ := Option.map_eq_some_iff.mp hx
      obtain ⟨row, hrow, ra⟩ := (bl.same s2).get hr
      have eg : rows.getD i [] = row := by rw [List.getD_eq_getElem?_getD, hrow]; rfl
      rw [eg] at k
      have r2 := (ok row (List.mem_of_getElem? hrow)).2.1
      refine ⟨_, rfl, r, rfl, ⟨_, SqL.of ra.choose_spec.1⟩, ?_⟩
      exact comp_pairsV (fun x => V.int x.1) ra (by omega) (fun j x hx H3 R s3 k3 => ⟨_, rfl, k3 H3 (Same.refl _)⟩) fun acc2 H3 s3 n3 h3 => k acc2 H3 s3 n3 h3
    rw [List.length_map] at hls
    have rl : RowsL H2 ls (rows.map keysOf) := RowsL.of (by rw [List.length_map]; omega) fun i r p e1 e2 => by
      rw [List.getElem?_map] at e2
      obtain ⟨row, hrow, rfl⟩ := Option.map_eq_some_iff.mp e2
      have := (hall i r e1).1
      rw [List.getD_eq_getElem?_getD, hrow] at this
      rw [this]
      unfold keysOf
      rw [List.map_map]; rfl
    refine ⟨acc, ls, rows.map keysOf, U, rfl, SqL.of hacc, rl.pools, by rw [List.length_map]; exact r6, fun p hp b hbp => ?_, u26, fun t H3 s3 nw told => ?_⟩
    · obtain ⟨row, hrow, rfl⟩ := List.mem_map.mp hp
      obtain ⟨x, hx, rfl⟩ := List.mem_map.mp hbp
      exact ((ok row hrow).2.2 x hx).2
    have s03 := s2.trans s3
    rcases told with ⟨l, hs0, ht, hl, dl⟩ | ⟨l, qs, ht, hl, sh⟩
    rotate_left
    · refine ⟨_, rfl, t, _, _, _, rfl, rfl, SqT.of ht, rfl, rfl, _, rfl, iteT ?_⟩
      exact ⟨_, rfl, q t H3 s03 (s2.free nw.1) (.inl ⟨l, qs, ht, s2.free (nw.2 _ _ ht), hl, sh⟩)⟩
    · refine ⟨_, rfl, t, _, _, _, rfl, rfl, SqT.of ht, rfl, rfl, _, rfl, iteF ?_⟩
      have hb3 := s03 _ _ hb
      have bl3 := bl.same s03
      refine ⟨szr, fun l0 n0 => ⟨_, rfl, _, _, rfl, .inl ⟨_, (Same.new n0).seq (SqL.of hb3), rfl⟩, l0, _, _, rfl, rfl, upd_same, by omega, by rw [List.length_map]; omega, by rw [List.length_map]; show 1 * _ ≤ _; exact szl (by omega), fun ha nha => ?_⟩⟩
      rw [List.length_map, show ((rs.length : Nat) : Int).toNat = rows.length by omega, rep_flat]
      have s4 := Same.new (o := .lst [.non]) n0
      have nha3 : H3 ha = none := s4.free nha
      have s5 : Same H3 (upd (upd H3 l0 (.lst [.non])) ha (.lst (List.replicate rows.length .non))) := s4.to nha
      have hh5 : upd (upd H3 l0 (.lst [.non])) ha (.lst (List.replicate rows.length .non)) ha = some (.lst (List.replicate rows.length .non)) := upd_same
      generalize upd (upd H3 l0 (.lst [.non])) ha (.lst (List.replicate rows.length .non)) = H5 at s5 hh5
      refine ⟨szr, fun l1 n1 => ⟨_, rfl, _, _, rfl, .inl ⟨_, (s5.to n1).seq (SqL.of hb3), rfl⟩, l1, _, _, rfl, rfl, upd_same, by omega, by rw [List.length_map]; omega, by rw [List.length_map]; show 1 * _ ≤ _; exact szl (by omega), fun pa npa => ?_⟩⟩
      rw [List.length_map, show ((rs.length : Nat) : Int).toNat = rows.length by omega, rep_flat]
      have s6 : Same H5 (upd H5 l1 (.lst [.int 0])) := Same.new n1
      have hap : ha ≠ pa := ne_of_none (s6 _ _ hh5) npa
      have npa3 : H3 pa = none := (s5.trans s6).free npa
      have s7 : Same H3 (upd (upd H5 l1 (.lst [.int 0])) pa (.lst (List.replicate rows.length (.int 0)))) := (s5.trans s6).to npa
      have hh7 : upd (upd H5 l1 (.lst [.int 0])) pa (.lst (List.replicate rows.length (.int 0))) ha = some (.lst (List.replicate rows.length .non)) := by rw [upd_ne hap]; exact s6 _ _ hh5
      have hp7 : upd (upd H5 l1 (.lst [.int 0])) pa (.lst (List.replicate rows.length (.int 0))) pa = some (.lst (List.replicate rows.length (.int 0))) := upd_same
      generalize upd (upd H5 l1 (.lst [.int 0])) pa (.lst (List.replicate rows.length (.int 0))) = H7 at s7 hh7 hp7
      intro da nda
      have nda3 : H3 da = none := s7.free nda
      have s8 : Same H7 (upd H7 da (.dK [])) := Same.new nda
      refine ⟨_, rfl, _, _, rfl, .inl ⟨_, (s7.trans s8).seq (SqL.of hb3), rfl⟩, _, rfl, lo62 _, by rw [List.length_map]; omega, ?_⟩
      rw [List.length_map, show ((rs.length : Nat) : Int).toNat = rows.length by omega]
      have rp : Reps rows hs0 := ⟨by rw [dl.len, List.length_map], dl.nd, fun j b hj => by
        have jl := (List.getElem?_eq_some_iff.mp hj).1
        have jr : j < rows.length := by have := dl.len; rw [List.length_map] at this; omega
        have := dl.of j jl (by rw [List.length_map]; exact jr)
        rw [List.getElem_map] at this
        have e : rA rows j = rows[j] := by unfold rA; rw [List.getD_eq_getElem?_getD, List.getElem?_eq_getElem jr]; rfl
        rw [e, ← (List.getElem?_eq_some_iff.mp hj).2]
        exact this⟩
      refine for_range (n := rows.length) (fun i σ Hx => ∃ hs ps ds x5, σ = [some (.ref a), some (.ref t), some (.ref ha), some (.ref pa), some (.ref da), x5, none] ∧ Same H3 Hx ∧ Hx ha = some (.lst (hs.map oV)) ∧ Hx pa = some (.lst (ps.map V.int)) ∧ Hx da = some (.dK (encP ds)) ∧ PInv rows hs ps ds ∧ ∀ j, j < rows.length → (hA hs j = none ↔ i ≤ j))
        ⟨List.replicate rows.length none, List.replicate rows.length 0, [], none, rfl, s7.trans s8, by rw [s8 _ _ hh7, List.map_replicate]; rfl, by rw [s8 _ _ hp7, List.map_replicate], upd_same, PInv.start fun row hrow x hx => ((ok row hrow).2.2 x hx).1, fun j hj => ⟨fun _ => Nat.zero_le _, fun _ => by unfold hA; rw [List.getD_eq_getElem?_getD, List.getElem?_replicate]; split <;> rfl⟩⟩ ?_ ?_
      · rintro i σ Hx hi ⟨hs, ps, ds, x5, rfl, sx, hhx, hpx, hdx, I, dom⟩
        have ei : (0 : Int) + (i : Int) = (i : Int) := by omega
        rw [ei]
        refine ⟨_, rfl, _, rfl, _, rfl, _, rfl, _, rfl, ?_⟩
        refine ⟨H3, a, ha, pa, da, rs, rows, hs, ps, ds, i, hs0, rfl, sx, nha3, npa3, nda3, SqL.of hb3, bl3, by omega, fun row hrow => (ok row hrow).1, rp, hhx, hpx, hdx, hap, I, (dom i hi).mpr (Nat.le_refl _), hi, fun hs' ps' ds' H' s' h1 h2 h3 I' dm => ?_⟩
        refine ⟨hs', ps', ds', _, rfl, s', h1, h2, h3, I', fun j hj => ?_⟩
        rw [dm j, dom j hj]
        omega
      · rintro σ Hx ⟨hs, ps, ds, x5, rfl, sx, hhx, hpx, hdx, I, dom⟩
        obtain ⟨ns, rfl⟩ := all_some (hs := hs) fun j hj z => by
          have jl : j < rows.length := by rw [← I.lh]; exact hj
          have := (dom j jl).mp z
          omega
        rw [oV_some] at hhx
        have lns : ns.length = rows.length := by have := I.lh; rw [List.length_map] at this; exact this
        have dl2 := I.deal
        have blx := bl3.same sx
        have hbx := sx _ _ hb3
        refine ⟨_, rfl, _, rfl, a, ha, _, _, rfl, SqL.of hbx, SqL.of hhx, ?_⟩
        refine comp_zipV (xs := rs.map V.ref) (ys := ns.map V.int) (fun j => .int (minAt rows ns j)) (by rw [List.length_map, List.length_map]; omega) (SqL.of hbx) (SqL.of hhx) (by rw [List.length_map]; omega) (fun j x y H2 R hx hy s2 k => ?_) fun acc H9 s9 nacc hacc => ?_
        · rw [List.getElem?_map] at hx
          obtain ⟨r, hr, rfl⟩ := Option.map_eq_some_iff.mp hx
          obtain ⟨d, hd, rfl, ed⟩ := at_int hy
          obtain ⟨row, hrow, ps, hps, tps⟩ := (blx.same s2).get hr
          have jl := (List.getElem?_eq_some_iff.mp hd).1
          have jr := (List.getElem?_eq_some_iff.mp hrow).1
          obtain ⟨c, hc, _⟩ := I.tight j ns[j] (hA_some jl)
          have e1 : rA rows j = row := by unfold rA; rw [List.getD_eq_getElem?_getD, hrow]; rfl
          have e2 : ns[j] = d := (List.getElem?_eq_some_iff.mp hd).2
          rw [e1, e2] at hc
          have em : minAt rows ns j = c := by
            unfold minAt
            rw [List.getD_eq_getElem?_getD, List.getD_eq_getElem?_getD, hrow, hd]
            show (look row d).getD 0 = c
            rw [hc]; rfl
          rw [em] at k
          refine ⟨_, rfl, r, ps, kvR row, rfl, SqL.of hps, by unfold kvR; rw [List.length_map, tps.len], kvR_nd (ok row (List.mem_of_getElem? hrow)).1, tps.kv, fun l nl => ?_⟩
          refine ⟨_, rfl, l, .int c, rfl, ?_, k _ (Same.new nl)⟩
          have g := DGet.k (k := Sum.inl d) (show upd H2 l (.dK (kvR row)) l = some (.dK (kvR row)) from upd_same)
          rw [valV_kvR, hc] at g
          exact g
        · have e1 : (List.range (rs.map V.ref).length).map (fun j => V.int (minAt rows ns j)) = ((List.range rows.length).map (minAt rows ns)).map V.int := by rw [List.length_map, ln, List.map_map]; rfl
          rw [e1] at hacc
          refine ⟨acc, _, rfl, SqL.of hacc, ?_⟩
          have hd9 := s9 _ _ hdx
          refine ⟨_, rfl, _, rfl, _, rfl, _, rfl, .inr (.inr (.inl ⟨rfl, .inl ⟨_, hd9⟩⟩)), da, encP ds, rfl, rfl, hd9, fun v nv => ?_⟩
          refine ⟨v, da, ds, rfl, upd_same, by rw [upd_ne (ne_of_none hd9 nv)]; exact hd9, I.dnd, by have := I.dlen; omega, fun ld es H10 pm up s10 nld ra => ?_⟩
          refine ⟨szr, fun t2 nt2 => ?_⟩
          have sv : Same H9 (upd H9 v (.ext (VW v da))) := Same.new nv
          have s910 := sv.trans s10
          have s11 : Same H9 (upd H10 t2 (.tup [.str "dealt", .ref ha, .int ((List.range rows.length).map (minAt rows ns)).sum, .ref pa, .ref ld])) := s910.to nt2
          have s0x := s03.trans sx
          have s09 := s0x.trans s9
          refine q t2 _ (s09.trans s11) ((s09.trans s910).free nt2) (.inr ⟨ha, pa, ld, ns, ps, _, es, upd_same, s03.free nha3, s03.free npa3, (s09.trans sv).free nld, s11 _ _ (s9 _ _ hhx), s11 _ _ (s9 _ _ hpx), ra.same (Same.new nt2), ⟨⟨ds, I, pm⟩, up, rfl⟩⟩)
noncomputable def sp_law_cell (K : PySem.W.Frag) : Sp := fun vs H Q _ => ∃ (a : Addr) (ns : List Int) (k : Nat), vs = [.ref a, .int ((k : Nat) : Int)] ∧ SqL K H a (ns.map V.int) ∧ Q (.int (ns.getD k 0)) H
theorem sc_law_cell : FnScope ["script", "k"] ["script", "k"] (defScope s_law_cell) := ⟨rfl, rfl, rfl, by decide +kernel, rfl, by decide +kernel, by decide +kernel⟩
theorem ok_law_cell (D : Dfs K mg aF dF) (T : Txt mg) : FnOk P w K mg base CX0 1 (aF 9) (dF 9) ["script", "k"] (sp_law_cell K) := by
  refine D.law_cell.fn.ok sc_law_cell (fun vs H Q E h => ?_) (fun cdv A outer s H vs Q E hr h => ?_)
  · obtain ⟨a, ns, k, rfl, _⟩ := h; rfl
  · have hu := hu_of hr
    obtain ⟨a, ns, k, rfl, hS, q⟩ := h
    refine ⟨_, (pss_cons (ps_if (pt_cmpR op_lt (pv 1) (pe_callB (cLen K) (by rfl) T.z_len boot_len (pa_cons (pv 0) pa_nil)) (nomark _))
        (pss_one (ps_ret (pe_ix (ixL K) (pv 0) (pv 1) (fun _ _ => rfl))))
        pss_nil)
      (pss_one (ps_ret pe_int))), ?_⟩
    refine ⟨_, rfl, _, rfl, _, _, rfl, .inl ⟨_, hS, rfl⟩, _, _, rfl, rfl, _, rfl, ifD (fun h => ?_) fun h => ?_⟩
    · rw [List.length_map] at h
      exact ⟨_, rfl, _, rfl, a, _, _, _, rfl, rfl, hS, atI_int (by omega), q⟩
    · rw [List.length_map] at h
      have e : ns.getD k 0 = 0 := by rw [List.getD_eq_getElem?_getD, List.getElem?_eq_none (by omega)]; rfl
      rw [e] at q
      exact q
noncomputable def sp_law_entries (K : PySem.W.Frag) : Sp := fun vs H Q _ => ∃ (a : Addr) (ns : List Int) (sz : Nat), vs = [.ref a, .int ((sz : Nat) : Int)] ∧ SqL K H a (ns.map V.int) ∧ ns.length ≤ 200 ∧ 0 < sz ∧ sz ≤ 1000 ∧ ∀ l (cs : List Int) H', Same H H' → H l = none → H' l = some (.lst (cs.map V.int)) → cs.length = sz → Q (.ref l) H'
theorem modP (c : Int) : 0 ≤ c % 2147483647 ∧ c % 2147483647 < 2147483647 := ⟨Int.emod_nonneg c (by decide), Int.emod_lt_of_pos c (by decide)⟩
theorem sc_law_entries : FnScope ["script", "size", "mixed", "cell", "found", "k"] ["script", "size"] (defScope s_law_entries) := ⟨rfl, rfl, rfl, by decide +kernel, rfl, by decide +kernel, by decide +kernel⟩
theorem ok_law_entries (D : Dfs K mg aF dF) (T : Txt mg) : FnOk P w K mg base CX0 1 (aF 10) (dF 10) ["script", "size"] (sp_law_entries K) := by
  refine D.law_entries.fn.ok sc_law_entries (fun vs H Q E h => ?_) (fun cdv A outer s H vs Q E hr h => ?_)
  · obtain ⟨a, ns, sz, rfl, _⟩ := h; rfl
  · have hu := hu_of hr
    obtain ⟨a, ns, sz, rfl, hS, hl, sz0, sz1, q⟩ := h
    refine ⟨_, (pss_cons (ps_set (i := 2) sc_law_entries.nd rfl (Or.inl rfl) pe_int)
      (pss_cons (ps_for PassesOwn.never rfl (piL K (pe_slice (slL K) (pv 0) po_none (po_some pe_int))) (pg_name (i := 3) sc_law_entries.nd rfl (Or.inl rfl))
        (pss_one (ps_set (i := 2) sc_law_entries.nd rfl (Or.inl rfl) (pe_op op_mod (pe_op op_add (pe_op op_mul (pv 2) pe_int) (pv 3)) pe_int))))
      (pss_cons (ps_set (i := 4) sc_law_entries.nd rfl (Or.inl rfl) (pe_lst pa_nil))
      (pss_cons (ps_for PassesOwn.never rfl (pi_range1 rfl T.z_range (pa_cons (pv 1) pa_nil)) (pg_name (i := 5) sc_law_entries.nd rfl (Or.inl rfl))
        (pss_cons (ps_set (i := 2) sc_law_entries.nd rfl (Or.inl rfl) (pe_op op_mod (pe_op op_add (pe_op op_add (pe_op op_add (pe_op op_mul (pv 2) (pv 2)) (pe_op op_mul pe_int (pv 2))) (pv 5)) pe_int) pe_int))
        (pss_one (ps_expr (pe_bm PySem.F.plainAttrs_list PySem.F.slot_list_append PySem.F.type_list_append mt_append (pv 4) (pa_cons (pv 2) pa_nil))))))
      (pss_cons (ps_for PassesOwn.never rfl (pi_range2 rfl T.z_range (pa_cons pe_int (pa_cons (pe_callB (cLen K) (by rfl) T.z_len boot_len (pa_cons (pv 0) pa_nil)) pa_nil))) (pg_name (i := 5) sc_law_entries.nd rfl (Or.inl rfl))
        (pss_one (ps_asg (pe_ix (ixL K) (pv 0) (pv 5) (fun _ _ => rfl)) (pg_sub (pv 4) (pe_op op_mod (pe_op op_sub (pv 5) pe_int) (pv 1)) set_list))))
      (pss_one (ps_ret (pv 4)))))))), ?_⟩
    refine ⟨_, rfl, _, rfl, a, _, rfl, hS, fun c nc => ?_⟩
    have ecut : cutV (ns.map V.int) none (some 4) = (ns.take 4).map V.int := by rw [List.map_take]; exact cut_to _ 4
    rw [ecut]
    have s1 := Same.new (o := .lst ((ns.take 4).map V.int)) nc
    have hc1 : upd H c (.lst ((ns.take 4).map V.int)) c = some (.lst ((ns.take 4).map V.int)) := upd_same
    generalize upd H c (.lst ((ns.take 4).map V.int)) = H1 at s1 hc1
    refine ⟨c, rfl, ⟨_, SqL.of hc1⟩, ?_⟩
    refine for_list (K := K) (a := c) (xs := (ns.take 4).map V.int) (fun i σ Hx => ∃ (m : Int) (y : Option V), σ = [some (.ref a), some (.int sz), some (.int m), y, none, none] ∧ Same H1 Hx ∧ 0 ≤ m ∧ m < 2147483647) ⟨1, none, rfl, Same.refl _, by decide, by decide⟩ (fun i σ Hx _ hq__ => by obtain ⟨_, _, _, s, _⟩ := hq__; exact s.seq (SqL.of hc1)) ?_ ?_
    · rintro i y σ Hx hi ⟨m, y', rfl, sx, m0, m1⟩
      obtain ⟨d, hd, rfl, ed⟩ := at_int hi
      exact ⟨_, rfl, _, _, rfl, rfl, .inl ⟨by omega, by omega⟩, _, rfl, _, _, rfl, rfl, _, _, rfl, rfl, (show (0 : Int) < 2147483647 by decide), _, _, rfl, sx, (modP _).1, (modP _).2⟩
    rintro σ H2 ⟨m, y', rfl, s12, m0, m1⟩
    refine ⟨szr, fun l nl => ?_⟩
    refine ⟨_, rfl, _, rfl, lo62 _, by omega, ?_⟩
    have e0 : ((sz : Int)).toNat = sz := by omega
    rw [e0]
    have s02 := s1.trans s12
    have nl0 := s02.free nl
    refine for_range (n := sz) (fun i σ Hx => ∃ (m : Int) (x : Option V) (cs : List Int), σ = [some (.ref a), some (.int sz), some (.int m), y', some (.ref l), x] ∧ Same H Hx ∧ Hx l = some (.lst (cs.map V.int)) ∧ cs.length = i ∧ 0 ≤ m ∧ m < 2147483647) ⟨m, none, [], rfl, s02.to nl, upd_same, rfl, m0, m1⟩ ?_ ?_
    · rintro i σ Hx hi ⟨m, x, cs, rfl, sx, hlx, lc, m0, m1⟩
      refine ⟨_, rfl, _, rfl, _, _, rfl, rfl, .inl ⟨by omega, by omega⟩, _, rfl, _, _, rfl, rfl, .inl ⟨by decide, by decide⟩, _, _, rfl, rfl, _, rfl, _, _, rfl, rfl, _, _, rfl, rfl, _, _, rfl, rfl, (show (0 : Int) < 2147483647 by decide), ?_⟩
      refine ⟨_, rfl, .inl ⟨rfl, _, SqL.of hlx⟩, _, rfl, l, _, _, rfl, rfl, hlx, szn (by rw [List.length_map]; omega), ?_⟩
      exact ⟨_, _, cs ++ [_], rfl, sx.put nl0, by rw [upd_same, List.map_append]; rfl, by rw [List.length_append, List.length_singleton, lc], (modP _).1, (modP _).2⟩
    rintro σ H3 ⟨m, x, cs, rfl, s3, hl3, lc, _, _⟩
    refine ⟨_, rfl, _, _, rfl, .inl ⟨_, s3.seq hS, rfl⟩, _, _, rfl, ⟨by decide, by decide, by omega, by rw [List.length_map]; omega⟩, ?_⟩
    rw [List.length_map]
    refine for_range (n := ((ns.length : Int) - 4).toNat) (fun i σ Hx => ∃ (x : Option V) (cs : List Int), σ = [some (.ref a), some (.int sz), some (.int m), y', some (.ref l), x] ∧ Same H Hx ∧ Hx l = some (.lst (cs.map V.int)) ∧ cs.length = sz) ⟨_, cs, rfl, s3, hl3, lc⟩ ?_ ?_
    · rintro i σ Hx hi ⟨x, cs, rfl, sx, hlx, lc⟩
      have e1 : (4 : Int) + (i : Int) = ((4 + i : Nat) : Int) := by omega
      obtain ⟨n, hn, en⟩ := modN ((4 : Int) + (i : Int) - 4) sz0
      have hi4 : 4 + i < ns.length := by omega
      refine ⟨_, rfl, _, rfl, a, _, _, _, rfl, rfl, sx.seq hS, (by rw [e1]; exact atI_int hi4), _, rfl, _, rfl, _, _, rfl, rfl, _, rfl, _, _, rfl, rfl, (show (0 : Int) < (sz : Int) by omega), l, _, _, n, rfl, rfl, hlx, (by rw [en]; exact ixN_natE (by rw [List.length_map]; omega)), ?_⟩
      exact ⟨_, cs.set n _, rfl, sx.put nl0, by rw [upd_same, List.map_set], by rw [List.length_set, lc]⟩
    rintro σ H4 ⟨x, cs, rfl, s4, hl4, lc⟩
    exact ⟨_, rfl, q l cs H4 s4 nl0 hl4 lc⟩
noncomputable def sp_law_whole (K : PySem.W.Frag) : Sp := fun vs H Q _ => ∃ (i : Int), vs = [.int i] ∧ Q (.bl true) H
theorem sc_law_whole : FnScope ["found"] ["found"] (defScope s_law_whole) := ⟨rfl, rfl, rfl, by decide +kernel, rfl, by decide +kernel, by decide +kernel⟩
theorem ok_law_whole (D : Dfs K mg aF dF) (T : Txt mg) : FnOk P w K mg base CX0 1 (aF 11) (dF 11) ["found"] (sp_law_whole K) := by
  refine D.law_whole.fn.ok sc_law_whole (fun vs H Q E h => ?_) (fun cdv A outer s H vs Q E hr h => ?_)
  · obtain ⟨i, rfl, _⟩ := h; rfl
  · have hu := hu_of hr
    obtain ⟨i, rfl, q⟩ := h
    refine ⟨_, (pss_one (ps_ret (pe_and (pe_callB (cIsi K) (by rfl) T.z_isinstance boot_isinstance (pa_cons (pv 0) (pa_cons (ty_int T.z_int) pa_nil))) (pe_one (pe_not (pe_callB (cIsi K) (by rfl) T.z_isinstance boot_isinstance (pa_cons (pv 0) (pa_cons (ty_bool T.z_bool) pa_nil)))))))), ?_⟩
    exact ⟨_, rfl, _, _, _, true, rfl, .int _, rfl, _, rfl, iteT ⟨_, rfl, _, _, _, false, rfl, .int _, rfl, _, rfl, q⟩⟩
noncomputable def sp_law_badges (K : PySem.W.Frag) : Sp := fun vs H Q _ => ∃ (a : Addr) (cs : List Int) (gap hi : Int), vs = [.ref a, .int gap, .int hi] ∧ SqL K H a (cs.map V.int) ∧ cs.length ≤ 20 ∧ 0 < gap ∧ gap ≤ 50000000000000000 ∧ ∀ l (bs : List Int) H', Same H H' → H l = none → H' l = some (.lst (bs.map V.int)) → bs.length = cs.length → bs.Pairwise (· < ·) → (∀ b ∈ bs, 1 ≤ b ∧ b ≤ 10 ^ 18) → Q (.ref l) H'
theorem sc_law_badges : FnScope ["cells", "gap", "high", "found", "badge", "cell"] ["cells", "gap", "high"] (defScope s_law_badges) := ⟨rfl, rfl, rfl, by decide +kernel, rfl, by decide +kernel, by decide +kernel⟩
theorem ok_law_badges (D : Dfs K mg aF dF) (T : Txt mg) : FnOk P w K mg base CX0 1 (aF 12) (dF 12) ["cells", "gap", "high"] (sp_law_badges K) := by
  refine D.law_badges.fn.ok sc_law_badges (fun vs H Q E h => ?_) (fun cdv A outer s H vs Q E hr h => ?_)
  · obtain ⟨a, cs, gap, hi, rfl, _⟩ := h; rfl
  · have hu := hu_of hr
    obtain ⟨a, cs, gap, hi, rfl, hS, hl, g0, g1, q⟩ := h
    refine ⟨_, (pss_cons (ps_set (i := 3) sc_law_badges.nd rfl (Or.inl rfl) (pe_lst pa_nil))
      (pss_cons (ps_set (i := 4) sc_law_badges.nd rfl (Or.inl rfl) pe_int)
      (pss_cons (ps_for PassesOwn.never rfl (piL K (pv 0)) (pg_name (i := 5) sc_law_badges.nd rfl (Or.inl rfl))
        (pss_cons (ps_set (i := 4) sc_law_badges.nd rfl (Or.inl rfl) (pe_op op_add (pe_op op_add (pv 4) pe_int) (pe_op op_mod (pv 5) (pv 1))))
        (pss_one (ps_expr (pe_bm PySem.F.plainAttrs_list PySem.F.slot_list_append PySem.F.type_list_append mt_append (pv 3) (pa_cons (pv 4) pa_nil))))))
      (pss_cons (ps_if (pt_cmpR op_eq (pv 2) pe_int (nomark _))
        (pss_one (ps_ret (pe_lcomp ["one"] [none] rfl (pi_rev K rfl T.z_reversed (pa_cons (pv 3) pa_nil)) (fun _ => pg_name (i := 0) (nodupN (N := ["one"]) (by decide +kernel)) rfl (Or.inl rfl)) (fun _ => pif_nil) (fun _ => (pe_op op_sub (pe_op op_add (pe_op op_pow pe_int pe_int) pe_int) (pv 0))) ((.cons (fun _ e => by cases e) .nil)))))
        pss_nil)
      (pss_one (ps_ret (pv 3))))))), ?_⟩
    refine ⟨szr, fun l nl => ?_⟩
    refine ⟨_, rfl, a, rfl, ⟨_, (Same.new nl).seq hS⟩, ?_⟩
    refine for_list (K := K) (a := a) (xs := cs.map V.int) (fun i σ Hx => ∃ (b : Int) (y : Option V) (bs : List Int), σ = [some (.ref a), some (.int gap), some (.int hi), some (.ref l), some (.int b), y] ∧ Same H Hx ∧ Hx l = some (.lst (bs.map V.int)) ∧ bs.length = i ∧ bs.Pairwise (· < ·) ∧ (∀ x ∈ bs, 1 ≤ x ∧ x ≤ b) ∧ 0 ≤ b ∧ b ≤ (i : Int) * gap) ⟨0, none, [], rfl, Same.new nl, upd_same, rfl, .nil, (fun _ z => by cases z), Int.le_refl _, by simp⟩ (fun i σ Hx _ hq__ => by obtain ⟨_, _, _, _, s, _⟩ := hq__; exact s.seq hS) ?_ ?_
    · rintro i y σ Hx hix ⟨b, y', bs, rfl, sx, hlx, lb, up, hb, b0, b1⟩
      obtain ⟨d, hd, rfl, ed⟩ := at_int hix
      have w1 := Int.emod_nonneg d (show gap ≠ 0 by omega)
      have w2 := Int.emod_lt_of_pos d g0
      have hi' := (List.getElem?_eq_some_iff.mp hd).1
      refine ⟨_, rfl, _, _, rfl, rfl, _, rfl, _, rfl, _, _, rfl, rfl, g0, _, _, rfl, rfl, ?_⟩
      refine ⟨_, rfl, .inl ⟨rfl, _, SqL.of hlx⟩, _, rfl, l, _, _, rfl, rfl, hlx, szn (by rw [List.length_map]; omega), ?_⟩
      have em : ((i + 1 : Nat) : Int) * gap = (i : Int) * gap + gap := by rw [Int.natCast_add, Int.add_mul]; simp
      refine ⟨_, _, bs ++ [b + 1 + d % gap], rfl, sx.put nl, by rw [upd_same, List.map_append]; rfl, by rw [List.length_append, List.length_singleton, lb], up_snoc up (fun x hx => by have := hb x hx; omega), fun x hx => ?_, by omega, by omega⟩
      rcases List.mem_append.mp hx with z | z
      · have := hb x z; omega
      · rw [List.mem_singleton.mp z]; omega
    rintro σ H1 ⟨b, y', bs, rfl, s1, hl1, lb, up, hb, b0, b1⟩
    rw [List.length_map] at lb b1
    have b18 : b ≤ 1000000000000000000 := by
      have h1 : (cs.length : Int) * gap ≤ 20 * gap := Int.mul_le_mul_of_nonneg_right (by omega) (by omega)
      omega
    refine ⟨_, rfl, rfl, _, rfl, ifEq (fun e => ?_) fun ne => ?_⟩
    · refine ⟨_, rfl, l, _, rfl, SqL.of hl1, ?_⟩
      refine comp_rev (fun x => .int (10 ^ 18 + 1 - x)) (SqL.of hl1) (by omega) (fun i x hx H2 R s2 k => ?_) fun acc H2 s2 nacc hacc => ?_
      · walk_at "go"
        exact k H2 (Same.refl _)
      · have em : bs.reverse.map (fun x => V.int (10 ^ 18 + 1 - x)) = (bs.reverse.map fun x => (10 ^ 18 + 1 - x : Int)).map V.int := by rw [List.map_map]; rfl
        rw [em] at hacc
        refine q acc _ H2 (s1.trans s2) (s1.free nacc) hacc (by rw [List.length_map, List.length_reverse, lb]) (rev_up _ up) fun x hx => ?_
        obtain ⟨z, hz, rfl⟩ := List.mem_map.mp hx
        have := hb z (List.mem_reverse.mp hz)
        omega
    · refine ⟨_, rfl, q l bs H1 s1 nl hl1 lb up fun x hx => ?_⟩
      have := hb x hx
      omega
noncomputable def sp_law_bill (K : PySem.W.Frag) : Sp := fun vs H Q _ => ∃ (a b : Addr) (cs bs : List Int) (dn tp : Int) (cn : Nat), vs = [.ref a, .ref b, .int dn, .int tp, .int ((cn : Nat) : Int)] ∧ SqL K H a (cs.map V.int) ∧ SqL K H b (bs.map V.int) ∧ bs.Pairwise (· < ·) ∧ 0 < tp ∧ cn ≤ 6 ∧ bs.length ≤ 20 ∧ cn * bs.length ≤ cs.length ∧
  ∀ l rs rows H', Same H H' → H l = none → H' l = some (.lst (rs.map V.ref)) → BillL H' rs rows → rows.length = cn → (∀ r ∈ rs, H r = none) → (∀ row ∈ rows, RowOk bs tp row) → Q (.ref l) H'
theorem sc_law_bill : FnScope ["cells", "badges", "dense", "top", "count", "bill", "k", "pairs", "i", "cell"] ["cells", "badges", "dense", "top", "count"] (defScope s_law_bill) := ⟨rfl, rfl, rfl, by decide +kernel, rfl, by decide +kernel, by decide +kernel⟩
theorem ok_law_bill (D : Dfs K mg aF dF) (T : Txt mg) : FnOk P w K mg base CX0 1 (aF 13) (dF 13) ["cells", "badges", "dense", "top", "count"] (sp_law_bill K) := by
  refine D.law_bill.fn.ok sc_law_bill (fun vs H Q E h => ?_) (fun cdv A outer s H vs Q E hr h => ?_)
  · obtain ⟨a, b, cs, bs, dn, tp, cn, rfl, _⟩ := h; rfl
  · have hu := hu_of hr
    obtain ⟨a, b, cs, bs, dn, tp, cn, rfl, hA, hB, up, tp0, c6, b20, cb, q⟩ := h
    refine ⟨_, (pss_cons (ps_set (i := 5) sc_law_bill.nd rfl (Or.inl rfl) (pe_lst pa_nil))
      (pss_cons (ps_for PassesOwn.never rfl (pi_range1 rfl T.z_range (pa_cons (pv 4) pa_nil)) (pg_name (i := 6) sc_law_bill.nd rfl (Or.inl rfl))
        (pss_cons (ps_set (i := 7) sc_law_bill.nd rfl (Or.inl rfl) (pe_lst pa_nil))
        (pss_cons (ps_for PassesOwn.never rfl (pi_range1 rfl T.z_range (pa_cons (pe_callB (cLen K) (by rfl) T.z_len boot_len (pa_cons (pv 1) pa_nil)) pa_nil)) (pg_name (i := 8) sc_law_bill.nd rfl (Or.inl rfl))
          (pss_cons (ps_set (i := 9) sc_law_bill.nd rfl (Or.inl rfl) (pe_ix (ixL K) (pv 0) (pe_op op_add (pe_op op_mul (pv 6) (pe_callB (cLen K) (by rfl) T.z_len boot_len (pa_cons (pv 1) pa_nil))) (pv 8)) (fun _ _ => rfl)))
          (pss_one (ps_if (pt_cmpR op_le (pe_op op_mod (pv 9) pe_int) (pv 2) (nomark _))
            (pss_one (ps_expr (pe_bm PySem.F.plainAttrs_list PySem.F.slot_list_append PySem.F.type_list_append mt_append (pv 7) (pa_cons (pe_tup (pa_cons (pe_ix (ixL K) (pv 1) (pv 8) (fun _ _ => rfl)) (pa_cons (pe_op op_mod (pe_op op_fdiv (pv 9) pe_int) (pv 3)) pa_nil))) pa_nil))))
            pss_nil))))
        (pss_one (ps_expr (pe_bm PySem.F.plainAttrs_list PySem.F.slot_list_append PySem.F.type_list_append mt_append (pv 5) (pa_cons (pv 7) pa_nil)))))))
      (pss_one (ps_ret (pv 5))))), ?_⟩
    refine ⟨szr, fun l nl => ?_⟩
    refine ⟨_, rfl, _, rfl, lo62 _, by omega, ?_⟩
    rw [Int.toNat_natCast]
    refine for_range (n := cn) (fun k σ Hx => ∃ (x1 x2 x3 x4 : Option V) (rs : List Addr) (rows : List (List (Int × Int))), σ = [some (.ref a), some (.ref b), some (.int dn), some (.int tp), some (.int cn), some (.ref l), x1, x2, x3, x4] ∧ Same H Hx ∧ Hx l = some (.lst (rs.map V.ref)) ∧ BillL Hx rs rows ∧ rows.length = k ∧ (∀ r ∈ rs, H r = none ∧ r ≠ l) ∧ ∀ row ∈ rows, RowOk bs tp row) ⟨none, none, none, none, [], [], rfl, Same.new nl, upd_same, .nil, rfl, (fun _ z => by cases z), fun _ z => by cases z⟩ ?_ ?_
    · rintro k σ Hk hk ⟨x1, x2, x3, x4, rs, rows, rfl, sk, hlk, bk, lr, nr, ok⟩
      refine ⟨szr, fun p np => ?_⟩
      have hlp : l ≠ p := ne_of_none hlk np
      have skp := Same.new (o := .lst []) np
      refine ⟨_, rfl, _, _, rfl, .inl ⟨_, (sk.trans skp).seq hB, rfl⟩, _, rfl, lo62 _, by rw [List.length_map]; omega, ?_⟩
      have e0 : (((bs.map V.int).length : Nat) : Int).toNat = bs.length := by rw [List.length_map]; omega
      rw [e0]
      refine for_range (n := bs.length) (fun i σ Hx => ∃ (x3 x4 : Option V) (ps : List Addr) (row : List (Int × Int)), σ = [some (.ref a), some (.ref b), some (.int dn), some (.int tp), some (.int cn), some (.ref l), some (.int (0 + (k : Int))), some (.ref p), x3, x4] ∧ Same Hk Hx ∧ Hx p = some (.lst (ps.map V.ref)) ∧ TupsL Hx ps row ∧ (row.map (·.1)).Pairwise (· < ·) ∧ (∀ x ∈ row, x.1 ∈ bs.take i ∧ 0 ≤ x.2 ∧ x.2 < tp) ∧ row.length ≤ i) ⟨x3, x4, [], [], rfl, skp, upd_same, .nil, .nil, (fun _ z => by cases z), Nat.zero_le _⟩ ?_ ?_
      · rintro i σ Hx hi ⟨x3, x4, ps, row, rfl, sx, hpx, tx, ux, ix, lx⟩
        have s0x := sk.trans sx
        have hki : k * bs.length + i < cs.length := by
          have h1 : k * bs.length + bs.length ≤ cn * bs.length := by
            have := Nat.mul_le_mul_right bs.length (show k + 1 ≤ cn from hk)
            rw [Nat.add_mul, Nat.one_mul] at this
            exact this
          omega
        have kb : k * bs.length ≤ 120 := Nat.mul_le_mul (show k ≤ 6 by omega) b20
        have ei : ((0 : Int) + (k : Int)) * ((bs.map V.int).length : Int) + (0 + (i : Int)) = ((k * bs.length + i : Nat) : Int) := by rw [List.length_map, Int.natCast_add, Int.natCast_mul, Int.zero_add, Int.zero_add]
        have hbi : bs[i]? = some bs[i] := List.getElem?_eq_getElem hi
        refine ⟨_, rfl, _, rfl, _, rfl, _, _, rfl, .inl ⟨_, s0x.seq hB, rfl⟩, _, _, rfl, rfl, .inl ⟨by omega, by omega⟩, _, rfl, _, _, rfl, rfl, a, _, _, _, rfl, rfl, s0x.seq hA, (by rw [ei]; exact atI_int hki), ?_⟩
        refine ⟨_, rfl, _, _, rfl, rfl, (show (0 : Int) < 5 by decide), _, rfl, _, _, rfl, rfl, _, rfl, ifD (fun le => ?_) fun _ => ?_⟩
        · refine ⟨_, rfl, .inl ⟨rfl, _, SqL.of hpx⟩, _, rfl, _, rfl, b, _, _, _, rfl, rfl, s0x.seq hB, (by rw [show (0 : Int) + (i : Int) = ((i : Nat) : Int) by omega]; exact atI_int hi), _, rfl, _, _, rfl, rfl, (show CDiv _ 5 from ⟨by decide, by decide⟩), _, rfl, _, _, rfl, rfl, tp0, szr, fun t nt => ?_⟩
          have hpt : p ≠ t := ne_of_none hpx nt
          have stx := Same.new (o := .tup [.int (bs.getD i 0), .int (cs.getD (k * bs.length + i) 0 / 5 % tp)]) nt
          have hpx' := stx _ _ hpx
          refine ⟨p, _, _, rfl, rfl, hpx', szn (by rw [List.length_map, tx.len]; omega), ?_⟩
          have w1 := Int.emod_nonneg (cs.getD (k * bs.length + i) 0 / 5) (show tp ≠ 0 by omega)
          have w2 := Int.emod_lt_of_pos (cs.getD (k * bs.length + i) 0 / 5) tp0
          have eg : bs.getD i 0 = bs[i] := by rw [List.getD_eq_getElem?_getD, hbi]; rfl
          refine ⟨_, _, ps ++ [t], row ++ [(bs.getD i 0, cs.getD (k * bs.length + i) 0 / 5 % tp)], rfl, (sx.trans stx).put np, by rw [upd_same, List.map_append]; rfl, TupsL.but (paired_snoc_len (tx.same stx) (show PairT _ t (bs.getD i 0, cs.getD (k * bs.length + i) 0 / 5 % tp) from upd_same)) hpx', ?_, ?_, by rw [List.length_append, List.length_singleton]; omega⟩
          · rw [List.map_append]
            refine up_snoc ux fun y hy => ?_
            obtain ⟨x, hx, rfl⟩ := List.mem_map.mp hy
            show x.1 < bs.getD i 0
            rw [eg]
            exact up_take up hbi _ (ix x hx).1
          · intro x hx
            rw [List.take_add_one, hbi]
            rcases List.mem_append.mp hx with z | z
            · exact ⟨List.mem_append_left _ (ix x z).1, (ix x z).2⟩
            · rw [List.mem_singleton.mp z]
              exact ⟨List.mem_append_right _ (by rw [eg]; simp), w1, w2⟩
        · refine ⟨_, _, ps, row, rfl, sx, hpx, tx, ux, fun x hx => ⟨?_, (ix x hx).2⟩, by omega⟩
          rw [List.take_add_one]
          exact List.mem_append_left _ (ix x hx).1
      rintro σ H2 ⟨x3, x4, ps, row, rfl, s2, hp2, t2, u2, i2, l2⟩
      rw [List.take_length] at i2
      have hl2 := s2 _ _ hlk
      refine ⟨_, rfl, .inl ⟨rfl, _, SqL.of hl2⟩, _, rfl, l, _, _, rfl, rfl, hl2, szn (by rw [List.length_map, bk.len]; omega), ?_⟩
      have nrl : l ∉ rs := fun z => (nr l z).2 rfl
      refine ⟨_, _, _, _, rs ++ [p], rows ++ [row], rfl, (sk.trans s2).put nl, by rw [upd_same, List.map_append]; rfl, ?_, by rw [List.length_append, List.length_singleton, lr], ?_, ?_⟩
      · exact paired_snoc_len ((bk.same s2).but hl2 nrl) (RowAt.but ⟨ps, hp2, t2⟩ hl2 fun z => hlp z.symm)
      · intro r hr
        rcases List.mem_append.mp hr with z | z
        · exact nr r z
        · rw [List.mem_singleton.mp z]; exact ⟨sk.free np, fun z => hlp z.symm⟩
      · intro x hx
        rcases List.mem_append.mp hx with z | z
        · exact ok x z
        · rw [List.mem_singleton.mp z]; exact ⟨u2, i2, l2⟩
    rintro σ H2 ⟨x1, x2, x3, x4, rs, rows, rfl, s2, hl2, b2, lr, nr, ok⟩
    exact ⟨_, rfl, q l rs rows H2 s2 nl hl2 b2 lr (fun r hr => (nr r hr).1) ok⟩
noncomputable def sp_law_pools (K : PySem.W.Frag) : Sp := fun vs H Q _ => ∃ (a b : Addr) (ns tps : List Int), vs = [.ref a, .ref b] ∧ SqL K H a (ns.map V.int) ∧ ns.length ≤ 63 ∧ SqL K H b (tps.map V.int) ∧ 0 < tps.length ∧ tps.length ≤ 100 ∧ (∀ t ∈ tps, 0 < t) ∧
  ∀ t l m rs rows bs tp (cs : List Int) H', Same H H' → H t = none → H' t = some (.tup [.ref l, .ref m]) → H l = none → H' l = some (.lst (rs.map V.ref)) → H' m = some (.lst (cs.map V.int)) → BillL H' rs rows → rows.length ≤ 6 → (∀ r ∈ rs, H r = none) → bs.Pairwise (· < ·) → (bs.length ≤ 20 ∧ (∀ b ∈ bs, 1 ≤ b ∧ b ≤ 10 ^ 18) ∧ cs.length = 6) → (∀ row ∈ rows, RowOk bs tp row) → Q (.ref t) H'
theorem sc_law_pools : FnScope ["script", "tops", "head", "count", "many", "here", "cells", "gap", "badges", "dense", "pools"] ["script", "tops"] (defScope s_law_pools) := ⟨rfl, rfl, rfl, by decide +kernel, rfl, by decide +kernel, by decide +kernel⟩
theorem ok_law_pools (D : Dfs K mg aF dF) (T : Txt mg) : FnOk P w K mg base CX0 2 (aF 14) (dF 14) ["script", "tops"] (sp_law_pools K) := by
  have Glaw_cell : FnOk P w K mg base CX0 1 (aF 9) (dF 9) ["script", "k"] (sp_law_cell K) := ok_law_cell D T
  have Glaw_entries : FnOk P w K mg base CX0 1 (aF 10) (dF 10) ["script", "size"] (sp_law_entries K) := ok_law_entries D T
  have Glaw_badges : FnOk P w K mg base CX0 1 (aF 12) (dF 12) ["cells", "gap", "high"] (sp_law_badges K) := ok_law_badges D T
  have Glaw_bill : FnOk P w K mg base CX0 1 (aF 13) (dF 13) ["cells", "badges", "dense", "top", "count"] (sp_law_bill K) := ok_law_bill D T
  refine D.law_pools.fn.ok sc_law_pools (fun vs H Q E h => ?_) (fun cdv A outer s H vs Q E hr h => ?_)
  · obtain ⟨a, b, ns, tps, rfl, _⟩ := h; rfl
  · have hu := hu_of hr
    obtain ⟨a, b, ns, tps, rfl, hS, hl, hT, t0, t100, tpos, q⟩ := h
    refine ⟨_, (pss_cons (ps_setC (i₀ := 2) sc_law_pools.nd rfl (Or.inl rfl) ["k", "script"] [none, some 0] rfl (pi_range1 rfl T.z_range (pa_cons pe_int pa_nil)) (fun _ => pg_name (i := 0) (nodupN (N := ["k", "script"]) (by decide +kernel)) rfl (Or.inl rfl)) (fun _ => pif_nil) (fun _ => (pc D.law_cell Glaw_cell (hr.mono (by decide)) (pa_cons (pv 1) (pa_cons (pv 0) pa_nil)))) ((.cons (fun _ e => by cases e) (.cons (fun _ e => by cases e; exact ⟨rfl, rfl⟩) .nil))))
      (pss_cons (ps_set (i := 3) sc_law_pools.nd rfl (Or.inl rfl) (pe_ix (ixL K) (pe_lst (pa_cons pe_int (pa_cons pe_int (pa_cons pe_int (pa_cons pe_int (pa_cons pe_int (pa_cons pe_int (pa_cons pe_int pa_nil)))))))) (pe_op op_mod (pe_ix (ixL K) (pv 2) pe_int (fun _ _ => rfl)) pe_int) (fun _ _ => rfl)))
      (pss_cons (ps_set (i := 4) sc_law_pools.nd rfl (Or.inl rfl) (pe_ix (ixL K) (pe_lst (pa_cons pe_int (pa_cons pe_int (pa_cons pe_int (pa_cons pe_int (pa_cons pe_int (pa_cons pe_int (pa_cons pe_int (pa_cons pe_int pa_nil))))))))) (pe_op op_mod (pe_op op_fdiv (pe_ix (ixL K) (pv 2) pe_int (fun _ _ => rfl)) pe_int) pe_int) (fun _ _ => rfl)))
      (pss_cons (ps_set (i := 5) sc_law_pools.nd rfl (Or.inl rfl) (pe_op op_mul (pv 3) (pv 4)))
      (pss_cons (ps_set (i := 6) sc_law_pools.nd rfl (Or.inl rfl) (pc D.law_entries Glaw_entries (hr.mono (by decide)) (pa_cons (pv 0) (pa_cons (pe_op op_add (pe_op op_add (pv 5) (pv 4)) pe_int) pa_nil))))
      (pss_cons (ps_set (i := 7) sc_law_pools.nd rfl (Or.inl rfl) (pe_ix (ixL K) (pe_lst (pa_cons pe_int (pa_cons pe_int (pa_cons pe_int (pa_cons (pe_op op_mul pe_int (pe_op op_pow pe_int pe_int)) pa_nil))))) (pe_op op_mod (pe_ix (ixL K) (pv 2) pe_int (fun _ _ => rfl)) pe_int) (fun _ _ => rfl)))
      (pss_cons (ps_set (i := 8) sc_law_pools.nd rfl (Or.inl rfl) (pc D.law_badges Glaw_badges (hr.mono (by decide)) (pa_cons (pe_slice (slL K) (pv 6) (po_some (pv 5)) (po_some (pe_op op_add (pv 5) (pv 4)))) (pa_cons (pv 7) (pa_cons (pe_op op_mod (pe_op op_fdiv (pe_ix (ixL K) (pv 2) pe_int (fun _ _ => rfl)) pe_int) pe_int) pa_nil)))))
      (pss_cons (ps_set (i := 9) sc_law_pools.nd rfl (Or.inl rfl) (pe_ix (ixL K) (pe_lst (pa_cons pe_int (pa_cons pe_int (pa_cons pe_int (pa_cons pe_int (pa_cons pe_int pa_nil)))))) (pe_op op_mod (pe_ix (ixL K) (pv 2) pe_int (fun _ _ => rfl)) pe_int) (fun _ _ => rfl)))
      (pss_cons (ps_set (i := 10) sc_law_pools.nd rfl (Or.inl rfl) (pc D.law_bill Glaw_bill (hr.mono (by decide)) (pa_cons (pv 6) (pa_cons (pv 8) (pa_cons (pv 9) (pa_cons (pe_ix (ixL K) (pv 1) (pe_op op_mod (pe_op op_fdiv (pe_ix (ixL K) (pv 2) pe_int (fun _ _ => rfl)) pe_int) (pe_callB (cLen K) (by rfl) T.z_len boot_len (pa_cons (pv 1) pa_nil))) (fun _ _ => rfl)) (pa_cons (pv 3) pa_nil)))))))
      (pss_one (ps_ret (pe_tup (pa_cons (pv 10) (pa_cons (pe_slice (slL K) (pv 6) (po_some (pe_op op_add (pv 5) (pv 4))) po_none) pa_nil)))))))))))))), ?_⟩
    refine ⟨_, rfl, by decide, by decide, ?_⟩
    refine comp_range (n := 4) (fun k => .int (ns.getD k 0)) (by decide) (fun i hi H2 R s2 k => ?_) fun hd H1 s1 nhd hhd => ?_
    · have ei : (0 : Int) + (i : Int) = ((i : Nat) : Int) := by omega
      rw [ei]
      exact ⟨_, rfl, _, rfl, a, ns, i, rfl, s2.seq hS, k H2 (Same.refl _)⟩
    have hg : ∀ j : Nat, j < 4 → atI ((List.range 4).map fun k => V.int (ns.getD k 0)) (j : Int) = some (.int (ns.getD j 0)) := fun j hj => atI_nat (by simp [hj])
    have g0 : atI ((List.range 4).map fun k => V.int (ns.getD k 0)) 0 = some (.int (ns.getD 0 0)) := hg 0 (by decide)
    have g1 : atI ((List.range 4).map fun k => V.int (ns.getD k 0)) 1 = some (.int (ns.getD 1 0)) := hg 1 (by decide)
    have g2 : atI ((List.range 4).map fun k => V.int (ns.getD k 0)) 2 = some (.int (ns.getD 2 0)) := hg 2 (by decide)
    generalize (List.range 4).map (fun k => V.int (ns.getD k 0)) = hL at hhd g0 g1 g2
    generalize ns.getD 0 0 = c0 at g0
    generalize ns.getD 1 0 = d1 at g1
    generalize ns.getD 2 0 = d2 at g2
    clear hg
    refine ⟨szr, fun p0 np0 => ?_⟩
    obtain ⟨m0, hm0, mm0⟩ := pick_mem [3, 2, 4, 5, 6, 1, 0] c0 (n := 7) rfl (by decide)
    have sp0 := Same.new (o := .lst [.int 3, .int 2, .int 4, .int 5, .int 6, .int 1, .int 0]) np0
    have s00 := s1.trans sp0
    have hhd0 := sp0 _ _ hhd
    refine ⟨_, rfl, hd, _, _, _, rfl, rfl, SqL.of hhd0, g0, _, _, rfl, rfl, (show (0 : Int) < 7 by decide), p0, _, _, _, rfl, rfl, SqL.of upd_same, hm0, ?_⟩
    generalize upd H1 p0 (.lst [.int 3, .int 2, .int 4, .int 5, .int 6, .int 1, .int 0]) = H10 at s00 hhd0
    obtain ⟨cn, ecn, c6⟩ : ∃ cn : Nat, m0 = (cn : Int) ∧ cn ≤ 6 := by
      simp only [List.mem_cons, List.not_mem_nil, or_false] at mm0
      exact ⟨m0.toNat, by omega, by omega⟩
    subst ecn
    refine ⟨szr, fun p np => ?_⟩
    obtain ⟨m, hm, mm⟩ := pick_mem [4, 3, 6, 2, 9, 20, 5, 1] (c0 / 7) (n := 8) rfl (by decide)
    have sp1 := Same.new (o := .lst [.int 4, .int 3, .int 6, .int 2, .int 9, .int 20, .int 5, .int 1]) np
    have s01 := s00.trans sp1
    have hhd1 := sp1 _ _ hhd0
    refine ⟨_, rfl, hd, _, _, _, rfl, rfl, SqL.of hhd1, g0, _, _, rfl, rfl, (show CDiv _ 7 from ⟨by decide, by decide⟩), _, _, rfl, rfl, (show (0 : Int) < 8 by decide), p, _, _, _, rfl, rfl, SqL.of upd_same, hm, ?_⟩
    generalize upd H10 p (.lst [.int 4, .int 3, .int 6, .int 2, .int 9, .int 20, .int 5, .int 1]) = H2 at s01 hhd1
    obtain ⟨mn, em, m1, m20⟩ : ∃ mn : Nat, m = (mn : Int) ∧ 1 ≤ mn ∧ mn ≤ 20 := by
      simp only [List.mem_cons, List.not_mem_nil, or_false] at mm
      exact ⟨m.toNat, by omega, by omega, by omega⟩
    subst em
    refine ⟨_, rfl, _, rfl, _, _, rfl, rfl, .inl ⟨by omega, by omega⟩, ?_⟩
    have h120 : cn * mn ≤ 120 := Nat.mul_le_mul c6 m20
    have eh : (cn : Int) * (mn : Int) = ((cn * mn : Nat) : Int) := (Int.natCast_mul ..).symm
    dsimp only
    rw [eh]
    have ecm : cn * mn ≤ cn * mn := Nat.le_refl _
    generalize hrE : cn * mn = hr at h120 ecm
    refine ⟨_, rfl, _, rfl, _, rfl, _, _, rfl, rfl, _, _, rfl, rfl, a, ns, hr + mn + 6, (by show [V.ref a, V.int ((hr : Int) + mn + 6)] = _; rw [show ((hr + mn + 6 : Nat) : Int) = (hr : Int) + mn + 6 by omega]), s01.seq hS, by omega, by omega, by omega, fun cl cs H3 s3 ncl hcl lcs => ?_⟩
    have s03 := s01.trans s3
    have hhd3 := s3 _ _ hhd1
    walk_at "go"
    refine ⟨szr, fun p2 np2 => ?_⟩
    obtain ⟨gp, hgp, gm⟩ := pick_mem [1, 3, 40, 5 * 10 ^ 16] d2 (n := 4) rfl (by decide)
    have sp2 := Same.new (o := .lst [.int 1, .int 3, .int 40, .int (5 * 10 ^ 16)]) np2
    have hhd4 := sp2 _ _ hhd3
    have hcl4 := sp2 _ _ hcl
    have s04 := s03.trans sp2
    refine ⟨_, rfl, hd, _, _, _, rfl, rfl, SqL.of hhd4, g2, _, _, rfl, rfl, (show (0 : Int) < 4 by decide), p2, _, _, _, rfl, rfl, SqL.of upd_same, hgp, ?_⟩
    clear sp2 hhd4 hcl4 s04
    generalize hE4 : upd H3 p2 _ = H4
    have sp2 : Same H3 H4 := hE4 ▸ Same.new np2
    have hhd4 := sp2 _ _ hhd3
    have hcl4 := sp2 _ _ hcl
    have s04 := s03.trans sp2
    have gpb : 0 < gp ∧ gp ≤ 50000000000000000 := by
      simp only [List.mem_cons, List.not_mem_nil, or_false] at gm
      omega
    refine ⟨_, rfl, _, rfl, _, rfl, _, rfl, _, rfl, _, _, rfl, rfl, _, rfl, cl, _, rfl, SqL.of hcl4, fun c5 nc5 => ?_⟩
    have ecut : cutV (cs.map V.int) (some (hr : Int)) (some ((hr : Int) + (mn : Int))) = ((cs.drop hr).take mn).map V.int := by
      rw [show (hr : Int) + (mn : Int) = ((hr + mn : Nat) : Int) by omega, cut_mid, Nat.add_sub_cancel_left, List.map_take, List.map_drop]
    rw [ecut]
    have lcut : ((cs.drop hr).take mn).length = mn := by rw [List.length_take, List.length_drop]; omega
    have sp5 := Same.new (o := .lst (((cs.drop hr).take mn).map V.int)) nc5
    have hhd5 := sp5 _ _ hhd4
    have hcl5 := sp5 _ _ hcl4
    have s05 := s04.trans sp5
    have hc5 : upd H4 c5 (.lst (((cs.drop hr).take mn).map V.int)) c5 = some (.lst (((cs.drop hr).take mn).map V.int)) := upd_same
    generalize upd H4 c5 (.lst (((cs.drop hr).take mn).map V.int)) = H5 at hhd5 hcl5 s05 hc5
    generalize (cs.drop hr).take mn = cs' at lcut hc5
    refine ⟨_, rfl, _, rfl, hd, _, _, _, rfl, rfl, SqL.of hhd5, g2, _, _, rfl, rfl, (show CDiv _ 4 from ⟨by decide, by decide⟩), _, _, rfl, rfl, (show (0 : Int) < 2 by decide), c5, cs', gp, _, rfl, SqL.of hc5, by omega, gpb.1, gpb.2, fun bd bs H6 s6 nbd hbd lbs up b18 => ?_⟩
    rw [lcut] at lbs
    have s06 := s05.trans s6
    have hhd6 := s6 _ _ hhd5
    have hcl6 := s6 _ _ hcl5
    refine ⟨szr, fun p7 np7 => ?_⟩
    obtain ⟨dn, hdn, _⟩ := pick_mem [3, 4, 1, 2, 0] d1 (n := 5) rfl (by decide)
    have sp7 := Same.new (o := .lst [.int 3, .int 4, .int 1, .int 2, .int 0]) np7
    have hhd7 := sp7 _ _ hhd6
    have hcl7 := sp7 _ _ hcl6
    have hbd7 := sp7 _ _ hbd
    have s07 := s06.trans sp7
    refine ⟨_, rfl, hd, _, _, _, rfl, rfl, SqL.of hhd7, g1, _, _, rfl, rfl, (show (0 : Int) < 5 by decide), p7, _, _, _, rfl, rfl, SqL.of upd_same, hdn, ?_⟩
    generalize upd H6 p7 (.lst [.int 3, .int 4, .int 1, .int 2, .int 0]) = H7 at hhd7 hcl7 hbd7 s07
    obtain ⟨tp, htp, tm⟩ := pick_mem tps (d1 / 5) (n := tps.length) rfl t0
    have tp0 := tpos tp tm
    refine ⟨_, rfl, _, rfl, _, rfl, _, rfl, _, rfl, hd, _, _, _, rfl, rfl, SqL.of hhd7, g1, _, _, rfl, rfl, (show CDiv _ 5 from ⟨by decide, by decide⟩), _, rfl, _, _, rfl, .inl ⟨_, s07.seq hT, rfl⟩, _, _, rfl, rfl, (by rw [List.length_map]; show (0 : Int) < ((tps.length : Nat) : Int); omega), b, _, _, _, rfl, rfl, s07.seq hT, (by rw [List.length_map]; exact htp), _, rfl, ?_⟩
    refine ⟨cl, bd, cs, bs, dn, tp, cn, rfl, SqL.of hcl7, SqL.of hbd7, up, tp0, c6, by omega, by rw [lbs, hrE]; omega, fun bi rs rows H9 s9 nbi hbi bl lr nr ok => ?_⟩
    have s09 := s07.trans s9
    have hcl9 := s9 _ _ hcl7
    refine ⟨_, rfl, _, rfl, _, rfl, _, rfl, _, _, rfl, rfl, _, rfl, cl, _, rfl, SqL.of hcl9, fun c10 nc10 => ⟨szr, fun t nt => ?_⟩⟩
    have ecut2 : cutV (cs.map V.int) (some ((hr : Int) + (mn : Int))) none = (cs.drop (hr + mn)).map V.int := by
      rw [show (hr : Int) + (mn : Int) = ((hr + mn : Nat) : Int) by omega, cut_from, List.map_drop]
    rw [ecut2] at nt ⊢
    have s10 : Same H9 (upd H9 c10 (.lst ((cs.drop (hr + mn)).map V.int))) := Same.new nc10
    have s11 := s10.to (o := .tup [.ref bi, .ref c10]) nt
    have nct : c10 ≠ t := fun z => by rw [← z, upd_same] at nt; cases nt
    exact q t bi c10 rs rows bs tp _ _ (s09.trans s11) ((s09.trans s10).free nt) upd_same (s07.free nbi) (s11 _ _ hbi) (by rw [upd_ne nct]; exact upd_same) (bl.same s11) (by omega) (fun r hr => s07.free (nr r hr)) up ⟨by omega, b18, by rw [List.length_drop]; omega⟩ ok
noncomputable def sp_law_total (K : PySem.W.Frag) : Sp := fun vs H Q _ => ∃ (b : Addr) (rs : List Addr) (rows : Rows) (U : List Int), vs = [.ref b] ∧ H b = some (.lst (rs.map V.ref)) ∧ BillL H rs rows ∧ rows.length ≤ 6 ∧ (∀ row ∈ rows, (row.map (·.1)).Nodup ∧ row.length ≤ 20 ∧ ∀ x ∈ row, 0 ≤ x.2 ∧ x.1 ∈ U) ∧ U.length ≤ 26 ∧ ∀ o H', Same H H' → Best rows o → Q (hV o) H'
theorem sc_law_total : FnScope ["pools", "found"] ["pools"] (defScope s_law_total) := ⟨rfl, rfl, rfl, by decide +kernel, rfl, by decide +kernel, by decide +kernel⟩
theorem ok_law_total (D : Dfs K mg aF dF) (T : Txt mg) : FnOk P w K mg base CX0 31 (aF 15) (dF 15) ["pools"] (sp_law_total K) := by
  have Gcheap : FnOk P w K mg base CX0 30 (aF 4) (dF 4) ["pools"] (sp_cheap K) := ok_cheap D T
  have Glaw_whole : FnOk P w K mg base CX0 1 (aF 11) (dF 11) ["found"] (sp_law_whole K) := ok_law_whole D T
  refine D.law_total.fn.ok sc_law_total (fun vs H Q E h => ?_) (fun cdv A outer s H vs Q E hr h => ?_)
  · obtain ⟨b, rs, rows, U, rfl, _⟩ := h; rfl
  · have hu := hu_of hr
    obtain ⟨b, rs, rows, U, rfl, hb, bl, r6, ok, u26, q⟩ := h
    refine ⟨_, (pss_cons (ps_set (i := 1) sc_law_total.nd rfl (Or.inl rfl) (pc D.cheap Gcheap (hr.mono (by decide)) (pa_cons (pe_lcomp ["pool"] [none] rfl (piL K (pv 0)) (fun _ => pg_name (i := 0) (nodupN (N := ["pool"]) (by decide +kernel)) rfl (Or.inl rfl)) (fun _ => pif_nil) (fun _ => (pe_callTy (cList K) (by rfl) T.z_list boot_list (pa_cons (pv 0) pa_nil))) ((.cons (fun _ e => by cases e) .nil))) pa_nil)))
      (pss_cons (ps_if (PW.pt (pw_or (pt_not (pt_val (pe_callB (cIsi K) (by rfl) T.z_isinstance boot_isinstance (pa_cons (pv 1) (pa_cons (ty_tuple T.z_tuple) pa_nil))))) (pw_or1 (pt_cmpR op_lt (pe_callB (cLen K) (by rfl) T.z_len boot_len (pa_cons (pv 1) pa_nil)) pe_int (nomark _)))))
        (pss_one (ps_ret (pe_un un_neg pe_int)))
        pss_nil)
      (pss_cons (ps_if (PW.pt (pw_and (pt_cmpR op_eq (pe_ix (ixT K) (pv 1) pe_int (fun _ _ => rfl)) pe_str (nomark _)) (pw_and (pt_cmpR op_eq (pe_callB (cLen K) (by rfl) T.z_len boot_len (pa_cons (pv 1) pa_nil)) pe_int (nomark _)) (pw_and1 (pt_val (pc D.law_whole Glaw_whole (hr.mono (by decide)) (pa_cons (pe_ix (ixT K) (pv 1) pe_int (fun _ _ => rfl)) pa_nil)))))))
        (pss_one (ps_ret (pe_ix (ixT K) (pv 1) pe_int (fun _ _ => rfl))))
        pss_nil)
      (pss_cons (ps_if (PW.pt (pw_and (pt_cmpR op_eq (pe_ix (ixT K) (pv 1) pe_int (fun _ _ => rfl)) pe_str (nomark _)) (pw_and1 (pt_cmpR op_eq (pe_callB (cLen K) (by rfl) T.z_len boot_len (pa_cons (pv 1) pa_nil)) pe_int (nomark _)))))
        (pss_one (ps_ret pe_non))
        pss_nil)
      (pss_one (ps_ret (pe_un un_neg pe_int))))))), ?_⟩
    refine ⟨_, rfl, b, rfl, ⟨_, SqL.of hb⟩, ?_⟩
    refine comp_copyB hb bl (by omega) (fun r xs H2 R hr2 k => ⟨_, rfl, r, _, rfl, .inl (SqL.of hr2), fun l nl => k l _ (Same.new nl) nl upd_same⟩) fun hn ls H3 s3 nhn hhn bh nls ndl => ?_
    refine ⟨hn, ls, rows, U, rfl, hhn, bh, r6, ok, by omega, fun f H4 s4 nf ct => ?_⟩
    have s24 := s3.trans s4
    rcases ct with ⟨ll, qs, ht4, _, hll, sh⟩ | ⟨lh, lp, ld, hs, ps, tot, es, ht4, _, _, _, hh, hp, hd, pr⟩
    · refine ⟨_, rfl, _, _, _, true, rfl, .tup ht4, rfl, _, rfl, iteF ?_⟩
      refine ⟨_, rfl, _, _, rfl, .inr ⟨_, SqT.of ht4, rfl⟩, _, _, rfl, rfl, _, rfl, iteF ?_⟩
      refine ⟨_, rfl, f, _, _, _, rfl, rfl, SqT.of ht4, rfl, rfl, _, rfl, iteF ?_⟩
      refine ⟨_, rfl, f, _, _, _, rfl, rfl, SqT.of ht4, rfl, rfl, _, rfl, iteT ?_⟩
      refine ⟨_, rfl, _, _, rfl, .inr ⟨_, SqT.of ht4, rfl⟩, rfl, _, rfl, iteT ?_⟩
      exact q none H4 s24 fun hs d nd => (deal_iff.mpr ⟨d, nd⟩).noShort sh
    · refine ⟨_, rfl, _, _, _, true, rfl, .tup ht4, rfl, _, rfl, iteF ?_⟩
      refine ⟨_, rfl, _, _, rfl, .inr ⟨_, SqT.of ht4, rfl⟩, _, _, rfl, rfl, _, rfl, iteF ?_⟩
      refine ⟨_, rfl, f, _, _, _, rfl, rfl, SqT.of ht4, rfl, rfl, _, rfl, iteT ?_⟩
      refine ⟨_, rfl, _, _, rfl, .inr ⟨_, SqT.of ht4, rfl⟩, rfl, _, rfl, iteT ?_⟩
      refine ⟨_, rfl, f, _, _, _, rfl, rfl, SqT.of ht4, rfl, _, rfl, _, rfl, iteT ?_⟩
      exact ⟨_, rfl, f, _, _, _, rfl, rfl, SqT.of ht4, rfl, q (some tot) H4 s24 pr.best⟩
noncomputable def sp_law_drawn (K : PySem.W.Frag) : Sp := fun vs H Q _ => ∃ (b c : Addr) (rs : List Addr) (rows : Rows) (cs : List Int), vs = [.ref b, .ref c] ∧ H b = some (.lst (rs.map V.ref)) ∧ BillL H rs rows ∧ rows.length ≤ 6 ∧ (∀ row ∈ rows, (row.map (·.1)).Nodup ∧ row.length ≤ 20) ∧ SqL K H c (cs.map V.int) ∧ 6 ≤ cs.length ∧ ∀ o H', Same H H' → (∀ t, o = some t → ∃ hs, DP rows hs ∧ hs.Nodup ∧ cstR rows hs = t) → Q (hV o) H'
theorem sc_law_drawn : FnScope ["pools", "cells", "used", "cost", "k", "left", "pair"] ["pools", "cells"] (defScope s_law_drawn) := ⟨rfl, rfl, rfl, by decide +kernel, rfl, by decide +kernel, by decide +kernel⟩
theorem ok_law_drawn (D : Dfs K mg aF dF) (T : Txt mg) : FnOk P w K mg base CX0 1 (aF 16) (dF 16) ["pools", "cells"] (sp_law_drawn K) := by
  refine D.law_drawn.fn.ok sc_law_drawn (fun vs H Q E h => ?_) (fun cdv A outer s H vs Q E hr h => ?_)
  · obtain ⟨b, c, rs, rows, cs, rfl, _⟩ := h; rfl
  · have hu := hu_of hr
    obtain ⟨b, c, rs, rows, cs, rfl, hb, bl, r6, ok, hc, c6, q⟩ := h
    refine ⟨_, (pss_cons (ps_set (i := 2) sc_law_drawn.nd rfl (Or.inr rfl) (pe_lst pa_nil))
      (pss_cons (ps_set (i := 3) sc_law_drawn.nd rfl (Or.inl rfl) pe_int)
      (pss_cons (ps_for PassesOwn.never rfl (pi_range1 rfl T.z_range (pa_cons (pe_callB (cLen K) (by rfl) T.z_len boot_len (pa_cons (pv 0) pa_nil)) pa_nil)) (pg_name (i := 4) sc_law_drawn.nd rfl (Or.inl rfl))
        (pss_cons (ps_setC (i₀ := 5) sc_law_drawn.nd rfl (Or.inl rfl) ["pair", "used"] [none, some 2] rfl (piL K (pe_ix (ixL K) (pv 0) (pv 4) (fun _ _ => rfl))) (fun _ => pg_name (i := 0) (nodupN (N := ["pair", "used"]) (by decide +kernel)) rfl (Or.inl rfl)) (fun _ => pif_one (pt_cmpR (ninS K) (pe_ix (ixT K) (pv 0) pe_int (fun _ _ => rfl)) (pv 1) (by with_unfolding_all rfl))) (fun _ => (pv 0)) ((.cons (fun _ e => by cases e) (.cons (fun _ e => by cases e; exact ⟨rfl, rfl⟩) .nil))))
        (pss_cons (ps_if (pt_cmpR (eqD K hr.units) (pv 5) (pe_lst pa_nil) (nomark _))
          (pss_one (ps_ret pe_non))
          pss_nil)
        (pss_cons (ps_set (i := 6) sc_law_drawn.nd rfl (Or.inl rfl) (pe_ix (ixL K) (pv 5) (pe_op op_mod (pe_ix (ixL K) (pv 1) (pv 4) (fun _ _ => rfl)) (pe_callB (cLen K) (by rfl) T.z_len boot_len (pa_cons (pv 5) pa_nil))) (fun _ _ => rfl)))
        (pss_cons (ps_expr (pe_bm PySem.F.plainAttrs_list PySem.F.slot_list_append PySem.F.type_list_append mt_append (pv 2) (pa_cons (pe_ix (ixT K) (pv 6) pe_int (fun _ _ => rfl)) pa_nil)))
        (pss_one (ps_set (i := 3) sc_law_drawn.nd rfl (Or.inl rfl) (pe_op op_add (pv 3) (pe_ix (ixT K) (pv 6) pe_int (fun _ _ => rfl))))))))))
      (pss_one (ps_ret (pv 3)))))), ?_⟩
    have ln := bl.len
    refine ⟨szr, fun us0 nus => ?_⟩
    have sn := Same.new (o := .lst []) nus
    have hb0 := sn _ _ hb
    refine ⟨_, rfl, _, _, rfl, .inl ⟨_, SqL.of hb0, rfl⟩, _, rfl, lo62 _, by rw [List.length_map]; omega, ?_⟩
    rw [List.length_map, show ((rs.length : Nat) : Int).toNat = rs.length by omega]
    refine for_range (n := rs.length) (fun i σ Hx => ∃ (us : List Int) (x y z : Option V), σ = [some (.ref b), some (.ref c), some (.ref us0), some (.int (cstR (rows.take i) us)), x, y, z] ∧ Same H Hx ∧ Hx us0 = some (.lst (us.map V.int)) ∧ DP (rows.take i) us ∧ us.Nodup) ⟨[], none, none, none, rfl, sn, upd_same, .nil, List.nodup_nil⟩ ?_ ?_
    · rintro i σ Hx hi ⟨us, x, y, z, rfl, sx, hus, dp, nd⟩
      have ei : (0 : Int) + (i : Int) = ((i : Nat) : Int) := by omega
      rw [ei]
      have ir : i < rows.length := by omega
      obtain ⟨r, hr, pt, hpt, tps⟩ := (bl.same sx).at (List.getElem?_eq_getElem ir)
      have hbx := sx _ _ hb
      have ptl := tps.len
      have r2 := (ok rows[i] (List.getElem_mem ir)).2
      have ul : us.length ≤ 6 := by rw [dp.len, List.length_take]; omega
      refine ⟨_, rfl, _, rfl, b, _, _, _, rfl, rfl, SqL.of hbx, atI_nat (by rw [List.getElem?_map, hr]; rfl), r, rfl, ⟨_, SqL.of hpt⟩, ?_⟩
      refine comp_list2 (xs := pt.map V.ref) (fun j => !decide ((rows[i].getD j (0, 0)).1 ∈ us)) (fun j => (pt.map V.ref).getD j .non) (SqL.of hpt) (by rw [List.length_map]; omega) (fun j x hx H2 R s2 k => ?_) (fun j x hx _ H2 R s2 k => ?_) fun lf H2 s2 nlf hlf => ?_
      · rw [List.getElem?_map] at hx
        obtain ⟨t, et, rfl⟩ := Option.map_eq_some_iff.mp hx
        obtain ⟨x, ex, tx⟩ := pair_at tps et
        refine ⟨_, rfl, t, _, _, _, rfl, rfl, SqT.of (s2 _ _ tx), rfl, _, rfl, us0, _, rfl, .inl (SqL.of (s2 _ _ hus)), rfl, flat_all _, ?_⟩
        rw [if_pos rfl, inV_int]
        have := k H2 (Same.refl _)
        rw [List.getD_eq_getElem?_getD, ex] at this
        exact ⟨_, rfl, this⟩
      · have := k H2 (Same.refl _)
        rw [List.getD_eq_getElem?_getD, hx] at this
        exact ⟨_, rfl, this⟩
      refine ⟨_, rfl, szr, fun p np => ⟨1, _, deq_nil (SqL.of ((Same.new np) _ _ hlf)) (SqL.of upd_same), by decide, rfl, _, rfl, ifB (fun h => ?_) fun h => ?_⟩⟩
      · exact q none _ ((sx.trans s2).to np) fun t e => by cases e
      have s3 := s2.trans (Same.new (o := .lst []) np)
      have hlf3 := (Same.new (o := .lst []) np) _ _ hlf
      generalize upd H2 p (.lst []) = H3 at s3 hlf3
      clear hlf s2
      have hl0 : 0 < (((List.range (pt.map V.ref).length).filter fun j => !decide ((rows[i].getD j (0, 0)).1 ∈ us)).map fun j => (pt.map V.ref).getD j .non).length := by
        cases e : ((List.range (pt.map V.ref).length).filter fun j => !decide ((rows[i].getD j (0, 0)).1 ∈ us)).map fun j => (pt.map V.ref).getD j .non with
        | nil => rw [e] at h; cases h
        | cons _ _ => exact Nat.succ_pos _
      have ic : i < cs.length := by omega
      obtain ⟨mm, hm, em⟩ := modN (cs.getD i 0) hl0
      obtain ⟨v, hv⟩ : ∃ v, (((List.range (pt.map V.ref).length).filter fun j => !decide ((rows[i].getD j (0, 0)).1 ∈ us)).map fun j => (pt.map V.ref).getD j .non)[mm]? = some v := ⟨_, List.getElem?_eq_getElem hm⟩
      have hvm := hv
      rw [List.getElem?_map] at hvm
      obtain ⟨j, hj, rfl⟩ := Option.map_eq_some_iff.mp hvm
      have hjm := List.mem_filter.mp (List.mem_of_getElem? hj)
      have jl : j < pt.length := by have := List.mem_range.mp hjm.1; rw [List.length_map] at this; exact this
      have ept : (pt.map V.ref).getD j .non = V.ref pt[j] := by rw [List.getD_eq_getElem?_getD, List.getElem?_map, List.getElem?_eq_getElem jl]; rfl
      obtain ⟨x, ex, tx⟩ := pair_at tps (List.getElem?_eq_getElem jl)
      have egx : rows[i].getD j (0, 0) = x := by rw [List.getD_eq_getElem?_getD, ex]; rfl
      have nin : x.1 ∉ us := by have := hjm.2; rw [egx] at this; simpa using this
      rw [ept] at hv
      have s03 := sx.trans s3
      refine ⟨_, rfl, _, rfl, _, rfl, c, _, _, _, rfl, rfl, s03.seq hc, atI_int ic, _, rfl, _, _, rfl, .inl ⟨_, SqL.of hlf3, rfl⟩, _, _, rfl, rfl, (show (0 : Int) < ((_ : Nat) : Int) by omega), lf, _, _, _, rfl, rfl, SqL.of hlf3, (by (try dsimp only); rw [em]; exact atI_nat hv), ?_⟩
      have tx3 := s3 _ _ tx
      have hus3 := s3 _ _ hus
      refine ⟨_, rfl, .inl ⟨rfl, _, SqL.of hus3⟩, _, rfl, pt[j], _, _, _, rfl, rfl, SqT.of tx3, rfl, us0, _, _, rfl, rfl, hus3, szn (by rw [List.length_map]; omega), ?_⟩
      have ntu : pt[j] ≠ us0 := fun z => by rw [z, hus3] at tx3; cases tx3
      refine ⟨_, rfl, _, rfl, pt[j], _, _, _, rfl, rfl, SqT.of (by rw [upd_ne ntu]; exact tx3), rfl, _, _, rfl, rfl, ?_⟩
      have et : rows.take (i + 1) = rows.take i ++ [rows[i]] := take_snoc (List.getElem?_eq_getElem ir)
      have lk : look rows[i] x.1 = some x.2 := look_mem (ok rows[i] (List.getElem_mem ir)).1 (List.mem_of_getElem? ex)
      refine ⟨us ++ [x.1], some (.int (i : Int)), some (.ref lf), some (.ref pt[j]), ?_, s03.put nus, by rw [upd_same, List.map_append]; rfl, ?_, ?_⟩
      · rw [et, cst_app dp]
        have : cstR [rows[i]] [x.1] = x.2 := by show (look rows[i] x.1).getD 0 + 0 = _; rw [lk]; show x.2 + 0 = x.2; omega
        rw [this]
        rfl
      · rw [et]
        exact dp.app (.cons (List.mem_map.mpr ⟨x, List.mem_of_getElem? ex, rfl⟩) .nil)
      · rw [List.nodup_append]
        refine ⟨nd, by simp, fun a ha b hb => ?_⟩
        rw [List.mem_singleton.mp hb]
        exact fun z => nin (z ▸ ha)
    · rintro σ Hx ⟨us, x, y, z, rfl, sx, hus, dp, nd⟩
      rw [ln, List.take_length] at dp ⊢
      exact ⟨_, rfl, q (some _) Hx sx fun t e => by cases e; exact ⟨us, dp, nd, rfl⟩⟩
theorem refs_of : ∀ {vs : List V}, (∀ v ∈ vs, ∃ t, v = V.ref t) → ∃ ts : List Addr, vs = ts.map V.ref
  | [], _ => ⟨[], rfl⟩
  | v :: vs, h => by
    obtain ⟨t, rfl⟩ := h v List.mem_cons_self
    obtain ⟨ts, rfl⟩ := refs_of fun w hw => h w (List.mem_cons_of_mem _ hw)
    exact ⟨t :: ts, rfl⟩
noncomputable def sp_law_dearer (K : PySem.W.Frag) : Sp := fun vs H Q _ => ∃ (b : Addr) (at' : Nat) (more : Int) (rs : List Addr) (A B : Rows) (row : List (Int × Int)), vs = [.ref b, .int (at' : Int), .int more] ∧ H b = some (.lst (rs.map V.ref)) ∧ BillL H rs (A ++ row :: B) ∧ A.length = at' ∧ (A ++ row :: B).length ≤ 6 ∧ row.length ≤ 20 ∧ ∀ l rs' H', Same H H' → H l = none → H' l = some (.lst (rs'.map V.ref)) → BillL H' rs' (A ++ dearR more row :: B) → Q (.ref l) H'
theorem sc_law_dearer : FnScope ["pools", "at", "more", "found"] ["pools", "at", "more"] (defScope s_law_dearer) := ⟨rfl, rfl, rfl, by decide +kernel, rfl, by decide +kernel, by decide +kernel⟩
theorem ok_law_dearer (D : Dfs K mg aF dF) (T : Txt mg) : FnOk P w K mg base CX0 1 (aF 17) (dF 17) ["pools", "at", "more"] (sp_law_dearer K) := by
  refine D.law_dearer.fn.ok sc_law_dearer (fun vs H Q E h => ?_) (fun cdv A outer s H vs Q E hr h => ?_)
  · obtain ⟨b, at', more, rs, A, B, row, rfl, _⟩ := h; rfl
  · have hu := hu_of hr
    obtain ⟨b, at', more, rs, A, B, row, rfl, hb, bl, la, r6, r20, q⟩ := h
    refine ⟨_, (pss_cons (ps_setC (i₀ := 3) sc_law_dearer.nd rfl (Or.inl rfl) ["pool"] [none] rfl (piL K (pv 0)) (fun _ => pg_name (i := 0) (nodupN (N := ["pool"]) (by decide +kernel)) rfl (Or.inl rfl)) (fun _ => pif_nil) (fun _ => (pe_callTy (cList K) (by rfl) T.z_list boot_list (pa_cons (pv 0) pa_nil))) ((.cons (fun _ e => by cases e) .nil)))
      (pss_cons (ps_asg (pe_lcomp ["badge", "cost", "more"] [none, none, some 2] rfl (piL K (pe_ix (ixL K) (pv 3) (pv 1) (fun _ _ => rfl))) (fun _ => pgT K (n := 2) rfl (pgs_cons (pg_name (i := 0) (nodupN (N := ["badge", "cost", "more"]) (by decide +kernel)) rfl (Or.inl rfl)) (pgs_cons (pg_name (i := 1) (nodupN (N := ["badge", "cost", "more"]) (by decide +kernel)) rfl (Or.inl rfl)) pgs_nil))) (fun _ => pif_nil) (fun _ => (pe_tup (pa_cons (pv 0) (pa_cons (pe_op op_add (pv 1) (pv 2)) pa_nil)))) ((.cons (fun _ e => by cases e) (.cons (fun _ e => by cases e) (.cons (fun _ e => by cases e; exact ⟨rfl, rfl⟩) .nil))))) (pg_sub (pv 3) (pv 1) set_list))
      (pss_one (ps_ret (pv 3))))), ?_⟩
    refine ⟨_, rfl, b, rfl, ⟨_, SqL.of hb⟩, ?_⟩
    refine comp_copyB hb bl (by omega) (fun r xs H2 R hr2 k => ⟨_, rfl, r, _, rfl, .inl (SqL.of hr2), fun l nl => k l _ (Same.new nl) nl upd_same⟩) fun hn ls H3 s3 nhn hhn bh nls ndl => ?_
    have lsl := bh.len
    have hat : (A ++ row :: B)[at']? = some row := by rw [← la]; simp
    obtain ⟨r, hr, pt, hpt, tps⟩ := bh.at hat
    have ptl := tps.len
    have rne : r ≠ hn := (nls r (List.mem_of_getElem? hr)).2
    have al : at' < ls.length := (List.getElem?_eq_some_iff.mp hr).1
    refine ⟨_, rfl, _, rfl, hn, _, _, _, rfl, rfl, SqL.of hhn, atI_nat (by rw [List.getElem?_map, hr]; rfl), r, rfl, ⟨_, SqL.of hpt⟩, ?_⟩
    refine comp_pairs (ps := pt) (row := row) (fun _ => true) (fun acc i v H => ∃ t, v = .ref t ∧ t ≠ acc ∧ H3 t = none ∧ H t = some (.tup [.int (row.getD i (0, 0)).1, .int ((row.getD i (0, 0)).2 + more)])) (SqL.of hpt) tps (by omega) (fun acc i v Ha Hb ⟨t, e, n1, n2, n3⟩ sb => ⟨t, e, n1, n2, sb _ _ n1 n3⟩) (fun _ _ _ _ _ _ k => k _ (Same.refl _)) (fun acc i x ex _ H4 R s4 na nn k => ?_) fun acc vs H4 s4 nacc hacc pr => ?_
    · refine ⟨_, rfl, _, rfl, _, rfl, _, _, rfl, rfl, szr, fun t nt => k _ _ (Same.new nt) ⟨t, rfl, fun z => nn (z ▸ nt), s4.free nt, ?_⟩⟩
      rw [upd_same, List.getD_eq_getElem?_getD, ex]
      rfl
    rw [List.filter_eq_self.mpr (fun _ _ => rfl)] at pr
    have vl : vs.length = row.length := by rw [← Paired.length pr, List.length_range]
    have atv : ∀ (i : Nat) (v : V), vs[i]? = some v → ∃ t, v = .ref t ∧ t ≠ acc ∧ H3 t = none ∧ H4 t = some (.tup [.int (row.getD i (0, 0)).1, .int ((row.getD i (0, 0)).2 + more)]) := fun i v e => by
      obtain ⟨k, hk, h⟩ := pair_get pr e
      obtain ⟨hk1, hk2⟩ := List.getElem?_eq_some_iff.mp hk
      rw [List.getElem_range] at hk2
      subst hk2
      exact h
    obtain ⟨ts, rfl⟩ := refs_of fun v hv => by
      obtain ⟨i, hi, rfl⟩ := List.mem_iff_getElem.mp hv
      obtain ⟨t, e, _⟩ := atv i _ (List.getElem?_eq_getElem hi)
      exact ⟨t, e⟩
    rw [List.length_map] at vl
    have nah : acc ≠ hn := fun z => by rw [z, hhn] at nacc; cases nacc
    have tl4 : TupsL H4 ts (dearR more row) := paired_of (by unfold dearR; rw [List.length_map, vl]) fun i t x et ex => by
      obtain ⟨t', e, _, _, h⟩ := atv i (.ref t) (by rw [List.getElem?_map, et]; rfl)
      cases e
      unfold dearR at ex
      rw [List.getElem?_map] at ex
      obtain ⟨y, ey, rfl⟩ := Option.map_eq_some_iff.mp ex
      rw [List.getD_eq_getElem?_getD, ey] at h
      exact h
    have hhn4 := s4 _ _ hhn
    refine ⟨_, rfl, _, rfl, hn, _, _, at', rfl, rfl, hhn4, ixN_natE (by rw [List.length_map]; exact al), ?_⟩
    have eset : A ++ dearR more row :: B = (A ++ row :: B).set at' (dearR more row) := by rw [← la]; simp [List.set_append]
    refine ⟨_, rfl, q hn (ls.set at' acc) _ ((s3.trans s4).put nhn) nhn (by rw [upd_same, List.map_set]) ?_⟩
    have bh4 := bh.same s4
    refine paired_of (by rw [List.length_set, eset, List.length_set]; exact lsl) fun i r' row' er er' => ?_
    rw [eset, List.getElem?_set] at er'
    rw [List.getElem?_set] at er
    by_cases z : at' = i
    · rw [if_pos z] at er er'
      rw [if_pos (by omega)] at er
      rw [if_pos (by have := lsl; omega)] at er'
      cases er; cases er'
      exact RowAt.but ⟨ts, hacc, tl4⟩ hhn4 nah
    · rw [if_neg z] at er er'
      obtain ⟨row2, e2, ra⟩ := bh4.get er
      rw [er'] at e2
      cases e2
      exact ra.but hhn4 (nls r' (List.mem_of_getElem? er)).2
theorem ifNeF {x y : V} {A B : Prop} (h : x = y) (hB : B) : if (!decide (x = y)) = true then A else B := by
  rw [decide_eq_true h]; exact iteF hB
theorem tAnd_no {t u : TT} {σ : L2.St} {H : Hp} {Q : Bool → Hp → Prop} (h : ∀ R : Bool → Hp → Prop, R false H → tAnd t u σ H R) (q : Q false H) : tAnd t u σ H Q := h Q q
noncomputable def sp_law (K : PySem.W.Frag) : Sp := fun vs H Q _ => ∃ (a : Addr) (ns : List Int), vs = [.ref a] ∧ SqL K H a (ns.map V.int) ∧ ns.length ≤ 63 ∧ ∀ H', Q (.bl true) H'
theorem sc_law : FnScope ["script", "pools", "cells", "total", "cost", "at", "more", "dearer", "fewer"] ["script"] (defScope s_law) := ⟨rfl, rfl, rfl, by decide +kernel, rfl, by decide +kernel, by decide +kernel⟩
theorem ok_law (D : Dfs K mg aF dF) (T : Txt mg) : FnOk P w K mg base CX0 32 (aF 18) (dF 18) ["script"] (sp_law K) := by
  have Glaw_cell : FnOk P w K mg base CX0 1 (aF 9) (dF 9) ["script", "k"] (sp_law_cell K) := ok_law_cell D T
  have Glaw_pools : FnOk P w K mg base CX0 2 (aF 14) (dF 14) ["script", "tops"] (sp_law_pools K) := ok_law_pools D T
  have Glaw_total : FnOk P w K mg base CX0 31 (aF 15) (dF 15) ["pools"] (sp_law_total K) := ok_law_total D T
  have Glaw_drawn : FnOk P w K mg base CX0 1 (aF 16) (dF 16) ["pools", "cells"] (sp_law_drawn K) := ok_law_drawn D T
  have Glaw_dearer : FnOk P w K mg base CX0 1 (aF 17) (dF 17) ["pools", "at", "more"] (sp_law_dearer K) := ok_law_dearer D T
  refine D.law.fn.ok sc_law (fun vs H Q E h => ?_) (fun cdv A outer s H vs Q E hr h => ?_)
  · obtain ⟨a, ns, rfl, _⟩ := h; rfl
  · have hu := hu_of hr
    obtain ⟨a, ns, rfl, hS, hl, q⟩ := h
    refine ⟨_, (pss_cons (ps_asg (pc D.law_pools Glaw_pools (hr.mono (by decide)) (pa_cons (pv 0) (pa_cons (pe_lst (pa_cons (pe_op op_pow pe_int pe_int) (pa_cons pe_int (pa_cons pe_int (pa_cons (pe_op op_add (pe_op op_mul pe_int (pe_op op_pow pe_int pe_int)) pe_int) pa_nil))))) pa_nil))) (pgT K rfl (pgs_cons (pg_name (i := 1) sc_law.nd rfl (Or.inl rfl)) (pgs_cons (pg_name (i := 2) sc_law.nd rfl (Or.inl rfl)) pgs_nil))))
      (pss_cons (ps_set (i := 3) sc_law.nd rfl (Or.inl rfl) (pc D.law_total Glaw_total (hr.mono (by decide)) (pa_cons (pv 1) pa_nil)))
      (pss_cons (ps_set (i := 4) sc_law.nd rfl (Or.inl rfl) (pc D.law_drawn Glaw_drawn (hr.mono (by decide)) (pa_cons (pv 1) (pa_cons (pv 2) pa_nil))))
      (pss_cons (ps_if (PW.pt (pw_or (pt_cmpR op_eq (pv 3) (pe_un un_neg pe_int) (nomark _)) (pw_or1 (PW.pt (pw_and (pt_cmpR op_notN (pv 4) pe_non (nomark _)) (pw_and1 (PW.pt (pw_or (pt_cmpR op_isN (pv 3) pe_non (nomark _)) (pw_or1 (pt_cmpR op_gt (pv 3) (pv 4) (nomark _)))))))))))
        (pss_one (ps_ret pe_bl))
        pss_nil)
      (pss_cons (ps_if (pt_cmpR op_ne (pc D.law_total Glaw_total (hr.mono (by decide)) (pa_cons (pe_lrev K rfl T.z_list rfl T.z_reversed (pa_cons (pv 1) pa_nil)) pa_nil)) (pv 3) (nomark _))
        (pss_one (ps_ret pe_bl))
        pss_nil)
      (pss_cons (ps_if (pt_cmpR (eqD K hr.units) (pv 1) (pe_lst pa_nil) (nomark _))
        (pss_one (ps_ret (pe_cmpR op_eq (pv 3) pe_int (nomark _))))
        pss_nil)
      (pss_cons (ps_set (i := 5) sc_law.nd rfl (Or.inl rfl) (pe_op op_mod (pc D.law_cell Glaw_cell (hr.mono (by decide)) (pa_cons (pv 0) (pa_cons pe_int pa_nil))) (pe_callB (cLen K) (by rfl) T.z_len boot_len (pa_cons (pv 1) pa_nil))))
      (pss_cons (ps_set (i := 6) sc_law.nd rfl (Or.inl rfl) (pe_op op_mod (pe_op op_fdiv (pc D.law_cell Glaw_cell (hr.mono (by decide)) (pa_cons (pv 0) (pa_cons pe_int pa_nil))) pe_int) (pe_op op_add (pe_op op_pow pe_int pe_int) pe_int)))
      (pss_cons (ps_set (i := 7) sc_law.nd rfl (Or.inl rfl) (pc D.law_total Glaw_total (hr.mono (by decide)) (pa_cons (pc D.law_dearer Glaw_dearer (hr.mono (by decide)) (pa_cons (pv 1) (pa_cons (pv 5) (pa_cons (pv 6) pa_nil)))) pa_nil)))
      (pss_cons (ps_set (i := 8) sc_law.nd rfl (Or.inl rfl) (pc D.law_total Glaw_total (hr.mono (by decide)) (pa_cons (pe_op op_cat (pe_slice (slL K) (pv 1) po_none (po_some (pv 5))) (pe_slice (slL K) (pv 1) (po_some (pe_op op_add (pv 5) pe_int)) po_none)) pa_nil)))
      (pss_cons (ps_if (pt_cmpR op_isN (pv 3) pe_non (nomark _))
        (pss_one (ps_ret (pe_and (pe_cmpR op_isN (pv 7) pe_non (nomark _)) (pe_one (pe_cmpR op_ne (pv 8) (pe_un un_neg pe_int) (nomark _))))))
        pss_nil)
      (pss_cons (ps_if (PW.pt (pw_or (pt_cmpR op_isN (pv 7) pe_non (nomark _)) (pw_or1 (pt_cmpR op_ne (pv 7) (pe_op op_add (pv 3) (pv 6)) (nomark _)))))
        (pss_one (ps_ret pe_bl))
        pss_nil)
      (pss_one (ps_ret (pe_and (pe_cmpR op_notN (pv 8) pe_non (nomark _)) (pe_one (pe_chain op_le op_le pe_int (pv 8) (pv 3)))))))))))))))))), ?_⟩
    refine ⟨_, rfl, ?_⟩
    walk_at "go"
    refine ⟨szr, fun tl ntl => ?_⟩
    refine ⟨a, tl, ns, [10 ^ 12, 9, 2, 5 * 10 ^ 18 + 1], rfl, (Same.new ntl).seq hS, hl, SqL.of upd_same, by decide, by decide, by decide, fun t l m rs rows bs tp cs H2 s2 nt ht nl hl2 hm bl r6 nrs up bx ok => ?_⟩
    obtain ⟨b20, b18, c6⟩ := bx
    refine ⟨t, _, rfl, SqT.of ht, rfl, _, _, rfl, _, _, rfl, rfl, ?_⟩
    have rl := bl.len
    have okc : ∀ row ∈ rows, (row.map (·.1)).Nodup ∧ row.length ≤ 20 ∧ ∀ x ∈ row, 0 ≤ x.2 ∧ x.1 ∈ bs := fun row h => ⟨(ok row h).nd, by have := (ok row h).len; omega, fun x hx => ⟨((ok row h).inn x hx).2.1, ((ok row h).inn x hx).1⟩⟩
    have okg : ∀ row ∈ rows, (row.map (·.1)).Nodup ∧ row.length ≤ 20 := fun row h => ⟨(okc row h).1, (okc row h).2.1⟩
    have okn : ∀ row ∈ rows, ∀ x ∈ row, 0 ≤ x.2 := fun row h x hx => ((okc row h).2.2 x hx).1
    refine ⟨_, rfl, l, rs, rows, bs, rfl, hl2, bl, r6, okc, by omega, fun o H3 s3 bo => ?_⟩
    refine ⟨_, rfl, _, rfl, l, m, rs, rows, cs, rfl, s3 _ _ hl2, bl.same s3, r6, okg, SqL.of (s3 _ _ hm), by omega, fun co H4 s4 hco => ?_⟩
    have s24 := s3.trans s4
    have hl4 := s24 _ _ hl2
    have bl4 := bl.same s24
    have nm : decide (hV o = V.int (-1)) = false := by
      cases o with
      | none => rfl
      | some t =>
        have := bo.nn okn
        exact decide_eq_false fun z => by have z : t = -1 := V.int.inj z; omega
    refine ⟨_, rfl, _, rfl, (by cases o <;> rfl), _, rfl, ?_⟩
    rw [nm]
    refine iteF ?_
    refine tAnd_no (fun R r => ?_) ?_
    · cases co with
      | none => exact ⟨_, rfl, rfl, _, rfl, iteF r⟩
      | some ct =>
        obtain ⟨hs, dp, nd, ec⟩ := hco ct rfl
        cases o with
        | none => exact absurd nd (bo hs dp)
        | some tot =>
          have le := bo.2 hs dp nd
          refine ⟨_, rfl, rfl, _, rfl, iteT ?_⟩
          refine ⟨_, rfl, rfl, _, rfl, iteF ?_⟩
          refine ⟨_, rfl, _, rfl, _, _, rfl, rfl, _, rfl, ?_⟩
          rw [decide_eq_false (show ¬ ct < tot by omega)]
          exact r
    refine iteF ?_
    refine ⟨_, rfl, l, _, rfl, SqL.of hl4, by rw [List.length_map]; omega, fun tu ntu => ?_⟩
    have s5 := Same.new (o := .lst (rs.map V.ref).reverse) ntu
    refine ⟨tu, rs.reverse, rows.reverse, bs, rfl, by rw [upd_same, List.map_reverse], (bl4.same s5).rev, by rw [List.length_reverse]; exact r6, fun row h => okc row (List.mem_reverse.mp h), by omega, fun o2 H6 s6 bo2 => ?_⟩
    have eo : o2 = o := bo2.uniq bo.rev
    rw [eo]
    refine ⟨_, rfl, (by cases o <;> rfl), _, rfl, ?_⟩
    rw [decide_eq_true rfl]
    refine iteF ?_
    have s26 := s24.trans (s5.trans s6)
    have hl6 := s26 _ _ hl2
    refine ⟨_, rfl, szr, fun e ne => ⟨1, _, deq_nil (SqL.of ((Same.new ne) _ _ hl6)) (SqL.of upd_same), by decide, rfl, _, rfl, ifB (fun he => ?_) fun he => ?_⟩⟩
    · have r0 : rows = [] := by
        have : rs = [] := by
          cases rs with
          | nil => rfl
          | cons _ _ => cases he
        rw [this] at rl
        exact List.eq_nil_of_length_eq_zero rl.symm
      rw [r0] at bo
      have e0 := bo.nil
      subst e0
      exact ⟨_, rfl, rfl, q _⟩
    have s27 := s26.to (o := .lst []) ne
    have hl7 := s27 _ _ hl2
    have bl7 := bl.same s27
    have hS7 := (s2.trans s27).seq ((Same.new ntl).seq hS)
    generalize upd H6 e (.lst []) = H7 at s27 hl7 bl7 hS7
    have rpos : 0 < rows.length := by
      rw [← rl]
      cases rs with
      | nil => cases he
      | cons _ _ => exact Nat.succ_pos _
    obtain ⟨at', hat, eat⟩ := modN (ns.getD 3 0) rpos
    refine ⟨_, rfl, a, ns, 3, rfl, hS7, _, rfl, _, _, rfl, .inl ⟨_, SqL.of hl7, rfl⟩, _, _, rfl, rfl, (by rw [List.length_map, rl]; show (0 : Int) < ((rows.length : Nat) : Int); omega), ?_⟩
    have eat : ns.getD 3 0 % (((rs.map V.ref).length : Nat) : Int) = (at' : Int) := by rw [List.length_map, rl]; exact eat
    dsimp only
    rw [eat]
    refine ⟨_, rfl, a, ns, 3, rfl, hS7, _, _, rfl, rfl, (show CDiv _ 6 from ⟨by decide, by decide⟩), _, _, rfl, rfl, ⟨by decide, by decide, by decide⟩, _, _, rfl, rfl, _, _, rfl, rfl, (show (0 : Int) < 10 ^ (18 : Int).toNat + 1 by decide), ?_⟩
    have mo0 := Int.emod_nonneg (ns.getD 3 0 / 6) (show (10 ^ (18 : Int).toNat + 1 : Int) ≠ 0 by decide)
    dsimp only
    generalize ns.getD 3 0 / 6 % (10 ^ (18 : Int).toNat + 1) = mo at mo0
    obtain ⟨A, B, row, erow, lA⟩ : ∃ A B row, rows = A ++ row :: B ∧ A.length = at' := ⟨rows.take at', rows.drop (at' + 1), rows[at'], by rw [List.getElem_cons_drop, List.take_append_drop], by rw [List.length_take]; omega⟩
    have rowin : row ∈ rows := by rw [erow]; simp
    have okd : ∀ r ∈ A ++ dearR mo row :: B, (r.map (·.1)).Nodup ∧ r.length ≤ 20 ∧ ∀ x ∈ r, 0 ≤ x.2 ∧ x.1 ∈ bs := fun r hr => by
      rcases List.mem_append.mp hr with z | z
      · exact okc r (by rw [erow]; exact List.mem_append_left _ z)
      rcases List.mem_cons.mp z with z | z
      · subst z
        obtain ⟨k1, k2, k3⟩ := okc row rowin
        refine ⟨by have := dear_keys (more := mo) (row := row); unfold keysOf at this; rw [this]; exact k1, by unfold dearR; rw [List.length_map]; exact k2, fun x hx => ?_⟩
        unfold dearR at hx
        obtain ⟨y, hy, rfl⟩ := List.mem_map.mp hx
        have := k3 y hy
        exact ⟨by show 0 ≤ y.2 + mo; omega, this.2⟩
      · exact okc r (by rw [erow]; exact List.mem_append_right _ (List.mem_cons_of_mem _ z))
    have lr : (A ++ row :: B).length = rows.length := by rw [erow]
    refine ⟨_, rfl, _, rfl, _, rfl, l, at', mo, rs, A, B, row, rfl, hl7, by rw [← erow]; exact bl7, lA, by omega, (okc row rowin).2.1, fun l8 rs8 H8 s8 nl8 hl8 bl8 => ?_⟩
    refine ⟨l8, rs8, A ++ dearR mo row :: B, bs, rfl, hl8, bl8, by simp at lr ⊢; omega, okd, by omega, fun o8 H9 s9 bo8 => ?_⟩
    have e8 : o8 = o.map (· + mo) := bo8.uniq (by rw [erow] at bo; exact bo.dear)
    rw [e8]
    have s29 := s27.trans (s8.trans s9)
    have hl9 := s29 _ _ hl2
    have bl9 := bl.same s29
    refine ⟨_, rfl, _, rfl, _, rfl, l, _, rfl, SqL.of hl9, fun c1 nc1 => ?_⟩
    rw [cut_to]
    have t1 := Same.new (o := .lst ((rs.map V.ref).take at')) nc1
    refine ⟨_, rfl, _, rfl, _, _, rfl, rfl, _, rfl, l, _, rfl, SqL.of (t1 _ _ hl9), fun c2 nc2 => ?_⟩
    rw [show (at' : Int) + 1 = ((at' + 1 : Nat) : Int) by omega, cut_from]
    have t2 := t1.to (o := .lst ((rs.map V.ref).drop (at' + 1))) nc2
    have h12 : c1 ≠ c2 := fun z => by rw [← z, upd_same] at nc2; cases nc2
    refine ⟨c1, c2, _, _, rfl, rfl, by rw [upd_ne h12]; exact upd_same, upd_same, szl (by rw [List.length_take, List.length_drop, List.length_map]; omega), fun g ng => ?_⟩
    have t3 := t2.to (o := .lst ((rs.map V.ref).take at' ++ (rs.map V.ref).drop (at' + 1))) ng
    have rA' : rows.take at' = A := by rw [erow, ← lA]; simp
    have rB' : rows.drop (at' + 1) = B := by rw [erow, ← lA]; simp
    have bl10 : BillL (upd (upd (upd H9 c1 (.lst ((rs.map V.ref).take at'))) c2 (.lst ((rs.map V.ref).drop (at' + 1)))) g (.lst ((rs.map V.ref).take at' ++ (rs.map V.ref).drop (at' + 1)))) (rs.take at' ++ rs.drop (at' + 1)) (A ++ B) := by
      have := bl9.same t3
      rw [← rA', ← rB']
      exact paired_app (paired_take this _) (paired_drop this _)
    refine ⟨g, rs.take at' ++ rs.drop (at' + 1), A ++ B, bs, rfl, by rw [upd_same, List.map_append, List.map_take, List.map_drop], bl10, by simp at lr ⊢; omega, fun r hr => okc r (by
      rw [erow]
      rcases List.mem_append.mp hr with z | z
      · exact List.mem_append_left _ z
      · exact List.mem_append_right _ (List.mem_cons_of_mem _ z)), by omega, fun o10 H11 s11 bo10 => ?_⟩
    have okAB : ∀ row ∈ A ++ B, ∀ x ∈ row, 0 ≤ x.2 := fun r hr => okn r (by
      rw [erow]
      rcases List.mem_append.mp hr with z | z
      · exact List.mem_append_left _ z
      · exact List.mem_append_right _ (List.mem_cons_of_mem _ z))
    cases o with
    | none =>
      refine ⟨_, rfl, rfl, _, rfl, iteT ?_⟩
      refine ⟨_, rfl, rfl, _, rfl, iteT ?_⟩
      have n1 : decide (hV o10 = V.int (-1)) = false := by
        cases o10 with
        | none => rfl
        | some t =>
          have := bo10.nn okAB
          exact decide_eq_false fun z => by have z : t = -1 := V.int.inj z; omega
      refine ⟨_, rfl, _, rfl, (by cases o10 <;> rfl), ?_⟩
      rw [n1]
      exact q _
    | some tot =>
      rw [erow] at bo okn
      obtain ⟨t', rfl, t0, t1'⟩ := bo.fewer okn bo10
      refine ⟨_, rfl, rfl, _, rfl, iteF ?_⟩
      refine ⟨_, rfl, rfl, _, rfl, iteF ?_⟩
      refine ⟨_, rfl, _, rfl, _, rfl, _, _, rfl, rfl, rfl, _, rfl, ifNeF rfl ?_⟩
      refine ⟨_, rfl, rfl, _, rfl, iteT ?_⟩
      refine ⟨_, rfl, _, _, rfl, rfl, _, rfl, ?_⟩
      rw [decide_eq_true t0]
      refine iteT ?_
      refine ⟨_, rfl, _, _, rfl, rfl, ?_⟩
      dsimp only
      rw [decide_eq_true t1']
      exact q _
end
theorem all_mk {l : PySem.W.OpenLaw} {w : World} {K : PySem.W.Frag} {h : Heap} {mg : Str → Option Value} {fa f_deal f_settle f_short_places f_hands_of f_cheap f_serve f_nearest_badge f_raise_all f_hand_on f_law_cell f_law_entries f_law_whole f_law_badges f_law_bill f_law_pools f_law_total f_law_drawn f_law_dearer f_law : Addr} (X : K.In h) (G : h.Ns mainGlobals mg) (hfa : mg "law" = some (.ref fa))
    {od_deal an_deal : Option Addr} {sl_deal : Array (Option Value)} {oc_deal kV_deal dc_deal pm_deal cd_deal ct_deal : Value}
    {od_settle an_settle : Option Addr} {sl_settle : Array (Option Value)} {oc_settle kV_settle dc_settle pm_settle cd_settle ct_settle : Value}
    {od_short_places an_short_places : Option Addr} {sl_short_places : Array (Option Value)} {oc_short_places kV_short_places dc_short_places pm_short_places cd_short_places ct_short_places : Value}
    {od_hands_of an_hands_of : Option Addr} {sl_hands_of : Array (Option Value)} {oc_hands_of kV_hands_of dc_hands_of pm_hands_of cd_hands_of ct_hands_of : Value}
    {od_cheap an_cheap : Option Addr} {sl_cheap : Array (Option Value)} {oc_cheap kV_cheap dc_cheap pm_cheap cd_cheap ct_cheap : Value}
    {od_serve an_serve : Option Addr} {sl_serve : Array (Option Value)} {oc_serve kV_serve dc_serve pm_serve cd_serve ct_serve : Value}
    {od_nearest_badge an_nearest_badge : Option Addr} {sl_nearest_badge : Array (Option Value)} {oc_nearest_badge kV_nearest_badge dc_nearest_badge pm_nearest_badge cd_nearest_badge ct_nearest_badge : Value}
    {od_raise_all an_raise_all : Option Addr} {sl_raise_all : Array (Option Value)} {oc_raise_all kV_raise_all dc_raise_all pm_raise_all cd_raise_all ct_raise_all : Value}
    {od_hand_on an_hand_on : Option Addr} {sl_hand_on : Array (Option Value)} {oc_hand_on kV_hand_on dc_hand_on pm_hand_on cd_hand_on ct_hand_on : Value}
    {od_law_cell an_law_cell : Option Addr} {sl_law_cell : Array (Option Value)} {oc_law_cell kV_law_cell dc_law_cell pm_law_cell cd_law_cell ct_law_cell : Value}
    {od_law_entries an_law_entries : Option Addr} {sl_law_entries : Array (Option Value)} {oc_law_entries kV_law_entries dc_law_entries pm_law_entries cd_law_entries ct_law_entries : Value}
    {od_law_whole an_law_whole : Option Addr} {sl_law_whole : Array (Option Value)} {oc_law_whole kV_law_whole dc_law_whole pm_law_whole cd_law_whole ct_law_whole : Value}
    {od_law_badges an_law_badges : Option Addr} {sl_law_badges : Array (Option Value)} {oc_law_badges kV_law_badges dc_law_badges pm_law_badges cd_law_badges ct_law_badges : Value}
    {od_law_bill an_law_bill : Option Addr} {sl_law_bill : Array (Option Value)} {oc_law_bill kV_law_bill dc_law_bill pm_law_bill cd_law_bill ct_law_bill : Value}
    {od_law_pools an_law_pools : Option Addr} {sl_law_pools : Array (Option Value)} {oc_law_pools kV_law_pools dc_law_pools pm_law_pools cd_law_pools ct_law_pools : Value}
    {od_law_total an_law_total : Option Addr} {sl_law_total : Array (Option Value)} {oc_law_total kV_law_total dc_law_total pm_law_total cd_law_total ct_law_total : Value}
    {od_law_drawn an_law_drawn : Option Addr} {sl_law_drawn : Array (Option Value)} {oc_law_drawn kV_law_drawn dc_law_drawn pm_law_drawn cd_law_drawn ct_law_drawn : Value}
    {od_law_dearer an_law_dearer : Option Addr} {sl_law_dearer : Array (Option Value)} {oc_law_dearer kV_law_dearer dc_law_dearer pm_law_dearer cd_law_dearer ct_law_dearer : Value}
    {od_law an_law : Option Addr} {sl_law : Array (Option Value)} {oc_law kV_law dc_law pm_law cd_law ct_law : Value}
    (a_deal : PySem.W.nsIn K mainGlobals "deal" = some (some (.ref f_deal))) (l_deal : K.lookup f_deal = some ⟨oc_deal, od_deal, .func (PySem.W.fnOf "deal" "deal" (defArgs s_deal) (defBody s_deal) (defScope s_deal) .none kV_deal dc_deal pm_deal an_deal cd_deal ct_deal), sl_deal⟩) (c_deal : PySem.W.codeIn K cd_deal "deal" = true) (k_deal : PySem.W.keepIn K (.ref f_deal) = true)
    (a_settle : PySem.W.nsIn K mainGlobals "settle" = some (some (.ref f_settle))) (l_settle : K.lookup f_settle = some ⟨oc_settle, od_settle, .func (PySem.W.fnOf "settle" "settle" (defArgs s_settle) (defBody s_settle) (defScope s_settle) .none kV_settle dc_settle pm_settle an_settle cd_settle ct_settle), sl_settle⟩) (c_settle : PySem.W.codeIn K cd_settle "settle" = true) (k_settle : PySem.W.keepIn K (.ref f_settle) = true)
    (a_short_places : PySem.W.nsIn K mainGlobals "short_places" = some (some (.ref f_short_places))) (l_short_places : K.lookup f_short_places = some ⟨oc_short_places, od_short_places, .func (PySem.W.fnOf "short_places" "short_places" (defArgs s_short_places) (defBody s_short_places) (defScope s_short_places) .none kV_short_places dc_short_places pm_short_places an_short_places cd_short_places ct_short_places), sl_short_places⟩) (c_short_places : PySem.W.codeIn K cd_short_places "short_places" = true) (k_short_places : PySem.W.keepIn K (.ref f_short_places) = true)
    (a_hands_of : PySem.W.nsIn K mainGlobals "hands_of" = some (some (.ref f_hands_of))) (l_hands_of : K.lookup f_hands_of = some ⟨oc_hands_of, od_hands_of, .func (PySem.W.fnOf "hands_of" "hands_of" (defArgs s_hands_of) (defBody s_hands_of) (defScope s_hands_of) .none kV_hands_of dc_hands_of pm_hands_of an_hands_of cd_hands_of ct_hands_of), sl_hands_of⟩) (c_hands_of : PySem.W.codeIn K cd_hands_of "hands_of" = true) (k_hands_of : PySem.W.keepIn K (.ref f_hands_of) = true)
    (a_cheap : PySem.W.nsIn K mainGlobals "cheap" = some (some (.ref f_cheap))) (l_cheap : K.lookup f_cheap = some ⟨oc_cheap, od_cheap, .func (PySem.W.fnOf "cheap" "cheap" (defArgs s_cheap) (defBody s_cheap) (defScope s_cheap) .none kV_cheap dc_cheap pm_cheap an_cheap cd_cheap ct_cheap), sl_cheap⟩) (c_cheap : PySem.W.codeIn K cd_cheap "cheap" = true) (k_cheap : PySem.W.keepIn K (.ref f_cheap) = true)
    (a_serve : PySem.W.nsIn K mainGlobals "serve" = some (some (.ref f_serve))) (l_serve : K.lookup f_serve = some ⟨oc_serve, od_serve, .func (PySem.W.fnOf "serve" "serve" (defArgs s_serve) (defBody s_serve) (defScope s_serve) .none kV_serve dc_serve pm_serve an_serve cd_serve ct_serve), sl_serve⟩) (c_serve : PySem.W.codeIn K cd_serve "serve" = true) (k_serve : PySem.W.keepIn K (.ref f_serve) = true)
    (a_nearest_badge : PySem.W.nsIn K mainGlobals "nearest_badge" = some (some (.ref f_nearest_badge))) (l_nearest_badge : K.lookup f_nearest_badge = some ⟨oc_nearest_badge, od_nearest_badge, .func (PySem.W.fnOf "nearest_badge" "nearest_badge" (defArgs s_nearest_badge) (defBody s_nearest_badge) (defScope s_nearest_badge) .none kV_nearest_badge dc_nearest_badge pm_nearest_badge an_nearest_badge cd_nearest_badge ct_nearest_badge), sl_nearest_badge⟩) (c_nearest_badge : PySem.W.codeIn K cd_nearest_badge "nearest_badge" = true) (k_nearest_badge : PySem.W.keepIn K (.ref f_nearest_badge) = true)
    (a_raise_all : PySem.W.nsIn K mainGlobals "raise_all" = some (some (.ref f_raise_all))) (l_raise_all : K.lookup f_raise_all = some ⟨oc_raise_all, od_raise_all, .func (PySem.W.fnOf "raise_all" "raise_all" (defArgs s_raise_all) (defBody s_raise_all) (defScope s_raise_all) .none kV_raise_all dc_raise_all pm_raise_all an_raise_all cd_raise_all ct_raise_all), sl_raise_all⟩) (c_raise_all : PySem.W.codeIn K cd_raise_all "raise_all" = true) (k_raise_all : PySem.W.keepIn K (.ref f_raise_all) = true)
    (a_hand_on : PySem.W.nsIn K mainGlobals "hand_on" = some (some (.ref f_hand_on))) (l_hand_on : K.lookup f_hand_on = some ⟨oc_hand_on, od_hand_on, .func (PySem.W.fnOf "hand_on" "hand_on" (defArgs s_hand_on) (defBody s_hand_on) (defScope s_hand_on) .none kV_hand_on dc_hand_on pm_hand_on an_hand_on cd_hand_on ct_hand_on), sl_hand_on⟩) (c_hand_on : PySem.W.codeIn K cd_hand_on "hand_on" = true) (k_hand_on : PySem.W.keepIn K (.ref f_hand_on) = true)
    (a_law_cell : PySem.W.nsIn K mainGlobals "_law_cell" = some (some (.ref f_law_cell))) (l_law_cell : K.lookup f_law_cell = some ⟨oc_law_cell, od_law_cell, .func (PySem.W.fnOf "_law_cell" "_law_cell" (defArgs s_law_cell) (defBody s_law_cell) (defScope s_law_cell) .none kV_law_cell dc_law_cell pm_law_cell an_law_cell cd_law_cell ct_law_cell), sl_law_cell⟩) (c_law_cell : PySem.W.codeIn K cd_law_cell "_law_cell" = true) (k_law_cell : PySem.W.keepIn K (.ref f_law_cell) = true)
    (a_law_entries : PySem.W.nsIn K mainGlobals "_law_entries" = some (some (.ref f_law_entries))) (l_law_entries : K.lookup f_law_entries = some ⟨oc_law_entries, od_law_entries, .func (PySem.W.fnOf "_law_entries" "_law_entries" (defArgs s_law_entries) (defBody s_law_entries) (defScope s_law_entries) .none kV_law_entries dc_law_entries pm_law_entries an_law_entries cd_law_entries ct_law_entries), sl_law_entries⟩) (c_law_entries : PySem.W.codeIn K cd_law_entries "_law_entries" = true) (k_law_entries : PySem.W.keepIn K (.ref f_law_entries) = true)
    (a_law_whole : PySem.W.nsIn K mainGlobals "_law_whole" = some (some (.ref f_law_whole))) (l_law_whole : K.lookup f_law_whole = some ⟨oc_law_whole, od_law_whole, .func (PySem.W.fnOf "_law_whole" "_law_whole" (defArgs s_law_whole) (defBody s_law_whole) (defScope s_law_whole) .none kV_law_whole dc_law_whole pm_law_whole an_law_whole cd_law_whole ct_law_whole), sl_law_whole⟩) (c_law_whole : PySem.W.codeIn K cd_law_whole "_law_whole" = true) (k_law_whole : PySem.W.keepIn K (.ref f_law_whole) = true)
    (a_law_badges : PySem.W.nsIn K mainGlobals "_law_badges" = some (some (.ref f_law_badges))) (l_law_badges : K.lookup f_law_badges = some ⟨oc_law_badges, od_law_badges, .func (PySem.W.fnOf "_law_badges" "_law_badges" (defArgs s_law_badges) (defBody s_law_badges) (defScope s_law_badges) .none kV_law_badges dc_law_badges pm_law_badges an_law_badges cd_law_badges ct_law_badges), sl_law_badges⟩) (c_law_badges : PySem.W.codeIn K cd_law_badges "_law_badges" = true) (k_law_badges : PySem.W.keepIn K (.ref f_law_badges) = true)
    (a_law_bill : PySem.W.nsIn K mainGlobals "_law_bill" = some (some (.ref f_law_bill))) (l_law_bill : K.lookup f_law_bill = some ⟨oc_law_bill, od_law_bill, .func (PySem.W.fnOf "_law_bill" "_law_bill" (defArgs s_law_bill) (defBody s_law_bill) (defScope s_law_bill) .none kV_law_bill dc_law_bill pm_law_bill an_law_bill cd_law_bill ct_law_bill), sl_law_bill⟩) (c_law_bill : PySem.W.codeIn K cd_law_bill "_law_bill" = true) (k_law_bill : PySem.W.keepIn K (.ref f_law_bill) = true)
    (a_law_pools : PySem.W.nsIn K mainGlobals "_law_pools" = some (some (.ref f_law_pools))) (l_law_pools : K.lookup f_law_pools = some ⟨oc_law_pools, od_law_pools, .func (PySem.W.fnOf "_law_pools" "_law_pools" (defArgs s_law_pools) (defBody s_law_pools) (defScope s_law_pools) .none kV_law_pools dc_law_pools pm_law_pools an_law_pools cd_law_pools ct_law_pools), sl_law_pools⟩) (c_law_pools : PySem.W.codeIn K cd_law_pools "_law_pools" = true) (k_law_pools : PySem.W.keepIn K (.ref f_law_pools) = true)
    (a_law_total : PySem.W.nsIn K mainGlobals "_law_total" = some (some (.ref f_law_total))) (l_law_total : K.lookup f_law_total = some ⟨oc_law_total, od_law_total, .func (PySem.W.fnOf "_law_total" "_law_total" (defArgs s_law_total) (defBody s_law_total) (defScope s_law_total) .none kV_law_total dc_law_total pm_law_total an_law_total cd_law_total ct_law_total), sl_law_total⟩) (c_law_total : PySem.W.codeIn K cd_law_total "_law_total" = true) (k_law_total : PySem.W.keepIn K (.ref f_law_total) = true)
    (a_law_drawn : PySem.W.nsIn K mainGlobals "_law_drawn" = some (some (.ref f_law_drawn))) (l_law_drawn : K.lookup f_law_drawn = some ⟨oc_law_drawn, od_law_drawn, .func (PySem.W.fnOf "_law_drawn" "_law_drawn" (defArgs s_law_drawn) (defBody s_law_drawn) (defScope s_law_drawn) .none kV_law_drawn dc_law_drawn pm_law_drawn an_law_drawn cd_law_drawn ct_law_drawn), sl_law_drawn⟩) (c_law_drawn : PySem.W.codeIn K cd_law_drawn "_law_drawn" = true) (k_law_drawn : PySem.W.keepIn K (.ref f_law_drawn) = true)
    (a_law_dearer : PySem.W.nsIn K mainGlobals "_law_dearer" = some (some (.ref f_law_dearer))) (l_law_dearer : K.lookup f_law_dearer = some ⟨oc_law_dearer, od_law_dearer, .func (PySem.W.fnOf "_law_dearer" "_law_dearer" (defArgs s_law_dearer) (defBody s_law_dearer) (defScope s_law_dearer) .none kV_law_dearer dc_law_dearer pm_law_dearer an_law_dearer cd_law_dearer ct_law_dearer), sl_law_dearer⟩) (c_law_dearer : PySem.W.codeIn K cd_law_dearer "_law_dearer" = true) (k_law_dearer : PySem.W.keepIn K (.ref f_law_dearer) = true)
    (a_law : PySem.W.nsIn K mainGlobals "law" = some (some (.ref f_law))) (l_law : K.lookup f_law = some ⟨oc_law, od_law, .func (PySem.W.fnOf "law" "law" (defArgs s_law) (defBody s_law) (defScope s_law) .none kV_law dc_law pm_law an_law cd_law ct_law), sl_law⟩) (c_law : PySem.W.codeIn K cd_law "law" = true) (k_law : PySem.W.keepIn K (.ref f_law) = true)
    (z_bool : PySem.W.nsIn K mainGlobals "bool" = some none)
    (z_dict : PySem.W.nsIn K mainGlobals "dict" = some none)
    (z_int : PySem.W.nsIn K mainGlobals "int" = some none)
    (z_isinstance : PySem.W.nsIn K mainGlobals "isinstance" = some none)
    (z_len : PySem.W.nsIn K mainGlobals "len" = some none)
    (z_list : PySem.W.nsIn K mainGlobals "list" = some none)
    (z_range : PySem.W.nsIn K mainGlobals "range" = some none)
    (z_reversed : PySem.W.nsIn K mainGlobals "reversed" = some none)
    (z_sorted : PySem.W.nsIn K mainGlobals "sorted" = some none)
    (z_sum : PySem.W.nsIn K mainGlobals "sum" = some none)
    (z_tuple : PySem.W.nsIn K mainGlobals "tuple" = some none)
    (z_zip : PySem.W.nsIn K mainGlobals "zip" = some none)
    : ∃ fd : FuncData, (∀ (s : Shared) (v : Value), BindsTo s fd ⟨[v], []⟩ [("script", v)]) ∧ ∀ base : Heap, K.In base → base.Ns mainGlobals mg → FnOk l.prog w K mg base CX0 32 fa fd ["script"] (sp_law K) := by
  have e := hfa.symm.trans (PySem.W.mg_of X G a_law)
  cases e
  have T : Txt mg := ⟨PySem.W.mg_none_of X G z_bool, PySem.W.mg_none_of X G z_dict, PySem.W.mg_none_of X G z_int, PySem.W.mg_none_of X G z_isinstance, PySem.W.mg_none_of X G z_len, PySem.W.mg_none_of X G z_list, PySem.W.mg_none_of X G z_range, PySem.W.mg_none_of X G z_reversed, PySem.W.mg_none_of X G z_sorted, PySem.W.mg_none_of X G z_sum, PySem.W.mg_none_of X G z_tuple, PySem.W.mg_none_of X G z_zip⟩
  have F_deal := fun_mk (st := s_deal) l_deal c_deal k_deal
  have F_settle := fun_mk (st := s_settle) l_settle c_settle k_settle
  have F_short_places := fun_mk (st := s_short_places) l_short_places c_short_places k_short_places
  have F_hands_of := fun_mk (st := s_hands_of) l_hands_of c_hands_of k_hands_of
  have F_cheap := fun_mk (st := s_cheap) l_cheap c_cheap k_cheap
  have F_serve := fun_mk (st := s_serve) l_serve c_serve k_serve
  have F_nearest_badge := fun_mk (st := s_nearest_badge) l_nearest_badge c_nearest_badge k_nearest_badge
  have F_raise_all := fun_mk (st := s_raise_all) l_raise_all c_raise_all k_raise_all
  have F_hand_on := fun_mk (st := s_hand_on) l_hand_on c_hand_on k_hand_on
  have F_law_cell := fun_mk (st := s_law_cell) l_law_cell c_law_cell k_law_cell
  have F_law_entries := fun_mk (st := s_law_entries) l_law_entries c_law_entries k_law_entries
  have F_law_whole := fun_mk (st := s_law_whole) l_law_whole c_law_whole k_law_whole
  have F_law_badges := fun_mk (st := s_law_badges) l_law_badges c_law_badges k_law_badges
  have F_law_bill := fun_mk (st := s_law_bill) l_law_bill c_law_bill k_law_bill
  have F_law_pools := fun_mk (st := s_law_pools) l_law_pools c_law_pools k_law_pools
  have F_law_total := fun_mk (st := s_law_total) l_law_total c_law_total k_law_total
  have F_law_drawn := fun_mk (st := s_law_drawn) l_law_drawn c_law_drawn k_law_drawn
  have F_law_dearer := fun_mk (st := s_law_dearer) l_law_dearer c_law_dearer k_law_dearer
  have F_law := fun_mk (st := s_law) l_law c_law k_law
  have b_deal := F_deal.binds (ps := ["pools"]) fun _ _ _ _ _ _ us hl => by obtain ⟨_, rfl⟩ := ex1 hl; rfl
  have b_settle := F_settle.binds (ps := ["pools", "holders", "place", "asked"]) fun _ _ _ _ _ _ us hl => by obtain ⟨_, _, _, _, rfl⟩ := ex4 hl; rfl
  have b_short_places := F_short_places.binds (ps := ["holders", "place", "asked"]) fun _ _ _ _ _ _ us hl => by obtain ⟨_, _, _, rfl⟩ := ex3 hl; rfl
  have b_hands_of := F_hands_of.binds (ps := ["holders", "count"]) fun _ _ _ _ _ _ us hl => by obtain ⟨_, _, rfl⟩ := ex2 hl; rfl
  have b_cheap := F_cheap.binds (ps := ["pools"]) fun _ _ _ _ _ _ us hl => by obtain ⟨_, rfl⟩ := ex1 hl; rfl
  have b_serve := F_serve.binds (ps := ["pools", "hands", "prices", "dues", "place"]) fun _ _ _ _ _ _ us hl => by obtain ⟨_, _, _, _, _, rfl⟩ := ex5 hl; rfl
  have b_nearest_badge := F_nearest_badge.binds (ps := ["pools", "prices", "dues", "reached", "askers"]) fun _ _ _ _ _ _ us hl => by obtain ⟨_, _, _, _, _, rfl⟩ := ex5 hl; rfl
  have b_raise_all := F_raise_all.binds (ps := ["numbers", "keys", "gap"]) fun _ _ _ _ _ _ us hl => by obtain ⟨_, _, _, rfl⟩ := ex3 hl; rfl
  have b_hand_on := F_hand_on.binds (ps := ["hands", "askers", "badge"]) fun _ _ _ _ _ _ us hl => by obtain ⟨_, _, _, rfl⟩ := ex3 hl; rfl
  have b_law_cell := F_law_cell.binds (ps := ["script", "k"]) fun _ _ _ _ _ _ us hl => by obtain ⟨_, _, rfl⟩ := ex2 hl; rfl
  have b_law_entries := F_law_entries.binds (ps := ["script", "size"]) fun _ _ _ _ _ _ us hl => by obtain ⟨_, _, rfl⟩ := ex2 hl; rfl
  have b_law_whole := F_law_whole.binds (ps := ["found"]) fun _ _ _ _ _ _ us hl => by obtain ⟨_, rfl⟩ := ex1 hl; rfl
  have b_law_badges := F_law_badges.binds (ps := ["cells", "gap", "high"]) fun _ _ _ _ _ _ us hl => by obtain ⟨_, _, _, rfl⟩ := ex3 hl; rfl
  have b_law_bill := F_law_bill.binds (ps := ["cells", "badges", "dense", "top", "count"]) fun _ _ _ _ _ _ us hl => by obtain ⟨_, _, _, _, _, rfl⟩ := ex5 hl; rfl
  have b_law_pools := F_law_pools.binds (ps := ["script", "tops"]) fun _ _ _ _ _ _ us hl => by obtain ⟨_, _, rfl⟩ := ex2 hl; rfl
  have b_law_total := F_law_total.binds (ps := ["pools"]) fun _ _ _ _ _ _ us hl => by obtain ⟨_, rfl⟩ := ex1 hl; rfl
  have b_law_drawn := F_law_drawn.binds (ps := ["pools", "cells"]) fun _ _ _ _ _ _ us hl => by obtain ⟨_, _, rfl⟩ := ex2 hl; rfl
  have b_law_dearer := F_law_dearer.binds (ps := ["pools", "at", "more"]) fun _ _ _ _ _ _ us hl => by obtain ⟨_, _, _, rfl⟩ := ex3 hl; rfl
  have b_law := F_law.binds (ps := ["script"]) fun _ _ _ _ _ _ us hl => by obtain ⟨_, rfl⟩ := ex1 hl; rfl
  exact ⟨PySem.W.fnOf "law" "law" (defArgs s_law) (defBody s_law) (defScope s_law) .none kV_law dc_law pm_law an_law cd_law ct_law, fun s v => .of_eq rfl, fun base _ _ => ok_law (aF := fun i => List.getD [f_deal, f_settle, f_short_places, f_hands_of, f_cheap, f_serve, f_nearest_badge, f_raise_all, f_hand_on, f_law_cell, f_law_entries, f_law_whole, f_law_badges, f_law_bill, f_law_pools, f_law_total, f_law_drawn, f_law_dearer, fa] i fa) (dF := fun i => List.getD [PySem.W.fnOf "deal" "deal" (defArgs s_deal) (defBody s_deal) (defScope s_deal) .none kV_deal dc_deal pm_deal an_deal cd_deal ct_deal, PySem.W.fnOf "settle" "settle" (defArgs s_settle) (defBody s_settle) (defScope s_settle) .none kV_settle dc_settle pm_settle an_settle cd_settle ct_settle, PySem.W.fnOf "short_places" "short_places" (defArgs s_short_places) (defBody s_short_places) (defScope s_short_places) .none kV_short_places dc_short_places pm_short_places an_short_places cd_short_places ct_short_places, PySem.W.fnOf "hands_of" "hands_of" (defArgs s_hands_of) (defBody s_hands_of) (defScope s_hands_of) .none kV_hands_of dc_hands_of pm_hands_of an_hands_of cd_hands_of ct_hands_of, PySem.W.fnOf "cheap" "cheap" (defArgs s_cheap) (defBody s_cheap) (defScope s_cheap) .none kV_cheap dc_cheap pm_cheap an_cheap cd_cheap ct_cheap, PySem.W.fnOf "serve" "serve" (defArgs s_serve) (defBody s_serve) (defScope s_serve) .none kV_serve dc_serve pm_serve an_serve cd_serve ct_serve, PySem.W.fnOf "nearest_badge" "nearest_badge" (defArgs s_nearest_badge) (defBody s_nearest_badge) (defScope s_nearest_badge) .none kV_nearest_badge dc_nearest_badge pm_nearest_badge an_nearest_badge cd_nearest_badge ct_nearest_badge, PySem.W.fnOf "raise_all" "raise_all" (defArgs s_raise_all) (defBody s_raise_all) (defScope s_raise_all) .none kV_raise_all dc_raise_all pm_raise_all an_raise_all cd_raise_all ct_raise_all, PySem.W.fnOf "hand_on" "hand_on" (defArgs s_hand_on) (defBody s_hand_on) (defScope s_hand_on) .none kV_hand_on dc_hand_on pm_hand_on an_hand_on cd_hand_on ct_hand_on, PySem.W.fnOf "_law_cell" "_law_cell" (defArgs s_law_cell) (defBody s_law_cell) (defScope s_law_cell) .none kV_law_cell dc_law_cell pm_law_cell an_law_cell cd_law_cell ct_law_cell, PySem.W.fnOf "_law_entries" "_law_entries" (defArgs s_law_entries) (defBody s_law_entries) (defScope s_law_entries) .none kV_law_entries dc_law_entries pm_law_entries an_law_entries cd_law_entries ct_law_entries, PySem.W.fnOf "_law_whole" "_law_whole" (defArgs s_law_whole) (defBody s_law_whole) (defScope s_law_whole) .none kV_law_whole dc_law_whole pm_law_whole an_law_whole cd_law_whole ct_law_whole, PySem.W.fnOf "_law_badges" "_law_badges" (defArgs s_law_badges) (defBody s_law_badges) (defScope s_law_badges) .none kV_law_badges dc_law_badges pm_law_badges an_law_badges cd_law_badges ct_law_badges, PySem.W.fnOf "_law_bill" "_law_bill" (defArgs s_law_bill) (defBody s_law_bill) (defScope s_law_bill) .none kV_law_bill dc_law_bill pm_law_bill an_law_bill cd_law_bill ct_law_bill, PySem.W.fnOf "_law_pools" "_law_pools" (defArgs s_law_pools) (defBody s_law_pools) (defScope s_law_pools) .none kV_law_pools dc_law_pools pm_law_pools an_law_pools cd_law_pools ct_law_pools, PySem.W.fnOf "_law_total" "_law_total" (defArgs s_law_total) (defBody s_law_total) (defScope s_law_total) .none kV_law_total dc_law_total pm_law_total an_law_total cd_law_total ct_law_total, PySem.W.fnOf "_law_drawn" "_law_drawn" (defArgs s_law_drawn) (defBody s_law_drawn) (defScope s_law_drawn) .none kV_law_drawn dc_law_drawn pm_law_drawn an_law_drawn cd_law_drawn ct_law_drawn, PySem.W.fnOf "_law_dearer" "_law_dearer" (defArgs s_law_dearer) (defBody s_law_dearer) (defScope s_law_dearer) .none kV_law_dearer dc_law_dearer pm_law_dearer an_law_dearer cd_law_dearer ct_law_dearer, PySem.W.fnOf "law" "law" (defArgs s_law) (defBody s_law) (defScope s_law) .none kV_law dc_law pm_law an_law cd_law ct_law] i (PySem.W.fnOf "law" "law" (defArgs s_law) (defBody s_law) (defScope s_law) .none kV_law dc_law pm_law an_law cd_law ct_law)) (⟨⟨F_deal, b_deal, PySem.W.mg_of X G a_deal⟩, ⟨F_settle, b_settle, PySem.W.mg_of X G a_settle⟩, ⟨F_short_places, b_short_places, PySem.W.mg_of X G a_short_places⟩, ⟨F_hands_of, b_hands_of, PySem.W.mg_of X G a_hands_of⟩, ⟨F_cheap, b_cheap, PySem.W.mg_of X G a_cheap⟩, ⟨F_serve, b_serve, PySem.W.mg_of X G a_serve⟩, ⟨F_nearest_badge, b_nearest_badge, PySem.W.mg_of X G a_nearest_badge⟩, ⟨F_raise_all, b_raise_all, PySem.W.mg_of X G a_raise_all⟩, ⟨F_hand_on, b_hand_on, PySem.W.mg_of X G a_hand_on⟩, ⟨F_law_cell, b_law_cell, PySem.W.mg_of X G a_law_cell⟩, ⟨F_law_entries, b_law_entries, PySem.W.mg_of X G a_law_entries⟩, ⟨F_law_whole, b_law_whole, PySem.W.mg_of X G a_law_whole⟩, ⟨F_law_badges, b_law_badges, PySem.W.mg_of X G a_law_badges⟩, ⟨F_law_bill, b_law_bill, PySem.W.mg_of X G a_law_bill⟩, ⟨F_law_pools, b_law_pools, PySem.W.mg_of X G a_law_pools⟩, ⟨F_law_total, b_law_total, PySem.W.mg_of X G a_law_total⟩, ⟨F_law_drawn, b_law_drawn, PySem.W.mg_of X G a_law_drawn⟩, ⟨F_law_dearer, b_law_dearer, PySem.W.mg_of X G a_law_dearer⟩, ⟨F_law, b_law, PySem.W.mg_of X G a_law⟩⟩) T⟩
theorem walk {l : PySem.W.OpenLaw} {q : Program} {loose : List Str} {XP : (Str → Option Value) → Heap → Prop} {YP : World → Heap → Prop} {d : DefRec} {K : Params → PySem.W.Frag} (hn : l.most = some 63) (hdf : d.params.defaults = [])
    (hY : ∀ (w : World) (h : Heap), YP w h → (K w.params).In h)
    (F : ∀ (w : World) (mg : Str → Option Value) (fa : Addr) (h : Heap), (K w.params).In h → h.Ns mainGlobals mg → mg d.name = some (.ref fa) →
      ∃ fd : FuncData, (∀ (s : Shared) (u : Value), BindsTo s fd ⟨[u], []⟩ [("script", u)]) ∧ ∀ base : Heap, (K w.params).In base → base.Ns mainGlobals mg → FnOk l.prog w (K w.params) mg base CX0 32 fa fd ["script"] (sp_law (K w.params))) :
    PySem.W.WalkO q loose XP YP l.row.toRowW d [] (fun f vs => PySem.call f vs) :=
  L2.walk_of (n := 63) (k := 32) (x := "script") (CX := fun _ => CX0) (sp := fun w => sp_law (K w.params)) hn (by decide) hdf ⟨rfl, by decide, by decide⟩ hY F (fun _ _ a ns hl _ hS => ⟨a, ns, rfl, hS, hl, fun _ => rfl⟩) fun _ _ _ _ _ z => z
end My
open PySem PySem.W PyProof.Rows
set_option maxRecDepth 100000 in
set_option maxHeartbeats 0 in
theorem PySem.Challenge.cw_deskround_k34_no_deal_is_cheaper_holds : PySem.Challenge.rw_deskround_k34_no_deal_is_cheaper.Holds := by
  w_on; o_law; k_head; (case hw => w_witness2)
  k_fill
  refine My.walk (l := PySem.Challenge.rw_deskround_k34_no_deal_is_cheaper) rfl rfl (fun w h Y => PySem.W.kIn_of Y) ?F
  case F =>
    intro w mg fa h KX G hmg
    refine' My.all_mk KX G hmg ?a_deal ?l_deal ?c_deal ?k_deal ?a_settle ?l_settle ?c_settle ?k_settle ?a_short_places ?l_short_places ?c_short_places ?k_short_places ?a_hands_of ?l_hands_of ?c_hands_of ?k_hands_of ?a_cheap ?l_cheap ?c_cheap ?k_cheap ?a_serve ?l_serve ?c_serve ?k_serve ?a_nearest_badge ?l_nearest_badge ?c_nearest_badge ?k_nearest_badge ?a_raise_all ?l_raise_all ?c_raise_all ?k_raise_all ?a_hand_on ?l_hand_on ?c_hand_on ?k_hand_on ?a_law_cell ?l_law_cell ?c_law_cell ?k_law_cell ?a_law_entries ?l_law_entries ?c_law_entries ?k_law_entries ?a_law_whole ?l_law_whole ?c_law_whole ?k_law_whole ?a_law_badges ?l_law_badges ?c_law_badges ?k_law_badges ?a_law_bill ?l_law_bill ?c_law_bill ?k_law_bill ?a_law_pools ?l_law_pools ?c_law_pools ?k_law_pools ?a_law_total ?l_law_total ?c_law_total ?k_law_total ?a_law_drawn ?l_law_drawn ?c_law_drawn ?k_law_drawn ?a_law_dearer ?l_law_dearer ?c_law_dearer ?k_law_dearer ?a_law ?l_law ?c_law ?k_law ?z_bool ?z_dict ?z_int ?z_isinstance ?z_len ?z_list ?z_range ?z_reversed ?z_sorted ?z_sum ?z_tuple ?z_zip
    (case a_deal => k_is); (case l_deal => k_is); (case c_deal => k_is); (case k_deal => k_is)
    (case a_settle => k_is); (case l_settle => k_is); (case c_settle => k_is); (case k_settle => k_is)
    (case a_short_places => k_is); (case l_short_places => k_is); (case c_short_places => k_is); (case k_short_places => k_is)
    (case a_hands_of => k_is); (case l_hands_of => k_is); (case c_hands_of => k_is); (case k_hands_of => k_is)
    (case a_cheap => k_is); (case l_cheap => k_is); (case c_cheap => k_is); (case k_cheap => k_is)
    (case a_serve => k_is); (case l_serve => k_is); (case c_serve => k_is); (case k_serve => k_is)
    (case a_nearest_badge => k_is); (case l_nearest_badge => k_is); (case c_nearest_badge => k_is); (case k_nearest_badge => k_is)
    (case a_raise_all => k_is); (case l_raise_all => k_is); (case c_raise_all => k_is); (case k_raise_all => k_is)
    (case a_hand_on => k_is); (case l_hand_on => k_is); (case c_hand_on => k_is); (case k_hand_on => k_is)
    (case a_law_cell => k_is); (case l_law_cell => k_is); (case c_law_cell => k_is); (case k_law_cell => k_is)
    (case a_law_entries => k_is); (case l_law_entries => k_is); (case c_law_entries => k_is); (case k_law_entries => k_is)
    (case a_law_whole => k_is); (case l_law_whole => k_is); (case c_law_whole => k_is); (case k_law_whole => k_is)
    (case a_law_badges => k_is); (case l_law_badges => k_is); (case c_law_badges => k_is); (case k_law_badges => k_is)
    (case a_law_bill => k_is); (case l_law_bill => k_is); (case c_law_bill => k_is); (case k_law_bill => k_is)
    (case a_law_pools => k_is); (case l_law_pools => k_is); (case c_law_pools => k_is); (case k_law_pools => k_is)
    (case a_law_total => k_is); (case l_law_total => k_is); (case c_law_total => k_is); (case k_law_total => k_is)
    (case a_law_drawn => k_is); (case l_law_drawn => k_is); (case c_law_drawn => k_is); (case k_law_drawn => k_is)
    (case a_law_dearer => k_is); (case l_law_dearer => k_is); (case c_law_dearer => k_is); (case k_law_dearer => k_is)
    (case a_law => k_is); (case l_law => k_is); (case c_law => k_is); (case k_law => k_is)
    (case z_bool => k_is)
    (case z_dict => k_is)
    (case z_int => k_is)
    (case z_isinstance => k_is)
    (case z_len => k_is)
    (case z_list => k_is)
    (case z_range => k_is)
    (case z_reversed => k_is)
    (case z_sorted => k_is)
    (case z_sum => k_is)
    (case z_tuple => k_is)
    (case z_zip => k_is)
