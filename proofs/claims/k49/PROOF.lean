import PyProof.Rows.All
import Wide.All
import OpenK.AllK
import Wide.FinOn
import Lean
import PyProof.EqAt
import PyProof.EqKinds
import PyProof.TupleCall
import PyProof.NeKinds
import PyProof.DictWalks
import PyProof.DictItems
import PyProof.CollectWalk
import KE.KDictList
import PyProof.AutoSeq1
import PyProof.Rows.Range3
import KE.KUnpack
import PyProof.MeetsSeq2
import PyProof.ZipIter
import KE.KRevSl
import PyProof.MeetsSeq
import PyProof.EnumMake
import PyProof.EnumFor
import PyProof.EnumStmt
import PyProof.MinMaxWalk
import PyProof.WalkInts
import PyProof.SumAny
import KE.KRevIter
import PyProof.Rows.FactsT2
import PyProof.IsiH_list
import PyProof.AttrMiss
import KE.KDictOf
import PyProof.ListRange
import KE.KDictLaws
import KE.KSortTup
import KE.KItemsList
import PyProof.ExcArgs
import KE.KSortKey
import PySem.Challenge.RW_deskround_k49_no_strike_wanted
set_option bootstrap.genMatcherCode false
set_option Elab.async false
set_option linter.all false
set_option maxRecDepth 100000
namespace L2
open PySem PySem.Spec PyProof.Rows
noncomputable abbrev Key := Sum Int Str
noncomputable def keyIs : Key → Value → Bool
  | .inl k, v => Value.isInt k v
  | .inr x, v => Value.isStrOf x v
noncomputable def keyH (w : World) : Key → Int
  | .inl k => hashInt k
  | .inr x => hashStr w x
theorem keyIs_shape : ∀ {k : Key} {v : Value}, keyIs k v = true → (∃ i t, k = Sum.inl i ∧ v = Value.int i t) ∨ (∃ x t, k = Sum.inr x ∧ v = Value.str x t)
  | .inl i, v, h => by
    obtain ⟨t, e⟩ := Value.isInt_shape (k := i) (v := v) h
    exact .inl ⟨i, t, rfl, e⟩
  | .inr x, v, h => by
    obtain ⟨t, e⟩ := Value.isStrOf_shape (x := x) (v := v) h
    exact .inr ⟨x, t, rfl, e⟩
theorem keyIs_int (i : Int) (t : Tok) : keyIs (.inl i) (.int i t) = true := by simp [keyIs, Value.isInt]
theorem keyIs_str (x : Str) (t : Tok) : keyIs (.inr x) (.str x t) = true := by simp [keyIs, Value.isStrOf]
theorem key_ll (a b : Int) : decide ((Sum.inl a : Key) = Sum.inl b) = (a == b) := by
  by_cases e : a = b
  · subst e; simp
  · have h : ¬ (Sum.inl a : Key) = Sum.inl b := fun q => e (Sum.inl.inj q)
    rw [decide_eq_false h]
    exact (beq_eq_false_iff_ne.mpr e).symm
theorem key_rr (a b : Str) : decide ((Sum.inr a : Key) = Sum.inr b) = decide (a = b) := by
  by_cases e : a = b
  · subst e; simp
  · have h : ¬ (Sum.inr a : Key) = Sum.inr b := fun q => e (Sum.inr.inj q)
    rw [decide_eq_false h, decide_eq_false e]
theorem key_lr (a : Int) (b : Str) : decide ((Sum.inl a : Key) = Sum.inr b) = false := decide_eq_false (fun q => nomatch q)
theorem key_rl (a : Str) (b : Int) : decide ((Sum.inr a : Key) = Sum.inl b) = false := decide_eq_false (fun q => nomatch q)
noncomputable def mixKind (prog : Program) (w : World) : PySem.KeyKind prog w Key where
  is := keyIs
  hash := keyH w
  inj := fun v a b ha hb => by
    rcases keyIs_shape ha with ⟨i, t, rfl, rfl⟩ | ⟨x, t, rfl, rfl⟩
    · rcases keyIs_shape hb with ⟨j, u, rfl, e⟩ | ⟨y, u, rfl, e⟩
      · injection e with e1 _; rw [e1]
      · exact nomatch e
    · rcases keyIs_shape hb with ⟨j, u, rfl, e⟩ | ⟨y, u, rfl, e⟩
      · exact nomatch e
      · injection e with e1 _; rw [e1]
  byValue := fun k v h => by
    rcases keyIs_shape h with ⟨i, t, rfl, rfl⟩ | ⟨x, t, rfl, rfl⟩ <;> rfl
  pyHash := fun hv h => by
    rcases keyIs_shape hv with ⟨i, t, rfl, rfl⟩ | ⟨x, t, rfl, rfl⟩
    · exact wpAny_pyHash_int h
    · exact wpAny_pyHash_str h
  eqBool := fun hu hv h => by
    rcases keyIs_shape hu with ⟨i, t, rfl, rfl⟩ | ⟨x, t, rfl, rfl⟩
    · rcases keyIs_shape hv with ⟨j, u, rfl, rfl⟩ | ⟨y, u, rfl, rfl⟩
      · rw [key_ll] at h; exact wpAny_eqBool_int h
      · rw [key_lr] at h; exact SeqAt.EqAt.int_str i t y u _ _ _ _ h
    · rcases keyIs_shape hv with ⟨j, u, rfl, rfl⟩ | ⟨y, u, rfl, rfl⟩
      · rw [key_rl] at h; exact SeqAt.EqAt.str_int x t j u _ _ _ _ h
      · rw [key_rr] at h; exact wpAny_eqBool_str h
  «strs» := fun k x t v h => by
    rcases keyIs_shape h with ⟨i, u, rfl, e⟩ | ⟨y, u, rfl, e⟩
    · exact nomatch e
    · injection e with e1 _
      subst e1
      cases v <;> rfl
theorem mixKind_int (prog : Program) (w : World) (i : Int) (t : Tok) : (mixKind prog w).is (.inl i) (.int i t) = true := keyIs_int i t
theorem mixKind_str (prog : Program) (w : World) (x : Str) (t : Tok) : (mixKind prog w).is (.inr x) (.str x t) = true := keyIs_str x t
end L2
namespace L2
open PySem PySem.Spec PyProof.Rows
inductive V where
  | non | bl (b : Bool) | int (i : Int) | str (x : Str) | byt (b : Array UInt8) | flt (b : UInt64) | ref (a : Addr) | ty (n : String)
  deriving DecidableEq
noncomputable def RelV : V → Value → Prop
  | .non, u => u = Value.none
  | .bl b, u => u = Value.bool b
  | .int i, u => ∃ t, u = Value.int i t
  | .str x, u => ∃ t, u = Value.str x t
  | .byt b, u => ∃ t, u = Value.bytes b t
  | .flt b, u => ∃ t, u = Value.float b t
  | .ref a, u => u = Value.ref a
  | .ty n, u => u = Value.type n
noncomputable abbrev Vals : List V → List Value → Prop := Paired RelV
theorem Vals.length {xs : List V} {us : List Value} (r : Vals xs us) : xs.length = us.length := Paired.length r
theorem Vals.get : ∀ {xs : List V} {us : List Value} {i : Nat} {x : V}, Vals xs us → xs[i]? = some x → ∃ u, us[i]? = some u ∧ RelV x u := by
  intro xs us i x h
  induction h generalizing i with
  | nil => intro e; simp at e
  | cons r t ih =>
    intro e
    cases i with
    | zero => cases e; exact ⟨_, rfl, r⟩
    | succ i => exact ih e
theorem Vals.set {x : V} {u : Value} (r : RelV x u) : ∀ {xs : List V} {us : List Value} (i : Nat), Vals xs us → Vals (xs.set i x) (us.set i u) := by
  intro xs us i h
  induction h generalizing i with
  | nil => exact .nil
  | cons q t ih =>
    cases i with
    | zero => exact .cons r t
    | succ i => exact .cons q (ih i)
theorem Vals.append : ∀ {xs ys : List V} {us ws : List Value}, Vals xs us → Vals ys ws → Vals (xs ++ ys) (us ++ ws) := by
  intro xs ys us ws h s
  induction h with
  | nil => exact s
  | cons r t ih => exact .cons r ih
theorem Vals.take : ∀ {xs : List V} {us : List Value} (n : Nat), Vals xs us → Vals (xs.take n) (us.take n) := by
  intro xs us n h
  induction h generalizing n with
  | nil => cases n <;> exact .nil
  | cons r t ih =>
    cases n with
    | zero => exact .nil
    | succ n => exact .cons r (ih n)
theorem Vals.drop : ∀ {xs : List V} {us : List Value} (n : Nat), Vals xs us → Vals (xs.drop n) (us.drop n) := by
  intro xs us n h
  induction h generalizing n with
  | nil => cases n <;> exact .nil
  | cons r t ih =>
    cases n with
    | zero => exact .cons r t
    | succ n => exact ih n
noncomputable def RelO : Option V → Option Value → Prop
  | some v, some u => RelV v u
  | none, none => True
  | _, _ => False
noncomputable def KV {κ : Type} : List (κ × V) → List (κ × Value) → Prop := Paired fun (p : κ × V) (q : κ × Value) => p.1 = q.1 ∧ RelV p.2 q.2
noncomputable def kV : Key → V
  | .inl i => .int i
  | .inr x => .str x
inductive HO where
  /-- a list -/
  | lst (xs : List V)
  /-- a tuple (never changes) -/
  | tup (xs : List V)
  /-- a dict whose keys are ints and texts; one whose keys are tuples of ints and texts (the empty one is both) -/
  | dK (kvs : List (Key × V)) | dT (kvs : List (List Key × V))
  /-- a set of ints: its members, its size -/
  | set (S : Int → Bool) (n : Nat)
  /-- an instance of the class at C, its dict at dx, its attributes -/
  | ins (C dx : Addr) (fs : List (Str × V))
  /-- the dict of the instance at x -/
  | own (x : Addr)
  /-- the dict of an exception -/
  | xd (fs : List (Str × V))
  /-- a bound method, f of x -/
  | met (f x : Addr)
  /-- a range object lo, lo + 1, .. below hi -/
  | rng (lo hi : Int)
  /-- a thing that is known to the object (the script; a dict while a loop walks it): read, never written while it is so -/
  | frz (o : Obj) (u : HO)
  /-- a code object's table -/
  | tbl (ps : Array Value)
  /-- any other thing, by what is true of its one object (a def of one's own: SetO a S n := HO.ext fun h => ..) -/
  | ext (φ : Heap → Prop)
noncomputable abbrev Hp := Addr → Option HO
noncomputable def upd (H : Hp) (a : Addr) (o : HO) : Hp := fun b => if b = a then some o else H b
theorem upd_same {H : Hp} {a : Addr} {o : HO} : upd H a o a = some o := by unfold upd; rw [if_pos rfl]
theorem upd_ne {H : Hp} {a b : Addr} {o : HO} (h : b ≠ a) : upd H a o b = H b := by unfold upd; rw [if_neg h]
theorem ne_of {H : Hp} {a b : Addr} {o u : HO} (h : H a = some o) (h' : H b = some u) (d : o ≠ u) : a ≠ b := by
  intro e; subst e; rw [h] at h'; exact d (Option.some.inj h')
theorem ne_of_none {H : Hp} {a b : Addr} {o : HO} (h : H a = some o) (h' : H b = none) : a ≠ b := by
  intro e; subst e; rw [h] at h'; cases h'
section
variable (P : Program) (w : World)
noncomputable def ObjOk (H : Hp) (h : Heap) (a : Addr) : HO → Prop
  | .lst xs => xs.length ≤ sizeLine ∧ ∃ (its : List Value) (n : Nat), Vals xs its ∧ h.get? a = some { cls := .type "list", data := .seq its.toArray n }
  | .tup xs => xs.length ≤ sizeLine ∧ ∃ its : List Value, Vals xs its ∧ IsTup h a its.toArray
  | .dK kvs => kvs.length ≤ sizeLine ∧ (a == sysModules) = false ∧ ∃ vs, KV kvs vs ∧ h.DictOf (mixKind P w) a vs
  | .dT kvs => kvs.length ≤ sizeLine ∧ (a == sysModules) = false ∧ ∃ xs : List (List Key × Addr × Value),
      Paired (fun (p : List Key × V) (q : List Key × Addr × Value) => p.1 = q.1 ∧ H q.2.1 = some (.tup (p.1.map kV)) ∧ RelV p.2 q.2.2) kvs xs ∧
      ∃ o es ep, h.get? a = some o ∧ o.ExactDict ∧ o.data = .dict es ep ∧ es.toList = xs.map (entryOfKey (tupleKind (mixKind P w))) ∧ (xs.map (·.1)).Nodup
  | .set S n => h.SetOf (intKind P w) a S n
  | .ins C dx fs => H dx = some (.own a) ∧ fs.length ≤ 1000 ∧ dx ≠ a ∧ h.get? a = some (PySem.W.instObj C dx) ∧
      ∃ mA, h.Ns1 dx mA ∧ (∀ f, RelO (fs.lookup f) (mA f)) ∧ PySem.Within mA (fs.map (·.1))
  | .own _ => ∃ o, h.get? a = some o
  | .xd fs => ∃ mA, h.Ns1 a mA ∧ ∀ f, RelO (fs.lookup f) (mA f)
  | .rng lo hi => ∃ t u v, h.get? a = some { cls := .type "range", data := .fields #[.int lo t, .int hi u, .int 1 v] }
  | .frz o u => h.get? a = some o ∧ ObjOk H h a u
  | .tbl ps => h.get? a = some { cls := .none, data := .fields ps }
  | .met f x => h.get? a = some (PySem.W.methodObj (.ref f) (.ref x))
  | .ext φ => φ h ∧ (∃ o, h.get? a = some o) ∧ ∀ h1 h2 : Heap, φ h1 → (∀ o, h1.get? a = some o → h2.get? a = some o) → φ h2
noncomputable def HOk (H : Hp) (h : Heap) : Prop := ∀ a o, H a = some o → ObjOk P w H h a o
end
section
variable {P : Program} {w : World} {H H' : Hp} {h h' : Heap} {a : Addr} {o : HO}
theorem ObjOk.lt (x : ObjOk P w H h a o) : a < h.objs.size := by
  cases o with
  | lst xs => obtain ⟨_, _, _, _, e⟩ := x; exact Heap.lt_size e
  | tup xs => obtain ⟨_, _, _, p⟩ := x; exact p.lt
  | dK kvs => obtain ⟨_, _, _, _, o, _, _, e, _⟩ := x; exact Heap.lt_size e
  | dT kvs => obtain ⟨_, _, _, _, o, _, _, e, _⟩ := x; exact Heap.lt_size e
  | set S n => obtain ⟨o, _, _, _, e, _⟩ := x; exact Heap.lt_size e
  | ins C dx fs => obtain ⟨_, _, _, e, _⟩ := x; exact Heap.lt_size e
  | own y => obtain ⟨_, e⟩ := x; exact Heap.lt_size e
  | xd fs => obtain ⟨_, ⟨_, _, _, e, _⟩, _⟩ := x; exact Heap.lt_size e
  | rng lo hi => obtain ⟨_, _, _, e⟩ := x; exact Heap.lt_size e
  | frz ob u => obtain ⟨e, _⟩ := x; exact Heap.lt_size e
  | tbl ps => exact Heap.lt_size (show h.get? a = some _ from x)
  | met f y => exact Heap.lt_size (show h.get? a = some _ from x)
  | ext φ => obtain ⟨_, ⟨_, e⟩, _⟩ := x; exact Heap.lt_size e
theorem Paired.mapP {α β : Type} {F G : α → β → Prop} : ∀ {l₁ : List α} {l₂ : List β}, Paired F l₁ l₂ → (∀ a b, F a b → G a b) → Paired G l₁ l₂ := by
  intro l₁ l₂ h f
  induction h with
  | nil => exact .nil
  | cons r t ih => exact .cons (f _ _ r) ih
theorem ObjOk.stay (x : ObjOk P w H h a o) (k : ∀ b u, (b = a ∨ H b = some (.own a)) → h.get? b = some u → h'.get? b = some u)
    (ho : ∀ b, H b = some (.own a) → H' b = some (.own a)) (ht : ∀ b xs, H b = some (.tup xs) → H' b = some (.tup xs)) : ObjOk P w H' h' a o := by
  induction o with
  | lst xs => obtain ⟨z, its, n, r, e⟩ := x; exact ⟨z, its, n, r, k _ _ (.inl rfl) e⟩
  | tup xs => obtain ⟨z, its, r, ob, e, c⟩ := x; exact ⟨z, its, r, ob, k _ _ (.inl rfl) e, c⟩
  | dK kvs => obtain ⟨z, y, vs, r, ob, es, ep, e, c⟩ := x; exact ⟨z, y, vs, r, ob, es, ep, k _ _ (.inl rfl) e, c⟩
  | dT kvs =>
    obtain ⟨z, y, xs, r, ob, es, ep, e, c⟩ := x
    exact ⟨z, y, xs, Paired.mapP r fun p q z => ⟨z.1, ht _ _ z.2.1, z.2.2⟩, ob, es, ep, k _ _ (.inl rfl) e, c⟩
  | set S n => obtain ⟨ob, es, ep, t, e, c⟩ := x; exact ⟨ob, es, ep, t, k _ _ (.inl rfl) e, c⟩
  | ins C dx fs =>
    obtain ⟨d, z, ne, e, mA, ⟨od, es, ep, e2, c⟩, r⟩ := x
    exact ⟨ho _ d, z, ne, k _ _ (.inl rfl) e, mA, ⟨od, es, ep, k _ _ (.inr d) e2, c⟩, r⟩
  | own y => obtain ⟨ob, e⟩ := x; exact ⟨ob, k _ _ (.inl rfl) e⟩
  | xd fs => obtain ⟨mA, ⟨od, es, ep, e, c⟩, r⟩ := x; exact ⟨mA, ⟨od, es, ep, k _ _ (.inl rfl) e, c⟩, r⟩
  | rng lo hi => obtain ⟨t, u, v, e⟩ := x; exact ⟨t, u, v, k _ _ (.inl rfl) e⟩
  | frz ob u ih => obtain ⟨e, q⟩ := x; exact ⟨k _ _ (.inl rfl) e, ih q⟩
  | tbl ps =>
    have e : h.get? a = some { cls := .none, data := .fields ps } := x
    show h'.get? a = some { cls := .none, data := .fields ps }
    exact k a _ (.inl rfl) e
  | met f y =>
    have e : h.get? a = some (PySem.W.methodObj (.ref f) (.ref y)) := x
    show h'.get? a = some (PySem.W.methodObj (.ref f) (.ref y))
    exact k a _ (.inl rfl) e
  | ext φ => obtain ⟨p, ⟨o, e⟩, st⟩ := x; exact ⟨st _ _ p fun o q => k _ _ (.inl rfl) q, ⟨o, k _ _ (.inl rfl) e⟩, st⟩
theorem HOk.lt (x : HOk P w H h) (e : H a = some o) : a < h.objs.size := (x a o e).lt
theorem HOk.fresh (x : HOk P w H h) (e : h.objs.size ≤ a) : H a = none := by
  cases q : H a with
  | none => rfl
  | some u => exact absurd (Nat.lt_of_lt_of_le (x.lt q) e) (Nat.lt_irrefl _)
theorem HOk.kept (x : HOk P w H h) (k : ∀ b u, h.get? b = some u → h'.get? b = some u) : HOk P w H h' := fun a o e =>
  (x a o e).stay (fun b u _ q => k b u q) (fun _ q => q) fun _ _ q => q
theorem HOk.laid (x : HOk P w H h) (k : ∀ b u, h.get? b = some u → h'.get? b = some u) (hp : h.objs.size ≤ a) (new : ObjOk P w (upd H a o) h' a o) : HOk P w (upd H a o) h' := fun b u e => by
  have hn := x.fresh hp
  by_cases hb : b = a
  · subst hb; rw [upd_same] at e; cases e; exact new
  · rw [upd_ne hb] at e
    exact (x b u e).stay (fun c v _ q => k c v q) (fun c q => by rw [upd_ne (ne_of_none q hn)]; exact q) fun c xs q => by rw [upd_ne (ne_of_none q hn)]; exact q
end
noncomputable def Rd (H : Hp) (a : Addr) (u : HO) : Prop := H a = some u ∨ ∃ o, H a = some (.frz o u)
theorem Rd.of {H : Hp} {a : Addr} {u : HO} (h : H a = some u) : Rd H a u := .inl h
theorem Rd.ok {P : Program} {w : World} {H : Hp} {h : Heap} {a : Addr} {u : HO} (r : Rd H a u) (x : HOk P w H h) : ObjOk P w H h a u := by
  rcases r with r | ⟨o, r⟩
  · exact x a u r
  · obtain ⟨_, q⟩ := x a _ r
    exact q
noncomputable def Mut : Option HO → Prop
  | some (.lst _) => True
  | some (.dK _) => True
  | some (.dT _) => True
  | some (.set _ _) => True
  | some (.ins _ _ _) => True
  | some (.ext _) => True
  | _ => False
section
variable {P : Program} {w : World} {H : Hp} {h h' : Heap} {x e : Addr} {o' : HO}
theorem HOk.write (ok : HOk P w H h) (mu : Mut (H x)) (he : e = x ∨ H e = some (.own x)) (k : ∀ b u, b ≠ e → h.get? b = some u → h'.get? b = some u) (heo : ∃ u, h'.get? e = some u)
    (new : ObjOk P w (upd H x o') h' x o') : HOk P w (upd H x o') h' := fun b u q => by
  have nown : ∀ c y, H c = some (.own y) → c ≠ x := fun c y r z => by subst z; rw [r] at mu; exact mu
  have ntup : ∀ c xs, H c = some (.tup xs) → c ≠ x := fun c xs r z => by subst z; rw [r] at mu; exact mu
  by_cases hb : b = x
  · subst hb; rw [upd_same] at q; cases q; exact new
  · rw [upd_ne hb] at q
    by_cases hbe : b = e
    · have q' : H b = some (.own x) := by
        rcases he with z | z
        · exact absurd (hbe.trans z) hb
        · rw [hbe]; exact z
      rw [q] at q'; cases q'
      obtain ⟨v, hv⟩ := heo
      exact ⟨v, by rw [hbe]; exact hv⟩
    · refine (ok b u q).stay (fun c v hc r => k c v ?_ r) (fun c r => by rw [upd_ne (nown c b r)]; exact r) fun c xs r => by rw [upd_ne (ntup c xs r)]; exact r
      rcases hc with rfl | hc
      · exact hbe
      · rintro rfl
        rcases he with z | z
        · exact nown c b hc z
        · rw [hc] at z; cases z; exact hb rfl
end
structure Un (fs ex : List Addr) (H H' : Hp) (h h' : Heap) : Prop where
  keep : ∀ b o, h.get? b = some o → H b = none → b ∉ fs → b ∉ ex → h'.get? b = some o
  slot : ∀ b o, h.get? b = some o → H b = none → b ∈ fs → b ∉ ex → ∃ sl, h'.get? b = some { o with slots := sl }
  free : ∀ b o, h.get? b = some o → H b = none → b ∉ ex → H' b = none
  there : ∀ b o, h.get? b = some o → b ∉ ex → ∃ o', h'.get? b = some o'
  tups : ∀ b xs, H b = some (.tup xs) → H' b = some (.tup xs)
  frzs : ∀ b o u, H b = some (.frz o u) → H' b = some (.frz o u)
  tbls : ∀ b ps, H b = some (.tbl ps) → ∃ more, H' b = some (.tbl (ps ++ more))
section
variable {fs fs' ex ex' : List Addr} {H H1 H2 : Hp} {h h1 h2 h' : Heap} {a x e : Addr} {o : HO}
theorem Un.any (u : Un fs ex H H1 h h1) {b : Addr} {ob : Obj} (q : h.get? b = some ob) (n : H b = none) (hx : b ∉ ex) : ∃ sl, h1.get? b = some { ob with slots := sl } := by
  by_cases hb : b ∈ fs
  · exact u.slot b ob q n hb hx
  · exact ⟨ob.slots, u.keep b ob q n hb hx⟩
theorem Un.trans (a : Un fs ex H H1 h h1) (b : Un fs ex H1 H2 h1 h2) : Un fs ex H H2 h h2 where
  keep := fun c ob q n hc hx => b.keep c ob (a.keep c ob q n hc hx) (a.free c ob q n hx) hc hx
  slot := fun c ob q n hc hx => by
    obtain ⟨sl, e1⟩ := a.slot c ob q n hc hx
    obtain ⟨sl', e2⟩ := b.slot c _ e1 (a.free c ob q n hx) hc hx
    exact ⟨sl', e2⟩
  free := fun c ob q n hx => by
    obtain ⟨o', e1⟩ := a.there c ob q hx
    exact b.free c o' e1 (a.free c ob q n hx) hx
  there := fun c ob q hx => by
    obtain ⟨o', e1⟩ := a.there c ob q hx
    exact b.there c o' e1 hx
  tups := fun c xs q => b.tups c xs (a.tups c xs q)
  frzs := fun c ob xs q => b.frzs c ob xs (a.frzs c ob xs q)
  tbls := fun c ps q => by
    obtain ⟨m1, e1⟩ := a.tbls c ps q
    obtain ⟨m2, e2⟩ := b.tbls c _ e1
    exact ⟨m1 ++ m2, by rw [e2, Array.append_assoc]⟩
theorem Un.kept (k : ∀ b u, h.get? b = some u → h'.get? b = some u) : Un fs ex H H h h' :=
  ⟨fun b ob q _ _ _ => k b ob q, fun b ob q _ _ _ => ⟨ob.slots, k b ob q⟩, fun _ _ _ n _ => n, fun b ob q _ => ⟨ob, k b ob q⟩, fun _ _ q => q, fun _ _ _ q => q, fun _ ps q => ⟨#[], by rw [q]; simp⟩⟩
theorem Un.refl : Un fs ex H H h h := Un.kept fun _ _ q => q
theorem Un.laid (k : ∀ b u, h.get? b = some u → h'.get? b = some u) (hp : h.objs.size ≤ a) (hn : H a = none) : Un fs ex H (upd H a o) h h' where
  keep := fun b u q _ _ _ => k b u q
  slot := fun b u q _ _ _ => ⟨u.slots, k b u q⟩
  free := fun b u q n _ => by rw [upd_ne (Nat.ne_of_lt (Nat.lt_of_lt_of_le (Heap.lt_size q) hp))]; exact n
  there := fun b u q _ => ⟨u, k b u q⟩
  tups := fun b xs q => by rw [upd_ne (ne_of_none q hn)]; exact q
  frzs := fun b u xs q => by rw [upd_ne (ne_of_none q hn)]; exact q
  tbls := fun b ps q => ⟨#[], by rw [upd_ne (ne_of_none q hn), q]; simp⟩
theorem Un.write (mu : Mut (H x)) (he : e = x ∨ H e = some (.own x)) (k : ∀ b u, b ≠ e → h.get? b = some u → h'.get? b = some u) (heo : ∃ u, h'.get? e = some u) : Un fs ex H (upd H x o) h h' := by
  have hx : ∀ b, H b = none → b ≠ x := fun b n z => by subst z; rw [n] at mu; exact mu
  have hb : ∀ b, H b = none → b ≠ e := fun b n z => by
    subst z
    rcases he with r | r
    · exact hx b n r
    · rw [n] at r; cases r
  have hm : ∀ b u, H b = some u → ¬ Mut (some u) → b ≠ x := fun b u q nm z => by subst z; rw [q] at mu; exact nm mu
  refine ⟨fun b u q n _ _ => k b u (hb b n) q, fun b u q n _ _ => ⟨u.slots, k b u (hb b n) q⟩, fun b u q n _ => by rw [upd_ne (hx b n)]; exact n, fun b u q _ => ?_,
    fun b xs q => by rw [upd_ne (hm b _ q fun z => z)]; exact q, fun b u xs q => by rw [upd_ne (hm b _ q fun z => z)]; exact q, fun b ps q => ⟨#[], by rw [upd_ne (hm b _ q fun z => z), q]; simp⟩⟩
  by_cases hbe : b = e
  · subst hbe; exact heo
  · exact ⟨u, k b u hbe q⟩
end
noncomputable def trk (h : Heap) (H : Hp) : List Addr := (List.range h.objs.size).filter fun a => (H a).isSome
noncomputable def hidT (h : Heap) (H : Hp) : Heap := PySem.W.hideAll h (trk h H)
theorem hidT_size (h : Heap) (H : Hp) : (hidT h H).objs.size = h.objs.size := PySem.W.hideAll_size _ _
theorem hidT_get {h : Heap} {H : Hp} {b : Addr} {o : Obj} (e : h.get? b = some o) (n : H b = none) : (hidT h H).get? b = some o :=
  PySem.W.hideAll_get _ e fun hm => by
    have q : (H b).isSome = true := (List.mem_filter.mp hm).2
    rw [n] at q; simp at q
theorem of_hidT {h : Heap} {H : Hp} {b : Addr} {o : Obj} (e : (hidT h H).get? b = some o) : h.get? b = some o ∧ H b = none := by
  have e' : h.get? b = some o := PySem.W.of_hideAll (trk h H) e
  refine ⟨e', ?_⟩
  cases q : H b with
  | none => rfl
  | some x =>
    have hm : b ∈ trk h H := List.mem_filter.mpr ⟨List.mem_range.mpr (Heap.lt_size e'), by simp [q]⟩
    have z : (hidT h H).get? b = none := PySem.W.hideAll_none (trk h H) hm
    rw [z] at e; cases e
noncomputable def allNews (g h : Heap) (L : Addr) : List (Addr × Obj) := (List.range h.objs.size).filterMap fun a => if a = L ∨ (g.get? a).isSome = true then none else (h.get? a).map fun o => (a, o)
theorem mem_allNews {g h : Heap} {L a : Addr} {o : Obj} (h1 : a ≠ L) (h2 : g.get? a = none) (h3 : h.get? a = some o) : (a, o) ∈ allNews g h L :=
  List.mem_filterMap.mpr ⟨a, List.mem_range.mpr (Heap.lt_size h3), by simp [h1, h2, h3]⟩
theorem of_mem_allNews {g h : Heap} {L : Addr} {p : Addr × Obj} (hp : p ∈ allNews g h L) : p.1 ≠ L ∧ g.get? p.1 = none ∧ h.get? p.1 = some p.2 := by
  obtain ⟨b, _, e⟩ := List.mem_filterMap.mp hp
  split at e
  · cases e
  · rename_i hn
    cases q : h.get? b with
    | none => rw [q] at e; simp at e
    | some u =>
      rw [q] at e
      simp only [Option.map_some, Option.some.injEq] at e
      subst e
      refine ⟨fun z => hn (.inl z), ?_, q⟩
      show g.get? b = none
      cases r : g.get? b with
      | none => rfl
      | some v => exact (hn (.inr (by simp [r]))).elim
noncomputable def rest (g h : Heap) (L d : Addr) : List (Addr × Obj) := (allNews g h L).filter fun p => decide (p.1 ≠ d)
theorem news_all {g h : Heap} {L : Addr} : News g L h (allNews g h L) := fun p hp => let ⟨a, b, c⟩ := of_mem_allNews hp; ⟨c, a, b⟩
end L2
namespace L2
open PySem PySem.Spec PyProof.Rows
structure Mod (K : PySem.W.Frag) (mg : Str → Option Value) (base : Heap) : Prop where
  kin : K.In base
  glob : base.Ns mainGlobals mg
  blt : ∃ mb, base.Ns builtinsNs mb ∧ ∀ x : Str, x ≠ "__name__" → mb x = bootBuiltins x
  nolimit : base.NoLimit
/-- the context: a def's body (or a comprehension's block) running. base: fixed through the whole law; s₀, H₀: the entry; outer: the frames whose slots others may change (a def's callers); stack: all frames that run;
   ex: iterators that were made ahead of the entry and are walked here (a comprehension's); fn: the names whose cells were made at the entry (a def: all; a comprehension's block: its own); calm: not within an except suite; pn: pins that every state bears; xe: what is wanted of an exception that leaves the code -/
structure Cx where
  prog : Program
  w : World
  K : PySem.W.Frag
  mg : Str → Option Value
  base : Heap
  A : Around
  N : List Str
  s₀ : Shared
  H₀ : Hp
  env : Env
  outer : List Env
  stack : List Env
  ex : List Addr
  fn : Str → Bool
  calm : Bool
  pn : List (Addr × Obj)
  xe : Value → Shared → Prop
noncomputable def frs (l : List Env) : List Addr := l.filterMap (·.frame)
noncomputable abbrev Cx.fs (X : Cx) : List Addr := frs X.outer
noncomputable def Vis (sc : Scope) (x : Str) : Prop := sc.names.lookup x = some .local ∨ sc.names.lookup x = some .cell ∨ sc.names.lookup x = some .free
noncomputable def Loc (sc : Scope) (x : Str) : Prop := sc.names.lookup x = some .local ∨ sc.names.lookup x = some .cell
noncomputable def Look (env : Env) (h : Heap) (m : Str → Option Value) (x : Str) (u : Value) : Prop :=
  (env.kindOf x = some .local ∧ m x = some u) ∨ ((env.kindOf x = some .cell ∨ env.kindOf x = some .free) ∧ ∃ c, env.cells.lookup x = some c ∧ h.IsCell c (some u))
structure Cx.Ok (X : Cx) : Prop where
  mod : Mod X.K X.mg X.base
  kind : X.env.scope.kind = .function
  glob : X.env.globals = mainGlobals
  blt : X.env.builtins = builtinsNs
  above : X.s₀.heap.objs.size ≤ X.env.locals
  inj : ∀ x y c, X.env.cells.lookup x = some c → X.env.cells.lookup y = some c → x = y
  has : ∀ x, (X.env.kindOf x = some .cell ∨ X.env.kindOf x = some .free) → ∃ c, X.env.cells.lookup x = some c
  cab : ∀ x c, X.fn x = true → X.env.cells.lookup x = some c → X.s₀.heap.objs.size ≤ c
  hd : X.calm = true → X.A.handled = none
  frames : X.A.frames = some X.stack
  stk : X.stack = X.outer ∨ (X.stack = X.env :: X.outer ∧ X.env.frame = some X.env.locals)
  exf : ∀ b ∈ X.ex, b ≠ X.env.locals ∧ ∀ x c, X.env.cells.lookup x = some c → c ≠ b
  bs : ∀ b o, X.base.get? b = some o → X.s₀.heap.get? b = some o ∧ X.H₀ b = none
  bsz : X.base.objs.size ≤ X.s₀.heap.objs.size
  noex : ∀ b o, X.base.get? b = some o → b ∉ X.ex
  exfs : ∀ b ∈ X.ex, b ∉ X.fs
  funs : X.s₀.heap.FunFrames X.base X.outer
  frf : ∀ b ∈ X.fs, X.H₀ b = none
structure Inv (X : Cx) (pins : List (Addr × Obj)) (σ : List (Option V)) (H : Hp) (s : Shared) : Prop where
  ok : X.Ok
  os : s.os = X.s₀.os
  bare : AllBare s.gens
  base : Un X.fs X.ex X.H₀ H X.s₀.heap s.heap
  loc : ∃ m, s.heap.Ns X.env.locals m ∧ ∀ (i : Nat) (x : Str) (v : V), X.N[i]? = some x → σ[i]? = some (some v) → Vis X.env.scope x → ∃ u, RelV v u ∧ Look X.env s.heap m x u
  cell : ∀ x c, X.env.cells.lookup x = some c → ∃ v, s.heap.IsCell c v
  free : H X.env.locals = none
  freeC : ∀ x c, X.env.cells.lookup x = some c → H c = none
  pin : ∀ p ∈ X.pn ++ pins, s.heap.get? p.1 = some p.2 ∧ H p.1 = none ∧ p.1 ≠ X.env.locals ∧ p.1 ∉ X.fs ∧ ∀ v, p.2.data ≠ .cell v
  hok : HOk X.prog X.w H s.heap
  len : σ.length = X.N.length
section
variable {X : Cx} {pins : List (Addr × Obj)} {σ : List (Option V)} {H H' : Hp} {s : Shared} {h' : Heap}
theorem Cx.Ok.nofr (ok : X.Ok) {b : Addr} {o : Obj} (e : X.base.get? b = some o) : b ∉ X.fs := fun hb => by
  have := (ok.funs.mem hb).1
  rw [e] at this; cases this
theorem Inv.bs (I : Inv X pins σ H s) : ∀ b o, X.base.get? b = some o → s.heap.get? b = some o ∧ H b = none := fun b o e =>
  ⟨I.base.keep b o (I.ok.bs b o e).1 (I.ok.bs b o e).2 (I.ok.nofr e) (I.ok.noex b o e), I.base.free b o (I.ok.bs b o e).1 (I.ok.bs b o e).2 (I.ok.noex b o e)⟩
theorem Inv.bk (I : Inv X pins σ H s) : ∀ b o, X.base.get? b = some o → s.heap.get? b = some o := fun b o e => (I.bs b o e).1
theorem Inv.mod (I : Inv X pins σ H s) : Mod X.K X.mg X.base := I.ok.mod
theorem Inv.kIn (I : Inv X pins σ H s) : X.K.In s.heap := I.ok.mod.kin.keeps I.bk
theorem Inv.fr (I : Inv X pins σ H s) : ∃ m, Fr X.base X.env.locals s.heap m :=
  let ⟨m, hn, _⟩ := I.loc
  ⟨m, hn, I.bk, Nat.le_trans I.ok.bsz I.ok.above⟩
theorem Inv.lt (I : Inv X pins σ H s) : X.env.locals < s.heap.objs.size := let ⟨_, hn, _⟩ := I.loc; hn.lt
theorem Inv.sz (I : Inv X pins σ H s) : X.s₀.heap.objs.size ≤ s.heap.objs.size := Nat.le_trans I.ok.above (Nat.le_of_lt I.lt)
theorem Inv.nofs (I : Inv X pins σ H s) {a : Addr} (h : s.heap.objs.size ≤ a) : a ∉ X.fs := fun hb => by
  obtain ⟨_, o, ho, _⟩ := I.ok.funs.mem hb
  exact absurd (Nat.lt_of_lt_of_le (Heap.lt_size ho) (Nat.le_trans I.sz h)) (Nat.lt_irrefl _)
theorem Inv.cne (I : Inv X pins σ H s) : ∀ x c, X.env.cells.lookup x = some c → c ≠ X.env.locals := fun x c e z => by
  obtain ⟨v, o, ho, hd⟩ := I.cell x c e
  obtain ⟨m, ⟨o', es, ep, ho', hd', _⟩, _⟩ := I.loc
  rw [z, ho'] at ho; cases ho; rw [hd'] at hd; cases hd
theorem Inv.funs (I : Inv X pins σ H s) : s.heap.FunFrames X.base X.outer := by
  have all : ∀ (l : List Env), (∀ b ∈ frs l, b ∈ X.fs) → X.s₀.heap.FunFrames X.base l → s.heap.FunFrames X.base l := by
    intro l
    induction l with
    | nil => intro _ _; trivial
    | cons env r ih =>
      intro hs hl
      obtain ⟨hk, ⟨L, o, hf, hn, ho, hd⟩, hr⟩ := hl
      have hL : L ∈ X.fs := hs L (by unfold frs; rw [List.filterMap_cons, hf]; exact List.mem_cons_self)
      obtain ⟨sl, e⟩ := I.base.slot L o ho (I.ok.frf L hL) hL fun z => I.ok.exfs L z hL
      exact ⟨hk, ⟨L, _, hf, hn, e, hd⟩, ih (fun b hb => hs b (by unfold frs; rw [List.filterMap_cons, hf]; exact List.mem_cons_of_mem _ hb)) hr⟩
  exact all X.outer (fun _ hb => hb) I.ok.funs
theorem Inv.stack (I : Inv X pins σ H s) : s.heap.FunFrames X.base X.stack := by
  rcases I.ok.stk with e | ⟨e, hf⟩
  · rw [e]; exact I.funs
  · rw [e]
    obtain ⟨m, hn, _⟩ := I.loc
    refine .cons (by rw [I.ok.kind]; decide) hf hn ?_ I.funs
    exact Heap.get?_none_of_le (Nat.le_trans I.ok.bsz I.ok.above)
theorem Inv.stkSub (I : Inv X pins σ H s) : ∀ b ∈ frs X.stack, b ∈ X.env.locals :: X.fs := fun b hb => by
  rcases I.ok.stk with e | ⟨e, hf⟩
  · rw [e] at hb; exact List.mem_cons_of_mem _ hb
  · rw [e] at hb
    unfold frs at hb
    rw [List.filterMap_cons, hf] at hb
    exact hb
theorem Inv.stkFree (I : Inv X pins σ H s) : ∀ b ∈ frs X.stack, H b = none := fun b hb => by
  rcases List.mem_cons.mp (I.stkSub b hb) with e | hb
  · rw [e]; exact I.free
  · obtain ⟨_, o, ho, _⟩ := I.ok.funs.mem hb
    exact I.base.free b o ho (I.ok.frf b hb) fun z => I.ok.exfs b z hb
theorem Inv.step {g' : Array GenState} {t' : Nat} {d' : Drawn} {ch : List Addr} (I : Inv X pins σ H s)
    (hch : ∀ b ∈ ch, (b ∈ X.ex ∨ X.s₀.heap.objs.size ≤ b) ∧ b ≠ X.env.locals ∧ (∀ x c, X.env.cells.lookup x = some c → c ≠ b) ∧ ∀ p ∈ X.pn ++ pins, p.1 ≠ b)
    (keep : ∀ b o, b ≠ X.env.locals → b ∉ X.fs → b ∉ ch → s.heap.get? b = some o → H b = none → h'.get? b = some o)
    (slot : ∀ b o, b ≠ X.env.locals → b ∈ X.fs → b ∉ ch → s.heap.get? b = some o → H b = none → ∃ sl, h'.get? b = some { o with slots := sl }) (free : ∀ b o, b ∉ ch → s.heap.get? b = some o → H b = none → H' b = none)
    (there : ∀ b o, b ∉ ch → s.heap.get? b = some o → ∃ o', h'.get? b = some o')
    (tups : ∀ b xs, H b = some (.tup xs) → H' b = some (.tup xs)) (frzs : ∀ b o u, H b = some (.frz o u) → H' b = some (.frz o u)) (tbls : ∀ b ps, H b = some (.tbl ps) → ∃ more, H' b = some (.tbl (ps ++ more)))
    (ns : ∀ m, s.heap.Ns X.env.locals m → h'.Ns X.env.locals m) (hok : HOk X.prog X.w H' h') (hg : AllBare g') :
    Inv X pins σ H' { s with heap := h', gens := g', drawn := d', toks := t' } := by
  have neL : ∀ b o, X.s₀.heap.get? b = some o → b ≠ X.env.locals := fun b o e => Nat.ne_of_lt (Nat.lt_of_lt_of_le (Heap.lt_size e) I.ok.above)
  have neC : ∀ b o, X.s₀.heap.get? b = some o → b ∉ X.ex → b ∉ ch := fun b o e hx hb => by
    rcases (hch b hb).1 with z | z
    · exact hx z
    · exact absurd (Nat.lt_of_lt_of_le (Heap.lt_size e) z) (Nat.lt_irrefl _)
  have cellK : ∀ x c, X.env.cells.lookup x = some c → ∀ v, s.heap.IsCell c v → h'.IsCell c v := fun x c e v ⟨o, ho, hd⟩ => by
    have nch : c ∉ ch := fun z => (hch c z).2.2.1 x c e rfl
    by_cases hc : c ∈ X.fs
    · obtain ⟨sl, q⟩ := slot c o (I.cne x c e) hc nch ho (I.freeC x c e)
      exact ⟨_, q, hd⟩
    · exact ⟨o, keep c o (I.cne x c e) hc nch ho (I.freeC x c e), hd⟩
  refine ⟨I.ok, I.os, hg, ⟨fun b o e n hb hx => ?_, fun b o e n hb hx => ?_, fun b o e n hx => ?_, fun b o e hx => ?_, fun b xs e => tups b xs (I.base.tups b xs e), fun b o xs e => frzs b o xs (I.base.frzs b o xs e), fun b ps e => ?_⟩, ?_, fun x c e => ?_, ?_, fun x c e => ?_, fun p hp => ?_, hok, I.len⟩
  · exact keep b o (neL b o e) hb (neC b o e hx) (I.base.keep b o e n hb hx) (I.base.free b o e n hx)
  · obtain ⟨sl, e1⟩ := I.base.slot b o e n hb hx
    obtain ⟨sl', e2⟩ := slot b _ (neL b o e) hb (neC b o e hx) e1 (I.base.free b o e n hx)
    exact ⟨sl', e2⟩
  · obtain ⟨o', e1⟩ := I.base.there b o e hx
    exact free b o' (neC b o e hx) e1 (I.base.free b o e n hx)
  · obtain ⟨o', e1⟩ := I.base.there b o e hx
    exact there b o' (neC b o e hx) e1
  · obtain ⟨m1, e1⟩ := I.base.tbls b ps e
    obtain ⟨m2, e2⟩ := tbls b _ e1
    exact ⟨m1 ++ m2, by rw [e2, Array.append_assoc]⟩
  · obtain ⟨m, hn, hl⟩ := I.loc
    refine ⟨m, ns m hn, fun i x v e1 e2 e3 => ?_⟩
    obtain ⟨u, r, l⟩ := hl i x v e1 e2 e3
    refine ⟨u, r, ?_⟩
    rcases l with l | ⟨k, c, e, z⟩
    · exact .inl l
    · exact .inr ⟨k, c, e, cellK x c e _ z⟩
  · obtain ⟨v, z⟩ := I.cell x c e
    exact ⟨v, cellK x c e v z⟩
  · obtain ⟨m, ⟨o, _, _, ho, _⟩, _⟩ := I.loc
    exact free _ o (fun z => (hch _ z).2.1 rfl) ho I.free
  · obtain ⟨v, o, ho, hd⟩ := I.cell x c e
    exact free c o (fun z => (hch c z).2.2.1 x c e rfl) ho (I.freeC x c e)
  · obtain ⟨e, n, ne, nf, d⟩ := I.pin p hp
    have nch : p.1 ∉ ch := fun z => (hch p.1 z).2.2.2 p hp rfl
    exact ⟨keep p.1 p.2 ne nf nch e n, free p.1 p.2 nch e n, ne, nf, d⟩
theorem Inv.un {t' : Nat} (I : Inv X pins σ H s) (u : Un X.fs [] H H' s.heap h') (hok : HOk X.prog X.w H' h') : Inv X pins σ H' { s with heap := h', toks := t' } := by
  obtain ⟨m, ⟨o, es, ep, ho, r⟩, _⟩ := id I.loc
  obtain ⟨sl, hL⟩ := u.any ho I.free (by simp)
  exact I.step (g' := s.gens) (d' := s.drawn) (ch := []) (fun _ z => nomatch z) (fun b o _ hb _ e n => u.keep b o e n hb (by simp)) (fun b o _ hb _ e n => u.slot b o e n hb (by simp)) (fun b o _ e n => u.free b o e n (by simp)) (fun b o _ e => u.there b o e (by simp)) u.tups u.frzs u.tbls (fun m' hm => by
    obtain ⟨o', es', ep', ho', r'⟩ := hm
    rw [ho] at ho'; cases ho'
    exact ⟨_, es', ep', hL, r'⟩) hok I.bare
theorem Inv.call {g' : Array GenState} {t' : Nat} {d' : Drawn} {ch : List Addr} (I : Inv X pins σ H s) (u : Un (frs X.stack) ch H H' s.heap h') (hok : HOk X.prog X.w H' h') (hg : AllBare g')
    (hch : ∀ b ∈ ch, (b ∈ X.ex ∨ X.s₀.heap.objs.size ≤ b) ∧ b ≠ X.env.locals ∧ (∀ x c, X.env.cells.lookup x = some c → c ≠ b) ∧ ∀ p ∈ X.pn ++ pins, p.1 ≠ b) :
    Inv X pins σ H' { s with heap := h', gens := g', drawn := d', toks := t' } := by
  obtain ⟨m, ⟨o, es, ep, ho, r⟩, _⟩ := id I.loc
  obtain ⟨sl, hL⟩ := u.any ho I.free fun z => (hch _ z).2.1 rfl
  exact I.step (ch := ch) hch (fun b o hL hb hc e n => u.keep b o e n (fun z => (List.mem_cons.mp (I.stkSub b z)).elim hL hb) hc) (fun b o _ _ hc e n => u.any e n hc) (fun b o hc e n => u.free b o e n hc) (fun b o hc e => u.there b o e hc) u.tups u.frzs u.tbls (fun m' hm => by
    obtain ⟨o', es', ep', ho', r'⟩ := hm
    rw [ho] at ho'; cases ho'
    exact ⟨_, es', ep', hL, r'⟩) hok hg
theorem Inv.turned {t' : Nat} {it : Addr} (I : Inv X pins σ H s) (k : ∀ b o, b ≠ it → s.heap.get? b = some o → h'.get? b = some o) (hn : H it = none) (hL : it ≠ X.env.locals)
    (h1 : it ∈ X.ex ∨ X.s₀.heap.objs.size ≤ it) (h2 : ∀ x c, X.env.cells.lookup x = some c → c ≠ it) (h3 : ∀ p ∈ X.pn ++ pins, p.1 ≠ it) : Inv X pins σ H { s with heap := h', toks := t' } := by
  have nit : ∀ b u, H b = some u → b ≠ it := fun b u e z => by rw [z, hn] at e; cases e
  refine I.step (g' := s.gens) (d' := s.drawn) (ch := [it]) (fun b hb => ?_) (fun b o _ _ hc e _ => k b o (fun z => hc (by simp [z])) e) (fun b o _ _ hc e _ => ⟨o.slots, k b o (fun z => hc (by simp [z])) e⟩) (fun _ _ _ _ n => n)
    (fun b o hc e => ⟨o, k b o (fun z => hc (by simp [z])) e⟩) (fun _ _ e => e) (fun _ _ _ e => e) (fun b ps e => ⟨#[], by rw [e]; simp⟩) (fun m hm => ?_) (fun b u e => ?_) I.bare
  · have e : b = it := by simpa using hb
    subst e
    exact ⟨h1, hL, h2, h3⟩
  · obtain ⟨o, es, ep, ho, r⟩ := hm
    exact ⟨o, es, ep, k _ o (Ne.symm hL) ho, r⟩
  · refine (I.hok b u e).stay (fun c v hc q => k c v ?_ q) (fun _ q => q) fun _ _ q => q
    rcases hc with z | z
    · rw [z]; exact nit b u e
    · exact nit c _ z
theorem Inv.tok (I : Inv X pins σ H s) (t : Nat) : Inv X pins σ H { s with toks := t } := I.un (h' := s.heap) (t' := t) Un.refl I.hok
theorem Inv.kept {t' : Nat} (I : Inv X pins σ H s) (k : ∀ b u, s.heap.get? b = some u → h'.get? b = some u) : Inv X pins σ H { s with heap := h', toks := t' } := I.un (Un.kept k) (I.hok.kept k)
theorem Inv.laid {a : Addr} {o : HO} {t' : Nat} (I : Inv X pins σ H s) (k : ∀ b u, s.heap.get? b = some u → h'.get? b = some u) (hp : s.heap.objs.size ≤ a) (new : ObjOk X.prog X.w (upd H a o) h' a o) :
    Inv X pins σ (upd H a o) { s with heap := h', toks := t' } := I.un (Un.laid k hp (I.hok.fresh hp)) (I.hok.laid k hp new)
theorem Inv.write {x e : Addr} {o : HO} {t' : Nat} (I : Inv X pins σ H s) (mu : Mut (H x)) (he : e = x ∨ H e = some (.own x)) (k : ∀ b u, b ≠ e → s.heap.get? b = some u → h'.get? b = some u) (heo : ∃ u, h'.get? e = some u)
    (new : ObjOk X.prog X.w (upd H x o) h' x o) : Inv X pins σ (upd H x o) { s with heap := h', toks := t' } := I.un (Un.write mu he k heo) (I.hok.write mu he k heo new)
theorem Inv.weak {σ' : List (Option V)} (I : Inv X pins σ H s) (hl : σ'.length = σ.length) (w : ∀ (i : Nat) v, σ'[i]? = some (some v) → σ[i]? = some (some v)) : Inv X pins σ' H s :=
  ⟨I.ok, I.os, I.bare, I.base, let ⟨m, hn, hl'⟩ := I.loc; ⟨m, hn, fun i x v e1 e2 e3 => hl' i x v e1 (w i v e2) e3⟩, I.cell, I.free, I.freeC, I.pin, I.hok, hl.trans I.len⟩
theorem Inv.pins_of {pins' : List (Addr × Obj)} (I : Inv X pins σ H s) (h : ∀ p ∈ pins', s.heap.get? p.1 = some p.2 ∧ H p.1 = none ∧ p.1 ≠ X.env.locals ∧ p.1 ∉ X.fs ∧ ∀ v, p.2.data ≠ .cell v) : Inv X pins' σ H s :=
  ⟨I.ok, I.os, I.bare, I.base, I.loc, I.cell, I.free, I.freeC, fun p hp => (List.mem_append.mp hp).elim (fun z => I.pin p (List.mem_append_left _ z)) (h p), I.hok, I.len⟩
theorem nodup_ix {N : List Str} (hN : N.Nodup) {i j : Nat} {x : Str} (a : N[i]? = some x) (b : N[j]? = some x) : i = j := by
  obtain ⟨h1, e1⟩ := List.getElem?_eq_some_iff.mp a
  obtain ⟨h2, e2⟩ := List.getElem?_eq_some_iff.mp b
  exact (List.getElem_inj hN).mp (e1.trans e2.symm)
theorem store_ok2 {M : Model} {A : Around} {E : Value → Shared → Prop} {i : Nat} {x : Str} {v : V} {u : Value} {Q : Unit → Shared → Prop} (I : Inv X pins σ H s) (hN : X.N.Nodup) (hi : X.N[i]? = some x) (hx : Loc X.env.scope x) (r : RelV v u)
    (h : ∀ s', Inv X pins (σ.set i (some v)) H s' → (∃ a, Heap.SameBut a s.heap s'.heap ∧ (a = X.env.locals ∨ X.env.cells.lookup x = some a)) → Q () s') (hf : X.fn x = true ∨ X.env.scope.names.lookup x = some .local := by first | exact .inl rfl | exact .inr rfl | assumption) : wpAny M A (storeName X.env x u) Q E s := by
  obtain ⟨m, hn, hl⟩ := id I.loc
  have hcls : (X.env.scope.kind == .class || (X.env.scope.kind == .module && X.env.locals != X.env.globals)) = false := by rw [I.ok.kind]; rfl
  have hiσ : i < σ.length := by rw [I.len]; exact (List.getElem?_eq_some_iff.mp hi).1
  have cne := I.cne
  have tracked : ∀ {a : Addr} {h' : Heap}, (∃ o, s.heap.get? a = some o ∧ H a = none) → Heap.SameBut a s.heap h' → HOk X.prog X.w H h' := fun {a h'} ha hs b ob e => by
    obtain ⟨_, _, hfree⟩ := ha
    refine (I.hok b ob e).stay (fun c w' hc q => (hs.2 c ?_).trans q) (fun _ q => q) fun _ _ q => q
    rintro rfl
    rcases hc with rfl | hc
    · rw [hfree] at e; cases e
    · rw [hfree] at hc; cases hc
  rcases hx with hk | hk
  · refine wpAny_storeName_local hk hn (fun h' hn' hs => ?_) hcls
    obtain ⟨oL, _, _, hoL, _⟩ := id hn
    refine h _ ⟨I.ok, I.os, I.bare, ⟨fun b o e n hb hx => ?_, fun b o e n hb hx => ?_, I.base.free, fun b o e hx => ?_, I.base.tups, I.base.frzs, I.base.tbls⟩, ⟨_, hn', fun j y v' e1 e2 e3 => ?_⟩, fun y c e => ?_, I.free, I.freeC, fun p hp => ?_, tracked ⟨oL, hoL, I.free⟩ hs, by simpa using I.len⟩ ⟨_, hs, .inl rfl⟩
    · exact (hs.2 b (Nat.ne_of_lt (Nat.lt_of_lt_of_le (Heap.lt_size e) I.ok.above))).trans (I.base.keep b o e n hb hx)
    · obtain ⟨sl, e1⟩ := I.base.slot b o e n hb hx
      exact ⟨sl, (hs.2 b (Nat.ne_of_lt (Nat.lt_of_lt_of_le (Heap.lt_size e) I.ok.above))).trans e1⟩
    · obtain ⟨o', e1⟩ := I.base.there b o e hx
      exact ⟨o', (hs.2 b (Nat.ne_of_lt (Nat.lt_of_lt_of_le (Heap.lt_size e) I.ok.above))).trans e1⟩
    · by_cases hj : j = i
      · subst hj
        rw [hi] at e1; cases e1
        rw [List.getElem?_set_self hiσ] at e2
        cases e2
        exact ⟨u, r, .inl ⟨hk, by simp⟩⟩
      · rw [List.getElem?_set_ne (Ne.symm hj)] at e2
        obtain ⟨u', r', q⟩ := hl j y v' e1 e2 e3
        refine ⟨u', r', ?_⟩
        rcases q with ⟨k, e⟩ | ⟨k, c, e, z⟩
        · refine .inl ⟨k, ?_⟩
          have : y ≠ x := fun e => hj (nodup_ix hN e1 (e ▸ hi))
          simp [this, e]
        · exact .inr ⟨k, c, e, z.sameBut hs (cne y c e)⟩
    · obtain ⟨w', z⟩ := I.cell y c e
      exact ⟨w', z.sameBut hs (cne y c e)⟩
    · obtain ⟨e, n, ne, nf, d⟩ := I.pin p hp
      exact ⟨(hs.2 p.1 ne).trans e, n, ne, nf, d⟩
  · have hfn : X.fn x = true := by
      rcases hf with z | z
      · exact z
      · rw [z] at hk; cases hk
    obtain ⟨c, hc⟩ := I.ok.has x (.inl hk)
    obtain ⟨w', z⟩ := I.cell x c hc
    refine wpAny_storeName_cell I.ok.kind hk hc z (fun h' hc' hs => ?_)
    obtain ⟨oc, hoc, hocd⟩ := id z
    refine h { s with heap := h' } ⟨I.ok, I.os, I.bare, ⟨fun b o e n hb hx => ?_, fun b o e n hb hx => ?_, I.base.free, fun b o e hx => ?_, I.base.tups, I.base.frzs, I.base.tbls⟩, ⟨m, hn.sameBut hs (Ne.symm (cne x c hc)), fun j y v' e1 e2 e3 => ?_⟩, fun y c' e => ?_, I.free, I.freeC, fun p hp => ?_, tracked ⟨oc, hoc, I.freeC x c hc⟩ hs, by simpa using I.len⟩ ⟨c, hs, .inr hc⟩
    · exact (hs.2 b (Nat.ne_of_lt (Nat.lt_of_lt_of_le (Heap.lt_size e) (I.ok.cab x c hfn hc)))).trans (I.base.keep b o e n hb hx)
    · obtain ⟨sl, e1⟩ := I.base.slot b o e n hb hx
      exact ⟨sl, (hs.2 b (Nat.ne_of_lt (Nat.lt_of_lt_of_le (Heap.lt_size e) (I.ok.cab x c hfn hc)))).trans e1⟩
    · obtain ⟨o', e1⟩ := I.base.there b o e hx
      exact ⟨o', (hs.2 b (Nat.ne_of_lt (Nat.lt_of_lt_of_le (Heap.lt_size e) (I.ok.cab x c hfn hc)))).trans e1⟩
    · by_cases hj : j = i
      · subst hj
        rw [hi] at e1; cases e1
        rw [List.getElem?_set_self hiσ] at e2
        cases e2
        exact ⟨u, r, .inr ⟨.inl hk, c, hc, hc'⟩⟩
      · rw [List.getElem?_set_ne (Ne.symm hj)] at e2
        obtain ⟨u', r', q⟩ := hl j y v' e1 e2 e3
        refine ⟨u', r', ?_⟩
        rcases q with q | ⟨k, c', e, z'⟩
        · exact .inl q
        · refine .inr ⟨k, c', e, z'.sameBut hs ?_⟩
          rintro rfl
          exact hj (nodup_ix hN e1 (I.ok.inj _ _ _ e hc ▸ hi))
    · by_cases hcc : c' = c
      · subst hcc; exact ⟨_, hc'⟩
      · obtain ⟨w2, z2⟩ := I.cell y c' e
        exact ⟨w2, z2.sameBut hs hcc⟩
    · obtain ⟨e, n, ne, nf, d⟩ := I.pin p hp
      refine ⟨(hs.2 p.1 ?_).trans e, n, ne, nf, d⟩
      intro q
      rw [q, hoc] at e
      have q' : oc = p.2 := Option.some.inj e
      exact d w' (by rw [← q']; exact hocd)
theorem store_ok {M : Model} {A : Around} {E : Value → Shared → Prop} {i : Nat} {x : Str} {v : V} {u : Value} {Q : Unit → Shared → Prop} (I : Inv X pins σ H s) (hN : X.N.Nodup) (hi : X.N[i]? = some x) (hx : Loc X.env.scope x) (r : RelV v u)
    (h : ∀ s', Inv X pins (σ.set i (some v)) H s' → Q () s') (hf : X.fn x = true ∨ X.env.scope.names.lookup x = some .local := by first | exact .inl rfl | exact .inr rfl | assumption) : wpAny M A (storeName X.env x u) Q E s :=
  store_ok2 I hN hi hx r (fun s' I' _ => h s' I') hf
theorem Inv.call' {s' : Shared} {ch : List Addr} (I : Inv X pins σ H s) (ho : s'.os = s.os) (u : Un (frs X.stack) ch H H' s.heap s'.heap) (hok : HOk X.prog X.w H' s'.heap) (hg : AllBare s'.gens)
    (hch : ∀ b ∈ ch, (b ∈ X.ex ∨ X.s₀.heap.objs.size ≤ b) ∧ b ≠ X.env.locals ∧ (∀ x c, X.env.cells.lookup x = some c → c ≠ b) ∧ ∀ p ∈ X.pn ++ pins, p.1 ≠ b) : Inv X pins σ H' s' := by
  obtain ⟨h', g', d', t', o'⟩ := s'
  have e : o' = s.os := ho
  subst e
  exact I.call (g' := g') (t' := t') (d' := d') u hok hg hch
end
noncomputable abbrev XK := Value → Option Addr → Hp → Prop
noncomputable abbrev St := List (Option V)
noncomputable abbrev VK := V → Hp → Prop
noncomputable abbrev TE := St → Hp → VK → Prop
noncomputable abbrev TT := St → Hp → (Bool → Hp → Prop) → Prop
noncomputable abbrev TA := St → Hp → (List V → Hp → Prop) → Prop
structure Ends where
  nx : St → Hp → Prop
  rt : VK
  bk : St → Hp → Prop := fun _ _ => False
  ct : St → Hp → Prop := fun _ _ => False
noncomputable abbrev TS := Ends → St → Hp → Prop
noncomputable def EP (X : Cx) (pins : List (Addr × Obj)) (σ : St) (Q : VK) (u : Value) (s' : Shared) : Prop := ∃ v H', Inv X pins σ H' s' ∧ RelV v u ∧ Q v H'
noncomputable def TP (X : Cx) (pins : List (Addr × Obj)) (σ : St) (Q : Bool → Hp → Prop) (b : Bool) (s' : Shared) : Prop := ∃ H', Inv X pins σ H' s' ∧ Q b H'
noncomputable def AP (X : Cx) (pins : List (Addr × Obj)) (σ : St) (Q : List V → Hp → Prop) (us : List Value) (s' : Shared) : Prop := ∃ vs H', Inv X pins σ H' s' ∧ Vals vs us ∧ Q vs H'
noncomputable def SP (X : Cx) (pins : List (Addr × Obj)) (D : Ends) (f : Flow) (s' : Shared) : Prop :=
  match f with
  | .next => ∃ σ' H', Inv X pins σ' H' s' ∧ D.nx σ' H'
  | .brk => ∃ σ' H', Inv X pins σ' H' s' ∧ D.bk σ' H'
  | .cont => ∃ σ' H', Inv X pins σ' H' s' ∧ D.ct σ' H'
  | .ret u => ∃ v σ' H', Inv X pins σ' H' s' ∧ RelV v u ∧ D.rt v H'
noncomputable def PE (X : Cx) (e : Expr) (t : TE) : Prop :=
  ∀ (pins : List (Addr × Obj)) (s : Shared) (σ : St) (H : Hp) (Q : VK), Inv X pins σ H s → t σ H Q → wpAny (model X.prog X.w) X.A (eval e X.env) (EP X pins σ Q) X.xe s
noncomputable def PT (X : Cx) (e : Expr) (t : TT) : Prop :=
  ∀ (pins : List (Addr × Obj)) (s : Shared) (σ : St) (H : Hp) (Q : Bool → Hp → Prop), Inv X pins σ H s → t σ H Q → wpAny (model X.prog X.w) X.A (isTrue e X.env (eval e X.env)) (TP X pins σ Q) X.xe s
noncomputable def PW (X : Cx) (e : Expr) (t : TT) : Prop :=
  ∀ (whole : Sem Value) (pins : List (Addr × Obj)) (s : Shared) (σ : St) (H : Hp) (Q : Bool → Hp → Prop), Inv X pins σ H s → t σ H Q → wpAny (model X.prog X.w) X.A (isTrue e X.env whole) (TP X pins σ Q) X.xe s
theorem PW.pt {X : Cx} {e : Expr} {t : TT} (h : PW X e t) : PT X e t := h _
noncomputable def PA (X : Cx) (es : List Expr) (t : TA) : Prop :=
  ∀ (pos : Pos) (pins : List (Addr × Obj)) (s : Shared) (σ : St) (H : Hp) (Q : List V → Hp → Prop), Inv X pins σ H s → t σ H Q → wpAny (model X.prog X.w) X.A (spliced (backTo pos (starEach es X.env))) (AP X pins σ Q) X.xe s
noncomputable def PS (X : Cx) (st : Stmt) (t : TS) : Prop :=
  ∀ (pins : List (Addr × Obj)) (s : Shared) (σ : St) (H : Hp) (D : Ends), Inv X pins σ H s → t D σ H → wpAny (model X.prog X.w) X.A (exec st X.env) (SP X pins D) X.xe s
noncomputable def PSs (X : Cx) (st : List Stmt) (t : TS) : Prop :=
  ∀ (pins : List (Addr × Obj)) (s : Shared) (σ : St) (H : Hp) (D : Ends), Inv X pins σ H s → t D σ H → wpAny (model X.prog X.w) X.A (execs st X.env) (SP X pins D) X.xe s
theorem thn {α : Type} {t : Sem α} {Q Q' : α → Shared → Prop} {M : Model} {A : Around} {E : Value → Shared → Prop} {s : Shared} (h : wpAny M A t Q E s) (hQ : ∀ a s, Q a s → Q' a s) : wpAny M A t Q' E s := wpAny_mono h hQ fun _ _ x => x
end L2
namespace L2
open PySem PySem.Spec PyProof.Rows
section
variable {X : Cx}
theorem bin {a b : Expr} {ta tb : TE} (ha : PE X a ta) (hb : PE X b tb) {pins : List (Addr × Obj)} {s : Shared} {σ : St} {H : Hp} {R : V → V → Hp → Prop} (I : Inv X pins σ H s) (h : ta σ H fun x H1 => tb σ H1 fun y H2 => R x y H2)
    {α : Type} {Q : α → Shared → Prop} {f : Value → Value → Sem α}
    (hf : ∀ v u s2 x y H2, Inv X pins σ H2 s2 → RelV x v → RelV y u → R x y H2 → wpAny (model X.prog X.w) X.A (f v u) Q X.xe s2) :
    wpAny (model X.prog X.w) X.A (eval a X.env) (fun v s₁ => wpAny (model X.prog X.w) X.A (eval b X.env) (fun u s₂ => wpAny (model X.prog X.w) X.A (f v u) Q X.xe s₂) X.xe s₁) X.xe s := by
  refine thn (ha pins s σ H _ I h) fun v s1 hq__ => ?_
  obtain ⟨x, H1, I1, r1, q1⟩ := hq__
  refine thn (hb pins s1 σ H1 _ I1 q1) fun u s2 hq__ => ?_
  obtain ⟨y, H2, I2, r2, q2⟩ := hq__
  exact hf v u s2 x y H2 I2 r1 r2 q2
noncomputable def tVar (i : Nat) : TE := fun σ H Q => ∃ v, σ[i]? = some (some v) ∧ Q v H
noncomputable def tC (v : V) : TE := fun _ H Q => Q v H
theorem pe_var {i : Nat} {x : Str} {pos : Pos} (hN : X.N[i]? = some x) (hv : Vis X.env.scope x) (hd : (x == ("__debug__" : Str)) = false := by decide) (hcd : (x == ("__classdict__" : Str)) = false := by decide) : PE X (.Name x pos) (tVar i) := by
  intro pins s σ H Q I h
  obtain ⟨v, e, h⟩ := h
  obtain ⟨m, hn, hl⟩ := I.loc
  obtain ⟨u, r, l⟩ := hl i x v hN e hv
  have fin : EP X pins σ Q u s := ⟨v, H, I, r, h⟩
  rcases l with ⟨hk, hm⟩ | ⟨hk, c, hc, hcell⟩
  · exact wpAny_Name (wpAny_loadName_local I.ok.kind hk hn hm fin) hd
  · rcases hk with hk | hk
    · exact wpAny_Name (wpAny_loadName_cell I.ok.kind hk hc hcell fin) hd
    · exact wpAny_Name (wpAny_loadName_free I.ok.kind hk hc hcell fin hcd) hd
theorem pe_int {i j pos} : PE X (.Constant (.int i) j pos) (tC (.int i)) := fun _ _ _ H _ I h => wpAny_Constant_int ⟨.int i, H, I.tok _, ⟨_, rfl⟩, h⟩
theorem pe_bl {b j pos} : PE X (.Constant (.bool b) j pos) (tC (.bl b)) := fun _ _ _ H _ I h => Constant_bool ⟨.bl b, H, I, rfl, h⟩
theorem pe_non {j pos} : PE X (.Constant .none j pos) (tC .non) := fun _ _ _ H _ I h => Constant_none ⟨.non, H, I, rfl, h⟩
theorem pe_str {x j pos} : PE X (.Constant (.str x) j pos) (tC (.str x)) := fun _ _ _ H _ I h => Calls.Constant_str ⟨.str x, H, I.tok _, ⟨_, rfl⟩, h⟩
noncomputable def Gl (X : Cx) (x : Str) : Prop := X.env.kindOf x = some .globalImplicit
theorem ld_glob {E : Value → Shared → Prop} {pins : List (Addr × Obj)} {s : Shared} {σ : St} {H : Hp} {x : Str} {u : Value} {pos : Pos} {Q : Value → Shared → Prop} (I : Inv X pins σ H s) (hg : Gl X x) (hm : X.mg x = some u) (h : Q u s)
    (hd : (x == ("__debug__" : Str)) = false := by decide) : wpAny (model X.prog X.w) X.A (eval (.Name x pos) X.env) Q E s :=
  Calls.Name_function_global I.ok.kind hg (Calls.loadGlobal_global (by rw [I.ok.glob]; exact I.mod.glob.keeps I.bk) hm h) hd
theorem ld_blt {E : Value → Shared → Prop} {pins : List (Addr × Obj)} {s : Shared} {σ : St} {H : Hp} {x : Str} {u : Value} {pos : Pos} {Q : Value → Shared → Prop} (I : Inv X pins σ H s) (hg : Gl X x) (hm : X.mg x = none) (hv : bootBuiltins x = some u) (h : Q u s)
    (hn : x ≠ "__name__" := by decide) (hd : (x == ("__debug__" : Str)) = false := by decide) : wpAny (model X.prog X.w) X.A (eval (.Name x pos) X.env) Q E s := by
  obtain ⟨mb, h1, h2⟩ := I.mod.blt
  exact Calls.Name_function_global I.ok.kind hg (Calls.loadGlobal_builtin (by rw [I.ok.glob]; exact I.mod.glob.keeps I.bk) hm (by rw [I.ok.blt]; exact h1.keeps I.bk) ((h2 x hn).trans hv) h) hd
theorem pe_bltn {x : Str} {v : V} {u : Value} {pos : Pos} (hg : Gl X x) (hm : X.mg x = none) (hv : bootBuiltins x = some u) (r : RelV v u) (hn : x ≠ "__name__" := by decide) (hd : (x == ("__debug__" : Str)) = false := by decide) : PE X (.Name x pos) (tC v) :=
  fun _ _ _ H _ I h => ld_blt I hg hm hv ⟨v, H, I, r, h⟩ hn hd
variable {a b : Expr} {ta tb : TE} {pos : Pos}
noncomputable def PC (X : Cx) (op : CmpOp) (a b : Expr) (t : TE) : Prop :=
  ∀ (pins : List (Addr × Obj)) (s : Shared) (σ : St) (H : Hp) (Q : VK), Inv X pins σ H s → t σ H Q →
    wpAny (model X.prog X.w) X.A (eval a X.env) (fun v s₁ => wpAny (model X.prog X.w) X.A (eval b X.env) (fun u s₂ => wpAny (model X.prog X.w) X.A (compareOp op v u) (EP X pins σ Q) X.xe s₂) X.xe s₁) X.xe s
theorem nobehind (b : Expr) {op : CmpOp} (h : op ≠ .In) (h2 : op ≠ .NotIn) : behindInMarks op b = false := by
  have e1 : (op == CmpOp.In) = false := by cases op <;> first | rfl | exact absurd rfl h
  have e2 : (op == CmpOp.NotIn) = false := by cases op <;> first | rfl | exact absurd rfl h2
  cases b <;> simp [behindInMarks, e1, e2]
noncomputable def tB (t : TE) : TT := fun σ H Q => t σ H fun x H1 => ∃ c, x = .bl c ∧ Q c H1
theorem pt_cmp {op : CmpOp} {t : TE} (h : PC X op a b t) (h1 : behindInMarks op b = false := by first | exact nobehind _ (by decide) (by decide) | rfl) : PT X (.Compare a [op] [b] pos) (tB t) := by
  intro pins s σ H Q I hw
  refine wpAny_isTrue_Compare1 (thn (h pins s σ H _ I hw) fun v s1 h1 => thn h1 fun u s2 h2 => thn h2 fun c s3 ⟨x, H1, I1, r1, q1⟩ => ?_) h1
  obtain ⟨d, rfl, q⟩ := q1
  cases r1
  exact wpAny_truthy_bool ⟨H1, I1, q⟩
theorem pt_val {e : Expr} {t : TE} (h : PE X e t) (he : ∀ whole, isTrue e X.env whole = (do let v ← whole; standAt e.pos; holding [v] (truthy v)) := by intro _; rfl) : PT X e (tB t) := by
  intro pins s σ H Q I hw
  refine isTrue_plain (thn (h pins s σ H _ I hw) fun v s1 ⟨x, H1, I1, r1, q1⟩ => ?_) (he _)
  obtain ⟨d, rfl, q⟩ := q1
  cases r1
  exact wpAny_truthy_bool ⟨H1, I1, q⟩
variable {tA tB' : TT} {rest : List Expr}
noncomputable def tAnd (t u : TT) : TT := fun σ H Q => t σ H fun c H1 => if c = true then u σ H1 Q else Q false H1
noncomputable def tOr (t u : TT) : TT := fun σ H Q => t σ H fun c H1 => if c = true then Q true H1 else u σ H1 Q
noncomputable def tNot (t : TT) : TT := fun σ H Q => t σ H fun c H1 => Q (!c) H1
theorem pw_and1 (ha : PT X a tA) : PW X (.BoolOp .And [a] pos) tA := by
  intro wh pins s σ H Q I h
  refine isTrue_and (thn (ha pins s σ H Q I h) fun c s1 e => ?_)
  cases c with
  | true => exact isTrue_and_nil e
  | false => exact e
theorem pw_or1 (ha : PT X a tA) : PW X (.BoolOp .Or [a] pos) tA := by
  intro wh pins s σ H Q I h
  refine isTrue_or (thn (ha pins s σ H Q I h) fun c s1 e => ?_)
  cases c with
  | false => exact isTrue_or_nil e
  | true => exact e
theorem pw_and (ha : PT X a tA) (hb : PW X (.BoolOp .And (b :: rest) pos) tB') : PW X (.BoolOp .And (a :: b :: rest) pos) (tAnd tA tB') := by
  intro wh pins s σ H Q I h
  refine isTrue_and (thn (ha pins s σ H _ I h) fun c s1 hq__ => ?_)
  obtain ⟨H1, I1, q1⟩ := hq__
  cases c with
  | true => exact hb wh pins s1 σ H1 Q I1 q1
  | false => exact ⟨H1, I1, q1⟩
theorem pw_or (ha : PT X a tA) (hb : PW X (.BoolOp .Or (b :: rest) pos) tB') : PW X (.BoolOp .Or (a :: b :: rest) pos) (tOr tA tB') := by
  intro wh pins s σ H Q I h
  refine isTrue_or (thn (ha pins s σ H _ I h) fun c s1 hq__ => ?_)
  obtain ⟨H1, I1, q1⟩ := hq__
  cases c with
  | true => exact ⟨H1, I1, q1⟩
  | false => exact hb wh pins s1 σ H1 Q I1 q1
theorem pt_not (ha : PT X a tA) : PT X (.UnaryOp .Not a pos) (tNot tA) := by
  intro pins s σ H Q I h
  exact isTrue_not (ha pins s σ H (fun c H1 => Q (!c) H1) I h)
noncomputable def tAndV (ta tb : TE) : TE := fun σ H Q => ta σ H fun x H1 => ∃ c, x = .bl c ∧ if c = true then tb σ H1 Q else Q (.bl false) H1
noncomputable def tOrV (ta tb : TE) : TE := fun σ H Q => ta σ H fun x H1 => ∃ c, x = .bl c ∧ if c = true then Q (.bl true) H1 else tb σ H1 Q
noncomputable def tNotV (ta : TE) : TE := fun σ H Q => ta σ H fun x H1 => ∃ c, x = .bl c ∧ Q (.bl (!c)) H1
theorem pe_one {op} {t : TE} (h : PE X a t) : PE X (.BoolOp op [a] pos) t := fun pins s σ H Q I hw => BoolOp_one (h pins s σ H Q I hw)
theorem pe_and (ha : PE X a ta) (hb : PE X (.BoolOp .And (b :: rest) pos) tb) : PE X (.BoolOp .And (a :: b :: rest) pos) (tAndV ta tb) := by
  intro pins s σ H Q I h
  refine BoolOp_and (thn (ha pins s σ H _ I h) fun v s1 hq__ => ?_)
  obtain ⟨x, H1, I1, r1, q1⟩ := hq__
  obtain ⟨c, rfl, q1⟩ := q1
  cases r1
  refine wpAny_truthy_bool ?_
  cases c with
  | true => exact hb pins s1 σ H1 Q I1 q1
  | false => exact ⟨.bl false, H1, I1, rfl, q1⟩
theorem pe_or (ha : PE X a ta) (hb : PE X (.BoolOp .Or (b :: rest) pos) tb) : PE X (.BoolOp .Or (a :: b :: rest) pos) (tOrV ta tb) := by
  intro pins s σ H Q I h
  refine BoolOp_or (thn (ha pins s σ H _ I h) fun v s1 hq__ => ?_)
  obtain ⟨x, H1, I1, r1, q1⟩ := hq__
  obtain ⟨c, rfl, q1⟩ := q1
  cases r1
  refine wpAny_truthy_bool ?_
  cases c with
  | false => exact hb pins s1 σ H1 Q I1 q1
  | true => exact ⟨.bl true, H1, I1, rfl, q1⟩
theorem pe_not (ha : PE X a ta) : PE X (.UnaryOp .Not a pos) (tNotV ta) := by
  intro pins s σ H Q I h
  refine UnaryOp_ (thn (ha pins s σ H _ I h) fun v s1 hq__ => ?_)
  obtain ⟨x, H1, I1, r1, q1⟩ := hq__
  obtain ⟨c, rfl, q1⟩ := q1
  cases r1
  exact not_of (wpAny_truthy_bool ⟨.bl (!c), H1, I1, rfl, q1⟩)
noncomputable def tIf (t : TT) (ta tb : TE) : TE := fun σ H Q => t σ H fun c H1 => if c = true then ta σ H1 Q else tb σ H1 Q
theorem pe_ifExp {c : Expr} (hc : PT X c tA) (ha : PE X a ta) (hb : PE X b tb) : PE X (.IfExp c a b pos) (tIf tA ta tb) := by
  intro pins s σ H Q I h
  refine wpAny_IfExp (thn (hc pins s σ H _ I h) fun d s1 hq__ => ?_)
  obtain ⟨H1, I1, q1⟩ := hq__
  cases d with
  | true => exact ha pins s1 σ H1 Q I1 q1
  | false => exact hb pins s1 σ H1 Q I1 q1
end
end L2
namespace L2
open PySem PySem.Spec PyProof.Rows
noncomputable def SqL (K : PySem.W.Frag) (H : Hp) (a : Addr) (xs : List V) : Prop :=
  Rd H a (.lst xs) ∨
    ∃ (o : Obj) (its : Array Value) (n : Nat), K.lookup a = some o ∧ o.cls = .type "list" ∧ o.dict = none ∧ o.data = .seq its n ∧ its.size ≤ sizeLine ∧ Vals xs its.toList
noncomputable def SqT (K : PySem.W.Frag) (H : Hp) (a : Addr) (xs : List V) : Prop :=
  Rd H a (.tup xs) ∨
    ∃ (o : Obj) (its : Array Value) (n : Nat), K.lookup a = some o ∧ o.cls = .type "tuple" ∧ o.data = .seq its n ∧ its.size ≤ sizeLine ∧ Vals xs its.toList
noncomputable def absV : Value → Option V
  | .none => some .non
  | .bool b => some (.bl b)
  | .int i _ => some (.int i)
  | .str x _ => some (.str x)
  | .bytes b _ => some (.byt b)
  | .float b _ => some (.flt b)
  | .ref a => some (.ref a)
  | .type n => some (.ty n)
  | _ => none
theorem RelV.abs {x : V} {u : Value} (r : RelV x u) : absV u = some x := by
  cases x with
  | non => cases r; rfl
  | bl _ => cases r; rfl
  | int _ => obtain ⟨t, rfl⟩ := r; rfl
  | str _ => obtain ⟨t, rfl⟩ := r; rfl
  | byt _ => obtain ⟨t, rfl⟩ := r; rfl
  | flt _ => obtain ⟨t, rfl⟩ := r; rfl
  | ref _ => cases r; rfl
  | ty _ => cases r; rfl
theorem RelV.inj {x y : V} {u : Value} (r : RelV x u) (q : RelV y u) : x = y := Option.some.inj (r.abs.symm.trans q.abs)
theorem Vals.inj : ∀ {xs ys : List V} {us : List Value}, Vals xs us → Vals ys us → xs = ys := by
  intro xs ys us h
  induction h generalizing ys with
  | nil => intro h'; cases h'; rfl
  | cons r t ih =>
    intro h'
    cases h' with
    | cons r' t' => rw [r.inj r', ih t']
section
variable {X : Cx} {pins : List (Addr × Obj)} {σ : St} {H : Hp} {s : Shared} {a : Addr} {xs ys : List V}
theorem SqL.of {K : PySem.W.Frag} (h : H a = some (.lst xs)) : SqL K H a xs := .inl (.inl h)
theorem SqT.of {K : PySem.W.Frag} (h : H a = some (.tup xs)) : SqT K H a xs := .inl (.inl h)
theorem Inv.list (I : Inv X pins σ H s) (h : SqL X.K H a xs) : ∃ its : List Value, Vals xs its ∧ PlainL s.heap a its.toArray ∧ xs.length ≤ sizeLine := by
  rcases h with h | ⟨o, its, n, hk, hc, hd, hs, hz, r⟩
  · obtain ⟨z, its, n, r, e⟩ := h.ok I.hok
    exact ⟨its, r, ⟨_, n, e, rfl, rfl, rfl⟩, z⟩
  · refine ⟨its.toList, r, ⟨o, n, I.kIn a o hk, hc, hd, by simpa using hs⟩, ?_⟩
    have e := r.length
    simp only [Array.length_toList] at e
    omega
theorem Inv.tuple (I : Inv X pins σ H s) (h : SqT X.K H a xs) : ∃ its : List Value, Vals xs its ∧ IsTup s.heap a its.toArray ∧ xs.length ≤ sizeLine := by
  rcases h with h | ⟨o, its, n, hk, hc, hs, hz, r⟩
  · obtain ⟨z, its, r, p⟩ := h.ok I.hok
    exact ⟨its, r, p, z⟩
  · refine ⟨its.toList, r, ⟨o, I.kIn a o hk, hc, n, by simpa using hs⟩, ?_⟩
    have e := r.length
    simp only [Array.length_toList] at e
    omega
theorem Inv.list_inj (I : Inv X pins σ H s) (h : SqL X.K H a xs) (h' : SqL X.K H a ys) : xs = ys := by
  obtain ⟨its, r, ⟨o, n, e, _, _, d⟩, _⟩ := I.list h
  obtain ⟨its', r', ⟨o', n', e', _, _, d'⟩, _⟩ := I.list h'
  rw [e] at e'; cases e'
  rw [d] at d'
  injection d' with d1 _
  have : its = its' := by simpa using congrArg Array.toList d1
  subst this
  exact r.inj r'
theorem Inv.tuple_inj (I : Inv X pins σ H s) (h : SqT X.K H a xs) (h' : SqT X.K H a ys) : xs = ys := by
  obtain ⟨its, r, ⟨o, e, _, n, d⟩, _⟩ := I.tuple h
  obtain ⟨its', r', ⟨o', e', _, n', d'⟩, _⟩ := I.tuple h'
  rw [e] at e'; cases e'
  rw [d] at d'
  injection d' with d1 _
  have : its = its' := by simpa using congrArg Array.toList d1
  subst this
  exact r.inj r'
end
noncomputable abbrev Cx.wish (X : Cx) (E : Value → Shared → Prop) : Cx := { X with xe := E }
noncomputable abbrev Cx.nox (X : Cx) : Cx := X.wish fun _ _ => False
theorem Cx.Ok.wish {X : Cx} (ok : X.Ok) (E : Value → Shared → Prop) : (X.wish E).Ok :=
  ⟨ok.mod, ok.kind, ok.glob, ok.blt, ok.above, ok.inj, ok.has, ok.cab, ok.hd, ok.frames, ok.stk, ok.exf, ok.bs, ok.bsz, ok.noex, ok.exfs, ok.funs, ok.frf⟩
theorem Cx.Ok.unwish {X : Cx} {E : Value → Shared → Prop} (ok : (X.wish E).Ok) : X.Ok :=
  ⟨ok.mod, ok.kind, ok.glob, ok.blt, ok.above, ok.inj, ok.has, ok.cab, ok.hd, ok.frames, ok.stk, ok.exf, ok.bs, ok.bsz, ok.noex, ok.exfs, ok.funs, ok.frf⟩
section
variable {X : Cx} {pins : List (Addr × Obj)} {σ : St} {H : Hp} {s : Shared} {E : Value → Shared → Prop}
theorem Inv.wish (I : Inv X pins σ H s) (E : Value → Shared → Prop) : Inv (X.wish E) pins σ H s := ⟨I.ok.wish E, I.os, I.bare, I.base, I.loc, I.cell, I.free, I.freeC, I.pin, I.hok, I.len⟩
theorem Inv.unwish (I : Inv (X.wish E) pins σ H s) : Inv X pins σ H s := ⟨I.ok.unwish, I.os, I.bare, I.base, I.loc, I.cell, I.free, I.freeC, I.pin, I.hok, I.len⟩
theorem SP.unwish {D : Ends} {f : Flow} {s' : Shared} (h : SP (X.wish E) pins D f s') : SP X pins D f s' := by
  cases f with
  | next => obtain ⟨σ', H', I, q⟩ := h; exact ⟨σ', H', I.unwish, q⟩
  | brk => obtain ⟨σ', H', I, q⟩ := h; exact ⟨σ', H', I.unwish, q⟩
  | cont => obtain ⟨σ', H', I, q⟩ := h; exact ⟨σ', H', I.unwish, q⟩
  | ret u => obtain ⟨v, σ', H', I, r, q⟩ := h; exact ⟨v, σ', H', I.unwish, r, q⟩
theorem PSs.nox {st : List Stmt} {t : TS} (h : PSs X.nox st t) : PSs X st t := fun pins s σ H D I hw =>
  wpAny_mono (h pins s σ H D (I.wish _) hw) (fun _ _ q => q.unwish) fun _ _ z => False.elim z
end
section
variable {X : Cx} {st : Stmt} {rest : List Stmt} {t u : TS} {e : Expr} {te : TE} {pos : Pos}
noncomputable def tNext : TS := fun D σ H => D.nx σ H
noncomputable def tSeq (t u : TS) : TS := fun D σ H => t { D with nx := u D } σ H
theorem pss_nil : PSs X [] tNext := fun _ _ σ H _ I h => wpAny_execs_nil ⟨σ, H, I, h⟩
theorem pss_cons (h1 : PS X st t) (h2 : PSs X rest u) : PSs X (st :: rest) (tSeq t u) := by
  intro pins s σ H D I h
  refine wpAny_execs_cons (thn (h1 pins s σ H { D with nx := u D } I h) fun f s1 q => ?_)
  cases f with
  | next =>
    obtain ⟨σ', H', I', q⟩ := q
    exact h2 pins s1 σ' H' D I' q
  | ret v => exact q
  | brk => exact q
  | cont => exact q
theorem pss_one (h1 : PS X st t) : PSs X [st] t := by
  intro pins s σ H D I h
  refine wpAny_execs_cons (thn (h1 pins s σ H D I h) fun f s1 q => ?_)
  cases f with
  | next => exact wpAny_execs_nil q
  | ret v => exact q
  | brk => exact q
  | cont => exact q
theorem Inv.quiet {pins : List (Addr × Obj)} {σ : St} {H : Hp} {s : Shared} (I : Inv X pins σ H s) : interactive X.env = false := by simp [interactive, I.ok.kind]
noncomputable def tDrop (te : TE) : TS := fun D σ H => te σ H fun _ H1 => D.nx σ H1
theorem ps_expr (he : PE X e te) (hs : swapsWith e none pos.line X.env = pure false := by rfl) : PS X (.Expr e pos) (tDrop te) := by
  intro pins s σ H D I h
  exact wpAny_Expr_any (thn (he pins s σ H _ I h) fun v s1 ⟨x, H1, I1, r1, q1⟩ => ⟨σ, H1, I1, q1⟩) I.quiet hs
noncomputable def tRet (te : TE) : TS := fun D σ H => te σ H D.rt
theorem ps_ret (he : PE X e te) : PS X (.Return (some e) pos) (tRet te) := by
  intro pins s σ H D I h
  exact wpAny_Return_some (thn (he pins s σ H _ I h) fun v s1 ⟨x, H1, I1, r1, q1⟩ => ⟨x, σ, H1, I1, r1, q1⟩)
noncomputable def tIfS (c : TT) (t u : TS) : TS := fun D σ H => c σ H fun b H1 => if b = true then t D σ H1 else u D σ H1
theorem ps_if {c : Expr} {a b : List Stmt} {tc : TT} (hc : PT X c tc) (ha : PSs X a t) (hb : PSs X b u) : PS X (.If c a b pos) (tIfS tc t u) := by
  intro pins s σ H D I h
  refine wpAny_If (thn (hc pins s σ H _ I h) fun d s1 hq__ => ?_)
  obtain ⟨H1, I1, q1⟩ := hq__
  cases d with
  | true => exact ha pins s1 σ H1 D I1 q1
  | false => exact hb pins s1 σ H1 D I1 q1
end
noncomputable abbrev TG := V → St → Hp → (St → Hp → Prop) → Prop
noncomputable abbrev TGs := List V → St → Hp → (St → Hp → Prop) → Prop
noncomputable def PG (X : Cx) (target : Expr) (t : TG) : Prop :=
  ∀ (pins : List (Addr × Obj)) (s : Shared) (σ : St) (H : Hp) (v : V) (u : Value) (Q : St → Hp → Prop), Inv X pins σ H s → RelV v u → t v σ H Q →
    wpAny (model X.prog X.w) X.A (assign target X.env u) (fun _ s' => ∃ σ' H', Inv X pins σ' H' s' ∧ Q σ' H') X.xe s
noncomputable def PGs (X : Cx) (ts : List Expr) (t : TGs) : Prop :=
  ∀ (pins : List (Addr × Obj)) (s : Shared) (σ : St) (H : Hp) (vs : List V) (us : List Value) (Q : St → Hp → Prop), Inv X pins σ H s → Vals vs us → t vs σ H Q →
    wpAny (model X.prog X.w) X.A (assignInOrder ((assignEach ts X.env).map (·.2)) us) (fun _ s' => ∃ σ' H', Inv X pins σ' H' s' ∧ Q σ' H') X.xe s
noncomputable abbrev TSet := V → V → V → Hp → (Hp → Prop) → Prop
noncomputable def PSet (X : Cx) (t : TSet) : Prop :=
  ∀ (pins : List (Addr × Obj)) (s : Shared) (σ : St) (H : Hp) (o i v : V) (ov iv u : Value) (Q : Hp → Prop), Inv X pins σ H s → RelV o ov → RelV i iv → RelV v u → t o i v H Q →
    wpAny (model X.prog X.w) X.A (setItem ov iv u) (fun _ s' => ∃ H', Inv X pins σ H' s' ∧ Q H') X.xe s
section
variable {X : Cx} {pos : Pos}
noncomputable def gName (i : Nat) : TG := fun v σ H Q => Q (σ.set i (some v)) H
theorem pg_name {i : Nat} {x : Str} (hN : X.N.Nodup) (hi : X.N[i]? = some x) (hx : Loc X.env.scope x) (hf : X.fn x = true ∨ X.env.scope.names.lookup x = some .local := by first | exact .inl rfl | exact .inr rfl | assumption) : PG X (.Name x pos) (gName i) := by
  intro pins s σ H v u Q I r h
  exact wpAny_assign_Name (store_ok I hN hi hx r (fun s' I' => ⟨_, H, I', h⟩) hf)
noncomputable def gNil : TGs := fun vs σ H Q => vs = [] ∧ Q σ H
noncomputable def gCons (t : TG) (u : TGs) : TGs := fun vs σ H Q => ∃ v r, vs = v :: r ∧ t v σ H fun σ' H' => u r σ' H' Q
theorem pgs_nil : PGs X [] gNil := by
  intro pins s σ H vs us Q I r h
  obtain ⟨e, h⟩ := h
  subst e
  cases r
  exact assignInOrder_nil ⟨σ, H, I, h⟩
theorem pgs_cons {e : Expr} {es : List Expr} {t : TG} {u : TGs} (h1 : PG X e t) (h2 : PGs X es u)
    (hs : (assignEach (e :: es) X.env).map (·.2) = assign e X.env :: (assignEach es X.env).map (·.2) := by rfl) : PGs X (e :: es) (gCons t u) := by
  intro pins s σ H vs us Q I r h
  obtain ⟨v, vr, e1, h⟩ := h
  subst e1
  cases r with
  | cons r rr =>
    rw [hs]
    refine assignInOrder_cons (thn (h1 pins s σ H _ _ _ I r h) fun _ s1 hq__ => ?_)
    obtain ⟨σ1, H1, I1, q1⟩ := hq__
    exact h2 pins s1 σ1 H1 _ _ Q I1 rr q1
noncomputable def gTup (K : PySem.W.Frag) (n : Nat) (t : TGs) : TG := fun v σ H Q => ∃ a xs, v = .ref a ∧ SqT K H a xs ∧ xs.length = n ∧ t xs σ H Q
theorem pg_tup {es : List Expr} {k : Nat} {t : TGs} {n : Nat} (hc : X.calm = true) (h : PGs X es t)
    (hn : (assignEach es X.env).length = n := by rfl) (hst : (assignEach es X.env).findIdx? (·.1) = none := by rfl) : PG X (.Tuple es k pos) (gTup X.K n t) := by
  intro pins s σ H v u Q I r hw
  obtain ⟨a, xs, e1, hq, hl, hw⟩ := hw
  subst e1
  cases r
  obtain ⟨its, rv, ht, hz⟩ := I.tuple hq
  refine assign_Tuple_tuple (I.ok.hd hc) ht (by simp [hn, ← hl, rv.length]) hst fun h' hx => ?_
  have I1 : Inv X pins σ H { s with heap := h' } := I.kept (t' := s.toks) fun b o e => hx b o (Nat.ne_of_lt (Heap.lt_size e)) e
  exact h pins _ σ H xs _ Q I1 (by simpa using rv) hw
noncomputable def gSub (to ti : TE) (t : TSet) : TG := fun v σ H Q => to σ H fun o H1 => ti σ H1 fun i H2 => t o i v H2 fun H3 => Q σ H3
theorem pg_sub {o i : Expr} {to ti : TE} {t : TSet} (ho : PE X o to) (hi : PE X i ti) (hs : PSet X t)
    (ha : ∀ v, assign (.Subscript o i pos) X.env v = (do
      let ov ← holding [v] (eval o X.env)
      let iv ← holding [v, ov] (eval i X.env)
      standAt pos
      holding [v, ov, iv] (setItem ov iv v)
      release [v, ov, iv] []) := by intro _; rfl) : PG X (.Subscript o i pos) (gSub to ti t) := by
  intro pins s σ H v u Q I r h
  rw [ha]
  refine wpAny_bind (wpAny_holding (thn (ho pins s σ H _ I h) fun ov s1 hq__ => ?_))
  obtain ⟨x, H1, I1, r1, q1⟩ := hq__
  refine wpAny_bind (wpAny_holding (thn (hi pins s1 σ H1 _ I1 q1) fun iv s2 hq__ => ?_))
  obtain ⟨y, H2, I2, r2, q2⟩ := hq__
  refine wpAny_bind (wpAny_standAt (wpAny_bind (wpAny_holding (thn (hs pins s2 σ H2 x y v ov iv u _ I2 r1 r2 r q2) fun _ s3 hq__ => ?_))))
  obtain ⟨H3, I3, q3⟩ := hq__
  exact wpAny_release ⟨σ, H3, I3, q3⟩
noncomputable def tAsg (te : TE) (g : TG) : TS := fun D σ H => te σ H fun x H1 => g x σ H1 D.nx
theorem ps_asg {tg e : Expr} {te : TE} {g : TG} (he : PE X e te) (hg : PG X tg g) (hs : swapsWithSole [tg] e pos.line X.env = pure false := by rfl) (hw : swappedStores [tg] e X.env = pure none := by rfl)
    (h1 : (assignEach [tg] X.env).map (·.2) = [assign tg X.env] := by rfl) : PS X (.Assign [tg] e pos) (tAsg te g) := by
  intro pins s σ H D I h
  refine wpAny_Assign_stores (thn (he pins s σ H _ I h) fun v s1 ⟨x, H1, I1, r1, q1⟩ => ?_) hs hw
  rw [h1]
  exact thn (hg pins s1 σ H1 x v _ I1 r1 q1) fun _ s2 q => q
theorem ps_set {i : Nat} {x : Str} {e : Expr} {te : TE} {pos' : Pos} (hN : X.N.Nodup) (hi : X.N[i]? = some x) (hx : Loc X.env.scope x) (he : PE X e te) (hs : swapsWith e (some (.Name x pos')) pos.line X.env = pure false := by rfl) (hf : X.fn x = true ∨ X.env.scope.names.lookup x = some .local := by first | exact .inl rfl | exact .inr rfl | assumption) :
    PS X (.Assign [.Name x pos'] e pos) (tAsg te (gName i)) := by
  intro pins s σ H D I h
  refine wpAny_Assign_Name (thn (he pins s σ H _ I h) fun v s1 ⟨y, H1, I1, r1, q1⟩ => ?_) hs
  exact store_ok I1 hN hi hx r1 (fun s2 I2 => ⟨_, H1, I2, q1⟩) hf
end
section
variable {X : Cx} {pos : Pos}
end
structure It where
  go : Nat → Hp → Prop
  yld : Nat → Hp → V → Hp → Prop
  stop : Nat → Hp → Prop
noncomputable def FpOk (X : Cx) (pins : List (Addr × Obj)) (H : Hp) (b : Addr) : Prop :=
  H b = none ∧ b ≠ X.env.locals ∧ b ∉ X.fs ∧ (b ∈ X.ex ∨ X.s₀.heap.objs.size ≤ b) ∧ (∀ x c, X.env.cells.lookup x = some c → c ≠ b) ∧ ∀ p ∈ X.pn ++ pins, p.1 ≠ b
theorem Inv.fpOk {X : Cx} {pins : List (Addr × Obj)} {σ : St} {H H' : Hp} {s : Shared} {b : Addr} (I : Inv X pins σ H s) (hb : s.heap.objs.size ≤ b) (hn : H' b = none) : FpOk X pins H' b := by
  refine ⟨hn, Nat.ne_of_gt (Nat.lt_of_lt_of_le I.lt hb), I.nofs hb, .inr (Nat.le_trans I.sz hb), fun x c e z => ?_, fun p hp z => ?_⟩
  · obtain ⟨v, q⟩ := I.cell x c e
    exact absurd (Nat.lt_of_lt_of_le q.lt (by rw [z]; exact hb)) (Nat.lt_irrefl _)
  · exact absurd (Nat.lt_of_lt_of_le (Heap.lt_size (I.pin p hp).1) (by rw [z]; exact hb)) (Nat.lt_irrefl _)
structure Turn (P : Program) (w : World) (K : PySem.W.Frag) (tg : Expr) (J : It) (fp : List Addr) (it : Addr) (tn : Nat → Heap → Prop) : Prop where
  mem : it ∈ fp
  obj : ∀ i h, tn i h → ∀ b ∈ fp, ∃ o, h.get? b = some o ∧ ∀ v, o.data ≠ .cell v
  keep : ∀ i h h', tn i h → (∀ b ∈ fp, ∀ o, h.get? b = some o → h'.get? b = some o) → tn i h'
  item : ∀ (X : Cx), X.prog = P → X.w = w → X.K = K → X.calm = true → ∀ (i : Nat) (pins : List (Addr × Obj)) (s : Shared) (σ : St) (H : Hp) (E : Value → Shared → Prop), Inv X pins σ H s → (∀ b ∈ fp, FpOk X pins H b) → tn i s.heap → J.go i H →
    wpAny (model P w) X.A (pyNext (.ref it)) (fun r s1 => ∃ u, r = some u ∧
      wpAny (model P w) X.A (letOwnedTupleGo tg (.ref it) u) (fun _ s2 => ∃ x H', Inv X pins σ H' s2 ∧ RelV x u ∧ J.yld i H x H' ∧ tn (i + 1) s2.heap ∧ ∀ b ∈ fp, H' b = none) E s1) E s
  done : ∀ (X : Cx), X.prog = P → X.w = w → X.K = K → X.calm = true → ∀ (i : Nat) (pins : List (Addr × Obj)) (s : Shared) (σ : St) (H : Hp) (E : Value → Shared → Prop), Inv X pins σ H s → (∀ b ∈ fp, FpOk X pins H b) → tn i s.heap → J.stop i H →
    wpAny (model P w) X.A (pyNext (.ref it)) (fun r s1 => r = none ∧ Inv X pins σ H s1) E s
  self : ∀ (A : Around) (i : Nat) (s : Shared) (Q : Value → Shared → Prop) (E : Value → Shared → Prop), tn i s.heap → Q (.ref it) s → wpAny (model P w) A (pyIter (.ref it)) Q E s
noncomputable abbrev TI := St → Hp → (It → Hp → Prop) → Prop
noncomputable def PIE (X : Cx) (pins : List (Addr × Obj)) (σ : St) (tg : Expr) (R : It → Hp → Prop) (itv : Value) (s2 : Shared) : Prop :=
  ∃ (it : Addr) (fp : List Addr) (tn : Nat → Heap → Prop) (J : It) (H' : Hp), itv = .ref it ∧ Inv X pins σ H' s2 ∧ Turn X.prog X.w X.K tg J fp it tn ∧ tn 0 s2.heap ∧ (∀ b ∈ fp, FpOk X pins H' b) ∧ R J H'
noncomputable def PI (X : Cx) (tg iter : Expr) (wi : TI) : Prop :=
  ∀ (pins : List (Addr × Obj)) (s : Shared) (σ : St) (H : Hp) (R : It → Hp → Prop), Inv X pins σ H s → wi σ H R →
    wpAny (model X.prog X.w) X.A (eval iter X.env) (fun v s1 => wpAny (model X.prog X.w) X.A (pyIter v) (PIE X pins σ tg R) X.xe s1) X.xe s
theorem go_of {M : Model} {A : Around} {E : Value → Shared → Prop} {s : Shared} {tg : Expr} {it : Addr} {u : Value} {o : Obj} {n : String} {vs : Array Value} {Q : Unit → Shared → Prop} (ho : s.heap.get? it = some o) (hc : o.cls = .type n) (hd : o.data = .fields vs)
    (hn : ["enumerate", "zip", "dict_itemiterator", "dict_reverseitemiterator", "odict_iterator", "itertools.zip_longest", "itertools.pairwise"].contains n = false) (hQ : Q () s) : wpAny M A (letOwnedTupleGo tg (.ref it) u) Q E s := by
  unfold letOwnedTupleGo
  cases tg <;> first
    | exact wpAny_pure hQ
    | (cases u <;> first
        | exact wpAny_pure hQ
        | (refine wpAny_bind (wpAny_load ho ?_)
           rw [hc, hd]
           show wpAny M A (if (["enumerate", "zip", "dict_itemiterator", "dict_reverseitemiterator", "odict_iterator", "itertools.zip_longest", "itertools.pairwise"].contains n && vs[0]? == some (rawInt _)) = true then _ else _) Q E s
           rw [if_neg (by intro h; rw [hn, Bool.false_and] at h; cases h)]
           exact wpAny_pure hQ))
noncomputable def Itl (K : PySem.W.Frag) (a : Addr) : It :=
  ⟨fun i H => ∃ xs x, SqL K H a xs ∧ xs[i]? = some x, fun i H x H' => H' = H ∧ ∀ xs, SqL K H a xs → xs[i]? = some x, fun i H => ∃ xs, SqL K H a xs ∧ xs.length ≤ i⟩
noncomputable def Itt (K : PySem.W.Frag) (a : Addr) : It :=
  ⟨fun i H => ∃ xs x, SqT K H a xs ∧ xs[i]? = some x, fun i H x H' => H' = H ∧ ∀ xs, SqT K H a xs → xs[i]? = some x, fun i H => ∃ xs, SqT K H a xs ∧ xs.length ≤ i⟩
noncomputable def Itr (lo : Int) (n : Nat) : It := ⟨fun i _ => i < n, fun i H x H' => H' = H ∧ x = .int (lo + i), fun i _ => n ≤ i⟩
theorem turn_list {P : Program} {w : World} {K : PySem.W.Frag} {tg : Expr} (a it : Addr) : Turn P w K tg (Itl K a) [it] it (fun i h => h.IsListIter it a i) where
  mem := by simp
  obj := fun i h st b hb => by
    have e : b = it := by simpa using hb
    subst e
    obtain ⟨o, e, c, d⟩ := st
    exact ⟨o, e, fun v z => by rw [d] at z; cases z⟩
  keep := fun i h h' st k => st.at fun o e => k it (by simp) o e
  item := by
    intro X hP hw hK hc i pins s σ H E I hf st hg
    subst hP hw hK
    obtain ⟨xs, x, hq, hx⟩ := hg
    obtain ⟨its, rv, p, hz⟩ := I.list hq
    obtain ⟨u, hu, ru⟩ := rv.get hx
    obtain ⟨f0, f1, f2, f3, f4, f5⟩ := hf it (by simp)
    refine wpAny_pyNext_list_item st p.isList (x := u) (by simpa using hu) fun h' st' sb => ?_
    have I1 : Inv X pins σ H { s with heap := h' } := I.turned (t' := s.toks) (fun b o hb e => (sb.2 b hb).trans e) f0 f1 f3 f4 f5
    obtain ⟨o, e, c, d⟩ := id st'
    exact ⟨u, rfl, go_of (s := { s with heap := h' }) e c d (by decide) ⟨x, H, I1, ru, ⟨rfl, fun ys hy => by rw [I.list_inj hy hq]; exact hx⟩, st', fun b hb => (hf b hb).1⟩⟩
  done := by
    intro X hP hw hK hc i pins s σ H E I hf st hg
    subst hP hw hK
    obtain ⟨xs, hq, hx⟩ := hg
    obtain ⟨its, rv, p, hz⟩ := I.list hq
    obtain ⟨f0, f1, f2, f3, f4, f5⟩ := hf it (by simp)
    have hl := rv.length
    exact wpAny_pyNext_list_end (I.ok.hd hc) st p.isList (by simp; omega) fun h' eb => ⟨rfl, I.turned (t' := s.toks) (fun b o hb e => eb b o hb e) f0 f1 f3 f4 f5⟩
  self := fun _ _ _ _ _ st h => wpAny_pyIter_listiter st h
theorem turn_tuple {P : Program} {w : World} {K : PySem.W.Frag} {tg : Expr} (a it : Addr) : Turn P w K tg (Itt K a) [it] it (fun i h => h.IsTupleIter it a i) where
  mem := by simp
  obj := fun i h st b hb => by
    have e : b = it := by simpa using hb
    subst e
    obtain ⟨o, e, c, d⟩ := st
    exact ⟨o, e, fun v z => by rw [d] at z; cases z⟩
  keep := fun i h h' st k => st.at fun o e => k it (by simp) o e
  item := by
    intro X hP hw hK hc i pins s σ H E I hf st hg
    subst hP hw hK
    obtain ⟨xs, x, hq, hx⟩ := hg
    obtain ⟨its, rv, p, hz⟩ := I.tuple hq
    obtain ⟨u, hu, ru⟩ := rv.get hx
    obtain ⟨f0, f1, f2, f3, f4, f5⟩ := hf it (by simp)
    refine wpAny_pyNext_tuple_item st (show s.heap.IsTuple a its.toArray from p) (x := u) (by simpa using hu) fun h' st' sb => ?_
    have I1 : Inv X pins σ H { s with heap := h' } := I.turned (t' := s.toks) (fun b o hb e => (sb.2 b hb).trans e) f0 f1 f3 f4 f5
    obtain ⟨o, e, c, d⟩ := id st'
    exact ⟨u, rfl, go_of (s := { s with heap := h' }) e c d (by decide) ⟨x, H, I1, ru, ⟨rfl, fun ys hy => by rw [I.tuple_inj hy hq]; exact hx⟩, st', fun b hb => (hf b hb).1⟩⟩
  done := by
    intro X hP hw hK hc i pins s σ H E I hf st hg
    subst hP hw hK
    obtain ⟨xs, hq, hx⟩ := hg
    obtain ⟨its, rv, p, hz⟩ := I.tuple hq
    obtain ⟨f0, f1, f2, f3, f4, f5⟩ := hf it (by simp)
    have hl := rv.length
    exact wpAny_pyNext_tuple_end (I.ok.hd hc) st (show s.heap.IsTuple a its.toArray from p) (by simp; omega) fun h' eb => ⟨rfl, I.turned (t' := s.toks) (fun b o hb e => eb b o hb e) f0 f1 f3 f4 f5⟩
  self := fun _ _ _ _ _ st h => wpAny_pyIter_tupleiter st h
theorem turn_range {P : Program} {w : World} {K : PySem.W.Frag} {tg : Expr} (it : Addr) (lo : Int) (n : Nat) : Turn P w K tg (Itr lo n) [it] it (fun i h => IsRangeIter h it (lo + (i : Nat) * 1) ((n : Int) - (i : Nat)) 1) where
  mem := by simp
  obj := fun i h st b hb => by
    have e : b = it := by simpa using hb
    subst e
    exact ⟨_, st, fun v z => by
      have z' : Data.fields _ = Data.cell v := z
      cases z'⟩
  keep := fun i h h' st k => k it (by simp) _ st
  item := by
    intro X hP hw hK hc i pins s σ H E I hf st hg
    subst hP hw hK
    obtain ⟨f0, f1, f2, f3, f4, f5⟩ := hf it (by simp)
    have W := Walks.range (prog := X.prog) (w := X.w) (I.ok.hd hc) it lo 1 n
    refine W.item i s _ _ hg st fun v h' tk hv st' kk => ?_
    obtain ⟨t, rfl⟩ := hv
    have I1 : Inv X pins σ H { s with heap := h', toks := tk } := I.turned (fun b o hb e => kk b o (by simpa using hb) e) f0 f1 f3 f4 f5
    refine ⟨_, rfl, go_of (s := { s with heap := h', toks := tk }) (n := "range_iterator") st' rfl rfl (by decide) ⟨.int (lo + i), H, I1, ⟨t, ?_⟩, ⟨rfl, rfl⟩, st', fun b hb => (hf b hb).1⟩⟩
    rw [Int.mul_one]
  done := by
    intro X hP hw hK hc i pins s σ H E I hf st hg
    subst hP hw hK
    obtain ⟨f0, f1, f2, f3, f4, f5⟩ := hf it (by simp)
    exact wpAny_pyNext_range_end (I.ok.hd hc) st (by have : n ≤ i := hg; omega) fun h' eb => ⟨rfl, I.turned (t' := s.toks) (fun b o hb e => eb b o hb e) f0 f1 f3 f4 f5⟩
  self := fun _ _ _ _ _ st h => wpAny_pyIter_rangeiter st h
end L2
namespace L2
open PySem PySem.Spec PyProof.Rows
section
variable {X : Cx} {tg : Expr}
noncomputable def iList (K : PySem.W.Frag) (tl : TE) : TI := fun σ H R => tl σ H fun x H1 => ∃ a, x = .ref a ∧ (∃ xs, SqL K H1 a xs) ∧ R (Itl K a) H1
noncomputable def iTup (K : PySem.W.Frag) (tl : TE) : TI := fun σ H R => tl σ H fun x H1 => ∃ a, x = .ref a ∧ (∃ xs, SqT K H1 a xs) ∧ R (Itt K a) H1
theorem pi_list {l : Expr} {tl : TE} (hl : PE X l tl) : PI X tg l (iList X.K tl) := by
  intro pins s σ H R I h
  refine thn (hl pins s σ H _ I h) fun v s1 hq__ => ?_
  obtain ⟨x, H1, I1, r1, q1⟩ := hq__
  obtain ⟨a, e, ⟨xs, hq⟩, q⟩ := q1
  subst e
  cases r1
  obtain ⟨its, rv, p, hz⟩ := I1.list hq
  refine wpAny_pyIter_list p.isList ?_
  refine ⟨s1.heap.objs.size, [s1.heap.objs.size], _, _, H1, rfl, I1.kept (t' := s1.toks) fun b o e => Heap.get?_push_of_some _ e, turn_list a _, ⟨_, Heap.get?_push_size _ rfl, rfl, rfl⟩, fun b hb => ?_, q⟩
  have e : b = s1.heap.objs.size := by simpa using hb
  subst e
  exact I1.fpOk (Nat.le_refl _) (I1.hok.fresh (Nat.le_refl _))
theorem pi_tup {l : Expr} {tl : TE} (hl : PE X l tl) : PI X tg l (iTup X.K tl) := by
  intro pins s σ H R I h
  refine thn (hl pins s σ H _ I h) fun v s1 hq__ => ?_
  obtain ⟨x, H1, I1, r1, q1⟩ := hq__
  obtain ⟨a, e, ⟨xs, hq⟩, q⟩ := q1
  subst e
  cases r1
  obtain ⟨its, rv, p, hz⟩ := I1.tuple hq
  refine wpAny_pyIter_tuple (show s1.heap.IsTuple a its.toArray from p) ?_
  refine ⟨s1.heap.objs.size, [s1.heap.objs.size], _, _, H1, rfl, I1.kept (t' := s1.toks) fun b o e => Heap.get?_push_of_some _ e, turn_tuple a _, ⟨_, Heap.get?_push_size _ rfl, rfl, rfl⟩, fun b hb => ?_, q⟩
  have e : b = s1.heap.objs.size := by simpa using hb
  subst e
  exact I1.fpOk (Nat.le_refl _) (I1.hok.fresh (Nat.le_refl _))
theorem range_it {pins : List (Addr × Obj)} {σ : St} {H : Hp} {s : Shared} {R : It → Hp → Prop} {E : Value → Shared → Prop} {lo hi : Int} {t u v : Tok} {tk : Nat} (I : Inv X pins σ H s) (h1 : -(2 ^ 62) ≤ lo) (h2 : lo < 2 ^ 62) (h3 : -(2 ^ 62) ≤ hi) (h4 : hi < 2 ^ 62)
    (q : R (Itr lo (hi - lo).toNat) H) : wpAny (model X.prog X.w) X.A (pyIter (.ref s.heap.objs.size)) (PIE X pins σ tg R) E { s with heap := s.heap.push { cls := .type "range", data := .fields #[.int lo t, .int hi u, .int 1 v] }, toks := tk } := by
  refine wpAny_pyIter_range (IsRange.new ..) (small_one h1 h2 h3 h4) ?_
  have I1 : Inv X pins σ H { s with heap := s.heap.push { cls := .type "range", data := .fields #[.int lo t, .int hi u, .int 1 v] }, toks := tk } := I.kept fun b o e => Heap.get?_push_of_some _ e
  refine ⟨(s.heap.push { cls := .type "range", data := .fields #[.int lo t, .int hi u, .int 1 v] }).objs.size, [(s.heap.push { cls := .type "range", data := .fields #[.int lo t, .int hi u, .int 1 v] }).objs.size], _, _, H, rfl,
    I1.kept (t' := tk) fun b o e => Heap.get?_push_of_some _ e, turn_range _ lo (hi - lo).toNat, ?_, fun b hb => ?_, q⟩
  · have e1 : lo + ((0 : Nat) : Int) * 1 = lo := by simp
    have e2 : (((hi - lo).toNat : Nat) : Int) - ((0 : Nat) : Int) = Builtin.Range.rangeSize lo hi 1 := by rw [rangeSize_one]; split <;> omega
    show IsRangeIter _ _ (lo + ((0 : Nat) : Int) * 1) ((((hi - lo).toNat : Nat) : Int) - ((0 : Nat) : Int)) 1
    rw [e1, e2]
    exact Heap.get?_push_size _ rfl
  · have e : b = (s.heap.push { cls := .type "range", data := .fields #[.int lo t, .int hi u, .int 1 v] }).objs.size := by simpa using hb
    subst e
    exact I1.fpOk (Nat.le_refl _) (I1.hok.fresh (Nat.le_refl _))
noncomputable def iRng1 (ta : TA) : TI := fun σ H R => ta σ H fun vs H1 => ∃ j : Int, vs = [.int j] ∧ -(2 ^ 62) ≤ j ∧ j < 2 ^ 62 ∧ R (Itr 0 j.toNat) H1
theorem pi_range1 {a : Expr} {ta : TA} {p pos : Pos} (hg : Gl X "range") (hm : X.mg "range" = none) (ha : PA X [a] ta) (hs : starEach [a] X.env = [(false, eval a X.env)] := by rfl) : PI X tg (.Call (.Name "range" p) [a] [] pos) (iRng1 ta) := by
  intro pins s σ H R I h
  refine Call_ (ld_blt I hg hm boot_range (PyProof.Rows.callWith_type1 (thn (ha pos pins s σ H _ I h) fun us s1 ⟨vs, H1, I1, r1, q1⟩ => ?_) hs rfl))
  obtain ⟨j, e, q1, q2, q⟩ := q1
  subst e
  cases r1 with
  | cons r rr =>
    cases rr
    obtain ⟨t, rfl⟩ := r
    exact call_range_1 (range_it I1 (by omega) (by omega) q1 q2 (by simpa using q))
noncomputable def tFor (wi : TI) (g : TG) (tb : TS) : TS := fun D σ H => wi σ H fun J H1 => ∃ W : Nat → Nat → St → Hp → Prop, (∃ m, W 0 m σ H1) ∧ ∀ i m σ H, W i m σ H →
  (J.stop i H ∧ D.nx σ H) ∨ (J.go i H ∧ ∃ N : St → Hp → Prop, (∀ σ' H', N σ' H' → ∃ m', m' < m ∧ W (i + 1) m' σ' H') ∧ ∀ x H', J.yld i H x H' → g x σ H' fun σ2 H2 => tb { D with nx := N, ct := N, bk := D.nx } σ2 H2)
noncomputable def pinsAt (fp : List Addr) (h : Heap) : List (Addr × Obj) := fp.filterMap fun b => (h.get? b).map fun o => (b, o)
theorem mem_pinsAt {fp : List Addr} {h : Heap} {b : Addr} {o : Obj} (hb : b ∈ fp) (e : h.get? b = some o) : (b, o) ∈ pinsAt fp h := List.mem_filterMap.mpr ⟨b, hb, by rw [e]; rfl⟩
theorem of_pinsAt {fp : List Addr} {h : Heap} {p : Addr × Obj} (hp : p ∈ pinsAt fp h) : p.1 ∈ fp ∧ h.get? p.1 = some p.2 := by
  obtain ⟨b, hb, e⟩ := List.mem_filterMap.mp hp
  cases q : h.get? b with
  | none => rw [q] at e; cases e
  | some o =>
    rw [q] at e
    have e' : (b, o) = p := Option.some.inj e
    subst e'
    exact ⟨hb, q⟩
theorem Inv.pinned {pins : List (Addr × Obj)} {σ : St} {H : Hp} {s : Shared} {fp : List Addr} (I : Inv X pins σ H s) (hf : ∀ b ∈ fp, FpOk X pins H b) (ho : ∀ b ∈ fp, ∃ o, s.heap.get? b = some o ∧ ∀ v, o.data ≠ .cell v) : Inv X (pins ++ pinsAt fp s.heap) σ H s :=
  I.pins_of fun p hp => (List.mem_append.mp hp).elim (fun z => I.pin p (List.mem_append_right _ z)) fun z => by
    obtain ⟨hb, e⟩ := of_pinsAt z
    obtain ⟨f0, f1, f2, _⟩ := hf p.1 hb
    obtain ⟨o, e', d⟩ := ho p.1 hb
    rw [e] at e'; cases e'
    exact ⟨e, f0, f1, f2, d⟩
theorem Inv.unpinned {pins pl : List (Addr × Obj)} {σ : St} {H : Hp} {s : Shared} (I : Inv X (pins ++ pl) σ H s) : Inv X pins σ H s := I.pins_of fun p hp => I.pin p (List.mem_append_right _ (List.mem_append_left _ hp))
theorem ps_for {iter : Expr} {body : List Stmt} {wi : TI} {g : TG} {tb : TS} {pos : Pos} (hp : PassesOwn (model X.prog X.w) X.A X.env X.xe) (hc : X.calm = true) (hi : PI X tg iter wi) (hg : PG X tg g) (hb : PSs X body tb)
    (hs : ∀ x, foldedSetIterable iter X.env x = pure x := by intro _; rfl) : PS X (.For tg iter body [] pos) (tFor wi g tb) := by
  intro pins s σ H D I h
  refine wpAny_For (thn (hi pins s σ H _ I h) fun v s1 h1 => thn h1 fun itv s2 h2 => ?_) hs
  obtain ⟨it, fp, tn, J, H2, e, I2, T, st2, f2, W, ⟨m0, w0⟩, turn⟩ := h2
  subst e
  have stat : ∀ {H' : Hp}, (∀ b ∈ fp, H' b = none) → ∀ b ∈ fp, FpOk X pins H' b := fun hn b hb => ⟨hn b hb, (f2 b hb).2⟩
  refine codeAny_forLoop_any (fun n s' => ∃ i σ' H', Inv X pins σ' H' s' ∧ tn i s'.heap ∧ (∀ b ∈ fp, H' b = none) ∧ W i n σ' H') ?_ m0 ⟨0, σ, H2, I2, st2, fun b hb => (f2 b hb).1, w0⟩
  rintro n s3 ⟨i, σ3, H3, I3, st3, fr3, w3⟩
  rcases turn i n σ3 H3 w3 with ⟨stop, qn⟩ | ⟨go, N, hN, step⟩
  · refine wpAny_passesOwn hp (thn (T.done X rfl rfl rfl hc i pins s3 σ3 H3 X.xe I3 (stat fr3) st3 stop) fun r s4 hq__ => ?_)
    obtain ⟨hr, I4⟩ := hq__
    subst hr
    exact wpAny_execs_nil ⟨σ3, H3, I4, qn⟩
  · refine wpAny_passesOwn hp (thn (T.item X rfl rfl rfl hc i pins s3 σ3 H3 X.xe I3 (stat fr3) st3 go) fun r s4 hq__ => ?_)
    obtain ⟨u, hr, h4⟩ := hq__
    subst hr
    refine wpAny_passesOwn hp (thn h4 fun _ s5 hq__ => ?_)
    obtain ⟨x, H5, I5, r5, y5, st5, fr5⟩ := hq__
    have I5' := I5.pinned (stat fr5) (T.obj _ _ st5)
    refine wpAny_passesOwn hp (thn (hg _ s5 σ3 H5 x u _ I5' r5 (step x H5 y5)) fun _ s6 hq__ => ?_)
    obtain ⟨σ6, H6, I6, q6⟩ := hq__
    refine wpAny_passesOwn hp (thn (hb _ s6 σ6 H6 _ I6 q6) fun f s7 q7 => ?_)
    have again : ∀ {σ7 : St} {H7 : Hp}, Inv X (pins ++ pinsAt fp s5.heap) σ7 H7 s7 → N σ7 H7 → ∃ m, m < n ∧ ∃ i σ' H', Inv X pins σ' H' s7 ∧ tn i s7.heap ∧ (∀ b ∈ fp, H' b = none) ∧ W i m σ' H' := fun {σ7 H7} I7 n7 => by
      obtain ⟨m', hm, w7⟩ := hN σ7 H7 n7
      refine ⟨m', hm, i + 1, σ7, H7, I7.unpinned, T.keep _ _ _ st5 fun b hb o e => (I7.pin (b, o) (List.mem_append_right _ (List.mem_append_right _ (mem_pinsAt hb e)))).1, fun b hb => ?_, w7⟩
      obtain ⟨o, e, d⟩ := T.obj _ _ st5 b hb
      exact (I7.pin (b, o) (List.mem_append_right _ (List.mem_append_right _ (mem_pinsAt hb e)))).2.1
    cases f with
    | next => obtain ⟨σ7, H7, I7, n7⟩ := q7; exact again I7 n7
    | cont => obtain ⟨σ7, H7, I7, n7⟩ := q7; exact again I7 n7
    | brk => obtain ⟨σ7, H7, I7, q7⟩ := q7; exact ⟨σ7, H7, I7.unpinned, q7⟩
    | ret v => obtain ⟨x7, σ7, H7, I7, r7, q7⟩ := q7; exact ⟨x7, σ7, H7, I7.unpinned, r7, q7⟩
end
theorem for_list {K : PySem.W.Frag} {a : Addr} {xs : List V} {g : TG} {tb : TS} {D : Ends} {σ : St} {H : Hp} (Pv : Nat → St → Hp → Prop) (h0 : Pv 0 σ H) (hl : ∀ i σ H, i ≤ xs.length → Pv i σ H → SqL K H a xs)
    (hs : ∀ i x σ H, xs[i]? = some x → Pv i σ H → g x σ H fun σ2 H2 => tb { D with nx := Pv (i + 1), ct := Pv (i + 1), bk := D.nx } σ2 H2) (hd : ∀ σ H, Pv xs.length σ H → D.nx σ H) :
    ∃ W : Nat → Nat → St → Hp → Prop, (∃ m, W 0 m σ H) ∧ ∀ i m σ H, W i m σ H →
      ((Itl K a).stop i H ∧ D.nx σ H) ∨ ((Itl K a).go i H ∧ ∃ N : St → Hp → Prop, (∀ σ' H', N σ' H' → ∃ m', m' < m ∧ W (i + 1) m' σ' H') ∧ ∀ x H', (Itl K a).yld i H x H' → g x σ H' fun σ2 H2 => tb { D with nx := N, ct := N, bk := D.nx } σ2 H2) := by
  refine ⟨fun i m σ H => m = xs.length - i ∧ i ≤ xs.length ∧ Pv i σ H, ⟨xs.length, by simp, Nat.zero_le _, h0⟩, ?_⟩
  rintro i m σ H ⟨rfl, hi, p⟩
  have q := hl i σ H hi p
  by_cases hlt : i < xs.length
  · refine .inr ⟨⟨xs, xs[i], q, by simp [hlt]⟩, Pv (i + 1), fun σ' H' p' => ⟨xs.length - (i + 1), by omega, rfl, hlt, p'⟩, fun x H' y => ?_⟩
    obtain ⟨e, y⟩ := y
    subst e
    exact hs i x σ _ (y xs q) p
  · have e : i = xs.length := by omega
    subst e
    exact .inl ⟨⟨xs, q, Nat.le_refl _⟩, hd σ H p⟩
theorem for_range {lo : Int} {n : Nat} {g : TG} {tb : TS} {D : Ends} {σ : St} {H : Hp} (Pv : Nat → St → Hp → Prop) (h0 : Pv 0 σ H)
    (hs : ∀ i σ H, i < n → Pv i σ H → g (.int (lo + i)) σ H fun σ2 H2 => tb { D with nx := Pv (i + 1), ct := Pv (i + 1), bk := D.nx } σ2 H2) (hd : ∀ σ H, Pv n σ H → D.nx σ H) :
    ∃ W : Nat → Nat → St → Hp → Prop, (∃ m, W 0 m σ H) ∧ ∀ i m σ H, W i m σ H →
      ((Itr lo n).stop i H ∧ D.nx σ H) ∨ ((Itr lo n).go i H ∧ ∃ N : St → Hp → Prop, (∀ σ' H', N σ' H' → ∃ m', m' < m ∧ W (i + 1) m' σ' H') ∧ ∀ x H', (Itr lo n).yld i H x H' → g x σ H' fun σ2 H2 => tb { D with nx := N, ct := N, bk := D.nx } σ2 H2) := by
  refine ⟨fun i m σ H => m = n - i ∧ i ≤ n ∧ Pv i σ H, ⟨n, by simp, Nat.zero_le _, h0⟩, ?_⟩
  rintro i m σ H ⟨rfl, hi, p⟩
  by_cases hlt : i < n
  · refine .inr ⟨hlt, Pv (i + 1), fun σ' H' p' => ⟨n - (i + 1), by omega, rfl, hlt, p'⟩, fun x H' y => ?_⟩
    obtain ⟨e, y⟩ := y
    subst e y
    exact hs i σ _ hlt p
  · have e : i = n := by omega
    subst e
    exact .inl ⟨Nat.le_refl _, hd σ H p⟩
end L2
namespace L2
open PySem PySem.Spec PyProof.Rows
noncomputable abbrev R2 := V → V → Hp → VK → Prop
noncomputable def OpR (X : Cx) (f : Value → Value → Sem Value) (r : R2) : Prop :=
  ∀ (pins : List (Addr × Obj)) (s : Shared) (σ : St) (H : Hp) (x y : V) (v u : Value) (Q : VK), Inv X pins σ H s → RelV x v → RelV y u → r x y H Q →
    wpAny (model X.prog X.w) X.A (f v u) (EP X pins σ Q) X.xe s
noncomputable def UnR (X : Cx) (f : Value → Sem Value) (r : V → Hp → VK → Prop) : Prop :=
  ∀ (pins : List (Addr × Obj)) (s : Shared) (σ : St) (H : Hp) (x : V) (v : Value) (Q : VK), Inv X pins σ H s → RelV x v → r x H Q →
    wpAny (model X.prog X.w) X.A (f v) (EP X pins σ Q) X.xe s
noncomputable def CallR (X : Cx) (f : Value) (r : List V → Hp → VK → Prop) : Prop :=
  ∀ (pins : List (Addr × Obj)) (s : Shared) (σ : St) (H : Hp) (xs : List V) (us : List Value) (Q : VK), Inv X pins σ H s → Vals xs us → r xs H Q →
    wpAny (model X.prog X.w) X.A (call f us) (EP X pins σ Q) X.xe s
noncomputable def TruR (X : Cx) (r : V → Hp → (Bool → Hp → Prop) → Prop) : Prop :=
  ∀ (pins : List (Addr × Obj)) (s : Shared) (σ : St) (H : Hp) (x : V) (v : Value) (Q : Bool → Hp → Prop), Inv X pins σ H s → RelV x v → r x H Q →
    wpAny (model X.prog X.w) X.A (truthy v) (TP X pins σ Q) X.xe s
noncomputable def tOp (r : R2) (ta tb : TE) : TE := fun σ H Q => ta σ H fun x H1 => tb σ H1 fun y H2 => r x y H2 Q
noncomputable def rI (C : Int → Int → Prop) (g : Int → Int → V) : R2 := fun x y H Q => ∃ i j, x = .int i ∧ y = .int j ∧ C i j ∧ Q (g i j) H
noncomputable def rI0 (g : Int → Int → V) : R2 := fun x y H Q => ∃ i j, x = .int i ∧ y = .int j ∧ Q (g i j) H
section
variable {X : Cx} {a b c : Expr} {ta tb tc : TE} {pos : Pos}
theorem binT (ha : PE X a ta) (hb : PE X b tb) {pins : List (Addr × Obj)} {s : Shared} {σ : St} {H : Hp} {R : V → V → Hp → Prop} (I : Inv X pins σ H s)
    (h : ta σ H fun x H1 => tb σ H1 fun y H2 => R x y H2) {Q : Value → Shared → Prop} {f : Value → Value → Sem Value}
    (hf : ∀ v u s2 x y H2, Inv X pins σ H2 s2 → RelV x v → RelV y u → R x y H2 → wpAny (model X.prog X.w) X.A (f v u) Q X.xe s2) :
    wpAny (model X.prog X.w) X.A (eval a X.env) (fun v s₁ => wpAny (model X.prog X.w) X.A (eval b X.env) (fun u s₂ => wpAny (model X.prog X.w) X.A (f v u) Q X.xe s₂) X.xe s₁) X.xe s := by
  refine thn (ha pins s σ H _ I h) fun v s1 hq__ => ?_
  obtain ⟨x, H1, I1, r1, q1⟩ := hq__
  refine thn (hb pins s1 σ H1 _ I1 q1) fun u s2 hq__ => ?_
  obtain ⟨y, H2, I2, r2, q2⟩ := hq__
  exact hf v u s2 x y H2 I2 r1 r2 q2
theorem pe_op {op : Operator} {r : R2} (ho : OpR X (binaryOp op) r) (ha : PE X a ta) (hb : PE X b tb) : PE X (.BinOp a op b pos) (tOp r ta tb) := by
  intro pins s σ H Q I h
  exact wpAny_BinOp (binT ha hb I h fun v u s2 x y H2 I2 rx ry q => ho pins s2 σ H2 x y v u Q I2 rx ry q)
theorem opI {f : Value → Value → Sem Value} {C : Int → Int → Prop} {g : Int → Int → Int}
    (rule : ∀ (i j : Int) (t u : Tok) (s : Shared) (Q : Value → Shared → Prop) (E : Value → Shared → Prop), C i j → Q (.int (g i j) s.toks) { s with toks := s.toks + 1 } → wpAny (model X.prog X.w) X.A (f (.int i t) (.int j u)) Q E s) :
    OpR X f (rI C fun i j => .int (g i j)) := by
  intro pins s σ H x y v u Q I rx ry h
  obtain ⟨i, j, rfl, rfl, hc, q⟩ := h
  obtain ⟨t, rfl⟩ := rx
  obtain ⟨t', rfl⟩ := ry
  exact rule i j t t' s _ _ hc ⟨.int (g i j), H, I.tok _, ⟨_, rfl⟩, q⟩
theorem opI0 {f : Value → Value → Sem Value} {g : Int → Int → Int}
    (rule : ∀ (i j : Int) (t u : Tok) (s : Shared) (Q : Value → Shared → Prop) (E : Value → Shared → Prop), Q (.int (g i j) s.toks) { s with toks := s.toks + 1 } → wpAny (model X.prog X.w) X.A (f (.int i t) (.int j u)) Q E s) :
    OpR X f (rI0 fun i j => .int (g i j)) := by
  intro pins s σ H x y v u Q I rx ry h
  obtain ⟨i, j, rfl, rfl, q⟩ := h
  obtain ⟨t, rfl⟩ := rx
  obtain ⟨t', rfl⟩ := ry
  exact rule i j t t' s _ _ ⟨.int (g i j), H, I.tok _, ⟨_, rfl⟩, q⟩
theorem opB0 {f : Value → Value → Sem Value} {g : Int → Int → Bool}
    (rule : ∀ (i j : Int) (t u : Tok) (s : Shared) (Q : Value → Shared → Prop) (E : Value → Shared → Prop), Q (.bool (g i j)) s → wpAny (model X.prog X.w) X.A (f (.int i t) (.int j u)) Q E s) :
    OpR X f (rI0 fun i j => .bl (g i j)) := by
  intro pins s σ H x y v u Q I rx ry h
  obtain ⟨i, j, rfl, rfl, q⟩ := h
  obtain ⟨t, rfl⟩ := rx
  obtain ⟨t', rfl⟩ := ry
  exact rule i j t t' s _ _ ⟨.bl (g i j), H, I, rfl, q⟩
noncomputable def CDiv (i j : Int) : Prop := 0 < j ∧ j < 1073741824
noncomputable def CPow (i j : Int) : Prop := 0 ≤ j ∧ j ≤ 1000000 ∧ i.natAbs < 2 ^ 64
noncomputable def CMul (i j : Int) : Prop := (-(2 ^ 64) < i ∧ i < 2 ^ 64) ∨ (-(2 ^ 64) < j ∧ j < 2 ^ 64)
theorem CMul.ok {i j : Int} (h : CMul i j) : IntMulOk i j := by
  rcases h with ⟨h1, h2⟩ | ⟨h1, h2⟩
  · exact .of_left (intBits_le_64 h1 h2)
  · exact .of_right (intBits_le_64 h1 h2)
theorem op_add : OpR X (binaryOp .Add) (rI0 fun i j => .int (i + j)) := opI0 fun _ _ _ _ _ _ _ q => add_int q
theorem op_sub : OpR X (binaryOp .Sub) (rI0 fun i j => .int (i - j)) := opI0 fun _ _ _ _ _ _ _ q => sub_int q
theorem op_mul : OpR X (binaryOp .Mult) (rI CMul fun i j => .int (i * j)) := opI fun _ _ _ _ _ _ _ hc q => mul_int q hc.ok
theorem op_fdiv : OpR X (binaryOp .FloorDiv) (rI CDiv fun i j => .int (i / j)) := opI fun i j _ _ _ _ _ hc q => by
  have h1 : (0 : Int) < j := hc.1
  have h2 : j < 1073741824 := hc.2
  exact floordiv_int (by omega) (by rw [Int.fdiv_eq_ediv_of_nonneg i (by omega)]; exact q) (.inl (PyProof.noPylong_small (by omega)))
theorem op_mod : OpR X (binaryOp .Mod) (rI (fun _ j => 0 < j) fun i j => .int (i % j)) := opI fun i j _ _ _ _ _ hc q => by
  have h1 : (0 : Int) < j := hc
  exact mod_int' (by omega) (by rw [Int.fmod_eq_emod_of_nonneg i (by omega)]; exact q)
theorem op_pow : OpR X (binaryOp .Pow) (rI CPow fun i j => .int (i ^ j.toNat)) := opI fun _ _ _ _ _ _ _ hc q => pow_int_small hc.1 hc.2.1 hc.2.2 q
end
noncomputable def scal : V → V → Bool
  | .non, .non => true | .non, .int _ => true | .int _, .non => true | .non, .bl _ => true | .bl _, .non => true | .non, .str _ => true | .str _, .non => true
  | .int _, .int _ => true | .bl _, .bl _ => true | .str _, .str _ => true | .byt _, .byt _ => true
  | .int _, .str _ => true | .str _, .int _ => true | .bl _, .str _ => true | .str _, .bl _ => true
  | _, _ => false
noncomputable def rEq : R2 := fun x y H Q => scal x y = true ∧ Q (.bl (decide (x = y))) H
noncomputable def rNe : R2 := fun x y H Q => scal x y = true ∧ Q (.bl (!decide (x = y))) H
theorem dec_int {i j : Int} : decide (V.int i = V.int j) = (i == j) := by
  rw [Bool.eq_iff_iff]
  simp
theorem dec_bl {i j : Bool} : decide (V.bl i = V.bl j) = (i == j) := by
  rw [Bool.eq_iff_iff]
  simp
theorem dec_str {i j : Str} : decide (V.str i = V.str j) = (i == j) := by
  rw [Bool.eq_iff_iff]
  simp
theorem dec_byt {i j : Array UInt8} : decide (V.byt i = V.byt j) = (i.toList == j.toList) := by
  rw [Bool.eq_iff_iff]
  cases i
  cases j
  simp
section
variable {X : Cx} {a b c : Expr} {ta tb tc : TE} {pos : Pos}
theorem fin_bl {pins : List (Addr × Obj)} {σ : St} {H : Hp} {s : Shared} {Q : VK} {k k' : Bool} (I : Inv X pins σ H s) (q : Q (.bl k) H) (e : k = k') : EP X pins σ Q (.bool k') s := by
  subst e
  exact ⟨.bl k, H, I, rfl, q⟩
theorem op_eq : OpR X (compareOp .Eq) rEq := by
  intro pins s σ H x y v u Q I rx ry h
  obtain ⟨hs, q⟩ := h
  cases x with
  | non =>
    cases rx
    cases y with
    | non => cases ry; exact PySem.EqNone.eq_none_none (fin_bl I q (by simp))
    | bl j => cases ry; exact PySem.EqNone.eq_none_bool (fin_bl I q (by simp))
    | int j => obtain ⟨t', rfl⟩ := ry; exact PySem.EqNone.eq_none_int (fin_bl I q (by simp))
    | str j => obtain ⟨t', rfl⟩ := ry; exact PySem.EqNone.eq_none_str (fin_bl I q (by simp))
    | _ => exact absurd (show false = true from hs) Bool.false_ne_true
  | bl i =>
    cases rx
    cases y with
    | non => cases ry; exact PySem.EqNone.eq_bool_none (fin_bl I q (by simp))
    | bl j => cases ry; exact eq_bool (fin_bl I q dec_bl)
    | str j => obtain ⟨t', rfl⟩ := ry; exact PySem.EqMixed.eq_bool_str (fin_bl I q (by simp))
    | _ => exact absurd (show false = true from hs) Bool.false_ne_true
  | int i =>
    obtain ⟨t, rfl⟩ := rx
    cases y with
    | non => cases ry; exact PySem.EqNone.eq_int_none (fin_bl I q (by simp))
    | int j => obtain ⟨t', rfl⟩ := ry; exact eq_int (fin_bl I q dec_int)
    | str j => obtain ⟨t', rfl⟩ := ry; exact PySem.EqMixed.eq_int_str (fin_bl I q (by simp))
    | _ => exact absurd (show false = true from hs) Bool.false_ne_true
  | str i =>
    obtain ⟨t, rfl⟩ := rx
    cases y with
    | non => cases ry; exact PySem.EqNone.eq_str_none (fin_bl I q (by simp))
    | bl j => cases ry; exact PySem.EqMixed.eq_str_bool (fin_bl I q (by simp))
    | int j => obtain ⟨t', rfl⟩ := ry; exact PySem.EqMixed.eq_str_int (fin_bl I q (by simp))
    | str j => obtain ⟨t', rfl⟩ := ry; exact eq_str (fin_bl I q dec_str)
    | _ => exact absurd (show false = true from hs) Bool.false_ne_true
  | byt i =>
    obtain ⟨t, rfl⟩ := rx
    cases y with
    | byt j => obtain ⟨t', rfl⟩ := ry; exact PySem.W.eq_bytes (fin_bl I q dec_byt)
    | _ => exact absurd (show false = true from hs) Bool.false_ne_true
  | _ => cases y <;> exact absurd (show false = true from hs) Bool.false_ne_true
theorem op_ne : OpR X (compareOp .NotEq) rNe := by
  intro pins s σ H x y v u Q I rx ry h
  obtain ⟨hs, q⟩ := h
  cases x with
  | non =>
    cases rx
    cases y with
    | non => cases ry; exact PySem.EqNone.ne_none_none (fin_bl I q (by simp))
    | bl j => cases ry; exact PySem.EqNone.ne_none_bool (fin_bl I q (by simp))
    | int j => obtain ⟨t', rfl⟩ := ry; exact PySem.EqNone.ne_none_int (fin_bl I q (by simp))
    | str j => obtain ⟨t', rfl⟩ := ry; exact PySem.EqNone.ne_none_str (fin_bl I q (by simp))
    | _ => exact absurd (show false = true from hs) Bool.false_ne_true
  | bl i =>
    cases rx
    cases y with
    | non => cases ry; exact PySem.EqNone.ne_bool_none (fin_bl I q (by simp))
    | bl j => cases ry; exact ne_bool (fin_bl I q (congrArg not dec_bl))
    | str j => obtain ⟨t', rfl⟩ := ry; exact PySem.EqMixed.ne_bool_str (fin_bl I q (by simp))
    | _ => exact absurd (show false = true from hs) Bool.false_ne_true
  | int i =>
    obtain ⟨t, rfl⟩ := rx
    cases y with
    | non => cases ry; exact PySem.EqNone.ne_int_none (fin_bl I q (by simp))
    | int j => obtain ⟨t', rfl⟩ := ry; exact ne_int (fin_bl I q (congrArg not dec_int))
    | str j => obtain ⟨t', rfl⟩ := ry; exact PySem.EqMixed.ne_int_str (fin_bl I q (by simp))
    | _ => exact absurd (show false = true from hs) Bool.false_ne_true
  | str i =>
    obtain ⟨t, rfl⟩ := rx
    cases y with
    | non => cases ry; exact PySem.EqNone.ne_str_none (fin_bl I q (by simp))
    | bl j => cases ry; exact PySem.EqMixed.ne_str_bool (fin_bl I q (by simp))
    | int j => obtain ⟨t', rfl⟩ := ry; exact PySem.EqMixed.ne_str_int (fin_bl I q (by simp))
    | str j => obtain ⟨t', rfl⟩ := ry; exact ne_str (fin_bl I q (congrArg not dec_str))
    | _ => exact absurd (show false = true from hs) Bool.false_ne_true
  | byt i =>
    obtain ⟨t, rfl⟩ := rx
    cases y with
    | byt j => obtain ⟨t', rfl⟩ := ry; exact PySem.W.ne_bytes (fin_bl I q (congrArg not dec_byt))
    | _ => exact absurd (show false = true from hs) Bool.false_ne_true
  | _ => cases y <;> exact absurd (show false = true from hs) Bool.false_ne_true
theorem op_lt : OpR X (compareOp .Lt) (rI0 fun i j => .bl (decide (i < j))) := opB0 fun _ _ _ _ _ _ _ q => lt_int q
theorem op_gt : OpR X (compareOp .Gt) (rI0 fun i j => .bl (decide (j < i))) := opB0 fun _ _ _ _ _ _ _ q => gt_int q
theorem op_isN : OpR X (compareOp .Is) (fun x y H Q => y = .non ∧ Q (.bl (decide (x = .non))) H) := by
  intro pins s σ H x y v u Q I rx ry h
  obtain ⟨rfl, q⟩ := h
  cases ry
  refine is_none_gen (fin_bl I q ?_)
  cases x <;> first
    | (cases rx; rfl)
    | (obtain ⟨t, rfl⟩ := rx; rfl)
theorem op_notN : OpR X (compareOp .IsNot) (fun x y H Q => y = .non ∧ Q (.bl (!decide (x = .non))) H) := by
  intro pins s σ H x y v u Q I rx ry h
  obtain ⟨rfl, q⟩ := h
  cases ry
  refine isnot_none_gen (fin_bl I q ?_)
  cases x <;> first
    | (cases rx; rfl)
    | (obtain ⟨t, rfl⟩ := rx; rfl)
theorem nomark (b : Expr) {op : CmpOp} (h : op ≠ .In := by decide) (h2 : op ≠ .NotIn := by decide) : behindInMarks op b = false := by
  have e1 : (op == CmpOp.In) = false := by cases op <;> first | rfl | exact absurd rfl h
  have e2 : (op == CmpOp.NotIn) = false := by cases op <;> first | rfl | exact absurd rfl h2
  cases b <;> simp [behindInMarks, e1, e2]
theorem pe_cmpR {op : CmpOp} {r : R2} (ho : OpR X (compareOp op) r) (ha : PE X a ta) (hb : PE X b tb) (hm : behindInMarks op b = false) : PE X (.Compare a [op] [b] pos) (tOp r ta tb) := by
  intro pins s σ H Q I h
  exact wpAny_Compare1 (binT ha hb I h fun v u s2 x y H2 I2 rx ry q => ho pins s2 σ H2 x y v u Q I2 rx ry q) hm
noncomputable def tTest (t : TE) : TT := fun σ H Q => t σ H fun x H' => ∃ k, x = .bl k ∧ Q k H'
theorem pt_cmpR {op : CmpOp} {r : R2} (ho : OpR X (compareOp op) r) (ha : PE X a ta) (hb : PE X b tb) (hm : behindInMarks op b = false) : PT X (.Compare a [op] [b] pos) (tTest (tOp r ta tb)) := by
  intro pins s σ H Q I h
  refine wpAny_isTrue_Compare1 (thn (ha pins s σ H _ I h) fun v s1 h1 => ?_) hm
  obtain ⟨x, H1, I1, r1, q1⟩ := h1
  refine thn (hb pins s1 σ H1 _ I1 q1) fun u s2 h2 => ?_
  obtain ⟨y, H2, I2, r2, q2⟩ := h2
  refine thn (ho pins s2 σ H2 x y v u _ I2 r1 r2 q2) fun c s3 h3 => ?_
  obtain ⟨z, H3, I3, r3, k, e, q3⟩ := h3
  subst e
  cases r3
  exact wpAny_truthy_bool ⟨H3, I3, q3⟩
noncomputable def TruV (K : PySem.W.Frag) (x : V) (H : Hp) (k : Bool) : Prop :=
  match x with
  | .non => k = false
  | .bl b => k = b
  | .int i => k = (i != 0)
  | .str y => y.length ≤ sizeLine ∧ k = ((y.length : Int) != 0)
  | .byt y => y.size ≤ sizeLine ∧ k = ((y.size : Int) != 0)
  | .ref p => (∃ xs, SqL K H p xs ∧ k = !xs.isEmpty) ∨ (∃ xs, SqT K H p xs ∧ k = !xs.isEmpty) ∨ ∃ kvs, H p = some (.dK kvs) ∧ k = !kvs.isEmpty
  | _ => False
theorem isEmpty_kv {κ : Type} {kvs : List (κ × V)} {vs : List (κ × Value)} (r : KV kvs vs) : (!vs.isEmpty) = !kvs.isEmpty := by
  cases r <;> rfl
theorem isEmpty_of {xs : List V} {its : List Value} (r : Vals xs its) : (!its.toArray.isEmpty) = !xs.isEmpty := by
  cases r <;> simp
theorem line63 : (sizeLine : Nat) < 2 ^ 63 := by rw [sizeLine_eq]; decide
theorem tru_ok : TruR X (fun x H Q => ∃ k, TruV X.K x H k ∧ Q k H) := by
  intro pins s σ H x v Q I rx h
  obtain ⟨k, e, q⟩ := h
  have hl := line63
  have hs : sizeLine = 16777216 := sizeLine_eq
  cases x with
  | non =>
    cases rx
    have e' : k = false := e
    subst e'
    exact truthy_none ⟨H, I, q⟩
  | bl b =>
    cases rx
    have e' : k = b := e
    subst e'
    exact wpAny_truthy_bool ⟨H, I, q⟩
  | int i =>
    obtain ⟨t, rfl⟩ := rx
    have e' : k = (i != 0) := e
    subst e'
    exact PySem.P.truthy_int ⟨H, I, q⟩
  | str y =>
    obtain ⟨t, rfl⟩ := rx
    obtain ⟨hy, e'⟩ : y.length ≤ sizeLine ∧ k = ((y.length : Int) != 0) := e
    subst e'
    exact PySem.P.truthy_str (by omega) ⟨H, I.tok _, q⟩
  | byt y =>
    obtain ⟨t, rfl⟩ := rx
    obtain ⟨hy, e'⟩ : y.size ≤ sizeLine ∧ k = ((y.size : Int) != 0) := e
    subst e'
    exact PySem.W.truthy_bytes (by omega) ⟨H, I.tok _, q⟩
  | ref p =>
    cases rx
    have e' : (∃ xs, SqL X.K H p xs ∧ k = !xs.isEmpty) ∨ (∃ xs, SqT X.K H p xs ∧ k = !xs.isEmpty) ∨ ∃ kvs, H p = some (.dK kvs) ∧ k = !kvs.isEmpty := e
    rcases e' with ⟨xs, hx, e'⟩ | ⟨xs, hx, e'⟩ | ⟨kvs, hx, e'⟩
    · subst e'
      obtain ⟨its, r, pl, hz⟩ := I.list hx
      have hlen := r.length
      exact wpAny_truthy_list pl.isList (by simp only [List.size_toArray]; omega) ⟨H, I.tok _, by rw [isEmpty_of r]; exact q⟩
    · subst e'
      obtain ⟨its, r, pl, hz⟩ := I.tuple hx
      have hlen := r.length
      exact truthy_tuple pl (by simp only [List.size_toArray]; omega) ⟨H, I.tok _, by rw [isEmpty_of r]; exact q⟩
    · subst e'
      obtain ⟨hz, hS, vs, r, m⟩ : kvs.length ≤ sizeLine ∧ (p == sysModules) = false ∧ ∃ vs, KV kvs vs ∧ s.heap.DictOf (mixKind X.prog X.w) p vs := I.hok p _ hx
      have hlen : kvs.length = vs.length := Paired.length r
      exact wpAny_truthy_dict hS m (by omega) ⟨H, I.tok _, by rw [isEmpty_kv r]; exact q⟩
  | _ => exact (show False from e).elim
theorem vals1 {x : V} {us : List Value} (r : Vals [x] us) : ∃ u, us = [u] ∧ RelV x u := by
  cases r with
  | cons r1 r2 => cases r2; exact ⟨_, rfl, r1⟩
theorem vals2 {x y : V} {us : List Value} (r : Vals [x, y] us) : ∃ u w', us = [u, w'] ∧ RelV x u ∧ RelV y w' := by
  cases r with
  | cons r1 r2 =>
    cases r2 with
    | cons r3 r4 => cases r4; exact ⟨_, _, rfl, r1, r3⟩
theorem call_max2 (hc : X.calm = true) : CallR X (.builtin "max") (fun xs H Q => ∃ i j, xs = [.int i, .int j] ∧ Q (.int (if j > i then j else i)) H) := by
  intro pins s σ H xs us Q I r h
  obtain ⟨i, j, rfl, q⟩ := h
  obtain ⟨u, w', rfl, ⟨t, rfl⟩, ⟨t', rfl⟩⟩ := vals2 r
  refine max_two_ints (I.ok.hd hc) fun h' tk k => ⟨_, H, I.kept k, ?_, q⟩
  by_cases hj : j > i
  · rw [if_pos hj, if_pos hj]; exact ⟨_, rfl⟩
  · rw [if_neg hj, if_neg hj]; exact ⟨_, rfl⟩
theorem call_min2 (hc : X.calm = true) : CallR X (.builtin "min") (fun xs H Q => ∃ i j, xs = [.int i, .int j] ∧ Q (.int (if j < i then j else i)) H) := by
  intro pins s σ H xs us Q I r h
  obtain ⟨i, j, rfl, q⟩ := h
  obtain ⟨u, w', rfl, ⟨t, rfl⟩, ⟨t', rfl⟩⟩ := vals2 r
  refine min_two_ints (I.ok.hd hc) fun h' tk k => ⟨_, H, I.kept k, ?_, q⟩
  by_cases hj : j < i
  · rw [if_pos hj, if_pos hj]; exact ⟨_, rfl⟩
  · rw [if_neg hj, if_neg hj]; exact ⟨_, rfl⟩
noncomputable def LenV (K : PySem.W.Frag) (x : V) (H : Hp) (n : Nat) : Prop :=
  match x with
  | .str y => y.length ≤ sizeLine ∧ n = y.length
  | .byt y => y.size ≤ sizeLine ∧ n = y.size
  | .ref p => (∃ xs, SqL K H p xs ∧ n = xs.length) ∨ ∃ xs, SqT K H p xs ∧ n = xs.length
  | _ => False
theorem call_len : CallR X (.builtin "len") (fun xs H Q => ∃ x n, xs = [x] ∧ LenV X.K x H n ∧ Q (.int n) H) := by
  intro pins s σ H xs us Q I r h
  obtain ⟨x, n, rfl, e, q⟩ := h
  obtain ⟨u, rfl, rx⟩ := vals1 r
  have hl := line63
  have hs : sizeLine = 16777216 := sizeLine_eq
  cases x with
  | str y =>
    obtain ⟨t, rfl⟩ := rx
    obtain ⟨hy, e'⟩ : y.length ≤ sizeLine ∧ n = y.length := e
    subst e'
    exact len_str (by omega) ⟨.int _, H, I.tok _, ⟨_, rfl⟩, q⟩
  | byt y =>
    obtain ⟨t, rfl⟩ := rx
    obtain ⟨hy, e'⟩ : y.size ≤ sizeLine ∧ n = y.size := e
    subst e'
    exact PySem.W.len_bytes (by omega) ⟨.int _, H, I.tok _, ⟨_, rfl⟩, q⟩
  | ref p =>
    cases rx
    have e' : (∃ xs, SqL X.K H p xs ∧ n = xs.length) ∨ ∃ xs, SqT X.K H p xs ∧ n = xs.length := e
    rcases e' with ⟨xs, hx, e'⟩ | ⟨xs, hx, e'⟩
    · subst e'
      obtain ⟨its, r', pl, hz⟩ := I.list hx
      have hlen := r'.length
      exact Calls.call_len_list pl.isList (by simp only [List.size_toArray]; omega) ⟨.int xs.length, H, I.tok _, ⟨_, by simp only [List.size_toArray]; rw [hlen]⟩, q⟩
    · subst e'
      obtain ⟨its, r', pl, hz⟩ := I.tuple hx
      have hlen := r'.length
      exact len_tuple pl (by simp only [List.size_toArray]; omega) ⟨.int xs.length, H, I.tok _, ⟨_, by simp only [List.size_toArray]; rw [hlen]⟩, q⟩
  | _ => exact (show False from e).elim
end
end L2
namespace L2
open PySem PySem.Spec PyProof.Rows
structure ObjM (h : Heap) (x dx C : Addr) (mA : Str → Option Value) : Prop where
  obj : h.get? x = some (PySem.W.instObj C dx)
  ns : h.Ns1 dx mA
  ne : dx ≠ x
theorem lookIn_ns {h : Heap} {dx : Addr} {mA : Str → Option Value} (n : h.Ns1 dx mA) : ∃ od, h.get? dx = some od ∧ ∀ name, PySem.W.lookIn name od = some (mA name) := by
  obtain ⟨o, es, ep, ho, hd, hk, _, hm⟩ := n
  refine ⟨o, ho, fun name => ?_⟩
  have e := hm name
  unfold nsFind findBy at e
  rw [← Array.find?_toList] at e
  unfold PySem.W.lookIn
  rw [hd]
  dsimp only
  split
  · rename_i y q
    rw [q] at e
    exact congrArg some e
  · rename_i q
    rw [q] at e
    have a : es.toList.any (·.refKey) = false := by
      rw [List.any_eq_false]
      intro y hy
      obtain ⟨z, t, hkey⟩ := hk y (Array.mem_toList_iff.mp hy)
      simp [DictEntry.refKey, hkey]
    have a' : ¬ es.toList.any (·.refKey) = true := by rw [a]; exact Bool.false_ne_true
    rw [if_neg a']
    exact congrArg some e
theorem ObjM.look {h : Heap} {x dx C : Addr} {mA : Str → Option Value} (I : ObjM h x dx C mA) : ∃ od, PySem.W.InstAt h x (PySem.W.instObj C dx) C (some od) ∧ ∀ name, PySem.W.lookIn name od = some (mA name) :=
  let ⟨od, ho, hl⟩ := lookIn_ns I.ns
  ⟨od, ⟨I.obj, rfl, rfl, ho⟩, hl⟩
section
variable {prog : Program} {w : World} {A : Around} {E : Value → Shared → Prop} {s : Shared} {K : PySem.W.Frag} {x dx C f : Addr} {mA : Str → Option Value} {name : Str} {v : Value}
end
theorem RelO.some_of {v : V} {o : Option Value} (r : RelO (some v) o) : ∃ u, o = some u ∧ RelV v u := by
  cases o with
  | none => exact (show False from r).elim
  | some u => exact ⟨u, rfl, r⟩
section
variable {P : Program} {w : World} {H H' : Hp} {h h' : Heap} {a C dx : Addr} {fs fs' : List (Str × V)}
theorem ins_get (hok : HOk P w H h) (e : H a = some (.ins C dx fs)) : ∃ mA, ObjM h a dx C mA ∧ (∀ f, RelO (fs.lookup f) (mA f)) ∧ PySem.Within mA (fs.map (·.1)) ∧ fs.length ≤ 1000 ∧ H dx = some (.own a) := by
  obtain ⟨d, z, ne, ob, mA, n, r, q⟩ := (show ObjOk P w H h a (.ins C dx fs) from hok a _ e)
  exact ⟨mA, ⟨ob, n, ne⟩, r, q, z, d⟩
end
structure Cls (K : PySem.W.Frag) (C : Addr) : Prop where
  pg : PySem.W.plainGet K C Str.empty = true
  hd : PySem.W.hasDictIn K C = true
  po : PySem.W.plainOver K C = true
  sa : PySem.W.findIn K (.ref C) "__setattr__" = some (some (.builtin "object.__setattr__"))
theorem Cls.get {K : PySem.W.Frag} {C : Addr} (c : Cls K C) (f : Str) : PySem.W.plainGet K C f = true := c.pg
section
variable {X : Cx} {pins : List (Addr × Obj)} {σ : St} {H : Hp} {s : Shared} {a C dx : Addr} {fs : List (Str × V)} {f : Str} {v : V} {A : Around} {E : Value → Shared → Prop}
end
section
variable {X : Cx} {o e value : Expr} {f : Str} {pos pos' tpos : Pos} {ta tv : TE}
end
section
variable {X : Cx} {pins : List (Addr × Obj)} {σ : St} {H : Hp} {s : Shared} {A : Around} {E : Value → Shared → Prop} {Q : Value → Shared → Prop} {c : Value} {b : Bool}
inductive TyOf (K : PySem.W.Frag) (H : Hp) : V → Value → Prop where
  | non : TyOf K H .non (.type "NoneType")
  | bl (x : Bool) : TyOf K H (.bl x) (.type "bool")
  | int (i : Int) : TyOf K H (.int i) (.type "int")
  | str (x : Str) : TyOf K H (.str x) (.type "str")
  | flt (x : UInt64) : TyOf K H (.flt x) (.type "float")
  | lst {a : Addr} {xs : List V} (e : H a = some (.lst xs)) : TyOf K H (.ref a) (.type "list")
  | frz {a : Addr} {o : Obj} {xs : List V} (e : H a = some (.frz o (.lst xs))) : TyOf K H (.ref a) (.type "list")
  | tup {a : Addr} {xs : List V} (e : H a = some (.tup xs)) : TyOf K H (.ref a) (.type "tuple")
  | dK {a : Addr} {kvs : List (Key × V)} (e : H a = some (.dK kvs)) : TyOf K H (.ref a) (.type "dict")
  | dT {a : Addr} {kvs : List (List Key × V)} (e : H a = some (.dT kvs)) : TyOf K H (.ref a) (.type "dict")
  | ins {a C dx : Addr} {fs : List (Str × V)} (e : H a = some (.ins C dx fs)) (cl : Cls K C) (ha : PySem.W.findIn K (.ref C) "__class__" = some (some (.builtin "object.__class__")))
      (hn : PySem.W.specialIn K (.builtin "object.__class__") "__get__" = some (some (.builtin "getset_descriptor.__get__"))) (htk : PySem.W.takesIn K (.builtin "object.__class__") = some true)
      (hm : PySem.W.mroIn K C (.type "object") = some true) : TyOf K H (.ref a) (.ref C)
theorem isinst_ok {x : V} {u t : Value} (I : Inv X pins σ H s) (rx : RelV x u) (ty : TyOf X.K H x t) (e : PySem.W.kitOne X.K t c = some b) (h : ∀ tk, Q (.bool b) { s with toks := tk }) :
    wpAny (model X.prog X.w) A (call (.builtin "isinstance") [u, c]) Q E s := by
  cases ty with
  | non => cases (show u = Value.none from rx); exact PySem.W.kia_one PySem.W.kitx_none I.kIn True.intro e (fun z => nomatch z) h
  | bl y => cases (show u = Value.bool y from rx); exact PySem.W.kia_one PySem.W.kitx_bool I.kIn True.intro e (fun z => nomatch z) h
  | int i => obtain ⟨t, q⟩ := (show ∃ t, u = Value.int i t from rx); cases q; exact PySem.W.kia_one PySem.W.kitx_int I.kIn True.intro e (fun z => nomatch z) h
  | str y => obtain ⟨t, q⟩ := (show ∃ t, u = Value.str y t from rx); cases q; exact PySem.W.kia_one PySem.W.kitx_str I.kIn True.intro e (fun z => nomatch z) h
  | flt y => obtain ⟨t, q⟩ := (show ∃ t, u = Value.float y t from rx); cases q; exact PySem.W.kia_one PySem.W.kitx_float I.kIn True.intro e (fun z => nomatch z) h
  | @lst a xs ea =>
    cases (show u = Value.ref a from rx)
    obtain ⟨_, _, n, _, h1⟩ := (show ObjOk X.prog X.w H s.heap a (.lst xs) from I.hok a _ ea)
    exact PySem.W.kia_one PySem.W.kitx_list I.kIn ⟨_, h1, rfl⟩ e (fun z => nomatch z) h
  | @frz a ob xs ea =>
    cases (show u = Value.ref a from rx)
    obtain ⟨_, _, _, n, _, h1⟩ := (show ObjOk X.prog X.w H s.heap a (.frz ob (.lst xs)) from I.hok a _ ea)
    exact PySem.W.kia_one PySem.W.kitx_list I.kIn ⟨_, h1, rfl⟩ e (fun z => nomatch z) h
  | @tup a xs ea =>
    cases (show u = Value.ref a from rx)
    obtain ⟨_, _, _, p⟩ := (show ObjOk X.prog X.w H s.heap a (.tup xs) from I.hok a _ ea)
    obtain ⟨o, h1, h2, _⟩ := p
    exact PySem.W.kia_one PySem.W.kitx_tuple I.kIn ⟨o, h1, h2⟩ e (fun z => nomatch z) h
  | @dK a kvs ea =>
    cases (show u = Value.ref a from rx)
    obtain ⟨_, _, vs, _, p⟩ := (show ObjOk X.prog X.w H s.heap a (.dK kvs) from I.hok a _ ea)
    obtain ⟨o, es, ep, h1, h2, _⟩ := p
    exact PySem.W.kia_one PySem.W.kitx_dict I.kIn ⟨o, h1, h2.1⟩ e (fun z => nomatch z) h
  | @dT a kvs ea =>
    cases (show u = Value.ref a from rx)
    obtain ⟨_, _, xs, _, o, es, ep, h1, h2, _⟩ := (show ObjOk X.prog X.w H s.heap a (.dT kvs) from I.hok a _ ea)
    exact PySem.W.kia_one PySem.W.kitx_dict I.kIn ⟨o, h1, h2.1⟩ e (fun z => nomatch z) h
  | @ins a C dx fs ea cl ha hn htk hm =>
    cases (show u = Value.ref a from rx)
    obtain ⟨mA, O, _⟩ := ins_get I.hok ea
    obtain ⟨od, J, _⟩ := O.look
    exact PySem.W.kia_one (PySem.W.kitx_own (cl.get _) cl.hd ha hn htk hm) I.kIn J e (fun z => nomatch z) h
end
end L2
namespace L2
open PySem PySem.Spec PyProof.Rows
structure Room (k : Nat) (A : Around) : Prop where
  hd : A.handled = none
  dp : A.depth + 3 * k + 5 < recursionLimit
  un : A.units + 16 * k + 200 < cLine
theorem Room.mono {j k : Nat} {A : Around} (r : Room k A) (h : j ≤ k) : Room j A := ⟨r.hd, by have := r.dp; omega, by have := r.un; omega⟩
theorem Room.deeper {k : Nat} {A : Around} (r : Room (k + 1) A) (env : Env) : Room k (A.deeper env) :=
  ⟨r.hd, by have := r.dp; show A.depth + 1 + 3 * k + 5 < _; omega, by have := r.un; show A.units + 3 + 16 * k + 200 < _; omega⟩
theorem Room.depth {k : Nat} {A : Around} (r : Room k A) : A.depth < recursionLimit := by have := r.dp; omega
theorem Room.units {k : Nat} {A : Around} (r : Room k A) : A.units + 64 < cLine := by have := r.un; omega
noncomputable def tNil : TA := fun _ H Q => Q [] H
noncomputable def tCons (ta : TE) (tr : TA) : TA := fun σ H Q => ta σ H fun x H1 => tr σ H1 fun xs H2 => Q (x :: xs) H2
section
variable {X : Cx} {e : Expr} {es : List Expr} {te : TE} {t : TA} {pos : Pos}
theorem pa_nil : PA X [] tNil := fun _ _ _ _ H Q I h => Calls.spliced_nil ⟨[], H, I, .nil, h⟩
theorem pa_cons (ha : PE X e te) (hr : PA X es t) (hs : starEach (e :: es) X.env = (false, eval e X.env) :: starEach es X.env := by rfl) : PA X (e :: es) (tCons te t) := by
  intro pos pins s σ H Q I h
  rw [hs]
  show wpAny _ _ (spliced ((false, eval e X.env) :: backTo pos (starEach es X.env))) _ _ s
  refine Calls.spliced_cons (thn (ha pins s σ H _ I h) fun u s1 hq__ => ?_)
  obtain ⟨x, H1, I1, r1, q1⟩ := hq__
  exact thn (hr pos pins s1 σ H1 _ I1 q1) fun us s2 ⟨xs, H2, I2, r2, q2⟩ => ⟨x :: xs, H2, I2, .cons r1 r2, q2⟩
noncomputable def tTup (t : TA) : TE := fun σ H Q => t σ H fun xs H1 => xs.length ≤ sizeLine ∧ ∀ p, H1 p = none → Q (.ref p) (upd H1 p (.tup xs))
noncomputable def tLst (t : TA) : TE := fun σ H Q => t σ H fun xs H1 => xs.length ≤ sizeLine ∧ ∀ p, H1 p = none → Q (.ref p) (upd H1 p (.lst xs))
theorem pe_tup {x1} (h : PA X es t) : PE X (.Tuple es x1 pos) (tTup t) := by
  intro pins s σ H Q I hq
  refine wpAny_Tuple_spliced (thn (h pos pins s σ H _ I hq) fun us s1 ⟨xs, H1, I1, r, z, q⟩ => ⟨by rw [← r.length]; exact z, ?_⟩)
  have hf : H1 s1.heap.objs.size = none := I1.hok.fresh (Nat.le_refl _)
  refine ⟨.ref s1.heap.objs.size, upd H1 s1.heap.objs.size (.tup xs), I1.laid (t' := s1.toks) (fun b u e => Heap.get?_push_of_some _ e) (Nat.le_refl _) ?_, rfl, q _ hf⟩
  exact ⟨z, us, r, ⟨_, Heap.get?_push_size _ rfl, rfl, _, rfl⟩⟩
theorem pe_lst (h : PA X es t) : PE X (.List es pos) (tLst t) := by
  intro pins s σ H Q I hq
  refine wpAny_List_spliced (thn (h pos pins s σ H _ I hq) fun us s1 ⟨xs, H1, I1, r, z, q⟩ => ⟨by rw [← r.length]; exact z, ?_⟩)
  have hf : H1 s1.heap.objs.size = none := I1.hok.fresh (Nat.le_refl _)
  refine ⟨.ref s1.heap.objs.size, upd H1 s1.heap.objs.size (.lst xs), I1.laid (t' := s1.toks) (fun b u e => Heap.get?_push_of_some _ e) (Nat.le_refl _) ?_, rfl, q _ hf⟩
  exact ⟨z, us, 0, r, Heap.get?_push_size _ rfl⟩
end
noncomputable abbrev Sp := List V → Hp → VK → XK → Prop
noncomputable abbrev CXT := List Env → Hp → Shared → XK → Value → Shared → Prop
structure Env0 (P : Program) (w : World) (K : PySem.W.Frag) (mg : Str → Option Value) (base : Heap) (A : Around) (outer : List Env) (s : Shared) (H : Hp) : Prop where
  frames : A.frames = some outer
  mod : Mod K mg base
  bs : ∀ b o, base.get? b = some o → s.heap.get? b = some o ∧ H b = none
  bsz : base.objs.size ≤ s.heap.objs.size
  funs : s.heap.FunFrames base outer
  frf : ∀ b ∈ frs outer, H b = none
  hok : HOk P w H s.heap
  bare : AllBare s.gens
noncomputable def CE (outer : List Env) (P : Program) (w : World) (H : Hp) (s : Shared) (Q : VK) (u : Value) (s' : Shared) : Prop :=
  ∃ v H', s'.os = s.os ∧ AllBare s'.gens ∧ Un (frs outer) [] H H' s.heap s'.heap ∧ HOk P w H' s'.heap ∧ RelV v u ∧ Q v H'
noncomputable def CR (CX : CXT) (outer : List Env) (P : Program) (w : World) (H : Hp) (s : Shared) (Q : VK) (E : XK) (r : Result) (s' : Shared) : Prop :=
  match r with
  | .ok (.ret u) => CE outer P w H s Q u s'
  | .ok _ => False
  | .error e => CX outer H s E e s'
structure FnOk (P : Program) (w : World) (K : PySem.W.Frag) (mg : Str → Option Value) (base : Heap) (CX : CXT) (k : Nat) (f : Addr) (fd : FuncData) (ps : List Str) (sp : Sp) : Prop where
  len : ∀ vs H Q E, sp vs H Q E → vs.length = ps.length
  run : ∀ (A : Around) (outer : List Env) (s : Shared) (H : Hp) (args : Args) (us : List Value) (vs : List V) (Q : VK) (E : XK), Room k A → Env0 P w K mg base A outer s H → BindsTo s fd args (ps.zip us) → Vals vs us → sp vs H Q E →
    codeAny (model P w) A (.call (.ref f) args) (CR CX outer P w H s Q E) s
theorem FnOk.imp {P : Program} {w : World} {K : PySem.W.Frag} {mg : Str → Option Value} {base : Heap} {CX : CXT} {k : Nat} {f : Addr} {fd : FuncData} {ps : List Str} {sp sp' : Sp} (F : FnOk P w K mg base CX k f fd ps sp)
    (h : ∀ vs H Q E, sp' vs H Q E → sp vs H Q E) : FnOk P w K mg base CX k f fd ps sp' :=
  ⟨fun vs H Q E q => F.len vs H Q E (h _ _ _ _ q), fun A outer s H args us vs Q E hr he hb hv hs => F.run A outer s H args us vs Q E hr he hb hv (h _ _ _ _ hs)⟩
section
variable {X : Cx} {pins : List (Addr × Obj)} {σ : St} {H : Hp} {s s' : Shared}
theorem Inv.env0 (I : Inv X pins σ H s) : Env0 X.prog X.w X.K X.mg X.base X.A X.stack s H :=
  ⟨I.ok.frames, I.ok.mod, I.bs, Nat.le_trans I.ok.bsz I.sz, I.stack, I.stkFree, I.hok, I.bare⟩
theorem Inv.after {Q : VK} {u : Value} (I : Inv X pins σ H s) (h : CE X.stack X.prog X.w H s Q u s') : EP X pins σ Q u s' := by
  obtain ⟨v, H', os, bare, un, hok, r, q⟩ := h
  obtain ⟨hh, g, d, t, os'⟩ := s'
  obtain rfl : os' = s.os := os
  exact ⟨v, H', I.call (h' := hh) (g' := g) (d' := d) (t' := t) (ch := []) un hok bare (fun b z => absurd z (by simp)), r, q⟩
end
noncomputable def tCall (sp : Sp) (dvs : List V) (E : XK) (t : TA) : TE := fun σ H Q => t σ H fun vs H1 => sp (vs ++ dvs) H1 Q E
noncomputable def Binds (K : PySem.W.Frag) (fd : FuncData) (ps : List Str) (ds : List Value) : Prop :=
  ∀ (s : Shared) (us : List Value), K.In s.heap → (us ++ ds).length = ps.length → BindsTo s fd ⟨us, []⟩ (ps.zip (us ++ ds))
theorem Binds.all {K : PySem.W.Frag} {fd : FuncData} {ps : List Str} (h : ∀ us : List Value, us.length = ps.length → bindArgs fd ⟨us, []⟩ = pure (ps.zip us)) : Binds K fd ps [] := fun s us _ hl => by
  rw [List.append_nil] at hl ⊢
  exact .of_eq (h us hl)
noncomputable def Passes (CX : CXT) (X : Cx) (E : XK) : Prop := ∀ (pins : List (Addr × Obj)) (σ : St) (H : Hp) (s : Shared) (e : Value) (s' : Shared), Inv X pins σ H s → CX X.stack H s E e s' → X.xe e s'
section
variable {X : Cx} {CX : CXT} {k : Nat} {f C : Addr} {fd : FuncData} {ps : List Str} {sp : Sp} {dvs : List V} {ds : List Value} {E : XK} {x m : Str} {p pos apos : Pos} {e o : Expr} {es : List Expr} {ta : TE} {t : TA}
theorem run_fn {pins : List (Addr × Obj)} {σ : St} {H : Hp} {s : Shared} {Q : VK} {us : List Value} {vs : List V} (F : FnOk X.prog X.w X.K X.mg X.base CX k f fd ps sp) (hr : Room k X.A) (hb : Binds X.K fd ps ds) (hd : Vals dvs ds) (hx : Passes CX X E)
    (I : Inv X pins σ H s) (r : Vals vs us) (h : sp (vs ++ dvs) H Q E) : wpAny (model X.prog X.w) X.A (call (.ref f) us) (EP X pins σ Q) X.xe s := by
  have r2 : Vals (vs ++ dvs) (us ++ ds) := r.append hd
  have hl : (us ++ ds).length = ps.length := by rw [← r2.length]; exact F.len _ _ _ _ h
  refine wpAny_call (codeAny_mono (F.run X.A X.stack s H ⟨us, []⟩ (us ++ ds) (vs ++ dvs) Q E hr I.env0 (hb s us I.kIn hl) r2 h) fun r s' hq => ?_)
  cases r with
  | error e => exact hx pins σ H s e s' I hq
  | ok fl =>
    cases fl with
    | ret u => exact I.after hq
    | next => exact False.elim hq
    | brk => exact False.elim hq
    | cont => exact False.elim hq
theorem pe_call (F : FnOk X.prog X.w X.K X.mg X.base CX k f fd ps sp) (hr : Room k X.A) (hg : Gl X x) (hm : X.mg x = some (.ref f)) (hk : PySem.W.keepIn X.K (.ref f) = true) (hb : Binds X.K fd ps ds) (hd : Vals dvs ds) (hx : Passes CX X E)
    (ha : PA X (e :: es) t) (hdb : (x == ("__debug__" : Str)) = false := by decide) (he : starEach (e :: es) X.env = (false, eval e X.env) :: starEach es X.env := by rfl) (hpl : (backTo pos (starEach es X.env)).any (·.1) = false := by rfl) :
    PE X (.Call (.Name x p) (e :: es) [] pos) (tCall sp dvs E t) := by
  intro pins s σ H Q I h
  refine wpAny_Call_Name_kw (ld_glob I hg hm ?_ hdb)
  refine PySem.W.callWith_K (h₀ := X.base) I.ok.mod.kin hk (thn (ha pos pins s σ H _ I h) fun us s1 ⟨vs, H1, I1, r, q⟩ => ⟨I1.kIn, ?_⟩) he hpl
  exact run_fn F hr hb hd hx I1 r q
end
section
variable {X : Cx} {CX : CXT} {k : Nat} {f C : Addr} {fd : FuncData} {ps ks : List Str} {sp : Sp} {E : XK} {x m : Str} {p pos apos kpos : Pos} {e o : Expr} {es : List Expr} {kws : List Keyword} {te ta : TE} {t tk : TA} {nm : Option Str}
variable {g : List Value → List Value → List Value} {gV : List V → List V → List V}
end
structure FnScope (N P : List Str) (sc : Scope) : Prop where
  kind : sc.kind = .function
  co : sc.isCoroutine = false
  gen : sc.isGenerator = false
  nd : N.Nodup
  pre : N.take P.length = P
  par : ∀ x ∈ P, sc.names.lookup x = some .local ∨ sc.names.lookup x = some .cell
  nofree : ∀ y ∈ sc.names, y.2 ≠ .free
theorem bindL_out {kindOf : Str → Option NameKind} {x : Str} : ∀ {binds : List (Str × Value)} {m : Str → Option Value}, (∀ v, (x, v) ∉ binds) → bindL kindOf binds m x = m x
  | [], _, _ => rfl
  | (n, v) :: r, m, h => by
    unfold bindL
    rw [bindL_out fun w hw => h w (List.mem_cons_of_mem _ hw)]
    split
    · have : x ≠ n := by rintro rfl; exact h v List.mem_cons_self
      simp [this]
    · rfl
theorem bindC_out {kindOf : Str → Option NameKind} {x : Str} : ∀ {binds : List (Str × Value)} {m : Str → Option Value}, (∀ v, (x, v) ∉ binds) → bindC kindOf binds m x = m x
  | [], _, _ => rfl
  | (n, v) :: r, m, h => by
    unfold bindC
    rw [bindC_out fun w hw => h w (List.mem_cons_of_mem _ hw)]
    split
    · rfl
    · have : x ≠ n := by rintro rfl; exact h v List.mem_cons_self
      simp [this]
theorem bindL_get {kindOf : Str → Option NameKind} {x : Str} {v : Value} : ∀ {P : List Str} {vs : List Value} {i : Nat} {m : Str → Option Value}, P.Nodup → P[i]? = some x → vs[i]? = some v → kindOf x = some .local →
    bindL kindOf (P.zip vs) m x = some v := by
  intro P
  induction P with
  | nil => intro vs i m _ h; cases h
  | cons p P ih =>
    intro vs i m nd h1 h2 hk
    cases vs with
    | nil => cases h2
    | cons w vs =>
      show bindL kindOf ((p, w) :: P.zip vs) m x = _
      unfold bindL
      cases i with
      | zero =>
        cases h1; cases h2
        rw [bindL_out fun v hv => (List.nodup_cons.mp nd).1 (List.of_mem_zip hv).1, if_pos hk]
        simp
      | succ i => exact ih (List.nodup_cons.mp nd).2 h1 h2 hk
theorem bindC_get {kindOf : Str → Option NameKind} {x : Str} {v : Value} : ∀ {P : List Str} {vs : List Value} {i : Nat} {m : Str → Option Value}, P.Nodup → P[i]? = some x → vs[i]? = some v → kindOf x ≠ some .local →
    bindC kindOf (P.zip vs) m x = some v := by
  intro P
  induction P with
  | nil => intro vs i m _ h; cases h
  | cons p P ih =>
    intro vs i m nd h1 h2 hk
    cases vs with
    | nil => cases h2
    | cons w vs =>
      show bindC kindOf ((p, w) :: P.zip vs) m x = _
      unfold bindC
      cases i with
      | zero =>
        cases h1; cases h2
        rw [bindC_out fun v hv => (List.nodup_cons.mp nd).1 (List.of_mem_zip hv).1, if_neg hk]
        simp
      | succ i => exact ih (List.nodup_cons.mp nd).2 h1 h2 hk
noncomputable def start (N : List Str) (vs : List V) : St := vs.map some ++ List.replicate (N.length - vs.length) none
noncomputable def cxOf (CX : CXT) (P : Program) (w : World) (K : PySem.W.Frag) (mg : Str → Option Value) (base : Heap) (N : List Str) (qual : Str) (scope : Scope) (f : Addr) (cd : Value) (A : Around) (outer : List Env) (s : Shared) (H : Hp) (E : XK) : Cx where
  prog := P
  w := w
  K := K
  mg := mg
  base := base
  A := A.deeper (envOfC qual scope s.heap.objs.size f cd)
  N := N
  s₀ := s
  H₀ := H
  env := envOfC qual scope s.heap.objs.size f cd
  outer := outer
  stack := envOfC qual scope s.heap.objs.size f cd :: outer
  ex := []
  calm := true
  fn := fun _ => true
  pn := []
  xe := fun e s' => wpAny (model P w) (A.deeper (envOfC qual scope s.heap.objs.size f cd)) (leaving (envOfC qual scope s.heap.objs.size f cd) e) (fun _ s'' => CX outer H s E e s'') (fun e' s'' => CX outer H s E e' s'') s'
theorem cell_has {sc : Scope} {n : Nat} {x : Str} (h : sc.names.lookup x = some .cell) : ∃ c, (cellsFrom n sc.names []).lookup x = some c := by
  have q := PySem.W.cellsFrom_some sc.names n [] (.inl h)
  exact Option.isSome_iff_exists.mp q
theorem inv_start {CX : CXT} {P : Program} {w : World} {K : PySem.W.Frag} {mg : Str → Option Value} {base : Heap} {N ps : List Str} {qual : Str} {scope : Scope} {f : Addr} {cd : Value} {A : Around} {outer : List Env} {s s1 : Shared} {H : Hp} {E : XK} {us : List Value} {vs : List V}
    (S : FnScope N ps scope) (hd : A.handled = none) (e0 : Env0 P w K mg base A outer s H) (hl : vs.length = ps.length) (r : Vals vs us)
    (x : InCallC s s.heap.objs.size (bindL (envOfC qual scope s.heap.objs.size f cd).kindOf (ps.zip us) fun _ => none) (cellsFrom (s.heap.objs.size + 1) scope.names []) (bindC (envOfC qual scope s.heap.objs.size f cd).kindOf (ps.zip us) fun _ => none) s1) :
    Inv (cxOf CX P w K mg base N qual scope f cd A outer s H E) [] (start N vs) H s1 := by
  have hpl : ps.length ≤ N.length := by have := congrArg List.length S.pre; rw [List.length_take] at this; omega
  obtain ⟨h1, tk, rfl, hk⟩ := x.done
  have noA : ∀ b : Addr, b ∉ (cxOf CX P w K mg base N qual scope f cd A outer s H E).ex := fun b z => absurd (show b ∈ ([] : List Addr) from z) (by simp)
  refine ⟨⟨e0.mod, S.kind, rfl, rfl, Nat.le_refl _, fun y z c h1 h2 => ?_, fun y hy => ?_, fun y c _ h => ?_, fun _ => hd, Around.frames_deeper e0.frames, .inr ⟨rfl, rfl⟩, fun b z => absurd z (noA b), e0.bs, e0.bsz, fun b _ _ => noA b, fun b z => absurd z (noA b), e0.funs, e0.frf⟩,
    rfl, e0.bare, Un.kept hk, ⟨_, x.toInCall.ns, fun i y v h1 h2 h3 => ?_⟩, fun y c h => ⟨_, x.cell y c h⟩, e0.hok.fresh (Nat.le_refl _), fun y c h => ?_, fun p hp => absurd (show p ∈ ([] : List (Addr × Obj)) from hp) (by simp), e0.hok.kept hk, ?_⟩
  · exact name_of_addr x.apart (PySem.mem_of_lookup h1) (PySem.mem_of_lookup h2)
  · have hy : scope.names.lookup y = some .cell ∨ scope.names.lookup y = some .free := hy
    rcases hy with hy | hy
    · exact cell_has hy
    · exact absurd rfl (S.nofree _ (PySem.mem_of_lookup hy))
  · exact Nat.le_of_lt (x.above y c (PySem.mem_of_lookup h))
  · have hi : i < vs.length := by
      unfold start at h2
      by_cases hi : i < vs.length
      · exact hi
      · rw [List.getElem?_append_right (by simpa using hi)] at h2
        rw [List.getElem?_replicate] at h2
        split at h2 <;> cases h2
    have ha : vs[i]? = some v := by
      unfold start at h2
      rw [List.getElem?_append_left (by simpa using hi), List.getElem?_map] at h2
      cases e : vs[i]? with
      | none => rw [e] at h2; cases h2
      | some a => rw [e] at h2; cases h2; rfl
    obtain ⟨u, hu, rv⟩ := r.get ha
    have hp : ps[i]? = some y := by
      rw [← S.pre, List.getElem?_take_of_lt (by omega)]; exact h1
    have ndP : ps.Nodup := by rw [← S.pre]; exact S.nd.sublist (List.take_sublist _ _)
    refine ⟨u, rv, ?_⟩
    rcases S.par y (List.mem_of_getElem? hp) with k | k
    · exact .inl ⟨k, bindL_get ndP hp hu k⟩
    · obtain ⟨c, e⟩ := cell_has (n := s.heap.objs.size + 1) k
      refine .inr ⟨.inl k, c, e, ?_⟩
      have q := x.cell y c e
      rw [bindC_get ndP hp hu (by show scope.names.lookup y ≠ _; rw [k]; decide)] at q
      exact q
  · exact e0.hok.fresh (Nat.le_of_lt (x.above y c (PySem.mem_of_lookup h)))
  · unfold start
    show _ = N.length
    rw [List.length_append, List.length_map, List.length_replicate]
    omega
theorem fn_of {CX : CXT} {P : Program} {w : World} {K : PySem.W.Frag} {mg : Str → Option Value} {base : Heap} {k : Nat} {f : Addr} {name qual : Str} {params : Arguments} {body : List Stmt} {scope : Scope} {dV kV doc pm cdv ct oc : Value} {an od : Option Addr}
    {osl : Array (Option Value)} {N ps : List Str} {sp : Sp} (lk : K.lookup f = some ⟨oc, od, .func (PySem.W.fnOf name qual params body scope dV kV doc pm an cdv ct), osl⟩) (hcd : PySem.W.codeIn K cdv qual = true) (S : FnScope N ps scope)
    (len : ∀ vs H Q E, sp vs H Q E → vs.length = ps.length)
    (hbody : ∀ (A : Around) (outer : List Env) (s : Shared) (H : Hp) (vs : List V) (Q : VK) (E : XK), Room k (A.deeper (envOfC qual scope s.heap.objs.size f cdv)) → sp vs H Q E →
      ∃ t, PSs (cxOf CX P w K mg base N qual scope f cdv A outer s H E) body t ∧ t { nx := fun _ H' => Q .non H', rt := Q } (start N vs) H) :
    FnOk P w K mg base CX (k + 1) f (PySem.W.fnOf name qual params body scope dV kV doc pm an cdv ct) ps sp := by
  refine ⟨len, fun A outer s H args us vs Q E hr e0 hb r hsp => ?_⟩
  have hl := len _ _ _ _ hsp
  have KX : K.In s.heap := e0.mod.kin.keeps fun b o e => (e0.bs b o e).1
  have lim : s.heap.NoLimit := e0.mod.nolimit.keeps fun b o e => (e0.bs b o e).1
  have hkind : ∀ y ∈ ps.zip us, scope.names.lookup y.1 = some .local ∨ (scope.names.lookup y.1 = some .cell ∧ ((cellsFrom (s.heap.objs.size + 1) scope.names []).lookup y.1).isSome = true) := fun ⟨n, v⟩ hy => by
    rcases S.par n (List.of_mem_zip hy).1 with q | q
    · exact .inl q
    · exact .inr ⟨q, PySem.W.cellsFrom_some _ _ _ (.inl q)⟩
  refine codeAny_call_function hr.depth (KX _ _ lk) rfl S.co S.gen rfl (PySem.W.codeRec_of KX hcd) (hb _ _ _ _ ?_)
  refine wpAny_newFunctionEnv_cells S.kind hkind fun env he s1 x => ?_
  subst he
  refine ⟨lim.keeps x.toInCall.keep, codeAny_func ?_⟩
  obtain ⟨t, ht, hq⟩ := hbody A outer s H vs Q E (hr.deeper _) hsp
  have I : Inv (cxOf CX P w K mg base N qual scope f cdv A outer s H E) [] (start N vs) H s1 := inv_start S hr.hd e0 hl r x
  refine wpAny_mono (ht [] s1 (start N vs) H _ I hq) (fun fl s' hs => ?_) fun e s' hs => hs
  have fin : ∀ {σ' : St} {H' : Hp} {v : V} {u : Value}, Inv (cxOf CX P w K mg base N qual scope f cdv A outer s H E) [] σ' H' s' → RelV v u → Q v H' → CE outer P w H s Q u s' :=
    fun {σ' H' v u} J rv q => ⟨v, H', J.os, J.bare, J.base, J.hok, rv, q⟩
  cases fl with
  | ret u =>
    obtain ⟨v, σ', H', J, rv, q⟩ := hs
    exact fin J rv q
  | next =>
    obtain ⟨σ', H', J, q⟩ := hs
    exact fin (v := V.non) (u := Value.none) J rfl q
  | brk =>
    obtain ⟨_, _, _, q⟩ := hs
    exact False.elim q
  | cont =>
    obtain ⟨_, _, _, q⟩ := hs
    exact False.elim q
end L2
namespace L2
open PySem PySem.Spec PyProof.Rows
section
variable {X : Cx} {x : Str} {p pos : Pos} {e : Expr} {es : List Expr} {t : TA} {id T : String} {r : List V → Hp → VK → Prop}
noncomputable def tCB (r : List V → Hp → VK → Prop) (t : TA) : TE := fun σ H Q => t σ H fun vs H1 => r vs H1 Q
theorem pe_callB (hc : CallR X (.builtin id) r) (hg : Gl X x) (hm : X.mg x = none) (hv : bootBuiltins x = some (.builtin id)) (ha : PA X (e :: es) t) (hn : x ≠ "__name__" := by decide) (hdb : (x == ("__debug__" : Str)) = false := by decide)
    (he : starEach (e :: es) X.env = (false, eval e X.env) :: starEach es X.env := by rfl) (hpl : (backTo pos (starEach es X.env)).any (·.1) = false := by rfl) : PE X (.Call (.Name x p) (e :: es) [] pos) (tCB r t) := by
  intro pins s σ H Q I h
  refine wpAny_Call_Name_kw (ld_blt I hg hm hv ?_ hn hdb)
  exact PyProof.Rows.callWith_builtin1 (thn (ha pos pins s σ H _ I h) fun us s1 ⟨vs, H1, I1, r1, q1⟩ => hc pins s1 σ H1 vs us Q I1 r1 q1) he hpl
theorem pe_callTy (hc : CallR X (.type T) r) (hg : Gl X x) (hm : X.mg x = none) (hv : bootBuiltins x = some (.type T)) (ha : PA X (e :: es) t) (hn : x ≠ "__name__" := by decide) (hdb : (x == ("__debug__" : Str)) = false := by decide)
    (he : starEach (e :: es) X.env = (false, eval e X.env) :: starEach es X.env := by rfl) (hpl : (backTo pos (starEach es X.env)).any (·.1) = false := by rfl) : PE X (.Call (.Name x p) (e :: es) [] pos) (tCB r t) := by
  intro pins s σ H Q I h
  refine wpAny_Call_Name_kw (ld_blt I hg hm hv ?_ hn hdb)
  exact PyProof.Rows.callWith_type1 (thn (ha pos pins s σ H _ I h) fun us s1 ⟨vs, H1, I1, r1, q1⟩ => hc pins s1 σ H1 vs us Q I1 r1 q1) he hpl
end
end L2
namespace HT
open PySem PyProof.Rows
noncomputable def lexLt : List Int → List Int → Bool
  | [], [] => false
  | [], _ :: _ => true
  | _ :: _, [] => false
  | x :: xs, y :: ys => if x = y then lexLt xs ys else decide (x < y)
theorem lexLt_cons (x y : Int) (xs ys : List Int) : lexLt (x :: xs) (y :: ys) = if x = y then lexLt xs ys else decide (x < y) := rfl
theorem lexLt_nil_nil : lexLt [] [] = false := rfl
theorem lexLt_nil_cons (y : Int) (ys : List Int) : lexLt [] (y :: ys) = true := rfl
theorem lexLt_cons_nil (x : Int) (xs : List Int) : lexLt (x :: xs) [] = false := rfl
theorem rcLt_int (A : Around) (s : Shared) (a : Int) (t : Tok) (c : Int) (u : Tok) (prog : Program) (w : World) (E : Value → Shared → Prop) (Q : Value → Shared → Prop) (h : Q (.bool (decide (a < c))) s) :
    wpAny (model prog w) A (richCompare .Lt (.int a t) (.int c u)) Q E s :=
  (PyProof.Rows.lt_int h : wpAny (model prog w) A (compareOp .Lt (.int a t) (.int c u)) Q E s)
section
open PySem.SeqAt
open PySem.AutoSeq1 (wpAny_loadPart')
open PySem.MeetsSeq PySem.MeetsSeq2 PySem.MeetsSeq3
end
section
variable {prog : Program} {w : World} {A : Around} {E : Value → Shared → Prop} {s : Shared}
noncomputable def sIx (n d : Nat) : Option Int → Nat
  | none => d
  | some v => if v < 0 then (v + (n : Int)).toNat else min v.toNat n
theorem sIx_none (n d : Nat) : sIx n d none = d := rfl
theorem sIx_nat (n d k : Nat) : sIx n d (some (k : Int)) = min k n := by
  show (if (k : Int) < 0 then ((k : Int) + (n : Int)).toNat else min (k : Int).toNat n) = min k n
  rw [if_neg (by omega), Int.toNat_natCast]
end
end HT
namespace L2
open PySem PySem.Spec PyProof.Rows
noncomputable abbrev TO := St → Hp → (Option Int → Hp → Prop) → Prop
noncomputable def PO (X : Cx) (e : Option Expr) (t : TO) : Prop :=
  ∀ (pins : List (Addr × Obj)) (s : Shared) (σ : St) (H : Hp) (Q : Option Int → Hp → Prop), Inv X pins σ H s → t σ H Q →
    wpAny (model X.prog X.w) X.A (evalPart e X.env) (fun u s' => ∃ o H', Inv X pins σ H' s' ∧ IsPart u o ∧ Q o H') X.xe s
noncomputable def tNoPart : TO := fun _ H Q => Q none H
noncomputable def tPart (t : TE) : TO := fun σ H Q => t σ H fun x H1 => ∃ i, x = .int i ∧ Q (some i) H1
theorem intsAre_of {ns : List Int} : ∀ {us : List Value}, Vals (ns.map V.int) us → IntsAre us ns := by
  induction ns with
  | nil => intro us r; rw [List.map_nil] at r; cases r; exact .nil
  | cons n ns ih =>
    intro us r
    rw [List.map_cons] at r
    cases r with
    | cons r1 r2 =>
      obtain ⟨t, e⟩ := r1
      subst e
      exact .cons n t (ih r2)
section
variable {X : Cx} {e : Expr} {te : TE} {lo hi : Option Expr} {tl th : TO} {pos p2 : Pos}
theorem po_none : PO X none tNoPart := by
  intro pins s σ H Q I h
  rw [evalPart_none]
  exact wpAny_pure ⟨none, H, I, .none, h⟩
theorem po_some (h : PE X e te) : PO X (some e) (tPart te) := by
  intro pins s σ H Q I hw
  rw [evalPart_some]
  refine thn (h pins s σ H _ I hw) fun u s1 hq__ => ?_
  obtain ⟨x, H1, I1, r1, q1⟩ := hq__
  obtain ⟨i, rfl, q⟩ := q1
  obtain ⟨t, rfl⟩ := r1
  exact ⟨some i, H1, I1, .int i t, q⟩
noncomputable def SlR (X : Cx) (r : V → Option Int → Option Int → Hp → VK → Prop) : Prop :=
  ∀ (pins : List (Addr × Obj)) (s : Shared) (σ : St) (H : Hp) (x : V) (v vl vu : Value) (lo hi : Option Int) (sl : Addr) (Q : VK), Inv X pins σ H s → RelV x v → s.heap.IsSliceOf sl vl vu .none → IsPart vl lo → IsPart vu hi → r x lo hi H Q →
    ∃ T id, typeLookup (.type T) "__getitem__" = pure (some (.builtin id)) ∧ s.TypeIs v T ∧ wpAny (model X.prog X.w) X.A (getItem v (.ref sl)) (EP X pins σ Q) X.xe s
noncomputable def tSl (r : V → Option Int → Option Int → Hp → VK → Prop) (te : TE) (tl th : TO) : TE := fun σ H Q => te σ H fun x H1 => tl σ H1 fun l H2 => th σ H2 fun u H3 => r x l u H3 Q
theorem pe_slice {r : V → Option Int → Option Int → Hp → VK → Prop} (hr : SlR X r) (he : PE X e te) (hl : PO X lo tl) (hu : PO X hi th) : PE X (.Subscript e (.Slice lo hi none p2) pos) (tSl r te tl th) := by
  intro pins s σ H Q I h
  refine Subscript_ (thn (he pins s σ H _ I h) fun v s1 h1 => ?_)
  obtain ⟨x, H1, I1, r1, q1⟩ := h1
  refine wpAny_Slice (thn (hl pins s1 σ H1 _ I1 q1) fun vl s2 h2 => ?_)
  obtain ⟨l, H2, I2, pl, q2⟩ := h2
  refine thn (hu pins s2 σ H2 _ I2 q2) fun vu s3 h3 => ?_
  obtain ⟨u, H3, I3, pu, q3⟩ := h3
  rw [evalPart_none]
  refine wpAny_pure ?_
  have I4 : Inv X pins σ H3 { s3 with heap := s3.heap.push { cls := .type "slice", data := .fields #[vl, vu, .none] } } := I3.kept (t' := s3.toks) fun b ob q => Heap.get?_push_of_some _ q
  obtain ⟨T, id, hT, ht, hg⟩ := hr pins { s3 with heap := s3.heap.push { cls := .type "slice", data := .fields #[vl, vu, .none] } } σ H3 x v vl vu l u s3.heap.objs.size Q I4 r1 (Heap.IsSliceOf.new ..) pl pu q3
  show wpAny (model X.prog X.w) X.A (subscriptTail e (.Slice lo hi none p2) v (.ref s3.heap.objs.size)) (EP X pins σ Q) X.xe { s3 with heap := s3.heap.push { cls := .type "slice", data := .fields #[vl, vu, .none] } }
  exact tail_any (ops := [.ref s3.heap.objs.size, v]) ht hT hg (by with_unfolding_all rfl)
noncomputable def cutV (xs : List V) (lo hi : Option Int) : List V := (xs.drop (HT.sIx xs.length 0 lo)).take (HT.sIx xs.length xs.length hi - HT.sIx xs.length 0 lo)
theorem cutV_length (xs : List V) (lo hi : Option Int) : (cutV xs lo hi).length ≤ xs.length := by
  unfold cutV
  rw [List.length_take, List.length_drop]
  omega
end
end L2
namespace L2
open PySem PySem.Spec PyProof.Rows
noncomputable def ixN (n : Nat) (i : Int) : Option Nat := if 0 ≤ i then (if i < n then some i.toNat else none) else if -(n : Int) ≤ i then some (i + n).toNat else none
noncomputable def atI {α : Type} (xs : List α) (i : Int) : Option α := (ixN xs.length i).bind fun j => xs[j]?
theorem ixN_seq {n : Nat} {i : Int} {j : Nat} (h : ixN n i = some j) : seqIndex? i n = some j ∧ j < n ∧ -(n : Int) ≤ i ∧ i < n := by
  unfold ixN at h
  by_cases h0 : 0 ≤ i
  · rw [if_pos h0] at h
    by_cases h1 : i < n
    · rw [if_pos h1] at h
      have e : i.toNat = j := Option.some.inj h
      exact ⟨by rw [seqIndex_of h0 h1, e], by omega, by omega, h1⟩
    · rw [if_neg h1] at h; cases h
  · rw [if_neg h0] at h
    by_cases h1 : -(n : Int) ≤ i
    · rw [if_pos h1] at h
      have e : (i + n).toNat = j := Option.some.inj h
      exact ⟨by rw [seqIndex_neg (by omega) h1, e], by omega, h1, by omega⟩
    · rw [if_neg h1] at h; cases h
theorem atI_get {α : Type} {xs : List α} {i : Int} {v : α} (h : atI xs i = some v) : ∃ j, seqIndex? i xs.length = some j ∧ xs[j]? = some v ∧ j < xs.length ∧ -(xs.length : Int) ≤ i ∧ i < xs.length := by
  unfold atI at h
  cases e : ixN xs.length i with
  | none => rw [e] at h; cases h
  | some j =>
    rw [e] at h
    obtain ⟨h1, h2, h3, h4⟩ := ixN_seq e
    exact ⟨j, h1, h, h2, h3, h4⟩
theorem atI_nat {α : Type} {xs : List α} {j : Nat} {v : α} (h : xs[j]? = some v) : atI xs (j : Int) = some v := by
  have hj : j < xs.length := (List.getElem?_eq_some_iff.mp h).1
  have e : ixN xs.length (j : Int) = some j := by
    unfold ixN
    rw [if_pos (by omega), if_pos (by omega)]; simp
  unfold atI; rw [e]; exact h
noncomputable def PlainIx (b : Expr) : Prop := ∀ o i, subscripted b false o i = operate [o, i] (getItem o i)
noncomputable def IxR (X : Cx) (r : R2) : Prop :=
  ∀ (value slice : Expr) (pins : List (Addr × Obj)) (s : Shared) (σ : St) (H : Hp) (x y : V) (v u : Value) (Q : VK), Inv X pins σ H s → RelV x v → RelV y u → r x y H Q →
    subscripted slice false v u = operate [v, u] (getItem v u) → wpAny (model X.prog X.w) X.A (subscriptTail value slice v u) (EP X pins σ Q) X.xe s
noncomputable def MtR (X : Cx) (id : String) (r : V → List V → Hp → VK → Prop) : Prop :=
  ∀ (pins : List (Addr × Obj)) (s : Shared) (σ : St) (H : Hp) (x : V) (xs : List V) (v : Value) (us : List Value) (Q : VK), Inv X pins σ H s → RelV x v → Vals xs us → r x xs H Q →
    wpAny (model X.prog X.w) X.A (call (.builtin id) (v :: us)) (EP X pins σ Q) X.xe s
section
variable {X : Cx} {a b : Expr} {ta tb : TE} {pos : Pos}
theorem pe_ix {r : R2} (hr : IxR X r) (ha : PE X a ta) (hb : PE X b tb) (hs : PlainIx b) : PE X (.Subscript a b pos) (tOp r ta tb) := by
  intro pins s σ H Q I h
  exact Subscript_ (binT ha hb I h fun v u s2 x y H2 I2 rx ry q => hr a b pins s2 σ H2 x y v u Q I2 rx ry q (hs _ _))
noncomputable def rIxL (K : PySem.W.Frag) : R2 := fun x y H Q => ∃ p xs i v, x = .ref p ∧ y = .int i ∧ SqL K H p xs ∧ atI xs i = some v ∧ Q v H
noncomputable def rIxT (K : PySem.W.Frag) : R2 := fun x y H Q => ∃ p xs i v, x = .ref p ∧ y = .int i ∧ SqT K H p xs ∧ atI xs i = some v ∧ Q v H
theorem ix_list : IxR X (rIxL X.K) := by
  intro value slice pins s σ H x y v u Q I rx ry h hs
  obtain ⟨p, xs, i, z, rfl, rfl, hq, he, q⟩ := h
  cases rx
  obtain ⟨t, rfl⟩ := ry
  obtain ⟨its, r, pl, hz⟩ := I.list hq
  obtain ⟨j, h1, h2, h3, h4, h5⟩ := atI_get he
  obtain ⟨w, ew, rw'⟩ := r.get h2
  have hl := r.length
  have hn := line63
  have fin : EP X pins σ Q w s := ⟨z, H, I, rw', q⟩
  by_cases h0 : 0 ≤ i
  · have hj : i.toNat = j := by
      rw [seqIndex_of h0 h5] at h1
      exact Option.some.inj h1
    exact item_listR pl.isList h0 (by omega) (by rw [hj]; simpa using ew) fin hs
  · have hj : (i + (its.toArray.size : Int)).toNat = j := by
      rw [seqIndex_neg (by omega) h4] at h1
      rw [List.size_toArray, ← hl]
      exact Option.some.inj h1
    exact subscriptTail_builtinR (x := w) pl.isList.typeIs slot_list_getitem.lookup
      (wpAny_getItem_list_neg (Q := fun r s' => r = w ∧ EP X pins σ Q r s') pl.isList (by omega) (by rw [List.size_toArray] <;> omega) (by omega) (by rw [hj]; simpa using ew) ⟨rfl, fin⟩) hs
theorem ix_tup : IxR X (rIxT X.K) := by
  intro value slice pins s σ H x y v u Q I rx ry h hs
  obtain ⟨p, xs, i, z, rfl, rfl, hq, he, q⟩ := h
  cases rx
  obtain ⟨t, rfl⟩ := ry
  obtain ⟨its, r, pl, hz⟩ := I.tuple hq
  obtain ⟨j, h1, h2, h3, h4, h5⟩ := atI_get he
  obtain ⟨w, ew, rw'⟩ := r.get h2
  have hl := r.length
  have hn := line63
  have fin : EP X pins σ Q w s := ⟨z, H, I, rw', q⟩
  exact subscriptTail_builtinR (x := w) pl.typeIs slot_tuple_getitem.lookup
    (getItem_tuple (j := j) (Q := fun r s' => r = w ∧ EP X pins σ Q r s') pl (by omega) (by omega) (by rw [List.size_toArray, ← hl]; exact h1) (by simpa using ew) ⟨rfl, fin⟩) hs
theorem mapSeq_set (its : List Value) (n j : Nat) (u : Value) : Obj.mapSeq (·.setIfInBounds j u) { cls := .type "list", data := .seq its.toArray n } = { cls := .type "list", data := .seq (its.set j u).toArray n } := by
  simp [Obj.mapSeq]
theorem Inv.lst {pins : List (Addr × Obj)} {σ : St} {H : Hp} {s : Shared} {p : Addr} {xs : List V} (I : Inv X pins σ H s) (h : H p = some (.lst xs)) :
    ∃ (its : List Value) (n : Nat), Vals xs its ∧ s.heap.get? p = some { cls := .type "list", data := .seq its.toArray n } ∧ xs.length ≤ sizeLine := by
  obtain ⟨z, its, n, r, e⟩ := I.hok p _ h
  exact ⟨its, n, r, e, z⟩
theorem Inv.lstUpd {pins : List (Addr × Obj)} {σ : St} {H : Hp} {s : Shared} {p : Addr} {xs ys : List V} {its its' : List Value} {n n' : Nat} {f : Obj → Obj} (I : Inv X pins σ H s) (h : H p = some (.lst xs))
    (ho : s.heap.get? p = some { cls := .type "list", data := .seq its.toArray n }) (hf : f { cls := .type "list", data := .seq its.toArray n } = { cls := .type "list", data := .seq its'.toArray n' }) (r : Vals ys its') (hz : ys.length ≤ sizeLine) (t : Nat) :
    Inv X pins σ (upd H p (.lst ys)) { s with heap := s.heap.update p f, toks := t } := by
  have e : (s.heap.update p f).get? p = some { cls := .type "list", data := .seq its'.toArray n' } := by
    rw [Heap.get?_update_self f ho (by rw [hf] <;> rfl), hf]
  refine I.write (x := p) (e := p) (by rw [h]; trivial) (.inl rfl) (fun b u hb q => (Heap.get?_update_other _ _ (Ne.symm hb)).trans q) ⟨_, e⟩ ?_
  exact ⟨hz, its', n', r, e⟩
noncomputable def rSetL : V → V → V → Hp → (Hp → Prop) → Prop := fun o i v H Q => ∃ p xs k j, o = .ref p ∧ i = .int k ∧ H p = some (.lst xs) ∧ ixN xs.length k = some j ∧ Q (upd H p (.lst (xs.set j v)))
theorem set_list : PSet X rSetL := by
  intro pins s σ H o i v ov iv u Q I ro ri rv h
  obtain ⟨p, xs, k, j, rfl, rfl, hp, hj, q⟩ := h
  cases ro
  obtain ⟨t, rfl⟩ := ri
  obtain ⟨its, n, r, ho, hz⟩ := I.lst hp
  obtain ⟨h1, h2, h3, h4⟩ := ixN_seq hj
  have hl := r.length
  have hn := line63
  have I' : Inv X pins σ (upd H p (.lst (xs.set j v))) { s with heap := s.heap.update p (Obj.mapSeq (·.setIfInBounds j u)) } :=
    I.lstUpd hp ho (mapSeq_set its n j u) (r.set rv j) (by rw [List.length_set]; exact hz) s.toks
  by_cases h0 : 0 ≤ k
  · have hk : k.toNat = j := by
      rw [seqIndex_of h0 h4] at h1
      exact Option.some.inj h1
    exact PySem.W.ki_setAt ho h0 (by omega) (by rw [List.size_toArray, ← hl]; exact h4) (by rw [hk]; exact ⟨_, I', q⟩)
  · have hk : (k + (its.toArray.size : Int)).toNat = j := by
      rw [seqIndex_neg (by omega) h3] at h1
      rw [List.size_toArray, ← hl]
      exact Option.some.inj h1
    exact PySem.W.ki_setBack ho (by omega) (by rw [List.size_toArray, ← hl]; exact h3) (by omega) (by rw [hk]; exact ⟨_, I', q⟩)
theorem slice_bounds (lo hi : Option Int) (n : Nat) : (sliceBounds lo hi none n).1 = ((HT.sIx n 0 lo : Nat) : Int) ∧ (sliceBounds lo hi none n).2.1 = ((HT.sIx n n hi : Nat) : Int) ∧ (sliceBounds lo hi none n).2.2 = 1 := by
  refine ⟨?_, ?_, rfl⟩
  · cases lo with
    | none => simp [sliceBounds, HT.sIx]
    | some i =>
      simp only [sliceBounds, HT.sIx, Option.getD_none, show (1 : Int) > 0 by decide, if_true]
      by_cases h : i < 0
      · simp only [h, if_true] <;> omega
      · simp only [h, if_false] <;> omega
  · cases hi with
    | none => simp [sliceBounds, HT.sIx]
    | some i =>
      simp only [sliceBounds, HT.sIx, Option.getD_none, show (1 : Int) > 0 by decide, if_true]
      by_cases h : i < 0
      · simp only [h, if_true] <;> omega
      · simp only [h, if_false] <;> omega
theorem slicePick_cut (its : List Value) (lo hi : Option Int) : slicePick its.toArray lo hi none = ((its.drop (HT.sIx its.length 0 lo)).take (HT.sIx its.length its.length hi - HT.sIx its.length 0 lo)).toArray := by
  obtain ⟨h1, h2, h3⟩ := slice_bounds lo hi its.toArray.size
  unfold slicePick
  rw [h1, h2, h3]
  simp only [sliceRange_one, pick_run, List.size_toArray] <;> rfl
noncomputable def rSlL (K : PySem.W.Frag) : V → Option Int → Option Int → Hp → VK → Prop := fun x lo hi H Q => ∃ a xs, x = .ref a ∧ SqL K H a xs ∧ ∀ p, H p = none → Q (.ref p) (upd H p (.lst (cutV xs lo hi)))
theorem sl_list : SlR X (rSlL X.K) := by
  intro pins s σ H x v vl vu lo hi sl Q I rx hs pl pu h
  obtain ⟨a, xs, rfl, hx, q⟩ := h
  cases rx
  obtain ⟨its, r, ht, hz⟩ := I.list hx
  have hlen := r.length
  refine ⟨"list", _, slot_list_getitem.lookup, ht.isList.typeIs, ?_⟩
  refine wpAny_getItem_list_slice ht.isList hs pl pu .none (by simp) ?_ (by rw [List.size_toArray] <;> omega)
  rw [slicePick_cut, ← hlen]
  refine ⟨.ref s.heap.objs.size, _, I.laid (t' := s.toks) (o := .lst (cutV xs lo hi)) (fun b ob q => Heap.get?_push_of_some _ q) (Nat.le_refl _) ?_, rfl, q _ (I.hok.fresh (Nat.le_refl _))⟩
  exact ⟨Nat.le_trans (cutV_length xs lo hi) hz, _, 0, (r.drop (HT.sIx xs.length 0 lo)).take (HT.sIx xs.length xs.length hi - HT.sIx xs.length 0 lo), Heap.get?_push_size _ rfl⟩
noncomputable def flatV : V → Bool
  | .non => true
  | .bl _ => true
  | .int _ => true
  | .str _ => true
  | _ => false
noncomputable def eqV : V → V → Bool
  | .non, .non => true
  | .bl a, .bl b => a == b
  | .bl a, .int b => (if a then 1 else 0) == b
  | .int a, .bl b => a == (if b then 1 else 0)
  | .int a, .int b => a == b
  | .str a, .str b => a == b
  | _, _ => false
theorem eqAt_V {A : Around} {s : Shared} {y x : V} {u v : Value} (ry : RelV y u) (rx : RelV x v) (fy : flatV y = true) (fx : flatV x = true) : SeqAt.EqAt A s u v (eqV y x) := by
  cases y with
  | non =>
    cases ry
    cases x with
    | non => cases rx; exact SeqAt.EqAt.same _
    | bl b => cases rx; exact SeqAt.EqAt.none_bool b
    | int b => obtain ⟨t, rfl⟩ := rx; exact SeqAt.EqAt.none_int b t
    | str b => obtain ⟨t, rfl⟩ := rx; exact SeqAt.EqAt.none_str b t
    | _ => exact absurd (show false = true from fx) Bool.false_ne_true
  | bl a =>
    cases ry
    cases x with
    | non => cases rx; exact SeqAt.EqAt.bool_none a
    | bl b => cases rx; exact SeqAt.EqAt.bool_bool a b
    | int b => obtain ⟨t, rfl⟩ := rx; exact SeqAt.EqAt.bool_int a b t
    | str b => obtain ⟨t, rfl⟩ := rx; exact SeqAt.EqAt.bool_str a b t
    | _ => exact absurd (show false = true from fx) Bool.false_ne_true
  | int a =>
    obtain ⟨t', rfl⟩ := ry
    cases x with
    | non => cases rx; exact SeqAt.EqAt.int_none a t'
    | bl b => cases rx; exact SeqAt.EqAt.int_bool a t' b
    | int b => obtain ⟨t, rfl⟩ := rx; exact SeqAt.EqAt.int_int a t' b t
    | str b => obtain ⟨t, rfl⟩ := rx; exact SeqAt.EqAt.int_str a t' b t
    | _ => exact absurd (show false = true from fx) Bool.false_ne_true
  | str a =>
    obtain ⟨t', rfl⟩ := ry
    cases x with
    | non => cases rx; exact SeqAt.EqAt.str_none a t'
    | bl b => cases rx; exact SeqAt.EqAt.str_bool a t' b
    | int b => obtain ⟨t, rfl⟩ := rx; exact SeqAt.EqAt.str_int a t' b t
    | str b => obtain ⟨t, rfl⟩ := rx; exact SeqAt.EqAt.str_str a t' b t
    | _ => exact absurd (show false = true from fx) Bool.false_ne_true
  | _ => exact absurd (show false = true from fy) Bool.false_ne_true
noncomputable def eqU (x : V) (u : Value) : Bool := match u with
  | .none => eqV .non x
  | .bool b => eqV (.bl b) x
  | .int i _ => eqV (.int i) x
  | .str z _ => eqV (.str z) x
  | _ => false
theorem eqU_of {x y : V} {u : Value} (r : RelV y u) (f : flatV y = true) : eqU x u = eqV y x := by
  cases y with
  | non => cases r; rfl
  | bl b => cases r; rfl
  | int i => obtain ⟨t, rfl⟩ := r; rfl
  | str z => obtain ⟨t, rfl⟩ := r; rfl
  | _ => exact absurd (show false = true from f) Bool.false_ne_true
theorem any_eqU {x : V} : ∀ {xs : List V} {us : List Value}, Vals xs us → xs.all flatV = true → us.any (eqU x) = xs.any fun y => eqV y x := by
  intro xs us h
  induction h with
  | nil => intro _; rfl
  | cons r t ih =>
    intro f
    rw [List.all_cons, Bool.and_eq_true] at f
    rw [List.any_cons, List.any_cons, eqU_of r f.1, ih f.2]
theorem mem_eqAt {A : Around} {s : Shared} {x : V} {v : Value} (rx : RelV x v) (fx : flatV x = true) : ∀ {xs : List V} {us : List Value}, Vals xs us → xs.all flatV = true → ∀ u ∈ us, SeqAt.EqAt A s u v (eqU x u) := by
  intro xs us h
  induction h with
  | nil => intro _ u hu; cases hu
  | cons r t ih =>
    intro f u' hu
    rw [List.all_cons, Bool.and_eq_true] at f
    rcases List.mem_cons.mp hu with rfl | hu
    · rw [eqU_of r f.1]; exact eqAt_V r rx f.1 fx
    · exact ih f.2 u' hu
noncomputable def inV (x : V) (xs : List V) : Bool := xs.any fun y => eqV y x
noncomputable def rIn (K : PySem.W.Frag) (neg : Bool) : R2 := fun x y H Q => ∃ p xs, y = .ref p ∧ (SqL K H p xs ∨ SqT K H p xs) ∧ flatV x = true ∧ xs.all flatV = true ∧ Q (.bl (if neg then !inV x xs else inV x xs)) H
theorem op_in_seq : OpR X (compareOp .In) (rIn X.K false) := by
  intro pins s σ H x y v u Q I rx ry h
  obtain ⟨p, xs, rfl, hq, fx, fs, q⟩ := h
  cases ry
  rcases hq with hq | hq
  · obtain ⟨its, r, pl, hz⟩ := I.list hq
    refine SeqAt.in_listAt (eqU x) pl.isList (fun w hw => mem_eqAt rx fx r fs w (by simpa using hw)) ⟨.bl _, H, I, rfl, ?_⟩
    rw [show its.toArray.any (eqU x) = its.any (eqU x) by simp, any_eqU r fs]
    exact q
  · obtain ⟨its, r, pl, hz⟩ := I.tuple hq
    refine SeqAt.in_tupleAt (eqU x) pl (fun w hw => mem_eqAt rx fx r fs w (by simpa using hw)) ⟨.bl _, H, I, rfl, ?_⟩
    rw [show its.toArray.any (eqU x) = its.any (eqU x) by simp, any_eqU r fs]
    exact q
theorem op_notIn_seq : OpR X (compareOp .NotIn) (rIn X.K true) := by
  intro pins s σ H x y v u Q I rx ry h
  obtain ⟨p, xs, rfl, hq, fx, fs, q⟩ := h
  cases ry
  rcases hq with hq | hq
  · obtain ⟨its, r, pl, hz⟩ := I.list hq
    refine SeqAt.notIn_listAt (eqU x) pl.isList (fun w hw => mem_eqAt rx fx r fs w (by simpa using hw)) ⟨.bl _, H, I, rfl, ?_⟩
    rw [show its.toArray.any (eqU x) = its.any (eqU x) by simp, any_eqU r fs]
    exact q
  · obtain ⟨its, r, pl, hz⟩ := I.tuple hq
    refine SeqAt.notIn_tupleAt (eqU x) pl (fun w hw => mem_eqAt rx fx r fs w (by simpa using hw)) ⟨.bl _, H, I, rfl, ?_⟩
    rw [show its.toArray.any (eqU x) = its.any (eqU x) by simp, any_eqU r fs]
    exact q
theorem call_list_of : CallR X (.type "list") (fun xs H Q => ∃ p ys, xs = [.ref p] ∧ (SqL X.K H p ys ∨ SqT X.K H p ys) ∧ ∀ l, H l = none → Q (.ref l) (upd H l (.lst ys))) := by
  intro pins s σ H xs us Q I r h
  obtain ⟨p, ys, rfl, hq, q⟩ := h
  obtain ⟨u, rfl, rx⟩ := vals1 r
  cases rx
  have fin : ∀ (its : List Value), Vals ys its → ys.length ≤ sizeLine → ∀ (h' : Heap) (c' : Nat), (∀ b o', s.heap.get? b = some o' → h'.get? b = some o') →
      h'.get? s.heap.objs.size = some { cls := .type "list", dict := none, data := .seq its.toArray c', slots := #[] } → EP X pins σ Q (.ref s.heap.objs.size) { s with heap := h' } := fun its r' hz h' c' kp e =>
    ⟨.ref s.heap.objs.size, _, I.laid (t' := s.toks) kp (Nat.le_refl _) (show ObjOk X.prog X.w _ h' _ (.lst ys) from ⟨hz, its, c', r', e⟩), rfl, q _ (I.hok.fresh (Nat.le_refl _))⟩
  rcases hq with hq | hq
  · obtain ⟨its, r', pl, hz⟩ := I.list hq
    have hlen := r'.length
    obtain ⟨o, ho, hc, n, hd⟩ := pl.isList
    exact call_list_seq p (.inl rfl) ho hc hd (fun h' c' kp e => fin its r' hz h' c' kp e) (by simp only [List.size_toArray] <;> omega)
  · obtain ⟨its, r', pl, hz⟩ := I.tuple hq
    have hlen := r'.length
    obtain ⟨o, ho, hc, n, hd⟩ := pl
    exact call_list_seq p (.inr rfl) ho hc hd (fun h' c' kp e => fin its r' hz h' c' kp e) (by simp only [List.size_toArray] <;> omega)
theorem call_tuple_of : CallR X (.type "tuple") (fun xs H Q => ∃ p ys, xs = [.ref p] ∧ ((SqL X.K H p ys ∧ ∀ l, H l = none → Q (.ref l) (upd H l (.tup ys))) ∨ (SqT X.K H p ys ∧ Q (.ref p) H))) := by
  intro pins s σ H xs us Q I r h
  obtain ⟨p, ys, rfl, h⟩ := h
  obtain ⟨u, rfl, rx⟩ := vals1 r
  cases rx
  rcases h with ⟨hq, q⟩ | ⟨hq, q⟩
  · obtain ⟨its, r', pl, hz⟩ := I.list hq
    have hlen := r'.length
    refine call_tuple_list pl.isList (fun h' kp => ?_) (by simp only [List.size_toArray] <;> omega)
    have I1 : Inv X pins σ H { s with heap := h' } := I.kept (t' := s.toks) kp
    have I2 : Inv X pins σ (upd H h'.objs.size (.tup ys)) { s with heap := h'.push { cls := .type "tuple", data := .seq its.toArray } } :=
      I1.laid (t' := s.toks) (fun b o e => Heap.get?_push_of_some _ e) (Nat.le_refl _) (show ObjOk X.prog X.w _ _ _ (.tup ys) from ⟨hz, its, r', IsTup.new _ _⟩)
    exact ⟨.ref h'.objs.size, _, I2, rfl, q _ (I1.hok.fresh (Nat.le_refl _))⟩
  · obtain ⟨its, r', pl, hz⟩ := I.tuple hq
    exact call_tuple_same pl ⟨.ref p, H, I, rfl, q⟩
noncomputable def tyV (K : PySem.W.Frag) (T : String) (x : V) (H : Hp) : Prop := match x with
  | .str _ => T = "str"
  | .int _ => T = "int"
  | .ref p => (T = "list" ∧ ∃ xs, SqL K H p xs) ∨ (T = "tuple" ∧ ∃ o, K.lookup p = some o ∧ o.cls = .type "tuple" ∧ o.dict = none) ∨
      (T = "dict" ∧ ((∃ kvs, H p = some (.dK kvs)) ∨ ∃ kvs, H p = some (.dT kvs))) ∨ (T = "set" ∧ ∃ S n, H p = some (.set S n))
  | _ => False
theorem tyV_is {pins : List (Addr × Obj)} {σ : St} {H : Hp} {s : Shared} {T : String} {x : V} {v : Value} (I : Inv X pins σ H s) (r : RelV x v) (ty : tyV X.K T x H) :
    s.TypeIs v T ∧ ∀ a, v = .ref a → ∃ ob, s.heap.get? a = some ob ∧ ob.dict = none := by
  cases x with
  | str z =>
    obtain ⟨t, rfl⟩ := r
    cases (show T = "str" from ty)
    exact ⟨typeIs_str s z t, fun _ e => nomatch e⟩
  | int i =>
    obtain ⟨t, rfl⟩ := r
    cases (show T = "int" from ty)
    exact ⟨typeIs_int s i t, fun _ e => nomatch e⟩
  | ref p =>
    cases r
    rcases ty with ⟨rfl, xs, hq⟩ | ⟨rfl, o, hk, hc, hd⟩ | ⟨rfl, hk⟩ | ⟨rfl, S, n, hk⟩
    · obtain ⟨its, _, pl, _⟩ := I.list hq
      refine ⟨pl.isList.typeIs, fun a e => ?_⟩
      cases e
      obtain ⟨o, n, e, c, hd, _⟩ := pl
      exact ⟨o, e, hd⟩
    · refine ⟨⟨o, I.kIn p o hk, hc⟩, fun a e => ?_⟩
      cases e
      exact ⟨o, I.kIn _ o hk, hd⟩
    · have z : ∃ o, s.heap.get? p = some o ∧ o.ExactDict := by
        rcases hk with ⟨kvs, hk⟩ | ⟨kvs, hk⟩
        · obtain ⟨_, _, _, _, o, _, _, e, ex, _⟩ := I.hok p _ hk
          exact ⟨o, e, ex⟩
        · obtain ⟨_, _, _, _, o, _, _, e, ex, _⟩ := I.hok p _ hk
          exact ⟨o, e, ex⟩
      obtain ⟨o, e, ex⟩ := z
      refine ⟨⟨o, e, ex.1⟩, fun a e2 => ?_⟩
      cases e2
      exact ⟨o, e, ex.2.1⟩
    · obtain ⟨o, _, _, _, e, ex, _⟩ := I.hok p _ hk
      refine ⟨⟨o, e, ex.1⟩, fun a e2 => ?_⟩
      cases e2
      exact ⟨o, e, ex.2.1⟩
  | _ => exact False.elim ty
noncomputable def tBM0 (K : PySem.W.Frag) (T : String) (r : V → List V → Hp → VK → Prop) (to : TE) : TE := fun σ H Q => to σ H fun x H1 => tyV K T x H1 ∧ r x [] H1 Q
noncomputable def tBM (K : PySem.W.Frag) (T : String) (r : V → List V → Hp → VK → Prop) (to : TE) (t : TA) : TE := fun σ H Q => to σ H fun x H1 => tyV K T x H1 ∧ t σ H1 fun xs H2 => r x xs H2 Q
variable {o e : Expr} {es : List Expr} {to : TE} {t : TA} {name : Str} {apos cpos : Pos} {T id : String} {r : V → List V → Hp → VK → Prop}
theorem pe_bm0 (pa : PlainAttrs T) (slot : Slot T name id) (hty : typeOf (.builtin id) = pure (.type "method_descriptor")) (hm : MtR X id r) (ho : PE X o to)
    (hbase : attributeBase o name X.env (eval o X.env) = eval o X.env := by rfl) (hline : (apos.endLine == cpos.line) = true := by rfl) : PE X (.Call (.Attribute o name apos) [] [] cpos) (tBM0 X.K T r to) := by
  intro pins s σ H Q I h
  refine wpAny_Call_method0_late hbase hline (thn (ho pins s σ H _ I h) fun v s1 hq__ => ?_)
  obtain ⟨x, H1, I1, r1, ty, q1⟩ := hq__
  obtain ⟨h1, h2⟩ := tyV_is I1 r1 ty
  exact ⟨T, id, pa, slot, hty, h1, h2, Calls.callWith_builtin rfl (PySem.evalArgs_none (hm pins s1 σ H1 x [] v [] Q I1 r1 .nil q1))⟩
theorem pe_bm (pa : PlainAttrs T) (slot : Slot T name id) (hty : typeOf (.builtin id) = pure (.type "method_descriptor")) (hm : MtR X id r) (ho : PE X o to) (ha : PA X (e :: es) t)
    (hbase : attributeBase o name X.env (eval o X.env) = eval o X.env := by rfl)
    (hfew : ((backTo cpos (starEach (e :: es) X.env)).all (fun x => !x.1) && (backToKw cpos (keywordEach [] X.env)).all (fun x => x.1.isSome)
      && decide ((e :: es).length + ([] : List Keyword).length + (if ([] : List Keyword).isEmpty then 0 else 1) < 30)) = true := by rfl)
    (hline : (apos.endLine == cpos.line) = true := by rfl) (hs : starEach (e :: es) X.env = (false, eval e X.env) :: starEach es X.env := by rfl) (hplain : (backTo cpos (starEach es X.env)).any (·.1) = false := by rfl) :
    PE X (.Call (.Attribute o name apos) (e :: es) [] cpos) (tBM X.K T r to t) := by
  intro pins s σ H Q I h
  refine wpAny_Call_method_late hbase hfew hline rfl (thn (ho pins s σ H _ I h) fun v s1 hq__ => ?_)
  obtain ⟨x, H1, I1, r1, ty, q1⟩ := hq__
  obtain ⟨h1, h2⟩ := tyV_is I1 r1 ty
  refine ⟨T, id, pa, slot, hty, h1, h2, ?_⟩
  have hA := ha cpos pins s1 σ H1 _ I1 q1
  rw [hs] at hA ⊢
  refine Calls.callWith_builtin (by show (false || (backTo cpos (starEach es X.env)).any (·.1)) = false; rw [hplain] <;> rfl) (Calls.evalArgs_plain ?_)
  exact thn hA fun us s2 ⟨vs, H2, I2, r2, q2⟩ => hm pins s2 σ H2 x vs v us Q I2 r1 r2 q2
/- xs.append(e), list.index on a module's tuple .. are MtR facts of 06m -/
end
end L2
namespace L2
open PySem PySem.Spec PyProof.Rows
noncomputable def MtM (X : Cx) (id : String) (r : V → List V → Hp → VK → Prop) : Prop :=
  ∀ (pins : List (Addr × Obj)) (s : Shared) (σ : St) (H : Hp) (x : V) (xs : List V) (v : Value) (us : List Value) (Q : VK), Inv X pins σ H s → RelV x v → Vals xs us → r x xs H Q →
    wpAny (model X.prog X.w) X.A (call (.builtin id) (v :: us)) (EP X pins σ Q) X.xe s
theorem Vals.one : ∀ {x : V} {us : List Value}, Vals [x] us → ∃ u, us = [u] ∧ RelV x u := by
  intro x us h
  cases h with
  | cons r t => cases t; exact ⟨_, rfl, r⟩
theorem Vals.two {x y : V} {us : List Value} (h : Vals [x, y] us) : ∃ u v, us = [u, v] ∧ RelV x u ∧ RelV y v := vals2 h
theorem Vals.zero : ∀ {us : List Value}, Vals [] us → us = []
  | _, .nil => rfl
theorem Vals.eraseIdx : ∀ {xs : List V} {us : List Value} (i : Nat), Vals xs us → Vals (xs.eraseIdx i) (us.eraseIdx i)
  | _, _, _, .nil => .nil
  | _, _, 0, .cons _ t => t
  | _, _, i + 1, .cons r t => .cons r (Vals.eraseIdx i t)
theorem Vals.rep {xs : List V} {us : List Value} (h : Vals xs us) : ∀ k : Nat, Vals (List.replicate k xs).flatten (List.replicate k us).flatten
  | 0 => .nil
  | k + 1 => by
    rw [List.replicate_succ, List.replicate_succ, List.flatten_cons, List.flatten_cons]
    exact Vals.append h (Vals.rep h k)
theorem foldl_rep (its : List Value) (k : Nat) (acc : List Value) : List.foldl (fun x1 x2 => x1 ++ x2) acc.toArray (List.replicate k its.toArray) = (acc ++ (List.replicate k its).flatten).toArray := by
  induction k generalizing acc with
  | zero => simp
  | succ k ih =>
    have e : acc.toArray ++ its.toArray = (acc ++ its).toArray := by simp
    have e2 : (acc ++ its) ++ (List.replicate k its).flatten = acc ++ (List.replicate (k + 1) its).flatten := by
      rw [List.replicate_succ, List.flatten_cons, List.append_assoc]
    rw [← e2, ← ih (acc ++ its), ← e, List.replicate_succ, List.foldl_cons]
section
variable {X : Cx} {pins : List (Addr × Obj)} {σ : St} {H : Hp} {s : Shared} {l b : Addr} {xs ys zs : List V}
theorem Inv.lset {its its' : List Value} {n : Nat} {f : Array Value → Array Value} {t' : Nat} (I : Inv X pins σ H s) (hH : H l = some (.lst xs))
    (e : s.heap.get? l = some { cls := .type "list", data := .seq its.toArray n }) (hf : f its.toArray = its'.toArray) (hv : Vals ys its') (hz : ys.length ≤ sizeLine) :
    Inv X pins σ (upd H l (.lst ys)) { s with heap := s.heap.update l (Obj.mapSeq f), toks := t' } := by
  have q := PySem.IsL.update e f
  rw [hf] at q
  refine I.write (x := l) (e := l) (by rw [hH]; exact trivial) (.inl rfl) (fun b' u hb hu => (Heap.get?_update_other s.heap (Obj.mapSeq f) (Ne.symm hb)).trans hu) ⟨_, q⟩ ?_
  exact ⟨hz, its', _, hv, q⟩
theorem Inv.lnew {its : List Value} {t' : Nat} (I : Inv X pins σ H s) (hv : Vals ys its) (hz : ys.length ≤ sizeLine) :
    Inv X pins σ (upd H s.heap.objs.size (.lst ys)) { s with heap := s.heap.push { cls := .type "list", data := .seq its.toArray }, toks := t' } :=
  I.laid (fun _ _ q => Heap.get?_push_of_some _ q) (Nat.le_refl _) ⟨hz, its, 0, hv, Heap.get?_push_size _ rfl⟩
theorem Inv.fresh (I : Inv X pins σ H s) : H s.heap.objs.size = none := I.hok.fresh (Nat.le_refl _)
theorem Inv.lstM (I : Inv X pins σ H s) (hH : H l = some (.lst xs)) : xs.length ≤ sizeLine ∧ ∃ (its : List Value) (n : Nat), Vals xs its ∧ xs.length = its.length ∧ s.heap.get? l = some { cls := .type "list", data := .seq its.toArray n } := by
  obtain ⟨z, its, n, r, e⟩ := I.hok l _ hH
  exact ⟨z, its, n, r, r.length, e⟩
theorem notLongL {n : Nat} (h : n ≤ sizeLine) : Builtin.List.listTooLong n = false := by
  unfold Builtin.List.listTooLong
  exact decide_eq_false (by omega)
end
section
variable {X : Cx}
noncomputable def rAppend : V → List V → Hp → VK → Prop := fun x vs H Q => ∃ l xs y, x = .ref l ∧ vs = [y] ∧ H l = some (.lst xs) ∧ xs.length < sizeLine ∧ Q .non (upd H l (.lst (xs ++ [y])))
theorem mt_append : MtM X "list.append" rAppend := by
  intro pins s σ H x vs v us Q I rx rv h
  obtain ⟨l, xs, y, rfl, rfl, hH, hz, q⟩ := h
  cases rx
  obtain ⟨u, rfl, ru⟩ := rv.one
  obtain ⟨z, its, n, r, hl, e⟩ := I.lstM hH
  refine call_meets F.slot_list_append ⟨_, e, rfl⟩ F.entry_list_append (F.args_list_append_2 _ _) (PySem.list_append l its.toArray n u (by rw [List.size_toArray]; omega)) ⟨e, ?_⟩
  refine ⟨.non, _, I.lset (its' := its ++ [u]) hH e (by simp) (r.append (.cons ru .nil)) ?_, rfl, q⟩
  rw [List.length_append, List.length_singleton]
  omega
noncomputable def rExtend : V → List V → Hp → VK → Prop := fun x vs H Q => ∃ l b xs zs, x = .ref l ∧ vs = [.ref b] ∧ H l = some (.lst xs) ∧ H b = some (.lst zs) ∧ xs.length + zs.length ≤ sizeLine ∧ Q .non (upd H l (.lst (xs ++ zs)))
theorem mt_extend : MtM X "list.extend" rExtend := by
  intro pins s σ H x vs v us Q I rx rv h
  obtain ⟨l, b, xs, zs, rfl, rfl, hH, hB, hz, q⟩ := h
  cases rx
  obtain ⟨u, rfl, ru⟩ := rv.one
  cases ru
  obtain ⟨z, its, n, r, hl, e⟩ := I.lstM hH
  obtain ⟨z2, its2, n2, r2, hl2, e2⟩ := I.lstM hB
  have hsz : its.toArray.size + its2.toArray.size ≤ sizeLine := by rw [List.size_toArray, List.size_toArray]; omega
  have hlong : ¬ (!its.toArray.isEmpty && Builtin.List.listTooLong (its.toArray.size + its2.toArray.size)) = true := by
    rw [notLongL hsz, Bool.and_false]
    exact Bool.false_ne_true
  refine call_meets F.slot_list_extend ⟨_, e, rfl⟩ F.entry_list_extend (F.args_list_extend_2 _ _)
    (AutoSeq1.list_extend_list_list_0 l its.toArray n b its2.toArray n2 hlong (by rw [List.size_toArray]; omega) (by omega)) ⟨e, e2, ?_⟩
  refine ⟨.non, _, I.lset (its' := its ++ its2) hH e (by simp) (r.append r2) ?_, rfl, q⟩
  rw [List.length_append]
  omega
noncomputable def rCat : R2 := fun x y H Q => ∃ l b xs zs, x = .ref l ∧ y = .ref b ∧ H l = some (.lst xs) ∧ H b = some (.lst zs) ∧ xs.length + zs.length ≤ sizeLine ∧ ∀ p, H p = none → Q (.ref p) (upd H p (.lst (xs ++ zs)))
theorem op_cat : OpR X (binaryOp .Add) rCat := by
  intro pins s σ H x y v u Q I rx ry h
  obtain ⟨l, b, xs, zs, rfl, rfl, hH, hB, hz, q⟩ := h
  cases rx
  cases ry
  obtain ⟨z, its, n, r, hl, e⟩ := I.lstM hH
  obtain ⟨z2, its2, n2, r2, hl2, e2⟩ := I.lstM hB
  refine PySem.P.add_list e e2 ?_ (by rw [List.size_toArray, List.size_toArray]; omega)
  have ea : its.toArray ++ its2.toArray = (its ++ its2).toArray := by simp
  rw [ea]
  exact ⟨.ref _, _, I.lnew (t' := s.toks) (r.append r2) (by rw [List.length_append]; omega), rfl, q _ I.fresh⟩
noncomputable def rRep : R2 := fun x y H Q => ∃ l k xs, x = .ref l ∧ y = .int k ∧ H l = some (.lst xs) ∧ -(2 ^ 63) ≤ k ∧ k < 2 ^ 63 ∧ xs.length * k.toNat ≤ sizeLine ∧
  ∀ p, H p = none → Q (.ref p) (upd H p (.lst (List.replicate k.toNat xs).flatten))
theorem len_rep {α : Type} (xs : List α) (k : Nat) : (List.replicate k xs).flatten.length = k * xs.length := by
  induction k with
  | zero => simp
  | succ k ih => rw [List.replicate_succ, List.flatten_cons, List.length_append, ih, Nat.succ_mul, Nat.add_comm]
theorem op_rep : OpR X (binaryOp .Mult) rRep := by
  intro pins s σ H x y v u Q I rx ry h
  obtain ⟨l, k, xs, rfl, rfl, hH, h1, h2, hz, q⟩ := h
  cases rx
  obtain ⟨t, rfl⟩ := ry
  obtain ⟨z, its, n, r, hl, e⟩ := I.lstM hH
  have hlen : its.toArray.size * k.toNat ≤ sizeLine := by rw [List.size_toArray, ← hl]; exact hz
  have hcap : ¬ its.toArray.size * k.toNat > (2 ^ 63 - 1) / 8 := by
    have : (sizeLine : Nat) ≤ (2 ^ 63 - 1) / 8 := by decide
    omega
  have hfit : ¬ (!Builtin.List.listFitsIndex k) = true := by
    rw [fitsIndex_both h1 h2]
    exact Bool.false_ne_true
  have hlong : ¬ Builtin.List.listTooLong (its.toArray.size * k.toNat) = true := by
    rw [notLongL hlen]
    exact Bool.false_ne_true
  have hnew : List.foldl (fun x1 x2 => x1 ++ x2) #[] (List.replicate (if its.toArray.isEmpty = true then 0 else k.toNat) its.toArray) = (List.replicate k.toNat its).flatten.toArray := by
    have f0 : ∀ m : Nat, List.foldl (fun x1 x2 => x1 ++ x2) #[] (List.replicate m its.toArray) = (List.replicate m its).flatten.toArray := fun m => by
      have := foldl_rep its m []
      rw [List.nil_append] at this
      exact this
    rw [f0]
    cases its with
    | nil => simp
    | cons a r' => rw [if_neg (by simp)]
  refine wpAny_binaryOp_repeat_ref (T := "list") (U := "int") (by decide) ⟨_, e, rfl⟩ (fun s' => typeIs_int s' k t) noFill_list_mul F.fills_int_mul F.slot_int_rmul repeat_list F.slot_int_index.lookup
    (call_meets F.slot_int_rmul (typeIs_int s k t) F.entry_int_rmul (F.args_int_rmul_2 _ _) (int___rmul___int_list k t l its.toArray n)
      ⟨e, rfl, ⟨_, e, rfl⟩, call_meets F.slot_list_mul ⟨_, e, rfl⟩ F.entry_list_mul (F.args_list_mul_2 _ _) (AutoListH.list___mul___list_int_3 l its.toArray n k t hfit hcap hlong) ⟨e, ?_⟩⟩)
  rw [hnew]
  exact ⟨.ref _, _, I.lnew (t' := s.toks) (r.rep k.toNat) (by rw [len_rep, Nat.mul_comm]; exact hz), rfl, q _ I.fresh⟩
end
section
variable {prog : Program} {w : World} {A : Around} {E : Value → Shared → Prop} {s : Shared}
end
section
variable {X : Cx}
end
end L2
namespace L2
open PySem PySem.Spec PyProof.Rows
section
variable {κ : Type} [DecidableEq κ]
noncomputable def valV (kvs : List (κ × V)) (k : κ) : Option V := (kvs.find? fun kv => decide (kv.1 = k)).map (·.2)
noncomputable def putK (kvs : List (κ × V)) (k : κ) (v : V) : List (κ × V) :=
  if (kvs.any fun kv => decide (kv.1 = k)) = true then kvs.map (fun kv => if kv.1 = k then (kv.1, v) else kv) else kvs ++ [(k, v)]
noncomputable def dropK (kvs : List (κ × V)) (k : κ) : List (κ × V) := kvs.filter fun kv => decide (kv.1 ≠ k)
theorem valV_pos {p : κ × V} {r : List (κ × V)} {k : κ} (e : p.1 = k) : valV (p :: r) k = some p.2 := by simp [valV, List.find?_cons, e]
theorem valV_neg {p : κ × V} {r : List (κ × V)} {k : κ} (e : ¬ p.1 = k) : valV (p :: r) k = valV r k := by simp [valV, List.find?_cons, e]
theorem valV_any (k : κ) (kvs : List (κ × V)) : (kvs.any fun kv => decide (kv.1 = k)) = (valV kvs k).isSome := by
  induction kvs with
  | nil => rfl
  | cons p r ih =>
    rw [List.any_cons]
    by_cases e : p.1 = k
    · simp only [valV_pos e, decide_eq_true e, Bool.true_or, Option.isSome_some]
    · rw [valV_neg e, decide_eq_false e, Bool.false_or]; exact ih
theorem valV_map (k j : κ) (y : V) (kvs : List (κ × V)) : valV (kvs.map fun kv => if kv.1 = k then (kv.1, y) else kv) j = (valV kvs j).map fun x => if j = k then y else x := by
  induction kvs with
  | nil => rfl
  | cons p r ih =>
    rw [List.map_cons]
    by_cases h : p.1 = k
    · rw [if_pos h]
      by_cases e : p.1 = j
      · rw [valV_pos (p := (p.1, y)) e, valV_pos e, Option.map_some, if_pos (e.symm.trans h)]
      · rw [valV_neg (p := (p.1, y)) e, valV_neg e, ih]
    · rw [if_neg h]
      by_cases e : p.1 = j
      · rw [valV_pos (p := p) e, valV_pos e, Option.map_some, if_neg (fun z => h (e.trans z))]
      · rw [valV_neg (p := p) e, valV_neg e, ih]
theorem valV_snoc (k j : κ) (y : V) : ∀ kvs : List (κ × V), valV kvs k = none → valV (kvs ++ [(k, y)]) j = if j = k then some y else valV kvs j := by
  intro kvs
  induction kvs with
  | nil =>
    intro _
    by_cases e : k = j
    · rw [if_pos e.symm]; exact valV_pos (p := (k, y)) e
    · rw [if_neg (fun z => e z.symm)]; exact valV_neg (p := (k, y)) e
  | cons p r ih =>
    intro hn
    rw [List.cons_append]
    have hk : ¬ p.1 = k := fun z => by rw [valV_pos z] at hn; cases hn
    rw [valV_neg hk] at hn
    have ih := ih hn
    by_cases e : p.1 = j
    · rw [valV_pos e, valV_pos e, if_neg (fun z => hk (e.trans z))]
    · rw [valV_neg e, valV_neg e, ih]
theorem valV_put (kvs : List (κ × V)) (k j : κ) (y : V) : valV (putK kvs k y) j = if j = k then some y else valV kvs j := by
  unfold putK
  by_cases a : (kvs.any fun kv => decide (kv.1 = k)) = true
  · rw [if_pos a, valV_map]
    rw [valV_any] at a
    by_cases e : j = k
    · obtain ⟨x, hx⟩ := Option.isSome_iff_exists.mp a
      rw [if_pos e, e, hx, Option.map_some, if_pos rfl]
    · rw [if_neg e]
      cases valV kvs j with
      | none => rfl
      | some x => rw [Option.map_some, if_neg e]
  · rw [if_neg a]
    refine valV_snoc k j y kvs ?_
    rw [valV_any] at a
    cases q : valV kvs k with
    | none => rfl
    | some x => rw [q] at a; exact (a rfl).elim
theorem length_putK (kvs : List (κ × V)) (k : κ) (v : V) : (putK kvs k v).length ≤ kvs.length + 1 := by
  unfold putK
  split
  · rw [List.length_map]; omega
  · rw [List.length_append, List.length_cons, List.length_nil]; omega
theorem putK_new {kvs : List (κ × V)} {k : κ} (v : V) (h : valV kvs k = none) : putK kvs k v = kvs ++ [(k, v)] := by
  unfold putK
  rw [valV_any, h]
  exact if_neg (by decide)
theorem RelO.isSome_eq {o : Option V} {u : Option Value} (r : RelO o u) : o.isSome = u.isSome := by
  cases o with
  | none => cases u with
    | none => rfl
    | some _ => exact (show False from r).elim
  | some _ => cases u with
    | none => exact (show False from r).elim
    | some _ => rfl
theorem RelO.getD {o : Option V} {u : Option Value} {d : V} {d' : Value} (r : RelO o u) (rd : RelV d d') : RelV (o.getD d) (u.getD d') := by
  cases o with
  | none => cases u with
    | none => exact rd
    | some _ => exact (show False from r).elim
  | some _ => cases u with
    | none => exact (show False from r).elim
    | some _ => exact r
theorem KV.val {kvs : List (κ × V)} {vs : List (κ × Value)} (r : KV kvs vs) (k : κ) : RelO (valV kvs k) (valueAt vs k) := by
  unfold KV at r
  induction r with
  | nil => exact True.intro
  | @cons p q ps qs h t ih =>
    obtain ⟨h1, h2⟩ := h
    by_cases e : p.1 = k
    · have e' : q.1 = k := h1.symm.trans e
      have b : valueAt (q :: qs) k = some q.2 := by simp [valueAt, List.find?_cons, e']
      rw [valV_pos e, b]; exact h2
    · have e' : ¬ q.1 = k := fun z => e (h1.trans z)
      have b : valueAt (q :: qs) k = valueAt qs k := by simp [valueAt, List.find?_cons, e']
      rw [valV_neg e, b]; exact ih
theorem KV.any {kvs : List (κ × V)} {vs : List (κ × Value)} (r : KV kvs vs) (k : κ) : (kvs.any fun kv => decide (kv.1 = k)) = vs.any fun kv => decide (kv.1 = k) := by
  unfold KV at r
  induction r with
  | nil => rfl
  | cons h t ih => rw [List.any_cons, List.any_cons, ih, h.1]
theorem KV.repl {kvs : List (κ × V)} {vs : List (κ × Value)} (r : KV kvs vs) (k : κ) {y : V} {u : Value} (ry : RelV y u) :
    KV (kvs.map fun kv => if kv.1 = k then (kv.1, y) else kv) (vs.map fun kv => if kv.1 = k then (kv.1, u) else kv) := by
  unfold KV at r ⊢
  induction r with
  | nil => exact .nil
  | @cons p q ps qs h t ih =>
    rw [List.map_cons, List.map_cons]
    refine .cons ?_ ih
    obtain ⟨h1, h2⟩ := h
    by_cases e : p.1 = k
    · rw [if_pos e, if_pos (h1.symm.trans e)]; exact ⟨h1, ry⟩
    · rw [if_neg e, if_neg (fun z => e (h1.trans z))]; exact ⟨h1, h2⟩
theorem KV.put {kvs : List (κ × V)} {vs : List (κ × Value)} (r : KV kvs vs) (k : κ) {y : V} {u : Value} (ry : RelV y u) : KV (putK kvs k y) (stored vs k u) := by
  unfold putK stored
  rw [r.any k]
  by_cases e : (vs.any fun kv => decide (kv.1 = k)) = true
  · rw [if_pos e, if_pos e]; exact r.repl k ry
  · rw [if_neg e, if_neg e]; exact Paired.snoc r ⟨rfl, ry⟩
theorem KV.drop {kvs : List (κ × V)} {vs : List (κ × Value)} (r : KV kvs vs) (k : κ) : KV (dropK kvs k) (without vs k) := by
  unfold KV at r ⊢
  unfold dropK without
  induction r with
  | nil => exact .nil
  | @cons p q ps qs h t ih =>
    obtain ⟨h1, h2⟩ := h
    rw [List.filter_cons, List.filter_cons]
    by_cases e : p.1 = k
    · have a : ¬ decide (p.1 ≠ k) = true := by simp [e]
      have b : ¬ decide (q.1 ≠ k) = true := by simp [h1.symm.trans e]
      rw [if_neg a, if_neg b]; exact ih
    · have e' : ¬ q.1 = k := fun z => e (h1.trans z)
      have a : decide (p.1 ≠ k) = true := by simp [e]
      have b : decide (q.1 ≠ k) = true := by simp [e']
      rw [if_pos a, if_pos b]; exact .cons ⟨h1, h2⟩ ih
theorem KV.length {kvs : List (κ × V)} {vs : List (κ × Value)} (r : KV kvs vs) : kvs.length = vs.length := Paired.length r
end
theorem kV_is {P : Program} {w : World} {k : Key} {u : Value} (r : RelV (kV k) u) : (mixKind P w).is k u = true := by
  cases k with
  | inl i => obtain ⟨t, e⟩ := (show ∃ t, u = Value.int i t from r); subst e; exact mixKind_int P w i t
  | inr x => obtain ⟨t, e⟩ := (show ∃ t, u = Value.str x t from r); subst e; exact mixKind_str P w x t
theorem items_are {P : Program} {w : World} {ks : List Key} {us : List Value} (r : Vals (ks.map kV) us) : ItemsAre (mixKind P w) ks us := by
  induction ks generalizing us with
  | nil => cases r; exact .nil
  | cons k ks ih =>
    cases r with
    | cons h t => exact .cons (kV_is h) (ih t)
noncomputable abbrev KT (H : Hp) : List (List Key × V) → List (List Key × Addr × Value) → Prop := Paired fun p q => p.1 = q.1 ∧ H q.2.1 = some (.tup (p.1.map kV)) ∧ RelV p.2 q.2.2
theorem KT.val {H : Hp} {kvs : List (List Key × V)} {xs : List (List Key × Addr × Value)} (r : KT H kvs xs) (k : List Key) : RelO (valV kvs k) ((atKey xs k).map (·.2)) := by
  induction r with
  | nil => exact True.intro
  | @cons p q ps qs h t ih =>
    obtain ⟨h1, _, h2⟩ := h
    by_cases e : p.1 = k
    · have e' : q.1 = k := h1.symm.trans e
      have b : atKey (q :: qs) k = some q.2 := by simp [atKey, List.find?_cons, e']
      rw [valV_pos e, b]; exact h2
    · have e' : ¬ q.1 = k := fun z => e (h1.trans z)
      have b : atKey (q :: qs) k = atKey qs k := by simp [atKey, List.find?_cons, e']
      rw [valV_neg e, b]; exact ih
theorem KT.repl {H : Hp} {kvs : List (List Key × V)} {xs : List (List Key × Addr × Value)} (r : KT H kvs xs) (k : List Key) {y : V} {u : Value} (ry : RelV y u) :
    KT H (kvs.map fun kv => if kv.1 = k then (kv.1, y) else kv) (xs.map (putAt k u)) := by
  induction r with
  | nil => exact .nil
  | @cons p q ps qs h t ih =>
    rw [List.map_cons, List.map_cons]
    refine .cons ?_ ih
    obtain ⟨h1, h2, h3⟩ := h
    unfold putAt
    by_cases e : p.1 = k
    · rw [if_pos e, if_pos (h1.symm.trans e)]; exact ⟨h1, h2, ry⟩
    · rw [if_neg e, if_neg (fun z => e (h1.trans z))]; exact ⟨h1, h2, h3⟩
theorem KT.put {H : Hp} {kvs : List (List Key × V)} {xs : List (List Key × Addr × Value)} (r : KT H kvs xs) (k : List Key) {b : Addr} {y : V} {u : Value} (hb : H b = some (.tup (k.map kV))) (ry : RelV y u) :
    KT H (putK kvs k y) (storedH xs k b u) := by
  have e : (kvs.any fun kv => decide (kv.1 = k)) = (atKey xs k).isSome := by
    rw [valV_any, (r.val k).isSome_eq, Option.isSome_map]
  unfold putK storedH
  rw [e]
  by_cases q : (atKey xs k).isSome = true
  · rw [if_pos q, if_pos q]; exact r.repl k ry
  · rw [if_neg q, if_neg q]; exact Paired.snoc r ⟨rfl, hb, ry⟩
theorem KT.keeps {H H' : Hp} {kvs : List (List Key × V)} {xs : List (List Key × Addr × Value)} (r : KT H kvs xs) (ht : ∀ b ys, H b = some (.tup ys) → H' b = some (.tup ys)) : KT H' kvs xs :=
  Paired.mapP r fun _ _ z => ⟨z.1, ht _ _ z.2.1, z.2.2⟩
section
variable {P : Program} {w : World} {H : Hp} {h : Heap} {a : Addr}
theorem rd_of {u : HO} (ok : HOk P w H h) (e : Rd H a u) : ObjOk P w H h a u := e.ok ok
theorem dk_rd {kvs : List (Key × V)} (ok : HOk P w H h) (e : Rd H a (.dK kvs)) : kvs.length ≤ sizeLine ∧ (a == sysModules) = false ∧ ∃ vs, KV kvs vs ∧ h.DictOf (mixKind P w) a vs :=
  show ObjOk P w H h a (.dK kvs) from rd_of ok e
theorem dk_of {kvs : List (Key × V)} (ok : HOk P w H h) (e : H a = some (.dK kvs)) : kvs.length ≤ sizeLine ∧ (a == sysModules) = false ∧ ∃ vs, KV kvs vs ∧ h.DictOf (mixKind P w) a vs := dk_rd ok (.inl e)
theorem key_of {ks : List Key} (ok : HOk P w H h) (e : H a = some (.tup (ks.map kV))) : (tupleKind (mixKind P w)).is h ks a := by
  obtain ⟨_, its, r, o, h1, h2, n, h3⟩ := (show ObjOk P w H h a (.tup (ks.map kV)) from ok a _ e)
  exact ⟨o, its.toArray, n, h1, h2, h3, by simpa using items_are r⟩
theorem dt_rd {kvs : List (List Key × V)} (ok : HOk P w H h) (e : Rd H a (.dT kvs)) : kvs.length ≤ sizeLine ∧ (a == sysModules) = false ∧
    ∃ xs, KT H kvs xs ∧ h.DictOfH (tupleKind (mixKind P w)) a xs := by
  obtain ⟨z, y, xs, r, o, es, ep, h1, h2, h3, h4, h5⟩ := (show ObjOk P w H h a (.dT kvs) from rd_of ok e)
  refine ⟨z, y, xs, r, o, es, ep, h1, h2, h3, h4, fun x hx => ?_, h5⟩
  have all : ∀ {l : List (List Key × V)} {m : List (List Key × Addr × Value)}, KT H l m → ∀ x ∈ m, (tupleKind (mixKind P w)).is h x.1 x.2.1 := by
    intro l m q
    induction q with
    | nil => intro x hx; exact nomatch hx
    | @cons p q ps qs hq t ih =>
      intro x hx
      rcases List.mem_cons.mp hx with e | hx
      · subst e
        exact key_of ok (by rw [← hq.1]; exact hq.2.1)
      · exact ih x hx
  exact all r x hx
theorem dt_of {kvs : List (List Key × V)} (ok : HOk P w H h) (e : H a = some (.dT kvs)) : kvs.length ≤ sizeLine ∧ (a == sysModules) = false ∧
    ∃ xs, KT H kvs xs ∧ h.DictOfH (tupleKind (mixKind P w)) a xs := dt_rd ok (.inl e)
end
noncomputable def DGet (H : Hp) (a : Addr) (y : V) (r : Option V) : Prop :=
  (∃ kvs k, Rd H a (.dK kvs) ∧ y = kV k ∧ r = valV kvs k) ∨ ∃ kvs k b, Rd H a (.dT kvs) ∧ y = .ref b ∧ H b = some (.tup (k.map kV)) ∧ r = valV kvs k
noncomputable def DPut (H : Hp) (a : Addr) (y v : V) (H' : Hp) : Prop :=
  (∃ kvs k, H a = some (.dK kvs) ∧ y = kV k ∧ kvs.length < sizeLine ∧ H' = upd H a (.dK (putK kvs k v))) ∨
  ∃ kvs k b, H a = some (.dT kvs) ∧ y = .ref b ∧ H b = some (.tup (k.map kV)) ∧ kvs.length < sizeLine ∧ H' = upd H a (.dT (putK kvs k v))
theorem DGet.k {H : Hp} {a : Addr} {kvs : List (Key × V)} {k : Key} (e : H a = some (.dK kvs)) : DGet H a (kV k) (valV kvs k) := .inl ⟨kvs, k, .inl e, rfl, rfl⟩
theorem DPut.k {H : Hp} {a : Addr} {kvs : List (Key × V)} {k : Key} {v : V} (e : H a = some (.dK kvs)) (hl : kvs.length < sizeLine) : DPut H a (kV k) v (upd H a (.dK (putK kvs k v))) := .inl ⟨kvs, k, e, rfl, hl, rfl⟩
section
variable {X : Cx} {pins : List (Addr × Obj)} {σ : St} {H : Hp} {s : Shared} {a : Addr} {y v : V} {u r : Value} {o : Option V} {A : Around} {E : Value → Shared → Prop}
theorem Inv.big (I : Inv X pins σ H s) : sysModules < s.heap.objs.size := by
  have h : mainGlobals < s.heap.objs.size := (I.mod.glob.keeps I.bk).lt
  exact Nat.lt_trans (by decide) h
theorem d_getItem {Q : Value → Shared → Prop} (hu : A.units + 1 < cLine) (I : Inv X pins σ H s) (g : DGet H a y (some v)) (ry : RelV y u) (h : ∀ w' s', Inv X pins σ H s' → RelV v w' → Q w' s') :
    wpAny (model X.prog X.w) A (getItem (.ref a) u) Q E s := by
  rcases g with ⟨kvs, k, e, ey, l⟩ | ⟨kvs, k, b, e, ey, eb, l⟩
  · subst ey
    obtain ⟨z, hd, vs, rel, dd⟩ := dk_rd I.hok e
    obtain ⟨w', hw, rw'⟩ := RelO.some_of (v := v) (o := valueAt vs k) (by rw [l]; exact rel.val k)
    exact wpAny_getItem_of (kV_is ry) dd.mapOf hw (h w' _ (I.tok _) rw')
  · subst ey
    cases (show u = Value.ref b from ry)
    obtain ⟨z, hd, xs, rel, dd⟩ := dt_rd I.hok e
    obtain ⟨w', hw, rw'⟩ := RelO.some_of (v := v) (o := (atKey xs k).map (·.2)) (by rw [l]; exact rel.val k)
    obtain ⟨p, hp, hp2⟩ := Option.map_eq_some_iff.mp hw
    refine wpAny_getItem_heap (tupleKind_room_in1 hu) (key_of I.hok eb) dd hp ?_
    rw [hp2]
    exact h w' _ (I.tok _) rw'
theorem d_notIn {Q : Value → Shared → Prop} (hu : A.units + 1 < cLine) (I : Inv X pins σ H s) (g : DGet H a y o) (ry : RelV y u) (h : ∀ s', Inv X pins σ H s' → Q (.bool (!o.isSome)) s') :
    wpAny (model X.prog X.w) A (compareOp .NotIn u (.ref a)) Q E s := by
  rcases g with ⟨kvs, k, e, ey, l⟩ | ⟨kvs, k, b, e, ey, eb, l⟩
  · subst ey
    obtain ⟨z, hd, vs, rel, dd⟩ := dk_rd I.hok e
    refine wpAny_notIn_of (kV_is ry) hd dd.mapOf ?_
    rw [← (rel.val k).isSome_eq, ← l]
    exact h _ (I.tok _)
  · subst ey
    cases (show u = Value.ref b from ry)
    obtain ⟨z, hd, xs, rel, dd⟩ := dt_rd I.hok e
    refine wpAny_notIn_heap (tupleKind_room_in1 hu) (key_of I.hok eb) hd dd ?_
    have q := (rel.val k).isSome_eq
    rw [Option.isSome_map] at q
    rw [← q, ← l]
    exact h _ (I.tok _)
theorem d_write {h' : Heap} {t' : Nat} {ob : HO} (I : Inv X pins σ H s) (mu : Mut (H a)) (hs : Heap.SameBut a s.heap h') (he : ∃ q, h'.get? a = some q) (new : ObjOk X.prog X.w (upd H a ob) h' a ob) :
    Inv X pins σ (upd H a ob) { s with heap := h', toks := t' } :=
  I.write (x := a) (e := a) mu (.inl rfl) (fun b q hb z => (hs.2 b hb).trans z) he new
theorem dk_new {P : Program} {w : World} {H' : Hp} {h' : Heap} {kvs : List (Key × V)} {vs : List (Key × Value)} (z : kvs.length ≤ sizeLine) (hd : (a == sysModules) = false) (rel : KV kvs vs) (dd : h'.DictOf (mixKind P w) a vs) :
    ObjOk P w H' h' a (.dK kvs) := ⟨z, hd, vs, rel, dd⟩
theorem d_setItem {H' : Hp} {Q : Unit → Shared → Prop} (hu : A.units + 1 < cLine) (I : Inv X pins σ H s) (g : DPut H a y v H') (ry : RelV y u) (rv : RelV v r) (h : ∀ s', Inv X pins σ H' s' → Q () s') :
    wpAny (model X.prog X.w) A (setItem (.ref a) u r) Q E s := by
  rcases g with ⟨kvs, k, e, ey, l, eH⟩ | ⟨kvs, k, b, e, ey, eb, l, eH⟩
  · subst ey eH
    obtain ⟨z, hd, vs, rel, dd⟩ := dk_of I.hok e
    have hz : vs.length ≤ sizeLine := by rw [← rel.length]; exact z
    have hl : (putK kvs k v).length ≤ sizeLine := by have := length_putK kvs k v; omega
    refine wpAny_setItem_pairs (hsz := hz) (kV_is ry) dd fun h' dd' hs => h _ ?_
    have he : ∃ q, h'.get? a = some q := let ⟨q, _, _, hq, _⟩ := dd'; ⟨q, hq⟩
    exact d_write I (by rw [e]; exact True.intro) hs he (dk_new hl hd (rel.put k rv) dd')
  · subst ey eH
    cases (show u = Value.ref b from ry)
    obtain ⟨z, hd, xs, rel, dd⟩ := dt_of I.hok e
    have hz : xs.length ≤ sizeLine := by rw [← Paired.length rel]; exact z
    have hl : (putK kvs k v).length ≤ sizeLine := by have := length_putK kvs k v; omega
    refine wpAny_setItem_heap (hsz := hz) (tupleKind_room_in1 hu) (key_of I.hok eb) dd fun h' dd' hs => h _ ?_
    obtain ⟨q, es, ep, hq, h2, h3, h4, _, h5⟩ := dd'
    refine d_write I (by rw [e]; exact True.intro) hs ⟨q, hq⟩ ⟨hl, hd, _, (rel.put k eb rv).keeps fun c ys ec => ?_, q, es, ep, hq, h2, h3, h4, h5⟩
    rw [upd_ne (ne_of ec e (fun z => nomatch z))]
    exact ec
end
section
variable {X : Cx} {pins : List (Addr × Obj)} {σ : St} {H : Hp} {s : Shared} {a : Addr} {kvs : List (Key × V)} {k : Key} {u : Value} {A : Around} {E : Value → Shared → Prop}
end
noncomputable def NoSl (i : Expr) : Prop := ∀ ov iv, subscripted i false ov iv = operate [ov, iv] (getItem ov iv)
theorem subD_of {prog : Program} {w : World} {A : Around} {E : Value → Shared → Prop} {s : Shared} {env : Env} {value slice : Expr} {pos : Pos} {T id : String} {Q : Value → Shared → Prop}
    (hl : typeLookup (.type T) "__getitem__" = pure (some (.builtin id))) (hs : NoSl slice)
    (h : wpAny (model prog w) A (eval value env) (fun o s₁ => wpAny (model prog w) A (eval slice env) (fun i s₂ => s₂.TypeIs o T ∧ wpAny (model prog w) A (getItem o i) Q E s₂) E s₁) E s) :
    wpAny (model prog w) A (eval (.Subscript value slice pos) env) Q E s := by
  refine Subscript_ (wpAny_mono h (fun o s₁ h₁ => wpAny_mono h₁ (fun i s₂ h₂ => ?_) fun _ _ x => x) fun _ _ x => x)
  obtain ⟨hT, h₂⟩ := h₂
  unfold subscriptTail
  refine wpAny_bind ?_
  rw [getitemInPython_of_ne hT.not_modules]
  refine wpAny_bind (wpAny_specialOf hT hl ?_)
  have fin : wpAny (model prog w) A (subscripted slice false o i) (fun r s₃ => wpAny (model prog w) A (letTemporaryGo value o r >>= fun _ => pure r) Q E s₃) E s₂ := by
    rw [hs o i]
    exact wpAny_operating (wpAny_mono h₂ (fun r s₃ h₃ => wpAny_bind (wpAny_letTemporaryGo (wpAny_pure h₃))) fun _ _ x => x)
  first
    | exact wpAny_pure (wpAny_bind fin)
    | exact wpAny_bind (wpAny_pure (wpAny_bind fin))
    | exact wpAny_bind fin
theorem dict_typeIs {X : Cx} {pins : List (Addr × Obj)} {σ : St} {H : Hp} {s : Shared} {a : Addr} {y : V} {o : Option V} (I : Inv X pins σ H s) (g : DGet H a y o) : s.TypeIs (.ref a) "dict" := by
  rcases g with ⟨kvs, k, e, _, _⟩ | ⟨kvs, k, b, e, _, _, _⟩
  · obtain ⟨_, _, vs, _, dd⟩ := dk_rd I.hok e
    exact dd.typeIs
  · obtain ⟨_, _, xs, _, dd⟩ := dt_rd I.hok e
    exact dd.typeIs
noncomputable def tDGet (td ty : TE) : TE := fun σ H Q => td σ H fun x H1 => ty σ H1 fun y H2 => ∃ a v, x = .ref a ∧ DGet H2 a y (some v) ∧ Q v H2
noncomputable def tDNotIn (ty td : TE) : TE := fun σ H Q => ty σ H fun y H1 => td σ H1 fun x H2 => ∃ a o, x = .ref a ∧ DGet H2 a y o ∧ Q (.bl (!o.isSome)) H2
noncomputable def sDPut (td ty tv : TE) : TS := fun D σ H => tv σ H fun v H1 => td σ H1 fun x H2 => ty σ H2 fun y H3 => ∃ a H4, x = .ref a ∧ DPut H3 a y v H4 ∧ D.nx σ H4
section
variable {X : Cx} {o i e value : Expr} {pos pos' tpos : Pos} {td ty tv : TE}
theorem pe_dget (hu : X.A.units + 1 < cLine) (ho : PE X o td) (hi : PE X i ty) (hs : NoSl i) : PE X (.Subscript o i pos) (tDGet td ty) := by
  intro pins s σ H Q I h
  refine subD_of PySem.F.slot_dict_getitem.lookup hs (thn (ho pins s σ H _ I h) fun u s1 h1 => ?_)
  obtain ⟨x, H1, I1, rx, q1⟩ := h1
  refine thn (hi pins s1 σ H1 _ I1 q1) fun iv s2 h2 => ?_
  obtain ⟨y, H2, I2, ry, a, v, ex, g, q2⟩ := h2
  subst ex
  obtain rfl : u = Value.ref a := rx
  exact ⟨dict_typeIs I2 g, d_getItem hu I2 g ry fun w' s3 I3 rw' => ⟨v, H2, I3, rw', q2⟩⟩
theorem pc_dnotin (hu : X.A.units + 1 < cLine) (hi : PE X i ty) (ho : PE X o td) : PC X .NotIn i o (tDNotIn ty td) := by
  intro pins s σ H Q I h
  refine thn (hi pins s σ H _ I h) fun iv s1 h1 => ?_
  obtain ⟨y, H1, I1, ry, q1⟩ := h1
  refine thn (ho pins s1 σ H1 _ I1 q1) fun u s2 h2 => ?_
  obtain ⟨x, H2, I2, rx, a, ov, ex, g, q2⟩ := h2
  subst ex
  obtain rfl : u = Value.ref a := rx
  exact d_notIn hu I2 g ry fun s3 I3 => ⟨.bl (!ov.isSome), H2, I3, rfl, q2⟩
theorem ps_dput (hu : X.A.units + 1 < cLine) (ho : PE X o td) (hi : PE X i ty) (hv : PE X value tv) (hs : swapsWith value (some (.Subscript o i pos')) pos.line X.env = pure false) :
    PS X (.Assign [.Subscript o i pos'] value pos) (sDPut td ty tv) := by
  intro pins s σ H D I h
  refine wpAny_Assign_Subscript (thn (hv pins s σ H _ I h) fun r s1 h1 => ?_) hs
  obtain ⟨v, H1, I1, rv, q1⟩ := h1
  refine thn (ho pins s1 σ H1 _ I1 q1) fun u s2 h2 => ?_
  obtain ⟨x, H2, I2, rx, q2⟩ := h2
  refine thn (hi pins s2 σ H2 _ I2 q2) fun iv s3 h3 => ?_
  obtain ⟨y, H3, I3, ry, a, H4, ex, g, q3⟩ := h3
  subst ex
  obtain rfl : u = Value.ref a := rx
  exact d_setItem hu I3 g ry rv fun s4 I4 => ⟨σ, H4, I4, q3⟩
end
theorem dk_empty {P : Program} {w : World} {H : Hp} (h : Heap) (hb : sysModules < h.objs.size) : ObjOk P w H (h.push { cls := .type "dict", data := .dict #[] }) h.objs.size (.dK []) :=
  ⟨Nat.zero_le _, beq_eq_false_iff_ne.mpr (Ne.symm (Nat.ne_of_lt hb)), [], .nil, Heap.DictOf.new h⟩
noncomputable def tDNewK : TE := fun _ H Q => ∀ p, H p = none → Q (.ref p) (upd H p (.dK []))
section
variable {X : Cx} {pos : Pos}
theorem pe_dnewK : PE X (.Dict [] [] pos) tDNewK := fun pins s σ H Q I h =>
  wpAny_Dict_empty ⟨.ref s.heap.objs.size, _, I.laid (a := s.heap.objs.size) (o := .dK []) (t' := s.toks) (fun _ _ q => Heap.get?_push_of_some _ q) (Nat.le_refl _) (dk_empty s.heap I.big), rfl, h _ (I.hok.fresh (Nat.le_refl _))⟩
end
section
variable {X : Cx} {pins : List (Addr × Obj)} {σ : St} {H : Hp} {s : Shared} {a : Addr} {y d : V} {u r : Value} {o : Option V} {A : Around} {E : Value → Shared → Prop}
end
section
variable {X : Cx} {o e f : Expr} {apos cpos : Pos} {td ty tx : TE}
end
section
variable {X : Cx} {pins : List (Addr × Obj)} {σ : St} {H : Hp} {s : Shared} {a : Addr} {kvs : List (Key × V)} {A : Around} {E : Value → Shared → Prop}
end
section
variable {X : Cx} {pins : List (Addr × Obj)} {σ : St} {H : Hp} {s : Shared} {a : Addr} {y : V} {u : Value} {A : Around} {E : Value → Shared → Prop}
end
end L2
namespace Att
open PySem PySem.W PySem.Calls PyProof.Rows
theorem ints_of_wellAll {P : Params} {h : Heap} : ∀ (ns : List Int) (vs : List Value), WellAll P h vs (ns.map WData.int) → IntsAre vs ns := by
  intro ns
  induction ns with
  | nil =>
    intro vs w
    rw [List.map_nil] at w
    cases w
    exact .nil
  | cons n ns ih =>
    intro vs w
    rw [List.map_cons] at w
    cases w with
    | cons a b =>
      cases a
      exact .cons _ _ (ih _ b)
theorem script_of {l : OpenLaw} {n : Nat} (hn : l.most = some n) {P : Params} {h : Heap} {args : List WData} {vals : List Value}
    (hpre : l.row.toRowW.claim.pre args = true) (hwl : WellAll P h vals args) :
    ∃ a vs ns, vals = [Value.ref a] ∧ args = [WData.list (ns.map WData.int)] ∧ h.get? a = some { cls := .type "list", data := .seq vs.toArray } ∧ IntsAre vs ns ∧ ns.length ≤ n := by
  have hsh : WShape.hasAll [] args [.list .int] = true := (pre_splitW hpre).1
  have hc : l.pre.holds [] { args := args } = true := (pre_splitW hpre).2
  obtain ⟨d, r, rfl, h1, h2⟩ := hasAllW_cons hsh
  obtain rfl := hasAllW_nil h2
  obtain ⟨xs, rfl, h3⟩ := hasW_list h1
  obtain ⟨ns, rfl⟩ := items_int h3
  have hlen : ns.length ≤ n := by
    unfold OpenLaw.pre at hc
    have h4 : (WTm.not (.lt (.lit (.int (n : Int))) (.len (.arg 0)))).holds [] { args := [.list (ns.map .int)] } = true := by
      have h4 := (holds_andW hc).1
      rw [hn] at h4
      exact h4
    have h5 := condW_of h4 (w_not (w_lt w_lit (w_len_list (w_arg rfl))))
    rw [List.length_map] at h5
    refine Nat.le_of_not_lt fun q => ?_
    have q' : (n : Int) < ((ns.length : Nat) : Int) := by omega
    first
      | (rw [decide_eq_true q'] at h5; exact absurd h5 (by decide))
      | (simp at h5; omega)
  cases hwl with
  | cons w1 w2 =>
    cases w2
    cases w1 with
    | list ho hall => exact ⟨_, _, ns, rfl, rfl, ho, ints_of_wellAll ns _ hall, hlen⟩
theorem post_true (l : OpenLaw) (args : List WData) : l.row.toRowW.claim.post args (.bool true) args = true :=
  postW_of (r := l.row.toRowW) (X := (true == true))
    (show WShape.has [] (.bool true) .bool = true by first | rfl | decide | simp [WShape.has, WShape.arms, WShape.armsAll])
    (show (WTm.eq .res (.lit (.bool true))).value [] { args := args, res := some (.bool true), after := args } = some (.bool (true == true)) from w_eq_bool (w_res rfl) w_lit) rfl
theorem attach_call {l : OpenLaw} {n : Nat} {q : Program} {loose : List Str} {XP : (Str → Option Value) → Heap → Prop} {YP : World → Heap → Prop} {d : DefRec}
    (hn : l.most = some n) (hdf : d.params.defaults = [])
    (call : ∀ (w : World) (s₀ s₁ : Shared) (mg mb : Str → Option Value) (fa : Addr) (o : Obj) (pm cd doc : Value) (a : Addr) (vs : List Value) (ns : List Int),
      Ground q loose [] XP w s₀ mg mb s₁.heap → YP w s₁.heap →
      s₁.heap.get? fa = some o → o.data = .func (docDef d.name d.params d.body d.scope pm cd doc) → s₁.heap.CodeRec cd d.name → mg d.name = some (.ref fa) →
      s₁.heap.get? a = some { cls := .type "list", data := .seq vs.toArray } → IntsAre vs ns → ns.length ≤ n → s₁.gens = #[] →
      codeAny (model l.prog w) callerA (.call (.ref fa) ⟨[.ref a], []⟩) (fun r s' => r = .ok (.ret (.bool true)) ∧ OldK s₁.heap s'.heap ∧ s'.os = s₁.os ∧ AllBare s'.gens) s₁) :
    WalkO q loose XP YP l.row.toRowW d [] (fun f vs => PySem.call f vs) := by
  intro w s₀ s₁ mg mb G Y fa o pm cd doc dV kV ho hd hcd hD hmg hg args vals as hpre hlay hrd hwl hlo
  obtain rfl : dV = .none := Dflts.none hD hdf
  obtain rfl : kV = .none := Dflts.noKw hD
  obtain ⟨a, vs, ns, rfl, rfl, hobj, hints, hlen⟩ := script_of hn hpre hwl
  refine enter_call (codeAny_mono (call w s₀ s₁ mg mb fa o pm cd doc a vs ns G Y ho (fd_plain hd) hcd hmg hobj hints hlen hg) fun r s' hq => ?_)
  obtain ⟨rfl, h2, h3, h4⟩ := hq
  exact ⟨.inl ⟨.bool true, .bool true, [], rfl, fun _ => rfl, .bool true, post_true l _, fun _ => ⟨List.Pairwise.nil, fun _ hm => (nomatch hm)⟩⟩, h2, h3, h4⟩
section
variable {prog : Program} {w : World} {A : Around} {E : Value → Shared → Prop} {s : Shared} {K : Frag}
noncomputable def noObjs (h : Heap) : Heap := { h with objs := #[] }
theorem noObjs_get (h : Heap) (b : Addr) : (noObjs h).get? b = none := by
  cases e : (noObjs h).get? b with
  | none => rfl
  | some o => exact absurd (Heap.lt_size e) (Nat.not_lt_zero _)
theorem fr_all {h : Heap} {L : Addr} {m : Str → Option Value} (n : h.Ns L m) : Fr (noObjs h) L h m :=
  ⟨n, fun b o e => (by rw [noObjs_get] at e; cases e), Nat.zero_le _⟩
end
end Att
namespace L2
open PySem PySem.Spec PyProof.Rows
theorem vals_ints : ∀ {vs : List Value} {ns : List Int}, IntsAre vs ns → Vals (ns.map V.int) vs := by
  intro vs ns h
  induction h with
  | nil => exact .nil
  | cons n t h ih => exact .cons ⟨t, rfl⟩ ih
noncomputable def Only (H : Hp) : Prop := ∀ b, H b = none ∨ ∃ o xs, H b = some (.frz o (.lst xs))
theorem law_call {P : Program} {w : World} {K : PySem.W.Frag} {mg mb : Str → Option Value} {CX : CXT} {k : Nat} {fa a : Addr} {fd : FuncData} {x : Str} {sp : Sp} {s₁ : Shared} {vs : List Value} {ns : List Int}
    (KX : K.In s₁.heap) (hns : s₁.heap.Ns mainGlobals mg) (hb : s₁.heap.Ns builtinsNs mb) (hbb : ∀ x : Str, x ≠ "__name__" → mb x = bootBuiltins x) (hlim : s₁.heap.NoLimit) (hg : s₁.gens = #[])
    (ha : s₁.heap.get? a = some { cls := .type "list", data := .seq vs.toArray }) (hi : IntsAre vs ns) (hl : ns.length ≤ sizeLine) (hr : Room k callerA)
    (F : ∀ base : Heap, K.In base → base.Ns mainGlobals mg → FnOk P w K mg base CX k fa fd [x] sp) (hbind : ∀ (s : Shared) (u : Value), BindsTo s fd ⟨[u], []⟩ [(x, u)])
    (hsp : ∀ H : Hp, Only H → SqL K H a (ns.map V.int) → sp [.ref a] H (fun v _ => v = .bl true) fun _ _ _ => False)
    (hCX : ∀ H e s', CX [] H s₁ (fun _ _ _ => False) e s' → False) :
    codeAny (model P w) callerA (.call (.ref fa) ⟨[.ref a], []⟩) (fun r s' => r = .ok (.ret (.bool true)) ∧ OldK s₁.heap s'.heap ∧ s'.os = s₁.os ∧ AllBare s'.gens) s₁ := by
  have rv := vals_ints hi
  have lenV := hi.length
  have core : ∀ H : Hp, Only H → SqL K H a (ns.map V.int) → HOk P w H s₁.heap → (∀ b, H b ≠ none → b = a) → (H a ≠ none → K.lookup a = none) →
      codeAny (model P w) callerA (.call (.ref fa) ⟨[.ref a], []⟩) (fun r s' => r = .ok (.ret (.bool true)) ∧ OldK s₁.heap s'.heap ∧ s'.os = s₁.os ∧ AllBare s'.gens) s₁ := by
    intro H hO hS hok hA hK
    have base_of : ∀ {b : Addr} {o : Obj}, s₁.heap.get? b = some o → H b = none → (hidT s₁.heap H).get? b = some o := fun e n => hidT_get e n
    have noA : ∀ {b : Addr} {o : Obj} {es : Array DictEntry} {ep : Nat}, s₁.heap.get? b = some o → o.data = .dict es ep → H b = none := fun {b o es ep} e d => by
      cases q : H b with
      | none => rfl
      | some u =>
        have e' : b = a := hA b (by rw [q]; simp)
        subst e'
        rw [ha] at e; cases e
        have d' : Data.seq vs.toArray _ = Data.dict es ep := d
        cases d'
    have nsK : ∀ {b : Addr} {m : Str → Option Value}, s₁.heap.Ns b m → (hidT s₁.heap H).Ns b m := fun {b m} ⟨o, es, ep, e, d, r⟩ => ⟨o, es, ep, base_of e (noA e d), d, r⟩
    have hKb : K.In (hidT s₁.heap H) := fun b o e => base_of (KX b o e) (by
      cases q : H b with
      | none => rfl
      | some u =>
        have e' : b = a := hA b (by rw [q]; simp)
        subst e'
        rw [hK (by rw [q]; simp)] at e; cases e)
    have hM : Mod K mg (hidT s₁.heap H) := ⟨hKb, nsK hns, ⟨mb, nsK hb, hbb⟩, let ⟨mc, h1, h2⟩ := hlim; ⟨mc, nsK h1, h2⟩⟩
    have e0 : Env0 P w K mg (hidT s₁.heap H) callerA [] s₁ H := ⟨rfl, hM, fun b o e => of_hidT e, Nat.le_of_eq (hidT_size _ _), trivial, fun b hb => absurd (show b ∈ ([] : List Addr) from hb) (by simp), hok, .of_eq hg⟩
    refine codeAny_mono ((F _ hKb (nsK hns)).run callerA [] s₁ H ⟨[.ref a], []⟩ [.ref a] [.ref a] _ _ hr e0 (hbind s₁ (.ref a)) (.cons rfl .nil) (hsp H hO hS)) fun r s' h => ?_
    cases r with
    | error e => exact (hCX H e s' h).elim
    | ok fl =>
      cases fl with
      | next => exact False.elim h
      | brk => exact False.elim h
      | cont => exact False.elim h
      | ret u =>
        obtain ⟨v, H', os, bare, un, hok', r', q⟩ := h
        have q' : v = .bl true := q
        subst q'
        obtain rfl : u = Value.bool true := r'
        refine ⟨rfl, OldK.of_keep fun b o e => ?_, os, bare⟩
        cases q : H b with
        | none => exact un.keep b o e q (by intro z; exact absurd (show b ∈ ([] : List Addr) from z) (by simp)) (by simp)
        | some u =>
          rcases hO b with z | ⟨ob, xs, z⟩
          · rw [q] at z; cases z
          · have z2 := un.frzs b ob _ z
            obtain ⟨e1, _⟩ := hok b _ z
            obtain ⟨e2, _⟩ := hok' b _ z2
            rw [e] at e1; cases e1
            exact e2
  cases hk : K.lookup a with
  | some o =>
    have e := KX a o hk
    rw [ha] at e
    cases e
    refine core (fun _ => none) (fun _ => .inl rfl) (.inr ⟨_, vs.toArray, _, hk, rfl, rfl, rfl, by rw [List.size_toArray, lenV]; exact hl, by simpa using rv⟩) (fun b u z => by have z' : (none : Option HO) = some u := z; cases z') (fun b z => absurd rfl z) fun z => absurd rfl z
  | none =>
    refine core (fun b => if b = a then some (.frz { cls := .type "list", data := .seq vs.toArray } (.lst (ns.map V.int))) else none) (fun b => ?_) (.inl (.inr ⟨{ cls := .type "list", data := .seq vs.toArray }, if_pos rfl⟩)) (fun b u z => ?_) (fun b z => ?_) fun _ => hk
    · by_cases hb : b = a
      · exact .inr ⟨_, _, if_pos hb⟩
      · exact .inl (if_neg hb)
    · by_cases hb : b = a
      · have z' := (if_pos hb).symm.trans z
        cases z'
        subst hb
        exact ⟨ha, by rw [List.length_map]; exact hl, vs, _, rv, ha⟩
      · have z' := (if_neg hb).symm.trans z
        cases z'
    · by_cases hb : b = a
      · exact hb
      · exact absurd (if_neg hb) z
end L2
namespace L2
open PySem PySem.Spec PyProof.Rows
noncomputable abbrev KOf {K : PySem.W.Frag} {h : Heap} (_ : K.In h) : PySem.W.Frag := K
theorem walk_of {l : PySem.W.OpenLaw} {n k : Nat} {q : Program} {loose : List Str} {XP : (Str → Option Value) → Heap → Prop} {YP : World → Heap → Prop} {d : DefRec} {K : Params → PySem.W.Frag} {CX : World → CXT} {sp : World → Sp} {x : Str}
    (hn : l.most = some n) (hn2 : n ≤ sizeLine) (hdf : d.params.defaults = []) (hr : Room k callerA)
    (hY : ∀ (w : World) (h : Heap), YP w h → (K w.params).In h)
    (F : ∀ (w : World) (mg : Str → Option Value) (fa : Addr) (h : Heap), (K w.params).In h → h.Ns mainGlobals mg → mg d.name = some (.ref fa) →
      ∃ fd : FuncData, (∀ (s : Shared) (u : Value), BindsTo s fd ⟨[u], []⟩ [(x, u)]) ∧
        ∀ base : Heap, (K w.params).In base → base.Ns mainGlobals mg → FnOk l.prog w (K w.params) mg base (CX w) k fa fd [x] (sp w))
    (hsp : ∀ (w : World) (H : Hp) (a : Addr) (ns : List Int), ns.length ≤ n → Only H → SqL (K w.params) H a (ns.map V.int) → sp w [.ref a] H (fun v _ => v = .bl true) fun _ _ _ => False)
    (hCX : ∀ (w : World) (H : Hp) (s : Shared) (e : Value) (s' : Shared), CX w [] H s (fun _ _ _ => False) e s' → False) :
    PySem.W.WalkO q loose XP YP l.row.toRowW d [] (fun f vs => PySem.call f vs) := by
  refine Att.attach_call hn hdf fun w s₀ s₁ mg mb fa o pm cd doc a vs ns G Y ho hd hcd hmg hobj hints hlen hg => ?_
  have KX := hY w _ Y
  obtain ⟨fd, hb, hF⟩ := F w mg fa _ KX G.T.g hmg
  exact law_call KX G.T.g G.T.b G.T.builtins G.T.nolimit hg hobj hints (Nat.le_trans hlen hn2) hr hF hb (fun H hO hS => hsp w H a ns hlen hO hS) fun H e s' => hCX w H s₁ e s'
end L2
/- THE LAST THEOREM (shape; LID, My.* are yours):
   My.Adr: a structure of the addresses that your layer names (classes, functions); My.Txt K t: a structure (Prop) of the equations over K;
   My.txt_mk : {K} {implicit addresses ..} (e1 : nsIn K mainGlobals "law" = some (some (.ref f))) (e2 : K.lookup f = some ⟨oc, od, .func (fnOf "law" "law" params body scope dV kV doc pm an cdv ct), sl⟩) (e3 : codeIn K cdv "law" = true) .. : ∃ t, My.Txt K t
set_option maxRecDepth 100000 in
set_option maxHeartbeats 0 in
theorem PySem.Challenge.cw_LID_holds : PySem.Challenge.rw_LID.Holds := by
  w_on; o_law; k_head; (case hw => w_witness2)
  k_fill
  refine L2.walk_of (l := PySem.Challenge.rw_LID) (n := 63) (k := 40) (x := "script") (CX := fun w => ..) (sp := fun _ => My.sp_law) rfl (by decide) rfl ⟨rfl, by decide, by decide⟩ (fun w h Y => PySem.W.kIn_of Y) ?F ?S ?C
  case F =>
    intro w mg fa h KX G hmg
    have T : ∃ t, My.Txt (L2.KOf KX) t := by
      dsimp only [L2.KOf]                          -- K must stand as «<heap const> w.params» for k_is
      refine' My.txt_mk ?e1 ?e2 ?e3 ..
      (case e1 => PySem.W.k_is)                    -- in the order: a name -> its address -> its object -> its parts
      (case e2 => PySem.W.k_is)
      ..
    obtain ⟨t, T⟩ := T
    have e0 := hmg.symm.trans (PySem.W.mg_of KX G T.law)
    cases e0                                       -- fa is the law's own address
    exact ⟨_, fun s u => .of_eq rfl, fun base kb nb => My.law_fn T kb nb⟩     -- if «.of_eq rfl» comes too early: refine' ⟨_, ?b, fun base kb nb => My.law_fn T kb nb⟩; exact fun s u => .of_eq rfl
  case S => exact fun w H a ns hl hO hS => ..
  case C => exact ..
(the tactic k_is has no namespace: write k_is) -/
namespace L2
open PySem PySem.Spec PyProof.Rows
noncomputable def defArgs (s : Stmt) : Arguments := match s with
  | .FunctionDef _ a _ _ _ _ _ _ _ _ => a
  | _ => { posonlyargs := [], args := [], vararg := none, kwonlyargs := [], kw_defaults := [], kwarg := none, defaults := [] }
noncomputable def defBody (s : Stmt) : List Stmt := match s with
  | .FunctionDef _ _ b _ _ _ _ _ _ _ => b
  | _ => []
noncomputable def defScope (s : Stmt) : Scope := match s with
  | .FunctionDef _ _ _ _ _ _ sc _ _ _ => sc
  | _ => { kind := .function, names := [], isGenerator := false, isCoroutine := false }
noncomputable abbrev CX0 : CXT := fun _ _ _ _ _ _ => False
noncomputable abbrev E0 : XK := fun _ _ _ => False
theorem pass0 {X : Cx} : Passes CX0 X E0 := fun _ _ _ _ _ _ _ h => h.elim
structure Fun (K : PySem.W.Frag) (x qual : Str) (st : Stmt) (f : Addr) (fd : FuncData) : Prop where
  ex : ∃ (oc : Value) (od : Option Addr) (kV doc pm : Value) (an : Option Addr) (cdv ct : Value) (osl : Array (Option Value)),
    fd = PySem.W.fnOf x qual (defArgs st) (defBody st) (defScope st) .none kV doc pm an cdv ct ∧ K.lookup f = some ⟨oc, od, .func fd, osl⟩ ∧ PySem.W.codeIn K cdv qual = true
  kp : PySem.W.keepIn K (.ref f) = true
section
variable {P : Program} {w : World} {K : PySem.W.Frag} {mg : Str → Option Value} {base : Heap}
theorem Fun.ok {x qual : Str} {st : Stmt} {f : Addr} {fd : FuncData} {N ps : List Str} {k : Nat} {sp : Sp} (F : Fun K x qual st f fd) (S : FnScope N ps (defScope st)) (len : ∀ vs H Q E, sp vs H Q E → vs.length = ps.length)
    (hbody : ∀ (cdv : Value) (A : Around) (outer : List Env) (s : Shared) (H : Hp) (vs : List V) (Q : VK) (E : XK), Room k (A.deeper (envOfC qual (defScope st) s.heap.objs.size f cdv)) → sp vs H Q E →
      ∃ t, PSs (cxOf CX0 P w K mg base N qual (defScope st) f cdv A outer s H E).nox (defBody st) t ∧ t { nx := fun _ H' => Q .non H', rt := Q } (start N vs) H) : FnOk P w K mg base CX0 (k + 1) f fd ps sp := by
  obtain ⟨oc, od, kV, doc, pm, an, cdv, ct, osl, rfl, lk, hcd⟩ := F.ex
  refine fn_of lk hcd S len fun A outer s H vs Q E hr hsp => ?_
  obtain ⟨t, h, q⟩ := hbody cdv A outer s H vs Q E hr hsp
  exact ⟨t, h.nox, q⟩
theorem Fun.binds {x qual : Str} {st : Stmt} {f : Addr} {fd : FuncData} {ps : List Str} (F : Fun K x qual st f fd)
    (h : ∀ (kV doc pm : Value) (an : Option Addr) (cdv ct : Value) (us : List Value), us.length = ps.length → bindArgs (PySem.W.fnOf x qual (defArgs st) (defBody st) (defScope st) .none kV doc pm an cdv ct) ⟨us, []⟩ = pure (ps.zip us)) : Binds K fd ps [] := by
  obtain ⟨oc, od, kV, doc, pm, an, cdv, ct, osl, rfl, lk, hcd⟩ := F.ex
  exact .all (h kV doc pm an cdv ct)
theorem fun_mk {x qual : Str} {st : Stmt} {f : Addr} {oc : Value} {od an : Option Addr} {osl : Array (Option Value)} {kV doc pm cdv ct : Value} (l : K.lookup f = some ⟨oc, od, .func (PySem.W.fnOf x qual (defArgs st) (defBody st) (defScope st) .none kV doc pm an cdv ct), osl⟩)
    (c : PySem.W.codeIn K cdv qual = true) (k : PySem.W.keepIn K (.ref f) = true) : Fun K x qual st f (PySem.W.fnOf x qual (defArgs st) (defBody st) (defScope st) .none kV doc pm an cdv ct) := ⟨⟨oc, od, kV, doc, pm, an, cdv, ct, osl, rfl, l, c⟩, k⟩
end
theorem hu_of {A : Around} {k : Nat} (hr : Room k A) : A.units + 1 < cLine := Nat.lt_of_le_of_lt (Nat.add_le_add_left (by decide : 1 ≤ 64) _) hr.units
theorem small1000 {n : Nat} (h : n ≤ 1000) : n < sizeLine := Nat.lt_of_le_of_lt h (by decide)
section
variable {X : Cx}
theorem pv (i : Nat) {x : Str} {pos : Pos} (hN : X.N[i]? = some x := by rfl) (hv : Vis X.env.scope x := by first | exact Or.inl rfl | exact Or.inr (Or.inl rfl) | exact Or.inr (Or.inr rfl)) (hd : (x == ("__debug__" : Str)) = false := by decide)
    (hcd : (x == ("__classdict__" : Str)) = false := by decide) : PE X (.Name x pos) (tVar i) := pe_var hN hv hd hcd
end
theorem iteF {A B : Prop} (h : B) : if false = true then A else B := by
  rw [if_neg Bool.false_ne_true]
  exact h
theorem iteT {A B : Prop} (h : A) : if true = true then A else B := by
  rw [if_pos rfl]
  exact h
noncomputable def Same (H H' : Hp) : Prop := ∀ b o, H b = some o → H' b = some o
theorem Same.refl (H : Hp) : Same H H := fun _ _ h => h
theorem Same.trans {H H1 H2 : Hp} (a : Same H H1) (b : Same H1 H2) : Same H H2 := fun c o h => b c o (a c o h)
theorem Same.free {H H' : Hp} (e : Same H H') {l : Addr} (h : H' l = Option.none) : H l = Option.none := by
  cases q : H l with
  | none => rfl
  | some o =>
    rw [e l o q] at h
    cases h
theorem Same.seq {K : PySem.W.Frag} {H H' : Hp} {a : Addr} {xs : List V} (e : Same H H') (h : SqL K H a xs) : SqL K H' a xs := by
  rcases h with (h | ⟨o, h⟩) | h
  · exact .inl (.inl (e _ _ h))
  · exact .inl (.inr ⟨o, e _ _ h⟩)
  · exact .inr h
section
variable {κ : Type} [DecidableEq κ]
theorem valV_not {kvs : List (κ × V)} {k : κ} (h : valV kvs k = none) : ¬ k ∈ kvs.map (·.1) := by
  intro m
  obtain ⟨p, hp, e⟩ := List.mem_map.mp m
  have q : (kvs.any fun kv => decide (kv.1 = k)) = true := List.any_eq_true.mpr ⟨p, hp, decide_eq_true e⟩
  rw [valV_any, h] at q
  exact absurd q (by simp)
theorem nd_snoc {l : List κ} {k : κ} (h : l.Nodup) (n : ¬ k ∈ l) : (l ++ [k]).Nodup := List.nodup_append.mpr ⟨h, List.pairwise_singleton _ _, fun a ha b hb e => n (by rw [← List.mem_singleton.mp hb, ← e]; exact ha)⟩
theorem nd_putK {kvs : List (κ × V)} {k : κ} (v : V) (hn : (kvs.map (·.1)).Nodup) (h : valV kvs k = none) : ((putK kvs k v).map (·.1)).Nodup := by
  rw [putK_new v h, List.map_append]
  exact nd_snoc hn (valV_not h)
end
end L2
set_option Elab.async false
set_option linter.all false
set_option maxRecDepth 100000
namespace L2
open PySem PySem.Spec PyProof.Rows
structure BA where
  cl : List (Str × Addr)
  C : Addr
  s₀ : Shared
  H₀ : Hp
  ex : List Addr
noncomputable abbrev blk (X : Cx) (sc : Scope) (N : List Str) (b : BA) : Cx :=
  { prog := X.prog, w := X.w, K := X.K, mg := X.mg, base := X.base, A := X.A, N := N, s₀ := b.s₀, H₀ := b.H₀, env := compEnvC sc b.cl b.C X.env, outer := X.stack, stack := X.stack, ex := b.ex, fn := fun _ => false, calm := X.calm, pn := [], xe := fun _ _ => False }
noncomputable def closFrom (env : Env) : List (Str × Addr) → List (Str × NameKind) → List (Str × Addr)
  | acc, [] => acc
  | acc, (n, k) :: r => closFrom env (if k == .free then (match env.cells.lookup n with | some c => (n, c) :: acc | none => acc) else acc) r
theorem clos_run (env : Env) : ∀ (l : List (Str × NameKind)) (acc : List (Str × Addr)), (∀ y ∈ l, y.2 = .free → ∃ c, env.cells.lookup y.1 = some c) →
    (forIn l acc (fun (x : Str × NameKind) (cs : List (Str × Addr)) => (match x with
      | (name, kind) => if (kind == .free) = true then (do let a ← cellOf env name; pure (ForInStep.yield ((name, a) :: cs))) else pure (ForInStep.yield cs) : Sem (ForInStep (List (Str × Addr)))))) = (pure (closFrom env acc l) : Sem (List (Str × Addr))) := by
  intro l
  induction l with
  | nil => intro acc _; rfl
  | cons nk r ih =>
    obtain ⟨n, k⟩ := nk
    intro acc h
    have hr : ∀ y ∈ r, y.2 = .free → ∃ c, env.cells.lookup y.1 = some c := fun y hy => h y (List.mem_cons_of_mem _ hy)
    rw [List.forIn_cons]
    by_cases hk : k = .free
    · subst hk
      obtain ⟨c, hc⟩ := h (n, .free) List.mem_cons_self rfl
      have hc' : env.cells.lookup n = some c := hc
      simp only [beq_self_eq_true, if_true, closFrom, hc']
      have e : cellOf env n = pure c := by unfold cellOf; rw [hc']
      rw [e, pure_bind, pure_bind]
      exact ih _ hr
    · have hb : (k == NameKind.free) = false := by simpa using hk
      simp only [hb, Bool.false_eq_true, if_false, closFrom]
      rw [pure_bind]
      exact ih _ hr
theorem clos_eq {env : Env} {sc : Scope} (h : ∀ y ∈ sc.names, y.2 = .free → ∃ c, env.cells.lookup y.1 = some c) : closureFor sc env = pure (closFrom env [] sc.names) := by
  unfold closureFor
  exact (congrArg (fun m => m >>= fun cs => pure cs) (clos_run env sc.names [] h)).trans (pure_bind _ _)
theorem clos_sound {env : Env} : ∀ (l : List (Str × NameKind)) (acc : List (Str × Addr)), (∀ x c, acc.lookup x = some c → env.cells.lookup x = some c) →
    ∀ x c, (closFrom env acc l).lookup x = some c → env.cells.lookup x = some c := by
  intro l
  induction l with
  | nil => intro acc h x c e; exact h x c e
  | cons nk r ih =>
    obtain ⟨n, k⟩ := nk
    intro acc h x c e
    refine ih _ (fun y d q => ?_) x c e
    by_cases hk : (k == NameKind.free) = true
    · rw [if_pos hk] at q
      cases hl : env.cells.lookup n with
      | none => rw [hl] at q; exact h y d q
      | some a =>
        rw [hl] at q
        simp only [List.lookup_cons] at q
        by_cases hy : (y == n) = true
        · rw [hy] at q
          have e1 : y = n := by simpa using hy
          subst e1
          cases q
          exact hl
        · rw [Bool.not_eq_true] at hy
          rw [hy] at q
          exact h y d q
    · rw [if_neg hk] at q
      exact h y d q
theorem clos_grow {env : Env} : ∀ (l : List (Str × NameKind)) (acc : List (Str × Addr)) (x : Str), (acc.lookup x).isSome = true → ((closFrom env acc l).lookup x).isSome = true
  | [], acc, x, h => h
  | (n, k) :: r, acc, x, h => by
    refine clos_grow r _ x ?_
    by_cases hk : (k == NameKind.free) = true
    · rw [if_pos hk]
      cases env.cells.lookup n with
      | none => exact h
      | some a =>
        show (List.lookup x ((n, a) :: acc)).isSome = true
        rw [List.lookup_cons]
        by_cases hy : (x == n) = true
        · rw [hy]; rfl
        · rw [Bool.not_eq_true] at hy
          rw [hy]; exact h
    · rw [if_neg hk]; exact h
theorem clos_some {env : Env} (l : List (Str × NameKind)) (acc : List (Str × Addr)) (x : Str) (h : (x, NameKind.free) ∈ l) (q : ∃ c, env.cells.lookup x = some c) : ((closFrom env acc l).lookup x).isSome = true := by
  obtain ⟨c, hc⟩ := q
  induction l generalizing acc with
  | nil => cases h
  | cons p r ih =>
    rcases List.mem_cons.mp h with e | h
    · subst e
      refine clos_grow r _ x ?_
      rw [if_pos (beq_self_eq_true _), hc]
      show (List.lookup x ((x, c) :: acc)).isSome = true
      rw [List.lookup_cons, beq_self_eq_true]; rfl
    · exact ih _ h
theorem relab_free {env : Env} : ∀ (l : List (Str × NameKind)) (x : Str) (k : NameKind), (∀ y ∈ l, y.2 ≠ .cell) → k = .cell ∨ k = .free →
    (l.map fun (n, k) => if (k == NameKind.free && env.scope.kind == .function && env.kindOf n == some .cell) then (n, NameKind.cell) else (n, k)).lookup x = some k → (x, NameKind.free) ∈ l := by
  intro l
  induction l with
  | nil => intro _ _ _ _ h; simp at h
  | cons nk r ih =>
    obtain ⟨n, k'⟩ := nk
    intro x k hc hk h
    rw [List.map_cons] at h
    by_cases hx : (x == n) = true
    · have e1 : x = n := by simpa using hx
      subst e1
      by_cases hf : k' = .free
      · subst hf; exact List.mem_cons_self
      · exfalso
        have hb : (k' == NameKind.free) = false := by simpa using hf
        simp only [hb, Bool.false_and, Bool.false_eq_true, if_false, List.lookup_cons, beq_self_eq_true] at h
        have e2 : k' = k := Option.some.inj h
        rcases hk with z | z
        · exact hc (x, k') List.mem_cons_self (e2.trans z)
        · exact hf (e2.trans z)
    · rw [Bool.not_eq_true] at hx
      refine List.mem_cons_of_mem _ (ih x k (fun y hy => hc y (List.mem_cons_of_mem _ hy)) hk ?_)
      by_cases hq : (k' == NameKind.free && env.scope.kind == .function && env.kindOf n == some .cell) = true
      · simp only [hq, if_true, List.lookup_cons, hx] at h; exact h
      · rw [Bool.not_eq_true] at hq
        simp only [hq, Bool.false_eq_true, if_false, List.lookup_cons, hx] at h; exact h
theorem relab_of_free {env : Env} : ∀ (l : List (Str × NameKind)) (x : Str), l.lookup x = some .free →
    ∃ k, (k = NameKind.cell ∨ k = NameKind.free) ∧ (l.map fun (n, k) => if (k == NameKind.free && env.scope.kind == .function && env.kindOf n == some .cell) then (n, NameKind.cell) else (n, k)).lookup x = some k := by
  intro l
  induction l with
  | nil => intro _ h; simp at h
  | cons nk r ih =>
    obtain ⟨n, k'⟩ := nk
    intro x h
    rw [List.map_cons]
    by_cases hx : (x == n) = true
    · simp only [List.lookup_cons, hx] at h
      have e2 : k' = .free := Option.some.inj h
      subst e2
      by_cases hq : (NameKind.free == NameKind.free && env.scope.kind == .function && env.kindOf n == some .cell) = true
      · exact ⟨.cell, .inl rfl, by simp only [hq, if_true, List.lookup_cons, hx]⟩
      · rw [Bool.not_eq_true] at hq
        exact ⟨.free, .inr rfl, by simp only [hq, Bool.false_eq_true, if_false, List.lookup_cons, hx]⟩
    · rw [Bool.not_eq_true] at hx
      simp only [List.lookup_cons, hx] at h
      obtain ⟨k, hk, e⟩ := ih x h
      refine ⟨k, hk, ?_⟩
      by_cases hq : (k' == NameKind.free && env.scope.kind == .function && env.kindOf n == some .cell) = true
      · simp only [hq, if_true, List.lookup_cons, hx]; exact e
      · rw [Bool.not_eq_true] at hq
        simp only [hq, Bool.false_eq_true, if_false, List.lookup_cons, hx]; exact e
theorem mem_of_look {l : List (Str × NameKind)} {x : Str} {k : NameKind} : l.lookup x = some k → (x, k) ∈ l := by
  induction l with
  | nil => intro h; simp at h
  | cons p r ih =>
    intro h
    obtain ⟨n, k'⟩ := p
    by_cases hx : (x == n) = true
    · simp only [List.lookup_cons, hx] at h
      have e1 : x = n := by simpa using hx
      subst e1
      cases h
      exact List.mem_cons_self
    · rw [Bool.not_eq_true] at hx
      simp only [List.lookup_cons, hx] at h
      exact List.mem_cons_of_mem _ (ih h)
section
variable {prog : Program} {w : World} {A : Around} {E : Value → Shared → Prop} {R : Result → Shared → Prop} {s : Shared}
noncomputable abbrev NoX : Value → Shared → Prop := fun _ _ => False
theorem comp_turns {elt target iter : Expr} {ifs : List Expr} {scope : Scope} {pos : Pos} {it acc : Value} {env : Env} (J : Nat → Shared → Prop)
    (turn : ∀ n s, J n s → wpAny (model prog w) A (pyNext it) (fun r s₁ => (r = none ∧ R (.ok .next) s₁) ∨ ∃ v, r = some v ∧
      wpAny (model prog w) A (letOwnedTupleGo target it v) (fun _ s₁' => wpAny (model prog w) A (assign target env v) (fun _ s₂ =>
        wpAny (model prog w) A (forIn ifs true fun c r => if r = true then do let ok ← isTrue c env (eval c env); pure (ForInStep.yield ok) else pure (ForInStep.yield r)) (fun ok s₃ =>
          (ok = true → wpAny (model prog w) A (eval elt env) (fun x s₄ => wpAny (model prog w) A (call (.builtin "list.append") [acc, x]) (fun _ s₅ => ∃ m, m < n ∧ J m s₅) NoX s₄) NoX s₃) ∧
          (ok = false → ∃ m, m < n ∧ J m s₃)) NoX s₂) NoX s₁') NoX s₁) NoX s)
    (n : Nat) (h : J n s) : codeAny (model prog w) A (.compLoop (.ListComp elt [⟨target, iter, ifs, 0⟩] scope pos) 0 it acc env) R s := by
  refine codeAny_loop (M := model prog w) (A := A) rfl J (fun n s hJ => ?_) n h
  refine wpAny_noted (m := compTurn (.ListComp elt [⟨target, iter, ifs, 0⟩] scope pos) 0 it acc env) ?_
  rw [compTurn_list]
  refine wpAny_bind (wpAny_standAt (wpAny_bind (wpAny_mono (turn n s hJ) (fun r s₁ q => ?_) fun _ _ z => z.elim)))
  rcases q with ⟨e, q⟩ | ⟨v, e, q⟩
  · subst e
    exact wpAny_pure q
  · subst e
    refine wpAny_bind (wpAny_mono q (fun _ s₂ q => ?_) fun _ _ z => z.elim)
    refine wpAny_bind (wpAny_mono q (fun _ s₃ q => ?_) fun _ _ z => z.elim)
    refine wpAny_bind (wpAny_mono q (fun ok s₄ q => ?_) fun _ _ z => z.elim)
    cases ok with
    | false => exact wpAny_pure ⟨rfl, q.2 rfl⟩
    | true =>
      refine wpAny_bind (wpAny_bind (wpAny_mono (q.1 rfl) (fun x s₅ q => ?_) fun _ _ z => z.elim))
      exact wpAny_bind (wpAny_mono q (fun _ s₆ q => wpAny_pure (wpAny_pure ⟨rfl, q⟩)) fun _ _ z => z.elim)
end
noncomputable def PIf (X : Cx) (ifs : List Expr) (t : TT) : Prop :=
  ∀ (pins : List (Addr × Obj)) (s : Shared) (σ : St) (H : Hp) (Q : Bool → Hp → Prop), Inv X pins σ H s → t σ H Q →
    wpAny (model X.prog X.w) X.A (forIn ifs true fun c r => if r = true then do let ok ← isTrue c X.env (eval c X.env); pure (ForInStep.yield ok) else pure (ForInStep.yield r)) (TP X pins σ Q) X.xe s
noncomputable def tYes : TT := fun _ H Q => Q true H
theorem pif_nil {X : Cx} : PIf X [] tYes := fun _ _ _ H _ I h => wpAny_tests_nil ⟨H, I, h⟩
theorem pif_one {X : Cx} {c : Expr} {t : TT} (h : PT X c t) : PIf X [c] t := fun pins s σ H Q I hw => wpAny_tests_one (h pins s σ H Q I hw)
noncomputable def pick (σ : St) (js : List (Option Nat)) : St := js.map fun j => j.bind fun i => (σ[i]?).join
noncomputable def Kept (σ σ' : St) : Prop := σ'.length = σ.length ∧ ∀ (i : Nat) v, σ[i]? = some (some v) → σ'[i]? = some (some v)
noncomputable def CompB (J : It) (H1 : Hp) (js : List (Option Nat)) (g : TG) (tc : TT) (te : TE) (σ : St) (Q : VK) : Prop := ∀ acc, H1 acc = none →
  ∃ W : Nat → Nat → List V → Hp → Prop, (∃ m, W 0 m [] (upd H1 acc (.lst []))) ∧ ∀ i m ys H, W i m ys H →
    (J.stop i H ∧ Q (.ref acc) H) ∨ (J.go i H ∧ ∃ N : List V → Hp → Prop, (∀ ys' H', N ys' H' → ∃ m', m' < m ∧ W (i + 1) m' ys' H') ∧
      ∀ x H', J.yld i H x H' → g x (pick σ js) H' fun σ2 H2 => Kept (pick σ js) σ2 ∧ tc σ2 H2 fun b H3 =>
        (b = true → te σ2 H3 fun y H4 => H4 acc = some (.lst ys) ∧ ys.length < sizeLine ∧ N (ys ++ [y]) (upd H4 acc (.lst (ys ++ [y])))) ∧ (b = false → N ys H3))
noncomputable def tComp (wi : TI) (js : List (Option Nat)) (g : TG) (tc : TT) (te : TE) : TE := fun σ H Q => wi σ H fun J H1 => CompB J H1 js g tc te σ Q
theorem Un.but {fs ex : List Addr} {H H1 : Hp} {h h1 h2 : Heap} (u : Un fs ex H H1 h h1) (k : ∀ b o, h.get? b = some o → ∀ o', h1.get? b = some o' → h2.get? b = some o') : Un fs ex H H1 h h2 where
  keep := fun b o e n h1 h2 => k b o e _ (u.keep b o e n h1 h2)
  slot := fun b o e n h1 h2 => let ⟨sl, q⟩ := u.slot b o e n h1 h2; ⟨sl, k b o e _ q⟩
  free := u.free
  there := fun b o e hx => let ⟨o', q⟩ := u.there b o e hx; ⟨o', k b o e _ q⟩
  tups := u.tups
  frzs := u.frzs
  tbls := u.tbls
theorem stays_but {P : Program} {w : World} {H : Hp} {h h' : Heap} {C : Addr} (ok : HOk P w H h) (hn : H C = none) (k : ∀ b o, b ≠ C → h.get? b = some o → h'.get? b = some o) : HOk P w H h' := fun b o e => by
  refine (ok b o e).stay (fun c u hc q => k c u ?_ q) (fun _ q => q) fun _ _ q => q
  rintro rfl
  rcases hc with z | z
  · rw [z] at hn; rw [hn] at e; cases e
  · rw [hn] at z; cases z
theorem pair_get {α β : Type} {F : α → β → Prop} : ∀ {l : List α} {r : List β} {i : Nat} {b : β}, Paired F l r → r[i]? = some b → ∃ a, l[i]? = some a ∧ F a b := by
  intro l r i b h
  induction h generalizing i with
  | nil => intro e; simp at e
  | cons r t ih =>
    intro e
    cases i with
    | zero => cases e; exact ⟨_, rfl, r⟩
    | succ i => exact ih e
theorem blk_ok {X : Cx} {pins : List (Addr × Obj)} {σ : St} {H : Hp} {s : Shared} {sc : Scope} {N : List Str} {fp : List Addr} (I : Inv X pins σ H s) (hk : sc.kind = .function)
    (hcell : ∀ y ∈ sc.names, y.2 ≠ .cell) (hcl : ∀ y ∈ sc.names, y.2 = .free → ∃ c, X.env.cells.lookup y.1 = some c) (f : ∀ b ∈ fp, FpOk X pins H b) (fl : ∀ b ∈ fp, b < s.heap.objs.size) :
    (blk X sc N ⟨closFrom X.env [] sc.names, s.heap.objs.size, s, H, fp⟩).Ok where
  mod := I.ok.mod
  kind := hk
  glob := I.ok.glob
  blt := I.ok.blt
  above := Nat.le_refl _
  inj := fun x y c e1 e2 => I.ok.inj x y c (clos_sound _ [] (fun _ _ z => by simp at z) x c e1) (clos_sound _ [] (fun _ _ z => by simp at z) y c e2)
  has := fun x hx => by
    have m : (x, NameKind.free) ∈ sc.names := by
      rcases hx with z | z
      · exact relab_free (env := X.env) sc.names x _ hcell (.inl rfl) z
      · exact relab_free (env := X.env) sc.names x _ hcell (.inr rfl) z
    exact Option.isSome_iff_exists.mp (clos_some sc.names [] x m (hcl _ m rfl))
  cab := fun _ _ z => by cases z
  hd := I.ok.hd
  frames := I.ok.frames
  stk := .inl rfl
  exf := fun b hb => ⟨Nat.ne_of_lt (fl b hb), fun x c e => (f b hb).2.2.2.2.1 x c (clos_sound _ [] (fun _ _ z => by simp at z) x c e)⟩
  bs := I.bs
  bsz := Nat.le_trans I.ok.bsz I.sz
  noex := fun b o e hb => by
    rcases (f b hb).2.2.2.1 with z | z
    · exact I.ok.noex b o e z
    · exact absurd (Nat.lt_of_lt_of_le (Heap.lt_size (I.ok.bs b o e).1) z) (Nat.lt_irrefl _)
  exfs := fun b hb hs => by
    rcases List.mem_cons.mp (I.stkSub b hs) with z | z
    · exact (f b hb).2.1 z
    · exact (f b hb).2.2.1 z
  funs := I.stack
  frf := I.stkFree
theorem blk_inv {X : Cx} {pins : List (Addr × Obj)} {σ : St} {H : Hp} {s s4 : Shared} {sc : Scope} {N : List Str} {js : List (Option Nat)} {fp : List Addr} {m : Str → Option Value} (I : Inv X pins σ H s)
    (ok : (blk X sc N ⟨closFrom X.env [] sc.names, s.heap.objs.size, s, H, fp⟩).Ok) (hfree : ∀ y ∈ sc.names, y.2 = .free → X.env.kindOf y.1 = some .cell ∨ X.env.kindOf y.1 = some .free)
    (hN : Paired (fun (j : Option Nat) n => ∀ i, j = some i → X.N[i]? = some n ∧ sc.names.lookup n = some .free) js N)
    (ho : s4.os = s.os) (hg : s4.gens = s.gens) (ns : s4.heap.Ns s.heap.objs.size m) (kp : ∀ b u, s.heap.get? b = some u → s4.heap.get? b = some u) :
    Inv (blk X sc N ⟨closFrom X.env [] sc.names, s.heap.objs.size, s, H, fp⟩) [] (pick σ js) H s4 where
  ok := ok
  os := ho
  bare := by rw [hg]; exact I.bare
  base := Un.kept kp
  loc := by
    refine ⟨m, ns, fun i x v e1 e2 e3 => ?_⟩
    have e1' : N[i]? = some x := e1
    obtain ⟨j, ej, fj⟩ := pair_get hN e1'
    unfold pick at e2
    rw [List.getElem?_map, ej] at e2
    cases j with
    | none => cases e2
    | some k =>
      obtain ⟨a1, a2⟩ := fj k rfl
      have e2' : (σ[k]?).join = some v := Option.some.inj e2
      have e4 : σ[k]? = some (some v) := by
        cases z : σ[k]? with
        | none => rw [z] at e2'; cases e2'
        | some y => rw [z] at e2'; exact congrArg some e2'
      have mem := mem_of_look a2
      have kn := hfree _ mem rfl
      have vis : Vis X.env.scope x := .inr kn
      obtain ⟨m', hn', hl'⟩ := I.loc
      obtain ⟨u, ru, lk⟩ := hl' k x v a1 e4 vis
      refine ⟨u, ru, .inr ⟨?_, ?_⟩⟩
      · obtain ⟨k', hk', e⟩ := relab_of_free (env := X.env) sc.names x a2
        rcases hk' with z | z
        · subst z; exact .inl e
        · subst z; exact .inr e
      · rcases lk with ⟨z, _⟩ | ⟨_, c, hc, hcl⟩
        · rcases kn with q | q
          · have q' : X.env.kindOf x = some .cell := q
            rw [z] at q'; cases q'
          · have q' : X.env.kindOf x = some .free := q
            rw [z] at q'; cases q'
        · obtain ⟨c', e'⟩ := Option.isSome_iff_exists.mp (clos_some (env := X.env) sc.names [] x mem ⟨c, hc⟩)
          have e2 := clos_sound sc.names [] (fun _ _ z => by simp at z) x c' e'
          rw [hc] at e2
          cases e2
          obtain ⟨o, h1, h2⟩ := hcl
          exact ⟨c, e', o, kp c o h1, h2⟩
  cell := fun x c e => by
    obtain ⟨v, o, h1, h2⟩ := I.cell x c (clos_sound _ [] (fun _ _ z => by simp at z) x c e)
    exact ⟨v, o, kp c o h1, h2⟩
  free := I.hok.fresh (Nat.le_refl _)
  freeC := fun x c e => I.freeC x c (clos_sound _ [] (fun _ _ z => by simp at z) x c e)
  pin := fun p hp => by cases hp
  hok := I.hok.kept kp
  len := by
    unfold pick
    rw [List.length_map]
    exact Paired.length hN
set_option maxHeartbeats 4000000 in
theorem lcomp_core {X : Cx} {cpos : Pos} {use : Option (Value → Sem Unit)} {R : Value → Shared → Prop} {pins : List (Addr × Obj)} {s : Shared} {σ : St} {H : Hp} {Q : VK} {elt iter tg : Expr} {ifs : List Expr} {sc : Scope} {pos : Pos} {wi : TI} {g : TG} {tc : TT} {te : TE} (N : List Str) (js : List (Option Nat))
    (hcalm : X.calm = true) (hi : PI X tg iter wi) (hg : ∀ b, PG (blk X sc N b) tg g) (hc : ∀ b, PIf (blk X sc N b) ifs tc) (he : ∀ b, PE (blk X sc N b) elt te)
    (hN : Paired (fun (j : Option Nat) n => ∀ i, j = some i → X.N[i]? = some n ∧ sc.names.lookup n = some .free) js N)
    (hk : sc.kind = .function)
    (hcell : (sc.names.all fun y => y.2 != .cell) = true)
    (hfree : (sc.names.all fun y => y.2 != .free || (X.env.scope.names.lookup y.1 == some .cell || X.env.scope.names.lookup y.1 == some .free)) = true)
    (hnames : (sc.names.all fun y => y.2 != .local || sc.names.lookup y.1 == some .local) = true)
    (hs : ∀ x, foldedSetIterable iter X.env x = pure x) (I : Inv X pins σ H s) (h : tComp wi js g tc te σ H Q)
    (fin0 : ∀ (l C : Addr) (s' : Shared) (H' : Hp) (m : Str → Option Value), Inv X pins σ H' s' → s'.heap.Ns C m → H' C = none → X.env.locals ≠ C → X.s₀.heap.objs.size ≤ C → (∀ x c, X.env.cells.lookup x = some c → c ≠ C) → (∀ p ∈ X.pn ++ pins, p.1 ≠ C) → Q (.ref l) H' → compPost (model X.prog X.w) X.A X.xe use R (.ref l) C (.ok .next) s') :
    wpAny (model X.prog X.w) X.A (comprehension (.ListComp elt [⟨tg, iter, ifs, 0⟩] sc pos) sc X.env cpos (newList []) false (eval iter X.env) use) R X.xe s := by
  have hcell' : ∀ y ∈ sc.names, y.2 ≠ .cell := fun y hy => by simpa using List.all_eq_true.mp hcell y hy
  have hfree' : ∀ y ∈ sc.names, y.2 = .free → X.env.kindOf y.1 = some .cell ∨ X.env.kindOf y.1 = some .free := fun y hy e => by
    have q := List.all_eq_true.mp hfree y hy
    rw [e] at q
    have q' : X.env.scope.names.lookup y.1 = some .cell ∨ X.env.scope.names.lookup y.1 = some .free := by simpa using q
    exact q'
  have hnames' : ∀ y ∈ sc.names, y.2 = .local → sc.names.lookup y.1 = some .local := fun y hy e => by
    have q := List.all_eq_true.mp hnames y hy
    rw [e] at q
    simpa using q
  have hcl : ∀ y ∈ sc.names, y.2 = .free → ∃ c, X.env.cells.lookup y.1 = some c := fun y hy e => I.ok.has y.1 (hfree' y hy e)
  refine wpAny_comprehension_free (use := use) (g := ⟨tg, iter, ifs, 0⟩) (gs := []) rfl hs (clos_eq hcl) hk hnames' ?_
  refine thn (hi pins s σ H _ I h) fun v s1 h1 => thn h1 fun itv s2 h2 => ?_
  obtain ⟨it, fp, tn, J, H2, e, I2, T, st2, f2, q⟩ := h2
  subst e
  obtain ⟨W, ⟨m0, w0⟩, step⟩ := q _ I2.fresh
  refine wpAny_newObj_type (wpAny_newFunctionEnv hcell' (by intro y hy; simp at hy) (fun h₁ hns hsb => ?_) hk)
  dsimp only at hns hsb ⊢
  have I3 : Inv X pins σ (upd H2 s2.heap.objs.size (.lst [])) { s2 with heap := s2.heap.push { cls := .type "list", data := .seq ([] : List Value).toArray }, toks := s2.toks } := I2.lnew .nil (Nat.zero_le _)
  generalize hs3 : ({ s2 with heap := s2.heap.push { cls := .type "list", data := .seq ([] : List Value).toArray }, toks := s2.toks } : Shared) = s3 at I3
  generalize hH3 : upd H2 s2.heap.objs.size (.lst []) = H3 at I3 w0
  have es3 : s3.heap = s2.heap.push { cls := .type "list", data := .seq ([] : List Value).toArray } := by rw [← hs3]
  have hC : (s2.heap.push { cls := .type "list", data := .seq ([] : List Value).toArray }).objs.size = s3.heap.objs.size := by rw [es3]
  have f3 : ∀ b ∈ fp, FpOk X pins H3 b := fun b hb => ⟨by rw [← hH3, upd_ne (Nat.ne_of_lt (by obtain ⟨o, e, _⟩ := T.obj _ _ st2 b hb; exact Heap.lt_size e))]; exact (f2 b hb).1, (f2 b hb).2⟩
  have fl3 : ∀ b ∈ fp, b < s3.heap.objs.size := fun b hb => by
    obtain ⟨o, e, _⟩ := T.obj _ _ st2 b hb
    rw [es3, Heap.size_push]
    exact Nat.lt_succ_of_lt (Heap.lt_size e)
  have ok := blk_ok (N := N) (sc := sc) (fp := fp) I3 hk hcell' hcl f3 fl3
  have k23 : ∀ b u, s2.heap.get? b = some u → s3.heap.get? b = some u := fun b u e => by rw [es3]; exact Heap.get?_push_of_some _ e
  have k34 : ∀ b u, s3.heap.get? b = some u → h₁.get? b = some u := fun b u e => by
    rw [hC] at hsb
    refine (hsb.2 b (Nat.ne_of_lt (Heap.lt_size e))).trans (Heap.get?_push_of_some _ ?_)
    rw [← es3]; exact e
  have I4 := blk_inv (s4 := { s2 with heap := h₁, toks := s2.toks + ([] : List (Str × Value)).length }) (js := js) I3 ok hfree' hN (by rw [← hs3]) (by rw [← hs3]) (by rw [← hC]; exact hns) k34
  have st4 : tn 0 h₁ := T.keep _ _ _ st2 fun b _ o e => k34 b o (k23 b o e)
  generalize hs4 : ({ s2 with heap := h₁, toks := s2.toks + ([] : List (Str × Value)).length } : Shared) = s4 at I4
  have eh4 : s4.heap = h₁ := by rw [← hs4]
  rw [hC]
  generalize hB : (⟨closFrom X.env [] sc.names, s3.heap.objs.size, s3, H3, fp⟩ : BA) = B at ok I4
  have eC : B.C = s3.heap.objs.size := by rw [← hB]
  have stat : ∀ {H' : Hp}, (∀ b ∈ fp, H' b = none) → ∀ b ∈ fp, FpOk (blk X sc N B) [] H' b := fun hn b hb => by
    refine ⟨hn b hb, ?_, fun z => ?_, .inl (by rw [← hB]; exact hb), fun x c e => (ok.exf b (by rw [← hB]; exact hb)).2 x c e, fun p hp => by cases hp⟩
    · exact (ok.exf b (by rw [← hB]; exact hb)).1
    · exact ok.exfs b (by rw [← hB]; exact hb) z
  have fin : ∀ {s' : Shared} {H' : Hp} {σ' : St}, Inv (blk X sc N B) [] σ' H' s' → Q (.ref s2.heap.objs.size) H' →
      compPost (model X.prog X.w) X.A X.xe use R (.ref s2.heap.objs.size) s3.heap.objs.size (.ok .next) s' := fun {s' H' σ'} I' q' => by
    obtain ⟨m, hm, _⟩ := id I'.loc
    have hm' : s'.heap.Ns s3.heap.objs.size m := by rw [← eC]; exact hm
    have u1 : Un (frs X.stack) fp H2 H3 s2.heap s3.heap := by rw [← hH3]; exact Un.laid k23 (Nat.le_refl _) I2.fresh
    have u2 : Un (frs X.stack) fp H3 H' s3.heap s'.heap := by
      have z := I'.base
      rw [← hB] at z
      exact z
    have fr' : H' s3.heap.objs.size = none := by rw [← eC]; exact I'.free
    have os' : s'.os = s2.os := by
      have z := I'.os
      rw [← hB] at z
      rw [z, ← hs3]
    have Io : Inv X pins σ H' s' := I2.call' (s' := s') (ch := fp) os' (u1.trans u2) I'.hok I'.bare fun b hb => ⟨(f2 b hb).2.2.2.1, (f2 b hb).2.1, (f2 b hb).2.2.2.2.1, (f2 b hb).2.2.2.2.2⟩
    have ltC : s2.heap.objs.size < s3.heap.objs.size := by rw [es3, Heap.size_push]; exact Nat.lt_succ_self _
    have cC : ∀ x c, X.env.cells.lookup x = some c → c ≠ s3.heap.objs.size := fun x c e z => by
      obtain ⟨v, q⟩ := I2.cell x c e
      exact absurd q.lt (by rw [z]; exact Nat.not_lt.mpr (Nat.le_of_lt ltC))
    exact fin0 _ _ s' H' m Io hm' fr' (Nat.ne_of_lt (Nat.lt_trans I2.lt ltC)) (Nat.le_trans I2.sz (Nat.le_of_lt ltC)) cC (fun p hp z => absurd (Heap.lt_size (I2.pin p hp).1) (by rw [z]; exact Nat.not_lt.mpr (Nat.le_of_lt ltC))) q'
  have loop : codeAny (model X.prog X.w) X.A (.compLoop (.ListComp elt [⟨tg, iter, ifs, 0⟩] sc pos) 0 (.ref it) (.ref s2.heap.objs.size) (blk X sc N B).env)
      (compPost (model X.prog X.w) X.A X.xe use R (.ref s2.heap.objs.size) s3.heap.objs.size) s4 := by
    refine comp_turns (fun n s' => ∃ i ys σ' H', Inv (blk X sc N B) [] σ' H' s' ∧ Kept (pick σ js) σ' ∧ tn i s'.heap ∧ (∀ b ∈ fp, H' b = none) ∧ W i n ys H') ?_ m0
      ⟨0, [], pick σ js, H3, I4, ⟨rfl, fun _ _ z => z⟩, by rw [eh4]; exact st4, fun b hb => (f3 b hb).1, w0⟩
    rintro n s5 ⟨i, ys, σ5, H5, I5', kp5, st5, fr5, w5⟩
    have I5 : Inv (blk X sc N B) [] (pick σ js) H5 s5 := I5'.weak kp5.1.symm kp5.2
    rcases step i n ys H5 w5 with ⟨stop, qn⟩ | ⟨go, N', hN', turn⟩
    · refine thn (T.done (blk X sc N B) rfl rfl rfl hcalm i [] s5 _ H5 NoX I5 (stat fr5) st5 stop) fun r s6 ⟨hr, I6⟩ => .inl ⟨hr, fin I6 qn⟩
    · refine thn (T.item (blk X sc N B) rfl rfl rfl hcalm i [] s5 _ H5 NoX I5 (stat fr5) st5 go) fun r s6 ⟨u, hr, h6⟩ => .inr ⟨u, hr, ?_⟩
      refine thn h6 fun _ s7 hq__ => ?_
      obtain ⟨x, H7, I7, r7, y7, st7, fr7⟩ := hq__
      have I7' := I7.pinned (stat fr7) (T.obj _ _ st7)
      have back : ∀ {σ8 : St} {H8 : Hp} {s8 : Shared}, Inv (blk X sc N B) ([] ++ pinsAt fp s7.heap) σ8 H8 s8 → tn (i + 1) s8.heap ∧ ∀ b ∈ fp, H8 b = none := fun {σ8 H8 s8} I8 => by
        refine ⟨T.keep _ _ _ st7 fun b hb o e => (I8.pin (b, o) (List.mem_append_right _ (List.mem_append_right _ (mem_pinsAt hb e)))).1, fun b hb => ?_⟩
        obtain ⟨o, e, d⟩ := T.obj _ _ st7 b hb
        exact (I8.pin (b, o) (List.mem_append_right _ (List.mem_append_right _ (mem_pinsAt hb e)))).2.1
      refine thn (hg B _ s7 _ H7 x u _ I7' r7 (turn x H7 y7)) fun _ s8 hq__ => ?_
      obtain ⟨σ8, H8, I8, kp8, q8⟩ := hq__
      refine thn (hc B _ s8 σ8 H8 _ I8 q8) fun ok s9 ⟨H9, I9, q9⟩ => ⟨fun e => ?_, fun e => ?_⟩
      · refine thn (he B _ s9 σ8 H9 _ I9 (q9.1 e)) fun yv s10 hq__ => ?_
        obtain ⟨y, H10, I10, r10, q10⟩ := hq__
        obtain ⟨e10, l10, n10⟩ := q10
        refine thn (mt_append _ s10 σ8 H10 (.ref s2.heap.objs.size) [y] _ _ (fun _ H' => N' (ys ++ [y]) H') I10 rfl (.cons r10 .nil) ⟨_, ys, y, rfl, rfl, e10, l10, n10⟩) fun _ s11 hq__ => ?_
        obtain ⟨_, H11, I11, _, q11⟩ := hq__
        obtain ⟨m', hm, w11⟩ := hN' _ _ q11
        obtain ⟨st11, fr11⟩ := back I11
        exact ⟨m', hm, i + 1, ys ++ [y], σ8, H11, I11.unpinned, kp8, st11, fr11, w11⟩
      · obtain ⟨m', hm, w11⟩ := hN' _ _ (q9.2 e)
        obtain ⟨st11, fr11⟩ := back I9
        exact ⟨m', hm, i + 1, ys, σ8, H9, I9.unpinned, kp8, st11, fr11, w11⟩
  have env_eq : (blk X sc N B).env = compEnvC sc (closFrom X.env [] sc.names) s3.heap.objs.size X.env := by rw [← hB]
  rw [env_eq] at loop
  have st4' : tn 0 s4.heap := by rw [eh4]; exact st4
  exact codeAny_compStart_list loop (T.self X.A 0 _ _ _ st4' loop)
theorem pe_lcomp {X : Cx} {elt iter tg : Expr} {ifs : List Expr} {sc : Scope} {pos : Pos} {wi : TI} {g : TG} {tc : TT} {te : TE} (N : List Str) (js : List (Option Nat))
    (hcalm : X.calm = true) (hi : PI X tg iter wi) (hg : ∀ b, PG (blk X sc N b) tg g) (hc : ∀ b, PIf (blk X sc N b) ifs tc) (he : ∀ b, PE (blk X sc N b) elt te)
    (hN : Paired (fun (j : Option Nat) n => ∀ i, j = some i → X.N[i]? = some n ∧ sc.names.lookup n = some .free) js N)
    (hk : sc.kind = .function := by rfl)
    (hcell : (sc.names.all fun y => y.2 != .cell) = true := by rfl)
    (hfree : (sc.names.all fun y => y.2 != .free || (X.env.scope.names.lookup y.1 == some .cell || X.env.scope.names.lookup y.1 == some .free)) = true := by rfl)
    (hnames : (sc.names.all fun y => y.2 != .local || sc.names.lookup y.1 == some .local) = true := by rfl)
    (hs : ∀ x, foldedSetIterable iter X.env x = pure x := by intro _; rfl) : PE X (.ListComp elt [⟨tg, iter, ifs, 0⟩] sc pos) (tComp wi js g tc te) := by
  intro pins s σ H Q I h
  rw [eval_ListComp]
  exact lcomp_core (use := none) N js hcalm hi hg hc he hN hk hcell hfree hnames hs I h fun l C s' H' m Io hm fr lC sz cC pC q' => ⟨m, hm, fun h' sb' => ⟨.ref l, H', Io.turned (t' := s'.toks) (it := C) (fun b o hb e => (sb'.2 b hb).trans e) fr lC.symm (.inr sz) cC pC, rfl, q'⟩⟩
end L2
set_option Elab.async false
set_option linter.all false
set_option maxRecDepth 100000
namespace L2
open PySem PySem.Spec PyProof.Rows
theorem ps_setC {X : Cx} {i₀ : Nat} {y₀ : Str} {py spos : Pos} {elt iter tg : Expr} {ifs : List Expr} {sc : Scope} {pos : Pos} {wi : TI} {g : TG} {tc : TT} {te : TE} (hN₀ : X.N.Nodup) (hi₀ : X.N[i₀]? = some y₀) (hx₀ : Loc X.env.scope y₀) (N : List Str) (js : List (Option Nat))
    (hcalm : X.calm = true) (hi : PI X tg iter wi) (hg : ∀ b, PG (blk X sc N b) tg g) (hc : ∀ b, PIf (blk X sc N b) ifs tc) (he : ∀ b, PE (blk X sc N b) elt te)
    (hN : Paired (fun (j : Option Nat) n => ∀ i, j = some i → X.N[i]? = some n ∧ sc.names.lookup n = some .free) js N)
    (hk : sc.kind = .function := by rfl)
    (hcell : (sc.names.all fun y => y.2 != .cell) = true := by rfl)
    (hfree : (sc.names.all fun y => y.2 != .free || (X.env.scope.names.lookup y.1 == some .cell || X.env.scope.names.lookup y.1 == some .free)) = true := by rfl)
    (hnames : (sc.names.all fun y => y.2 != .local || sc.names.lookup y.1 == some .local) = true := by rfl)
    (hs : ∀ x, foldedSetIterable iter X.env x = pure x := by intro _; rfl) (hsw : swapsWith (.ListComp elt [⟨tg, iter, ifs, 0⟩] sc pos) (some (.Name y₀ py)) spos.line X.env = pure true := by rfl)
    (hf₀ : X.fn y₀ = true ∨ X.env.scope.names.lookup y₀ = some .local := by first | exact .inl rfl | exact .inr rfl | assumption) : PS X (.Assign [.Name y₀ py] (.ListComp elt [⟨tg, iter, ifs, 0⟩] sc pos) spos) (tAsg (tComp wi js g tc te) (gName i₀)) := by
  intro pins s σ H D I h
  rw [exec_Assign_Name_used _ _ _ _ hsw]
  refine wpAny_bind (wpAny_standAt (wpAny_bind ?_))
  show wpAny _ X.A (do let _ ← comprehension (.ListComp elt [⟨tg, iter, ifs, 0⟩] sc pos) sc X.env _ (newList []) false (eval iter X.env) (some (assign (.Name y₀ py) X.env))) _ _ s
  refine wpAny_bind (wpAny_mono (lcomp_core (use := some (assign (.Name y₀ py) X.env)) (R := fun _ s' => SP X pins D .next s') (Q := fun x H1 => D.nx (σ.set i₀ (some x)) H1) N js hcalm hi hg hc he hN hk hcell hfree hnames hs I h fun l C s' H' m Io hm fr lC sz cC pC q' => ?_) (fun _ s' hq => wpAny_pure (wpAny_pure hq)) fun _ _ e => e)
  show wpAny (model X.prog X.w) X.A (assign (.Name y₀ py) X.env (.ref l)) _ X.xe s'
  refine wpAny_assign_Name (store_ok2 Io hN₀ hi₀ hx₀ (v := .ref l) rfl (fun s'' I'' ⟨a, sb, ha⟩ => ?_) hf₀)
  have haC : C ≠ a := by
    rcases ha with z | z
    · rw [z]; exact lC.symm
    · exact (cC _ _ z).symm
  exact ⟨m, hm.sameBut sb haC, fun h' sb' => ⟨_, H', I''.turned (t' := s''.toks) (it := C) (fun b o hb e => (sb'.2 b hb).trans e) fr lC.symm (.inr sz) cC pC, q'⟩⟩
end L2
set_option Elab.async false
set_option linter.all false
set_option maxRecDepth 100000
namespace L2
open PySem PySem.Spec PyProof.Rows
section
variable {X : Cx} {p : Pos}
theorem ty_int (h : X.mg "int" = none) (hg : Gl X "int" := by rfl) : PE X (.Name "int" p) (tC (.ty "int")) := pe_bltn hg h PyProof.Rows.boot_int rfl
theorem ty_bool (h : X.mg "bool" = none) (hg : Gl X "bool" := by rfl) : PE X (.Name "bool" p) (tC (.ty "bool")) := pe_bltn hg h PyProof.Rows.boot_bool rfl
theorem ty_list (h : X.mg "list" = none) (hg : Gl X "list" := by rfl) : PE X (.Name "list" p) (tC (.ty "list")) := pe_bltn hg h PyProof.Rows.boot_list rfl
theorem ty_tuple (h : X.mg "tuple" = none) (hg : Gl X "tuple" := by rfl) : PE X (.Name "tuple" p) (tC (.ty "tuple")) := pe_bltn hg h PyProof.Rows.boot_tuple rfl
theorem call_isi : CallR X (.builtin "isinstance") (fun xs H Q => ∃ x Y t b, xs = [x, .ty Y] ∧ TyOf X.K H x t ∧ PySem.W.kitOne X.K t (.type Y) = some b ∧ Q (.bl b) H) := by
  intro pins s σ H xs us Q I r h
  obtain ⟨x, Y, t, b, e, ty, ko, q⟩ := h
  subst e
  obtain ⟨u, w', e, rx, ry⟩ := vals2 r
  subst e
  cases ry
  exact isinst_ok I rx ty ko fun tk => ⟨.bl b, H, I.tok _, rfl, q⟩
end
structure Def (K : PySem.W.Frag) (mg : Str → Option Value) (x : Str) (st : Stmt) (ps : List Str) (f : Addr) (fd : FuncData) : Prop where
  fn : Fun K x x st f fd
  bd : Binds K fd ps []
  at' : mg x = some (.ref f)
section
variable {X : Cx} {k : Nat} {x : Str} {st : Stmt} {ps : List Str} {f : Addr} {fd : FuncData} {sp : Sp} {e : Expr} {es : List Expr} {t : TA} {p pos : Pos}
theorem pc (D : Def X.K X.mg x st ps f fd) (F : FnOk X.prog X.w X.K X.mg X.base CX0 k f fd ps sp) (hr : Room k X.A) (ha : PA X (e :: es) t) (hg : Gl X x := by rfl) (hdb : (x == ("__debug__" : Str)) = false := by decide)
    (he : starEach (e :: es) X.env = (false, eval e X.env) :: starEach es X.env := by rfl) (hpl : (backTo pos (starEach es X.env)).any (·.1) = false := by rfl) : PE X (.Call (.Name x p) (e :: es) [] pos) (tCall sp [] E0 t) :=
  pe_call F hr hg D.at' D.fn.kp D.bd .nil pass0 ha hdb he hpl
end
theorem Same.new {H : Hp} {a : Addr} {o : HO} (h : H a = none) : Same H (upd H a o) := fun b u e => by rw [upd_ne (ne_of_none e h)]; exact e
theorem Same.put {H H' : Hp} {a : Addr} {o : HO} (s : Same H H') (h : H a = none) : Same H (upd H' a o) := fun b u e => by rw [upd_ne (ne_of_none e h)]; exact s b u e
theorem Same.to {H H' : Hp} {a : Addr} {o : HO} (s : Same H H') (h : H' a = none) : Same H (upd H' a o) := s.trans (Same.new h)
end L2
set_option Elab.async false
set_option linter.all false
set_option maxRecDepth 100000
namespace L2
open PySem PySem.Spec PyProof.Rows
inductive DEq (K : PySem.W.Frag) (H : Hp) : Nat → V → V → Bool → Prop
  | flat {d : Nat} {x y : V} (fx : flatV x = true) (fy : flatV y = true) : DEq K H d x y (eqV x y)
  | lst {d : Nat} {a b : Addr} {xs ys : List V} {e : Nat → Bool} (h1 : SqL K H a xs) (h2 : SqL K H b ys) (hl : xs.length = ys.length)
      (he : ∀ (j : Nat) x y, xs[j]? = some x → ys[j]? = some y → DEq K H d x y (e j)) : DEq K H (d + 1) (.ref a) (.ref b) ((List.range xs.length).all e)
  | len {d : Nat} {a b : Addr} {xs ys : List V} (h1 : SqL K H a xs) (h2 : SqL K H b ys) (hl : xs.length ≠ ys.length) : DEq K H (d + 1) (.ref a) (.ref b) false
  | tup {d : Nat} {a b : Addr} {xs ys : List V} {e : Nat → Bool} (h1 : SqT K H a xs) (h2 : SqT K H b ys)
      (he : ∀ (j : Nat) x y, xs[j]? = some x → ys[j]? = some y → DEq K H d x y (e j)) : DEq K H (d + 1) (.ref a) (.ref b) ((List.range (min xs.length ys.length)).all e && xs.length == ys.length)
theorem eqV_refl : ∀ {x : V}, flatV x = true → eqV x x = true
  | .non, _ => rfl
  | .bl b, _ => by cases b <;> rfl
  | .int i, _ => by simp [eqV]
  | .str y, _ => by simp [eqV]
theorem DEq.self {X : Cx} {pins : List (Addr × Obj)} {σ : St} {H : Hp} {s : Shared} (I : Inv X pins σ H s) {d : Nat} {x y : V} {b : Bool} (h : DEq X.K H d x y b) : x = y → b = true := by
  induction h with
  | flat fx fy => intro e; subst e; exact eqV_refl fx
  | @lst d a b xs ys e h1 h2 hl he ih =>
    intro z
    cases z
    have q := I.list_inj h1 h2
    subst q
    rw [List.all_eq_true]
    intro j hj
    have hj' : j < xs.length := List.mem_range.mp hj
    exact ih j _ _ (List.getElem?_eq_getElem hj') (List.getElem?_eq_getElem hj') rfl
  | len h1 h2 hl =>
    intro z
    cases z
    have q := I.list_inj h1 h2
    exact absurd (congrArg List.length q) hl
  | @tup d a b xs ys e h1 h2 he ih =>
    intro z
    cases z
    have q := I.tuple_inj h1 h2
    subst q
    rw [Bool.and_eq_true, List.all_eq_true]
    refine ⟨fun j hj => ?_, by simp⟩
    have hj' : j < xs.length := by have := List.mem_range.mp hj; omega
    exact ih j _ _ (List.getElem?_eq_getElem hj') (List.getElem?_eq_getElem hj') rfl
theorem Vals.at {xs : List V} {us : List Value} (r : Vals xs us) {j : Nat} (h : j < us.toArray.size) : ∃ x, xs[j]? = some x ∧ RelV x us.toArray[j] := by
  have hl := r.length
  have h' : j < xs.length := by simpa [hl] using h
  obtain ⟨u, e, ru⟩ := r.get (List.getElem?_eq_getElem h')
  refine ⟨_, List.getElem?_eq_getElem h', ?_⟩
  have h2 : j < us.length := by simpa using h
  rw [List.getElem?_eq_getElem h2] at e
  have e2 : us[j] = u := Option.some.inj e
  simpa [e2] using ru
theorem DEq.at {X : Cx} {pins : List (Addr × Obj)} {σ : St} {H : Hp} {s : Shared} (I : Inv X pins σ H s) {d : Nat} {x y : V} {b : Bool} (h : DEq X.K H d x y b) :
    ∀ {A : Around} {u v : Value}, A.units + d < cLine → RelV x u → RelV y v → SeqAt.EqAt A s u v b := by
  induction h with
  | flat fx fy => intro A u v hu rx ry; exact eqAt_V rx ry fx fy
  | @lst d a b xs ys e h1 h2 hl he ih =>
    intro A u v hu rx ry
    cases rx; cases ry
    by_cases hab : a = b
    · have z : (List.range xs.length).all e = true := (DEq.lst h1 h2 hl he).self I (by rw [hab])
      rw [z, hab]
      exact SeqAt.EqAt.same _
    · obtain ⟨its, r, pl, _⟩ := I.list h1
      obtain ⟨its2, r2, pl2, _⟩ := I.list h2
      have l1 := r.length
      have l2 := r2.length
      have q := SeqAt.RcAt.lists (A := A) (e := e) pl.isList pl2.isList (by simp; omega) (by omega) fun j j1 j2 => by
        obtain ⟨x, ex, rx⟩ := r.at j1
        obtain ⟨y, ey, ry⟩ := r2.at j2
        exact ih j x y ex ey (by show A.units + 1 + d < cLine; omega) rx ry
      refine SeqAt.EqAt.of_refs hab ?_
      simpa [l1] using q
  | @len d a b xs ys h1 h2 hl =>
    intro A u v hu rx ry
    cases rx; cases ry
    have hab : a ≠ b := by
      rintro rfl
      exact hl (congrArg List.length (I.list_inj h1 h2))
    obtain ⟨its, r, pl, _⟩ := I.list h1
    obtain ⟨its2, r2, pl2, _⟩ := I.list h2
    have l1 := r.length
    have l2 := r2.length
    exact SeqAt.EqAt.of_refs hab (SeqAt.RcAt.lists_lengths pl.isList pl2.isList (by simp; omega) (by omega))
  | @tup d a b xs ys e h1 h2 he ih =>
    intro A u v hu rx ry
    cases rx; cases ry
    by_cases hab : a = b
    · have z := (DEq.tup h1 h2 he).self I (by rw [hab])
      rw [z, hab]
      exact SeqAt.EqAt.same _
    · obtain ⟨its, r, pl, _⟩ := I.tuple h1
      obtain ⟨its2, r2, pl2, _⟩ := I.tuple h2
      have l1 := r.length
      have l2 := r2.length
      have q := SeqAt.RcAt.tuples (A := A) (e := e) (show s.heap.IsTuple a its.toArray from pl) (show s.heap.IsTuple b its2.toArray from pl2) (by omega) fun j j1 j2 => by
        obtain ⟨x, ex, rx⟩ := r.at j1
        obtain ⟨y, ey, ry⟩ := r2.at j2
        exact ih j x y ex ey (by show A.units + 1 + d < cLine; omega) rx ry
      refine SeqAt.EqAt.of_refs hab ?_
      simpa [l1, l2] using q
section
variable {X : Cx}
noncomputable def rEqD (K : PySem.W.Frag) : R2 := fun x y H Q => ∃ d b, DEq K H d x y b ∧ d < 64 ∧ flatV x = false ∧ Q (.bl b) H
noncomputable def rNeD (K : PySem.W.Frag) : R2 := fun x y H Q => ∃ d b, DEq K H d x y b ∧ d < 64 ∧ flatV x = false ∧ Q (.bl (!b)) H
theorem op_eqD (hu : X.A.units + 64 < cLine) : OpR X (compareOp .Eq) (rEqD X.K) := by
  intro pins s σ H x y v u Q I rx ry h
  obtain ⟨d, b, dq, hd, fl, q⟩ := h
  cases dq with
  | flat fx fy => rw [fx] at fl; cases fl
  | @lst d a b xs ys e h1 h2 hl he =>
    cases rx; cases ry
    obtain ⟨its, r, pl, _⟩ := I.list h1
    obtain ⟨its2, r2, pl2, _⟩ := I.list h2
    have l1 := r.length
    have l2 := r2.length
    refine SeqAt.eq_listAt (e := e) pl.isList pl2.isList (by simp; omega) (by omega) (fun j j1 j2 => ?_) ?_
    · obtain ⟨x, ex, rx⟩ := r.at j1
      obtain ⟨y, ey, ry⟩ := r2.at j2
      exact (he j x y ex ey).at I (by show X.A.units + 1 + d < cLine; omega) rx ry
    · refine ⟨.bl _, H, I, rfl, ?_⟩
      simpa [← l1] using q
  | @len d a b xs ys h1 h2 hl =>
    cases rx; cases ry
    obtain ⟨its, r, pl, _⟩ := I.list h1
    obtain ⟨its2, r2, pl2, _⟩ := I.list h2
    have l1 := r.length
    have l2 := r2.length
    exact SeqAt.eq_list_lengthsAt pl.isList pl2.isList (by simp; omega) (by omega) ⟨.bl _, H, I, rfl, q⟩
  | @tup d a b xs ys e h1 h2 he =>
    cases rx; cases ry
    obtain ⟨its, r, pl, _⟩ := I.tuple h1
    obtain ⟨its2, r2, pl2, _⟩ := I.tuple h2
    have l1 := r.length
    have l2 := r2.length
    refine SeqAt.eq_tupleAt (e := e) (show s.heap.IsTuple a its.toArray from pl) (show s.heap.IsTuple b its2.toArray from pl2) (by omega) (fun j j1 j2 => ?_) ?_
    · obtain ⟨x, ex, rx⟩ := r.at j1
      obtain ⟨y, ey, ry⟩ := r2.at j2
      exact (he j x y ex ey).at I (by show X.A.units + 1 + d < cLine; omega) rx ry
    · refine ⟨.bl _, H, I, rfl, ?_⟩
      simpa [← l1, ← l2] using q
theorem op_neD (hu : X.A.units + 64 < cLine) : OpR X (compareOp .NotEq) (rNeD X.K) := by
  intro pins s σ H x y v u Q I rx ry h
  obtain ⟨d, b, dq, hd, fl, q⟩ := h
  cases dq with
  | flat fx fy => rw [fx] at fl; cases fl
  | @lst d a b xs ys e h1 h2 hl he =>
    cases rx; cases ry
    obtain ⟨its, r, pl, _⟩ := I.list h1
    obtain ⟨its2, r2, pl2, _⟩ := I.list h2
    have l1 := r.length
    have l2 := r2.length
    refine SeqAt.RcNeAt.lists (e := e) pl.isList pl2.isList (by simp; omega) (by omega) (fun j j1 j2 => ?_) _ _ _ _ ?_
    · obtain ⟨x, ex, rx⟩ := r.at j1
      obtain ⟨y, ey, ry⟩ := r2.at j2
      exact (he j x y ex ey).at I (by show X.A.units + 1 + d < cLine; omega) rx ry
    · refine ⟨.bl _, H, I, rfl, ?_⟩
      simpa [← l1] using q
  | @len d a b xs ys h1 h2 hl =>
    cases rx; cases ry
    obtain ⟨its, r, pl, _⟩ := I.list h1
    obtain ⟨its2, r2, pl2, _⟩ := I.list h2
    have l1 := r.length
    have l2 := r2.length
    exact SeqAt.RcNeAt.lists_lengths pl.isList pl2.isList (by simp; omega) (by omega) _ _ _ _ ⟨.bl _, H, I, rfl, q⟩
  | @tup d a b xs ys e h1 h2 he =>
    cases rx; cases ry
    obtain ⟨its, r, pl, _⟩ := I.tuple h1
    obtain ⟨its2, r2, pl2, _⟩ := I.tuple h2
    have l1 := r.length
    have l2 := r2.length
    refine SeqAt.RcNeAt.tuples (e := e) (show s.heap.IsTuple a its.toArray from pl) (show s.heap.IsTuple b its2.toArray from pl2) (by omega) (fun j j1 j2 => ?_) _ _ _ _ ?_
    · obtain ⟨x, ex, rx⟩ := r.at j1
      obtain ⟨y, ey, ry⟩ := r2.at j2
      exact (he j x y ex ey).at I (by show X.A.units + 1 + d < cLine; omega) rx ry
    · refine ⟨.bl _, H, I, rfl, ?_⟩
      simpa [← l1, ← l2] using q
theorem call_all : CallR X (.builtin "all") (fun xs H Q => ∃ (hc : X.calm = true) (p : Addr) (bs : List Bool), xs = [.ref p] ∧ SqL X.K H p (bs.map V.bl) ∧ Q (.bl (bs.all id)) H) := by
  intro pins s σ H xs us Q I r h
  obtain ⟨hc, p, bs, e, hq, q⟩ := h
  subst e
  obtain ⟨u, e, rx⟩ := vals1 r
  subst e
  cases rx
  obtain ⟨its, rv, pl, hz⟩ := I.list hq
  have hl := rv.length
  rw [List.length_map] at hl
  refine call_all_walk (wpAny_pyIter_list pl.isList ?_)
  have hne : p ≠ s.heap.objs.size := by
    obtain ⟨o, ho, _⟩ := pl.isList
    exact Nat.ne_of_lt (Heap.lt_size ho)
  refine ⟨s.heap.objs.size, _, _, _, _, _, fun i => bs.getD i true, rfl, Walks.list (A := X.A.in1) (show X.A.in1.handled = none from I.ok.hd hc) _ p hne its.toArray, ?_, ?_, ?_⟩
  · refine ⟨⟨_, Heap.get?_push_size _ rfl, rfl, rfl⟩, ?_⟩
    obtain ⟨o, ho, z⟩ := pl.isList
    exact ⟨o, Heap.get?_push_of_some _ ho, z⟩
  · intro i v s' Q' E' hi hq'
    have hi' : its[i]? = some v := by simpa using hi
    have h2 : i < bs.length := by rw [hl]; exact (List.getElem?_eq_some_iff.mp hi').1
    obtain ⟨u, eu, ru⟩ := rv.get (i := i) (x := .bl bs[i]) (by simp [h2])
    rw [hi'] at eu
    cases eu
    cases ru
    refine wpAny_truthy_bool ?_
    have : bs.getD i true = bs[i] := by simp [h2]
    rw [← this]; exact hq'
  · intro h' tk kp
    refine ⟨.bl (bs.all id), H, I.kept (fun b o e => kp b o ?_ (Heap.get?_push_of_some _ e)), ?_, q⟩
    · have := Heap.lt_size e
      intro z
      rw [List.mem_singleton] at z
      exact absurd this (by rw [z]; exact Nat.lt_irrefl _)
    · show Value.bool _ = Value.bool _
      congr 1
      have e2 : its.toArray.size = bs.length := by simp [hl]
      rw [e2, Bool.eq_iff_iff, List.all_eq_true, List.all_eq_true]
      constructor
      · intro h x hx
        obtain ⟨j, hj, ej⟩ := List.mem_iff_getElem.mp hx
        have := h j (List.mem_range.mpr hj)
        simpa [hj, ej] using this
      · intro h j hj
        have hj' := List.mem_range.mp hj
        have := h bs[j] (List.getElem_mem hj')
        simpa [hj'] using this
theorem call_sorted : CallR X (.builtin "sorted") (fun xs H Q => ∃ (p : Addr) (ns : List Int), xs = [.ref p] ∧ SqL X.K H p (ns.map V.int) ∧ ns.length < 64 ∧
    ∀ l (ms : List Int), H l = none → ms.Perm ns → ms.Pairwise (· ≤ ·) → Q (.ref l) (upd H l (.lst (ms.map V.int)))) := by
  intro pins s σ H xs us Q I r h
  obtain ⟨p, ns, e, hq, h64, q⟩ := h
  subst e
  obtain ⟨u, e, rx⟩ := vals1 r
  subst e
  cases rx
  obtain ⟨its, rv, pl, hz⟩ := I.list hq
  have hl := rv.length
  rw [List.length_map] at hl
  refine sorted_ints (vs := its) (ns := ns) pl.isList (intsAre_of rv) (by omega) fun out ns' a1 a2 a3 => ?_
  obtain ⟨ep, e⟩ := sortedAll_at s.heap its out
  have hn : s.heap.objs.size ≤ s.heap.objs.size + 1 := Nat.le_succ _
  refine ⟨.ref (s.heap.objs.size + 1), _, I.laid (t' := s.toks) (fun b o eb => sortedAll_old eb) hn (show ObjOk X.prog X.w _ _ _ (.lst (ns'.map V.int)) from ⟨?_, out.toList, ep, vals_ints a1, ?_⟩), rfl, q _ ns' (I.hok.fresh hn) a2 a3⟩
  · rw [List.length_map, a2.length_eq]; exact Nat.le_of_lt (small1000 (by omega))
  · simpa [seqObj] using e
end
end L2
set_option Elab.async false
set_option linter.all false
set_option maxRecDepth 100000
namespace L2
open PySem PySem.Spec PyProof.Rows
noncomputable def SameBut (acc : Addr) (H H' : Hp) : Prop := ∀ b o, b ≠ acc → H b = some o → H' b = some o
theorem Same.but {acc : Addr} {H H' : Hp} (s : Same H H') : SameBut acc H H' := fun b o _ e => s b o e
theorem SameBut.trans {acc : Addr} {H H1 H2 : Hp} (a : SameBut acc H H1) (b : SameBut acc H1 H2) : SameBut acc H H2 := fun c o n h => b c o n (a c o n h)
theorem SameBut.upd {acc : Addr} {H : Hp} {o : HO} : SameBut acc H (upd H acc o) := fun b u n e => by rw [upd_ne n]; exact e
theorem szl {n : Nat} (h : n ≤ 1000) : n ≤ sizeLine := Nat.le_of_lt (small1000 h)
theorem szr {n : Nat} (h : Nat.ble n 1000 = true := by rfl) : n ≤ sizeLine := szl (Nat.le_of_ble_eq_true h)
theorem szn {n : Nat} (h : n < 100000) : n < sizeLine := by rw [sizeLine_eq]; omega
theorem kept1 {x : Option V} {σ : St} : Kept (none :: σ) (x :: σ) := ⟨rfl, fun i v e => by
  cases i with
  | zero => cases e
  | succ i => exact e⟩
theorem comp_walk {J : It} {H1 : Hp} {js : List (Option Nat)} {σ : St} {tc : TT} {te : TE} {Q : VK} (n : Nat) (item : Nat → V) (p : Nat → Bool) (P : Addr → Nat → V → Hp → Prop) (hn : n < 100000)
    (mono : ∀ acc i v H H', P acc i v H → SameBut acc H H' → P acc i v H')
    (hgo : ∀ i H, i < n → Same H1 H → J.go i H) (hst : ∀ H, Same H1 H → J.stop n H) (hy : ∀ i H x H', i < n → Same H1 H → J.yld i H x H' → H' = H ∧ x = item i)
    (hc : ∀ i, i < n → ∀ H2 R, Same H1 H2 → R (p i) H2 → tc (some (item i) :: pick σ js) H2 R)
    (he : ∀ acc i, i < n → p i = true → ∀ H2 R, Same H1 H2 → H1 acc = none → H2 acc ≠ none → (∀ v H3, Same H2 H3 → P acc i v H3 → R v H3) → te (some (item i) :: pick σ js) H2 R)
    (hQ : ∀ acc vs H', Same H1 H' → H1 acc = none → H' acc = some (.lst vs) → Paired (fun i v => P acc i v H') ((List.range n).filter p) vs → Q (.ref acc) H') :
    CompB J H1 (none :: js) (gName 0) tc te σ Q := by
  intro acc hacc
  refine ⟨fun i m ys H => m = n - i ∧ i ≤ n ∧ Same H1 H ∧ H acc = some (.lst ys) ∧ Paired (fun k v => P acc k v H) ((List.range i).filter p) ys, ⟨n, by simp, Nat.zero_le _, Same.new hacc, upd_same, .nil⟩, ?_⟩
  rintro i m ys H ⟨rfl, hi, s1, ha, hp⟩
  by_cases hlt : i < n
  · refine .inr ⟨hgo i H hlt s1, fun ys' H' => i < n ∧ Same H1 H' ∧ H' acc = some (.lst ys') ∧ Paired (fun k v => P acc k v H') ((List.range (i + 1)).filter p) ys', fun ys' H' ⟨z, a, b, c⟩ => ⟨n - (i + 1), by omega, rfl, hlt, a, b, c⟩, fun x H' y => ?_⟩
    obtain ⟨rfl, rfl⟩ := hy i H x H' hlt s1 y
    refine ⟨kept1, hc i hlt _ _ s1 ⟨fun hb => ?_, fun hb => ?_⟩⟩
    · refine he acc i hlt hb _ _ s1 hacc (by rw [ha]; simp) fun v H3 s3 pv => ?_
      have hlen : ys.length ≤ i := by
        rw [← Paired.length hp]
        exact Nat.le_trans (List.length_filter_le _ _) (by simp)
      refine ⟨s3 _ _ ha, szn (by omega), hlt, (s1.trans s3).put hacc, upd_same, ?_⟩
      rw [List.range_succ, List.filter_append]
      have e : List.filter p [i] = [i] := by simp [hb]
      rw [e]
      refine Paired.snoc (Paired.mapP hp fun k v q => ?_) ?_
      · exact mono acc k v _ _ (mono acc k v _ _ q s3.but) SameBut.upd
      · exact mono acc i v _ _ pv SameBut.upd
    · refine ⟨hlt, s1, ha, ?_⟩
      rw [List.range_succ, List.filter_append]
      have e : List.filter p [i] = [] := by simp [hb]
      rw [e, List.append_nil]
      exact hp
  · have e : i = n := by omega
    subst e
    exact .inl ⟨hst H s1, hQ acc ys H s1 hacc ha hp⟩
theorem paired_map {α β : Type} {f : α → β} : ∀ {l : List α} {r : List β}, Paired (fun a b => b = f a) l r → r = l.map f := by
  intro l r h
  induction h with
  | nil => rfl
  | cons h t ih => rw [h, ih]; rfl
section
variable {K : PySem.W.Frag} {H1 : Hp} {js : List (Option Nat)} {σ : St} {tc : TT} {te : TE} {Q : VK}
theorem comp_range {lo : Int} {n : Nat} (f : Nat → V) (hn : n < 100000)
    (he : ∀ i : Nat, i < n → ∀ H2 R, Same H1 H2 → (∀ H3, Same H2 H3 → R (f i) H3) → te (some (.int (lo + i)) :: pick σ js) H2 R)
    (hQ : ∀ acc H', Same H1 H' → H1 acc = none → H' acc = some (.lst ((List.range n).map f)) → Q (.ref acc) H') : CompB (Itr lo n) H1 (none :: js) (gName 0) tYes te σ Q :=
  comp_walk (J := Itr lo n) (H1 := H1) (js := js) (σ := σ) (tc := tYes) (te := te) (Q := Q) n (fun i => .int (lo + i)) (fun _ => true) (fun _ i v _ => v = f i) hn (fun _ _ _ _ _ h _ => h)
    (fun _ _ h _ => h) (fun _ _ => Nat.le_refl _) (fun _ _ _ _ _ _ y => y) (fun _ _ _ _ _ h => h) (fun _ i hi _ H2 R s _ _ k => he i hi H2 R s fun H3 s3 => k _ H3 s3 rfl)
    fun acc vs H' s n' e p => hQ acc H' s n' (by rw [e, paired_map p, List.filter_eq_self.mpr (fun _ _ => rfl)])
theorem comp_list {a : Addr} {xs : List V} (p : Nat → Bool) (P : Addr → Nat → V → Hp → Prop) (hl : SqL K H1 a xs) (hn : xs.length < 100000)
    (mono : ∀ acc i v H H', P acc i v H → SameBut acc H H' → P acc i v H')
    (hc : ∀ (i : Nat) x, xs[i]? = some x → ∀ H2 R, Same H1 H2 → R (p i) H2 → tc (some x :: pick σ js) H2 R)
    (he : ∀ acc (i : Nat) x, xs[i]? = some x → p i = true → ∀ H2 R, Same H1 H2 → H1 acc = none → H2 acc ≠ none → (∀ v H3, Same H2 H3 → P acc i v H3 → R v H3) → te (some x :: pick σ js) H2 R)
    (hQ : ∀ acc vs H', Same H1 H' → H1 acc = none → H' acc = some (.lst vs) → Paired (fun i v => P acc i v H') ((List.range xs.length).filter p) vs → Q (.ref acc) H') : CompB (Itl K a) H1 (none :: js) (gName 0) tc te σ Q :=
  comp_walk (J := Itl K a) (H1 := H1) (js := js) (σ := σ) (tc := tc) (te := te) (Q := Q) xs.length (fun i => xs.getD i .non) p P hn mono
    (fun i H h s => ⟨xs, xs[i], s.seq hl, by simp [h]⟩) (fun H s => ⟨xs, s.seq hl, Nat.le_refl _⟩)
    (fun i H x H' h s y => ⟨y.1, by have e := y.2 xs (s.seq hl); simp [e]⟩)
    (fun i h H2 R s k => hc i _ (by simp [h]) H2 R s k) (fun acc i h hp H2 R s n1 n2 k => he acc i _ (by simp [h]) hp H2 R s n1 n2 k) hQ
end
end L2
set_option Elab.async false
set_option linter.all false
set_option maxRecDepth 100000
namespace L2
open PySem PySem.Spec PyProof.Rows
section
variable {X : Cx} {tg l : Expr} {tl : TE} {es : List Expr} {k n : Nat} {t : TGs} {pos : Pos} {a : Expr} {ta : TE}
theorem ixL (K : PySem.W.Frag) (h : X.K = K := by rfl) : IxR X (rIxL K) := by subst h; exact ix_list
theorem ixT (K : PySem.W.Frag) (h : X.K = K := by rfl) : IxR X (rIxT K) := by subst h; exact ix_tup
theorem slL (K : PySem.W.Frag) (h : X.K = K := by rfl) : SlR X (rSlL K) := by subst h; exact sl_list
theorem inS (K : PySem.W.Frag) (h : X.K = K := by rfl) : OpR X (compareOp .In) (rIn K false) := by subst h; exact op_in_seq
theorem ninS (K : PySem.W.Frag) (h : X.K = K := by rfl) : OpR X (compareOp .NotIn) (rIn K true) := by subst h; exact op_notIn_seq
theorem eqD (K : PySem.W.Frag) (hu : X.A.units + 64 < cLine) (h : X.K = K := by rfl) : OpR X (compareOp .Eq) (rEqD K) := by subst h; exact op_eqD hu
theorem neD (K : PySem.W.Frag) (hu : X.A.units + 64 < cLine) (h : X.K = K := by rfl) : OpR X (compareOp .NotEq) (rNeD K) := by subst h; exact op_neD hu
theorem cLen (K : PySem.W.Frag) (h : X.K = K := by rfl) : CallR X (.builtin "len") (fun xs H Q => ∃ x n, xs = [x] ∧ LenV K x H n ∧ Q (.int n) H) := by subst h; exact call_len
theorem cIsi (K : PySem.W.Frag) (h : X.K = K := by rfl) : CallR X (.builtin "isinstance") (fun xs H Q => ∃ x Y t b, xs = [x, .ty Y] ∧ TyOf K H x t ∧ PySem.W.kitOne K t (.type Y) = some b ∧ Q (.bl b) H) := by subst h; exact call_isi
theorem cAll (K : PySem.W.Frag) (hc : X.calm = true := by rfl) (h : X.K = K := by rfl) : CallR X (.builtin "all") (fun xs H Q => ∃ (p : Addr) (bs : List Bool), xs = [.ref p] ∧ SqL K H p (bs.map V.bl) ∧ Q (.bl (bs.all id)) H) := by
  subst h
  exact fun pins s σ H xs us Q I r q => call_all pins s σ H xs us Q I r (let ⟨p, bs, e⟩ := q; ⟨hc, p, bs, e⟩)
theorem cSorted (K : PySem.W.Frag) (h : X.K = K := by rfl) : CallR X (.builtin "sorted") (fun xs H Q => ∃ (p : Addr) (ns : List Int), xs = [.ref p] ∧ SqL K H p (ns.map V.int) ∧ ns.length < 64 ∧
    ∀ l (ms : List Int), H l = none → ms.Perm ns → ms.Pairwise (· ≤ ·) → Q (.ref l) (upd H l (.lst (ms.map V.int)))) := by subst h; exact call_sorted
theorem cList (K : PySem.W.Frag) (h : X.K = K := by rfl) : CallR X (.type "list") (fun xs H Q => ∃ p ys, xs = [.ref p] ∧ (SqL K H p ys ∨ SqT K H p ys) ∧ ∀ l, H l = none → Q (.ref l) (upd H l (.lst ys))) := by subst h; exact call_list_of
theorem piL (K : PySem.W.Frag) (hl : PE X l tl) (h : X.K = K := by rfl) : PI X tg l (iList K tl) := by subst h; exact pi_list hl
theorem piT (K : PySem.W.Frag) (hl : PE X l tl) (h : X.K = K := by rfl) : PI X tg l (iTup K tl) := by subst h; exact pi_tup hl
theorem pgT (K : PySem.W.Frag) (hc : X.calm = true) (hg : PGs X es t) (h : X.K = K := by rfl) (hn : (assignEach es X.env).length = n := by rfl) (hst : (assignEach es X.env).findIdx? (·.1) = none := by rfl) : PG X (.Tuple es k pos) (gTup K n t) := by
  subst h; exact pg_tup hc hg hn hst
end
theorem nodupN {X : Cx} {N : List Str} (h : N.Nodup) (e : X.N = N := by rfl) : X.N.Nodup := by rw [e]; exact h
theorem cut_to (xs : List V) (k : Nat) : cutV xs none (some (k : Int)) = xs.take k := by
  unfold cutV
  rw [HT.sIx_nat, HT.sIx_none, List.drop_zero, Nat.sub_zero]
  by_cases h : k ≤ xs.length
  · rw [Nat.min_eq_left h]
  · rw [Nat.min_eq_right (by omega), List.take_of_length_le (Nat.le_refl _), List.take_of_length_le (by omega)]
theorem cut_from (xs : List V) (k : Nat) : cutV xs (some (k : Int)) none = xs.drop k := by
  unfold cutV
  rw [HT.sIx_nat, HT.sIx_none]
  by_cases h : k ≤ xs.length
  · rw [Nat.min_eq_left h, List.take_of_length_le (by rw [List.length_drop]; omega)]
  · rw [Nat.min_eq_right (by omega), Nat.sub_self, List.take_zero, List.drop_of_length_le (by omega)]
theorem cut_mid (xs : List V) (i j : Nat) : cutV xs (some (i : Int)) (some (j : Int)) = (xs.drop i).take (j - i) := by
  unfold cutV
  rw [HT.sIx_nat, HT.sIx_nat]
  by_cases h : i ≤ xs.length
  · rw [Nat.min_eq_left h]
    by_cases h2 : j ≤ xs.length
    · rw [Nat.min_eq_left h2]
    · rw [Nat.min_eq_right (by omega), List.take_of_length_le (by rw [List.length_drop]; omega), List.take_of_length_le (by rw [List.length_drop]; omega)]
  · have e : min i xs.length = xs.length := Nat.min_eq_right (by omega)
    rw [e, List.drop_of_length_le (Nat.le_refl _), List.drop_of_length_le (l := xs) (i := i) (by omega), List.take_nil, List.take_nil]
section
variable {K : PySem.W.Frag} {H : Hp} {a b : Addr}
theorem deq_flat {xs : List V} (h1 : SqL K H a xs) (h2 : SqL K H b xs) (hf : ∀ x ∈ xs, flatV x = true) : DEq K H 1 (.ref a) (.ref b) true := by
  have q := DEq.lst (d := 0) (e := fun _ => true) h1 h2 rfl fun j x y ex ey => by
    rw [ex] at ey
    cases ey
    have f := hf x (List.mem_of_getElem? ex)
    have e := DEq.flat (K := K) (H := H) (d := 0) f f
    rw [eqV_refl f] at e
    exact e
  have e : ((List.range xs.length).all fun _ => true) = true := List.all_eq_true.mpr fun _ _ => rfl
  rw [e] at q
  exact q
theorem flat_ints {ns : List Int} : ∀ x ∈ ns.map V.int, flatV x = true := fun x hx => by
  obtain ⟨i, _, rfl⟩ := List.mem_map.mp hx
  rfl
theorem deq_nil {xs : List V} (h1 : SqL K H a xs) (h2 : SqL K H b []) : DEq K H 1 (.ref a) (.ref b) xs.isEmpty := by
  cases xs with
  | nil => exact deq_flat h1 h2 fun x hx => by cases hx
  | cons x r => exact DEq.len h1 h2 (by simp)
end
theorem ifB {b : Bool} {A B : Prop} (h1 : b = true → A) (h2 : b = false → B) : if b = true then A else B := by
  cases b with
  | true => exact iteT (h1 rfl)
  | false => exact iteF (h2 rfl)
theorem ifEq {i j : Int} {A B : Prop} (h1 : i = j → A) (h2 : i ≠ j → B) : if decide (V.int i = V.int j) = true then A else B := by
  by_cases h : i = j
  · rw [if_pos (by simp [h])]; exact h1 h
  · rw [if_neg (by simp [h])]; exact h2 h
theorem ifNe {i j : Int} {A B : Prop} (h1 : i ≠ j → A) (h2 : i = j → B) : if (!decide (V.int i = V.int j)) = true then A else B := by
  by_cases h : i = j
  · rw [if_neg (by simp [h])]; exact h2 h
  · rw [if_pos (by simp [h])]; exact h1 h
theorem ifD {c : Prop} [Decidable c] {A B : Prop} (h1 : c → A) (h2 : ¬ c → B) : if decide c = true then A else B := by
  by_cases h : c
  · rw [if_pos (decide_eq_true h)]; exact h1 h
  · rw [if_neg (by simp [h])]; exact h2 h
noncomputable def tCut (t u : TS) : TS := fun D σ H => ∃ P : L2.St → Hp → Prop, t { D with nx := P } σ H ∧ ∀ σ' H', P σ' H' → u D σ' H'
theorem pss_cut {X : Cx} {st : Stmt} {rest : List Stmt} {t u : TS} (h1 : PS X st t) (h2 : PSs X rest u) : PSs X (st :: rest) (tCut t u) := by
  intro pins s σ H D I h
  obtain ⟨P, ht, hu⟩ := h
  refine wpAny_execs_cons (thn (h1 pins s σ H { D with nx := P } I ht) fun f s1 q => ?_)
  cases f with
  | next =>
    obtain ⟨σ', H', I', q⟩ := q
    exact h2 pins s1 σ' H' D I' (hu σ' H' q)
  | ret v => exact q
  | brk => exact q
  | cont => exact q
end L2
set_option Elab.async false
set_option linter.all false
set_option maxRecDepth 100000
namespace L2
open PySem PySem.Spec PyProof.Rows
section
variable {X : Cx} {tg l : Expr} {tl : TE}
end
end L2
set_option Elab.async false
set_option linter.all false
set_option maxRecDepth 100000
namespace L2
open PySem PySem.Spec PyProof.Rows
section
variable {X : Cx} {es : List Expr} {t : TA}
end
end L2
set_option Elab.async false
set_option linter.all false
set_option maxRecDepth 100000
namespace L2
open PySem PySem.Spec PyProof.Rows
theorem Inv.view {X : Cx} {pins : List (Addr × Obj)} {σ : L2.St} {H : Hp} {s : Shared} {a : Addr} {o : HO} (I : Inv X pins σ H s) (mu : Mut (H a)) (new : ObjOk X.prog X.w (upd H a o) s.heap a o) : Inv X pins σ (upd H a o) s := by
  have hex : ∃ u, s.heap.get? a = some u := by
    cases q : H a with
    | none => rw [q] at mu; exact mu.elim
    | some u =>
      have lt := I.hok.lt q
      have := I.hok a u q
      rw [q] at mu
      cases u with
      | lst xs => obtain ⟨_, _, _, _, e⟩ := this; exact ⟨_, e⟩
      | dK kvs => obtain ⟨_, _, _, _, o, _, _, e, _⟩ := this; exact ⟨_, e⟩
      | dT kvs => obtain ⟨_, _, _, _, o, _, _, e, _⟩ := this; exact ⟨_, e⟩
      | set S n => obtain ⟨o, _, _, _, e, _⟩ := this; exact ⟨_, e⟩
      | ins C dx fs => obtain ⟨_, _, _, e, _⟩ := this; exact ⟨_, e⟩
      | ext φ => obtain ⟨_, e, _⟩ := this; exact e
      | _ => exact mu.elim
  exact I.write (h' := s.heap) (x := a) (e := a) (t' := s.toks) mu (.inl rfl) (fun _ _ _ e => e) hex new
theorem entry_dict_itemiterator_iter : entryFor table "dict_itemiterator.__iter__" = some Builtin.«dict_keyiterator.__iter__» :=
  entryFor_alias (id' := "dict_keyiterator.__iter__") (by kernel_rfl) rfl (by decide +kernel) (by kernel_rfl)
noncomputable def DW (P : Program) (w : World) (d : Addr) (vs : List (Key × Value)) (ep : Nat) : Heap → Prop := fun h => h.DictAt (mixKind P w) d vs ep
theorem DW.ok {P : Program} {w : World} {H : Hp} {h : Heap} {d : Addr} {vs : List (Key × Value)} {ep : Nat} (x : h.DictAt (mixKind P w) d vs ep) : ObjOk P w H h d (.ext (DW P w d vs ep)) :=
  ⟨x, by obtain ⟨o, _, e, _⟩ := x; exact ⟨o, e⟩, fun _ _ y k => y.at' k⟩
theorem key_rel {P : Program} {w : World} {k : Key} {u : Value} (h : (mixKind P w).is k u = true) : RelV (kV k) u := by
  rcases keyIs_shape (k := k) (v := u) h with ⟨i, t, e1, e2⟩ | ⟨x, t, e1, e2⟩
  · subst e1 e2; exact ⟨t, rfl⟩
  · subst e1 e2; exact ⟨t, rfl⟩
noncomputable def Itk (φ : Heap → Prop) (d : Addr) (kvs : List (Key × V)) : It :=
  ⟨fun i H => H d = some (.ext φ) ∧ i < kvs.length, fun i H x H' => H' = H ∧ ∃ k v, kvs[i]? = some (k, v) ∧ x = kV k, fun i H => H d = some (.ext φ) ∧ kvs.length ≤ i⟩
noncomputable def Iti (φ : Heap → Prop) (d : Addr) (kvs : List (Key × V)) : It :=
  ⟨fun i H => H d = some (.ext φ) ∧ i < kvs.length, fun i H x H' => ∃ p k v, H p = none ∧ kvs[i]? = some (k, v) ∧ x = .ref p ∧ H' = upd H p (.tup [kV k, v]), fun i H => H d = some (.ext φ) ∧ kvs.length ≤ i⟩
theorem kv_at {kvs : List (Key × V)} {vs : List (Key × Value)} (r : KV kvs vs) {i : Nat} (h : i < kvs.length) : ∃ k v u, kvs[i]? = some (k, v) ∧ vs[i]? = some (k, u) ∧ RelV v u := by
  have hl := r.length
  obtain ⟨a, ha, f⟩ := pair_get (i := i) (b := vs[i]) r (List.getElem?_eq_getElem (by omega))
  refine ⟨a.1, a.2, vs[i].2, ha, ?_, f.2⟩
  rw [List.getElem?_eq_getElem (by omega), f.1]
theorem turn_keys {P : Program} {w : World} {K : PySem.W.Frag} {tg : Expr} (d it : Addr) {kvs : List (Key × V)} {vs : List (Key × Value)} {ep : Nat} (r : KV kvs vs) :
    Turn P w K tg (Itk (DW P w d vs ep) d kvs) [it] it (fun i h => h.IsKeyIter it d i vs.length ep) where
  mem := by simp
  obj := fun i h st b hb => by
    have e : b = it := by simpa using hb
    subst e
    obtain ⟨o, e, c, d⟩ := st
    exact ⟨o, e, fun v z => by rw [d] at z; cases z⟩
  keep := fun i h h' st k => st.at fun o e => k it (by simp) o e
  item := by
    intro X hP hw hK hc i pins s σ H E I hf st hg
    subst hP hw hK
    obtain ⟨hd, hi⟩ := hg
    obtain ⟨dm, _⟩ := (show ObjOk X.prog X.w H s.heap d (.ext (DW X.prog X.w d vs ep)) from I.hok d _ hd)
    obtain ⟨k, v, u, e1, e2, _⟩ := kv_at r hi
    obtain ⟨f0, f1, f2, f3, f4, f5⟩ := hf it (by simp)
    refine wpAny_pyNext_dict_item st dm e2 fun key h' hkey st' sb => ?_
    have I1 : Inv X pins σ H { s with heap := h' } := I.turned (t' := s.toks) (fun b o hb e => (sb.2 b hb).trans e) f0 f1 f3 f4 f5
    obtain ⟨o, e, c, d'⟩ := id st'
    exact ⟨key, rfl, go_of (s := { s with heap := h' }) e c d' (by decide) ⟨kV k, H, I1, key_rel hkey, ⟨rfl, k, v, e1, rfl⟩, st', fun b hb => (hf b hb).1⟩⟩
  done := by
    intro X hP hw hK hc i pins s σ H E I hf st hg
    subst hP hw hK
    obtain ⟨hd, hi⟩ := hg
    obtain ⟨dm, _⟩ := (show ObjOk X.prog X.w H s.heap d (.ext (DW X.prog X.w d vs ep)) from I.hok d _ hd)
    obtain ⟨f0, f1, f2, f3, f4, f5⟩ := hf it (by simp)
    have hl := r.length
    exact wpAny_pyNext_dict_end (I.ok.hd hc) st dm (List.getElem?_eq_none (by omega)) fun h' eb => ⟨rfl, I.turned (t' := s.toks) (fun b o hb e => eb b o hb e) f0 f1 f3 f4 f5⟩
  self := fun _ _ _ _ _ st h => wpAny_pyIter_keyiter st h
theorem turn_items {P : Program} {w : World} {K : PySem.W.Frag} {es : List Expr} {k1 : Nat} {pos : Pos} (d it : Addr) {kvs : List (Key × V)} {vs : List (Key × Value)} {ep : Nat} (r : KV kvs vs) :
    Turn P w K (.Tuple es k1 pos) (Iti (DW P w d vs ep) d kvs) [it] it (fun i h => ∃ ok ov, IsItemIter h it d i vs.length ep ok ov) where
  mem := by simp
  obj := fun i h st b hb => by
    have e : b = it := by simpa using hb
    subst e
    obtain ⟨_, _, e⟩ := st
    exact ⟨_, e, fun v z => by
      have z' : Data.fields _ = Data.cell v := z
      cases z'⟩
  keep := fun i h h' st k => let ⟨a, b, e⟩ := st; ⟨a, b, k it (by simp) _ e⟩
  item := by
    intro X hP hw hK hc i pins s σ H E I hf st hg
    subst hP hw hK
    obtain ⟨hd, hi⟩ := hg
    obtain ⟨ok, ov, st⟩ := st
    obtain ⟨dm, _⟩ := (show ObjOk X.prog X.w H s.heap d (.ext (DW X.prog X.w d vs ep)) from I.hok d _ hd)
    obtain ⟨k, v, u, e1, e2, rv⟩ := kv_at r hi
    obtain ⟨f0, f1, f2, f3, f4, f5⟩ := hf it (by simp)
    refine wpAny_pyNext_items_item st dm e2 fun key h' hkey st' tu hz kp => ?_
    refine ⟨_, rfl, wpAny_letOwnedTupleGo_items st' fun h2 st2 sb => ?_⟩
    have hne : s.heap.objs.size ≠ it := fun z => absurd (Heap.lt_size st) (by rw [← z]; exact Nat.lt_irrefl _)
    have I1 : Inv X pins σ H { s with heap := h2 } := I.turned (t' := s.toks) (fun b o hb e => (sb.2 b hb).trans (kp b o hb e)) f0 f1 f3 f4 f5
    have fr : H s.heap.objs.size = none := I.fresh
    have e3 : h2.get? s.heap.objs.size = some { cls := .type "tuple", data := .seq #[key, u] } := (sb.2 _ hne).trans tu
    have I2 : Inv X pins σ (upd H s.heap.objs.size (.tup [kV k, v])) { s with heap := h2 } := by
      have un : Un (frs X.stack) [it] H (upd H s.heap.objs.size (.tup [kV k, v])) s.heap h2 := {
        keep := fun b o q _ _ hx => (sb.2 b (by simpa using hx)).trans (kp b o (by simpa using hx) q)
        slot := fun b o q _ _ hx => ⟨o.slots, (sb.2 b (by simpa using hx)).trans (kp b o (by simpa using hx) q)⟩
        free := fun b o q n hx => by rw [upd_ne (Nat.ne_of_lt (Heap.lt_size q))]; exact n
        there := fun b o q hx => ⟨o, (sb.2 b (by simpa using hx)).trans (kp b o (by simpa using hx) q)⟩
        tups := fun b xs q => by rw [upd_ne (ne_of_none q fr)]; exact q
        frzs := fun b o xs q => by rw [upd_ne (ne_of_none q fr)]; exact q
        tbls := fun b ps q => ⟨#[], by rw [upd_ne (ne_of_none q fr), q]; simp⟩ }
      refine I.call' (s' := { s with heap := h2 }) (ch := [it]) rfl un (fun b o e => ?_) I.bare (fun b hb => ?_)
      · by_cases hb : b = s.heap.objs.size
        · subst hb
          rw [upd_same] at e
          cases e
          refine ⟨szr, [key, u], .cons (key_rel hkey) (.cons rv .nil), _, e3, rfl, _, rfl⟩
        · rw [upd_ne hb] at e
          refine (I1.hok b o e).stay (fun _ _ _ q => q) (fun c q => by rw [upd_ne (ne_of_none q fr)]; exact q) fun c xs q => by rw [upd_ne (ne_of_none q fr)]; exact q
      · have e : b = it := by simpa using hb
        subst e
        exact ⟨f3, f1, f4, f5⟩
    exact ⟨.ref s.heap.objs.size, _, I2, rfl, ⟨_, k, v, fr, e1, rfl, rfl⟩, ⟨key, u, st2⟩, fun b hb => by
      have e : b = it := by simpa using hb
      subst e
      rw [upd_ne hne.symm]; exact f0⟩
  done := by
    intro X hP hw hK hc i pins s σ H E I hf st hg
    subst hP hw hK
    obtain ⟨hd, hi⟩ := hg
    obtain ⟨ok, ov, st⟩ := st
    obtain ⟨dm, _⟩ := (show ObjOk X.prog X.w H s.heap d (.ext (DW X.prog X.w d vs ep)) from I.hok d _ hd)
    obtain ⟨f0, f1, f2, f3, f4, f5⟩ := hf it (by simp)
    have hl := r.length
    exact wpAny_pyNext_items_end (I.ok.hd hc) st dm (List.getElem?_eq_none (by omega)) fun h' eb => ⟨rfl, I.turned (t' := s.toks) (fun b o hb e => eb b o hb e) f0 f1 f3 f4 f5⟩
  self := fun A i s Q E st h => by
    obtain ⟨ok, ov, st⟩ := st
    have hT : s.TypeIs (.ref it) "dict_itemiterator" := ⟨_, st, rfl⟩
    refine wpAny_pyIter_slot hT F.slot_dict_itemiterator_iter (wpAny_call_entry F.slot_dict_itemiterator_iter hT entry_dict_itemiterator_iter ?_ (F.args_dict_itemiterator_iter_1 _))
    show wpAny _ _ (ret (.ref it)) _ _ s
    exact wpAny_pure ⟨_, rfl, "dict_itemiterator", _, hT, F.slot_dict_itemiterator_next.lookup, h⟩
section
variable {X : Cx} {tg l : Expr} {tl : TE}
noncomputable def iKeys (tl : TE) : TI := fun σ H R => tl σ H fun x H1 => ∃ d kvs, x = .ref d ∧ H1 d = some (.dK kvs) ∧ ∀ φ, R (Itk φ d kvs) (upd H1 d (.ext φ))
theorem pi_keys (hl : PE X l tl) : PI X tg l (iKeys tl) := by
  intro pins s σ H R I h
  refine thn (hl pins s σ H _ I h) fun v s1 hq__ => ?_
  obtain ⟨x, H1, I1, r1, q1⟩ := hq__
  obtain ⟨d, kvs, e, hd, q⟩ := q1
  subst e
  cases r1
  obtain ⟨hz, hm, vs, r, dd⟩ := dk_of I1.hok hd
  obtain ⟨ep, da⟩ := dd.dictAt
  have I2 : Inv X pins σ (upd H1 d (.ext (DW X.prog X.w d vs ep))) s1 := I1.view (by rw [hd]; trivial) (DW.ok da)
  refine wpAny_pyIter_dict hm da ?_
  refine ⟨s1.heap.objs.size, [s1.heap.objs.size], _, _, _, rfl, I2.kept (t' := s1.toks) fun b o e => Heap.get?_push_of_some _ e, turn_keys d _ r, ⟨_, Heap.get?_push_size _ rfl, rfl, rfl⟩, fun b hb => ?_, q _⟩
  have e : b = s1.heap.objs.size := by simpa using hb
  subst e
  exact I2.fpOk (Nat.le_refl _) (I2.hok.fresh (Nat.le_refl _))
noncomputable def VW (v d : Addr) : Heap → Prop := fun h => h.IsItemsView v d
theorem mt_items : MtR X "dict.items" (fun x xs H Q => ∃ d kvs, x = .ref d ∧ xs = [] ∧ H d = some (.dK kvs) ∧ ∀ v, H v = none → Q (.ref v) (upd H v (.ext (VW v d)))) := by
  intro pins s σ H x xs v us Q I rx rv h
  obtain ⟨d, kvs, e, e2, hd, q⟩ := h
  subst e e2
  cases rx
  have hus := rv.zero
  subst hus
  obtain ⟨hz, hm, vs, r, dd⟩ := dk_of I.hok hd
  refine call_meetsIn PySem.F.slot_dict_items dd.typeIs PySem.F.entry_dict_items (PySem.F.args_dict_items_1 _) (meets_dict_items (mixKind X.prog X.w) d hm) ⟨⟨vs, dd⟩, ?_⟩
  refine ⟨.ref s.heap.objs.size, _, I.laid (t' := s.toks) (fun b o e => Heap.get?_push_of_some _ e) (Nat.le_refl _) ?_, rfl, q _ I.fresh⟩
  exact ⟨⟨_, Heap.get?_push_size _ rfl, rfl, rfl⟩, ⟨_, Heap.get?_push_size _ rfl⟩, fun h1 h2 ⟨o, e, c⟩ k => ⟨o, k o e, c⟩⟩
noncomputable def iItems (tl : TE) : TI := fun σ H R => tl σ H fun x H1 => ∃ v d kvs, x = .ref v ∧ H1 v = some (.ext (VW v d)) ∧ H1 d = some (.dK kvs) ∧ ∀ φ, R (Iti φ d kvs) (upd H1 d (.ext φ))
theorem pi_items {es : List Expr} {k1 : Nat} {pos : Pos} (hl : PE X l tl) : PI X (.Tuple es k1 pos) l (iItems tl) := by
  intro pins s σ H R I h
  refine thn (hl pins s σ H _ I h) fun v s1 hq__ => ?_
  obtain ⟨x, H1, I1, r1, q1⟩ := hq__
  obtain ⟨v, d, kvs, e, hv, hd, q⟩ := q1
  subst e
  cases r1
  obtain ⟨hz, hm, vs, r, dd⟩ := dk_of I1.hok hd
  obtain ⟨ep, da⟩ := dd.dictAt
  obtain ⟨vw, _⟩ := (show ObjOk X.prog X.w H1 s1.heap v (.ext (VW v d)) from I1.hok v _ hv)
  have I2 : Inv X pins σ (upd H1 d (.ext (DW X.prog X.w d vs ep))) s1 := I1.view (by rw [hd]; trivial) (DW.ok da)
  refine wpAny_pyIter_items vw da ?_
  refine ⟨s1.heap.objs.size, [s1.heap.objs.size], _, _, _, rfl, I2.kept (t' := s1.toks) fun b o e => Heap.get?_push_of_some _ e, turn_items d _ r, ⟨.none, .none, Heap.get?_push_size _ rfl⟩, fun b hb => ?_, q _⟩
  have e : b = s1.heap.objs.size := by simpa using hb
  subst e
  exact I2.fpOk (Nat.le_refl _) (I2.hok.fresh (Nat.le_refl _))
theorem for_items {φ : Heap → Prop} {d : Addr} {kvs : List (Key × V)} {g : TG} {tb : TS} {D : Ends} {σ : L2.St} {H : Hp} (Pv : Nat → L2.St → Hp → Prop) (h0 : Pv 0 σ H) (hw : ∀ i σ H, i ≤ kvs.length → Pv i σ H → H d = some (.ext φ))
    (hs : ∀ i k v σ H p, kvs[i]? = some (k, v) → Pv i σ H → H p = none → g (.ref p) σ (upd H p (.tup [kV k, v])) fun σ2 H2 => tb { D with nx := Pv (i + 1), ct := Pv (i + 1), bk := D.nx } σ2 H2) (hd : ∀ σ H, Pv kvs.length σ H → D.nx σ H) :
    ∃ W : Nat → Nat → L2.St → Hp → Prop, (∃ m, W 0 m σ H) ∧ ∀ i m σ H, W i m σ H →
      ((Iti φ d kvs).stop i H ∧ D.nx σ H) ∨ ((Iti φ d kvs).go i H ∧ ∃ N : L2.St → Hp → Prop, (∀ σ' H', N σ' H' → ∃ m', m' < m ∧ W (i + 1) m' σ' H') ∧ ∀ v H', (Iti φ d kvs).yld i H v H' → g v σ H' fun σ2 H2 => tb { D with nx := N, ct := N, bk := D.nx } σ2 H2) := by
  refine ⟨fun i m σ H => m = kvs.length - i ∧ i ≤ kvs.length ∧ Pv i σ H, ⟨kvs.length, by simp, Nat.zero_le _, h0⟩, ?_⟩
  rintro i m σ H ⟨rfl, hi, p⟩
  by_cases hlt : i < kvs.length
  · refine .inr ⟨⟨hw i σ H hi p, hlt⟩, Pv (i + 1), fun σ' H' p' => ⟨kvs.length - (i + 1), by omega, rfl, hlt, p'⟩, fun v H' y => ?_⟩
    obtain ⟨q, k, v', hn, e, e2, e3⟩ := y
    subst e2 e3
    exact hs i k v' σ H q e p hn
  · have e : i = kvs.length := by omega
    subst e
    exact .inl ⟨⟨hw _ σ H hi p, Nat.le_refl _⟩, hd σ H p⟩
end
theorem comp_keys {H1 : Hp} {js : List (Option Nat)} {σ : L2.St} {te : TE} {Q : VK} {φ : Heap → Prop} {d : Addr} {kvs : List (Key × V)} (f : Key → V) (hn : kvs.length < 100000) (hd : H1 d = some (.ext φ))
    (he : ∀ (i : Nat) k v, kvs[i]? = some (k, v) → ∀ H2 R, Same H1 H2 → (∀ H3, Same H2 H3 → R (f k) H3) → te (some (kV k) :: pick σ js) H2 R)
    (hQ : ∀ acc H', Same H1 H' → H1 acc = none → H' acc = some (.lst (kvs.map fun p => f p.1)) → Q (.ref acc) H') : CompB (Itk φ d kvs) H1 (none :: js) (gName 0) tYes te σ Q :=
  comp_walk (J := Itk φ d kvs) (H1 := H1) (js := js) (σ := σ) (tc := tYes) (te := te) (Q := Q) kvs.length (fun i => ((kvs[i]?).map fun p => kV p.1).getD .non) (fun _ => true) (fun _ i v _ => v = ((kvs[i]?).map fun p => f p.1).getD .non) hn (fun _ _ _ _ _ h _ => h)
    (fun _ H h s => ⟨s _ _ hd, h⟩) (fun H s => ⟨s _ _ hd, Nat.le_refl _⟩)
    (fun i H x H' h s y => ⟨y.1, by obtain ⟨_, k, v, e, ex⟩ := y; rw [e, ex]; rfl⟩)
    (fun _ _ _ _ _ h => h)
    (fun _ i hi _ H2 R s _ _ k => by
      have e : kvs[i]? = some (kvs[i].1, kvs[i].2) := List.getElem?_eq_getElem hi
      rw [e]
      exact he i _ _ e H2 R s fun H3 s3 => k _ H3 s3 (by rw [e]; rfl))
    fun acc vs H' s n' e p => hQ acc H' s n' (by
      rw [e, paired_map p, List.filter_eq_self.mpr (fun _ _ => rfl)]
      congr 1; congr 1
      apply List.ext_getElem?
      intro i
      rw [List.getElem?_map, List.getElem?_map]
      by_cases hi : i < kvs.length
      · rw [List.getElem?_range hi, Option.map_some, List.getElem?_eq_getElem hi]; rfl
      · rw [List.getElem?_eq_none (by simp; omega), List.getElem?_eq_none (by omega)]; rfl)
end L2
set_option Elab.async false
set_option linter.all false
set_option maxRecDepth 100000
namespace L2
noncomputable abbrev HK := List (Key × V)
noncomputable def cnt (kvs : HK) (q : Nat) : Nat := (kvs.map (·.2)).count (V.int q)
noncomputable def bit (p : Prop) [Decidable p] : Nat := if p then 1 else 0
noncomputable def encA (as : List Int) : HK := as.map fun b => (Sum.inl b, V.bl true)
theorem int_dec (p q : Nat) : (V.int (p : Int) == V.int (q : Int)) = decide (q = p) := by
  by_cases h : q = p
  · subst h; simp
  · have : ¬ (V.int (p : Int) = V.int (q : Int)) := fun e => h (by injection e with e; omega)
    simp [h, this]
theorem cnt_new {kvs : HK} {k : Key} {p q : Nat} (h : valV kvs k = none) : cnt (putK kvs k (.int p)) q = cnt kvs q + bit (q = p) := by
  have a : ¬ (kvs.any fun kv => decide (kv.1 = k)) = true := by rw [valV_any, h]; simp
  unfold cnt putK bit
  rw [if_neg a, List.map_append, List.count_append]
  simp only [List.map_cons, List.map_nil, List.count_cons, List.count_nil, int_dec]
  by_cases e : q = p <;> simp [e]
theorem cnt_map_no {k : Key} {y : V} {kvs : HK} (h : ¬ k ∈ kvs.map (·.1)) : (kvs.map fun kv => if kv.1 = k then (kv.1, y) else kv) = kvs := by
  induction kvs with
  | nil => rfl
  | cons p r ih =>
    rw [List.map_cons, List.mem_cons] at h
    rw [List.map_cons, if_neg (fun e => h (.inl e.symm)), ih (fun m => h (.inr m))]
theorem cnt_old : ∀ {kvs : HK} {k : Key} {p p0 q : Nat}, (kvs.map (·.1)).Nodup → valV kvs k = some (.int p0) → cnt (putK kvs k (.int p)) q + bit (q = p0) = cnt kvs q + bit (q = p) := by
  intro kvs k p p0 q nd h
  have a : (kvs.any fun kv => decide (kv.1 = k)) = true := by rw [valV_any, h]; rfl
  unfold putK
  rw [if_pos a]
  clear a
  induction kvs with
  | nil => cases h
  | cons e r ih =>
    have nd' : (e.1 :: r.map (·.1)).Nodup := nd
    obtain ⟨n1, n2⟩ := List.nodup_cons.mp nd'
    by_cases ek : e.1 = k
    · rw [valV_pos ek] at h
      have hv : e.2 = V.int p0 := Option.some.inj h
      rw [List.map_cons, if_pos ek, cnt_map_no (by rw [← ek]; exact n1)]
      unfold cnt bit
      rw [List.map_cons, List.map_cons, List.count_cons, List.count_cons, hv, int_dec, int_dec]
      simp only [decide_eq_true_eq]
      omega
    · rw [valV_neg ek] at h
      have := ih n2 h
      rw [List.map_cons, if_neg ek]
      unfold cnt bit at *
      rw [List.map_cons, List.map_cons, List.count_cons, List.count_cons]
      omega
theorem nd_put {kvs : HK} {k : Key} {v : V} (nd : (kvs.map (·.1)).Nodup) : ((putK kvs k v).map (·.1)).Nodup := by
  cases h : valV kvs k with
  | none => exact nd_putK v nd h
  | some x =>
    have a : (kvs.any fun kv => decide (kv.1 = k)) = true := by rw [valV_any, h]; rfl
    unfold putK
    rw [if_pos a, List.map_map]
    have e : ((fun x : Key × V => x.1) ∘ fun kv : Key × V => if kv.1 = k then (kv.1, v) else kv) = fun x => x.1 := by
      funext x
      show (if x.1 = k then (x.1, v) else x).1 = x.1
      split <;> rfl
    rw [e]; exact nd
theorem mem_put {kvs : HK} {k : Key} {v : V} {e : Key × V} (h : e ∈ putK kvs k v) : e = (k, v) ∨ e ∈ kvs := by
  unfold putK at h
  split at h
  · obtain ⟨x, hx, ex⟩ := List.mem_map.mp h
    by_cases c : x.1 = k
    · rw [if_pos c] at ex
      left; rw [← ex, c]
    · rw [if_neg c] at ex
      right; rw [← ex]; exact hx
  · rcases List.mem_append.mp h with m | m
    · exact .inr m
    · exact .inl (List.mem_singleton.mp m)
theorem valV_mem {kvs : HK} {k : Key} {v : V} (h : valV kvs k = some v) : (k, v) ∈ kvs := by
  unfold valV at h
  obtain ⟨x, hx, e⟩ := Option.map_eq_some_iff.mp h
  have := List.find?_some hx
  have e1 : x.1 = k := of_decide_eq_true this
  have := List.mem_of_find?_eq_some hx
  rw [← e1, ← e]; exact this
theorem valV_of_mem {kvs : HK} {k : Key} {v : V} (nd : (kvs.map (·.1)).Nodup) (m : (k, v) ∈ kvs) : valV kvs k = some v := by
  induction kvs with
  | nil => cases m
  | cons e r ih =>
    obtain ⟨n1, n2⟩ := List.nodup_cons.mp (show (e.1 :: r.map (·.1)).Nodup from nd)
    rcases List.mem_cons.mp m with h | h
    · subst h; exact valV_pos rfl
    · have : ¬ e.1 = k := fun z => n1 (by rw [z]; exact List.mem_map.mpr ⟨_, h, rfl⟩)
      rw [valV_neg this]; exact ih n2 h
theorem encA_val (as : List Int) (b : Int) : valV (encA as) (Sum.inl b) = if b ∈ as then some (V.bl true) else none := by
  induction as with
  | nil => rfl
  | cons a r ih =>
    show valV ((Sum.inl a, V.bl true) :: encA r) _ = _
    by_cases e : a = b
    · subst e; rw [valV_pos rfl]; simp
    · rw [valV_neg (fun z => e (Sum.inl.inj z)), ih]
      have : ¬ b = a := fun z => e z.symm
      simp [this]
theorem encA_put {as : List Int} {b : Int} (h : ¬ b ∈ as) : putK (encA as) (Sum.inl b) (V.bl true) = encA (as ++ [b]) := by
  have a : ¬ ((encA as).any fun kv => decide (kv.1 = Sum.inl b)) = true := by rw [valV_any, encA_val, if_neg h]; simp
  unfold putK
  rw [if_neg a]
  unfold encA
  rw [List.map_append]; rfl
noncomputable def Good (ps : List (List Int)) (kvs : HK) : Prop := ∀ e ∈ kvs, ∃ (b : Int) (q : Nat) (p : List Int), e = (Sum.inl b, V.int q) ∧ ps[q]? = some p ∧ b ∈ p
theorem Good.put {ps : List (List Int)} {kvs : HK} (g : Good ps kvs) {b : Int} {q : Nat} {p : List Int} (h : ps[q]? = some p) (hb : b ∈ p) : Good ps (putK kvs (Sum.inl b) (.int q)) := fun e he => by
  rcases mem_put he with z | z
  · exact ⟨b, q, p, z, h, hb⟩
  · exact g e z
theorem Good.val {ps : List (List Int)} {kvs : HK} (g : Good ps kvs) {b : Int} {v : V} (h : valV kvs (Sum.inl b) = some v) : ∃ (q : Nat) (p : List Int), v = .int q ∧ ps[q]? = some p ∧ b ∈ p := by
  obtain ⟨b', q, p, e, h1, h2⟩ := g _ (valV_mem h)
  injection e with e1 e2
  cases e1
  exact ⟨q, p, e2, h1, h2⟩
noncomputable def Clo (ps : List (List Int)) (kvs : HK) (as as' : List Int) : Prop := ∀ b ∈ as', b ∉ as → ∃ (q : Nat) (p : List Int), valV kvs (Sum.inl b) = some (.int q) ∧ ps[q]? = some p ∧ ∀ c ∈ p, c ∈ as'
structure Sett (ps : List (List Int)) (U : List Int) (pl : Nat) (kvs : HK) (as : List Int) (ok : Bool) (kvs' : HK) (as' : List Int) : Prop where
  grow : ∀ b ∈ as, b ∈ as'
  nd : as'.Nodup
  sub : ∀ b ∈ as', b ∈ U
  no : ok = false → kvs' = kvs ∧ (∀ p, ps[pl]? = some p → ∀ b ∈ p, b ∈ as') ∧ Clo ps kvs as as'
  yes : ok = true → (kvs'.map (·.1)).Nodup ∧ Good ps kvs' ∧ (∀ q, cnt kvs' q = cnt kvs q + bit (q = pl)) ∧ (∀ b ∈ as, valV kvs' (Sum.inl b) = valV kvs (Sum.inl b)) ∧ kvs'.length ≤ kvs.length + U.length
structure SLoop (ps : List (List Int)) (U : List Int) (p : List Int) (kvs : HK) (as : List Int) (i : Nat) (ai : List Int) : Prop where
  grow : ∀ b ∈ as, b ∈ ai
  nd : ai.Nodup
  sub : ∀ b ∈ ai, b ∈ U
  past : ∀ b ∈ p.take i, b ∈ ai
  clo : Clo ps kvs as ai
theorem take_succ_mem {p : List Int} {i : Nat} {b c : Int} (h : p[i]? = some b) (hc : c ∈ p.take (i + 1)) : c ∈ p.take i ∨ c = b := by
  rw [List.take_add_one, h] at hc
  rcases List.mem_append.mp hc with z | z
  · exact .inl z
  · exact .inr (by simpa using z)
theorem SLoop.skip {ps : List (List Int)} {U p : List Int} {kvs : HK} {as ai : List Int} {i : Nat} {b : Int} (s : SLoop ps U p kvs as i ai) (h : p[i]? = some b) (hb : b ∈ ai) : SLoop ps U p kvs as (i + 1) ai :=
  ⟨s.grow, s.nd, s.sub, fun c hc => (take_succ_mem h hc).elim (s.past c) (fun e => e ▸ hb), s.clo⟩
theorem SLoop.miss {ps : List (List Int)} {U p : List Int} {kvs : HK} {as ai : List Int} {i q : Nat} {b : Int} {kvs2 : HK} {as2 : List Int} (s : SLoop ps U p kvs as i ai) (h : p[i]? = some b) (hb : b ∉ ai) (hq : valV kvs (Sum.inl b) = some (.int q)) (hl : q < ps.length)
    (r : Sett ps U q kvs (ai ++ [b]) false kvs2 as2) : kvs2 = kvs ∧ SLoop ps U p kvs as (i + 1) as2 := by
  obtain ⟨e, h1, h2⟩ := r.no rfl
  have g : ∀ c ∈ ai, c ∈ as2 := fun c hc => r.grow c (List.mem_append_left _ hc)
  have gb : b ∈ as2 := r.grow b (by simp)
  refine ⟨e, fun c hc => g c (s.grow c hc), r.nd, r.sub, fun c hc => (take_succ_mem h hc).elim (fun z => g c (s.past c z)) (fun e => e ▸ gb), fun c hc hn => ?_⟩
  by_cases c1 : c ∈ ai
  · obtain ⟨q', p', a1, a2, a3⟩ := s.clo c c1 hn
    exact ⟨q', p', a1, a2, fun d hd => g d (a3 d hd)⟩
  · by_cases c2 : c = b
    · subst c2
      exact ⟨q, ps[q], hq, List.getElem?_eq_getElem hl, h1 _ (List.getElem?_eq_getElem hl)⟩
    · exact h2 c hc (by simp [c1, c2])
theorem SLoop.free {ps : List (List Int)} {U p : List Int} {kvs : HK} {as ai : List Int} {i pl : Nat} {b : Int} (s : SLoop ps U p kvs as i ai) (hp : ps[pl]? = some p) (hU : ∀ b ∈ p, b ∈ U) (h : p[i]? = some b) (hb : b ∉ ai) (hq : valV kvs (Sum.inl b) = none)
    (nd : (kvs.map (·.1)).Nodup) (g : Good ps kvs) : Sett ps U pl kvs as true (putK kvs (Sum.inl b) (.int pl)) (ai ++ [b]) where
  grow := fun c hc => List.mem_append_left _ (s.grow c hc)
  nd := nd_snoc s.nd hb
  sub := fun c hc => (List.mem_append.mp hc).elim (s.sub c) fun z => by rw [List.mem_singleton.mp z]; exact hU b (List.mem_of_getElem? h)
  no := fun e => by cases e
  yes := fun _ => ⟨nd_put nd, g.put hp (List.mem_of_getElem? h), fun q => cnt_new hq, fun c hc => by
    rw [valV_put, if_neg (fun e => hb (by cases e; exact s.grow _ hc))], by
    have h1 := length_putK kvs (Sum.inl b) (V.int (pl : Int))
    have h2 : 0 < U.length := List.length_pos_of_mem (hU b (List.mem_of_getElem? h))
    omega⟩
theorem SLoop.turn {ps : List (List Int)} {U p : List Int} {kvs : HK} {as ai : List Int} {i pl q : Nat} {b : Int} {kvs2 : HK} {as2 : List Int} (s : SLoop ps U p kvs as i ai) (hp : ps[pl]? = some p) (h : p[i]? = some b) (hb : b ∉ ai)
    (hq : valV kvs (Sum.inl b) = some (.int q)) (r : Sett ps U q kvs (ai ++ [b]) true kvs2 as2) : Sett ps U pl kvs as true (putK kvs2 (Sum.inl b) (.int pl)) as2 := by
  obtain ⟨n2, g2, c2, v2, l2⟩ := r.yes rfl
  have hb2 : valV kvs2 (Sum.inl b) = some (.int q) := (v2 b (by simp)).trans hq
  refine ⟨fun c hc => r.grow c (List.mem_append_left _ (s.grow c hc)), r.nd, r.sub, (fun e => by cases e), fun _ => ⟨nd_put n2, g2.put hp (List.mem_of_getElem? h), fun t => ?_, fun c hc => ?_, ?_⟩⟩
  · have h1 := cnt_old (p := pl) (q := t) n2 hb2
    have h2 := c2 t
    omega
  · rw [valV_put, if_neg (fun e => hb (by cases e; exact s.grow _ hc)), v2 c (List.mem_append_left _ (s.grow c hc))]
  · have a : (kvs2.any fun kv => decide (kv.1 = Sum.inl b)) = true := by rw [valV_any, hb2]; rfl
    unfold putK
    rw [if_pos a, List.length_map]; exact l2
theorem SLoop.done {ps : List (List Int)} {U p : List Int} {kvs : HK} {as ai : List Int} {pl : Nat} (s : SLoop ps U p kvs as p.length ai) (hp : ps[pl]? = some p) : Sett ps U pl kvs as false kvs ai :=
  ⟨s.grow, s.nd, s.sub, fun _ => ⟨rfl, fun p' e b hb => by
    rw [hp] at e; cases e
    exact s.past b (by rw [List.take_length]; exact hb), s.clo⟩, fun e => by cases e⟩
theorem left_lt {U ai as : List Int} {b : Int} (hU : b ∈ U) (hb : b ∉ ai) (g : ∀ c ∈ as, c ∈ ai) : (U.filter fun c => decide (c ∉ ai ++ [b])).length < (U.filter fun c => decide (c ∉ as)).length := by
  induction U with
  | nil => cases hU
  | cons u r ih =>
    have le : ∀ l : List Int, (l.filter fun c => decide (c ∉ ai ++ [b])).length ≤ (l.filter fun c => decide (c ∉ as)).length := fun l => by
      induction l with
      | nil => exact Nat.le_refl _
      | cons x t ih =>
        by_cases hx : x ∈ as
        · rw [List.filter_cons_of_neg (by simp [g x hx]), List.filter_cons_of_neg (by simp [hx])]; exact ih
        · rw [List.filter_cons_of_pos (p := fun c => decide (c ∉ as)) (by simp [hx])]
          by_cases hy : x ∈ ai ++ [b]
          · rw [List.filter_cons_of_neg (by simp only [decide_eq_true_eq]; exact fun z => z hy), List.length_cons]; omega
          · rw [List.filter_cons_of_pos (by simp only [decide_eq_true_eq]; exact hy), List.length_cons, List.length_cons]; omega
    have hbs : b ∉ as := fun z => hb (g b z)
    by_cases e : u = b
    · subst e
      rw [List.filter_cons_of_neg (by simp), List.filter_cons_of_pos (p := fun c => decide (c ∉ as)) (by simp [hbs]), List.length_cons]
      have := le r
      omega
    · have hr : b ∈ r := (List.mem_cons.mp hU).resolve_left fun z => e z.symm
      have := ih hr
      by_cases hx : u ∈ as
      · rw [List.filter_cons_of_neg (by simp [g u hx]), List.filter_cons_of_neg (by simp [hx])]; exact this
      · rw [List.filter_cons_of_pos (p := fun c => decide (c ∉ as)) (by simp [hx])]
        by_cases hy : u ∈ ai ++ [b]
        · rw [List.filter_cons_of_neg (by simp only [decide_eq_true_eq]; exact fun z => z hy), List.length_cons]; omega
        · rw [List.filter_cons_of_pos (by simp only [decide_eq_true_eq]; exact hy), List.length_cons, List.length_cons]; omega
structure Deal (ps : List (List Int)) (hs : List Int) : Prop where
  len : hs.length = ps.length
  of : ∀ k (h1 : k < hs.length) (h2 : k < ps.length), hs[k] ∈ ps[k]
  nd : hs.Nodup
structure Short (ps : List (List Int)) (ms : List Nat) : Prop where
  up : ms.Pairwise (· < ·)
  few : ∃ X : List Int, X.length < ms.length ∧ ∀ q ∈ ms, ∃ p, ps[q]? = some p ∧ ∀ c ∈ p, c ∈ X
structure Held (ps : List (List Int)) (kvs : HK) (n : Nat) : Prop where
  nd : (kvs.map (·.1)).Nodup
  good : Good ps kvs
  one : ∀ q, cnt kvs q = bit (q < n)
theorem Held.start {ps : List (List Int)} : Held ps [] 0 := ⟨List.nodup_nil, fun _ h => (by cases h), fun q => by unfold cnt bit; simp⟩
theorem Held.next {ps : List (List Int)} {U : List Int} {kvs kvs' : HK} {n : Nat} {as' : List Int} (h : Held ps kvs n) (r : Sett ps U n kvs [] true kvs' as') : Held ps kvs' (n + 1) := by
  obtain ⟨a, b, c, _⟩ := r.yes rfl
  refine ⟨a, b, fun q => ?_⟩
  rw [c q, h.one q]
  unfold bit
  by_cases h1 : q < n
  · rw [if_pos h1, if_neg (by omega), if_pos (by omega)]
  · by_cases h2 : q = n
    · rw [if_neg h1, if_pos h2, if_pos (by omega)]
    · rw [if_neg h1, if_neg h2, if_neg (by omega)]
theorem nodup_of_count {α : Type} [DecidableEq α] {l : List α} (h : ∀ a, l.count a ≤ 1) : l.Nodup := by
  induction l with
  | nil => exact List.nodup_nil
  | cons x r ih =>
    refine List.nodup_cons.mpr ⟨fun m => ?_, ih fun a => ?_⟩
    · have q := h x
      have h2 := List.count_pos_iff.mpr m
      rw [List.count_cons_self] at q
      exact absurd h2 (Nat.not_lt_of_le (Nat.le_of_succ_le_succ q))
    · have q := h a
      rw [List.count_cons] at q
      exact Nat.le_trans (Nat.le_add_right _ _) q
theorem Held.vals {ps : List (List Int)} {kvs : HK} {n : Nat} (h : Held ps kvs n) : (kvs.map (·.2)).Nodup := nodup_of_count fun a => by
  by_cases m : a ∈ kvs.map (·.2)
  · obtain ⟨e, he, ea⟩ := List.mem_map.mp m
    obtain ⟨b, q, p, e1, _⟩ := h.good e he
    have ea' : a = V.int q := by rw [← ea, e1]
    have := h.one q
    unfold cnt bit at this
    rw [ea', this]
    split <;> omega
  · rw [List.count_eq_zero_of_not_mem m]; omega
theorem Held.lt {ps : List (List Int)} {kvs : HK} {n : Nat} (h : Held ps kvs n) {k : Key} {q : Nat} (m : (k, V.int q) ∈ kvs) : q < n := by
  have h1 : V.int (q : Int) ∈ kvs.map (·.2) := List.mem_map.mpr ⟨_, m, rfl⟩
  have h2 := List.count_pos_iff.mpr h1
  have := h.one q
  unfold cnt bit at this
  rw [this] at h2
  split at h2
  · assumption
  · omega
theorem Held.mem {ps : List (List Int)} {kvs : HK} {n q : Nat} (h : Held ps kvs n) (hq : q < n) : ∃ (b : Int) (p : List Int), (Sum.inl b, V.int q) ∈ kvs ∧ ps[q]? = some p ∧ b ∈ p := by
  have := h.one q
  unfold cnt bit at this
  rw [if_pos hq] at this
  have h1 : V.int (q : Int) ∈ kvs.map (·.2) := List.count_pos_iff.mp (by omega)
  obtain ⟨e, he, ea⟩ := List.mem_map.mp h1
  obtain ⟨b, q', p, e1, e2, e3⟩ := h.good e he
  subst e1
  have : q' = q := by
    have z : V.int (q' : Int) = V.int q := ea
    injection z with z
    omega
  subst this
  exact ⟨b, p, he, e2, e3⟩
theorem Held.key {ps : List (List Int)} {kvs : HK} {n q q' : Nat} {b : Int} (h : Held ps kvs n) (h1 : (Sum.inl b, V.int q) ∈ kvs) (h2 : (Sum.inl b, V.int q') ∈ kvs) : q = q' := by
  have a := valV_of_mem h.nd h1
  have c := valV_of_mem h.nd h2
  rw [a] at c
  have c := Option.some.inj c
  injection c with c
  omega
theorem Held.inj {ps : List (List Int)} {kvs : HK} {n q : Nat} {k k' : Key} (h : Held ps kvs n) (h1 : (k, V.int q) ∈ kvs) (h2 : (k', V.int q) ∈ kvs) : k = k' := by
  obtain ⟨i, hi, ei⟩ := List.mem_iff_getElem.mp h1
  obtain ⟨j, hj, ej⟩ := List.mem_iff_getElem.mp h2
  have nd := h.vals
  have e : (kvs.map (·.2))[i]'(by simpa using hi) = (kvs.map (·.2))[j]'(by simpa using hj) := by simp [ei, ej]
  have := (List.getElem_inj nd).mp e
  subst this
  rw [ei] at ej
  exact congrArg Prod.fst ej
theorem Held.deal {ps : List (List Int)} {kvs : HK} {hs : List Int} (h : Held ps kvs ps.length) (hl : hs.length = ps.length) (e : ∀ b (q : Nat), (Sum.inl b, V.int q) ∈ kvs → hs[q]? = some b) : Deal ps hs := by
  refine ⟨hl, fun k h1 h2 => ?_, ?_⟩
  · obtain ⟨b, p, m, e2, e3⟩ := h.mem h2
    have := e b k m
    rw [List.getElem?_eq_getElem h1] at this
    rw [Option.some.inj this]
    rw [List.getElem?_eq_getElem h2] at e2
    rw [Option.some.inj e2]; exact e3
  · rw [List.nodup_iff_pairwise_ne, List.pairwise_iff_getElem]
    intro i j hi hj hij z
    obtain ⟨b, _, m, _, _⟩ := h.mem (q := i) (by omega)
    obtain ⟨c, _, m', _, _⟩ := h.mem (q := j) (by omega)
    have e1 := e b i m
    have e2 := e c j m'
    rw [List.getElem?_eq_getElem hi] at e1
    rw [List.getElem?_eq_getElem hj] at e2
    have e1 := Option.some.inj e1
    have e2 := Option.some.inj e2
    have : b = c := by rw [← e1, ← e2]; exact z
    subst this
    have := h.key m m'
    omega
noncomputable def hold (kvs : HK) (b : Int) : Int := match valV kvs (Sum.inl b) with
  | some (.int i) => i
  | _ => 0
theorem hold_of {kvs : HK} {b i : Int} (h : valV kvs (Sum.inl b) = some (.int i)) : hold kvs b = i := by unfold hold; rw [h]
theorem Held.short {ps : List (List Int)} {U : List Int} {kvs kvs' : HK} {n : Nat} {as' : List Int} {ms : List Int} (h : Held ps kvs n) (hn : n < ps.length) (r : Sett ps U n kvs [] false kvs' as') (hp : ms.Perm ((n : Int) :: as'.map (hold kvs))) (hs : ms.Pairwise (· ≤ ·)) :
    ∃ qs : List Nat, ms = qs.map Int.ofNat ∧ Short ps qs := by
  obtain ⟨_, h1, h2⟩ := r.no rfl
  have hv : ∀ b ∈ as', ∃ (q : Nat) (p : List Int), valV kvs (Sum.inl b) = some (.int q) ∧ ps[q]? = some p ∧ ∀ c ∈ p, c ∈ as' := fun b hb => h2 b hb (by simp)
  have nd0 : ((n : Int) :: as'.map (hold kvs)).Nodup := by
    refine List.nodup_cons.mpr ⟨fun m => ?_, ?_⟩
    · obtain ⟨b, hb, e⟩ := List.mem_map.mp m
      obtain ⟨q, p, a1, _⟩ := hv b hb
      rw [hold_of a1] at e
      have := h.lt (valV_mem a1)
      omega
    · rw [List.nodup_iff_pairwise_ne, List.pairwise_map]
      refine List.Pairwise.imp_of_mem (R := (· ≠ ·)) ?_ (List.nodup_iff_pairwise_ne.mp r.nd)
      intro b c hb hc hne z
      obtain ⟨q, p, a1, _⟩ := hv b hb
      obtain ⟨q', p', a2, _⟩ := hv c hc
      rw [hold_of a1, hold_of a2] at z
      have : q = q' := by omega
      subst this
      have := h.inj (valV_mem a1) (valV_mem a2)
      exact hne (Sum.inl.inj this)
  have ndm : ms.Nodup := hp.nodup_iff.mpr nd0
  have nn : ∀ m ∈ ms, ∃ q : Nat, m = Int.ofNat q ∧ ∃ p, ps[q]? = some p ∧ ∀ c ∈ p, c ∈ as' := fun m hm => by
    rcases List.mem_cons.mp (hp.mem_iff.mp hm) with e | e
    · exact ⟨n, e, ps[n], List.getElem?_eq_getElem hn, h1 _ (List.getElem?_eq_getElem hn)⟩
    · obtain ⟨b, hb, e⟩ := List.mem_map.mp e
      obtain ⟨q, p, a1, a2, a3⟩ := hv b hb
      rw [hold_of a1] at e
      exact ⟨q, e.symm, p, a2, a3⟩
  refine ⟨ms.map Int.toNat, ?_, ?_, as', ?_, fun q hq => ?_⟩
  · rw [List.map_map]
    have : ∀ m ∈ ms, (Int.ofNat ∘ Int.toNat) m = m := fun m hm => by
      obtain ⟨q, e, _⟩ := nn m hm
      rw [e]; rfl
    exact ((List.map_congr_left this).trans (List.map_id _)).symm
  · rw [List.pairwise_map]
    have both : ms.Pairwise fun a b => a ≤ b ∧ a ≠ b := hs.and (List.nodup_iff_pairwise_ne.mp ndm)
    refine List.Pairwise.imp_of_mem ?_ both
    intro a b ha hb ⟨h1, h2⟩
    obtain ⟨q, e, _⟩ := nn a ha
    obtain ⟨q', e', _⟩ := nn b hb
    subst e e'
    have : (q : Int) ≤ q' := h1
    have h3 : (q : Int) ≠ q' := h2
    show q < q'
    omega
  · rw [List.length_map, hp.length_eq, List.length_cons, List.length_map]; omega
  · obtain ⟨m, hm, e⟩ := List.mem_map.mp hq
    obtain ⟨q', e', z⟩ := nn m hm
    subst e'
    have : q = q' := by rw [← e]; rfl
    subst this
    exact z
end L2
set_option Elab.async false
set_option linter.all false
set_option maxRecDepth 100000
namespace L2
open PySem PySem.Spec PyProof.Rows
noncomputable def SameX (ex : List Addr) (H H' : Hp) : Prop := ∀ b o, b ∉ ex → H b = some o → H' b = some o
theorem SameX.refl {ex : List Addr} {H : Hp} : SameX ex H H := fun _ _ _ h => h
theorem SameX.trans {ex : List Addr} {H H1 H2 : Hp} (a : SameX ex H H1) (b : SameX ex H1 H2) : SameX ex H H2 := fun c o n h => b c o n (a c o n h)
theorem SameX.upd {ex : List Addr} {H : Hp} {a : Addr} {o : HO} (h : a ∈ ex) : SameX ex H (upd H a o) := fun b u n e => by rw [upd_ne (fun z : b = a => n (by rw [z]; exact h))]; exact e
theorem Same.x {ex : List Addr} {H H' : Hp} (s : Same H H') : SameX ex H H' := fun b o _ h => s b o h
noncomputable def IsDk (H : Hp) (a : Addr) : Prop := ∃ kvs, H a = some (.dK kvs)
theorem SameX.seq {K : PySem.W.Frag} {ex : List Addr} {H H' : Hp} {a : Addr} {xs : List V} (s : SameX ex H H') (hx : ∀ x ∈ ex, IsDk H x) (h : SqL K H a xs) : SqL K H' a xs := by
  have ne : ∀ u, H a = some u → (∀ kvs, u ≠ .dK kvs) → a ∉ ex := fun u e n m => by
    obtain ⟨kvs, q⟩ := hx a m
    rw [e] at q
    exact n kvs (Option.some.inj q)
  rcases h with (h | ⟨o, h⟩) | h
  · exact .inl (.inl (s _ _ (ne _ h (fun _ z => by cases z)) h))
  · exact .inl (.inr ⟨o, s _ _ (ne _ h (fun _ z => by cases z)) h⟩)
  · exact .inr h
noncomputable def PoolsL (K : PySem.W.Frag) (H : Hp) (rs : List Addr) (ps : List (List Int)) : Prop := Paired (fun r p => SqL K H r (p.map V.int)) rs ps
theorem PoolsL.mono {K : PySem.W.Frag} {ex : List Addr} {H H' : Hp} {rs : List Addr} {ps : List (List Int)} (h : PoolsL K H rs ps) (s : SameX ex H H') (hx : ∀ x ∈ ex, IsDk H x) : PoolsL K H' rs ps := Paired.mapP h fun _ _ q => s.seq hx q
theorem PoolsL.same {K : PySem.W.Frag} {H H' : Hp} {rs : List Addr} {ps : List (List Int)} (h : PoolsL K H rs ps) (s : Same H H') : PoolsL K H' rs ps := Paired.mapP h fun _ _ q => s.seq q
theorem PoolsL.at {K : PySem.W.Frag} {H : Hp} {rs : List Addr} {ps : List (List Int)} (h : PoolsL K H rs ps) {i : Nat} {p : List Int} (e : ps[i]? = some p) : ∃ r, rs[i]? = some r ∧ SqL K H r (p.map V.int) := pair_get (F := fun (r : Addr) (p : List Int) => SqL K H r (p.map V.int)) h e
theorem PoolsL.len {K : PySem.W.Frag} {H : Hp} {rs : List Addr} {ps : List (List Int)} (h : PoolsL K H rs ps) : rs.length = ps.length := Paired.length h
theorem paired_of {α β : Type} {F : α → β → Prop} : ∀ {l : List α} {r : List β}, l.length = r.length → (∀ (i : Nat) a b, l[i]? = some a → r[i]? = some b → F a b) → Paired F l r := by
  intro l
  induction l with
  | nil =>
    intro r h f
    cases r with
    | nil => exact .nil
    | cons b r => cases h
  | cons a l ih =>
    intro r h f
    cases r with
    | nil => cases h
    | cons b r => exact .cons (f 0 a b rfl rfl) (ih (Nat.succ.inj h) fun i x y e1 e2 => f (i + 1) x y e1 e2)
theorem keys_le {ps : List (List Int)} {U : List Int} {kvs : HK} (hU : ∀ p ∈ ps, ∀ b ∈ p, b ∈ U) (g : Good ps kvs) (nd : (kvs.map (·.1)).Nodup) : kvs.length ≤ U.length := by
  have h : (kvs.map (·.1)).length ≤ (U.map (Sum.inl : Int → Key)).length := nd.length_le_of_subset fun k hk => by
    obtain ⟨e, he, ek⟩ := List.mem_map.mp hk
    obtain ⟨b, q, p, e1, e2, e3⟩ := g e he
    rw [← ek, e1]
    exact List.mem_map.mpr ⟨b, hU p (List.mem_of_getElem? e2) b e3, rfl⟩
  simpa using h
theorem inV_int (b : Int) (bs : List Int) : inV (.int b) (bs.map V.int) = decide (b ∈ bs) := by
  unfold inV
  induction bs with
  | nil => rfl
  | cons c r ih =>
    rw [List.map_cons, List.any_cons, ih]
    by_cases h : c = b
    · subst h; simp [eqV]
    · have h' : ¬ b = c := fun z => h z.symm
      simp [eqV, h, h']
theorem flat_all (bs : List Int) : (bs.map V.int).all flatV = true := by
  rw [List.all_eq_true]
  intro x hx
  obtain ⟨i, _, e⟩ := List.mem_map.mp hx
  rw [← e]; rfl
theorem deq_pools {K : PySem.W.Frag} {H : Hp} {a b : Addr} {rs rs' : List Addr} {ps : List (List Int)} (h1 : SqL K H a (rs.map V.ref)) (p1 : PoolsL K H rs ps) (h2 : SqL K H b (rs'.map V.ref)) (p2 : PoolsL K H rs' ps) : DEq K H 2 (.ref a) (.ref b) true := by
  have q := DEq.lst (d := 1) (e := fun _ => true) h1 h2 (by rw [List.length_map, List.length_map, p1.len, p2.len]) fun j x y ex ey => by
    rw [List.getElem?_map] at ex ey
    obtain ⟨r, e1, e2⟩ := Option.map_eq_some_iff.mp ex
    obtain ⟨r', e3, e4⟩ := Option.map_eq_some_iff.mp ey
    subst e2 e4
    have hj : j < ps.length := by rw [← p1.len]; exact (List.getElem?_eq_some_iff.mp e1).1
    obtain ⟨u, eu, su⟩ := p1.at (List.getElem?_eq_getElem hj)
    obtain ⟨u', eu', su'⟩ := p2.at (List.getElem?_eq_getElem hj)
    rw [e1] at eu
    rw [e3] at eu'
    cases eu
    cases eu'
    exact deq_flat su su' flat_ints
  have e : ((List.range (rs.map V.ref).length).all fun _ => true) = true := List.all_eq_true.mpr fun _ _ => rfl
  rw [e] at q
  exact q
theorem paired_refs {G : Nat → Addr → Prop} : ∀ {l : List Nat} {vs : List V}, Paired (fun i v => ∃ r, v = .ref r ∧ G i r) l vs → ∃ rs : List Addr, vs = rs.map V.ref ∧ Paired G l rs := by
  intro l vs h
  induction h with
  | nil => exact ⟨[], rfl, .nil⟩
  | cons q t ih =>
    obtain ⟨r, e, g⟩ := q
    obtain ⟨rs, e2, p⟩ := ih
    exact ⟨r :: rs, by rw [e, e2]; rfl, .cons g p⟩
theorem comp_lists {K : PySem.W.Frag} {H1 : Hp} {js : List (Option Nat)} {σ : L2.St} {te : TE} {Q : VK} {a : Addr} {xs : List V} (f : Nat → List V) (hl : SqL K H1 a xs) (hn : xs.length < 100000)
    (he : ∀ (i : Nat) x, xs[i]? = some x → ∀ H2 R, Same H1 H2 → (∀ r H3, Same H2 H3 → H2 r = none → H3 r = some (.lst (f i)) → R (.ref r) H3) → te (some x :: pick σ js) H2 R)
    (hQ : ∀ acc (rs : List Addr) H', Same H1 H' → H1 acc = none → H' acc = some (.lst (rs.map V.ref)) → rs.length = xs.length → (∀ (i : Nat) r, rs[i]? = some r → H' r = some (.lst (f i)) ∧ H1 r = none) → (∀ r ∈ rs, r ≠ acc) → Q (.ref acc) H') :
    CompB (Itl K a) H1 (none :: js) (gName 0) tYes te σ Q :=
  comp_list (K := K) (H1 := H1) (js := js) (σ := σ) (tc := tYes) (te := te) (Q := Q) (a := a) (xs := xs) (fun _ => true) (fun acc i v H => ∃ r, v = .ref r ∧ r ≠ acc ∧ H1 r = none ∧ H r = some (.lst (f i))) hl hn
    (fun acc i v H H' ⟨r, e, n, h0, h⟩ s => ⟨r, e, n, h0, s r _ n h⟩) (fun _ _ _ _ _ _ h => h)
    (fun acc i x hx _ H2 R s n1 n2 k => he i x hx H2 R s fun r H3 s3 nr h3 => k _ H3 s3 ⟨r, rfl, fun z => n2 (by rw [← z]; exact nr), s.free nr, h3⟩)
    fun acc vs H' s n' e p => by
      rw [List.filter_eq_self.mpr (fun _ _ => rfl)] at p
      obtain ⟨rs, e2, p2⟩ := paired_refs p
      have ln : rs.length = xs.length := by rw [← Paired.length p2, List.length_range]
      have all : ∀ (i : Nat) r, rs[i]? = some r → r ≠ acc ∧ H1 r = none ∧ H' r = some (.lst (f i)) := fun i r hi => by
        obtain ⟨j, hj, g⟩ := pair_get p2 hi
        have lt : i < xs.length := by rw [← ln]; exact (List.getElem?_eq_some_iff.mp hi).1
        rw [List.getElem?_range lt] at hj
        cases hj
        exact g
      refine hQ acc rs H' s n' (by rw [e, e2]) ln (fun i r hi => ⟨(all i r hi).2.2, (all i r hi).2.1⟩) fun r hr => ?_
      obtain ⟨i, hi, ei⟩ := List.mem_iff_getElem.mp hr
      exact (all i r (by rw [List.getElem?_eq_getElem hi, ei])).1
end L2
set_option Elab.async false
set_option linter.all false
set_option maxRecDepth 100000
namespace L2
open PySem PySem.Spec PyProof.Rows
noncomputable abbrev Rise (xs : List Nat) : Prop := xs.Pairwise (· < ·)
structure CutAt (xs : Array Nat) (j p : Nat) : Prop where
  le : p ≤ xs.size
  lo : ∀ i (h : i < xs.size), i < p → xs[i] < j
  hi : ∀ i (h : i < xs.size), p ≤ i → j ≤ xs[i]
theorem rise_at {xs : Array Nat} (r : Rise xs.toList) {i k : Nat} (hi : i < xs.size) (hk : k < xs.size) (h : i < k) : xs[i] < xs[k] := by
  have := List.pairwise_iff_getElem.mp r i k (by simpa using hi) (by simpa using hk) h
  simpa using this
theorem below_go {xs : Array Nat} (r : Rise xs.toList) (j : Nat) : ∀ (f lo hi : Nat), hi - lo ≤ f → lo ≤ hi → hi ≤ xs.size → (∀ i (h : i < xs.size), i < lo → xs[i] < j) → (∀ i (h : i < xs.size), hi ≤ i → j ≤ xs[i]) → CutAt xs j (SetTable.below.go xs j f lo hi) := by
  intro f
  induction f with
  | zero =>
    intro lo hi hf hl hs h1 h2
    have e : hi = lo := by omega
    subst e
    exact ⟨hs, h1, h2⟩
  | succ f ih =>
    intro lo hi hf hl hs h1 h2
    unfold SetTable.below.go
    by_cases hlt : lo < hi
    · rw [if_pos hlt]
      have hm : (lo + hi) / 2 < xs.size := by omega
      have eg : xs.getD ((lo + hi) / 2) j = xs[(lo + hi) / 2] := by simp [hm]
      dsimp only
      rw [eg]
      by_cases hc : xs[(lo + hi) / 2] < j
      · rw [if_pos hc]
        refine ih _ _ (by omega) (by omega) hs (fun i h hi' => ?_) h2
        by_cases e : i = (lo + hi) / 2
        · subst e; exact hc
        · exact Nat.lt_trans (rise_at r h hm (by omega)) hc
      · rw [if_neg hc]
        refine ih _ _ (by omega) (by omega) (by omega) h1 fun i h hi' => ?_
        by_cases e : i = (lo + hi) / 2
        · subst e; omega
        · have := rise_at r hm h (by omega)
          omega
    · rw [if_neg hlt]
      have e : hi = lo := by omega
      subst e
      exact ⟨hs, h1, h2⟩
theorem below_cut {xs : Array Nat} (r : Rise xs.toList) (j : Nat) : CutAt xs j (SetTable.below xs j) :=
  below_go r j xs.size 0 xs.size (by omega) (Nat.zero_le _) (Nat.le_refl _) (fun i _ h => by omega) fun i h h' => by omega
theorem CutAt.unique {xs : Array Nat} {j p q : Nat} (a : CutAt xs j p) (b : CutAt xs j q) : p = q := by
  rcases Nat.lt_trichotomy p q with h | h | h
  · have hp : p < xs.size := Nat.lt_of_lt_of_le h b.le
    have := b.lo p hp h
    have := a.hi p hp (Nat.le_refl _)
    omega
  · exact h
  · have hq : q < xs.size := Nat.lt_of_lt_of_le h a.le
    have := a.lo q hq h
    have := b.hi q hq (Nat.le_refl _)
    omega
theorem insert_rise {xs : Array Nat} {j : Nat} (r : Rise xs.toList) (hn : xs[SetTable.below xs j]? ≠ some j) : Rise (SetTable.insertAt xs (SetTable.below xs j) j).toList := by
  have c := below_cut r j
  generalize SetTable.below xs j = p at hn c
  have e : (SetTable.insertAt xs p j).toList = xs.toList.take p ++ j :: xs.toList.drop p := by
    unfold SetTable.insertAt
    simp [Array.toList_append, Array.toList_push, List.extract_eq_take_drop]
    exact List.take_of_length_le (by simp)
  rw [e]
  refine List.pairwise_append.mpr ⟨r.sublist (List.take_sublist _ _), List.pairwise_cons.mpr ⟨fun x hx => ?_, r.sublist (List.drop_sublist _ _)⟩, fun x hx y hy => ?_⟩
  · obtain ⟨i, hi, ei⟩ := List.mem_iff_getElem.mp hx
    rw [List.length_drop, Array.length_toList] at hi
    rw [List.getElem_drop, Array.getElem_toList] at ei
    have h1 := c.hi (p + i) (by omega) (by omega)
    rw [ei] at h1
    by_cases z : x = j
    · exfalso
      have hp : p < xs.size := by omega
      have h2 := c.hi p hp (Nat.le_refl _)
      have h3 : xs[p] ≤ xs[p + i] := by
        by_cases i0 : i = 0
        · subst i0; exact Nat.le_refl _
        · exact Nat.le_of_lt (rise_at r hp (by omega) (by omega))
      have h4 : xs[p] = j := by rw [ei, z] at h3; omega
      exact hn (by rw [Array.getElem?_eq_getElem hp, h4])
    · omega
  · obtain ⟨i, hi, ei⟩ := List.mem_iff_getElem.mp hx
    rw [List.length_take, Array.length_toList] at hi
    rw [List.getElem_take, Array.getElem_toList] at ei
    have h1 := c.lo i (by omega) (by omega)
    rw [ei] at h1
    rcases List.mem_cons.mp hy with z | z
    · omega
    · obtain ⟨k, hk, ek⟩ := List.mem_iff_getElem.mp z
      rw [List.length_drop, Array.length_toList] at hk
      rw [List.getElem_drop, Array.getElem_toList] at ek
      have h2 := c.hi (p + k) (by omega) (by omega)
      omega
theorem slot_free {t : SetTable} {j : Nat} (h : t.slot j = .empty ∨ t.slot j = .dummy) : t.place[SetTable.below t.place j]? ≠ some j := by
  intro z
  have e : t.slot j = .live (SetTable.below t.place j) := by
    unfold SetTable.slot
    dsimp only
    rw [z]
    simp
  rw [e] at h
  rcases h with h | h <;> cases h
theorem probe_free {t : SetTable} {hh : Nat → Int} {h : Int} : ∀ (f : Nat) (p : SetTable.Probe) (j : Nat) (d : Option Nat), (∀ x, p.dummy = some x → t.slot x = .dummy) → SetTable.probe.go t hh h f p = some (.empty j d) → t.slot j = .empty ∧ ∀ x, d = some x → t.slot x = .dummy := by
  intro f
  induction f with
  | zero => intro p j d _ e; unfold SetTable.probe.go at e; cases e
  | succ f ih =>
    intro p j d hp e
    unfold SetTable.probe.go at e
    have adv : ∀ q : SetTable.Probe, (t.advance q).dummy = q.dummy := fun q => by
      unfold SetTable.advance
      split <;> rfl
    cases hs : t.slot p.j with
    | empty =>
      rw [hs] at e
      cases e
      exact ⟨hs, hp⟩
    | dummy =>
      rw [hs] at e
      refine ih _ j d (fun x hx => ?_) e
      rw [adv] at hx
      cases hx
      exact hs
    | live i =>
      rw [hs] at e
      dsimp only at e
      split at e
      · cases e
      · refine ih _ j d (fun x hx => ?_) e
        rw [adv] at hx
        exact hp x hx
theorem freeSlot_free {t : SetTable} {h : Int} {j : Nat} {b : Bool} (e : t.freeSlot h = some (j, b)) : t.place[SetTable.below t.place j]? ≠ some j := by
  unfold SetTable.freeSlot at e
  split at e
  · rename_i j' d hm
    have := probe_free (t := t) (h := h) _ _ j' d (fun x hx => by cases hx) hm
    have e' := Option.some.inj e
    cases d with
    | none =>
      have : j' = j := by have := congrArg Prod.fst e'; simpa using this
      subst this
      exact slot_free (.inl this.1)
    | some x =>
      have hx : x = j := by have := congrArg Prod.fst e'; simpa using this
      subst hx
      exact slot_free (.inr (this.2 x rfl))
  · cases e
structure TabK (led : Bool) (t : SetTable) : Prop where
  led : t.led = led
  rise : t.plain = true → Rise t.place.toList
theorem TabK.off {led : Bool} {t : SetTable} (h : TabK led t) : TabK led { t with plain := false } := ⟨h.led, fun z => by cases z⟩
theorem standIn_tab {led : Bool} {t : SetTable} (h : t.led = led) (n : Nat) : TabK led (t.standIn n) := ⟨h, fun z => by cases z⟩
theorem orStandIn_tab {led : Bool} {t : SetTable} (h : TabK led t) (n : Nat) : TabK led (t.orStandIn n) := by
  unfold SetTable.orStandIn
  split
  · exact h
  · exact standIn_tab h.led n
theorem layNew_tab {led : Bool} {t : SetTable} (h : TabK led t) (es : Array (Int × Value)) (hh : Int) (x : Value) : TabK led (layNew t es hh x).2.1 := by
  unfold layNew
  cases e : t.freeSlot hh with
  | none => exact standIn_tab h.led _
  | some q =>
    obtain ⟨j, b⟩ := q
    refine orStandIn_tab (t := (t.put j).1) ⟨h.led, fun z => ?_⟩ _
    exact insert_rise (h.rise z) (freeSlot_free e)
theorem laid_rise {mask finger moves : Nat} {led plain : Bool} {hs : Array Int} {t : SetTable} {o : Array Nat} (e : SetTable.laid mask finger moves led plain hs = some (t, o)) : t.led = led ∧ Rise t.place.toList := by
  unfold SetTable.laid at e
  obtain ⟨ow, _, e2⟩ := Option.bind_eq_some_iff.mp e
  have e2 := Option.some.inj e2
  have ht := congrArg Prod.fst e2
  dsimp only at ht
  rw [← ht]
  refine ⟨rfl, ?_⟩
  show List.Pairwise (fun a b => a < b) (List.map (fun x : Nat × Nat => x.1) _)
  rw [List.pairwise_map]
  refine List.pairwise_filterMap.mpr ?_
  refine List.Pairwise.imp ?_ List.pairwise_lt_range
  intro a b hab x hx y hy
  obtain ⟨u, _, eu⟩ := Option.map_eq_some_iff.mp hx
  obtain ⟨v, _, ev⟩ := Option.map_eq_some_iff.mp hy
  rw [← eu, ← ev]
  exact hab
theorem relayAll_tab {led : Bool} {t : SetTable} (h : TabK led t) (es : Array (Int × Value)) (n : Nat) : TabK led (relayAll t es n).2.1 := by
  unfold relayAll
  cases e : t.relaid (es.map (·.1)) n with
  | none => exact standIn_tab h.led _
  | some q =>
    obtain ⟨t', o⟩ := q
    dsimp only
    split
    · have := laid_rise e
      exact ⟨this.1.trans h.led, fun _ => this.2⟩
    · exact standIn_tab h.led _
end L2
set_option Elab.async false
set_option linter.all false
set_option maxRecDepth 100000
namespace L2
open PySem PySem.Spec PyProof.Rows
noncomputable abbrev byText (w : World) : Bool := w.params.followText "set-order"
noncomputable def Ents (es : List (Int × Value)) (ks : List Int) : Prop := Paired (fun (e : Int × Value) (k : Int) => ∃ t, e = (hashInt k, Value.int k t)) es ks
structure SetIn (w : World) (o : Obj) (es : Array (Int × Value)) (ep : Nat) (t : SetTable) (ks : List Int) : Prop where
  ex : o.ExactSet
  da : o.data = .set es ep t
  en : Ents es.toList ks
  nd : ks.Nodup
  sz : ks.length < 4000
  ft : t.fits es.size = true
  tb : TabK (!byText w) t
noncomputable def SX (w : World) (a : Addr) (ms : List Int) : Heap → Prop := fun h => ∃ o es ep t ks, h.get? a = some o ∧ SetIn w o es ep t ks ∧ ks.Perm ms
theorem SX.at {w : World} {a : Addr} {ms : List Int} {h h' : Heap} (x : SX w a ms h) (k : ∀ o, h.get? a = some o → h'.get? a = some o) : SX w a ms h' := by
  obtain ⟨o, es, ep, t, ks, e, r⟩ := x
  exact ⟨o, es, ep, t, ks, k o e, r⟩
theorem SX.lt {w : World} {a : Addr} {ms : List Int} {h : Heap} (x : SX w a ms h) : a < h.objs.size := by
  obtain ⟨o, es, ep, t, ks, e, r⟩ := x
  exact Heap.lt_size e
theorem SX.perm {w : World} {a : Addr} {ms ns : List Int} {h : Heap} (x : SX w a ms h) (p : ms.Perm ns) : SX w a ns h := by
  obtain ⟨o, es, ep, t, ks, e, r, q⟩ := x
  exact ⟨o, es, ep, t, ks, e, r, q.trans p⟩
theorem Ents.mem : ∀ {es : List (Int × Value)} {ks : List Int}, Ents es ks → ∀ {e : Int × Value}, e ∈ es → ∃ k t, k ∈ ks ∧ e = (hashInt k, Value.int k t) := by
  intro es ks h e
  unfold Ents at h
  induction h with
  | nil => intro h; cases h
  | cons q r ih =>
    intro h
    obtain ⟨t, q⟩ := q
    rcases List.mem_cons.mp h with z | z
    · exact ⟨_, t, List.mem_cons_self, z.trans q⟩
    · obtain ⟨k, t, m, q⟩ := ih z
      exact ⟨k, t, List.mem_cons_of_mem _ m, q⟩
theorem Ents.elems {P : Program} {w : World} {es : List (Int × Value)} {ks : List Int} (h : Ents es ks) : ElemsOf (intKind P w) es := fun e he => by
  obtain ⟨k, t, _, q⟩ := h.mem he
  subst q
  exact ⟨⟨k, intKind_is P w k t, rfl⟩, rfl⟩
theorem Ents.len {es : List (Int × Value)} {ks : List Int} (h : Ents es ks) : es.length = ks.length := Paired.length h
theorem Ents.perm {es es' : List (Int × Value)} (p : es'.Perm es) : ∀ {ks : List Int}, Ents es ks → ∃ ks', Ents es' ks' ∧ ks'.Perm ks := by
  induction p with
  | nil => intro ks h; cases h; exact ⟨[], .nil, .nil⟩
  | cons x _ ih =>
    intro ks h
    cases h with
    | cons q r =>
      obtain ⟨ks', a, b⟩ := ih r
      exact ⟨_ :: ks', .cons q a, b.cons _⟩
  | swap x y l =>
    intro ks h
    cases h with
    | cons q r =>
      cases r with
      | cons q' r => exact ⟨_ :: _ :: _, .cons q' (.cons q r), .swap _ _ _⟩
  | trans _ _ ih1 ih2 =>
    intro ks h
    obtain ⟨k2, a, b⟩ := ih2 h
    obtain ⟨k3, c, d⟩ := ih1 a
    exact ⟨k3, c, d.trans b⟩
theorem isInt_dec (k j : Int) (t : Tok) : Value.isInt k (.int j t) = decide (k = j) := by
  by_cases h : k = j
  · subst h; simp [Value.isInt]
  · simp [Value.isInt, h]
    exact fun z => h z.symm
theorem Ents.find {P : Program} {w : World} {k : Int} : ∀ {es : List (Int × Value)} {ks : List Int}, Ents es ks → (es.findIdx? (fun e => (intKind P w).is k e.2)).isSome = decide (k ∈ ks) := by
  intro es ks h
  unfold Ents at h
  induction h with
  | nil => rfl
  | @cons a j es ks q r ih =>
    obtain ⟨t, q⟩ := q
    subst q
    rw [List.findIdx?_cons]
    have e : (intKind P w).is k (hashInt j, Value.int j t).2 = decide (k = j) := isInt_dec k j t
    rw [e]
    by_cases h : k = j
    · subst h; simp
    · simp [h, ih]
section
variable {P : Program} {w : World} {A : Around} {E : Value → Shared → Prop} {s : Shared} {a : Addr} {ms ks : List Int} {o : Obj} {es : Array (Int × Value)} {ep : Nat} {t : SetTable}
theorem SetIn.bound (h : SetIn w o es ep t ks) : es.size < scanBound := by
  have : es.size = ks.length := by rw [← h.en.len, Array.length_toList]
  have := h.sz
  have e : scanBound = 4096 := rfl
  omega
theorem SetIn.size (h : SetIn w o es ep t ks) : es.size = ks.length := by rw [← h.en.len, Array.length_toList]
theorem put_SX {es' : Array (Int × Value)} {t' : SetTable} {ks' : List Int} (ho : s.heap.get? a = some o) (h : SetIn w o es ep t ks) (en : Ents es'.toList ks') (nd : ks'.Nodup) (sz : ks'.length < 4000) (ft : t'.fits es'.size = true) (tb : TabK (!byText w) t') :
    ∃ o', (s.heap.update a (Obj.putSet es' t')).get? a = some o' ∧ SetIn w o' es' (ep + 1) t' ks' := by
  have g := Heap.get?_update_self (Obj.putSet es' t') ho (by rw [putSet_of es' t' h.da]; rfl)
  rw [putSet_of es' t' h.da] at g
  exact ⟨_, g, ⟨h.ex, rfl, en, nd, sz, ft, tb⟩⟩
theorem gave_ok {g : Bool → Sem Unit} {Q : Unit → Shared → Prop} (hg : ∀ b, g b = match b with | true => rule "set.scan.the-table-gave-way" | false => pure ()) (b : Bool) {s : Shared} (h : Q () s) : wpAny (model P w) A (g b) Q E s := by
  rw [hg b]
  cases b with
  | true => exact wpAny_rule h
  | false => exact wpAny_pure h
theorem add_SX {x : Int} {tk : Tok} {Q : Bool → Shared → Prop} (ho : s.heap.get? a = some o) (hs : SetIn w o es ep t ks) (hl : ks.length + 1 < 4000)
    (h1 : x ∈ ks → Q false s) (h2 : x ∉ ks → ∀ h', Heap.SameBut a s.heap h' → SX w a (ks ++ [x]) h' → Q true { s with heap := h' }) : wpAny (model P w) A (setAddHashed a (.int x tk) (hashInt x)) Q E s := by
  have hel := hs.en.elems (P := P) (w := w)
  have hky : (intKind P w).is x (.int x tk) = true := intKind_is P w x tk
  unfold setAddHashed setAddHashedIn
  refine wpAny_holding (wpAny_bind (wpAny_setState_of ho hs.da hs.ft ?_))
  dsimp only
  rw [byScan_of (knd := intKind P w) rfl hs.bound hel, if_pos rfl]
  refine wpAny_bind ?_
  unfold setAddByScan
  refine wpAny_bind (wpAny_rule (wpAny_bind (wpAny_setScan_of (knd := intKind P w) (k := x) hky ho hs.da hs.ft hel ?_)))
  have fd := hs.en.find (P := P) (w := w) (k := x)
  cases hr : List.findIdx? (fun e => (intKind P w).is x e.2) es.toList with
  | some j =>
    rw [hr] at fd
    exact wpAny_pure (wpAny_pure (h1 (of_decide_eq_true fd.symm)))
  | none =>
    rw [hr] at fd
    have hx : x ∉ ks := of_decide_eq_false fd.symm
    have p1 := layNew_perm t es (hashInt x) (Value.int x tk)
    have f1 := layNew_fits t es (hashInt x) (Value.int x tk)
    have t1 := layNew_tab hs.tb es (hashInt x) (Value.int x tk)
    generalize layNew t es (hashInt x) (Value.int x tk) = L at p1 f1 t1 ⊢
    obtain ⟨e1, u1, wasD, gave⟩ := L
    dsimp only at p1 f1 t1 ⊢
    rw [Array.toList_push] at p1
    obtain ⟨k1, n1, q1⟩ := Ents.perm p1 (ks := ks ++ [x]) (Paired.snoc hs.en ⟨tk, rfl⟩)
    have nd1 : k1.Nodup := q1.nodup_iff.mpr (nd_snoc hs.nd hx)
    have l1 : k1.length < 4000 := by rw [q1.length_eq, List.length_append, List.length_singleton]; exact hl
    have b1 : e1.size ≤ sizeLine := by
      have : e1.size = k1.length := by rw [← n1.len, Array.length_toList]
      exact Nat.le_trans (by omega) (Nat.le_of_lt (szn (n := 99999) (by omega)))
    refine wpAny_bind (gave_ok (fun b => by cases b <;> rfl) gave ?_)
    have tail : ∀ u2 : SetTable, u2.fits e1.size = true → TabK (!byText w) u2 → ∀ R : Option Bool → Shared → Prop, (∀ h', Heap.SameBut a s.heap h' → SX w a (ks ++ [x]) h' → R (some true) { s with heap := h' }) → ∀ g : Bool → Sem Unit, (∀ b, g b = match b with | true => rule "set.scan.the-table-gave-way" | false => pure ()) →
        wpAny (model P w) A (do
          storeSet a e1 u2
          if (!wasD && u2.tooFull) = true then
            let (es, t, gave) := relayAll u2 e1 (SetTable.grown e1.size)
            g gave
            storeSet a es t
          return some true) R E s := by
      intro u2 f2 t2 R hR g hg
      refine wpAny_bind (wpAny_storeSet_of ho hs.da ?_ b1)
      obtain ⟨o', ho', hs'⟩ := put_SX (s := s) ho hs n1 nd1 l1 f2 t2
      have sb1 := Heap.SameBut.update s.heap a (Obj.putSet e1 u2)
      by_cases hc : (!wasD && u2.tooFull) = true
      · rw [if_pos hc]
        have p3 := relayAll_perm u2 e1 (SetTable.grown e1.size)
        have f3 := relayAll_fits u2 e1 (SetTable.grown e1.size)
        have t3 := relayAll_tab t2 e1 (SetTable.grown e1.size)
        generalize relayAll u2 e1 (SetTable.grown e1.size) = L at p3 f3 t3 ⊢
        obtain ⟨e3, u3, gave3⟩ := L
        dsimp only at p3 f3 t3 ⊢
        obtain ⟨k3, n3, q3⟩ := Ents.perm p3 n1
        have z3 : e3.size = e1.size := by rw [← Array.length_toList, p3.length_eq, Array.length_toList]
        refine wpAny_bind (gave_ok hg gave3 ?_)
        refine wpAny_bind (wpAny_storeSet_of ho' hs'.da ?_ (by rw [z3]; exact b1))
        obtain ⟨o3, ho3, hs3⟩ := put_SX (s := { s with heap := s.heap.update a (Obj.putSet e1 u2) }) ho' hs' n3 (q3.nodup_iff.mpr nd1) (by rw [q3.length_eq]; exact l1) f3 t3
        exact wpAny_pure (hR _ (sb1.trans (Heap.SameBut.update _ a _)) ⟨o3, e3, _, u3, k3, ho3, hs3, q3.trans q1⟩)
      · rw [if_neg hc]
        exact wpAny_pure (hR _ sb1 ⟨o', e1, _, u2, k1, ho', hs', q1⟩)
    by_cases hp : u1.plain = true
    · rw [if_pos hp]
      refine wpAny_bind ?_
      rw [hashByValue_scannable 8 (x := Value.int x tk) rfl]
      refine wpAny_pure ?_
      refine tail u1 f1 t1 _ (fun h' sb sx => ?_) _ (fun b => by cases b <;> rfl)
      exact wpAny_pure (h2 hx h' sb sx)
    · rw [if_neg hp]
      refine wpAny_bind (wpAny_pure ?_)
      refine tail u1 f1 t1 _ (fun h' sb sx => ?_) _ (fun b => by cases b <;> rfl)
      exact wpAny_pure (h2 hx h' sb sx)
end
end L2
set_option Elab.async false
set_option linter.all false
set_option maxRecDepth 100000
namespace L2
open PySem PySem.Spec PyProof.Rows
theorem slot_si_next : Slot "set_iterator" "__next__" "set_iterator.__next__" := .of (owner := "set_iterator") (n := "__next__") (by rw [typeLookup_type, builtinLookup_eq_fast]; kernel_rfl) (by decide +kernel) (by decide +kernel) (by decide +kernel) (.inl (by decide +kernel)) (by rw [isSubtype_type]; kernel_rfl)
theorem entry_si_next : entryFor table "set_iterator.__next__" = some Builtin.«set_iterator.__next__» := entryFor_of_tree (by kernel_rfl)
theorem args_si_next (a : Value) : argsOk "set_iterator.__next__" ⟨[a], []⟩ := by unfold argsOk; kernel_rfl
theorem slot_si_iter : Slot "set_iterator" "__iter__" "set_iterator.__iter__" := .of (owner := "set_iterator") (n := "__iter__") (by rw [typeLookup_type, builtinLookup_eq_fast]; kernel_rfl) (by decide +kernel) (by decide +kernel) (by decide +kernel) (.inl (by decide +kernel)) (by rw [isSubtype_type]; kernel_rfl)
theorem entry_si_iter : entryFor table "set_iterator.__iter__" = some Builtin.«dict_keyiterator.__iter__» := entryFor_alias (id' := "dict_keyiterator.__iter__") (by kernel_rfl) rfl (by decide +kernel) (by kernel_rfl)
theorem args_si_iter (a : Value) : argsOk "set_iterator.__iter__" ⟨[a], []⟩ := by unfold argsOk; kernel_rfl
theorem entry_set_iter : entryFor table "set.__iter__" = some Builtin.«frozenset.__iter__» := entryFor_alias (id' := "frozenset.__iter__") (by kernel_rfl) rfl (by decide +kernel) (by kernel_rfl)
end L2
set_option Elab.async false
set_option linter.all false
set_option maxRecDepth 100000
namespace L2
open PySem PySem.Spec PyProof.Rows
theorem erase_perm {α : Type} {l : List α} {i : Nat} {x : α} (h : l[i]? = some x) : l.Perm (x :: l.eraseIdx i) := by
  induction l generalizing i with
  | nil => simp at h
  | cons y r ih =>
    cases i with
    | zero => simp at h; subst h; simp
    | succ i =>
      simp at h
      exact ((ih h).cons y).trans (.swap _ _ _)
theorem pick_go {α : Type} (next : Nat → Nat) (f k : Nat) (left : List α) (out : Array α) (h : left.length = f) : (pickOrder.go next f k left out).toList.Perm (out.toList ++ left) := by
  induction f generalizing k left out with
  | zero =>
    have : left = [] := List.length_eq_zero_iff.mp h
    subst this
    unfold pickOrder.go
    simp
  | succ f ih =>
    unfold pickOrder.go
    have hp : 0 < left.length := by omega
    have hl := Nat.mod_lt (next k) hp
    rw [List.getElem?_eq_getElem hl]
    dsimp only
    refine (ih (k + 1) _ _ (by rw [List.length_eraseIdx_of_lt hl]; omega)).trans ?_
    rw [Array.toList_push, List.append_assoc]
    exact (erase_perm (List.getElem?_eq_getElem hl)).symm.append_left _
theorem pick_perm {α : Type} (next : Nat → Nat) (xs : Array α) : (pickOrder next xs).toList.Perm xs.toList := by
  have := pick_go next xs.size 0 xs.toList #[] (by simp)
  unfold pickOrder
  simpa using this
section
variable {M : Model} {A : Around} {E : Value → Shared → Prop} {s : Shared}
theorem wpAny_draw {src : Source} {n : Nat} {Q : Nat → Shared → Prop} (hn : n ≠ 0) (h : ∀ i d, i < n → Q i { s with drawn := d }) : wpAny M A (choose src n) Q E s := fun Γ p _ => by
  show Sem.wp M Γ (.choose src n .pure) _ _ p s
  rw [Sem.wp_choose]
  exact ⟨hn, h _ _ (Nat.mod_lt _ (Nat.pos_of_ne_zero hn))⟩
theorem draw_order {α : Type} : ∀ (n : Nat) (xs : List α) (s : Shared) (Q : List α → Shared → Prop), xs.length = n → (∀ ys d, ys.Perm xs → Q ys { s with drawn := d }) → wpAny M A (drawOrder n xs) Q E s := by
  intro n
  induction n with
  | zero =>
    intro xs s Q hl h
    have : xs = [] := List.length_eq_zero_iff.mp hl
    subst this
    unfold drawOrder
    exact wpAny_pure (h [] s.drawn (.refl _))
  | succ n ih =>
    intro xs s Q hl h
    cases xs with
    | nil => cases hl
    | cons x r =>
      unfold drawOrder
      refine wpAny_bind (wpAny_draw (by simp) fun i d hi => ?_)
      rw [List.getElem?_eq_getElem hi]
      dsimp only
      refine wpAny_bind (ih _ _ _ (by rw [List.length_eraseIdx_of_lt hi, hl]; rfl) fun ys d' hp => wpAny_pure ?_)
      exact h _ d' ((hp.cons _).trans (erase_perm (List.getElem?_eq_getElem hi)).symm)
end
noncomputable abbrev IsSI (h : Heap) (I : Addr) (first : Value) (i : Nat) (S : Addr) (n ep : Nat) : Prop :=
  h.get? I = some { cls := .type "set_iterator", dict := none, data := .fields #[first, .int i 0, .ref S, .int n 0, .int ep 0], slots := #[] }
section
variable {P : Program} {w : World} {A : Around} {E : Value → Shared → Prop} {s : Shared} {I S : Addr} {ks : List Int} {o : Obj} {es : Array (Int × Value)} {ep i : Nat} {t : SetTable} {first : Value}
theorem si_self {Q : Value → Shared → Prop} {n : Nat} (hit : IsSI s.heap I first i S n ep) (h : Q (.ref I) s) : wpAny (model P w) A (pyIter (.ref I)) Q E s := by
  have hT : s.TypeIs (.ref I) "set_iterator" := ⟨_, hit, rfl⟩
  refine wpAny_pyIter_slot hT slot_si_iter (wpAny_call_entry slot_si_iter hT entry_si_iter ?_ (args_si_iter _))
  show wpAny _ _ (ret (.ref I)) _ _ s
  exact wpAny_pure ⟨_, rfl, "set_iterator", _, hT, slot_si_next.lookup, h⟩
theorem stop_here {A' : Around} {R : Fin → Shared → Prop} {Q : Option Value → Shared → Prop} (hh : A'.handled = none) (h : ∀ h', (∀ b o, s.heap.get? b = some o → h'.get? b = some o) → Q none { s with heap := h' }) :
    wpAny (model P w) A' (do let e ← newExc (.type "StopIteration") []; raiseNew e) R (fun e s' => wpAny (model P w) A (do let b ← isInstance e (.type "StopIteration"); if b = true then pure none else throw e) Q E s') s := by
  refine wpAny_bind ?_
  simp only [newExc, newTuple]
  refine wpAny_bind (wpAny_newObj_type ?_ (by size_fits))
  refine wpAny_bind (m := firstArgMember _ _) (wpAny_of_eq (a := Value.none) (by first | rfl | (simp only [firstArgMember]; rfl)) ?_)
  refine wpAny_newObj_type ?_ (by size_fits)
  simp only [raiseNew]
  refine wpAny_bind (wpAny_handled ?_)
  rw [hh]
  refine wpAny_bind (wpAny_pure (wpAny_throw ?_))
  refine wpAny_bind (wpAny_isInstance (T := "StopIteration") (b := true) ⟨_, Heap.get?_push_size _ rfl, rfl⟩ isSubtype_stop ?_)
  exact wpAny_pure (h _ fun b o e => Heap.get?_push_of_some _ (Heap.get?_push_of_some _ e))
theorem si_next {Q : Option Value → Shared → Prop} {slot : Nat} (hh : A.handled = none) (hit : IsSI s.heap I (.int slot 0) i S es.size ep) (ho : s.heap.get? S = some o) (hs : SetIn w o es ep t ks) (r : Option (Value × Nat))
    (hr : ∀ (A' : Around) (E' : Value → Shared → Prop) (R : Option (Value × Nat) → Shared → Prop), R r s → wpAny (model P w) A' (setNext S slot i ep) R E' s)
    (h1 : ∀ x nx h', r = some (x, nx) → IsSI h' I (.int nx 0) (i + 1) S es.size ep → Heap.SameBut I s.heap h' → Q (some x) { s with heap := h' })
    (h2 : ∀ h', r = none → (∀ b o, b ≠ I → s.heap.get? b = some o → h'.get? b = some o) → Q none { s with heap := h' }) : wpAny (model P w) A (pyNext (.ref I)) Q E s := by
  have hT : s.TypeIs (.ref I) "set_iterator" := ⟨_, hit, rfl⟩
  unfold pyNext
  refine wpAny_bind (wpAny_attempt (wpAny_callSpecial?_slot (name := Str.ofString "__next__") hT slot_si_next (wpAny_call_entry slot_si_next hT entry_si_next ?_ (args_si_next _))))
  unfold Builtin.«set_iterator.__next__»
  refine wpAny_bind (wpAny_pure ?_)
  refine wpAny_bind (wpAny_fieldsOf hit rfl ?_)
  dsimp only
  refine wpAny_bind (wpAny_setEntries_of ho hs.da hs.ft ?_)
  rw [if_neg (by simp)]
  refine wpAny_bind (hr _ _ _ ?_)
  cases r with
  | none =>
    dsimp only
    refine wpAny_bind (wpAny_setField hit rfl (by simp) ?_)
    exact stop_here (A := A) (show A.in1.handled = none from hh) fun h' k => h2 h' rfl fun b o hb e => k b o ((Heap.get?_update_other _ _ (Ne.symm hb)).trans e)
  | some q =>
    obtain ⟨x, nx⟩ := q
    dsimp only
    refine wpAny_bind (wpAny_setField_rec hit (by simp) fun ha ea sa => ?_)
    refine wpAny_bind (wpAny_setField_rec ea (by simp) fun hb eb sb => wpAny_pure ⟨x, rfl, wpAny_pure (h1 x nx hb rfl ?_ (sa.trans sb))⟩)
    have e : ((i + 1 : Nat) : Int) = (i : Int) + 1 := by omega
    unfold IsSI
    rw [e]
    simpa [rawInt] using eb
theorem si_next_drawn {Q : Option Value → Shared → Prop} {T : Addr} {ps : List Nat} {m : Nat} (hh : A.handled = none) (hit : IsSI s.heap I (.ref T) i S es.size ep) (hT2 : s.heap.get? T = some { cls := .type "tuple", data := .seq (ps.map fun (p : Nat) => rawInt p).toArray m })
    (ho : s.heap.get? S = some o) (hs : SetIn w o es ep t ks) (hp : ∀ p ∈ ps, p < es.size)
    (h1 : ∀ p h', ps[i]? = some p → IsSI h' I (.ref T) (i + 1) S es.size ep → Heap.SameBut I s.heap h' → Q (es[p]?.map (·.2)) { s with heap := h' })
    (h2 : ∀ h', ps[i]? = none → (∀ b o, b ≠ I → s.heap.get? b = some o → h'.get? b = some o) → Q none { s with heap := h' }) : wpAny (model P w) A (pyNext (.ref I)) Q E s := by
  have hT : s.TypeIs (.ref I) "set_iterator" := ⟨_, hit, rfl⟩
  unfold pyNext
  refine wpAny_bind (wpAny_attempt (wpAny_callSpecial?_slot (name := Str.ofString "__next__") hT slot_si_next (wpAny_call_entry slot_si_next hT entry_si_next ?_ (args_si_next _))))
  unfold Builtin.«set_iterator.__next__»
  refine wpAny_bind (wpAny_pure ?_)
  refine wpAny_bind (wpAny_fieldsOf hit rfl ?_)
  dsimp only
  refine wpAny_bind (wpAny_setEntries_of ho hs.da hs.ft ?_)
  rw [if_neg (by simp)]
  refine wpAny_bind (wpAny_seqItems hT2 rfl ?_)
  dsimp only
  have eq : (ps.map fun (p : Nat) => rawInt p).toArray[(i : Int).toNat]? = (ps[i]?).map fun (p : Nat) => rawInt p := by
    rw [Int.toNat_natCast, List.getElem?_toArray, List.getElem?_map]
  rw [eq]
  cases hpi : ps[i]? with
  | none =>
    dsimp only [Option.map_none]
    refine wpAny_bind (wpAny_setField_rec hit (by simp) fun ha ea sa => ?_)
    refine wpAny_bind (wpAny_setField ea rfl (by simp) ?_)
    refine stop_here (A := A) (show A.in1.handled = none from hh) fun h' k => h2 h' hpi fun b o hb e => k b o ?_
    exact (Heap.get?_update_other _ _ (Ne.symm hb)).trans ((sa.2 b hb).trans e)
  | some p =>
    have hlt : p < es.size := hp p (List.mem_of_getElem? hpi)
    have key := h1 p
    rw [Array.getElem?_eq_getElem hlt] at key
    dsimp only [Option.map_some, rawInt]
    unfold setNextDrawn
    refine wpAny_bind (wpAny_bind (wpAny_setState_of ho hs.da hs.ft ?_))
    dsimp only
    rw [if_neg (by simp), Int.toNat_natCast, Array.getElem?_eq_getElem hlt]
    refine wpAny_pure ?_
    refine wpAny_bind (wpAny_setField_rec hit (by simp) fun ha ea sa => wpAny_pure ⟨_, rfl, wpAny_pure (key ha hpi ?_ sa)⟩)
    have e : ((i + 1 : Nat) : Int) = (i : Int) + 1 := by omega
    unfold IsSI
    rw [e]
    simpa [rawInt] using ea
end
end L2
set_option Elab.async false
set_option linter.all false
set_option maxRecDepth 100000
namespace L2
open PySem PySem.Spec PyProof.Rows
section
variable {P : Program} {w : World} {A : Around} {E : Value → Shared → Prop} {s : Shared} {I S : Addr} {ks : List Int} {o : Obj} {es : Array (Int × Value)} {ep i : Nat} {t : SetTable}
noncomputable def SetAt (w : World) (S : Addr) (es : Array (Int × Value)) (ep : Nat) (t : SetTable) (ks : List Int) (h : Heap) : Prop := ∃ o, h.get? S = some o ∧ SetIn w o es ep t ks
theorem SetAt.at {h h' : Heap} (x : SetAt w S es ep t ks h) (k : ∀ o, h.get? S = some o → h'.get? S = some o) : SetAt w S es ep t ks h' := let ⟨o, e, r⟩ := x; ⟨o, k o e, r⟩
noncomputable abbrev Yld (vs : List Int) : Nat → Value → Prop := fun i v => ∃ t, v = .int (vs.getD i 0) t
theorem ents_at {l : List (Int × Value)} {vs : List Int} (h : Ents l vs) {i : Nat} {e : Int × Value} (hi : l[i]? = some e) : ∃ tk, e.2 = Value.int (vs.getD i 0) tk := by
  have hl : i < vs.length := by rw [← h.len]; exact (List.getElem?_eq_some_iff.mp hi).1
  obtain ⟨a, ha, q⟩ := pair_get h (List.getElem?_eq_getElem hl)
  rw [hi] at ha
  cases ha
  obtain ⟨tk, q⟩ := q
  exact ⟨tk, by rw [q]; simp [hl]⟩
theorem walk_slots (hh : A.handled = none) (hne : S ≠ I) (ord : List (Int × Value)) (vs : List Int) (f : Nat → Nat) (hv : Ents ord vs) (hl : ord.length = es.size)
    (hr : ∀ (i : Nat) (s : Shared), i ≤ es.size → SetAt w S es ep t ks s.heap → ∀ (A' : Around) (E' : Value → Shared → Prop) (R : Option (Value × Nat) → Shared → Prop), R ((ord[i]?).map fun e => (e.2, f (i + 1))) s → wpAny (model P w) A' (setNext S (f i) i ep) R E' s) :
    Walks P w A I [I, S] [I] es.size (Yld vs) (fun i h => IsSI h I (.int (f i) 0) i S es.size ep ∧ SetAt w S es ep t ks h) where
  sub := fun b hb => by simp at hb; simp [hb]
  frame := fun i h h' st k => ⟨k I (by simp) _ st.1, st.2.at fun o e => k S (by simp) o e⟩
  item := fun i s Q E hi st hQ => by
    obtain ⟨o, ho, hs⟩ := id st.2
    obtain ⟨e, he⟩ : ∃ e, ord[i]? = some e := ⟨_, List.getElem?_eq_getElem (by omega)⟩
    refine si_next hh st.1 ho hs _ (hr i s (by omega) st.2) (fun x nx h' e2 it' sb => ?_) fun h' e2 _ => by rw [he] at e2; cases e2
    rw [he] at e2
    have e3 := Option.some.inj e2
    have hx : e.2 = x := congrArg Prod.fst e3
    have hn : f (i + 1) = nx := congrArg Prod.snd e3
    subst hx hn
    exact hQ _ h' s.toks (ents_at hv he) ⟨it', st.2.at fun o e => (sb.2 S hne).trans e⟩ fun b o hb e => (sb.2 b (by simpa using hb)).trans e
  done := fun s Q E st hQ => by
    obtain ⟨o, ho, hs⟩ := id st.2
    have he : ord[es.size]? = none := List.getElem?_eq_none (by omega)
    refine si_next hh st.1 ho hs _ (hr _ s (Nat.le_refl _) st.2) (fun x nx h' e2 it' sb => by rw [he] at e2; cases e2) fun h' _ k => ?_
    exact hQ h' s.toks fun b o hb e => k b o (by simpa using hb) e
  self := fun i s Q E st h => si_self st.1 h
theorem szl' {n : Nat} (h : n ≤ 5000) : n ≤ sizeLine := Nat.le_trans h (Nat.le_of_lt (szn (n := 5000) (by omega)))
theorem fm_map (ps : List Nat) (hp : ∀ p ∈ ps, p < es.size) : ps.filterMap (es[·]?) = ps.map fun q => es.getD q (0, .none) := by
  induction ps with
  | nil => rfl
  | cons q r ih =>
    have hq := hp q (by simp)
    rw [List.filterMap_cons, Array.getElem?_eq_getElem hq]
    dsimp only
    rw [ih (fun x hx => hp x (List.mem_cons_of_mem _ hx)), List.map_cons]
    simp [hq]
theorem walk_places {T : Addr} (hh : A.handled = none) (hne : S ≠ I) (hT : T ≠ I) (ps : List Nat) (vs : List Int) (hv : Ents (ps.filterMap (es[·]?)) vs) (hp : ∀ p ∈ ps, p < es.size) (hl : ps.length = es.size) :
    Walks P w A I [I, S, T] [I] es.size (Yld vs) (fun i h => IsSI h I (.ref T) i S es.size ep ∧ SetAt w S es ep t ks h ∧ h.get? T = some { cls := .type "tuple", data := .seq (ps.map fun (p : Nat) => rawInt p).toArray }) where
  sub := fun b hb => by simp at hb; simp [hb]
  frame := fun i h h' st k => ⟨k I (by simp) _ st.1, st.2.1.at fun o e => k S (by simp) o e, k T (by simp) _ st.2.2⟩
  item := fun i s Q E hi st hQ => by
    obtain ⟨o, ho, hs⟩ := id st.2.1
    refine si_next_drawn hh st.1 st.2.2 ho hs hp (fun p h' e2 it' sb => ?_) fun h' e2 _ => ?_
    · have hlt := hp p (List.mem_of_getElem? e2)
      rw [Array.getElem?_eq_getElem hlt]
      have e4 : (ps.filterMap (es[·]?))[i]? = some es[p] := by
        have := fm_map ps hp
        rw [this, List.getElem?_map, e2]
        simp [hlt]
      exact hQ _ h' s.toks (ents_at hv e4) ⟨it', st.2.1.at fun o e => (sb.2 S hne).trans e, (sb.2 T hT).trans st.2.2⟩ fun b o hb e => (sb.2 b (by simpa using hb)).trans e
    · rw [List.getElem?_eq_getElem (by omega)] at e2
      cases e2
  done := fun s Q E st hQ => by
    obtain ⟨o, ho, hs⟩ := id st.2.1
    refine si_next_drawn hh st.1 st.2.2 ho hs hp (fun p h' e2 it' sb => ?_) fun h' _ k => ?_
    · rw [List.getElem?_eq_none (by omega)] at e2
      cases e2
    · exact hQ h' s.toks fun b o hb e => k b o (by simpa using hb) e
  self := fun i s Q E st h => si_self st.1 h
theorem rise_short {l : List Nat} (h : l.length ≤ 1) : Rise l := by
  match l, h with
  | [], _ => exact .nil
  | [x], _ => exact List.pairwise_singleton _ _
noncomputable def slotAt (t : SetTable) : Nat → Nat
  | 0 => 0
  | i + 1 => t.place.getD i 0 + 1
theorem slot_cut {t : SetTable} (r : Rise t.place.toList) {i : Nat} (hi : i ≤ t.place.size) : SetTable.below t.place (slotAt t i) = i := by
  refine (below_cut r _).unique ⟨hi, fun k hk hlt => ?_, fun k hk hge => ?_⟩
  · cases i with
    | zero => omega
    | succ i =>
      have hi' : i < t.place.size := by omega
      have e : t.place.getD i 0 = t.place[i] := by simp [hi']
      show t.place[k] < t.place.getD i 0 + 1
      rw [e]
      by_cases z : k = i
      · subst z; omega
      · have := rise_at r hk hi' (by omega)
        omega
  · cases i with
    | zero => exact Nat.zero_le _
    | succ i =>
      have hi' : i < t.place.size := by omega
      have e : t.place.getD i 0 = t.place[i] := by simp [hi']
      show t.place.getD i 0 + 1 ≤ t.place[k]
      rw [e]
      exact rise_at r hi' hk (by omega)
theorem fits_size (h : t.fits es.size = true) : t.place.size = es.size := by
  simp only [SetTable.fits, Bool.and_eq_true, beq_iff_eq, decide_eq_true_eq] at h
  exact h.1
theorem setWalk_text {Q : Array (Int × Value) → Shared → Prop} (bt : byText w = true) (ho : s.heap.get? S = some o) (hs : SetIn w o es ep t ks) (h : Q (pickOrder (w.params.setOrder S ep) es) s) : wpAny (model P w) A (setWalk S) Q E s := by
  unfold setWalk setsByText
  refine wpAny_bind (wpAny_setState_of ho hs.da hs.ft ?_)
  dsimp only
  refine wpAny_bind (wpAny_bind (wpAny_askSetting (wpAny_pure ?_)))
  have bt' : (model P w).w.params.followText "set-order" = true := bt
  rw [bt', if_pos rfl]
  exact wpAny_bind (wpAny_askSetting (wpAny_pure h))
theorem next_text {slot : Nat} {Q : Option (Value × Nat) → Shared → Prop} (bt : byText w = true) (ho : s.heap.get? S = some o) (hs : SetIn w o es ep t ks)
    (h : Q (((pickOrder (w.params.setOrder S ep) es).toList[i]?).map fun e => (e.2, slot)) s) : wpAny (model P w) A (setNext S slot i ep) Q E s := by
  unfold setNext
  refine wpAny_bind (wpAny_setState_of ho hs.da hs.ft ?_)
  dsimp only
  refine wpAny_bind ?_
  unfold setsByText
  refine wpAny_bind (wpAny_askSetting (wpAny_pure ?_))
  have bt' : (model P w).w.params.followText "set-order" = true := bt
  rw [bt', if_pos rfl, if_neg (by simp)]
  refine wpAny_bind (setWalk_text bt ho hs (wpAny_pure ?_))
  rw [← Array.getElem?_toList]
  exact h
theorem next_plain {Q : Option (Value × Nat) → Shared → Prop} (bt : byText w = false) (ho : s.heap.get? S = some o) (hs : SetIn w o es ep t ks) (hd : (!t.plain && decide (es.size > 1)) = false) (hi : i ≤ es.size)
    (h : Q ((es.toList[i]?).map fun e => (e.2, slotAt t (i + 1))) s) : wpAny (model P w) A (setNext S (slotAt t i) i ep) Q E s := by
  have zs := fits_size hs.ft
  have r : Rise t.place.toList := by
    by_cases hp : t.plain = true
    · exact hs.tb.rise hp
    · refine rise_short ?_
      have : t.plain = false := by simpa using hp
      rw [this] at hd
      simp at hd
      rw [Array.length_toList, zs]; exact hd
  have ld : t.led = true := by rw [hs.tb.led, bt]; rfl
  unfold setNext
  refine wpAny_bind (wpAny_setState_of ho hs.da hs.ft ?_)
  dsimp only
  refine wpAny_bind ?_
  unfold setsByText
  refine wpAny_bind (wpAny_askSetting (wpAny_pure ?_))
  have bt' : (model P w).w.params.followText "set-order" = false := bt
  rw [bt', if_neg Bool.false_ne_true]
  show wpAny _ _ (if (!t.plain && decide (es.size > 1)) = true then _ else _) _ _ _
  rw [hd, if_neg Bool.false_ne_true]
  show wpAny _ _ ((if (!t.led && !es.isEmpty) = true then unsupported "set:maker-not-led" else pure ()) >>= fun _ => pure _) _ _ _
  rw [ld]
  refine wpAny_bind (wpAny_pure (wpAny_pure ?_))
  rw [slot_cut r (by omega)]
  by_cases hlt : i < es.size
  · have hp : i < t.place.size := by omega
    rw [Array.getElem?_eq_getElem hlt, Array.getElem?_eq_getElem hp]
    rw [Array.getElem?_toList, Array.getElem?_eq_getElem hlt] at h
    have e : slotAt t (i + 1) = t.place[i] + 1 := by
      show t.place.getD i 0 + 1 = _
      simp [hp]
    rw [e] at h
    exact h
  · rw [Array.getElem?_eq_none (by omega)]
    rw [Array.getElem?_toList, Array.getElem?_eq_none (by omega)] at h
    exact h
theorem iter_set {Q : Value → Shared → Prop} (hS : SetAt w S es ep t ks s.heap)
    (h : ∀ (I : Addr) (fp : List Addr) (vs : List Int) (St : Nat → Heap → Prop) (s' : Shared), vs.Perm ks → (∀ A' : Around, A'.handled = none → Walks P w A' I fp [I] es.size (Yld vs) St) → St 0 s'.heap → (∀ b ∈ fp, b < s'.heap.objs.size ∧ (b = S ∨ s.heap.objs.size ≤ b)) → s.heap.objs.size ≤ I →
      (∀ b o, s.heap.get? b = some o → s'.heap.get? b = some o) → s'.os = s.os → s'.gens = s.gens → Q (.ref I) s') : wpAny (model P w) A (pyIter (.ref S)) Q E s := by
  obtain ⟨o, ho, hs⟩ := id hS
  have hT : s.TypeIs (.ref S) "set" := ⟨o, ho, hs.ex.1⟩
  have hSl : S < s.heap.objs.size := Heap.lt_size ho
  refine wpAny_pyIter_slot hT F.slot_set_iter (wpAny_call_entry F.slot_set_iter hT entry_set_iter ?_ (F.args_set_iter_1 _))
  unfold Builtin.«frozenset.__iter__»
  refine wpAny_bind (wpAny_bind (wpAny_pure (wpAny_pure ?_)))
  unfold Builtin.Frozenset.sizeOf
  refine wpAny_bind (wpAny_bind (wpAny_setEntries_of ho hs.da hs.ft (wpAny_pure ?_)))
  refine wpAny_bind (wpAny_bind (wpAny_setState_of ho hs.da hs.ft ?_))
  dsimp only
  unfold setsByText
  refine wpAny_bind (wpAny_bind (wpAny_askSetting (wpAny_pure (wpAny_pure ?_))))
  show wpAny _ _ (if (!byText w && (!t.plain && decide (es.size > 1))) = true then (drawOrder es.size (List.range es.size) >>= fun l => newTuple (l.map fun (i : Nat) => rawInt i) >>= fun first => _) else (pure (rawInt 0) >>= fun first => _)) _ _ _
  cases bt : byText w with
  | true =>
    simp only [Bool.not_true, Bool.false_and, Bool.false_eq_true, if_false]
    refine wpAny_bind (wpAny_pure ?_)
    refine wpAny_bind (wpAny_setEpoch_of ho hs.da hs.ft ?_)
    refine wpAny_bind (wpAny_newObj_type (wpAny_pure ⟨_, rfl, "set_iterator", _, ⟨_, Heap.get?_push_size _ rfl, rfl⟩, slot_si_next.lookup, ?_⟩))
    obtain ⟨vs, hv, hp⟩ := Ents.perm (pick_perm (w.params.setOrder S ep) es) hs.en
    refine h s.heap.objs.size [s.heap.objs.size, S] vs (fun i h => IsSI h s.heap.objs.size (.int 0 0) i S es.size ep ∧ SetAt w S es ep t ks h) _ hp (fun A' hA' => walk_slots (f := fun _ => 0) hA' (Nat.ne_of_lt hSl) _ vs hv ?_ (fun i s' hi st A2 E2 R hR => ?_))
      ⟨Heap.get?_push_size _ rfl, hS.at fun o e => Heap.get?_push_of_some _ e⟩ (fun b hb => ?_) (Nat.le_refl _) (fun b o e => Heap.get?_push_of_some _ e) rfl rfl
    · have := (pick_perm (w.params.setOrder S ep) es).length_eq
      rw [this, Array.length_toList]
    · obtain ⟨o', ho', hs'⟩ := st
      exact next_text bt ho' hs' hR
    · rw [Heap.size_push]
      simp only [List.mem_cons, List.not_mem_nil, or_false] at hb
      rcases hb with e | e
      · rw [e]; exact ⟨Nat.lt_succ_self _, .inr (Nat.le_refl _)⟩
      · rw [e]; exact ⟨Nat.lt_succ_of_lt hSl, .inl rfl⟩
  | false =>
    simp only [Bool.not_false, Bool.true_and]
    cases hd : (!t.plain && decide (es.size > 1)) with
    | false =>
      simp only [Bool.false_eq_true, if_false]
      refine wpAny_bind (wpAny_pure ?_)
      refine wpAny_bind (wpAny_setEpoch_of ho hs.da hs.ft ?_)
      refine wpAny_bind (wpAny_newObj_type (wpAny_pure ⟨_, rfl, "set_iterator", _, ⟨_, Heap.get?_push_size _ rfl, rfl⟩, slot_si_next.lookup, ?_⟩))
      refine h s.heap.objs.size [s.heap.objs.size, S] ks (fun i h => IsSI h s.heap.objs.size (.int (slotAt t i) 0) i S es.size ep ∧ SetAt w S es ep t ks h) _ (.refl _) (fun A' hA' => walk_slots (f := slotAt t) hA' (Nat.ne_of_lt hSl) es.toList ks hs.en (by simp) (fun i s' hi st A2 E2 R hR => ?_))
        ⟨Heap.get?_push_size _ rfl, hS.at fun o e => Heap.get?_push_of_some _ e⟩ (fun b hb => ?_) (Nat.le_refl _) (fun b o e => Heap.get?_push_of_some _ e) rfl rfl
      · obtain ⟨o', ho', hs'⟩ := st
        exact next_plain bt ho' hs' hd hi hR
      · rw [Heap.size_push]
        simp only [List.mem_cons, List.not_mem_nil, or_false] at hb
        rcases hb with e | e
        · rw [e]; exact ⟨Nat.lt_succ_self _, .inr (Nat.le_refl _)⟩
        · rw [e]; exact ⟨Nat.lt_succ_of_lt hSl, .inl rfl⟩
    | true =>
      simp only [if_true]
      refine wpAny_bind (draw_order es.size (List.range es.size) s _ (by simp) fun ps d hp => ?_)
      have hlen : ps.length = es.size := by rw [hp.length_eq, List.length_range]
      have zb := hs.bound
      have eb : scanBound = 4096 := rfl
      refine wpAny_bind (wpAny_newTuple ?_ (by rw [List.length_map, hlen]; exact szl' (by omega)))
      refine wpAny_bind (wpAny_setEpoch_of (Heap.get?_push_of_some _ ho) hs.da hs.ft ?_)
      refine wpAny_bind (wpAny_newObj_type (wpAny_pure ⟨_, rfl, "set_iterator", _, ⟨_, Heap.get?_push_size _ rfl, rfl⟩, slot_si_next.lookup, ?_⟩))
      have hpl : ∀ p ∈ ps, p < es.size := fun p m => List.mem_range.mp (hp.mem_iff.mp m)
      have pe : (ps.filterMap (es[·]?)).Perm es.toList := by
        have := hp.filterMap (es[·]?)
        rw [filterMap_getElem?_range] at this
        exact this
      obtain ⟨vs, hv, hq⟩ := Ents.perm pe hs.en
      have sz1 : ∀ ob : Obj, (s.heap.push ob).objs.size = s.heap.objs.size + 1 := fun ob => Heap.size_push _ _
      have key := h (s.heap.objs.size + 1) [s.heap.objs.size + 1, S, s.heap.objs.size] vs (fun i h => IsSI h (s.heap.objs.size + 1) (.ref s.heap.objs.size) i S es.size ep ∧ SetAt w S es ep t ks h ∧ h.get? s.heap.objs.size = some { cls := .type "tuple", data := .seq (ps.map fun (p : Nat) => rawInt p).toArray })
        { s with heap := (s.heap.push { cls := .type "tuple", data := .seq (ps.map fun (p : Nat) => rawInt p).toArray }).push { cls := .type "set_iterator", data := .fields #[.ref s.heap.objs.size, .int 0 0, .ref S, .int es.size 0, .int ep 0] }, drawn := d } hq (fun A' hA' => walk_places (t := t) (ep := ep) (ks := ks) (T := s.heap.objs.size) hA' (Nat.ne_of_lt (Nat.lt_succ_of_lt hSl)) (Nat.ne_of_lt (Nat.lt_succ_self _)) ps vs hv hpl hlen)
        ⟨?it, hS.at fun o e => Heap.get?_push_of_some _ (Heap.get?_push_of_some _ e), Heap.get?_push_of_some _ (Heap.get?_push_size _ rfl)⟩ (fun b hb => ?fp) (Nat.le_succ _) (fun b o e => Heap.get?_push_of_some _ (Heap.get?_push_of_some _ e)) rfl rfl
      case it =>
        have := Heap.get?_push_size (s.heap.push { cls := .type "tuple", data := .seq (ps.map fun (p : Nat) => rawInt p).toArray }) (o := { cls := .type "set_iterator", data := .fields #[.ref s.heap.objs.size, .int 0 0, .ref S, .int es.size 0, .int ep 0] }) rfl
        rw [sz1] at this
        exact this
      case fp =>
        show b < ((s.heap.push _).push _).objs.size ∧ _
        rw [Heap.size_push, Heap.size_push]
        simp only [List.mem_cons, List.not_mem_nil, or_false] at hb
        rcases hb with e | e | e
        · rw [e]; exact ⟨Nat.lt_succ_self _, .inr (Nat.le_succ _)⟩
        · rw [e]; exact ⟨Nat.lt_succ_of_lt (Nat.lt_succ_of_lt hSl), .inl rfl⟩
        · rw [e]; exact ⟨Nat.lt_succ_of_lt (Nat.lt_succ_self _), .inr (Nat.le_refl _)⟩
      rw [← sz1 { cls := .type "tuple", data := .seq (ps.map fun (p : Nat) => rawInt p).toArray }] at key
      exact key
end
end L2
set_option Elab.async false
set_option linter.all false
set_option maxRecDepth 100000
namespace L2
open PySem PySem.Spec PyProof.Rows
section
variable {P : Program} {w : World} {A : Around} {E : Value → Shared → Prop} {s : Shared} {S : Addr} {ks ms : List Int} {o : Obj} {es : Array (Int × Value)} {ep i : Nat} {t : SetTable}
theorem hint_set {Q : Bool → Shared → Prop} (hT : s.TypeIs (.ref S) "set") (h : Q false s) : wpAny (model P w) A (Builtin.List.listLengthHint (.ref S)) Q E s := by
  unfold Builtin.List.listLengthHint
  refine wpAny_bind (wpAny_specialOf hT PySem.F.slot_set_len.lookup ?_)
  generalize hid : ("set.__len__" : String) = id0
  wp_delta
  rw [show splitId id0 = some ("set", "__len__") from by subst hid; decide +kernel]
  subst hid
  refine wpAny_bind (wpAny_isInstance (T := "set") (b := true) hT (by rw [isSubtype_type]; kernel_rfl) ?_)
  refine wpAny_ite_split (fun hab => absurd hab (by decide)) (fun _ => ?_)
  refine wpAny_ite_split (fun _ => ?_) (fun hab => absurd (by decide +kernel) hab)
  exact wpAny_bind (wpAny_typeOf hT (wpAny_pure h))
theorem items_ints {vs : List Int} {acc : Array Value} {n : Nat} (h : ItemsOf (Yld vs) acc n) (hn : vs.length = n) : IntsAre acc.toList vs := by
  have all : ∀ (l : List Value) (vs : List Int), l.length = vs.length → (∀ (j : Nat) v, l[j]? = some v → ∃ t, v = Value.int (vs.getD j 0) t) → IntsAre l vs := by
    intro l
    induction l with
    | nil =>
      intro vs hl _
      have : vs = [] := List.length_eq_zero_iff.mp (by simpa using hl.symm)
      subst this
      exact .nil
    | cons x r ih =>
      intro vs hl hv
      cases vs with
      | nil => simp at hl
      | cons v vs =>
        obtain ⟨t, e⟩ := hv 0 x rfl
        have e : x = Value.int v t := e
        subst e
        exact .cons v t (ih vs (by simpa using hl) fun j y hj => hv (j + 1) y (by simpa using hj))
  exact all acc.toList vs (by rw [Array.length_toList, h.1, hn]) fun j v hj => h.2 j v (by rw [← Array.getElem?_toList]; exact hj)
theorem collect_set {Q : List Value → Shared → Prop} (hh : A.handled = none) (hS : SetAt w S es ep t ks s.heap)
    (h : ∀ (vs : List Int) (l : List Value) (s' : Shared), vs.Perm ks → IntsAre l vs → (∀ b o, s.heap.get? b = some o → s'.heap.get? b = some o) → s'.os = s.os → s'.gens = s.gens → s.heap.objs.size ≤ s'.heap.objs.size → Q l s') : wpAny (model P w) A (collect (.ref S)) Q E s := by
  obtain ⟨o, ho, hs⟩ := id hS
  have hSl : S < s.heap.objs.size := Heap.lt_size ho
  have hne : s.heap.objs.size ≠ S := Nat.ne_of_gt hSl
  unfold collect
  refine wpAny_bind (wpAny_runValue (codeAny_builtin PySem.F.entry_proto_collect ?_))
  rw [Around.under_plainId PySem.F.plain_proto_collect _]
  show wpAny _ A.in1 (newList [] >>= fun l => again (.builtin "list.__iadd__" ⟨[l, .ref S], []⟩)) _ _ s
  refine wpAny_bind (wpAny_newObj_type ?_)
  refine wpAny_pure ⟨plainId_quiet PySem.F.plain_list_iadd _, codeAny_builtin PySem.F.entry_list_iadd ?_⟩
  rw [Around.under_plainId PySem.F.plain_list_iadd _]
  generalize hs1 : ({ s with heap := s.heap.push { cls := .type "list", data := .seq ([] : List Value).toArray } } : Shared) = s1
  have e1 : s1.heap = s.heap.push { cls := .type "list", data := .seq ([] : List Value).toArray } := by rw [← hs1]
  have k1 : ∀ b o, s.heap.get? b = some o → s1.heap.get? b = some o := fun b o e => by rw [e1]; exact Heap.get?_push_of_some _ e
  have hL1 : s1.heap.get? s.heap.objs.size = some { cls := .type "list", data := .seq ([] : List Value).toArray } := by rw [e1]; exact Heap.get?_push_size _ rfl
  have hS1 : SetAt w S es ep t ks s1.heap := hS.at (k1 S)
  have hT : ∀ s2 : Shared, (∀ b o, s1.heap.get? b = some o → s2.heap.get? b = some o) → s2.TypeIs (.ref S) "set" := fun s2 k => ⟨o, k _ _ (k1 _ _ ho), hs.ex.1⟩
  show wpAny _ A.in1 (Builtin.List.listExtendWith (.ref s.heap.objs.size) (.ref S) (.ref s.heap.objs.size)) _ _ _
  unfold Builtin.List.listExtendWith
  refine wpAny_bind (wpAny_typeOf (hT s1 fun _ _ e => e) ?_)
  have g1 : Builtin.List.listSameRef (.ref s.heap.objs.size) (.ref S) = false := by simp [Builtin.List.listSameRef, hne]
  have g2 : (Value.type "set" == Value.type "list") = false := by decide
  have g3 : (Value.type "set" == Value.type "tuple") = false := by decide
  simp only [g1, g2, g3, Bool.or_false, Bool.false_eq_true, if_false]
  refine wpAny_bind (iter_set hS1 fun I fp vs St s2 hp W st hfp hI k2 os2 gs2 => ?_)
  refine wpAny_bind (wpAny_holding (hint_set (hT s2 k2) ?_))
  show wpAny _ A.in1 (rule "list.extend.makes-room" >>= fun _ => Builtin.List.listTouch (.ref s.heap.objs.size) >>= fun _ =>
    again (.builtin "list.extend.loop" ⟨[.ref s.heap.objs.size, .ref I, .ref s.heap.objs.size], []⟩)) _ _ _
  refine wpAny_bind (wpAny_rule (wpAny_bind ?_))
  have hL2 := k2 _ _ hL1
  have lt1 : s.heap.objs.size < s1.heap.objs.size := by rw [e1, Heap.size_push]; exact Nat.lt_succ_self _
  show wpAny _ A.in1 (updateSeq s.heap.objs.size (·.push .none) >>= fun _ => updateSeq s.heap.objs.size (·.pop)) _ _ _
  refine wpAny_bind (wpAny_updateSeq hL2 rfl ?_)
  have hL3 := Heap.get?_update_self (Obj.mapSeq (·.push Value.none)) hL2 rfl
  refine wpAny_updateSeq hL3 rfl ?_
  have hL4 := Heap.get?_update_self (Obj.mapSeq (·.pop)) hL3 rfl
  have W1 := W A.in1 (show A.handled = none from hh)
  have hSf : s.heap.objs.size ∉ fp := fun m => by
    rcases (hfp _ m).2 with z | z
    · exact hne z
    · exact absurd lt1 (Nat.not_lt.mpr z)
  have zb := hs.bound
  have eb : scanBound = 4096 := rfl
  have oth : ∀ b o, b ≠ s.heap.objs.size → s2.heap.get? b = some o → ((s2.heap.update s.heap.objs.size (Obj.mapSeq (·.push Value.none))).update s.heap.objs.size (Obj.mapSeq (·.pop))).get? b = some o :=
    fun b o hb e => (Heap.get?_update_other _ _ (Ne.symm hb)).trans ((Heap.get?_update_other _ _ (Ne.symm hb)).trans e)
  refine wpAny_pure ⟨plainId_quiet PySem.F.plain_extend_loop _, codeAny_extend_loopS W1.toS (szl' (by omega)) _ hSf _ es.size 0 _ _ _ rfl (Nat.zero_le _) (W1.frame 0 _ _ st fun b hb o e => oth b o (fun z => hSf (z ▸ hb)) e) hL4 (ItemsOf.nil _) fun s3 acc c hm hL5 hacc => ?_⟩
  show wpAny _ A (load s.heap.objs.size >>= _) _ _ s3
  refine wpAny_bind (wpAny_load hL5 ?_)
  refine wpAny_pure (h vs acc.toList s3 hp (items_ints hacc (by rw [hp.length_eq, hs.size])) (fun b o e => ?_) ?_ ?_ (Nat.le_of_lt (Heap.lt_size hL5)))
  · have hb : b ≠ s.heap.objs.size := Nat.ne_of_lt (Heap.lt_size e)
    have e2 := k2 _ _ (k1 _ _ e)
    refine hm.heap b o (fun m => ?_) (oth b o hb e2)
    rcases List.mem_cons.mp m with z | z
    · exact hb z
    · have z : b = I := List.mem_singleton.mp z
      exact absurd (Heap.lt_size (k1 _ _ e)) (by rw [z]; exact Nat.not_lt.mpr hI)
  · have e2 : s3.os = s2.os := hm.os
    rw [e2, os2, ← hs1]
  · have e2 : s3.gens = s2.gens := hm.gens
    rw [e2, gs2, ← hs1]
end
end L2
set_option Elab.async false
set_option linter.all false
set_option maxRecDepth 100000
namespace L2
open PySem PySem.Spec PyProof.Rows
section
variable {P : Program} {w : World} {A : Around} {E : Value → Shared → Prop} {s : Shared} {S : Addr} {ks ms : List Int} {o : Obj} {es : Array (Int × Value)} {ep i : Nat} {t : SetTable}
theorem sorted_of_set {Q : Value → Shared → Prop} (hh : A.handled = none) (hS : SetAt w S es ep t ks s.heap) (h64 : ks.length < 64)
    (h : ∀ (L : Addr) (out : Array Value) (ns : List Int) (e : Nat) (s' : Shared), IntsAre out.toList ns → ns.Perm ks → ns.Pairwise (· ≤ ·) → s'.heap.get? L = some (seqObj "list" out e) → s.heap.objs.size ≤ L → (∀ b o, s.heap.get? b = some o → s'.heap.get? b = some o) → s'.os = s.os → s'.gens = s.gens → Q (.ref L) s') :
    wpAny (model P w) A (call (.builtin "sorted") [.ref S]) Q E s := by
  refine Calls.call_function_entry kind_sorted plain_sorted entry_sorted (args_sorted1 _) ?_
  unfold Builtin.«sorted»
  refine wpAny_bind (m := checkCount "sorted" 1 1 _) (wpAny_pure ?_)
  refine wpAny_bind (collect_set (show A.in1.handled = none from hh) hS fun vs l s1 hp hI k1 os1 gs1 le1 => ?_)
  have hl : l.length = vs.length := IntsAre.length hI
  have hv : vs.length = ks.length := hp.length_eq
  refine wpAny_bind (wpAny_newList ?_ (szl' (by omega)))
  have hoL : (s1.heap.push (seqObj "list" l.toArray 0)).get? s1.heap.objs.size = some (seqObj "list" l.toArray 0) := Heap.get?_push_size _ rfl
  refine wpAny_bind (wpAny_holding (wpAny_call_entry slot_list_sort ⟨_, hoL, rfl⟩ entry_list_sort (list_sort_tree (ns := vs) hoL hI (by omega) fun out ns' a1 a2 a3 => ⟨_, rfl, ?_⟩) (args_list_sort _)))
  refine wpAny_pure ⟨_, rfl, ?_⟩
  obtain ⟨e, he⟩ := sortedHeap_at (out := out) hoL
  have kp : ∀ b o, s.heap.get? b = some o → (sortedHeap (s1.heap.push (seqObj "list" l.toArray 0)) s1.heap.objs.size l out).get? b = some o := fun b o eb => by
    have e1 := k1 b o eb
    have lt := Heap.lt_size e1
    rw [sortedHeap_old (Nat.ne_of_lt lt) (by rw [Heap.size_push]; exact Nat.lt_succ_of_lt lt)]
    exact Heap.get?_push_of_some _ e1
  exact h s1.heap.objs.size out ns' e { s1 with heap := sortedHeap (s1.heap.push (seqObj "list" l.toArray 0)) s1.heap.objs.size l out } a1 (a2.trans hp) a3 he le1 kp os1 gs1
theorem len_of_set {Q : Value → Shared → Prop} (hS : SetAt w S es ep t ks s.heap) (h : ∀ tk n, Q (.int ks.length tk) { s with toks := n }) : wpAny (model P w) A (call (.builtin "len") [.ref S]) Q E s := by
  obtain ⟨o, ho, hs⟩ := hS
  have zb := hs.bound
  have eb : scanBound = 4096 := rfl
  have e := hs.size
  refine call_len_set ho hs.ex hs.da hs.ft (by omega) ?_
  rw [e]
  exact h _ _
noncomputable def dstep (acc : List Int) (x : Int) : List Int := if x ∈ acc then acc else acc ++ [x]
noncomputable def dd (ns : List Int) : List Int := ns.foldl dstep []
theorem dd_snoc (ns : List Int) (x : Int) : dd (ns ++ [x]) = dstep (dd ns) x := by unfold dd; rw [List.foldl_append]; rfl
theorem dstep_mem {acc : List Int} {x y : Int} : y ∈ dstep acc x ↔ y ∈ acc ∨ y = x := by
  unfold dstep
  split
  · rename_i h
    exact ⟨.inl, fun z => z.elim id fun e => e ▸ h⟩
  · simp
theorem fold_mem : ∀ (ns acc : List Int) (y : Int), y ∈ ns.foldl dstep acc ↔ y ∈ acc ∨ y ∈ ns
  | [], acc, y => by simp
  | x :: r, acc, y => by
    rw [List.foldl_cons, fold_mem r, dstep_mem, List.mem_cons, or_assoc]
theorem dd_mem {ns : List Int} {y : Int} : y ∈ dd ns ↔ y ∈ ns := by unfold dd; rw [fold_mem]; simp
theorem fold_nd : ∀ (ns acc : List Int), acc.Nodup → (ns.foldl dstep acc).Nodup
  | [], acc, h => h
  | x :: r, acc, h => by
    rw [List.foldl_cons]
    refine fold_nd r _ ?_
    unfold dstep
    split
    · exact h
    · rename_i hx; exact nd_snoc h hx
theorem dd_nd (ns : List Int) : (dd ns).Nodup := fold_nd ns [] List.nodup_nil
theorem dd_len (ns : List Int) : (dd ns).length ≤ ns.length := (dd_nd ns).length_le_of_subset fun _ h => dd_mem.mp h
theorem SX_add {x : Int} {tk : Tok} {Q : Bool → Shared → Prop} (hS : SX w S ms s.heap) (hl : ms.length + 1 < 4000)
    (h : ∀ b h', Heap.SameBut S s.heap h' → SX w S (dstep ms x) h' → Q b { s with heap := h' }) : wpAny (model P w) A (setAddHashed S (.int x tk) (hashInt x)) Q E s := by
  obtain ⟨o, es, ep, t, ks, ho, hs, hp⟩ := hS
  refine add_SX ho hs (by rw [hp.length_eq]; exact hl) (fun hx => ?_) fun hx h' sb sx => ?_
  · have e : dstep ms x = ms := if_pos (hp.mem_iff.mp hx)
    have := h false s.heap (Heap.SameBut.refl _ _) (by rw [e]; exact ⟨o, es, ep, t, ks, ho, hs, hp⟩)
    exact this
  · have e : dstep ms x = ms ++ [x] := if_neg fun z => hx (hp.mem_iff.mpr z)
    exact h true h' sb (by rw [e]; exact sx.perm (hp.append_right _))
theorem upd_loop {I l : Addr} {items : Array Value} {ns : List Int} {R : Result → Shared → Prop} (hh : A.handled = none) (hne : l ≠ I) (hSI : S ≠ I) (hSl : S ≠ l) (hi : IntsAre items.toList ns) (hb : ns.length + 1 < 4000) :
    ∀ (k i : Nat) (s : Shared), items.size - i = k → i ≤ items.size → s.heap.IsListIter I l i → s.heap.IsList l items → SX w S (dd (ns.take i)) s.heap →
      (∀ s', (∀ b o, b ≠ S → b ≠ I → s.heap.get? b = some o → s'.heap.get? b = some o) → s'.os = s.os → s'.gens = s.gens → s'.drawn = s.drawn → SX w S (dd ns) s'.heap → R (.ok (.ret .none)) s') →
      codeAny (model P w) A (.builtin "set.update.loop" ⟨[.ref S, .ref I], []⟩) R s := by
  have hsz : items.size = ns.length := by rw [← Array.length_toList]; exact IntsAre.length hi
  intro k
  induction k with
  | zero =>
    intro i s hk hil it hl hS hR
    have e : i = items.size := by omega
    subst e
    refine codeAny_builtin PyProof.Rows.F.entry_set_update_loop ?_
    rw [Around.under_plainId PyProof.Rows.F.plain_set_update_loop _]
    show wpAny _ A.in1 (pyNext (.ref I) >>= _) _ _ s
    refine wpAny_bind (wpAny_pyNext_list_end (show A.in1.handled = none from hh) it hl (by simp) fun h' eb => ?_)
    show wpAny _ A.in1 (ret Value.none) _ _ _
    refine wpAny_pure (hR _ (fun b o _ hb e => eb b o hb e) rfl rfl rfl ?_)
    rw [List.take_of_length_le (by omega)] at hS
    exact hS.at fun o e => eb S o hSI e
  | succ k ih =>
    intro i s hk hil it hl hS hR
    have hlt : i < items.size := by omega
    have hin : i < ns.length := by omega
    obtain ⟨tk, hv⟩ := IntsAre.int_at hi i items[i] (by simp [hlt])
    have egd : ns.getD i 0 = ns[i] := by simp [hin]
    rw [egd] at hv
    refine codeAny_builtin PyProof.Rows.F.entry_set_update_loop ?_
    rw [Around.under_plainId PyProof.Rows.F.plain_set_update_loop _]
    show wpAny _ A.in1 (pyNext (.ref I) >>= _) _ _ s
    refine wpAny_bind (wpAny_pyNext_list_item it hl (x := items[i]) (by simp [hlt]) fun h1 it1 sb1 => ?_)
    rw [hv]
    show wpAny _ A.in1 (holding [Value.int ns[i] tk] (setAdd S (.int ns[i] tk)) >>= _) _ _ _
    refine wpAny_bind (wpAny_holding ?_)
    unfold setAdd
    refine wpAny_holding (wpAny_bind ((intKind P w).pyHash (k := ns[i]) (intKind_is _ _ _ _) ?_))
    have hS1 : SX w S (dd (ns.take i)) h1 := hS.at fun o e => (sb1.2 S hSI).trans e
    have dl := dd_len (ns.take i)
    rw [List.length_take] at dl
    refine SX_add (s := { s with heap := h1, toks := s.toks + 1 }) hS1 (by omega) fun b h2 sb2 sx => ?_
    have e2 : dstep (dd (ns.take i)) ns[i] = dd (ns.take (i + 1)) := by rw [List.take_succ_eq_append_getElem hin, dd_snoc]
    rw [e2] at sx
    have hl1 : h1.IsList l items := by obtain ⟨o, e, r⟩ := hl; exact ⟨o, (sb1.2 l hne).trans e, r⟩
    refine wpAny_pure ⟨plainId_quiet PyProof.Rows.F.plain_set_update_loop _, ih (i + 1) _ (by omega) hlt ?_ ?_ sx fun s' kp os' gs' ds' sx' => ?_⟩
    · obtain ⟨o, e, r⟩ := it1
      exact ⟨o, (sb2.2 I hSI.symm).trans e, r⟩
    · obtain ⟨o, e, r⟩ := hl1
      exact ⟨o, (sb2.2 l hSl.symm).trans e, r⟩
    · exact hR s' (fun b o h1' h2' e => kp b o h1' h2' ((sb2.2 b h1').trans ((sb1.2 b h2').trans e))) os' gs' ds' sx'
end
end L2
set_option Elab.async false
set_option linter.all false
set_option maxRecDepth 100000
set_option maxHeartbeats 3000000
namespace L2
open PySem PySem.Spec PyProof.Rows
section
variable {P : Program} {w : World} {A : Around} {E : Value → Shared → Prop} {s : Shared} {S : Addr} {ks ms : List Int}
noncomputable def newSetObj (w : World) : Obj := { cls := .type "set", dict := none, data := .set #[] 0 (.fresh 0 0 (!byText w)) }
theorem newSet_SX {h : Heap} {a : Addr} (e : h.get? a = some (newSetObj w)) : SX w a [] h :=
  ⟨_, #[], 0, _, [], e, ⟨⟨rfl, rfl, rfl⟩, rfl, .nil, List.nodup_nil, by decide, rfl, ⟨rfl, fun _ => .nil⟩⟩, .refl _⟩
theorem set_new (a : Value) {Q : Value → Shared → Prop} (h : Q (.ref s.heap.objs.size) { s with heap := s.heap.push (newSetObj w) }) :
    codeAny (model P w) A (.call (.builtin "set.__new__") ⟨[.type "set", a], []⟩) (wants Q E) s := by
  refine codeAny_of_tree ?_
  show wpAny _ A.in1 (do checkBuiltinCall "set.__new__" ⟨[.type "set", a], []⟩; again (.builtin "set.__new__" ⟨[.type "set", a], []⟩)) _ _ s
  refine wpAny_bind (wpAny_of_eq (PySem.F.newCall_set_1 a) (wpAny_pure ⟨plainId_quiet PySem.F.plain_set_new _, codeAny_builtin PySem.F.entry_set_new ?_⟩))
  rw [Around.under_plainId PySem.F.plain_set_new _]
  unfold Builtin.«set.__new__» Builtin.Frozenset.newClass
  have hsub := sub_set_self
  obtain ⟨hp, g, d, tk, os⟩ := s
  dsimp only
  wp_walk
  refine wpAny_askSetting (wpAny_pure ?_)
  dsimp only
  simp only [newObj]
  exact wpAny_bind (wpAny_alloc (wpAny_pure (wpAny_pure h)))
theorem set_init {l : Addr} {items : Array Value} {ns : List Int} {R : Result → Shared → Prop} (hh : A.handled = none) (ho : s.heap.get? S = some (newSetObj w)) (hl : s.heap.IsList l items) (hne : S ≠ l) (hi : IntsAre items.toList ns) (hb : ns.length + 1 < 4000)
    (hR : ∀ s', (∀ b o, b ≠ S → s.heap.get? b = some o → s'.heap.get? b = some o) → s'.os = s.os → s'.gens = s.gens → SX w S (dd ns) s'.heap → R (.ok (.ret .none)) s') :
    wpAny (model P w) A.in1 (Builtin.«set.__init__» ⟨[.ref S, .ref l], []⟩)
      (fun fin s' => match fin with | .done f => R (.ok f) s' | .again c' => c'.quiet = true ∧ codeAny (model P w) A c' R s') (fun e s' => R (.error e) s') s := by
  obtain ⟨ol, hol, hcl, nl, hdl⟩ := id hl
  have hT : s.TypeIs (.ref S) "set" := ⟨_, ho, rfl⟩
  have hTl : s.TypeIs (.ref l) "list" := ⟨_, hol, hcl⟩
  have q1 := PySem.F.sub_list_set
  have q2 := PySem.F.sub_list_frozenset
  unfold Builtin.«set.__init__» noKeywords
  generalize hPI : Builtin.Frozenset.updateFrom = UF
  obtain ⟨hp, g, d, tk, os⟩ := s
  unfold newSetObj at ho
  wp_walk
  subst hPI
  unfold Builtin.Frozenset.updateFrom Builtin.Frozenset.isAnySet
  refine wpAny_bind ?_
  show wpAny _ _ (isInstance (.ref l) (.type "set") >>= fun b => _) _ _ _
  refine wpAny_bind (wpAny_isInstance hTl q1 ?_)
  show wpAny _ _ (isInstance (.ref l) (.type "frozenset")) _ _ _
  refine wpAny_isInstance hTl q2 ?_
  rw [if_neg Bool.false_ne_true]
  refine wpAny_bind (wpAny_typeOf hTl ?_)
  rw [if_neg (by decide)]
  refine wpAny_bind (wpAny_pyIter_list hl ?_)
  refine wpAny_bind (wpAny_runValue ?_)
  have hSh : S < hp.objs.size := Heap.lt_size ho
  have hlh : l < hp.objs.size := Heap.lt_size hol
  refine upd_loop (show A.in1.handled = none from hh) (Nat.ne_of_lt hlh) (Nat.ne_of_lt hSh) hne hi hb (items.size - 0) 0 _ rfl (Nat.zero_le _) ⟨_, Heap.get?_push_size _ rfl, rfl, rfl⟩ ?_ ?_ fun s' kp os' gs' ds' sx => ?_
  · exact ⟨ol, Heap.get?_push_of_some _ hol, hcl, nl, hdl⟩
  · rw [List.take_zero]
    exact newSet_SX (Heap.get?_push_of_some _ ho)
  · refine wpAny_pure (wpAny_pure (hR s' (fun b o hbS e => kp b o hbS (Nat.ne_of_lt (Heap.lt_size e)) (Heap.get?_push_of_some _ e)) os' gs' sx))
theorem set_of_list {l : Addr} {items : Array Value} {ns : List Int} {Q : Value → Shared → Prop} (hh : A.handled = none) (hl : s.heap.IsList l items) (hi : IntsAre items.toList ns) (hb : ns.length + 1 < 4000)
    (h : ∀ s', SX w s.heap.objs.size (dd ns) s'.heap → (∀ b o, s.heap.get? b = some o → s'.heap.get? b = some o) → s'.os = s.os → s'.gens = s.gens → Q (.ref s.heap.objs.size) s') : wpAny (model P w) A (call (.type "set") [.ref l]) Q E s := by
  obtain ⟨c, tl, hmro⟩ := PySem.F.called_set.mro
  have hmade := PySem.F.called_set.made
  have hsub := PySem.F.called_set.sub
  have n1 := PySem.F.called_set.notType
  have n2 := PySem.F.called_set.canCreate
  have hct := PySem.F.typeCall_set_1 (.ref l)
  refine wpAny_call (codeAny_of_tree ?_)
  show wpAny _ _ (callAny (.type "set") _) _ _ _
  refine wpAny_pure ⟨Code.quiet_builtin _ (by decide +kernel), codeAny_builtin PySem.F.entry_type_call ?_⟩
  rw [Around.under_plain (weight_type_call_type "set" [.ref l] []) rfl]
  repeat (any_goals (first | assumption | wp_step))
  refine codeAny_mono (set_new (E := E) (Q := fun v s1 => v = .ref s.heap.objs.size ∧ s1 = { s with heap := s.heap.push (newSetObj w) }) (.ref l) ⟨rfl, rfl⟩) fun r s1 hr => ?_
  cases r with
  | error e => exact hr
  | ok fl =>
    cases fl with
    | ret v =>
      obtain ⟨e1, e2⟩ := hr
      subst e1 e2
      have hS : (s.heap.push (newSetObj w)).get? s.heap.objs.size = some (newSetObj w) := Heap.get?_push_size _ rfl
      have hT : Shared.TypeIs { s with heap := s.heap.push (newSetObj w) } (.ref s.heap.objs.size) "set" := ⟨_, hS, rfl⟩
      have hlu := PySem.F.called_set.init.lookup
      have hbd := PySem.F.called_set.init.bind (.ref s.heap.objs.size)
      repeat (any_goals (first | assumption | wp_step))
      refine codeAny_mono (codeAny_call_builtin (R := wants (fun r s2 => r = .none ∧ Q (.ref s.heap.objs.size) s2) E) PySem.F.called_set.init.plain PySem.F.entry_set_init (check_set_init_1 hT ?_)) fun r2 s2 hr2 => ?_
      · obtain ⟨ol, hol, hcl⟩ := id hl
        refine set_init (A := A.in1) (show A.in1.handled = none from hh) hS ⟨ol, Heap.get?_push_of_some _ hol, hcl⟩ (Nat.ne_of_gt (Heap.lt_size hol)) hi hb fun s' kp os' gs' sx => ⟨rfl, h s' sx (fun b o e => kp b o (Nat.ne_of_lt (Heap.lt_size e)) (Heap.get?_push_of_some _ e)) os' gs'⟩
      · cases r2 with
        | error e => exact hr2
        | ok fl2 =>
          cases fl2 with
          | ret v2 =>
            obtain ⟨e1, hq⟩ := hr2
            subst e1
            repeat (any_goals (first | assumption | wp_step))
          | _ => exact hr2.elim
    | _ => exact hr.elim
end
end L2
set_option Elab.async false
set_option linter.all false
set_option maxRecDepth 100000
namespace L2
open PySem PySem.Spec PyProof.Rows
theorem SX.ok {P : Program} {w : World} {H : Hp} {h : Heap} {a : Addr} {ms : List Int} (x : SX w a ms h) : ObjOk P w H h a (.ext (SX w a ms)) :=
  ⟨x, by obtain ⟨o, _, _, _, _, e, _⟩ := x; exact ⟨o, e⟩, fun _ _ y k => y.at k⟩
section
variable {X : Cx}
theorem Inv.new' {pins : List (Addr × Obj)} {σ : L2.St} {H : Hp} {s s' : Shared} {a : Addr} {o : HO} (I : Inv X pins σ H s) (k : ∀ b u, s.heap.get? b = some u → s'.heap.get? b = some u) (hp : s.heap.objs.size ≤ a) (hos : s'.os = s.os) (hgs : s'.gens = s.gens)
    (new : ObjOk X.prog X.w (upd H a o) s'.heap a o) : Inv X pins σ (upd H a o) s' :=
  I.call' (ch := []) hos (Un.laid k hp (I.hok.fresh hp)) (I.hok.laid k hp new) (by rw [hgs]; exact I.bare) fun b hb => by cases hb
theorem SX_at {w : World} {a : Addr} {ms : List Int} {h : Heap} (x : SX w a ms h) : ∃ es ep t ks, SetAt w a es ep t ks h ∧ ks.Perm ms := by
  obtain ⟨o, es, ep, t, ks, e, r, p⟩ := x
  exact ⟨es, ep, t, ks, ⟨o, e, r⟩, p⟩
theorem cSet (w : World) (K : PySem.W.Frag) (hc : X.calm = true := by rfl) (hw : X.w = w := by rfl) (hK : X.K = K := by rfl) : CallR X (.type "set") (fun xs H Q => ∃ p ns, xs = [.ref p] ∧ SqL K H p (ns.map V.int) ∧ ns.length < 3000 ∧
    ∀ a, H a = none → Q (.ref a) (upd H a (.ext (SX w a (dd ns))))) := by
  subst hw hK
  intro pins s σ H xs us Q I r h
  obtain ⟨p, ns, e, hq, hl, q⟩ := h
  subst e
  obtain ⟨u, e, rx⟩ := vals1 r
  subst e
  cases rx
  obtain ⟨its, rv, pl, hz⟩ := I.list hq
  refine set_of_list (ns := ns) (I.ok.hd hc) pl.isList (by simpa using intsAre_of rv) (by omega) fun s' sx kp os' gs' => ?_
  exact ⟨.ref s.heap.objs.size, _, I.new' kp (Nat.le_refl _) os' gs' sx.ok, rfl, q _ I.fresh⟩
theorem cSortedS (w : World) (hc : X.calm = true := by rfl) (hw : X.w = w := by rfl) : CallR X (.builtin "sorted") (fun xs H Q => ∃ p ms, xs = [.ref p] ∧ H p = some (.ext (SX w p ms)) ∧ ms.length < 64 ∧
    ∀ l (ks : List Int), H l = none → ks.Perm ms → ks.Pairwise (· ≤ ·) → Q (.ref l) (upd H l (.lst (ks.map V.int)))) := by
  subst hw
  intro pins s σ H xs us Q I r h
  obtain ⟨p, ms, e, hp, hl, q⟩ := h
  subst e
  obtain ⟨u, e, rx⟩ := vals1 r
  subst e
  cases rx
  obtain ⟨sx, _⟩ := (show ObjOk X.prog X.w H s.heap p (.ext (SX X.w p ms)) from I.hok p _ hp)
  obtain ⟨es, ep, t, ks, sa, pm⟩ := SX_at sx
  refine sorted_of_set (I.ok.hd hc) sa (by rw [pm.length_eq]; exact hl) fun L out ns e s' hI hpm hs he le kp os' gs' => ?_
  refine ⟨.ref L, _, I.new' kp le os' gs' (show ObjOk X.prog X.w _ _ _ (.lst (ns.map V.int)) from ⟨?_, out.toList, e, vals_ints hI, ?_⟩), rfl, q _ ns (I.hok.fresh le) (hpm.trans pm) hs⟩
  · rw [List.length_map, hpm.length_eq, pm.length_eq]; exact szl (by omega)
  · simpa [seqObj] using he
theorem cLenS (w : World) (hw : X.w = w := by rfl) : CallR X (.builtin "len") (fun xs H Q => ∃ p ms, xs = [.ref p] ∧ H p = some (.ext (SX w p ms)) ∧ Q (.int ms.length) H) := by
  subst hw
  intro pins s σ H xs us Q I r h
  obtain ⟨p, ms, e, hp, q⟩ := h
  subst e
  obtain ⟨u, e, rx⟩ := vals1 r
  subst e
  cases rx
  obtain ⟨sx, _⟩ := (show ObjOk X.prog X.w H s.heap p (.ext (SX X.w p ms)) from I.hok p _ hp)
  obtain ⟨es, ep, t, ks, sa, pm⟩ := SX_at sx
  refine len_of_set sa fun tk n => ⟨.int ms.length, H, I.tok n, ⟨tk, ?_⟩, q⟩
  rw [pm.length_eq]
noncomputable def rInsert : V → List V → Hp → VK → Prop := fun x vs H Q => ∃ l xs i y, x = .ref l ∧ vs = [.int i, y] ∧ H l = some (.lst xs) ∧ xs.length < sizeLine ∧ 0 ≤ i ∧ i < 1000000 ∧ Q .non (upd H l (.lst (xs.take i.toNat ++ y :: xs.drop i.toNat)))
theorem insert_arr (its : List Value) (i : Int) (u : Value) (h0 : 0 ≤ i) : (have k := if i < 0 then (i + (its.toArray.size : Int)).toNat else min i.toNat its.toArray.size; (its.toArray.extract 0 k).push u ++ its.toArray.extract k) = (its.take i.toNat ++ u :: its.drop i.toNat).toArray := by
  dsimp only
  rw [if_neg (by omega), List.size_toArray]
  by_cases hkl : i.toNat ≤ its.length
  · rw [Nat.min_eq_left hkl]
    simp
    exact List.take_of_length_le (by simp)
  · rw [Nat.min_eq_right (by omega), List.take_of_length_le (by omega), List.drop_of_length_le (by omega)]
    simp
theorem mt_insert : MtM X "list.insert" rInsert := by
  intro pins s σ H x vs v us Q I rx rv h
  obtain ⟨l, xs, i, y, rfl, rfl, hH, hz, h0, h1, q⟩ := h
  cases rx
  obtain ⟨u, u', rfl, ru, ry⟩ := rv.two
  obtain ⟨t, rfl⟩ := ru
  obtain ⟨z, its, n, r, hl, e⟩ := I.lstM hH
  have hfit : ¬ (!Builtin.List.listFitsIndex i) = true := by
    have : Builtin.List.listFitsIndex i = true := fitsIndex_both (by omega) (by omega)
    rw [this]; simp
  refine call_meets PySem.F.slot_list_insert ⟨_, e, rfl⟩ PySem.F.entry_list_insert (PySem.F.args_list_insert_3 _ _ _) (AutoSeq1.list_insert_list_int_val_1 l its.toArray n i t u' hfit (by rw [List.size_toArray]; omega)) ⟨e, ?_⟩
  refine ⟨.non, _, I.lset (its' := its.take i.toNat ++ u' :: its.drop i.toNat) hH e (insert_arr its i u' h0) ((r.take _).append (.cons ry (r.drop _))) ?_, rfl, q⟩
  rw [List.length_append, List.length_cons, List.length_take, List.length_drop]; omega
end
end L2
set_option Elab.async false
set_option linter.all false
set_option maxRecDepth 100000
namespace L2
theorem Short.lt {ps : List (List Int)} {qs : List Nat} (s : Short ps qs) : ∀ q ∈ qs, q < ps.length := fun q m => by
  obtain ⟨X, hX, hq⟩ := s.few
  obtain ⟨p, e, _⟩ := hq q m
  exact (List.getElem?_eq_some_iff.mp e).1
theorem Short.len {ps : List (List Int)} {qs : List Nat} (s : Short ps qs) : qs.length ≤ ps.length := by
  have nd : qs.Nodup := s.up.imp fun h => Nat.ne_of_lt h
  have := nd.length_le_of_subset (l₂ := List.range ps.length) fun q m => List.mem_range.mpr (s.lt q m)
  rw [List.length_range] at this
  exact this
noncomputable def srt (l : List Int) : List Int := l.mergeSort fun a b => decide (a ≤ b)
end L2
set_option Elab.async false
set_option linter.all false
set_option maxRecDepth 100000
namespace L2
open PySem PySem.Spec PyProof.Rows
section
variable {X : Cx} {tg : Expr}
end
end L2
set_option Elab.async false
set_option linter.all false
set_option maxRecDepth 100000
namespace L2
open PySem PySem.Spec PyProof.Rows
section
variable {X : Cx} {pos : Pos}
noncomputable def gTupL (K : PySem.W.Frag) (n : Nat) (t : TGs) : TG := fun v σ H Q => ∃ a xs, v = .ref a ∧ SqL K H a xs ∧ xs.length = n ∧ t xs σ H Q
theorem pgTL {es : List Expr} {k : Nat} {t : TGs} {n : Nat} (K : PySem.W.Frag) (hc : X.calm = true) (hg : PGs X es t) (h : X.K = K := by rfl) (hn : (assignEach es X.env).length = n := by rfl) (hst : (assignEach es X.env).findIdx? (·.1) = none := by rfl) : PG X (.Tuple es k pos) (gTupL K n t) := by
  subst h
  intro pins s σ H v u Q I r hw
  obtain ⟨a, xs, e1, hq, hl, hw⟩ := hw
  subst e1
  cases r
  obtain ⟨its, rv, ht, hz⟩ := I.list hq
  rw [assign_Tuple]
  refine wpAny_bind (wpAny_standAt ?_)
  unfold unpack
  have en : (assignEach es X.env).length = its.toArray.size := by simp [hn, ← hl, rv.length]
  rw [en, hst]
  refine wpAny_bind (wpAny_holding (PySem.W.kun_itemsOf (I.ok.hd hc) ht.isList fun h' hx => ?_))
  have I1 : Inv X pins σ H { s with heap := h' } := I.kept (t' := s.toks) fun b o e => hx b o (Nat.ne_of_lt (Heap.lt_size e)) e
  exact hg pins _ σ H xs _ Q I1 (by simpa using rv) hw
end
noncomputable def thin (g : Int) (ps : List (List Int)) : List (List Int) := ps.map fun p => p.filter fun b => decide (b ≠ g)
theorem thin_len {g : Int} {ps : List (List Int)} : (thin g ps).length = ps.length := by unfold thin; rw [List.length_map]
theorem thin_mem {g : Int} {ps : List (List Int)} {k : Nat} (h : k < (thin g ps).length) {b : Int} : b ∈ (thin g ps)[k] ↔ b ∈ ps.getD k [] ∧ b ≠ g := by
  have h' : k < ps.length := by rw [thin_len] at h; exact h
  have : ps.getD k [] = ps[k] := by simp [h']
  have e : (thin g ps)[k] = ps[k].filter fun b => decide (b ≠ g) := by
    have := List.getElem_map (fun p : List Int => p.filter fun b => decide (b ≠ g)) (l := ps) (i := k) (h := by rw [List.length_map]; exact h')
    exact this
  rw [e, List.mem_filter, this]
  simp
structure Off (ps : List (List Int)) (own : List Int) (g : Int) (met : List Nat) (q : Nat) (hs : List Int) : Prop where
  len : hs.length = ps.length
  of : ∀ k, k < ps.length → k ≠ q → hs.getD k 0 ∈ ps.getD k [] ∧ hs.getD k 0 ≠ g ∧ hs.getD k 0 ∈ own
  ne : ∀ j k, j < ps.length → k < ps.length → j ≠ q → k ≠ q → j ≠ k → hs.getD j 0 ≠ hs.getD k 0
  keep : ∀ k, k < ps.length → k ∉ met → hs.getD k 0 = own.getD k 0
theorem getD_set_self {hs : List Int} {q : Nat} {b : Int} (h : q < hs.length) : (hs.set q b).getD q 0 = b := by
  rw [List.getD_eq_getElem?_getD, List.getElem?_set_self h]; rfl
theorem getD_set_ne {hs : List Int} {q k : Nat} {b : Int} (h : k ≠ q) : (hs.set q b).getD k 0 = hs.getD k 0 := by
  rw [List.getD_eq_getElem?_getD, List.getElem?_set_ne (Ne.symm h), ← List.getD_eq_getElem?_getD]
theorem getD_get {hs : List Int} {k : Nat} (h : k < hs.length) : hs.getD k 0 = hs[k] := by simp [h]
theorem getD_getL {hs : List (List Int)} {k : Nat} (h : k < hs.length) : hs.getD k [] = hs[k] := by simp [h]
structure Frr (ps : List (List Int)) (own : List Int) (g : Int) (st : Nat) (met : List Nat) : Prop where
  nd : met.Nodup
  lt : ∀ q ∈ met, q < ps.length
  st : st ∈ met
  off : ∀ q ∈ met, ∃ hs, Off ps own g met q hs
theorem Frr.free {ps : List (List Int)} {own : List Int} {g b : Int} {st q : Nat} {met : List Nat} (F : Frr ps own g st met) (hq : q ∈ met) (hb : b ∈ ps.getD q []) (hg : b ≠ g) (hn : b ∉ own) : ∃ hs, Deal (thin g ps) hs := by
  obtain ⟨hs, o⟩ := F.off q hq
  have hql : q < hs.length := by rw [o.len]; exact F.lt q hq
  refine ⟨hs.set q b, by rw [List.length_set, thin_len]; exact o.len, fun k h1 h2 => ?_, ?_⟩
  · have hk : k < ps.length := by rw [thin_len] at h2; exact h2
    rw [thin_mem, ← getD_get h1]
    by_cases z : k = q
    · subst z; rw [getD_set_self hql]; exact ⟨hb, hg⟩
    · rw [getD_set_ne z]; exact ⟨(o.of k hk z).1, (o.of k hk z).2.1⟩
  · rw [List.nodup_iff_pairwise_ne, List.pairwise_iff_getElem]
    intro j k hj hk hjk e
    rw [← getD_get hj, ← getD_get hk] at e
    rw [List.length_set, o.len] at hj hk
    by_cases z : j = q
    · subst z
      have y : k ≠ j := by omega
      rw [getD_set_self hql, getD_set_ne y] at e
      exact hn (by rw [e]; exact (o.of k hk y).2.2)
    · rw [getD_set_ne z] at e
      by_cases y : k = q
      · subst y
        rw [getD_set_self hql] at e
        exact hn (by rw [← e]; exact (o.of j hj z).2.2)
      · rw [getD_set_ne y] at e
        exact o.ne j k hj hk z y (by omega) e
end L2
set_option Elab.async false
set_option linter.all false
set_option maxRecDepth 100000
namespace L2
open PySem PySem.Spec PyProof.Rows
noncomputable def lp (mask : Nat) : Nat → Nat × Nat → Nat × Nat
  | 0, x => x
  | n + 1, x => lp mask n (SetTable.leap mask x.1 x.2)
structure Ownd (mask : Nat) (ow : Array (Option Nat)) (k : Nat) : Prop where
  sz : ow.size = mask + 1
  pm : (ow.toList.filterMap id).Perm (List.range k)
theorem Ownd.set {mask : Nat} {ow : Array (Option Nat)} {k j : Nat} (o : Ownd mask ow k) (h : (ow.getD j (some 0)).isNone = true) : Ownd mask (ow.setIfInBounds j (some k)) (k + 1) where
  sz := by rw [Array.size_setIfInBounds]; exact o.sz
  pm := by
    have hj : j < ow.size := by
      refine Decidable.byContradiction fun hn => ?_
      have : ow.getD j (some 0) = some 0 := by simp [Array.getD, hn]
      rw [this] at h; cases h
    have e : ow.toList[j]'(by rw [Array.length_toList]; exact hj) = none := by
      have : ow.getD j (some 0) = ow[j] := by simp [Array.getD, hj]
      rw [this] at h
      rw [Array.getElem_toList]
      exact Option.isNone_iff_eq_none.mp h
    have hjl : j < ow.toList.length := by rw [Array.length_toList]; exact hj
    rw [Array.toList_setIfInBounds, List.set_eq_take_append_cons_drop, if_pos hjl, List.filterMap_append, List.filterMap_cons]
    dsimp only [id]
    have e1 : ow.toList = ow.toList.take j ++ none :: ow.toList.drop (j + 1) := by
      conv => lhs; rw [← List.take_append_drop j ow.toList, List.drop_eq_getElem_cons hjl, e]
    have p := o.pm
    rw [e1, List.filterMap_append, List.filterMap_cons] at p
    dsimp only [id] at p
    rw [List.range_succ]
    exact (List.perm_middle.trans (p.cons k)).trans (List.perm_append_singleton k _).symm
end L2
set_option Elab.async false
set_option linter.all false
set_option maxRecDepth 100000
namespace L2
open PySem PySem.Spec PyProof.Rows
section
variable {P : Program} {w : World} {A : Around} {E : Value → Shared → Prop} {s : Shared} {S : Addr} {ks ms : List Int} {es : Array (Int × Value)} {ep : Nat} {t : SetTable}
theorem sl_big {n : Nat} (h : n < 5000) : n ≤ sizeLine := Nat.le_of_lt (szn (by omega))
theorem SetAt.store {es' : Array (Int × Value)} {t' : SetTable} {ks' : List Int} {Q : Unit → Shared → Prop} (hS : SetAt w S es ep t ks s.heap) (en : Ents es'.toList ks') (nd : ks'.Nodup) (sz : ks'.length < 4000) (ft : t'.fits es'.size = true) (tb : TabK (!byText w) t')
    (h : ∀ h', Heap.SameBut S s.heap h' → SetAt w S es' (ep + 1) t' ks' h' → Q () { s with heap := h' }) : wpAny (model P w) A (storeSet S es' t') Q E s := by
  obtain ⟨o, ho, hs⟩ := hS
  have z : es'.size = ks'.length := by rw [← en.len, Array.length_toList]
  refine wpAny_storeSet_of ho hs.da (h _ (Heap.SameBut.update ..) ?_) (by rw [z]; exact sl_big (by omega))
  obtain ⟨o', ho', hs'⟩ := put_SX (s := s) ho hs en nd sz ft tb
  exact ⟨o', ho', hs'⟩
theorem SetAt.state {Q : Array (Int × Value) × Nat × SetTable → Shared → Prop} (hS : SetAt w S es ep t ks s.heap) (h : Q (es, ep, t) s) : wpAny (model P w) A (setState S) Q E s := by
  obtain ⟨o, ho, hs⟩ := hS
  exact wpAny_setState_of ho hs.da hs.ft h
theorem SetAt.epoch {Q : Nat → Shared → Prop} (hS : SetAt w S es ep t ks s.heap) (h : Q ep s) : wpAny (model P w) A (setEpoch S) Q E s := by
  unfold setEpoch
  exact wpAny_bind (hS.state (wpAny_pure h))
theorem SetAt.entries {Q : Array (Int × Value) → Shared → Prop} (hS : SetAt w S es ep t ks s.heap) (h : Q es s) : wpAny (model P w) A (setEntries S) Q E s := by
  unfold setEntries
  exact wpAny_bind (hS.state (wpAny_pure h))
theorem SetAt.en (hS : SetAt w S es ep t ks s.heap) : Ents es.toList ks := let ⟨_, _, hs⟩ := hS; hs.en
theorem SetAt.nd (hS : SetAt w S es ep t ks s.heap) : ks.Nodup := let ⟨_, _, hs⟩ := hS; hs.nd
theorem SetAt.ft (hS : SetAt w S es ep t ks s.heap) : t.fits es.size = true := let ⟨_, _, hs⟩ := hS; hs.ft
theorem SetAt.tb (hS : SetAt w S es ep t ks s.heap) : TabK (!byText w) t := let ⟨_, _, hs⟩ := hS; hs.tb
theorem SetAt.sz (hS : SetAt w S es ep t ks s.heap) : es.size = ks.length := let ⟨_, _, hs⟩ := hS; hs.size
theorem SetAt.lt4 (hS : SetAt w S es ep t ks s.heap) : ks.length < 4000 := let ⟨_, _, hs⟩ := hS; hs.sz
theorem SetAt.sx (hS : SetAt w S es ep t ks s.heap) (p : ks.Perm ms) : SX w S ms s.heap := let ⟨o, e, r⟩ := hS; ⟨o, es, ep, t, ks, e, r, p⟩
theorem SetAt.find {x : Int} {tk : Tok} {Q : Option Nat → Shared → Prop} (hS : SetAt w S es ep t ks s.heap) (h1 : ∀ i, ks[i]? = some x → Q (some i) s) (h2 : x ∉ ks → Q none s) : wpAny (model P w) A (setFind S (.int x tk) (hashInt x)) Q E s := by
  obtain ⟨o, ho, hs⟩ := hS
  have hel := hs.en.elems (P := P) (w := w)
  have hky : (intKind P w).is x (.int x tk) = true := intKind_is P w x tk
  unfold setFind setFindIn
  refine wpAny_bind (wpAny_setState_of ho hs.da hs.ft ?_)
  dsimp only
  rw [byScan_of (knd := intKind P w) rfl hs.bound hel, if_pos rfl]
  refine wpAny_bind (wpAny_rule ?_)
  refine wpAny_bind (wpAny_setScan_of (knd := intKind P w) (k := x) hky ho hs.da hs.ft hel ?_)
  have fd := hs.en.find (P := P) (w := w) (k := x)
  cases hr : List.findIdx? (fun e => (intKind P w).is x e.2) es.toList with
  | some j =>
    refine wpAny_pure ?_
    rw [Nat.zero_add]
    refine h1 j ?_
    obtain ⟨hj, p1, _⟩ := List.findIdx?_eq_some_iff_getElem.mp hr
    have hjk : j < ks.length := by rw [← hs.en.len]; exact hj
    have gk := List.getElem?_eq_getElem hjk
    obtain ⟨e', g, tk', q⟩ := pair_get hs.en gk
    rw [List.getElem?_eq_getElem hj] at g
    have g := Option.some.inj g
    rw [g, q] at p1
    have : x = ks[j] := by
      have z : (intKind P w).is x (hashInt ks[j], Value.int ks[j] tk').2 = decide (x = ks[j]) := isInt_dec x ks[j] tk'
      rw [z] at p1
      exact of_decide_eq_true p1
    rw [gk, this]
  | none =>
    rw [hr] at fd
    exact wpAny_pure (h2 (of_decide_eq_false fd.symm))
end
end L2
set_option Elab.async false
set_option linter.all false
set_option maxRecDepth 100000
namespace L2
open PySem PySem.Spec PyProof.Rows
section
variable {P : Program} {w : World} {A : Around} {E : Value → Shared → Prop} {s : Shared} {S : Addr} {ks ms : List Int} {es : Array (Int × Value)} {ep : Nat} {t : SetTable}
theorem quiet_ok {Q : Bool → Shared → Prop} (sets : List Addr) (ho : ∀ a ∈ sets, ∃ ms, SX w a ms s.heap) (h : Q true s) : wpAny (model P w) A (setsQuiet sets) Q E s := by
  unfold setsQuiet
  refine wpAny_bind (wpAny_forIn_list _ (fun rest b s' => (∀ a ∈ rest, a ∈ sets) ∧ b.1 = none ∧ s' = s) _ ?_ ?_ sets _ ⟨fun _ h => h, rfl, rfl⟩)
  · rintro a rest b s' ⟨hm, hb, rfl⟩
    obtain ⟨ms, sx⟩ := ho a (hm a List.mem_cons_self)
    obtain ⟨es, ep, t, ks, sa, pm⟩ := SX_at sx
    refine wpAny_bind (sa.entries ?_)
    refine wpAny_bind (PySem.MeetsSeq2.wpAny_forIn_array _ (fun rest b s'' => (∀ a ∈ rest, a ∈ es.toList) ∧ b.1 = none ∧ s'' = s') _ ?_ ?_ es _ ⟨fun _ h => h, rfl, rfl⟩)
    · rintro x rest b s' ⟨hm, hb, rfl⟩
      obtain ⟨k, tk, _, e⟩ := Ents.mem (es := es.toList) sa.en (hm x List.mem_cons_self)
      subst e
      refine wpAny_pure ⟨fun a h => hm a (List.mem_cons_of_mem _ h), rfl, rfl⟩
    · rintro ⟨b1, b2⟩ s'' ⟨_, hb', rfl⟩
      dsimp only at hb'
      subst hb'
      exact wpAny_pure ⟨fun a h => hm a (List.mem_cons_of_mem _ h), rfl, rfl⟩
  · rintro ⟨b1, b2⟩ s' ⟨_, hb, rfl⟩
    dsimp only at hb
    subst hb
    exact wpAny_pure h
theorem text_ok {Q : Bool → Shared → Prop} (h : Q (byText w) s) : wpAny (model P w) A setsByText Q E s := by
  unfold setsByText
  exact wpAny_bind (wpAny_askSetting (wpAny_pure h))
theorem SetAt.walk {others : List Addr} {f : Option Addr} {Q : Array (Int × Value) → Shared → Prop} (hS : SetAt w S es ep t ks s.heap) (ho : ∀ a ∈ others, ∃ ms, SX w a ms s.heap) (hf : ∀ a, f = some a → a ≠ S ∧ SX w a ms s.heap)
    (h : ∀ xs h', xs.toList.Perm es.toList → (∀ b o, f ≠ some b → s.heap.get? b = some o → h'.get? b = some o) → (∀ a, f = some a → SX w a ms h') → Q xs { s with heap := h' }) : wpAny (model P w) A (setWalkUnseen S others f) Q E s := by
  have hS' := hS
  obtain ⟨o, hoo, hs⟩ := hS
  unfold setWalkUnseen
  refine wpAny_bind (hS'.state ?_)
  dsimp only
  refine wpAny_bind (text_ok ?_)
  have done : ∀ xs : Array (Int × Value), xs.toList.Perm es.toList → Q xs s := fun xs p => h xs s.heap p (fun _ _ _ e => e) fun a e => (hf a e).2
  by_cases hc : (byText w || t.led && t.plain || decide (es.size ≤ 1)) = true
  · rw [if_pos hc]
    by_cases bt : byText w = true
    · exact setWalk_text bt hoo hs (done _ (pick_perm _ _))
    · unfold setWalk
      have bt0 : byText w = false := by simpa using bt
      have ld : t.led = true := by rw [hs.tb.led, bt0]; rfl
      refine wpAny_bind (hS'.state ?_)
      dsimp only
      refine wpAny_bind (text_ok ?_)
      rw [bt0, if_neg Bool.false_ne_true]
      rw [bt0, ld] at hc
      show wpAny _ _ (if (!t.plain && decide (es.size > 1)) = true then _ else _) _ _ _
      rw [if_neg (by cases hp : t.plain with | true => simp | false => (rw [hp] at hc; simp at hc ⊢; omega))]
      refine wpAny_bind ?_
      show wpAny _ _ (if (!t.led && decide (es.size > 1)) = true then unsupported "set:maker-not-led" else pure ()) _ _ _
      rw [if_neg (by rw [ld]; simp)]
      exact wpAny_pure (wpAny_pure (done _ (.refl _)))
  · rw [if_neg hc]
    refine wpAny_bind (quiet_ok _ (fun a ha => ?_) ?_)
    · rcases List.mem_cons.mp ha with e | e
      · subst e; exact ⟨ks, hS'.sx (.refl _)⟩
      · exact ho a e
    rw [if_neg (by simp)]
    refine wpAny_bind (wpAny_rule ?_)
    cases f with
    | none => exact wpAny_pure (done _ (.refl _))
    | some a =>
      obtain ⟨hne, sx⟩ := hf a rfl
      obtain ⟨ef, epf, tf, kf, sf, pf⟩ := SX_at sx
      refine wpAny_bind (sf.state ?_)
      dsimp only
      by_cases hm : (tf.led && !t.led || tf.plain && !t.plain) = true
      · rw [if_pos hm]
        refine wpAny_bind (sf.store (t' := { tf with led := tf.led && t.led, plain := tf.plain && t.plain }) sf.en sf.nd sf.lt4 sf.ft ⟨by show (tf.led && t.led) = _; rw [sf.tb.led, hs.tb.led]; simp, fun z => sf.tb.rise (by have z : (tf.plain && t.plain) = true := z; simp at z; exact z.1)⟩ fun h' sb st => ?_)
        exact wpAny_pure (h es h' (.refl _) (fun b o n e => (sb.2 b fun z => n (by rw [z])).trans e) fun a' e => by cases e; exact st.sx (s := { s with heap := h' }) pf)
      · rw [if_neg hm]
        exact wpAny_pure (done _ (.refl _))
end
end L2
set_option Elab.async false
set_option linter.all false
set_option maxRecDepth 100000
namespace L2
open PySem PySem.Spec PyProof.Rows
section
variable {P : Program} {w : World} {A : Around} {E : Value → Shared → Prop} {s : Shared} {S T : Addr} {ks ms ns : List Int} {es : Array (Int × Value)} {ep : Nat} {t : SetTable}
theorem SX.ty (h : SX w S ms s.heap) : s.TypeIs (.ref S) "set" := let ⟨o, _, _, _, _, e, r, _⟩ := h; ⟨o, e, r.ex.1⟩
theorem anySet_ok {Q : Bool → Shared → Prop} (hT : s.TypeIs (.ref S) "set") (h : Q true s) : wpAny (model P w) A (Builtin.Frozenset.isAnySet (.ref S)) Q E s := by
  unfold Builtin.Frozenset.isAnySet
  show wpAny _ _ (isInstance (.ref S) (.type "set") >>= fun b => _) _ _ _
  refine wpAny_bind (wpAny_isInstance hT sub_set_self ?_)
  exact wpAny_pure h
theorem baseOf_ok {Q : Value → Shared → Prop} (hT : s.TypeIs (.ref S) "set") (h : Q (.type "set") s) : wpAny (model P w) A (Builtin.Frozenset.baseOf S) Q E s := by
  unfold Builtin.Frozenset.baseOf
  refine wpAny_bind (wpAny_isInstance hT sub_set_self ?_)
  exact wpAny_pure h
theorem newSet_ok {Q : Value → Shared → Prop} (h : Q (.ref s.heap.objs.size) { s with heap := s.heap.push (newSetObj w) }) : wpAny (model P w) A (newSet (.type "set")) Q E s := by
  unfold newSet
  refine wpAny_bind (text_ok ?_)
  dsimp only
  simp only [newObj]
  exact wpAny_bind (wpAny_alloc (wpAny_pure h))
theorem sizeOf_ok {Q : Nat → Shared → Prop} (hS : SetAt w S es ep t ks s.heap) (h : Q es.size s) : wpAny (model P w) A (Builtin.Frozenset.sizeOf S) Q E s := by
  unfold Builtin.Frozenset.sizeOf
  exact wpAny_bind (hS.entries (wpAny_pure h))
theorem unch_ok {id : String} {Q : Unit → Shared → Prop} (hS : SetAt w S es ep t ks s.heap) (h : Q () s) : wpAny (model P w) A (Builtin.Frozenset.unchanged id S ep) Q E s := by
  unfold Builtin.Frozenset.unchanged
  refine wpAny_bind (hS.epoch ?_)
  rw [if_neg (by simp)]
  exact wpAny_pure h
theorem keep_loop {r : Addr} {xs : Array (Int × Value)} {kx k0 : List Int} {f : (Int × Value) → PUnit → Sem (ForInStep PUnit)} {G : Heap → Prop} {Q : PUnit → Shared → Prop} (keep : Int → Bool) (en : Ents xs.toList kx) (nd : kx.Nodup) (dj : ∀ k ∈ kx, k ∉ k0) (hl : kx.length + k0.length + 1 < 4000)
    (hG : ∀ h h', G h → Heap.SameBut r h h' → G h')
    (hf : ∀ k tk (s' : Shared) (Q' : ForInStep PUnit → Shared → Prop) kr, k ∈ kx → G s'.heap → SX w r kr s'.heap → kr.length + 1 < 4000 → (keep k = true → ∀ h', Heap.SameBut r s'.heap h' → SX w r (dstep kr k) h' → Q' (.yield ⟨⟩) { s' with heap := h' }) → (keep k = false → Q' (.yield ⟨⟩) s') → wpAny (model P w) A (f (hashInt k, .int k tk) ⟨⟩) Q' E s')
    (g : G s.heap) (sx : SX w r k0 s.heap)
    (h : ∀ h', Heap.SameBut r s.heap h' → SX w r (k0 ++ kx.filter keep) h' → Q ⟨⟩ { s with heap := h' }) : wpAny (model P w) A (forIn xs ⟨⟩ f) Q E s := by
  refine PySem.MeetsSeq2.wpAny_forIn_array f (fun rest _ s' => ∃ kr h', Ents rest kr ∧ kr <:+ kx ∧ s' = { s with heap := h' } ∧ Heap.SameBut r s.heap h' ∧ SX w r (k0 ++ (kx.take (kx.length - kr.length)).filter keep) h' ∧ G h') _ ?_ ?_ xs ⟨⟩ ⟨kx, s.heap, en, List.suffix_refl _, rfl, Heap.SameBut.refl _ _, by rw [Nat.sub_self, List.take_zero]; simpa using sx, g⟩
  · rintro x rest b s' ⟨kr, h1, er, sf, rfl, sb, sx1, g1⟩
    cases er with
    | @cons _ k _ kr' q er' =>
      obtain ⟨tk, rfl⟩ := q
      obtain ⟨pre, ep⟩ := sf
      have hk : k ∈ kx := by rw [← ep]; simp
      have e1 : kx.length - (k :: kr').length = pre.length := by rw [← ep]; simp
      have e2 : kx.length - kr'.length = pre.length + 1 := by rw [← ep]; simp; omega
      have t1 : kx.take pre.length = pre := by rw [← ep]; simp
      have t2 : kx.take (pre.length + 1) = pre ++ [k] := by
        have : kx = (pre ++ [k]) ++ kr' := by rw [← ep]; simp
        rw [this]
        have : pre.length + 1 = (pre ++ [k]).length := by simp
        rw [this, List.take_left]
      rw [e1, t1] at sx1
      have kn : k ∉ pre := by
        rw [← ep, List.nodup_append] at nd
        exact fun m => nd.2.2 k m k (by simp) rfl
      have fl : (pre.filter keep).length ≤ kx.length := Nat.le_trans (List.length_filter_le ..) (by rw [← ep]; simp)
      have sfx : kr' <:+ kx := ⟨pre ++ [k], by rw [← ep]; simp⟩
      refine hf k tk _ _ _ hk g1 sx1 (by rw [List.length_append]; omega) (fun hp h2 sb2 sx2 => ?_) fun hp => ?_
      · refine ⟨kr', h2, er', sfx, rfl, sb.trans sb2, ?_, hG _ _ g1 sb2⟩
        have ed : dstep (k0 ++ pre.filter keep) k = k0 ++ (pre ++ [k]).filter keep := by
          have : k ∉ k0 ++ pre.filter keep := fun m => by
            rcases List.mem_append.mp m with m | m
            · exact dj k hk m
            · exact kn (List.mem_filter.mp m).1
          unfold dstep
          rw [if_neg this, List.filter_append, List.append_assoc]
          simp [hp]
        rw [e2, t2, ← ed]
        exact sx2
      · refine ⟨kr', h1, er', sfx, rfl, sb, ?_, g1⟩
        rw [e2, t2, List.filter_append]
        simpa [hp] using sx1
  · rintro b s' ⟨kr, h1, er, sf, rfl, sb, sx1, g1⟩
    cases er
    refine h h1 sb ?_
    rw [List.length_nil, Nat.sub_zero, List.take_length] at sx1
    exact sx1
end
end L2
set_option Elab.async false
set_option linter.all false
set_option maxRecDepth 100000
namespace L2
open PySem PySem.Spec PyProof.Rows
section
variable {P : Program} {w : World} {A : Around} {E : Value → Shared → Prop} {s : Shared} {S T : Addr} {ks ms ns : List Int} {es : Array (Int × Value)} {ep : Nat} {t : SetTable}
theorem sb_at {a r : Addr} {h h' : Heap} (n : a ≠ r) (sb : Heap.SameBut r h h') : ∀ o, h.get? a = some o → h'.get? a = some o := fun o e => (sb.2 a n).trans e
theorem ask_loop {id : String} {W0 K0 r : Addr} {ew : Array (Int × Value)} {epw : Nat} {tw : SetTable} {kw : List Int} {ka : List Int} {xs : Array (Int × Value)} {kx : List Int} {Q : PUnit → Shared → Prop}
    (hW : SetAt w W0 ew epw tw kw s.heap) (hK : SX w K0 ka s.heap) (n1 : W0 ≠ r) (n2 : K0 ≠ r) (en : Ents xs.toList kx) (nd : kx.Nodup) (hl : kx.length + 1 < 4000) (sx : SX w r [] s.heap) (c : Bool → Bool)
    {f : (Int × Value) → PUnit → Sem (ForInStep PUnit)}
    (hf : ∀ x, f x ⟨⟩ = (do
      holding [x.2] do
        let q ← setFind K0 x.2 x.1
        if c q.isSome = true then
          let _ ← setAddHashed r x.2 x.1
      Builtin.Frozenset.unchanged id W0 epw
      pure (.yield ⟨⟩)))
    (h : ∀ h', Heap.SameBut r s.heap h' → SX w r (kx.filter fun k => c (decide (k ∈ ka))) h' → Q ⟨⟩ { s with heap := h' }) : wpAny (model P w) A (forIn xs ⟨⟩ f) Q E s := by
  refine keep_loop (k0 := []) (G := fun h => SetAt w W0 ew epw tw kw h ∧ SX w K0 ka h) (fun k => c (decide (k ∈ ka))) en nd (fun _ _ h => by cases h) (by simpa using hl) (fun h h' g sb => ⟨g.1.at (sb_at n1 sb), g.2.at (sb_at n2 sb)⟩) ?_ ⟨hW, hK⟩ sx (fun h' sb sx' => h h' sb (by simpa using sx'))
  intro k tk s' Q' kr hk ⟨gW, gK⟩ sxr hlen q1 q2
  rw [hf]
  dsimp only
  obtain ⟨ek, epk, tk', kk, sk, pk⟩ := SX_at gK
  have fin : ∀ d : Bool, (decide (k ∈ ka) = d) → wpAny (model P w) A (if c d = true then (do let _ ← setAddHashed r (.int k tk) (hashInt k); pure PUnit.unit) else pure PUnit.unit) (fun _ s2 => wpAny (model P w) A (do Builtin.Frozenset.unchanged id W0 epw; pure (ForInStep.yield PUnit.unit)) Q' E s2) E s' := fun d hc => by
    by_cases hcb : c d = true
    · rw [if_pos hcb]
      refine wpAny_bind (SX_add sxr hlen fun _ h' sb sx' => wpAny_pure ?_)
      refine wpAny_bind (unch_ok (s := { s' with heap := h' }) (gW.at (sb_at n1 sb)) (wpAny_pure ?_))
      exact q1 (by rw [hc]; exact hcb) h' sb sx'
    · rw [if_neg hcb]
      refine wpAny_pure ?_
      refine wpAny_bind (unch_ok gW (wpAny_pure ?_))
      exact q2 (by rw [hc]; simpa using hcb)
  refine wpAny_bind (wpAny_holding (wpAny_bind (sk.find (fun i hi => ?_) fun hn => ?_)))
  · exact fin true (decide_eq_true (pk.mem_iff.mp (List.mem_of_getElem? hi)))
  · exact fin false (decide_eq_false fun m => hn (pk.mem_iff.mpr m))
theorem inter_ok {id : String} {Q : Value → Shared → Prop} (hS : SX w S ms s.heap) (hT : SX w T ns s.heap) (hne : S ≠ T) (hl1 : ms.length < 3000) (hl2 : ns.length < 3000)
    (h : ∀ h' ks, (∀ b o, s.heap.get? b = some o → h'.get? b = some o) → SX w s.heap.objs.size ks h' → ks.Nodup → (∀ x, x ∈ ks ↔ x ∈ ms ∧ x ∈ ns) → Q (.ref s.heap.objs.size) { s with heap := h' }) : wpAny (model P w) A (Builtin.Frozenset.intersection id S (.ref T)) Q E s := by
  unfold Builtin.Frozenset.intersection
  rw [if_neg (by simp; exact fun z => hne z.symm)]
  refine wpAny_bind (baseOf_ok hS.ty (wpAny_bind (newSet_ok ?_)))
  have lS := hS.lt
  have lT := hT.lt
  have kp : ∀ b o, s.heap.get? b = some o → (s.heap.push (newSetObj w)).get? b = some o := fun b o e => Heap.get?_push_of_some _ e
  have hS1 := hS.at (kp S)
  have hT1 := hT.at (kp T)
  have hR1 : SX w s.heap.objs.size [] (s.heap.push (newSetObj w)) := newSet_SX (Heap.get?_push_size _ rfl)
  generalize hr : s.heap.objs.size = r at *
  generalize hh1 : s.heap.push (newSetObj w) = h1 at *
  refine wpAny_bind (wpAny_pure ?_)
  have ne1 : S ≠ r := Nat.ne_of_lt lS
  have ne2 : T ≠ r := Nat.ne_of_lt lT
  have aS := SX_at hS1
  have aT := SX_at hT1
  obtain ⟨eS, epS, tS, kS, aS, pS⟩ := aS
  obtain ⟨eT, epT, tT, kT, aT, pT⟩ := aT
  refine wpAny_bind (wpAny_holding (wpAny_bind (anySet_ok (s := { s with heap := h1 }) hT1.ty ?_)))
  rw [if_pos rfl]
  refine wpAny_bind (wpAny_pure ?_)
  refine wpAny_bind (sizeOf_ok (s := { s with heap := h1 }) aT (wpAny_bind (sizeOf_ok (s := { s with heap := h1 }) aS ?_)))
  have core : ∀ (W0 K0 : Addr) (ew : Array (Int × Value)) (epw : Nat) (tw : SetTable) (kw ka : List Int), SetAt w W0 ew epw tw kw h1 → SX w K0 ka h1 → W0 ≠ r → K0 ≠ r → kw.length < 3000 → (∀ x, x ∈ kw ∧ x ∈ ka ↔ x ∈ ms ∧ x ∈ ns) →
      wpAny (model P w) A (do
        let was ← setEpoch W0
        let l ← setWalkUnseen W0 [K0, r] (some r)
        forIn l PUnit.unit fun x __s => match x with
          | (h, x) => do
            holding [x] do
              let q ← setFind K0 x h
              if q.isSome = true then do
                let _ ← setAddHashed r x h
                pure ()
              else pure ()
            Builtin.Frozenset.unchanged id W0 was
            pure (ForInStep.yield PUnit.unit)
        pure ()) (fun _ s' => wpAny (model P w) A (pure (Value.ref r)) Q E s') E { s with heap := h1 } := by
    intro W0 K0 ew epw tw kw ka hW hK n1 n2 hlw hm
    refine wpAny_bind (SetAt.epoch (s := { s with heap := h1 }) hW ?_)
    refine wpAny_bind (SetAt.walk (s := { s with heap := h1 }) (ms := []) hW (fun a ha => ?_) (fun a e => ?_) fun xs h2 px k2 f2 => ?_)
    · simp only [List.mem_cons, List.not_mem_nil, or_false] at ha
      rcases ha with e | e <;> subst e
      · exact ⟨_, hK⟩
      · exact ⟨_, hR1⟩
    · cases e; exact ⟨Ne.symm n1, hR1⟩
    have k2' : ∀ b o, b ≠ r → h1.get? b = some o → h2.get? b = some o := fun b o n e => k2 b o (fun z => n (Option.some.inj z).symm) e
    obtain ⟨kx, nx, qx⟩ := Ents.perm px (SetAt.en (s := { s with heap := h1 }) hW)
    have ndw := SetAt.nd (s := { s with heap := h1 }) hW
    have ndx : kx.Nodup := qx.nodup_iff.mpr ndw
    refine wpAny_bind (ask_loop (s := { s with heap := h2 }) (hW.at fun o e => k2' W0 o n1 e) (hK.at fun o e => k2' K0 o n2 e) n1 n2 nx ndx (by rw [qx.length_eq]; omega) (f2 r rfl) (fun b => b) (fun x => rfl) fun h3 sb sx => wpAny_pure (wpAny_pure ?_))
    refine h h3 _ (fun b o e => ?_) sx (ndx.filter _) fun x => ?_
    · have nb : b ≠ r := by rw [← hr]; exact Nat.ne_of_lt (Heap.lt_size e)
      exact sb_at nb sb o (k2' b o nb (kp b o e))
    · rw [List.mem_filter, qx.mem_iff, ← hm x]
      simp
  by_cases hc : eT.size > eS.size
  · rw [if_pos hc]
    exact core S T eS epS tS kS ns aS hT1 ne1 ne2 (by rw [pS.length_eq]; exact hl1) fun x => by rw [pS.mem_iff]
  · rw [if_neg hc]
    exact core T S eT epT tT kT ms aT hS1 ne2 ne1 (by rw [pT.length_eq]; exact hl2) fun x => by rw [pT.mem_iff]; exact And.comm
end
end L2
set_option Elab.async false
set_option linter.all false
set_option maxRecDepth 100000
namespace L2
open PySem PySem.Spec PyProof.Rows
section
variable {P : Program} {w : World} {A : Around} {E : Value → Shared → Prop} {s : Shared} {S T r : Addr} {ks ms ns : List Int} {es : Array (Int × Value)} {ep : Nat} {t : SetTable}
end
end L2
set_option Elab.async false
set_option linter.all false
set_option maxRecDepth 100000
namespace L2
open PySem PySem.Spec PyProof.Rows
section
variable {P : Program} {w : World} {A : Around} {E : Value → Shared → Prop} {s : Shared} {S T r : Addr} {ks kr ms ns : List Int} {es er : Array (Int × Value)} {ep epr : Nat} {t tr : SetTable}
theorem SX.nd {h : Heap} (x : SX w S ms h) : ms.Nodup := by
  obtain ⟨o, es, ep, t, ks, e, r, p⟩ := x
  exact p.nodup_iff.mp r.nd
end
end L2
set_option Elab.async false
set_option linter.all false
set_option maxRecDepth 100000
namespace L2
open PySem PySem.Spec PyProof.Rows
theorem eraseAt_list {α : Type} (xs : Array α) (i : Nat) (h : i < xs.size) : (SetTable.eraseAt xs i).toList = xs.toList.eraseIdx i := by
  unfold SetTable.eraseAt
  rw [Array.toList_append, Array.toList_extract, Array.toList_extract, List.eraseIdx_eq_take_drop_succ]
  simp [List.extract_eq_take_drop]
  exact List.take_of_length_le (by simp)
theorem insertAt_size {α : Type} (xs : Array α) (p : Nat) (x : α) : (SetTable.insertAt xs p x).size = xs.size + 1 := by
  unfold SetTable.insertAt
  simp
  omega
section
variable {P : Program} {w : World} {A : Around} {E : Value → Shared → Prop} {s : Shared} {S T r : Addr} {ks kr ms ns : List Int} {es er : Array (Int × Value)} {ep epr : Nat} {t tr : SetTable}
theorem SetAt.drop {x : Int} {tk : Tok} {Q : Bool → Shared → Prop} (hR : SetAt w r er epr tr kr s.heap)
    (h : ∀ b h' kr', Heap.SameBut r s.heap h' → SX w r kr' h' → (∀ y, y ∈ kr' ↔ y ∈ kr ∧ y ≠ x) → kr'.length ≤ kr.length → Q b { s with heap := h' }) : wpAny (model P w) A (setDiscardHashed r (.int x tk) (hashInt x)) Q E s := by
  unfold setDiscardHashed
  refine wpAny_bind (hR.find (fun i hi => ?_) fun hn => ?_)
  · dsimp only
    refine wpAny_bind (hR.state ?_)
    dsimp only
    have hik : i < kr.length := (List.getElem?_eq_some_iff.mp hi).1
    have sz := hR.sz
    have pz := fits_size hR.ft
    have hie : i < er.size := by omega
    have hip : i < tr.place.size := by omega
    have gp := Array.getElem?_eq_getElem hip
    have p1 : er.toList.Perm (er[i] :: er.toList.eraseIdx i) := erase_perm (by simp [hie])
    obtain ⟨k1, n1, q1⟩ := Ents.perm p1.symm hR.en
    cases n1 with
    | @cons _ k _ k1' q n1' =>
      obtain ⟨t1, e1⟩ := q
      obtain ⟨a', ga, t2, e2⟩ := pair_get hR.en hi
      have ga' : er[i] = a' := by
        rw [Array.getElem?_toList, Array.getElem?_eq_getElem hie] at ga
        exact Option.some.inj ga
      rw [ga', e2] at e1
      have ekx : x = k := by
        have := congrArg Prod.snd e1
        injection this
      subst ekx
      have nd1 : (x :: k1').Nodup := q1.nodup_iff.mpr hR.nd
      rw [List.nodup_cons] at nd1
      have le : k1'.length + 1 = kr.length := by rw [← q1.length_eq]; rfl
      have el : (SetTable.eraseAt er i).toList = er.toList.eraseIdx i := eraseAt_list er i hie
      have ez : (SetTable.eraseAt er i).size = er.size - 1 := by rw [← Array.length_toList, el, List.length_eraseIdx_of_lt (by rw [Array.length_toList]; exact hie), Array.length_toList]
      have ed : tr.drop i = { tr with place := SetTable.eraseAt tr.place i, dummies := SetTable.insertAt tr.dummies (SetTable.below tr.dummies tr.place[i]) tr.place[i] } := by unfold SetTable.drop; rw [gp]
      have pl : (SetTable.eraseAt tr.place i).toList = tr.place.toList.eraseIdx i := eraseAt_list tr.place i hip
      have pe : (SetTable.eraseAt tr.place i).size = tr.place.size - 1 := by rw [← Array.length_toList, pl, List.length_eraseIdx_of_lt (by rw [Array.length_toList]; exact hip), Array.length_toList]
      have ft := hR.ft
      simp only [SetTable.fits, SetTable.fill, Bool.and_eq_true, beq_iff_eq, decide_eq_true_eq] at ft
      refine wpAny_bind (hR.store (es' := SetTable.eraseAt er i) (t' := tr.drop i) (ks' := k1') (by rw [el]; exact n1') nd1.2 (by have := hR.lt4; omega) ?_ ?_ fun h' sb st => ?_)
      · rw [ed]
        simp only [SetTable.fits, SetTable.fill, Bool.and_eq_true, beq_iff_eq, decide_eq_true_eq, pe, ez, insertAt_size]
        have f2 := of_decide_eq_true ft.2
        omega
      · rw [ed]
        refine ⟨hR.tb.led, fun z => ?_⟩
        show Rise (SetTable.eraseAt tr.place i).toList
        rw [pl]
        exact (hR.tb.rise z).sublist (List.eraseIdx_sublist ..)
      · refine wpAny_bind (wpAny_point (wpAny_pure (h true h' k1' sb (SetAt.sx (s := { s with heap := h' }) st (.refl _)) (fun y => ?_) (by omega))))
        rw [← q1.mem_iff (a := y), List.mem_cons]
        constructor
        · exact fun m => ⟨.inr m, fun z => nd1.1 (by rw [← z]; exact m)⟩
        · exact fun ⟨m, n⟩ => m.resolve_left n
  · exact wpAny_pure (h false s.heap kr (Heap.SameBut.refl _ _) (hR.sx (.refl _)) (fun y => ⟨fun m => ⟨m, fun z => hn (by rw [← z]; exact m)⟩, fun m => m.1⟩) (Nat.le_refl _))
end
end L2
set_option Elab.async false
set_option linter.all false
set_option maxRecDepth 100000
namespace L2
open PySem PySem.Spec PyProof.Rows
section
variable {P : Program} {w : World} {A : Around} {E : Value → Shared → Prop} {s : Shared} {S T r : Addr} {ks kr ms ns : List Int} {es er : Array (Int × Value)} {ep epr : Nat} {t tr : SetTable}
end
end L2
set_option Elab.async false
set_option linter.all false
set_option maxRecDepth 100000
namespace L2
open PySem PySem.Spec PyProof.Rows
theorem slot_set_and : Slot "set" "__and__" "set.__and__" := .of (owner := "set") (n := "__and__") (by rw [typeLookup_type, builtinLookup_eq_fast]; kernel_rfl) (by decide +kernel) (by decide +kernel) (by decide +kernel) (.inl (by decide +kernel)) (by rw [isSubtype_type]; kernel_rfl)
theorem entry_set_and : entryFor table "set.__and__" = some Builtin.«frozenset.__and__» := entryFor_alias (id' := "frozenset.__and__") (by kernel_rfl) rfl (by decide +kernel) (by kernel_rfl)
theorem args_set_and (a b : Value) : argsOk "set.__and__" ⟨[a, b], []⟩ := by unfold argsOk; kernel_rfl
theorem fill_set_and : fillsNumberSlot (.type "set") "and" = pure true := fillsNumberSlot_of slot_set_and.lookup (by decide +kernel) (r := some (.builtin "set.__rand__")) (by rw [typeLookup_type, builtinLookup_eq_fast]; kernel_rfl)
section
variable {X : Cx}
noncomputable def rSets (w : World) (rel : Int → List Int → List Int → Prop) : R2 := fun x y H Q => ∃ a b ms ns, x = .ref a ∧ y = .ref b ∧ a ≠ b ∧ H a = some (.ext (SX w a ms)) ∧ H b = some (.ext (SX w b ns)) ∧ ms.length < 64 ∧ ns.length < 64 ∧
  ∀ c ks, H c = none → ks.Nodup → (∀ x, x ∈ ks ↔ rel x ms ns) → Q (.ref c) (upd H c (.ext (SX w c ks)))
theorem op_sand (w : World) (hw : X.w = w := by rfl) : OpR X (binaryOp .BitAnd) (rSets w fun x ms ns => x ∈ ms ∧ x ∈ ns) := by
  subst hw
  intro pins s σ H x y v u Q I rx ry h
  obtain ⟨a, b, ms, ns, rfl, rfl, hne, ha, hb, l1, l2, q⟩ := h
  cases rx
  cases ry
  obtain ⟨sa, _⟩ := (show ObjOk X.prog X.w H s.heap a (.ext (SX X.w a ms)) from I.hok a _ ha)
  obtain ⟨sb, _⟩ := (show ObjOk X.prog X.w H s.heap b (.ext (SX X.w b ns)) from I.hok b _ hb)
  refine wpAny_binaryOp_same sa.ty sb.ty fill_set_and slot_set_and (wpAny_call_entry slot_set_and sa.ty entry_set_and ?_ (args_set_and _ _))
  show wpAny _ _ (Builtin.Frozenset.slot1 "__and__" ⟨[.ref a, .ref b], []⟩ >>= _) _ _ s
  refine wpAny_bind (wpAny_pure ?_)
  refine wpAny_bind ?_
  show wpAny _ _ (Builtin.Frozenset.isAnySet (.ref a) >>= fun c => _) _ _ _
  refine wpAny_bind (anySet_ok sa.ty ?_)
  show wpAny _ _ (Builtin.Frozenset.isAnySet (.ref b)) _ _ _
  refine anySet_ok sb.ty ?_
  rw [if_neg (by simp)]
  refine wpAny_bind (wpAny_pure ?_)
  refine wpAny_bind (inter_ok sa sb hne (by omega) (by omega) fun h' ks kp sx nd m => wpAny_pure ⟨_, rfl, by simp, ?_⟩)
  exact ⟨.ref s.heap.objs.size, _, I.new' (s' := { s with heap := h' }) kp (Nat.le_refl _) rfl rfl sx.ok, rfl, q _ ks I.fresh nd m⟩
end
end L2
set_option Elab.async false
set_option linter.all false
set_option maxRecDepth 100000
namespace L2
open PySem PySem.Spec PyProof.Rows
noncomputable def Itz (K : PySem.W.Frag) (a b : Addr) : It :=
  ⟨fun i H => ∃ xs ys x y, SqL K H a xs ∧ SqL K H b ys ∧ xs[i]? = some x ∧ ys[i]? = some y,
   fun i H v H' => ∃ p x y, H p = none ∧ (∀ xs, SqL K H a xs → xs[i]? = some x) ∧ (∀ ys, SqL K H b ys → ys[i]? = some y) ∧ v = .ref p ∧ H' = upd H p (.tup [x, y]),
   fun i H => ∃ xs ys, SqL K H a xs ∧ SqL K H b ys ∧ xs.length ≤ i⟩
theorem zip_stay {fs ex : List Addr} {H : Hp} {h h' : Heap} (k : ∀ b o, b ∉ ex → h.get? b = some o → h'.get? b = some o) : Un fs ex H H h h' where
  keep := fun b o q _ _ hx => k b o hx q
  slot := fun b o q _ _ hx => ⟨o.slots, k b o hx q⟩
  free := fun _ _ _ n _ => n
  there := fun b o q hx => ⟨o, k b o hx q⟩
  tups := fun _ _ q => q
  frzs := fun _ _ _ q => q
  tbls := fun b ps q => ⟨#[], by rw [q]; simp⟩
theorem turn_zip {P : Program} {w : World} {K : PySem.W.Frag} {es : List Expr} {k1 : Nat} {pos : Pos} (z TI TO i1 i2 l1 l2 : Addr) (D : ZipApart z TI TO i1 i2 l1 l2) :
    Turn P w K (.Tuple es k1 pos) (Itz K l1 l2) [z, TI, TO, i1, i2] z (fun i h => IsZip h z TI TO .none ∧ IsPair h TI (.ref i1) (.ref i2) ∧ (∃ a b, IsPair h TO a b) ∧ h.IsListIter i1 l1 i ∧ h.IsListIter i2 l2 i) where
  mem := by simp
  obj := fun i h st b hb => by
    obtain ⟨hz, hTI, ⟨a, c, hTO⟩, ⟨o1, e1, c1, d1⟩, ⟨o2, e2, c2, d2⟩⟩ := st
    simp only [List.mem_cons, List.not_mem_nil, or_false] at hb
    rcases hb with e | e | e | e | e <;> subst e
    · exact ⟨_, hz, fun v y => by have y' : Data.fields _ = Data.cell v := y; cases y'⟩
    · exact ⟨_, hTI, fun v y => by have y' : Data.seq _ _ = Data.cell v := y; cases y'⟩
    · exact ⟨_, hTO, fun v y => by have y' : Data.seq _ _ = Data.cell v := y; cases y'⟩
    · exact ⟨o1, e1, fun v y => by rw [d1] at y; cases y⟩
    · exact ⟨o2, e2, fun v y => by rw [d2] at y; cases y⟩
  keep := fun i h h' st k => by
    obtain ⟨hz, hTI, ⟨a, c, hTO⟩, h1, h2⟩ := st
    exact ⟨k z (by simp) _ hz, k TI (by simp) _ hTI, ⟨a, c, k TO (by simp) _ hTO⟩, h1.at fun o e => k i1 (by simp) o e, h2.at fun o e => k i2 (by simp) o e⟩
  item := by
    intro X hP hw hK hc i pins s σ H E I hf st hg
    subst hP hw hK
    obtain ⟨xs, ys, x, y, hq1, hq2, hx, hy⟩ := hg
    obtain ⟨its1, rv1, p1, _⟩ := I.list hq1
    obtain ⟨its2, rv2, p2, _⟩ := I.list hq2
    obtain ⟨u, hu, ru⟩ := rv1.get hx
    obtain ⟨v, hv, rv⟩ := rv2.get hy
    obtain ⟨hz, hTI, ⟨a, c, hTO⟩, h1, h2⟩ := st
    refine wpAny_pyNext_zip_item D hz hTI hTO h1 h2 p1.isList p2.isList (x := u) (y := v) (by simpa using hu) (by simpa using hv) fun h' a1 a2 a3 a4 a5 a6 kp => ?_
    refine ⟨_, rfl, wpAny_letOwnedTupleGo_zip a1 fun h2' z2 sb => ?_⟩
    have lt : ∀ {c o}, s.heap.get? c = some o → s.heap.objs.size ≠ c := fun e => Nat.ne_of_gt (Heap.lt_size e)
    have kp2 : ∀ b o, b ∉ [z, TI, TO, i1, i2] → s.heap.get? b = some o → h2'.get? b = some o := fun b o hb e => by
      simp only [List.mem_cons, List.not_mem_nil, or_false, not_or] at hb
      exact (sb.2 b hb.1).trans (kp b o hb.1 hb.2.2.1 hb.2.2.2.1 hb.2.2.2.2 e)
    have nz := lt hz
    have nTI := lt hTI
    have nTO := lt hTO
    have n1 : s.heap.objs.size ≠ i1 := by obtain ⟨_, e, _⟩ := h1; exact lt e
    have n2 : s.heap.objs.size ≠ i2 := by obtain ⟨_, e, _⟩ := h2; exact lt e
    have fr : H s.heap.objs.size = none := I.fresh
    have e3 : h2'.get? s.heap.objs.size = some { cls := .type "tuple", data := .seq #[u, v] } := (sb.2 _ nz).trans a5
    have hch : ∀ b ∈ [z, TI, TO, i1, i2], (b ∈ X.ex ∨ X.s₀.heap.objs.size ≤ b) ∧ b ≠ X.env.locals ∧ (∀ x c, X.env.cells.lookup x = some c → c ≠ b) ∧ ∀ p ∈ X.pn ++ pins, p.1 ≠ b := fun b hb => by
      obtain ⟨f0, f1, f2, f3, f4, f5⟩ := hf b hb
      exact ⟨f3, f1, f4, f5⟩
    have off : ∀ b o, H b = some o → b ∉ [z, TI, TO, i1, i2] := fun b o e m => by rw [(hf b m).1] at e; cases e
    have hok1 : HOk X.prog X.w H h2' := fun b o e => (I.hok b o e).stay (fun c oc hc q => kp2 c oc (by rcases hc with y | y; exact (by rw [y]; exact off b o e); exact off c _ y) q) (fun _ q => q) fun _ _ q => q
    have I2 : Inv X pins σ (upd H s.heap.objs.size (.tup [x, y])) { s with heap := h2' } := by
      have un : Un (frs X.stack) [z, TI, TO, i1, i2] H (upd H s.heap.objs.size (.tup [x, y])) s.heap h2' := {
        keep := fun b o q _ _ hx => kp2 b o hx q
        slot := fun b o q _ _ hx => ⟨o.slots, kp2 b o hx q⟩
        free := fun b o q n hx => by rw [upd_ne (Nat.ne_of_lt (Heap.lt_size q))]; exact n
        there := fun b o q hx => ⟨o, kp2 b o hx q⟩
        tups := fun b xs q => by rw [upd_ne (ne_of_none q fr)]; exact q
        frzs := fun b o xs q => by rw [upd_ne (ne_of_none q fr)]; exact q
        tbls := fun b ps q => ⟨#[], by rw [upd_ne (ne_of_none q fr), q]; simp⟩ }
      refine I.call' (s' := { s with heap := h2' }) (ch := [z, TI, TO, i1, i2]) rfl un (fun b o e => ?_) I.bare hch
      by_cases hb : b = s.heap.objs.size
      · subst hb
        rw [upd_same] at e
        cases e
        refine ⟨szr, [u, v], .cons ru (.cons rv .nil), _, e3, rfl, _, rfl⟩
      · rw [upd_ne hb] at e
        refine (hok1 b o e).stay (fun _ _ _ q => q) (fun c q => by rw [upd_ne (ne_of_none q fr)]; exact q) fun c xs q => by rw [upd_ne (ne_of_none q fr)]; exact q
    refine ⟨.ref s.heap.objs.size, _, I2, rfl, ⟨_, x, y, fr, fun xs' h => by rw [I.list_inj h hq1]; exact hx, fun ys' h => by rw [I.list_inj h hq2]; exact hy, rfl, rfl⟩, ⟨z2, ?_, ⟨u, v, ?_⟩, ?_, ?_⟩, fun b hb => ?_⟩
    · exact (sb.2 TI D.TIz).trans (kp TI _ D.TIz D.TITO D.TIi1 D.TIi2 hTI)
    · exact (sb.2 TO D.TOz).trans a2
    · exact a3.at fun o e => (sb.2 i1 D.i1z).trans e
    · exact a4.at fun o e => (sb.2 i2 D.i2z).trans e
    · have hne : b ≠ s.heap.objs.size := fun q => by
        subst q
        simp only [List.mem_cons, List.not_mem_nil, or_false] at hb
        rcases hb with e | e | e | e | e
        · exact nz e
        · exact nTI e
        · exact nTO e
        · exact n1 e
        · exact n2 e
      rw [upd_ne hne]; exact (hf b hb).1
  done := by
    intro X hP hw hK hc i pins s σ H E I hf st hg
    subst hP hw hK
    obtain ⟨xs, ys, hq1, hq2, hx⟩ := hg
    obtain ⟨its1, rv1, p1, _⟩ := I.list hq1
    obtain ⟨its2, rv2, p2, _⟩ := I.list hq2
    obtain ⟨hz, hTI, ⟨a, c, hTO⟩, h1, h2⟩ := st
    have hl := rv1.length
    have off : ∀ b o, H b = some o → b ∉ [z, TI, TO, i1, i2] := fun b o e m => by rw [(hf b m).1] at e; cases e
    refine wpAny_pyNext_zip_end (I.ok.hd hc) D hz hTI hTO h1 h2 p1.isList p2.isList (.inl (by simp; omega)) fun h' kp => ⟨rfl, ?_⟩
    have kp2 : ∀ b o, b ∉ [z, TI, TO, i1, i2] → s.heap.get? b = some o → h'.get? b = some o := fun b o hb e => by
      simp only [List.mem_cons, List.not_mem_nil, or_false, not_or] at hb
      exact kp b o hb.1 hb.2.2.1 hb.2.2.2.1 hb.2.2.2.2 e
    refine I.call' (s' := { s with heap := h' }) (ch := [z, TI, TO, i1, i2]) rfl (zip_stay kp2) (fun b o e => (I.hok b o e).stay (fun c oc hc q => kp2 c oc (by rcases hc with y | y; exact (by rw [y]; exact off b o e); exact off c _ y) q) (fun _ q => q) fun _ _ q => q) I.bare fun b hb => ?_
    obtain ⟨f0, f1, f2, f3, f4, f5⟩ := hf b hb
    exact ⟨f3, f1, f4, f5⟩
  self := fun _ _ _ _ _ st h => wpAny_pyIter_zip st.1 h
theorem zip_apart (n l1 l2 : Nat) (t1 : l1 < n) (t2 : l2 < n) : ZipApart (n + 4) (n + 2) (n + 3) n (n + 1) l1 l2 := by
  constructor <;> first | exact Nat.ne_of_lt (by omega) | exact Nat.ne_of_gt (by omega)
section
variable {X : Cx}
noncomputable def iZip (K : PySem.W.Frag) (ta : TA) : TI := fun σ H R => ta σ H fun vs H1 => ∃ a b xs ys, vs = [.ref a, .ref b] ∧ SqL K H1 a xs ∧ SqL K H1 b ys ∧ R (Itz K a b) H1
theorem pi_zip {a b : Expr} {ta : TA} {p pos tp : Pos} {es : List Expr} {k1 : Nat} (K : PySem.W.Frag) (hg : Gl X "zip") (hm : X.mg "zip" = none) (ha : PA X [a, b] ta) (hK : X.K = K := by rfl) (hs : starEach [a, b] X.env = [(false, eval a X.env), (false, eval b X.env)] := by rfl) (hs2 : starEach [b] X.env = [(false, eval b X.env)] := by rfl) :
    PI X (.Tuple es k1 tp) (.Call (.Name "zip" p) [a, b] [] pos) (iZip K ta) := by
  subst hK
  intro pins s σ H R I h
  refine Call_ (ld_blt I hg hm boot_zip (PyProof.Rows.callWith_type1 (thn (ha pos pins s σ H _ I h) fun us s1 ⟨vs, H1, I1, r1, q1⟩ => ?_) (by rw [hs, hs2]) (by rw [hs2]; rfl)))
  obtain ⟨l1, l2, xs, ys, e, hq1, hq2, q⟩ := q1
  subst e
  cases r1 with
  | cons r rr =>
    cases rr with
    | cons r' rr =>
      cases rr
      cases r
      cases r'
      obtain ⟨its1, rv1, p1, _⟩ := I1.list hq1
      obtain ⟨its2, rv2, p2, _⟩ := I1.list hq2
      have t1 : l1 < s1.heap.objs.size := by obtain ⟨o, e, _⟩ := p1.isList; exact Heap.lt_size e
      have t2 : l2 < s1.heap.objs.size := by obtain ⟨o, e, _⟩ := p2.isList; exact Heap.lt_size e
      refine call_zip_2 p1.isList p2.isList fun h' hz hTI hTO h1 h2 hsz kp => ?_
      refine wpAny_pyIter_zip hz ?_
      have D := zip_apart s1.heap.objs.size l1 l2 t1 t2
      have I2 : Inv X pins σ H1 { s1 with heap := h' } := I1.kept (t' := s1.toks) kp
      refine ⟨_, [s1.heap.objs.size + 4, s1.heap.objs.size + 2, s1.heap.objs.size + 3, s1.heap.objs.size, s1.heap.objs.size + 1], _, _, H1, rfl, I2, turn_zip _ _ _ _ _ _ _ D, ⟨hz, hTI, ⟨_, _, hTO⟩, h1, h2⟩, fun b hb => ?_, q⟩
      have le : s1.heap.objs.size ≤ b := by
        simp only [List.mem_cons, List.not_mem_nil, or_false] at hb
        rcases hb with e | e | e | e | e <;> subst e
        · exact Nat.le_add_right _ _
        · exact Nat.le_add_right _ _
        · exact Nat.le_add_right _ _
        · exact Nat.le_refl _
        · exact Nat.le_add_right _ _
      exact I1.fpOk le (I1.hok.fresh le)
end
theorem for_zip {K : PySem.W.Frag} {a b : Addr} {xs ys : List V} {g : TG} {tb : TS} {D : Ends} {σ : L2.St} {H : Hp} (hl : xs.length = ys.length) (Pv : Nat → L2.St → Hp → Prop) (h0 : Pv 0 σ H) (hw : ∀ i σ H, i ≤ xs.length → Pv i σ H → SqL K H a xs ∧ SqL K H b ys)
    (hs : ∀ i x y σ H p, xs[i]? = some x → ys[i]? = some y → Pv i σ H → H p = none → g (.ref p) σ (upd H p (.tup [x, y])) fun σ2 H2 => tb { D with nx := Pv (i + 1), ct := Pv (i + 1), bk := D.nx } σ2 H2) (hd : ∀ σ H, Pv xs.length σ H → D.nx σ H) :
    ∃ W : Nat → Nat → L2.St → Hp → Prop, (∃ m, W 0 m σ H) ∧ ∀ i m σ H, W i m σ H →
      ((Itz K a b).stop i H ∧ D.nx σ H) ∨ ((Itz K a b).go i H ∧ ∃ N : L2.St → Hp → Prop, (∀ σ' H', N σ' H' → ∃ m', m' < m ∧ W (i + 1) m' σ' H') ∧ ∀ v H', (Itz K a b).yld i H v H' → g v σ H' fun σ2 H2 => tb { D with nx := N, ct := N, bk := D.nx } σ2 H2) := by
  refine ⟨fun i m σ H => m = xs.length - i ∧ i ≤ xs.length ∧ Pv i σ H, ⟨xs.length, by simp, Nat.zero_le _, h0⟩, ?_⟩
  rintro i m σ H ⟨rfl, hi, p⟩
  obtain ⟨w1, w2⟩ := hw i σ H hi p
  by_cases hlt : i < xs.length
  · have hlt2 : i < ys.length := by omega
    refine .inr ⟨⟨xs, ys, xs[i], ys[i], w1, w2, List.getElem?_eq_getElem hlt, List.getElem?_eq_getElem hlt2⟩, Pv (i + 1), fun σ' H' p' => ⟨xs.length - (i + 1), by omega, rfl, hlt, p'⟩, fun v H' y => ?_⟩
    obtain ⟨q, x, y, hn, e1, e2, e3, e4⟩ := y
    subst e3 e4
    exact hs i x y σ H q (e1 xs w1) (e2 ys w2) p hn
  · have e : i = xs.length := by omega
    subst e
    exact .inl ⟨⟨xs, ys, w1, w2, Nat.le_refl _⟩, hd σ H p⟩
end L2
set_option Elab.async false
set_option linter.all false
set_option maxRecDepth 100000
namespace L2
open PySem PySem.Spec PyProof.Rows
section
variable {X : Cx}
end
end L2
set_option Elab.async false
set_option linter.all false
set_option maxRecDepth 100000
namespace L2
open PySem PySem.Spec PyProof.Rows
section
variable {X : Cx}
end
section
variable {X : Cx}
end
end L2
set_option Elab.async false
set_option linter.all false
set_option maxRecDepth 100000
namespace L2
open PySem PySem.Spec PyProof.Rows
section
variable {X : Cx}
end
end L2
set_option Elab.async false
set_option linter.all false
set_option maxRecDepth 100000
namespace L2
open PySem PySem.Spec PyProof.Rows
section
open PySem.AutoSeq1 (wpAny_loadPart')
open PySem.MeetsSeq PySem.MeetsSeq2 PySem.MeetsSeq3
theorem ints_get {us : List Value} {ns : List Int} : ∀ (i : Nat), IntsAre us ns → i < ns.length → ∃ t, us[i]? = some (.int (ns.getD i 0) t) := by
  intro i h hi
  obtain ⟨t, e⟩ := IntsAre.int_at h i (us[i]'(by rw [IntsAre.length h]; exact hi)) (by rw [List.getElem?_eq_getElem])
  exact ⟨t, by rw [List.getElem?_eq_getElem (by rw [IntsAre.length h]; exact hi), e]⟩
theorem ltL_loop (p r : Addr) (us vs : Array Value) (n1 n2 : Nat) (ns ms : List Int) (hi : IntsAre us.toList ns) (hj : IntsAre vs.toList ms) (k : Nat) :
    ∀ i : Nat, us.size - i = k → i ≤ us.size → i ≤ vs.size → Meets (Builtin.«list.__eq__.loop» ⟨[.ref p, .ref r, rawInt i, rawInt 0], []⟩)
      (fun _ R s => s.heap.get? p = some { cls := .type "list", data := .seq us n1 } ∧ s.heap.get? r = some { cls := .type "list", data := .seq vs n2 } ∧ R (.ok (.ret (.bool (HT.lexLt (ns.drop i) (ms.drop i))))) s) := by
  have z1 : us.size = ns.length := by rw [← Array.length_toList]; exact hi.length
  have z2 : vs.size = ms.length := by rw [← Array.length_toList]; exact hj.length
  have stop : ∀ i : Nat, us.size ≤ i ∨ vs.size ≤ i → Meets (Builtin.«list.__eq__.loop» ⟨[.ref p, .ref r, rawInt i, rawInt 0], []⟩)
      (fun _ R s => s.heap.get? p = some { cls := .type "list", data := .seq us n1 } ∧ s.heap.get? r = some { cls := .type "list", data := .seq vs n2 } ∧ R (.ok (.ret (.bool (decide (us.size < vs.size))))) s) := by
    intro i hor P w A R s hh
    obtain ⟨hp, g, d, tk, os⟩ := s
    obtain ⟨h1, h2, h3⟩ := hh
    wp_walk using wpAny_loadPart' h1, wpAny_loadPart' h2
    by_cases c : us.size ≤ i
    · have e1 : us[((i : Nat) : Int).toNat]? = none := by rw [Int.toNat_natCast]; exact Array.getElem?_eq_none (by omega)
      rw [e1]
      wp_walk using wpAny_loadPart' h1, wpAny_loadPart' h2
      exact h3
    · have e2 : vs[((i : Nat) : Int).toNat]? = none := by rw [Int.toNat_natCast]; exact Array.getElem?_eq_none (by omega)
      have e1 : us[((i : Nat) : Int).toNat]? = some us[i] := by rw [Int.toNat_natCast]; exact Array.getElem?_eq_getElem (by omega)
      rw [e1, e2]
      wp_walk using wpAny_loadPart' h1, wpAny_loadPart' h2
      exact h3
  have last : ∀ i : Nat, i ≤ us.size → i ≤ vs.size → (us.size ≤ i ∨ vs.size ≤ i) → HT.lexLt (ns.drop i) (ms.drop i) = decide (us.size < vs.size) := fun i b1 b2 hor => by
    by_cases c : us.size ≤ i
    · rw [List.drop_of_length_le (show ns.length ≤ i by omega)]
      by_cases c2 : vs.size ≤ i
      · rw [List.drop_of_length_le (show ms.length ≤ i by omega), HT.lexLt_nil_nil]
        exact (decide_eq_false (by omega)).symm
      · rw [List.drop_eq_getElem_cons (show i < ms.length by omega), HT.lexLt_nil_cons]
        exact (decide_eq_true (by omega)).symm
    · rw [List.drop_eq_getElem_cons (show i < ns.length by omega), List.drop_of_length_le (show ms.length ≤ i by omega), HT.lexLt_cons_nil]
      exact (decide_eq_false (by omega)).symm
  induction k with
  | zero =>
    intro i hk b1 b2 P w A R s hh
    rw [last i b1 b2 (.inl (by omega))] at hh
    exact stop i (.inl (by omega)) P w A R s hh
  | succ k ih =>
    intro i hk b1 b2
    by_cases c : vs.size ≤ i
    · intro P w A R s hh
      rw [last i b1 b2 (.inr c)] at hh
      exact stop i (.inr c) P w A R s hh
    have l1 : i < ns.length := by omega
    have l2 : i < ms.length := by omega
    intro P w A R s hh
    obtain ⟨hp, g, d, tk, os⟩ := s
    obtain ⟨h1, h2, h3⟩ := hh
    obtain ⟨t1, g1⟩ := ints_get i hi l1
    obtain ⟨t2, g2⟩ := ints_get i hj l2
    have e1 : us[((i : Nat) : Int).toNat]? = some (.int (ns.getD i 0) t1) := by rw [Int.toNat_natCast, ← Array.getElem?_toList]; exact g1
    have e2 : vs[((i : Nat) : Int).toNat]? = some (.int (ms.getD i 0) t2) := by rw [Int.toNat_natCast, ← Array.getElem?_toList]; exact g2
    have k1 : ns.getD i 0 = ns[i] := by simp [l1]
    have k2 : ms.getD i 0 = ms[i] := by simp [l2]
    rw [List.drop_eq_getElem_cons l1, List.drop_eq_getElem_cons l2, HT.lexLt_cons, ← k1, ← k2] at h3
    wp_walk using wpAny_loadPart' h1, wpAny_loadPart' h2
    rw [e1, e2]
    have hc : ((i : Int) + 1) = ((i + 1 : Nat) : Int) := by omega
    refine wpAny_bind (wpAny_eqBool_int ?_)
    by_cases q : ns.getD i 0 = ms.getD i 0
    · rw [if_pos q] at h3
      rw [if_pos (by simpa using q)]
      wp_walk
      rw [hc]
      exact ⟨plainId_quiet plain_eq_loop _, codeAny_builtin entry_eq_loop (by
        rw [Around.under_plainId plain_eq_loop _]
        exact ih (i + 1) (by omega) (by omega) (by omega) P w A R _ ⟨h1, h2, h3⟩)⟩
    · rw [if_neg q] at h3
      rw [if_neg (by simpa using q)]
      wp_walk using wpAny_loadPart' h1, wpAny_loadPart' h2
      rw [e1, e2]
      have hr := HT.rcLt_int A.in1 ⟨hp, g, d, tk, os⟩ (ns.getD i 0) t1 (ms.getD i 0) t2 P w
      wp_walk using hr
      exact h3
theorem ltL (p r : Addr) (us vs : Array Value) (n1 n2 : Nat) (ns ms : List Int) (hi : IntsAre us.toList ns) (hj : IntsAre vs.toList ms) :
    Meets (Builtin.«list.__lt__» ⟨[.ref p, .ref r], []⟩)
      (fun _ R s => s.heap.get? p = some { cls := .type "list", data := .seq us n1 } ∧ s.heap.get? r = some { cls := .type "list", data := .seq vs n2 } ∧ R (.ok (.ret (.bool (HT.lexLt ns ms)))) s) := by
  intro P w A R s hh
  obtain ⟨hp, g, d, tk, os⟩ := s
  obtain ⟨h1, h2, h3⟩ := hh
  have sub := AutoSeq1.sub_list_list
  wp_walk using wpAny_loadPart' h1, wpAny_loadPart' h2
  exact ⟨plainId_quiet plain_eq_loop _, codeAny_builtin entry_eq_loop (by
    rw [Around.under_plainId plain_eq_loop _]
    exact ltL_loop p r us vs n1 n2 ns ms hi hj _ 0 rfl (Nat.zero_le _) (Nat.zero_le _) P w A R _ ⟨h1, h2, h3⟩)⟩
end
section
variable {X : Cx}
end
end L2
set_option Elab.async false
set_option linter.all false
set_option maxRecDepth 100000
namespace L2
open PySem PySem.Spec PyProof.Rows
theorem comp_walk2 {J : It} {H1 : Hp} {js : List (Option Nat)} {σ : L2.St} {tc : TT} {te : TE} {Q : VK} (n : Nat) (item : Nat → V) (p : Nat → Bool) (P : Addr → Nat → V → Hp → Prop) (hn : n < 100000)
    (mono : ∀ acc i v H H', P acc i v H → SameBut acc H H' → P acc i v H')
    (hgo : ∀ i H, i < n → Same H1 H → J.go i H) (hst : ∀ H, Same H1 H → J.stop n H) (hy : ∀ i H x H', i < n → Same H1 H → J.yld i H x H' → H' = H ∧ x = item i)
    (hc : ∀ i, i < n → ∀ H2 R, Same H1 H2 → (∀ H3, Same H2 H3 → R (p i) H3) → tc (some (item i) :: pick σ js) H2 R)
    (he : ∀ acc i, i < n → p i = true → ∀ H2 R, Same H1 H2 → H1 acc = none → H2 acc ≠ none → (∀ v H3, Same H2 H3 → P acc i v H3 → R v H3) → te (some (item i) :: pick σ js) H2 R)
    (hQ : ∀ acc vs H', Same H1 H' → H1 acc = none → H' acc = some (.lst vs) → Paired (fun i v => P acc i v H') ((List.range n).filter p) vs → Q (.ref acc) H') :
    CompB J H1 (none :: js) (gName 0) tc te σ Q := by
  intro acc hacc
  refine ⟨fun i m ys H => m = n - i ∧ i ≤ n ∧ Same H1 H ∧ H acc = some (.lst ys) ∧ Paired (fun k v => P acc k v H) ((List.range i).filter p) ys, ⟨n, by simp, Nat.zero_le _, Same.new hacc, upd_same, .nil⟩, ?_⟩
  rintro i m ys H ⟨rfl, hi, s1, ha, hp⟩
  by_cases hlt : i < n
  · refine .inr ⟨hgo i H hlt s1, fun ys' H' => i < n ∧ Same H1 H' ∧ H' acc = some (.lst ys') ∧ Paired (fun k v => P acc k v H') ((List.range (i + 1)).filter p) ys', fun ys' H' ⟨z, a, b, c⟩ => ⟨n - (i + 1), by omega, rfl, hlt, a, b, c⟩, fun x H' y => ?_⟩
    obtain ⟨rfl, rfl⟩ := hy i H x H' hlt s1 y
    refine ⟨kept1, hc i hlt _ _ s1 fun H2 s2 => ⟨fun hb => ?_, fun hb => ?_⟩⟩
    · have ha2 := s2 _ _ ha
      refine he acc i hlt hb _ _ (s1.trans s2) hacc (by rw [ha2]; simp) fun v H3 s3 pv => ?_
      have hlen : ys.length ≤ i := by
        rw [← Paired.length hp]
        exact Nat.le_trans (List.length_filter_le _ _) (by simp)
      refine ⟨s3 _ _ ha2, szn (by omega), hlt, ((s1.trans s2).trans s3).put hacc, upd_same, ?_⟩
      rw [List.range_succ, List.filter_append]
      have e : List.filter p [i] = [i] := by simp [hb]
      rw [e]
      refine Paired.snoc (Paired.mapP hp fun k v q => ?_) ?_
      · exact mono acc k v _ _ (mono acc k v _ _ q (s2.trans s3).but) SameBut.upd
      · exact mono acc i v _ _ pv SameBut.upd
    · refine ⟨hlt, s1.trans s2, s2 _ _ ha, ?_⟩
      rw [List.range_succ, List.filter_append]
      have e : List.filter p [i] = [] := by simp [hb]
      rw [e, List.append_nil]
      exact Paired.mapP hp fun k v q => mono acc k v _ _ q s2.but
  · have e : i = n := by omega
    subst e
    exact .inl ⟨hst H s1, hQ acc ys H s1 hacc ha hp⟩
theorem comp_some {H1 : Hp} {js : List (Option Nat)} {σ : L2.St} {tc : TT} {te : TE} {Q : VK} {n : Nat} (p : Nat → Bool) (hn : n < 100000)
    (hc : ∀ i : Nat, i < n → ∀ H2 R, Same H1 H2 → (∀ H3, Same H2 H3 → R (p i) H3) → tc (some (.int (0 + (i : Int))) :: pick σ js) H2 R)
    (he : ∀ i : Nat, i < n → ∀ H2 R, R (.int ((i : Nat) : Int)) H2 → te (some (.int (0 + (i : Int))) :: pick σ js) H2 R)
    (hQ : ∀ acc H', Same H1 H' → H1 acc = none → H' acc = some (.lst (((List.range n).filter p).map fun (i : Nat) => V.int (i : Int))) → Q (.ref acc) H') : CompB (Itr 0 n) H1 (none :: js) (gName 0) tc te σ Q :=
  comp_walk2 (J := Itr 0 n) (H1 := H1) (js := js) (σ := σ) (tc := tc) (te := te) (Q := Q) n (fun i => .int (0 + (i : Int))) p (fun _ i v _ => v = V.int (i : Int)) hn (fun _ _ _ _ _ h _ => h)
    (fun _ _ h _ => h) (fun _ _ => Nat.le_refl _) (fun _ _ _ _ _ _ y => y) hc (fun _ i hi _ H2 R s _ _ k => he i hi H2 R (k _ H2 (Same.refl _) rfl))
    fun acc vs H' s n' e p => hQ acc H' s n' (by rw [e, paired_map p])
theorem Same.seqT {K : PySem.W.Frag} {H H' : Hp} {a : Addr} {xs : List V} (e : Same H H') (h : SqT K H a xs) : SqT K H' a xs := by
  rcases h with (h | ⟨o, h⟩) | h
  · exact .inl (.inl (e _ _ h))
  · exact .inl (.inr ⟨o, e _ _ h⟩)
  · exact .inr h
theorem comp_tup {K : PySem.W.Frag} {H1 : Hp} {js : List (Option Nat)} {σ : L2.St} {tc : TT} {te : TE} {Q : VK} {a : Addr} {xs : List V} (p : Nat → Bool) (f : Nat → V) (hl : SqT K H1 a xs) (hn : xs.length < 100000)
    (hc : ∀ (i : Nat) x, xs[i]? = some x → ∀ H2 R, Same H1 H2 → (∀ H3, Same H2 H3 → R (p i) H3) → tc (some x :: pick σ js) H2 R)
    (he : ∀ (i : Nat) x, xs[i]? = some x → p i = true → ∀ H2 R, Same H1 H2 → (∀ H3, Same H2 H3 → R (f i) H3) → te (some x :: pick σ js) H2 R)
    (hQ : ∀ acc H', Same H1 H' → H1 acc = none → H' acc = some (.lst (((List.range xs.length).filter p).map f)) → Q (.ref acc) H') : CompB (Itt K a) H1 (none :: js) (gName 0) tc te σ Q :=
  comp_walk2 (J := Itt K a) (H1 := H1) (js := js) (σ := σ) (tc := tc) (te := te) (Q := Q) xs.length (fun i => xs.getD i .non) p (fun _ i v _ => v = f i) hn (fun _ _ _ _ _ h _ => h)
    (fun i H h s => ⟨xs, xs[i], Same.seqT s hl, by simp [h]⟩) (fun H s => ⟨xs, Same.seqT s hl, Nat.le_refl _⟩)
    (fun i H x H' h s y => ⟨y.1, by have e := y.2 xs (Same.seqT s hl); simp [e]⟩)
    (fun i h H2 R s k => hc i _ (by simp [h]) H2 R s k) (fun acc i h hp H2 R s n1 n2 k => he i _ (by simp [h]) hp H2 R s fun H3 s3 => k _ H3 s3 rfl)
    fun acc vs H' s n' e p => hQ acc H' s n' (by rw [e, paired_map p])
noncomputable def unl (f : Nat → Int) (st : List Nat) : Nat := (dd (st.map f)).length
theorem unl_snoc (f : Nat → Int) (st : List Nat) (i : Nat) : unl f (st ++ [i]) = if f i ∈ st.map f then unl f st else unl f st + 1 := by
  unfold unl
  rw [List.map_append, List.map_cons, List.map_nil, dd_snoc]
  unfold dstep
  by_cases h : f i ∈ st.map f
  · rw [if_pos h, if_pos (dd_mem.mpr h)]
  · rw [if_neg h, if_neg fun z => h (dd_mem.mp z), List.length_append, List.length_singleton]
theorem comp_list2 {K : PySem.W.Frag} {H1 : Hp} {js : List (Option Nat)} {σ : L2.St} {tc : TT} {te : TE} {Q : VK} {a : Addr} {xs : List V} (p : Nat → Bool) (f : Nat → V) (hl : SqL K H1 a xs) (hn : xs.length < 100000)
    (hc : ∀ (i : Nat) x, xs[i]? = some x → ∀ H2 R, Same H1 H2 → (∀ H3, Same H2 H3 → R (p i) H3) → tc (some x :: pick σ js) H2 R)
    (he : ∀ (i : Nat) x, xs[i]? = some x → p i = true → ∀ H2 R, Same H1 H2 → (∀ H3, Same H2 H3 → R (f i) H3) → te (some x :: pick σ js) H2 R)
    (hQ : ∀ acc H', Same H1 H' → H1 acc = none → H' acc = some (.lst (((List.range xs.length).filter p).map f)) → Q (.ref acc) H') : CompB (Itl K a) H1 (none :: js) (gName 0) tc te σ Q :=
  comp_walk2 (J := Itl K a) (H1 := H1) (js := js) (σ := σ) (tc := tc) (te := te) (Q := Q) xs.length (fun i => xs.getD i .non) p (fun _ i v _ => v = f i) hn (fun _ _ _ _ _ h _ => h)
    (fun i H h s => ⟨xs, xs[i], s.seq hl, by simp [h]⟩) (fun H s => ⟨xs, s.seq hl, Nat.le_refl _⟩)
    (fun i H x H' h s y => ⟨y.1, by have e := y.2 xs (s.seq hl); simp [e]⟩)
    (fun i h H2 R s k => hc i _ (by simp [h]) H2 R s k) (fun acc i h hp H2 R s n1 n2 k => he i _ (by simp [h]) hp H2 R s fun H3 s3 => k _ H3 s3 rfl)
    fun acc vs H' s n' e p => hQ acc H' s n' (by rw [e, paired_map p])
theorem sift {α : Type} {st : List Nat} {g : Nat → Bool} {F : Nat → α} : (((List.range st.length).filter fun j => g (st.getD j 0)).map fun j => F (st.getD j 0)) = (st.filter g).map F := by
  have e0 : st = (List.range st.length).map fun i => st.getD i 0 := by
    apply List.ext_getElem
    · simp
    · intro i h1 h2; simp [h1]
  conv => rhs; rw [e0]
  rw [List.filter_map, List.map_map]
  rfl
noncomputable def brk (f : Nat → Int) (n : Nat) (wd : Str) (k : Int) (st : List Nat) : Bool :=
  if wd = "most" then decide (k < ((unl f (st.filter fun i => decide (i < n)) : Nat) : Int)) else decide (((unl f (st.filter fun i => decide (i < n)) : Nat) : Int) + (st.length : Int) - ((st.filter fun i => decide (i < n)).length : Int) < k)
noncomputable def fx (hs : List Int) (x : Int) : Nat := hs.findIdx fun y => decide (y = x)
theorem fx_at {hs : List Int} {x : Int} (h : x ∈ hs) : hs[fx hs x]? = some x := by
  have hl : fx hs x < hs.length := List.findIdx_lt_length_of_exists ⟨x, h, by simp⟩
  have := List.findIdx_getElem (xs := hs) (p := fun y => decide (y = x)) (w := hl)
  rw [List.getElem?_eq_getElem hl]
  exact congrArg some (of_decide_eq_true this)
theorem fx_no {hs : List Int} {x : Int} {m : Nat} (h : m < fx hs x) : hs[m]? ≠ some x := fun z => by
  obtain ⟨hm, e⟩ := List.getElem?_eq_some_iff.mp z
  have := List.not_of_lt_findIdx h
  rw [e] at this
  simp at this
theorem fx_le {hs : List Int} {k : Nat} (h : k < hs.length) : fx hs (hs.getD k 0) ≤ k := by
  refine Decidable.byContradiction fun z => fx_no (by omega : k < fx hs (hs.getD k 0)) ?_
  rw [getD_get h, List.getElem?_eq_getElem h]
noncomputable def shN (hs : List Int) (k : Nat) : Nat := (dd (hs.take (fx hs (hs.getD k 0)))).length
noncomputable def shp (hs : List Int) : List Nat := (List.range hs.length).map (shN hs)
theorem shp_len {hs : List Int} : (shp hs).length = hs.length := by unfold shp; simp
theorem shp_at {hs : List Int} {k : Nat} (h : k < hs.length) : (shp hs)[k]? = some (shN hs k) := by
  unfold shp
  rw [List.getElem?_map, List.getElem?_range h]; rfl
end L2
set_option Elab.async false
set_option linter.all false
set_option maxRecDepth 100000
namespace L2
open PySem PySem.Spec PyProof.Rows
theorem comp_rlists {H1 : Hp} {js : List (Option Nat)} {σ : L2.St} {te : TE} {Q : VK} {n : Nat} (f : Nat → List V) (hn : n < 100000)
    (he : ∀ i : Nat, i < n → ∀ H2 R, Same H1 H2 → (∀ r H3, Same H2 H3 → H2 r = none → H3 r = some (.lst (f i)) → R (.ref r) H3) → te (some (.int (0 + (i : Int))) :: pick σ js) H2 R)
    (hQ : ∀ acc (rs : List Addr) H', Same H1 H' → H1 acc = none → H' acc = some (.lst (rs.map V.ref)) → rs.length = n → (∀ (i : Nat) r, rs[i]? = some r → H' r = some (.lst (f i)) ∧ H1 r = none) → (∀ r ∈ rs, r ≠ acc) → Q (.ref acc) H') :
    CompB (Itr 0 n) H1 (none :: js) (gName 0) tYes te σ Q :=
  comp_walk2 (J := Itr 0 n) (H1 := H1) (js := js) (σ := σ) (tc := tYes) (te := te) (Q := Q) n (fun i => .int (0 + (i : Int))) (fun _ => true) (fun acc i v H => ∃ r, v = .ref r ∧ r ≠ acc ∧ H1 r = none ∧ H r = some (.lst (f i))) hn
    (fun acc i v H H' ⟨r, e, n, h0, h⟩ s => ⟨r, e, n, h0, s r _ n h⟩) (fun _ _ h _ => h) (fun _ _ => Nat.le_refl _) (fun _ _ _ _ _ _ y => y) (fun _ _ _ _ _ h => h _ (Same.refl _))
    (fun acc i hi _ H2 R s n1 n2 k => he i hi H2 R s fun r H3 s3 nr h3 => k _ H3 s3 ⟨r, rfl, fun z => n2 (by rw [← z]; exact nr), s.free nr, h3⟩)
    fun acc vs H' s n' e p => by
      rw [List.filter_eq_self.mpr (fun _ _ => rfl)] at p
      have hl : vs.length = n := by rw [← Paired.length p, List.length_range]
      have all : ∀ (i : Nat) v, vs[i]? = some v → ∃ r, v = .ref r ∧ r ≠ acc ∧ H1 r = none ∧ H' r = some (.lst (f i)) := fun i v hv => by
        obtain ⟨k, hk, q⟩ := pair_get p hv
        have hi : i < n := by rw [← hl]; exact (List.getElem?_eq_some_iff.mp hv).1
        rw [List.getElem?_range hi] at hk
        cases hk
        exact q
      have ex : ∃ rs : List Addr, vs = rs.map V.ref := by
        refine ⟨vs.map fun v => match v with | .ref r => r | _ => 0, ?_⟩
        rw [List.map_map]
        apply List.ext_getElem
        · simp
        · intro i h1 h2
          obtain ⟨r, er, _⟩ := all i vs[i] (List.getElem?_eq_getElem h1)
          rw [List.getElem_map]
          show vs[i] = V.ref (match vs[i] with | .ref r => r | _ => 0)
          rw [er]
      obtain ⟨rs, rfl⟩ := ex
      rw [List.length_map] at hl
      refine hQ acc rs H' s n' e hl (fun i r hr => ?_) fun r hr => ?_
      · obtain ⟨r', er, _, h1, h2⟩ := all i (.ref r) (by rw [List.getElem?_map, hr]; rfl)
        cases er
        exact ⟨h2, h1⟩
      · obtain ⟨i, hi, ei⟩ := List.mem_iff_getElem.mp hr
        obtain ⟨r', er, h0, _⟩ := all i (.ref r) (by rw [List.getElem?_map, List.getElem?_eq_getElem hi, ei]; rfl)
        cases er
        exact h0
end L2
set_option Elab.async false
set_option linter.all false
set_option maxRecDepth 100000
namespace L2
open PySem PySem.Spec PyProof.Rows
theorem fx_app {l r : List Int} {b : Int} (h : b ∈ l) : fx (l ++ r) b = fx l b := by
  have hl : fx l b < l.length := List.findIdx_lt_length_of_exists ⟨b, h, by simp⟩
  unfold fx at *
  rw [List.findIdx_append, if_pos hl]
theorem fx_new {l : List Int} {b : Int} (h : b ∉ l) : fx (l ++ [b]) b = l.length := by
  have hl : ¬ fx l b < l.length := fun z => by
    have := List.findIdx_getElem (xs := l) (p := fun y => decide (y = b)) (w := z)
    exact h (by rw [← of_decide_eq_true this]; exact List.getElem_mem _)
  unfold fx at *
  rw [List.findIdx_append, if_neg hl]
  simp [List.findIdx_cons]
theorem fx_lt {l : List Int} {b : Int} (h : b ∈ l) : fx l b < l.length := List.findIdx_lt_length_of_exists ⟨b, h, by simp⟩
theorem snoc_ind {P : List Int → Prop} (h0 : P []) (hs : ∀ l x, P l → P (l ++ [x])) (l : List Int) : P l := by
  have : ∀ n, ∀ l : List Int, l.length = n → P l := fun n => by
    induction n with
    | zero => intro l h; rw [List.length_eq_zero_iff.mp h]; exact h0
    | succ n ih =>
      intro l h
      have e : l = l.dropLast ++ [l.getLast (by intro z; rw [z] at h; simp at h)] := (List.dropLast_concat_getLast _).symm
      rw [e]
      exact hs _ _ (ih _ (by rw [List.length_dropLast]; omega))
  exact this _ l rfl
end L2
set_option Elab.async false
set_option linter.all false
set_option maxRecDepth 100000
namespace L2
open PySem PySem.Spec PyProof.Rows
section
variable {X : Cx}
end
end L2
set_option Elab.async false
set_option linter.all false
set_option maxRecDepth 100000
namespace L2
open PySem PySem.Spec PyProof.Rows
noncomputable def num (hs : List Int) (b : Int) : Nat := (dd (hs.take (fx hs b))).length
theorem shp_map (hs : List Int) : shp hs = hs.map (num hs) := by
  apply List.ext_getElem
  · rw [shp_len, List.length_map]
  · intro i h1 h2
    rw [shp_len] at h1
    have := shp_at h1
    rw [List.getElem?_eq_getElem (by rw [shp_len]; exact h1)] at this
    rw [Option.some.inj this, List.getElem_map]
    unfold shN num
    rw [getD_get h1]
theorem num_lt {hs : List Int} {a b : Int} (ha : a ∈ hs) (h : fx hs a < fx hs b) : num hs a < num hs b := by
  have na : a ∉ hs.take (fx hs a) := fun m => by
    obtain ⟨i, hi, e⟩ := List.mem_iff_getElem.mp m
    rw [List.length_take] at hi
    rw [List.getElem_take] at e
    exact fx_no (show i < fx hs a by omega) (by rw [List.getElem?_eq_getElem (by omega), e])
  have ma : a ∈ hs.take (fx hs b) := by
    have hl := fx_lt ha
    have e := fx_at ha
    rw [List.getElem?_eq_getElem hl] at e
    rw [List.mem_iff_getElem]
    exact ⟨fx hs a, by rw [List.length_take]; omega, by rw [List.getElem_take]; exact Option.some.inj e⟩
  have nd : (dd (hs.take (fx hs a)) ++ [a]).Nodup := nd_snoc (dd_nd _) fun z => na (dd_mem.mp z)
  have := nd.length_le_of_subset (l₂ := dd (hs.take (fx hs b))) fun x hx => by
    rcases List.mem_append.mp hx with z | z
    · refine dd_mem.mpr ?_
      have hx' := dd_mem.mp z
      have : hs.take (fx hs a) = (hs.take (fx hs b)).take (fx hs a) := by rw [List.take_take, Nat.min_eq_left (by omega)]
      rw [this] at hx'
      exact List.mem_of_mem_take hx'
    · rw [List.mem_singleton.mp z]; exact dd_mem.mpr ma
  rw [List.length_append, List.length_singleton] at this
  exact this
theorem num_inj {hs : List Int} {a b : Int} (ha : a ∈ hs) (hb : b ∈ hs) (h : num hs a = num hs b) : a = b := by
  rcases Nat.lt_trichotomy (fx hs a) (fx hs b) with z | z | z
  · have := num_lt ha z; omega
  · have e1 := fx_at ha
    have e2 := fx_at hb
    rw [z, e2] at e1
    exact (Option.some.inj e1).symm
  · have := num_lt hb z; omega
theorem dd_map_len {g : Int → Int} (l : List Int) : (∀ x ∈ l, ∀ y ∈ l, g x = g y → x = y) → (dd (l.map g)).length = (dd l).length := by
  refine snoc_ind (P := fun l => (∀ x ∈ l, ∀ y ∈ l, g x = g y → x = y) → (dd (l.map g)).length = (dd l).length) (fun _ => rfl) (fun l x ih hi => ?_) l
  have ih := ih fun a ha b hb => hi a (List.mem_append_left _ ha) b (List.mem_append_left _ hb)
  rw [List.map_append, List.map_cons, List.map_nil, dd_snoc, dd_snoc]
  unfold dstep
  by_cases hx : x ∈ l
  · rw [if_pos (dd_mem.mpr (List.mem_map.mpr ⟨x, hx, rfl⟩)), if_pos (dd_mem.mpr hx), ih]
  · have hg : g x ∉ l.map g := fun m => by
      obtain ⟨y, hy, e⟩ := List.mem_map.mp m
      have := hi y (List.mem_append_left _ hy) x (by simp) e
      exact hx (by rw [← this]; exact hy)
    rw [if_neg fun z => hg (dd_mem.mp z), if_neg fun z => hx (dd_mem.mp z), List.length_append, List.length_append, ih]
    rfl
theorem shp_wide (hs : List Int) : (dd ((shp hs).map fun (i : Nat) => (i : Int))).length = (dd hs).length := by
  have e : (shp hs).map (fun (i : Nat) => (i : Int)) = hs.map fun b => ((num hs b : Nat) : Int) := by rw [shp_map, List.map_map]; rfl
  rw [e]
  exact dd_map_len hs fun x hx y hy h => num_inj hx hy (by omega)
theorem shp_take {hs : List Int} {k : Nat} (h : k ≤ hs.length) : shp (hs.take k) = (shp hs).take k := by
  rw [shp_map, shp_map, ← List.map_take]
  apply List.map_congr_left
  intro b hb
  have e : fx (hs.take k) b = fx hs b := by
    have := fx_app (r := hs.drop k) hb
    rw [List.take_append_drop] at this
    exact this.symm
  unfold num
  rw [e, List.take_take, Nat.min_eq_left]
  have := fx_lt hb
  rw [List.length_take] at this
  omega
theorem shN_le {hs : List Int} {k : Nat} (h : k < hs.length) : shN hs k ≤ (dd (hs.take k)).length := by
  unfold shN
  refine (dd_nd _).length_le_of_subset fun x hx => dd_mem.mpr ?_
  have hx := dd_mem.mp hx
  have fl := fx_le h
  have : hs.take (fx hs (hs.getD k 0)) = (hs.take k).take (fx hs (hs.getD k 0)) := by rw [List.take_take, Nat.min_eq_left fl]
  rw [this] at hx
  exact List.mem_of_mem_take hx
end L2
set_option Elab.async false
set_option linter.all false
set_option maxRecDepth 100000
namespace L2
open PySem PySem.Spec PyProof.Rows
end L2
set_option Elab.async false
set_option linter.all false
set_option maxRecDepth 100000
namespace L2
open PySem PySem.Spec PyProof.Rows
section
variable {X : Cx} {tg l : Expr} {tl : TE}
noncomputable def iSeq (K : PySem.W.Frag) (tl : TE) : TI := fun σ H R => tl σ H fun x H1 => ∃ a, x = .ref a ∧ ((∃ xs, SqL K H1 a xs) ∧ R (Itl K a) H1 ∨ (∃ xs, SqT K H1 a xs) ∧ R (Itt K a) H1)
theorem piE (K : PySem.W.Frag) (hl : PE X l tl) (h : X.K = K := by rfl) : PI X tg l (iSeq K tl) := by
  subst h
  intro pins s σ H R I h
  refine thn (hl pins s σ H _ I h) fun v s1 hq__ => ?_
  obtain ⟨x, H1, I1, r1, q1⟩ := hq__
  obtain ⟨a, e, q1⟩ := q1
  subst e
  cases r1
  rcases q1 with ⟨⟨xs, hq⟩, q⟩ | ⟨⟨xs, hq⟩, q⟩
  · obtain ⟨its, rv, p, hz⟩ := I1.list hq
    refine wpAny_pyIter_list p.isList ?_
    refine ⟨s1.heap.objs.size, [s1.heap.objs.size], _, _, H1, rfl, I1.kept (t' := s1.toks) fun b o e => Heap.get?_push_of_some _ e, turn_list a _, ⟨_, Heap.get?_push_size _ rfl, rfl, rfl⟩, fun b hb => ?_, q⟩
    have e : b = s1.heap.objs.size := by simpa using hb
    subst e
    exact I1.fpOk (Nat.le_refl _) (I1.hok.fresh (Nat.le_refl _))
  · obtain ⟨its, rv, p, hz⟩ := I1.tuple hq
    refine wpAny_pyIter_tuple (show s1.heap.IsTuple a its.toArray from p) ?_
    refine ⟨s1.heap.objs.size, [s1.heap.objs.size], _, _, H1, rfl, I1.kept (t' := s1.toks) fun b o e => Heap.get?_push_of_some _ e, turn_tuple a _, ⟨_, Heap.get?_push_size _ rfl, rfl, rfl⟩, fun b hb => ?_, q⟩
    have e : b = s1.heap.objs.size := by simpa using hb
    subst e
    exact I1.fpOk (Nat.le_refl _) (I1.hok.fresh (Nat.le_refl _))
end
theorem at_nat {st : List Nat} {j : Nat} {x : V} (hx : (st.map fun (i : Nat) => V.int (i : Int))[j]? = some x) : ∃ d : Nat, st[j]? = some d ∧ x = V.int (d : Int) ∧ st.getD j 0 = d := by
  rw [List.getElem?_map] at hx
  obtain ⟨b, h1, h2⟩ := Option.map_eq_some_iff.mp hx
  exact ⟨b, h1, h2.symm, by rw [List.getD_eq_getElem?_getD, h1]; rfl⟩
theorem dec_lt {d n : Nat} : decide (d < n) = decide ((d : Int) < (n : Int)) := by
  by_cases z : d < n
  · rw [decide_eq_true z, decide_eq_true (by omega)]
  · rw [decide_eq_false z, decide_eq_false (by omega)]
theorem all_at {hs : List Int} {st : List Nat} : ((List.range (st.map fun (i : Nat) => V.int (i : Int)).length).filter fun _ => true).map (fun j => V.int (hs.getD (st.getD j 0) 0)) = (st.map fun i => hs.getD i 0).map V.int := by
  rw [List.filter_eq_self.mpr (fun _ _ => rfl), List.length_map]
  apply List.ext_getElem
  · simp
  · intro j h1 h2
    simp only [List.length_map, List.length_range] at h1
    have : st.getD j 0 = st[j] := by simp only [List.getD_eq_getElem?_getD, List.getElem?_eq_getElem h1, Option.getD_some]
    simp only [List.getElem_map, List.getElem_range, this]
section
variable {X : Cx}
end
end L2
set_option Elab.async false
set_option linter.all false
set_option maxRecDepth 100000
namespace L2
open PySem PySem.Spec PyProof.Rows
theorem comp_inv {J : It} {H1 : Hp} {js : List (Option Nat)} {σ : L2.St} {te : TE} {Q : VK} (n : Nat) (item : Nat → V) (P : Addr → List V → Hp → Prop) (hn : n < 100000)
    (mono : ∀ acc ys H H', P acc ys H → SameBut acc H H' → P acc ys H') (h0 : ∀ acc H, P acc [] H)
    (hgo : ∀ i H, i < n → Same H1 H → J.go i H) (hst : ∀ H, Same H1 H → J.stop n H) (hy : ∀ i H x H', i < n → Same H1 H → J.yld i H x H' → H' = H ∧ x = item i)
    (he : ∀ acc i ys H2 R, i < n → Same H1 H2 → H1 acc = none → H2 acc = some (.lst ys) → ys.length = i → P acc ys H2 → (∀ v H3, Same H2 H3 → P acc (ys ++ [v]) H3 → R v H3) → te (some (item i) :: pick σ js) H2 R)
    (hQ : ∀ acc ys H', Same H1 H' → H1 acc = none → H' acc = some (.lst ys) → ys.length = n → P acc ys H' → Q (.ref acc) H') :
    CompB J H1 (none :: js) (gName 0) tYes te σ Q := by
  intro acc hacc
  refine ⟨fun i m ys H => m = n - i ∧ i ≤ n ∧ Same H1 H ∧ H acc = some (.lst ys) ∧ ys.length = i ∧ P acc ys H, ⟨n, by simp, Nat.zero_le _, Same.new hacc, upd_same, rfl, h0 _ _⟩, ?_⟩
  rintro i m ys H ⟨rfl, hi, s1, ha, hl, hp⟩
  by_cases hlt : i < n
  · refine .inr ⟨hgo i H hlt s1, fun ys' H' => i < n ∧ Same H1 H' ∧ H' acc = some (.lst ys') ∧ ys'.length = i + 1 ∧ P acc ys' H', fun ys' H' ⟨z, a, b, c, d⟩ => ⟨n - (i + 1), by omega, rfl, hlt, a, b, c, d⟩, fun x H' y => ?_⟩
    obtain ⟨rfl, rfl⟩ := hy i H x H' hlt s1 y
    refine ⟨kept1, ⟨fun _ => ?_, fun hb => by cases hb⟩⟩
    refine he acc i ys _ _ hlt s1 hacc ha hl hp fun v H3 s3 pv => ?_
    refine ⟨s3 _ _ ha, szn (by omega), hlt, (s1.trans s3).put hacc, upd_same, by rw [List.length_append, List.length_singleton, hl], ?_⟩
    exact mono acc _ _ _ pv SameBut.upd
  · have e : i = n := by omega
    subst e
    exact .inl ⟨hst H s1, hQ acc ys H s1 hacc ha hl hp⟩
theorem comp_invL {K : PySem.W.Frag} {H1 : Hp} {js : List (Option Nat)} {σ : L2.St} {te : TE} {Q : VK} {a : Addr} {xs : List V} (P : Addr → List V → Hp → Prop) (hl : SqL K H1 a xs) (hn : xs.length < 100000)
    (mono : ∀ acc ys H H', P acc ys H → SameBut acc H H' → P acc ys H') (h0 : ∀ acc H, P acc [] H)
    (he : ∀ acc (i : Nat) x ys H2 R, xs[i]? = some x → Same H1 H2 → H1 acc = none → H2 acc = some (.lst ys) → ys.length = i → P acc ys H2 → (∀ v H3, Same H2 H3 → P acc (ys ++ [v]) H3 → R v H3) → te (some x :: pick σ js) H2 R)
    (hQ : ∀ acc ys H', Same H1 H' → H1 acc = none → H' acc = some (.lst ys) → ys.length = xs.length → P acc ys H' → Q (.ref acc) H') :
    CompB (Itl K a) H1 (none :: js) (gName 0) tYes te σ Q :=
  comp_inv (J := Itl K a) (H1 := H1) (js := js) (σ := σ) (te := te) (Q := Q) xs.length (fun i => xs.getD i .non) P hn mono h0
    (fun i H h s => ⟨xs, xs[i], s.seq hl, by simp [h]⟩) (fun H s => ⟨xs, s.seq hl, Nat.le_refl _⟩)
    (fun i H x H' h s y => ⟨y.1, by have e := y.2 xs (s.seq hl); simp [e]⟩)
    (fun acc i ys H2 R h s n1 n2 ln p k => he acc i _ ys H2 R (by simp [h]) s n1 n2 ln p k) hQ
theorem comp_invR {H1 : Hp} {js : List (Option Nat)} {σ : L2.St} {te : TE} {Q : VK} {n : Nat} (P : Addr → List V → Hp → Prop) (hn : n < 100000)
    (mono : ∀ acc ys H H', P acc ys H → SameBut acc H H' → P acc ys H') (h0 : ∀ acc H, P acc [] H)
    (he : ∀ acc (i : Nat) ys H2 R, i < n → Same H1 H2 → H1 acc = none → H2 acc = some (.lst ys) → ys.length = i → P acc ys H2 → (∀ v H3, Same H2 H3 → P acc (ys ++ [v]) H3 → R v H3) → te (some (.int (0 + (i : Int))) :: pick σ js) H2 R)
    (hQ : ∀ acc ys H', Same H1 H' → H1 acc = none → H' acc = some (.lst ys) → ys.length = n → P acc ys H' → Q (.ref acc) H') :
    CompB (Itr 0 n) H1 (none :: js) (gName 0) tYes te σ Q :=
  comp_inv (J := Itr 0 n) (H1 := H1) (js := js) (σ := σ) (te := te) (Q := Q) n (fun i => .int (0 + (i : Int))) P hn mono h0
    (fun _ _ h _ => h) (fun _ _ => Nat.le_refl _) (fun _ _ _ _ _ _ y => y) he hQ
theorem dec_intP {i j : Int} : decide (i = j) = decide (V.int i = V.int j) := by
  by_cases z : i = j
  · simp [z]
  · simp [z]
theorem atI_int {ns : List Int} {j : Nat} (h : j < ns.length) : atI (ns.map V.int) (j : Int) = some (.int (ns.getD j 0)) := atI_nat (by simp [h])
noncomputable def RowsL (H : Hp) (rs : List Addr) (ps : List (List Int)) : Prop := Paired (fun r p => H r = some (.lst (p.map V.int))) rs ps
theorem RowsL.len {H : Hp} {rs : List Addr} {ps : List (List Int)} (h : RowsL H rs ps) : rs.length = ps.length := Paired.length h
theorem RowsL.same {H H' : Hp} {rs : List Addr} {ps : List (List Int)} (h : RowsL H rs ps) (s : Same H H') : RowsL H' rs ps := Paired.mapP h fun _ _ q => s _ _ q
theorem RowsL.pools {K : PySem.W.Frag} {H : Hp} {rs : List Addr} {ps : List (List Int)} (h : RowsL H rs ps) : PoolsL K H rs ps := Paired.mapP h fun _ _ q => SqL.of q
theorem RowsL.at {H : Hp} {rs : List Addr} {ps : List (List Int)} (h : RowsL H rs ps) {i : Nat} {p : List Int} (e : ps[i]? = some p) : ∃ r, rs[i]? = some r ∧ H r = some (.lst (p.map V.int)) := pair_get (F := fun (r : Addr) (p : List Int) => H r = some (.lst (p.map V.int))) h e
theorem RowsL.get {H : Hp} {rs : List Addr} {ps : List (List Int)} (h : RowsL H rs ps) {i : Nat} {r : Addr} (e : rs[i]? = some r) : ∃ p, ps[i]? = some p ∧ H r = some (.lst (p.map V.int)) := by
  have hi : i < ps.length := by rw [← h.len]; exact (List.getElem?_eq_some_iff.mp e).1
  obtain ⟨r', e1, e2⟩ := h.at (List.getElem?_eq_getElem hi)
  rw [e] at e1
  cases e1
  exact ⟨_, List.getElem?_eq_getElem hi, e2⟩
theorem RowsL.of {H : Hp} {rs : List Addr} {ps : List (List Int)} (hl : rs.length = ps.length) (h : ∀ (i : Nat) r p, rs[i]? = some r → ps[i]? = some p → H r = some (.lst (p.map V.int))) : RowsL H rs ps := paired_of hl h
theorem RowsL.set {H : Hp} {rs : List Addr} {ps : List (List Int)} (h : RowsL H rs ps) (nd : rs.Nodup) {j : Nat} {r : Addr} (e : rs[j]? = some r) (p : List Int) : RowsL (upd H r (.lst (p.map V.int))) rs (ps.set j p) := by
  refine RowsL.of (by rw [List.length_set, h.len]) fun i r' p' e1 e2 => ?_
  by_cases z : i = j
  · subst z
    rw [e] at e1
    cases e1
    have hi : i < ps.length := by rw [← h.len]; exact (List.getElem?_eq_some_iff.mp e).1
    rw [List.getElem?_set_self hi] at e2
    cases e2
    exact upd_same
  · rw [List.getElem?_set_ne (fun y => z y.symm)] at e2
    have ne : r' ≠ r := fun y => by
      subst y
      obtain ⟨h1, h1'⟩ := List.getElem?_eq_some_iff.mp e1
      obtain ⟨h2, h2'⟩ := List.getElem?_eq_some_iff.mp e
      exact z ((List.getElem_inj nd).mp (h1'.trans h2'.symm))
    obtain ⟨p2, e3, e4⟩ := h.get e1
    rw [e2] at e3
    cases e3
    rw [upd_ne ne]
    exact e4
structure TieT (H : Hp) (x : Addr × Addr × Str × Int × List Nat) : Prop where
  tp : H x.1 = some (.tup [.str x.2.2.1, .int x.2.2.2.1, .ref x.2.1])
  ts : H x.2.1 = some (.tup (x.2.2.2.2.map fun (i : Nat) => V.int (i : Int)))
  wd : x.2.2.1 = "most" ∨ x.2.2.1 = "least"
  sl : x.2.2.2.2.length ≤ 6
theorem TieT.same {H H' : Hp} {x : Addr × Addr × Str × Int × List Nat} (h : TieT H x) (s : Same H H') : TieT H' x := ⟨s _ _ h.tp, s _ _ h.ts, h.wd, h.sl⟩
structure TieG (n : Nat) (x : Addr × Addr × Str × Int × List Nat) : Prop where
  k1 : 1 ≤ x.2.2.2.1
  k6 : x.2.2.2.1 ≤ 6
  ne : x.2.2.2.2 ≠ []
  lt : ∀ i ∈ x.2.2.2.2, i < n
  up : x.2.2.2.2.Pairwise (· < ·)
structure Ties (K : PySem.W.Frag) (H : Hp) (b : Addr) (ts : List (Addr × Addr × Str × Int × List Nat)) (n : Nat) : Prop where
  ls : SqL K H b (ts.map fun x => V.ref x.1)
  ea : ∀ x ∈ ts, TieT H x
  ln : ts.length ≤ n
noncomputable def fstB (f : Nat → Int) (n : Nat) (ts : List (Addr × Addr × Str × Int × List Nat)) : Option Nat := ts.findIdx? fun x => brk f n x.2.2.1 x.2.2.2.1 x.2.2.2.2
noncomputable def optV : Option Nat → V
  | none => .non
  | some i => .int ((i : Nat) : Int)
structure Drawn (H : Hp) (l m L T : Addr) (ms : List Int) (rs : List Addr) (ps : List (List Int)) (ts : List (Addr × Addr × Str × Int × List Nat)) (top : Nat) : Prop where
  hl : H l = some (.lst [.ref m, .ref L, .ref T])
  hm : H m = some (.lst (ms.map V.int))
  hL : H L = some (.lst (rs.map V.ref))
  hT : H T = some (.lst (ts.map fun x => V.ref x.1))
  rows : RowsL H rs ps
  mup : ms.Pairwise (· < ·)
  mne : ms ≠ []
  m8 : ms.length ≤ 8
  mb : ∀ b ∈ ms, 1 ≤ b ∧ b ≤ 10 ^ 18
  pup : ∀ p ∈ ps, p.Pairwise (· < ·)
  psub : ∀ p ∈ ps, ∀ b ∈ p, b ∈ ms
  p1 : 1 ≤ ps.length
  ptop : ps.length ≤ top
  p6 : ps.length ≤ 6
  tea : ∀ x ∈ ts, TieT H x
  tg : ∀ x ∈ ts, TieG ps.length x
  t12 : ts.length ≤ 12
end L2
set_option Elab.async false
set_option linter.all false
set_option maxRecDepth 100000
namespace L2
open PySem PySem.Spec PyProof.Rows
theorem dd_le {l r : List Int} (h : ∀ x ∈ l, x ∈ r) : (dd l).length ≤ (dd r).length := (dd_nd l).length_le_of_subset fun x hx => dd_mem.mpr (h x (dd_mem.mp hx))
theorem unl_sub {f : Nat → Int} {A st : List Nat} (h : ∀ i ∈ A, i ∈ st) : unl f A ≤ unl f st := dd_le fun x hx => by
  obtain ⟨i, hi, e⟩ := List.mem_map.mp hx
  exact List.mem_map.mpr ⟨i, h i hi, e⟩
theorem snoc_indN {P : List Nat → Prop} (h0 : P []) (hs : ∀ l x, P l → P (l ++ [x])) (l : List Nat) : P l := by
  have : ∀ n (l : List Nat), l.length = n → P l := by
    intro n
    induction n with
    | zero => intro l e; rw [List.length_eq_zero_iff.mp e]; exact h0
    | succ n ih =>
      intro l e
      have hne : l ≠ [] := fun z => by rw [z] at e; simp at e
      rw [← List.dropLast_concat_getLast hne]
      exact hs _ _ (ih _ (by rw [List.length_dropLast, e]; rfl))
  exact this _ l rfl
theorem unl_iff {f g : Nat → Int} (A : List Nat) : (∀ i ∈ A, ∀ j ∈ A, f i = f j ↔ g i = g j) → unl f A = unl g A := by
  refine snoc_indN (P := fun A => (∀ i ∈ A, ∀ j ∈ A, f i = f j ↔ g i = g j) → unl f A = unl g A) (fun _ => rfl) (fun l x ih h => ?_) A
  have ih' := ih fun i hi j hj => h i (List.mem_append_left _ hi) j (List.mem_append_left _ hj)
  rw [unl_snoc, unl_snoc, ih']
  have e : f x ∈ l.map f ↔ g x ∈ l.map g := by
    constructor
    · intro m
      obtain ⟨i, hi, e⟩ := List.mem_map.mp m
      exact List.mem_map.mpr ⟨i, hi, (h i (List.mem_append_left _ hi) x (by simp)).mp e⟩
    · intro m
      obtain ⟨i, hi, e⟩ := List.mem_map.mp m
      exact List.mem_map.mpr ⟨i, hi, (h i (List.mem_append_left _ hi) x (by simp)).mpr e⟩
  by_cases z : f x ∈ l.map f
  · rw [if_pos z, if_pos (e.mp z)]
  · rw [if_neg z, if_neg fun y => z (e.mpr y)]
theorem filt_len {st : List Nat} {p : Nat → Bool} : (st.filter p).length + (st.filter fun i => !p i).length = st.length := by
  induction st with
  | nil => rfl
  | cons x r ih =>
    by_cases h : p x = true
    · simp [h]; omega
    · have h' : p x = false := by simpa using h
      simp [h']; omega
theorem unl_add {f : Nat → Int} {st : List Nat} {p : Nat → Bool} : unl f st + (st.filter p).length ≤ unl f (st.filter p) + st.length := by
  have := (dd_nd (st.map f)).length_le_of_subset (l₂ := dd ((st.filter p).map f) ++ (st.filter fun i => !p i).map f) fun x hx => by
    obtain ⟨i, hi, e⟩ := List.mem_map.mp (dd_mem.mp hx)
    by_cases h : p i = true
    · exact List.mem_append_left _ (dd_mem.mpr (List.mem_map.mpr ⟨i, List.mem_filter.mpr ⟨hi, h⟩, e⟩))
    · exact List.mem_append_right _ (List.mem_map.mpr ⟨i, List.mem_filter.mpr ⟨hi, by simpa using h⟩, e⟩)
  rw [List.length_append, List.length_map] at this
  have := filt_len (st := st) (p := p)
  unfold unl
  omega
noncomputable def kp (f : Nat → Int) (wd : Str) (k : Int) (st : List Nat) : Bool := if wd = "most" then decide (((unl f st : Nat) : Int) ≤ k) else decide (k ≤ ((unl f st : Nat) : Int))
theorem brk_iff {f g : Nat → Int} {n : Nat} {wd : Str} {k : Int} {st : List Nat} (h : ∀ i, i < n → ∀ j, j < n → (f i = f j ↔ g i = g j)) : brk f n wd k st = brk g n wd k st := by
  unfold brk
  have e : unl f (st.filter fun i => decide (i < n)) = unl g (st.filter fun i => decide (i < n)) := unl_iff _ fun i hi j hj => h i (of_decide_eq_true (List.mem_filter.mp hi).2) j (of_decide_eq_true (List.mem_filter.mp hj).2)
  rw [e]
theorem shpI_at {hs : List Int} {i : Nat} (h : i < hs.length) : ((shp hs).map fun (i : Nat) => (i : Int)).getD i 0 = (num hs (hs.getD i 0) : Int) := by
  rw [shp_map, List.map_map]
  simp [h, List.getD_eq_getElem?_getD]
theorem shp_same {hs : List Int} {i j : Nat} (hi : i < hs.length) (hj : j < hs.length) : ((shp hs).map fun (i : Nat) => (i : Int)).getD i 0 = ((shp hs).map fun (i : Nat) => (i : Int)).getD j 0 ↔ hs.getD i 0 = hs.getD j 0 := by
  rw [shpI_at hi, shpI_at hj]
  constructor
  · intro h
    exact num_inj (by rw [getD_get hi]; exact List.getElem_mem hi) (by rw [getD_get hj]; exact List.getElem_mem hj) (by omega)
  · intro h; rw [h]
theorem brk_no {f : Nat → Int} {n : Nat} {wd : Str} {k : Int} {st : List Nat} (h : brk f n wd k st = true) : kp f wd k st = false := by
  unfold brk at h
  unfold kp
  by_cases z : wd = "most"
  · rw [if_pos z] at h ⊢
    have h := of_decide_eq_true h
    have := unl_sub (f := f) (A := st.filter fun i => decide (i < n)) (st := st) fun i hi => (List.mem_filter.mp hi).1
    exact decide_eq_false (by omega)
  · rw [if_neg z] at h ⊢
    have h := of_decide_eq_true h
    have := unl_add (f := f) (st := st) (p := fun i => decide (i < n))
    exact decide_eq_false (by omega)
theorem brk_whole {f : Nat → Int} {n : Nat} {wd : Str} {k : Int} {st : List Nat} (h : ∀ i ∈ st, i < n) : brk f n wd k st = !kp f wd k st := by
  have e : st.filter (fun i => decide (i < n)) = st := List.filter_eq_self.mpr fun i hi => decide_eq_true (h i hi)
  unfold brk kp
  rw [e]
  by_cases z : wd = "most"
  · rw [if_pos z, if_pos z]
    by_cases y : k < (unl f st : Int)
    · rw [decide_eq_true y, decide_eq_false (by omega)]; rfl
    · rw [decide_eq_false y, decide_eq_true (by omega)]; rfl
  · rw [if_neg z, if_neg z]
    by_cases y : k ≤ (unl f st : Int)
    · rw [decide_eq_false (by omega), decide_eq_true y]; rfl
    · rw [decide_eq_true (by omega), decide_eq_false y]; rfl
theorem kp_iff {f g : Nat → Int} {n : Nat} {wd : Str} {k : Int} {st : List Nat} (hl : ∀ i ∈ st, i < n) (h : ∀ i, i < n → ∀ j, j < n → (f i = f j ↔ g i = g j)) : kp f wd k st = kp g wd k st := by
  unfold kp
  rw [unl_iff st fun i hi j hj => h i (hl i hi) j (hl j hj)]
theorem shN_iff {hs os : List Int} (hl : hs.length = os.length) (h : ∀ i, i < hs.length → ∀ j, j < hs.length → (hs.getD i 0 = hs.getD j 0 ↔ os.getD i 0 = os.getD j 0)) {k : Nat} (hk : k < hs.length) : shN hs k = shN os k := by
  have hk' : k < os.length := by omega
  have mh : hs.getD k 0 ∈ hs := by rw [getD_get hk]; exact List.getElem_mem hk
  have mo : os.getD k 0 ∈ os := by rw [getD_get hk']; exact List.getElem_mem hk'
  have ef : fx hs (hs.getD k 0) = fx os (os.getD k 0) := by
    have a1 := fx_lt mh
    have a2 := fx_lt mo
    have b1 := fx_at mh
    have b2 := fx_at mo
    have c1 : hs.getD (fx hs (hs.getD k 0)) 0 = hs.getD k 0 := by rw [List.getD_eq_getElem?_getD, b1]; rfl
    have c2 : os.getD (fx os (os.getD k 0)) 0 = os.getD k 0 := by rw [List.getD_eq_getElem?_getD, b2]; rfl
    have d1 := (h _ a1 _ hk).mp c1
    have d2 := (h _ (by omega) _ hk).mpr c2
    have g1 : ∀ m, m < fx os (os.getD k 0) → os.getD m 0 ≠ os.getD k 0 := fun m hm e => by
      have := List.not_of_lt_findIdx hm
      rw [getD_get (by omega : m < os.length)] at e
      simp at this
      exact this (by rw [e, List.getD_eq_getElem?_getD])
    have g2 : ∀ m, m < fx hs (hs.getD k 0) → hs.getD m 0 ≠ hs.getD k 0 := fun m hm e => by
      have := List.not_of_lt_findIdx hm
      rw [getD_get (by omega : m < hs.length)] at e
      simp at this
      exact this (by rw [e, List.getD_eq_getElem?_getD])
    rcases Nat.lt_trichotomy (fx hs (hs.getD k 0)) (fx os (os.getD k 0)) with y | y | y
    · exact absurd d1 (g1 _ y)
    · exact y
    · exact absurd d2 (g2 _ y)
  have el : ∀ n, n ≤ hs.length → (dd (hs.take n)).length = (dd (os.take n)).length := fun n hn => by
    have e1 : ∀ (l : List Int), n ≤ l.length → l.take n = (List.range n).map fun i => l.getD i 0 := fun l hl' => by
      apply List.ext_getElem
      · simp; omega
      · intro i h1 h2
        simp only [List.length_take] at h1
        have : i < l.length := by omega
        simp [this]
    have u := unl_iff (f := fun i => hs.getD i 0) (g := fun i => os.getD i 0) (List.range n) fun i hi j hj => h i (by have := List.mem_range.mp hi; omega) j (by have := List.mem_range.mp hj; omega)
    unfold unl at u
    rw [← e1 hs hn, ← e1 os (by omega)] at u
    exact u
  unfold shN
  rw [← ef]
  exact el _ (Nat.le_of_lt (fx_lt mh))
theorem shp_eq_iff {hs os : List Int} (hl : hs.length = os.length) : shp hs = shp os ↔ ∀ i, i < hs.length → ∀ j, j < i → (hs.getD i 0 = hs.getD j 0 ↔ os.getD i 0 = os.getD j 0) := by
  constructor
  · intro e i hi j hj
    rw [← shp_same hi (by omega), ← shp_same (hs := os) (by omega) (by omega), e]
  · intro h
    have h' : ∀ i, i < hs.length → ∀ j, j < hs.length → (hs.getD i 0 = hs.getD j 0 ↔ os.getD i 0 = os.getD j 0) := fun i hi j hj => by
      rcases Nat.lt_trichotomy i j with y | y | y
      · have := h j hj i y
        exact ⟨fun e => (this.mp e.symm).symm, fun e => (this.mpr e.symm).symm⟩
      · subst y; simp
      · exact h i hi j y
    unfold shp
    rw [← hl]
    exact List.map_congr_left fun k hk => shN_iff hl h' (List.mem_range.mp hk)
theorem dd_snoc_len (l : List Int) (x : Int) : (dd (l ++ [x])).length = if x ∈ l then (dd l).length else (dd l).length + 1 := by
  rw [dd_snoc]
  unfold dstep
  by_cases h : x ∈ l
  · rw [if_pos h, if_pos (dd_mem.mpr h)]
  · rw [if_neg h, if_neg fun z => h (dd_mem.mp z), List.length_append, List.length_singleton]
noncomputable def Canon (p : List Int) : Prop := p = (shp p).map fun (i : Nat) => (i : Int)
theorem shp_lt {hs : List Int} {k : Nat} (h : k < hs.length) : shN hs k < (dd hs).length := by
  unfold shN
  have m : hs.getD k 0 ∈ hs := by rw [getD_get h]; exact List.getElem_mem h
  have a := fx_lt m
  have nm : hs.getD k 0 ∉ hs.take (fx hs (hs.getD k 0)) := fun z => by
    obtain ⟨i, hi, e⟩ := List.mem_iff_getElem.mp z
    rw [List.length_take] at hi
    have := List.not_of_lt_findIdx (show i < fx hs (hs.getD k 0) by omega)
    rw [List.getElem_take] at e
    simp at this
    exact this (by rw [e, List.getD_eq_getElem?_getD])
  have e := dd_snoc_len (hs.take (fx hs (hs.getD k 0))) (hs.getD k 0)
  rw [if_neg nm] at e
  have := dd_le (l := hs.take (fx hs (hs.getD k 0)) ++ [hs.getD k 0]) (r := hs) fun x hx => by
    rcases List.mem_append.mp hx with z | z
    · exact List.mem_of_mem_take z
    · rw [List.mem_singleton.mp z]; exact m
  omega
theorem shp_snoc (p : List Int) (x : Int) : shp (p ++ [x]) = shp p ++ [if x ∈ p then num p x else (dd p).length] := by
  have h1 : (shp (p ++ [x])).take p.length = shp p := by
    rw [← shp_take (by simp), List.take_left']; rfl
  have h2 : (shp (p ++ [x]))[p.length]? = some (shN (p ++ [x]) p.length) := shp_at (by simp)
  have e : shp (p ++ [x]) = (shp (p ++ [x])).take p.length ++ [shN (p ++ [x]) p.length] := by
    have hlen : (shp (p ++ [x])).length = p.length + 1 := by rw [shp_len]; simp
    conv => lhs; rw [← List.take_append_drop p.length (shp (p ++ [x]))]
    congr 1
    apply List.ext_getElem?
    intro i
    rw [List.getElem?_drop]
    cases i with
    | zero => rw [Nat.add_zero, h2]; rfl
    | succ i =>
      rw [List.getElem?_eq_none (by omega)]
      simp
  rw [e, h1]
  congr 2
  have eg : (p ++ [x]).getD p.length 0 = x := by simp [List.getD_eq_getElem?_getD]
  unfold shN
  rw [eg]
  by_cases z : x ∈ p
  · rw [if_pos z, fx_app z]
    unfold num
    rw [List.take_append_of_le_length (Nat.le_of_lt (fx_lt z))]
  · rw [if_neg z, fx_new z, List.take_left']; rfl
theorem num_canon {p : List Int} (c : Canon p) {j : Nat} (h : (j : Int) ∈ p) : num p (j : Int) = j := by
  obtain ⟨i, hi, e⟩ := List.mem_iff_getElem.mp h
  have g := shpI_at hi
  rw [← c, getD_get hi, e] at g
  omega
theorem canon_mem {p : List Int} (c : Canon p) {x : Int} (h : x ∈ p) : ∃ j : Nat, x = (j : Int) ∧ j < (dd p).length := by
  rw [c] at h
  obtain ⟨j, hj, e⟩ := List.mem_map.mp h
  obtain ⟨i, hi, e2⟩ := List.mem_iff_getElem.mp hj
  rw [shp_len] at hi
  have g := shp_at hi
  rw [List.getElem?_eq_getElem (by rw [shp_len]; exact hi), e2] at g
  have := shp_lt hi
  refine ⟨j, e.symm, ?_⟩
  have : j = shN p i := Option.some.inj g
  omega
theorem canon_has {p : List Int} (c : Canon p) {j : Nat} (h : j < (dd p).length) : (j : Int) ∈ p := by
  refine Decidable.byContradiction fun n => ?_
  have := (dd_nd p).length_le_of_subset (l₂ := ((List.range (dd p).length).filter fun i => decide (i ≠ j)).map fun (i : Nat) => (i : Int)) fun x hx => by
    have hx := dd_mem.mp hx
    obtain ⟨i, e, hi⟩ := canon_mem c hx
    refine List.mem_map.mpr ⟨i, List.mem_filter.mpr ⟨List.mem_range.mpr hi, decide_eq_true fun z => n ?_⟩, e.symm⟩
    rw [← z, ← e]; exact hx
  rw [List.length_map] at this
  have lt : ((List.range (dd p).length).filter fun i => decide (i ≠ j)).length < (List.range (dd p).length).length := by
    refine Nat.lt_of_le_of_ne (List.length_filter_le _ _) fun z => ?_
    have := List.length_filter_eq_length_iff.mp z j (List.mem_range.mpr h)
    simp at this
  rw [List.length_range] at lt
  omega
theorem canon_nil : Canon [] := rfl
theorem canon_snoc {p : List Int} (c : Canon p) {j : Nat} (h : j ≤ (dd p).length) : Canon (p ++ [(j : Int)]) := by
  unfold Canon
  rw [shp_snoc, List.map_append, ← c]
  congr 1
  by_cases z : (j : Int) ∈ p
  · rw [if_pos z, num_canon c z]; rfl
  · rw [if_neg z]
    have : ¬ j < (dd p).length := fun y => z (canon_has c y)
    have : j = (dd p).length := by omega
    rw [this]; rfl
end L2
set_option Elab.async false
set_option linter.all false
set_option maxRecDepth 100000
namespace L2
open PySem PySem.Spec PyProof.Rows
end L2
set_option Elab.async false
set_option linter.all false
set_option maxRecDepth 100000
namespace L2
open PySem PySem.Spec PyProof.Rows
noncomputable def blkS (p : List Int) (b : Nat) : List Nat := (List.range p.length).filter fun i => decide (p.getD i 0 = (b : Int))
theorem blkS_mem {p : List Int} {b i : Nat} : i ∈ blkS p b ↔ i < p.length ∧ p.getD i 0 = (b : Int) := by
  unfold blkS
  rw [List.mem_filter, List.mem_range, decide_eq_true_iff]
theorem blkS_ne {p : List Int} (c : Canon p) {b : Nat} (h : b < (dd p).length) : blkS p b ≠ [] := by
  obtain ⟨i, hi, e⟩ := List.mem_iff_getElem.mp (canon_has c h)
  intro z
  have : i ∈ blkS p b := blkS_mem.mpr ⟨hi, by rw [getD_get hi, e]⟩
  rw [z] at this
  cases this
noncomputable def poolS (st : List Nat) (may : List (List Int)) : List Int := (may.getD (st.getD 0 0) []).filter fun x => st.all fun s => decide (x ∈ may.getD s [])
noncomputable def poolN (may : List (List Int)) (p : List Int) (b : Nat) : List Int := poolS (blkS p b) may
noncomputable def pools (may : List (List Int)) (p : List Int) : List (List Int) := (List.range (dd p).length).map (poolN may p)
theorem pools_len {may : List (List Int)} {p : List Int} : (pools may p).length = (dd p).length := by unfold pools; simp
theorem pools_at {may : List (List Int)} {p : List Int} {b : Nat} (h : b < (dd p).length) : (pools may p)[b]? = some (poolN may p b) := by
  unfold pools
  rw [List.getElem?_map, List.getElem?_range h]; rfl
theorem poolS_mem {st : List Nat} {may : List (List Int)} {x : Int} (h : st ≠ []) : x ∈ poolS st may ↔ ∀ s ∈ st, x ∈ may.getD s [] := by
  unfold poolS
  rw [List.mem_filter, List.all_eq_true]
  constructor
  · intro ⟨_, a⟩ s hs
    exact of_decide_eq_true (a s hs)
  · intro a
    refine ⟨a _ ?_, fun s hs => decide_eq_true (a s hs)⟩
    cases st with
    | nil => exact absurd rfl h
    | cons s r => simp
theorem poolN_mem {may : List (List Int)} {p : List Int} {b : Nat} {x : Int} (c : Canon p) (h : b < (dd p).length) : x ∈ poolN may p b ↔ ∀ i, i < p.length → p.getD i 0 = (b : Int) → x ∈ may.getD i [] := by
  unfold poolN
  rw [poolS_mem (blkS_ne c h)]
  exact ⟨fun a i h1 h2 => a i (blkS_mem.mpr ⟨h1, h2⟩), fun a s hs => a s (blkS_mem.mp hs).1 (blkS_mem.mp hs).2⟩
theorem poolS_up {st : List Nat} {may : List (List Int)} (h : ∀ p ∈ may, p.Pairwise (· < ·)) : (poolS st may).Pairwise (· < ·) := by
  unfold poolS
  refine List.Pairwise.filter _ ?_
  by_cases z : st.getD 0 0 < may.length
  · have : may.getD (st.getD 0 0) [] = may[st.getD 0 0] := by rw [List.getD_eq_getElem?_getD, List.getElem?_eq_getElem z]; rfl
    rw [this]
    exact h _ (List.getElem_mem z)
  · have : may.getD (st.getD 0 0) [] = [] := by rw [List.getD_eq_getElem?_getD, List.getElem?_eq_none (by omega)]; rfl
    rw [this]; exact List.Pairwise.nil
noncomputable abbrev Tie := Str × Int × List Nat
structure IsPlan (may : List (List Int)) (ts : List Tie) (hs : List Int) : Prop where
  len : hs.length = may.length
  of : ∀ i, i < hs.length → hs.getD i 0 ∈ may.getD i []
  kp : ∀ t ∈ ts, kp (fun i => hs.getD i 0) t.1 t.2.1 t.2.2 = true
noncomputable def Beg (p hs : List Int) : Prop := p.length ≤ hs.length ∧ ((shp hs).map fun (i : Nat) => (i : Int)).take p.length = p
theorem Beg.at {p hs : List Int} (b : Beg p hs) {i : Nat} (h : i < p.length) : ((shp hs).map fun (i : Nat) => (i : Int)).getD i 0 = p.getD i 0 := by
  rw [← congrArg (fun l => List.getD l i 0) b.2]
  simp [List.getD_eq_getElem?_getD, List.getElem?_take, h]
theorem Beg.same {p hs : List Int} (b : Beg p hs) {i j : Nat} (hi : i < p.length) (hj : j < p.length) : p.getD i 0 = p.getD j 0 ↔ hs.getD i 0 = hs.getD j 0 := by
  rw [← b.at hi, ← b.at hj]
  exact shp_same (Nat.lt_of_lt_of_le hi b.1) (Nat.lt_of_lt_of_le hj b.1)
theorem Beg.canon {p hs : List Int} (b : Beg p hs) : Canon p := by
  have e : shp p = (shp hs).take p.length := by
    rw [← shp_take b.1]
    refine (shp_eq_iff (by rw [List.length_take]; have := b.1; omega)).mpr fun i hi j hj => ?_
    have e1 : (hs.take p.length).getD i 0 = hs.getD i 0 := by simp [List.getD_eq_getElem?_getD, List.getElem?_take, hi]
    have e2 : (hs.take p.length).getD j 0 = hs.getD j 0 := by simp [List.getD_eq_getElem?_getD, List.getElem?_take, (by omega : j < p.length)]
    rw [e1, e2]
    exact b.same hi (by omega)
  unfold Canon
  rw [e, List.map_take]
  exact b.2.symm
theorem Beg.brk {p hs : List Int} (b : Beg p hs) {wd : Str} {k : Int} {st : List Nat} (h : brk (fun i => p.getD i 0) p.length wd k st = true) : L2.kp (fun i => hs.getD i 0) wd k st = false := by
  refine brk_no (n := p.length) ?_
  rw [← h]
  exact brk_iff fun i hi j hj => (b.same hi hj).symm
theorem Beg.short {may : List (List Int)} {p hs : List Int} (b : Beg p hs) (of : ∀ i, i < hs.length → hs.getD i 0 ∈ may.getD i []) {ms : List Nat} (s : Short (pools may p) ms) : False := by
  obtain ⟨X, hX, hq⟩ := s.few
  have c := b.canon
  have nd : ms.Nodup := s.up.imp fun h => Nat.ne_of_lt h
  have lt : ∀ q ∈ ms, q < (dd p).length := fun q m => by
    obtain ⟨r, e, _⟩ := hq q m
    have := (List.getElem?_eq_some_iff.mp e).1
    rw [pools_len] at this
    exact this
  have fs : ∀ q ∈ ms, ∃ i, i < p.length ∧ p.getD i 0 = (q : Int) := fun q m => by
    obtain ⟨i, hi, e⟩ := List.mem_iff_getElem.mp (canon_has c (lt q m))
    exact ⟨i, hi, by rw [getD_get hi, e]⟩
  let f : Nat → Int := fun q => hs.getD (fx p (q : Int)) 0
  have fa : ∀ q ∈ ms, fx p (q : Int) < p.length ∧ p.getD (fx p (q : Int)) 0 = (q : Int) := fun q m => by
    have := canon_has c (lt q m)
    refine ⟨fx_lt this, ?_⟩
    rw [List.getD_eq_getElem?_getD, fx_at this]; rfl
  have nd2 : (ms.map f).Nodup := by
    rw [List.nodup_iff_pairwise_ne, List.pairwise_map]
    refine List.Pairwise.imp_of_mem ?_ (List.nodup_iff_pairwise_ne.mp nd)
    intro q r hq hr hne e
    obtain ⟨a1, a2⟩ := fa q hq
    obtain ⟨b1, b2⟩ := fa r hr
    have := (b.same a1 b1).mpr e
    rw [a2, b2] at this
    omega
  have := nd2.length_le_of_subset (l₂ := X) fun x hx => by
    obtain ⟨q, m, e⟩ := List.mem_map.mp hx
    obtain ⟨r, er, hr⟩ := hq q m
    rw [pools_at (lt q m)] at er
    cases er
    refine hr x ((poolN_mem c (lt q m)).mpr fun i hi ei => ?_)
    obtain ⟨a1, a2⟩ := fa q m
    have : p.getD (fx p (q : Int)) 0 = p.getD i 0 := by rw [a2, ei]
    have := (b.same a1 hi).mp this
    have h2 := of i (Nat.lt_of_lt_of_le hi b.1)
    rw [← this] at h2
    rw [← e]
    exact h2
  rw [List.length_map] at this
  omega
theorem Beg.next {p hs : List Int} (b : Beg p hs) (h : p.length < hs.length) : ∃ j : Nat, j ≤ (dd p).length ∧ Beg (p ++ [(j : Int)]) hs := by
  have c := b.canon
  have nl := shN_le (hs := hs) (k := p.length) h
  have e : (dd (hs.take p.length)).length = (dd p).length := by
    have h2 := shp_wide (hs.take p.length)
    rw [shp_take (by omega), List.map_take, b.2] at h2
    exact h2.symm
  refine ⟨shN hs p.length, by omega, by simp; omega, ?_⟩
  rw [List.length_append, List.length_singleton, List.take_add_one, b.2]
  congr 1
  rw [List.getElem?_map, shp_at h]; rfl
theorem Beg.nil (hs : List Int) : Beg [] hs := ⟨Nat.zero_le _, rfl⟩
theorem plan_of {may : List (List Int)} {ts : List Tie} {p ds : List Int} (c : Canon p) (hl : p.length = may.length) (d : Deal (pools may p) ds) (lt : ∀ t ∈ ts, ∀ i ∈ t.2.2, i < p.length) (nb : ∀ t ∈ ts, brk (fun i => p.getD i 0) p.length t.1 t.2.1 t.2.2 = false) :
    IsPlan may ts (p.map fun x => ds.getD x.toNat 0) := by
  have dl : ds.length = (dd p).length := by rw [d.len, pools_len]
  have key : ∀ i, i < p.length → ∃ b : Nat, p.getD i 0 = (b : Int) ∧ b < (dd p).length ∧ (p.map fun x => ds.getD x.toNat 0).getD i 0 = ds.getD b 0 := fun i hi => by
    obtain ⟨b, e, hb⟩ := canon_mem c (x := p.getD i 0) (by rw [getD_get hi]; exact List.getElem_mem hi)
    refine ⟨b, e, hb, ?_⟩
    have : (p.map fun x => ds.getD x.toNat 0).getD i 0 = ds.getD (p.getD i 0).toNat 0 := by simp [List.getD_eq_getElem?_getD, hi]
    rw [this, e, Int.toNat_natCast]
  refine ⟨by rw [List.length_map, hl], fun i hi => ?_, fun t ht => ?_⟩
  · rw [List.length_map] at hi
    obtain ⟨b, e, hb, e2⟩ := key i hi
    rw [e2]
    have h1 : b < ds.length := by omega
    have h2 : b < (pools may p).length := by rw [pools_len]; exact hb
    have := d.of b h1 h2
    have e3 : (pools may p)[b] = poolN may p b := by
      have := pools_at (may := may) hb
      rw [List.getElem?_eq_getElem h2] at this
      exact Option.some.inj this
    rw [e3] at this
    rw [getD_get h1]
    exact (poolN_mem c hb).mp this i hi e
  · have h := nb t ht
    rw [brk_whole (lt t ht)] at h
    have h : L2.kp (fun i => p.getD i 0) t.1 t.2.1 t.2.2 = true := by simpa using h
    rw [← h]
    refine kp_iff (lt t ht) fun i hi j hj => ?_
    obtain ⟨b, e, hb, e2⟩ := key i hi
    obtain ⟨b', e', hb', e2'⟩ := key j hj
    show (p.map fun x => ds.getD x.toNat 0).getD i 0 = (p.map fun x => ds.getD x.toNat 0).getD j 0 ↔ p.getD i 0 = p.getD j 0
    rw [e2, e2', e, e', getD_get (by omega : b < ds.length), getD_get (by omega : b' < ds.length), List.getElem_inj d.nd]
    omega
inductive Pap where
  | tie (j : Nat)
  | short (bs : List Nat)
  | split (ps : List Pap)
inductive Shows (may : List (List Int)) (ts : List Tie) : List Int → Pap → Prop where
  | tie {p : List Int} {j : Nat} {t : Tie} (h : ts[j]? = some t) (b : brk (fun i => p.getD i 0) p.length t.1 t.2.1 t.2.2 = true) : Shows may ts p (.tie j)
  | short {p : List Int} {bs : List Nat} (s : Short (pools may p) bs) : Shows may ts p (.short bs)
  | split {p : List Int} {ps : List Pap} (hl : p.length < may.length) (hn : ps.length = (dd p).length + 1) (h : ∀ (j : Nat) (q : Pap), ps[j]? = some q → Shows may ts (p ++ [(j : Int)]) q) : Shows may ts p (.split ps)
theorem Shows.none {may : List (List Int)} {ts : List Tie} {p : List Int} {q : Pap} (s : Shows may ts p q) : ∀ hs, Beg p hs → ¬ IsPlan may ts hs := by
  induction s with
  | tie h b =>
    intro hs g pl
    have := pl.kp _ (List.mem_of_getElem? h)
    rw [g.brk b] at this
    cases this
  | short s =>
    intro hs g pl
    exact g.short pl.of s
  | @split p ps hl hn h ih =>
    intro hs g pl
    obtain ⟨j, hj, g2⟩ := g.next (by rw [pl.len]; exact hl)
    have hj' : j < ps.length := by omega
    exact ih j ps[j] (List.getElem?_eq_getElem hj') hs g2 pl
theorem Shows.noplan {may : List (List Int)} {ts : List Tie} {q : Pap} (s : Shows may ts [] q) {hs : List Int} : ¬ IsPlan may ts hs := s.none hs (Beg.nil hs)
end L2
set_option Elab.async false
set_option linter.all false
set_option maxRecDepth 100000
namespace L2
open PySem PySem.Spec PyProof.Rows
theorem up_ext : ∀ {l r : List Int}, l.Pairwise (· < ·) → r.Pairwise (· < ·) → (∀ x, x ∈ l ↔ x ∈ r) → l = r := by
  intro l
  induction l with
  | nil =>
    intro r _ _ h
    cases r with
    | nil => rfl
    | cons b r => have := (h b).mpr List.mem_cons_self; cases this
  | cons a l ih =>
    intro r hl hr h
    cases r with
    | nil => have := (h a).mp List.mem_cons_self; cases this
    | cons b r =>
      rw [List.pairwise_cons] at hl hr
      have e : a = b := by
        rcases List.mem_cons.mp ((h a).mp List.mem_cons_self) with z | z
        · exact z
        · rcases List.mem_cons.mp ((h b).mpr List.mem_cons_self) with y | y
          · exact y.symm
          · exact absurd (Int.lt_trans (hr.1 a z) (hl.1 b y)) (Int.lt_irrefl _)
      subst e
      rw [ih hl.2 hr.2 fun x => ?_]
      constructor
      · intro hx
        rcases List.mem_cons.mp ((h x).mp (List.mem_cons_of_mem _ hx)) with z | z
        · exact absurd (hl.1 x hx) (by rw [z]; exact Int.lt_irrefl _)
        · exact z
      · intro hx
        rcases List.mem_cons.mp ((h x).mpr (List.mem_cons_of_mem _ hx)) with z | z
        · exact absurd (hr.1 x hx) (by rw [z]; exact Int.lt_irrefl _)
        · exact z
noncomputable def Rel (way : Nat) (x : Int) (F S : List Int) : Prop := if way = 0 then x ∈ F ∧ x ∈ S else if way = 1 then x ∈ F ∨ x ∈ S else x ∈ F ∧ x ∉ S
theorem sort_lt {ks : List Int} (h : ks.Pairwise (· ≤ ·)) (nd : ks.Nodup) : ks.Pairwise (· < ·) :=
  (h.and (List.nodup_iff_pairwise_ne.mp nd)).imp fun ⟨a, b⟩ => by omega
noncomputable def Told2 (H H' : Hp) (l : Addr) (way : Nat) (F S ks : List Int) : Prop := Same H H' ∧ H l = none ∧ H' l = some (.lst (ks.map V.int)) ∧ ks.Pairwise (· < ·) ∧ ∀ x, x ∈ ks ↔ Rel way x F S
structure Both (K : PySem.W.Frag) (H : Hp) (a b : Addr) (F S U : List Int) : Prop where
  fa : SqL K H a (F.map V.int)
  sb : SqL K H b (S.map V.int)
  pf : F.Pairwise (· < ·)
  ps : S.Pairwise (· < ·)
  fu : ∀ x ∈ F, x ∈ U
  su : ∀ x ∈ S, x ∈ U
  ul : U.length ≤ 60
theorem lt_nd {F : List Int} (h : F.Pairwise (· < ·)) : F.Nodup := h.imp fun h => Int.ne_of_lt h
theorem Both.l1 {K : PySem.W.Frag} {H : Hp} {a b : Addr} {F S U : List Int} (h : Both K H a b F S U) : F.length ≤ 60 := Nat.le_trans ((lt_nd h.pf).length_le_of_subset h.fu) h.ul
theorem Both.l2 {K : PySem.W.Frag} {H : Hp} {a b : Addr} {F S U : List Int} (h : Both K H a b F S U) : S.length ≤ 60 := Nat.le_trans ((lt_nd h.ps).length_le_of_subset h.su) h.ul
noncomputable def spW (K : PySem.W.Frag) (way : Nat) : Sp := fun vs H Q _ => ∃ (a b : Addr) (F S U : List Int), vs = [.ref a, .ref b] ∧ Both K H a b F S U ∧ ∀ l ks H', Told2 H H' l way F S ks → Q (.ref l) H'
structure May (K : PySem.W.Frag) (H : Hp) (a : Addr) (rs : List Addr) (may : List (List Int)) (U : List Int) : Prop where
  ls : SqL K H a (rs.map V.ref)
  po : PoolsL K H rs may
  up : ∀ p ∈ may, p.Pairwise (· < ·)
  sub : ∀ p ∈ may, ∀ b ∈ p, b ∈ U
  m6 : may.length ≤ 6
  u20 : U.length ≤ 26
theorem May.same {K : PySem.W.Frag} {H H' : Hp} {a : Addr} {rs : List Addr} {may : List (List Int)} {U : List Int} (m : May K H a rs may U) (s : Same H H') : May K H' a rs may U := ⟨s.seq m.ls, m.po.same s, m.up, m.sub, m.m6, m.u20⟩
theorem May.rows {K : PySem.W.Frag} {H : Hp} {a : Addr} {rs : List Addr} {may : List (List Int)} {U : List Int} (m : May K H a rs may U) {i : Nat} (h : i < may.length) : ∃ r, rs[i]? = some r ∧ SqL K H r ((may.getD i []).map V.int) ∧ (may.getD i []).Pairwise (· < ·) ∧ ∀ b ∈ may.getD i [], b ∈ U := by
  have e : may.getD i [] = may[i] := getD_getL h
  obtain ⟨r, e1, e2⟩ := m.po.at (List.getElem?_eq_getElem h)
  rw [e]
  exact ⟨r, e1, e2, m.up _ (List.getElem_mem h), m.sub _ (List.getElem_mem h)⟩
theorem poolS_snoc {st : List Nat} {may : List (List Int)} {s : Nat} (h : st ≠ []) (x : Int) : x ∈ poolS (st ++ [s]) may ↔ x ∈ poolS st may ∧ x ∈ may.getD s [] := by
  rw [poolS_mem (by simp), poolS_mem h]
  constructor
  · exact fun a => ⟨fun t ht => a t (List.mem_append_left _ ht), a s (by simp)⟩
  · rintro ⟨a, b⟩ t ht
    rcases List.mem_append.mp ht with z | z
    · exact a t z
    · rw [List.mem_singleton.mp z]; exact b
theorem poolS_one {may : List (List Int)} {s : Nat} : poolS [s] may = may.getD s [] := by
  unfold poolS
  show (may.getD s []).filter _ = _
  refine List.filter_eq_self.mpr fun x hx => ?_
  simp only [List.all_cons, List.all_nil, Bool.and_true]
  exact decide_eq_true hx
theorem at_int {st : List Int} {j : Nat} {x : V} (hx : (st.map V.int)[j]? = some x) : ∃ d : Int, st[j]? = some d ∧ x = V.int d ∧ st.getD j 0 = d := by
  rw [List.getElem?_map] at hx
  obtain ⟨b, h1, h2⟩ := Option.map_eq_some_iff.mp hx
  exact ⟨b, h1, h2.symm, by rw [List.getD_eq_getElem?_getD, h1]; rfl⟩
end L2
set_option Elab.async false
set_option linter.all false
set_option maxRecDepth 100000
namespace L2
open PySem PySem.Spec PyProof.Rows
theorem kept2 {x y : Option V} {σ : St} : Kept (none :: none :: σ) (x :: y :: σ) := ⟨rfl, fun i v e => by
  cases i with
  | zero => cases e
  | succ i =>
    cases i with
    | zero => cases e
    | succ i => exact e⟩
theorem comp_zip {K : PySem.W.Frag} {H1 : Hp} {js : List (Option Nat)} {σ : L2.St} {te : TE} {Q : VK} {a b : Addr} {xs ys : List V} (P : Addr → List V → Hp → Prop) (hl : xs.length = ys.length) (h1 : SqL K H1 a xs) (h2 : SqL K H1 b ys) (hn : xs.length < 100000)
    (mono : ∀ acc ys H H', P acc ys H → SameBut acc H H' → P acc ys H') (h0 : ∀ acc H, P acc [] H)
    (he : ∀ acc (i : Nat) x y zs H2 R, xs[i]? = some x → ys[i]? = some y → Same H1 H2 → H1 acc = none → H2 acc = some (.lst zs) → zs.length = i → P acc zs H2 → (∀ v H3, Same H2 H3 → P acc (zs ++ [v]) H3 → R v H3) → te (some x :: some y :: pick σ js) H2 R)
    (hQ : ∀ acc zs H', Same H1 H' → H1 acc = none → H' acc = some (.lst zs) → zs.length = xs.length → P acc zs H' → Q (.ref acc) H') :
    CompB (Itz K a b) H1 (none :: none :: js) (gTup K 2 (gCons (gName 0) (gCons (gName 1) gNil))) tYes te σ Q := by
  intro acc hacc
  refine ⟨fun i m zs H => m = xs.length - i ∧ i ≤ xs.length ∧ Same H1 H ∧ H acc = some (.lst zs) ∧ zs.length = i ∧ P acc zs H, ⟨xs.length, by simp, Nat.zero_le _, Same.new hacc, upd_same, rfl, h0 _ _⟩, ?_⟩
  rintro i m zs H ⟨rfl, hi, s1, ha, hz, hp⟩
  have w1 := s1.seq h1
  have w2 := s1.seq h2
  by_cases hlt : i < xs.length
  · have hlt2 : i < ys.length := by omega
    refine .inr ⟨⟨xs, ys, xs[i], ys[i], w1, w2, List.getElem?_eq_getElem hlt, List.getElem?_eq_getElem hlt2⟩, fun zs' H' => i < xs.length ∧ Same H1 H' ∧ H' acc = some (.lst zs') ∧ zs'.length = i + 1 ∧ P acc zs' H', fun zs' H' ⟨z, a, b, c, d⟩ => ⟨xs.length - (i + 1), by omega, rfl, hlt, a, b, c, d⟩, fun v H' y => ?_⟩
    obtain ⟨q, x, y, hq, e1, e2, e3, e4⟩ := y
    subst e3 e4
    have sq := Same.new (o := .tup [x, y]) hq
    refine ⟨q, [x, y], rfl, SqT.of upd_same, rfl, x, [y], rfl, y, [], rfl, rfl, kept2, fun _ => ?_, fun hb => by cases hb⟩
    refine he acc i x y zs _ _ (e1 xs w1) (e2 ys w2) (s1.trans sq) hacc (sq _ _ ha) hz (mono _ _ _ _ hp sq.but) fun v H3 s3 pv => ?_
    have s13 := (s1.trans sq).trans s3
    refine ⟨s3 _ _ (sq _ _ ha), szn (by omega), hlt, s13.put hacc, upd_same, by rw [List.length_append, List.length_singleton, hz], ?_⟩
    exact mono acc _ _ _ pv SameBut.upd
  · have e : i = xs.length := by omega
    subst e
    exact .inl ⟨⟨xs, ys, w1, w2, Nat.le_refl _⟩, hQ acc zs H s1 hacc ha hz hp⟩
theorem comp_zipL {K : PySem.W.Frag} {H1 : Hp} {js : List (Option Nat)} {σ : L2.St} {te : TE} {Q : VK} {a b : Addr} {xs ys : List V} (f : Nat → List Int) (hl : xs.length = ys.length) (h1 : SqL K H1 a xs) (h2 : SqL K H1 b ys) (hn : xs.length < 100000)
    (he : ∀ (i : Nat) x y H2 R, xs[i]? = some x → ys[i]? = some y → Same H1 H2 → (∀ r H3, Same H2 H3 → H2 r = none → H3 r = some (.lst ((f i).map V.int)) → R (.ref r) H3) → te (some x :: some y :: pick σ js) H2 R)
    (hQ : ∀ acc rs H', Same H1 H' → H1 acc = none → H' acc = some (.lst (rs.map V.ref)) → RowsL H' rs ((List.range xs.length).map f) → (∀ r ∈ rs, H1 r = none) → Q (.ref acc) H') :
    CompB (Itz K a b) H1 (none :: none :: js) (gTup K 2 (gCons (gName 0) (gCons (gName 1) gNil))) tYes te σ Q :=
  comp_zip (fun acc zs H => ∃ rs : List Addr, zs = rs.map V.ref ∧ RowsL H rs ((List.range rs.length).map f) ∧ ∀ r ∈ rs, H1 r = none ∧ r ≠ acc) hl h1 h2 hn
    (fun acc zs H H' ⟨rs, e, p, n⟩ sb => ⟨rs, e, RowsL.of p.len fun i r q e1 e2 => by
      obtain ⟨q', g1, g2⟩ := p.get e1
      rw [e2] at g1
      cases g1
      exact sb r _ (n r (List.mem_of_getElem? e1)).2 g2, n⟩) (fun _ _ => ⟨[], rfl, .nil, fun _ z => by cases z⟩)
    (fun acc i x y zs H2 R ex ey s n1 n2 hz ⟨rs, e, p, n⟩ k => he i x y H2 R ex ey s fun r H3 s3 nr hr => k _ H3 s3 ⟨rs ++ [r], by rw [e, List.map_append]; rfl, by
      have el : rs.length = i := by rw [← hz, e, List.length_map]
      rw [List.length_append, List.length_singleton, List.range_succ, List.map_append]
      exact Paired.snoc (p.same s3) (by rw [el]; exact hr), fun u hu => by
      rcases List.mem_append.mp hu with z | z
      · exact n u z
      · rw [List.mem_singleton.mp z]
        exact ⟨s.free nr, fun y => by rw [y, n2] at nr; cases nr⟩⟩)
    fun acc zs H' s n e hz ⟨rs, e2, p, al⟩ => by
      subst e2
      rw [List.length_map] at hz
      rw [hz] at p
      exact hQ acc rs H' s n e p fun r hr => (al r hr).1
end L2
set_option Elab.async false
set_option linter.all false
set_option maxRecDepth 100000
namespace L2
open PySem PySem.Spec PyProof.Rows
noncomputable def hV : Option Int → V
  | none => .non
  | some b => .int b
noncomputable def heldP (p : List Int) : Option Int → List Int
  | none => p
  | some b => [b]
noncomputable def heldM (may : List (List Int)) (dn : List (Option Int)) : List (List Int) := (List.range may.length).map fun i => heldP (may.getD i []) (dn.getD i none)
theorem heldM_len {may : List (List Int)} {dn : List (Option Int)} : (heldM may dn).length = may.length := by unfold heldM; simp
theorem heldM_at {may : List (List Int)} {dn : List (Option Int)} {i : Nat} (h : i < may.length) : (heldM may dn)[i]? = some (heldP (may.getD i []) (dn.getD i none)) := by
  unfold heldM
  rw [List.getElem?_map, List.getElem?_range h]; rfl
theorem flat_hV (dn : List (Option Int)) : ∀ x ∈ dn.map hV, flatV x = true := fun x hx => by
  obtain ⟨h, _, e⟩ := List.mem_map.mp hx
  rw [← e]
  cases h <;> rfl
theorem at_hV {dn : List (Option Int)} {j : Nat} {x : V} (hx : (dn.map hV)[j]? = some x) : x = hV (dn.getD j none) := by
  rw [List.getElem?_map] at hx
  obtain ⟨b, h1, h2⟩ := Option.map_eq_some_iff.mp hx
  rw [← h2, List.getD_eq_getElem?_getD, h1]; rfl
theorem atI_hV {dn : List (Option Int)} {j : Nat} (h : j < dn.length) : atI (dn.map hV) (j : Int) = some (hV (dn.getD j none)) := atI_nat (by rw [List.getElem?_map, List.getElem?_eq_getElem h, List.getD_eq_getElem?_getD, List.getElem?_eq_getElem h]; rfl)
theorem dec_hV {h : Option Int} : decide (hV h = V.non) = h.isNone := by cases h <;> rfl
end L2
set_option Elab.async false
set_option linter.all false
set_option maxRecDepth 100000
namespace L2
open PySem PySem.Spec PyProof.Rows
theorem deq_true {K : PySem.W.Frag} {H : Hp} {d : Nat} {a b : Addr} {xs ys : List V} (h1 : SqL K H a xs) (h2 : SqL K H b ys) (hl : xs.length = ys.length) (he : ∀ (j : Nat) x y, xs[j]? = some x → ys[j]? = some y → DEq K H d x y true) : DEq K H (d + 1) (.ref a) (.ref b) true := by
  have q := DEq.lst (e := fun _ => true) h1 h2 hl he
  rw [show ((List.range xs.length).all fun _ => true) = true from by simp] at q
  exact q
theorem deqT_true {K : PySem.W.Frag} {H : Hp} {d : Nat} {a b : Addr} {xs ys : List V} (h1 : SqT K H a xs) (h2 : SqT K H b ys) (hl : xs.length = ys.length) (he : ∀ (j : Nat) x y, xs[j]? = some x → ys[j]? = some y → DEq K H d x y true) : DEq K H (d + 1) (.ref a) (.ref b) true := by
  have q := DEq.tup (e := fun _ => true) h1 h2 he
  rw [show ((List.range (min xs.length ys.length)).all (fun _ => true) && xs.length == ys.length) = true from by simp [hl]] at q
  exact q
theorem deq_flat1 {K : PySem.W.Frag} {H : Hp} {d : Nat} {x : V} (f : flatV x = true) : DEq K H d x x true := by
  have q := DEq.flat (K := K) (H := H) (d := d) f f
  rw [eqV_refl f] at q
  exact q
theorem TieT.self {K : PySem.W.Frag} {H : Hp} {x : Addr × Addr × Str × Int × List Nat} (t : TieT H x) : DEq K H 2 (.ref x.1) (.ref x.1) true :=
  deqT_true (SqT.of t.tp) (SqT.of t.tp) rfl fun j u v eu ev => by
    rw [eu] at ev
    cases ev
    rcases j with _ | _ | _ | j
    · cases eu; exact deq_flat1 rfl
    · cases eu; exact deq_flat1 rfl
    · cases eu
      refine deqT_true (SqT.of t.ts) (SqT.of t.ts) rfl fun j u v eu ev => ?_
      rw [eu] at ev
      cases ev
      obtain ⟨i, _, e⟩ := List.mem_map.mp (List.mem_of_getElem? eu)
      rw [← e]
      exact deq_flat1 rfl
    · cases eu
theorem deq_ties {K : PySem.W.Frag} {H : Hp} {a b : Addr} {ts : List (Addr × Addr × Str × Int × List Nat)} (h1 : SqL K H a (ts.map fun x => V.ref x.1)) (h2 : SqL K H b (ts.map fun x => V.ref x.1)) (ea : ∀ x ∈ ts, TieT H x) : DEq K H 3 (.ref a) (.ref b) true :=
  deq_true h1 h2 rfl fun j u v eu ev => by
    rw [eu] at ev
    cases ev
    obtain ⟨x, hx, e⟩ := List.mem_map.mp (List.mem_of_getElem? eu)
    rw [← e]
    exact (ea x hx).self
theorem DEq.up {K : PySem.W.Frag} {H : Hp} {d : Nat} {x y : V} {b : Bool} (h : DEq K H d x y b) : DEq K H (d + 1) x y b := by
  induction h with
  | flat fx fy => exact .flat fx fy
  | lst h1 h2 hl he ih => exact .lst h1 h2 hl ih
  | len h1 h2 hl => exact .len h1 h2 hl
  | tup h1 h2 he ih => exact .tup h1 h2 ih
noncomputable def tieOf (x : Addr × Addr × Str × Int × List Nat) : Tie := x.2.2
noncomputable def kpX (hs : List Int) (x : Addr × Addr × Str × Int × List Nat) : Bool := kp (fun i => hs.getD i 0) x.2.2.1 x.2.2.2.1 x.2.2.2.2
theorem map_at {α β : Type} {ts : List α} {f : α → β} {g : Nat → β} (h : ∀ (i : Nat) x, ts[i]? = some x → g i = f x) : (List.range ts.length).map g = ts.map f := by
  apply List.ext_getElem?
  intro i
  rw [List.getElem?_map, List.getElem?_map]
  by_cases l : i < ts.length
  · rw [List.getElem?_range l, List.getElem?_eq_getElem l]
    show some (g i) = some (f ts[i])
    rw [h i _ (List.getElem?_eq_getElem l)]
  · rw [List.getElem?_eq_none (by simp; omega), List.getElem?_eq_none (by omega)]; rfl
end L2
set_option Elab.async false
set_option linter.all false
set_option maxRecDepth 100000
namespace L2
open PySem PySem.Spec PyProof.Rows
end L2
set_option Elab.async false
set_option linter.all false
set_option maxRecDepth 100000
namespace L2
open PySem PySem.Spec PyProof.Rows
theorem RowsL.append {H : Hp} : ∀ {rs rs' : List Addr} {ps ps' : List (List Int)}, RowsL H rs ps → RowsL H rs' ps' → RowsL H (rs ++ rs') (ps ++ ps') := by
  intro rs rs' ps ps' h h'
  unfold RowsL at *
  induction h with
  | nil => exact h'
  | cons a t ih => exact .cons a ih
theorem mod_at {ms : List Int} (c : Int) (h : ms ≠ []) : ∃ bj : Nat, bj < ms.length ∧ c % (((ms.map V.int).length : Nat) : Int) = (bj : Int) ∧ (0 : Int) < (((ms.map V.int).length : Nat) : Int) := by
  have ms0 : 0 < ms.length := List.length_pos_iff.mpr h
  have ml : (0 : Int) < (((ms.map V.int).length : Nat) : Int) := by rw [List.length_map]; omega
  have b1 := Int.emod_nonneg c (show (((ms.map V.int).length : Nat) : Int) ≠ 0 by omega)
  have b2 := Int.emod_lt_of_pos c ml
  exact ⟨(c % (((ms.map V.int).length : Nat) : Int)).toNat, by rw [List.length_map] at b1 b2 ⊢; omega, by omega, ml⟩
end L2
set_option Elab.async false
set_option linter.all false
set_option maxRecDepth 100000
namespace L2
open PySem PySem.Spec PyProof.Rows
inductive PapAt (H : Hp) : V → Pap → Prop where
  | tie {t : Addr} {j : Nat} (ht : H t = some (.tup [.str "tie", .int ((j : Nat) : Int)])) : PapAt H (.ref t) (.tie j)
  | short {t l : Addr} {bs : List Nat} (ht : H t = some (.tup [.str "short", .ref l])) (hl : H l = some (.lst (bs.map fun (i : Nat) => V.int (i : Int)))) : PapAt H (.ref t) (.short bs)
  | split {t l : Addr} {vs : List V} {ps : List Pap} (ht : H t = some (.tup [.str "split", .ref l])) (hl : H l = some (.lst vs)) (hn : vs.length = ps.length) (h : ∀ (i : Nat) v q, vs[i]? = some v → ps[i]? = some q → PapAt H v q) : PapAt H (.ref t) (.split ps)
theorem PapAt.same {H H' : Hp} {v : V} {q : Pap} (p : PapAt H v q) (s : Same H H') : PapAt H' v q := by
  induction p with
  | tie ht => exact .tie (s _ _ ht)
  | short ht hl => exact .short (s _ _ ht) (s _ _ hl)
  | split ht hl hn h ih => exact .split (s _ _ ht) (s _ _ hl) hn fun i v q e1 e2 => ih i v q e1 e2
noncomputable def nw (H H' : Hp) : Hp := fun a => match H a with
  | none => H' a
  | some _ => none
theorem nw_some {H H' : Hp} {a : Addr} {o : HO} (h : nw H H' a = some o) : H a = none ∧ H' a = some o := by
  unfold nw at h
  cases e : H a with
  | none => rw [e] at h; exact ⟨rfl, h⟩
  | some x => rw [e] at h; cases h
theorem nw_of {H H' : Hp} {a : Addr} {o : HO} (h1 : H a = none) (h2 : H' a = some o) : nw H H' a = some o := by
  unfold nw
  rw [h1]; exact h2
theorem nw_to {H Hc H' Hx : Hp} (s : ∀ a, Hc a = none → H a = none) (k : ∀ a o, Hc a = none → H' a = some o → Hx a = some o) : Same (nw Hc H') (nw H Hx) := fun b o e => by
  obtain ⟨e1, e2⟩ := nw_some e
  exact nw_of (s b e1) (k b o e1 e2)
noncomputable def PTold (H H' : Hp) (t : Addr) (may : List (List Int)) (ts : List Tie) (p : List Int) : Prop :=
  (∃ (l : Addr) (hs : List Int), H' t = some (.tup [.str "plan", .ref l]) ∧ H' l = some (.lst (hs.map V.int)) ∧ H l = none ∧ IsPlan may ts hs) ∨
  ∃ (v : V) (q : Pap), H' t = some (.tup [.str "none", v]) ∧ PapAt (nw H H') v q ∧ Shows may ts p q
theorem fstB_some {f : Nat → Int} {n j : Nat} {ts : List (Addr × Addr × Str × Int × List Nat)} (h : fstB f n ts = some j) : ∃ x, ts[j]? = some x ∧ brk f n x.2.2.1 x.2.2.2.1 x.2.2.2.2 = true := by
  unfold fstB at h
  rw [List.findIdx?_eq_some_iff_getElem] at h
  obtain ⟨hj, e, _⟩ := h
  exact ⟨_, List.getElem?_eq_getElem hj, e⟩
theorem fstB_none {f : Nat → Int} {n : Nat} {ts : List (Addr × Addr × Str × Int × List Nat)} (h : fstB f n ts = none) : ∀ x ∈ ts, brk f n x.2.2.1 x.2.2.2.1 x.2.2.2.2 = false := fun x hx => by
  unfold fstB at h
  rw [List.findIdx?_eq_none_iff] at h
  simpa using h x hx
theorem pools_sub {may : List (List Int)} {p : List Int} {U : List Int} (c : Canon p) (hl : p.length ≤ may.length) (h : ∀ q ∈ may, ∀ b ∈ q, b ∈ U) : ∀ q ∈ pools may p, ∀ b ∈ q, b ∈ U := fun q hq b hb => by
  obtain ⟨i, hi, e⟩ := List.mem_iff_getElem.mp hq
  have hi2 := hi
  rw [pools_len] at hi2
  have g := pools_at (may := may) hi2
  rw [List.getElem?_eq_getElem hi, e] at g
  cases g
  obtain ⟨j, hj, ej⟩ := List.mem_iff_getElem.mp (canon_has c hi2)
  have := (poolN_mem c hi2).mp hb j hj (by rw [getD_get hj, ej])
  have hj2 : j < may.length := by omega
  rw [getD_getL hj2] at this
  exact h _ (List.getElem_mem hj2) b this
theorem dec_optV {o : Option Nat} : decide (optV o = V.non) = o.isNone := by cases o <;> rfl
noncomputable def hide (c : Addr) (H : Hp) : Hp := fun a => if a = c then none else H a
theorem hide_some {c a : Addr} {H : Hp} {o : HO} (h : hide c H a = some o) : a ≠ c ∧ H a = some o := by
  unfold hide at h
  by_cases z : a = c
  · rw [if_pos z] at h; cases h
  · rw [if_neg z] at h; exact ⟨z, h⟩
theorem hide_of {c a : Addr} {H : Hp} {o : HO} (n : a ≠ c) (h : H a = some o) : hide c H a = some o := by
  unfold hide
  rw [if_neg n]; exact h
end L2
set_option Elab.async false
set_option linter.all false
set_option maxRecDepth 100000
namespace L2
open PySem PySem.Spec PyProof.Rows
theorem unl_pos {f : Nat → Int} {st : List Nat} (h : st ≠ []) : 1 ≤ unl f st := by
  obtain ⟨i, r, rfl⟩ := List.exists_cons_of_ne_nil h
  have : f i ∈ dd ((i :: r).map f) := dd_mem.mpr (by simp)
  exact List.length_pos_of_mem this
theorem unl_le {f : Nat → Int} {st : List Nat} : unl f st ≤ st.length := by
  have := dd_len (st.map f)
  rw [List.length_map] at this
  exact this
theorem TieT.but {H H' : Hp} {x : Addr × Addr × Str × Int × List Nat} {acc : Addr} (t : TieT H x) (n1 : x.1 ≠ acc) (n2 : x.2.1 ≠ acc) (s : SameBut acc H H') : TieT H' x := ⟨s _ _ n1 t.tp, s _ _ n2 t.ts, t.wd, t.sl⟩
theorem TieT.apart {H : Hp} {x : Addr × Addr × Str × Int × List Nat} {acc : Addr} {ys : List V} (t : TieT H x) (h : H acc = some (.lst ys)) : x.1 ≠ acc ∧ x.2.1 ≠ acc :=
  ⟨(fun z => by have := t.tp; rw [z, h] at this; cases this), (fun z => by have := t.ts; rw [z, h] at this; cases this)⟩
theorem RowsL.but {H H' : Hp} {rs : List Addr} {ps : List (List Int)} {acc : Addr} (h : RowsL H rs ps) (n : ∀ r ∈ rs, r ≠ acc) (s : SameBut acc H H') : RowsL H' rs ps := RowsL.of h.len fun i r p e1 e2 => by
  obtain ⟨p2, g1, g2⟩ := h.get e1
  rw [e2] at g1
  cases g1
  exact s r _ (n r (List.mem_of_getElem? e1)) g2
theorem rows_copy {H3 H2 : Hp} {hs : List Addr} {may : List (List Int)} (hl : hs.length = may.length) (al : ∀ (i : Nat) r, hs[i]? = some r → H3 r = some (.lst ((may.getD i []).map V.int)) ∧ H2 r = none) : RowsL H3 hs may := RowsL.of hl fun i r p' e1 e2 => by
  have := (al i r e1).1
  rw [List.getD_eq_getElem?_getD, e2] at this
  exact this
theorem PoolsL.ref {K : PySem.W.Frag} {H : Hp} {rs : List Addr} {may : List (List Int)} (po : PoolsL K H rs may) {i : Nat} {x : V} (hx : (rs.map V.ref)[i]? = some x) : ∃ r, x = .ref r ∧ SqL K H r ((may.getD i []).map V.int) := by
  rw [List.getElem?_map] at hx
  obtain ⟨r, hr, rfl⟩ := Option.map_eq_some_iff.mp hx
  have hi : i < may.length := by rw [← po.len]; exact (List.getElem?_eq_some_iff.mp hr).1
  obtain ⟨r', e1, e2⟩ := po.at (List.getElem?_eq_getElem hi)
  rw [hr] at e1
  cases e1
  rw [← getD_getL hi] at e2
  exact ⟨r, rfl, e2⟩
theorem comp_copy {K : PySem.W.Frag} {H1 : Hp} {js : List (Option Nat)} {σ : L2.St} {te : TE} {Q : VK} {a : Addr} {rs : List Addr} {may : List (List Int)} (hl : SqL K H1 a (rs.map V.ref)) (po : PoolsL K H1 rs may) (m : may.length ≤ 1000)
    (he : ∀ r ys H2 R, SqL K H2 r ys → (∀ l, H2 l = none → R (.ref l) (upd H2 l (.lst ys))) → te (some (.ref r) :: pick σ js) H2 R)
    (hQ : ∀ acc (hs : List Addr) H', Same H1 H' → H1 acc = none → H' acc = some (.lst (hs.map V.ref)) → RowsL H' hs may → (∀ r ∈ hs, H1 r = none ∧ r ≠ acc) → Q (.ref acc) H') :
    CompB (Itl K a) H1 (none :: js) (gName 0) tYes te σ Q := by
  have rl : rs.length = may.length := po.len
  refine comp_lists (xs := rs.map V.ref) (fun i => (may.getD i []).map V.int) hl (by rw [List.length_map]; omega) (fun i x hx H3 R s3 k => ?_) fun hd hs H3 s3 nhd hhd hhs hall hne => ?_
  · obtain ⟨r, rfl, hq⟩ := (po.same s3).ref hx
    exact he r _ H3 R hq fun l nl => k l _ (Same.new nl) nl upd_same
  · rw [List.length_map, rl] at hhs
    refine hQ hd hs H3 s3 nhd hhd (rows_copy hhs hall) fun r hr => ⟨?_, hne r hr⟩
    obtain ⟨i, hi, ei⟩ := List.mem_iff_getElem.mp hr
    exact (hall i r (by rw [List.getElem?_eq_getElem hi, ei])).2
theorem heldM_sub {may : List (List Int)} {dn : List (Option Int)} {U : List Int} (h1 : ∀ p ∈ may, ∀ b ∈ p, b ∈ U) (h2 : ∀ b, some b ∈ dn → b ∈ U) : ∀ p ∈ heldM may dn, ∀ b ∈ p, b ∈ U := fun p hp b hb => by
  obtain ⟨i, hi, e⟩ := List.mem_map.mp hp
  have hi := List.mem_range.mp hi
  subst e
  cases hd : dn.getD i none with
  | none =>
    rw [hd] at hb
    have hb : b ∈ may.getD i [] := hb
    rw [getD_getL hi] at hb
    exact h1 _ (List.getElem_mem hi) b hb
  | some c =>
    rw [hd] at hb
    have hb : b ∈ [c] := hb
    rw [List.mem_singleton.mp hb]
    refine h2 c ?_
    by_cases l : i < dn.length
    · rw [List.getD_eq_getElem?_getD, List.getElem?_eq_getElem l] at hd
      have : dn[i] = some c := hd
      rw [← this]; exact List.getElem_mem l
    · rw [List.getD_eq_getElem?_getD, List.getElem?_eq_none (by omega)] at hd; cases hd
theorem heldM_up {may : List (List Int)} {dn : List (Option Int)} (h : ∀ p ∈ may, p.Pairwise (· < ·)) : ∀ p ∈ heldM may dn, p.Pairwise (· < ·) := fun p hp => by
  obtain ⟨i, hi, e⟩ := List.mem_map.mp hp
  have hi := List.mem_range.mp hi
  subst e
  cases hd : dn.getD i none with
  | none =>
    show (may.getD i []).Pairwise (· < ·)
    rw [getD_getL hi]
    exact h _ (List.getElem_mem hi)
  | some c => exact List.pairwise_singleton _ _
theorem heldM_getD {may : List (List Int)} {dn : List (Option Int)} {i : Nat} (h : i < may.length) : (heldM may dn).getD i [] = heldP (may.getD i []) (dn.getD i none) := by
  rw [List.getD_eq_getElem?_getD, heldM_at h]; rfl
theorem PTold.plan {H H' : Hp} {t : Addr} {may : List (List Int)} {ts : List Tie} {hs0 : List Int} (h : PTold H H' t may ts []) (p : IsPlan may ts hs0) : ∃ (l : Addr) (hs : List Int), H' t = some (.tup [.str "plan", .ref l]) ∧ H' l = some (.lst (hs.map V.int)) ∧ H l = none ∧ IsPlan may ts hs := by
  rcases h with h | ⟨v, q, _, _, s⟩
  · exact h
  · exact absurd p s.noplan
end L2
set_option Elab.async false
set_option linter.all false
set_option maxRecDepth 100000
namespace L2
open PySem PySem.Spec PyProof.Rows
section
variable {X : Cx}
end
end L2
set_option Elab.async false
set_option linter.all false
set_option maxRecDepth 100000
namespace L2
open PySem PySem.Spec PyProof.Rows
end L2
set_option Elab.async false
set_option linter.all false
set_option maxRecDepth 100000
namespace L2
open PySem PySem.Spec PyProof.Rows
inductive GPap where
  | tie (j : Int)
  | short (bs : List Int)
  | split (ps : List GPap)
noncomputable instance : Inhabited GPap := ⟨.tie 0⟩
end L2
set_option Elab.async false
set_option linter.all false
set_option maxRecDepth 100000
namespace L2
open PySem PySem.Spec PyProof.Rows
end L2
set_option Elab.async false
set_option linter.all false
set_option maxRecDepth 100000
namespace L2
open PySem PySem.Spec PyProof.Rows
theorem lo62 (n : Nat) : -(2 ^ 62) ≤ ((n : Nat) : Int) := by omega
theorem modN (c : Int) {n : Nat} (h : 0 < n) : ∃ m : Nat, m < n ∧ c % ((n : Nat) : Int) = ((m : Nat) : Int) := by
  have w1 := Int.emod_nonneg c (show ((n : Nat) : Int) ≠ 0 by omega)
  have w2 := Int.emod_lt_of_pos c (show (0 : Int) < ((n : Nat) : Int) by omega)
  exact ⟨(c % ((n : Nat) : Int)).toNat, by omega, by omega⟩
theorem ex1 {α : Type} {us : List α} (hl : us.length = 1) : ∃ a, us = [a] := by
  match us, hl with
  | [a], _ => exact ⟨a, rfl⟩
theorem ex2 {α : Type} {us : List α} (hl : us.length = 2) : ∃ a b, us = [a, b] := by
  match us, hl with
  | [a, b], _ => exact ⟨a, b, rfl⟩
theorem ex3 {α : Type} {us : List α} (hl : us.length = 3) : ∃ a b c, us = [a, b, c] := by
  match us, hl with
  | [a, b, c], _ => exact ⟨a, b, c, rfl⟩
theorem ex4 {α : Type} {us : List α} (hl : us.length = 4) : ∃ a b c d, us = [a, b, c, d] := by
  match us, hl with
  | [a, b, c, d], _ => exact ⟨a, b, c, d, rfl⟩
end L2
set_option Elab.async false
set_option linter.all false
set_option maxRecDepth 100000
namespace L2
open PySem PySem.Spec PyProof.Rows
section
variable {X : Cx}
end
section
variable {X : Cx}
end
end L2
set_option Elab.async false
set_option linter.all false
set_option maxRecDepth 100000
namespace L2
open PySem PySem.Spec PyProof.Rows
section
variable {prog : Program} {w : World} {A : Around} {E : Value → Shared → Prop} {h : Heap} {g : Array GenState} {d : PySem.Drawn} {t : Nat} {os : OsState} {a : Addr} {o : Obj}
end
section
variable {P : Program} {w : World} {A : Around} {R : Result → Shared → Prop} {p d I : Addr} {its : List Value} {vs : List (Key × Value)} {h0 : Heap}
end
section
variable {X : Cx}
end
end L2
set_option Elab.async false
set_option linter.all false
set_option maxRecDepth 100000
namespace L2
open PySem PySem.Spec PyProof.Rows
noncomputable def PairT (H : Hp) (a : Addr) (x : Int × Int) : Prop := H a = some (.tup [.int x.1, .int x.2])
noncomputable def TupsL (H : Hp) (ps : List Addr) (row : List (Int × Int)) : Prop := Paired (PairT H) ps row
noncomputable def RowAt (H : Hp) (r : Addr) (row : List (Int × Int)) : Prop := ∃ ps : List Addr, H r = some (.lst (ps.map V.ref)) ∧ TupsL H ps row
noncomputable def BillL (H : Hp) (rs : List Addr) (rows : List (List (Int × Int))) : Prop := Paired (RowAt H) rs rows
theorem pair_at {α β : Type} {F : α → β → Prop} {l : List α} {r : List β} {i : Nat} {a : α} (h : Paired F l r) (e : l[i]? = some a) : ∃ b, r[i]? = some b ∧ F a b := by
  induction h generalizing i with
  | nil => cases e
  | cons x t ih =>
    cases i with
    | zero => cases e; exact ⟨_, rfl, x⟩
    | succ i => exact ih e
theorem TupsL.same {H H' : Hp} {ps : List Addr} {row : List (Int × Int)} (h : TupsL H ps row) (s : Same H H') : TupsL H' ps row := Paired.mapP h fun _ _ q => s _ _ q
theorem TupsL.len {H : Hp} {ps : List Addr} {row : List (Int × Int)} (h : TupsL H ps row) : ps.length = row.length := Paired.length h
theorem RowAt.same {H H' : Hp} {r : Addr} {row : List (Int × Int)} (h : RowAt H r row) (s : Same H H') : RowAt H' r row := let ⟨ps, a, b⟩ := h; ⟨ps, s _ _ a, b.same s⟩
theorem BillL.len {H : Hp} {rs : List Addr} {rows : List (List (Int × Int))} (h : BillL H rs rows) : rs.length = rows.length := Paired.length h
theorem BillL.get {H : Hp} {rs : List Addr} {rows : List (List (Int × Int))} (h : BillL H rs rows) {i : Nat} {r : Addr} (e : rs[i]? = some r) : ∃ row, rows[i]? = some row ∧ RowAt H r row := pair_at h e
theorem comp_pairs {K : PySem.W.Frag} {H1 : Hp} {js : List (Option Nat)} {σ : L2.St} {tc : TT} {te : TE} {Q : VK} {r : Addr} {ps : List Addr} {row : List (Int × Int)} (p : Nat → Bool) (P : Addr → Nat → V → Hp → Prop)
    (hr : SqL K H1 r (ps.map V.ref)) (ht : TupsL H1 ps row) (hn : row.length < 100000)
    (mono : ∀ acc i v H H', P acc i v H → SameBut acc H H' → P acc i v H')
    (hc : ∀ (i : Nat) x, row[i]? = some x → ∀ H2 R, Same H1 H2 → (∀ H3, Same H2 H3 → R (p i) H3) → tc (some (.int x.1) :: some (.int x.2) :: pick σ js) H2 R)
    (he : ∀ acc (i : Nat) x, row[i]? = some x → p i = true → ∀ H2 R, Same H1 H2 → H1 acc = none → H2 acc ≠ none → (∀ v H3, Same H2 H3 → P acc i v H3 → R v H3) → te (some (.int x.1) :: some (.int x.2) :: pick σ js) H2 R)
    (hQ : ∀ acc vs H', Same H1 H' → H1 acc = none → H' acc = some (.lst vs) → Paired (fun i v => P acc i v H') ((List.range row.length).filter p) vs → Q (.ref acc) H') :
    CompB (Itl K r) H1 (none :: none :: js) (gTup K 2 (gCons (gName 0) (gCons (gName 1) gNil))) tc te σ Q := by
  have hl := ht.len
  intro acc hacc
  refine ⟨fun i m ys H => m = row.length - i ∧ i ≤ row.length ∧ Same H1 H ∧ H acc = some (.lst ys) ∧ Paired (fun k v => P acc k v H) ((List.range i).filter p) ys, ⟨row.length, by simp, Nat.zero_le _, Same.new hacc, upd_same, .nil⟩, ?_⟩
  rintro i m ys H ⟨rfl, hi, s1, ha, hp⟩
  by_cases hlt : i < row.length
  · have hps : i < ps.length := by omega
    have ex : row[i]? = some row[i] := List.getElem?_eq_getElem hlt
    refine .inr ⟨⟨_, .ref ps[i], s1.seq hr, by simp [hps]⟩, fun ys' H' => i < row.length ∧ Same H1 H' ∧ H' acc = some (.lst ys') ∧ Paired (fun k v => P acc k v H') ((List.range (i + 1)).filter p) ys', fun ys' H' ⟨z, a, b, c⟩ => ⟨row.length - (i + 1), by omega, rfl, hlt, a, b, c⟩, fun x H' y => ?_⟩
    obtain ⟨rfl, y⟩ := y
    have y := y _ (s1.seq hr)
    rw [List.getElem?_map] at y
    obtain ⟨a, ea, rfl⟩ := Option.map_eq_some_iff.mp y
    obtain ⟨x', ex', ft⟩ := pair_at ht ea
    rw [ex] at ex'
    cases ex'
    refine ⟨a, _, rfl, SqT.of (s1 _ _ ft), rfl, _, _, rfl, _, _, rfl, rfl, kept2, hc i _ ex _ _ s1 fun H2 s2 => ⟨fun hb => ?_, fun hb => ?_⟩⟩
    · have ha2 := s2 _ _ ha
      refine he acc i _ ex hb _ _ (s1.trans s2) hacc (by rw [ha2]; simp) fun v H3 s3 pv => ?_
      have hlen : ys.length ≤ i := by
        rw [← Paired.length hp]
        exact Nat.le_trans (List.length_filter_le _ _) (by simp)
      refine ⟨s3 _ _ ha2, szn (by omega), hlt, ((s1.trans s2).trans s3).put hacc, upd_same, ?_⟩
      rw [List.range_succ, List.filter_append]
      have e : List.filter p [i] = [i] := by simp [hb]
      rw [e]
      refine Paired.snoc (Paired.mapP hp fun k v q => ?_) ?_
      · exact mono acc k v _ _ (mono acc k v _ _ q (s2.trans s3).but) SameBut.upd
      · exact mono acc i v _ _ pv SameBut.upd
    · refine ⟨hlt, s1.trans s2, s2 _ _ ha, ?_⟩
      rw [List.range_succ, List.filter_append]
      have e : List.filter p [i] = [] := by simp [hb]
      rw [e, List.append_nil]
      exact Paired.mapP hp fun k v q => mono acc k v _ _ q s2.but
  · have e : i = row.length := by omega
    subst e
    exact .inl ⟨⟨_, s1.seq hr, by rw [List.length_map]; omega⟩, hQ acc ys H s1 hacc ha hp⟩
noncomputable def look (row : List (Int × Int)) (b : Int) : Option Int := (row.find? fun x => x.1 == b).map (·.2)
theorem look_some {row : List (Int × Int)} {b c : Int} (h : look row b = some c) : (b, c) ∈ row := by
  unfold look at h
  obtain ⟨x, hx, e⟩ := Option.map_eq_some_iff.mp h
  have e1 := List.find?_some hx
  have e2 := List.mem_of_find?_eq_some hx
  have e3 : x.1 = b := by simpa using e1
  rw [← e3, ← e]
  exact e2
theorem deq_rows {K : PySem.W.Frag} {H : Hp} {a b : Addr} {row : List (Int × Int)} (h1 : RowAt H a row) (h2 : RowAt H b row) : DEq K H 2 (.ref a) (.ref b) true := by
  obtain ⟨ps, a1, a2⟩ := h1
  obtain ⟨qs, b1, b2⟩ := h2
  refine deq_true (SqL.of a1) (SqL.of b1) (by rw [List.length_map, List.length_map, a2.len, b2.len]) fun j x y ex ey => ?_
  rw [List.getElem?_map] at ex ey
  obtain ⟨r, e1, rfl⟩ := Option.map_eq_some_iff.mp ex
  obtain ⟨r', e2, rfl⟩ := Option.map_eq_some_iff.mp ey
  obtain ⟨x1, f1, g1⟩ := pair_at a2 e1
  obtain ⟨x2, f2, g2⟩ := pair_at b2 e2
  rw [f1] at f2
  cases f2
  refine deqT_true (SqT.of g1) (SqT.of g2) rfl fun i u v eu ev => ?_
  rw [eu] at ev
  cases ev
  match i with
  | 0 => cases eu; exact deq_flat1 rfl
  | 1 => cases eu; exact deq_flat1 rfl
  | i + 2 => cases eu
end L2
set_option Elab.async false
set_option linter.all false
set_option maxRecDepth 100000
namespace L2
open PySem PySem.Spec PyProof.Rows
theorem ixN_natE {n j : Nat} (h : j < n) : ixN n (j : Int) = some j := by
  unfold ixN
  rw [if_pos (by omega), if_pos (by omega), Int.toNat_natCast]
structure RowOk (bs : List Int) (tp : Int) (row : List (Int × Int)) : Prop where
  up : (row.map (·.1)).Pairwise (· < ·)
  inn : ∀ x ∈ row, x.1 ∈ bs ∧ 0 ≤ x.2 ∧ x.2 < tp
  len : row.length ≤ bs.length
theorem RowOk.nd {bs : List Int} {tp : Int} {row : List (Int × Int)} (h : RowOk bs tp row) : (row.map (·.1)).Nodup := lt_nd h.up
theorem TupsL.but {H : Hp} {l : Addr} {ps : List Addr} {row : List (Int × Int)} {xs : List V} {o : HO} (h : TupsL H ps row) (hl : H l = some (.lst xs)) : TupsL (upd H l o) ps row :=
  Paired.mapP h fun a x q => by
    show upd H l o a = _
    rw [upd_ne (fun z => by rw [PairT, z, hl] at q; cases q)]; exact q
theorem paired_snoc_len {α β : Type} {F : α → β → Prop} {l : List α} {r : List β} (h : Paired F l r) {a : α} {b : β} (q : F a b) : Paired F (l ++ [a]) (r ++ [b]) := Paired.snoc h q
end L2
set_option Elab.async false
set_option linter.all false
set_option maxRecDepth 100000
namespace L2
open PySem PySem.Spec PyProof.Rows
noncomputable def keysOf (row : List (Int × Int)) : List Int := row.map (·.1)
end L2
set_option Elab.async false
set_option linter.all false
set_option maxRecDepth 100000
namespace L2
open PySem PySem.Spec PyProof.Rows
section
variable {X : Cx}
end
end L2
set_option Elab.async false
set_option linter.all false
set_option maxRecDepth 100000
namespace L2
open PySem PySem.Spec PyProof.Rows
inductive GRk : Nat → GPap → Prop where
  | tie {r : Nat} {j : Int} : GRk r (.tie j)
  | short {r : Nat} {bs : List Int} : GRk r (.short bs)
  | split {r : Nat} {ps : List GPap} (h : ∀ q ∈ ps, GRk r q) : GRk (r + 1) (.split ps)
theorem GRk.up {r : Nat} {g : GPap} (h : GRk r g) : GRk (r + 1) g := by
  induction h with
  | tie => exact .tie
  | short => exact .short
  | split h ih => exact .split ih
noncomputable def hidA (lf : Addr) (H : Hp) : Hp := fun b => if b = lf then none else H b
theorem hidA_ne {lf b : Addr} {H : Hp} (h : b ≠ lf) : hidA lf H b = H b := if_neg h
theorem paired_app {α β : Type} {F : α → β → Prop} {l l2 : List α} {r r2 : List β} (h : Paired F l r) (h2 : Paired F l2 r2) : Paired F (l ++ l2) (r ++ r2) := by
  induction h with
  | nil => exact h2
  | cons h _ ih => exact .cons h ih
noncomputable def Kept1 (lf : Addr) (H H' : Hp) : Prop := Same (hidA lf H) (hidA lf H') ∧ ∃ o, H' lf = some o
theorem Kept1.there {lf : Addr} {H H' : Hp} (k : Kept1 lf H H') {b : Addr} (h : H' b = none) : H b = none := by
  cases e : H b with
  | none => rfl
  | some o =>
    by_cases z : b = lf
    · obtain ⟨o', h'⟩ := k.2
      rw [z, h'] at h
      cases h
    · have := k.1 b o (by rw [hidA_ne z]; exact e)
      rw [hidA_ne z, h] at this
      cases this
end L2
set_option Elab.async false
set_option linter.all false
set_option maxRecDepth 100000
namespace L2
open PySem PySem.Spec PyProof.Rows
noncomputable abbrev Rows := List (List (Int × Int))
noncomputable def du (ds : List (Int × Int)) (b : Int) : Int := (look ds b).getD 0
noncomputable def hA (hs : List (Option Int)) (j : Nat) : Option Int := hs.getD j none
noncomputable def pA (ps : List Int) (j : Nat) : Int := ps.getD j 0
noncomputable def rA (rows : Rows) (j : Nat) : List (Int × Int) := rows.getD j []
noncomputable def Tgt (rows : Rows) (ps : List Int) (ds : List (Int × Int)) (j : Nat) (b : Int) : Prop := ∃ c, look (rA rows j) b = some c ∧ pA ps j - du ds b = c
theorem du_nn {ds : List (Int × Int)} (h : ∀ x ∈ ds, 0 ≤ x.2) (b : Int) : 0 ≤ du ds b := by
  unfold du
  cases e : look ds b with
  | none => exact Int.le_refl _
  | some d => exact h _ (look_some e)
structure PTree (rows : Rows) (hs : List (Option Int)) (ps : List Int) (ds : List (Int × Int)) (i : Nat) (R : List Nat) (A : List (Int × Nat)) : Prop where
  root : R[0]? = some i
  free : hA hs i = none
  len : R.length = A.length + 1
  hold : ∀ (t : Nat) x, A[t]? = some x → ∃ j, R[t + 1]? = some j ∧ hA hs j = some x.1
  ask : ∀ (t : Nat) x, A[t]? = some x → (∃ u, u ≤ t ∧ R[u]? = some x.2) ∧ Tgt rows ps ds x.2 x.1
  nd : (A.map (·.1)).Nodup
  lt : ∀ j ∈ R, j < rows.length
  keys : ∀ x ∈ A, x.1 ∈ ds.map (·.1)
theorem PTree.rnd {rows : Rows} {hs : List (Option Int)} {ps : List Int} {ds : List (Int × Int)} {i : Nat} {R : List Nat} {A : List (Int × Nat)} (T : PTree rows hs ps ds i R A) : R.Nodup := by
  rw [List.nodup_iff_pairwise_ne, List.pairwise_iff_getElem]
  intro a b ha hb hab e
  have tl := T.len
  obtain ⟨t, rfl⟩ : ∃ t, b = t + 1 := ⟨b - 1, by omega⟩
  obtain ⟨j, e1, e2⟩ := T.hold t _ (List.getElem?_eq_getElem (show t < A.length by omega))
  rw [List.getElem?_eq_getElem hb] at e1
  have e1 := Option.some.inj e1
  cases a with
  | zero =>
    have r := T.root
    rw [List.getElem?_eq_getElem ha] at r
    have r := Option.some.inj r
    have : hA hs i = some A[t].1 := by rw [← r, e, e1]; exact e2
    rw [T.free] at this
    cases this
  | succ a =>
    obtain ⟨j2, f1, f2⟩ := T.hold a _ (List.getElem?_eq_getElem (show a < A.length by omega))
    rw [List.getElem?_eq_getElem ha] at f1
    have f1 := Option.some.inj f1
    have ej : j2 = j := by rw [← f1, ← e1, e]
    rw [ej, e2] at f2
    have f2 := Option.some.inj f2
    have n1 := T.nd
    rw [List.nodup_iff_pairwise_ne, List.pairwise_iff_getElem] at n1
    exact n1 a t (by rw [List.length_map]; omega) (by rw [List.length_map]; omega) (by omega) (by rw [List.getElem_map, List.getElem_map]; exact f2.symm)
end L2
set_option Elab.async false
set_option linter.all false
set_option maxRecDepth 100000
namespace L2
open PySem PySem.Spec PyProof.Rows
section
variable {X : Cx}
end
noncomputable def encP (ds : List (Int × Int)) : List (Key × V) := ds.map fun x => (Sum.inl x.1, V.int x.2)
theorem encP_val (ds : List (Int × Int)) (b : Int) : valV (encP ds) (Sum.inl b) = (look ds b).map V.int := by
  induction ds with
  | nil => rfl
  | cons x ds ih =>
    unfold valV look encP at *
    rw [List.map_cons, List.find?_cons, List.find?_cons]
    by_cases z : x.1 = b
    · have z1 : (x.1 == b) = true := by simp [z]
      have z2 : decide ((Sum.inl x.1 : Key) = Sum.inl b) = true := by simp [z]
      simp only [z1, z2]
      rfl
    · have z1 : (x.1 == b) = false := beq_false_of_ne z
      have z2 : decide ((Sum.inl x.1 : Key) = Sum.inl b) = false := by simp [z]
      simp only [z1, z2]
      exact ih
noncomputable def putD (ds : List (Int × Int)) (b d : Int) : List (Int × Int) := if b ∈ ds.map (·.1) then ds.map fun x => if x.1 = b then (b, d) else x else ds ++ [(b, d)]
end L2
set_option Elab.async false
set_option linter.all false
set_option maxRecDepth 100000
namespace L2
open PySem PySem.Spec PyProof.Rows
theorem encP_put (ds : List (Int × Int)) (b d : Int) : putK (encP ds) (Sum.inl b) (.int d) = encP (putD ds b d) := by
  unfold putK putD
  have e : ((encP ds).any fun kv => decide (kv.1 = Sum.inl b)) = decide (b ∈ ds.map (·.1)) := by
    rw [Bool.eq_iff_iff, List.any_eq_true, decide_eq_true_iff]
    unfold encP
    constructor
    · rintro ⟨x, hx, e⟩
      obtain ⟨y, hy, rfl⟩ := List.mem_map.mp hx
      have := Sum.inl.inj (of_decide_eq_true e)
      exact List.mem_map.mpr ⟨y, hy, this⟩
    · intro h
      obtain ⟨y, hy, e⟩ := List.mem_map.mp h
      exact ⟨(Sum.inl y.1, V.int y.2), List.mem_map.mpr ⟨y, hy, rfl⟩, by simp [e]⟩
  rw [e]
  by_cases z : b ∈ ds.map (·.1)
  · rw [if_pos (by simpa using z), if_pos z]
    unfold encP
    rw [List.map_map, List.map_map]
    apply List.map_congr_left
    intro x _
    show (if (Sum.inl x.1 : Key) = Sum.inl b then _ else _) = _
    by_cases y : x.1 = b
    · rw [if_pos (by rw [y])]
      show (Sum.inl x.1, V.int d) = (fun x : Int × Int => ((Sum.inl x.1 : Key), V.int x.2)) (if x.1 = b then (b, d) else x)
      rw [if_pos y, y]
    · rw [if_neg (fun h => y (Sum.inl.inj h))]
      show _ = (fun x : Int × Int => ((Sum.inl x.1 : Key), V.int x.2)) (if x.1 = b then (b, d) else x)
      rw [if_neg y]
  · rw [if_neg (by simpa using z), if_neg z]
    unfold encP
    rw [List.map_append]; rfl
theorem putD_keys {ds : List (Int × Int)} {b d : Int} (h : b ∈ ds.map (·.1)) : (putD ds b d).map (·.1) = ds.map (·.1) := by
  unfold putD
  rw [if_pos h, List.map_map]
  apply List.map_congr_left
  intro x _
  show (if x.1 = b then (b, d) else x).1 = x.1
  split
  · rename_i e; exact e.symm
  · rfl
theorem putD_look (ds : List (Int × Int)) (b d c : Int) : look (putD ds b d) c = if c = b then some d else look ds c := by
  have h := valV_put (encP ds) (Sum.inl b : Key) (Sum.inl c) (.int d)
  rw [encP_put, encP_val, encP_val] at h
  by_cases z : c = b
  · rw [if_pos (by rw [z])] at h
    rw [if_pos z]
    obtain ⟨v, e1, e2⟩ := Option.map_eq_some_iff.mp h
    cases e2
    exact e1
  · rw [if_neg (fun y => z (Sum.inl.inj y))] at h
    rw [if_neg z]
    cases e : look ds c with
    | none => rw [e] at h; exact Option.map_eq_none_iff.mp h
    | some v =>
      rw [e] at h
      obtain ⟨v', e1, e2⟩ := Option.map_eq_some_iff.mp h
      cases e2
      exact e1
theorem putD_mem {ds : List (Int × Int)} {b d : Int} {x : Int × Int} (h : x ∈ putD ds b d) : x ∈ ds ∨ x = (b, d) := by
  unfold putD at h
  split at h
  · obtain ⟨y, hy, e⟩ := List.mem_map.mp h
    split at e
    · exact .inr e.symm
    · rw [← e]; exact .inl hy
  · rcases List.mem_append.mp h with z | z
    · exact .inl z
    · exact .inr (List.mem_singleton.mp z)
structure RaD (Ks : List Int) (g : Int) (ds ds' : List (Int × Int)) : Prop where
  ky : ds'.map (·.1) = ds.map (·.1)
  nn : (∀ x ∈ ds, 0 ≤ x.2) → ∀ x ∈ ds', 0 ≤ x.2
  dr : ∀ b, du ds' b = du ds b + if b ∈ Ks then g else 0
theorem RaD.step {Ks : List Int} {g b : Int} {ds ds' : List (Int × Int)} (r : RaD Ks g ds ds') (g0 : 0 ≤ g) (hb : b ∉ Ks) (hk : b ∈ ds.map (·.1)) : RaD (Ks ++ [b]) g ds (putD ds' b (du ds' b + g)) := by
  have hk' : b ∈ ds'.map (·.1) := by rw [r.ky]; exact hk
  refine ⟨by rw [putD_keys hk', r.ky], fun h x hx => ?_, fun c => ?_⟩
  · rcases putD_mem hx with z | z
    · exact r.nn h x z
    · rw [z]
      have := du_nn (r.nn h) b
      show 0 ≤ du ds' b + g
      omega
  · have e : du (putD ds' b (du ds' b + g)) c = if c = b then du ds' b + g else du ds' c := by
      show (look (putD ds' b (du ds' b + g)) c).getD 0 = _
      rw [putD_look]
      split <;> rfl
    rw [e, r.dr c]
    by_cases z : c = b
    · subst z
      rw [if_pos rfl, r.dr, if_neg hb, if_pos (by simp)]
      omega
    · rw [if_neg z]
      have : c ∈ Ks ++ [b] ↔ c ∈ Ks := by simp [z]
      by_cases y : c ∈ Ks
      · rw [if_pos y, if_pos (this.mpr y)]
      · rw [if_neg y, if_neg fun h => y (this.mp h)]
structure RaP (R : List Nat) (g : Int) (ps ps' : List Int) : Prop where
  lp : ps'.length = ps.length
  pr : ∀ j, pA ps' j = pA ps j + if j ∈ R then g else 0
theorem pA_set {ps : List Int} {q j : Nat} {v : Int} (h : q < ps.length) : pA (ps.set q v) j = if j = q then v else pA ps j := by
  unfold pA
  rw [List.getD_eq_getElem?_getD, List.getD_eq_getElem?_getD, List.getElem?_set]
  by_cases z : q = j
  · subst z
    rw [if_pos rfl, if_pos h, if_pos rfl]; rfl
  · rw [if_neg z, if_neg fun y => z y.symm]
theorem RaP.step {R : List Nat} {g : Int} {q : Nat} {ps ps' : List Int} (r : RaP R g ps ps') (hq : q ∉ R) (hl : q < ps.length) : RaP (R ++ [q]) g ps (ps'.set q (pA ps' q + g)) := by
  refine ⟨by rw [List.length_set, r.lp], fun c => ?_⟩
  rw [pA_set (by rw [r.lp]; exact hl), r.pr c]
  by_cases z : c = q
  · subst z
    rw [if_pos rfl, r.pr, if_neg hq, if_pos (by simp)]
    omega
  · rw [if_neg z]
    have : c ∈ R ++ [q] ↔ c ∈ R := by simp [z]
    by_cases y : c ∈ R
    · rw [if_pos y, if_pos (this.mpr y)]
    · rw [if_neg y, if_neg fun h => y (this.mp h)]
theorem take_snoc {α : Type} {l : List α} {i : Nat} {x : α} (h : l[i]? = some x) : l.take (i + 1) = l.take i ++ [x] := by
  rw [List.take_add_one, h]; rfl
structure Near (L : List (Int × Int × Nat)) (f : Option (Int × Int × Nat)) : Prop where
  no : f = none → L = []
  yes : ∀ t, f = some t → t ∈ L ∧ ∀ u ∈ L, t.1 ≤ u.1
theorem Near.keep {L : List (Int × Int × Nat)} {t u : Int × Int × Nat} (n : Near L (some t)) (h : ¬ u.1 < t.1) : Near (L ++ [u]) (some t) := by
  refine ⟨fun h => (by cases h), fun t' e => ?_⟩
  cases e
  refine ⟨List.mem_append_left _ (n.yes t rfl).1, fun v hv => ?_⟩
  rcases List.mem_append.mp hv with z | z
  · exact (n.yes t rfl).2 v z
  · rw [List.mem_singleton.mp z]; omega
theorem PTree.le {rows : Rows} {hs : List (Option Int)} {ps : List Int} {ds : List (Int × Int)} {i : Nat} {R : List Nat} {A : List (Int × Nat)} (T : PTree rows hs ps ds i R A) : R.length ≤ rows.length := by
  have := T.rnd.length_le_of_subset (l₂ := List.range rows.length) fun j hj => List.mem_range.mpr (T.lt j hj)
  rwa [List.length_range] at this
end L2
set_option Elab.async false
set_option linter.all false
set_option maxRecDepth 100000
namespace L2
open PySem PySem.Spec PyProof.Rows PySem.W
noncomputable def runC {α : Type} (n : Nat) (lt : Nat → Nat → Bool) : KasT α → Option α
  | .ret a => some a
  | .ask i j k => if decide (i < n) && decide (j < n) && !(i == j) then runC n lt (k (lt i j)) else none
theorem kasWp_run {α : Type} {cmp : Nat → Nat → (Bool → Shared → Prop) → Shared → Prop} {n : Nat} {lt : Nat → Nat → Bool} {s : Shared} (hc : ∀ i j C, i < n → j < n → i ≠ j → C (lt i j) s → cmp i j C s) {Q : α → Shared → Prop} {a : α} :
    ∀ (t : KasT α), runC n lt t = some a → Q a s → t.kasWp cmp Q s
  | .ret b, h, q => by cases h; exact q
  | .ask i j k, h, q => by
    unfold runC at h
    split at h
    · rename_i hh
      rw [Bool.and_eq_true, Bool.and_eq_true] at hh
      obtain ⟨⟨h1, h2⟩, h3⟩ := hh
      exact hc i j _ (of_decide_eq_true h1) (of_decide_eq_true h2) (by simpa using h3) (kasWp_run hc _ h q)
    · cases h
theorem runC_congr {α : Type} {n : Nat} {f g : Nat → Nat → Bool} (h : ∀ i j, i < n → j < n → f i j = g i j) : ∀ t : KasT α, runC n f t = runC n g t
  | .ret a => rfl
  | .ask i j k => by
    unfold runC
    by_cases z : (decide (i < n) && decide (j < n) && !(i == j)) = true
    · rw [if_pos z, if_pos z]
      rw [Bool.and_eq_true, Bool.and_eq_true] at z
      rw [h i j (of_decide_eq_true z.1.1) (of_decide_eq_true z.1.2)]
      exact runC_congr h _
    · rw [if_neg z, if_neg z]
end L2
set_option Elab.async false
set_option linter.all false
set_option maxRecDepth 100000
namespace L2
open PySem PySem.Spec PyProof.Rows PySem.W
section
variable {prog : Program} {w : World} {A : Around} {E : Value → Shared → Prop} {s : Shared}
end
end L2
set_option Elab.async false
set_option linter.all false
set_option maxRecDepth 100000
namespace L2
open PySem PySem.Spec PyProof.Rows PySem.W
theorem ObjOk.get {P : Program} {w : World} {H : Hp} {h : Heap} {a : Addr} {o : HO} (x : ObjOk P w H h a o) : ∃ u, h.get? a = some u := by
  cases o with
  | lst xs => obtain ⟨_, _, _, _, e⟩ := x; exact ⟨_, e⟩
  | tup xs => obtain ⟨_, _, _, o, e, _⟩ := x; exact ⟨_, e⟩
  | dK kvs => obtain ⟨_, _, _, _, o, _, _, e, _⟩ := x; exact ⟨_, e⟩
  | dT kvs => obtain ⟨_, _, _, _, o, _, _, e, _⟩ := x; exact ⟨_, e⟩
  | set S n => obtain ⟨o, _, _, _, e, _⟩ := x; exact ⟨_, e⟩
  | ins C dx fs => obtain ⟨_, _, _, e, _⟩ := x; exact ⟨_, e⟩
  | own y => obtain ⟨_, e⟩ := x; exact ⟨_, e⟩
  | xd fs => obtain ⟨_, ⟨_, _, _, e, _⟩, _⟩ := x; exact ⟨_, e⟩
  | rng lo hi => obtain ⟨_, _, _, e⟩ := x; exact ⟨_, e⟩
  | frz ob u => obtain ⟨e, _⟩ := x; exact ⟨_, e⟩
  | tbl ps => exact ⟨_, show h.get? a = some _ from x⟩
  | met f y => exact ⟨_, show h.get? a = some _ from x⟩
  | ext φ => obtain ⟨_, ⟨_, e⟩, _⟩ := x; exact ⟨_, e⟩
section
variable {X : Cx}
end
theorem rep_flat {α : Type} (x : α) (n : Nat) : (List.replicate n [x]).flatten = List.replicate n x := by
  induction n with
  | zero => rfl
  | succ n ih => rw [List.replicate_succ, List.flatten_cons, ih, List.replicate_succ]; rfl
end L2
set_option Elab.async false
set_option linter.all false
namespace L2
open PySem PySem.Spec PyProof.Rows PySem.W
end L2
set_option Elab.async false
set_option linter.all false
set_option maxRecDepth 100000
namespace L2
open PySem PySem.Spec PyProof.Rows PySem.W
section
variable {prog : Program} {w : World} {A : Around} {E : Value → Shared → Prop} {s : Shared}
end
section
variable {X : Cx}
end
end L2
set_option Elab.async false
set_option linter.all false
set_option maxRecDepth 100000
namespace L2
open PySem PySem.Spec PyProof.Rows PySem.W
noncomputable def cstR : Rows → List Int → Int
  | r :: rs, h :: hs => (look r h).getD 0 + cstR rs hs
  | _, _ => 0
inductive DP : Rows → List Int → Prop
  | nil : DP [] []
  | cons {r : List (Int × Int)} {h : Int} {rs : Rows} {hs : List Int} : h ∈ keysOf r → DP rs hs → DP (r :: rs) (h :: hs)
theorem DP.len {rows : Rows} {hs : List Int} (h : DP rows hs) : hs.length = rows.length := by
  induction h with
  | nil => rfl
  | cons _ _ ih => rw [List.length_cons, List.length_cons, ih]
theorem DP.split {A B : Rows} : ∀ {hs : List Int}, DP (A ++ B) hs → ∃ ha hb, hs = ha ++ hb ∧ DP A ha ∧ DP B hb := by
  induction A with
  | nil => intro hs h; exact ⟨[], hs, rfl, .nil, h⟩
  | cons r A ih =>
    intro hs h
    rw [List.cons_append] at h
    cases h with
    | cons hm t =>
      obtain ⟨ha, hb, rfl, h1, h2⟩ := ih t
      exact ⟨_ :: ha, hb, rfl, .cons hm h1, h2⟩
noncomputable def Best (rows : Rows) : Option Int → Prop
  | none => ∀ hs, DP rows hs → ¬ hs.Nodup
  | some t => (∃ hs, DP rows hs ∧ hs.Nodup ∧ cstR rows hs = t) ∧ ∀ hs, DP rows hs → hs.Nodup → t ≤ cstR rows hs
theorem Best.uniq {rows : Rows} {o o' : Option Int} (h : Best rows o) (h' : Best rows o') : o = o' := by
  cases o with
  | none =>
    cases o' with
    | none => rfl
    | some t => obtain ⟨⟨hs, d, nd, _⟩, _⟩ := h'; exact absurd nd (h hs d)
  | some t =>
    cases o' with
    | none => obtain ⟨⟨hs, d, nd, _⟩, _⟩ := h; exact absurd nd (h' hs d)
    | some t' =>
      obtain ⟨⟨hs, d, nd, e⟩, l⟩ := h
      obtain ⟨⟨hs', d', nd', e'⟩, l'⟩ := h'
      have := l hs' d' nd'
      have := l' hs d nd
      congr 1; omega
theorem cst_nn {rows : Rows} {hs : List Int} (ok : ∀ row ∈ rows, ∀ x ∈ row, 0 ≤ x.2) : 0 ≤ cstR rows hs := by
  induction rows generalizing hs with
  | nil => exact Int.le_refl _
  | cons r rs ih =>
    cases hs with
    | nil => exact Int.le_refl _
    | cons h hs =>
      show 0 ≤ _ + _
      have h1 := ih (hs := hs) fun row hr => ok row (List.mem_cons_of_mem _ hr)
      cases e : look r h with
      | none => show 0 ≤ 0 + _; omega
      | some c => have := ok r List.mem_cons_self _ (look_some e); show 0 ≤ c + _; simp only at this; omega
theorem Best.nn {rows : Rows} {t : Int} (ok : ∀ row ∈ rows, ∀ x ∈ row, 0 ≤ x.2) (h : Best rows (some t)) : 0 ≤ t := by
  obtain ⟨⟨hs, _, _, e⟩, _⟩ := h
  have := cst_nn (hs := hs) ok
  omega
theorem Best.nil {o : Option Int} (h : Best [] o) : o = some 0 := h.uniq ⟨⟨[], .nil, List.nodup_nil, rfl⟩, fun hs _ _ => by cases hs <;> exact Int.le_refl _⟩
end L2
set_option Elab.async false
set_option linter.all false
set_option maxRecDepth 100000
namespace L2
open PySem PySem.Spec PyProof.Rows PySem.W
theorem filter_at {α : Type} (row : List (Int × Int)) (d : Int × Int) (p : Int × Int → Bool) (f : Int × Int → α) : ((List.range row.length).filter fun i => p (row.getD i d)).map (fun i => f (row.getD i d)) = (row.filter p).map f := by
  have e : (List.range row.length).map (fun i => row.getD i d) = row := by
    apply List.ext_getElem
    · rw [List.length_map, List.length_range]
    · intro i h1 h2
      rw [List.getElem_map, List.getElem_range, List.getD_eq_getElem?_getD, List.getElem?_eq_getElem h2]
      rfl
  have := congrArg (fun l => (l.filter p).map f) e
  simp only [List.filter_map, List.map_map] at this
  exact this
noncomputable def ahd (es : List (Int × Int)) (s : Int) : List Int := (es.filter fun x => decide (x.2 = s)).map (·.1)
noncomputable def frB (es : List (Int × Int)) (ts : List Int) (s : Int) : Bool := !decide (s ∈ ts) && (ahd es s).all fun a => decide (a ∈ ts)
noncomputable def dnS (dn : List (Option Int)) : List Int := ((List.range dn.length).filter fun i => (dn.getD i none).isSome).map fun (i : Nat) => (i : Int)
theorem decV {a b : Int} : decide (V.int a = V.int b) = decide (a = b) := by simp
theorem comp_pairsF {K : PySem.W.Frag} {H1 : Hp} {js : List (Option Nat)} {σ : L2.St} {tc : TT} {te : TE} {Q : VK} {r : Addr} {row : List (Int × Int)} (p : Int × Int → Bool) (f : Int × Int → V)
    (hr : RowAt H1 r row) (hn : row.length < 100000)
    (hc : ∀ (i : Nat) x, row[i]? = some x → ∀ H2 R, Same H1 H2 → (∀ H3, Same H2 H3 → R (p x) H3) → tc (some (.int x.1) :: some (.int x.2) :: pick σ js) H2 R)
    (he : ∀ (i : Nat) x, row[i]? = some x → ∀ H2 R, Same H1 H2 → (∀ H3, Same H2 H3 → R (f x) H3) → te (some (.int x.1) :: some (.int x.2) :: pick σ js) H2 R)
    (hQ : ∀ acc H', Same H1 H' → H1 acc = none → H' acc = some (.lst ((row.filter p).map f)) → Q (.ref acc) H') :
    CompB (Itl K r) H1 (none :: none :: js) (gTup K 2 (gCons (gName 0) (gCons (gName 1) gNil))) tc te σ Q := by
  obtain ⟨ps, h1, h2⟩ := hr
  refine comp_pairs (ps := ps) (row := row) (fun i => p (row.getD i (0, 0))) (fun _ i v _ => v = f (row.getD i (0, 0))) (SqL.of h1) h2 hn (fun _ _ _ _ _ h _ => h) (fun i x ex H2 R s k => hc i x ex H2 R s fun H3 s3 => ?_) (fun acc i x ex _ H2 R s _ _ k => he i x ex H2 R s fun H3 s3 => k _ H3 s3 ?_) fun acc vs H' s n e pp => ?_
  · have := k H3 s3
    rw [List.getD_eq_getElem?_getD, ex] at this
    exact this
  · rw [List.getD_eq_getElem?_getD, ex]; rfl
  · exact hQ acc H' s n (by rw [e, paired_map pp, filter_at row (0, 0) p f])
theorem map_atI {α : Type} (L : List Int) (g : Int → α) : ((List.range L.length).filter (fun _ => true)).map (fun i => g (L.getD i 0)) = L.map g := by
  rw [List.filter_eq_self.mpr (fun _ _ => rfl)]
  apply List.ext_getElem
  · simp
  · intro i h1 h2
    rw [List.length_map] at h2
    rw [List.getElem_map, List.getElem_map, List.getElem_range, List.getD_eq_getElem?_getD, List.getElem?_eq_getElem h2]
    rfl
theorem RowAt.put {Hx : Hp} {o t : Addr} {ps : List Addr} {row : List (Int × Int)} {x : Int × Int} (hp : Hx o = some (.lst (ps.map V.ref))) (tx : TupsL Hx ps row) (nt : Hx t = none) : RowAt (upd (upd Hx t (.tup [.int x.1, .int x.2])) o (.lst (ps.map V.ref ++ [.ref t]))) o (row ++ [x]) := by
  have stx := Same.new (o := .tup [.int x.1, .int x.2]) nt
  have hp' := stx _ _ hp
  refine ⟨ps ++ [t], by rw [upd_same, List.map_append]; rfl, TupsL.but (paired_snoc_len (tx.same stx) (show PairT _ t x from upd_same)) hp'⟩
end L2
set_option Elab.async false
set_option linter.all false
set_option maxRecDepth 100000
namespace L2
open PySem PySem.Spec PyProof.Rows PySem.W
theorem vals_refs {as : List Addr} {us : List Value} (h : Vals (as.map V.ref) us) : us = as.map Value.ref := by
  induction as generalizing us with
  | nil => cases h; rfl
  | cons a as ih =>
    cases h with
    | cons r t => cases r; rw [ih t]; rfl
section
variable {X : Cx}
end
end L2
set_option Elab.async false
set_option linter.all false
set_option maxRecDepth 100000
namespace L2
open PySem PySem.Spec PyProof.Rows PySem.W
section
variable {α : Type} [DecidableEq α]
inductive Wk (ls : List (α × α)) (h : α) : Nat → α → Prop
  | zero : Wk ls h 0 h
  | succ {n : Nat} {a b : α} : Wk ls h n a → (a, b) ∈ ls → Wk ls h (n + 1) b
noncomputable def Sh (ls : List (α × α)) (h : α) (n : Nat) (x : α) : Prop := Wk ls h n x ∧ ∀ m, m < n → ¬ Wk ls h m x
theorem Wk.sh {ls : List (α × α)} {h x : α} : ∀ {n : Nat}, Wk ls h n x → ∃ m, m ≤ n ∧ Sh ls h m x := by
  intro n
  induction n using Nat.strongRecOn with
  | ind n ih =>
    intro w
    by_cases e : ∃ m, m < n ∧ Wk ls h m x
    · obtain ⟨m, hm, wm⟩ := e
      obtain ⟨k, hk, s⟩ := ih m hm wm
      exact ⟨k, by omega, s⟩
    · exact ⟨n, Nat.le_refl _, w, fun m hm wm => e ⟨m, hm, wm⟩⟩
theorem Sh.uniq {ls : List (α × α)} {h x : α} {n m : Nat} (a : Sh ls h n x) (b : Sh ls h m x) : n = m := by
  rcases Nat.lt_trichotomy n m with z | z | z
  · exact absurd a.1 (b.2 n z)
  · exact z
  · exact absurd b.1 (a.2 m z)
theorem Sh.pre {ls : List (α × α)} {h b : α} {n : Nat} (s : Sh ls h (n + 1) b) : ∃ a, Sh ls h n a ∧ (a, b) ∈ ls := by
  obtain ⟨w, no⟩ := s
  cases w with
  | @succ _ a _ wa hm => exact ⟨a, ⟨wa, fun m hm' wm => no (m + 1) (by omega) (.succ wm hm)⟩, hm⟩
theorem Sh.few {ls : List (α × α)} {h : α} {P : List α} (hp : ∀ x ∈ ls, x.2 ∈ P) : ∀ {n : Nat} {x : α}, Sh ls h n x → n ≤ P.length := by
  have key : ∀ (n : Nat) (x : α), Sh ls h n x → ∃ l : List α, l.length = n ∧ l.Nodup ∧ (∀ y ∈ l, y ∈ P ∧ ∃ m, m ≤ n ∧ Sh ls h m y) := by
    intro n
    induction n with
    | zero => intro x _; exact ⟨[], rfl, .nil, fun _ z => by cases z⟩
    | succ n ih =>
      intro b s
      obtain ⟨a, sa, hm⟩ := s.pre
      obtain ⟨l, ll, nd, al⟩ := ih a sa
      refine ⟨b :: l, by rw [List.length_cons, ll], List.nodup_cons.mpr ⟨fun z => ?_, nd⟩, fun y hy => ?_⟩
      · obtain ⟨_, m, hm', sm⟩ := al b z
        have := sm.uniq s
        omega
      · rcases List.mem_cons.mp hy with z | z
        · subst z; exact ⟨hp _ hm, n + 1, Nat.le_refl _, s⟩
        · obtain ⟨h1, m, h2, h3⟩ := al y z
          exact ⟨h1, m, by omega, h3⟩
  intro n x s
  obtain ⟨l, ll, nd, al⟩ := key n x s
  rw [← ll]
  exact nd.length_le_of_subset fun y hy => (al y hy).1
structure IsRoad (ls : List (α × α)) (h : α) (p : List α) (x : α) : Prop where
  fst : p[0]? = some h
  lst : p.getLast? = some x
  via : ∀ k a b, p[k]? = some a → p[k + 1]? = some b → (a, b) ∈ ls
theorem IsRoad.next {ls : List (α × α)} {h x y : α} {p : List α} (r : IsRoad ls h p x) (hm : (x, y) ∈ ls) : IsRoad ls h (p ++ [y]) y := by
  have pne : p ≠ [] := fun z => by have := r.fst; rw [z] at this; cases this
  have lp : 0 < p.length := List.length_pos_iff.mpr pne
  refine ⟨?_, by simp, fun k a b h1 h2 => ?_⟩
  · rw [List.getElem?_append_left lp]; exact r.fst
  · by_cases z : k + 1 < p.length
    · rw [List.getElem?_append_left (by omega)] at h1
      rw [List.getElem?_append_left z] at h2
      exact r.via k a b h1 h2
    · by_cases z2 : k + 1 = p.length
      · rw [List.getElem?_append_left (by omega)] at h1
        rw [List.getElem?_append_right (by omega), z2, Nat.sub_self] at h2
        have e2 : y = b := Option.some.inj h2
        have e1 := r.lst
        rw [List.getLast?_eq_getElem?] at e1
        rw [show p.length - 1 = k by omega, h1] at e1
        have e1 : a = x := Option.some.inj e1
        rw [e1, ← e2]
        exact hm
      · have hz : (p ++ [y])[k + 1]? = none := List.getElem?_eq_none (by rw [List.length_append, List.length_singleton]; omega)
        rw [hz] at h2
        cases h2
noncomputable def grow0 (p : List α) (st : List α × List (List α)) (x : α × α) : List α × List (List α) := if p.getLast? = some x.1 ∧ x.2 ∉ st.1 then (st.1 ++ [x.2], st.2 ++ [p ++ [x.2]]) else st
structure Lev (ls : List (α × α)) (h : α) (n : Nat) (S : List α) (ps : List (List α)) : Prop where
  seen : ∀ x, x ∈ S ↔ ∃ m, m ≤ n ∧ Sh ls h m x
  road : ∀ p ∈ ps, ∃ x, IsRoad ls h p x ∧ Sh ls h n x ∧ p.length = n + 1
  all : ∀ x, Sh ls h n x → ∃ p ∈ ps, p.getLast? = some x
structure Mid (ls : List (α × α)) (h : α) (n : Nat) (C : α → α → Prop) (st : List α × List (List α)) : Prop where
  old : ∀ x m, m ≤ n → Sh ls h m x → x ∈ st.1
  new : ∀ x ∈ st.1, ∃ m, m ≤ n + 1 ∧ Sh ls h m x
  road : ∀ p ∈ st.2, ∃ x, IsRoad ls h p x ∧ Sh ls h (n + 1) x ∧ p.length = n + 2
  all : ∀ x ∈ st.1, Sh ls h (n + 1) x → ∃ p ∈ st.2, p.getLast? = some x
  got : ∀ a b, C a b → (a, b) ∈ ls → Sh ls h n a → b ∈ st.1
theorem Mid.step {ls : List (α × α)} {h : α} {n : Nat} {C : α → α → Prop} {st : List α × List (List α)} {p : List α} {a : α} {x : α × α} (m : Mid ls h n C st) (rp : IsRoad ls h p a) (sa : Sh ls h n a) (lp : p.length = n + 1) (hx : x ∈ ls) : Mid ls h n (fun u v => C u v ∨ (u = a ∧ (u, v) = x)) (grow0 p st x) := by
  unfold grow0
  by_cases c : p.getLast? = some x.1 ∧ x.2 ∉ st.1
  · rw [if_pos c]
    have ea : x.1 = a := by have := rp.lst; rw [c.1] at this; exact Option.some.inj this
    have hx' : (a, x.2) ∈ ls := by rw [← ea]; exact hx
    have sx : Sh ls h (n + 1) x.2 := ⟨.succ sa.1 hx', fun k hk w => by
      obtain ⟨k', hk', s'⟩ := w.sh
      exact c.2 (m.old x.2 k' (by omega) s')⟩
    refine ⟨fun y k hk s => List.mem_append_left _ (m.old y k hk s), fun y hy => ?_, fun q hq => ?_, fun y hy s => ?_, fun u v cv huv su => ?_⟩
    · rcases List.mem_append.mp hy with z | z
      · exact m.new y z
      · rw [List.mem_singleton.mp z]; exact ⟨n + 1, Nat.le_refl _, sx⟩
    · rcases List.mem_append.mp hq with z | z
      · exact m.road q z
      · rw [List.mem_singleton.mp z]
        exact ⟨x.2, rp.next hx', sx, by rw [List.length_append, List.length_singleton, lp]⟩
    · rcases List.mem_append.mp hy with z | z
      · obtain ⟨q, hq, e⟩ := m.all y z s
        exact ⟨q, List.mem_append_left _ hq, e⟩
      · rw [List.mem_singleton.mp z]
        exact ⟨p ++ [x.2], List.mem_append_right _ (by simp), by simp⟩
    · rcases cv with z | ⟨_, z⟩
      · exact List.mem_append_left _ (m.got u v z huv su)
      · rw [← z]; exact List.mem_append_right _ (by simp)
  · rw [if_neg c]
    refine ⟨m.old, m.new, m.road, m.all, fun u v cv huv su => ?_⟩
    rcases cv with z | ⟨z1, z2⟩
    · exact m.got u v z huv su
    · subst z2
      refine Classical.byContradiction fun n => c ⟨?_, n⟩
      rw [rp.lst, z1]
noncomputable def Road (ls : List (α × α)) (h t : α) (p : List α) : Prop := (p = [] ∧ ∀ n, ¬ Wk ls h n t) ∨ ∃ n, Sh ls h n t ∧ IsRoad ls h p t ∧ p.length = n + 1
theorem Lev.few {ls : List (α × α)} {h : α} {n : Nat} {S : List α} {ps : List (List α)} {P : List α} (l : Lev ls h n S ps) (hp : ∀ x ∈ ls, x.2 ∈ P) (ne : ps ≠ []) : n ≤ P.length := by
  obtain ⟨p, r, e⟩ := List.exists_cons_of_ne_nil ne
  obtain ⟨x, _, s, _⟩ := l.road p (by rw [e]; simp)
  exact s.few hp
structure Far (ls : List (α × α)) (h : α) (n : Nat) (C : α → α → Prop) (d : α → Option Nat) : Prop where
  yes : ∀ x v, d x = some v → ∃ m, v = m + 1 ∧ m ≤ n + 1 ∧ Sh ls h m x
  old : ∀ x m, m ≤ n → Sh ls h m x → d x = some (m + 1)
  got : ∀ a b, C a b → (a, b) ∈ ls → Sh ls h n a → d b ≠ none
noncomputable def put1 (d : α → Option Nat) (k : α) (v : Nat) : α → Option Nat := fun x => if x = k then some v else d x
theorem Far.step {ls : List (α × α)} {h : α} {n : Nat} {C : α → α → Prop} {d : α → Option Nat} {x : α × α} (f : Far ls h n C d) (hx : x ∈ ls) :
    (d x.1 = some (n + 1) ∧ d x.2 = none → Far ls h n (fun u v => C u v ∨ (u, v) = x) (put1 d x.2 (n + 2))) ∧ (¬ (d x.1 = some (n + 1) ∧ d x.2 = none) → Far ls h n (fun u v => C u v ∨ (u, v) = x) d) := by
  constructor
  · rintro ⟨h1, h2⟩
    obtain ⟨m, e, _, s⟩ := f.yes _ _ h1
    have : m = n := by omega
    subst this
    have sx : Sh ls h (m + 1) x.2 := ⟨.succ s.1 hx, fun k hk w => by
      obtain ⟨k', hk', s'⟩ := w.sh
      have := f.old _ k' (by omega) s'
      rw [h2] at this
      cases this⟩
    refine ⟨fun y v ey => ?_, fun y k hk s' => ?_, fun u v c huv su => ?_⟩
    · unfold put1 at ey
      by_cases z : y = x.2
      · rw [if_pos z] at ey
        cases ey
        exact ⟨m + 1, rfl, Nat.le_refl _, by rw [z]; exact sx⟩
      · rw [if_neg z] at ey; exact f.yes y v ey
    · unfold put1
      by_cases z : y = x.2
      · have := f.old y k hk s'
        rw [z, h2] at this
        cases this
      · rw [if_neg z]; exact f.old y k hk s'
    · unfold put1
      by_cases z : v = x.2
      · rw [if_pos z]; exact fun z => by cases z
      · rw [if_neg z]
        rcases c with c | c
        · exact f.got u v c huv su
        · exact absurd (by rw [← c]) z
  · intro no
    refine ⟨f.yes, f.old, fun u v c huv su => ?_⟩
    rcases c with c | c
    · exact f.got u v c huv su
    · subst c
      intro z
      exact no ⟨f.old _ n (Nat.le_refl _) su, z⟩
theorem Far.next {ls : List (α × α)} {h : α} {n : Nat} {d : α → Option Nat} (f : Far ls h n (fun u v => (u, v) ∈ ls) d) : Far ls h (n + 1) (fun _ _ => False) d := by
  refine ⟨fun x v e => ?_, fun x m hm s => ?_, fun _ _ z => z.elim⟩
  · obtain ⟨m, e1, hm, s⟩ := f.yes x v e
    exact ⟨m, e1, by omega, s⟩
  · by_cases z : m ≤ n
    · exact f.old x m z s
    · have : m = n + 1 := by omega
      subst this
      obtain ⟨a, sa, hm'⟩ := s.pre
      have nn := f.got a x hm' hm' sa
      cases e : d x with
      | none => exact absurd e nn
      | some v =>
        obtain ⟨k, rfl, _, sk⟩ := f.yes x v e
        rw [sk.uniq s]
theorem Far.road {ls : List (α × α)} {h t : α} {n : Nat} {d : α → Option Nat} {P p : List α} (f : Far ls h n (fun _ _ => False) d) (hp : ∀ x ∈ ls, x.2 ∈ P) (hn : P.length ≤ n) (r : Road ls h t p) : p.length = (d t).getD 0 ∧ (p ≠ [] → IsRoad ls h p t) := by
  rcases r with ⟨rfl, no⟩ | ⟨m, s, ir, lp⟩
  · refine ⟨?_, fun z => absurd rfl z⟩
    cases e : d t with
    | none => rfl
    | some v =>
      obtain ⟨k, _, _, sk⟩ := f.yes t v e
      exact absurd sk.1 (no k)
  · have := s.few hp
    rw [f.old t m (by omega) s]
    exact ⟨lp, fun _ => ir⟩
end
section
variable {α : Type} [DecidableEq α]
structure GB (S : List α) (st : List α × List (List α)) : Prop where
  nd : st.1.Nodup
  ln : st.2.length + S.length = st.1.length
theorem GB.step {S : List α} {st : List α × List (List α)} {p : List α} {x : α × α} (g : GB S st) : GB S (grow0 p st x) := by
  unfold grow0
  by_cases c : p.getLast? = some x.1 ∧ x.2 ∉ st.1
  · rw [if_pos c]
    refine ⟨?_, ?_⟩
    · rw [List.nodup_append]
      refine ⟨g.nd, by simp, fun a ha b hb => ?_⟩
      rw [List.mem_singleton.mp hb]
      exact fun z => c.2 (z ▸ ha)
    · have := g.ln
      simp only [List.length_append, List.length_singleton]
      omega
  · rw [if_neg c]; exact g
end
end L2
set_option Elab.async false
set_option linter.all false
set_option maxRecDepth 100000
namespace L2
open PySem PySem.Spec PyProof.Rows PySem.W
section
variable {α : Type}
inductive Rc (ls : List (α × α)) (h : α) : α → Prop
  | base {b : α} : (h, b) ∈ ls → Rc ls h b
  | step {a b : α} : Rc ls h a → (a, b) ∈ ls → Rc ls h b
theorem Rc.closed {ls : List (α × α)} {h x : α} {R : List α} (c : ∀ y, (y = h ∨ y ∈ R) → ∀ b, (y, b) ∈ ls → b ∈ R) (r : Rc ls h x) : x ∈ R := by
  induction r with
  | base m => exact c h (.inl rfl) _ m
  | step _ m ih => exact c _ (.inr ih) _ m
theorem Rc.trans {ls : List (α × α)} {x y z : α} (a : Rc ls x y) (b : Rc ls y z) : Rc ls x z := by
  induction b with
  | base m => exact .step a m
  | step _ m ih => exact .step ih m
theorem Rc.split {ls : List (α × α)} {a b x y : α} (r : Rc (ls ++ [(a, b)]) x y) : Rc ls x y ∨ ((x = a ∨ Rc ls x a) ∧ (b = y ∨ Rc ls b y)) := by
  induction r with
  | base m =>
    rcases List.mem_append.mp m with z | z
    · exact .inl (.base z)
    · cases List.mem_singleton.mp z; exact .inr ⟨.inl rfl, .inl rfl⟩
  | step _ m ih =>
    rcases List.mem_append.mp m with z | z
    · rcases ih with i | ⟨i1, i2⟩
      · exact .inl (.step i z)
      · refine .inr ⟨i1, .inr ?_⟩
        rcases i2 with i2 | i2
        · rw [← i2] at z; exact .base z
        · exact .step i2 z
    · cases List.mem_singleton.mp z
      rcases ih with i | ⟨i1, i2⟩
      · exact .inr ⟨.inr i, .inl rfl⟩
      · exact .inr ⟨i1, .inl rfl⟩
noncomputable def Acy (ls : List (α × α)) : Prop := ∀ x, ¬ Rc ls x x
theorem Acy.nil : Acy ([] : List (α × α)) := fun x r => by
  cases r with
  | base m => cases m
  | step _ m => cases m
structure AbI (ls : List (α × α)) (h : α) (R W : List α) : Prop where
  nd : R.Nodup
  rc : ∀ x ∈ R, Rc ls h x
  cl : ∀ y, (y = h ∨ y ∈ R) → y ∉ W → ∀ b, (y, b) ∈ ls → b ∈ R
  wt : ∀ y ∈ W, y = h ∨ y ∈ R
theorem AbI.all {ls : List (α × α)} {h x : α} {R : List α} (i : AbI ls h R []) : x ∈ R ↔ Rc ls h x := ⟨i.rc x, fun r => r.closed fun y hy b hb => i.cl y hy (by simp) b hb⟩
structure OvJ (ls : List (α × α)) (h : α) (l : List (α × α)) (T : List α) (more : Bool) : Prop where
  nd : T.Nodup
  rc : ∀ x ∈ T, Rc ls h x
  cl : more = false → ∀ y b, (y, b) ∈ l → (y = h ∨ y ∈ T) → b ∈ T
theorem OvJ.all {ls : List (α × α)} {h x : α} {T : List α} (i : OvJ ls h ls T false) : x ∈ T ↔ Rc ls h x := ⟨i.rc x, fun r => r.closed fun y hy b hb => i.cl rfl y b hb hy⟩
end
section
variable {prog : Program} {w : World} {A : Around} {E : Value → Shared → Prop} {s : Shared} {T : String} {r d : Addr} {n : Nat} {P : Nat → Value → Prop} {OK : Heap → Prop}
end
section
variable {X : Cx}
end
theorem paired_mem {α β : Type} {F G : α → β → Prop} : ∀ {l : List α} {r : List β}, Paired F l r → (∀ a ∈ l, ∀ b, F a b → G a b) → Paired G l r
  | _, _, .nil, _ => .nil
  | _, _, .cons h t, f => .cons (f _ List.mem_cons_self _ h) (paired_mem t fun a ha => f a (List.mem_cons_of_mem _ ha))
theorem Rany {R : Bool → Hp → Prop} {b : Bool} {H : Hp} (h1 : R true H) (h2 : R false H) : R b H := by cases b <;> assumption
theorem ifNeF {x y : V} {A B : Prop} (h : x = y) (hB : B) : if (!decide (x = y)) = true then A else B := by
  rw [decide_eq_true h]; exact iteF hB
end L2
set_option Elab.async false
set_option linter.all false
set_option maxRecDepth 100000
namespace L2
open PySem PySem.Spec PyProof.Rows PySem.W
end L2
set_option Elab.async false
set_option linter.all false
set_option maxRecDepth 100000
namespace L2
open PySem PySem.Spec PyProof.Rows
theorem ObjOk.has {P : Program} {w : World} {H : Hp} {h : Heap} {a : Addr} : ∀ {o : HO}, ObjOk P w H h a o → ∃ ob, h.get? a = some ob := by
  intro o x
  cases o with
  | lst xs => obtain ⟨_, _, _, _, e⟩ := x; exact ⟨_, e⟩
  | tup xs => obtain ⟨_, _, _, ob, e, _⟩ := x; exact ⟨_, e⟩
  | dK kvs => obtain ⟨_, _, _, _, ob, _, _, e, _⟩ := x; exact ⟨_, e⟩
  | dT kvs => obtain ⟨_, _, _, _, ob, _, _, e, _⟩ := x; exact ⟨_, e⟩
  | set S n => obtain ⟨ob, _, _, _, e, _⟩ := x; exact ⟨_, e⟩
  | ins C dx fs => obtain ⟨_, _, _, e, _⟩ := x; exact ⟨_, e⟩
  | own y => exact x
  | xd fs => obtain ⟨_, ⟨ob, _, _, e, _⟩, _⟩ := x; exact ⟨_, e⟩
  | rng lo hi => obtain ⟨_, _, _, e⟩ := x; exact ⟨_, e⟩
  | frz ob u => obtain ⟨e, _⟩ := x; exact ⟨_, e⟩
  | tbl ps => exact ⟨_, x⟩
  | met f y => exact ⟨_, x⟩
  | ext φ => exact x.2.1
theorem HOk.stays {P : Program} {w : World} {H : Hp} {h h' : Heap} (ok : HOk P w H h) (k : ∀ b u, (H b).isSome = true → h.get? b = some u → h'.get? b = some u) : HOk P w H h' := fun a o q =>
  (ok a o q).stay (fun b u hb e => k b u (by rcases hb with rfl | hb; · rw [q]; rfl
                                             · rw [hb]; rfl) e) (fun _ z => z) fun _ _ z => z
structure Flies (P : Program) (w : World) (outer : List Env) (H H' : Hp) (s : Shared) (ea C : Addr) (a0 : Value) (B : Heap) (s' : Shared) : Prop where
  os : s'.os = s.os
  bare : AllBare s'.gens
  un : Un (frs outer) [] H H' s.heap s'.heap
  hok : HOk P w H' s'.heap
  fl : Heap.FlyingW B outer ea (.ref C) a0 s'.heap
  new : s.heap.get? ea = none
  free : H' ea = none
  cov : ∀ b o, s'.heap.get? b = some o → b ∉ frs outer → ((s.heap.get? b).isSome = true ∨ (H' b).isSome = true) → B.get? b = some o
noncomputable def CXR (P : Program) (w : World) : CXT := fun outer H s E e s' => ∃ (ea C : Addr) (a0 : Value) (B : Heap) (H' : Hp), e = .ref ea ∧ E (.ref C) none H' ∧ Flies P w outer H H' s ea C a0 B s'
section
variable {P : Program} {w : World} {K : PySem.W.Frag} {mg : Str → Option Value} {base : Heap}
end
section
variable {P : Program} {w : World} {K : PySem.W.Frag} {mg : Str → Option Value} {base : Heap} {N : List Str} {qual : Str} {scope : Scope} {f : Addr} {cd : Value} {A : Around} {outer : List Env} {s₀ : Shared} {H₀ : Hp} {E : XK}
theorem leaves {pins : List (Addr × Obj)} {σ : St} {H : Hp} {s : Shared} {h' : Heap} {e C : Addr} {vs : List Value} (I : Inv (cxOf (CXR P w) P w K mg base N qual scope f cd A outer s₀ H₀ E) pins σ H s) (hx : Heap.MadeExcOf s.heap h' e (.ref C) vs)
    (h : E (.ref C) none H) : (cxOf (CXR P w) P w K mg base N qual scope f cd A outer s₀ H₀ E).xe (.ref e) { s with heap := h' } := by
  have st : frs (envOfC qual scope s₀.heap.objs.size f cd :: outer) = s₀.heap.objs.size :: frs outer := rfl
  have hin : ∀ env ∈ (envOfC qual scope s₀.heap.objs.size f cd :: outer), ∀ a, env.frame = some a → a ∈ frs (envOfC qual scope s₀.heap.objs.size f cd :: outer) := fun env he a ha => List.mem_filterMap.mpr ⟨env, he, ha⟩
  have fr : s.heap.FunFrames base (envOfC qual scope s₀.heap.objs.size f cd :: outer) := I.stack
  have fr' := PySem.W.funFrames_hide fr hin
  refine wpAny_leaves_madeW (s := { s with heap := h' }) I.ok.frames rfl (fun b o q => PySem.W.of_hideAll _ q) fr' hx fun h2 t fl tu bt up => ?_
  have up2 : s.heap.UpToSlots h2 := (Heap.UpToSlots.of_keeps hx.keeps).trans up
  have kB : ∀ b o, s.heap.get? b = some o → b ∉ frs (envOfC qual scope s₀.heap.objs.size f cd :: outer) → (PySem.W.hideAll s.heap (frs (envOfC qual scope s₀.heap.objs.size f cd :: outer))).get? b = some o := fun b o q n => PySem.W.hideAll_get _ q n
  have kp : ∀ b o, s.heap.get? b = some o → b ∉ frs (envOfC qual scope s₀.heap.objs.size f cd :: outer) → h2.get? b = some o := fun b o q n => fl.1 b o (kB b o q n)
  have old : ∀ b o, s₀.heap.get? b = some o → b ∉ frs outer → b ∉ frs (envOfC qual scope s₀.heap.objs.size f cd :: outer) := fun b o q n z => by
    rw [st] at z
    rcases List.mem_cons.mp z with z | z
    · rw [z] at q; exact Nat.lt_irrefl _ (Heap.lt_size q)
    · exact n z
  have tr : ∀ b, (H b).isSome = true → b ∉ frs (envOfC qual scope s₀.heap.objs.size f cd :: outer) := fun b q z => by rw [I.stkFree b z] at q; cases q
  have un0 : Un (frs outer) [] H₀ H s₀.heap s.heap := I.base
  have slots : ∀ b o, s.heap.get? b = some o → b ∈ frs outer → ∃ sl, h2.get? b = some { o with slots := sl } := fun b o q m => by
    obtain ⟨_, o', q', nf⟩ := fr.mem (show b ∈ frs (envOfC qual scope s₀.heap.objs.size f cd :: outer) by rw [st]; exact List.mem_cons_of_mem _ m)
    rw [q] at q'; cases q'
    exact up2 b o q nf
  refine ⟨e, C, .ref t, _, H, rfl, h, I.os, I.bare, ⟨fun b o q n nf _ => kp b o (un0.keep b o q n nf (by simp)) (old b o q nf), fun b o q n m _ => ?_, fun b o q n _ => un0.free b o q n (by simp), fun b o q _ => ?_, un0.tups, un0.frzs, un0.tbls⟩,
    I.hok.stays fun b u q e => kp b u e (tr b q), fl, ?_, ?_, fun b o q n z => ?_⟩
  · obtain ⟨sl, q1⟩ := un0.slot b o q n m (by simp)
    obtain ⟨sl2, q2⟩ := slots b _ q1 m
    exact ⟨sl2, q2⟩
  · obtain ⟨o1, q1⟩ := un0.there b o q (by simp)
    by_cases m : b ∈ frs outer
    · obtain ⟨sl, q2⟩ := slots b _ q1 m
      exact ⟨_, q2⟩
    · exact ⟨o1, kp b o1 q1 (old b o q m)⟩
  · cases q : s₀.heap.get? e with
    | none => rfl
    | some o =>
      obtain ⟨o1, q1⟩ := un0.there e o q (by simp)
      rw [hx.new] at q1; cases q1
  · cases q : H e with
    | none => rfl
    | some o =>
      obtain ⟨o1, q1⟩ := (I.hok e o q).has
      rw [hx.new] at q1; cases q1
  · have nb : b ∉ frs (envOfC qual scope s₀.heap.objs.size f cd :: outer) ∧ ∃ o1, s.heap.get? b = some o1 := by
      rcases z with z | z
      · obtain ⟨o0, q0⟩ := Option.isSome_iff_exists.mp z
        obtain ⟨o1, q1⟩ := un0.there b o0 q0 (by simp)
        exact ⟨old b o0 q0 n, o1, q1⟩
      · obtain ⟨o0, q0⟩ := Option.isSome_iff_exists.mp z
        obtain ⟨o1, q1⟩ := (I.hok b o0 q0).has
        exact ⟨tr b z, o1, q1⟩
    obtain ⟨n1, o1, q1⟩ := nb
    have q2 := kp b o1 q1 n1
    have q : h2.get? b = some o := q
    rw [q] at q2; cases q2
    exact kB b _ q1 n1
end
end L2
set_option Elab.async false
set_option linter.all false
set_option maxRecDepth 100000
namespace L2
open PySem PySem.Spec PyProof.Rows
section
variable {X : Cx} {pins : List (Addr × Obj)} {σ : St} {H H' : Hp} {s s' : Shared} {ea C : Addr} {a0 : Value} {B h2 : Heap}
end
section
variable {X : Cx} {k : Nat} {f C : Addr} {fd : FuncData} {ps : List Str} {sp : Sp} {x y : Str} {st : Stmt} {p cpos epos np hpos pos : Pos} {e : Expr} {es : List Expr} {t : TA} {b₀ : Stmt} {suite : List Stmt}
end
end L2
set_option Elab.async false
set_option linter.all false
set_option maxRecDepth 100000
namespace L2
open PySem PySem.Spec PyProof.Rows
section
variable {X : Cx} {k i : Nat} {f C : Addr} {fd : FuncData} {ps : List Str} {sp : Sp} {x y n : Str} {st : Stmt} {p cpos epos np hpos pos : Pos} {e : Expr} {es : List Expr} {t : TA} {b₀ : Stmt} {suite : List Stmt} {ts : TS} {c : Value}
end
section
open PySem.W PySem.Builtin.ObjectAttr PySem.Builtin PySem.Builtin.Getset_descriptor
variable {K : Frag} {x D : Addr}
structure XCls (K : Frag) (D : Addr) : Prop where
  cl : hasDictIn K D = true
  ga : findIn K (.ref D) "__getattribute__" = some (some (.builtin "BaseException.__getattribute__"))
  hk : findIn K (.ref D) "__getattr__" = some none
  sb : subIn K (.ref D) (.type "BaseException") = some true
  fi : findIn K (.ref D) "__class__" = some (some (.builtin "object.__class__"))
  sp : specialIn K (.builtin "object.__class__") "__get__" = some (some (.builtin "getset_descriptor.__get__"))
  tk : takesIn K (.builtin "object.__class__") = some true
  mo : mroIn K D (.type "object") = some true
theorem XCls.find {M : Model} {h : Heap} (c : XCls K D) (X : K.In h) : Looks M h (Builtin.ObjectAttr.find (.ref x) (.ref D) "__class__") (Builtin.ObjectAttr.Found.bind (.builtin "getset_descriptor.__get__") (.builtin "object.__class__")) := by
  have a1 := looks_findIn (M := M) X c.fi
  have a2 : Looks M h (getOf (some (.builtin "object.__class__"))) (some (.builtin "getset_descriptor.__get__")) := looks_specialIn X c.sp
  have a3 := looks_takesIn (M := M) X c.tk
  have a4 : Looks M h (dataDescriptor? (some (.builtin "object.__class__")) (some (.builtin "getset_descriptor.__get__"))) (some (.builtin "getset_descriptor.__get__", .builtin "object.__class__")) := a3.andThen .now
  exact a1.andThen (a2.andThen (a4.andThen (Looks.tag .now)))
variable {prog : Program} {w : World} {A : Around} {s : Shared} {E : Value → Shared → Prop}
end
section
variable {X : Cx} {k : Nat} {f : Addr} {fd : FuncData} {ps : List Str} {sp : Sp} {x : Str} {p pos : Pos} {e : Expr} {es : List Expr} {t : TA} {st : Stmt}
end
end L2
set_option Elab.async false
set_option linter.all false
set_option maxRecDepth 100000
namespace L2
open PySem PySem.Spec PyProof.Rows
noncomputable abbrev Ord := List (Int × Int)
noncomputable def frL (es : Ord) (cn : Nat) (row : List Int) : List Nat := (List.range cn).filter fun (i : Nat) => frB es row (i : Int)
noncomputable def lnK (es : Ord) (cn : Nat) : Nat → List Int
  | 0 => []
  | k + 1 => lnK es cn k ++ ((frL es cn (lnK es cn k)).take 1).map fun (i : Nat) => (i : Int)
noncomputable abbrev lnL (es : Ord) (cn : Nat) : List Int := lnK es cn cn
section
variable {es : Ord} {cn k : Nat} {row : List Int}
theorem lnK_stop (h : frL es cn (lnK es cn k) = []) (j : Nat) : lnK es cn (k + j) = lnK es cn k := by
  induction j with
  | zero => rfl
  | succ j ih =>
    show lnK es cn (k + j) ++ ((frL es cn (lnK es cn (k + j))).take 1).map (fun (i : Nat) => (i : Int)) = _
    rw [ih, h]
    simp
theorem lnK_go {i : Nat} {r : List Nat} (h : frL es cn (lnK es cn k) = i :: r) : lnK es cn (k + 1) = lnK es cn k ++ [(i : Int)] := by
  show lnK es cn k ++ ((frL es cn (lnK es cn k)).take 1).map (fun (i : Nat) => (i : Int)) = _
  rw [h]
  rfl
noncomputable def Ln (es : Ord) (cn : Nat) (row : List Int) : Prop := ∀ (j : Nat) (x : Int), row[j]? = some x → ∃ (i : Nat) (r : List Nat), frL es cn (row.take j) = i :: r ∧ x = (i : Int)
theorem ln_k (k : Nat) : Ln es cn (lnK es cn k) := by
  induction k with
  | zero => intro j x h; cases h
  | succ k ih =>
    cases hf : frL es cn (lnK es cn k) with
    | nil => rw [lnK_stop hf 1]; exact ih
    | cons i r =>
      rw [lnK_go hf]
      intro j x h
      by_cases hj : j < (lnK es cn k).length
      · rw [List.getElem?_append_left hj] at h
        rw [List.take_append_of_le_length (Nat.le_of_lt hj)]
        exact ih j x h
      · have hl := (List.getElem?_eq_some_iff.mp h).1
        rw [List.length_append, List.length_singleton] at hl
        have e : j = (lnK es cn k).length := by omega
        subst e
        rw [List.getElem?_append_right (Nat.le_refl _), Nat.sub_self] at h
        cases h
        exact ⟨i, r, by rw [List.take_left]; exact hf, rfl⟩
theorem len_k (k : Nat) : (lnK es cn k).length ≤ k ∧ ((lnK es cn k).length < k → frL es cn (lnK es cn k) = []) := by
  induction k with
  | zero => exact ⟨Nat.le_refl _, fun h => by cases h⟩
  | succ k ih =>
    cases hf : frL es cn (lnK es cn k) with
    | nil => rw [lnK_stop hf 1]; exact ⟨by omega, fun _ => hf⟩
    | cons i r =>
      have e : (lnK es cn k).length = k := by
        rcases Nat.lt_or_ge (lnK es cn k).length k with h | h
        · rw [ih.2 h] at hf; cases hf
        · omega
      rw [lnK_go hf, List.length_append, List.length_singleton]
      exact ⟨by omega, fun h => by omega⟩
theorem mem_frL {i : Nat} : i ∈ frL es cn row ↔ i < cn ∧ frB es row (i : Int) = true := by
  unfold frL
  rw [List.mem_filter, List.mem_range]
theorem Ln.free (h : Ln es cn row) {j : Nat} {x : Int} (e : row[j]? = some x) : ∃ i : Nat, x = (i : Int) ∧ i < cn ∧ frB es (row.take j) x = true := by
  obtain ⟨i, r, hf, rfl⟩ := h j x e
  have m : i ∈ frL es cn (row.take j) := by rw [hf]; exact List.mem_cons_self
  exact ⟨i, rfl, (mem_frL.mp m).1, (mem_frL.mp m).2⟩
theorem fr_not {s : Int} (h : frB es row s = true) : s ∉ row := by
  unfold frB at h
  rw [Bool.and_eq_true, Bool.not_eq_true'] at h
  exact of_decide_eq_false h.1
theorem mem_ahd {s a : Int} : a ∈ ahd es s ↔ (a, s) ∈ es := by
  unfold ahd
  rw [List.mem_map]
  constructor
  · rintro ⟨x, hx, rfl⟩
    rw [List.mem_filter] at hx
    have e : x.2 = s := of_decide_eq_true hx.2
    rw [← e]
    exact hx.1
  · intro h
    exact ⟨(a, s), by rw [List.mem_filter]; exact ⟨h, decide_eq_true rfl⟩, rfl⟩
theorem fr_ahead {s a : Int} (h : frB es row s = true) (m : (a, s) ∈ es) : a ∈ row := by
  unfold frB at h
  rw [Bool.and_eq_true, List.all_eq_true] at h
  exact of_decide_eq_true (h.2 a (mem_ahd.mpr m))
theorem Ln.nd (h : Ln es cn row) : row.Nodup := by
  refine List.pairwise_iff_getElem.mpr fun i j hi hj hij e => ?_
  obtain ⟨_, _, _, f⟩ := h.free (List.getElem?_eq_getElem hj)
  refine fr_not f ?_
  rw [← e, List.mem_take_iff_getElem]
  exact ⟨i, by omega, rfl⟩
theorem Ln.rng (h : Ln es cn row) {x : Int} (m : x ∈ row) : ∃ i : Nat, x = (i : Int) ∧ i < cn := by
  obtain ⟨j, hj, rfl⟩ := List.mem_iff_getElem.mp m
  obtain ⟨i, e, l, _⟩ := h.free (List.getElem?_eq_getElem hj)
  exact ⟨i, e, l⟩
theorem rng_nd (cn : Nat) : ((List.range cn).map fun (i : Nat) => (i : Int)).Nodup := by
  refine List.pairwise_map.mpr (List.Pairwise.imp (fun h e => h (by omega)) List.nodup_range)
theorem mem_rng {x : Int} : x ∈ (List.range cn).map (fun (i : Nat) => (i : Int)) ↔ ∃ i : Nat, x = (i : Int) ∧ i < cn := by
  rw [List.mem_map]
  exact ⟨fun ⟨i, hi, e⟩ => ⟨i, e.symm, List.mem_range.mp hi⟩, fun ⟨i, e, hi⟩ => ⟨i, List.mem_range.mpr hi, e.symm⟩⟩
theorem full_mem (e : (lnL es cn).length = cn) {i : Nat} (hi : i < cn) : (i : Int) ∈ lnL es cn := by
  refine Decidable.byContradiction fun n => ?_
  have nd : ((i : Int) :: lnL es cn).Nodup := List.nodup_cons.mpr ⟨n, (ln_k cn).nd⟩
  have := nd.length_le_of_subset (l₂ := (List.range cn).map fun (i : Nat) => (i : Int)) fun x hx => by
    rcases List.mem_cons.mp hx with rfl | hx
    · exact mem_rng.mpr ⟨i, rfl, hi⟩
    · exact mem_rng.mpr ((ln_k cn).rng hx)
  rw [List.length_cons, e, List.length_map, List.length_range] at this
  omega
theorem Ln.ahead (h : Ln es cn row) {j : Nat} {a b : Int} (m : (a, b) ∈ es) (hb : row[j]? = some b) : ∃ i, i < j ∧ row[i]? = some a := by
  obtain ⟨_, _, _, f⟩ := h.free hb
  have z := fr_ahead f m
  rw [List.mem_take_iff_getElem] at z
  obtain ⟨i, hi, e⟩ := z
  exact ⟨i, by omega, by rw [← e]; exact List.getElem?_eq_getElem _⟩
theorem Ln.idx (h : Ln es cn row) {a b : Int} (m : (a, b) ∈ es) (hb : b ∈ row) : row.idxOf a < row.idxOf b := by
  have hl := List.idxOf_lt_length_iff.mpr hb
  have e : row[row.idxOf b]? = some b := by rw [List.getElem?_eq_getElem hl]; exact congrArg some (List.getElem_idxOf hl)
  obtain ⟨i, hi, ea⟩ := h.ahead m e
  refine Nat.lt_of_le_of_lt ?_ hi
  obtain ⟨hil, ei⟩ := List.getElem?_eq_some_iff.mp ea
  rcases Nat.lt_or_ge i (row.idxOf a) with z | z
  · have q := List.not_of_lt_findIdx (show i < row.findIdx (· == a) from z)
    rw [ei] at q
    simp at q
  · exact z
end
end L2
set_option Elab.async false
set_option linter.all false
set_option maxRecDepth 100000
namespace L2
open PySem PySem.Spec PyProof.Rows
end L2
set_option Elab.async false
set_option linter.all false
set_option maxRecDepth 100000
namespace L2
open PySem PySem.Spec PyProof.Rows
noncomputable def rngI (n : Nat) : List Int := (List.range n).map fun (i : Nat) => (i : Int)
theorem row_ins {r : List Int} {i : Nat} (j : Nat) (h : r.Perm (rngI i)) : (r.take j ++ (i : Int) :: r.drop j).Perm (rngI (i + 1)) := by
  have e : rngI (i + 1) = rngI i ++ [(i : Int)] := by unfold rngI; rw [List.range_succ, List.map_append]; rfl
  rw [e]
  refine List.perm_middle.trans ?_
  rw [List.take_append_drop]
  exact (List.Perm.cons _ h).trans (List.perm_append_singleton _ _).symm
theorem perm_rng {r : List Int} {cn : Nat} (h : r.Perm (rngI cn)) : r.length = cn ∧ r.Nodup ∧ ∀ x, x ∈ r ↔ 0 ≤ x ∧ x < (cn : Int) := by
  refine ⟨by rw [h.length_eq]; unfold rngI; rw [List.length_map, List.length_range], h.nodup_iff.mpr (rng_nd cn), fun x => ?_⟩
  rw [h.mem_iff]
  unfold rngI
  rw [mem_rng]
  constructor
  · rintro ⟨i, rfl, hi⟩; exact ⟨by omega, by omega⟩
  · rintro ⟨h0, h1⟩; exact ⟨x.toNat, by omega, by omega⟩
section
variable {es : Ord} {cn : Nat} {S : List Int}
end
theorem ifNotD {c : Prop} [Decidable c] {A B : Prop} (h : c) (hB : B) : if (!decide c) = true then A else B := by rw [decide_eq_true h]; exact hB
theorem ifNo {c : Prop} [Decidable c] {A B : Prop} (h : ¬ c) (hB : B) : if decide c = true then A else B := by rw [decide_eq_false h]; exact iteF hB
theorem mnmx {a b : Nat} (h : (a : Int) ≠ (b : Int)) : ∃ i j : Nat, i < j ∧ (if (b : Int) < (a : Int) then (b : Int) else (a : Int)) = (i : Int) ∧ (if (b : Int) > (a : Int) then (b : Int) else (a : Int)) = (j : Int) ∧ (i = a ∧ j = b ∨ i = b ∧ j = a) := by
  by_cases z : (b : Int) < (a : Int)
  · exact ⟨b, a, by omega, if_pos z, if_neg (by omega), .inr ⟨rfl, rfl⟩⟩
  · exact ⟨a, b, by omega, if_neg z, if_pos (by omega), .inl ⟨rfl, rfl⟩⟩
theorem getD_some {r : List Int} {i : Nat} (h : i < r.length) : r[i]? = some (r.getD i 0) := by rw [List.getD_eq_getElem?_getD, List.getElem?_eq_getElem h]; rfl
end L2
set_option Elab.async false
set_option linter.all false
set_option maxRecDepth 100000
namespace L2
open PySem PySem.Spec PyProof.Rows
section
variable {es : Ord} {cn : Nat} {r : List Int}
theorem line_mem (e : (lnL es cn).length = cn) {x : Int} : x ∈ lnL es cn ↔ 0 ≤ x ∧ x < (cn : Int) := by
  constructor
  · intro h
    obtain ⟨i, rfl, hi⟩ := (ln_k cn).rng h
    exact ⟨by omega, by omega⟩
  · rintro ⟨h0, h1⟩
    have z := full_mem e (i := x.toNat) (by omega)
    rw [show ((x.toNat : Nat) : Int) = x by omega] at z
    exact z
structure Dn (cn : Nat) (S : List Int) (dn : List (Option Int)) : Prop where
  len : dn.length = cn
  mem : ∀ i, i < cn → ((dn.getD i none).isSome = true ↔ (i : Int) ∈ S)
theorem Dn.nil : Dn cn [] (List.replicate cn none) := ⟨List.length_replicate, fun i hi => by
  rw [List.getD_eq_getElem?_getD, List.getElem?_replicate, if_pos hi]; simp⟩
theorem Dn.set {S : List Int} {dn : List (Option Int)} (h : Dn cn S dn) {st : Nat} (hs : st < cn) (v : Int) : Dn cn (S ++ [(st : Int)]) (dn.set st (some v)) := by
  refine ⟨by rw [List.length_set]; exact h.len, fun i hi => ?_⟩
  rw [List.mem_append, List.mem_singleton, List.getD_eq_getElem?_getD]
  by_cases z : st = i
  · subst z
    rw [List.getElem?_set_self (by rw [h.len]; exact hs)]
    exact ⟨fun _ => .inr rfl, fun _ => rfl⟩
  · rw [List.getElem?_set_ne z, ← List.getD_eq_getElem?_getD, h.mem i hi]
    exact ⟨.inl, fun q => q.resolve_right fun e => z (by omega)⟩
structure Way (es : Ord) (w : List Int) : Prop where
  ne : w ≠ []
  ch : ∀ (k : Nat) (x y : Int), w[k]? = some x → w[k + 1]? = some y → (x, y) ∈ es
theorem Way.one (x : Int) : Way es [x] := ⟨by simp, fun k a b h1 h2 => by cases h2⟩
theorem Way.le {w : List Int} (h : Way es w) {row : List Int} {es' : Ord} (hr : Ln es' cn row) (sub : ∀ x ∈ es, x ∈ es') (all : ∀ x ∈ w, x ∈ row) {a : Int} (ha : w[0]? = some a) : ∀ (k : Nat) (b : Int), w[k]? = some b → row.idxOf a ≤ row.idxOf b := by
  intro k
  induction k with
  | zero => intro b hb; rw [ha] at hb; cases hb; exact Nat.le_refl _
  | succ k ih =>
    intro b hb
    have hl := (List.getElem?_eq_some_iff.mp hb).1
    have hc : w[k]? = some w[k] := List.getElem?_eq_getElem (by omega)
    exact Nat.le_trans (ih _ hc) (Nat.le_of_lt (hr.idx (sub _ (h.ch k _ b hc hb)) (all b (List.mem_of_getElem? hb))))
theorem Way.closed {w : List Int} (h : Way es w) (rg : ∀ x ∈ w, 0 ≤ x ∧ x < (cn : Int)) {a b : Int} (ha : w[0]? = some a) (hb : w[w.length - 1]? = some b) : (lnL (es ++ [(b, a)]) cn).length < cn := by
  rcases Nat.lt_or_ge (lnL (es ++ [(b, a)]) cn).length cn with z | z
  · exact z
  · have e := Nat.le_antisymm (len_k (es := es ++ [(b, a)]) (cn := cn) cn).1 z
    have hr : Ln (es ++ [(b, a)]) cn (lnL (es ++ [(b, a)]) cn) := ln_k cn
    have all : ∀ x ∈ w, x ∈ lnL (es ++ [(b, a)]) cn := fun x hx => (line_mem e).mpr (rg x hx)
    have l1 := h.le hr (fun x hx => List.mem_append_left _ hx) all ha _ b hb
    have l2 := hr.idx (List.mem_append_right es (List.mem_singleton.mpr rfl)) (all a (List.mem_of_getElem? ha))
    omega
end
end L2
set_option Elab.async false
set_option linter.all false
set_option maxRecDepth 100000
namespace L2
open PySem PySem.Spec PyProof.Rows PySem.W
noncomputable def subs : Nat → List (List Nat)
  | 0 => [[]]
  | n + 1 => subs n ++ (subs n).map fun l => l ++ [n]
noncomputable def ltS (n i j : Nat) : Bool := HT.lexLt (((subs n).getD i []).map fun (x : Nat) => (x : Int)) (((subs n).getD j []).map fun (x : Nat) => (x : Int))
noncomputable def chkS (n : Nat) : Bool := match runC (2 ^ n) (ltS n) (kas_sort (2 ^ n)) with
  | some p => p.toList.isPerm (List.range (2 ^ n))
  | none => false
theorem chkS1 : chkS 1 = true := by decide +kernel
theorem chkS2 : chkS 2 = true := by decide +kernel
theorem chkS3 : chkS 3 = true := by decide +kernel
theorem chkS4 : chkS 4 = true := by decide +kernel
theorem chkS5 : chkS 5 = true := by decide +kernel
theorem subs_len (n : Nat) : (subs n).length = 2 ^ n := by
  induction n with
  | zero => rfl
  | succ n ih => show (subs n ++ _).length = _; rw [List.length_append, List.length_map, ih, Nat.pow_succ]; omega
noncomputable def ListsAt (h : Heap) (as : List Addr) (ls : List (List Int)) : Prop := as.length = ls.length ∧ ∀ (i : Nat) a l, as[i]? = some a → ls[i]? = some l → ∃ us n, h.get? a = some { cls := .type "list", data := .seq us n } ∧ IntsAre us.toList l
theorem atD {α : Type} {l : List α} {i : Nat} {x d : α} (h : l[i]? = some x) : l.getD i d = x := by rw [List.getD_eq_getElem?_getD, h]; rfl
section
variable {s : Shared} {A : Around} {w : World} {prog : Program} {E : Value → Shared → Prop}
theorem ask_lists {as : List Addr} {ls : List (List Int)} (hu : A.units < cLine) (hp : ListsAt s.heap as ls) {i j : Nat} {C : Bool → Shared → Prop} (hi : i < ls.length) (hj : j < ls.length) (h : C (HT.lexLt (ls.getD i []) (ls.getD j [])) s) :
    kas_ask prog w A oneType' (as.map Value.ref) i j C s := by
  have la := hp.1
  obtain ⟨a, ha⟩ : ∃ a, as[i]? = some a := ⟨_, List.getElem?_eq_getElem (by omega)⟩
  obtain ⟨b, hb⟩ : ∃ b, as[j]? = some b := ⟨_, List.getElem?_eq_getElem (by omega)⟩
  obtain ⟨x, hx⟩ : ∃ x, ls[i]? = some x := ⟨_, List.getElem?_eq_getElem hi⟩
  obtain ⟨y, hy⟩ : ∃ y, ls[j]? = some y := ⟨_, List.getElem?_eq_getElem hj⟩
  obtain ⟨us, n1, e1, i1⟩ := hp.2 i a x ha hx
  obtain ⟨vs, n2, e2, i2⟩ := hp.2 j b y hb hy
  rw [atD hx, atD hy] at h
  unfold kas_ask
  rw [atD (show (as.map Value.ref)[i]? = some (.ref a) by rw [List.getElem?_map, ha]; rfl), atD (show (as.map Value.ref)[j]? = some (.ref b) by rw [List.getElem?_map, hb]; rfl)]
  rw [keyLt'_oneType, oneLt'_eq]; simp only [if_true]
  refine wpAny_bind (wpAny_cRoomFor hu (wpAny_bind (wpAny_callSpecialIfBound?_slot ⟨_, e1, rfl⟩ PySem.F.slot_list_lt ?_)))
  exact call_meets PySem.F.slot_list_lt ⟨_, e1, rfl⟩ PySem.F.entry_list_lt (PySem.F.args_list_lt_2 _ _) (ltL a b us vs n1 n2 x y i1 i2) ⟨e1, e2, wpAny_truthy_bool h⟩
theorem list_sort_lists {a : Addr} {as : List Addr} {ls : List (List Int)} {n : Nat} {q : List Nat} {P : Fin → Shared → Prop} (hu : A.units < cLine) (ho : s.heap.get? a = some (seqObj "list" (as.map Value.ref).toArray n)) (hp : ListsAt s.heap as ls) (hna : a ∉ as) (h64 : ls.length < 64)
    (hq : q.Perm (List.range ls.length)) (h1 : ls.length < 2 → q = List.range ls.length) (hr : 2 ≤ ls.length → runC ls.length (fun i j => HT.lexLt (ls.getD i []) (ls.getD j [])) (kas_sort ls.length) = some q.toArray)
    (h : P (.done (.ret .none)) { s with heap := sortedHeap s.heap a (as.map Value.ref) (List.toArray (q.map fun i => (as.map Value.ref).getD i Value.none)) }) : wpAny (model prog w) A (Builtin.«list.sort» ⟨[.ref a], []⟩) P E s := by
  have la := hp.1
  generalize hvs : as.map Value.ref = vs at ho h
  have lv : vs.length = ls.length := by rw [← hvs, List.length_map, la]
  rw [list_sort_plain]
  have lta := Heap.lt_size ho
  obtain ⟨e1, empty1⟩ : ∃ e1, (s.heap.update a (Obj.mapSeq fun _ => #[])).get? a = some (seqObj "list" #[] e1) := ⟨_, get?_update_seq ho fun _ => #[]⟩
  refine wpAny_bind (listItems_at ho rfl (wpAny_bind (listUpdate_at ho rfl (wpAny_bind (seqEpoch_at empty1 rfl (wpAny_bind (wpAny_newTuple (wpAny_bind (wpAny_newList (wpAny_holding ?_) (Nat.zero_le _))) (by rw [sizeLine_eq]; show vs.length ≤ _; omega))))) (by rw [sizeLine_eq, List.size_toArray]; omega) (Nat.zero_le _))))
  have old : ∀ b o, (s.heap.update a (Obj.mapSeq fun _ => #[])).get? b = some o → (((s.heap.update a (Obj.mapSeq fun _ => #[])).push (seqObj "tuple" vs.toArray 0)).push (seqObj "list" #[] 0)).get? b = some o := fun b o e => Heap.get?_push_of_some _ (Heap.get?_push_of_some _ e)
  have ho6 := old _ _ empty1
  have hp' : ListsAt (((s.heap.update a (Obj.mapSeq fun _ => #[])).push (seqObj "tuple" vs.toArray 0)).push (seqObj "list" #[] 0)) as ls := ⟨la, fun i b k hb hk => by
    obtain ⟨x, m, e, z⟩ := hp.2 i b k hb hk
    have hne : b ≠ a := fun z => hna (by rw [← z]; exact List.mem_of_getElem? hb)
    exact ⟨x, m, old _ _ (by rw [Heap.get?_update_ne _ _ _ _ hne]; exact e), z⟩⟩
  show wpAny (model prog w) A _ P E { s with heap := (((s.heap.update a (Obj.mapSeq fun _ => #[])).push (seqObj "tuple" vs.toArray 0)).push (seqObj "list" #[] 0)) }
  dsimp only
  have size_vs : vs.toArray.size = vs.length := List.size_toArray
  by_cases few : vs.toArray.size < 2
  · rw [if_pos few, if_pos few]
    refine wpAny_bind (wpAny_pure ?_); rw [StateT.run_pure]; refine wpAny_bind (wpAny_pure ?_); dsimp only
    have eo : (arrOf (SortSt.mk' general' (vs.toArray.zip vs.toArray) #[] 7 none)).map (·.2) = List.toArray ((List.range ls.length).map fun i => vs.getD i Value.none) := by
      have := kat_snds (ks := vs) (vs := vs) rfl (st := SortSt.mk' general' (vs.toArray.zip vs.toArray) #[] 7 none) (p := List.toArray (List.range ls.length)) (by
        have e := kas_range (vs.toArray.zip vs.toArray)
        rw [show (vs.toArray.zip vs.toArray).size = ls.length by simp [lv]] at e
        exact e.symm)
      exact this
    rw [eo, ← h1 (by omega)]
    refine wpAny_bind (seqEpoch_at ho6 rfl (wpAny_bind (listUpdate_at ho6 rfl ?_ (Nat.zero_le _) (by rw [List.size_toArray, List.length_map, hq.length_eq, List.length_range, sizeLine_eq]; omega))))
    simp only [bne_self_eq_false, if_false, Bool.false_eq_true]
    exact wpAny_pure h
  · rw [if_neg few, if_neg few]
    refine wpAny_bind (kas_kind (T := .type "list") (by omega) (fun v hv => ?_) (by decide) (by decide) ?_)
    · rw [← hvs] at hv
      obtain ⟨b, hb, rfl⟩ := List.mem_map.mp hv
      obtain ⟨i, hi⟩ := List.mem_iff_getElem?.mp hb
      obtain ⟨x, m, e, _⟩ := hp'.2 i b _ hi (List.getElem?_eq_getElem (show i < ls.length by have := (List.getElem?_eq_some_iff.mp hi).1; omega))
      exact (Looks.ld e).andThen .now
    have go : (kas_sort vs.length).kasWp (kas_ask prog w A oneType' vs) (fun p s' => p = q.toArray ∧ s' = { s with heap := ((s.heap.update a (Obj.mapSeq fun _ => #[])).push (seqObj "tuple" vs.toArray 0)).push (seqObj "list" #[] 0) }) { s with heap := ((s.heap.update a (Obj.mapSeq fun _ => #[])).push (seqObj "tuple" vs.toArray 0)).push (seqObj "list" #[] 0) } := by
      rw [lv]
      refine kasWp_run (n := ls.length) (lt := fun i j => HT.lexLt (ls.getD i []) (ls.getD j [])) (fun i j C hi hj hij hC => ?_) _ (hr (by omega)) ⟨rfl, rfl⟩
      rw [← hvs]
      rw [← hvs] at hp' hC
      exact ask_lists (s := { s with heap := _ }) hu hp' hi hj hC
    refine wpAny_bind (wpAny_mono (kat_run (Q := fun st' s' => (arrOf st').map (·.2) = List.toArray (q.map fun i => vs.getD i Value.none) ∧ failedOf st' = none ∧ s' = { s with heap := ((s.heap.update a (Obj.mapSeq fun _ => #[])).push (seqObj "tuple" vs.toArray 0)).push (seqObj "list" #[] 0) })
      (ks := vs) rfl (by omega) (by omega) (fun p st' s' a1 a2 a3 a4 => ⟨by rw [kat_snds rfl a2, a4.1], a3, a4.2⟩) go) ?_ fun _ _ e => e)
    rintro ⟨⟨⟩, st'⟩ s' ⟨e1', e2', rfl⟩
    dsimp only at e1' e2' ⊢
    rw [e1', e2']
    refine wpAny_bind (seqEpoch_at ho6 rfl (wpAny_bind (listUpdate_at ho6 rfl ?_ (Nat.zero_le _) (by rw [List.size_toArray, List.length_map, hq.length_eq, List.length_range, sizeLine_eq]; omega))))
    simp only [bne_self_eq_false, if_false, Bool.false_eq_true]
    exact wpAny_pure h
end
theorem lex_map {f : Nat → Int} : ∀ (A B : List Nat), (∀ x ∈ A, ∀ y ∈ B, (f x = f y ↔ x = y) ∧ (f x < f y ↔ x < y)) → HT.lexLt (A.map f) (B.map f) = HT.lexLt (A.map fun (x : Nat) => (x : Int)) (B.map fun (x : Nat) => (x : Int))
  | [], B, _ => by cases B <;> rfl
  | _ :: _, [], _ => rfl
  | a :: A, b :: B, h => by
    rw [List.map_cons, List.map_cons, List.map_cons, List.map_cons, HT.lexLt_cons, HT.lexLt_cons, lex_map A B fun x hx y hy => h x (List.mem_cons_of_mem _ hx) y (List.mem_cons_of_mem _ hy)]
    obtain ⟨h1, h2⟩ := h a List.mem_cons_self b List.mem_cons_self
    by_cases z : a = b
    · rw [if_pos (h1.mpr z), if_pos (by rw [z])]
    · rw [if_neg fun q => z (h1.mp q), if_neg fun q => z (by omega)]
      by_cases y : a < b
      · rw [decide_eq_true (h2.mpr y), decide_eq_true (by omega)]
      · rw [decide_eq_false fun q => y (h2.mp q), decide_eq_false (by omega)]
theorem subs_lt (n : Nat) : ∀ l ∈ subs n, ∀ x ∈ l, x < n := by
  induction n with
  | zero => intro l hl x hx; rw [List.mem_singleton.mp hl] at hx; cases hx
  | succ n ih =>
    intro l hl x hx
    rcases List.mem_append.mp hl with z | z
    · have := ih l z x hx; omega
    · obtain ⟨l', h1, rfl⟩ := List.mem_map.mp z
      rcases List.mem_append.mp hx with y | y
      · have := ih l' h1 x y; omega
      · rw [List.mem_singleton.mp y]; omega
noncomputable def subL (st : List Int) (l : List Nat) : List Int := l.map fun k => st.getD k 0
theorem up_iff {st : List Int} (up : st.Pairwise (· < ·)) {i j : Nat} (hi : i < st.length) (hj : j < st.length) : (st.getD i 0 = st.getD j 0 ↔ i = j) ∧ (st.getD i 0 < st.getD j 0 ↔ i < j) := by
  have key : ∀ a b, a < b → b < st.length → st.getD a 0 < st.getD b 0 := fun a b h hb => by
    rw [atD (List.getElem?_eq_getElem (show a < st.length by omega)), atD (List.getElem?_eq_getElem hb)]
    exact List.pairwise_iff_getElem.mp up a b (by omega) hb h
  rcases Nat.lt_trichotomy i j with z | z | z
  · have := key i j z hj
    exact ⟨⟨fun q => by omega, fun q => by omega⟩, ⟨fun _ => z, fun _ => this⟩⟩
  · subst z
    exact ⟨⟨fun _ => rfl, fun _ => rfl⟩, ⟨fun q => by omega, fun q => by omega⟩⟩
  · have := key j i z hi
    exact ⟨⟨fun q => by omega, fun q => by omega⟩, ⟨fun q => by omega, fun q => by omega⟩⟩
theorem subs_run {st : List Int} {n : Nat} (up : st.Pairwise (· < ·)) (hn : st.length = n) (h1 : 1 ≤ n) (h5 : n ≤ 5) : ∃ q : List Nat, q.Perm (List.range (2 ^ n)) ∧ runC (2 ^ n) (fun i j => HT.lexLt (((subs n).map (subL st)).getD i []) (((subs n).map (subL st)).getD j [])) (kas_sort (2 ^ n)) = some q.toArray := by
  have c : chkS n = true := by
    obtain h | h | h | h | h : n = 1 ∨ n = 2 ∨ n = 3 ∨ n = 4 ∨ n = 5 := by omega
    · rw [h]; exact chkS1
    · rw [h]; exact chkS2
    · rw [h]; exact chkS3
    · rw [h]; exact chkS4
    · rw [h]; exact chkS5
  unfold chkS at c
  split at c
  · rename_i p hp
    refine ⟨p.toList, List.isPerm_iff.mp c, ?_⟩
    rw [← hp]
    refine runC_congr (fun i j hi hj => ?_) _
    rw [← subs_len] at hi hj
    have ei : (subs n)[i]? = some (subs n)[i] := List.getElem?_eq_getElem hi
    have ej : (subs n)[j]? = some (subs n)[j] := List.getElem?_eq_getElem hj
    unfold ltS
    rw [atD ei, atD ej, atD (show ((subs n).map (subL st))[i]? = some (subL st (subs n)[i]) by rw [List.getElem?_map, ei]; rfl), atD (show ((subs n).map (subL st))[j]? = some (subL st (subs n)[j]) by rw [List.getElem?_map, ej]; rfl)]
    refine lex_map _ _ fun x hx y hy => up_iff up ?_ ?_
    · rw [hn]; exact subs_lt n _ (List.getElem_mem hi) x hx
    · rw [hn]; exact subs_lt n _ (List.getElem_mem hj) y hy
  · cases c
noncomputable def IntsL (H : Hp) (as : List Addr) (ls : List (List Int)) : Prop := Paired (fun a l => H a = some (.lst (l.map V.int))) as ls
theorem range_at (as : List Addr) : (List.range as.length).map (fun i => as.getD i 0) = as := by
  apply List.ext_getElem
  · simp
  · intro i h1 h2
    rw [List.getElem_map, List.getElem_range, List.getD_eq_getElem?_getD, List.getElem?_eq_getElem h2]; rfl
theorem vals_pick {as : List Addr} : ∀ (q : List Nat), (∀ i ∈ q, i < as.length) → Vals ((q.map fun i => as.getD i 0).map V.ref) (q.map fun i => (as.map Value.ref).getD i Value.none)
  | [], _ => .nil
  | i :: q, h => by
    obtain ⟨a, ha⟩ : ∃ a, as[i]? = some a := ⟨_, List.getElem?_eq_getElem (h i List.mem_cons_self)⟩
    refine .cons ?_ (vals_pick q fun j hj => h j (List.mem_cons_of_mem _ hj))
    show (as.map Value.ref).getD i Value.none = Value.ref (as.getD i 0)
    rw [atD ha, atD (show (as.map Value.ref)[i]? = some (.ref a) by rw [List.getElem?_map, ha]; rfl)]
section
variable {X : Cx}
theorem cSortedSub (K : PySem.W.Frag) (hu : X.A.units + 64 < cLine) (hK : X.K = K := by rfl) : CallR X (.builtin "sorted") (fun xs H Q => ∃ (p : Addr) (as : List Addr) (n : Nat) (st : List Int), xs = [.ref p] ∧ SqL K H p (as.map V.ref) ∧ st.length = n ∧ n ≤ 5 ∧ st.Pairwise (· < ·) ∧ IntsL H as ((subs n).map (subL st)) ∧
    ∀ l (bs : List Addr), H l = none → bs.Perm as → Q (.ref l) (upd H l (.lst (bs.map V.ref)))) := by
  subst hK
  intro pins s σ H xs us Q I r h
  obtain ⟨p, as, n, st, e, hq, hn, h5, up, il, q⟩ := h
  subst e
  obtain ⟨u, e, rx⟩ := vals1 r
  subst e
  cases rx
  obtain ⟨its, rv, pl, hz⟩ := I.list hq
  have ev := vals_refs rv
  subst ev
  have la : as.length = 2 ^ n := by rw [Paired.length il, List.length_map, subs_len]
  have lim : 2 ^ n ≤ 32 := by
    obtain h | h | h | h | h | h : n = 0 ∨ n = 1 ∨ n = 2 ∨ n = 3 ∨ n = 4 ∨ n = 5 := by omega
    all_goals rw [h]; decide
  have got : ListsAt s.heap as ((subs n).map (subL st)) := ⟨by rw [la, List.length_map, subs_len], fun i a l ha hl => by
    obtain ⟨l', e1, e2⟩ := pair_at il ha
    rw [hl] at e1
    cases e1
    obtain ⟨z, its', n', r', hl', e⟩ := I.lstM e2
    exact ⟨its'.toArray, n', e, intsAre_of r'⟩⟩
  have ll : ((subs n).map (subL st)).length = 2 ^ n := by rw [List.length_map, subs_len]
  obtain ⟨qq, hq1, hq2, hq3⟩ : ∃ qq : List Nat, qq.Perm (List.range ((subs n).map (subL st)).length) ∧ (((subs n).map (subL st)).length < 2 → qq = List.range ((subs n).map (subL st)).length) ∧ (2 ≤ ((subs n).map (subL st)).length → runC ((subs n).map (subL st)).length (fun i j => HT.lexLt (((subs n).map (subL st)).getD i []) (((subs n).map (subL st)).getD j [])) (kas_sort ((subs n).map (subL st)).length) = some qq.toArray) := by
    rw [ll]
    rcases Nat.eq_zero_or_pos n with z | z
    · subst z
      exact ⟨List.range 1, List.Perm.refl _, fun _ => rfl, fun z => absurd z (by decide)⟩
    · obtain ⟨qq, a1, a2⟩ := subs_run up hn z h5
      refine ⟨qq, a1, fun y => ?_, fun _ => a2⟩
      have : 2 ^ 1 ≤ 2 ^ n := Nat.pow_le_pow_right (by decide) z
      omega
  have keep : ∀ b o, s.heap.get? b = some o → b < s.heap.objs.size := fun b o e => Heap.lt_size e
  generalize hvs : (as.map Value.ref) = vs at pl
  have lv : vs.length = 2 ^ n := by rw [← hvs, List.length_map, la]
  refine Calls.call_function_entry kind_sorted plain_sorted entry_sorted (args_sorted1 _) ?_; unfold Builtin.«sorted»
  refine wpAny_bind (m := checkCount "sorted" 1 1 _) (wpAny_pure (wpAny_bind (collect_list pl.isList ?_ (by rw [sizeLine_eq]; omega))))
  refine wpAny_bind (wpAny_newList (items := vs) ?_ (by rw [sizeLine_eq]; omega))
  have sz1 : ((s.heap.push (seqObj "list" #[] 0)).update s.heap.objs.size (Obj.mapSeq (· ++ vs.toArray))).objs.size = s.heap.objs.size + 1 := (Heap.size_update ..).trans (size_push' ..)
  have old1 : ∀ b o, s.heap.get? b = some o → ((s.heap.push (seqObj "list" #[] 0)).update s.heap.objs.size (Obj.mapSeq (· ++ vs.toArray))).get? b = some o := fun b o e => by
    rw [Heap.get?_update_ne _ _ _ _ (Nat.ne_of_lt (keep b o e)), Heap.get?_push_ne _ _ _ (Nat.ne_of_lt (keep b o e))]; exact e
  show wpAny _ _ _ _ _ { s with heap := (((s.heap.push (seqObj "list" #[] 0)).update s.heap.objs.size (Obj.mapSeq (· ++ vs.toArray))).push (seqObj "list" vs.toArray 0)) }
  generalize ((s.heap.push (seqObj "list" #[] 0)).update s.heap.objs.size (Obj.mapSeq (· ++ vs.toArray))) = h1 at sz1 old1
  have hoL : (h1.push (seqObj "list" vs.toArray 0)).get? h1.objs.size = some (seqObj "list" vs.toArray 0) := Heap.get?_push_size _ rfl
  have pa : ListsAt (h1.push (seqObj "list" vs.toArray 0)) as ((subs n).map (subL st)) := ⟨got.1, fun i a l ha hl => by
    obtain ⟨us, m, e, z⟩ := got.2 i a l ha hl
    exact ⟨us, m, Heap.get?_push_of_some _ (old1 _ _ e), z⟩⟩
  have nas : h1.objs.size ∉ as := fun m => by
    obtain ⟨i, hi⟩ := List.mem_iff_getElem?.mp m
    obtain ⟨l, _, e2⟩ := pair_at il hi
    obtain ⟨z, its', n', r', hl', e⟩ := I.lstM e2
    exact absurd (keep _ _ e) (by rw [sz1]; exact Nat.not_lt_of_le (Nat.le_succ _))
  rw [← hvs] at hoL
  rw [← hvs]
  refine wpAny_bind (wpAny_holding (wpAny_call_entry slot_list_sort ⟨_, hoL, rfl⟩ entry_list_sort (list_sort_lists (by show X.A.units + 1 + 1 < cLine; omega) hoL (by rw [hvs]; exact pa) nas (by omega) hq1 hq2 hq3 ⟨_, rfl, ?_⟩) (args_list_sort _)))
  refine wpAny_pure ⟨Value.ref h1.objs.size, rfl, ?_⟩
  obtain ⟨ep, he⟩ := sortedHeap_at (out := List.toArray (qq.map fun i => (as.map Value.ref).getD i Value.none)) hoL
  have k2 : ∀ b o, s.heap.get? b = some o → (sortedHeap (h1.push (seqObj "list" (as.map Value.ref).toArray 0)) h1.objs.size (as.map Value.ref) (List.toArray (qq.map fun i => (as.map Value.ref).getD i Value.none))).get? b = some o := fun b o eb => by
    have lt := keep b o eb
    rw [sortedHeap_old (Nat.ne_of_lt (Nat.lt_of_lt_of_le lt (by rw [sz1]; exact Nat.le_succ _))) (by rw [Heap.size_push, sz1]; exact Nat.lt_succ_of_lt (Nat.lt_succ_of_lt lt))]
    exact Heap.get?_push_of_some _ (old1 b o eb)
  have hn' : s.heap.objs.size ≤ h1.objs.size := by omega
  have plt : ∀ i ∈ qq, i < as.length := fun i hi => by have := List.mem_range.mp (hq1.mem_iff.mp hi); omega
  refine ⟨.ref h1.objs.size, _, I.laid (t' := s.toks) k2 hn' (show ObjOk X.prog X.w _ _ _ (.lst ((qq.map fun i => as.getD i 0).map V.ref)) from ⟨?_, qq.map fun i => (as.map Value.ref).getD i Value.none, ep, vals_pick qq plt, by simpa [seqObj] using he⟩), rfl, q _ _ (I.hok.fresh hn') ?_⟩
  · rw [List.length_map, List.length_map, hq1.length_eq, List.length_range, sizeLine_eq]; omega
  · have := hq1.map fun i => as.getD i 0
    rw [ll, ← la, range_at] at this
    exact this
end
end L2
set_option Elab.async false
set_option linter.all false
set_option maxRecDepth 100000
namespace L2
open PySem PySem.Spec PyProof.Rows PySem.W
theorem ns_one {h : Heap} {a : Addr} {m m' : Str → Option Value} (x : h.Ns a m) (y : h.Ns a m') : m = m' := by
  obtain ⟨o, es, ep, ho, hd, _, q⟩ := x
  obtain ⟨o', es', ep', ho', hd', _, q'⟩ := y
  rw [ho] at ho'
  cases ho'
  rw [hd] at hd'
  cases hd'
  exact funext fun n => (q n).symm.trans (q' n)
section
variable {X : Cx} {pins : List (Addr × Obj)} {σ : St} {H : Hp} {s : Shared} {h' : Heap}
theorem Inv.beside {D : Addr} {o : HO} {t' : Nat} {m : Str → Option Value} (I : Inv X pins σ H s) (hm : s.heap.Ns X.env.locals m) (hm' : h'.Ns X.env.locals m) (keep : ∀ b u, b ≠ X.env.locals → s.heap.get? b = some u → h'.get? b = some u) (hD : s.heap.get? D = none) (new : ObjOk X.prog X.w (upd H D o) h' D o) :
    H D = none ∧ Inv X pins σ (upd H D o) { s with heap := h', toks := t' } := by
  have hn : H D = none := by
    cases q : H D with
    | none => rfl
    | some u =>
      obtain ⟨ob, e⟩ := (I.hok D u q).get
      rw [hD] at e
      cases e
  have ne : ∀ b u, H b = some u → b ≠ D := fun b u q z => by rw [z, hn] at q; cases q
  have up : ∀ b u, H b = some u → upd H D o b = some u := fun b u q => by rw [upd_ne (ne b u q)]; exact q
  have tl : ∀ b u, H b = some u → b ≠ X.env.locals := fun b u q z => by rw [z, I.free] at q; cases q
  refine ⟨hn, I.step (g' := s.gens) (d' := s.drawn) (ch := []) (fun _ z => nomatch z) (fun b u n _ _ e _ => keep b u n e) (fun b u n _ _ e _ => ⟨u.slots, keep b u n e⟩) (fun b u _ e n => ?_) (fun b u _ e => ?_) (fun b xs e => up b _ e) (fun b ob u e => up b _ e) (fun b ps e => ⟨#[], by rw [up b _ e]; simp⟩) (fun m2 h2 => by rw [← ns_one hm h2]; exact hm') (fun b u e => ?_) I.bare⟩
  · rw [upd_ne (fun z => by rw [z, hD] at e; cases e)]; exact n
  · by_cases z : b = X.env.locals
    · obtain ⟨ob, _, _, e2, _⟩ := hm'
      rw [z]
      exact ⟨_, e2⟩
    · exact ⟨u, keep b u z e⟩
  · by_cases z : b = D
    · subst z
      rw [upd_same] at e
      cases e
      exact new
    · rw [upd_ne z] at e
      refine (I.hok b u e).stay (fun c v hc q => keep c v ?_ q) (fun c q => up c _ q) fun c xs q => up c _ q
      rcases hc with z | z
      · rw [z]; exact tl b u e
      · exact tl c _ z
end
noncomputable def refA : Value → Addr
  | .ref a => a
  | _ => 0
noncomputable def tSortLen (K : PySem.W.Frag) (ta : TA) : TE := fun σ H Q => ta σ H fun vs H1 => ∃ (p : Addr) (as : List Addr) (ls : List (List V)), vs = [.ref p] ∧ SqL K H1 p (as.map V.ref) ∧ as.length < 64 ∧ Paired (fun a l => H1 a = some (.lst l)) as ls ∧
  ∀ l (zs : List (Int × Addr)), H1 l = none → zs.Perm ((ls.map fun l => (l.length : Int)).zip as) → zs.Pairwise (fun x y => x.1 ≤ y.1) → Q (.ref l) (upd H1 l (.lst ((zs.map (·.2)).map V.ref)))
section
variable {X : Cx} {a : Expr} {ta : TA} {p1 p2 kpos pos : Pos}
theorem pe_sortLen (K : PySem.W.Frag) (hg : Gl X "sorted") (hm : X.mg "sorted" = none) (hg2 : Gl X "len") (hm2 : X.mg "len" = none) (ha : PA X [a] ta) (hK : X.K = K := by rfl)
    (he : backTo pos (starEach [a] X.env) = (false, eval a X.env) :: backTo pos (starEach [] X.env) := by rfl) (hpl : (backTo pos (starEach [a] X.env)).any (·.1) = false := by rfl) :
    PE X (.Call (.Name "sorted" p1) [a] [⟨some "key", .Name "len" p2, kpos⟩] pos) (tSortLen K ta) := by
  subst hK
  intro pins s σ H Q I h
  refine wpAny_Call_Name_kw (ld_blt I hg hm boot_sorted ?_)
  refine PyProof.Rows.callWith_kw (thn (ha pos pins s σ H _ I h) fun us s1 ⟨vs, H1, I1, r, q⟩ => ?_) he hpl
  refine wpAny_evalAll_cons (wpAny_bind (ld_blt I1 hg2 hm2 boot_len (wpAny_bind (wpAny_standAt (wpAny_pure (wpAny_evalAll_nil ?_))))))
  obtain ⟨p, as, ls, e, hq, h64, hl, q⟩ := q
  subst e
  obtain ⟨u, e, rx⟩ := vals1 r
  subst e
  cases rx
  obtain ⟨its, rv, pl, hz⟩ := I1.list hq
  have ev := vals_refs rv
  subst ev
  obtain ⟨m, hn, _⟩ := id I1.loc
  have ll := Paired.length hl
  have noL : ∀ x l, H1 x = some (.lst l) → x ≠ X.env.locals := fun x l q z => by rw [z, I1.free] at q; cases q
  refine ksk_sorted (f := .builtin "len") (b := false) (kw := [(Str.ofString "key", .builtin "len")]) (kz := ls.map fun l => (l.length : Int)) (vs := as.map Value.ref) (Att.fr_all hn) (news_all (L := X.env.locals)) pl.isList (by rw [List.length_map, List.length_map, ll]) (by rw [List.length_map]; exact h64) (ksk_s1 _ _) (fun x => ksk_l1 _ _) (fun x => ksk_t4 _ _) (fun i v k hv hk h tk own Fh Nh => ?_) fun D h' tk out c F' N' lt' ko => ?_
  · rw [List.getElem?_map] at hv hk
    obtain ⟨x, hx, rfl⟩ := Option.map_eq_some_iff.mp hv
    obtain ⟨l, hl', rfl⟩ := Option.map_eq_some_iff.mp hk
    obtain ⟨l2, e1, e2⟩ := pair_at hl hx
    rw [hl'] at e1
    cases e1
    obtain ⟨z, it, n, r', ll', e⟩ := I1.lstM e2
    have e3 := (Nh (x, _) (List.mem_append_left _ (mem_allNews (noL x l e2) (Att.noObjs_get _ _) e))).1
    rw [ll']
    exact Calls.call_len_list (s := { s1 with heap := h, toks := tk }) (items := it.toArray) ⟨_, e3, rfl, n, rfl⟩ (by have := sizeLine_eq; simp only [List.size_toArray]; omega) (KskEnd.intro (s₁ := { s1 with heap := h, toks := tk }) Fh Nh fun _ z => z)
  · obtain ⟨ps, pp, po, pw⟩ := ko
    have keep : ∀ b o, b ≠ X.env.locals → s1.heap.get? b = some o → h'.get? b = some o := fun b o nb e => (N' (b, o) (.tail _ (mem_allNews nb (Att.noObjs_get _ _) e))).1
    have nD := N' (D, seqObj "list" out c) (.head _)
    have hD : s1.heap.get? D = none := by
      cases q : s1.heap.get? D with
      | none => rfl
      | some o => exact absurd (lt' (D, o) (mem_allNews nD.2.1 (Att.noObjs_get _ _) q)) (Nat.lt_irrefl _)
    have isr : ∀ x ∈ ps, x.2 = Value.ref (refA x.2) := fun x hx => by
      have := List.of_mem_zip (pp.mem_iff.mp hx)
      obtain ⟨b, _, e⟩ := List.mem_map.mp this.2
      rw [← e]
      rfl
    have zp : (ps.map fun x => (x.1, refA x.2)).Perm ((ls.map fun l => (l.length : Int)).zip as) := by
      have := pp.map fun x => (x.1, refA x.2)
      rw [List.zip_map_right, List.map_map] at this
      have e : ((fun x : Int × Value => (x.1, refA x.2)) ∘ Prod.map id Value.ref) = id := rfl
      rw [e, List.map_id] at this
      exact this
    have eo : out.toList = ((ps.map fun x => (x.1, refA x.2)).map (·.2)).map Value.ref := by
      rw [po, List.map_map, List.map_map]
      exact List.map_congr_left fun x hx => isr x hx
    have vv : ∀ l : List Addr, Vals (l.map V.ref) (l.map Value.ref) := fun l => by
      induction l with
      | nil => exact .nil
      | cons x l ih => exact .cons rfl ih
    have lz : (((ps.map fun x => (x.1, refA x.2)).map (·.2)).map V.ref).length ≤ sizeLine := by
      rw [List.length_map, List.length_map, zp.length_eq, List.length_zip, List.length_map, ← ll, Nat.min_self, sizeLine_eq]
      omega
    obtain ⟨nn, I2⟩ := I1.beside (t' := tk) (o := .lst (((ps.map fun x => (x.1, refA x.2)).map (·.2)).map V.ref)) hn F'.ns keep hD ⟨lz, out.toList, c, by rw [eo]; exact vv _, by simpa [seqObj] using nD.1⟩
    refine ⟨.ref D, _, I2, rfl, q D _ nn zp ?_⟩
    rw [List.pairwise_map]
    exact pw.imp fun h => by simpa using h
end
end L2
set_option Elab.async false
set_option linter.all false
set_option maxRecDepth 100000
namespace L2
open PySem PySem.Spec PyProof.Rows
theorem IntsL.same {H H' : Hp} {as : List Addr} {ls : List (List Int)} (h : IntsL H as ls) (s : Same H H') : IntsL H' as ls := Paired.mapP h fun _ _ q => s _ _ q
theorem IntsL.but {H H' : Hp} {acc : Addr} {as : List Addr} {ls : List (List Int)} (h : IntsL H as ls) (ne : ∀ b ∈ as, b ≠ acc) (s : SameBut acc H H') : IntsL H' as ls := paired_mem h fun b hb l q => s b _ (ne b hb) q
theorem subs_ll (n : Nat) : ∀ l ∈ subs n, l.length ≤ n := by
  induction n with
  | zero => intro l hl; rw [List.mem_singleton.mp hl]; exact Nat.le_refl _
  | succ n ih =>
    intro l hl
    rcases List.mem_append.mp hl with z | z
    · have := ih l z; omega
    · obtain ⟨l', h1, rfl⟩ := List.mem_map.mp z
      have := ih l' h1
      rw [List.length_append, List.length_singleton]
      omega
theorem subL_snoc (st : List Int) (l : List Nat) (j : Nat) : subL st (l ++ [j]) = subL st l ++ [st.getD j 0] := by unfold subL; rw [List.map_append]; rfl
theorem subs_nil (n : Nat) : [] ∈ subs n := by
  induction n with
  | zero => exact List.mem_singleton.mpr rfl
  | succ n ih => exact List.mem_append_left _ ih
noncomputable def contV (H : Hp) (a : Addr) : List V := match H a with
  | some (.lst xs) => xs
  | _ => []
theorem contV_of {H : Hp} {a : Addr} {xs : List V} (h : H a = some (.lst xs)) : contV H a = xs := by unfold contV; rw [h]
theorem paired_cont {H : Hp} : ∀ {bs : List Addr}, (∀ b ∈ bs, ∃ xs, H b = some (.lst xs)) → Paired (fun a l => H a = some (.lst l)) bs (bs.map (contV H))
  | [], _ => .nil
  | b :: bs, h => by
    obtain ⟨xs, e⟩ := h b List.mem_cons_self
    exact .cons (by rw [contV_of e]; exact e) (paired_cont fun c hc => h c (List.mem_cons_of_mem _ hc))
theorem zip_own {α β : Type} (f : α → β) : ∀ bs : List α, (bs.map f).zip bs = bs.map fun b => (f b, b)
  | [] => rfl
  | b :: bs => by rw [List.map_cons, List.zip_cons_cons, zip_own f bs]; rfl
theorem first_len {zs : List (Int × Addr)} {bs : List Addr} {g : Addr → Nat} (zp : zs.Perm (bs.map fun b => ((g b : Int), b))) (zw : zs.Pairwise fun x y => x.1 ≤ y.1) {e0 : Addr} (m : e0 ∈ bs) (z : g e0 = 0) : ∃ r0 rest, zs.map (·.2) = r0 :: rest ∧ g r0 = 0 := by
  have me : ((g e0 : Int), e0) ∈ zs := zp.mem_iff.mpr (List.mem_map.mpr ⟨e0, m, rfl⟩)
  cases zs with
  | nil => cases me
  | cons z0 zr =>
    obtain ⟨b, hb, eb⟩ := List.mem_map.mp (zp.mem_iff.mp (List.mem_cons_self (a := z0) (l := zr)))
    refine ⟨z0.2, zr.map (·.2), rfl, ?_⟩
    have le : z0.1 ≤ 0 := by
      rcases List.mem_cons.mp me with q | q
      · rw [← q]; show (g e0 : Int) ≤ 0; omega
      · have := List.rel_of_pairwise_cons zw q
        have h2 : z0.1 ≤ (g e0 : Int) := this
        omega
    rw [← eb] at le ⊢
    have : (g b : Int) ≤ 0 := le
    show g b = 0
    omega
theorem dnS_up (dn : List (Option Int)) : (dnS dn).Pairwise (· < ·) := by
  unfold dnS
  exact List.pairwise_map.mpr (List.Pairwise.imp (fun h => by omega) (List.Pairwise.filter _ List.pairwise_lt_range))
theorem dnS_len (dn : List (Option Int)) : (dnS dn).length ≤ dn.length := by
  unfold dnS
  rw [List.length_map]
  have := List.length_filter_le (fun i => (dn.getD i none).isSome) (List.range dn.length)
  rw [List.length_range] at this
  exact this
noncomputable def bhB (es : Ord) (dn : List (Option Int)) (ns : List Int) : Bool := ((es.filter fun x => decide (x.1 ∈ ns)).map (·.2)).all fun s => decide (s ∈ ns) || (dn.getD s.toNat none).isNone
theorem bhB_nil (es : Ord) (dn : List (Option Int)) : bhB es dn [] = true := by
  unfold bhB
  have : (es.filter fun x => decide (x.1 ∈ ([] : List Int))) = [] := List.filter_eq_nil_iff.mpr fun x _ => by simp
  rw [this]
  rfl
theorem filter_hd {p : Nat → Bool} {n : Nat} (h : p 0 = true) : (List.range (n + 1)).filter p = 0 :: ((List.range n).map Nat.succ).filter p := by
  rw [List.range_succ_eq_map, List.filter_cons, if_pos h]
theorem range_id (dn : List (Option Int)) : (List.range dn.length).map (fun i => hV (dn.getD i none)) = dn.map hV := by
  apply List.ext_getElem
  · simp
  · intro i h1 h2
    rw [List.length_map] at h2
    rw [List.getElem_map, List.getElem_map, List.getElem_range, List.getD_eq_getElem?_getD, List.getElem?_eq_getElem h2]
    rfl
noncomputable def intsV (xs : List V) : List Int := xs.map fun v => match v with
  | .int i => i
  | _ => 0
theorem intsV_map (ns : List Int) : intsV (ns.map V.int) = ns := by
  unfold intsV
  rw [List.map_map]
  exact List.map_id ns
end L2
set_option Elab.async false
set_option linter.all false
set_option maxRecDepth 100000
set_option maxHeartbeats 4000000
namespace My
seal L2.PE L2.PA L2.PS L2.PSs L2.PT L2.PW L2.PI L2.PG L2.PGs L2.PIf L2.PO L2.OpR L2.CallR L2.IxR L2.SlR L2.UnR
open PySem L2 PyProof.Rows
local macro_rules | `(tactic| walk_at "go") => `(tactic| repeat (first | refine ⟨_, rfl, ?_⟩ | refine ⟨_, _, rfl, rfl, (show (0 : Int) < _ by decide), ?_⟩ | refine ⟨_, _, rfl, rfl, (show CDiv _ _ from ⟨by decide, by decide⟩), ?_⟩ | refine ⟨_, _, rfl, rfl, (show CPow _ _ from ⟨by decide, by decide, by decide⟩), ?_⟩ | refine ⟨_, _, rfl, rfl, (show CMul _ _ from .inl ⟨by decide, by decide⟩), ?_⟩ | refine ⟨_, _, rfl, rfl, (show CMul _ _ from .inr ⟨by decide, by decide⟩), ?_⟩ | refine ⟨_, _, rfl, rfl, ?_⟩ | refine ⟨rfl, ?_⟩))
noncomputable def top (i : Nat) : Stmt := PySem.Challenge.pw_deskround_k49_no_strike_wanted.main.body.getD i (.Pass ⟨0, 0, 0, 0⟩)
noncomputable abbrev s_common : Stmt := top 1
noncomputable abbrev s_choices : Stmt := top 2
noncomputable abbrev s_deal : Stmt := top 4
noncomputable abbrev s_settle : Stmt := top 5
noncomputable abbrev s_short_places : Stmt := top 6
noncomputable abbrev s_hands_of : Stmt := top 7
noncomputable abbrev s_width : Stmt := top 9
noncomputable abbrev s_grown : Stmt := top 10
noncomputable abbrev s_breaks : Stmt := top 12
noncomputable abbrev s_first_broken : Stmt := top 13
noncomputable abbrev s_unlike : Stmt := top 14
noncomputable abbrev s_pools_of : Stmt := top 16
noncomputable abbrev s_pool_of : Stmt := top 17
noncomputable abbrev s_plan : Stmt := top 19
noncomputable abbrev s_plan_from : Stmt := top 20
noncomputable abbrev s_held : Stmt := top 21
noncomputable abbrev s_held_step : Stmt := top 22
noncomputable abbrev s_strikes : Stmt := top 24
noncomputable abbrev s_has_all_behind : Stmt := top 25
noncomputable abbrev s_struck : Stmt := top 26
noncomputable abbrev s_mend : Stmt := top 27
noncomputable abbrev s_law_cell : Stmt := top 29
noncomputable abbrev s_law_whole : Stmt := top 30
noncomputable abbrev s_law_row : Stmt := top 31
noncomputable abbrev s_law_order : Stmt := top 32
noncomputable abbrev s_law_menu : Stmt := top 33
noncomputable abbrev s_law_some : Stmt := top 34
noncomputable abbrev s_law_tie : Stmt := top 35
noncomputable abbrev s_law_fits : Stmt := top 36
noncomputable abbrev s_law_kept_tie : Stmt := top 37
noncomputable abbrev s_law_drawn : Stmt := top 38
noncomputable abbrev s_law : Stmt := top 39
structure Txt (mg : Str → Option Value) : Prop where
  z_all : mg "all" = none
  z_bool : mg "bool" = none
  z_int : mg "int" = none
  z_isinstance : mg "isinstance" = none
  z_len : mg "len" = none
  z_list : mg "list" = none
  z_max : mg "max" = none
  z_min : mg "min" = none
  z_range : mg "range" = none
  z_set : mg "set" = none
  z_sorted : mg "sorted" = none
  z_tuple : mg "tuple" = none
  z_zip : mg "zip" = none
structure Dfs (K : PySem.W.Frag) (mg : Str → Option Value) (aF : Nat → Addr) (dF : Nat → FuncData) : Prop where
  common : Def K mg "common" s_common ["one", "other"] (aF 0) (dF 0)
  choices : Def K mg "choices" s_choices ["numbers"] (aF 1) (dF 1)
  deal : Def K mg "deal" s_deal ["pools"] (aF 2) (dF 2)
  settle : Def K mg "settle" s_settle ["pools", "holders", "place", "asked"] (aF 3) (dF 3)
  short_places : Def K mg "short_places" s_short_places ["holders", "place", "asked"] (aF 4) (dF 4)
  hands_of : Def K mg "hands_of" s_hands_of ["holders", "count"] (aF 5) (dF 5)
  width : Def K mg "width" s_width ["pattern"] (aF 6) (dF 6)
  grown : Def K mg "grown" s_grown ["pattern"] (aF 7) (dF 7)
  breaks : Def K mg "breaks" s_breaks ["pattern", "tie"] (aF 8) (dF 8)
  first_broken : Def K mg "first_broken" s_first_broken ["pattern", "ties"] (aF 9) (dF 9)
  unlike : Def K mg "unlike" s_unlike ["row", "steps"] (aF 10) (dF 10)
  pools_of : Def K mg "pools_of" s_pools_of ["pattern", "may"] (aF 11) (dF 11)
  pool_of : Def K mg "pool_of" s_pool_of ["block", "pattern", "may"] (aF 12) (dF 12)
  plan : Def K mg "plan" s_plan ["may", "ties"] (aF 13) (dF 13)
  plan_from : Def K mg "plan_from" s_plan_from ["pattern", "may", "ties"] (aF 14) (dF 14)
  held : Def K mg "held" s_held ["may", "done"] (aF 15) (dF 15)
  held_step : Def K mg "held_step" s_held_step ["badges", "hand"] (aF 16) (dF 16)
  strikes : Def K mg "strikes" s_strikes ["order", "done"] (aF 17) (dF 17)
  has_all_behind : Def K mg "has_all_behind" s_has_all_behind ["some", "order", "done"] (aF 18) (dF 18)
  struck : Def K mg "struck" s_struck ["done", "steps"] (aF 19) (dF 19)
  mend : Def K mg "mend" s_mend ["may", "ties", "order", "done"] (aF 20) (dF 20)
  law_cell : Def K mg "_law_cell" s_law_cell ["script", "k"] (aF 21) (dF 21)
  law_whole : Def K mg "_law_whole" s_law_whole ["found"] (aF 22) (dF 22)
  law_row : Def K mg "_law_row" s_law_row ["count", "cell"] (aF 23) (dF 23)
  law_order : Def K mg "_law_order" s_law_order ["cells", "row"] (aF 24) (dF 24)
  law_menu : Def K mg "_law_menu" s_law_menu ["script", "at", "wide"] (aF 25) (dF 25)
  law_some : Def K mg "_law_some" s_law_some ["menu", "cell", "step"] (aF 26) (dF 26)
  law_tie : Def K mg "_law_tie" s_law_tie ["number", "count"] (aF 27) (dF 27)
  law_fits : Def K mg "_law_fits" s_law_fits ["hands", "may", "ties"] (aF 28) (dF 28)
  law_kept_tie : Def K mg "_law_kept_tie" s_law_kept_tie ["number", "hands"] (aF 29) (dF 29)
  law_drawn : Def K mg "_law_drawn" s_law_drawn ["script"] (aF 30) (dF 30)
  law : Def K mg "law" s_law ["script"] (aF 31) (dF 31)
section
variable {P : Program} {w : World} {K : PySem.W.Frag} {mg : Str → Option Value} {base : Heap} {aF : Nat → Addr} {dF : Nat → FuncData}
noncomputable def sp_common (K : PySem.W.Frag) : Sp := spW K 0
theorem sc_common : FnScope ["one", "other"] ["one", "other"] (defScope s_common) := ⟨rfl, rfl, rfl, by decide +kernel, rfl, by decide +kernel, by decide +kernel⟩
theorem ok_common (D : Dfs K mg aF dF) (T : Txt mg) : FnOk P w K mg base CX0 1 (aF 0) (dF 0) ["one", "other"] (sp_common K) := by
  refine D.common.fn.ok sc_common (fun vs H Q E h => ?_) (fun cdv A outer s H vs Q E hr h => ?_)
  · obtain ⟨a, b, F, S, U, rfl, _⟩ := h; rfl
  · have hu := hu_of hr
    obtain ⟨a, b, F, S, U, rfl, bo, q⟩ := h
    refine ⟨_, (pss_one (ps_ret (pe_callB (cSortedS w) (by rfl) T.z_sorted boot_sorted (pa_cons (pe_op (op_sand w) (pe_callTy (cSet w K) (by rfl) T.z_set PyProof.Rows.boot_set (pa_cons (pv 0) pa_nil)) (pe_callTy (cSet w K) (by rfl) T.z_set PyProof.Rows.boot_set (pa_cons (pv 1) pa_nil))) pa_nil)))), ?_⟩
    have h1 := bo.l1
    have h2 := bo.l2
    refine ⟨_, rfl, a, F, rfl, bo.fa, by omega, fun s1 n1 => ⟨_, rfl, b, S, rfl, (Same.new n1).seq bo.sb, by omega, fun s2 n2 => ?_⟩⟩
    have d1 := dd_len F
    have d2 := dd_len S
    have n12 : s1 ≠ s2 := fun z => by rw [← z, upd_same] at n2; cases n2
    refine ⟨s1, s2, dd F, dd S, rfl, rfl, n12, by rw [upd_ne n12]; exact upd_same, upd_same, by omega, by omega, fun c ks nc nd hm => ?_⟩
    have lk : ks.length ≤ F.length := nd.length_le_of_subset fun x hx => dd_mem.mp ((hm x).mp hx).1
    refine ⟨c, ks, rfl, upd_same, by omega, fun l ms nl pm sr => ?_⟩
    refine q l ms _ ⟨(((Same.new n1).to n2).to nc).to nl, (((Same.new n1).to (o := .ext (SX w s2 (dd S))) n2).to (o := .ext (SX w c ks)) nc).free nl, upd_same, sort_lt sr (pm.nodup_iff.mpr nd), fun x => ?_⟩
    rw [pm.mem_iff, hm x]
    dsimp only
    rw [dd_mem, dd_mem]
    exact Iff.rfl
noncomputable def sp_choices (K : PySem.W.Frag) : Sp := fun vs H Q _ => ∃ (a : Addr) (st : List Int), vs = [.ref a] ∧ SqL K H a (st.map V.int) ∧ st.Pairwise (· < ·) ∧ st.length ≤ 5 ∧ ∀ (l r0 : Addr) (rest : List Addr) (H' : Hp), Same H H' → H l = none → H' l = some (.lst ((r0 :: rest).map V.ref)) → H' r0 = some (.lst []) → rest.length ≤ 40 → (∀ r ∈ r0 :: rest, ∃ ns : List Int, H' r = some (.lst (ns.map V.int))) → Q (.ref l) H'
theorem sc_choices : FnScope ["numbers", "found", "number"] ["numbers"] (defScope s_choices) := ⟨rfl, rfl, rfl, by decide +kernel, rfl, by decide +kernel, by decide +kernel⟩
theorem ok_choices (D : Dfs K mg aF dF) (T : Txt mg) : FnOk P w K mg base CX0 1 (aF 1) (dF 1) ["numbers"] (sp_choices K) := by
  refine D.choices.fn.ok sc_choices (fun vs H Q E h => ?_) (fun cdv A outer s H vs Q E hr h => ?_)
  · obtain ⟨a, st, rfl, _⟩ := h; rfl
  · have hu := hu_of hr
    obtain ⟨a, st, rfl, ha, up, h5, q⟩ := h
    refine ⟨_, (pss_cons (ps_set (i := 1) sc_choices.nd rfl (Or.inl rfl) (pe_lst (pa_cons (pe_lst pa_nil) pa_nil)))
      (pss_cons (ps_for PassesOwn.never rfl (piL K (pv 0)) (pg_name (i := 2) sc_choices.nd rfl (Or.inr rfl))
        (pss_one (ps_set (i := 1) sc_choices.nd rfl (Or.inl rfl) (pe_op op_cat (pv 1) (pe_lcomp ["some", "number"] [none, some 2] rfl (piL K (pv 1)) (fun _ => pg_name (i := 0) (nodupN (N := ["some", "number"]) (by decide +kernel)) rfl (Or.inl rfl)) (fun _ => pif_nil) (fun _ => (pe_op op_cat (pv 0) (pe_lst (pa_cons (pv 1) pa_nil)))) ((.cons (fun _ e => by cases e) (.cons (fun _ e => by cases e; exact ⟨rfl, rfl⟩) .nil))))))))
      (pss_one (ps_ret (pe_sortLen K rfl T.z_sorted rfl T.z_len (pa_cons (pe_callB (cSortedSub K hr.units) (by rfl) T.z_sorted boot_sorted (pa_cons (pv 1) pa_nil)) pa_nil)))))), ?_⟩
    refine ⟨szr, fun e0 ne0 => ⟨szr, fun f0 nf0 => ?_⟩⟩
    have s0 := (Same.new (o := .lst []) ne0).to (o := .lst [.ref e0]) nf0
    have he0 := (Same.new (o := .lst [.ref e0]) nf0) _ _ (upd_same (H := H) (a := e0) (o := .lst []))
    have lim : ∀ j, j ≤ 5 → 2 ^ j ≤ 32 := fun j hj => (Nat.pow_le_pow_right (by decide) hj : 2 ^ j ≤ 2 ^ 5)
    refine ⟨_, rfl, a, rfl, ⟨_, s0.seq ha⟩, ?_⟩
    refine for_list (K := K) (a := a) (xs := st.map V.int) (fun j σ Hx => ∃ (fa : Addr) (as : List Addr) (x : Option V), σ = [some (.ref a), some (.ref fa), x] ∧ Same H Hx ∧ Hx fa = some (.lst (as.map V.ref)) ∧ IntsL Hx as ((subs j).map (subL st))) ⟨f0, [e0], none, rfl, s0, upd_same, .cons he0 .nil⟩ (fun j σ Hx _ hq__ => by obtain ⟨_, _, _, _, s, _⟩ := hq__; exact s.seq ha) ?_ ?_
    · rintro j v σ Hx hj ⟨fa, as, x, rfl, sx, hfa, il⟩
      obtain ⟨d, hd, rfl, ed⟩ := at_int hj
      have hjl := (List.getElem?_eq_some_iff.mp hd).1
      have la : as.length = 2 ^ j := by rw [Paired.length il, List.length_map, subs_len]
      have lj := lim j (by omega)
      refine ⟨_, rfl, _, rfl, fa, rfl, ⟨_, SqL.of hfa⟩, ?_⟩
      refine comp_invL (xs := as.map V.ref) (fun acc ys Hy => ∃ bs : List Addr, ys = bs.map V.ref ∧ IntsL Hy bs (((subs j).take ys.length).map fun l => subL st (l ++ [j])) ∧ ∀ b ∈ bs, b ≠ acc) (SqL.of hfa) (by rw [List.length_map]; omega)
        (fun acc ys H H' ⟨bs, e, ib, ne⟩ sb => ⟨bs, e, ib.but ne sb, ne⟩) (fun _ _ => ⟨[], rfl, .nil, fun _ z => by cases z⟩) (fun acc i x ys H2 R hx s2 nacc hacc yl ⟨bs, e, ib, ne⟩ k => ?_) fun acc ys H2 s2 nacc hacc yl ⟨bs, e, ib, ne⟩ => ?_
      · rw [List.getElem?_map] at hx
        obtain ⟨a1, ha1, rfl⟩ := Option.map_eq_some_iff.mp hx
        obtain ⟨l1, hl1, e1⟩ := pair_at il ha1
        rw [List.getElem?_map] at hl1
        obtain ⟨l0, hl0, rfl⟩ := Option.map_eq_some_iff.mp hl1
        have l0j := subs_ll j l0 (List.mem_of_getElem? hl0)
        refine ⟨_, rfl, _, rfl, szr, fun p np => ⟨a1, p, _, _, rfl, rfl, Same.new np _ _ (s2 _ _ e1), upd_same, szl (by rw [List.length_map]; unfold subL; rw [List.length_map]; simp; omega), fun c nc => ?_⟩⟩
        have s3 := (Same.new (o := .lst [V.int d]) np).to (o := .lst ((subL st l0).map V.int ++ [V.int d])) nc
        rw [yl] at ib
        refine k (.ref c) _ s3 ⟨bs ++ [c], by rw [e, List.map_append]; rfl, ?_, fun b hb => ?_⟩
        · rw [List.length_append, List.length_singleton, yl, take_snoc hl0, List.map_append]
          refine paired_snoc_len (ib.same s3) ?_
          show _ = some (HO.lst ((subL st (l0 ++ [j])).map V.int))
          rw [upd_same, subL_snoc, ed, List.map_append]
          rfl
        · rcases List.mem_append.mp hb with z | z
          · exact ne b z
          · rw [List.mem_singleton.mp z]
            intro y
            have := (Same.new (o := .lst [V.int d]) np) _ _ hacc
            rw [← y, nc] at this
            cases this
      · subst e
        rw [yl, List.length_map, la, ← subs_len j, List.take_length] at ib
        rw [List.length_map, List.length_map] at yl
        refine ⟨fa, acc, _, _, rfl, rfl, s2 _ _ hfa, hacc, szl (by rw [List.length_map, List.length_map]; omega), fun c nc => ?_⟩
        have s3 := Same.new (o := .lst (as.map V.ref ++ bs.map V.ref)) nc
        refine ⟨c, as ++ bs, _, rfl, (sx.trans s2).trans s3, by rw [upd_same, List.map_append], ?_⟩
        have e2 : (subs (j + 1)).map (subL st) = (subs j).map (subL st) ++ (subs j).map fun l => subL st (l ++ [j]) := by
          show (subs j ++ (subs j).map fun l => l ++ [j]).map (subL st) = _
          rw [List.map_append, List.map_map]
          rfl
        rw [e2]
        exact paired_app ((il.same s2).same s3) (ib.same s3)
    · rintro σ Hx ⟨fa, as, x, rfl, sx, hfa, il⟩
      rw [List.length_map] at il
      have la : as.length = 2 ^ st.length := by rw [Paired.length il, List.length_map, subs_len]
      have lj := lim st.length h5
      refine ⟨_, rfl, fa, as, st.length, st, rfl, SqL.of hfa, rfl, h5, up, il, fun l bs nl pm => ?_⟩
      have s1 := Same.new (o := .lst (bs.map V.ref)) nl
      have hl : upd Hx l (.lst (bs.map V.ref)) l = some (.lst (bs.map V.ref)) := upd_same
      have il1 := il.same s1
      generalize upd Hx l (.lst (bs.map V.ref)) = H1 at s1 hl il1
      have got : ∀ b ∈ bs, ∃ ns : List Int, H1 b = some (.lst (ns.map V.int)) := fun b hb => by
        obtain ⟨i, hi⟩ := List.mem_iff_getElem?.mp (pm.mem_iff.mp hb)
        obtain ⟨l0, _, e⟩ := pair_at il1 hi
        exact ⟨_, e⟩
      refine ⟨l, bs, bs.map (contV H1), rfl, SqL.of hl, by rw [pm.length_eq]; omega, paired_cont fun b hb => by obtain ⟨ns, e⟩ := got b hb; exact ⟨_, e⟩, fun l2 zs nl2 zp zw => ?_⟩
      rw [List.map_map, zip_own] at zp
      obtain ⟨i0, hi0⟩ := List.mem_iff_getElem?.mp (subs_nil st.length)
      obtain ⟨e1, he1, hh1⟩ := pair_get il1 (show ((subs st.length).map (subL st))[i0]? = some [] by rw [List.getElem?_map, hi0]; rfl)
      have m1 : e1 ∈ bs := pm.mem_iff.mpr (List.mem_of_getElem? he1)
      obtain ⟨r0, rest, er, g0⟩ := first_len (g := fun b => (contV H1 b).length) zp zw m1 (by rw [contV_of hh1]; rfl)
      have pr : (r0 :: rest).Perm bs := by
        have z := zp.map (·.2)
        rw [er, List.map_map] at z
        have e3 : bs.map ((fun x : Int × Addr => x.2) ∘ fun b => ((((contV H1 b).length : Nat) : Int), b)) = bs := List.map_id _
        exact z.trans (by rw [← e3]; exact List.Perm.of_eq (by rw [List.map_map]; rfl))
      rw [er]
      have s2 := Same.new (o := .lst ((r0 :: rest).map V.ref)) nl2
      have rl := pr.length_eq
      rw [List.length_cons, pm.length_eq] at rl
      have gr : ∀ r ∈ r0 :: rest, ∃ ns : List Int, H1 r = some (.lst (ns.map V.int)) := fun r hr => got r (pr.mem_iff.mp hr)
      refine q l2 r0 rest _ ((sx.trans s1).trans s2) ((sx.trans s1).free nl2) upd_same ?_ (by omega) fun r hr => by obtain ⟨ns, e⟩ := gr r hr; exact ⟨ns, s2 _ _ e⟩
      obtain ⟨ns, e⟩ := gr r0 List.mem_cons_self
      have g0 : (contV H1 r0).length = 0 := g0
      rw [contV_of e] at g0
      rw [List.eq_nil_of_length_eq_zero g0] at e
      exact s2 _ _ e
noncomputable def spN_settle (K : PySem.W.Frag) (n : Nat) : Sp := fun vs H Q _ => ∃ (a hd ad : Addr) (rs : List Addr) (ps : List (List Int)) (U : List Int) (pl : Nat) (kvs : HK) (as : List Int), vs = [.ref a, .ref hd, .int pl, .ref ad] ∧
  SqL K H a (rs.map V.ref) ∧ PoolsL K H rs ps ∧ pl < ps.length ∧ (∀ p ∈ ps, ∀ b ∈ p, b ∈ U) ∧ U.length ≤ 60 ∧ H hd = some (.dK kvs) ∧ H ad = some (.dK (encA as)) ∧ hd ≠ ad ∧
  (kvs.map (·.1)).Nodup ∧ Good ps kvs ∧ as.Nodup ∧ (∀ b ∈ as, b ∈ U) ∧ (U.filter fun c => decide (c ∉ as)).length < n ∧
  ∀ ok kvs' as' H', Sett ps U pl kvs as ok kvs' as' → SameX [hd, ad] H H' → H' hd = some (.dK kvs') → H' ad = some (.dK (encA as')) → Q (.bl ok) H'
noncomputable def sp_settle (K : PySem.W.Frag) : Sp := spN_settle K 28
theorem sc_settle : FnScope ["pools", "holders", "place", "asked", "badge"] ["pools", "holders", "place", "asked"] (defScope s_settle) := ⟨rfl, rfl, rfl, by decide +kernel, rfl, by decide +kernel, by decide +kernel⟩
theorem ok_settle (D : Dfs K mg aF dF) (T : Txt mg) : FnOk P w K mg base CX0 28 (aF 3) (dF 3) ["pools", "holders", "place", "asked"] (sp_settle K) := by
  have all : ∀ n, FnOk P w K mg base CX0 n (aF 3) (dF 3) ["pools", "holders", "place", "asked"] (spN_settle K n) := by
    intro n
    induction n with
    | zero =>
      have no : ∀ vs H Q E, ¬ spN_settle K 0 vs H Q E := fun vs H Q E h => by
        obtain ⟨a, hd, ad, rs, ps, U, pl, kvs, as, _, _, _, _, _, _, _, _, _, _, _, _, _, h, _⟩ := h
        omega
      exact ⟨fun vs H Q E h => absurd h (no vs H Q E), fun A outer s H args us vs Q E _ _ _ _ h => absurd h (no vs H Q E)⟩
    | succ n Gsettle =>
      refine D.settle.fn.ok sc_settle (fun vs H Q E h => ?_) (fun cdv A outer s H vs Q E hr h => ?_)
      · obtain ⟨a, hd, ad, rs, ps, U, pl, kvs, as, rfl, _⟩ := h; rfl
      have hu : A.units + 3 + 1 < cLine := by have := hr.un; show A.units + 3 + 1 < cLine; simp only [Around.deeper] at this; omega
      obtain ⟨a, hd, ad, rs, ps, U, pl, kvs, as, rfl, hS, hP, hpl, hU, hU60, hH, hA, hne, nd, g, nda, hsub, hleft, q⟩ := h
      refine ⟨_, (pss_cons (ps_for PassesOwn.never rfl (piL K (pe_ix (ixL K) (pv 0) (pv 2) (fun _ _ => rfl))) (pg_name (i := 4) sc_settle.nd rfl (Or.inl rfl))
        (pss_one (ps_if (pt_cmp (pc_dnotin hu (pv 4) (pv 3)))
          (pss_cons (ps_dput hu (pv 3) (pv 4) pe_bl rfl)
          (pss_one (ps_if (PW.pt (pw_or (pt_cmp (pc_dnotin hu (pv 4) (pv 1))) (pw_or1 (pt_val (pc D.settle Gsettle hr (pa_cons (pv 0) (pa_cons (pv 1) (pa_cons (pe_dget hu (pv 1) (pv 4) (fun _ _ => rfl)) (pa_cons (pv 3) pa_nil)))))))))
            (pss_cons (ps_dput hu (pv 1) (pv 4) (pv 2) rfl)
            (pss_one (ps_ret pe_bl)))
            pss_nil)))
          pss_nil)))
      (pss_one (ps_ret pe_bl))), ?_⟩
      have hp : ps[pl]? = some ps[pl] := List.getElem?_eq_getElem hpl
      generalize ps[pl] = p at hp
      obtain ⟨r, hr1, hr2⟩ := hP.at hp
      have dk0 : ∀ x ∈ [hd, ad], IsDk H x := fun x hx => by
        simp only [List.mem_cons, List.not_mem_nil, or_false] at hx
        rcases hx with e | e <;> subst e
        · exact ⟨_, hH⟩
        · exact ⟨_, hA⟩
      refine ⟨_, rfl, _, rfl, a, _, _, _, rfl, rfl, hS, atI_nat (by rw [List.getElem?_map, hr1]; rfl), r, rfl, ⟨_, hr2⟩, ?_⟩
      refine for_list (K := K) (a := r) (xs := p.map V.int) (fun i σ H1 => ∃ ai v, σ = [some (.ref a), some (.ref hd), some (.int pl), some (.ref ad), v] ∧ SLoop ps U p kvs as i ai ∧ SameX [hd, ad] H H1 ∧ H1 hd = some (.dK kvs) ∧ H1 ad = some (.dK (encA ai)))
        ⟨as, none, rfl, ⟨fun _ h => h, nda, hsub, fun _ h => by simp at h, fun b hb hn => absurd hb hn⟩, SameX.refl, hH, hA⟩ (fun i σ H1 _ hq__ => by obtain ⟨_, _, _, _, s1, _⟩ := hq__; exact s1.seq dk0 hr2) ?_ ?_
      · rintro i y σ H1 hi ⟨ai, v, rfl, sl, s1, hH1, hA1⟩
        obtain ⟨b, hb, rfl⟩ : ∃ b, p[i]? = some b ∧ y = V.int b := by
          rw [List.getElem?_map] at hi
          obtain ⟨b, h1, h2⟩ := Option.map_eq_some_iff.mp hi
          exact ⟨b, h1, h2.symm⟩
        have hbU : b ∈ U := hU p (List.mem_of_getElem? hp) b (List.mem_of_getElem? hb)
        have al : ai.length ≤ U.length := sl.nd.length_le_of_subset sl.sub
        have dk1 : ∀ x ∈ [hd, ad], IsDk H1 x := fun x hx => by
          simp only [List.mem_cons, List.not_mem_nil, or_false] at hx
          rcases hx with e | e <;> subst e
          · exact ⟨_, hH1⟩
          · exact ⟨_, hA1⟩
        refine ⟨_, rfl, _, rfl, ad, _, rfl, DGet.k (k := Sum.inl b) hA1, _, rfl, ?_⟩
        rw [encA_val]
        by_cases hba : b ∈ ai
        · rw [if_pos hba]
          exact iteF ⟨ai, _, rfl, sl.skip hb hba, s1, hH1, hA1⟩
        rw [if_neg hba]
        refine iteT ?_
        refine ⟨_, rfl, _, rfl, ad, _, rfl, DPut.k (k := Sum.inl b) hA1 (szn (by unfold encA; rw [List.length_map]; omega)), ?_⟩
        rw [encA_put hba]
        have hH2 : upd H1 ad (.dK (encA (ai ++ [b]))) hd = some (.dK kvs) := by rw [upd_ne hne]; exact hH1
        have s2 : SameX [hd, ad] H (upd H1 ad (.dK (encA (ai ++ [b])))) := s1.trans (SameX.upd (by simp))
        have dk2 : ∀ x ∈ [hd, ad], IsDk (upd H1 ad (.dK (encA (ai ++ [b])))) x := fun x hx => by
          simp only [List.mem_cons, List.not_mem_nil, or_false] at hx
          rcases hx with e | e <;> subst e
          · exact ⟨_, hH2⟩
          · exact ⟨_, upd_same⟩
        have kl := keys_le hU g nd
        refine ⟨_, rfl, _, rfl, hd, _, rfl, DGet.k (k := Sum.inl b) hH2, _, rfl, ?_⟩
        cases hv : valV kvs (Sum.inl b) with
        | none =>
          refine iteT (iteT ?_)
          refine ⟨_, rfl, _, rfl, _, rfl, hd, _, rfl, DPut.k (k := Sum.inl b) hH2 (szn (by omega)), ?_⟩
          refine q true _ (ai ++ [b]) _ (sl.free hp (hU p (List.mem_of_getElem? hp)) hb hba hv nd g) (s2.trans (SameX.upd (by simp))) upd_same ?_
          rw [upd_ne hne.symm]; exact upd_same
        | some vv =>
          obtain ⟨t, pt, rfl, ht, _⟩ := g.val hv
          have htl : t < ps.length := (List.getElem?_eq_some_iff.mp ht).1
          refine iteF ?_
          refine ⟨_, rfl, _, rfl, _, rfl, _, rfl, hd, _, rfl, (by rw [← hv]; exact DGet.k (k := Sum.inl b) hH2), _, rfl, ?_⟩
          refine ⟨a, hd, ad, rs, ps, U, t, kvs, ai ++ [b], rfl, s2.seq dk0 hS, hP.mono s2 dk0, htl, hU, hU60, hH2, upd_same, hne, nd, g, nd_snoc sl.nd hba, ?_, ?_, ?_⟩
          · intro c hc
            rcases List.mem_append.mp hc with z | z
            · exact sl.sub c z
            · rw [List.mem_singleton.mp z]; exact hbU
          · have := left_lt hbU hba sl.grow
            omega
          intro ok kvs2 as2 H3 st s3 hH3 hA3
          refine ⟨ok, rfl, ?_⟩
          cases ok with
          | false =>
            obtain ⟨e, sl2⟩ := sl.miss hb hba hv htl st
            subst e
            exact iteF ⟨as2, _, rfl, sl2, s2.trans s3, hH3, hA3⟩
          | true =>
            obtain ⟨n2, g2, _⟩ := st.yes rfl
            have kl2 := keys_le hU g2 n2
            refine iteT ?_
            refine ⟨_, rfl, _, rfl, _, rfl, hd, _, rfl, DPut.k (k := Sum.inl b) hH3 (szn (by omega)), ?_⟩
            refine q true _ as2 _ (sl.turn hp hb hba hv st) ((s2.trans s3).trans (SameX.upd (by simp))) upd_same ?_
            rw [upd_ne hne.symm]; exact hA3
      · rintro σ H1 ⟨ai, v, rfl, sl, s1, hH1, hA1⟩
        rw [List.length_map] at sl
        exact q false kvs ai H1 (sl.done hp) s1 hH1 hA1
  exact all 28
noncomputable def sp_short_places (K : PySem.W.Frag) : Sp := fun vs H Q _ => ∃ (hd ad : Addr) (pl : Nat) (kvs : HK) (as : List Int), vs = [.ref hd, .int pl, .ref ad] ∧ H hd = some (.dK kvs) ∧ H ad = some (.dK (encA as)) ∧ hd ≠ ad ∧ as.length ≤ 60 ∧
  (∀ b ∈ as, ∃ i : Int, valV kvs (Sum.inl b) = some (.int i)) ∧
  ∀ l (ms : List Int) H', SameX [ad] H H' → H l = none → H' l = some (.lst (ms.map V.int)) → ms.Perm ((pl : Int) :: as.map (hold kvs)) → ms.Pairwise (· ≤ ·) → Q (.ref l) H'
theorem sc_short_places : FnScope ["holders", "place", "asked"] ["holders", "place", "asked"] (defScope s_short_places) := ⟨rfl, rfl, rfl, by decide +kernel, rfl, by decide +kernel, by decide +kernel⟩
theorem ok_short_places (D : Dfs K mg aF dF) (T : Txt mg) : FnOk P w K mg base CX0 1 (aF 4) (dF 4) ["holders", "place", "asked"] (sp_short_places K) := by
  refine D.short_places.fn.ok sc_short_places (fun vs H Q E h => ?_) (fun cdv A outer s H vs Q E hr h => ?_)
  · obtain ⟨hd, ad, pl, kvs, as, rfl, _⟩ := h; rfl
  · have hu := hu_of hr
    obtain ⟨hd, ad, pl, kvs, as, rfl, hH, hA, hne, h60, hv, q⟩ := h
    refine ⟨_, (pss_one (ps_ret (pe_callB (cSorted K) (by rfl) T.z_sorted boot_sorted (pa_cons (pe_op op_cat (pe_lst (pa_cons (pv 1) pa_nil)) (pe_lcomp ["badge", "holders"] [none, some 0] rfl (pi_keys (pv 2)) (fun _ => pg_name (i := 0) (nodupN (N := ["badge", "holders"]) (by decide +kernel)) rfl (Or.inl rfl)) (fun _ => pif_nil) (fun _ => (pe_dget hu (pv 1) (pv 0) (fun _ _ => rfl))) ((.cons (fun _ e => by cases e) (.cons (fun _ e => by cases e; exact ⟨rfl, rfl⟩) .nil))))) pa_nil)))), ?_⟩
    refine ⟨_, rfl, szr, fun l1 n1 => ?_⟩
    have nl1 : ad ≠ l1 := ne_of_none hA n1
    refine ⟨_, rfl, ad, _, rfl, by rw [upd_ne nl1]; exact hA, fun φ => ?_⟩
    have hH1 : upd (upd H l1 (.lst [.int pl])) ad (.ext φ) hd = some (.dK kvs) := by rw [upd_ne hne, upd_ne (ne_of_none hH n1)]; exact hH
    refine comp_keys (kvs := encA as) (fun k => match k with | .inl b => .int (hold kvs b) | .inr _ => .non) (by unfold encA; rw [List.length_map]; omega) upd_same (fun i k v hi H2 R s2 kk => ?_) fun acc H2 s2 na hacc => ?_
    · obtain ⟨b, hb, e⟩ : ∃ b, b ∈ as ∧ (Sum.inl b, V.bl true) = (k, v) := by
        have m := List.mem_of_getElem? hi
        obtain ⟨b, hb, e⟩ := List.mem_map.mp m
        exact ⟨b, hb, e⟩
      cases e
      obtain ⟨z, hz⟩ := hv b hb
      refine ⟨_, rfl, _, rfl, hd, _, rfl, (by rw [← hz]; exact DGet.k (k := Sum.inl b) (s2 _ _ hH1)), ?_⟩
      have e := hold_of hz
      rw [← e]
      exact kk H2 (Same.refl _)
    have e1 : (encA as).map (fun p => match p.1 with | Sum.inl b => V.int (hold kvs b) | Sum.inr _ => V.non) = (as.map (hold kvs)).map V.int := by
      unfold encA
      rw [List.map_map, List.map_map]; rfl
    have hacc' : H2 acc = some (.lst ((as.map (hold kvs)).map V.int)) := hacc.trans (congrArg (fun z => some (HO.lst z)) e1)
    have hl2 : H2 l1 = some (.lst [.int pl]) := s2 _ _ (by rw [upd_ne nl1.symm]; exact upd_same)
    refine ⟨l1, acc, _, _, rfl, rfl, hl2, hacc', by rw [List.length_map, List.length_map]; exact szl (by show 1 + _ ≤ 1000; omega), fun l3 n3 => ?_⟩
    refine ⟨l3, (pl : Int) :: as.map (hold kvs), rfl, SqL.of upd_same, by rw [List.length_cons, List.length_map]; omega, fun l4 ms n4 hp hs => ?_⟩
    have sA : SameX [ad] H H2 := fun b o hb e => s2 b o (by rw [upd_ne (by simpa using hb), upd_ne (ne_of_none e n1)]; exact e)
    have n4' : H l4 = none := by
      cases z : H l4 with
      | none => rfl
      | some o =>
        by_cases hb : l4 = ad
        · have : upd H2 l3 (.lst (V.int (pl : Int) :: (as.map (hold kvs)).map V.int)) ad = none := hb ▸ n4
          rw [upd_ne (ne_of_none (s2 _ _ upd_same) n3), s2 _ _ upd_same] at this
          cases this
        · have z2 := sA l4 o (by simpa using hb) z
          have : upd H2 l3 (.lst (V.int (pl : Int) :: (as.map (hold kvs)).map V.int)) l4 = none := n4
          rw [upd_ne (ne_of_none z2 n3), z2] at this
          cases this
    refine q l4 ms _ ?_ n4' upd_same hp hs
    exact sA.trans (Same.x ((Same.new n3).to n4))
noncomputable def sp_hands_of (K : PySem.W.Frag) : Sp := fun vs H Q _ => ∃ (hd : Addr) (ps : List (List Int)) (kvs : HK), vs = [.ref hd, .int ps.length] ∧ H hd = some (.dK kvs) ∧ ps.length ≤ 60 ∧ Held ps kvs ps.length ∧
  ∀ l (hs : List Int) H', SameX [hd] H H' → H l = none → H' l = some (.lst (hs.map V.int)) → Deal ps hs → Q (.ref l) H'
theorem sc_hands_of : FnScope ["holders", "count", "hands", "badge", "place"] ["holders", "count"] (defScope s_hands_of) := ⟨rfl, rfl, rfl, by decide +kernel, rfl, by decide +kernel, by decide +kernel⟩
theorem ok_hands_of (D : Dfs K mg aF dF) (T : Txt mg) : FnOk P w K mg base CX0 1 (aF 5) (dF 5) ["holders", "count"] (sp_hands_of K) := by
  refine D.hands_of.fn.ok sc_hands_of (fun vs H Q E h => ?_) (fun cdv A outer s H vs Q E hr h => ?_)
  · obtain ⟨hd, ps, kvs, rfl, _⟩ := h; rfl
  · have hu := hu_of hr
    obtain ⟨hd, ps, kvs, rfl, hH, h60, he, q⟩ := h
    refine ⟨_, (pss_cons (ps_set (i := 2) sc_hands_of.nd rfl (Or.inl rfl) (pe_op op_rep (pe_lst (pa_cons pe_int pa_nil)) (pv 1)))
      (pss_cons (ps_for PassesOwn.never rfl (pi_items (pe_bm0 PySem.F.plainAttrs_dict PySem.F.slot_dict_items PySem.F.type_dict_items mt_items (pv 0))) (pgT K rfl (pgs_cons (pg_name (i := 3) sc_hands_of.nd rfl (Or.inl rfl)) (pgs_cons (pg_name (i := 4) sc_hands_of.nd rfl (Or.inl rfl)) pgs_nil)))
        (pss_one (ps_asg (pv 3) (pg_sub (pv 2) (pv 4) set_list))))
      (pss_one (ps_ret (pv 2))))), ?_⟩
    refine ⟨szr, fun l0 n0 => ⟨_, rfl, l0, _, _, rfl, rfl, upd_same, by omega, by omega, by show 1 * _ ≤ _; exact szl (by omega), fun l nl => ?_⟩⟩
    have el : (List.replicate ((ps.length : Int)).toNat [V.int 0]).flatten = (List.replicate ps.length (0 : Int)).map V.int := by
      have : ((ps.length : Int)).toNat = ps.length := by omega
      rw [this]
      generalize ps.length = m
      induction m with
      | zero => rfl
      | succ m ih => rw [List.replicate_succ, List.flatten_cons, ih, List.replicate_succ]; rfl
    rw [el]
    have nhd0 : hd ≠ l0 := ne_of_none hH n0
    have nhd : hd ≠ l := ne_of_none (show upd H l0 (.lst [.int 0]) hd = some _ by rw [upd_ne nhd0]; exact hH) nl
    have nl' : H l = none := by
      cases z : H l with
      | none => rfl
      | some o =>
        rw [upd_ne (ne_of_none z n0), z] at nl
        cases nl
    have hH1 : upd (upd H l0 (.lst [.int 0])) l (.lst ((List.replicate ps.length (0 : Int)).map V.int)) hd = some (.dK kvs) := by rw [upd_ne nhd, upd_ne nhd0]; exact hH
    refine ⟨_, rfl, .inr (.inr (.inl ⟨rfl, .inl ⟨_, hH1⟩⟩)), hd, kvs, rfl, rfl, hH1, fun v nv => ?_⟩
    have nvd : hd ≠ v := ne_of_none hH1 nv
    have nvl : l ≠ v := ne_of_none upd_same nv
    refine ⟨v, hd, kvs, rfl, upd_same, by rw [upd_ne nvd]; exact hH1, fun φ => ?_⟩
    refine for_items (fun i σ H1 => ∃ (hs : List Int) (x y : Option V), σ = [some (.ref hd), some (.int ps.length), some (.ref l), x, y] ∧ SameX [hd] H H1 ∧ H1 hd = some (.ext φ) ∧ H1 l = some (.lst (hs.map V.int)) ∧ hs.length = ps.length ∧
        ∀ j (b : Int) (t : Nat), j < i → kvs[j]? = some (Sum.inl b, V.int t) → hs[t]? = some b) ⟨List.replicate ps.length 0, none, none, rfl, ?_, upd_same, ?_, by rw [List.length_replicate], fun j b t h => by omega⟩ (fun i σ H1 _ hq__ => by obtain ⟨_, _, _, _, _, h, _⟩ := hq__; exact h) ?_ ?_
    · intro b o hb e
      have h1 : b ≠ hd := by simpa using hb
      rw [upd_ne h1, upd_ne (ne_of_none (show upd (upd H l0 _) l _ b = some o by rw [upd_ne (ne_of_none e nl'), upd_ne (ne_of_none e n0)]; exact e) nv), upd_ne (ne_of_none e nl'), upd_ne (ne_of_none e n0)]; exact e
    · rw [upd_ne nhd.symm, upd_ne nvl]; exact upd_same
    · rintro i k v' σ H1 p hi ⟨hs, x, y, rfl, s1, hx1, hl1, hlen, hin⟩ np
      obtain ⟨b, t, pl, e, e2, e3⟩ := he.good _ (List.mem_of_getElem? hi)
      cases e
      have ht : t < ps.length := (List.getElem?_eq_some_iff.mp e2).1
      have npl : l ≠ p := ne_of_none hl1 np
      refine ⟨p, _, rfl, SqT.of upd_same, rfl, _, _, rfl, _, _, rfl, rfl, ?_⟩
      refine ⟨_, rfl, _, rfl, _, rfl, l, _, _, t, rfl, rfl, by rw [upd_ne npl]; exact hl1, ?_, ?_⟩
      · unfold ixN
        rw [if_pos (by omega), if_pos (by rw [List.length_map]; omega)]
        congr 1
      refine ⟨hs.set t b, _, _, rfl, ?_, ?_, ?_, by rw [List.length_set]; exact hlen, fun j b' t' hj hj' => ?_⟩
      · intro c o hc e
        rw [upd_ne (ne_of_none e nl'), upd_ne (ne_of_none (s1 c o hc e) np)]; exact s1 c o hc e
      · rw [upd_ne nhd, upd_ne (ne_of_none hx1 np)]; exact hx1
      · rw [upd_same]; congr 1; congr 1
        rw [List.map_set]; rfl
      · by_cases hji : j = i
        · subst hji
          rw [hi] at hj'
          have z := Option.some.inj hj'
          injection z with z1 z2
          have z1 := Sum.inl.inj z1
          injection z2 with z2
          have : t = t' := by omega
          subst this z1
          rw [List.getElem?_set_self (by omega)]
        · have h1 := hin j b' t' (by omega) hj'
          have : t ≠ t' := fun z => by
            subst z
            have nd := he.vals
            have l1 : j < kvs.length := (List.getElem?_eq_some_iff.mp hj').1
            have l2 : i < kvs.length := (List.getElem?_eq_some_iff.mp hi).1
            rw [List.getElem?_eq_getElem l1] at hj'
            rw [List.getElem?_eq_getElem l2] at hi
            have e1 : (kvs.map (·.2))[j]'(by simpa using l1) = (kvs.map (·.2))[i]'(by simpa using l2) := by simp [Option.some.inj hj', Option.some.inj hi]
            exact hji ((List.getElem_inj nd).mp e1)
          rw [List.getElem?_set_ne this]; exact h1
    · rintro σ H1 ⟨hs, x, y, rfl, s1, hx1, hl1, hlen, hin⟩
      refine ⟨_, rfl, q l hs H1 s1 nl' hl1 (he.deal hlen fun b t m => ?_)⟩
      obtain ⟨j, hj, ej⟩ := List.mem_iff_getElem.mp m
      exact hin j b t hj (by rw [List.getElem?_eq_getElem hj, ej])
noncomputable def Told (H : Hp) (t : Addr) (ps : List (List Int)) : Prop := (∃ (l : Addr) (hs : List Int), H t = some (.tup [.str "dealt", .ref l]) ∧ H l = some (.lst (hs.map V.int)) ∧ Deal ps hs) ∨
  ∃ (l : Addr) (qs : List Nat), H t = some (.tup [.str "short", .ref l]) ∧ H l = some (.lst (qs.map fun (q : Nat) => V.int (q : Int))) ∧ Short ps qs
noncomputable def New (H H' : Hp) (t : Addr) : Prop := H t = none ∧ ∀ s l, H' t = some (.tup [.str s, .ref l]) → H l = none
noncomputable def sp_deal (K : PySem.W.Frag) : Sp := fun vs H Q _ => ∃ (a : Addr) (rs : List Addr) (ps : List (List Int)) (U : List Int), vs = [.ref a] ∧ SqL K H a (rs.map V.ref) ∧ PoolsL K H rs ps ∧ ps.length ≤ 6 ∧ (∀ p ∈ ps, ∀ b ∈ p, b ∈ U) ∧ U.length ≤ 26 ∧
  ∀ t H', Same H H' → New H H' t → Told H' t ps → Q (.ref t) H'
theorem sc_deal : FnScope ["pools", "holders", "place", "asked"] ["pools"] (defScope s_deal) := ⟨rfl, rfl, rfl, by decide +kernel, rfl, by decide +kernel, by decide +kernel⟩
theorem ok_deal (D : Dfs K mg aF dF) (T : Txt mg) : FnOk P w K mg base CX0 29 (aF 2) (dF 2) ["pools"] (sp_deal K) := by
  have Gsettle : FnOk P w K mg base CX0 28 (aF 3) (dF 3) ["pools", "holders", "place", "asked"] (sp_settle K) := ok_settle D T
  have Gshort_places : FnOk P w K mg base CX0 1 (aF 4) (dF 4) ["holders", "place", "asked"] (sp_short_places K) := ok_short_places D T
  have Ghands_of : FnOk P w K mg base CX0 1 (aF 5) (dF 5) ["holders", "count"] (sp_hands_of K) := ok_hands_of D T
  refine D.deal.fn.ok sc_deal (fun vs H Q E h => ?_) (fun cdv A outer s H vs Q E hr h => ?_)
  · obtain ⟨a, rs, ps, U, rfl, _⟩ := h; rfl
  · have hu := hu_of hr
    obtain ⟨a, rs, ps, U, rfl, hS, hP, h6, hU, hU26, q⟩ := h
    refine ⟨_, (pss_cons (ps_set (i := 1) sc_deal.nd rfl (Or.inl rfl) pe_dnewK)
      (pss_cons (ps_for PassesOwn.never rfl (pi_range1 rfl T.z_range (pa_cons (pe_callB (cLen K) (by rfl) T.z_len boot_len (pa_cons (pv 0) pa_nil)) pa_nil)) (pg_name (i := 2) sc_deal.nd rfl (Or.inl rfl))
        (pss_cons (ps_set (i := 3) sc_deal.nd rfl (Or.inl rfl) pe_dnewK)
        (pss_one (ps_if (pt_not (pt_val (pc D.settle Gsettle (hr.mono (by decide)) (pa_cons (pv 0) (pa_cons (pv 1) (pa_cons (pv 2) (pa_cons (pv 3) pa_nil)))))))
          (pss_one (ps_ret (pe_tup (pa_cons pe_str (pa_cons (pc D.short_places Gshort_places (hr.mono (by decide)) (pa_cons (pv 1) (pa_cons (pv 2) (pa_cons (pv 3) pa_nil)))) pa_nil)))))
          pss_nil))))
      (pss_one (ps_ret (pe_tup (pa_cons pe_str (pa_cons (pc D.hands_of Ghands_of (hr.mono (by decide)) (pa_cons (pv 1) (pa_cons (pe_callB (cLen K) (by rfl) T.z_len boot_len (pa_cons (pv 0) pa_nil)) pa_nil))) pa_nil))))))), ?_⟩
    intro hd nh
    have hl : rs.length = ps.length := Paired.length hP
    refine ⟨_, rfl, _, _, rfl, .inl ⟨_, (Same.new nh).seq hS, rfl⟩, _, rfl, lo62 _, by rw [List.length_map]; omega, ?_⟩
    rw [List.length_map, hl]
    have e0 : ((ps.length : Int)).toNat = ps.length := by omega
    rw [e0]
    refine for_range (n := ps.length) (fun i σ H1 => ∃ (kvs : HK) (x y : Option V), σ = [some (.ref a), some (.ref hd), x, y] ∧ Same H H1 ∧ H1 hd = some (.dK kvs) ∧ Held ps kvs i) ⟨[], none, none, rfl, Same.new nh, upd_same, Held.start⟩ ?_ ?_
    · rintro i σ H1 hi ⟨kvs, x, y, rfl, s1, hH1, he⟩
      intro ad na
      have hne : hd ≠ ad := ne_of_none hH1 na
      have na' : H ad = none := s1.free na
      refine ⟨_, rfl, _, rfl, _, rfl, _, rfl, ?_⟩
      have ei : (0 : Int) + (i : Int) = (i : Int) := by omega
      rw [ei]
      have s2 : Same H (upd H1 ad (.dK [])) := s1.to na
      have hH2 : upd H1 ad (.dK []) hd = some (.dK kvs) := by rw [upd_ne hne]; exact hH1
      refine ⟨a, hd, ad, rs, ps, U, i, kvs, [], rfl, s2.seq hS, hP.same s2, hi, hU, by omega, hH2, upd_same, hne, he.nd, he.good, List.nodup_nil, (fun _ h => by cases h), ?_, ?_⟩
      · have := List.length_filter_le (fun c => decide (c ∉ ([] : List Int))) U
        omega
      intro ok kvs' as' H3 st s3 hH3 hA3
      have fr : ∀ b o, H b = some o → b ∉ [hd, ad] := fun b o e m => by
        simp only [List.mem_cons, List.not_mem_nil, or_false] at m
        rcases m with z | z
        · rw [z, nh] at e; cases e
        · rw [z, na'] at e; cases e
      have s4 : Same H H3 := fun b o e => s3 b o (fr b o e) (s2 b o e)
      refine ⟨ok, rfl, ?_⟩
      cases ok with
      | true => exact iteF ⟨kvs', _, _, rfl, s4, hH3, he.next st⟩
      | false =>
        obtain ⟨e, h1, h2⟩ := st.no rfl
        subst e
        refine iteT ?_
        refine ⟨_, rfl, _, rfl, _, rfl, ?_⟩
        have al : as'.length ≤ U.length := st.nd.length_le_of_subset st.sub
        refine ⟨hd, ad, i, kvs', as', rfl, hH3, hA3, hne, by omega, fun b hb => ?_, fun l ms H4 s5 nl hl4 hp hs => ?_⟩
        · obtain ⟨t, _, e, _⟩ := h2 b hb (by simp)
          exact ⟨t, e⟩
        obtain ⟨qs, eq, sh⟩ := he.short hi st hp hs
        have s6 : Same H H4 := fun b o e => s5 b o (fun m => fr b o e (List.mem_cons_of_mem _ m)) (s4 b o e)
        refine ⟨szr, fun t nt => q t _ (s6.to nt) ⟨s6.free nt, fun s l' e => ?_⟩ (.inr ⟨l, qs, upd_same, ?_, sh⟩)⟩
        · rw [upd_same] at e
          cases e
          exact s4.free nl
        · rw [upd_ne (ne_of_none hl4 nt), hl4, eq, List.map_map]; rfl
    · rintro σ H1 ⟨kvs, x, y, rfl, s1, hH1, he⟩
      refine ⟨_, rfl, _, rfl, _, _, rfl, .inl ⟨_, s1.seq hS, rfl⟩, ?_⟩
      rw [List.length_map, hl]
      refine ⟨hd, ps, kvs, rfl, hH1, by omega, he, fun l hs H2 s2 nl hl2 dl => ?_⟩
      have s6 : Same H H2 := fun b o e => s2 b o (fun m => by
        rw [List.mem_singleton.mp m, nh] at e
        cases e) (s1 b o e)
      refine ⟨szr, fun t nt => q t _ (s6.to nt) ⟨s6.free nt, fun s l' e => ?_⟩ (.inl ⟨l, hs, upd_same, ?_, dl⟩)⟩
      · rw [upd_same] at e
        cases e
        exact s1.free nl
      · rw [upd_ne (ne_of_none hl2 nt)]; exact hl2
noncomputable def sp_width (K : PySem.W.Frag) : Sp := fun vs H Q _ => ∃ (a : Addr) (ps : List Int), vs = [.ref a] ∧ SqL K H a (ps.map V.int) ∧ ps.length ≤ 6 ∧ ∀ H', Same H H' → Q (.int (((dd ps).length : Nat) : Int)) H'
theorem sc_width : FnScope ["pattern"] ["pattern"] (defScope s_width) := ⟨rfl, rfl, rfl, by decide +kernel, rfl, by decide +kernel, by decide +kernel⟩
theorem ok_width (D : Dfs K mg aF dF) (T : Txt mg) : FnOk P w K mg base CX0 1 (aF 6) (dF 6) ["pattern"] (sp_width K) := by
  refine D.width.fn.ok sc_width (fun vs H Q E h => ?_) (fun cdv A outer s H vs Q E hr h => ?_)
  · obtain ⟨a, ps, rfl, _⟩ := h; rfl
  · have hu := hu_of hr
    obtain ⟨a, ps, rfl, ha, h6, q⟩ := h
    refine ⟨_, (pss_one (ps_ret (pe_callB (cLenS w) (by rfl) T.z_len boot_len (pa_cons (pe_callTy (cSet w K) (by rfl) T.z_set PyProof.Rows.boot_set (pa_cons (pv 0) pa_nil)) pa_nil)))), ?_⟩
    exact ⟨_, rfl, a, ps, rfl, ha, by omega, fun S nS => ⟨S, _, rfl, upd_same, q _ (Same.new nS)⟩⟩
noncomputable def sp_grown (K : PySem.W.Frag) : Sp := fun vs H Q _ => ∃ (a : Addr) (ps : List Int), vs = [.ref a] ∧ H a = some (.lst (ps.map V.int)) ∧ ps.length ≤ 6 ∧
  ∀ l (rs : List Addr) H', Same H H' → H l = none → H' l = some (.lst (rs.map V.ref)) → rs.length = (dd ps).length + 1 → (∀ (i : Nat) r, rs[i]? = some r → H' r = some (.lst ((ps ++ [(i : Int)]).map V.int)) ∧ H r = none) → Q (.ref l) H'
theorem sc_grown : FnScope ["pattern"] ["pattern"] (defScope s_grown) := ⟨rfl, rfl, rfl, by decide +kernel, rfl, by decide +kernel, by decide +kernel⟩
theorem ok_grown (D : Dfs K mg aF dF) (T : Txt mg) : FnOk P w K mg base CX0 2 (aF 7) (dF 7) ["pattern"] (sp_grown K) := by
  have Gwidth : FnOk P w K mg base CX0 1 (aF 6) (dF 6) ["pattern"] (sp_width K) := ok_width D T
  refine D.grown.fn.ok sc_grown (fun vs H Q E h => ?_) (fun cdv A outer s H vs Q E hr h => ?_)
  · obtain ⟨a, ps, rfl, _⟩ := h; rfl
  · have hu := hu_of hr
    obtain ⟨a, ps, rfl, ha, h6, q⟩ := h
    refine ⟨_, (pss_one (ps_ret (pe_lcomp ["number", "pattern"] [none, some 0] rfl (pi_range1 rfl T.z_range (pa_cons (pe_op op_add (pc D.width Gwidth (hr.mono (by decide)) (pa_cons (pv 0) pa_nil)) pe_int) pa_nil)) (fun _ => pg_name (i := 0) (nodupN (N := ["number", "pattern"]) (by decide +kernel)) rfl (Or.inl rfl)) (fun _ => pif_nil) (fun _ => (pe_op op_cat (pv 1) (pe_lst (pa_cons (pv 0) pa_nil)))) ((.cons (fun _ e => by cases e) (.cons (fun _ e => by cases e; exact ⟨rfl, rfl⟩) .nil)))))), ?_⟩
    refine ⟨_, rfl, a, ps, rfl, SqL.of ha, h6, fun H1 s1 => ?_⟩
    have dl := dd_len ps
    refine ⟨_, _, rfl, rfl, _, rfl, lo62 _, by omega, ?_⟩
    have e0 : (((dd ps).length : Int) + 1).toNat = (dd ps).length + 1 := by omega
    rw [e0]
    refine comp_rlists (n := (dd ps).length + 1) (fun i => (ps ++ [(i : Int)]).map V.int) (by omega) (fun i hi H2 R s2 k => ?_) fun acc rs H2 s2 nacc hacc hrs hall hne => ?_
    · have ei : (0 : Int) + (i : Int) = ((i : Nat) : Int) := by omega
      rw [ei]
      refine ⟨_, rfl, _, rfl, szr, fun p np => ?_⟩
      have ha2 := (s1.trans s2) _ _ ha
      refine ⟨a, p, _, _, rfl, rfl, Same.new np _ _ ha2, upd_same, by rw [List.length_map]; exact szl (by simp; omega), fun r nr => ?_⟩
      have e : ps.map V.int ++ [V.int ((i : Nat) : Int)] = (ps ++ [(i : Int)]).map V.int := by rw [List.map_append]; rfl
      rw [e]
      exact k r _ ((Same.new np).to nr) ((Same.new np).free nr) upd_same
    · exact q acc rs H2 (s1.trans s2) (s1.free nacc) hacc hrs fun i r hr => ⟨(hall i r hr).1, s1.free (hall i r hr).2⟩
noncomputable def sp_unlike (K : PySem.W.Frag) : Sp := fun vs H Q _ => ∃ (a t : Addr) (hs : List Int) (st : List Nat), vs = [.ref a, .ref t] ∧ SqL K H a (hs.map V.int) ∧ (SqL K H t (st.map fun (i : Nat) => V.int (i : Int)) ∨ SqT K H t (st.map fun (i : Nat) => V.int (i : Int))) ∧ (∀ i ∈ st, i < hs.length) ∧ st.length ≤ 6 ∧
  ∀ H', Same H H' → Q (.int ((unl (fun i => hs.getD i 0) st : Nat) : Int)) H'
theorem sc_unlike : FnScope ["row", "steps"] ["row", "steps"] (defScope s_unlike) := ⟨rfl, rfl, rfl, by decide +kernel, rfl, by decide +kernel, by decide +kernel⟩
theorem ok_unlike (D : Dfs K mg aF dF) (T : Txt mg) : FnOk P w K mg base CX0 1 (aF 10) (dF 10) ["row", "steps"] (sp_unlike K) := by
  refine D.unlike.fn.ok sc_unlike (fun vs H Q E h => ?_) (fun cdv A outer s H vs Q E hr h => ?_)
  · obtain ⟨a, t, hs, st, rfl, _⟩ := h; rfl
  · have hu := hu_of hr
    obtain ⟨a, t, hs, st, rfl, ha, ht, hlt, h6, q⟩ := h
    refine ⟨_, (pss_one (ps_ret (pe_callB (cLenS w) (by rfl) T.z_len boot_len (pa_cons (pe_callTy (cSet w K) (by rfl) T.z_set PyProof.Rows.boot_set (pa_cons (pe_lcomp ["step", "row"] [none, some 0] rfl (piE K (pv 1)) (fun _ => pg_name (i := 0) (nodupN (N := ["step", "row"]) (by decide +kernel)) rfl (Or.inl rfl)) (fun _ => pif_nil) (fun _ => (pe_ix (ixL K) (pv 1) (pv 0) (fun _ _ => rfl))) ((.cons (fun _ e => by cases e) (.cons (fun _ e => by cases e; exact ⟨rfl, rfl⟩) .nil)))) pa_nil)) pa_nil)))), ?_⟩
    have fin : ∀ acc H2, Same H H2 → H2 acc = some (.lst ((st.map fun i => hs.getD i 0).map V.int)) → ∀ S, H2 S = none → Q (.int ((unl (fun i => hs.getD i 0) st : Nat) : Int)) (upd H2 S (.ext (SX w S (dd (st.map fun i => hs.getD i 0))))) := fun acc H2 s2 _ S nS => q _ (s2.to nS)
    refine ⟨_, rfl, t, rfl, ?_⟩
    rcases ht with ht | ht
    · refine .inl ⟨⟨_, ht⟩, comp_list2 (xs := st.map fun (i : Nat) => V.int (i : Int)) (fun _ => true) (fun j => .int (hs.getD (st.getD j 0) 0)) ht (by rw [List.length_map]; omega) (fun _ _ _ _ _ _ k => k _ (Same.refl _)) (fun j x hx _ H2 R s2 k => ?_) fun acc H2 s2 nacc hacc => ?_⟩
      · obtain ⟨d, hd, rfl, ed⟩ := at_nat hx
        rw [ed] at k
        exact ⟨_, rfl, _, rfl, a, _, _, _, rfl, rfl, s2.seq ha, atI_int (hlt d (List.mem_of_getElem? hd)), k _ (Same.refl _)⟩
      rw [all_at] at hacc
      exact ⟨acc, st.map fun i => hs.getD i 0, rfl, SqL.of hacc, by rw [List.length_map]; omega, fun S nS => ⟨S, _, rfl, upd_same, fin acc H2 s2 hacc S nS⟩⟩
    · refine .inr ⟨⟨_, ht⟩, comp_tup (xs := st.map fun (i : Nat) => V.int (i : Int)) (fun _ => true) (fun j => .int (hs.getD (st.getD j 0) 0)) ht (by rw [List.length_map]; omega) (fun _ _ _ _ _ _ k => k _ (Same.refl _)) (fun j x hx _ H2 R s2 k => ?_) fun acc H2 s2 nacc hacc => ?_⟩
      · obtain ⟨d, hd, rfl, ed⟩ := at_nat hx
        rw [ed] at k
        exact ⟨_, rfl, _, rfl, a, _, _, _, rfl, rfl, s2.seq ha, atI_int (hlt d (List.mem_of_getElem? hd)), k _ (Same.refl _)⟩
      rw [all_at] at hacc
      exact ⟨acc, st.map fun i => hs.getD i 0, rfl, SqL.of hacc, by rw [List.length_map]; omega, fun S nS => ⟨S, _, rfl, upd_same, fin acc H2 s2 hacc S nS⟩⟩
noncomputable def sp_breaks (K : PySem.W.Frag) : Sp := fun vs H Q _ => ∃ (a tp t : Addr) (hs : List Int) (st : List Nat) (wd : Str) (k : Int), vs = [.ref a, .ref tp] ∧ SqL K H a (hs.map V.int) ∧ SqT K H tp [.str wd, .int k, .ref t] ∧ SqT K H t (st.map fun (i : Nat) => V.int (i : Int)) ∧ (wd = "most" ∨ wd = "least") ∧ st.length ≤ 6 ∧
  ∀ H', Same H H' → Q (.bl (brk (fun i => hs.getD i 0) hs.length wd k st)) H'
theorem sc_breaks : FnScope ["pattern", "tie", "steps", "numbers_there"] ["pattern", "tie"] (defScope s_breaks) := ⟨rfl, rfl, rfl, by decide +kernel, rfl, by decide +kernel, by decide +kernel⟩
theorem ok_breaks (D : Dfs K mg aF dF) (T : Txt mg) : FnOk P w K mg base CX0 2 (aF 8) (dF 8) ["pattern", "tie"] (sp_breaks K) := by
  have Gunlike : FnOk P w K mg base CX0 1 (aF 10) (dF 10) ["row", "steps"] (sp_unlike K) := ok_unlike D T
  refine D.breaks.fn.ok sc_breaks (fun vs H Q E h => ?_) (fun cdv A outer s H vs Q E hr h => ?_)
  · obtain ⟨a, tp, t, hs, st, wd, k, rfl, _⟩ := h; rfl
  · have hu := hu_of hr
    obtain ⟨a, tp, t, hs, st, wd, k, rfl, ha, htp, ht, hwd, h6, q⟩ := h
    refine ⟨_, (pss_cons (ps_setC (i₀ := 2) sc_breaks.nd rfl (Or.inl rfl) ["step", "pattern"] [none, some 0] rfl (piT K (pe_ix (ixT K) (pv 1) pe_int (fun _ _ => rfl))) (fun _ => pg_name (i := 0) (nodupN (N := ["step", "pattern"]) (by decide +kernel)) rfl (Or.inl rfl)) (fun _ => pif_one (pt_cmpR op_lt (pv 0) (pe_callB (cLen K) (by rfl) T.z_len boot_len (pa_cons (pv 1) pa_nil)) (nomark _))) (fun _ => (pv 0)) ((.cons (fun _ e => by cases e) (.cons (fun _ e => by cases e; exact ⟨rfl, rfl⟩) .nil))))
      (pss_cons (ps_set (i := 3) sc_breaks.nd rfl (Or.inl rfl) (pc D.unlike Gunlike (hr.mono (by decide)) (pa_cons (pv 0) (pa_cons (pv 2) pa_nil))))
      (pss_cons (ps_if (pt_cmpR op_eq (pe_ix (ixT K) (pv 1) pe_int (fun _ _ => rfl)) pe_str (nomark _))
        (pss_one (ps_ret (pe_cmpR op_gt (pv 3) (pe_ix (ixT K) (pv 1) pe_int (fun _ _ => rfl)) (nomark _))))
        pss_nil)
      (pss_one (ps_ret (pe_cmpR op_lt (pe_op op_sub (pe_op op_add (pv 3) (pe_callB (cLen K) (by rfl) T.z_len boot_len (pa_cons (pe_ix (ixT K) (pv 1) pe_int (fun _ _ => rfl)) pa_nil))) (pe_callB (cLen K) (by rfl) T.z_len boot_len (pa_cons (pv 2) pa_nil))) (pe_ix (ixT K) (pv 1) pe_int (fun _ _ => rfl)) (nomark _))))))), ?_⟩
    refine ⟨_, rfl, tp, _, _, _, rfl, rfl, htp, rfl, t, rfl, ⟨_, ht⟩, ?_⟩
    refine comp_tup (xs := st.map fun (i : Nat) => V.int (i : Int)) (fun j => decide (st.getD j 0 < hs.length)) (fun j => .int ((st.getD j 0 : Nat) : Int)) ht (by rw [List.length_map]; omega) (fun j x hx H2 R s2 k => ?_) (fun j x hx hp H2 R s2 k => ?_) fun acc H2 s2 nacc hacc => ?_
    · obtain ⟨d, hd, rfl, ed⟩ := at_nat hx
      rw [ed] at k
      refine ⟨_, rfl, _, rfl, _, _, rfl, .inl ⟨_, s2.seq ha, rfl⟩, _, _, rfl, rfl, _, rfl, ?_⟩
      have kk := k H2 (Same.refl _)
      rw [dec_lt] at kk
      rw [List.length_map]
      exact kk
    · obtain ⟨d, hd, rfl, ed⟩ := at_nat hx
      rw [ed] at k
      exact ⟨_, rfl, k _ (Same.refl _)⟩
    rw [List.length_map, sift (g := fun i => decide (i < hs.length)) (F := fun (i : Nat) => V.int (i : Int))] at hacc
    have fl : (st.filter fun i => decide (i < hs.length)).length ≤ st.length := List.length_filter_le ..
    refine ⟨_, rfl, _, rfl, a, acc, hs, st.filter fun i => decide (i < hs.length), rfl, s2.seq ha, .inl (SqL.of hacc), (fun i hi => of_decide_eq_true (List.mem_filter.mp hi).2), by omega, fun H3 s23 => ?_⟩
    have s3 := s2.trans s23
    have hacc3 := s23 _ _ hacc
    have q3 := q H3 s3
    refine ⟨_, rfl, tp, _, _, _, rfl, rfl, Same.seqT s3 htp, rfl, rfl, _, rfl, ?_⟩
    unfold brk at q3
    rcases hwd with e | e <;> subst e
    · refine iteT ?_
      rw [if_pos rfl] at q3
      exact ⟨_, rfl, _, rfl, tp, _, _, _, rfl, rfl, Same.seqT s3 htp, rfl, _, _, rfl, rfl, q3⟩
    · rw [decide_eq_false (by decide)]
      refine iteF ?_
      rw [if_neg (by decide)] at q3
      refine ⟨_, rfl, _, rfl, tp, _, _, _, rfl, rfl, Same.seqT s3 htp, rfl, _, _, rfl, .inr ⟨_, Same.seqT s3 ht, rfl⟩, _, _, rfl, rfl, _, rfl, _, _, rfl, .inl ⟨_, SqL.of hacc3, rfl⟩, _, _, rfl, rfl, _, rfl, tp, _, _, _, rfl, rfl, Same.seqT s3 htp, rfl, _, _, rfl, rfl, ?_⟩
      rw [List.length_map, List.length_map]
      exact q3
noncomputable def sp_first_broken (K : PySem.W.Frag) : Sp := fun vs H Q _ => ∃ (a b : Addr) (hs : List Int) (ts : List (Addr × Addr × Str × Int × List Nat)), vs = [.ref a, .ref b] ∧ SqL K H a (hs.map V.int) ∧ Ties K H b ts 100 ∧ ∀ H', Same H H' → Q (optV (fstB (fun i => hs.getD i 0) hs.length ts)) H'
theorem sc_first_broken : FnScope ["pattern", "ties", "place"] ["pattern", "ties"] (defScope s_first_broken) := ⟨rfl, rfl, rfl, by decide +kernel, rfl, by decide +kernel, by decide +kernel⟩
theorem ok_first_broken (D : Dfs K mg aF dF) (T : Txt mg) : FnOk P w K mg base CX0 3 (aF 9) (dF 9) ["pattern", "ties"] (sp_first_broken K) := by
  have Gbreaks : FnOk P w K mg base CX0 2 (aF 8) (dF 8) ["pattern", "tie"] (sp_breaks K) := ok_breaks D T
  refine D.first_broken.fn.ok sc_first_broken (fun vs H Q E h => ?_) (fun cdv A outer s H vs Q E hr h => ?_)
  · obtain ⟨a, b, hs, ts, rfl, _⟩ := h; rfl
  · have hu := hu_of hr
    obtain ⟨a, b, hs, ts, rfl, ha, tt, q⟩ := h
    refine ⟨_, (pss_cons (ps_for PassesOwn.never rfl (pi_range1 rfl T.z_range (pa_cons (pe_callB (cLen K) (by rfl) T.z_len boot_len (pa_cons (pv 1) pa_nil)) pa_nil)) (pg_name (i := 2) sc_first_broken.nd rfl (Or.inl rfl))
        (pss_one (ps_if (pt_val (pc D.breaks Gbreaks (hr.mono (by decide)) (pa_cons (pv 0) (pa_cons (pe_ix (ixL K) (pv 1) (pv 2) (fun _ _ => rfl)) pa_nil))))
          (pss_one (ps_ret (pv 2)))
          pss_nil)))
      (pss_one (ps_ret pe_non))), ?_⟩
    have ln := tt.ln
    have sl : (ts.map fun x => V.ref x.1).length = ts.length := by rw [List.length_map]
    refine ⟨_, rfl, _, _, rfl, .inl ⟨_, tt.ls, rfl⟩, _, rfl, lo62 _, by omega, ?_⟩
    have e0 : (((ts.map fun x => V.ref x.1).length : Nat) : Int).toNat = ts.length := by omega
    rw [e0]
    refine for_range (n := ts.length) (fun i σ H1 => ∃ x : Option V, σ = [some (.ref a), some (.ref b), x] ∧ Same H H1 ∧ ∀ j, j < i → ∀ x, ts[j]? = some x → brk (fun i => hs.getD i 0) hs.length x.2.2.1 x.2.2.2.1 x.2.2.2.2 = false) ⟨none, rfl, Same.refl _, fun j h => by omega⟩ ?_ ?_
    · rintro i σ H1 hi ⟨x, rfl, s1, no⟩
      have ei : (0 : Int) + (i : Int) = ((i : Nat) : Int) := by omega
      rw [ei]
      have gi : ts[i]? = some ts[i] := List.getElem?_eq_getElem hi
      have te := tt.ea _ (List.getElem_mem hi)
      refine ⟨_, rfl, _, rfl, _, rfl, b, _, _, _, rfl, rfl, s1.seq tt.ls, atI_nat (by rw [List.getElem?_map, gi]; rfl), a, ts[i].1, ts[i].2.1, hs, ts[i].2.2.2.2, ts[i].2.2.1, ts[i].2.2.2.1, rfl, s1.seq ha, SqT.of (s1 _ _ te.tp), SqT.of (s1 _ _ te.ts), te.wd, te.sl, fun H2 s2 => ⟨_, rfl, ?_⟩⟩
      refine ifB (fun hb => ?_) fun hb => ?_
      · have e : fstB (fun i => hs.getD i 0) hs.length ts = some i := by
          unfold fstB
          rw [List.findIdx?_eq_some_iff_getElem]
          exact ⟨hi, hb, fun j hj => by
            have := no j hj _ (List.getElem?_eq_getElem (by omega))
            simpa using this⟩
        have qq := q H2 (s1.trans s2)
        rw [e] at qq
        exact ⟨_, rfl, qq⟩
      · refine ⟨_, rfl, s1.trans s2, fun j hj x hx => ?_⟩
        by_cases z : j = i
        · subst z
          rw [gi] at hx
          cases hx
          exact hb
        · exact no j (by omega) x hx
    · rintro σ H1 ⟨x, rfl, s1, no⟩
      have e : fstB (fun i => hs.getD i 0) hs.length ts = none := by
        unfold fstB
        rw [List.findIdx?_eq_none_iff]
        intro x hx
        obtain ⟨j, hj, ej⟩ := List.mem_iff_getElem.mp hx
        exact no j hj x (by rw [List.getElem?_eq_getElem hj, ej])
      have qq := q H1 s1
      rw [e] at qq
      exact qq
noncomputable def sp_pool_of (K : PySem.W.Frag) : Sp := fun vs H Q _ => ∃ (b : Nat) (pa ma : Addr) (p : List Int) (rs : List Addr) (may : List (List Int)) (U : List Int), vs = [.int ((b : Nat) : Int), .ref pa, .ref ma] ∧ SqL K H pa (p.map V.int) ∧ May K H ma rs may U ∧ Canon p ∧ b < (dd p).length ∧ p.length ≤ may.length ∧
  ∀ l H', Same H H' → H l = none → H' l = some (.lst ((poolN may p b).map V.int)) → Q (.ref l) H'
theorem sc_pool_of : FnScope ["block", "pattern", "may", "steps", "step", "pool"] ["block", "pattern", "may"] (defScope s_pool_of) := ⟨rfl, rfl, rfl, by decide +kernel, rfl, by decide +kernel, by decide +kernel⟩
theorem ok_pool_of (D : Dfs K mg aF dF) (T : Txt mg) : FnOk P w K mg base CX0 2 (aF 12) (dF 12) ["block", "pattern", "may"] (sp_pool_of K) := by
  have Gcommon : FnOk P w K mg base CX0 1 (aF 0) (dF 0) ["one", "other"] (sp_common K) := ok_common D T
  refine D.pool_of.fn.ok sc_pool_of (fun vs H Q E h => ?_) (fun cdv A outer s H vs Q E hr h => ?_)
  · obtain ⟨b, pa, ma, p, rs, may, U, rfl, _⟩ := h; rfl
  · have hu := hu_of hr
    obtain ⟨b, pa, ma, p, rs, may, U, rfl, hp, hm, c, hb, hl, q⟩ := h
    refine ⟨_, (pss_cons (ps_setC (i₀ := 3) sc_pool_of.nd rfl (Or.inl rfl) ["step", "pattern", "block"] [none, some 1, some 0] rfl (pi_range1 rfl T.z_range (pa_cons (pe_callB (cLen K) (by rfl) T.z_len boot_len (pa_cons (pv 1) pa_nil)) pa_nil)) (fun _ => pg_name (i := 0) (nodupN (N := ["step", "pattern", "block"]) (by decide +kernel)) rfl (Or.inl rfl)) (fun _ => pif_one (pt_cmpR op_eq (pe_ix (ixL K) (pv 1) (pv 0) (fun _ _ => rfl)) (pv 2) (nomark _))) (fun _ => (pv 0)) ((.cons (fun _ e => by cases e) (.cons (fun _ e => by cases e; exact ⟨rfl, rfl⟩) (.cons (fun _ e => by cases e; exact ⟨rfl, rfl⟩) .nil)))))
      (pss_cons (ps_set (i := 5) sc_pool_of.nd rfl (Or.inl rfl) (pe_callTy (cList K) (by rfl) T.z_list boot_list (pa_cons (pe_ix (ixL K) (pv 2) (pe_ix (ixL K) (pv 3) pe_int (fun _ _ => rfl)) (fun _ _ => rfl)) pa_nil)))
      (pss_cons (ps_for PassesOwn.never rfl (piL K (pe_slice (slL K) (pv 3) (po_some pe_int) po_none)) (pg_name (i := 4) sc_pool_of.nd rfl (Or.inl rfl))
        (pss_one (ps_set (i := 5) sc_pool_of.nd rfl (Or.inl rfl) (pc D.common Gcommon (hr.mono (by decide)) (pa_cons (pv 5) (pa_cons (pe_ix (ixL K) (pv 2) (pv 4) (fun _ _ => rfl)) pa_nil))))))
      (pss_one (ps_ret (pv 5)))))), ?_⟩
    have m6 := hm.m6
    refine ⟨_, rfl, _, _, rfl, .inl ⟨_, hp, rfl⟩, _, rfl, lo62 _, by rw [List.length_map]; omega, ?_⟩
    have e0 : (((p.map V.int).length : Nat) : Int).toNat = p.length := by rw [List.length_map]; omega
    rw [e0]
    refine comp_some (n := p.length) (fun i => decide (p.getD i 0 = (b : Int))) (by omega) (fun i hi H3 R s3 k => ?_) (fun i hi H3 R k => ?_) fun sl H3 s3 nsl hsl => ?_
    · have ei : (0 : Int) + (i : Int) = ((i : Nat) : Int) := by omega
      rw [ei]
      have kk := k H3 (Same.refl _)
      rw [dec_intP] at kk
      exact ⟨_, rfl, _, rfl, pa, _, _, _, rfl, rfl, s3.seq hp, atI_int hi, _, rfl, rfl, _, rfl, kk⟩
    · have ei : (0 : Int) + (i : Int) = ((i : Nat) : Int) := by omega
      rw [ei]
      exact ⟨_, rfl, k⟩
    have sne : blkS p b ≠ [] := blkS_ne c hb
    have slt : ∀ i ∈ blkS p b, i < may.length := fun i hi => by have := (blkS_mem.mp hi).1; omega
    have hsl : H3 sl = some (.lst ((blkS p b).map fun (i : Nat) => V.int (i : Int))) := hsl
    have q2 : ∀ l H', Same H3 H' → H3 l = none → H' l = some (.lst ((poolS (blkS p b) may).map V.int)) → Q (.ref l) H' := fun l H' s n e => q l H' (s3.trans s) (s3.free n) e
    have s6 : (blkS p b).length ≤ 6 := by
      have := List.length_filter_le (fun i => decide (p.getD i 0 = (b : Int))) (List.range p.length)
      rw [List.length_range] at this
      show ((List.range p.length).filter fun i => decide (p.getD i 0 = (b : Int))).length ≤ 6
      omega
    have hm3 := hm.same s3
    clear q
    generalize blkS p b = st at hsl sne slt q2 s6
    obtain ⟨s0, sr, rfl⟩ := List.exists_cons_of_ne_nil sne
    obtain ⟨r0, hr0, hq0, up0, sub0⟩ := hm3.rows (slt s0 (by simp))
    refine ⟨_, rfl, _, rfl, sl, _, _, _, rfl, rfl, SqL.of hsl, atI_nat (j := 0) (v := V.int (s0 : Int)) rfl, ma, _, _, _, rfl, rfl, hm3.ls, atI_nat (by rw [List.getElem?_map, hr0]; rfl), r0, _, rfl, .inl hq0, fun l nl => ?_⟩
    have cf : cutV (((s0 :: sr).map fun (i : Nat) => V.int (i : Int))) (some (1 : Int)) none = sr.map fun (i : Nat) => V.int (i : Int) := cut_from _ 1
    refine ⟨_, rfl, _, rfl, sl, _, rfl, SqL.of (Same.new nl _ _ hsl), fun cc ncc => ?_⟩
    have s34 := (Same.new (o := .lst ((may.getD s0 []).map V.int)) nl).to (o := .lst (sr.map fun (i : Nat) => V.int (i : Int))) ncc
    have ncl : l ≠ cc := fun z => by rw [← z, upd_same] at ncc; cases ncc
    have hl4 : upd (upd H3 l (.lst ((may.getD s0 []).map V.int))) cc (.lst (sr.map fun (i : Nat) => V.int (i : Int))) l = some (.lst ((may.getD s0 []).map V.int)) := by rw [upd_ne ncl]; exact upd_same
    have hcc4 : upd (upd H3 l (.lst ((may.getD s0 []).map V.int))) cc (.lst (sr.map fun (i : Nat) => V.int (i : Int))) cc = some (.lst (sr.map fun (i : Nat) => V.int (i : Int))) := upd_same
    rw [cf]
    generalize upd (upd H3 l (.lst ((may.getD s0 []).map V.int))) cc (.lst (sr.map fun (i : Nat) => V.int (i : Int))) = H4 at s34 hl4 hcc4
    refine ⟨cc, rfl, ⟨_, SqL.of hcc4⟩, ?_⟩
    refine for_list (K := K) (a := cc) (xs := sr.map fun (i : Nat) => V.int (i : Int)) (fun i σ H5 => ∃ (po : Addr) (x : Option V), σ = [some (.int ((b : Nat) : Int)), some (.ref pa), some (.ref ma), some (.ref sl), x, some (.ref po)] ∧ Same H4 H5 ∧ H3 po = none ∧ H5 po = some (.lst ((poolS (s0 :: sr.take i) may).map V.int)))
      ⟨l, none, rfl, Same.refl _, nl, by rw [List.take_zero, poolS_one]; exact hl4⟩ (fun i σ H5 _ hq__ => by obtain ⟨_, _, _, s, _⟩ := hq__; exact s.seq (SqL.of hcc4)) ?_ ?_
    · rintro i y σ H5 hi ⟨po, x, rfl, s5, npo, hpo⟩
      obtain ⟨d, hd, rfl, _⟩ := at_nat hi
      have hdl := slt d (List.mem_cons_of_mem _ (List.mem_of_getElem? hd))
      have hm5 := hm3.same (s34.trans s5)
      obtain ⟨r1, hr1, hq1, up1, sub1⟩ := hm5.rows hdl
      refine ⟨_, rfl, _, rfl, _, rfl, ma, _, _, _, rfl, rfl, hm5.ls, atI_nat (by rw [List.getElem?_map, hr1]; rfl), po, r1, poolS (s0 :: sr.take i) may, may.getD d [], U, rfl, ⟨SqL.of hpo, hq1, poolS_up hm.up, up1, fun x hx => sub0 x ((List.mem_filter.mp hx).1), sub1, by have := hm.u20; omega⟩, fun l2 ks H6 ⟨t1, t2, t3, t4, t5⟩ => ?_⟩
      refine ⟨l2, _, rfl, s5.trans t1, (s34.trans s5).free t2, ?_⟩
      have et : sr.take (i + 1) = sr.take i ++ [d] := by rw [List.take_add_one, hd]; rfl
      have ek : ks = poolS (s0 :: sr.take (i + 1)) may := by
        refine up_ext t4 (poolS_up hm.up) fun x => ?_
        rw [t5 x, et, ← List.cons_append, poolS_snoc (by simp)]
        exact Iff.rfl
      rw [← ek]
      exact t3
    · rintro σ H5 ⟨po, x, rfl, s5, npo, hpo⟩
      rw [List.length_map, List.take_length] at hpo
      exact ⟨_, rfl, q2 po H5 (s34.trans s5) npo hpo⟩
noncomputable def sp_pools_of (K : PySem.W.Frag) : Sp := fun vs H Q _ => ∃ (pa ma : Addr) (p : List Int) (rs : List Addr) (may : List (List Int)) (U : List Int), vs = [.ref pa, .ref ma] ∧ SqL K H pa (p.map V.int) ∧ May K H ma rs may U ∧ Canon p ∧ p.length ≤ may.length ∧
  ∀ l (ls : List Addr) H', Same H H' → H l = none → H' l = some (.lst (ls.map V.ref)) → RowsL H' ls (pools may p) → (∀ r ∈ ls, H r = none) → Q (.ref l) H'
theorem sc_pools_of : FnScope ["pattern", "may"] ["pattern", "may"] (defScope s_pools_of) := ⟨rfl, rfl, rfl, by decide +kernel, rfl, by decide +kernel, by decide +kernel⟩
theorem ok_pools_of (D : Dfs K mg aF dF) (T : Txt mg) : FnOk P w K mg base CX0 3 (aF 11) (dF 11) ["pattern", "may"] (sp_pools_of K) := by
  have Gwidth : FnOk P w K mg base CX0 1 (aF 6) (dF 6) ["pattern"] (sp_width K) := ok_width D T
  have Gpool_of : FnOk P w K mg base CX0 2 (aF 12) (dF 12) ["block", "pattern", "may"] (sp_pool_of K) := ok_pool_of D T
  refine D.pools_of.fn.ok sc_pools_of (fun vs H Q E h => ?_) (fun cdv A outer s H vs Q E hr h => ?_)
  · obtain ⟨pa, ma, p, rs, may, U, rfl, _⟩ := h; rfl
  · have hu := hu_of hr
    obtain ⟨pa, ma, p, rs, may, U, rfl, hp, hm, c, hl, q⟩ := h
    refine ⟨_, (pss_one (ps_ret (pe_lcomp ["block", "pattern", "may"] [none, some 0, some 1] rfl (pi_range1 rfl T.z_range (pa_cons (pc D.width Gwidth (hr.mono (by decide)) (pa_cons (pv 0) pa_nil)) pa_nil)) (fun _ => pg_name (i := 0) (nodupN (N := ["block", "pattern", "may"]) (by decide +kernel)) rfl (Or.inl rfl)) (fun _ => pif_nil) (fun _ => (pc D.pool_of Gpool_of (hr.mono (by decide)) (pa_cons (pv 0) (pa_cons (pv 1) (pa_cons (pv 2) pa_nil))))) ((.cons (fun _ e => by cases e) (.cons (fun _ e => by cases e; exact ⟨rfl, rfl⟩) (.cons (fun _ e => by cases e; exact ⟨rfl, rfl⟩) .nil))))))), ?_⟩
    have m6 := hm.m6
    have dl := dd_len p
    refine ⟨_, rfl, pa, p, rfl, hp, by omega, fun H1 s1 => ?_⟩
    refine ⟨_, rfl, lo62 _, by omega, ?_⟩
    rw [Int.toNat_natCast]
    refine comp_rlists (n := (dd p).length) (fun i => (poolN may p i).map V.int) (by omega) (fun i hi H2 R s2 k => ?_) fun acc ls H2 s2 nacc hacc hrs hall hne => ?_
    · have ei : (0 : Int) + (i : Int) = ((i : Nat) : Int) := by omega
      rw [ei]
      have s12 := s1.trans s2
      exact ⟨_, rfl, _, rfl, _, rfl, i, pa, ma, p, rs, may, U, rfl, s12.seq hp, hm.same s12, c, hi, hl, fun r H3 s3 nr hr => k r H3 s3 nr hr⟩
    · refine q acc ls H2 (s1.trans s2) (s1.free nacc) hacc (RowsL.of (by rw [hrs, pools_len]) fun i r p' e1 e2 => ?_) fun r hr => ?_
      · have hi : i < (dd p).length := by rw [← hrs]; exact (List.getElem?_eq_some_iff.mp e1).1
        rw [pools_at hi] at e2
        cases e2
        exact (hall i r e1).1
      · obtain ⟨i, hi, ei⟩ := List.mem_iff_getElem.mp hr
        exact s1.free (hall i r (by rw [List.getElem?_eq_getElem hi, ei])).2
noncomputable def spN_plan_from (K : PySem.W.Frag) (m : Nat) : Sp := fun vs H Q _ => ∃ (pa ma ta : Addr) (p : List Int) (rs : List Addr) (may : List (List Int)) (U : List Int) (ts : List (Addr × Addr × Str × Int × List Nat)), vs = [.ref pa, .ref ma, .ref ta] ∧ H pa = some (.lst (p.map V.int)) ∧ May K H ma rs may U ∧ Ties K H ta ts 100 ∧ (∀ x ∈ ts, TieG may.length x) ∧ Canon p ∧ p.length ≤ may.length ∧ may.length < p.length + m ∧
  ∀ t H', Same H H' → PTold H H' t may (ts.map tieOf) p → Q (.ref t) H'
noncomputable def sp_plan_from (K : PySem.W.Frag) : Sp := spN_plan_from K 7
theorem sc_plan_from : FnScope ["pattern", "may", "ties", "broken", "dealt", "papers", "longer", "told"] ["pattern", "may", "ties"] (defScope s_plan_from) := ⟨rfl, rfl, rfl, by decide +kernel, rfl, by decide +kernel, by decide +kernel⟩
theorem ok_plan_from (D : Dfs K mg aF dF) (T : Txt mg) : FnOk P w K mg base CX0 37 (aF 14) (dF 14) ["pattern", "may", "ties"] (sp_plan_from K) := by
  have Gdeal : FnOk P w K mg base CX0 29 (aF 2) (dF 2) ["pools"] (sp_deal K) := ok_deal D T
  have Ggrown : FnOk P w K mg base CX0 2 (aF 7) (dF 7) ["pattern"] (sp_grown K) := ok_grown D T
  have Gfirst_broken : FnOk P w K mg base CX0 3 (aF 9) (dF 9) ["pattern", "ties"] (sp_first_broken K) := ok_first_broken D T
  have Gpools_of : FnOk P w K mg base CX0 3 (aF 11) (dF 11) ["pattern", "may"] (sp_pools_of K) := ok_pools_of D T
  have all : ∀ n, FnOk P w K mg base CX0 (30 + n) (aF 14) (dF 14) ["pattern", "may", "ties"] (spN_plan_from K n) := by
    intro n
    induction n with
    | zero =>
      have no : ∀ vs H Q E, ¬ spN_plan_from K 0 vs H Q E := fun vs H Q E h => by
        obtain ⟨pa, ma, ta, p, rs, may, U, ts, _, _, _, _, _, _, h1, h2, _⟩ := h
        omega
      exact ⟨fun vs H Q E h => absurd h (no vs H Q E), fun A outer s H args us vs Q E _ _ _ _ h => absurd h (no vs H Q E)⟩
    | succ n Gplan_from =>
      refine D.plan_from.fn.ok sc_plan_from (fun vs H Q E h => ?_) (fun cdv A outer s H vs Q E hr h => ?_)
      · obtain ⟨pa, ma, ta, p, rs, may, U, ts, rfl, _⟩ := h; rfl
      obtain ⟨pa, ma, ta, p, rs, may, U, ts, rfl, hpa, hm, tt, tg, c, hl, hlm, q⟩ := h
      have rk : Nat.add 30 n = 30 + n := rfl
      refine ⟨_, (pss_cons (ps_set (i := 3) sc_plan_from.nd rfl (Or.inl rfl) (pc D.first_broken Gfirst_broken (hr.mono (by have := rk; omega)) (pa_cons (pv 0) (pa_cons (pv 2) pa_nil))))
      (pss_cons (ps_if (pt_cmpR op_notN (pv 3) pe_non (nomark _))
        (pss_one (ps_ret (pe_tup (pa_cons pe_str (pa_cons (pe_tup (pa_cons pe_str (pa_cons (pv 3) pa_nil))) pa_nil)))))
        pss_nil)
      (pss_cons (ps_set (i := 4) sc_plan_from.nd rfl (Or.inr rfl) (pc D.deal Gdeal (hr.mono (by have := rk; omega)) (pa_cons (pc D.pools_of Gpools_of (hr.mono (by have := rk; omega)) (pa_cons (pv 0) (pa_cons (pv 1) pa_nil))) pa_nil)))
      (pss_cons (ps_if (pt_cmpR op_eq (pe_ix (ixT K) (pv 4) pe_int (fun _ _ => rfl)) pe_str (nomark _))
        (pss_one (ps_ret (pe_tup (pa_cons pe_str (pa_cons (pe_tup (pa_cons pe_str (pa_cons (pe_ix (ixT K) (pv 4) pe_int (fun _ _ => rfl)) pa_nil))) pa_nil)))))
        pss_nil)
      (pss_cons (ps_if (pt_cmpR op_eq (pe_callB (cLen K) (by rfl) T.z_len boot_len (pa_cons (pv 0) pa_nil)) (pe_callB (cLen K) (by rfl) T.z_len boot_len (pa_cons (pv 1) pa_nil)) (nomark _))
        (pss_one (ps_ret (pe_tup (pa_cons pe_str (pa_cons (pe_lcomp ["block", "dealt"] [none, some 4] rfl (piL K (pv 0)) (fun _ => pg_name (i := 0) (nodupN (N := ["block", "dealt"]) (by decide +kernel)) rfl (Or.inl rfl)) (fun _ => pif_nil) (fun _ => (pe_ix (ixL K) (pe_ix (ixT K) (pv 1) pe_int (fun _ _ => rfl)) (pv 0) (fun _ _ => rfl))) ((.cons (fun _ e => by cases e) (.cons (fun _ e => by cases e; exact ⟨rfl, rfl⟩) .nil)))) pa_nil)))))
        pss_nil)
      (pss_cons (ps_set (i := 5) sc_plan_from.nd rfl (Or.inl rfl) (pe_lst pa_nil))
      (pss_cons (ps_for PassesOwn.never rfl (piL K (pc D.grown Ggrown (hr.mono (by have := rk; omega)) (pa_cons (pv 0) pa_nil))) (pg_name (i := 6) sc_plan_from.nd rfl (Or.inl rfl))
        (pss_cons (ps_set (i := 7) sc_plan_from.nd rfl (Or.inl rfl) (pc D.plan_from Gplan_from hr (pa_cons (pv 6) (pa_cons (pv 1) (pa_cons (pv 2) pa_nil)))))
        (pss_cons (ps_if (pt_cmpR op_eq (pe_ix (ixT K) (pv 7) pe_int (fun _ _ => rfl)) pe_str (nomark _))
          (pss_one (ps_ret (pv 7)))
          pss_nil)
        (pss_one (ps_expr (pe_bm PySem.F.plainAttrs_list PySem.F.slot_list_append PySem.F.type_list_append mt_append (pv 5) (pa_cons (pe_ix (ixT K) (pv 7) pe_int (fun _ _ => rfl)) pa_nil)))))))
      (pss_one (ps_ret (pe_tup (pa_cons pe_str (pa_cons (pe_tup (pa_cons pe_str (pa_cons (pv 5) pa_nil))) pa_nil)))))))))))), ?_⟩
      have m6 := hm.m6
      have dl := dd_len p
      refine ⟨_, rfl, _, rfl, pa, ta, p, ts, rfl, SqL.of hpa, tt, fun H1 s1 => ?_⟩
      refine ⟨_, rfl, rfl, _, rfl, ?_⟩
      rw [dec_optV]
      cases hf : fstB (fun i => p.getD i 0) p.length ts with
      | some j =>
        refine iteT ⟨_, rfl, szr, fun t1 n1 => ⟨szr, fun t2 n2 => ?_⟩⟩
        obtain ⟨x, hx, hb⟩ := fstB_some hf
        have n12 : t1 ≠ t2 := fun z => by rw [← z, upd_same] at n2; cases n2
        refine q t2 _ ((s1.to n1).to n2) (.inr ⟨.ref t1, .tie j, upd_same, .tie (nw_of (s1.free n1) (by rw [upd_ne n12]; exact upd_same)), .tie (t := tieOf x) (by rw [List.getElem?_map, hx]; rfl) hb⟩)
      | none =>
        have nb := fstB_none hf
        refine iteF ?_
        have hm1 := hm.same s1
        refine ⟨_, rfl, _, rfl, pa, ma, p, rs, may, U, rfl, SqL.of (s1 _ _ hpa), hm1, c, hl, fun po ls H2 s2 npo hpo R2 fr2 => ⟨po, ls, pools may p, U, rfl, SqL.of hpo, R2.pools, by rw [pools_len]; omega, pools_sub c hl hm.sub, hm.u20, fun t H3 s3 nwt td => ?_⟩⟩
        have s03 := (s1.trans s2).trans s3
        have hpa3 := s03 _ _ hpa
        have hm3 := hm.same s03
        rcases td with ⟨dlA, ds, ht, hdl, dl'⟩ | ⟨sl, qs, ht, hsl, sh⟩
        · refine ⟨_, rfl, t, _, _, _, rfl, rfl, SqT.of ht, rfl, rfl, _, rfl, ?_⟩
          rw [decide_eq_false (by decide)]
          refine iteF ?_
          refine ⟨_, rfl, _, _, rfl, .inl ⟨_, SqL.of hpa3, rfl⟩, _, rfl, _, _, rfl, .inl ⟨_, hm3.ls, rfl⟩, rfl, _, rfl, ifEq (fun e => ?_) fun ne => ?_⟩
          · rw [List.length_map, List.length_map, hm.po.len] at e
            have e : p.length = may.length := by omega
            refine ⟨_, rfl, pa, rfl, ⟨_, SqL.of hpa3⟩, ?_⟩
            have dsl : ds.length = (dd p).length := by rw [dl'.len, pools_len]
            refine comp_list2 (xs := p.map V.int) (fun _ => true) (fun j => .int (ds.getD (p.getD j 0).toNat 0)) (SqL.of hpa3) (by rw [List.length_map]; omega) (fun _ _ _ _ _ _ k => k _ (Same.refl _)) (fun j x hx _ H4 R s4 k => ?_) fun acc H4 s4 nacc hacc => ?_
            · obtain ⟨d, hd, rfl, ed⟩ := at_int hx
              obtain ⟨b, eb, hb⟩ := canon_mem c (List.mem_of_getElem? hd)
              rw [ed] at k
              subst eb
              rw [Int.toNat_natCast] at k
              exact ⟨_, rfl, t, _, _, _, rfl, rfl, SqT.of (s4 _ _ ht), rfl, _, rfl, dlA, _, _, _, rfl, rfl, SqL.of (s4 _ _ hdl), atI_int (by omega), k _ (Same.refl _)⟩
            rw [List.filter_eq_self.mpr (fun _ _ => rfl), List.length_map] at hacc
            have e2 : (List.range p.length).map (fun j => V.int (ds.getD (p.getD j 0).toNat 0)) = (p.map fun x => ds.getD x.toNat 0).map V.int := by
              rw [List.map_map]
              exact map_at fun i x hx => by rw [List.getD_eq_getElem?_getD (l := p), hx]; rfl
            rw [e2] at hacc
            refine ⟨szr, fun t2 n2 => ?_⟩
            refine q t2 _ ((s03.trans s4).to n2) (.inl ⟨acc, _, upd_same, Same.new n2 _ _ hacc, s03.free nacc, plan_of c e dl' (fun x hx => ?_) fun x hx => ?_⟩)
            · obtain ⟨y, hy, ey⟩ := List.mem_map.mp hx
              rw [← ey, e]
              exact (tg y hy).lt
            · obtain ⟨y, hy, ey⟩ := List.mem_map.mp hx
              rw [← ey]
              exact nb y hy
          · rw [List.length_map, List.length_map, hm.po.len] at ne
            have lt : p.length < may.length := by omega
            refine ⟨szr, fun pl npl => ?_⟩
            have s34 := Same.new (o := .lst []) npl
            have hpl4 : upd H3 pl (.lst []) pl = some (.lst []) := upd_same
            generalize upd H3 pl (.lst []) = H4 at s34 hpl4
            have s04 := s03.trans s34
            have npl0 : H pl = none := s03.free npl
            refine ⟨_, rfl, pa, p, rfl, s04 _ _ hpa, by omega, fun gl gs H5 s45 ngl hgl hgs gall => ⟨gl, rfl, ⟨_, SqL.of hgl⟩, ?_⟩⟩
            have glp : gl ≠ pl := fun z => by rw [z, hpl4] at ngl; cases ngl
            have gsp : ∀ (i : Nat) r, gs[i]? = some r → r ≠ pl := fun i r hr z => by have := (gall i r hr).2; rw [z, hpl4] at this; cases this
            refine for_list (K := K) (a := gl) (xs := gs.map V.ref) (fun i σ Hx => ∃ (vs : List V) (ps : List Pap) (x y : Option V), σ = [some (.ref pa), some (.ref ma), some (.ref ta), some .non, some (.ref t), some (.ref pl), x, y] ∧ SameBut pl H5 Hx ∧ Hx pl = some (.lst vs) ∧ vs.length = i ∧ ps.length = i ∧ ∀ (k : Nat) v q, vs[k]? = some v → ps[k]? = some q → PapAt (hide pl (nw H Hx)) v q ∧ Shows may (ts.map tieOf) (p ++ [(k : Int)]) q)
              ⟨[], [], none, none, rfl, fun _ _ _ h => h, s45 _ _ hpl4, rfl, rfl, fun k v q h => by simp at h⟩ (fun i σ Hx _ hq__ => by obtain ⟨_, _, _, _, _, sb, _⟩ := hq__; exact SqL.of (sb _ _ glp hgl)) ?_ ?_
            · rintro i y σ Hx hi ⟨vs, ps, x, y', rfl, sb, hpl, vl, psl, al⟩
              rw [List.getElem?_map] at hi
              obtain ⟨r, hr', rfl⟩ := Option.map_eq_some_iff.mp hi
              have il : i < (dd p).length + 1 := by rw [← hgs]; exact (List.getElem?_eq_some_iff.mp hr').1
              have hrx := sb _ _ (gsp i r hr') (gall i r hr').1
              have s0x : Same H Hx := fun b o e => sb _ _ (fun z => by rw [z, npl0] at e; cases e) ((s04.trans s45) _ _ e)
              have cx := canon_snoc c (j := i) (by omega)
              refine ⟨_, rfl, _, rfl, _, rfl, r, ma, ta, p ++ [(i : Int)], rs, may, U, ts, rfl, hrx, hm.same s0x, ⟨s0x.seq tt.ls, fun x hx => (tt.ea x hx).same s0x, tt.ln⟩, tg, cx, by simp; omega, by simp; omega, fun t2 H6 s6 td2 => ?_⟩
              have s06 := s0x.trans s6
              rcases td2 with ⟨l2, hs2, ht2, hl2, nl2, ip⟩ | ⟨v, qq, ht2, pq, sq⟩
              · refine ⟨_, rfl, t2, _, _, _, rfl, rfl, SqT.of ht2, rfl, rfl, _, rfl, iteT ?_⟩
                exact ⟨_, rfl, q t2 H6 s06 (.inl ⟨l2, hs2, ht2, hl2, s0x.free nl2, ip⟩)⟩
              · refine ⟨_, rfl, t2, _, _, _, rfl, rfl, SqT.of ht2, rfl, rfl, _, rfl, ?_⟩
                rw [decide_eq_false (by decide)]
                refine iteF ?_
                have hpl6 := s6 _ _ hpl
                refine ⟨_, rfl, .inl ⟨rfl, _, SqL.of hpl6⟩, _, rfl, t2, _, _, _, rfl, rfl, SqT.of ht2, rfl, pl, _, _, rfl, rfl, hpl6, szn (by omega), ?_⟩
                refine ⟨vs ++ [v], ps ++ [qq], _, _, rfl, fun b o nb' e => ?_, upd_same, by simp [vl], by simp [psl], fun k v' q' e1 e2 => ?_⟩
                · rw [upd_ne nb']
                  exact s6 _ _ (sb _ _ nb' e)
                · by_cases z : k < i
                  · rw [List.getElem?_append_left (by omega)] at e1 e2
                    obtain ⟨g1, g2⟩ := al k v' q' e1 e2
                    refine ⟨g1.same fun b o e => ?_, g2⟩
                    obtain ⟨zb, e⟩ := hide_some e
                    obtain ⟨u1, u2⟩ := nw_some e
                    exact hide_of zb (nw_of u1 (by rw [upd_ne zb]; exact s6 _ _ u2))
                  · have zi : k = i := by
                      have := (List.getElem?_eq_some_iff.mp e1).1
                      rw [List.length_append, List.length_singleton] at this
                      omega
                    subst zi
                    rw [List.getElem?_append_right (by omega), vl, Nat.sub_self] at e1
                    rw [List.getElem?_append_right (by omega), psl, Nat.sub_self] at e2
                    cases e1
                    cases e2
                    refine ⟨pq.same fun b o e => ?_, sq⟩
                    obtain ⟨u1, u2⟩ := nw_some e
                    have zb : b ≠ pl := fun z => by rw [z, hpl] at u1; cases u1
                    exact hide_of zb (nw_of (s0x.free u1) (by rw [upd_ne zb]; exact u2))
            · rintro σ Hx ⟨vs, ps, x, y', rfl, sb, hpl, vl, psl, al⟩
              rw [List.length_map, hgs] at vl psl
              have s0x : Same H Hx := fun b o e => sb _ _ (fun z => by rw [z, npl0] at e; cases e) ((s04.trans s45) _ _ e)
              refine ⟨_, rfl, szr, fun t1 n1 => ⟨szr, fun t2 n2 => ?_⟩⟩
              have n12 : t1 ≠ t2 := fun z => by rw [← z, upd_same] at n2; cases n2
              have npl1 : pl ≠ t1 := ne_of_none hpl n1
              have sx2 := (Same.new (o := .tup [.str "split", .ref pl]) n1).to (o := .tup [.str "none", .ref t1]) n2
              refine q t2 _ (s0x.trans sx2) (.inr ⟨.ref t1, .split ps, upd_same, .split (nw_of (s0x.free n1) (by rw [upd_ne n12]; exact upd_same)) (nw_of npl0 (sx2 _ _ hpl)) (by omega) fun k v' q' e1 e2 => ?_, .split lt psl fun j q' e => ?_⟩)
              · refine (al k v' q' e1 e2).1.same fun b o e => ?_
                obtain ⟨zb, e⟩ := hide_some e
                obtain ⟨u1, u2⟩ := nw_some e
                exact nw_of u1 (sx2 _ _ u2)
              · have hj : j < vs.length := by have := (List.getElem?_eq_some_iff.mp e).1; omega
                exact (al j _ q' (List.getElem?_eq_getElem hj) e).2
        · refine ⟨_, rfl, t, _, _, _, rfl, rfl, SqT.of ht, rfl, rfl, _, rfl, iteT ?_⟩
          refine ⟨_, rfl, t, _, _, _, rfl, rfl, SqT.of ht, rfl, szr, fun t1 n1 => ⟨szr, fun t2 n2 => ?_⟩⟩
          have n12 : t1 ≠ t2 := fun z => by rw [← z, upd_same] at n2; cases n2
          have nsl : H sl = none := (s1.trans s2).free (nwt.2 _ _ ht)
          have sx2 := (Same.new (o := .tup [.str "short", .ref sl]) n1).to (o := .tup [.str "none", .ref t1]) n2
          exact q t2 _ (s03.trans sx2) (.inr ⟨.ref t1, .short qs, upd_same, .short (nw_of (s03.free n1) (by rw [upd_ne n12]; exact upd_same)) (nw_of nsl (sx2 _ _ hsl)), .short sh⟩)
  exact all 7
noncomputable def sp_plan (K : PySem.W.Frag) : Sp := fun vs H Q _ => ∃ (ma ta : Addr) (rs : List Addr) (may : List (List Int)) (U : List Int) (ts : List (Addr × Addr × Str × Int × List Nat)), vs = [.ref ma, .ref ta] ∧ May K H ma rs may U ∧ Ties K H ta ts 100 ∧ (∀ x ∈ ts, TieG may.length x) ∧ ∀ t H', Same H H' → PTold H H' t may (ts.map tieOf) [] → Q (.ref t) H'
theorem sc_plan : FnScope ["may", "ties"] ["may", "ties"] (defScope s_plan) := ⟨rfl, rfl, rfl, by decide +kernel, rfl, by decide +kernel, by decide +kernel⟩
theorem ok_plan (D : Dfs K mg aF dF) (T : Txt mg) : FnOk P w K mg base CX0 38 (aF 13) (dF 13) ["may", "ties"] (sp_plan K) := by
  have Gplan_from : FnOk P w K mg base CX0 37 (aF 14) (dF 14) ["pattern", "may", "ties"] (sp_plan_from K) := ok_plan_from D T
  refine D.plan.fn.ok sc_plan (fun vs H Q E h => ?_) (fun cdv A outer s H vs Q E hr h => ?_)
  · obtain ⟨ma, ta, rs, may, U, ts, rfl, _⟩ := h; rfl
  · have hu := hu_of hr
    obtain ⟨ma, ta, rs, may, U, ts, rfl, hm, tt, tg, q⟩ := h
    refine ⟨_, (pss_one (ps_ret (pc D.plan_from Gplan_from (hr.mono (by decide)) (pa_cons (pe_lst pa_nil) (pa_cons (pv 0) (pa_cons (pv 1) pa_nil)))))), ?_⟩
    have m6 := hm.m6
    refine ⟨szr, fun pa npa => ?_⟩
    have s1 := Same.new (o := .lst []) npa
    refine ⟨_, rfl, _, rfl, pa, ma, ta, [], rs, may, U, ts, rfl, upd_same, hm.same s1, ⟨s1.seq tt.ls, fun x hx => (tt.ea x hx).same s1, tt.ln⟩, tg, canon_nil, Nat.zero_le _, by simp; omega, fun t H' s td => ?_⟩
    refine q t H' (s1.trans s) ?_
    rcases td with ⟨l, hs, a1, a2, a3, a4⟩ | ⟨v, qq, a1, a2, a3⟩
    · exact .inl ⟨l, hs, a1, a2, s1.free a3, a4⟩
    · exact .inr ⟨v, qq, a1, a2.same (nw_to (fun a e => s1.free e) fun a o _ e => e), a3⟩
noncomputable def sp_held_step (K : PySem.W.Frag) : Sp := fun vs H Q _ => ∃ (r : Addr) (p : List Int) (h : Option Int), vs = [.ref r, hV h] ∧ SqL K H r (p.map V.int) ∧ ∀ l H', Same H H' → H l = none → H' l = some (.lst ((heldP p h).map V.int)) → Q (.ref l) H'
theorem sc_held_step : FnScope ["badges", "hand"] ["badges", "hand"] (defScope s_held_step) := ⟨rfl, rfl, rfl, by decide +kernel, rfl, by decide +kernel, by decide +kernel⟩
theorem ok_held_step (D : Dfs K mg aF dF) (T : Txt mg) : FnOk P w K mg base CX0 1 (aF 16) (dF 16) ["badges", "hand"] (sp_held_step K) := by
  refine D.held_step.fn.ok sc_held_step (fun vs H Q E h => ?_) (fun cdv A outer s H vs Q E hr h => ?_)
  · obtain ⟨r, p, h, rfl, _⟩ := h; rfl
  · have hu := hu_of hr
    obtain ⟨r, p, h, rfl, hr, q⟩ := h
    refine ⟨_, (pss_cons (ps_if (pt_cmpR op_isN (pv 1) pe_non (nomark _))
        (pss_one (ps_ret (pe_callTy (cList K) (by rfl) T.z_list boot_list (pa_cons (pv 0) pa_nil))))
        pss_nil)
      (pss_one (ps_ret (pe_lst (pa_cons (pv 1) pa_nil))))), ?_⟩
    refine ⟨_, rfl, rfl, _, rfl, ?_⟩
    rw [dec_hV]
    cases h with
    | none => exact iteT ⟨_, rfl, r, _, rfl, .inl hr, fun l nl => q l _ (Same.new nl) nl upd_same⟩
    | some b => exact iteF ⟨_, rfl, szr, fun l nl => q l _ (Same.new nl) nl upd_same⟩
noncomputable def sp_held (K : PySem.W.Frag) : Sp := fun vs H Q _ => ∃ (ma da : Addr) (rs : List Addr) (may : List (List Int)) (dn : List (Option Int)), vs = [.ref ma, .ref da] ∧ SqL K H ma (rs.map V.ref) ∧ PoolsL K H rs may ∧ SqL K H da (dn.map hV) ∧ dn.length = may.length ∧ may.length ≤ 6 ∧
  ∀ l (ls : List Addr) H', Same H H' → H l = none → H' l = some (.lst (ls.map V.ref)) → RowsL H' ls (heldM may dn) → (∀ r ∈ ls, H r = none) → Q (.ref l) H'
theorem sc_held : FnScope ["may", "done"] ["may", "done"] (defScope s_held) := ⟨rfl, rfl, rfl, by decide +kernel, rfl, by decide +kernel, by decide +kernel⟩
theorem ok_held (D : Dfs K mg aF dF) (T : Txt mg) : FnOk P w K mg base CX0 2 (aF 15) (dF 15) ["may", "done"] (sp_held K) := by
  have Gheld_step : FnOk P w K mg base CX0 1 (aF 16) (dF 16) ["badges", "hand"] (sp_held_step K) := ok_held_step D T
  refine D.held.fn.ok sc_held (fun vs H Q E h => ?_) (fun cdv A outer s H vs Q E hr h => ?_)
  · obtain ⟨ma, da, rs, may, dn, rfl, _⟩ := h; rfl
  · have hu := hu_of hr
    obtain ⟨ma, da, rs, may, dn, rfl, hm, po, hd, hl, m6, q⟩ := h
    refine ⟨_, (pss_one (ps_ret (pe_lcomp ["badges", "hand"] [none, none] rfl (pi_zip K rfl T.z_zip (pa_cons (pv 0) (pa_cons (pv 1) pa_nil))) (fun _ => pgT K (n := 2) rfl (pgs_cons (pg_name (i := 0) (nodupN (N := ["badges", "hand"]) (by decide +kernel)) rfl (Or.inl rfl)) (pgs_cons (pg_name (i := 1) (nodupN (N := ["badges", "hand"]) (by decide +kernel)) rfl (Or.inl rfl)) pgs_nil))) (fun _ => pif_nil) (fun _ => (pc D.held_step Gheld_step (hr.mono (by decide)) (pa_cons (pv 0) (pa_cons (pv 1) pa_nil)))) ((.cons (fun _ e => by cases e) (.cons (fun _ e => by cases e) .nil)))))), ?_⟩
    have rl : rs.length = may.length := po.len
    refine ⟨_, rfl, _, rfl, ma, da, _, _, rfl, hm, hd, ?_⟩
    refine comp_zipL (xs := rs.map V.ref) (ys := dn.map hV) (fun i => heldP (may.getD i []) (dn.getD i none)) (by rw [List.length_map, List.length_map]; omega) hm hd (by rw [List.length_map]; omega) (fun i x y H2 R hx hy s2 k => ?_) fun acc ls H2 s2 nacc hacc hR hn => ?_
    · rw [List.getElem?_map] at hx
      obtain ⟨r, hr, rfl⟩ := Option.map_eq_some_iff.mp hx
      have hi : i < may.length := by rw [← rl]; exact (List.getElem?_eq_some_iff.mp hr).1
      obtain ⟨r', e1, e2⟩ := (po.same s2).at (List.getElem?_eq_getElem hi)
      rw [hr] at e1
      cases e1
      have e := at_hV hy
      subst e
      rw [← getD_getL hi] at e2
      exact ⟨_, rfl, _, rfl, r, _, _, rfl, e2, fun l H3 s3 nl hl3 => k l H3 s3 nl hl3⟩
    · rw [List.length_map, rl] at hR
      exact q acc ls H2 s2 nacc hacc hR hn
noncomputable def sp_has_all_behind (K : PySem.W.Frag) : Sp := fun vs H Q _ => ∃ (f o d : Addr) (ns : List Int) (es : Ord) (dn : List (Option Int)), vs = [.ref f, .ref o, .ref d] ∧ SqL K H f (ns.map V.int) ∧ RowAt H o es ∧ es.length ≤ 100 ∧ (∀ x ∈ es, 0 ≤ x.2 ∧ x.2 < (dn.length : Int)) ∧ SqL K H d (dn.map hV) ∧ ∀ H', Same H H' → Q (.bl (bhB es dn ns)) H'
theorem sc_has_all_behind : FnScope ["some", "order", "done", "behind_some"] ["some", "order", "done"] (defScope s_has_all_behind) := ⟨rfl, rfl, rfl, by decide +kernel, rfl, by decide +kernel, by decide +kernel⟩
theorem ok_has_all_behind (D : Dfs K mg aF dF) (T : Txt mg) : FnOk P w K mg base CX0 1 (aF 18) (dF 18) ["some", "order", "done"] (sp_has_all_behind K) := by
  refine D.has_all_behind.fn.ok sc_has_all_behind (fun vs H Q E h => ?_) (fun cdv A outer s H vs Q E hr h => ?_)
  · obtain ⟨f, o, d, ns, es, dn, rfl, _⟩ := h; rfl
  · have hu := hu_of hr
    obtain ⟨f, o, d, ns, es, dn, rfl, hf, ho, e1, ok, hd, q⟩ := h
    refine ⟨_, (pss_cons (ps_setC (i₀ := 3) sc_has_all_behind.nd rfl (Or.inl rfl) ["ahead", "behind", "some"] [none, none, some 0] rfl (piL K (pv 1)) (fun _ => pgT K (n := 2) rfl (pgs_cons (pg_name (i := 0) (nodupN (N := ["ahead", "behind", "some"]) (by decide +kernel)) rfl (Or.inl rfl)) (pgs_cons (pg_name (i := 1) (nodupN (N := ["ahead", "behind", "some"]) (by decide +kernel)) rfl (Or.inl rfl)) pgs_nil))) (fun _ => pif_one (pt_cmpR (inS K) (pv 0) (pv 2) (by with_unfolding_all rfl))) (fun _ => (pv 1)) ((.cons (fun _ e => by cases e) (.cons (fun _ e => by cases e) (.cons (fun _ e => by cases e; exact ⟨rfl, rfl⟩) .nil)))))
      (pss_one (ps_ret (pe_callB (cAll K) (by rfl) T.z_all boot_all (pa_cons (pe_lcomp ["step", "some", "done"] [none, some 0, some 2] rfl (piL K (pv 3)) (fun _ => pg_name (i := 0) (nodupN (N := ["step", "some", "done"]) (by decide +kernel)) rfl (Or.inl rfl)) (fun _ => pif_nil) (fun _ => (pe_or (pe_cmpR (inS K) (pv 0) (pv 1) (by with_unfolding_all rfl)) (pe_one (pe_cmpR op_isN (pe_ix (ixL K) (pv 2) (pv 0) (fun _ _ => rfl)) pe_non (nomark _))))) ((.cons (fun _ e => by cases e) (.cons (fun _ e => by cases e; exact ⟨rfl, rfl⟩) (.cons (fun _ e => by cases e; exact ⟨rfl, rfl⟩) .nil))))) pa_nil))))), ?_⟩
    refine ⟨_, rfl, o, rfl, ⟨_, SqL.of ho.choose_spec.1⟩, ?_⟩
    refine comp_pairsF (fun x => decide (x.1 ∈ ns)) (fun x => V.int x.2) ho (by omega) (fun i x hx H2 R s2 k => ?_) (fun i x hx H2 R s2 k => ⟨_, rfl, k H2 (Same.refl _)⟩) fun b H1 s1 nb hb => ?_
    · refine ⟨_, rfl, _, rfl, f, _, rfl, .inl (s2.seq hf), rfl, flat_all _, ?_⟩
      rw [if_neg Bool.false_ne_true, inV_int]
      exact ⟨_, rfl, k H2 (Same.refl _)⟩
    have hb : H1 b = some (.lst (((es.filter fun x => decide (x.1 ∈ ns)).map (·.2)).map V.int)) := by rw [hb, List.map_map]; rfl
    have bl : ((es.filter fun x => decide (x.1 ∈ ns)).map (·.2)).length ≤ 100 := by rw [List.length_map]; exact Nat.le_trans (List.length_filter_le _ _) e1
    have bm : ∀ s ∈ (es.filter fun x => decide (x.1 ∈ ns)).map (·.2), 0 ≤ s ∧ s < (dn.length : Int) := fun s hs => by
      obtain ⟨x, hx, rfl⟩ := List.mem_map.mp hs
      exact ok x (List.mem_filter.mp hx).1
    have qq : ∀ H', Same H H' → Q (.bl (((es.filter fun x => decide (x.1 ∈ ns)).map (·.2)).all fun s => decide (s ∈ ns) || (dn.getD s.toNat none).isNone)) H' := q
    generalize (es.filter fun x => decide (x.1 ∈ ns)).map (·.2) = L at hb bl bm qq
    refine ⟨_, rfl, b, rfl, ⟨_, SqL.of hb⟩, ?_⟩
    refine comp_list2 (xs := L.map V.int) (fun _ => true) (fun i => .bl (decide (L.getD i 0 ∈ ns) || (dn.getD (L.getD i 0).toNat none).isNone)) (SqL.of hb) (by rw [List.length_map]; omega) (fun _ _ _ _ _ _ k => k _ (Same.refl _)) (fun j x hx _ H2 R s2 kk => ?_) fun nw H2 s2 nnw hnw => ?_
    · rw [List.getElem?_map] at hx
      obtain ⟨s, hs, rfl⟩ := Option.map_eq_some_iff.mp hx
      obtain ⟨b0, b1⟩ := bm s (List.mem_of_getElem? hs)
      have z : R (.bl (decide (L.getD j 0 ∈ ns) || (dn.getD (L.getD j 0).toNat none).isNone)) H2 := kk H2 (Same.refl _)
      rw [atD hs] at z
      refine ⟨_, rfl, _, rfl, f, _, rfl, .inl ((s1.trans s2).seq hf), rfl, flat_all _, ?_⟩
      rw [if_neg Bool.false_ne_true, inV_int]
      refine ⟨_, rfl, ifD (fun m => ?_) fun m => ?_⟩
      · rw [decide_eq_true m, Bool.true_or] at z
        exact z
      · rw [decide_eq_false m, Bool.false_or] at z
        have e3 : s = ((s.toNat : Nat) : Int) := by omega
        have hat : atI (dn.map hV) s = some (hV (dn.getD s.toNat none)) := by
          conv => lhs; rw [e3]
          exact atI_hV (by omega)
        refine ⟨_, rfl, _, rfl, d, _, _, _, rfl, rfl, (s1.trans s2).seq hd, hat, ?_⟩
        have := dec_hV (h := dn.getD s.toNat none)
        rw [← this] at z
        exact ⟨rfl, z⟩
    · rw [List.length_map, map_atI L (fun a => V.bl (decide (a ∈ ns) || (dn.getD a.toNat none).isNone))] at hnw
      refine ⟨nw, L.map fun a => decide (a ∈ ns) || (dn.getD a.toNat none).isNone, rfl, SqL.of (by rw [hnw, List.map_map]; rfl), ?_⟩
      rw [List.all_map]
      exact qq H2 (s1.trans s2)
noncomputable def sp_strikes (K : PySem.W.Frag) : Sp := fun vs H Q _ => ∃ (o d : Addr) (es : Ord) (dn : List (Option Int)), vs = [.ref o, .ref d] ∧ RowAt H o es ∧ es.length ≤ 100 ∧ (∀ x ∈ es, 0 ≤ x.2 ∧ x.2 < (dn.length : Int)) ∧ SqL K H d (dn.map hV) ∧ dn.length ≤ 5 ∧ ∀ (l r0 : Addr) (rest : List V) (H' : Hp), Same H H' → H l = none → H' l = some (.lst (.ref r0 :: rest)) → H' r0 = some (.lst []) → rest.length ≤ 100 → Q (.ref l) H'
theorem sc_strikes : FnScope ["order", "done", "steps"] ["order", "done"] (defScope s_strikes) := ⟨rfl, rfl, rfl, by decide +kernel, rfl, by decide +kernel, by decide +kernel⟩
theorem ok_strikes (D : Dfs K mg aF dF) (T : Txt mg) : FnOk P w K mg base CX0 2 (aF 17) (dF 17) ["order", "done"] (sp_strikes K) := by
  have Gchoices : FnOk P w K mg base CX0 1 (aF 1) (dF 1) ["numbers"] (sp_choices K) := ok_choices D T
  have Ghas_all_behind : FnOk P w K mg base CX0 1 (aF 18) (dF 18) ["some", "order", "done"] (sp_has_all_behind K) := ok_has_all_behind D T
  refine D.strikes.fn.ok sc_strikes (fun vs H Q E h => ?_) (fun cdv A outer s H vs Q E hr h => ?_)
  · obtain ⟨o, d, es, dn, rfl, _⟩ := h; rfl
  · have hu := hu_of hr
    obtain ⟨o, d, es, dn, rfl, ho, e1, ok, hd, d5, q⟩ := h
    refine ⟨_, (pss_cons (ps_setC (i₀ := 2) sc_strikes.nd rfl (Or.inl rfl) ["step", "done"] [none, some 1] rfl (pi_range1 rfl T.z_range (pa_cons (pe_callB (cLen K) (by rfl) T.z_len boot_len (pa_cons (pv 1) pa_nil)) pa_nil)) (fun _ => pg_name (i := 0) (nodupN (N := ["step", "done"]) (by decide +kernel)) rfl (Or.inl rfl)) (fun _ => pif_one (pt_cmpR op_notN (pe_ix (ixL K) (pv 1) (pv 0) (fun _ _ => rfl)) pe_non (nomark _))) (fun _ => (pv 0)) ((.cons (fun _ e => by cases e) (.cons (fun _ e => by cases e; exact ⟨rfl, rfl⟩) .nil))))
      (pss_one (ps_ret (pe_lcomp ["some", "order", "done"] [none, some 0, some 1] rfl (piL K (pc D.choices Gchoices (hr.mono (by decide)) (pa_cons (pv 2) pa_nil))) (fun _ => pg_name (i := 0) (nodupN (N := ["some", "order", "done"]) (by decide +kernel)) rfl (Or.inl rfl)) (fun _ => pif_one (pt_val (pc D.has_all_behind Ghas_all_behind (hr.mono (by decide)) (pa_cons (pv 0) (pa_cons (pv 1) (pa_cons (pv 2) pa_nil)))))) (fun _ => (pv 0)) ((.cons (fun _ e => by cases e) (.cons (fun _ e => by cases e; exact ⟨rfl, rfl⟩) (.cons (fun _ e => by cases e; exact ⟨rfl, rfl⟩) .nil)))))))), ?_⟩
    refine ⟨_, rfl, _, _, rfl, .inl ⟨_, hd, rfl⟩, _, rfl, lo62 _, by rw [List.length_map]; omega, ?_⟩
    have e0 : (((dn.map hV).length : Nat) : Int).toNat = dn.length := by rw [List.length_map]; omega
    rw [e0]
    refine comp_some (n := dn.length) (fun (i : Nat) => (dn.getD i none).isSome) (by omega) (fun i hi H2 R s2 k => ?_) (fun i hi H2 R k => ?_) fun acc H1 s1 na ha => ?_
    · have ei : (0 : Int) + (i : Int) = ((i : Nat) : Int) := by omega
      rw [ei]
      refine ⟨_, rfl, _, rfl, d, _, _, _, rfl, rfl, s2.seq hd, atI_hV hi, rfl, ?_⟩
      have e : (!decide (hV (dn.getD i none) = V.non)) = (dn.getD i none).isSome := by rw [dec_hV]; cases dn.getD i none <;> rfl
      rw [e]
      exact ⟨_, rfl, k H2 (Same.refl _)⟩
    · have ei : (0 : Int) + (i : Int) = ((i : Nat) : Int) := by omega
      rw [ei]
      exact ⟨_, rfl, k⟩
    have ha : H1 acc = some (.lst ((dnS dn).map V.int)) := by rw [ha]; unfold dnS; rw [List.map_map]; rfl
    have dl := dnS_len dn
    refine ⟨_, rfl, acc, dnS dn, rfl, SqL.of ha, dnS_up dn, by omega, fun l r0 rest H2 s2 nl hl hr0 rl got => ?_⟩
    refine ⟨l, rfl, ⟨_, SqL.of hl⟩, ?_⟩
    have s02 := s1.trans s2
    have cont : ∀ i (r : Addr), (r0 :: rest)[i]? = some r → ∃ ns : List Int, H2 r = some (.lst (ns.map V.int)) := fun i r hr => got r (List.mem_of_getElem? hr)
    refine comp_list2 (xs := (r0 :: rest).map V.ref) (fun i => bhB es dn (intsV (contV H2 ((r0 :: rest).getD i 0)))) (fun i => V.ref ((r0 :: rest).getD i 0)) (SqL.of hl) (by rw [List.length_map, List.length_cons]; omega) (fun i x hx H3 R s3 kk => ?_) (fun i x hx _ H3 R s3 kk => ?_) fun nw H3 s3 nnw hnw => ?_
    · rw [List.getElem?_map] at hx
      obtain ⟨r, hr, rfl⟩ := Option.map_eq_some_iff.mp hx
      obtain ⟨ns, e⟩ := cont i r hr
      have z : ∀ H4, Same H3 H4 → R (bhB es dn (intsV (contV H2 ((r0 :: rest).getD i 0)))) H4 := kk
      rw [atD hr, contV_of e, intsV_map] at z
      exact ⟨_, rfl, _, rfl, _, rfl, r, o, d, ns, es, dn, rfl, SqL.of (s3 _ _ e), ho.same (s02.trans s3), e1, ok, (s02.trans s3).seq hd, fun H4 s4 => ⟨_, rfl, z H4 s4⟩⟩
    · rw [List.getElem?_map] at hx
      obtain ⟨r, hr, rfl⟩ := Option.map_eq_some_iff.mp hx
      have z : R (V.ref ((r0 :: rest).getD i 0)) H3 := kk H3 (Same.refl _)
      rw [atD hr] at z
      exact ⟨_, rfl, z⟩
    · have p0 : bhB es dn (intsV (contV H2 ((r0 :: rest).getD 0 0))) = true := by
        show bhB es dn (intsV (contV H2 r0)) = true
        rw [contV_of hr0]
        exact bhB_nil es dn
      rw [List.length_map, List.length_cons, filter_hd p0, List.map_cons] at hnw
      refine q nw r0 _ H3 (s02.trans s3) (s02.free nnw) hnw (s3 _ _ hr0) ?_
      rw [List.length_map]
      have z := List.length_filter_le (fun i => bhB es dn (intsV (contV H2 ((r0 :: rest).getD i 0)))) ((List.range rest.length).map Nat.succ)
      rw [List.length_map, List.length_range] at z
      omega
noncomputable def sp_struck (K : PySem.W.Frag) : Sp := fun vs H Q _ => ∃ (d t : Addr) (dn : List (Option Int)), vs = [.ref d, .ref t] ∧ SqL K H d (dn.map hV) ∧ SqL K H t [] ∧ dn.length ≤ 6 ∧ ∀ l H', Same H H' → H l = none → H' l = some (.lst (dn.map hV)) → Q (.ref l) H'
theorem sc_struck : FnScope ["done", "steps"] ["done", "steps"] (defScope s_struck) := ⟨rfl, rfl, rfl, by decide +kernel, rfl, by decide +kernel, by decide +kernel⟩
theorem ok_struck (D : Dfs K mg aF dF) (T : Txt mg) : FnOk P w K mg base CX0 1 (aF 19) (dF 19) ["done", "steps"] (sp_struck K) := by
  refine D.struck.fn.ok sc_struck (fun vs H Q E h => ?_) (fun cdv A outer s H vs Q E hr h => ?_)
  · obtain ⟨d, t, dn, rfl, _⟩ := h; rfl
  · have hu := hu_of hr
    obtain ⟨d, t, dn, rfl, hd, ht, d6, q⟩ := h
    refine ⟨_, (pss_one (ps_ret (pe_lcomp ["step", "steps", "done"] [none, some 1, some 0] rfl (pi_range1 rfl T.z_range (pa_cons (pe_callB (cLen K) (by rfl) T.z_len boot_len (pa_cons (pv 0) pa_nil)) pa_nil)) (fun _ => pg_name (i := 0) (nodupN (N := ["step", "steps", "done"]) (by decide +kernel)) rfl (Or.inl rfl)) (fun _ => pif_nil) (fun _ => (pe_ifExp (pt_cmpR (inS K) (pv 0) (pv 1) (by with_unfolding_all rfl)) pe_non (pe_ix (ixL K) (pv 2) (pv 0) (fun _ _ => rfl)))) ((.cons (fun _ e => by cases e) (.cons (fun _ e => by cases e; exact ⟨rfl, rfl⟩) (.cons (fun _ e => by cases e; exact ⟨rfl, rfl⟩) .nil))))))), ?_⟩
    refine ⟨_, rfl, _, _, rfl, .inl ⟨_, hd, rfl⟩, _, rfl, lo62 _, by rw [List.length_map]; omega, ?_⟩
    have e0 : (((dn.map hV).length : Nat) : Int).toNat = dn.length := by rw [List.length_map]; omega
    rw [e0]
    refine comp_range (n := dn.length) (fun i => hV (dn.getD i none)) (by omega) (fun i hi H2 R s2 k => ?_) fun acc H2 s2 na ha => q acc H2 s2 na (by rw [ha, range_id])
    have ei : (0 : Int) + (i : Int) = ((i : Nat) : Int) := by omega
    rw [ei]
    refine ⟨_, rfl, _, rfl, t, _, rfl, .inl (s2.seq ht), rfl, rfl, ?_⟩
    rw [if_neg Bool.false_ne_true]
    refine ⟨_, rfl, iteF ?_⟩
    exact ⟨_, rfl, _, rfl, d, _, _, _, rfl, rfl, s2.seq hd, atI_hV hi, k H2 (Same.refl _)⟩
noncomputable def sp_mend (K : PySem.W.Frag) : Sp := fun vs H Q _ => ∃ (ma ta o d : Addr) (rs : List Addr) (may : List (List Int)) (U : List Int) (ts : List (Addr × Addr × Str × Int × List Nat)) (es : Ord) (dn : List (Option Int)) (hs : List Int), vs = [.ref ma, .ref ta, .ref o, .ref d] ∧ May K H ma rs may U ∧ Ties K H ta ts 100 ∧ (∀ x ∈ ts, TieG may.length x) ∧ RowAt H o es ∧ es.length ≤ 100 ∧ (∀ x ∈ es, 0 ≤ x.2 ∧ x.2 < (dn.length : Int)) ∧ SqL K H d (dn.map hV) ∧ dn.length = may.length ∧ may.length ≤ 5 ∧ (∀ b, some b ∈ dn → b ∈ U) ∧ IsPlan (heldM may dn) (ts.map tieOf) hs ∧
  ∀ (t r0 lp pl : Addr) (hs2 : List Int) (H' : Hp), Same H H' → H' t = some (.tup [.str "mend", .ref r0, .ref lp, .ref pl]) → H' r0 = some (.lst []) → H' lp = some (.lst (hs2.map V.int)) → IsPlan (heldM may dn) (ts.map tieOf) hs2 → H' pl = some (.lst []) → Q (.ref t) H'
theorem sc_mend : FnScope ["may", "ties", "order", "done", "papers", "some", "told"] ["may", "ties", "order", "done"] (defScope s_mend) := ⟨rfl, rfl, rfl, by decide +kernel, rfl, by decide +kernel, by decide +kernel⟩
theorem ok_mend (D : Dfs K mg aF dF) (T : Txt mg) : FnOk P w K mg base CX0 39 (aF 20) (dF 20) ["may", "ties", "order", "done"] (sp_mend K) := by
  have Gplan : FnOk P w K mg base CX0 38 (aF 13) (dF 13) ["may", "ties"] (sp_plan K) := ok_plan D T
  have Gheld : FnOk P w K mg base CX0 2 (aF 15) (dF 15) ["may", "done"] (sp_held K) := ok_held D T
  have Gstrikes : FnOk P w K mg base CX0 2 (aF 17) (dF 17) ["order", "done"] (sp_strikes K) := ok_strikes D T
  have Gstruck : FnOk P w K mg base CX0 1 (aF 19) (dF 19) ["done", "steps"] (sp_struck K) := ok_struck D T
  refine D.mend.fn.ok sc_mend (fun vs H Q E h => ?_) (fun cdv A outer s H vs Q E hr h => ?_)
  · obtain ⟨ma, ta, o, d, rs, may, U, ts, es, dn, hs, rfl, _⟩ := h; rfl
  · have hu := hu_of hr
    obtain ⟨ma, ta, o, d, rs, may, U, ts, es, dn, hs, rfl, hm, tt, tg, ho, e1, ok, hd, dl, m5, du, ip, q⟩ := h
    refine ⟨_, (pss_cons (ps_set (i := 4) sc_mend.nd rfl (Or.inl rfl) (pe_lst pa_nil))
      (pss_cons (ps_for PassesOwn.never rfl (piL K (pc D.strikes Gstrikes (hr.mono (by decide)) (pa_cons (pv 2) (pa_cons (pv 3) pa_nil)))) (pg_name (i := 5) sc_mend.nd rfl (Or.inr rfl))
        (pss_cons (ps_set (i := 6) sc_mend.nd rfl (Or.inl rfl) (pc D.plan Gplan (hr.mono (by decide)) (pa_cons (pc D.held Gheld (hr.mono (by decide)) (pa_cons (pv 0) (pa_cons (pc D.struck Gstruck (hr.mono (by decide)) (pa_cons (pv 3) (pa_cons (pv 5) pa_nil))) pa_nil))) (pa_cons (pv 1) pa_nil))))
        (pss_cons (ps_if (pt_cmpR op_eq (pe_ix (ixT K) (pv 6) pe_int (fun _ _ => rfl)) pe_str (nomark _))
          (pss_one (ps_ret (pe_tup (pa_cons pe_str (pa_cons (pv 5) (pa_cons (pe_ix (ixT K) (pv 6) pe_int (fun _ _ => rfl)) (pa_cons (pe_lcomp ["pair", "some"] [none, some 5] rfl (piL K (pv 4)) (fun _ => pg_name (i := 0) (nodupN (N := ["pair", "some"]) (by decide +kernel)) rfl (Or.inl rfl)) (fun _ => pif_one (pt_cmpR op_lt (pe_callB (cLen K) (by rfl) T.z_len boot_len (pa_cons (pe_ix (ixT K) (pv 0) pe_int (fun _ _ => rfl)) pa_nil)) (pe_callB (cLen K) (by rfl) T.z_len boot_len (pa_cons (pv 1) pa_nil)) (nomark _))) (fun _ => (pv 0)) ((.cons (fun _ e => by cases e) (.cons (fun _ e => by cases e; exact ⟨rfl, rfl⟩) .nil)))) pa_nil)))))))
          pss_nil)
        (pss_one (ps_expr (pe_bm PySem.F.plainAttrs_list PySem.F.slot_list_append PySem.F.type_list_append mt_append (pv 4) (pa_cons (pe_tup (pa_cons (pv 5) (pa_cons (pe_ix (ixT K) (pv 6) pe_int (fun _ _ => rfl)) pa_nil))) pa_nil)))))))
      (pss_one (ps_ret (pe_tup (pa_cons pe_str (pa_cons (pv 4) pa_nil))))))), ?_⟩
    refine ⟨szr, fun pp npp => ?_⟩
    have s1 := Same.new (o := .lst []) npp
    have hpp : upd H pp (.lst []) pp = some (.lst []) := upd_same
    generalize upd H pp (.lst []) = H1 at s1 hpp
    refine ⟨_, rfl, _, rfl, o, d, es, dn, rfl, ho.same s1, e1, ok, s1.seq hd, by omega, fun l r0 rest H2 s2 nl hl hr0 rl => ?_⟩
    have s02 := s1.trans s2
    refine ⟨l, rfl, ⟨_, SqL.of hl⟩, ?_⟩
    refine for_list (K := K) (a := l) (xs := .ref r0 :: rest) (fun i σ Hx => i = 0 ∧ Hx = H2 ∧ σ = [some (.ref ma), some (.ref ta), some (.ref o), some (.ref d), some (.ref pp), none, none]) ⟨rfl, rfl, rfl⟩ (fun i σ Hx _ hq__ => by obtain ⟨_, e, _⟩ := hq__; exact by rw [e]; exact SqL.of hl) ?_ ?_
    · rintro i v σ Hx hi ⟨rfl, rfl, rfl⟩
      cases hi
      refine ⟨_, rfl, _, rfl, _, rfl, d, r0, dn, rfl, s02.seq hd, SqL.of hr0, by omega, fun sd H3 s3 nsd hsd => ?_⟩
      have s03 := s02.trans s3
      have hm3 := hm.same s03
      refine ⟨ma, sd, rs, may, dn, rfl, hm3.ls, hm3.po, SqL.of hsd, dl, by omega, fun hl' hls H4 s4 nhl hhl hR hfr => ?_⟩
      have s04 := s03.trans s4
      have hml : (heldM may dn).length = may.length := heldM_len
      refine ⟨_, rfl, hl', ta, hls, heldM may dn, U, ts, rfl, ⟨SqL.of hhl, hR.pools, heldM_up hm.up, heldM_sub hm.sub du, by omega, hm.u20⟩, ⟨s04.seq tt.ls, fun x hx => (tt.ea x hx).same s04, tt.ln⟩, (fun x hx => by rw [hml]; exact tg x hx), fun t H5 s5 td => ?_⟩
      obtain ⟨lp, hs2, ht, hlp, _, ip2⟩ := td.plan ip
      have s25 := (s3.trans s4).trans s5
      have s05 := s02.trans s25
      refine ⟨_, rfl, t, _, _, _, rfl, rfl, SqT.of ht, rfl, rfl, _, rfl, iteT ?_⟩
      refine ⟨_, rfl, _, rfl, t, _, _, _, rfl, rfl, SqT.of ht, rfl, ?_⟩
      have hpp5 := (s2.trans s25) _ _ hpp
      refine ⟨_, rfl, pp, rfl, ⟨_, SqL.of hpp5⟩, ?_⟩
      refine comp_list2 (xs := []) (fun _ => true) (fun _ => V.non) (SqL.of hpp5) (by decide) (fun i x hx => by cases hx) (fun i x hx => by cases hx) fun pl H6 s6 npl hpl => ?_
      refine ⟨szr, fun tt' ntt => ?_⟩
      have s7 := Same.new (o := .tup [.str "mend", .ref r0, .ref lp, .ref pl]) ntt
      have s57 := s6.trans s7
      exact q tt' r0 lp pl hs2 _ (s05.trans s57) upd_same ((s25.trans s57) _ _ hr0) (s57 _ _ hlp) ip2 (s7 _ _ hpl)
    · rintro σ Hx ⟨z, _⟩
      cases z
noncomputable def cv (ns : List Int) (k : Nat) : Int := if k < ns.length then ns.getD k 0 else if ns = [] then (k : Int) * k * 7919 + 13 * k else (ns.getD (k % ns.length) 0 + k * k * 7919 + 1) * 48271 % 2147483647
noncomputable def sp_law_cell (K : PySem.W.Frag) : Sp := fun vs H Q _ => ∃ (a : Addr) (ns : List Int) (k : Nat), vs = [.ref a, .int ((k : Nat) : Int)] ∧ SqL K H a (ns.map V.int) ∧ ns.length ≤ 200 ∧ k ≤ 1000 ∧ ∀ H', Same H H' → Q (.int (cv ns k)) H'
theorem sc_law_cell : FnScope ["script", "k"] ["script", "k"] (defScope s_law_cell) := ⟨rfl, rfl, rfl, by decide +kernel, rfl, by decide +kernel, by decide +kernel⟩
theorem ok_law_cell (D : Dfs K mg aF dF) (T : Txt mg) : FnOk P w K mg base CX0 1 (aF 21) (dF 21) ["script", "k"] (sp_law_cell K) := by
  refine D.law_cell.fn.ok sc_law_cell (fun vs H Q E h => ?_) (fun cdv A outer s H vs Q E hr h => ?_)
  · obtain ⟨a, ns, k, rfl, _⟩ := h; rfl
  · have hu := hu_of hr
    obtain ⟨a, ns, k, rfl, hS, hl, hk, q⟩ := h
    refine ⟨_, (pss_cons (ps_if (pt_cmpR op_lt (pv 1) (pe_callB (cLen K) (by rfl) T.z_len boot_len (pa_cons (pv 0) pa_nil)) (nomark _))
        (pss_one (ps_ret (pe_ix (ixL K) (pv 0) (pv 1) (fun _ _ => rfl))))
        pss_nil)
      (pss_cons (ps_if (pt_cmpR (eqD K hr.units) (pv 0) (pe_lst pa_nil) (nomark _))
        (pss_one (ps_ret (pe_op op_add (pe_op op_mul (pe_op op_mul (pv 1) (pv 1)) pe_int) (pe_op op_mul pe_int (pv 1)))))
        pss_nil)
      (pss_one (ps_ret (pe_op op_mod (pe_op op_mul (pe_op op_add (pe_op op_add (pe_ix (ixL K) (pv 0) (pe_op op_mod (pv 1) (pe_callB (cLen K) (by rfl) T.z_len boot_len (pa_cons (pv 0) pa_nil))) (fun _ _ => rfl)) (pe_op op_mul (pe_op op_mul (pv 1) (pv 1)) pe_int)) pe_int) pe_int) pe_int))))), ?_⟩
    refine ⟨_, rfl, _, rfl, _, _, rfl, .inl ⟨_, hS, rfl⟩, _, _, rfl, rfl, _, rfl, ifD (fun h => ?_) fun h => ?_⟩
    · rw [List.length_map] at h
      have h' : k < ns.length := by omega
      refine ⟨_, rfl, _, rfl, a, _, _, _, rfl, rfl, hS, atI_int h', ?_⟩
      have e : cv ns k = ns.getD k 0 := if_pos h'
      rw [← e]
      exact q H (Same.refl _)
    · rw [List.length_map] at h
      have h' : ¬ k < ns.length := by omega
      refine ⟨_, rfl, szr, fun p np => ⟨1, _, deq_nil ((Same.new np).seq hS) (SqL.of upd_same), by decide, rfl, _, rfl, ifB (fun h => ?_) fun h => ?_⟩⟩
      · have e0 : ns = [] := by
          cases ns with
          | nil => rfl
          | cons x r => cases h
        have e : cv ns k = (k : Int) * k * 7919 + 13 * k := by unfold cv; rw [if_neg h', if_pos e0]
        have q' := q _ (Same.new (o := .lst []) np)
        rw [e] at q'
        refine ⟨_, rfl, _, rfl, _, _, rfl, rfl, .inl ⟨by omega, by omega⟩, ?_⟩
        walk_at "go"
        exact q'
      · have e0 : ns ≠ [] := by rintro rfl; cases h
        have hpos : 0 < ns.length := List.length_pos_iff.mpr e0
        have e : cv ns k = (ns.getD (k % ns.length) 0 + k * k * 7919 + 1) * 48271 % 2147483647 := by unfold cv; rw [if_neg h', if_neg e0]
        have q' := q _ (Same.new (o := .lst []) np)
        rw [e] at q'
        have hlen : ((ns.map V.int).length : Int) = (ns.length : Int) := by rw [List.length_map]
        refine ⟨_, rfl, _, rfl, _, rfl, _, _, rfl, .inl ⟨_, (Same.new np).seq hS, rfl⟩, _, _, rfl, rfl, ?_, ?_⟩
        · show (0 : Int) < ((ns.map V.int).length : Int)
          rw [hlen]; omega
        · refine ⟨a, _, _, _, rfl, rfl, (Same.new np).seq hS, (?_ : atI (ns.map V.int) ((k : Int) % ((ns.map V.int).length : Int)) = some (.int (ns.getD (k % ns.length) 0))), ?_⟩
          · rw [hlen]
            have e1 : (k : Int) % (ns.length : Int) = ((k % ns.length : Nat) : Int) := by simp
            rw [e1]
            exact atI_int (Nat.mod_lt _ hpos)
          · refine ⟨_, rfl, _, rfl, _, _, rfl, rfl, .inl ⟨by omega, by omega⟩, ?_⟩
            walk_at "go"
            exact q'
noncomputable def sp_law_whole (K : PySem.W.Frag) : Sp := fun vs H Q _ => ∃ (i : Int), vs = [.int i] ∧ Q (.bl true) H
theorem sc_law_whole : FnScope ["found"] ["found"] (defScope s_law_whole) := ⟨rfl, rfl, rfl, by decide +kernel, rfl, by decide +kernel, by decide +kernel⟩
theorem ok_law_whole (D : Dfs K mg aF dF) (T : Txt mg) : FnOk P w K mg base CX0 1 (aF 22) (dF 22) ["found"] (sp_law_whole K) := by
  refine D.law_whole.fn.ok sc_law_whole (fun vs H Q E h => ?_) (fun cdv A outer s H vs Q E hr h => ?_)
  · obtain ⟨i, rfl, _⟩ := h; rfl
  · have hu := hu_of hr
    obtain ⟨i, rfl, q⟩ := h
    refine ⟨_, (pss_one (ps_ret (pe_and (pe_callB (cIsi K) (by rfl) T.z_isinstance boot_isinstance (pa_cons (pv 0) (pa_cons (ty_int T.z_int) pa_nil))) (pe_one (pe_not (pe_callB (cIsi K) (by rfl) T.z_isinstance boot_isinstance (pa_cons (pv 0) (pa_cons (ty_bool T.z_bool) pa_nil)))))))), ?_⟩
    exact ⟨_, rfl, _, _, _, true, rfl, .int _, rfl, _, rfl, iteT ⟨_, rfl, _, _, _, false, rfl, .int _, rfl, _, rfl, q⟩⟩
noncomputable def sp_law_row (K : PySem.W.Frag) : Sp := fun vs H Q _ => ∃ (cn : Nat) (c : Int), vs = [.int (cn : Int), .int c] ∧ cn ≤ 6 ∧ ∀ (l : Addr) (r : List Int) (H' : Hp), Same H H' → H l = none → H' l = some (.lst (r.map V.int)) → r.Perm (rngI cn) → Q (.ref l) H'
theorem sc_law_row : FnScope ["count", "cell", "row", "rest", "k"] ["count", "cell"] (defScope s_law_row) := ⟨rfl, rfl, rfl, by decide +kernel, rfl, by decide +kernel, by decide +kernel⟩
theorem ok_law_row (D : Dfs K mg aF dF) (T : Txt mg) : FnOk P w K mg base CX0 1 (aF 23) (dF 23) ["count", "cell"] (sp_law_row K) := by
  refine D.law_row.fn.ok sc_law_row (fun vs H Q E h => ?_) (fun cdv A outer s H vs Q E hr h => ?_)
  · obtain ⟨cn, c, rfl, _⟩ := h; rfl
  · have hu := hu_of hr
    obtain ⟨cn, c, rfl, c6, q⟩ := h
    refine ⟨_, (pss_cons (ps_set (i := 2) sc_law_row.nd rfl (Or.inl rfl) (pe_lst pa_nil))
      (pss_cons (ps_set (i := 3) sc_law_row.nd rfl (Or.inl rfl) (pe_op op_mod (pv 1) (pe_op op_pow pe_int pe_int)))
      (pss_cons (ps_for PassesOwn.never rfl (pi_range1 rfl T.z_range (pa_cons (pv 0) pa_nil)) (pg_name (i := 4) sc_law_row.nd rfl (Or.inl rfl))
        (pss_cons (ps_expr (pe_bm PySem.F.plainAttrs_list PySem.F.slot_list_insert PySem.F.type_list_insert mt_insert (pv 2) (pa_cons (pe_op op_mod (pv 3) (pe_op op_add (pv 4) pe_int)) (pa_cons (pv 4) pa_nil))))
        (pss_one (ps_set (i := 3) sc_law_row.nd rfl (Or.inl rfl) (pe_op op_fdiv (pv 3) pe_int)))))
      (pss_one (ps_ret (pv 2)))))), ?_⟩
    refine ⟨szr, fun l nl => ?_⟩
    refine ⟨_, rfl, _, _, rfl, rfl, ⟨by decide, by decide, by decide⟩, _, _, rfl, rfl, (show (0 : Int) < 10 ^ (9 : Int).toNat by decide), ?_⟩
    refine ⟨_, rfl, _, rfl, lo62 _, by omega, ?_⟩
    rw [Int.toNat_natCast]
    refine for_range (n := cn) (fun i σ Hx => ∃ (r : List Int) (x : Int) (y : Option V), σ = [some (.int (cn : Int)), some (.int c), some (.ref l), some (.int x), y] ∧ Same H Hx ∧ Hx l = some (.lst (r.map V.int)) ∧ r.Perm (rngI i)) ⟨[], _, none, rfl, Same.new nl, upd_same, .nil⟩ ?_ ?_
    · rintro i σ Hx hi ⟨r, x, y, rfl, sx, hl, pr⟩
      have ei : (0 : Int) + (i : Int) = ((i : Nat) : Int) := by omega
      rw [ei]
      have lr := (perm_rng pr).1
      have w0 := Int.emod_nonneg x (show (i : Int) + 1 ≠ 0 by omega)
      have w1 := Int.emod_lt_of_pos x (show (0 : Int) < (i : Int) + 1 by omega)
      refine ⟨_, rfl, .inl ⟨rfl, _, SqL.of hl⟩, _, rfl, _, rfl, _, _, rfl, rfl, _, _, rfl, rfl, (show (0 : Int) < (i : Int) + 1 by omega), _, rfl, l, _, _, _, rfl, rfl, hl, szn (by rw [List.length_map]; omega), w0, (by omega), ?_⟩
      refine ⟨_, rfl, _, _, rfl, rfl, (show CDiv _ 7 from ⟨by decide, by decide⟩), ?_⟩
      exact ⟨_, _, _, rfl, sx.put nl, (by rw [upd_same, ← List.map_take, ← List.map_drop]; exact congrArg (fun z => some (HO.lst z)) (List.map_append (f := V.int) (l₁ := r.take (x % ((i : Int) + 1)).toNat) (l₂ := (i : Int) :: r.drop (x % ((i : Int) + 1)).toNat)).symm), row_ins _ pr⟩
    · rintro σ Hx ⟨r, x, y, rfl, sx, hl, pr⟩
      exact ⟨_, rfl, q l r Hx sx nl hl pr⟩
noncomputable def sp_law_order (K : PySem.W.Frag) : Sp := fun vs H Q _ => ∃ (c rw' : Addr) (cs r : List Int), vs = [.ref c, .ref rw'] ∧ SqL K H c (cs.map V.int) ∧ cs.length ≤ 100 ∧ H rw' = some (.lst (r.map V.int)) ∧ 0 < r.length ∧ r.length ≤ 6 ∧ ∀ l es H', Same H H' → H l = none → RowAt H' l es → es.length ≤ cs.length → (∀ x ∈ es, ∃ i j : Nat, i < j ∧ r[i]? = some x.1 ∧ r[j]? = some x.2) → Q (.ref l) H'
theorem sc_law_order : FnScope ["cells", "row", "order", "number", "cell", "one", "other"] ["cells", "row"] (defScope s_law_order) := ⟨rfl, rfl, rfl, by decide +kernel, rfl, by decide +kernel, by decide +kernel⟩
theorem ok_law_order (D : Dfs K mg aF dF) (T : Txt mg) : FnOk P w K mg base CX0 1 (aF 24) (dF 24) ["cells", "row"] (sp_law_order K) := by
  refine D.law_order.fn.ok sc_law_order (fun vs H Q E h => ?_) (fun cdv A outer s H vs Q E hr h => ?_)
  · obtain ⟨c, rw', cs, r, rfl, _⟩ := h; rfl
  · have hu := hu_of hr
    obtain ⟨c, rw', cs, r, rfl, hc, c1, hw, r0, r6, q⟩ := h
    refine ⟨_, (pss_cons (ps_set (i := 2) sc_law_order.nd rfl (Or.inl rfl) (pe_lst pa_nil))
      (pss_cons (ps_for PassesOwn.never rfl (piL K (pv 0)) (pg_name (i := 3) sc_law_order.nd rfl (Or.inl rfl))
        (pss_cons (ps_set (i := 4) sc_law_order.nd rfl (Or.inl rfl) (pe_op op_mod (pe_op op_mul (pv 3) pe_int) pe_int))
        (pss_cons (ps_set (i := 5) sc_law_order.nd rfl (Or.inl rfl) (pe_op op_mod (pv 4) (pe_callB (cLen K) (by rfl) T.z_len boot_len (pa_cons (pv 1) pa_nil))))
        (pss_cons (ps_set (i := 6) sc_law_order.nd rfl (Or.inl rfl) (pe_op op_mod (pe_op op_fdiv (pv 4) pe_int) (pe_callB (cLen K) (by rfl) T.z_len boot_len (pa_cons (pv 1) pa_nil))))
        (pss_one (ps_if (pt_cmpR op_ne (pv 5) (pv 6) (nomark _))
          (pss_one (ps_expr (pe_bm PySem.F.plainAttrs_list PySem.F.slot_list_append PySem.F.type_list_append mt_append (pv 2) (pa_cons (pe_tup (pa_cons (pe_ix (ixL K) (pv 1) (pe_callB (call_min2 rfl) (by rfl) T.z_min boot_min (pa_cons (pv 5) (pa_cons (pv 6) pa_nil))) (fun _ _ => rfl)) (pa_cons (pe_ix (ixL K) (pv 1) (pe_callB (call_max2 rfl) (by rfl) T.z_max boot_max (pa_cons (pv 5) (pa_cons (pv 6) pa_nil))) (fun _ _ => rfl)) pa_nil))) pa_nil))))
          pss_nil))))))
      (pss_one (ps_ret (pv 2))))), ?_⟩
    refine ⟨szr, fun l nl => ?_⟩
    refine ⟨_, rfl, c, rfl, ⟨_, (Same.new nl).seq hc⟩, ?_⟩
    refine for_list (K := K) (a := c) (xs := cs.map V.int) (fun i σ Hx => ∃ (x y z u : Option V) (es : List (Int × Int)), σ = [some (.ref c), some (.ref rw'), some (.ref l), x, y, z, u] ∧ Same H Hx ∧ RowAt Hx l es ∧ es.length ≤ i ∧ ∀ x ∈ es, ∃ i j : Nat, i < j ∧ r[i]? = some x.1 ∧ r[j]? = some x.2) ⟨none, none, none, none, [], rfl, Same.new nl, ⟨[], upd_same, .nil⟩, Nat.zero_le _, fun _ z => by cases z⟩ (fun i σ Hx _ hq__ => by obtain ⟨_, _, _, _, _, _, s, _⟩ := hq__; exact s.seq hc) ?_ ?_
    · rintro i y σ Hx hix ⟨x, y', z, u, es, rfl, sx, ⟨ps, hp, tx⟩, le, ok⟩
      obtain ⟨d, hd, rfl, ed⟩ := at_int hix
      have hi' := (List.getElem?_eq_some_iff.mp hd).1
      have hw2 := sx _ _ hw
      refine ⟨_, rfl, _, _, rfl, rfl, (show CMul _ _ from .inr ⟨by decide, by decide⟩), _, _, rfl, rfl, (show (0 : Int) < 2147483647 by decide), ?_⟩
      have rp : (0 : Int) < (r.length : Int) := by omega
      refine ⟨_, rfl, _, rfl, _, r.length, rfl, .inl ⟨_, SqL.of hw2, by rw [List.length_map]⟩, _, _, rfl, rfl, rp, ?_⟩
      refine ⟨_, rfl, _, _, rfl, rfl, (show CDiv _ 6 from ⟨by decide, by decide⟩), _, rfl, _, r.length, rfl, .inl ⟨_, SqL.of hw2, by rw [List.length_map]⟩, _, _, rfl, rfl, rp, ?_⟩
      dsimp only
      generalize d * 48271 % 2147483647 = ce
      obtain ⟨a, ha, ea⟩ := modN ce r0
      obtain ⟨b, hb, eb⟩ := modN (ce / 6) r0
      rw [ea, eb]
      refine ⟨_, rfl, _, rfl, rfl, _, rfl, ifNe (fun ne => ?_) fun _ => ⟨_, _, _, _, es, rfl, sx, ⟨ps, hp, tx⟩, by omega, ok⟩⟩
      obtain ⟨i1, j1, hij, e1, e2, hb'⟩ := mnmx ne
      have hi1 : i1 < r.length := by omega
      have hj1 : j1 < r.length := by omega
      have psl := tx.len
      refine ⟨_, rfl, .inl ⟨rfl, _, SqL.of hp⟩, _, rfl, _, rfl, _, rfl, _, _, rfl, rw', _, _, _, rfl, rfl, SqL.of hw2, (by rw [e1]; exact atI_int hi1), _, rfl, _, rfl, _, rfl, _, _, rfl, rw', _, _, _, rfl, rfl, SqL.of hw2, (by rw [e2]; exact atI_int hj1), szr, fun t nt => ?_⟩
      refine ⟨l, _, _, rfl, rfl, (Same.new nt) _ _ hp, szn (by rw [List.length_map]; omega), ?_⟩
      refine ⟨_, _, _, _, es ++ [(r.getD i1 0, r.getD j1 0)], rfl, (sx.to nt).put nl, RowAt.put (x := (r.getD i1 0, r.getD j1 0)) hp tx nt, by rw [List.length_append, List.length_singleton]; omega, fun x hx => ?_⟩
      rcases List.mem_append.mp hx with z | z
      · exact ok x z
      · rw [List.mem_singleton.mp z]; exact ⟨i1, j1, hij, getD_some hi1, getD_some hj1⟩
    · rintro σ Hx ⟨x, y, z, u, es, rfl, sx, ra, le, ok⟩
      rw [List.length_map] at le
      exact ⟨_, rfl, q l es Hx sx nl ra le ok⟩
noncomputable def pw3 : List Int := [7, 30, 10 ^ 18]
theorem pick3 (c : Int) : ∃ d : Int, atI [V.int 7, V.int 30, V.int (10 ^ 18)] (c % 3) = some (.int d) ∧ 0 < d ∧ d ≤ 10 ^ 18 := by
  obtain ⟨n, h, e⟩ := modN c (n := 3) (by decide)
  rw [show c % 3 = ((n : Nat) : Int) from e]
  exact ⟨pw3.getD n 0, (show ∀ n : Nat, n < 3 → atI [V.int 7, V.int 30, V.int (10 ^ 18)] (n : Int) = some (.int (pw3.getD n 0)) ∧ 0 < pw3.getD n 0 ∧ pw3.getD n 0 ≤ 10 ^ 18 by decide) n h⟩
noncomputable def sp_law_menu (K : PySem.W.Frag) : Sp := fun vs H Q _ => ∃ (a : Addr) (ns : List Int) (at' wd : Nat), vs = [.ref a, .int ((at' : Nat) : Int), .int ((wd : Nat) : Int)] ∧ SqL K H a (ns.map V.int) ∧ ns.length ≤ 200 ∧ at' ≤ 500 ∧ wd ≤ 60 ∧ 0 < wd ∧
  ∀ l (ms : List Int) H', Same H H' → H l = none → H' l = some (.lst (ms.map V.int)) → ms.Pairwise (· < ·) → ms.length ≤ wd → ms ≠ [] → (∀ b ∈ ms, 1 ≤ b ∧ b ≤ 10 ^ 18) → Q (.ref l) H'
theorem sc_law_menu : FnScope ["script", "at", "wide", "badges", "k", "cell"] ["script", "at", "wide"] (defScope s_law_menu) := ⟨rfl, rfl, rfl, by decide +kernel, rfl, by decide +kernel, by decide +kernel⟩
theorem ok_law_menu (D : Dfs K mg aF dF) (T : Txt mg) : FnOk P w K mg base CX0 2 (aF 25) (dF 25) ["script", "at", "wide"] (sp_law_menu K) := by
  have Glaw_cell : FnOk P w K mg base CX0 1 (aF 21) (dF 21) ["script", "k"] (sp_law_cell K) := ok_law_cell D T
  refine D.law_menu.fn.ok sc_law_menu (fun vs H Q E h => ?_) (fun cdv A outer s H vs Q E hr h => ?_)
  · obtain ⟨a, ns, at', wd, rfl, _⟩ := h; rfl
  · have hu := hu_of hr
    obtain ⟨a, ns, at', wd, rfl, hS, hl, hat, hwd, hwd0, q⟩ := h
    refine ⟨_, (pss_cons (ps_set (i := 3) sc_law_menu.nd rfl (Or.inl rfl) (pe_lst pa_nil))
      (pss_cons (ps_for PassesOwn.never rfl (pi_range1 rfl T.z_range (pa_cons (pv 2) pa_nil)) (pg_name (i := 4) sc_law_menu.nd rfl (Or.inl rfl))
        (pss_cons (ps_set (i := 5) sc_law_menu.nd rfl (Or.inl rfl) (pc D.law_cell Glaw_cell (hr.mono (by decide)) (pa_cons (pv 0) (pa_cons (pe_op op_add (pv 1) (pv 4)) pa_nil))))
        (pss_one (ps_expr (pe_bm PySem.F.plainAttrs_list PySem.F.slot_list_append PySem.F.type_list_append mt_append (pv 3) (pa_cons (pe_op op_add pe_int (pe_op op_mod (pe_op op_fdiv (pv 5) pe_int) (pe_ix (ixL K) (pe_lst (pa_cons pe_int (pa_cons pe_int (pa_cons (pe_op op_pow pe_int pe_int) pa_nil)))) (pe_op op_mod (pv 5) pe_int) (fun _ _ => rfl)))) pa_nil))))))
      (pss_one (ps_ret (pe_callB (cSortedS w) (by rfl) T.z_sorted boot_sorted (pa_cons (pe_callTy (cSet w K) (by rfl) T.z_set PyProof.Rows.boot_set (pa_cons (pv 3) pa_nil)) pa_nil)))))), ?_⟩
    refine ⟨szr, fun l nl => ?_⟩
    refine ⟨_, rfl, _, rfl, lo62 _, by omega, ?_⟩
    have e0 : ((wd : Int)).toNat = wd := by omega
    rw [e0]
    refine for_range (n := wd) (fun i σ H1 => ∃ (bs : List Int) (x y : Option V), σ = [some (.ref a), some (.int at'), some (.int wd), some (.ref l), x, y] ∧ Same H H1 ∧ H1 l = some (.lst (bs.map V.int)) ∧ bs.length = i ∧ ∀ b ∈ bs, 1 ≤ b ∧ b ≤ 10 ^ 18) ⟨[], none, none, rfl, Same.new nl, upd_same, rfl, fun _ z => by cases z⟩ ?_ ?_
    · rintro i σ H1 hi ⟨bs, x, y, rfl, s1, hl1, hlen, hb⟩
      have ei : (at' : Int) + (0 + (i : Int)) = ((at' + i : Nat) : Int) := by omega
      refine ⟨_, rfl, _, rfl, _, rfl, _, _, rfl, rfl, a, ns, at' + i, (by show [V.ref a, V.int ((at' : Int) + (0 + (i : Int)))] = _; rw [ei]), s1.seq hS, by omega, by omega, fun H2 s2 => ?_⟩
      have hl2 := s2 _ _ hl1
      refine ⟨_, rfl, .inl ⟨rfl, _, SqL.of hl2⟩, ?_⟩
      walk_at "go"
      refine ⟨szr, fun p np => ?_⟩
      obtain ⟨d, hd, hd0, hd1⟩ := pick3 (cv ns (at' + i))
      refine ⟨_, rfl, _, _, rfl, rfl, (show (0 : Int) < 3 by decide), p, _, _, _, rfl, rfl, SqL.of upd_same, hd, _, _, rfl, rfl, hd0, _, _, rfl, rfl, ?_⟩
      have npl : l ≠ p := ne_of_none hl2 np
      refine ⟨l, _, _, rfl, rfl, by rw [upd_ne npl]; exact hl2, szn (by rw [List.length_map]; omega), ?_⟩
      have w1 := Int.emod_nonneg (cv ns (at' + i) / 3) (show d ≠ 0 by omega)
      have w2 := Int.emod_lt_of_pos (cv ns (at' + i) / 3) hd0
      refine ⟨bs ++ [1 + cv ns (at' + i) / 3 % d], _, _, rfl, ((s1.trans s2).to np).put nl, ?_, by rw [List.length_append, List.length_singleton, hlen], fun b hb' => ?_⟩
      · rw [upd_same, List.map_append]; rfl
      · rcases List.mem_append.mp hb' with h | h
        · exact hb b h
        · rw [List.mem_singleton.mp h]; omega
    · rintro σ H1 ⟨bs, x, y, rfl, s1, hl1, hlen, hb⟩
      have dl := dd_len bs
      refine ⟨_, rfl, l, bs, rfl, SqL.of hl1, by omega, fun S nS => ⟨S, dd bs, rfl, upd_same, by omega, fun r ks nr hp hs => ?_⟩⟩
      refine q r ks _ ((s1.to nS).to nr) ?_ upd_same (sort_lt hs (hp.nodup_iff.mpr (dd_nd bs))) (by rw [hp.length_eq]; omega) ?_ ?_
      · exact (s1.to nS).free nr
      · rintro rfl
        have e := hp.symm.eq_nil
        cases bs with
        | nil => simp at hlen; omega
        | cons b r =>
          have : b ∈ dd (b :: r) := dd_mem.mpr (List.mem_cons_self ..)
          rw [e] at this
          cases this
      · exact fun b hb' => hb b (dd_mem.mp (hp.mem_iff.mp hb'))
noncomputable def sp_law_some (K : PySem.W.Frag) : Sp := fun vs H Q _ => ∃ (a : Addr) (ms : List Int) (c st : Int), vs = [.ref a, .int c, .int st] ∧ SqL K H a (ms.map V.int) ∧ ms.length ≤ 100 ∧ 0 < st ∧ st < 100 ∧
  ∀ l (ks : List Int) H', Same H H' → H l = none → H' l = some (.lst (ks.map V.int)) → ks.Sublist ms → Q (.ref l) H'
theorem sc_law_some : FnScope ["menu", "cell", "step", "kept", "rest", "badge"] ["menu", "cell", "step"] (defScope s_law_some) := ⟨rfl, rfl, rfl, by decide +kernel, rfl, by decide +kernel, by decide +kernel⟩
theorem ok_law_some (D : Dfs K mg aF dF) (T : Txt mg) : FnOk P w K mg base CX0 1 (aF 26) (dF 26) ["menu", "cell", "step"] (sp_law_some K) := by
  refine D.law_some.fn.ok sc_law_some (fun vs H Q E h => ?_) (fun cdv A outer s H vs Q E hr h => ?_)
  · obtain ⟨a, ms, c, st, rfl, _⟩ := h; rfl
  · have hu := hu_of hr
    obtain ⟨a, ms, c, st, rfl, hS, hl, hs0, hs1, q⟩ := h
    refine ⟨_, (pss_cons (ps_set (i := 3) sc_law_some.nd rfl (Or.inl rfl) (pe_lst pa_nil))
      (pss_cons (ps_set (i := 4) sc_law_some.nd rfl (Or.inl rfl) (pe_op op_mod (pv 1) (pe_op op_pow pe_int pe_int)))
      (pss_cons (ps_for PassesOwn.never rfl (piL K (pv 0)) (pg_name (i := 5) sc_law_some.nd rfl (Or.inl rfl))
        (pss_cut (ps_if (pt_cmpR op_eq (pe_op op_mod (pv 4) (pv 2)) pe_int (nomark _))
          (pss_one (ps_expr (pe_bm PySem.F.plainAttrs_list PySem.F.slot_list_append PySem.F.type_list_append mt_append (pv 3) (pa_cons (pv 5) pa_nil))))
          pss_nil)
        (pss_one (ps_set (i := 4) sc_law_some.nd rfl (Or.inl rfl) (pe_op op_fdiv (pv 4) (pv 2))))))
      (pss_one (ps_ret (pv 3)))))), ?_⟩
    refine ⟨szr, fun l nl => ?_⟩
    refine ⟨_, rfl, ?_⟩
    walk_at "go"
    refine ⟨⟨_, (Same.new nl).seq hS⟩, ?_⟩
    refine for_list (K := K) (a := a) (xs := ms.map V.int) (fun i σ H1 => ∃ (ks : List Int) (re : Int) (x : Option V), σ = [some (.ref a), some (.int c), some (.int st), some (.ref l), some (.int re), x] ∧ Same H H1 ∧ H1 l = some (.lst (ks.map V.int)) ∧ ks.Sublist (ms.take i))
      ⟨[], _, none, rfl, Same.new nl, upd_same, List.Sublist.refl _⟩ (fun i σ H1 _ hq__ => by obtain ⟨_, _, _, _, s, _⟩ := hq__; exact s.seq hS) ?_ ?_
    · rintro i y σ H1 hi ⟨ks, re, x, rfl, s1, hl1, hsub⟩
      obtain ⟨b, hb, rfl⟩ : ∃ b, ms[i]? = some b ∧ y = V.int b := by
        rw [List.getElem?_map] at hi
        obtain ⟨b, h1, h2⟩ := Option.map_eq_some_iff.mp hi
        exact ⟨b, h1, h2.symm⟩
      have hkl : ks.length ≤ ms.length := Nat.le_trans hsub.length_le (by rw [List.length_take]; omega)
      refine ⟨fun σ H2 => ∃ ks' : List Int, σ = [some (.ref a), some (.int c), some (.int st), some (.ref l), some (.int re), some (.int b)] ∧ Same H H2 ∧ H2 l = some (.lst (ks'.map V.int)) ∧ ks'.Sublist (ms.take (i + 1)), ?_, ?_⟩
      · refine ⟨_, rfl, _, rfl, _, _, rfl, rfl, hs0, rfl, _, rfl, ifEq (fun _ => ?_) fun _ => ⟨ks, rfl, s1, hl1, hsub.trans (List.take_sublist_take_left (by omega))⟩⟩
        refine ⟨_, rfl, .inl ⟨rfl, _, SqL.of hl1⟩, _, rfl, l, _, _, rfl, rfl, hl1, szn (by rw [List.length_map]; omega), ?_⟩
        refine ⟨ks ++ [b], rfl, s1.put nl, ?_, ?_⟩
        · rw [upd_same, List.map_append]; rfl
        · rw [List.take_add_one, hb]
          exact hsub.append (List.Sublist.refl _)
      · rintro σ H2 ⟨ks', rfl, s2, hl2, hsub2⟩
        exact ⟨_, rfl, _, rfl, _, _, rfl, rfl, ⟨hs0, by omega⟩, ks', _, _, rfl, s2, hl2, hsub2⟩
    · rintro σ H1 ⟨ks, re, x, rfl, s1, hl1, hsub⟩
      rw [List.length_map, List.take_length] at hsub
      exact ⟨_, rfl, q l ks H1 s1 nl hl1 hsub⟩
theorem pickW (c : Int) : ∃ wd : Str, atI [V.str "most", V.str "least"] (c % 2) = some (.str wd) ∧ (wd = "most" ∨ wd = "least") := by
  rcases (show c % 2 = 0 ∨ c % 2 = 1 by omega) with e | e
  · rw [e]; exact ⟨"most", rfl, .inl rfl⟩
  · rw [e]; exact ⟨"least", rfl, .inr rfl⟩
theorem pickL (c : Int) : ∃ d : Int, atI [V.int 3, V.int 6] (c % 2) = some (.int d) ∧ 0 < d ∧ d ≤ 6 := by
  rcases (show c % 2 = 0 ∨ c % 2 = 1 by omega) with e | e
  · rw [e]; exact ⟨3, rfl, by decide, by decide⟩
  · rw [e]; exact ⟨6, rfl, by decide, by decide⟩
noncomputable def pw6 : List Int := [1, 2, 4, 8, 16, 32]
theorem pw6_at {i : Nat} (h : i < 6) : atI [V.int 1, V.int 2, V.int 4, V.int 8, V.int 16, V.int 32] (i : Int) = some (.int (pw6.getD i 0)) ∧ 0 < pw6.getD i 0 ∧ pw6.getD i 0 < 100 :=
  (show ∀ i : Nat, i < 6 → atI [V.int 1, V.int 2, V.int 4, V.int 8, V.int 16, V.int 32] (i : Int) = some (.int (pw6.getD i 0)) ∧ 0 < pw6.getD i 0 ∧ pw6.getD i 0 < 100 by decide) i h
noncomputable def sp_law_tie (K : PySem.W.Frag) : Sp := fun vs H Q _ => ∃ (n : Int) (many : Nat), vs = [.int n, .int ((many : Nat) : Int)] ∧ 1 ≤ many ∧ many ≤ 6 ∧
  ∀ x H', Same H H' → TieT H' x → TieG many x → Q (.ref x.1) H'
theorem sc_law_tie : FnScope ["number", "count", "cell", "steps"] ["number", "count"] (defScope s_law_tie) := ⟨rfl, rfl, rfl, by decide +kernel, rfl, by decide +kernel, by decide +kernel⟩
theorem ok_law_tie (D : Dfs K mg aF dF) (T : Txt mg) : FnOk P w K mg base CX0 1 (aF 27) (dF 27) ["number", "count"] (sp_law_tie K) := by
  refine D.law_tie.fn.ok sc_law_tie (fun vs H Q E h => ?_) (fun cdv A outer s H vs Q E hr h => ?_)
  · obtain ⟨n, many, rfl, _⟩ := h; rfl
  · have hu := hu_of hr
    obtain ⟨n, many, rfl, m1, m6, q⟩ := h
    refine ⟨_, (pss_cons (ps_set (i := 2) sc_law_tie.nd rfl (Or.inr rfl) (pe_op op_mod (pe_op op_mul (pv 0) pe_int) pe_int))
      (pss_cons (ps_setC (i₀ := 3) sc_law_tie.nd rfl (Or.inl rfl) ["step", "cell"] [none, some 2] rfl (pi_range1 rfl T.z_range (pa_cons (pv 1) pa_nil)) (fun _ => pg_name (i := 0) (nodupN (N := ["step", "cell"]) (by decide +kernel)) rfl (Or.inl rfl)) (fun _ => pif_one (pt_cmpR op_eq (pe_op op_mod (pe_op op_fdiv (pv 1) (pe_ix (ixL K) (pe_lst (pa_cons pe_int (pa_cons pe_int (pa_cons pe_int (pa_cons pe_int (pa_cons pe_int (pa_cons pe_int pa_nil))))))) (pv 0) (fun _ _ => rfl))) pe_int) pe_int (nomark _))) (fun _ => (pv 0)) ((.cons (fun _ e => by cases e) (.cons (fun _ e => by cases e; exact ⟨rfl, rfl⟩) .nil))))
      (pss_cut (ps_if (pt_cmpR (eqD K hr.units) (pv 3) (pe_lst pa_nil) (nomark _))
        (pss_one (ps_set (i := 3) sc_law_tie.nd rfl (Or.inl rfl) (pe_lst (pa_cons (pe_op op_mod (pe_op op_fdiv (pv 2) pe_int) (pv 1)) pa_nil))))
        pss_nil)
      (pss_one (ps_ret (pe_tup (pa_cons (pe_ix (ixL K) (pe_lst (pa_cons pe_str (pa_cons pe_str pa_nil))) (pe_op op_mod (pe_op op_fdiv (pv 2) pe_int) pe_int) (fun _ _ => rfl)) (pa_cons (pe_op op_add pe_int (pe_op op_mod (pe_op op_fdiv (pv 2) pe_int) (pe_ix (ixL K) (pe_lst (pa_cons pe_int (pa_cons pe_int pa_nil))) (pe_op op_mod (pe_op op_fdiv (pv 2) pe_int) pe_int) (fun _ _ => rfl)))) (pa_cons (pe_callTy call_tuple_of (by rfl) T.z_tuple boot_tuple (pa_cons (pv 3) pa_nil)) pa_nil))))))))), ?_⟩
    refine ⟨_, rfl, _, _, rfl, rfl, (show CMul _ _ from .inr ⟨by decide, by decide⟩), _, _, rfl, rfl, (show (0 : Int) < 2147483629 by decide), ?_⟩
    dsimp only
    generalize n * 69621 % 2147483629 = c
    refine ⟨_, rfl, _, rfl, lo62 _, by omega, ?_⟩
    rw [Int.toNat_natCast]
    refine comp_some (n := many) (fun i => decide (c / pw6.getD i 0 % 2 = 1)) (by omega) (fun i hi H3 R s3 k => ?_) (fun i hi H3 R k => ?_) fun sl H3 s3 nsl hsl => ?_
    · have ei : (0 : Int) + (i : Int) = ((i : Nat) : Int) := by omega
      rw [ei]
      obtain ⟨g1, g2, g3⟩ := pw6_at (show i < 6 by omega)
      have kk : ∀ H4, Same H3 H4 → R (decide (c / pw6.getD i 0 % 2 = 1)) H4 := k
      refine ⟨_, rfl, szr, fun l nl => ⟨_, rfl, l, _, _, _, rfl, rfl, SqL.of upd_same, g1, _, _, rfl, rfl, ⟨g2, by omega⟩, _, _, rfl, rfl, (show (0 : Int) < 2 by decide), rfl, _, rfl, ?_⟩⟩
      have z := kk _ (Same.new (o := .lst [V.int 1, V.int 2, V.int 4, V.int 8, V.int 16, V.int 32]) nl)
      rw [← decV] at z
      exact z
    · have ei : (0 : Int) + (i : Int) = ((i : Nat) : Int) := by omega
      rw [ei]
      exact ⟨_, rfl, k⟩
    have hst : ∀ i ∈ ((List.range many).filter fun i => decide (c / pw6.getD i 0 % 2 = 1)), i < many := fun i hi => List.mem_range.mp (List.mem_filter.mp hi).1
    have hup : ((List.range many).filter fun i => decide (c / pw6.getD i 0 % 2 = 1)).Pairwise (· < ·) := List.Pairwise.filter _ List.pairwise_lt_range
    have hle : ((List.range many).filter fun i => decide (c / pw6.getD i 0 % 2 = 1)).length ≤ 6 := Nat.le_trans (List.length_filter_le _ _) (by rw [List.length_range]; exact m6)
    generalize (List.range many).filter (fun i => decide (c / pw6.getD i 0 % 2 = 1)) = st at hsl hst hup hle
    refine ⟨fun σ H5 => ∃ (sl' : Addr) (st : List Nat), σ = [some (.int n), some (.int ((many : Nat) : Int)), some (.int c), some (.ref sl')] ∧ Same H H5 ∧ H5 sl' = some (.lst (st.map fun (i : Nat) => V.int (i : Int))) ∧ st ≠ [] ∧ (∀ i ∈ st, i < many) ∧ st.Pairwise (· < ·) ∧ st.length ≤ 6, ?_, ?_⟩
    · refine ⟨_, rfl, szr, fun p np => ?_⟩
      have s4 := Same.new (o := .lst []) np
      have s04 := s3.trans s4
      cases hs : st with
      | nil =>
        rw [hs] at hsl
        refine ⟨1, true, deq_nil (SqL.of (s4 _ _ hsl)) (SqL.of upd_same), by decide, rfl, _, rfl, iteT ?_⟩
        obtain ⟨m, hm, em⟩ := modN (c / 64) (n := many) (by omega)
        refine ⟨_, rfl, _, _, rfl, rfl, (show CDiv _ 64 from ⟨by decide, by decide⟩), _, rfl, _, _, rfl, rfl, (show (0 : Int) < ((many : Nat) : Int) by omega), szr, fun l2 nl2 => ?_⟩
        refine ⟨l2, [m], rfl, s04.to nl2, ?_, by simp, fun i hi => by rw [List.mem_singleton.mp hi]; exact hm, List.pairwise_singleton _ _, by simp⟩
        rw [upd_same]
        dsimp only
        rw [em]
        rfl
      | cons i r =>
        rw [hs] at hsl
        refine ⟨1, false, deq_nil (SqL.of (s4 _ _ hsl)) (SqL.of upd_same), by decide, rfl, _, rfl, iteF ?_⟩
        rw [hs] at hst hup hle
        exact ⟨sl, i :: r, rfl, s04, s4 _ _ hsl, by simp, hst, hup, hle⟩
    · rintro σ H5 ⟨sl', st, rfl, s5, hsl, sne, slt, sup, sle⟩
      obtain ⟨wd, hwd, hw2⟩ := pickW (c / 64)
      obtain ⟨lm, hlm, l0, l6⟩ := pickL (c / 896)
      have k1 := Int.emod_nonneg (c / 128) (show lm ≠ 0 by omega)
      have k2 := Int.emod_lt_of_pos (c / 128) l0
      refine ⟨szr, fun pa npa => ⟨_, rfl, _, _, rfl, rfl, (show CDiv _ 64 from ⟨by decide, by decide⟩), _, _, rfl, rfl, (show (0 : Int) < 2 by decide), pa, _, _, _, rfl, rfl, SqL.of upd_same, hwd, ?_⟩⟩
      have s6 := s5.to (o := .lst [.str "most", .str "least"]) npa
      have hsl6 := (Same.new (o := .lst [.str "most", .str "least"]) npa) _ _ hsl
      generalize upd H5 pa (.lst [.str "most", .str "least"]) = H6 at s6 hsl6
      refine ⟨_, rfl, _, _, rfl, rfl, (show CDiv _ 128 from ⟨by decide, by decide⟩), szr, fun pb npb => ⟨_, rfl, _, _, rfl, rfl, (show CDiv _ 896 from ⟨by decide, by decide⟩), _, _, rfl, rfl, (show (0 : Int) < 2 by decide), pb, _, _, _, rfl, rfl, SqL.of upd_same, hlm, _, _, rfl, rfl, l0, _, _, rfl, rfl, ?_⟩⟩
      have s7 := s6.to (o := .lst [.int 3, .int 6]) npb
      have hsl7 := (Same.new (o := .lst [.int 3, .int 6]) npb) _ _ hsl6
      generalize upd H6 pb (.lst [.int 3, .int 6]) = H7 at s7 hsl7
      refine ⟨_, rfl, sl', _, rfl, .inl ⟨SqL.of hsl7, fun t nt => ⟨szr, fun tp ntp => ?_⟩⟩⟩
      have ntt : t ≠ tp := fun z => by rw [← z, upd_same] at ntp; cases ntp
      exact q (tp, t, wd, 1 + c / 128 % lm, st) _ ((s7.to nt).to ntp) ⟨upd_same, by show upd _ tp _ t = _; rw [upd_ne ntt]; exact upd_same, hw2, sle⟩ ⟨by show (1 : Int) ≤ 1 + c / 128 % lm; omega, by show 1 + c / 128 % lm ≤ 6; omega, sne, slt, sup⟩
noncomputable def sp_law_fits (K : PySem.W.Frag) : Sp := fun vs H Q _ => ∃ (ha ma ta : Addr) (rs : List Addr) (may : List (List Int)) (ts : List (Addr × Addr × Str × Int × List Nat)) (hs : List Int), vs = [.ref ha, .ref ma, .ref ta] ∧ H ha = some (.lst (hs.map V.int)) ∧ SqL K H ma (rs.map V.ref) ∧ PoolsL K H rs may ∧ may.length ≤ 6 ∧ Ties K H ta ts 100 ∧ (∀ x ∈ ts, TieG may.length x) ∧ IsPlan may (ts.map tieOf) hs ∧ ∀ H', Same H H' → Q (.bl true) H'
theorem sc_law_fits : FnScope ["hands", "may", "ties", "badge", "some", "word", "limit", "steps", "many"] ["hands", "may", "ties"] (defScope s_law_fits) := ⟨rfl, rfl, rfl, by decide +kernel, rfl, by decide +kernel, by decide +kernel⟩
theorem ok_law_fits (D : Dfs K mg aF dF) (T : Txt mg) : FnOk P w K mg base CX0 2 (aF 28) (dF 28) ["hands", "may", "ties"] (sp_law_fits K) := by
  have Glaw_whole : FnOk P w K mg base CX0 1 (aF 22) (dF 22) ["found"] (sp_law_whole K) := ok_law_whole D T
  refine D.law_fits.fn.ok sc_law_fits (fun vs H Q E h => ?_) (fun cdv A outer s H vs Q E hr h => ?_)
  · obtain ⟨ha, ma, ta, rs, may, ts, hs, rfl, _⟩ := h; rfl
  · have hu := hu_of hr
    obtain ⟨ha, ma, ta, rs, may, ts, hs, rfl, hh, hm, po, m6, tt, tg, ip, q⟩ := h
    refine ⟨_, (pss_cons (ps_if (PW.pt (pw_or (pt_not (pt_val (pe_callB (cIsi K) (by rfl) T.z_isinstance boot_isinstance (pa_cons (pv 0) (pa_cons (ty_list T.z_list) pa_nil))))) (pw_or1 (pt_cmpR op_ne (pe_callB (cLen K) (by rfl) T.z_len boot_len (pa_cons (pv 0) pa_nil)) (pe_callB (cLen K) (by rfl) T.z_len boot_len (pa_cons (pv 1) pa_nil)) (nomark _)))))
        (pss_one (ps_ret pe_bl))
        pss_nil)
      (pss_cons (ps_for PassesOwn.never rfl (pi_zip K rfl T.z_zip (pa_cons (pv 0) (pa_cons (pv 1) pa_nil))) (pgT K rfl (pgs_cons (pg_name (i := 3) sc_law_fits.nd rfl (Or.inl rfl)) (pgs_cons (pg_name (i := 4) sc_law_fits.nd rfl (Or.inl rfl)) pgs_nil)))
        (pss_one (ps_if (PW.pt (pw_or (pt_not (pt_val (pc D.law_whole Glaw_whole (hr.mono (by decide)) (pa_cons (pv 3) pa_nil)))) (pw_or1 (pt_cmpR (ninS K) (pv 3) (pv 4) (by with_unfolding_all rfl)))))
          (pss_one (ps_ret pe_bl))
          pss_nil)))
      (pss_cons (ps_for PassesOwn.never rfl (piL K (pv 2)) (pgT K rfl (pgs_cons (pg_name (i := 5) sc_law_fits.nd rfl (Or.inl rfl)) (pgs_cons (pg_name (i := 6) sc_law_fits.nd rfl (Or.inl rfl)) (pgs_cons (pg_name (i := 7) sc_law_fits.nd rfl (Or.inl rfl)) pgs_nil))))
        (pss_cons (ps_set (i := 8) sc_law_fits.nd rfl (Or.inl rfl) (pe_callB (cLenS w) (by rfl) T.z_len boot_len (pa_cons (pe_callTy (cSet w K) (by rfl) T.z_set PyProof.Rows.boot_set (pa_cons (pe_lcomp ["step", "hands"] [none, some 0] rfl (piT K (pv 7)) (fun _ => pg_name (i := 0) (nodupN (N := ["step", "hands"]) (by decide +kernel)) rfl (Or.inl rfl)) (fun _ => pif_nil) (fun _ => (pe_ix (ixL K) (pv 1) (pv 0) (fun _ _ => rfl))) ((.cons (fun _ e => by cases e) (.cons (fun _ e => by cases e; exact ⟨rfl, rfl⟩) .nil)))) pa_nil)) pa_nil)))
        (pss_one (ps_if (PW.pt (pw_or (PW.pt (pw_and (pt_cmpR op_eq (pv 5) pe_str (nomark _)) (pw_and1 (pt_cmpR op_gt (pv 8) (pv 6) (nomark _))))) (pw_or1 (PW.pt (pw_and (pt_cmpR op_eq (pv 5) pe_str (nomark _)) (pw_and1 (pt_cmpR op_lt (pv 8) (pv 6) (nomark _))))))))
          (pss_one (ps_ret pe_bl))
          pss_nil))))
      (pss_one (ps_ret pe_bl))))), ?_⟩
    have rl : rs.length = may.length := po.len
    have hl := ip.len
    refine ⟨_, rfl, _, _, _, true, rfl, .lst hh, rfl, _, rfl, iteF ?_⟩
    refine ⟨_, rfl, _, hs.length, rfl, .inl ⟨_, SqL.of hh, by rw [List.length_map]⟩, _, rfl, _, may.length, rfl, .inl ⟨_, hm, by rw [List.length_map, rl]⟩, rfl, _, rfl, ifNeF (by rw [hl]) ?_⟩
    refine ⟨_, rfl, _, rfl, ha, ma, _, _, rfl, SqL.of hh, hm, ?_⟩
    refine for_zip (K := K) (a := ha) (b := ma) (xs := hs.map V.int) (ys := rs.map V.ref) (by rw [List.length_map, List.length_map]; omega) (fun i σ Hx => ∃ x y : Option V, σ = [some (.ref ha), some (.ref ma), some (.ref ta), x, y, none, none, none, none] ∧ Same H Hx) ⟨none, none, rfl, Same.refl _⟩ (fun i σ Hx _ hq__ => by obtain ⟨_, _, _, s⟩ := hq__; exact ⟨SqL.of (s _ _ hh), s.seq hm⟩) ?_ ?_
    · rintro i u v σ Hx p hu' hv ⟨x, y, rfl, sx⟩ np
      obtain ⟨d, hd, rfl, ed⟩ := at_int hu'
      have hi := (List.getElem?_eq_some_iff.mp hd).1
      rw [List.getElem?_map] at hv
      obtain ⟨r, hr', rfl⟩ := Option.map_eq_some_iff.mp hv
      have s1 := sx.to (o := .tup [V.int d, V.ref r]) np
      obtain ⟨r', e1, e2⟩ := (po.same s1).at (List.getElem?_eq_getElem (show i < may.length by omega))
      rw [hr'] at e1
      cases e1
      have mem : d ∈ may[i]'(by omega) := by
        have z := ip.of i hi
        rw [ed, getD_getL (show i < may.length by omega)] at z
        exact z
      refine ⟨p, _, rfl, SqT.of upd_same, rfl, _, _, rfl, _, _, rfl, rfl, ?_⟩
      refine ⟨_, rfl, d, rfl, _, rfl, iteF ?_⟩
      refine ⟨_, rfl, _, rfl, r, _, rfl, .inl e2, rfl, flat_all _, ?_⟩
      rw [if_pos rfl, inV_int]
      exact ⟨_, rfl, ifNotD mem ⟨_, _, rfl, s1⟩⟩
    rintro σ Hx ⟨x, y, rfl, sx⟩
    refine ⟨_, rfl, ta, rfl, ⟨_, sx.seq tt.ls⟩, ?_⟩
    refine for_list (K := K) (a := ta) (xs := ts.map fun x => V.ref x.1) (fun i σ Hy => ∃ u1 u2 u3 u4 : Option V, σ = [some (.ref ha), some (.ref ma), some (.ref ta), x, y, u1, u2, u3, u4] ∧ Same H Hy) ⟨none, none, none, none, rfl, sx⟩ (fun i σ Hy _ hq__ => by obtain ⟨_, _, _, _, _, s⟩ := hq__; exact s.seq tt.ls) ?_ ?_
    · rintro i v σ Hy hi ⟨u1, u2, u3, u4, rfl, sy⟩
      rw [List.getElem?_map] at hi
      obtain ⟨z, hz, rfl⟩ := Option.map_eq_some_iff.mp hi
      have zm := List.mem_of_getElem? hz
      have te := (tt.ea z zm).same sy
      have tgz := tg z zm
      have kz := ip.kp (tieOf z) (List.mem_map.mpr ⟨z, zm, rfl⟩)
      obtain ⟨tp, t, wd, k, st⟩ := z
      have htp : Hy tp = some (.tup [.str wd, .int k, .ref t]) := te.tp
      have hts : Hy t = some (.tup (st.map fun (i : Nat) => V.int (i : Int))) := te.ts
      have hwd : wd = "most" ∨ wd = "least" := te.wd
      have sl : st.length ≤ 6 := te.sl
      have lt : ∀ i ∈ st, i < may.length := tgz.lt
      have kz : kp (fun i => hs.getD i 0) wd k st = true := kz
      refine ⟨tp, _, rfl, SqT.of htp, rfl, _, _, rfl, _, _, rfl, _, _, rfl, rfl, ?_⟩
      refine ⟨_, rfl, t, rfl, ⟨_, SqT.of hts⟩, ?_⟩
      refine comp_tup (xs := st.map fun (i : Nat) => V.int (i : Int)) (fun _ => true) (fun j => .int (hs.getD (st.getD j 0) 0)) (SqT.of hts) (by rw [List.length_map]; omega) (fun _ _ _ _ _ _ k => k _ (Same.refl _)) (fun j x hx _ H2 R s2 k => ?_) fun acc H2 s2 nacc hacc => ?_
      · obtain ⟨d, hd, rfl, ed⟩ := at_nat hx
        rw [ed] at k
        exact ⟨_, rfl, _, rfl, ha, _, _, _, rfl, rfl, SqL.of ((sy.trans s2) _ _ hh), atI_int (by have := lt d (List.mem_of_getElem? hd); omega), k _ (Same.refl _)⟩
      rw [all_at] at hacc
      refine ⟨acc, st.map fun i => hs.getD i 0, rfl, SqL.of hacc, by rw [List.length_map]; omega, fun S nS => ⟨S, _, rfl, upd_same, ?_⟩⟩
      have s3 := (sy.trans s2).to (o := .ext (SX w S (dd (st.map fun i => hs.getD i 0)))) nS
      generalize upd H2 S (.ext (SX w S (dd (st.map fun i => hs.getD i 0)))) = H3 at s3
      have eu : (dd (st.map fun i => hs.getD i 0)).length = unl (fun i => hs.getD i 0) st := rfl
      rw [eu]
      unfold kp at kz
      generalize unl (fun i => hs.getD i 0) st = un at kz
      rcases hwd with e | e <;> subst e
      · rw [if_pos rfl] at kz
        have kz := of_decide_eq_true kz
        refine ⟨_, rfl, rfl, _, rfl, iteT ⟨_, rfl, _, rfl, _, _, rfl, rfl, _, rfl, ?_⟩⟩
        refine ifNo (by omega) ?_
        refine ⟨_, rfl, rfl, _, rfl, ?_⟩
        rw [decide_eq_false (by decide)]
        exact iteF (iteF ⟨_, _, _, _, rfl, s3⟩)
      · rw [if_neg (by decide)] at kz
        have kz := of_decide_eq_true kz
        refine ⟨_, rfl, rfl, _, rfl, ?_⟩
        rw [decide_eq_false (by decide)]
        refine iteF (iteF ⟨_, rfl, rfl, _, rfl, iteT ⟨_, rfl, _, rfl, _, _, rfl, rfl, _, rfl, ?_⟩⟩)
        exact ifNo (by omega) ⟨_, _, _, _, rfl, s3⟩
    · rintro σ Hy ⟨u1, u2, u3, u4, rfl, sy⟩
      exact q Hy sy
noncomputable def sp_law_kept_tie (K : PySem.W.Frag) : Sp := fun vs H Q _ => ∃ (n : Int) (a : Addr) (hs : List Int), vs = [.int n, .ref a] ∧ SqL K H a (hs.map V.int) ∧ 1 ≤ hs.length ∧ hs.length ≤ 6 ∧ ∀ x H', Same H H' → TieT H' x → TieG hs.length x → kpX hs x = true → Q (.ref x.1) H'
theorem sc_law_kept_tie : FnScope ["number", "hands", "word", "limit", "steps", "many"] ["number", "hands"] (defScope s_law_kept_tie) := ⟨rfl, rfl, rfl, by decide +kernel, rfl, by decide +kernel, by decide +kernel⟩
theorem ok_law_kept_tie (D : Dfs K mg aF dF) (T : Txt mg) : FnOk P w K mg base CX0 2 (aF 29) (dF 29) ["number", "hands"] (sp_law_kept_tie K) := by
  have Glaw_tie : FnOk P w K mg base CX0 1 (aF 27) (dF 27) ["number", "count"] (sp_law_tie K) := ok_law_tie D T
  refine D.law_kept_tie.fn.ok sc_law_kept_tie (fun vs H Q E h => ?_) (fun cdv A outer s H vs Q E hr h => ?_)
  · obtain ⟨n, a, hs, rfl, _⟩ := h; rfl
  · have hu := hu_of hr
    obtain ⟨n, a, hs, rfl, ha, h1, h6, q⟩ := h
    refine ⟨_, (pss_cons (ps_asg (pc D.law_tie Glaw_tie (hr.mono (by decide)) (pa_cons (pv 0) (pa_cons (pe_callB (cLen K) (by rfl) T.z_len boot_len (pa_cons (pv 1) pa_nil)) pa_nil))) (pgT K rfl (pgs_cons (pg_name (i := 2) sc_law_kept_tie.nd rfl (Or.inl rfl)) (pgs_cons (pg_name (i := 3) sc_law_kept_tie.nd rfl (Or.inl rfl)) (pgs_cons (pg_name (i := 4) sc_law_kept_tie.nd rfl (Or.inl rfl)) pgs_nil)))))
      (pss_cons (ps_set (i := 5) sc_law_kept_tie.nd rfl (Or.inl rfl) (pe_callB (cLenS w) (by rfl) T.z_len boot_len (pa_cons (pe_callTy (cSet w K) (by rfl) T.z_set PyProof.Rows.boot_set (pa_cons (pe_lcomp ["step", "hands"] [none, some 1] rfl (piT K (pv 4)) (fun _ => pg_name (i := 0) (nodupN (N := ["step", "hands"]) (by decide +kernel)) rfl (Or.inl rfl)) (fun _ => pif_nil) (fun _ => (pe_ix (ixL K) (pv 1) (pv 0) (fun _ _ => rfl))) ((.cons (fun _ e => by cases e) (.cons (fun _ e => by cases e; exact ⟨rfl, rfl⟩) .nil)))) pa_nil)) pa_nil)))
      (pss_cons (ps_if (pt_cmpR op_eq (pv 2) pe_str (nomark _))
        (pss_one (ps_ret (pe_tup (pa_cons (pv 2) (pa_cons (pe_callB (call_max2 rfl) (by rfl) T.z_max boot_max (pa_cons (pv 3) (pa_cons (pv 5) pa_nil))) (pa_cons (pv 4) pa_nil))))))
        pss_nil)
      (pss_one (ps_ret (pe_tup (pa_cons (pv 2) (pa_cons (pe_callB (call_min2 rfl) (by rfl) T.z_min boot_min (pa_cons (pv 3) (pa_cons (pv 5) pa_nil))) (pa_cons (pv 4) pa_nil))))))))), ?_⟩
    refine ⟨_, rfl, _, rfl, _, hs.length, rfl, .inl ⟨_, ha, by rw [List.length_map]⟩, n, hs.length, rfl, h1, h6, fun x H1 s1 te tg => ?_⟩
    obtain ⟨tp, t, wd, k, st⟩ := x
    have htp : H1 tp = some (.tup [.str wd, .int k, .ref t]) := te.tp
    have hts : H1 t = some (.tup (st.map fun (i : Nat) => V.int (i : Int))) := te.ts
    have hwd : wd = "most" ∨ wd = "least" := te.wd
    have sl : st.length ≤ 6 := te.sl
    have lt : ∀ i ∈ st, i < hs.length := tg.lt
    have k1 : 1 ≤ k := tg.k1
    have k6 : k ≤ 6 := tg.k6
    have sne : st ≠ [] := tg.ne
    have sup : st.Pairwise (· < ·) := tg.up
    refine ⟨tp, _, rfl, SqT.of htp, rfl, _, _, rfl, _, _, rfl, _, _, rfl, rfl, ?_⟩
    refine ⟨_, rfl, t, rfl, ⟨_, SqT.of hts⟩, ?_⟩
    refine comp_tup (xs := st.map fun (i : Nat) => V.int (i : Int)) (fun _ => true) (fun j => .int (hs.getD (st.getD j 0) 0)) (SqT.of hts) (by rw [List.length_map]; omega) (fun _ _ _ _ _ _ k => k _ (Same.refl _)) (fun j x hx _ H2 R s2 k => ?_) fun acc H2 s2 nacc hacc => ?_
    · obtain ⟨d, hd, rfl, ed⟩ := at_nat hx
      rw [ed] at k
      exact ⟨_, rfl, _, rfl, a, _, _, _, rfl, rfl, (s1.trans s2).seq ha, atI_int (lt d (List.mem_of_getElem? hd)), k _ (Same.refl _)⟩
    rw [all_at] at hacc
    refine ⟨acc, st.map fun i => hs.getD i 0, rfl, SqL.of hacc, by rw [List.length_map]; omega, fun S nS => ⟨S, _, rfl, upd_same, ?_⟩⟩
    have s3 := (s1.trans s2).to (o := .ext (SX w S (dd (st.map fun i => hs.getD i 0)))) nS
    have hts3 := (s2.to (o := .ext (SX w S (dd (st.map fun i => hs.getD i 0)))) nS) _ _ hts
    generalize upd H2 S (.ext (SX w S (dd (st.map fun i => hs.getD i 0)))) = H3 at s3 hts3
    have u1 := unl_pos (f := fun i => hs.getD i 0) sne
    have u6 := unl_le (f := fun i => hs.getD i 0) (st := st)
    have eu : (dd (st.map fun i => hs.getD i 0)).length = unl (fun i => hs.getD i 0) st := rfl
    rw [eu]
    generalize hu' : unl (fun i => hs.getD i 0) st = un at u1 u6
    have fin : ∀ (wd' : Str) (k' : Int), (wd' = "most" ∨ wd' = "least") → 1 ≤ k' → k' ≤ 6 → kp (fun i => hs.getD i 0) wd' k' st = true → ∀ tp2, H3 tp2 = none → Q (.ref tp2) (upd H3 tp2 (.tup [.str wd', .int k', .ref t])) := fun wd' k' hw a1 a6 hk tp2 n2 => by
      have s4 := Same.new (o := .tup [.str wd', .int k', .ref t]) n2
      exact q (tp2, t, wd', k', st) _ (s3.trans s4) ⟨upd_same, s4 _ _ hts3, hw, sl⟩ ⟨a1, a6, sne, lt, sup⟩ hk
    rcases hwd with e | e <;> subst e
    · refine ⟨_, rfl, rfl, _, rfl, iteT ?_⟩
      refine ⟨_, rfl, _, rfl, _, rfl, _, _, rfl, _, rfl, szr, fun tp2 n2 => fin "most" _ (.inl rfl) ?_ ?_ ?_ tp2 n2⟩
      · split <;> omega
      · split <;> omega
      · unfold kp
        rw [if_pos rfl, hu']
        exact decide_eq_true (by split <;> omega)
    · refine ⟨_, rfl, rfl, _, rfl, ?_⟩
      rw [decide_eq_false (by decide)]
      refine iteF ⟨_, rfl, _, rfl, _, rfl, _, _, rfl, _, rfl, szr, fun tp2 n2 => fin "least" _ (.inr rfl) ?_ ?_ ?_ tp2 n2⟩
      · split <;> omega
      · split <;> omega
      · unfold kp
        rw [if_neg (by decide), hu']
        exact decide_eq_true (by split <;> omega)
theorem tOr_w {t u : TT} {σ : L2.St} {H : Hp} {Q : Bool → Hp → Prop} (C : Prop) (h : ∀ R : Bool → Hp → Prop, (∀ H', Same H H' → R true H') → (C → ∀ H', Same H H' → R false H') → tOr t u σ H R) (q1 : ∀ H', Same H H' → Q true H') (q2 : C → ∀ H', Same H H' → Q false H') : tOr t u σ H Q := h Q q1 q2
theorem set_here {dn : List (Option Int)} {i : Nat} {v : Option Int} (h : i < dn.length) : (dn.set i v).getD i none = v := by rw [List.getD_eq_getElem?_getD, List.getElem?_set_self h]; rfl
theorem set_else {dn : List (Option Int)} {i j : Nat} {v : Option Int} (h : i ≠ j) : (dn.set i v).getD j none = dn.getD j none := by rw [List.getD_eq_getElem?_getD, List.getElem?_set_ne h, ← List.getD_eq_getElem?_getD]
structure Dr (H : Hp) (l ma ta o d : Addr) (rs : List Addr) (ps : List (List Int)) (ts : List (Addr × Addr × Str × Int × List Nat)) (es : Ord) (dn : List (Option Int)) (hs ms : List Int) : Prop where
  hl : H l = some (.lst [.ref ma, .ref ta, .ref o, .ref d])
  hm : H ma = some (.lst (rs.map V.ref))
  rw : RowsL H rs ps
  up : ∀ p ∈ ps, p.Pairwise (· < ·)
  sub : ∀ p ∈ ps, ∀ b ∈ p, b ∈ ms
  m5 : ms.length ≤ 5
  ht : H ta = some (.lst (ts.map fun x => V.ref x.1))
  te : ∀ x ∈ ts, TieT H x
  tg : ∀ x ∈ ts, TieG ps.length x
  t6 : ts.length ≤ 6
  ho : RowAt H o es
  e1 : es.length ≤ 100
  ok : ∀ x ∈ es, 0 ≤ x.2 ∧ x.2 < (ps.length : Int)
  hd : H d = some (.lst (dn.map hV))
  dl : dn.length = ps.length
  p5 : ps.length ≤ 5
  ds : ∀ b, some b ∈ dn → b ∈ ms
  ip : IsPlan (heldM ps dn) (ts.map tieOf) hs
noncomputable def sp_law_drawn (K : PySem.W.Frag) : Sp := fun vs H Q _ => ∃ (a : Addr) (ns : List Int), vs = [.ref a] ∧ SqL K H a (ns.map V.int) ∧ ns.length ≤ 63 ∧ ∀ l ma ta o d rs ps ts es dn hs ms H', Same H H' → Dr H' l ma ta o d rs ps ts es dn hs ms → Q (.ref l) H'
theorem sc_law_drawn : FnScope ["script", "count", "menu", "hands", "k", "may", "done", "row", "ahead", "some", "many", "ties"] ["script"] (defScope s_law_drawn) := ⟨rfl, rfl, rfl, by decide +kernel, rfl, by decide +kernel, by decide +kernel⟩
theorem ok_law_drawn (D : Dfs K mg aF dF) (T : Txt mg) : FnOk P w K mg base CX0 3 (aF 30) (dF 30) ["script"] (sp_law_drawn K) := by
  have Glaw_cell : FnOk P w K mg base CX0 1 (aF 21) (dF 21) ["script", "k"] (sp_law_cell K) := ok_law_cell D T
  have Glaw_row : FnOk P w K mg base CX0 1 (aF 23) (dF 23) ["count", "cell"] (sp_law_row K) := ok_law_row D T
  have Glaw_order : FnOk P w K mg base CX0 1 (aF 24) (dF 24) ["cells", "row"] (sp_law_order K) := ok_law_order D T
  have Glaw_menu : FnOk P w K mg base CX0 2 (aF 25) (dF 25) ["script", "at", "wide"] (sp_law_menu K) := ok_law_menu D T
  have Glaw_some : FnOk P w K mg base CX0 1 (aF 26) (dF 26) ["menu", "cell", "step"] (sp_law_some K) := ok_law_some D T
  have Glaw_kept_tie : FnOk P w K mg base CX0 2 (aF 29) (dF 29) ["number", "hands"] (sp_law_kept_tie K) := ok_law_kept_tie D T
  refine D.law_drawn.fn.ok sc_law_drawn (fun vs H Q E h => ?_) (fun cdv A outer s H vs Q E hr h => ?_)
  · obtain ⟨a, ns, rfl, _⟩ := h; rfl
  · have hu := hu_of hr
    obtain ⟨a, ns, rfl, hS, hl, q⟩ := h
    refine ⟨_, (pss_cons (ps_set (i := 1) sc_law_drawn.nd rfl (Or.inl rfl) (pe_op op_add pe_int (pe_op op_mod (pc D.law_cell Glaw_cell (hr.mono (by decide)) (pa_cons (pv 0) (pa_cons pe_int pa_nil))) pe_int)))
      (pss_cons (ps_set (i := 2) sc_law_drawn.nd rfl (Or.inr rfl) (pc D.law_menu Glaw_menu (hr.mono (by decide)) (pa_cons (pv 0) (pa_cons pe_int (pa_cons pe_int pa_nil)))))
      (pss_cons (ps_set (i := 3) sc_law_drawn.nd rfl (Or.inr rfl) (pe_lcomp ["k", "menu", "script"] [none, some 2, some 0] rfl (pi_range1 rfl T.z_range (pa_cons (pv 1) pa_nil)) (fun _ => pg_name (i := 0) (nodupN (N := ["k", "menu", "script"]) (by decide +kernel)) rfl (Or.inl rfl)) (fun _ => pif_nil) (fun _ => (pe_ix (ixL K) (pv 1) (pe_op op_mod (pc D.law_cell Glaw_cell (hr.mono (by decide)) (pa_cons (pv 2) (pa_cons (pe_op op_add pe_int (pv 0)) pa_nil))) (pe_callB (cLen K) (by rfl) T.z_len boot_len (pa_cons (pv 1) pa_nil))) (fun _ _ => rfl))) ((.cons (fun _ e => by cases e) (.cons (fun _ e => by cases e; exact ⟨rfl, rfl⟩) (.cons (fun _ e => by cases e; exact ⟨rfl, rfl⟩) .nil))))))
      (pss_cons (ps_set (i := 5) sc_law_drawn.nd rfl (Or.inl rfl) (pe_lst pa_nil))
      (pss_cons (ps_set (i := 6) sc_law_drawn.nd rfl (Or.inl rfl) (pe_op op_rep (pe_lst (pa_cons pe_non pa_nil)) (pv 1)))
      (pss_cons (ps_set (i := 7) sc_law_drawn.nd rfl (Or.inl rfl) (pc D.law_row Glaw_row (hr.mono (by decide)) (pa_cons (pv 1) (pa_cons (pc D.law_cell Glaw_cell (hr.mono (by decide)) (pa_cons (pv 0) (pa_cons pe_int pa_nil))) pa_nil))))
      (pss_cons (ps_set (i := 8) sc_law_drawn.nd rfl (Or.inl rfl) (pe_slice (slL K) (pv 7) po_none (po_some (pe_op op_mod (pc D.law_cell Glaw_cell (hr.mono (by decide)) (pa_cons (pv 0) (pa_cons pe_int pa_nil))) (pe_op op_add (pv 1) pe_int)))))
      (pss_cons (ps_for PassesOwn.never rfl (pi_range1 rfl T.z_range (pa_cons (pv 1) pa_nil)) (pg_name (i := 4) sc_law_drawn.nd rfl (Or.inl rfl))
        (pss_cons (ps_set (i := 9) sc_law_drawn.nd rfl (Or.inl rfl) (pc D.law_some Glaw_some (hr.mono (by decide)) (pa_cons (pv 2) (pa_cons (pc D.law_cell Glaw_cell (hr.mono (by decide)) (pa_cons (pv 0) (pa_cons (pe_op op_add pe_int (pv 4)) pa_nil))) (pa_cons pe_int pa_nil)))))
        (pss_cut (ps_if (pt_cmpR (inS K) (pv 4) (pv 8) (by with_unfolding_all rfl))
          (pss_one (ps_asg (pe_ix (ixL K) (pv 3) (pv 4) (fun _ _ => rfl)) (pg_sub (pv 6) (pv 4) set_list)))
          pss_nil)
        (pss_cut (ps_if (PW.pt (pw_or (pt_cmpR (ninS K) (pv 4) (pv 8) (by with_unfolding_all rfl)) (pw_or1 (pt_cmpR op_eq (pe_op op_mod (pe_op op_fdiv (pc D.law_cell Glaw_cell (hr.mono (by decide)) (pa_cons (pv 0) (pa_cons pe_int pa_nil))) pe_int) pe_int) pe_int (nomark _)))))
          (pss_one (ps_set (i := 9) sc_law_drawn.nd rfl (Or.inl rfl) (pe_callB (cSortedS w) (by rfl) T.z_sorted boot_sorted (pa_cons (pe_callTy (cSet w K) (by rfl) T.z_set PyProof.Rows.boot_set (pa_cons (pe_op op_cat (pv 9) (pe_lst (pa_cons (pe_ix (ixL K) (pv 3) (pv 4) (fun _ _ => rfl)) pa_nil))) pa_nil)) pa_nil))))
          pss_nil)
        (pss_one (ps_expr (pe_bm PySem.F.plainAttrs_list PySem.F.slot_list_append PySem.F.type_list_append mt_append (pv 5) (pa_cons (pv 9) pa_nil))))))))
      (pss_cons (ps_set (i := 10) sc_law_drawn.nd rfl (Or.inl rfl) (pe_op op_mod (pe_op op_fdiv (pc D.law_cell Glaw_cell (hr.mono (by decide)) (pa_cons (pv 0) (pa_cons pe_int pa_nil))) pe_int) pe_int))
      (pss_cons (ps_setC (i₀ := 11) sc_law_drawn.nd rfl (Or.inl rfl) ["k", "script", "hands"] [none, some 0, some 3] rfl (pi_range1 rfl T.z_range (pa_cons (pv 10) pa_nil)) (fun _ => pg_name (i := 0) (nodupN (N := ["k", "script", "hands"]) (by decide +kernel)) rfl (Or.inl rfl)) (fun _ => pif_nil) (fun _ => (pc D.law_kept_tie Glaw_kept_tie (hr.mono (by decide)) (pa_cons (pc D.law_cell Glaw_cell (hr.mono (by decide)) (pa_cons (pv 1) (pa_cons (pe_op op_add pe_int (pv 0)) pa_nil))) (pa_cons (pv 2) pa_nil)))) ((.cons (fun _ e => by cases e) (.cons (fun _ e => by cases e; exact ⟨rfl, rfl⟩) (.cons (fun _ e => by cases e; exact ⟨rfl, rfl⟩) .nil)))))
      (pss_one (ps_ret (pe_lst (pa_cons (pv 5) (pa_cons (pv 11) (pa_cons (pc D.law_order Glaw_order (hr.mono (by decide)) (pa_cons (pe_slice (slL K) (pv 0) (po_some pe_int) (po_some pe_int)) (pa_cons (pv 7) pa_nil))) (pa_cons (pv 6) pa_nil))))))))))))))))), ?_⟩
    refine ⟨_, rfl, a, ns, 0, rfl, hS, by omega, by decide, fun H1 s1 => ⟨_, _, rfl, rfl, (show (0 : Int) < 5 by decide), _, _, rfl, rfl, ?_⟩⟩
    obtain ⟨m, m5, em⟩ := modN (cv ns 0) (n := 5) (by decide)
    have ec : 1 + cv ns 0 % 5 = ((1 + m : Nat) : Int) := by
      have em : cv ns 0 % 5 = (m : Int) := em
      omega
    dsimp only
    rw [ec]
    obtain ⟨cn, ecn⟩ : ∃ cn, cn = 1 + m := ⟨_, rfl⟩
    rw [← ecn]
    refine ⟨_, rfl, a, ns, 3, 5, rfl, s1.seq hS, by omega, by decide, by decide, by decide, fun mn ms H2 s2 nmn hmn mup mlen mne mb => ?_⟩
    have s02 := s1.trans s2
    refine ⟨_, rfl, _, rfl, lo62 _, by omega, ?_⟩
    rw [Int.toNat_natCast]
    refine comp_invR (n := cn) (fun _ ys _ => ∃ hs : List Int, ys = hs.map V.int ∧ ∀ b ∈ hs, b ∈ ms) (by omega) (fun _ _ _ _ h _ => h) (fun _ _ => ⟨[], rfl, fun _ z => by cases z⟩) (fun acc j ys H3 R hj s3 nacc hacc yl ⟨hs, e, hin⟩ k => ?_) fun hb ys H3 s3 nhb hhb yl ⟨hs, e, hin⟩ => ?_
    · have e2 : (8 : Int) + (0 + (j : Int)) = ((8 + j : Nat) : Int) := by omega
      refine ⟨_, rfl, _, rfl, _, rfl, _, _, rfl, rfl, a, ns, 8 + j, (by show [V.ref a, V.int (8 + (0 + (j : Int)))] = _; rw [e2]), (s02.trans s3).seq hS, by omega, by omega, fun H4 s4 => ?_⟩
      obtain ⟨bj, bl, hbj, ml⟩ := mod_at (cv ns (8 + j)) mne
      have hmn4 := s4 _ _ (s3 _ _ hmn)
      refine ⟨_, rfl, _, _, rfl, .inl ⟨_, SqL.of hmn4, rfl⟩, _, _, rfl, rfl, ml, mn, _, _, _, rfl, rfl, SqL.of hmn4, (by (try dsimp only); rw [hbj]; exact atI_int bl), k _ H4 s4 ⟨hs ++ [ms.getD bj 0], by rw [e, List.map_append]; rfl, fun b hb => ?_⟩⟩
      rcases List.mem_append.mp hb with z | z
      · exact hin b z
      · rw [List.mem_singleton.mp z, getD_get bl]; exact List.getElem_mem bl
    subst e
    rw [List.length_map] at yl
    have s03 := s02.trans s3
    have hmn3 := s3 _ _ hmn
    refine ⟨szr, fun ml nml => ?_⟩
    have s4 := Same.new (o := .lst []) nml
    have hml : upd H3 ml (.lst []) ml = some (.lst []) := upd_same
    generalize upd H3 ml (.lst []) = H4 at s4 hml
    refine ⟨szr, fun l0 n0 => ⟨_, rfl, l0, _, _, rfl, rfl, upd_same, by omega, by omega, by show 1 * _ ≤ _; exact szl (by omega), fun dl ndl => ?_⟩⟩
    rw [Int.toNat_natCast, rep_flat]
    have s5 := Same.new (o := .lst [.non]) n0
    have hml5 := s5 _ _ hml
    generalize upd H4 l0 (.lst [.non]) = H5 at s5 hml5 ndl
    have s6 := Same.new (o := .lst (List.replicate cn .non)) ndl
    have hdl : upd H5 dl (.lst (List.replicate cn .non)) dl = some (.lst ((List.replicate cn none).map hV)) := by rw [upd_same, List.map_replicate]; rfl
    have hml6 := s6 _ _ hml5
    generalize upd H5 dl (.lst (List.replicate cn .non)) = H6 at s6 hdl hml6
    have ndl3 : H3 dl = none := (s4.trans s5).free ndl
    have s36 := (s4.trans s5).trans s6
    have s06 := s03.trans s36
    refine ⟨_, rfl, _, rfl, a, ns, 1, rfl, s06.seq hS, by omega, by decide, fun H7 s7 => ⟨cn, _, rfl, by omega, fun rw' r H8 s8 nrw hrw pr => ?_⟩⟩
    have s68 := s7.trans s8
    have s08 := s06.trans s68
    refine ⟨_, rfl, _, rfl, a, ns, 2, rfl, s08.seq hS, by omega, by decide, fun H9 s9 => ?_⟩
    refine ⟨_, rfl, _, _, rfl, rfl, _, _, rfl, rfl, (show (0 : Int) < ((cn : Nat) : Int) + 1 by omega), _, rfl, rw', _, rfl, SqL.of (s9 _ _ hrw), fun ah nah => ?_⟩
    obtain ⟨am, ham, eam⟩ := modN (cv ns 2) (n := cn + 1) (by omega)
    have eam : cv ns 2 % ((cn : Int) + 1) = (am : Int) := eam
    dsimp only
    rw [eam, cut_to, ← List.map_take]
    have s10 := Same.new (o := .lst ((r.take am).map V.int)) nah
    have hah : upd H9 ah (.lst ((r.take am).map V.int)) ah = some (.lst ((r.take am).map V.int)) := upd_same
    generalize upd H9 ah (.lst ((r.take am).map V.int)) = HA at s10 hah
    generalize r.take am = ar at hah
    have s6A := (s68.trans s9).trans s10
    have s0A := s06.trans s6A
    have s3A := s36.trans s6A
    have hhbA := s3A _ _ hhb
    have hmnA := s3A _ _ hmn3
    have hrwA := (s9.trans s10) _ _ hrw
    have hmlA := s6A _ _ hml6
    have hdlA := s6A _ _ hdl
    have ndm : dl ≠ ml := fun z => by rw [z, hml5] at ndl; cases ndl
    have nd0 : H dl = none := s03.free ndl3
    have nm0 : H ml = none := s03.free nml
    have n1 : hb ≠ dl := fun z => by have := (s4.trans s5) _ _ hhb; rw [z, ndl] at this; cases this
    have n2 : mn ≠ dl := fun z => by have := (s4.trans s5) _ _ hmn3; rw [z, ndl] at this; cases this
    have n3 : rw' ≠ dl := fun z => by have := s7 _ _ hdl; rw [← z, nrw] at this; cases this
    have n4 : ah ≠ dl := fun z => by have := (s68.trans s9) _ _ hdl; rw [← z, nah] at this; cases this
    have m1 : hb ≠ ml := fun z => by rw [z, nml] at hhb; cases hhb
    have m2 : mn ≠ ml := fun z => by rw [z, nml] at hmn3; cases hmn3
    have m3 : rw' ≠ ml := fun z => by have := s7 _ _ hml6; rw [← z, nrw] at this; cases this
    have m4 : ah ≠ ml := fun z => by have := (s68.trans s9) _ _ hml6; rw [← z, nah] at this; cases this
    refine ⟨_, rfl, _, rfl, lo62 _, by omega, ?_⟩
    rw [Int.toNat_natCast]
    refine for_range (n := cn) (fun i σ Hx => ∃ (x y : Option V) (rs : List Addr) (ps : List (List Int)) (dn : List (Option Int)), σ = [some (.ref a), some (.int (cn : Int)), some (.ref mn), some (.ref hb), x, some (.ref ml), some (.ref dl), some (.ref rw'), some (.ref ah), y, none, none] ∧ Same H Hx ∧ Hx hb = some (.lst (hs.map V.int)) ∧ Hx mn = some (.lst (ms.map V.int)) ∧ Hx rw' = some (.lst (r.map V.int)) ∧ Hx ah = some (.lst (ar.map V.int)) ∧ Hx ml = some (.lst (rs.map V.ref)) ∧ Hx dl = some (.lst (dn.map hV)) ∧ RowsL Hx rs ps ∧ (∀ u ∈ rs, u ≠ dl ∧ u ≠ ml) ∧ ps.length = i ∧ (∀ p ∈ ps, p.Pairwise (· < ·)) ∧ (∀ p ∈ ps, ∀ b ∈ p, b ∈ ms) ∧ dn.length = cn ∧ (∀ j, j < cn → dn.getD j none = none ∨ dn.getD j none = some (hs.getD j 0)) ∧ ∀ j, j < i → dn.getD j none = none → hs.getD j 0 ∈ ps.getD j [])
      ⟨_, none, [], [], List.replicate cn none, rfl, s0A, hhbA, hmnA, hrwA, hah, hmlA, hdlA, .nil, (fun _ z => by cases z), rfl, (fun _ z => by cases z), (fun _ z => by cases z), List.length_replicate, (fun j hj => .inl (by rw [List.getD_eq_getElem?_getD, List.getElem?_replicate, if_pos hj]; rfl)), fun j hj => by omega⟩ ?_ ?_
    · rintro i σ Hx hi ⟨x, y, rs, ps, dn, rfl, sx, h1, h2, h3, h4, h5, h6, rws, nrs, pl, pup, psub, dln, dall, din⟩
      have ei : (0 : Int) + (i : Int) = ((i : Nat) : Int) := by omega
      rw [ei]
      have e13 : (13 : Int) + ((i : Nat) : Int) = ((13 + i : Nat) : Int) := by omega
      refine ⟨_, rfl, _, rfl, _, rfl, _, _, rfl, rfl, a, ns, 13 + i, (by show [V.ref a, V.int (13 + ((i : Nat) : Int))] = _; rw [e13]), sx.seq hS, by omega, by omega, fun H11 s11 => ?_⟩
      refine ⟨mn, ms, _, 2, rfl, SqL.of (s11 _ _ h2), by omega, by decide, by decide, fun sl ks H12 s12 nsl hsl ksub => ?_⟩
      have sy := s11.trans s12
      have s0y := sx.trans sy
      have hs_i := atI_int (ns := hs) (j := i) (by omega)
      have hsm : hs.getD i 0 ∈ ms := hin _ (by rw [getD_get (by omega)]; exact List.getElem_mem _)
      have kup : ks.Pairwise (· < ·) := mup.sublist ksub
      have kl : ks.length ≤ 5 := Nat.le_trans ksub.length_le mlen
      have sld : sl ≠ dl := fun z => by have := s11 _ _ h6; rw [← z, nsl] at this; cases this
      have slm : sl ≠ ml := fun z => by have := s11 _ _ h5; rw [← z, nsl] at this; cases this
      refine ⟨fun σ Hz => ∃ (dn2 : List (Option Int)), σ = [some (.ref a), some (.int (cn : Int)), some (.ref mn), some (.ref hb), some (.int ((i : Nat) : Int)), some (.ref ml), some (.ref dl), some (.ref rw'), some (.ref ah), some (.ref sl), none, none] ∧ Same H Hz ∧ Hz hb = some (.lst (hs.map V.int)) ∧ Hz mn = some (.lst (ms.map V.int)) ∧ Hz rw' = some (.lst (r.map V.int)) ∧ Hz ah = some (.lst (ar.map V.int)) ∧ Hz ml = some (.lst (rs.map V.ref)) ∧ Hz dl = some (.lst (dn2.map hV)) ∧ Hz sl = some (.lst (ks.map V.int)) ∧ RowsL Hz rs ps ∧ dn2.length = cn ∧ (∀ j, j < cn → dn2.getD j none = none ∨ dn2.getD j none = some (hs.getD j 0)) ∧ (∀ j, j < i → dn2.getD j none = none → hs.getD j 0 ∈ ps.getD j []) ∧ ((i : Int) ∈ ar → dn2.getD i none ≠ none), ?_, ?_⟩
      · refine ⟨_, rfl, _, rfl, ah, _, rfl, .inl (SqL.of (sy _ _ h4)), rfl, flat_all _, ?_⟩
        rw [if_neg Bool.false_ne_true, inV_int]
        refine ⟨_, rfl, ifD (fun ia => ?_) fun ia => ?_⟩
        · refine ⟨_, rfl, _, rfl, hb, _, _, _, rfl, rfl, SqL.of (sy _ _ h1), hs_i, _, rfl, _, rfl, dl, _, _, i, rfl, rfl, sy _ _ h6, ixN_natE (by rw [List.length_map, dln]; exact hi), ?_⟩
          refine ⟨dn.set i (some (hs.getD i 0)), rfl, s0y.put nd0, (by rw [upd_ne n1]; exact sy _ _ h1), (by rw [upd_ne n2]; exact sy _ _ h2), (by rw [upd_ne n3]; exact sy _ _ h3), (by rw [upd_ne n4]; exact sy _ _ h4), (by rw [upd_ne (Ne.symm ndm)]; exact sy _ _ h5), (by rw [upd_same, List.map_set]; rfl), (by rw [upd_ne sld]; exact hsl), (rws.same sy).but (fun u hu => (nrs u hu).1) SameBut.upd, by rw [List.length_set]; exact dln, fun j hj => ?_, fun j hj => ?_, fun _ => ?_⟩
          · by_cases z : i = j
            · subst z; exact .inr (set_here (by omega))
            · rw [set_else z]; exact dall j hj
          · rw [set_else (by omega)]; exact din j hj
          · rw [set_here (by omega)]; simp
        · exact ⟨dn, rfl, s0y, sy _ _ h1, sy _ _ h2, sy _ _ h3, sy _ _ h4, sy _ _ h5, sy _ _ h6, hsl, rws.same sy, dln, dall, din, fun z => absurd z ia⟩
      · rintro σ Hz ⟨dn2, rfl, sz, g1, g2, g3, g4, g5, g6, gs, gr, dln2, dall2, din2, dia⟩
        refine ⟨fun σ Hw => ∃ (sl2 : Addr) (kk : List Int), σ = [some (.ref a), some (.int (cn : Int)), some (.ref mn), some (.ref hb), some (.int ((i : Nat) : Int)), some (.ref ml), some (.ref dl), some (.ref rw'), some (.ref ah), some (.ref sl2), none, none] ∧ Same Hz Hw ∧ Hw sl2 = some (.lst (kk.map V.int)) ∧ kk.Pairwise (· < ·) ∧ (∀ b ∈ kk, b ∈ ms) ∧ (dn2.getD i none = none → hs.getD i 0 ∈ kk) ∧ sl2 ≠ dl ∧ sl2 ≠ ml, ?_, ?_⟩
        · refine tOr_w ((i : Int) ∈ ar) (fun R r1 r2 => ?_) (fun Hv sv => iteT ?_) fun ia Hv sv => iteF ⟨sl, ks, rfl, sv, sv _ _ gs, kup, fun b hb => ksub.subset hb, fun z => absurd z (dia ia), sld, slm⟩
          · refine ⟨_, rfl, _, rfl, ah, _, rfl, .inl (SqL.of g4), rfl, flat_all _, ?_⟩
            rw [if_pos rfl, inV_int]
            refine ⟨_, rfl, ?_⟩
            by_cases ia : (i : Int) ∈ ar
            · rw [decide_eq_true ia]
              refine iteF ⟨_, rfl, a, ns, 2, rfl, sz.seq hS, by omega, by decide, fun Hv sv => ⟨_, _, rfl, rfl, (show CDiv _ 6 from ⟨by decide, by decide⟩), _, _, rfl, rfl, (show (0 : Int) < 2 by decide), rfl, _, rfl, ?_⟩⟩
              exact Rany (r1 Hv sv) (r2 ia Hv sv)
            · rw [decide_eq_false ia]
              exact iteT (r1 Hz (Same.refl _))
          · refine ⟨_, rfl, _, rfl, _, rfl, hb, _, _, _, rfl, rfl, SqL.of (sv _ _ g1), hs_i, szr, fun p np => ?_⟩
            have s13 := Same.new (o := .lst [V.int (hs.getD i 0)]) np
            refine ⟨sl, p, _, _, rfl, rfl, s13 _ _ (sv _ _ gs), upd_same, szl (by simp; omega), fun c nc => ?_⟩
            have e5 : ks.map V.int ++ [V.int (hs.getD i 0)] = (ks ++ [hs.getD i 0]).map V.int := by rw [List.map_append]; rfl
            rw [e5]
            have s14 := s13.to (o := .lst ((ks ++ [hs.getD i 0]).map V.int)) nc
            refine ⟨c, _, rfl, SqL.of upd_same, by simp; omega, fun S nS => ⟨S, dd (ks ++ [hs.getD i 0]), rfl, upd_same, by have := dd_len (ks ++ [hs.getD i 0]); rw [List.length_append, List.length_singleton] at this; omega, fun r2 k2 nr2 hp srt => ?_⟩⟩
            have s15 := s14.to (o := .ext (SX w S (dd (ks ++ [hs.getD i 0])))) nS
            have s16 := s15.to (o := .lst (k2.map V.int)) nr2
            have mk : ∀ b, b ∈ k2 ↔ b ∈ ks ∨ b = hs.getD i 0 := fun b => by rw [hp.mem_iff, dd_mem]; simp
            refine ⟨r2, k2, rfl, sv.trans s16, upd_same, sort_lt srt (hp.nodup_iff.mpr (dd_nd _)), fun b hb => ?_, fun _ => (mk _).mpr (.inr rfl), fun z => ?_, fun z => ?_⟩
            · rcases (mk b).mp hb with y | y
              · exact ksub.subset y
              · rw [y]; exact hsm
            · have := s15 _ _ (sv _ _ g6); rw [← z, nr2] at this; cases this
            · have := s15 _ _ (sv _ _ g5); rw [← z, nr2] at this; cases this
        · rintro σ Hw ⟨sl2, kk, rfl, sw, hs2, kku, kks, kki, q1, q2⟩
          have rl2 := gr.len
          have g5w := sw _ _ g5
          refine ⟨_, rfl, .inl ⟨rfl, _, SqL.of g5w⟩, _, rfl, ml, _, _, rfl, rfl, g5w, szn (by rw [List.length_map]; omega), ?_⟩
          refine ⟨_, _, rs ++ [sl2], ps ++ [kk], dn2, rfl, (sz.trans sw).put nm0, (by rw [upd_ne m1]; exact sw _ _ g1), (by rw [upd_ne m2]; exact sw _ _ g2), (by rw [upd_ne m3]; exact sw _ _ g3), (by rw [upd_ne m4]; exact sw _ _ g4), (by rw [upd_same, List.map_append]; rfl), (by rw [upd_ne ndm]; exact sw _ _ g6), ?_, fun u hu => ?_, by rw [List.length_append, List.length_singleton, pl], fun p hp => ?_, fun p hp => ?_, dln2, dall2, fun j hj hn => ?_⟩
          · exact paired_snoc_len ((gr.same sw).but (fun u hu => (nrs u hu).2) SameBut.upd) (by rw [upd_ne q2]; exact hs2)
          · rcases List.mem_append.mp hu with z | z
            · exact nrs u z
            · rw [List.mem_singleton.mp z]; exact ⟨q1, q2⟩
          · rcases List.mem_append.mp hp with z | z
            · exact pup p z
            · rw [List.mem_singleton.mp z]; exact kku
          · rcases List.mem_append.mp hp with z | z
            · exact psub p z
            · rw [List.mem_singleton.mp z]; exact kks
          · by_cases z : j < ps.length
            · rw [List.getD_eq_getElem?_getD (l := ps ++ [kk]), List.getElem?_append_left z, ← List.getD_eq_getElem?_getD]
              exact din2 j (by omega) hn
            · have ej : j = ps.length := by omega
              rw [List.getD_eq_getElem?_getD (l := ps ++ [kk]), ej, List.getElem?_append_right (Nat.le_refl _), Nat.sub_self]
              rw [ej, pl] at hn
              rw [pl]
              exact kki hn
    · rintro σ Hx ⟨x, y, rs, ps, dn, rfl, sx, h1, h2, h3, h4, h5, h6, rws, nrs, pl, pup, psub, dln, dall, din⟩
      refine ⟨_, rfl, a, ns, 1, rfl, sx.seq hS, by omega, by decide, fun H20 s20 => ⟨_, _, rfl, rfl, (show CDiv _ 7 from ⟨by decide, by decide⟩), _, _, rfl, rfl, (show (0 : Int) < 7 by decide), ?_⟩⟩
      obtain ⟨mt, hmt, emt⟩ := modN (cv ns 1 / 7) (n := 7) (by decide)
      have emt : cv ns 1 / 7 % 7 = (mt : Int) := emt
      dsimp only
      rw [emt]
      have s020 := sx.trans s20
      refine ⟨_, rfl, _, rfl, lo62 _, by omega, ?_⟩
      rw [Int.toNat_natCast]
      refine comp_invR (n := mt) (fun acc ys Hy => ∃ ts : List (Addr × Addr × Str × Int × List Nat), ys = ts.map (fun x => V.ref x.1) ∧ ∀ x ∈ ts, TieT Hy x ∧ x.1 ≠ acc ∧ x.2.1 ≠ acc ∧ TieG hs.length x ∧ kpX hs x = true) (by omega)
        (fun acc ys Hx Hy ⟨ts', e, al⟩ sb => ⟨ts', e, fun x hx => ⟨(al x hx).1.but (al x hx).2.1 (al x hx).2.2.1 sb, (al x hx).2⟩⟩) (fun _ _ => ⟨[], rfl, fun _ z => by cases z⟩) (fun acc j ys H21 R hj s21 nacc hacc yl3 ⟨ts', e, al3⟩ k => ?_) fun ta ys H21 s21 nta hta yl3 ⟨ts, e, al⟩ => ?_
      · have e2 : (18 : Int) + (0 + (j : Int)) = ((18 + j : Nat) : Int) := by omega
        refine ⟨_, rfl, _, rfl, _, _, rfl, rfl, a, ns, 18 + j, (by show [V.ref a, V.int (18 + (0 + (j : Int)))] = _; rw [e2]), (s020.trans s21).seq hS, by omega, by omega, fun H22 s22 => ?_⟩
        refine ⟨_, rfl, _, hb, hs, rfl, SqL.of (s22 _ _ (s21 _ _ (s20 _ _ h1))), by omega, by omega, fun x' H23 s23 tx gx kx => k _ H23 (s22.trans s23) ⟨ts' ++ [x'], by rw [e, List.map_append]; rfl, fun z hz => ?_⟩⟩
        rcases List.mem_append.mp hz with u | u
        · obtain ⟨a1, a2⟩ := al3 z u
          exact ⟨a1.same (s22.trans s23), a2⟩
        · rw [List.mem_singleton.mp u]
          have ap := tx.apart ((s22.trans s23) _ _ hacc)
          exact ⟨tx, ap.1, ap.2, gx, kx⟩
      subst e
      rw [List.length_map] at yl3
      have sx21 := s20.trans s21
      have s021 := sx.trans sx21
      refine ⟨_, rfl, _, rfl, _, rfl, _, rfl, _, rfl, a, _, rfl, s021.seq hS, fun c5 nc5 => ?_⟩
      have ecut : cutV (ns.map V.int) (some 24) (some 34) = ((ns.drop 24).take 10).map V.int := (cut_mid (ns.map V.int) 24 34).trans (by rw [List.map_take, List.map_drop])
      rw [ecut]
      have s24 := Same.new (o := .lst (((ns.drop 24).take 10).map V.int)) nc5
      have hc5 : upd H21 c5 (.lst (((ns.drop 24).take 10).map V.int)) c5 = some (.lst (((ns.drop 24).take 10).map V.int)) := upd_same
      have l10 : ((ns.drop 24).take 10).length ≤ 10 := by rw [List.length_take]; omega
      generalize upd H21 c5 (.lst (((ns.drop 24).take 10).map V.int)) = H24 at s24 hc5
      have rl := (perm_rng pr).1
      refine ⟨_, rfl, c5, rw', (ns.drop 24).take 10, r, rfl, SqL.of hc5, by omega, (sx21.trans s24) _ _ h3, by omega, by omega, fun lo es H25 s25 nlo ro le ok => ?_⟩
      have sx25 := (sx21.trans s24).trans s25
      refine ⟨_, rfl, szr, fun l nl => ?_⟩
      have s26 := Same.new (o := .lst [.ref ml, .ref ta, .ref lo, .ref dl]) nl
      have sx26 := sx25.trans s26
      have s2126 := (s24.trans s25).trans s26
      have hml' : (heldM ps dn).length = ps.length := heldM_len
      refine q l ml ta lo dl rs ps ts es dn hs ms _ (sx.trans sx26) ⟨upd_same, sx26 _ _ h5, rws.same sx26, pup, psub, mlen, s2126 _ _ hta, fun x hx => (al x hx).1.same s2126, fun x hx => by rw [pl, ← yl]; exact (al x hx).2.2.2.1, by omega, ro.same s26, by omega, fun x hx => ?_, sx26 _ _ h6, by omega, by omega, fun b hb => ?_, ⟨by omega, fun i hi => ?_, fun t ht => ?_⟩⟩
      · obtain ⟨i, j, _, _, z2⟩ := ok x hx
        have := ((perm_rng pr).2.2 _).mp (List.mem_of_getElem? z2)
        rw [pl]
        exact this
      · obtain ⟨j, hj⟩ := List.mem_iff_getElem?.mp hb
        have hjl := (List.getElem?_eq_some_iff.mp hj).1
        have ej : dn.getD j none = some b := atD hj
        rcases dall j (by omega) with z | z
        · rw [ej] at z; cases z
        · rw [ej] at z
          cases z
          exact hin _ (by rw [getD_get (by omega)]; exact List.getElem_mem _)
      · rw [heldM_getD (by omega)]
        rcases dall i (by omega) with z | z
        · rw [z]; exact din i (by omega) z
        · rw [z]; exact List.mem_singleton.mpr rfl
      · obtain ⟨z, hz, rfl⟩ := List.mem_map.mp ht
        exact (al z hz).2.2.2.2
noncomputable def sp_law (K : PySem.W.Frag) : Sp := fun vs H Q _ => ∃ (a : Addr) (ns : List Int), vs = [.ref a] ∧ SqL K H a (ns.map V.int) ∧ ns.length ≤ 63 ∧ ∀ H', Q (.bl true) H'
theorem sc_law : FnScope ["script", "may", "ties", "order", "done", "handed", "some", "found", "lists", "hand"] ["script"] (defScope s_law) := ⟨rfl, rfl, rfl, by decide +kernel, rfl, by decide +kernel, by decide +kernel⟩
theorem ok_law (D : Dfs K mg aF dF) (T : Txt mg) : FnOk P w K mg base CX0 40 (aF 31) (dF 31) ["script"] (sp_law K) := by
  have Gmend : FnOk P w K mg base CX0 39 (aF 20) (dF 20) ["may", "ties", "order", "done"] (sp_mend K) := ok_mend D T
  have Glaw_fits : FnOk P w K mg base CX0 2 (aF 28) (dF 28) ["hands", "may", "ties"] (sp_law_fits K) := ok_law_fits D T
  have Glaw_drawn : FnOk P w K mg base CX0 3 (aF 30) (dF 30) ["script"] (sp_law_drawn K) := ok_law_drawn D T
  refine D.law.fn.ok sc_law (fun vs H Q E h => ?_) (fun cdv A outer s H vs Q E hr h => ?_)
  · obtain ⟨a, ns, rfl, _⟩ := h; rfl
  · have hu := hu_of hr
    obtain ⟨a, ns, rfl, hS, hl, q⟩ := h
    refine ⟨_, (pss_cons (ps_asg (pc D.law_drawn Glaw_drawn (hr.mono (by decide)) (pa_cons (pv 0) pa_nil)) (pgTL K rfl (pgs_cons (pg_name (i := 1) sc_law.nd rfl (Or.inl rfl)) (pgs_cons (pg_name (i := 2) sc_law.nd rfl (Or.inl rfl)) (pgs_cons (pg_name (i := 3) sc_law.nd rfl (Or.inl rfl)) (pgs_cons (pg_name (i := 4) sc_law.nd rfl (Or.inl rfl)) pgs_nil))))))
      (pss_cons (ps_set (i := 5) sc_law.nd rfl (Or.inl rfl) (pe_lst (pa_cons (pe_lcomp ["some"] [none] rfl (piL K (pv 1)) (fun _ => pg_name (i := 0) (nodupN (N := ["some"]) (by decide +kernel)) rfl (Or.inl rfl)) (fun _ => pif_nil) (fun _ => (pe_callTy (cList K) (by rfl) T.z_list boot_list (pa_cons (pv 0) pa_nil))) ((.cons (fun _ e => by cases e) .nil))) (pa_cons (pe_callTy (cList K) (by rfl) T.z_list boot_list (pa_cons (pv 2) pa_nil)) (pa_cons (pe_callTy (cList K) (by rfl) T.z_list boot_list (pa_cons (pv 3) pa_nil)) (pa_cons (pe_callTy (cList K) (by rfl) T.z_list boot_list (pa_cons (pv 4) pa_nil)) pa_nil))))))
      (pss_cons (ps_set (i := 7) sc_law.nd rfl (Or.inl rfl) (pc D.mend Gmend (hr.mono (by decide)) (pa_cons (pe_ix (ixL K) (pv 5) pe_int (fun _ _ => rfl)) (pa_cons (pe_ix (ixL K) (pv 5) pe_int (fun _ _ => rfl)) (pa_cons (pe_ix (ixL K) (pv 5) pe_int (fun _ _ => rfl)) (pa_cons (pe_ix (ixL K) (pv 5) pe_int (fun _ _ => rfl)) pa_nil))))))
      (pss_cons (ps_if (PW.pt (pw_or (pt_cmpR (neD K hr.units) (pv 5) (pe_lst (pa_cons (pv 1) (pa_cons (pv 2) (pa_cons (pv 3) (pa_cons (pv 4) pa_nil))))) (nomark _)) (pw_or (pt_not (pt_val (pe_callB (cIsi K) (by rfl) T.z_isinstance boot_isinstance (pa_cons (pv 7) (pa_cons (ty_tuple T.z_tuple) pa_nil))))) (pw_or1 (pt_cmpR op_ne (pe_callB (cLen K) (by rfl) T.z_len boot_len (pa_cons (pv 7) pa_nil)) pe_int (nomark _))))))
        (pss_one (ps_ret pe_bl))
        pss_nil)
      (pss_cons (ps_if (PW.pt (pw_or (pt_cmpR op_ne (pe_ix (ixT K) (pv 7) pe_int (fun _ _ => rfl)) pe_str (nomark _)) (pw_or (pt_cmpR (neD K hr.units) (pe_ix (ixT K) (pv 7) pe_int (fun _ _ => rfl)) (pe_lst pa_nil) (nomark _)) (pw_or1 (pt_cmpR (neD K hr.units) (pe_ix (ixT K) (pv 7) pe_int (fun _ _ => rfl)) (pe_lst pa_nil) (nomark _))))))
        (pss_one (ps_ret pe_bl))
        pss_nil)
      (pss_cons (ps_set (i := 8) sc_law.nd rfl (Or.inl rfl) (pe_lst pa_nil))
      (pss_cons (ps_for PassesOwn.never rfl (pi_zip K rfl T.z_zip (pa_cons (pv 1) (pa_cons (pv 4) pa_nil))) (pgT K rfl (pgs_cons (pg_name (i := 6) sc_law.nd rfl (Or.inl rfl)) (pgs_cons (pg_name (i := 9) sc_law.nd rfl (Or.inl rfl)) pgs_nil)))
        (pss_one (ps_expr (pe_bm PySem.F.plainAttrs_list PySem.F.slot_list_append PySem.F.type_list_append mt_append (pv 8) (pa_cons (pe_ifExp (pt_cmpR op_isN (pv 9) pe_non (nomark _)) (pv 6) (pe_lst (pa_cons (pv 9) pa_nil))) pa_nil)))))
      (pss_one (ps_ret (pe_and (pe_callB (cIsi K) (by rfl) T.z_isinstance boot_isinstance (pa_cons (pe_ix (ixT K) (pv 7) pe_int (fun _ _ => rfl)) (pa_cons (ty_list T.z_list) pa_nil))) (pe_and (pe_callB (cIsi K) (by rfl) T.z_isinstance boot_isinstance (pa_cons (pe_ix (ixT K) (pv 7) pe_int (fun _ _ => rfl)) (pa_cons (ty_list T.z_list) pa_nil))) (pe_one (pc D.law_fits Glaw_fits (hr.mono (by decide)) (pa_cons (pe_ix (ixT K) (pv 7) pe_int (fun _ _ => rfl)) (pa_cons (pv 8) (pa_cons (pv 2) pa_nil)))))))))))))))), ?_⟩
    refine ⟨_, rfl, a, ns, rfl, hS, hl, fun l ma ta o d rs ps ts es dn hs ms H1 s1 dr => ?_⟩
    refine ⟨l, _, rfl, SqL.of dr.hl, rfl, _, _, rfl, _, _, rfl, _, _, rfl, _, _, rfl, rfl, ?_⟩
    have p5 := dr.p5
    have rl : rs.length = ps.length := dr.rw.len
    have dl := dr.dl
    have ml := dr.m5
    have tl := dr.t6
    have hml : (heldM ps dn).length = ps.length := heldM_len
    refine ⟨_, rfl, ma, rfl, ⟨_, SqL.of dr.hm⟩, ?_⟩
    refine comp_copy (SqL.of dr.hm) dr.rw.pools (by omega) (fun r ys H5 R hq k => ⟨_, rfl, r, _, rfl, .inl hq, k⟩) fun c1 cs1 H2 s2 nc1 hc1 cR1 cf1 => ?_
    refine ⟨_, rfl, ta, _, rfl, .inl (SqL.of (s2 _ _ dr.ht)), fun c2 nc2 => ?_⟩
    have s3 := Same.new (o := .lst (ts.map fun x => V.ref x.1)) nc2
    have hc2 : upd H2 c2 (.lst (ts.map fun x => V.ref x.1)) c2 = some (.lst (ts.map fun x => V.ref x.1)) := upd_same
    generalize upd H2 c2 (.lst (ts.map fun x => V.ref x.1)) = H3 at s3 hc2
    have s13 := s2.trans s3
    obtain ⟨qs, hp, tp⟩ := dr.ho
    refine ⟨_, rfl, o, _, rfl, .inl (SqL.of (s13 _ _ hp)), fun c3 nc3 => ?_⟩
    have s4 := Same.new (o := .lst (qs.map V.ref)) nc3
    have hc3 : upd H3 c3 (.lst (qs.map V.ref)) c3 = some (.lst (qs.map V.ref)) := upd_same
    generalize upd H3 c3 (.lst (qs.map V.ref)) = H4 at s4 hc3
    have s14 := s13.trans s4
    refine ⟨_, rfl, d, _, rfl, .inl (SqL.of (s14 _ _ dr.hd)), fun c4 nc4 => ⟨szr, fun hn nh => ?_⟩⟩
    have s5 := (Same.new (o := .lst (dn.map hV)) nc4).to (o := .lst [.ref c1, .ref c2, .ref c3, .ref c4]) nh
    have hc4 : upd (upd H4 c4 (.lst (dn.map hV))) hn (.lst [.ref c1, .ref c2, .ref c3, .ref c4]) c4 = some (.lst (dn.map hV)) := (Same.new nh) _ _ upd_same
    have hhn : upd (upd H4 c4 (.lst (dn.map hV))) hn (.lst [.ref c1, .ref c2, .ref c3, .ref c4]) hn = some (.lst [.ref c1, .ref c2, .ref c3, .ref c4]) := upd_same
    generalize upd (upd H4 c4 (.lst (dn.map hV))) hn (.lst [.ref c1, .ref c2, .ref c3, .ref c4]) = H5 at s5 hc4 hhn
    have s15 := s14.trans s5
    have s25 := (s3.trans s4).trans s5
    have s35 := s4.trans s5
    refine ⟨_, rfl, hn, _, _, _, rfl, rfl, SqL.of hhn, rfl, _, rfl, hn, _, _, _, rfl, rfl, SqL.of hhn, rfl, _, rfl, hn, _, _, _, rfl, rfl, SqL.of hhn, rfl, _, rfl, hn, _, _, _, rfl, rfl, SqL.of hhn, rfl, ?_⟩
    have te5 : ∀ x ∈ ts, TieT H5 x := fun x hx => (dr.te x hx).same s15
    refine ⟨c1, c2, c3, c4, cs1, ps, ms, ts, es, dn, hs, rfl, ⟨SqL.of (s25 _ _ hc1), (cR1.same s25).pools, dr.up, dr.sub, by omega, by omega⟩, ⟨SqL.of (s35 _ _ hc2), te5, by omega⟩, dr.tg, ⟨qs, s5 _ _ hc3, tp.same s15⟩, dr.e1, (by rw [dl]; exact dr.ok), SqL.of hc4, dl, p5, dr.ds, dr.ip, fun t r0 lp pl hs2 H6 s6 ht hr0 hlp ip2 hpl => ?_⟩
    have s16 := s15.trans s6
    have s26 := s25.trans s6
    refine ⟨_, rfl, _, rfl, _, rfl, _, rfl, _, rfl, szr, fun w' nw => ⟨4, true, ?_, by decide, rfl, _, rfl, iteF ?_⟩⟩
    · have sw := Same.new (o := .lst [.ref ma, .ref ta, .ref o, .ref d]) nw
      have s1w := s16.trans sw
      have s2w := s26.trans sw
      have s6w := s6.trans sw
      refine deq_true (SqL.of (s6w _ _ hhn)) (SqL.of upd_same) rfl fun j x y hx hy => ?_
      rcases j with _ | _ | _ | _ | j
      · cases hx; cases hy
        exact (deq_pools (SqL.of (s2w _ _ hc1)) (cR1.same s2w).pools (SqL.of (s1w _ _ dr.hm)) (dr.rw.same s1w).pools).up
      · cases hx; cases hy
        exact deq_ties (SqL.of ((s35.trans s6w) _ _ hc2)) (SqL.of (s1w _ _ dr.ht)) fun x hx => (dr.te x hx).same s1w
      · cases hx; cases hy
        exact (deq_rows ⟨qs, (s5.trans s6w) _ _ hc3, tp.same s1w⟩ ⟨qs, s1w _ _ hp, tp.same s1w⟩).up
      · cases hx; cases hy
        exact deq_true (d := 2) (SqL.of (s6w _ _ hc4)) (SqL.of (s1w _ _ dr.hd)) rfl fun j x y hx hy => by
          rw [hx] at hy; cases hy
          exact deq_flat1 (flat_hV dn _ (List.mem_of_getElem? hx))
      · cases hx
    have sw := Same.new (o := .lst [.ref ma, .ref ta, .ref o, .ref d]) nw
    have ht7 := sw _ _ ht
    have hr7 := sw _ _ hr0
    have hlp7 := sw _ _ hlp
    have hpl7 := sw _ _ hpl
    have s17 := s16.trans sw
    generalize upd H6 w' (.lst [.ref ma, .ref ta, .ref o, .ref d]) = H7 at sw ht7 hr7 hlp7 hpl7 s17
    refine ⟨_, rfl, _, _, _, true, rfl, .tup ht7, rfl, _, rfl, iteF ?_⟩
    refine ⟨_, rfl, _, 4, rfl, .inr ⟨_, SqT.of ht7, rfl⟩, rfl, _, rfl, ifNeF rfl ?_⟩
    refine ⟨_, rfl, t, _, _, _, rfl, rfl, SqT.of ht7, rfl, rfl, _, rfl, ?_⟩
    refine ifNeF rfl ?_
    refine ⟨_, rfl, t, _, _, _, rfl, rfl, SqT.of ht7, rfl, szr, fun p1 np1 => ⟨1, true, deq_nil (SqL.of (Same.new np1 _ _ hr7)) (SqL.of upd_same), by decide, rfl, _, rfl, iteF ?_⟩⟩
    have s8 := Same.new (o := .lst []) np1
    have ht8 := s8 _ _ ht7
    have hpl8 := s8 _ _ hpl7
    have hlp8 := s8 _ _ hlp7
    have hr8 := s8 _ _ hr7
    have s18 := s17.trans s8
    generalize upd H7 p1 (.lst []) = H8 at s8 ht8 hpl8 hlp8 hr8 s18
    refine ⟨_, rfl, t, _, _, _, rfl, rfl, SqT.of ht8, rfl, szr, fun p2 np2 => ⟨1, true, deq_nil (SqL.of (Same.new np2 _ _ hpl8)) (SqL.of upd_same), by decide, rfl, _, rfl, iteF ?_⟩⟩
    have s9 := Same.new (o := .lst []) np2
    have ht9 := s9 _ _ ht8
    have hpl9 := s9 _ _ hpl8
    have hlp9 := s9 _ _ hlp8
    have hr9 := s9 _ _ hr8
    have s19 := s18.trans s9
    generalize upd H8 p2 (.lst []) = H9 at s9 ht9 hpl9 hlp9 hr9 s19
    refine ⟨szr, fun ll nll => ?_⟩
    have s10 := Same.new (o := .lst []) nll
    have hll : upd H9 ll (.lst []) ll = some (.lst []) := upd_same
    generalize upd H9 ll (.lst []) = HA at s10 hll
    refine ⟨_, rfl, _, rfl, ma, d, _, _, rfl, SqL.of (s10 _ _ (s19 _ _ dr.hm)), SqL.of (s10 _ _ (s19 _ _ dr.hd)), ?_⟩
    refine for_zip (K := K) (a := ma) (b := d) (xs := rs.map V.ref) (ys := dn.map hV) (by rw [List.length_map, List.length_map]; omega) (fun i σ Hx => ∃ (x y : Option V) (us : List Addr), σ = [some (.ref a), some (.ref ma), some (.ref ta), some (.ref o), some (.ref d), some (.ref hn), x, some (.ref t), some (.ref ll), y] ∧ Same H9 Hx ∧ Hx ll = some (.lst (us.map V.ref)) ∧ RowsL Hx us ((heldM ps dn).take i) ∧ (∀ u ∈ us, u ≠ ll)) ⟨_, none, [], rfl, s10, hll, .nil, fun _ z => by cases z⟩ (fun i σ Hx _ hq__ => by obtain ⟨_, _, _, _, s, _⟩ := hq__; exact ⟨SqL.of (s _ _ (s19 _ _ dr.hm)), SqL.of (s _ _ (s19 _ _ dr.hd))⟩) ?_ ?_
    · rintro i u v σ Hx p hu' hv ⟨x, y, us, rfl, sx, hlx, rus, nus⟩ np
      rw [List.getElem?_map] at hu' hv
      obtain ⟨r, hr', rfl⟩ := Option.map_eq_some_iff.mp hu'
      obtain ⟨b, hb, rfl⟩ := Option.map_eq_some_iff.mp hv
      have hi : i < ps.length := by have := (List.getElem?_eq_some_iff.mp hr').1; omega
      have sp := Same.new (o := .tup [V.ref r, hV b]) np
      have hlp' := sp _ _ hlx
      have hgi : (heldM ps dn)[i]? = some (heldP (ps.getD i []) b) := by
        rw [List.getElem?_eq_getElem (by omega)]
        have z := heldM_getD (may := ps) (dn := dn) hi
        rw [getD_getL (by omega), atD hb] at z
        rw [z]
      obtain ⟨r', e1, e2⟩ := dr.rw.at (List.getElem?_eq_getElem hi)
      rw [hr'] at e1
      cases e1
      rw [← getD_getL hi] at e2
      have ul := rus.len
      rw [List.length_take] at ul
      have fin : ∀ (c : Addr) (Hy : Hp), Same (upd Hx p (.tup [V.ref r, hV b])) Hy → Hy c = some (.lst ((heldP (ps.getD i []) b).map V.int)) → c ≠ ll → Hy ll = some (.lst (us.map V.ref)) → (us.map V.ref).length < sizeLine ∧ (∃ us2 : List Addr, Same H9 (upd Hy ll (.lst (us.map V.ref ++ [.ref c]))) ∧ upd Hy ll (.lst (us.map V.ref ++ [.ref c])) ll = some (.lst (us2.map V.ref)) ∧ RowsL (upd Hy ll (.lst (us.map V.ref ++ [.ref c]))) us2 ((heldM ps dn).take (i + 1)) ∧ ∀ u ∈ us2, u ≠ ll) := fun c Hy sy hc nc hl2 => by
        refine ⟨szn (by rw [List.length_map]; omega), us ++ [c], ((sx.trans sp).trans sy).put nll, by rw [upd_same, List.map_append]; rfl, ?_, fun u hu => ?_⟩
        · rw [take_snoc hgi]
          exact paired_snoc_len ((rus.same (sp.trans sy)).but nus SameBut.upd) (by rw [upd_ne nc]; exact hc)
        · rcases List.mem_append.mp hu with z | z
          · exact nus u z
          · rw [List.mem_singleton.mp z]; exact nc
      refine ⟨p, _, rfl, SqT.of upd_same, rfl, _, _, rfl, _, _, rfl, rfl, ?_⟩
      refine ⟨_, rfl, .inl ⟨rfl, _, SqL.of hlp'⟩, ?_⟩
      have rne : r ≠ ll := fun z => by have := s19 _ _ e2; rw [z, nll] at this; cases this
      have shut : ∀ (c : Addr) (Hy : Hp) (x2 y2 : Option V) (σ2 : L2.St), σ2 = [some (.ref a), some (.ref ma), some (.ref ta), some (.ref o), some (.ref d), some (.ref hn), x2, some (.ref t), some (.ref ll), y2] → (∃ us2 : List Addr, Same H9 Hy ∧ Hy ll = some (.lst (us2.map V.ref)) ∧ RowsL Hy us2 ((heldM ps dn).take (i + 1)) ∧ ∀ u ∈ us2, u ≠ ll) → ∃ (x y : Option V) (us : List Addr), σ2 = [some (.ref a), some (.ref ma), some (.ref ta), some (.ref o), some (.ref d), some (.ref hn), x, some (.ref t), some (.ref ll), y] ∧ Same H9 Hy ∧ Hy ll = some (.lst (us.map V.ref)) ∧ RowsL Hy us ((heldM ps dn).take (i + 1)) ∧ ∀ u ∈ us, u ≠ ll := fun c Hy x2 y2 σ2 e ⟨us2, z⟩ => ⟨x2, y2, us2, e, z⟩
      refine ⟨_, rfl, rfl, ?_⟩
      rw [dec_hV]
      cases b with
      | none =>
        obtain ⟨f1, f2⟩ := fin r _ (Same.refl _) (((sx.trans sp)) _ _ (s19 _ _ e2)) rne hlp'
        exact ⟨_, rfl, iteT ⟨_, rfl, ll, _, _, rfl, rfl, hlp', f1, shut r _ _ _ _ rfl f2⟩⟩
      | some b =>
        refine ⟨_, rfl, iteF ⟨_, rfl, szr, fun c nc => ?_⟩⟩
        have sc := Same.new (o := .lst [V.int b]) nc
        obtain ⟨f1, f2⟩ := fin c _ sc upd_same (fun z => by rw [z, hlp'] at nc; cases nc) (sc _ _ hlp')
        exact ⟨ll, _, _, rfl, rfl, sc _ _ hlp', f1, shut c _ _ _ _ rfl f2⟩
    · rintro σ Hx ⟨x, y, us, rfl, sx, hlx, rus, nus⟩
      rw [List.length_map, List.take_of_length_le (by omega)] at rus
      have s1x := s19.trans sx
      have htx := sx _ _ ht9
      refine ⟨_, rfl, t, _, _, _, rfl, rfl, SqT.of htx, rfl, _, _, _, true, rfl, .lst (sx _ _ hr9), rfl, _, rfl, iteT ?_⟩
      refine ⟨_, rfl, t, _, _, _, rfl, rfl, SqT.of htx, rfl, _, _, _, true, rfl, .lst (sx _ _ hpl9), rfl, _, rfl, iteT ?_⟩
      refine ⟨_, rfl, t, _, _, _, rfl, rfl, SqT.of htx, rfl, _, rfl, _, rfl, lp, ll, ta, us, heldM ps dn, ts, hs2, rfl, sx _ _ hlp9, SqL.of hlx, rus.pools, by omega, ⟨SqL.of (s1x _ _ dr.ht), fun x hx => (dr.te x hx).same s1x, by omega⟩, fun x hx => by rw [hml]; exact dr.tg x hx, ip2, fun H' _ => q H'⟩
end
theorem all_mk {l : PySem.W.OpenLaw} {w : World} {K : PySem.W.Frag} {h : Heap} {mg : Str → Option Value} {fa f_common f_choices f_deal f_settle f_short_places f_hands_of f_width f_grown f_breaks f_first_broken f_unlike f_pools_of f_pool_of f_plan f_plan_from f_held f_held_step f_strikes f_has_all_behind f_struck f_mend f_law_cell f_law_whole f_law_row f_law_order f_law_menu f_law_some f_law_tie f_law_fits f_law_kept_tie f_law_drawn f_law : Addr} (X : K.In h) (G : h.Ns mainGlobals mg) (hfa : mg "law" = some (.ref fa))
    {od_common an_common : Option Addr} {sl_common : Array (Option Value)} {oc_common kV_common dc_common pm_common cd_common ct_common : Value}
    {od_choices an_choices : Option Addr} {sl_choices : Array (Option Value)} {oc_choices kV_choices dc_choices pm_choices cd_choices ct_choices : Value}
    {od_deal an_deal : Option Addr} {sl_deal : Array (Option Value)} {oc_deal kV_deal dc_deal pm_deal cd_deal ct_deal : Value}
    {od_settle an_settle : Option Addr} {sl_settle : Array (Option Value)} {oc_settle kV_settle dc_settle pm_settle cd_settle ct_settle : Value}
    {od_short_places an_short_places : Option Addr} {sl_short_places : Array (Option Value)} {oc_short_places kV_short_places dc_short_places pm_short_places cd_short_places ct_short_places : Value}
    {od_hands_of an_hands_of : Option Addr} {sl_hands_of : Array (Option Value)} {oc_hands_of kV_hands_of dc_hands_of pm_hands_of cd_hands_of ct_hands_of : Value}
    {od_width an_width : Option Addr} {sl_width : Array (Option Value)} {oc_width kV_width dc_width pm_width cd_width ct_width : Value}
    {od_grown an_grown : Option Addr} {sl_grown : Array (Option Value)} {oc_grown kV_grown dc_grown pm_grown cd_grown ct_grown : Value}
    {od_breaks an_breaks : Option Addr} {sl_breaks : Array (Option Value)} {oc_breaks kV_breaks dc_breaks pm_breaks cd_breaks ct_breaks : Value}
    {od_first_broken an_first_broken : Option Addr} {sl_first_broken : Array (Option Value)} {oc_first_broken kV_first_broken dc_first_broken pm_first_broken cd_first_broken ct_first_broken : Value}
    {od_unlike an_unlike : Option Addr} {sl_unlike : Array (Option Value)} {oc_unlike kV_unlike dc_unlike pm_unlike cd_unlike ct_unlike : Value}
    {od_pools_of an_pools_of : Option Addr} {sl_pools_of : Array (Option Value)} {oc_pools_of kV_pools_of dc_pools_of pm_pools_of cd_pools_of ct_pools_of : Value}
    {od_pool_of an_pool_of : Option Addr} {sl_pool_of : Array (Option Value)} {oc_pool_of kV_pool_of dc_pool_of pm_pool_of cd_pool_of ct_pool_of : Value}
    {od_plan an_plan : Option Addr} {sl_plan : Array (Option Value)} {oc_plan kV_plan dc_plan pm_plan cd_plan ct_plan : Value}
    {od_plan_from an_plan_from : Option Addr} {sl_plan_from : Array (Option Value)} {oc_plan_from kV_plan_from dc_plan_from pm_plan_from cd_plan_from ct_plan_from : Value}
    {od_held an_held : Option Addr} {sl_held : Array (Option Value)} {oc_held kV_held dc_held pm_held cd_held ct_held : Value}
    {od_held_step an_held_step : Option Addr} {sl_held_step : Array (Option Value)} {oc_held_step kV_held_step dc_held_step pm_held_step cd_held_step ct_held_step : Value}
    {od_strikes an_strikes : Option Addr} {sl_strikes : Array (Option Value)} {oc_strikes kV_strikes dc_strikes pm_strikes cd_strikes ct_strikes : Value}
    {od_has_all_behind an_has_all_behind : Option Addr} {sl_has_all_behind : Array (Option Value)} {oc_has_all_behind kV_has_all_behind dc_has_all_behind pm_has_all_behind cd_has_all_behind ct_has_all_behind : Value}
    {od_struck an_struck : Option Addr} {sl_struck : Array (Option Value)} {oc_struck kV_struck dc_struck pm_struck cd_struck ct_struck : Value}
    {od_mend an_mend : Option Addr} {sl_mend : Array (Option Value)} {oc_mend kV_mend dc_mend pm_mend cd_mend ct_mend : Value}
    {od_law_cell an_law_cell : Option Addr} {sl_law_cell : Array (Option Value)} {oc_law_cell kV_law_cell dc_law_cell pm_law_cell cd_law_cell ct_law_cell : Value}
    {od_law_whole an_law_whole : Option Addr} {sl_law_whole : Array (Option Value)} {oc_law_whole kV_law_whole dc_law_whole pm_law_whole cd_law_whole ct_law_whole : Value}
    {od_law_row an_law_row : Option Addr} {sl_law_row : Array (Option Value)} {oc_law_row kV_law_row dc_law_row pm_law_row cd_law_row ct_law_row : Value}
    {od_law_order an_law_order : Option Addr} {sl_law_order : Array (Option Value)} {oc_law_order kV_law_order dc_law_order pm_law_order cd_law_order ct_law_order : Value}
    {od_law_menu an_law_menu : Option Addr} {sl_law_menu : Array (Option Value)} {oc_law_menu kV_law_menu dc_law_menu pm_law_menu cd_law_menu ct_law_menu : Value}
    {od_law_some an_law_some : Option Addr} {sl_law_some : Array (Option Value)} {oc_law_some kV_law_some dc_law_some pm_law_some cd_law_some ct_law_some : Value}
    {od_law_tie an_law_tie : Option Addr} {sl_law_tie : Array (Option Value)} {oc_law_tie kV_law_tie dc_law_tie pm_law_tie cd_law_tie ct_law_tie : Value}
    {od_law_fits an_law_fits : Option Addr} {sl_law_fits : Array (Option Value)} {oc_law_fits kV_law_fits dc_law_fits pm_law_fits cd_law_fits ct_law_fits : Value}
    {od_law_kept_tie an_law_kept_tie : Option Addr} {sl_law_kept_tie : Array (Option Value)} {oc_law_kept_tie kV_law_kept_tie dc_law_kept_tie pm_law_kept_tie cd_law_kept_tie ct_law_kept_tie : Value}
    {od_law_drawn an_law_drawn : Option Addr} {sl_law_drawn : Array (Option Value)} {oc_law_drawn kV_law_drawn dc_law_drawn pm_law_drawn cd_law_drawn ct_law_drawn : Value}
    {od_law an_law : Option Addr} {sl_law : Array (Option Value)} {oc_law kV_law dc_law pm_law cd_law ct_law : Value}
    (a_common : PySem.W.nsIn K mainGlobals "common" = some (some (.ref f_common))) (l_common : K.lookup f_common = some ⟨oc_common, od_common, .func (PySem.W.fnOf "common" "common" (defArgs s_common) (defBody s_common) (defScope s_common) .none kV_common dc_common pm_common an_common cd_common ct_common), sl_common⟩) (c_common : PySem.W.codeIn K cd_common "common" = true) (k_common : PySem.W.keepIn K (.ref f_common) = true)
    (a_choices : PySem.W.nsIn K mainGlobals "choices" = some (some (.ref f_choices))) (l_choices : K.lookup f_choices = some ⟨oc_choices, od_choices, .func (PySem.W.fnOf "choices" "choices" (defArgs s_choices) (defBody s_choices) (defScope s_choices) .none kV_choices dc_choices pm_choices an_choices cd_choices ct_choices), sl_choices⟩) (c_choices : PySem.W.codeIn K cd_choices "choices" = true) (k_choices : PySem.W.keepIn K (.ref f_choices) = true)
    (a_deal : PySem.W.nsIn K mainGlobals "deal" = some (some (.ref f_deal))) (l_deal : K.lookup f_deal = some ⟨oc_deal, od_deal, .func (PySem.W.fnOf "deal" "deal" (defArgs s_deal) (defBody s_deal) (defScope s_deal) .none kV_deal dc_deal pm_deal an_deal cd_deal ct_deal), sl_deal⟩) (c_deal : PySem.W.codeIn K cd_deal "deal" = true) (k_deal : PySem.W.keepIn K (.ref f_deal) = true)
    (a_settle : PySem.W.nsIn K mainGlobals "settle" = some (some (.ref f_settle))) (l_settle : K.lookup f_settle = some ⟨oc_settle, od_settle, .func (PySem.W.fnOf "settle" "settle" (defArgs s_settle) (defBody s_settle) (defScope s_settle) .none kV_settle dc_settle pm_settle an_settle cd_settle ct_settle), sl_settle⟩) (c_settle : PySem.W.codeIn K cd_settle "settle" = true) (k_settle : PySem.W.keepIn K (.ref f_settle) = true)
    (a_short_places : PySem.W.nsIn K mainGlobals "short_places" = some (some (.ref f_short_places))) (l_short_places : K.lookup f_short_places = some ⟨oc_short_places, od_short_places, .func (PySem.W.fnOf "short_places" "short_places" (defArgs s_short_places) (defBody s_short_places) (defScope s_short_places) .none kV_short_places dc_short_places pm_short_places an_short_places cd_short_places ct_short_places), sl_short_places⟩) (c_short_places : PySem.W.codeIn K cd_short_places "short_places" = true) (k_short_places : PySem.W.keepIn K (.ref f_short_places) = true)
    (a_hands_of : PySem.W.nsIn K mainGlobals "hands_of" = some (some (.ref f_hands_of))) (l_hands_of : K.lookup f_hands_of = some ⟨oc_hands_of, od_hands_of, .func (PySem.W.fnOf "hands_of" "hands_of" (defArgs s_hands_of) (defBody s_hands_of) (defScope s_hands_of) .none kV_hands_of dc_hands_of pm_hands_of an_hands_of cd_hands_of ct_hands_of), sl_hands_of⟩) (c_hands_of : PySem.W.codeIn K cd_hands_of "hands_of" = true) (k_hands_of : PySem.W.keepIn K (.ref f_hands_of) = true)
    (a_width : PySem.W.nsIn K mainGlobals "width" = some (some (.ref f_width))) (l_width : K.lookup f_width = some ⟨oc_width, od_width, .func (PySem.W.fnOf "width" "width" (defArgs s_width) (defBody s_width) (defScope s_width) .none kV_width dc_width pm_width an_width cd_width ct_width), sl_width⟩) (c_width : PySem.W.codeIn K cd_width "width" = true) (k_width : PySem.W.keepIn K (.ref f_width) = true)
    (a_grown : PySem.W.nsIn K mainGlobals "grown" = some (some (.ref f_grown))) (l_grown : K.lookup f_grown = some ⟨oc_grown, od_grown, .func (PySem.W.fnOf "grown" "grown" (defArgs s_grown) (defBody s_grown) (defScope s_grown) .none kV_grown dc_grown pm_grown an_grown cd_grown ct_grown), sl_grown⟩) (c_grown : PySem.W.codeIn K cd_grown "grown" = true) (k_grown : PySem.W.keepIn K (.ref f_grown) = true)
    (a_breaks : PySem.W.nsIn K mainGlobals "breaks" = some (some (.ref f_breaks))) (l_breaks : K.lookup f_breaks = some ⟨oc_breaks, od_breaks, .func (PySem.W.fnOf "breaks" "breaks" (defArgs s_breaks) (defBody s_breaks) (defScope s_breaks) .none kV_breaks dc_breaks pm_breaks an_breaks cd_breaks ct_breaks), sl_breaks⟩) (c_breaks : PySem.W.codeIn K cd_breaks "breaks" = true) (k_breaks : PySem.W.keepIn K (.ref f_breaks) = true)
    (a_first_broken : PySem.W.nsIn K mainGlobals "first_broken" = some (some (.ref f_first_broken))) (l_first_broken : K.lookup f_first_broken = some ⟨oc_first_broken, od_first_broken, .func (PySem.W.fnOf "first_broken" "first_broken" (defArgs s_first_broken) (defBody s_first_broken) (defScope s_first_broken) .none kV_first_broken dc_first_broken pm_first_broken an_first_broken cd_first_broken ct_first_broken), sl_first_broken⟩) (c_first_broken : PySem.W.codeIn K cd_first_broken "first_broken" = true) (k_first_broken : PySem.W.keepIn K (.ref f_first_broken) = true)
    (a_unlike : PySem.W.nsIn K mainGlobals "unlike" = some (some (.ref f_unlike))) (l_unlike : K.lookup f_unlike = some ⟨oc_unlike, od_unlike, .func (PySem.W.fnOf "unlike" "unlike" (defArgs s_unlike) (defBody s_unlike) (defScope s_unlike) .none kV_unlike dc_unlike pm_unlike an_unlike cd_unlike ct_unlike), sl_unlike⟩) (c_unlike : PySem.W.codeIn K cd_unlike "unlike" = true) (k_unlike : PySem.W.keepIn K (.ref f_unlike) = true)
    (a_pools_of : PySem.W.nsIn K mainGlobals "pools_of" = some (some (.ref f_pools_of))) (l_pools_of : K.lookup f_pools_of = some ⟨oc_pools_of, od_pools_of, .func (PySem.W.fnOf "pools_of" "pools_of" (defArgs s_pools_of) (defBody s_pools_of) (defScope s_pools_of) .none kV_pools_of dc_pools_of pm_pools_of an_pools_of cd_pools_of ct_pools_of), sl_pools_of⟩) (c_pools_of : PySem.W.codeIn K cd_pools_of "pools_of" = true) (k_pools_of : PySem.W.keepIn K (.ref f_pools_of) = true)
    (a_pool_of : PySem.W.nsIn K mainGlobals "pool_of" = some (some (.ref f_pool_of))) (l_pool_of : K.lookup f_pool_of = some ⟨oc_pool_of, od_pool_of, .func (PySem.W.fnOf "pool_of" "pool_of" (defArgs s_pool_of) (defBody s_pool_of) (defScope s_pool_of) .none kV_pool_of dc_pool_of pm_pool_of an_pool_of cd_pool_of ct_pool_of), sl_pool_of⟩) (c_pool_of : PySem.W.codeIn K cd_pool_of "pool_of" = true) (k_pool_of : PySem.W.keepIn K (.ref f_pool_of) = true)
    (a_plan : PySem.W.nsIn K mainGlobals "plan" = some (some (.ref f_plan))) (l_plan : K.lookup f_plan = some ⟨oc_plan, od_plan, .func (PySem.W.fnOf "plan" "plan" (defArgs s_plan) (defBody s_plan) (defScope s_plan) .none kV_plan dc_plan pm_plan an_plan cd_plan ct_plan), sl_plan⟩) (c_plan : PySem.W.codeIn K cd_plan "plan" = true) (k_plan : PySem.W.keepIn K (.ref f_plan) = true)
    (a_plan_from : PySem.W.nsIn K mainGlobals "plan_from" = some (some (.ref f_plan_from))) (l_plan_from : K.lookup f_plan_from = some ⟨oc_plan_from, od_plan_from, .func (PySem.W.fnOf "plan_from" "plan_from" (defArgs s_plan_from) (defBody s_plan_from) (defScope s_plan_from) .none kV_plan_from dc_plan_from pm_plan_from an_plan_from cd_plan_from ct_plan_from), sl_plan_from⟩) (c_plan_from : PySem.W.codeIn K cd_plan_from "plan_from" = true) (k_plan_from : PySem.W.keepIn K (.ref f_plan_from) = true)
    (a_held : PySem.W.nsIn K mainGlobals "held" = some (some (.ref f_held))) (l_held : K.lookup f_held = some ⟨oc_held, od_held, .func (PySem.W.fnOf "held" "held" (defArgs s_held) (defBody s_held) (defScope s_held) .none kV_held dc_held pm_held an_held cd_held ct_held), sl_held⟩) (c_held : PySem.W.codeIn K cd_held "held" = true) (k_held : PySem.W.keepIn K (.ref f_held) = true)
    (a_held_step : PySem.W.nsIn K mainGlobals "held_step" = some (some (.ref f_held_step))) (l_held_step : K.lookup f_held_step = some ⟨oc_held_step, od_held_step, .func (PySem.W.fnOf "held_step" "held_step" (defArgs s_held_step) (defBody s_held_step) (defScope s_held_step) .none kV_held_step dc_held_step pm_held_step an_held_step cd_held_step ct_held_step), sl_held_step⟩) (c_held_step : PySem.W.codeIn K cd_held_step "held_step" = true) (k_held_step : PySem.W.keepIn K (.ref f_held_step) = true)
    (a_strikes : PySem.W.nsIn K mainGlobals "strikes" = some (some (.ref f_strikes))) (l_strikes : K.lookup f_strikes = some ⟨oc_strikes, od_strikes, .func (PySem.W.fnOf "strikes" "strikes" (defArgs s_strikes) (defBody s_strikes) (defScope s_strikes) .none kV_strikes dc_strikes pm_strikes an_strikes cd_strikes ct_strikes), sl_strikes⟩) (c_strikes : PySem.W.codeIn K cd_strikes "strikes" = true) (k_strikes : PySem.W.keepIn K (.ref f_strikes) = true)
    (a_has_all_behind : PySem.W.nsIn K mainGlobals "has_all_behind" = some (some (.ref f_has_all_behind))) (l_has_all_behind : K.lookup f_has_all_behind = some ⟨oc_has_all_behind, od_has_all_behind, .func (PySem.W.fnOf "has_all_behind" "has_all_behind" (defArgs s_has_all_behind) (defBody s_has_all_behind) (defScope s_has_all_behind) .none kV_has_all_behind dc_has_all_behind pm_has_all_behind an_has_all_behind cd_has_all_behind ct_has_all_behind), sl_has_all_behind⟩) (c_has_all_behind : PySem.W.codeIn K cd_has_all_behind "has_all_behind" = true) (k_has_all_behind : PySem.W.keepIn K (.ref f_has_all_behind) = true)
    (a_struck : PySem.W.nsIn K mainGlobals "struck" = some (some (.ref f_struck))) (l_struck : K.lookup f_struck = some ⟨oc_struck, od_struck, .func (PySem.W.fnOf "struck" "struck" (defArgs s_struck) (defBody s_struck) (defScope s_struck) .none kV_struck dc_struck pm_struck an_struck cd_struck ct_struck), sl_struck⟩) (c_struck : PySem.W.codeIn K cd_struck "struck" = true) (k_struck : PySem.W.keepIn K (.ref f_struck) = true)
    (a_mend : PySem.W.nsIn K mainGlobals "mend" = some (some (.ref f_mend))) (l_mend : K.lookup f_mend = some ⟨oc_mend, od_mend, .func (PySem.W.fnOf "mend" "mend" (defArgs s_mend) (defBody s_mend) (defScope s_mend) .none kV_mend dc_mend pm_mend an_mend cd_mend ct_mend), sl_mend⟩) (c_mend : PySem.W.codeIn K cd_mend "mend" = true) (k_mend : PySem.W.keepIn K (.ref f_mend) = true)
    (a_law_cell : PySem.W.nsIn K mainGlobals "_law_cell" = some (some (.ref f_law_cell))) (l_law_cell : K.lookup f_law_cell = some ⟨oc_law_cell, od_law_cell, .func (PySem.W.fnOf "_law_cell" "_law_cell" (defArgs s_law_cell) (defBody s_law_cell) (defScope s_law_cell) .none kV_law_cell dc_law_cell pm_law_cell an_law_cell cd_law_cell ct_law_cell), sl_law_cell⟩) (c_law_cell : PySem.W.codeIn K cd_law_cell "_law_cell" = true) (k_law_cell : PySem.W.keepIn K (.ref f_law_cell) = true)
    (a_law_whole : PySem.W.nsIn K mainGlobals "_law_whole" = some (some (.ref f_law_whole))) (l_law_whole : K.lookup f_law_whole = some ⟨oc_law_whole, od_law_whole, .func (PySem.W.fnOf "_law_whole" "_law_whole" (defArgs s_law_whole) (defBody s_law_whole) (defScope s_law_whole) .none kV_law_whole dc_law_whole pm_law_whole an_law_whole cd_law_whole ct_law_whole), sl_law_whole⟩) (c_law_whole : PySem.W.codeIn K cd_law_whole "_law_whole" = true) (k_law_whole : PySem.W.keepIn K (.ref f_law_whole) = true)
    (a_law_row : PySem.W.nsIn K mainGlobals "_law_row" = some (some (.ref f_law_row))) (l_law_row : K.lookup f_law_row = some ⟨oc_law_row, od_law_row, .func (PySem.W.fnOf "_law_row" "_law_row" (defArgs s_law_row) (defBody s_law_row) (defScope s_law_row) .none kV_law_row dc_law_row pm_law_row an_law_row cd_law_row ct_law_row), sl_law_row⟩) (c_law_row : PySem.W.codeIn K cd_law_row "_law_row" = true) (k_law_row : PySem.W.keepIn K (.ref f_law_row) = true)
    (a_law_order : PySem.W.nsIn K mainGlobals "_law_order" = some (some (.ref f_law_order))) (l_law_order : K.lookup f_law_order = some ⟨oc_law_order, od_law_order, .func (PySem.W.fnOf "_law_order" "_law_order" (defArgs s_law_order) (defBody s_law_order) (defScope s_law_order) .none kV_law_order dc_law_order pm_law_order an_law_order cd_law_order ct_law_order), sl_law_order⟩) (c_law_order : PySem.W.codeIn K cd_law_order "_law_order" = true) (k_law_order : PySem.W.keepIn K (.ref f_law_order) = true)
    (a_law_menu : PySem.W.nsIn K mainGlobals "_law_menu" = some (some (.ref f_law_menu))) (l_law_menu : K.lookup f_law_menu = some ⟨oc_law_menu, od_law_menu, .func (PySem.W.fnOf "_law_menu" "_law_menu" (defArgs s_law_menu) (defBody s_law_menu) (defScope s_law_menu) .none kV_law_menu dc_law_menu pm_law_menu an_law_menu cd_law_menu ct_law_menu), sl_law_menu⟩) (c_law_menu : PySem.W.codeIn K cd_law_menu "_law_menu" = true) (k_law_menu : PySem.W.keepIn K (.ref f_law_menu) = true)
    (a_law_some : PySem.W.nsIn K mainGlobals "_law_some" = some (some (.ref f_law_some))) (l_law_some : K.lookup f_law_some = some ⟨oc_law_some, od_law_some, .func (PySem.W.fnOf "_law_some" "_law_some" (defArgs s_law_some) (defBody s_law_some) (defScope s_law_some) .none kV_law_some dc_law_some pm_law_some an_law_some cd_law_some ct_law_some), sl_law_some⟩) (c_law_some : PySem.W.codeIn K cd_law_some "_law_some" = true) (k_law_some : PySem.W.keepIn K (.ref f_law_some) = true)
    (a_law_tie : PySem.W.nsIn K mainGlobals "_law_tie" = some (some (.ref f_law_tie))) (l_law_tie : K.lookup f_law_tie = some ⟨oc_law_tie, od_law_tie, .func (PySem.W.fnOf "_law_tie" "_law_tie" (defArgs s_law_tie) (defBody s_law_tie) (defScope s_law_tie) .none kV_law_tie dc_law_tie pm_law_tie an_law_tie cd_law_tie ct_law_tie), sl_law_tie⟩) (c_law_tie : PySem.W.codeIn K cd_law_tie "_law_tie" = true) (k_law_tie : PySem.W.keepIn K (.ref f_law_tie) = true)
    (a_law_fits : PySem.W.nsIn K mainGlobals "_law_fits" = some (some (.ref f_law_fits))) (l_law_fits : K.lookup f_law_fits = some ⟨oc_law_fits, od_law_fits, .func (PySem.W.fnOf "_law_fits" "_law_fits" (defArgs s_law_fits) (defBody s_law_fits) (defScope s_law_fits) .none kV_law_fits dc_law_fits pm_law_fits an_law_fits cd_law_fits ct_law_fits), sl_law_fits⟩) (c_law_fits : PySem.W.codeIn K cd_law_fits "_law_fits" = true) (k_law_fits : PySem.W.keepIn K (.ref f_law_fits) = true)
    (a_law_kept_tie : PySem.W.nsIn K mainGlobals "_law_kept_tie" = some (some (.ref f_law_kept_tie))) (l_law_kept_tie : K.lookup f_law_kept_tie = some ⟨oc_law_kept_tie, od_law_kept_tie, .func (PySem.W.fnOf "_law_kept_tie" "_law_kept_tie" (defArgs s_law_kept_tie) (defBody s_law_kept_tie) (defScope s_law_kept_tie) .none kV_law_kept_tie dc_law_kept_tie pm_law_kept_tie an_law_kept_tie cd_law_kept_tie ct_law_kept_tie), sl_law_kept_tie⟩) (c_law_kept_tie : PySem.W.codeIn K cd_law_kept_tie "_law_kept_tie" = true) (k_law_kept_tie : PySem.W.keepIn K (.ref f_law_kept_tie) = true)
    (a_law_drawn : PySem.W.nsIn K mainGlobals "_law_drawn" = some (some (.ref f_law_drawn))) (l_law_drawn : K.lookup f_law_drawn = some ⟨oc_law_drawn, od_law_drawn, .func (PySem.W.fnOf "_law_drawn" "_law_drawn" (defArgs s_law_drawn) (defBody s_law_drawn) (defScope s_law_drawn) .none kV_law_drawn dc_law_drawn pm_law_drawn an_law_drawn cd_law_drawn ct_law_drawn), sl_law_drawn⟩) (c_law_drawn : PySem.W.codeIn K cd_law_drawn "_law_drawn" = true) (k_law_drawn : PySem.W.keepIn K (.ref f_law_drawn) = true)
    (a_law : PySem.W.nsIn K mainGlobals "law" = some (some (.ref f_law))) (l_law : K.lookup f_law = some ⟨oc_law, od_law, .func (PySem.W.fnOf "law" "law" (defArgs s_law) (defBody s_law) (defScope s_law) .none kV_law dc_law pm_law an_law cd_law ct_law), sl_law⟩) (c_law : PySem.W.codeIn K cd_law "law" = true) (k_law : PySem.W.keepIn K (.ref f_law) = true)
    (z_all : PySem.W.nsIn K mainGlobals "all" = some none)
    (z_bool : PySem.W.nsIn K mainGlobals "bool" = some none)
    (z_int : PySem.W.nsIn K mainGlobals "int" = some none)
    (z_isinstance : PySem.W.nsIn K mainGlobals "isinstance" = some none)
    (z_len : PySem.W.nsIn K mainGlobals "len" = some none)
    (z_list : PySem.W.nsIn K mainGlobals "list" = some none)
    (z_max : PySem.W.nsIn K mainGlobals "max" = some none)
    (z_min : PySem.W.nsIn K mainGlobals "min" = some none)
    (z_range : PySem.W.nsIn K mainGlobals "range" = some none)
    (z_set : PySem.W.nsIn K mainGlobals "set" = some none)
    (z_sorted : PySem.W.nsIn K mainGlobals "sorted" = some none)
    (z_tuple : PySem.W.nsIn K mainGlobals "tuple" = some none)
    (z_zip : PySem.W.nsIn K mainGlobals "zip" = some none)
    : ∃ fd : FuncData, (∀ (s : Shared) (v : Value), BindsTo s fd ⟨[v], []⟩ [("script", v)]) ∧ ∀ base : Heap, K.In base → base.Ns mainGlobals mg → FnOk l.prog w K mg base CX0 40 fa fd ["script"] (sp_law K) := by
  have e := hfa.symm.trans (PySem.W.mg_of X G a_law)
  cases e
  have T : Txt mg := ⟨PySem.W.mg_none_of X G z_all, PySem.W.mg_none_of X G z_bool, PySem.W.mg_none_of X G z_int, PySem.W.mg_none_of X G z_isinstance, PySem.W.mg_none_of X G z_len, PySem.W.mg_none_of X G z_list, PySem.W.mg_none_of X G z_max, PySem.W.mg_none_of X G z_min, PySem.W.mg_none_of X G z_range, PySem.W.mg_none_of X G z_set, PySem.W.mg_none_of X G z_sorted, PySem.W.mg_none_of X G z_tuple, PySem.W.mg_none_of X G z_zip⟩
  have F_common := fun_mk (st := s_common) l_common c_common k_common
  have F_choices := fun_mk (st := s_choices) l_choices c_choices k_choices
  have F_deal := fun_mk (st := s_deal) l_deal c_deal k_deal
  have F_settle := fun_mk (st := s_settle) l_settle c_settle k_settle
  have F_short_places := fun_mk (st := s_short_places) l_short_places c_short_places k_short_places
  have F_hands_of := fun_mk (st := s_hands_of) l_hands_of c_hands_of k_hands_of
  have F_width := fun_mk (st := s_width) l_width c_width k_width
  have F_grown := fun_mk (st := s_grown) l_grown c_grown k_grown
  have F_breaks := fun_mk (st := s_breaks) l_breaks c_breaks k_breaks
  have F_first_broken := fun_mk (st := s_first_broken) l_first_broken c_first_broken k_first_broken
  have F_unlike := fun_mk (st := s_unlike) l_unlike c_unlike k_unlike
  have F_pools_of := fun_mk (st := s_pools_of) l_pools_of c_pools_of k_pools_of
  have F_pool_of := fun_mk (st := s_pool_of) l_pool_of c_pool_of k_pool_of
  have F_plan := fun_mk (st := s_plan) l_plan c_plan k_plan
  have F_plan_from := fun_mk (st := s_plan_from) l_plan_from c_plan_from k_plan_from
  have F_held := fun_mk (st := s_held) l_held c_held k_held
  have F_held_step := fun_mk (st := s_held_step) l_held_step c_held_step k_held_step
  have F_strikes := fun_mk (st := s_strikes) l_strikes c_strikes k_strikes
  have F_has_all_behind := fun_mk (st := s_has_all_behind) l_has_all_behind c_has_all_behind k_has_all_behind
  have F_struck := fun_mk (st := s_struck) l_struck c_struck k_struck
  have F_mend := fun_mk (st := s_mend) l_mend c_mend k_mend
  have F_law_cell := fun_mk (st := s_law_cell) l_law_cell c_law_cell k_law_cell
  have F_law_whole := fun_mk (st := s_law_whole) l_law_whole c_law_whole k_law_whole
  have F_law_row := fun_mk (st := s_law_row) l_law_row c_law_row k_law_row
  have F_law_order := fun_mk (st := s_law_order) l_law_order c_law_order k_law_order
  have F_law_menu := fun_mk (st := s_law_menu) l_law_menu c_law_menu k_law_menu
  have F_law_some := fun_mk (st := s_law_some) l_law_some c_law_some k_law_some
  have F_law_tie := fun_mk (st := s_law_tie) l_law_tie c_law_tie k_law_tie
  have F_law_fits := fun_mk (st := s_law_fits) l_law_fits c_law_fits k_law_fits
  have F_law_kept_tie := fun_mk (st := s_law_kept_tie) l_law_kept_tie c_law_kept_tie k_law_kept_tie
  have F_law_drawn := fun_mk (st := s_law_drawn) l_law_drawn c_law_drawn k_law_drawn
  have F_law := fun_mk (st := s_law) l_law c_law k_law
  have b_common := F_common.binds (ps := ["one", "other"]) fun _ _ _ _ _ _ us hl => by obtain ⟨_, _, rfl⟩ := ex2 hl; rfl
  have b_choices := F_choices.binds (ps := ["numbers"]) fun _ _ _ _ _ _ us hl => by obtain ⟨_, rfl⟩ := ex1 hl; rfl
  have b_deal := F_deal.binds (ps := ["pools"]) fun _ _ _ _ _ _ us hl => by obtain ⟨_, rfl⟩ := ex1 hl; rfl
  have b_settle := F_settle.binds (ps := ["pools", "holders", "place", "asked"]) fun _ _ _ _ _ _ us hl => by obtain ⟨_, _, _, _, rfl⟩ := ex4 hl; rfl
  have b_short_places := F_short_places.binds (ps := ["holders", "place", "asked"]) fun _ _ _ _ _ _ us hl => by obtain ⟨_, _, _, rfl⟩ := ex3 hl; rfl
  have b_hands_of := F_hands_of.binds (ps := ["holders", "count"]) fun _ _ _ _ _ _ us hl => by obtain ⟨_, _, rfl⟩ := ex2 hl; rfl
  have b_width := F_width.binds (ps := ["pattern"]) fun _ _ _ _ _ _ us hl => by obtain ⟨_, rfl⟩ := ex1 hl; rfl
  have b_grown := F_grown.binds (ps := ["pattern"]) fun _ _ _ _ _ _ us hl => by obtain ⟨_, rfl⟩ := ex1 hl; rfl
  have b_breaks := F_breaks.binds (ps := ["pattern", "tie"]) fun _ _ _ _ _ _ us hl => by obtain ⟨_, _, rfl⟩ := ex2 hl; rfl
  have b_first_broken := F_first_broken.binds (ps := ["pattern", "ties"]) fun _ _ _ _ _ _ us hl => by obtain ⟨_, _, rfl⟩ := ex2 hl; rfl
  have b_unlike := F_unlike.binds (ps := ["row", "steps"]) fun _ _ _ _ _ _ us hl => by obtain ⟨_, _, rfl⟩ := ex2 hl; rfl
  have b_pools_of := F_pools_of.binds (ps := ["pattern", "may"]) fun _ _ _ _ _ _ us hl => by obtain ⟨_, _, rfl⟩ := ex2 hl; rfl
  have b_pool_of := F_pool_of.binds (ps := ["block", "pattern", "may"]) fun _ _ _ _ _ _ us hl => by obtain ⟨_, _, _, rfl⟩ := ex3 hl; rfl
  have b_plan := F_plan.binds (ps := ["may", "ties"]) fun _ _ _ _ _ _ us hl => by obtain ⟨_, _, rfl⟩ := ex2 hl; rfl
  have b_plan_from := F_plan_from.binds (ps := ["pattern", "may", "ties"]) fun _ _ _ _ _ _ us hl => by obtain ⟨_, _, _, rfl⟩ := ex3 hl; rfl
  have b_held := F_held.binds (ps := ["may", "done"]) fun _ _ _ _ _ _ us hl => by obtain ⟨_, _, rfl⟩ := ex2 hl; rfl
  have b_held_step := F_held_step.binds (ps := ["badges", "hand"]) fun _ _ _ _ _ _ us hl => by obtain ⟨_, _, rfl⟩ := ex2 hl; rfl
  have b_strikes := F_strikes.binds (ps := ["order", "done"]) fun _ _ _ _ _ _ us hl => by obtain ⟨_, _, rfl⟩ := ex2 hl; rfl
  have b_has_all_behind := F_has_all_behind.binds (ps := ["some", "order", "done"]) fun _ _ _ _ _ _ us hl => by obtain ⟨_, _, _, rfl⟩ := ex3 hl; rfl
  have b_struck := F_struck.binds (ps := ["done", "steps"]) fun _ _ _ _ _ _ us hl => by obtain ⟨_, _, rfl⟩ := ex2 hl; rfl
  have b_mend := F_mend.binds (ps := ["may", "ties", "order", "done"]) fun _ _ _ _ _ _ us hl => by obtain ⟨_, _, _, _, rfl⟩ := ex4 hl; rfl
  have b_law_cell := F_law_cell.binds (ps := ["script", "k"]) fun _ _ _ _ _ _ us hl => by obtain ⟨_, _, rfl⟩ := ex2 hl; rfl
  have b_law_whole := F_law_whole.binds (ps := ["found"]) fun _ _ _ _ _ _ us hl => by obtain ⟨_, rfl⟩ := ex1 hl; rfl
  have b_law_row := F_law_row.binds (ps := ["count", "cell"]) fun _ _ _ _ _ _ us hl => by obtain ⟨_, _, rfl⟩ := ex2 hl; rfl
  have b_law_order := F_law_order.binds (ps := ["cells", "row"]) fun _ _ _ _ _ _ us hl => by obtain ⟨_, _, rfl⟩ := ex2 hl; rfl
  have b_law_menu := F_law_menu.binds (ps := ["script", "at", "wide"]) fun _ _ _ _ _ _ us hl => by obtain ⟨_, _, _, rfl⟩ := ex3 hl; rfl
  have b_law_some := F_law_some.binds (ps := ["menu", "cell", "step"]) fun _ _ _ _ _ _ us hl => by obtain ⟨_, _, _, rfl⟩ := ex3 hl; rfl
  have b_law_tie := F_law_tie.binds (ps := ["number", "count"]) fun _ _ _ _ _ _ us hl => by obtain ⟨_, _, rfl⟩ := ex2 hl; rfl
  have b_law_fits := F_law_fits.binds (ps := ["hands", "may", "ties"]) fun _ _ _ _ _ _ us hl => by obtain ⟨_, _, _, rfl⟩ := ex3 hl; rfl
  have b_law_kept_tie := F_law_kept_tie.binds (ps := ["number", "hands"]) fun _ _ _ _ _ _ us hl => by obtain ⟨_, _, rfl⟩ := ex2 hl; rfl
  have b_law_drawn := F_law_drawn.binds (ps := ["script"]) fun _ _ _ _ _ _ us hl => by obtain ⟨_, rfl⟩ := ex1 hl; rfl
  have b_law := F_law.binds (ps := ["script"]) fun _ _ _ _ _ _ us hl => by obtain ⟨_, rfl⟩ := ex1 hl; rfl
  exact ⟨PySem.W.fnOf "law" "law" (defArgs s_law) (defBody s_law) (defScope s_law) .none kV_law dc_law pm_law an_law cd_law ct_law, fun s v => .of_eq rfl, fun base _ _ => ok_law (aF := fun i => List.getD [f_common, f_choices, f_deal, f_settle, f_short_places, f_hands_of, f_width, f_grown, f_breaks, f_first_broken, f_unlike, f_pools_of, f_pool_of, f_plan, f_plan_from, f_held, f_held_step, f_strikes, f_has_all_behind, f_struck, f_mend, f_law_cell, f_law_whole, f_law_row, f_law_order, f_law_menu, f_law_some, f_law_tie, f_law_fits, f_law_kept_tie, f_law_drawn, fa] i fa) (dF := fun i => List.getD [PySem.W.fnOf "common" "common" (defArgs s_common) (defBody s_common) (defScope s_common) .none kV_common dc_common pm_common an_common cd_common ct_common, PySem.W.fnOf "choices" "choices" (defArgs s_choices) (defBody s_choices) (defScope s_choices) .none kV_choices dc_choices pm_choices an_choices cd_choices ct_choices, PySem.W.fnOf "deal" "deal" (defArgs s_deal) (defBody s_deal) (defScope s_deal) .none kV_deal dc_deal pm_deal an_deal cd_deal ct_deal, PySem.W.fnOf "settle" "settle" (defArgs s_settle) (defBody s_settle) (defScope s_settle) .none kV_settle dc_settle pm_settle an_settle cd_settle ct_settle, PySem.W.fnOf "short_places" "short_places" (defArgs s_short_places) (defBody s_short_places) (defScope s_short_places) .none kV_short_places dc_short_places pm_short_places an_short_places cd_short_places ct_short_places, PySem.W.fnOf "hands_of" "hands_of" (defArgs s_hands_of) (defBody s_hands_of) (defScope s_hands_of) .none kV_hands_of dc_hands_of pm_hands_of an_hands_of cd_hands_of ct_hands_of, PySem.W.fnOf "width" "width" (defArgs s_width) (defBody s_width) (defScope s_width) .none kV_width dc_width pm_width an_width cd_width ct_width, PySem.W.fnOf "grown" "grown" (defArgs s_grown) (defBody s_grown) (defScope s_grown) .none kV_grown dc_grown pm_grown an_grown cd_grown ct_grown, PySem.W.fnOf "breaks" "breaks" (defArgs s_breaks) (defBody s_breaks) (defScope s_breaks) .none kV_breaks dc_breaks pm_breaks an_breaks cd_breaks ct_breaks, PySem.W.fnOf "first_broken" "first_broken" (defArgs s_first_broken) (defBody s_first_broken) (defScope s_first_broken) .none kV_first_broken dc_first_broken pm_first_broken an_first_broken cd_first_broken ct_first_broken, PySem.W.fnOf "unlike" "unlike" (defArgs s_unlike) (defBody s_unlike) (defScope s_unlike) .none kV_unlike dc_unlike pm_unlike an_unlike cd_unlike ct_unlike, PySem.W.fnOf "pools_of" "pools_of" (defArgs s_pools_of) (defBody s_pools_of) (defScope s_pools_of) .none kV_pools_of dc_pools_of pm_pools_of an_pools_of cd_pools_of ct_pools_of, PySem.W.fnOf "pool_of" "pool_of" (defArgs s_pool_of) (defBody s_pool_of) (defScope s_pool_of) .none kV_pool_of dc_pool_of pm_pool_of an_pool_of cd_pool_of ct_pool_of, PySem.W.fnOf "plan" "plan" (defArgs s_plan) (defBody s_plan) (defScope s_plan) .none kV_plan dc_plan pm_plan an_plan cd_plan ct_plan, PySem.W.fnOf "plan_from" "plan_from" (defArgs s_plan_from) (defBody s_plan_from) (defScope s_plan_from) .none kV_plan_from dc_plan_from pm_plan_from an_plan_from cd_plan_from ct_plan_from, PySem.W.fnOf "held" "held" (defArgs s_held) (defBody s_held) (defScope s_held) .none kV_held dc_held pm_held an_held cd_held ct_held, PySem.W.fnOf "held_step" "held_step" (defArgs s_held_step) (defBody s_held_step) (defScope s_held_step) .none kV_held_step dc_held_step pm_held_step an_held_step cd_held_step ct_held_step, PySem.W.fnOf "strikes" "strikes" (defArgs s_strikes) (defBody s_strikes) (defScope s_strikes) .none kV_strikes dc_strikes pm_strikes an_strikes cd_strikes ct_strikes, PySem.W.fnOf "has_all_behind" "has_all_behind" (defArgs s_has_all_behind) (defBody s_has_all_behind) (defScope s_has_all_behind) .none kV_has_all_behind dc_has_all_behind pm_has_all_behind an_has_all_behind cd_has_all_behind ct_has_all_behind, PySem.W.fnOf "struck" "struck" (defArgs s_struck) (defBody s_struck) (defScope s_struck) .none kV_struck dc_struck pm_struck an_struck cd_struck ct_struck, PySem.W.fnOf "mend" "mend" (defArgs s_mend) (defBody s_mend) (defScope s_mend) .none kV_mend dc_mend pm_mend an_mend cd_mend ct_mend, PySem.W.fnOf "_law_cell" "_law_cell" (defArgs s_law_cell) (defBody s_law_cell) (defScope s_law_cell) .none kV_law_cell dc_law_cell pm_law_cell an_law_cell cd_law_cell ct_law_cell, PySem.W.fnOf "_law_whole" "_law_whole" (defArgs s_law_whole) (defBody s_law_whole) (defScope s_law_whole) .none kV_law_whole dc_law_whole pm_law_whole an_law_whole cd_law_whole ct_law_whole, PySem.W.fnOf "_law_row" "_law_row" (defArgs s_law_row) (defBody s_law_row) (defScope s_law_row) .none kV_law_row dc_law_row pm_law_row an_law_row cd_law_row ct_law_row, PySem.W.fnOf "_law_order" "_law_order" (defArgs s_law_order) (defBody s_law_order) (defScope s_law_order) .none kV_law_order dc_law_order pm_law_order an_law_order cd_law_order ct_law_order, PySem.W.fnOf "_law_menu" "_law_menu" (defArgs s_law_menu) (defBody s_law_menu) (defScope s_law_menu) .none kV_law_menu dc_law_menu pm_law_menu an_law_menu cd_law_menu ct_law_menu, PySem.W.fnOf "_law_some" "_law_some" (defArgs s_law_some) (defBody s_law_some) (defScope s_law_some) .none kV_law_some dc_law_some pm_law_some an_law_some cd_law_some ct_law_some, PySem.W.fnOf "_law_tie" "_law_tie" (defArgs s_law_tie) (defBody s_law_tie) (defScope s_law_tie) .none kV_law_tie dc_law_tie pm_law_tie an_law_tie cd_law_tie ct_law_tie, PySem.W.fnOf "_law_fits" "_law_fits" (defArgs s_law_fits) (defBody s_law_fits) (defScope s_law_fits) .none kV_law_fits dc_law_fits pm_law_fits an_law_fits cd_law_fits ct_law_fits, PySem.W.fnOf "_law_kept_tie" "_law_kept_tie" (defArgs s_law_kept_tie) (defBody s_law_kept_tie) (defScope s_law_kept_tie) .none kV_law_kept_tie dc_law_kept_tie pm_law_kept_tie an_law_kept_tie cd_law_kept_tie ct_law_kept_tie, PySem.W.fnOf "_law_drawn" "_law_drawn" (defArgs s_law_drawn) (defBody s_law_drawn) (defScope s_law_drawn) .none kV_law_drawn dc_law_drawn pm_law_drawn an_law_drawn cd_law_drawn ct_law_drawn, PySem.W.fnOf "law" "law" (defArgs s_law) (defBody s_law) (defScope s_law) .none kV_law dc_law pm_law an_law cd_law ct_law] i (PySem.W.fnOf "law" "law" (defArgs s_law) (defBody s_law) (defScope s_law) .none kV_law dc_law pm_law an_law cd_law ct_law)) (⟨⟨F_common, b_common, PySem.W.mg_of X G a_common⟩, ⟨F_choices, b_choices, PySem.W.mg_of X G a_choices⟩, ⟨F_deal, b_deal, PySem.W.mg_of X G a_deal⟩, ⟨F_settle, b_settle, PySem.W.mg_of X G a_settle⟩, ⟨F_short_places, b_short_places, PySem.W.mg_of X G a_short_places⟩, ⟨F_hands_of, b_hands_of, PySem.W.mg_of X G a_hands_of⟩, ⟨F_width, b_width, PySem.W.mg_of X G a_width⟩, ⟨F_grown, b_grown, PySem.W.mg_of X G a_grown⟩, ⟨F_breaks, b_breaks, PySem.W.mg_of X G a_breaks⟩, ⟨F_first_broken, b_first_broken, PySem.W.mg_of X G a_first_broken⟩, ⟨F_unlike, b_unlike, PySem.W.mg_of X G a_unlike⟩, ⟨F_pools_of, b_pools_of, PySem.W.mg_of X G a_pools_of⟩, ⟨F_pool_of, b_pool_of, PySem.W.mg_of X G a_pool_of⟩, ⟨F_plan, b_plan, PySem.W.mg_of X G a_plan⟩, ⟨F_plan_from, b_plan_from, PySem.W.mg_of X G a_plan_from⟩, ⟨F_held, b_held, PySem.W.mg_of X G a_held⟩, ⟨F_held_step, b_held_step, PySem.W.mg_of X G a_held_step⟩, ⟨F_strikes, b_strikes, PySem.W.mg_of X G a_strikes⟩, ⟨F_has_all_behind, b_has_all_behind, PySem.W.mg_of X G a_has_all_behind⟩, ⟨F_struck, b_struck, PySem.W.mg_of X G a_struck⟩, ⟨F_mend, b_mend, PySem.W.mg_of X G a_mend⟩, ⟨F_law_cell, b_law_cell, PySem.W.mg_of X G a_law_cell⟩, ⟨F_law_whole, b_law_whole, PySem.W.mg_of X G a_law_whole⟩, ⟨F_law_row, b_law_row, PySem.W.mg_of X G a_law_row⟩, ⟨F_law_order, b_law_order, PySem.W.mg_of X G a_law_order⟩, ⟨F_law_menu, b_law_menu, PySem.W.mg_of X G a_law_menu⟩, ⟨F_law_some, b_law_some, PySem.W.mg_of X G a_law_some⟩, ⟨F_law_tie, b_law_tie, PySem.W.mg_of X G a_law_tie⟩, ⟨F_law_fits, b_law_fits, PySem.W.mg_of X G a_law_fits⟩, ⟨F_law_kept_tie, b_law_kept_tie, PySem.W.mg_of X G a_law_kept_tie⟩, ⟨F_law_drawn, b_law_drawn, PySem.W.mg_of X G a_law_drawn⟩, ⟨F_law, b_law, PySem.W.mg_of X G a_law⟩⟩) T⟩
theorem walk {l : PySem.W.OpenLaw} {q : Program} {loose : List Str} {XP : (Str → Option Value) → Heap → Prop} {YP : World → Heap → Prop} {d : DefRec} {K : Params → PySem.W.Frag} (hn : l.most = some 63) (hdf : d.params.defaults = [])
    (hY : ∀ (w : World) (h : Heap), YP w h → (K w.params).In h)
    (F : ∀ (w : World) (mg : Str → Option Value) (fa : Addr) (h : Heap), (K w.params).In h → h.Ns mainGlobals mg → mg d.name = some (.ref fa) →
      ∃ fd : FuncData, (∀ (s : Shared) (u : Value), BindsTo s fd ⟨[u], []⟩ [("script", u)]) ∧ ∀ base : Heap, (K w.params).In base → base.Ns mainGlobals mg → FnOk l.prog w (K w.params) mg base CX0 40 fa fd ["script"] (sp_law (K w.params))) :
    PySem.W.WalkO q loose XP YP l.row.toRowW d [] (fun f vs => PySem.call f vs) :=
  L2.walk_of (n := 63) (k := 40) (x := "script") (CX := fun _ => CX0) (sp := fun w => sp_law (K w.params)) hn (by decide) hdf ⟨rfl, by decide, by decide⟩ hY F (fun _ _ a ns hl _ hS => ⟨a, ns, rfl, hS, hl, fun _ => rfl⟩) fun _ _ _ _ _ z => z
end My
open PySem PySem.W PyProof.Rows
set_option maxRecDepth 100000 in
set_option maxHeartbeats 0 in
theorem PySem.Challenge.cw_deskround_k49_no_strike_wanted_holds : PySem.Challenge.rw_deskround_k49_no_strike_wanted.Holds := by
  w_on; o_law; k_head; (case hw => w_witness2)
  k_fill
  refine My.walk (l := PySem.Challenge.rw_deskround_k49_no_strike_wanted) rfl rfl (fun w h Y => PySem.W.kIn_of Y) ?F
  case F =>
    intro w mg fa h KX G hmg
    refine' My.all_mk KX G hmg ?a_common ?l_common ?c_common ?k_common ?a_choices ?l_choices ?c_choices ?k_choices ?a_deal ?l_deal ?c_deal ?k_deal ?a_settle ?l_settle ?c_settle ?k_settle ?a_short_places ?l_short_places ?c_short_places ?k_short_places ?a_hands_of ?l_hands_of ?c_hands_of ?k_hands_of ?a_width ?l_width ?c_width ?k_width ?a_grown ?l_grown ?c_grown ?k_grown ?a_breaks ?l_breaks ?c_breaks ?k_breaks ?a_first_broken ?l_first_broken ?c_first_broken ?k_first_broken ?a_unlike ?l_unlike ?c_unlike ?k_unlike ?a_pools_of ?l_pools_of ?c_pools_of ?k_pools_of ?a_pool_of ?l_pool_of ?c_pool_of ?k_pool_of ?a_plan ?l_plan ?c_plan ?k_plan ?a_plan_from ?l_plan_from ?c_plan_from ?k_plan_from ?a_held ?l_held ?c_held ?k_held ?a_held_step ?l_held_step ?c_held_step ?k_held_step ?a_strikes ?l_strikes ?c_strikes ?k_strikes ?a_has_all_behind ?l_has_all_behind ?c_has_all_behind ?k_has_all_behind ?a_struck ?l_struck ?c_struck ?k_struck ?a_mend ?l_mend ?c_mend ?k_mend ?a_law_cell ?l_law_cell ?c_law_cell ?k_law_cell ?a_law_whole ?l_law_whole ?c_law_whole ?k_law_whole ?a_law_row ?l_law_row ?c_law_row ?k_law_row ?a_law_order ?l_law_order ?c_law_order ?k_law_order ?a_law_menu ?l_law_menu ?c_law_menu ?k_law_menu ?a_law_some ?l_law_some ?c_law_some ?k_law_some ?a_law_tie ?l_law_tie ?c_law_tie ?k_law_tie ?a_law_fits ?l_law_fits ?c_law_fits ?k_law_fits ?a_law_kept_tie ?l_law_kept_tie ?c_law_kept_tie ?k_law_kept_tie ?a_law_drawn ?l_law_drawn ?c_law_drawn ?k_law_drawn ?a_law ?l_law ?c_law ?k_law ?z_all ?z_bool ?z_int ?z_isinstance ?z_len ?z_list ?z_max ?z_min ?z_range ?z_set ?z_sorted ?z_tuple ?z_zip
    (case a_common => k_is); (case l_common => k_is); (case c_common => k_is); (case k_common => k_is)
    (case a_choices => k_is); (case l_choices => k_is); (case c_choices => k_is); (case k_choices => k_is)
    (case a_deal => k_is); (case l_deal => k_is); (case c_deal => k_is); (case k_deal => k_is)
    (case a_settle => k_is); (case l_settle => k_is); (case c_settle => k_is); (case k_settle => k_is)
    (case a_short_places => k_is); (case l_short_places => k_is); (case c_short_places => k_is); (case k_short_places => k_is)
    (case a_hands_of => k_is); (case l_hands_of => k_is); (case c_hands_of => k_is); (case k_hands_of => k_is)
    (case a_width => k_is); (case l_width => k_is); (case c_width => k_is); (case k_width => k_is)
    (case a_grown => k_is); (case l_grown => k_is); (case c_grown => k_is); (case k_grown => k_is)
    (case a_breaks => k_is); (case l_breaks => k_is); (case c_breaks => k_is); (case k_breaks => k_is)
    (case a_first_broken => k_is); (case l_first_broken => k_is); (case c_first_broken => k_is); (case k_first_broken => k_is)
    (case a_unlike => k_is); (case l_unlike => k_is); (case c_unlike => k_is); (case k_unlike => k_is)
    (case a_pools_of => k_is); (case l_pools_of => k_is); (case c_pools_of => k_is); (case k_pools_of => k_is)
    (case a_pool_of => k_is); (case l_pool_of => k_is); (case c_pool_of => k_is); (case k_pool_of => k_is)
    (case a_plan => k_is); (case l_plan => k_is); (case c_plan => k_is); (case k_plan => k_is)
    (case a_plan_from => k_is); (case l_plan_from => k_is); (case c_plan_from => k_is); (case k_plan_from => k_is)
    (case a_held => k_is); (case l_held => k_is); (case c_held => k_is); (case k_held => k_is)
    (case a_held_step => k_is); (case l_held_step => k_is); (case c_held_step => k_is); (case k_held_step => k_is)
    (case a_strikes => k_is); (case l_strikes => k_is); (case c_strikes => k_is); (case k_strikes => k_is)
    (case a_has_all_behind => k_is); (case l_has_all_behind => k_is); (case c_has_all_behind => k_is); (case k_has_all_behind => k_is)
    (case a_struck => k_is); (case l_struck => k_is); (case c_struck => k_is); (case k_struck => k_is)
    (case a_mend => k_is); (case l_mend => k_is); (case c_mend => k_is); (case k_mend => k_is)
    (case a_law_cell => k_is); (case l_law_cell => k_is); (case c_law_cell => k_is); (case k_law_cell => k_is)
    (case a_law_whole => k_is); (case l_law_whole => k_is); (case c_law_whole => k_is); (case k_law_whole => k_is)
    (case a_law_row => k_is); (case l_law_row => k_is); (case c_law_row => k_is); (case k_law_row => k_is)
    (case a_law_order => k_is); (case l_law_order => k_is); (case c_law_order => k_is); (case k_law_order => k_is)
    (case a_law_menu => k_is); (case l_law_menu => k_is); (case c_law_menu => k_is); (case k_law_menu => k_is)
    (case a_law_some => k_is); (case l_law_some => k_is); (case c_law_some => k_is); (case k_law_some => k_is)
    (case a_law_tie => k_is); (case l_law_tie => k_is); (case c_law_tie => k_is); (case k_law_tie => k_is)
    (case a_law_fits => k_is); (case l_law_fits => k_is); (case c_law_fits => k_is); (case k_law_fits => k_is)
    (case a_law_kept_tie => k_is); (case l_law_kept_tie => k_is); (case c_law_kept_tie => k_is); (case k_law_kept_tie => k_is)
    (case a_law_drawn => k_is); (case l_law_drawn => k_is); (case c_law_drawn => k_is); (case k_law_drawn => k_is)
    (case a_law => k_is); (case l_law => k_is); (case c_law => k_is); (case k_law => k_is)
    (case z_all => k_is)
    (case z_bool => k_is)
    (case z_int => k_is)
    (case z_isinstance => k_is)
    (case z_len => k_is)
    (case z_list => k_is)
    (case z_max => k_is)
    (case z_min => k_is)
    (case z_range => k_is)
    (case z_set => k_is)
    (case z_sorted => k_is)
    (case z_tuple => k_is)
    (case z_zip => k_is)
