import PyProof.Rows.All
import Wide.All
import OpenK.AllK
import Wide.FinOn
import Lean
import PyProof.EqAt
import PyProof.EqKinds
import PyProof.TupleCall
import PyProof.NeKinds
import PyProof.DictWalks
import PyProof.DictItems
import PyProof.CollectWalk
import KE.KDictList
import PyProof.AutoSeq1
import PyProof.Rows.Range3
import KE.KUnpack
import PyProof.MeetsSeq2
import PyProof.ZipIter
import KE.KRevSl
import PyProof.MeetsSeq
import PyProof.EnumMake
import PyProof.EnumFor
import PyProof.EnumStmt
import PyProof.MinMaxWalk
import PyProof.WalkInts
import PyProof.SumAny
import KE.KRevIter
import PyProof.Rows.FactsT2
import PyProof.IsiH_list
import PyProof.AttrMiss
import KE.KDictOf
import PyProof.ListRange
import KE.KDictLaws
import KE.KSortTup
import KE.KItemsList
import PySem.Challenge.RW_deskround_k26_whole_papers_are_sound
set_option bootstrap.genMatcherCode false
set_option genSizeOf false
set_option Elab.async false
set_option linter.all false
set_option maxRecDepth 100000
namespace L2
open PySem PySem.Spec PyProof.Rows
noncomputable abbrev Key := Sum Int Str
noncomputable def keyIs : Key → Value → Bool
  | .inl k, v => Value.isInt k v
  | .inr x, v => Value.isStrOf x v
noncomputable def keyH (w : World) : Key → Int
  | .inl k => hashInt k
  | .inr x => hashStr w x
theorem keyIs_shape : ∀ {k : Key} {v : Value}, keyIs k v = true → (∃ i t, k = Sum.inl i ∧ v = Value.int i t) ∨ (∃ x t, k = Sum.inr x ∧ v = Value.str x t)
  | .inl i, v, h => by
    obtain ⟨t, e⟩ := Value.isInt_shape (k := i) (v := v) h
    exact .inl ⟨i, t, rfl, e⟩
  | .inr x, v, h => by
    obtain ⟨t, e⟩ := Value.isStrOf_shape (x := x) (v := v) h
    exact .inr ⟨x, t, rfl, e⟩
theorem keyIs_int (i : Int) (t : Tok) : keyIs (.inl i) (.int i t) = true := by simp [keyIs, Value.isInt]
theorem keyIs_str (x : Str) (t : Tok) : keyIs (.inr x) (.str x t) = true := by simp [keyIs, Value.isStrOf]
theorem key_ll (a b : Int) : decide ((Sum.inl a : Key) = Sum.inl b) = (a == b) := by
  by_cases e : a = b
  · subst e; simp
  · have h : ¬ (Sum.inl a : Key) = Sum.inl b := fun q => e (Sum.inl.inj q)
    rw [decide_eq_false h]
    exact (beq_eq_false_iff_ne.mpr e).symm
theorem key_rr (a b : Str) : decide ((Sum.inr a : Key) = Sum.inr b) = decide (a = b) := by
  by_cases e : a = b
  · subst e; simp
  · have h : ¬ (Sum.inr a : Key) = Sum.inr b := fun q => e (Sum.inr.inj q)
    rw [decide_eq_false h, decide_eq_false e]
theorem key_lr (a : Int) (b : Str) : decide ((Sum.inl a : Key) = Sum.inr b) = false := decide_eq_false (fun q => nomatch q)
theorem key_rl (a : Str) (b : Int) : decide ((Sum.inr a : Key) = Sum.inl b) = false := decide_eq_false (fun q => nomatch q)
noncomputable def mixKind (prog : Program) (w : World) : PySem.KeyKind prog w Key where
  is := keyIs
  hash := keyH w
  inj := fun v a b ha hb => by
    rcases keyIs_shape ha with ⟨i, t, rfl, rfl⟩ | ⟨x, t, rfl, rfl⟩
    · rcases keyIs_shape hb with ⟨j, u, rfl, e⟩ | ⟨y, u, rfl, e⟩
      · injection e with e1 _; rw [e1]
      · exact nomatch e
    · rcases keyIs_shape hb with ⟨j, u, rfl, e⟩ | ⟨y, u, rfl, e⟩
      · exact nomatch e
      · injection e with e1 _; rw [e1]
  byValue := fun k v h => by
    rcases keyIs_shape h with ⟨i, t, rfl, rfl⟩ | ⟨x, t, rfl, rfl⟩ <;> rfl
  pyHash := fun hv h => by
    rcases keyIs_shape hv with ⟨i, t, rfl, rfl⟩ | ⟨x, t, rfl, rfl⟩
    · exact wpAny_pyHash_int h
    · exact wpAny_pyHash_str h
  eqBool := fun hu hv h => by
    rcases keyIs_shape hu with ⟨i, t, rfl, rfl⟩ | ⟨x, t, rfl, rfl⟩
    · rcases keyIs_shape hv with ⟨j, u, rfl, rfl⟩ | ⟨y, u, rfl, rfl⟩
      · rw [key_ll] at h; exact wpAny_eqBool_int h
      · rw [key_lr] at h; exact SeqAt.EqAt.int_str i t y u _ _ _ _ h
    · rcases keyIs_shape hv with ⟨j, u, rfl, rfl⟩ | ⟨y, u, rfl, rfl⟩
      · rw [key_rl] at h; exact SeqAt.EqAt.str_int x t j u _ _ _ _ h
      · rw [key_rr] at h; exact wpAny_eqBool_str h
  «strs» := fun k x t v h => by
    rcases keyIs_shape h with ⟨i, u, rfl, e⟩ | ⟨y, u, rfl, e⟩
    · exact nomatch e
    · injection e with e1 _
      subst e1
      cases v <;> rfl
theorem mixKind_int (prog : Program) (w : World) (i : Int) (t : Tok) : (mixKind prog w).is (.inl i) (.int i t) = true := keyIs_int i t
theorem mixKind_str (prog : Program) (w : World) (x : Str) (t : Tok) : (mixKind prog w).is (.inr x) (.str x t) = true := keyIs_str x t
end L2
namespace L2
open PySem PySem.Spec PyProof.Rows
inductive V where
  | non | bl (b : Bool) | int (i : Int) | str (x : Str) | byt (b : Array UInt8) | flt (b : UInt64) | ref (a : Addr) | ty (n : String)
  deriving DecidableEq
noncomputable def RelV : V → Value → Prop
  | .non, u => u = Value.none
  | .bl b, u => u = Value.bool b
  | .int i, u => ∃ t, u = Value.int i t
  | .str x, u => ∃ t, u = Value.str x t
  | .byt b, u => ∃ t, u = Value.bytes b t
  | .flt b, u => ∃ t, u = Value.float b t
  | .ref a, u => u = Value.ref a
  | .ty n, u => u = Value.type n
noncomputable abbrev Vals : List V → List Value → Prop := Paired RelV
theorem Vals.length {xs : List V} {us : List Value} (r : Vals xs us) : xs.length = us.length := Paired.length r
theorem Vals.get : ∀ {xs : List V} {us : List Value} {i : Nat} {x : V}, Vals xs us → xs[i]? = some x → ∃ u, us[i]? = some u ∧ RelV x u := by
  intro xs us i x h
  induction h generalizing i with
  | nil => intro e; simp at e
  | cons r t ih =>
    intro e
    cases i with
    | zero => cases e; exact ⟨_, rfl, r⟩
    | succ i => exact ih e
theorem Vals.set {x : V} {u : Value} (r : RelV x u) : ∀ {xs : List V} {us : List Value} (i : Nat), Vals xs us → Vals (xs.set i x) (us.set i u) := by
  intro xs us i h
  induction h generalizing i with
  | nil => exact .nil
  | cons q t ih =>
    cases i with
    | zero => exact .cons r t
    | succ i => exact .cons q (ih i)
theorem Vals.append : ∀ {xs ys : List V} {us ws : List Value}, Vals xs us → Vals ys ws → Vals (xs ++ ys) (us ++ ws) := by
  intro xs ys us ws h s
  induction h with
  | nil => exact s
  | cons r t ih => exact .cons r ih
theorem Vals.take : ∀ {xs : List V} {us : List Value} (n : Nat), Vals xs us → Vals (xs.take n) (us.take n) := by
  intro xs us n h
  induction h generalizing n with
  | nil => cases n <;> exact .nil
  | cons r t ih =>
    cases n with
    | zero => exact .nil
    | succ n => exact .cons r (ih n)
theorem Vals.drop : ∀ {xs : List V} {us : List Value} (n : Nat), Vals xs us → Vals (xs.drop n) (us.drop n) := by
  intro xs us n h
  induction h generalizing n with
  | nil => cases n <;> exact .nil
  | cons r t ih =>
    cases n with
    | zero => exact .cons r t
    | succ n => exact ih n
noncomputable def RelO : Option V → Option Value → Prop
  | some v, some u => RelV v u
  | none, none => True
  | _, _ => False
noncomputable def KV {κ : Type} : List (κ × V) → List (κ × Value) → Prop := Paired fun (p : κ × V) (q : κ × Value) => p.1 = q.1 ∧ RelV p.2 q.2
noncomputable def kV : Key → V
  | .inl i => .int i
  | .inr x => .str x
inductive HO where
  /-- a list -/
  | lst (xs : List V)
  /-- a tuple (never changes) -/
  | tup (xs : List V)
  /-- a dict whose keys are ints and texts; one whose keys are tuples of ints and texts (the empty one is both) -/
  | dK (kvs : List (Key × V)) | dT (kvs : List (List Key × V))
  /-- a set of ints: its members, its size -/
  | set (S : Int → Bool) (n : Nat)
  /-- an instance of the class at C, its dict at dx, its attributes -/
  | ins (C dx : Addr) (fs : List (Str × V))
  /-- the dict of the instance at x -/
  | own (x : Addr)
  /-- the dict of an exception -/
  | xd (fs : List (Str × V))
  /-- a bound method, f of x -/
  | met (f x : Addr)
  /-- a range object lo, lo + 1, .. below hi -/
  | rng (lo hi : Int)
  /-- a thing that is known to the object (the script; a dict while a loop walks it): read, never written while it is so -/
  | frz (o : Obj) (u : HO)
  /-- a code object's table -/
  | tbl (ps : Array Value)
  /-- any other thing, by what is true of its one object (a def of one's own: SetO a S n := HO.ext fun h => ..) -/
  | ext (φ : Heap → Prop)
noncomputable abbrev Hp := Addr → Option HO
noncomputable def upd (H : Hp) (a : Addr) (o : HO) : Hp := fun b => if b = a then some o else H b
theorem upd_same {H : Hp} {a : Addr} {o : HO} : upd H a o a = some o := by unfold upd; rw [if_pos rfl]
theorem upd_ne {H : Hp} {a b : Addr} {o : HO} (h : b ≠ a) : upd H a o b = H b := by unfold upd; rw [if_neg h]
theorem ne_of {H : Hp} {a b : Addr} {o u : HO} (h : H a = some o) (h' : H b = some u) (d : o ≠ u) : a ≠ b := by
  intro e; subst e; rw [h] at h'; exact d (Option.some.inj h')
theorem ne_of_none {H : Hp} {a b : Addr} {o : HO} (h : H a = some o) (h' : H b = none) : a ≠ b := by
  intro e; subst e; rw [h] at h'; cases h'
section
variable (P : Program) (w : World)
noncomputable def ObjOk (H : Hp) (h : Heap) (a : Addr) : HO → Prop
  | .lst xs => xs.length ≤ sizeLine ∧ ∃ (its : List Value) (n : Nat), Vals xs its ∧ h.get? a = some { cls := .type "list", data := .seq its.toArray n }
  | .tup xs => xs.length ≤ sizeLine ∧ ∃ its : List Value, Vals xs its ∧ IsTup h a its.toArray
  | .dK kvs => kvs.length ≤ sizeLine ∧ (a == sysModules) = false ∧ ∃ vs, KV kvs vs ∧ h.DictOf (mixKind P w) a vs
  | .dT kvs => kvs.length ≤ sizeLine ∧ (a == sysModules) = false ∧ ∃ xs : List (List Key × Addr × Value),
      Paired (fun (p : List Key × V) (q : List Key × Addr × Value) => p.1 = q.1 ∧ H q.2.1 = some (.tup (p.1.map kV)) ∧ RelV p.2 q.2.2) kvs xs ∧
      ∃ o es ep, h.get? a = some o ∧ o.ExactDict ∧ o.data = .dict es ep ∧ es.toList = xs.map (entryOfKey (tupleKind (mixKind P w))) ∧ (xs.map (·.1)).Nodup
  | .set S n => h.SetOf (intKind P w) a S n
  | .ins C dx fs => H dx = some (.own a) ∧ fs.length ≤ 1000 ∧ dx ≠ a ∧ h.get? a = some (PySem.W.instObj C dx) ∧
      ∃ mA, h.Ns1 dx mA ∧ (∀ f, RelO (fs.lookup f) (mA f)) ∧ PySem.Within mA (fs.map (·.1))
  | .own _ => ∃ o, h.get? a = some o
  | .xd fs => ∃ mA, h.Ns1 a mA ∧ ∀ f, RelO (fs.lookup f) (mA f)
  | .rng lo hi => ∃ t u v, h.get? a = some { cls := .type "range", data := .fields #[.int lo t, .int hi u, .int 1 v] }
  | .frz o u => h.get? a = some o ∧ ObjOk H h a u
  | .tbl ps => h.get? a = some { cls := .none, data := .fields ps }
  | .met f x => h.get? a = some (PySem.W.methodObj (.ref f) (.ref x))
  | .ext φ => φ h ∧ (∃ o, h.get? a = some o) ∧ ∀ h1 h2 : Heap, φ h1 → (∀ o, h1.get? a = some o → h2.get? a = some o) → φ h2
noncomputable def HOk (H : Hp) (h : Heap) : Prop := ∀ a o, H a = some o → ObjOk P w H h a o
end
section
variable {P : Program} {w : World} {H H' : Hp} {h h' : Heap} {a : Addr} {o : HO}
theorem ObjOk.lt (x : ObjOk P w H h a o) : a < h.objs.size := by
  cases o with
  | lst xs => obtain ⟨_, _, _, _, e⟩ := x; exact Heap.lt_size e
  | tup xs => obtain ⟨_, _, _, p⟩ := x; exact p.lt
  | dK kvs => obtain ⟨_, _, _, _, o, _, _, e, _⟩ := x; exact Heap.lt_size e
  | dT kvs => obtain ⟨_, _, _, _, o, _, _, e, _⟩ := x; exact Heap.lt_size e
  | set S n => obtain ⟨o, _, _, _, e, _⟩ := x; exact Heap.lt_size e
  | ins C dx fs => obtain ⟨_, _, _, e, _⟩ := x; exact Heap.lt_size e
  | own y => obtain ⟨_, e⟩ := x; exact Heap.lt_size e
  | xd fs => obtain ⟨_, ⟨_, _, _, e, _⟩, _⟩ := x; exact Heap.lt_size e
  | rng lo hi => obtain ⟨_, _, _, e⟩ := x; exact Heap.lt_size e
  | frz ob u => obtain ⟨e, _⟩ := x; exact Heap.lt_size e
  | tbl ps => exact Heap.lt_size (show h.get? a = some _ from x)
  | met f y => exact Heap.lt_size (show h.get? a = some _ from x)
  | ext φ => obtain ⟨_, ⟨_, e⟩, _⟩ := x; exact Heap.lt_size e
theorem Paired.mapP {α β : Type} {F G : α → β → Prop} : ∀ {l₁ : List α} {l₂ : List β}, Paired F l₁ l₂ → (∀ a b, F a b → G a b) → Paired G l₁ l₂ := by
  intro l₁ l₂ h f
  induction h with
  | nil => exact .nil
  | cons r t ih => exact .cons (f _ _ r) ih
theorem ObjOk.stay (x : ObjOk P w H h a o) (k : ∀ b u, (b = a ∨ H b = some (.own a)) → h.get? b = some u → h'.get? b = some u)
    (ho : ∀ b, H b = some (.own a) → H' b = some (.own a)) (ht : ∀ b xs, H b = some (.tup xs) → H' b = some (.tup xs)) : ObjOk P w H' h' a o := by
  induction o with
  | lst xs => obtain ⟨z, its, n, r, e⟩ := x; exact ⟨z, its, n, r, k _ _ (.inl rfl) e⟩
  | tup xs => obtain ⟨z, its, r, ob, e, c⟩ := x; exact ⟨z, its, r, ob, k _ _ (.inl rfl) e, c⟩
  | dK kvs => obtain ⟨z, y, vs, r, ob, es, ep, e, c⟩ := x; exact ⟨z, y, vs, r, ob, es, ep, k _ _ (.inl rfl) e, c⟩
  | dT kvs =>
    obtain ⟨z, y, xs, r, ob, es, ep, e, c⟩ := x
    exact ⟨z, y, xs, Paired.mapP r fun p q z => ⟨z.1, ht _ _ z.2.1, z.2.2⟩, ob, es, ep, k _ _ (.inl rfl) e, c⟩
  | set S n => obtain ⟨ob, es, ep, t, e, c⟩ := x; exact ⟨ob, es, ep, t, k _ _ (.inl rfl) e, c⟩
  | ins C dx fs =>
    obtain ⟨d, z, ne, e, mA, ⟨od, es, ep, e2, c⟩, r⟩ := x
    exact ⟨ho _ d, z, ne, k _ _ (.inl rfl) e, mA, ⟨od, es, ep, k _ _ (.inr d) e2, c⟩, r⟩
  | own y => obtain ⟨ob, e⟩ := x; exact ⟨ob, k _ _ (.inl rfl) e⟩
  | xd fs => obtain ⟨mA, ⟨od, es, ep, e, c⟩, r⟩ := x; exact ⟨mA, ⟨od, es, ep, k _ _ (.inl rfl) e, c⟩, r⟩
  | rng lo hi => obtain ⟨t, u, v, e⟩ := x; exact ⟨t, u, v, k _ _ (.inl rfl) e⟩
  | frz ob u ih => obtain ⟨e, q⟩ := x; exact ⟨k _ _ (.inl rfl) e, ih q⟩
  | tbl ps =>
    have e : h.get? a = some { cls := .none, data := .fields ps } := x
    show h'.get? a = some { cls := .none, data := .fields ps }
    exact k a _ (.inl rfl) e
  | met f y =>
    have e : h.get? a = some (PySem.W.methodObj (.ref f) (.ref y)) := x
    show h'.get? a = some (PySem.W.methodObj (.ref f) (.ref y))
    exact k a _ (.inl rfl) e
  | ext φ => obtain ⟨p, ⟨o, e⟩, st⟩ := x; exact ⟨st _ _ p fun o q => k _ _ (.inl rfl) q, ⟨o, k _ _ (.inl rfl) e⟩, st⟩
theorem HOk.lt (x : HOk P w H h) (e : H a = some o) : a < h.objs.size := (x a o e).lt
theorem HOk.fresh (x : HOk P w H h) (e : h.objs.size ≤ a) : H a = none := by
  cases q : H a with
  | none => rfl
  | some u => exact absurd (Nat.lt_of_lt_of_le (x.lt q) e) (Nat.lt_irrefl _)
theorem HOk.kept (x : HOk P w H h) (k : ∀ b u, h.get? b = some u → h'.get? b = some u) : HOk P w H h' := fun a o e =>
  (x a o e).stay (fun b u _ q => k b u q) (fun _ q => q) fun _ _ q => q
theorem HOk.laid (x : HOk P w H h) (k : ∀ b u, h.get? b = some u → h'.get? b = some u) (hp : h.objs.size ≤ a) (new : ObjOk P w (upd H a o) h' a o) : HOk P w (upd H a o) h' := fun b u e => by
  have hn := x.fresh hp
  by_cases hb : b = a
  · subst hb; rw [upd_same] at e; cases e; exact new
  · rw [upd_ne hb] at e
    exact (x b u e).stay (fun c v _ q => k c v q) (fun c q => by rw [upd_ne (ne_of_none q hn)]; exact q) fun c xs q => by rw [upd_ne (ne_of_none q hn)]; exact q
end
noncomputable def Rd (H : Hp) (a : Addr) (u : HO) : Prop := H a = some u ∨ ∃ o, H a = some (.frz o u)
theorem Rd.ok {P : Program} {w : World} {H : Hp} {h : Heap} {a : Addr} {u : HO} (r : Rd H a u) (x : HOk P w H h) : ObjOk P w H h a u := by
  rcases r with r | ⟨o, r⟩
  · exact x a u r
  · obtain ⟨_, q⟩ := x a _ r
    exact q
noncomputable def Mut : Option HO → Prop
  | some (.lst _) => True
  | some (.dK _) => True
  | some (.dT _) => True
  | some (.set _ _) => True
  | some (.ins _ _ _) => True
  | some (.ext _) => True
  | _ => False
section
variable {P : Program} {w : World} {H : Hp} {h h' : Heap} {x e : Addr} {o' : HO}
theorem HOk.write (ok : HOk P w H h) (mu : Mut (H x)) (he : e = x ∨ H e = some (.own x)) (k : ∀ b u, b ≠ e → h.get? b = some u → h'.get? b = some u) (heo : ∃ u, h'.get? e = some u)
    (new : ObjOk P w (upd H x o') h' x o') : HOk P w (upd H x o') h' := fun b u q => by
  have nown : ∀ c y, H c = some (.own y) → c ≠ x := fun c y r z => by subst z; rw [r] at mu; exact mu
  have ntup : ∀ c xs, H c = some (.tup xs) → c ≠ x := fun c xs r z => by subst z; rw [r] at mu; exact mu
  by_cases hb : b = x
  · subst hb; rw [upd_same] at q; cases q; exact new
  · rw [upd_ne hb] at q
    by_cases hbe : b = e
    · have q' : H b = some (.own x) := by
        rcases he with z | z
        · exact absurd (hbe.trans z) hb
        · rw [hbe]; exact z
      rw [q] at q'; cases q'
      obtain ⟨v, hv⟩ := heo
      exact ⟨v, by rw [hbe]; exact hv⟩
    · refine (ok b u q).stay (fun c v hc r => k c v ?_ r) (fun c r => by rw [upd_ne (nown c b r)]; exact r) fun c xs r => by rw [upd_ne (ntup c xs r)]; exact r
      rcases hc with rfl | hc
      · exact hbe
      · rintro rfl
        rcases he with z | z
        · exact nown c b hc z
        · rw [hc] at z; cases z; exact hb rfl
end
structure Un (fs ex : List Addr) (H H' : Hp) (h h' : Heap) : Prop where
  keep : ∀ b o, h.get? b = some o → H b = none → b ∉ fs → b ∉ ex → h'.get? b = some o
  slot : ∀ b o, h.get? b = some o → H b = none → b ∈ fs → b ∉ ex → ∃ sl, h'.get? b = some { o with slots := sl }
  free : ∀ b o, h.get? b = some o → H b = none → b ∉ ex → H' b = none
  there : ∀ b o, h.get? b = some o → b ∉ ex → ∃ o', h'.get? b = some o'
  tups : ∀ b xs, H b = some (.tup xs) → H' b = some (.tup xs)
  frzs : ∀ b o u, H b = some (.frz o u) → H' b = some (.frz o u)
  tbls : ∀ b ps, H b = some (.tbl ps) → ∃ more, H' b = some (.tbl (ps ++ more))
section
variable {fs fs' ex ex' : List Addr} {H H1 H2 : Hp} {h h1 h2 h' : Heap} {a x e : Addr} {o : HO}
theorem Un.any (u : Un fs ex H H1 h h1) {b : Addr} {ob : Obj} (q : h.get? b = some ob) (n : H b = none) (hx : b ∉ ex) : ∃ sl, h1.get? b = some { ob with slots := sl } := by
  by_cases hb : b ∈ fs
  · exact u.slot b ob q n hb hx
  · exact ⟨ob.slots, u.keep b ob q n hb hx⟩
theorem Un.trans (a : Un fs ex H H1 h h1) (b : Un fs ex H1 H2 h1 h2) : Un fs ex H H2 h h2 where
  keep := fun c ob q n hc hx => b.keep c ob (a.keep c ob q n hc hx) (a.free c ob q n hx) hc hx
  slot := fun c ob q n hc hx => by
    obtain ⟨sl, e1⟩ := a.slot c ob q n hc hx
    obtain ⟨sl', e2⟩ := b.slot c _ e1 (a.free c ob q n hx) hc hx
    exact ⟨sl', e2⟩
  free := fun c ob q n hx => by
    obtain ⟨o', e1⟩ := a.there c ob q hx
    exact b.free c o' e1 (a.free c ob q n hx) hx
  there := fun c ob q hx => by
    obtain ⟨o', e1⟩ := a.there c ob q hx
    exact b.there c o' e1 hx
  tups := fun c xs q => b.tups c xs (a.tups c xs q)
  frzs := fun c ob xs q => b.frzs c ob xs (a.frzs c ob xs q)
  tbls := fun c ps q => by
    obtain ⟨m1, e1⟩ := a.tbls c ps q
    obtain ⟨m2, e2⟩ := b.tbls c _ e1
    exact ⟨m1 ++ m2, by rw [e2, Array.append_assoc]⟩
theorem Un.kept (k : ∀ b u, h.get? b = some u → h'.get? b = some u) : Un fs ex H H h h' :=
  ⟨fun b ob q _ _ _ => k b ob q, fun b ob q _ _ _ => ⟨ob.slots, k b ob q⟩, fun _ _ _ n _ => n, fun b ob q _ => ⟨ob, k b ob q⟩, fun _ _ q => q, fun _ _ _ q => q, fun _ ps q => ⟨#[], by rw [q]; simp⟩⟩
theorem Un.refl : Un fs ex H H h h := Un.kept fun _ _ q => q
theorem Un.laid (k : ∀ b u, h.get? b = some u → h'.get? b = some u) (hp : h.objs.size ≤ a) (hn : H a = none) : Un fs ex H (upd H a o) h h' where
  keep := fun b u q _ _ _ => k b u q
  slot := fun b u q _ _ _ => ⟨u.slots, k b u q⟩
  free := fun b u q n _ => by rw [upd_ne (Nat.ne_of_lt (Nat.lt_of_lt_of_le (Heap.lt_size q) hp))]; exact n
  there := fun b u q _ => ⟨u, k b u q⟩
  tups := fun b xs q => by rw [upd_ne (ne_of_none q hn)]; exact q
  frzs := fun b u xs q => by rw [upd_ne (ne_of_none q hn)]; exact q
  tbls := fun b ps q => ⟨#[], by rw [upd_ne (ne_of_none q hn), q]; simp⟩
theorem Un.write (mu : Mut (H x)) (he : e = x ∨ H e = some (.own x)) (k : ∀ b u, b ≠ e → h.get? b = some u → h'.get? b = some u) (heo : ∃ u, h'.get? e = some u) : Un fs ex H (upd H x o) h h' := by
  have hx : ∀ b, H b = none → b ≠ x := fun b n z => by subst z; rw [n] at mu; exact mu
  have hb : ∀ b, H b = none → b ≠ e := fun b n z => by
    subst z
    rcases he with r | r
    · exact hx b n r
    · rw [n] at r; cases r
  have hm : ∀ b u, H b = some u → ¬ Mut (some u) → b ≠ x := fun b u q nm z => by subst z; rw [q] at mu; exact nm mu
  refine ⟨fun b u q n _ _ => k b u (hb b n) q, fun b u q n _ _ => ⟨u.slots, k b u (hb b n) q⟩, fun b u q n _ => by rw [upd_ne (hx b n)]; exact n, fun b u q _ => ?_,
    fun b xs q => by rw [upd_ne (hm b _ q fun z => z)]; exact q, fun b u xs q => by rw [upd_ne (hm b _ q fun z => z)]; exact q, fun b ps q => ⟨#[], by rw [upd_ne (hm b _ q fun z => z), q]; simp⟩⟩
  by_cases hbe : b = e
  · subst hbe; exact heo
  · exact ⟨u, k b u hbe q⟩
end
noncomputable def trk (h : Heap) (H : Hp) : List Addr := (List.range h.objs.size).filter fun a => (H a).isSome
noncomputable def hidT (h : Heap) (H : Hp) : Heap := PySem.W.hideAll h (trk h H)
theorem hidT_size (h : Heap) (H : Hp) : (hidT h H).objs.size = h.objs.size := PySem.W.hideAll_size _ _
theorem hidT_get {h : Heap} {H : Hp} {b : Addr} {o : Obj} (e : h.get? b = some o) (n : H b = none) : (hidT h H).get? b = some o :=
  PySem.W.hideAll_get _ e fun hm => by
    have q : (H b).isSome = true := (List.mem_filter.mp hm).2
    rw [n] at q; simp at q
theorem of_hidT {h : Heap} {H : Hp} {b : Addr} {o : Obj} (e : (hidT h H).get? b = some o) : h.get? b = some o ∧ H b = none := by
  have e' : h.get? b = some o := PySem.W.of_hideAll (trk h H) e
  refine ⟨e', ?_⟩
  cases q : H b with
  | none => rfl
  | some x =>
    have hm : b ∈ trk h H := List.mem_filter.mpr ⟨List.mem_range.mpr (Heap.lt_size e'), by simp [q]⟩
    have z : (hidT h H).get? b = none := PySem.W.hideAll_none (trk h H) hm
    rw [z] at e; cases e
noncomputable def allNews (g h : Heap) (L : Addr) : List (Addr × Obj) := (List.range h.objs.size).filterMap fun a => if a = L ∨ (g.get? a).isSome = true then none else (h.get? a).map fun o => (a, o)
noncomputable def rest (g h : Heap) (L d : Addr) : List (Addr × Obj) := (allNews g h L).filter fun p => decide (p.1 ≠ d)
end L2
namespace L2
open PySem PySem.Spec PyProof.Rows
structure Mod (K : PySem.W.Frag) (mg : Str → Option Value) (base : Heap) : Prop where
  kin : K.In base
  glob : base.Ns mainGlobals mg
  blt : ∃ mb, base.Ns builtinsNs mb ∧ ∀ x : Str, x ≠ "__name__" → mb x = bootBuiltins x
  nolimit : base.NoLimit
/-- the context: a def's body (or a comprehension's block) running. base: fixed through the whole law; s₀, H₀: the entry; outer: the frames whose slots others may change (a def's callers); stack: all frames that run;
   ex: iterators that were made ahead of the entry and are walked here (a comprehension's); fn: the names whose cells were made at the entry (a def: all; a comprehension's block: its own); calm: not within an except suite; pn: pins that every state bears; xe: what is wanted of an exception that leaves the code -/
structure Cx where
  prog : Program
  w : World
  K : PySem.W.Frag
  mg : Str → Option Value
  base : Heap
  A : Around
  N : List Str
  s₀ : Shared
  H₀ : Hp
  env : Env
  outer : List Env
  stack : List Env
  ex : List Addr
  fn : Str → Bool
  calm : Bool
  pn : List (Addr × Obj)
  xe : Value → Shared → Prop
noncomputable def frs (l : List Env) : List Addr := l.filterMap (·.frame)
noncomputable abbrev Cx.fs (X : Cx) : List Addr := frs X.outer
noncomputable def Vis (sc : Scope) (x : Str) : Prop := sc.names.lookup x = some .local ∨ sc.names.lookup x = some .cell ∨ sc.names.lookup x = some .free
noncomputable def Loc (sc : Scope) (x : Str) : Prop := sc.names.lookup x = some .local ∨ sc.names.lookup x = some .cell
noncomputable def Look (env : Env) (h : Heap) (m : Str → Option Value) (x : Str) (u : Value) : Prop :=
  (env.kindOf x = some .local ∧ m x = some u) ∨ ((env.kindOf x = some .cell ∨ env.kindOf x = some .free) ∧ ∃ c, env.cells.lookup x = some c ∧ h.IsCell c (some u))
structure Cx.Ok (X : Cx) : Prop where
  mod : Mod X.K X.mg X.base
  kind : X.env.scope.kind = .function
  glob : X.env.globals = mainGlobals
  blt : X.env.builtins = builtinsNs
  above : X.s₀.heap.objs.size ≤ X.env.locals
  inj : ∀ x y c, X.env.cells.lookup x = some c → X.env.cells.lookup y = some c → x = y
  has : ∀ x, (X.env.kindOf x = some .cell ∨ X.env.kindOf x = some .free) → ∃ c, X.env.cells.lookup x = some c
  cab : ∀ x c, X.fn x = true → X.env.cells.lookup x = some c → X.s₀.heap.objs.size ≤ c
  hd : X.calm = true → X.A.handled = none
  frames : X.A.frames = some X.stack
  stk : X.stack = X.outer ∨ (X.stack = X.env :: X.outer ∧ X.env.frame = some X.env.locals)
  exf : ∀ b ∈ X.ex, b ≠ X.env.locals ∧ ∀ x c, X.env.cells.lookup x = some c → c ≠ b
  bs : ∀ b o, X.base.get? b = some o → X.s₀.heap.get? b = some o ∧ X.H₀ b = none
  bsz : X.base.objs.size ≤ X.s₀.heap.objs.size
  noex : ∀ b o, X.base.get? b = some o → b ∉ X.ex
  exfs : ∀ b ∈ X.ex, b ∉ X.fs
  funs : X.s₀.heap.FunFrames X.base X.outer
  frf : ∀ b ∈ X.fs, X.H₀ b = none
structure Inv (X : Cx) (pins : List (Addr × Obj)) (σ : List (Option V)) (H : Hp) (s : Shared) : Prop where
  ok : X.Ok
  os : s.os = X.s₀.os
  bare : AllBare s.gens
  base : Un X.fs X.ex X.H₀ H X.s₀.heap s.heap
  loc : ∃ m, s.heap.Ns X.env.locals m ∧ ∀ (i : Nat) (x : Str) (v : V), X.N[i]? = some x → σ[i]? = some (some v) → Vis X.env.scope x → ∃ u, RelV v u ∧ Look X.env s.heap m x u
  cell : ∀ x c, X.env.cells.lookup x = some c → ∃ v, s.heap.IsCell c v
  free : H X.env.locals = none
  freeC : ∀ x c, X.env.cells.lookup x = some c → H c = none
  pin : ∀ p ∈ X.pn ++ pins, s.heap.get? p.1 = some p.2 ∧ H p.1 = none ∧ p.1 ≠ X.env.locals ∧ p.1 ∉ X.fs ∧ ∀ v, p.2.data ≠ .cell v
  hok : HOk X.prog X.w H s.heap
  len : σ.length = X.N.length
section
variable {X : Cx} {pins : List (Addr × Obj)} {σ : List (Option V)} {H H' : Hp} {s : Shared} {h' : Heap}
theorem Cx.Ok.nofr (ok : X.Ok) {b : Addr} {o : Obj} (e : X.base.get? b = some o) : b ∉ X.fs := fun hb => by
  have := (ok.funs.mem hb).1
  rw [e] at this; cases this
theorem Inv.bs (I : Inv X pins σ H s) : ∀ b o, X.base.get? b = some o → s.heap.get? b = some o ∧ H b = none := fun b o e =>
  ⟨I.base.keep b o (I.ok.bs b o e).1 (I.ok.bs b o e).2 (I.ok.nofr e) (I.ok.noex b o e), I.base.free b o (I.ok.bs b o e).1 (I.ok.bs b o e).2 (I.ok.noex b o e)⟩
theorem Inv.bk (I : Inv X pins σ H s) : ∀ b o, X.base.get? b = some o → s.heap.get? b = some o := fun b o e => (I.bs b o e).1
theorem Inv.mod (I : Inv X pins σ H s) : Mod X.K X.mg X.base := I.ok.mod
theorem Inv.kIn (I : Inv X pins σ H s) : X.K.In s.heap := I.ok.mod.kin.keeps I.bk
theorem Inv.fr (I : Inv X pins σ H s) : ∃ m, Fr X.base X.env.locals s.heap m :=
  let ⟨m, hn, _⟩ := I.loc
  ⟨m, hn, I.bk, Nat.le_trans I.ok.bsz I.ok.above⟩
theorem Inv.lt (I : Inv X pins σ H s) : X.env.locals < s.heap.objs.size := let ⟨_, hn, _⟩ := I.loc; hn.lt
theorem Inv.sz (I : Inv X pins σ H s) : X.s₀.heap.objs.size ≤ s.heap.objs.size := Nat.le_trans I.ok.above (Nat.le_of_lt I.lt)
theorem Inv.nofs (I : Inv X pins σ H s) {a : Addr} (h : s.heap.objs.size ≤ a) : a ∉ X.fs := fun hb => by
  obtain ⟨_, o, ho, _⟩ := I.ok.funs.mem hb
  exact absurd (Nat.lt_of_lt_of_le (Heap.lt_size ho) (Nat.le_trans I.sz h)) (Nat.lt_irrefl _)
theorem Inv.cne (I : Inv X pins σ H s) : ∀ x c, X.env.cells.lookup x = some c → c ≠ X.env.locals := fun x c e z => by
  obtain ⟨v, o, ho, hd⟩ := I.cell x c e
  obtain ⟨m, ⟨o', es, ep, ho', hd', _⟩, _⟩ := I.loc
  rw [z, ho'] at ho; cases ho; rw [hd'] at hd; cases hd
theorem Inv.funs (I : Inv X pins σ H s) : s.heap.FunFrames X.base X.outer := by
  have all : ∀ (l : List Env), (∀ b ∈ frs l, b ∈ X.fs) → X.s₀.heap.FunFrames X.base l → s.heap.FunFrames X.base l := by
    intro l
    induction l with
    | nil => intro _ _; trivial
    | cons env r ih =>
      intro hs hl
      obtain ⟨hk, ⟨L, o, hf, hn, ho, hd⟩, hr⟩ := hl
      have hL : L ∈ X.fs := hs L (by unfold frs; rw [List.filterMap_cons, hf]; exact List.mem_cons_self)
      obtain ⟨sl, e⟩ := I.base.slot L o ho (I.ok.frf L hL) hL fun z => I.ok.exfs L z hL
      exact ⟨hk, ⟨L, _, hf, hn, e, hd⟩, ih (fun b hb => hs b (by unfold frs; rw [List.filterMap_cons, hf]; exact List.mem_cons_of_mem _ hb)) hr⟩
  exact all X.outer (fun _ hb => hb) I.ok.funs
theorem Inv.stack (I : Inv X pins σ H s) : s.heap.FunFrames X.base X.stack := by
  rcases I.ok.stk with e | ⟨e, hf⟩
  · rw [e]; exact I.funs
  · rw [e]
    obtain ⟨m, hn, _⟩ := I.loc
    refine .cons (by rw [I.ok.kind]; decide) hf hn ?_ I.funs
    exact Heap.get?_none_of_le (Nat.le_trans I.ok.bsz I.ok.above)
theorem Inv.stkSub (I : Inv X pins σ H s) : ∀ b ∈ frs X.stack, b ∈ X.env.locals :: X.fs := fun b hb => by
  rcases I.ok.stk with e | ⟨e, hf⟩
  · rw [e] at hb; exact List.mem_cons_of_mem _ hb
  · rw [e] at hb
    unfold frs at hb
    rw [List.filterMap_cons, hf] at hb
    exact hb
theorem Inv.stkFree (I : Inv X pins σ H s) : ∀ b ∈ frs X.stack, H b = none := fun b hb => by
  rcases List.mem_cons.mp (I.stkSub b hb) with e | hb
  · rw [e]; exact I.free
  · obtain ⟨_, o, ho, _⟩ := I.ok.funs.mem hb
    exact I.base.free b o ho (I.ok.frf b hb) fun z => I.ok.exfs b z hb
theorem Inv.step {g' : Array GenState} {t' : Nat} {d' : Drawn} {ch : List Addr} (I : Inv X pins σ H s)
    (hch : ∀ b ∈ ch, (b ∈ X.ex ∨ X.s₀.heap.objs.size ≤ b) ∧ b ≠ X.env.locals ∧ (∀ x c, X.env.cells.lookup x = some c → c ≠ b) ∧ ∀ p ∈ X.pn ++ pins, p.1 ≠ b)
    (keep : ∀ b o, b ≠ X.env.locals → b ∉ X.fs → b ∉ ch → s.heap.get? b = some o → H b = none → h'.get? b = some o)
    (slot : ∀ b o, b ≠ X.env.locals → b ∈ X.fs → b ∉ ch → s.heap.get? b = some o → H b = none → ∃ sl, h'.get? b = some { o with slots := sl }) (free : ∀ b o, b ∉ ch → s.heap.get? b = some o → H b = none → H' b = none)
    (there : ∀ b o, b ∉ ch → s.heap.get? b = some o → ∃ o', h'.get? b = some o')
    (tups : ∀ b xs, H b = some (.tup xs) → H' b = some (.tup xs)) (frzs : ∀ b o u, H b = some (.frz o u) → H' b = some (.frz o u)) (tbls : ∀ b ps, H b = some (.tbl ps) → ∃ more, H' b = some (.tbl (ps ++ more)))
    (ns : ∀ m, s.heap.Ns X.env.locals m → h'.Ns X.env.locals m) (hok : HOk X.prog X.w H' h') (hg : AllBare g') :
    Inv X pins σ H' { s with heap := h', gens := g', drawn := d', toks := t' } := by
  have neL : ∀ b o, X.s₀.heap.get? b = some o → b ≠ X.env.locals := fun b o e => Nat.ne_of_lt (Nat.lt_of_lt_of_le (Heap.lt_size e) I.ok.above)
  have neC : ∀ b o, X.s₀.heap.get? b = some o → b ∉ X.ex → b ∉ ch := fun b o e hx hb => by
    rcases (hch b hb).1 with z | z
    · exact hx z
    · exact absurd (Nat.lt_of_lt_of_le (Heap.lt_size e) z) (Nat.lt_irrefl _)
  have cellK : ∀ x c, X.env.cells.lookup x = some c → ∀ v, s.heap.IsCell c v → h'.IsCell c v := fun x c e v ⟨o, ho, hd⟩ => by
    have nch : c ∉ ch := fun z => (hch c z).2.2.1 x c e rfl
    by_cases hc : c ∈ X.fs
    · obtain ⟨sl, q⟩ := slot c o (I.cne x c e) hc nch ho (I.freeC x c e)
      exact ⟨_, q, hd⟩
    · exact ⟨o, keep c o (I.cne x c e) hc nch ho (I.freeC x c e), hd⟩
  refine ⟨I.ok, I.os, hg, ⟨fun b o e n hb hx => ?_, fun b o e n hb hx => ?_, fun b o e n hx => ?_, fun b o e hx => ?_, fun b xs e => tups b xs (I.base.tups b xs e), fun b o xs e => frzs b o xs (I.base.frzs b o xs e), fun b ps e => ?_⟩, ?_, fun x c e => ?_, ?_, fun x c e => ?_, fun p hp => ?_, hok, I.len⟩
  · exact keep b o (neL b o e) hb (neC b o e hx) (I.base.keep b o e n hb hx) (I.base.free b o e n hx)
  · obtain ⟨sl, e1⟩ := I.base.slot b o e n hb hx
    obtain ⟨sl', e2⟩ := slot b _ (neL b o e) hb (neC b o e hx) e1 (I.base.free b o e n hx)
    exact ⟨sl', e2⟩
  · obtain ⟨o', e1⟩ := I.base.there b o e hx
    exact free b o' (neC b o e hx) e1 (I.base.free b o e n hx)
  · obtain ⟨o', e1⟩ := I.base.there b o e hx
    exact there b o' (neC b o e hx) e1
  · obtain ⟨m1, e1⟩ := I.base.tbls b ps e
    obtain ⟨m2, e2⟩ := tbls b _ e1
    exact ⟨m1 ++ m2, by rw [e2, Array.append_assoc]⟩
  · obtain ⟨m, hn, hl⟩ := I.loc
    refine ⟨m, ns m hn, fun i x v e1 e2 e3 => ?_⟩
    obtain ⟨u, r, l⟩ := hl i x v e1 e2 e3
    refine ⟨u, r, ?_⟩
    rcases l with l | ⟨k, c, e, z⟩
    · exact .inl l
    · exact .inr ⟨k, c, e, cellK x c e _ z⟩
  · obtain ⟨v, z⟩ := I.cell x c e
    exact ⟨v, cellK x c e v z⟩
  · obtain ⟨m, ⟨o, _, _, ho, _⟩, _⟩ := I.loc
    exact free _ o (fun z => (hch _ z).2.1 rfl) ho I.free
  · obtain ⟨v, o, ho, hd⟩ := I.cell x c e
    exact free c o (fun z => (hch c z).2.2.1 x c e rfl) ho (I.freeC x c e)
  · obtain ⟨e, n, ne, nf, d⟩ := I.pin p hp
    have nch : p.1 ∉ ch := fun z => (hch p.1 z).2.2.2 p hp rfl
    exact ⟨keep p.1 p.2 ne nf nch e n, free p.1 p.2 nch e n, ne, nf, d⟩
theorem Inv.un {t' : Nat} (I : Inv X pins σ H s) (u : Un X.fs [] H H' s.heap h') (hok : HOk X.prog X.w H' h') : Inv X pins σ H' { s with heap := h', toks := t' } := by
  obtain ⟨m, ⟨o, es, ep, ho, r⟩, _⟩ := id I.loc
  obtain ⟨sl, hL⟩ := u.any ho I.free (by simp)
  exact I.step (g' := s.gens) (d' := s.drawn) (ch := []) (fun _ z => nomatch z) (fun b o _ hb _ e n => u.keep b o e n hb (by simp)) (fun b o _ hb _ e n => u.slot b o e n hb (by simp)) (fun b o _ e n => u.free b o e n (by simp)) (fun b o _ e => u.there b o e (by simp)) u.tups u.frzs u.tbls (fun m' hm => by
    obtain ⟨o', es', ep', ho', r'⟩ := hm
    rw [ho] at ho'; cases ho'
    exact ⟨_, es', ep', hL, r'⟩) hok I.bare
theorem Inv.call {g' : Array GenState} {t' : Nat} {d' : Drawn} {ch : List Addr} (I : Inv X pins σ H s) (u : Un (frs X.stack) ch H H' s.heap h') (hok : HOk X.prog X.w H' h') (hg : AllBare g')
    (hch : ∀ b ∈ ch, (b ∈ X.ex ∨ X.s₀.heap.objs.size ≤ b) ∧ b ≠ X.env.locals ∧ (∀ x c, X.env.cells.lookup x = some c → c ≠ b) ∧ ∀ p ∈ X.pn ++ pins, p.1 ≠ b) :
    Inv X pins σ H' { s with heap := h', gens := g', drawn := d', toks := t' } := by
  obtain ⟨m, ⟨o, es, ep, ho, r⟩, _⟩ := id I.loc
  obtain ⟨sl, hL⟩ := u.any ho I.free fun z => (hch _ z).2.1 rfl
  exact I.step (ch := ch) hch (fun b o hL hb hc e n => u.keep b o e n (fun z => (List.mem_cons.mp (I.stkSub b z)).elim hL hb) hc) (fun b o _ _ hc e n => u.any e n hc) (fun b o hc e n => u.free b o e n hc) (fun b o hc e => u.there b o e hc) u.tups u.frzs u.tbls (fun m' hm => by
    obtain ⟨o', es', ep', ho', r'⟩ := hm
    rw [ho] at ho'; cases ho'
    exact ⟨_, es', ep', hL, r'⟩) hok hg
theorem Inv.turned {t' : Nat} {it : Addr} (I : Inv X pins σ H s) (k : ∀ b o, b ≠ it → s.heap.get? b = some o → h'.get? b = some o) (hn : H it = none) (hL : it ≠ X.env.locals)
    (h1 : it ∈ X.ex ∨ X.s₀.heap.objs.size ≤ it) (h2 : ∀ x c, X.env.cells.lookup x = some c → c ≠ it) (h3 : ∀ p ∈ X.pn ++ pins, p.1 ≠ it) : Inv X pins σ H { s with heap := h', toks := t' } := by
  have nit : ∀ b u, H b = some u → b ≠ it := fun b u e z => by rw [z, hn] at e; cases e
  refine I.step (g' := s.gens) (d' := s.drawn) (ch := [it]) (fun b hb => ?_) (fun b o _ _ hc e _ => k b o (fun z => hc (by simp [z])) e) (fun b o _ _ hc e _ => ⟨o.slots, k b o (fun z => hc (by simp [z])) e⟩) (fun _ _ _ _ n => n)
    (fun b o hc e => ⟨o, k b o (fun z => hc (by simp [z])) e⟩) (fun _ _ e => e) (fun _ _ _ e => e) (fun b ps e => ⟨#[], by rw [e]; simp⟩) (fun m hm => ?_) (fun b u e => ?_) I.bare
  · have e : b = it := by simpa using hb
    subst e
    exact ⟨h1, hL, h2, h3⟩
  · obtain ⟨o, es, ep, ho, r⟩ := hm
    exact ⟨o, es, ep, k _ o (Ne.symm hL) ho, r⟩
  · refine (I.hok b u e).stay (fun c v hc q => k c v ?_ q) (fun _ q => q) fun _ _ q => q
    rcases hc with z | z
    · rw [z]; exact nit b u e
    · exact nit c _ z
theorem Inv.tok (I : Inv X pins σ H s) (t : Nat) : Inv X pins σ H { s with toks := t } := I.un (h' := s.heap) (t' := t) Un.refl I.hok
theorem Inv.kept {t' : Nat} (I : Inv X pins σ H s) (k : ∀ b u, s.heap.get? b = some u → h'.get? b = some u) : Inv X pins σ H { s with heap := h', toks := t' } := I.un (Un.kept k) (I.hok.kept k)
theorem Inv.laid {a : Addr} {o : HO} {t' : Nat} (I : Inv X pins σ H s) (k : ∀ b u, s.heap.get? b = some u → h'.get? b = some u) (hp : s.heap.objs.size ≤ a) (new : ObjOk X.prog X.w (upd H a o) h' a o) :
    Inv X pins σ (upd H a o) { s with heap := h', toks := t' } := I.un (Un.laid k hp (I.hok.fresh hp)) (I.hok.laid k hp new)
theorem Inv.write {x e : Addr} {o : HO} {t' : Nat} (I : Inv X pins σ H s) (mu : Mut (H x)) (he : e = x ∨ H e = some (.own x)) (k : ∀ b u, b ≠ e → s.heap.get? b = some u → h'.get? b = some u) (heo : ∃ u, h'.get? e = some u)
    (new : ObjOk X.prog X.w (upd H x o) h' x o) : Inv X pins σ (upd H x o) { s with heap := h', toks := t' } := I.un (Un.write mu he k heo) (I.hok.write mu he k heo new)
theorem Inv.weak {σ' : List (Option V)} (I : Inv X pins σ H s) (hl : σ'.length = σ.length) (w : ∀ (i : Nat) v, σ'[i]? = some (some v) → σ[i]? = some (some v)) : Inv X pins σ' H s :=
  ⟨I.ok, I.os, I.bare, I.base, let ⟨m, hn, hl'⟩ := I.loc; ⟨m, hn, fun i x v e1 e2 e3 => hl' i x v e1 (w i v e2) e3⟩, I.cell, I.free, I.freeC, I.pin, I.hok, hl.trans I.len⟩
theorem Inv.pins_of {pins' : List (Addr × Obj)} (I : Inv X pins σ H s) (h : ∀ p ∈ pins', s.heap.get? p.1 = some p.2 ∧ H p.1 = none ∧ p.1 ≠ X.env.locals ∧ p.1 ∉ X.fs ∧ ∀ v, p.2.data ≠ .cell v) : Inv X pins' σ H s :=
  ⟨I.ok, I.os, I.bare, I.base, I.loc, I.cell, I.free, I.freeC, fun p hp => (List.mem_append.mp hp).elim (fun z => I.pin p (List.mem_append_left _ z)) (h p), I.hok, I.len⟩
theorem nodup_ix {N : List Str} (hN : N.Nodup) {i j : Nat} {x : Str} (a : N[i]? = some x) (b : N[j]? = some x) : i = j := by
  obtain ⟨h1, e1⟩ := List.getElem?_eq_some_iff.mp a
  obtain ⟨h2, e2⟩ := List.getElem?_eq_some_iff.mp b
  exact (List.getElem_inj hN).mp (e1.trans e2.symm)
theorem store_ok2 {M : Model} {A : Around} {E : Value → Shared → Prop} {i : Nat} {x : Str} {v : V} {u : Value} {Q : Unit → Shared → Prop} (I : Inv X pins σ H s) (hN : X.N.Nodup) (hi : X.N[i]? = some x) (hx : Loc X.env.scope x) (r : RelV v u)
    (h : ∀ s', Inv X pins (σ.set i (some v)) H s' → (∃ a, Heap.SameBut a s.heap s'.heap ∧ (a = X.env.locals ∨ X.env.cells.lookup x = some a)) → Q () s') (hf : X.fn x = true ∨ X.env.scope.names.lookup x = some .local := by first | exact .inl rfl | exact .inr rfl | assumption) : wpAny M A (storeName X.env x u) Q E s := by
  obtain ⟨m, hn, hl⟩ := id I.loc
  have hcls : (X.env.scope.kind == .class || (X.env.scope.kind == .module && X.env.locals != X.env.globals)) = false := by rw [I.ok.kind]; rfl
  have hiσ : i < σ.length := by rw [I.len]; exact (List.getElem?_eq_some_iff.mp hi).1
  have cne := I.cne
  have tracked : ∀ {a : Addr} {h' : Heap}, (∃ o, s.heap.get? a = some o ∧ H a = none) → Heap.SameBut a s.heap h' → HOk X.prog X.w H h' := fun {a h'} ha hs b ob e => by
    obtain ⟨_, _, hfree⟩ := ha
    refine (I.hok b ob e).stay (fun c w' hc q => (hs.2 c ?_).trans q) (fun _ q => q) fun _ _ q => q
    rintro rfl
    rcases hc with rfl | hc
    · rw [hfree] at e; cases e
    · rw [hfree] at hc; cases hc
  rcases hx with hk | hk
  · refine wpAny_storeName_local hk hn (fun h' hn' hs => ?_) hcls
    obtain ⟨oL, _, _, hoL, _⟩ := id hn
    refine h _ ⟨I.ok, I.os, I.bare, ⟨fun b o e n hb hx => ?_, fun b o e n hb hx => ?_, I.base.free, fun b o e hx => ?_, I.base.tups, I.base.frzs, I.base.tbls⟩, ⟨_, hn', fun j y v' e1 e2 e3 => ?_⟩, fun y c e => ?_, I.free, I.freeC, fun p hp => ?_, tracked ⟨oL, hoL, I.free⟩ hs, by simpa using I.len⟩ ⟨_, hs, .inl rfl⟩
    · exact (hs.2 b (Nat.ne_of_lt (Nat.lt_of_lt_of_le (Heap.lt_size e) I.ok.above))).trans (I.base.keep b o e n hb hx)
    · obtain ⟨sl, e1⟩ := I.base.slot b o e n hb hx
      exact ⟨sl, (hs.2 b (Nat.ne_of_lt (Nat.lt_of_lt_of_le (Heap.lt_size e) I.ok.above))).trans e1⟩
    · obtain ⟨o', e1⟩ := I.base.there b o e hx
      exact ⟨o', (hs.2 b (Nat.ne_of_lt (Nat.lt_of_lt_of_le (Heap.lt_size e) I.ok.above))).trans e1⟩
    · by_cases hj : j = i
      · subst hj
        rw [hi] at e1; cases e1
        rw [List.getElem?_set_self hiσ] at e2
        cases e2
        exact ⟨u, r, .inl ⟨hk, by simp⟩⟩
      · rw [List.getElem?_set_ne (Ne.symm hj)] at e2
        obtain ⟨u', r', q⟩ := hl j y v' e1 e2 e3
        refine ⟨u', r', ?_⟩
        rcases q with ⟨k, e⟩ | ⟨k, c, e, z⟩
        · refine .inl ⟨k, ?_⟩
          have : y ≠ x := fun e => hj (nodup_ix hN e1 (e ▸ hi))
          simp [this, e]
        · exact .inr ⟨k, c, e, z.sameBut hs (cne y c e)⟩
    · obtain ⟨w', z⟩ := I.cell y c e
      exact ⟨w', z.sameBut hs (cne y c e)⟩
    · obtain ⟨e, n, ne, nf, d⟩ := I.pin p hp
      exact ⟨(hs.2 p.1 ne).trans e, n, ne, nf, d⟩
  · have hfn : X.fn x = true := by
      rcases hf with z | z
      · exact z
      · rw [z] at hk; cases hk
    obtain ⟨c, hc⟩ := I.ok.has x (.inl hk)
    obtain ⟨w', z⟩ := I.cell x c hc
    refine wpAny_storeName_cell I.ok.kind hk hc z (fun h' hc' hs => ?_)
    obtain ⟨oc, hoc, hocd⟩ := id z
    refine h { s with heap := h' } ⟨I.ok, I.os, I.bare, ⟨fun b o e n hb hx => ?_, fun b o e n hb hx => ?_, I.base.free, fun b o e hx => ?_, I.base.tups, I.base.frzs, I.base.tbls⟩, ⟨m, hn.sameBut hs (Ne.symm (cne x c hc)), fun j y v' e1 e2 e3 => ?_⟩, fun y c' e => ?_, I.free, I.freeC, fun p hp => ?_, tracked ⟨oc, hoc, I.freeC x c hc⟩ hs, by simpa using I.len⟩ ⟨c, hs, .inr hc⟩
    · exact (hs.2 b (Nat.ne_of_lt (Nat.lt_of_lt_of_le (Heap.lt_size e) (I.ok.cab x c hfn hc)))).trans (I.base.keep b o e n hb hx)
    · obtain ⟨sl, e1⟩ := I.base.slot b o e n hb hx
      exact ⟨sl, (hs.2 b (Nat.ne_of_lt (Nat.lt_of_lt_of_le (Heap.lt_size e) (I.ok.cab x c hfn hc)))).trans e1⟩
    · obtain ⟨o', e1⟩ := I.base.there b o e hx
      exact ⟨o', (hs.2 b (Nat.ne_of_lt (Nat.lt_of_lt_of_le (Heap.lt_size e) (I.ok.cab x c hfn hc)))).trans e1⟩
    · by_cases hj : j = i
      · subst hj
        rw [hi] at e1; cases e1
        rw [List.getElem?_set_self hiσ] at e2
        cases e2
        exact ⟨u, r, .inr ⟨.inl hk, c, hc, hc'⟩⟩
      · rw [List.getElem?_set_ne (Ne.symm hj)] at e2
        obtain ⟨u', r', q⟩ := hl j y v' e1 e2 e3
        refine ⟨u', r', ?_⟩
        rcases q with q | ⟨k, c', e, z'⟩
        · exact .inl q
        · refine .inr ⟨k, c', e, z'.sameBut hs ?_⟩
          rintro rfl
          exact hj (nodup_ix hN e1 (I.ok.inj _ _ _ e hc ▸ hi))
    · by_cases hcc : c' = c
      · subst hcc; exact ⟨_, hc'⟩
      · obtain ⟨w2, z2⟩ := I.cell y c' e
        exact ⟨w2, z2.sameBut hs hcc⟩
    · obtain ⟨e, n, ne, nf, d⟩ := I.pin p hp
      refine ⟨(hs.2 p.1 ?_).trans e, n, ne, nf, d⟩
      intro q
      rw [q, hoc] at e
      have q' : oc = p.2 := Option.some.inj e
      exact d w' (by rw [← q']; exact hocd)
theorem store_ok {M : Model} {A : Around} {E : Value → Shared → Prop} {i : Nat} {x : Str} {v : V} {u : Value} {Q : Unit → Shared → Prop} (I : Inv X pins σ H s) (hN : X.N.Nodup) (hi : X.N[i]? = some x) (hx : Loc X.env.scope x) (r : RelV v u)
    (h : ∀ s', Inv X pins (σ.set i (some v)) H s' → Q () s') (hf : X.fn x = true ∨ X.env.scope.names.lookup x = some .local := by first | exact .inl rfl | exact .inr rfl | assumption) : wpAny M A (storeName X.env x u) Q E s :=
  store_ok2 I hN hi hx r (fun s' I' _ => h s' I') hf
theorem Inv.call' {s' : Shared} {ch : List Addr} (I : Inv X pins σ H s) (ho : s'.os = s.os) (u : Un (frs X.stack) ch H H' s.heap s'.heap) (hok : HOk X.prog X.w H' s'.heap) (hg : AllBare s'.gens)
    (hch : ∀ b ∈ ch, (b ∈ X.ex ∨ X.s₀.heap.objs.size ≤ b) ∧ b ≠ X.env.locals ∧ (∀ x c, X.env.cells.lookup x = some c → c ≠ b) ∧ ∀ p ∈ X.pn ++ pins, p.1 ≠ b) : Inv X pins σ H' s' := by
  obtain ⟨h', g', d', t', o'⟩ := s'
  have e : o' = s.os := ho
  subst e
  exact I.call (g' := g') (t' := t') (d' := d') u hok hg hch
end
noncomputable abbrev XK := Value → Option Addr → Hp → Prop
noncomputable abbrev St := List (Option V)
noncomputable abbrev VK := V → Hp → Prop
noncomputable abbrev TE := St → Hp → VK → Prop
noncomputable abbrev TT := St → Hp → (Bool → Hp → Prop) → Prop
noncomputable abbrev TA := St → Hp → (List V → Hp → Prop) → Prop
structure Ends where
  nx : St → Hp → Prop
  rt : VK
  bk : St → Hp → Prop := fun _ _ => False
  ct : St → Hp → Prop := fun _ _ => False
noncomputable abbrev TS := Ends → St → Hp → Prop
noncomputable def EP (X : Cx) (pins : List (Addr × Obj)) (σ : St) (Q : VK) (u : Value) (s' : Shared) : Prop := ∃ v H', Inv X pins σ H' s' ∧ RelV v u ∧ Q v H'
noncomputable def TP (X : Cx) (pins : List (Addr × Obj)) (σ : St) (Q : Bool → Hp → Prop) (b : Bool) (s' : Shared) : Prop := ∃ H', Inv X pins σ H' s' ∧ Q b H'
noncomputable def AP (X : Cx) (pins : List (Addr × Obj)) (σ : St) (Q : List V → Hp → Prop) (us : List Value) (s' : Shared) : Prop := ∃ vs H', Inv X pins σ H' s' ∧ Vals vs us ∧ Q vs H'
noncomputable def SP (X : Cx) (pins : List (Addr × Obj)) (D : Ends) (f : Flow) (s' : Shared) : Prop :=
  match f with
  | .next => ∃ σ' H', Inv X pins σ' H' s' ∧ D.nx σ' H'
  | .brk => ∃ σ' H', Inv X pins σ' H' s' ∧ D.bk σ' H'
  | .cont => ∃ σ' H', Inv X pins σ' H' s' ∧ D.ct σ' H'
  | .ret u => ∃ v σ' H', Inv X pins σ' H' s' ∧ RelV v u ∧ D.rt v H'
noncomputable def PE (X : Cx) (e : Expr) (t : TE) : Prop :=
  ∀ (pins : List (Addr × Obj)) (s : Shared) (σ : St) (H : Hp) (Q : VK), Inv X pins σ H s → t σ H Q → wpAny (model X.prog X.w) X.A (eval e X.env) (EP X pins σ Q) X.xe s
noncomputable def PT (X : Cx) (e : Expr) (t : TT) : Prop :=
  ∀ (pins : List (Addr × Obj)) (s : Shared) (σ : St) (H : Hp) (Q : Bool → Hp → Prop), Inv X pins σ H s → t σ H Q → wpAny (model X.prog X.w) X.A (isTrue e X.env (eval e X.env)) (TP X pins σ Q) X.xe s
noncomputable def PW (X : Cx) (e : Expr) (t : TT) : Prop :=
  ∀ (whole : Sem Value) (pins : List (Addr × Obj)) (s : Shared) (σ : St) (H : Hp) (Q : Bool → Hp → Prop), Inv X pins σ H s → t σ H Q → wpAny (model X.prog X.w) X.A (isTrue e X.env whole) (TP X pins σ Q) X.xe s
theorem PW.pt {X : Cx} {e : Expr} {t : TT} (h : PW X e t) : PT X e t := h _
noncomputable def PA (X : Cx) (es : List Expr) (t : TA) : Prop :=
  ∀ (pos : Pos) (pins : List (Addr × Obj)) (s : Shared) (σ : St) (H : Hp) (Q : List V → Hp → Prop), Inv X pins σ H s → t σ H Q → wpAny (model X.prog X.w) X.A (spliced (backTo pos (starEach es X.env))) (AP X pins σ Q) X.xe s
noncomputable def PS (X : Cx) (st : Stmt) (t : TS) : Prop :=
  ∀ (pins : List (Addr × Obj)) (s : Shared) (σ : St) (H : Hp) (D : Ends), Inv X pins σ H s → t D σ H → wpAny (model X.prog X.w) X.A (exec st X.env) (SP X pins D) X.xe s
noncomputable def PSs (X : Cx) (st : List Stmt) (t : TS) : Prop :=
  ∀ (pins : List (Addr × Obj)) (s : Shared) (σ : St) (H : Hp) (D : Ends), Inv X pins σ H s → t D σ H → wpAny (model X.prog X.w) X.A (execs st X.env) (SP X pins D) X.xe s
theorem thn {α : Type} {t : Sem α} {Q Q' : α → Shared → Prop} {M : Model} {A : Around} {E : Value → Shared → Prop} {s : Shared} (h : wpAny M A t Q E s) (hQ : ∀ a s, Q a s → Q' a s) : wpAny M A t Q' E s := wpAny_mono h hQ fun _ _ x => x
end L2
namespace L2
open PySem PySem.Spec PyProof.Rows
section
variable {X : Cx}
theorem bin {a b : Expr} {ta tb : TE} (ha : PE X a ta) (hb : PE X b tb) {pins : List (Addr × Obj)} {s : Shared} {σ : St} {H : Hp} {R : V → V → Hp → Prop} (I : Inv X pins σ H s) (h : ta σ H fun x H1 => tb σ H1 fun y H2 => R x y H2)
    {α : Type} {Q : α → Shared → Prop} {f : Value → Value → Sem α}
    (hf : ∀ v u s2 x y H2, Inv X pins σ H2 s2 → RelV x v → RelV y u → R x y H2 → wpAny (model X.prog X.w) X.A (f v u) Q X.xe s2) :
    wpAny (model X.prog X.w) X.A (eval a X.env) (fun v s₁ => wpAny (model X.prog X.w) X.A (eval b X.env) (fun u s₂ => wpAny (model X.prog X.w) X.A (f v u) Q X.xe s₂) X.xe s₁) X.xe s := by
  refine thn (ha pins s σ H _ I h) fun v s1 hq__ => ?_
  obtain ⟨x, H1, I1, r1, q1⟩ := hq__
  refine thn (hb pins s1 σ H1 _ I1 q1) fun u s2 hq__ => ?_
  obtain ⟨y, H2, I2, r2, q2⟩ := hq__
  exact hf v u s2 x y H2 I2 r1 r2 q2
noncomputable def tVar (i : Nat) : TE := fun σ H Q => ∃ v, σ[i]? = some (some v) ∧ Q v H
noncomputable def tC (v : V) : TE := fun _ H Q => Q v H
theorem pe_var {i : Nat} {x : Str} {pos : Pos} (hN : X.N[i]? = some x) (hv : Vis X.env.scope x) (hd : (x == ("__debug__" : Str)) = false := by decide) (hcd : (x == ("__classdict__" : Str)) = false := by decide) : PE X (.Name x pos) (tVar i) := by
  intro pins s σ H Q I h
  obtain ⟨v, e, h⟩ := h
  obtain ⟨m, hn, hl⟩ := I.loc
  obtain ⟨u, r, l⟩ := hl i x v hN e hv
  have fin : EP X pins σ Q u s := ⟨v, H, I, r, h⟩
  rcases l with ⟨hk, hm⟩ | ⟨hk, c, hc, hcell⟩
  · exact wpAny_Name (wpAny_loadName_local I.ok.kind hk hn hm fin) hd
  · rcases hk with hk | hk
    · exact wpAny_Name (wpAny_loadName_cell I.ok.kind hk hc hcell fin) hd
    · exact wpAny_Name (wpAny_loadName_free I.ok.kind hk hc hcell fin hcd) hd
theorem pe_int {i j pos} : PE X (.Constant (.int i) j pos) (tC (.int i)) := fun _ _ _ H _ I h => wpAny_Constant_int ⟨.int i, H, I.tok _, ⟨_, rfl⟩, h⟩
theorem pe_bl {b j pos} : PE X (.Constant (.bool b) j pos) (tC (.bl b)) := fun _ _ _ H _ I h => Constant_bool ⟨.bl b, H, I, rfl, h⟩
theorem pe_non {j pos} : PE X (.Constant .none j pos) (tC .non) := fun _ _ _ H _ I h => Constant_none ⟨.non, H, I, rfl, h⟩
theorem pe_str {x j pos} : PE X (.Constant (.str x) j pos) (tC (.str x)) := fun _ _ _ H _ I h => Calls.Constant_str ⟨.str x, H, I.tok _, ⟨_, rfl⟩, h⟩
noncomputable def Gl (X : Cx) (x : Str) : Prop := X.env.kindOf x = some .globalImplicit
theorem ld_glob {E : Value → Shared → Prop} {pins : List (Addr × Obj)} {s : Shared} {σ : St} {H : Hp} {x : Str} {u : Value} {pos : Pos} {Q : Value → Shared → Prop} (I : Inv X pins σ H s) (hg : Gl X x) (hm : X.mg x = some u) (h : Q u s)
    (hd : (x == ("__debug__" : Str)) = false := by decide) : wpAny (model X.prog X.w) X.A (eval (.Name x pos) X.env) Q E s :=
  Calls.Name_function_global I.ok.kind hg (Calls.loadGlobal_global (by rw [I.ok.glob]; exact I.mod.glob.keeps I.bk) hm h) hd
theorem ld_blt {E : Value → Shared → Prop} {pins : List (Addr × Obj)} {s : Shared} {σ : St} {H : Hp} {x : Str} {u : Value} {pos : Pos} {Q : Value → Shared → Prop} (I : Inv X pins σ H s) (hg : Gl X x) (hm : X.mg x = none) (hv : bootBuiltins x = some u) (h : Q u s)
    (hn : x ≠ "__name__" := by decide) (hd : (x == ("__debug__" : Str)) = false := by decide) : wpAny (model X.prog X.w) X.A (eval (.Name x pos) X.env) Q E s := by
  obtain ⟨mb, h1, h2⟩ := I.mod.blt
  exact Calls.Name_function_global I.ok.kind hg (Calls.loadGlobal_builtin (by rw [I.ok.glob]; exact I.mod.glob.keeps I.bk) hm (by rw [I.ok.blt]; exact h1.keeps I.bk) ((h2 x hn).trans hv) h) hd
theorem pe_bltn {x : Str} {v : V} {u : Value} {pos : Pos} (hg : Gl X x) (hm : X.mg x = none) (hv : bootBuiltins x = some u) (r : RelV v u) (hn : x ≠ "__name__" := by decide) (hd : (x == ("__debug__" : Str)) = false := by decide) : PE X (.Name x pos) (tC v) :=
  fun _ _ _ H _ I h => ld_blt I hg hm hv ⟨v, H, I, r, h⟩ hn hd
variable {a b : Expr} {ta tb : TE} {pos : Pos}
noncomputable def PC (X : Cx) (op : CmpOp) (a b : Expr) (t : TE) : Prop :=
  ∀ (pins : List (Addr × Obj)) (s : Shared) (σ : St) (H : Hp) (Q : VK), Inv X pins σ H s → t σ H Q →
    wpAny (model X.prog X.w) X.A (eval a X.env) (fun v s₁ => wpAny (model X.prog X.w) X.A (eval b X.env) (fun u s₂ => wpAny (model X.prog X.w) X.A (compareOp op v u) (EP X pins σ Q) X.xe s₂) X.xe s₁) X.xe s
theorem nobehind (b : Expr) {op : CmpOp} (h : op ≠ .In) (h2 : op ≠ .NotIn) : behindInMarks op b = false := by
  have e1 : (op == CmpOp.In) = false := by cases op <;> first | rfl | exact absurd rfl h
  have e2 : (op == CmpOp.NotIn) = false := by cases op <;> first | rfl | exact absurd rfl h2
  cases b <;> simp [behindInMarks, e1, e2]
noncomputable def tB (t : TE) : TT := fun σ H Q => t σ H fun x H1 => ∃ c, x = .bl c ∧ Q c H1
theorem pt_cmp {op : CmpOp} {t : TE} (h : PC X op a b t) (h1 : behindInMarks op b = false := by first | exact nobehind _ (by decide) (by decide) | rfl) : PT X (.Compare a [op] [b] pos) (tB t) := by
  intro pins s σ H Q I hw
  refine wpAny_isTrue_Compare1 (thn (h pins s σ H _ I hw) fun v s1 h1 => thn h1 fun u s2 h2 => thn h2 fun c s3 ⟨x, H1, I1, r1, q1⟩ => ?_) h1
  obtain ⟨d, rfl, q⟩ := q1
  cases r1
  exact wpAny_truthy_bool ⟨H1, I1, q⟩
theorem pt_val {e : Expr} {t : TE} (h : PE X e t) (he : ∀ whole, isTrue e X.env whole = (do let v ← whole; standAt e.pos; holding [v] (truthy v)) := by intro _; rfl) : PT X e (tB t) := by
  intro pins s σ H Q I hw
  refine isTrue_plain (thn (h pins s σ H _ I hw) fun v s1 ⟨x, H1, I1, r1, q1⟩ => ?_) (he _)
  obtain ⟨d, rfl, q⟩ := q1
  cases r1
  exact wpAny_truthy_bool ⟨H1, I1, q⟩
variable {tA tB' : TT} {rest : List Expr}
noncomputable def tAnd (t u : TT) : TT := fun σ H Q => t σ H fun c H1 => if c = true then u σ H1 Q else Q false H1
noncomputable def tOr (t u : TT) : TT := fun σ H Q => t σ H fun c H1 => if c = true then Q true H1 else u σ H1 Q
noncomputable def tNot (t : TT) : TT := fun σ H Q => t σ H fun c H1 => Q (!c) H1
theorem pw_and1 (ha : PT X a tA) : PW X (.BoolOp .And [a] pos) tA := by
  intro wh pins s σ H Q I h
  refine isTrue_and (thn (ha pins s σ H Q I h) fun c s1 e => ?_)
  cases c with
  | true => exact isTrue_and_nil e
  | false => exact e
theorem pw_or1 (ha : PT X a tA) : PW X (.BoolOp .Or [a] pos) tA := by
  intro wh pins s σ H Q I h
  refine isTrue_or (thn (ha pins s σ H Q I h) fun c s1 e => ?_)
  cases c with
  | false => exact isTrue_or_nil e
  | true => exact e
theorem pw_and (ha : PT X a tA) (hb : PW X (.BoolOp .And (b :: rest) pos) tB') : PW X (.BoolOp .And (a :: b :: rest) pos) (tAnd tA tB') := by
  intro wh pins s σ H Q I h
  refine isTrue_and (thn (ha pins s σ H _ I h) fun c s1 hq__ => ?_)
  obtain ⟨H1, I1, q1⟩ := hq__
  cases c with
  | true => exact hb wh pins s1 σ H1 Q I1 q1
  | false => exact ⟨H1, I1, q1⟩
theorem pw_or (ha : PT X a tA) (hb : PW X (.BoolOp .Or (b :: rest) pos) tB') : PW X (.BoolOp .Or (a :: b :: rest) pos) (tOr tA tB') := by
  intro wh pins s σ H Q I h
  refine isTrue_or (thn (ha pins s σ H _ I h) fun c s1 hq__ => ?_)
  obtain ⟨H1, I1, q1⟩ := hq__
  cases c with
  | true => exact ⟨H1, I1, q1⟩
  | false => exact hb wh pins s1 σ H1 Q I1 q1
theorem pt_not (ha : PT X a tA) : PT X (.UnaryOp .Not a pos) (tNot tA) := by
  intro pins s σ H Q I h
  exact isTrue_not (ha pins s σ H (fun c H1 => Q (!c) H1) I h)
noncomputable def tAndV (ta tb : TE) : TE := fun σ H Q => ta σ H fun x H1 => ∃ c, x = .bl c ∧ if c = true then tb σ H1 Q else Q (.bl false) H1
noncomputable def tOrV (ta tb : TE) : TE := fun σ H Q => ta σ H fun x H1 => ∃ c, x = .bl c ∧ if c = true then Q (.bl true) H1 else tb σ H1 Q
noncomputable def tNotV (ta : TE) : TE := fun σ H Q => ta σ H fun x H1 => ∃ c, x = .bl c ∧ Q (.bl (!c)) H1
theorem pe_one {op} {t : TE} (h : PE X a t) : PE X (.BoolOp op [a] pos) t := fun pins s σ H Q I hw => BoolOp_one (h pins s σ H Q I hw)
theorem pe_and (ha : PE X a ta) (hb : PE X (.BoolOp .And (b :: rest) pos) tb) : PE X (.BoolOp .And (a :: b :: rest) pos) (tAndV ta tb) := by
  intro pins s σ H Q I h
  refine BoolOp_and (thn (ha pins s σ H _ I h) fun v s1 hq__ => ?_)
  obtain ⟨x, H1, I1, r1, q1⟩ := hq__
  obtain ⟨c, rfl, q1⟩ := q1
  cases r1
  refine wpAny_truthy_bool ?_
  cases c with
  | true => exact hb pins s1 σ H1 Q I1 q1
  | false => exact ⟨.bl false, H1, I1, rfl, q1⟩
theorem pe_or (ha : PE X a ta) (hb : PE X (.BoolOp .Or (b :: rest) pos) tb) : PE X (.BoolOp .Or (a :: b :: rest) pos) (tOrV ta tb) := by
  intro pins s σ H Q I h
  refine BoolOp_or (thn (ha pins s σ H _ I h) fun v s1 hq__ => ?_)
  obtain ⟨x, H1, I1, r1, q1⟩ := hq__
  obtain ⟨c, rfl, q1⟩ := q1
  cases r1
  refine wpAny_truthy_bool ?_
  cases c with
  | false => exact hb pins s1 σ H1 Q I1 q1
  | true => exact ⟨.bl true, H1, I1, rfl, q1⟩
theorem pe_not (ha : PE X a ta) : PE X (.UnaryOp .Not a pos) (tNotV ta) := by
  intro pins s σ H Q I h
  refine UnaryOp_ (thn (ha pins s σ H _ I h) fun v s1 hq__ => ?_)
  obtain ⟨x, H1, I1, r1, q1⟩ := hq__
  obtain ⟨c, rfl, q1⟩ := q1
  cases r1
  exact not_of (wpAny_truthy_bool ⟨.bl (!c), H1, I1, rfl, q1⟩)
end
end L2
namespace L2
open PySem PySem.Spec PyProof.Rows
noncomputable def SqL (K : PySem.W.Frag) (H : Hp) (a : Addr) (xs : List V) : Prop :=
  Rd H a (.lst xs) ∨
    ∃ (o : Obj) (its : Array Value) (n : Nat), K.lookup a = some o ∧ o.cls = .type "list" ∧ o.dict = none ∧ o.data = .seq its n ∧ its.size ≤ sizeLine ∧ Vals xs its.toList
noncomputable def SqT (K : PySem.W.Frag) (H : Hp) (a : Addr) (xs : List V) : Prop :=
  Rd H a (.tup xs) ∨
    ∃ (o : Obj) (its : Array Value) (n : Nat), K.lookup a = some o ∧ o.cls = .type "tuple" ∧ o.data = .seq its n ∧ its.size ≤ sizeLine ∧ Vals xs its.toList
noncomputable def absV : Value → Option V
  | .none => some .non
  | .bool b => some (.bl b)
  | .int i _ => some (.int i)
  | .str x _ => some (.str x)
  | .bytes b _ => some (.byt b)
  | .float b _ => some (.flt b)
  | .ref a => some (.ref a)
  | .type n => some (.ty n)
  | _ => none
theorem RelV.abs {x : V} {u : Value} (r : RelV x u) : absV u = some x := by
  cases x with
  | non => cases r; rfl
  | bl _ => cases r; rfl
  | int _ => obtain ⟨t, rfl⟩ := r; rfl
  | str _ => obtain ⟨t, rfl⟩ := r; rfl
  | byt _ => obtain ⟨t, rfl⟩ := r; rfl
  | flt _ => obtain ⟨t, rfl⟩ := r; rfl
  | ref _ => cases r; rfl
  | ty _ => cases r; rfl
theorem RelV.inj {x y : V} {u : Value} (r : RelV x u) (q : RelV y u) : x = y := Option.some.inj (r.abs.symm.trans q.abs)
theorem Vals.inj : ∀ {xs ys : List V} {us : List Value}, Vals xs us → Vals ys us → xs = ys := by
  intro xs ys us h
  induction h generalizing ys with
  | nil => intro h'; cases h'; rfl
  | cons r t ih =>
    intro h'
    cases h' with
    | cons r' t' => rw [r.inj r', ih t']
section
variable {X : Cx} {pins : List (Addr × Obj)} {σ : St} {H : Hp} {s : Shared} {a : Addr} {xs ys : List V}
theorem SqL.of {K : PySem.W.Frag} (h : H a = some (.lst xs)) : SqL K H a xs := .inl (.inl h)
theorem SqT.of {K : PySem.W.Frag} (h : H a = some (.tup xs)) : SqT K H a xs := .inl (.inl h)
theorem Inv.list (I : Inv X pins σ H s) (h : SqL X.K H a xs) : ∃ its : List Value, Vals xs its ∧ PlainL s.heap a its.toArray ∧ xs.length ≤ sizeLine := by
  rcases h with h | ⟨o, its, n, hk, hc, hd, hs, hz, r⟩
  · obtain ⟨z, its, n, r, e⟩ := h.ok I.hok
    exact ⟨its, r, ⟨_, n, e, rfl, rfl, rfl⟩, z⟩
  · refine ⟨its.toList, r, ⟨o, n, I.kIn a o hk, hc, hd, by simpa using hs⟩, ?_⟩
    have e := r.length
    simp only [Array.length_toList] at e
    omega
theorem Inv.tuple (I : Inv X pins σ H s) (h : SqT X.K H a xs) : ∃ its : List Value, Vals xs its ∧ IsTup s.heap a its.toArray ∧ xs.length ≤ sizeLine := by
  rcases h with h | ⟨o, its, n, hk, hc, hs, hz, r⟩
  · obtain ⟨z, its, r, p⟩ := h.ok I.hok
    exact ⟨its, r, p, z⟩
  · refine ⟨its.toList, r, ⟨o, I.kIn a o hk, hc, n, by simpa using hs⟩, ?_⟩
    have e := r.length
    simp only [Array.length_toList] at e
    omega
theorem Inv.list_inj (I : Inv X pins σ H s) (h : SqL X.K H a xs) (h' : SqL X.K H a ys) : xs = ys := by
  obtain ⟨its, r, ⟨o, n, e, _, _, d⟩, _⟩ := I.list h
  obtain ⟨its', r', ⟨o', n', e', _, _, d'⟩, _⟩ := I.list h'
  rw [e] at e'; cases e'
  rw [d] at d'
  injection d' with d1 _
  have : its = its' := by simpa using congrArg Array.toList d1
  subst this
  exact r.inj r'
theorem Inv.tuple_inj (I : Inv X pins σ H s) (h : SqT X.K H a xs) (h' : SqT X.K H a ys) : xs = ys := by
  obtain ⟨its, r, ⟨o, e, _, n, d⟩, _⟩ := I.tuple h
  obtain ⟨its', r', ⟨o', e', _, n', d'⟩, _⟩ := I.tuple h'
  rw [e] at e'; cases e'
  rw [d] at d'
  injection d' with d1 _
  have : its = its' := by simpa using congrArg Array.toList d1
  subst this
  exact r.inj r'
end
noncomputable abbrev Cx.wish (X : Cx) (E : Value → Shared → Prop) : Cx := { X with xe := E }
noncomputable abbrev Cx.nox (X : Cx) : Cx := X.wish fun _ _ => False
theorem Cx.Ok.wish {X : Cx} (ok : X.Ok) (E : Value → Shared → Prop) : (X.wish E).Ok :=
  ⟨ok.mod, ok.kind, ok.glob, ok.blt, ok.above, ok.inj, ok.has, ok.cab, ok.hd, ok.frames, ok.stk, ok.exf, ok.bs, ok.bsz, ok.noex, ok.exfs, ok.funs, ok.frf⟩
theorem Cx.Ok.unwish {X : Cx} {E : Value → Shared → Prop} (ok : (X.wish E).Ok) : X.Ok :=
  ⟨ok.mod, ok.kind, ok.glob, ok.blt, ok.above, ok.inj, ok.has, ok.cab, ok.hd, ok.frames, ok.stk, ok.exf, ok.bs, ok.bsz, ok.noex, ok.exfs, ok.funs, ok.frf⟩
section
variable {X : Cx} {pins : List (Addr × Obj)} {σ : St} {H : Hp} {s : Shared} {E : Value → Shared → Prop}
theorem Inv.wish (I : Inv X pins σ H s) (E : Value → Shared → Prop) : Inv (X.wish E) pins σ H s := ⟨I.ok.wish E, I.os, I.bare, I.base, I.loc, I.cell, I.free, I.freeC, I.pin, I.hok, I.len⟩
theorem Inv.unwish (I : Inv (X.wish E) pins σ H s) : Inv X pins σ H s := ⟨I.ok.unwish, I.os, I.bare, I.base, I.loc, I.cell, I.free, I.freeC, I.pin, I.hok, I.len⟩
theorem SP.unwish {D : Ends} {f : Flow} {s' : Shared} (h : SP (X.wish E) pins D f s') : SP X pins D f s' := by
  cases f with
  | next => obtain ⟨σ', H', I, q⟩ := h; exact ⟨σ', H', I.unwish, q⟩
  | brk => obtain ⟨σ', H', I, q⟩ := h; exact ⟨σ', H', I.unwish, q⟩
  | cont => obtain ⟨σ', H', I, q⟩ := h; exact ⟨σ', H', I.unwish, q⟩
  | ret u => obtain ⟨v, σ', H', I, r, q⟩ := h; exact ⟨v, σ', H', I.unwish, r, q⟩
theorem PSs.nox {st : List Stmt} {t : TS} (h : PSs X.nox st t) : PSs X st t := fun pins s σ H D I hw =>
  wpAny_mono (h pins s σ H D (I.wish _) hw) (fun _ _ q => q.unwish) fun _ _ z => False.elim z
end
section
variable {X : Cx} {st : Stmt} {rest : List Stmt} {t u : TS} {e : Expr} {te : TE} {pos : Pos}
noncomputable def tNext : TS := fun D σ H => D.nx σ H
noncomputable def tSeq (t u : TS) : TS := fun D σ H => t { D with nx := u D } σ H
theorem pss_nil : PSs X [] tNext := fun _ _ σ H _ I h => wpAny_execs_nil ⟨σ, H, I, h⟩
theorem pss_cons (h1 : PS X st t) (h2 : PSs X rest u) : PSs X (st :: rest) (tSeq t u) := by
  intro pins s σ H D I h
  refine wpAny_execs_cons (thn (h1 pins s σ H { D with nx := u D } I h) fun f s1 q => ?_)
  cases f with
  | next =>
    obtain ⟨σ', H', I', q⟩ := q
    exact h2 pins s1 σ' H' D I' q
  | ret v => exact q
  | brk => exact q
  | cont => exact q
theorem pss_one (h1 : PS X st t) : PSs X [st] t := by
  intro pins s σ H D I h
  refine wpAny_execs_cons (thn (h1 pins s σ H D I h) fun f s1 q => ?_)
  cases f with
  | next => exact wpAny_execs_nil q
  | ret v => exact q
  | brk => exact q
  | cont => exact q
theorem Inv.quiet {pins : List (Addr × Obj)} {σ : St} {H : Hp} {s : Shared} (I : Inv X pins σ H s) : interactive X.env = false := by simp [interactive, I.ok.kind]
noncomputable def tDrop (te : TE) : TS := fun D σ H => te σ H fun _ H1 => D.nx σ H1
theorem ps_expr (he : PE X e te) (hs : swapsWith e none pos.line X.env = pure false := by rfl) : PS X (.Expr e pos) (tDrop te) := by
  intro pins s σ H D I h
  exact wpAny_Expr_any (thn (he pins s σ H _ I h) fun v s1 ⟨x, H1, I1, r1, q1⟩ => ⟨σ, H1, I1, q1⟩) I.quiet hs
noncomputable def tRet (te : TE) : TS := fun D σ H => te σ H D.rt
theorem ps_ret (he : PE X e te) : PS X (.Return (some e) pos) (tRet te) := by
  intro pins s σ H D I h
  exact wpAny_Return_some (thn (he pins s σ H _ I h) fun v s1 ⟨x, H1, I1, r1, q1⟩ => ⟨x, σ, H1, I1, r1, q1⟩)
noncomputable def tIfS (c : TT) (t u : TS) : TS := fun D σ H => c σ H fun b H1 => if b = true then t D σ H1 else u D σ H1
theorem ps_if {c : Expr} {a b : List Stmt} {tc : TT} (hc : PT X c tc) (ha : PSs X a t) (hb : PSs X b u) : PS X (.If c a b pos) (tIfS tc t u) := by
  intro pins s σ H D I h
  refine wpAny_If (thn (hc pins s σ H _ I h) fun d s1 hq__ => ?_)
  obtain ⟨H1, I1, q1⟩ := hq__
  cases d with
  | true => exact ha pins s1 σ H1 D I1 q1
  | false => exact hb pins s1 σ H1 D I1 q1
end
noncomputable abbrev TG := V → St → Hp → (St → Hp → Prop) → Prop
noncomputable abbrev TGs := List V → St → Hp → (St → Hp → Prop) → Prop
noncomputable def PG (X : Cx) (target : Expr) (t : TG) : Prop :=
  ∀ (pins : List (Addr × Obj)) (s : Shared) (σ : St) (H : Hp) (v : V) (u : Value) (Q : St → Hp → Prop), Inv X pins σ H s → RelV v u → t v σ H Q →
    wpAny (model X.prog X.w) X.A (assign target X.env u) (fun _ s' => ∃ σ' H', Inv X pins σ' H' s' ∧ Q σ' H') X.xe s
noncomputable def PGs (X : Cx) (ts : List Expr) (t : TGs) : Prop :=
  ∀ (pins : List (Addr × Obj)) (s : Shared) (σ : St) (H : Hp) (vs : List V) (us : List Value) (Q : St → Hp → Prop), Inv X pins σ H s → Vals vs us → t vs σ H Q →
    wpAny (model X.prog X.w) X.A (assignInOrder ((assignEach ts X.env).map (·.2)) us) (fun _ s' => ∃ σ' H', Inv X pins σ' H' s' ∧ Q σ' H') X.xe s
noncomputable abbrev TSet := V → V → V → Hp → (Hp → Prop) → Prop
noncomputable def PSet (X : Cx) (t : TSet) : Prop :=
  ∀ (pins : List (Addr × Obj)) (s : Shared) (σ : St) (H : Hp) (o i v : V) (ov iv u : Value) (Q : Hp → Prop), Inv X pins σ H s → RelV o ov → RelV i iv → RelV v u → t o i v H Q →
    wpAny (model X.prog X.w) X.A (setItem ov iv u) (fun _ s' => ∃ H', Inv X pins σ H' s' ∧ Q H') X.xe s
section
variable {X : Cx} {pos : Pos}
noncomputable def gName (i : Nat) : TG := fun v σ H Q => Q (σ.set i (some v)) H
theorem pg_name {i : Nat} {x : Str} (hN : X.N.Nodup) (hi : X.N[i]? = some x) (hx : Loc X.env.scope x) (hf : X.fn x = true ∨ X.env.scope.names.lookup x = some .local := by first | exact .inl rfl | exact .inr rfl | assumption) : PG X (.Name x pos) (gName i) := by
  intro pins s σ H v u Q I r h
  exact wpAny_assign_Name (store_ok I hN hi hx r (fun s' I' => ⟨_, H, I', h⟩) hf)
noncomputable def gNil : TGs := fun vs σ H Q => vs = [] ∧ Q σ H
noncomputable def gCons (t : TG) (u : TGs) : TGs := fun vs σ H Q => ∃ v r, vs = v :: r ∧ t v σ H fun σ' H' => u r σ' H' Q
theorem pgs_nil : PGs X [] gNil := by
  intro pins s σ H vs us Q I r h
  obtain ⟨e, h⟩ := h
  subst e
  cases r
  exact assignInOrder_nil ⟨σ, H, I, h⟩
theorem pgs_cons {e : Expr} {es : List Expr} {t : TG} {u : TGs} (h1 : PG X e t) (h2 : PGs X es u)
    (hs : (assignEach (e :: es) X.env).map (·.2) = assign e X.env :: (assignEach es X.env).map (·.2) := by rfl) : PGs X (e :: es) (gCons t u) := by
  intro pins s σ H vs us Q I r h
  obtain ⟨v, vr, e1, h⟩ := h
  subst e1
  cases r with
  | cons r rr =>
    rw [hs]
    refine assignInOrder_cons (thn (h1 pins s σ H _ _ _ I r h) fun _ s1 hq__ => ?_)
    obtain ⟨σ1, H1, I1, q1⟩ := hq__
    exact h2 pins s1 σ1 H1 _ _ Q I1 rr q1
noncomputable def gTup (K : PySem.W.Frag) (n : Nat) (t : TGs) : TG := fun v σ H Q => ∃ a xs, v = .ref a ∧ SqT K H a xs ∧ xs.length = n ∧ t xs σ H Q
theorem pg_tup {es : List Expr} {k : Nat} {t : TGs} {n : Nat} (hc : X.calm = true) (h : PGs X es t)
    (hn : (assignEach es X.env).length = n := by rfl) (hst : (assignEach es X.env).findIdx? (·.1) = none := by rfl) : PG X (.Tuple es k pos) (gTup X.K n t) := by
  intro pins s σ H v u Q I r hw
  obtain ⟨a, xs, e1, hq, hl, hw⟩ := hw
  subst e1
  cases r
  obtain ⟨its, rv, ht, hz⟩ := I.tuple hq
  refine assign_Tuple_tuple (I.ok.hd hc) ht (by simp [hn, ← hl, rv.length]) hst fun h' hx => ?_
  have I1 : Inv X pins σ H { s with heap := h' } := I.kept (t' := s.toks) fun b o e => hx b o (Nat.ne_of_lt (Heap.lt_size e)) e
  exact h pins _ σ H xs _ Q I1 (by simpa using rv) hw
noncomputable def gSub (to ti : TE) (t : TSet) : TG := fun v σ H Q => to σ H fun o H1 => ti σ H1 fun i H2 => t o i v H2 fun H3 => Q σ H3
theorem pg_sub {o i : Expr} {to ti : TE} {t : TSet} (ho : PE X o to) (hi : PE X i ti) (hs : PSet X t)
    (ha : ∀ v, assign (.Subscript o i pos) X.env v = (do
      let ov ← holding [v] (eval o X.env)
      let iv ← holding [v, ov] (eval i X.env)
      standAt pos
      holding [v, ov, iv] (setItem ov iv v)
      release [v, ov, iv] []) := by intro _; rfl) : PG X (.Subscript o i pos) (gSub to ti t) := by
  intro pins s σ H v u Q I r h
  rw [ha]
  refine wpAny_bind (wpAny_holding (thn (ho pins s σ H _ I h) fun ov s1 hq__ => ?_))
  obtain ⟨x, H1, I1, r1, q1⟩ := hq__
  refine wpAny_bind (wpAny_holding (thn (hi pins s1 σ H1 _ I1 q1) fun iv s2 hq__ => ?_))
  obtain ⟨y, H2, I2, r2, q2⟩ := hq__
  refine wpAny_bind (wpAny_standAt (wpAny_bind (wpAny_holding (thn (hs pins s2 σ H2 x y v ov iv u _ I2 r1 r2 r q2) fun _ s3 hq__ => ?_))))
  obtain ⟨H3, I3, q3⟩ := hq__
  exact wpAny_release ⟨σ, H3, I3, q3⟩
noncomputable def tAsg (te : TE) (g : TG) : TS := fun D σ H => te σ H fun x H1 => g x σ H1 D.nx
theorem ps_asg {tg e : Expr} {te : TE} {g : TG} (he : PE X e te) (hg : PG X tg g) (hs : swapsWithSole [tg] e pos.line X.env = pure false := by rfl) (hw : swappedStores [tg] e X.env = pure none := by rfl)
    (h1 : (assignEach [tg] X.env).map (·.2) = [assign tg X.env] := by rfl) : PS X (.Assign [tg] e pos) (tAsg te g) := by
  intro pins s σ H D I h
  refine wpAny_Assign_stores (thn (he pins s σ H _ I h) fun v s1 ⟨x, H1, I1, r1, q1⟩ => ?_) hs hw
  rw [h1]
  exact thn (hg pins s1 σ H1 x v _ I1 r1 q1) fun _ s2 q => q
theorem ps_set {i : Nat} {x : Str} {e : Expr} {te : TE} {pos' : Pos} (hN : X.N.Nodup) (hi : X.N[i]? = some x) (hx : Loc X.env.scope x) (he : PE X e te) (hs : swapsWith e (some (.Name x pos')) pos.line X.env = pure false := by rfl) (hf : X.fn x = true ∨ X.env.scope.names.lookup x = some .local := by first | exact .inl rfl | exact .inr rfl | assumption) :
    PS X (.Assign [.Name x pos'] e pos) (tAsg te (gName i)) := by
  intro pins s σ H D I h
  refine wpAny_Assign_Name (thn (he pins s σ H _ I h) fun v s1 ⟨y, H1, I1, r1, q1⟩ => ?_) hs
  exact store_ok I1 hN hi hx r1 (fun s2 I2 => ⟨_, H1, I2, q1⟩) hf
end
section
variable {X : Cx} {pos : Pos}
end
structure It where
  go : Nat → Hp → Prop
  yld : Nat → Hp → V → Hp → Prop
  stop : Nat → Hp → Prop
noncomputable def FpOk (X : Cx) (pins : List (Addr × Obj)) (H : Hp) (b : Addr) : Prop :=
  H b = none ∧ b ≠ X.env.locals ∧ b ∉ X.fs ∧ (b ∈ X.ex ∨ X.s₀.heap.objs.size ≤ b) ∧ (∀ x c, X.env.cells.lookup x = some c → c ≠ b) ∧ ∀ p ∈ X.pn ++ pins, p.1 ≠ b
theorem Inv.fpOk {X : Cx} {pins : List (Addr × Obj)} {σ : St} {H H' : Hp} {s : Shared} {b : Addr} (I : Inv X pins σ H s) (hb : s.heap.objs.size ≤ b) (hn : H' b = none) : FpOk X pins H' b := by
  refine ⟨hn, Nat.ne_of_gt (Nat.lt_of_lt_of_le I.lt hb), I.nofs hb, .inr (Nat.le_trans I.sz hb), fun x c e z => ?_, fun p hp z => ?_⟩
  · obtain ⟨v, q⟩ := I.cell x c e
    exact absurd (Nat.lt_of_lt_of_le q.lt (by rw [z]; exact hb)) (Nat.lt_irrefl _)
  · exact absurd (Nat.lt_of_lt_of_le (Heap.lt_size (I.pin p hp).1) (by rw [z]; exact hb)) (Nat.lt_irrefl _)
structure Turn (P : Program) (w : World) (K : PySem.W.Frag) (tg : Expr) (J : It) (fp : List Addr) (it : Addr) (tn : Nat → Heap → Prop) : Prop where
  mem : it ∈ fp
  obj : ∀ i h, tn i h → ∀ b ∈ fp, ∃ o, h.get? b = some o ∧ ∀ v, o.data ≠ .cell v
  keep : ∀ i h h', tn i h → (∀ b ∈ fp, ∀ o, h.get? b = some o → h'.get? b = some o) → tn i h'
  item : ∀ (X : Cx), X.prog = P → X.w = w → X.K = K → X.calm = true → ∀ (i : Nat) (pins : List (Addr × Obj)) (s : Shared) (σ : St) (H : Hp) (E : Value → Shared → Prop), Inv X pins σ H s → (∀ b ∈ fp, FpOk X pins H b) → tn i s.heap → J.go i H →
    wpAny (model P w) X.A (pyNext (.ref it)) (fun r s1 => ∃ u, r = some u ∧
      wpAny (model P w) X.A (letOwnedTupleGo tg (.ref it) u) (fun _ s2 => ∃ x H', Inv X pins σ H' s2 ∧ RelV x u ∧ J.yld i H x H' ∧ tn (i + 1) s2.heap ∧ ∀ b ∈ fp, H' b = none) E s1) E s
  done : ∀ (X : Cx), X.prog = P → X.w = w → X.K = K → X.calm = true → ∀ (i : Nat) (pins : List (Addr × Obj)) (s : Shared) (σ : St) (H : Hp) (E : Value → Shared → Prop), Inv X pins σ H s → (∀ b ∈ fp, FpOk X pins H b) → tn i s.heap → J.stop i H →
    wpAny (model P w) X.A (pyNext (.ref it)) (fun r s1 => r = none ∧ Inv X pins σ H s1) E s
  self : ∀ (A : Around) (i : Nat) (s : Shared) (Q : Value → Shared → Prop) (E : Value → Shared → Prop), tn i s.heap → Q (.ref it) s → wpAny (model P w) A (pyIter (.ref it)) Q E s
noncomputable abbrev TI := St → Hp → (It → Hp → Prop) → Prop
noncomputable def PIE (X : Cx) (pins : List (Addr × Obj)) (σ : St) (tg : Expr) (R : It → Hp → Prop) (itv : Value) (s2 : Shared) : Prop :=
  ∃ (it : Addr) (fp : List Addr) (tn : Nat → Heap → Prop) (J : It) (H' : Hp), itv = .ref it ∧ Inv X pins σ H' s2 ∧ Turn X.prog X.w X.K tg J fp it tn ∧ tn 0 s2.heap ∧ (∀ b ∈ fp, FpOk X pins H' b) ∧ R J H'
noncomputable def PI (X : Cx) (tg iter : Expr) (wi : TI) : Prop :=
  ∀ (pins : List (Addr × Obj)) (s : Shared) (σ : St) (H : Hp) (R : It → Hp → Prop), Inv X pins σ H s → wi σ H R →
    wpAny (model X.prog X.w) X.A (eval iter X.env) (fun v s1 => wpAny (model X.prog X.w) X.A (pyIter v) (PIE X pins σ tg R) X.xe s1) X.xe s
theorem go_of {M : Model} {A : Around} {E : Value → Shared → Prop} {s : Shared} {tg : Expr} {it : Addr} {u : Value} {o : Obj} {n : String} {vs : Array Value} {Q : Unit → Shared → Prop} (ho : s.heap.get? it = some o) (hc : o.cls = .type n) (hd : o.data = .fields vs)
    (hn : ["enumerate", "zip", "dict_itemiterator", "dict_reverseitemiterator", "odict_iterator", "itertools.zip_longest", "itertools.pairwise"].contains n = false) (hQ : Q () s) : wpAny M A (letOwnedTupleGo tg (.ref it) u) Q E s := by
  unfold letOwnedTupleGo
  cases tg <;> first
    | exact wpAny_pure hQ
    | (cases u <;> first
        | exact wpAny_pure hQ
        | (refine wpAny_bind (wpAny_load ho ?_)
           rw [hc, hd]
           show wpAny M A (if (["enumerate", "zip", "dict_itemiterator", "dict_reverseitemiterator", "odict_iterator", "itertools.zip_longest", "itertools.pairwise"].contains n && vs[0]? == some (rawInt _)) = true then _ else _) Q E s
           rw [if_neg (by intro h; rw [hn, Bool.false_and] at h; cases h)]
           exact wpAny_pure hQ))
noncomputable def Itl (K : PySem.W.Frag) (a : Addr) : It :=
  ⟨fun i H => ∃ xs x, SqL K H a xs ∧ xs[i]? = some x, fun i H x H' => H' = H ∧ ∀ xs, SqL K H a xs → xs[i]? = some x, fun i H => ∃ xs, SqL K H a xs ∧ xs.length ≤ i⟩
noncomputable def Itt (K : PySem.W.Frag) (a : Addr) : It :=
  ⟨fun i H => ∃ xs x, SqT K H a xs ∧ xs[i]? = some x, fun i H x H' => H' = H ∧ ∀ xs, SqT K H a xs → xs[i]? = some x, fun i H => ∃ xs, SqT K H a xs ∧ xs.length ≤ i⟩
noncomputable def Itr (lo : Int) (n : Nat) : It := ⟨fun i _ => i < n, fun i H x H' => H' = H ∧ x = .int (lo + i), fun i _ => n ≤ i⟩
theorem turn_list {P : Program} {w : World} {K : PySem.W.Frag} {tg : Expr} (a it : Addr) : Turn P w K tg (Itl K a) [it] it (fun i h => h.IsListIter it a i) where
  mem := by simp
  obj := fun i h st b hb => by
    have e : b = it := by simpa using hb
    subst e
    obtain ⟨o, e, c, d⟩ := st
    exact ⟨o, e, fun v z => by rw [d] at z; cases z⟩
  keep := fun i h h' st k => st.at fun o e => k it (by simp) o e
  item := by
    intro X hP hw hK hc i pins s σ H E I hf st hg
    subst hP hw hK
    obtain ⟨xs, x, hq, hx⟩ := hg
    obtain ⟨its, rv, p, hz⟩ := I.list hq
    obtain ⟨u, hu, ru⟩ := rv.get hx
    obtain ⟨f0, f1, f2, f3, f4, f5⟩ := hf it (by simp)
    refine wpAny_pyNext_list_item st p.isList (x := u) (by simpa using hu) fun h' st' sb => ?_
    have I1 : Inv X pins σ H { s with heap := h' } := I.turned (t' := s.toks) (fun b o hb e => (sb.2 b hb).trans e) f0 f1 f3 f4 f5
    obtain ⟨o, e, c, d⟩ := id st'
    exact ⟨u, rfl, go_of (s := { s with heap := h' }) e c d (by decide) ⟨x, H, I1, ru, ⟨rfl, fun ys hy => by rw [I.list_inj hy hq]; exact hx⟩, st', fun b hb => (hf b hb).1⟩⟩
  done := by
    intro X hP hw hK hc i pins s σ H E I hf st hg
    subst hP hw hK
    obtain ⟨xs, hq, hx⟩ := hg
    obtain ⟨its, rv, p, hz⟩ := I.list hq
    obtain ⟨f0, f1, f2, f3, f4, f5⟩ := hf it (by simp)
    have hl := rv.length
    exact wpAny_pyNext_list_end (I.ok.hd hc) st p.isList (by simp; omega) fun h' eb => ⟨rfl, I.turned (t' := s.toks) (fun b o hb e => eb b o hb e) f0 f1 f3 f4 f5⟩
  self := fun _ _ _ _ _ st h => wpAny_pyIter_listiter st h
theorem turn_tuple {P : Program} {w : World} {K : PySem.W.Frag} {tg : Expr} (a it : Addr) : Turn P w K tg (Itt K a) [it] it (fun i h => h.IsTupleIter it a i) where
  mem := by simp
  obj := fun i h st b hb => by
    have e : b = it := by simpa using hb
    subst e
    obtain ⟨o, e, c, d⟩ := st
    exact ⟨o, e, fun v z => by rw [d] at z; cases z⟩
  keep := fun i h h' st k => st.at fun o e => k it (by simp) o e
  item := by
    intro X hP hw hK hc i pins s σ H E I hf st hg
    subst hP hw hK
    obtain ⟨xs, x, hq, hx⟩ := hg
    obtain ⟨its, rv, p, hz⟩ := I.tuple hq
    obtain ⟨u, hu, ru⟩ := rv.get hx
    obtain ⟨f0, f1, f2, f3, f4, f5⟩ := hf it (by simp)
    refine wpAny_pyNext_tuple_item st (show s.heap.IsTuple a its.toArray from p) (x := u) (by simpa using hu) fun h' st' sb => ?_
    have I1 : Inv X pins σ H { s with heap := h' } := I.turned (t' := s.toks) (fun b o hb e => (sb.2 b hb).trans e) f0 f1 f3 f4 f5
    obtain ⟨o, e, c, d⟩ := id st'
    exact ⟨u, rfl, go_of (s := { s with heap := h' }) e c d (by decide) ⟨x, H, I1, ru, ⟨rfl, fun ys hy => by rw [I.tuple_inj hy hq]; exact hx⟩, st', fun b hb => (hf b hb).1⟩⟩
  done := by
    intro X hP hw hK hc i pins s σ H E I hf st hg
    subst hP hw hK
    obtain ⟨xs, hq, hx⟩ := hg
    obtain ⟨its, rv, p, hz⟩ := I.tuple hq
    obtain ⟨f0, f1, f2, f3, f4, f5⟩ := hf it (by simp)
    have hl := rv.length
    exact wpAny_pyNext_tuple_end (I.ok.hd hc) st (show s.heap.IsTuple a its.toArray from p) (by simp; omega) fun h' eb => ⟨rfl, I.turned (t' := s.toks) (fun b o hb e => eb b o hb e) f0 f1 f3 f4 f5⟩
  self := fun _ _ _ _ _ st h => wpAny_pyIter_tupleiter st h
theorem turn_range {P : Program} {w : World} {K : PySem.W.Frag} {tg : Expr} (it : Addr) (lo : Int) (n : Nat) : Turn P w K tg (Itr lo n) [it] it (fun i h => IsRangeIter h it (lo + (i : Nat) * 1) ((n : Int) - (i : Nat)) 1) where
  mem := by simp
  obj := fun i h st b hb => by
    have e : b = it := by simpa using hb
    subst e
    exact ⟨_, st, fun v z => by
      have z' : Data.fields _ = Data.cell v := z
      cases z'⟩
  keep := fun i h h' st k => k it (by simp) _ st
  item := by
    intro X hP hw hK hc i pins s σ H E I hf st hg
    subst hP hw hK
    obtain ⟨f0, f1, f2, f3, f4, f5⟩ := hf it (by simp)
    have W := Walks.range (prog := X.prog) (w := X.w) (I.ok.hd hc) it lo 1 n
    refine W.item i s _ _ hg st fun v h' tk hv st' kk => ?_
    obtain ⟨t, rfl⟩ := hv
    have I1 : Inv X pins σ H { s with heap := h', toks := tk } := I.turned (fun b o hb e => kk b o (by simpa using hb) e) f0 f1 f3 f4 f5
    refine ⟨_, rfl, go_of (s := { s with heap := h', toks := tk }) (n := "range_iterator") st' rfl rfl (by decide) ⟨.int (lo + i), H, I1, ⟨t, ?_⟩, ⟨rfl, rfl⟩, st', fun b hb => (hf b hb).1⟩⟩
    rw [Int.mul_one]
  done := by
    intro X hP hw hK hc i pins s σ H E I hf st hg
    subst hP hw hK
    obtain ⟨f0, f1, f2, f3, f4, f5⟩ := hf it (by simp)
    exact wpAny_pyNext_range_end (I.ok.hd hc) st (by have : n ≤ i := hg; omega) fun h' eb => ⟨rfl, I.turned (t' := s.toks) (fun b o hb e => eb b o hb e) f0 f1 f3 f4 f5⟩
  self := fun _ _ _ _ _ st h => wpAny_pyIter_rangeiter st h
end L2
namespace L2
open PySem PySem.Spec PyProof.Rows
section
variable {X : Cx} {tg : Expr}
noncomputable def iList (K : PySem.W.Frag) (tl : TE) : TI := fun σ H R => tl σ H fun x H1 => ∃ a, x = .ref a ∧ (∃ xs, SqL K H1 a xs) ∧ R (Itl K a) H1
noncomputable def iTup (K : PySem.W.Frag) (tl : TE) : TI := fun σ H R => tl σ H fun x H1 => ∃ a, x = .ref a ∧ (∃ xs, SqT K H1 a xs) ∧ R (Itt K a) H1
theorem pi_list {l : Expr} {tl : TE} (hl : PE X l tl) : PI X tg l (iList X.K tl) := by
  intro pins s σ H R I h
  refine thn (hl pins s σ H _ I h) fun v s1 hq__ => ?_
  obtain ⟨x, H1, I1, r1, q1⟩ := hq__
  obtain ⟨a, e, ⟨xs, hq⟩, q⟩ := q1
  subst e
  cases r1
  obtain ⟨its, rv, p, hz⟩ := I1.list hq
  refine wpAny_pyIter_list p.isList ?_
  refine ⟨s1.heap.objs.size, [s1.heap.objs.size], _, _, H1, rfl, I1.kept (t' := s1.toks) fun b o e => Heap.get?_push_of_some _ e, turn_list a _, ⟨_, Heap.get?_push_size _ rfl, rfl, rfl⟩, fun b hb => ?_, q⟩
  have e : b = s1.heap.objs.size := by simpa using hb
  subst e
  exact I1.fpOk (Nat.le_refl _) (I1.hok.fresh (Nat.le_refl _))
theorem pi_tup {l : Expr} {tl : TE} (hl : PE X l tl) : PI X tg l (iTup X.K tl) := by
  intro pins s σ H R I h
  refine thn (hl pins s σ H _ I h) fun v s1 hq__ => ?_
  obtain ⟨x, H1, I1, r1, q1⟩ := hq__
  obtain ⟨a, e, ⟨xs, hq⟩, q⟩ := q1
  subst e
  cases r1
  obtain ⟨its, rv, p, hz⟩ := I1.tuple hq
  refine wpAny_pyIter_tuple (show s1.heap.IsTuple a its.toArray from p) ?_
  refine ⟨s1.heap.objs.size, [s1.heap.objs.size], _, _, H1, rfl, I1.kept (t' := s1.toks) fun b o e => Heap.get?_push_of_some _ e, turn_tuple a _, ⟨_, Heap.get?_push_size _ rfl, rfl, rfl⟩, fun b hb => ?_, q⟩
  have e : b = s1.heap.objs.size := by simpa using hb
  subst e
  exact I1.fpOk (Nat.le_refl _) (I1.hok.fresh (Nat.le_refl _))
theorem range_it {pins : List (Addr × Obj)} {σ : St} {H : Hp} {s : Shared} {R : It → Hp → Prop} {E : Value → Shared → Prop} {lo hi : Int} {t u v : Tok} {tk : Nat} (I : Inv X pins σ H s) (h1 : -(2 ^ 62) ≤ lo) (h2 : lo < 2 ^ 62) (h3 : -(2 ^ 62) ≤ hi) (h4 : hi < 2 ^ 62)
    (q : R (Itr lo (hi - lo).toNat) H) : wpAny (model X.prog X.w) X.A (pyIter (.ref s.heap.objs.size)) (PIE X pins σ tg R) E { s with heap := s.heap.push { cls := .type "range", data := .fields #[.int lo t, .int hi u, .int 1 v] }, toks := tk } := by
  refine wpAny_pyIter_range (IsRange.new ..) (small_one h1 h2 h3 h4) ?_
  have I1 : Inv X pins σ H { s with heap := s.heap.push { cls := .type "range", data := .fields #[.int lo t, .int hi u, .int 1 v] }, toks := tk } := I.kept fun b o e => Heap.get?_push_of_some _ e
  refine ⟨(s.heap.push { cls := .type "range", data := .fields #[.int lo t, .int hi u, .int 1 v] }).objs.size, [(s.heap.push { cls := .type "range", data := .fields #[.int lo t, .int hi u, .int 1 v] }).objs.size], _, _, H, rfl,
    I1.kept (t' := tk) fun b o e => Heap.get?_push_of_some _ e, turn_range _ lo (hi - lo).toNat, ?_, fun b hb => ?_, q⟩
  · have e1 : lo + ((0 : Nat) : Int) * 1 = lo := by simp
    have e2 : (((hi - lo).toNat : Nat) : Int) - ((0 : Nat) : Int) = Builtin.Range.rangeSize lo hi 1 := by rw [rangeSize_one]; split <;> omega
    show IsRangeIter _ _ (lo + ((0 : Nat) : Int) * 1) ((((hi - lo).toNat : Nat) : Int) - ((0 : Nat) : Int)) 1
    rw [e1, e2]
    exact Heap.get?_push_size _ rfl
  · have e : b = (s.heap.push { cls := .type "range", data := .fields #[.int lo t, .int hi u, .int 1 v] }).objs.size := by simpa using hb
    subst e
    exact I1.fpOk (Nat.le_refl _) (I1.hok.fresh (Nat.le_refl _))
noncomputable def iRng1 (ta : TA) : TI := fun σ H R => ta σ H fun vs H1 => ∃ j : Int, vs = [.int j] ∧ -(2 ^ 62) ≤ j ∧ j < 2 ^ 62 ∧ R (Itr 0 j.toNat) H1
noncomputable def iRng2 (ta : TA) : TI := fun σ H R => ta σ H fun vs H1 => ∃ i j : Int, vs = [.int i, .int j] ∧ (-(2 ^ 62) ≤ i ∧ i < 2 ^ 62 ∧ -(2 ^ 62) ≤ j ∧ j < 2 ^ 62) ∧ R (Itr i (j - i).toNat) H1
theorem pi_range1 {a : Expr} {ta : TA} {p pos : Pos} (hg : Gl X "range") (hm : X.mg "range" = none) (ha : PA X [a] ta) (hs : starEach [a] X.env = [(false, eval a X.env)] := by rfl) : PI X tg (.Call (.Name "range" p) [a] [] pos) (iRng1 ta) := by
  intro pins s σ H R I h
  refine Call_ (ld_blt I hg hm boot_range (PyProof.Rows.callWith_type1 (thn (ha pos pins s σ H _ I h) fun us s1 ⟨vs, H1, I1, r1, q1⟩ => ?_) hs rfl))
  obtain ⟨j, e, q1, q2, q⟩ := q1
  subst e
  cases r1 with
  | cons r rr =>
    cases rr
    obtain ⟨t, rfl⟩ := r
    exact call_range_1 (range_it I1 (by omega) (by omega) q1 q2 (by simpa using q))
theorem pi_range2 {a b : Expr} {ta : TA} {p pos : Pos} (hg : Gl X "range") (hm : X.mg "range" = none) (ha : PA X [a, b] ta) (hs : starEach [a, b] X.env = [(false, eval a X.env), (false, eval b X.env)] := by rfl) (hs2 : starEach [b] X.env = [(false, eval b X.env)] := by rfl) :
    PI X tg (.Call (.Name "range" p) [a, b] [] pos) (iRng2 ta) := by
  intro pins s σ H R I h
  refine Call_ (ld_blt I hg hm boot_range (PyProof.Rows.callWith_type1 (thn (ha pos pins s σ H _ I h) fun us s1 ⟨vs, H1, I1, r1, q1⟩ => ?_) (by rw [hs, hs2]) (by rw [hs2]; rfl)))
  obtain ⟨i, j, e, ⟨q1, q2, q3, q4⟩, q⟩ := q1
  subst e
  cases r1 with
  | cons r rr =>
    cases rr with
    | cons r' rr =>
      cases rr
      obtain ⟨t, rfl⟩ := r
      obtain ⟨t', rfl⟩ := r'
      exact call_range_2 (range_it I1 q1 q2 q3 q4 q)
noncomputable def tFor (wi : TI) (g : TG) (tb : TS) : TS := fun D σ H => wi σ H fun J H1 => ∃ W : Nat → Nat → St → Hp → Prop, (∃ m, W 0 m σ H1) ∧ ∀ i m σ H, W i m σ H →
  (J.stop i H ∧ D.nx σ H) ∨ (J.go i H ∧ ∃ N : St → Hp → Prop, (∀ σ' H', N σ' H' → ∃ m', m' < m ∧ W (i + 1) m' σ' H') ∧ ∀ x H', J.yld i H x H' → g x σ H' fun σ2 H2 => tb { D with nx := N, ct := N, bk := D.nx } σ2 H2)
noncomputable def pinsAt (fp : List Addr) (h : Heap) : List (Addr × Obj) := fp.filterMap fun b => (h.get? b).map fun o => (b, o)
theorem mem_pinsAt {fp : List Addr} {h : Heap} {b : Addr} {o : Obj} (hb : b ∈ fp) (e : h.get? b = some o) : (b, o) ∈ pinsAt fp h := List.mem_filterMap.mpr ⟨b, hb, by rw [e]; rfl⟩
theorem of_pinsAt {fp : List Addr} {h : Heap} {p : Addr × Obj} (hp : p ∈ pinsAt fp h) : p.1 ∈ fp ∧ h.get? p.1 = some p.2 := by
  obtain ⟨b, hb, e⟩ := List.mem_filterMap.mp hp
  cases q : h.get? b with
  | none => rw [q] at e; cases e
  | some o =>
    rw [q] at e
    have e' : (b, o) = p := Option.some.inj e
    subst e'
    exact ⟨hb, q⟩
theorem Inv.pinned {pins : List (Addr × Obj)} {σ : St} {H : Hp} {s : Shared} {fp : List Addr} (I : Inv X pins σ H s) (hf : ∀ b ∈ fp, FpOk X pins H b) (ho : ∀ b ∈ fp, ∃ o, s.heap.get? b = some o ∧ ∀ v, o.data ≠ .cell v) : Inv X (pins ++ pinsAt fp s.heap) σ H s :=
  I.pins_of fun p hp => (List.mem_append.mp hp).elim (fun z => I.pin p (List.mem_append_right _ z)) fun z => by
    obtain ⟨hb, e⟩ := of_pinsAt z
    obtain ⟨f0, f1, f2, _⟩ := hf p.1 hb
    obtain ⟨o, e', d⟩ := ho p.1 hb
    rw [e] at e'; cases e'
    exact ⟨e, f0, f1, f2, d⟩
theorem Inv.unpinned {pins pl : List (Addr × Obj)} {σ : St} {H : Hp} {s : Shared} (I : Inv X (pins ++ pl) σ H s) : Inv X pins σ H s := I.pins_of fun p hp => I.pin p (List.mem_append_right _ (List.mem_append_left _ hp))
theorem ps_for {iter : Expr} {body : List Stmt} {wi : TI} {g : TG} {tb : TS} {pos : Pos} (hp : PassesOwn (model X.prog X.w) X.A X.env X.xe) (hc : X.calm = true) (hi : PI X tg iter wi) (hg : PG X tg g) (hb : PSs X body tb)
    (hs : ∀ x, foldedSetIterable iter X.env x = pure x := by intro _; rfl) : PS X (.For tg iter body [] pos) (tFor wi g tb) := by
  intro pins s σ H D I h
  refine wpAny_For (thn (hi pins s σ H _ I h) fun v s1 h1 => thn h1 fun itv s2 h2 => ?_) hs
  obtain ⟨it, fp, tn, J, H2, e, I2, T, st2, f2, W, ⟨m0, w0⟩, turn⟩ := h2
  subst e
  have stat : ∀ {H' : Hp}, (∀ b ∈ fp, H' b = none) → ∀ b ∈ fp, FpOk X pins H' b := fun hn b hb => ⟨hn b hb, (f2 b hb).2⟩
  refine codeAny_forLoop_any (fun n s' => ∃ i σ' H', Inv X pins σ' H' s' ∧ tn i s'.heap ∧ (∀ b ∈ fp, H' b = none) ∧ W i n σ' H') ?_ m0 ⟨0, σ, H2, I2, st2, fun b hb => (f2 b hb).1, w0⟩
  rintro n s3 ⟨i, σ3, H3, I3, st3, fr3, w3⟩
  rcases turn i n σ3 H3 w3 with ⟨stop, qn⟩ | ⟨go, N, hN, step⟩
  · refine wpAny_passesOwn hp (thn (T.done X rfl rfl rfl hc i pins s3 σ3 H3 X.xe I3 (stat fr3) st3 stop) fun r s4 hq__ => ?_)
    obtain ⟨hr, I4⟩ := hq__
    subst hr
    exact wpAny_execs_nil ⟨σ3, H3, I4, qn⟩
  · refine wpAny_passesOwn hp (thn (T.item X rfl rfl rfl hc i pins s3 σ3 H3 X.xe I3 (stat fr3) st3 go) fun r s4 hq__ => ?_)
    obtain ⟨u, hr, h4⟩ := hq__
    subst hr
    refine wpAny_passesOwn hp (thn h4 fun _ s5 hq__ => ?_)
    obtain ⟨x, H5, I5, r5, y5, st5, fr5⟩ := hq__
    have I5' := I5.pinned (stat fr5) (T.obj _ _ st5)
    refine wpAny_passesOwn hp (thn (hg _ s5 σ3 H5 x u _ I5' r5 (step x H5 y5)) fun _ s6 hq__ => ?_)
    obtain ⟨σ6, H6, I6, q6⟩ := hq__
    refine wpAny_passesOwn hp (thn (hb _ s6 σ6 H6 _ I6 q6) fun f s7 q7 => ?_)
    have again : ∀ {σ7 : St} {H7 : Hp}, Inv X (pins ++ pinsAt fp s5.heap) σ7 H7 s7 → N σ7 H7 → ∃ m, m < n ∧ ∃ i σ' H', Inv X pins σ' H' s7 ∧ tn i s7.heap ∧ (∀ b ∈ fp, H' b = none) ∧ W i m σ' H' := fun {σ7 H7} I7 n7 => by
      obtain ⟨m', hm, w7⟩ := hN σ7 H7 n7
      refine ⟨m', hm, i + 1, σ7, H7, I7.unpinned, T.keep _ _ _ st5 fun b hb o e => (I7.pin (b, o) (List.mem_append_right _ (List.mem_append_right _ (mem_pinsAt hb e)))).1, fun b hb => ?_, w7⟩
      obtain ⟨o, e, d⟩ := T.obj _ _ st5 b hb
      exact (I7.pin (b, o) (List.mem_append_right _ (List.mem_append_right _ (mem_pinsAt hb e)))).2.1
    cases f with
    | next => obtain ⟨σ7, H7, I7, n7⟩ := q7; exact again I7 n7
    | cont => obtain ⟨σ7, H7, I7, n7⟩ := q7; exact again I7 n7
    | brk => obtain ⟨σ7, H7, I7, q7⟩ := q7; exact ⟨σ7, H7, I7.unpinned, q7⟩
    | ret v => obtain ⟨x7, σ7, H7, I7, r7, q7⟩ := q7; exact ⟨x7, σ7, H7, I7.unpinned, r7, q7⟩
end
theorem for_list {K : PySem.W.Frag} {a : Addr} {xs : List V} {g : TG} {tb : TS} {D : Ends} {σ : St} {H : Hp} (Pv : Nat → St → Hp → Prop) (h0 : Pv 0 σ H) (hl : ∀ i σ H, i ≤ xs.length → Pv i σ H → SqL K H a xs)
    (hs : ∀ i x σ H, xs[i]? = some x → Pv i σ H → g x σ H fun σ2 H2 => tb { D with nx := Pv (i + 1), ct := Pv (i + 1), bk := D.nx } σ2 H2) (hd : ∀ σ H, Pv xs.length σ H → D.nx σ H) :
    ∃ W : Nat → Nat → St → Hp → Prop, (∃ m, W 0 m σ H) ∧ ∀ i m σ H, W i m σ H →
      ((Itl K a).stop i H ∧ D.nx σ H) ∨ ((Itl K a).go i H ∧ ∃ N : St → Hp → Prop, (∀ σ' H', N σ' H' → ∃ m', m' < m ∧ W (i + 1) m' σ' H') ∧ ∀ x H', (Itl K a).yld i H x H' → g x σ H' fun σ2 H2 => tb { D with nx := N, ct := N, bk := D.nx } σ2 H2) := by
  refine ⟨fun i m σ H => m = xs.length - i ∧ i ≤ xs.length ∧ Pv i σ H, ⟨xs.length, by simp, Nat.zero_le _, h0⟩, ?_⟩
  rintro i m σ H ⟨rfl, hi, p⟩
  have q := hl i σ H hi p
  by_cases hlt : i < xs.length
  · refine .inr ⟨⟨xs, xs[i], q, by simp [hlt]⟩, Pv (i + 1), fun σ' H' p' => ⟨xs.length - (i + 1), Nat.sub_succ_lt_self _ _ hlt, rfl, hlt, p'⟩, fun x H' y => ?_⟩
    obtain ⟨e, y⟩ := y
    subst e
    exact hs i x σ _ (y xs q) p
  · have e : i = xs.length := Nat.le_antisymm hi (Nat.le_of_not_lt hlt)
    subst e
    exact .inl ⟨⟨xs, q, Nat.le_refl _⟩, hd σ H p⟩
theorem for_range {lo : Int} {n : Nat} {g : TG} {tb : TS} {D : Ends} {σ : St} {H : Hp} (Pv : Nat → St → Hp → Prop) (h0 : Pv 0 σ H)
    (hs : ∀ i σ H, i < n → Pv i σ H → g (.int (lo + i)) σ H fun σ2 H2 => tb { D with nx := Pv (i + 1), ct := Pv (i + 1), bk := D.nx } σ2 H2) (hd : ∀ σ H, Pv n σ H → D.nx σ H) :
    ∃ W : Nat → Nat → St → Hp → Prop, (∃ m, W 0 m σ H) ∧ ∀ i m σ H, W i m σ H →
      ((Itr lo n).stop i H ∧ D.nx σ H) ∨ ((Itr lo n).go i H ∧ ∃ N : St → Hp → Prop, (∀ σ' H', N σ' H' → ∃ m', m' < m ∧ W (i + 1) m' σ' H') ∧ ∀ x H', (Itr lo n).yld i H x H' → g x σ H' fun σ2 H2 => tb { D with nx := N, ct := N, bk := D.nx } σ2 H2) := by
  refine ⟨fun i m σ H => m = n - i ∧ i ≤ n ∧ Pv i σ H, ⟨n, by simp, Nat.zero_le _, h0⟩, ?_⟩
  rintro i m σ H ⟨rfl, hi, p⟩
  by_cases hlt : i < n
  · refine .inr ⟨hlt, Pv (i + 1), fun σ' H' p' => ⟨n - (i + 1), Nat.sub_succ_lt_self _ _ hlt, rfl, hlt, p'⟩, fun x H' y => ?_⟩
    obtain ⟨e, y⟩ := y
    subst e y
    exact hs i σ _ hlt p
  · have e : i = n := Nat.le_antisymm hi (Nat.le_of_not_lt hlt)
    subst e
    exact .inl ⟨Nat.le_refl _, hd σ H p⟩
end L2
namespace L2
open PySem PySem.Spec PyProof.Rows
noncomputable abbrev R2 := V → V → Hp → VK → Prop
noncomputable def OpR (X : Cx) (f : Value → Value → Sem Value) (r : R2) : Prop :=
  ∀ (pins : List (Addr × Obj)) (s : Shared) (σ : St) (H : Hp) (x y : V) (v u : Value) (Q : VK), Inv X pins σ H s → RelV x v → RelV y u → r x y H Q →
    wpAny (model X.prog X.w) X.A (f v u) (EP X pins σ Q) X.xe s
noncomputable def UnR (X : Cx) (f : Value → Sem Value) (r : V → Hp → VK → Prop) : Prop :=
  ∀ (pins : List (Addr × Obj)) (s : Shared) (σ : St) (H : Hp) (x : V) (v : Value) (Q : VK), Inv X pins σ H s → RelV x v → r x H Q →
    wpAny (model X.prog X.w) X.A (f v) (EP X pins σ Q) X.xe s
noncomputable def CallR (X : Cx) (f : Value) (r : List V → Hp → VK → Prop) : Prop :=
  ∀ (pins : List (Addr × Obj)) (s : Shared) (σ : St) (H : Hp) (xs : List V) (us : List Value) (Q : VK), Inv X pins σ H s → Vals xs us → r xs H Q →
    wpAny (model X.prog X.w) X.A (call f us) (EP X pins σ Q) X.xe s
noncomputable def TruR (X : Cx) (r : V → Hp → (Bool → Hp → Prop) → Prop) : Prop :=
  ∀ (pins : List (Addr × Obj)) (s : Shared) (σ : St) (H : Hp) (x : V) (v : Value) (Q : Bool → Hp → Prop), Inv X pins σ H s → RelV x v → r x H Q →
    wpAny (model X.prog X.w) X.A (truthy v) (TP X pins σ Q) X.xe s
noncomputable def tOp (r : R2) (ta tb : TE) : TE := fun σ H Q => ta σ H fun x H1 => tb σ H1 fun y H2 => r x y H2 Q
noncomputable def rI (C : Int → Int → Prop) (g : Int → Int → V) : R2 := fun x y H Q => ∃ i j, x = .int i ∧ y = .int j ∧ C i j ∧ Q (g i j) H
noncomputable def rI0 (g : Int → Int → V) : R2 := fun x y H Q => ∃ i j, x = .int i ∧ y = .int j ∧ Q (g i j) H
section
variable {X : Cx} {a b c : Expr} {ta tb tc : TE} {pos : Pos}
theorem binT (ha : PE X a ta) (hb : PE X b tb) {pins : List (Addr × Obj)} {s : Shared} {σ : St} {H : Hp} {R : V → V → Hp → Prop} (I : Inv X pins σ H s)
    (h : ta σ H fun x H1 => tb σ H1 fun y H2 => R x y H2) {Q : Value → Shared → Prop} {f : Value → Value → Sem Value}
    (hf : ∀ v u s2 x y H2, Inv X pins σ H2 s2 → RelV x v → RelV y u → R x y H2 → wpAny (model X.prog X.w) X.A (f v u) Q X.xe s2) :
    wpAny (model X.prog X.w) X.A (eval a X.env) (fun v s₁ => wpAny (model X.prog X.w) X.A (eval b X.env) (fun u s₂ => wpAny (model X.prog X.w) X.A (f v u) Q X.xe s₂) X.xe s₁) X.xe s := by
  refine thn (ha pins s σ H _ I h) fun v s1 hq__ => ?_
  obtain ⟨x, H1, I1, r1, q1⟩ := hq__
  refine thn (hb pins s1 σ H1 _ I1 q1) fun u s2 hq__ => ?_
  obtain ⟨y, H2, I2, r2, q2⟩ := hq__
  exact hf v u s2 x y H2 I2 r1 r2 q2
theorem pe_op {op : Operator} {r : R2} (ho : OpR X (binaryOp op) r) (ha : PE X a ta) (hb : PE X b tb) : PE X (.BinOp a op b pos) (tOp r ta tb) := by
  intro pins s σ H Q I h
  exact wpAny_BinOp (binT ha hb I h fun v u s2 x y H2 I2 rx ry q => ho pins s2 σ H2 x y v u Q I2 rx ry q)
theorem opI {f : Value → Value → Sem Value} {C : Int → Int → Prop} {g : Int → Int → Int}
    (rule : ∀ (i j : Int) (t u : Tok) (s : Shared) (Q : Value → Shared → Prop) (E : Value → Shared → Prop), C i j → Q (.int (g i j) s.toks) { s with toks := s.toks + 1 } → wpAny (model X.prog X.w) X.A (f (.int i t) (.int j u)) Q E s) :
    OpR X f (rI C fun i j => .int (g i j)) := by
  intro pins s σ H x y v u Q I rx ry h
  obtain ⟨i, j, rfl, rfl, hc, q⟩ := h
  obtain ⟨t, rfl⟩ := rx
  obtain ⟨t', rfl⟩ := ry
  exact rule i j t t' s _ _ hc ⟨.int (g i j), H, I.tok _, ⟨_, rfl⟩, q⟩
theorem opI0 {f : Value → Value → Sem Value} {g : Int → Int → Int}
    (rule : ∀ (i j : Int) (t u : Tok) (s : Shared) (Q : Value → Shared → Prop) (E : Value → Shared → Prop), Q (.int (g i j) s.toks) { s with toks := s.toks + 1 } → wpAny (model X.prog X.w) X.A (f (.int i t) (.int j u)) Q E s) :
    OpR X f (rI0 fun i j => .int (g i j)) := by
  intro pins s σ H x y v u Q I rx ry h
  obtain ⟨i, j, rfl, rfl, q⟩ := h
  obtain ⟨t, rfl⟩ := rx
  obtain ⟨t', rfl⟩ := ry
  exact rule i j t t' s _ _ ⟨.int (g i j), H, I.tok _, ⟨_, rfl⟩, q⟩
theorem opB0 {f : Value → Value → Sem Value} {g : Int → Int → Bool}
    (rule : ∀ (i j : Int) (t u : Tok) (s : Shared) (Q : Value → Shared → Prop) (E : Value → Shared → Prop), Q (.bool (g i j)) s → wpAny (model X.prog X.w) X.A (f (.int i t) (.int j u)) Q E s) :
    OpR X f (rI0 fun i j => .bl (g i j)) := by
  intro pins s σ H x y v u Q I rx ry h
  obtain ⟨i, j, rfl, rfl, q⟩ := h
  obtain ⟨t, rfl⟩ := rx
  obtain ⟨t', rfl⟩ := ry
  exact rule i j t t' s _ _ ⟨.bl (g i j), H, I, rfl, q⟩
noncomputable def CDiv (i j : Int) : Prop := 0 < j ∧ j < 1073741824
noncomputable def CPow (i j : Int) : Prop := 0 ≤ j ∧ j ≤ 1000000 ∧ i.natAbs < 2 ^ 64
noncomputable def CMul (i j : Int) : Prop := (-(2 ^ 64) < i ∧ i < 2 ^ 64) ∨ (-(2 ^ 64) < j ∧ j < 2 ^ 64)
theorem CMul.ok {i j : Int} (h : CMul i j) : IntMulOk i j := by
  rcases h with ⟨h1, h2⟩ | ⟨h1, h2⟩
  · exact .of_left (intBits_le_64 h1 h2)
  · exact .of_right (intBits_le_64 h1 h2)
theorem op_add : OpR X (binaryOp .Add) (rI0 fun i j => .int (i + j)) := opI0 fun _ _ _ _ _ _ _ q => add_int q
theorem op_sub : OpR X (binaryOp .Sub) (rI0 fun i j => .int (i - j)) := opI0 fun _ _ _ _ _ _ _ q => sub_int q
theorem op_mul : OpR X (binaryOp .Mult) (rI CMul fun i j => .int (i * j)) := opI fun _ _ _ _ _ _ _ hc q => mul_int q hc.ok
theorem op_fdiv : OpR X (binaryOp .FloorDiv) (rI CDiv fun i j => .int (i / j)) := opI fun i j _ _ _ _ _ hc q => by
  have h1 : (0 : Int) < j := hc.1
  have h2 : j < 1073741824 := hc.2
  exact floordiv_int (by omega) (by rw [Int.fdiv_eq_ediv_of_nonneg i (by omega)]; exact q) (.inl (PyProof.noPylong_small (by omega)))
theorem op_mod : OpR X (binaryOp .Mod) (rI (fun _ j => 0 < j) fun i j => .int (i % j)) := opI fun i j _ _ _ _ _ hc q => by
  have h1 : (0 : Int) < j := hc
  exact mod_int' (by omega) (by rw [Int.fmod_eq_emod_of_nonneg i (by omega)]; exact q)
theorem op_pow : OpR X (binaryOp .Pow) (rI CPow fun i j => .int (i ^ j.toNat)) := opI fun _ _ _ _ _ _ _ hc q => pow_int_small hc.1 hc.2.1 hc.2.2 q
end
noncomputable def scal : V → V → Bool
  | .non, .non => true | .non, .int _ => true | .int _, .non => true | .non, .bl _ => true | .bl _, .non => true | .non, .str _ => true | .str _, .non => true
  | .int _, .int _ => true | .bl _, .bl _ => true | .str _, .str _ => true | .byt _, .byt _ => true
  | .int _, .str _ => true | .str _, .int _ => true | .bl _, .str _ => true | .str _, .bl _ => true
  | _, _ => false
noncomputable def rEq : R2 := fun x y H Q => scal x y = true ∧ Q (.bl (decide (x = y))) H
noncomputable def rNe : R2 := fun x y H Q => scal x y = true ∧ Q (.bl (!decide (x = y))) H
theorem dec_int {i j : Int} : decide (V.int i = V.int j) = (i == j) := by
  rw [Bool.eq_iff_iff]
  simp
theorem dec_bl {i j : Bool} : decide (V.bl i = V.bl j) = (i == j) := by
  rw [Bool.eq_iff_iff]
  simp
theorem dec_str {i j : Str} : decide (V.str i = V.str j) = (i == j) := by
  rw [Bool.eq_iff_iff]
  simp
theorem dec_byt {i j : Array UInt8} : decide (V.byt i = V.byt j) = (i.toList == j.toList) := by
  rw [Bool.eq_iff_iff]
  cases i
  cases j
  simp
section
variable {X : Cx} {a b c : Expr} {ta tb tc : TE} {pos : Pos}
theorem fin_bl {pins : List (Addr × Obj)} {σ : St} {H : Hp} {s : Shared} {Q : VK} {k k' : Bool} (I : Inv X pins σ H s) (q : Q (.bl k) H) (e : k = k') : EP X pins σ Q (.bool k') s := by
  subst e
  exact ⟨.bl k, H, I, rfl, q⟩
theorem op_eq : OpR X (compareOp .Eq) rEq := by
  intro pins s σ H x y v u Q I rx ry h
  obtain ⟨hs, q⟩ := h
  cases x with
  | non =>
    cases rx
    cases y with
    | non => cases ry; exact PySem.EqNone.eq_none_none (fin_bl I q (by simp))
    | bl j => cases ry; exact PySem.EqNone.eq_none_bool (fin_bl I q (by simp))
    | int j => obtain ⟨t', rfl⟩ := ry; exact PySem.EqNone.eq_none_int (fin_bl I q (by simp))
    | str j => obtain ⟨t', rfl⟩ := ry; exact PySem.EqNone.eq_none_str (fin_bl I q (by simp))
    | _ => exact absurd (show false = true from hs) Bool.false_ne_true
  | bl i =>
    cases rx
    cases y with
    | non => cases ry; exact PySem.EqNone.eq_bool_none (fin_bl I q (by simp))
    | bl j => cases ry; exact eq_bool (fin_bl I q dec_bl)
    | str j => obtain ⟨t', rfl⟩ := ry; exact PySem.EqMixed.eq_bool_str (fin_bl I q (by simp))
    | _ => exact absurd (show false = true from hs) Bool.false_ne_true
  | int i =>
    obtain ⟨t, rfl⟩ := rx
    cases y with
    | non => cases ry; exact PySem.EqNone.eq_int_none (fin_bl I q (by simp))
    | int j => obtain ⟨t', rfl⟩ := ry; exact eq_int (fin_bl I q dec_int)
    | str j => obtain ⟨t', rfl⟩ := ry; exact PySem.EqMixed.eq_int_str (fin_bl I q (by simp))
    | _ => exact absurd (show false = true from hs) Bool.false_ne_true
  | str i =>
    obtain ⟨t, rfl⟩ := rx
    cases y with
    | non => cases ry; exact PySem.EqNone.eq_str_none (fin_bl I q (by simp))
    | bl j => cases ry; exact PySem.EqMixed.eq_str_bool (fin_bl I q (by simp))
    | int j => obtain ⟨t', rfl⟩ := ry; exact PySem.EqMixed.eq_str_int (fin_bl I q (by simp))
    | str j => obtain ⟨t', rfl⟩ := ry; exact eq_str (fin_bl I q dec_str)
    | _ => exact absurd (show false = true from hs) Bool.false_ne_true
  | byt i =>
    obtain ⟨t, rfl⟩ := rx
    cases y with
    | byt j => obtain ⟨t', rfl⟩ := ry; exact PySem.W.eq_bytes (fin_bl I q dec_byt)
    | _ => exact absurd (show false = true from hs) Bool.false_ne_true
  | _ => cases y <;> exact absurd (show false = true from hs) Bool.false_ne_true
theorem op_ne : OpR X (compareOp .NotEq) rNe := by
  intro pins s σ H x y v u Q I rx ry h
  obtain ⟨hs, q⟩ := h
  cases x with
  | non =>
    cases rx
    cases y with
    | non => cases ry; exact PySem.EqNone.ne_none_none (fin_bl I q (by simp))
    | bl j => cases ry; exact PySem.EqNone.ne_none_bool (fin_bl I q (by simp))
    | int j => obtain ⟨t', rfl⟩ := ry; exact PySem.EqNone.ne_none_int (fin_bl I q (by simp))
    | str j => obtain ⟨t', rfl⟩ := ry; exact PySem.EqNone.ne_none_str (fin_bl I q (by simp))
    | _ => exact absurd (show false = true from hs) Bool.false_ne_true
  | bl i =>
    cases rx
    cases y with
    | non => cases ry; exact PySem.EqNone.ne_bool_none (fin_bl I q (by simp))
    | bl j => cases ry; exact ne_bool (fin_bl I q (congrArg not dec_bl))
    | str j => obtain ⟨t', rfl⟩ := ry; exact PySem.EqMixed.ne_bool_str (fin_bl I q (by simp))
    | _ => exact absurd (show false = true from hs) Bool.false_ne_true
  | int i =>
    obtain ⟨t, rfl⟩ := rx
    cases y with
    | non => cases ry; exact PySem.EqNone.ne_int_none (fin_bl I q (by simp))
    | int j => obtain ⟨t', rfl⟩ := ry; exact ne_int (fin_bl I q (congrArg not dec_int))
    | str j => obtain ⟨t', rfl⟩ := ry; exact PySem.EqMixed.ne_int_str (fin_bl I q (by simp))
    | _ => exact absurd (show false = true from hs) Bool.false_ne_true
  | str i =>
    obtain ⟨t, rfl⟩ := rx
    cases y with
    | non => cases ry; exact PySem.EqNone.ne_str_none (fin_bl I q (by simp))
    | bl j => cases ry; exact PySem.EqMixed.ne_str_bool (fin_bl I q (by simp))
    | int j => obtain ⟨t', rfl⟩ := ry; exact PySem.EqMixed.ne_str_int (fin_bl I q (by simp))
    | str j => obtain ⟨t', rfl⟩ := ry; exact ne_str (fin_bl I q (congrArg not dec_str))
    | _ => exact absurd (show false = true from hs) Bool.false_ne_true
  | byt i =>
    obtain ⟨t, rfl⟩ := rx
    cases y with
    | byt j => obtain ⟨t', rfl⟩ := ry; exact PySem.W.ne_bytes (fin_bl I q (congrArg not dec_byt))
    | _ => exact absurd (show false = true from hs) Bool.false_ne_true
  | _ => cases y <;> exact absurd (show false = true from hs) Bool.false_ne_true
theorem op_lt : OpR X (compareOp .Lt) (rI0 fun i j => .bl (decide (i < j))) := opB0 fun _ _ _ _ _ _ _ q => lt_int q
theorem op_le : OpR X (compareOp .LtE) (rI0 fun i j => .bl (decide (i ≤ j))) := opB0 fun _ _ _ _ _ _ _ q => le_int q
theorem op_gt : OpR X (compareOp .Gt) (rI0 fun i j => .bl (decide (j < i))) := opB0 fun _ _ _ _ _ _ _ q => gt_int q
theorem op_ge : OpR X (compareOp .GtE) (rI0 fun i j => .bl (decide (j ≤ i))) := opB0 fun _ _ _ _ _ _ _ q => ge_int q
theorem op_notN : OpR X (compareOp .IsNot) (fun x y H Q => y = .non ∧ Q (.bl (!decide (x = .non))) H) := by
  intro pins s σ H x y v u Q I rx ry h
  obtain ⟨rfl, q⟩ := h
  cases ry
  refine isnot_none_gen (fin_bl I q ?_)
  cases x <;> first
    | (cases rx; rfl)
    | (obtain ⟨t, rfl⟩ := rx; rfl)
theorem nomark (b : Expr) {op : CmpOp} (h : op ≠ .In := by decide) (h2 : op ≠ .NotIn := by decide) : behindInMarks op b = false := by
  have e1 : (op == CmpOp.In) = false := by cases op <;> first | rfl | exact absurd rfl h
  have e2 : (op == CmpOp.NotIn) = false := by cases op <;> first | rfl | exact absurd rfl h2
  cases b <;> simp [behindInMarks, e1, e2]
theorem pe_cmpR {op : CmpOp} {r : R2} (ho : OpR X (compareOp op) r) (ha : PE X a ta) (hb : PE X b tb) (hm : behindInMarks op b = false) : PE X (.Compare a [op] [b] pos) (tOp r ta tb) := by
  intro pins s σ H Q I h
  exact wpAny_Compare1 (binT ha hb I h fun v u s2 x y H2 I2 rx ry q => ho pins s2 σ H2 x y v u Q I2 rx ry q) hm
noncomputable def tTest (t : TE) : TT := fun σ H Q => t σ H fun x H' => ∃ k, x = .bl k ∧ Q k H'
theorem pt_cmpR {op : CmpOp} {r : R2} (ho : OpR X (compareOp op) r) (ha : PE X a ta) (hb : PE X b tb) (hm : behindInMarks op b = false) : PT X (.Compare a [op] [b] pos) (tTest (tOp r ta tb)) := by
  intro pins s σ H Q I h
  refine wpAny_isTrue_Compare1 (thn (ha pins s σ H _ I h) fun v s1 h1 => ?_) hm
  obtain ⟨x, H1, I1, r1, q1⟩ := h1
  refine thn (hb pins s1 σ H1 _ I1 q1) fun u s2 h2 => ?_
  obtain ⟨y, H2, I2, r2, q2⟩ := h2
  refine thn (ho pins s2 σ H2 x y v u _ I2 r1 r2 q2) fun c s3 h3 => ?_
  obtain ⟨z, H3, I3, r3, k, e, q3⟩ := h3
  subst e
  cases r3
  exact wpAny_truthy_bool ⟨H3, I3, q3⟩
noncomputable def tChain (r r' : R2) (ta tb tc : TE) : TE := fun σ H Q => ta σ H fun x H1 => tb σ H1 fun y H2 => r x y H2 fun z H3 => ∃ k, z = .bl k ∧
  (if k = true then tc σ H3 fun w' H4 => r' y w' H4 Q else Q (.bl false) H3)
theorem pe_chain {op op' : CmpOp} {r r' : R2} (ho : OpR X (compareOp op) r) (ho' : OpR X (compareOp op') r') (ha : PE X a ta) (hb : PE X b tb) (hc : PE X c tc)
    (hm : lastMarks [op, op'] [b, c] = false := by with_unfolding_all rfl) : PE X (.Compare a [op, op'] [b, c] pos) (tChain r r' ta tb tc) := by
  intro pins s σ H Q I h
  refine Compare_chain (thn (ha pins s σ H _ I h) fun v s1 h1 => ?_) hm
  obtain ⟨x, H1, I1, r1, q1⟩ := h1
  refine chain_link (thn (hb pins s1 σ H1 _ I1 q1) fun u s2 h2 => ?_)
  obtain ⟨y, H2, I2, r2, q2⟩ := h2
  refine thn (ho pins s2 σ H2 x y v u _ I2 r1 r2 q2) fun d s3 h3 => ?_
  obtain ⟨z, H3, I3, r3, k, e, q3⟩ := h3
  subst e
  cases r3
  refine wpAny_truthy_bool ?_
  cases k with
  | false => exact ite_ff ⟨.bl false, H3, I3, rfl, q3⟩
  | true =>
    refine ite_tt (chain_last (thn (hc pins s3 σ H3 _ I3 q3) fun w' s4 h4 => ?_))
    obtain ⟨z', H4, I4, r4, q4⟩ := h4
    exact ho' pins s4 σ H4 y z' u w' Q I4 r2 r4 q4
noncomputable def TruV (K : PySem.W.Frag) (x : V) (H : Hp) (k : Bool) : Prop :=
  match x with
  | .non => k = false
  | .bl b => k = b
  | .int i => k = (i != 0)
  | .str y => y.length ≤ sizeLine ∧ k = ((y.length : Int) != 0)
  | .byt y => y.size ≤ sizeLine ∧ k = ((y.size : Int) != 0)
  | .ref p => (∃ xs, SqL K H p xs ∧ k = !xs.isEmpty) ∨ (∃ xs, SqT K H p xs ∧ k = !xs.isEmpty) ∨ ∃ kvs, H p = some (.dK kvs) ∧ k = !kvs.isEmpty
  | _ => False
theorem isEmpty_kv {κ : Type} {kvs : List (κ × V)} {vs : List (κ × Value)} (r : KV kvs vs) : (!vs.isEmpty) = !kvs.isEmpty := by
  cases r <;> rfl
theorem isEmpty_of {xs : List V} {its : List Value} (r : Vals xs its) : (!its.toArray.isEmpty) = !xs.isEmpty := by
  cases r <;> simp
theorem line63 : (sizeLine : Nat) < 2 ^ 63 := by rw [sizeLine_eq]; decide
theorem tru_ok : TruR X (fun x H Q => ∃ k, TruV X.K x H k ∧ Q k H) := by
  intro pins s σ H x v Q I rx h
  obtain ⟨k, e, q⟩ := h
  have hl := line63
  have hs : sizeLine = 16777216 := sizeLine_eq
  cases x with
  | non =>
    cases rx
    have e' : k = false := e
    subst e'
    exact truthy_none ⟨H, I, q⟩
  | bl b =>
    cases rx
    have e' : k = b := e
    subst e'
    exact wpAny_truthy_bool ⟨H, I, q⟩
  | int i =>
    obtain ⟨t, rfl⟩ := rx
    have e' : k = (i != 0) := e
    subst e'
    exact PySem.P.truthy_int ⟨H, I, q⟩
  | str y =>
    obtain ⟨t, rfl⟩ := rx
    obtain ⟨hy, e'⟩ : y.length ≤ sizeLine ∧ k = ((y.length : Int) != 0) := e
    subst e'
    exact PySem.P.truthy_str (by omega) ⟨H, I.tok _, q⟩
  | byt y =>
    obtain ⟨t, rfl⟩ := rx
    obtain ⟨hy, e'⟩ : y.size ≤ sizeLine ∧ k = ((y.size : Int) != 0) := e
    subst e'
    exact PySem.W.truthy_bytes (by omega) ⟨H, I.tok _, q⟩
  | ref p =>
    cases rx
    have e' : (∃ xs, SqL X.K H p xs ∧ k = !xs.isEmpty) ∨ (∃ xs, SqT X.K H p xs ∧ k = !xs.isEmpty) ∨ ∃ kvs, H p = some (.dK kvs) ∧ k = !kvs.isEmpty := e
    rcases e' with ⟨xs, hx, e'⟩ | ⟨xs, hx, e'⟩ | ⟨kvs, hx, e'⟩
    · subst e'
      obtain ⟨its, r, pl, hz⟩ := I.list hx
      have hlen := r.length
      exact wpAny_truthy_list pl.isList (by simp only [List.size_toArray]; omega) ⟨H, I.tok _, by rw [isEmpty_of r]; exact q⟩
    · subst e'
      obtain ⟨its, r, pl, hz⟩ := I.tuple hx
      have hlen := r.length
      exact truthy_tuple pl (by simp only [List.size_toArray]; omega) ⟨H, I.tok _, by rw [isEmpty_of r]; exact q⟩
    · subst e'
      obtain ⟨hz, hS, vs, r, m⟩ : kvs.length ≤ sizeLine ∧ (p == sysModules) = false ∧ ∃ vs, KV kvs vs ∧ s.heap.DictOf (mixKind X.prog X.w) p vs := I.hok p _ hx
      have hlen : kvs.length = vs.length := Paired.length r
      exact wpAny_truthy_dict hS m (by omega) ⟨H, I.tok _, by rw [isEmpty_kv r]; exact q⟩
  | _ => exact (show False from e).elim
theorem vals1 {x : V} {us : List Value} (r : Vals [x] us) : ∃ u, us = [u] ∧ RelV x u := by
  cases r with
  | cons r1 r2 => cases r2; exact ⟨_, rfl, r1⟩
theorem vals2 {x y : V} {us : List Value} (r : Vals [x, y] us) : ∃ u w', us = [u, w'] ∧ RelV x u ∧ RelV y w' := by
  cases r with
  | cons r1 r2 =>
    cases r2 with
    | cons r3 r4 => cases r4; exact ⟨_, _, rfl, r1, r3⟩
theorem call_max2 (hc : X.calm = true) : CallR X (.builtin "max") (fun xs H Q => ∃ i j, xs = [.int i, .int j] ∧ Q (.int (if j > i then j else i)) H) := by
  intro pins s σ H xs us Q I r h
  obtain ⟨i, j, rfl, q⟩ := h
  obtain ⟨u, w', rfl, ⟨t, rfl⟩, ⟨t', rfl⟩⟩ := vals2 r
  refine max_two_ints (I.ok.hd hc) fun h' tk k => ⟨_, H, I.kept k, ?_, q⟩
  by_cases hj : j > i
  · rw [if_pos hj, if_pos hj]; exact ⟨_, rfl⟩
  · rw [if_neg hj, if_neg hj]; exact ⟨_, rfl⟩
theorem call_min2 (hc : X.calm = true) : CallR X (.builtin "min") (fun xs H Q => ∃ i j, xs = [.int i, .int j] ∧ Q (.int (if j < i then j else i)) H) := by
  intro pins s σ H xs us Q I r h
  obtain ⟨i, j, rfl, q⟩ := h
  obtain ⟨u, w', rfl, ⟨t, rfl⟩, ⟨t', rfl⟩⟩ := vals2 r
  refine min_two_ints (I.ok.hd hc) fun h' tk k => ⟨_, H, I.kept k, ?_, q⟩
  by_cases hj : j < i
  · rw [if_pos hj, if_pos hj]; exact ⟨_, rfl⟩
  · rw [if_neg hj, if_neg hj]; exact ⟨_, rfl⟩
noncomputable def LenV (K : PySem.W.Frag) (x : V) (H : Hp) (n : Nat) : Prop :=
  match x with
  | .str y => y.length ≤ sizeLine ∧ n = y.length
  | .byt y => y.size ≤ sizeLine ∧ n = y.size
  | .ref p => (∃ xs, SqL K H p xs ∧ n = xs.length) ∨ ∃ xs, SqT K H p xs ∧ n = xs.length
  | _ => False
theorem call_len : CallR X (.builtin "len") (fun xs H Q => ∃ x n, xs = [x] ∧ LenV X.K x H n ∧ Q (.int n) H) := by
  intro pins s σ H xs us Q I r h
  obtain ⟨x, n, rfl, e, q⟩ := h
  obtain ⟨u, rfl, rx⟩ := vals1 r
  have hl := line63
  have hs : sizeLine = 16777216 := sizeLine_eq
  cases x with
  | str y =>
    obtain ⟨t, rfl⟩ := rx
    obtain ⟨hy, e'⟩ : y.length ≤ sizeLine ∧ n = y.length := e
    subst e'
    exact len_str (by omega) ⟨.int _, H, I.tok _, ⟨_, rfl⟩, q⟩
  | byt y =>
    obtain ⟨t, rfl⟩ := rx
    obtain ⟨hy, e'⟩ : y.size ≤ sizeLine ∧ n = y.size := e
    subst e'
    exact PySem.W.len_bytes (by omega) ⟨.int _, H, I.tok _, ⟨_, rfl⟩, q⟩
  | ref p =>
    cases rx
    have e' : (∃ xs, SqL X.K H p xs ∧ n = xs.length) ∨ ∃ xs, SqT X.K H p xs ∧ n = xs.length := e
    rcases e' with ⟨xs, hx, e'⟩ | ⟨xs, hx, e'⟩
    · subst e'
      obtain ⟨its, r', pl, hz⟩ := I.list hx
      have hlen := r'.length
      exact Calls.call_len_list pl.isList (by simp only [List.size_toArray]; omega) ⟨.int xs.length, H, I.tok _, ⟨_, by simp only [List.size_toArray]; rw [hlen]⟩, q⟩
    · subst e'
      obtain ⟨its, r', pl, hz⟩ := I.tuple hx
      have hlen := r'.length
      exact len_tuple pl (by simp only [List.size_toArray]; omega) ⟨.int xs.length, H, I.tok _, ⟨_, by simp only [List.size_toArray]; rw [hlen]⟩, q⟩
  | _ => exact (show False from e).elim
end
end L2
namespace L2
open PySem PySem.Spec PyProof.Rows
structure ObjM (h : Heap) (x dx C : Addr) (mA : Str → Option Value) : Prop where
  obj : h.get? x = some (PySem.W.instObj C dx)
  ns : h.Ns1 dx mA
  ne : dx ≠ x
theorem lookIn_ns {h : Heap} {dx : Addr} {mA : Str → Option Value} (n : h.Ns1 dx mA) : ∃ od, h.get? dx = some od ∧ ∀ name, PySem.W.lookIn name od = some (mA name) := by
  obtain ⟨o, es, ep, ho, hd, hk, _, hm⟩ := n
  refine ⟨o, ho, fun name => ?_⟩
  have e := hm name
  unfold nsFind findBy at e
  rw [← Array.find?_toList] at e
  unfold PySem.W.lookIn
  rw [hd]
  dsimp only
  split
  · rename_i y q
    rw [q] at e
    exact congrArg some e
  · rename_i q
    rw [q] at e
    have a : es.toList.any (·.refKey) = false := by
      rw [List.any_eq_false]
      intro y hy
      obtain ⟨z, t, hkey⟩ := hk y (Array.mem_toList_iff.mp hy)
      simp [DictEntry.refKey, hkey]
    have a' : ¬ es.toList.any (·.refKey) = true := by rw [a]; exact Bool.false_ne_true
    rw [if_neg a']
    exact congrArg some e
theorem ObjM.look {h : Heap} {x dx C : Addr} {mA : Str → Option Value} (I : ObjM h x dx C mA) : ∃ od, PySem.W.InstAt h x (PySem.W.instObj C dx) C (some od) ∧ ∀ name, PySem.W.lookIn name od = some (mA name) :=
  let ⟨od, ho, hl⟩ := lookIn_ns I.ns
  ⟨od, ⟨I.obj, rfl, rfl, ho⟩, hl⟩
section
variable {prog : Program} {w : World} {A : Around} {E : Value → Shared → Prop} {s : Shared} {K : PySem.W.Frag} {x dx C f : Addr} {mA : Str → Option Value} {name : Str} {v : Value}
end
theorem RelO.some_of {v : V} {o : Option Value} (r : RelO (some v) o) : ∃ u, o = some u ∧ RelV v u := by
  cases o with
  | none => exact (show False from r).elim
  | some u => exact ⟨u, rfl, r⟩
section
variable {P : Program} {w : World} {H H' : Hp} {h h' : Heap} {a C dx : Addr} {fs fs' : List (Str × V)}
theorem ins_get (hok : HOk P w H h) (e : H a = some (.ins C dx fs)) : ∃ mA, ObjM h a dx C mA ∧ (∀ f, RelO (fs.lookup f) (mA f)) ∧ PySem.Within mA (fs.map (·.1)) ∧ fs.length ≤ 1000 ∧ H dx = some (.own a) := by
  obtain ⟨d, z, ne, ob, mA, n, r, q⟩ := (show ObjOk P w H h a (.ins C dx fs) from hok a _ e)
  exact ⟨mA, ⟨ob, n, ne⟩, r, q, z, d⟩
end
structure Cls (K : PySem.W.Frag) (C : Addr) : Prop where
  pg : PySem.W.plainGet K C Str.empty = true
  hd : PySem.W.hasDictIn K C = true
  po : PySem.W.plainOver K C = true
  sa : PySem.W.findIn K (.ref C) "__setattr__" = some (some (.builtin "object.__setattr__"))
theorem Cls.get {K : PySem.W.Frag} {C : Addr} (c : Cls K C) (f : Str) : PySem.W.plainGet K C f = true := c.pg
section
variable {X : Cx} {pins : List (Addr × Obj)} {σ : St} {H : Hp} {s : Shared} {a C dx : Addr} {fs : List (Str × V)} {f : Str} {v : V} {A : Around} {E : Value → Shared → Prop}
end
section
variable {X : Cx} {o e value : Expr} {f : Str} {pos pos' tpos : Pos} {ta tv : TE}
end
section
variable {X : Cx} {pins : List (Addr × Obj)} {σ : St} {H : Hp} {s : Shared} {A : Around} {E : Value → Shared → Prop} {Q : Value → Shared → Prop} {c : Value} {b : Bool}
inductive TyOf (K : PySem.W.Frag) (H : Hp) : V → Value → Prop where
  | non : TyOf K H .non (.type "NoneType")
  | bl (x : Bool) : TyOf K H (.bl x) (.type "bool")
  | int (i : Int) : TyOf K H (.int i) (.type "int")
  | str (x : Str) : TyOf K H (.str x) (.type "str")
  | flt (x : UInt64) : TyOf K H (.flt x) (.type "float")
  | lst {a : Addr} {xs : List V} (e : H a = some (.lst xs)) : TyOf K H (.ref a) (.type "list")
  | frz {a : Addr} {o : Obj} {xs : List V} (e : H a = some (.frz o (.lst xs))) : TyOf K H (.ref a) (.type "list")
  | tup {a : Addr} {xs : List V} (e : H a = some (.tup xs)) : TyOf K H (.ref a) (.type "tuple")
  | dK {a : Addr} {kvs : List (Key × V)} (e : H a = some (.dK kvs)) : TyOf K H (.ref a) (.type "dict")
  | dT {a : Addr} {kvs : List (List Key × V)} (e : H a = some (.dT kvs)) : TyOf K H (.ref a) (.type "dict")
  | ins {a C dx : Addr} {fs : List (Str × V)} (e : H a = some (.ins C dx fs)) (cl : Cls K C) (ha : PySem.W.findIn K (.ref C) "__class__" = some (some (.builtin "object.__class__")))
      (hn : PySem.W.specialIn K (.builtin "object.__class__") "__get__" = some (some (.builtin "getset_descriptor.__get__"))) (htk : PySem.W.takesIn K (.builtin "object.__class__") = some true)
      (hm : PySem.W.mroIn K C (.type "object") = some true) : TyOf K H (.ref a) (.ref C)
theorem isinst_ok {x : V} {u t : Value} (I : Inv X pins σ H s) (rx : RelV x u) (ty : TyOf X.K H x t) (e : PySem.W.kitOne X.K t c = some b) (h : ∀ tk, Q (.bool b) { s with toks := tk }) :
    wpAny (model X.prog X.w) A (call (.builtin "isinstance") [u, c]) Q E s := by
  cases ty with
  | non => cases (show u = Value.none from rx); exact PySem.W.kia_one PySem.W.kitx_none I.kIn True.intro e (fun z => nomatch z) h
  | bl y => cases (show u = Value.bool y from rx); exact PySem.W.kia_one PySem.W.kitx_bool I.kIn True.intro e (fun z => nomatch z) h
  | int i => obtain ⟨t, q⟩ := (show ∃ t, u = Value.int i t from rx); cases q; exact PySem.W.kia_one PySem.W.kitx_int I.kIn True.intro e (fun z => nomatch z) h
  | str y => obtain ⟨t, q⟩ := (show ∃ t, u = Value.str y t from rx); cases q; exact PySem.W.kia_one PySem.W.kitx_str I.kIn True.intro e (fun z => nomatch z) h
  | flt y => obtain ⟨t, q⟩ := (show ∃ t, u = Value.float y t from rx); cases q; exact PySem.W.kia_one PySem.W.kitx_float I.kIn True.intro e (fun z => nomatch z) h
  | @lst a xs ea =>
    cases (show u = Value.ref a from rx)
    obtain ⟨_, _, n, _, h1⟩ := (show ObjOk X.prog X.w H s.heap a (.lst xs) from I.hok a _ ea)
    exact PySem.W.kia_one PySem.W.kitx_list I.kIn ⟨_, h1, rfl⟩ e (fun z => nomatch z) h
  | @frz a ob xs ea =>
    cases (show u = Value.ref a from rx)
    obtain ⟨_, _, _, n, _, h1⟩ := (show ObjOk X.prog X.w H s.heap a (.frz ob (.lst xs)) from I.hok a _ ea)
    exact PySem.W.kia_one PySem.W.kitx_list I.kIn ⟨_, h1, rfl⟩ e (fun z => nomatch z) h
  | @tup a xs ea =>
    cases (show u = Value.ref a from rx)
    obtain ⟨_, _, _, p⟩ := (show ObjOk X.prog X.w H s.heap a (.tup xs) from I.hok a _ ea)
    obtain ⟨o, h1, h2, _⟩ := p
    exact PySem.W.kia_one PySem.W.kitx_tuple I.kIn ⟨o, h1, h2⟩ e (fun z => nomatch z) h
  | @dK a kvs ea =>
    cases (show u = Value.ref a from rx)
    obtain ⟨_, _, vs, _, p⟩ := (show ObjOk X.prog X.w H s.heap a (.dK kvs) from I.hok a _ ea)
    obtain ⟨o, es, ep, h1, h2, _⟩ := p
    exact PySem.W.kia_one PySem.W.kitx_dict I.kIn ⟨o, h1, h2.1⟩ e (fun z => nomatch z) h
  | @dT a kvs ea =>
    cases (show u = Value.ref a from rx)
    obtain ⟨_, _, xs, _, o, es, ep, h1, h2, _⟩ := (show ObjOk X.prog X.w H s.heap a (.dT kvs) from I.hok a _ ea)
    exact PySem.W.kia_one PySem.W.kitx_dict I.kIn ⟨o, h1, h2.1⟩ e (fun z => nomatch z) h
  | @ins a C dx fs ea cl ha hn htk hm =>
    cases (show u = Value.ref a from rx)
    obtain ⟨mA, O, _⟩ := ins_get I.hok ea
    obtain ⟨od, J, _⟩ := O.look
    exact PySem.W.kia_one (PySem.W.kitx_own (cl.get _) cl.hd ha hn htk hm) I.kIn J e (fun z => nomatch z) h
end
end L2
namespace L2
open PySem PySem.Spec PyProof.Rows
structure Room (k : Nat) (A : Around) : Prop where
  hd : A.handled = none
  dp : A.depth + 3 * k + 5 < recursionLimit
  un : A.units + 16 * k + 200 < cLine
theorem Room.mono {j k : Nat} {A : Around} (r : Room k A) (h : j ≤ k) : Room j A := ⟨r.hd, Nat.lt_of_le_of_lt (Nat.add_le_add_right (Nat.add_le_add_left (Nat.mul_le_mul_left 3 h) _) 5) r.dp, Nat.lt_of_le_of_lt (Nat.add_le_add_right (Nat.add_le_add_left (Nat.mul_le_mul_left 16 h) _) 200) r.un⟩
theorem Room.deeper {k : Nat} {A : Around} (r : Room (k + 1) A) (env : Env) : Room k (A.deeper env) :=
  ⟨r.hd, by have := r.dp; show A.depth + 1 + 3 * k + 5 < _; omega, by have := r.un; show A.units + 3 + 16 * k + 200 < _; omega⟩
theorem Room.depth {k : Nat} {A : Around} (r : Room k A) : A.depth < recursionLimit := by have := r.dp; omega
theorem Room.units {k : Nat} {A : Around} (r : Room k A) : A.units + 64 < cLine := by have := r.un; omega
noncomputable def tNil : TA := fun _ H Q => Q [] H
noncomputable def tCons (ta : TE) (tr : TA) : TA := fun σ H Q => ta σ H fun x H1 => tr σ H1 fun xs H2 => Q (x :: xs) H2
section
variable {X : Cx} {e : Expr} {es : List Expr} {te : TE} {t : TA} {pos : Pos}
theorem pa_nil : PA X [] tNil := fun _ _ _ _ H Q I h => Calls.spliced_nil ⟨[], H, I, .nil, h⟩
theorem pa_cons (ha : PE X e te) (hr : PA X es t) (hs : starEach (e :: es) X.env = (false, eval e X.env) :: starEach es X.env := by rfl) : PA X (e :: es) (tCons te t) := by
  intro pos pins s σ H Q I h
  rw [hs]
  show wpAny _ _ (spliced ((false, eval e X.env) :: backTo pos (starEach es X.env))) _ _ s
  refine Calls.spliced_cons (thn (ha pins s σ H _ I h) fun u s1 hq__ => ?_)
  obtain ⟨x, H1, I1, r1, q1⟩ := hq__
  exact thn (hr pos pins s1 σ H1 _ I1 q1) fun us s2 ⟨xs, H2, I2, r2, q2⟩ => ⟨x :: xs, H2, I2, .cons r1 r2, q2⟩
noncomputable def tTup (t : TA) : TE := fun σ H Q => t σ H fun xs H1 => xs.length ≤ sizeLine ∧ ∀ p, H1 p = none → Q (.ref p) (upd H1 p (.tup xs))
noncomputable def tLst (t : TA) : TE := fun σ H Q => t σ H fun xs H1 => xs.length ≤ sizeLine ∧ ∀ p, H1 p = none → Q (.ref p) (upd H1 p (.lst xs))
theorem pe_tup {x1} (h : PA X es t) : PE X (.Tuple es x1 pos) (tTup t) := by
  intro pins s σ H Q I hq
  refine wpAny_Tuple_spliced (thn (h pos pins s σ H _ I hq) fun us s1 ⟨xs, H1, I1, r, z, q⟩ => ⟨by rw [← r.length]; exact z, ?_⟩)
  have hf : H1 s1.heap.objs.size = none := I1.hok.fresh (Nat.le_refl _)
  refine ⟨.ref s1.heap.objs.size, upd H1 s1.heap.objs.size (.tup xs), I1.laid (t' := s1.toks) (fun b u e => Heap.get?_push_of_some _ e) (Nat.le_refl _) ?_, rfl, q _ hf⟩
  exact ⟨z, us, r, ⟨_, Heap.get?_push_size _ rfl, rfl, _, rfl⟩⟩
theorem pe_lst (h : PA X es t) : PE X (.List es pos) (tLst t) := by
  intro pins s σ H Q I hq
  refine wpAny_List_spliced (thn (h pos pins s σ H _ I hq) fun us s1 ⟨xs, H1, I1, r, z, q⟩ => ⟨by rw [← r.length]; exact z, ?_⟩)
  have hf : H1 s1.heap.objs.size = none := I1.hok.fresh (Nat.le_refl _)
  refine ⟨.ref s1.heap.objs.size, upd H1 s1.heap.objs.size (.lst xs), I1.laid (t' := s1.toks) (fun b u e => Heap.get?_push_of_some _ e) (Nat.le_refl _) ?_, rfl, q _ hf⟩
  exact ⟨z, us, 0, r, Heap.get?_push_size _ rfl⟩
end
noncomputable abbrev Sp := List V → Hp → VK → XK → Prop
noncomputable abbrev CXT := List Env → Hp → Shared → XK → Value → Shared → Prop
structure Env0 (P : Program) (w : World) (K : PySem.W.Frag) (mg : Str → Option Value) (base : Heap) (A : Around) (outer : List Env) (s : Shared) (H : Hp) : Prop where
  frames : A.frames = some outer
  mod : Mod K mg base
  bs : ∀ b o, base.get? b = some o → s.heap.get? b = some o ∧ H b = none
  bsz : base.objs.size ≤ s.heap.objs.size
  funs : s.heap.FunFrames base outer
  frf : ∀ b ∈ frs outer, H b = none
  hok : HOk P w H s.heap
  bare : AllBare s.gens
noncomputable def CE (outer : List Env) (P : Program) (w : World) (H : Hp) (s : Shared) (Q : VK) (u : Value) (s' : Shared) : Prop :=
  ∃ v H', s'.os = s.os ∧ AllBare s'.gens ∧ Un (frs outer) [] H H' s.heap s'.heap ∧ HOk P w H' s'.heap ∧ RelV v u ∧ Q v H'
noncomputable def CR (CX : CXT) (outer : List Env) (P : Program) (w : World) (H : Hp) (s : Shared) (Q : VK) (E : XK) (r : Result) (s' : Shared) : Prop :=
  match r with
  | .ok (.ret u) => CE outer P w H s Q u s'
  | .ok _ => False
  | .error e => CX outer H s E e s'
structure FnOk (P : Program) (w : World) (K : PySem.W.Frag) (mg : Str → Option Value) (base : Heap) (CX : CXT) (k : Nat) (f : Addr) (fd : FuncData) (ps : List Str) (sp : Sp) : Prop where
  len : ∀ vs H Q E, sp vs H Q E → vs.length = ps.length
  run : ∀ (A : Around) (outer : List Env) (s : Shared) (H : Hp) (args : Args) (us : List Value) (vs : List V) (Q : VK) (E : XK), Room k A → Env0 P w K mg base A outer s H → BindsTo s fd args (ps.zip us) → Vals vs us → sp vs H Q E →
    codeAny (model P w) A (.call (.ref f) args) (CR CX outer P w H s Q E) s
section
variable {X : Cx} {pins : List (Addr × Obj)} {σ : St} {H : Hp} {s s' : Shared}
theorem Inv.env0 (I : Inv X pins σ H s) : Env0 X.prog X.w X.K X.mg X.base X.A X.stack s H :=
  ⟨I.ok.frames, I.ok.mod, I.bs, Nat.le_trans I.ok.bsz I.sz, I.stack, I.stkFree, I.hok, I.bare⟩
theorem Inv.after {Q : VK} {u : Value} (I : Inv X pins σ H s) (h : CE X.stack X.prog X.w H s Q u s') : EP X pins σ Q u s' := by
  obtain ⟨v, H', os, bare, un, hok, r, q⟩ := h
  obtain ⟨hh, g, d, t, os'⟩ := s'
  obtain rfl : os' = s.os := os
  exact ⟨v, H', I.call (h' := hh) (g' := g) (d' := d) (t' := t) (ch := []) un hok bare (fun b z => absurd z (by simp)), r, q⟩
end
noncomputable def tCall (sp : Sp) (dvs : List V) (E : XK) (t : TA) : TE := fun σ H Q => t σ H fun vs H1 => sp (vs ++ dvs) H1 Q E
noncomputable def Binds (K : PySem.W.Frag) (fd : FuncData) (ps : List Str) (ds : List Value) : Prop :=
  ∀ (s : Shared) (us : List Value), K.In s.heap → (us ++ ds).length = ps.length → BindsTo s fd ⟨us, []⟩ (ps.zip (us ++ ds))
theorem Binds.all {K : PySem.W.Frag} {fd : FuncData} {ps : List Str} (h : ∀ us : List Value, us.length = ps.length → bindArgs fd ⟨us, []⟩ = pure (ps.zip us)) : Binds K fd ps [] := fun s us _ hl => by
  rw [List.append_nil] at hl ⊢
  exact .of_eq (h us hl)
noncomputable def Passes (CX : CXT) (X : Cx) (E : XK) : Prop := ∀ (pins : List (Addr × Obj)) (σ : St) (H : Hp) (s : Shared) (e : Value) (s' : Shared), Inv X pins σ H s → CX X.stack H s E e s' → X.xe e s'
section
variable {X : Cx} {CX : CXT} {k : Nat} {f C : Addr} {fd : FuncData} {ps : List Str} {sp : Sp} {dvs : List V} {ds : List Value} {E : XK} {x m : Str} {p pos apos : Pos} {e o : Expr} {es : List Expr} {ta : TE} {t : TA}
theorem run_fn {pins : List (Addr × Obj)} {σ : St} {H : Hp} {s : Shared} {Q : VK} {us : List Value} {vs : List V} (F : FnOk X.prog X.w X.K X.mg X.base CX k f fd ps sp) (hr : Room k X.A) (hb : Binds X.K fd ps ds) (hd : Vals dvs ds) (hx : Passes CX X E)
    (I : Inv X pins σ H s) (r : Vals vs us) (h : sp (vs ++ dvs) H Q E) : wpAny (model X.prog X.w) X.A (call (.ref f) us) (EP X pins σ Q) X.xe s := by
  have r2 : Vals (vs ++ dvs) (us ++ ds) := r.append hd
  have hl : (us ++ ds).length = ps.length := by rw [← r2.length]; exact F.len _ _ _ _ h
  refine wpAny_call (codeAny_mono (F.run X.A X.stack s H ⟨us, []⟩ (us ++ ds) (vs ++ dvs) Q E hr I.env0 (hb s us I.kIn hl) r2 h) fun r s' hq => ?_)
  cases r with
  | error e => exact hx pins σ H s e s' I hq
  | ok fl =>
    cases fl with
    | ret u => exact I.after hq
    | next => exact False.elim hq
    | brk => exact False.elim hq
    | cont => exact False.elim hq
theorem pe_call (F : FnOk X.prog X.w X.K X.mg X.base CX k f fd ps sp) (hr : Room k X.A) (hg : Gl X x) (hm : X.mg x = some (.ref f)) (hk : PySem.W.keepIn X.K (.ref f) = true) (hb : Binds X.K fd ps ds) (hd : Vals dvs ds) (hx : Passes CX X E)
    (ha : PA X (e :: es) t) (hdb : (x == ("__debug__" : Str)) = false := by decide) (he : starEach (e :: es) X.env = (false, eval e X.env) :: starEach es X.env := by rfl) (hpl : (backTo pos (starEach es X.env)).any (·.1) = false := by rfl) :
    PE X (.Call (.Name x p) (e :: es) [] pos) (tCall sp dvs E t) := by
  intro pins s σ H Q I h
  refine wpAny_Call_Name_kw (ld_glob I hg hm ?_ hdb)
  refine PySem.W.callWith_K (h₀ := X.base) I.ok.mod.kin hk (thn (ha pos pins s σ H _ I h) fun us s1 ⟨vs, H1, I1, r, q⟩ => ⟨I1.kIn, ?_⟩) he hpl
  exact run_fn F hr hb hd hx I1 r q
end
section
variable {X : Cx} {CX : CXT} {k : Nat} {f C : Addr} {fd : FuncData} {ps ks : List Str} {sp : Sp} {E : XK} {x m : Str} {p pos apos kpos : Pos} {e o : Expr} {es : List Expr} {kws : List Keyword} {te ta : TE} {t tk : TA} {nm : Option Str}
variable {g : List Value → List Value → List Value} {gV : List V → List V → List V}
end
structure FnScope (N P : List Str) (sc : Scope) : Prop where
  kind : sc.kind = .function
  co : sc.isCoroutine = false
  gen : sc.isGenerator = false
  nd : N.Nodup
  pre : N.take P.length = P
  par : ∀ x ∈ P, sc.names.lookup x = some .local ∨ sc.names.lookup x = some .cell
  nofree : ∀ y ∈ sc.names, y.2 ≠ .free
theorem bindL_out {kindOf : Str → Option NameKind} {x : Str} : ∀ {binds : List (Str × Value)} {m : Str → Option Value}, (∀ v, (x, v) ∉ binds) → bindL kindOf binds m x = m x
  | [], _, _ => rfl
  | (n, v) :: r, m, h => by
    unfold bindL
    rw [bindL_out fun w hw => h w (List.mem_cons_of_mem _ hw)]
    split
    · have : x ≠ n := by rintro rfl; exact h v List.mem_cons_self
      simp [this]
    · rfl
theorem bindC_out {kindOf : Str → Option NameKind} {x : Str} : ∀ {binds : List (Str × Value)} {m : Str → Option Value}, (∀ v, (x, v) ∉ binds) → bindC kindOf binds m x = m x
  | [], _, _ => rfl
  | (n, v) :: r, m, h => by
    unfold bindC
    rw [bindC_out fun w hw => h w (List.mem_cons_of_mem _ hw)]
    split
    · rfl
    · have : x ≠ n := by rintro rfl; exact h v List.mem_cons_self
      simp [this]
theorem bindL_get {kindOf : Str → Option NameKind} {x : Str} {v : Value} : ∀ {P : List Str} {vs : List Value} {i : Nat} {m : Str → Option Value}, P.Nodup → P[i]? = some x → vs[i]? = some v → kindOf x = some .local →
    bindL kindOf (P.zip vs) m x = some v := by
  intro P
  induction P with
  | nil => intro vs i m _ h; cases h
  | cons p P ih =>
    intro vs i m nd h1 h2 hk
    cases vs with
    | nil => cases h2
    | cons w vs =>
      show bindL kindOf ((p, w) :: P.zip vs) m x = _
      unfold bindL
      cases i with
      | zero =>
        cases h1; cases h2
        rw [bindL_out fun v hv => (List.nodup_cons.mp nd).1 (List.of_mem_zip hv).1, if_pos hk]
        simp
      | succ i => exact ih (List.nodup_cons.mp nd).2 h1 h2 hk
theorem bindC_get {kindOf : Str → Option NameKind} {x : Str} {v : Value} : ∀ {P : List Str} {vs : List Value} {i : Nat} {m : Str → Option Value}, P.Nodup → P[i]? = some x → vs[i]? = some v → kindOf x ≠ some .local →
    bindC kindOf (P.zip vs) m x = some v := by
  intro P
  induction P with
  | nil => intro vs i m _ h; cases h
  | cons p P ih =>
    intro vs i m nd h1 h2 hk
    cases vs with
    | nil => cases h2
    | cons w vs =>
      show bindC kindOf ((p, w) :: P.zip vs) m x = _
      unfold bindC
      cases i with
      | zero =>
        cases h1; cases h2
        rw [bindC_out fun v hv => (List.nodup_cons.mp nd).1 (List.of_mem_zip hv).1, if_neg hk]
        simp
      | succ i => exact ih (List.nodup_cons.mp nd).2 h1 h2 hk
noncomputable def start (N : List Str) (vs : List V) : St := vs.map some ++ List.replicate (N.length - vs.length) none
noncomputable def cxOf (CX : CXT) (P : Program) (w : World) (K : PySem.W.Frag) (mg : Str → Option Value) (base : Heap) (N : List Str) (qual : Str) (scope : Scope) (f : Addr) (cd : Value) (A : Around) (outer : List Env) (s : Shared) (H : Hp) (E : XK) : Cx where
  prog := P
  w := w
  K := K
  mg := mg
  base := base
  A := A.deeper (envOfC qual scope s.heap.objs.size f cd)
  N := N
  s₀ := s
  H₀ := H
  env := envOfC qual scope s.heap.objs.size f cd
  outer := outer
  stack := envOfC qual scope s.heap.objs.size f cd :: outer
  ex := []
  calm := true
  fn := fun _ => true
  pn := []
  xe := fun e s' => wpAny (model P w) (A.deeper (envOfC qual scope s.heap.objs.size f cd)) (leaving (envOfC qual scope s.heap.objs.size f cd) e) (fun _ s'' => CX outer H s E e s'') (fun e' s'' => CX outer H s E e' s'') s'
theorem cell_has {sc : Scope} {n : Nat} {x : Str} (h : sc.names.lookup x = some .cell) : ∃ c, (cellsFrom n sc.names []).lookup x = some c := by
  have q := PySem.W.cellsFrom_some sc.names n [] (.inl h)
  exact Option.isSome_iff_exists.mp q
theorem inv_start {CX : CXT} {P : Program} {w : World} {K : PySem.W.Frag} {mg : Str → Option Value} {base : Heap} {N ps : List Str} {qual : Str} {scope : Scope} {f : Addr} {cd : Value} {A : Around} {outer : List Env} {s s1 : Shared} {H : Hp} {E : XK} {us : List Value} {vs : List V}
    (S : FnScope N ps scope) (hd : A.handled = none) (e0 : Env0 P w K mg base A outer s H) (hl : vs.length = ps.length) (r : Vals vs us)
    (x : InCallC s s.heap.objs.size (bindL (envOfC qual scope s.heap.objs.size f cd).kindOf (ps.zip us) fun _ => none) (cellsFrom (s.heap.objs.size + 1) scope.names []) (bindC (envOfC qual scope s.heap.objs.size f cd).kindOf (ps.zip us) fun _ => none) s1) :
    Inv (cxOf CX P w K mg base N qual scope f cd A outer s H E) [] (start N vs) H s1 := by
  have hpl : ps.length ≤ N.length := by have := congrArg List.length S.pre; rw [List.length_take] at this; omega
  obtain ⟨h1, tk, rfl, hk⟩ := x.done
  have noA : ∀ b : Addr, b ∉ (cxOf CX P w K mg base N qual scope f cd A outer s H E).ex := fun b z => absurd (show b ∈ ([] : List Addr) from z) (by simp)
  refine ⟨⟨e0.mod, S.kind, rfl, rfl, Nat.le_refl _, fun y z c h1 h2 => ?_, fun y hy => ?_, fun y c _ h => ?_, fun _ => hd, Around.frames_deeper e0.frames, .inr ⟨rfl, rfl⟩, fun b z => absurd z (noA b), e0.bs, e0.bsz, fun b _ _ => noA b, fun b z => absurd z (noA b), e0.funs, e0.frf⟩,
    rfl, e0.bare, Un.kept hk, ⟨_, x.toInCall.ns, fun i y v h1 h2 h3 => ?_⟩, fun y c h => ⟨_, x.cell y c h⟩, e0.hok.fresh (Nat.le_refl _), fun y c h => ?_, fun p hp => absurd (show p ∈ ([] : List (Addr × Obj)) from hp) (by simp), e0.hok.kept hk, ?_⟩
  · exact name_of_addr x.apart (PySem.mem_of_lookup h1) (PySem.mem_of_lookup h2)
  · have hy : scope.names.lookup y = some .cell ∨ scope.names.lookup y = some .free := hy
    rcases hy with hy | hy
    · exact cell_has hy
    · exact absurd rfl (S.nofree _ (PySem.mem_of_lookup hy))
  · exact Nat.le_of_lt (x.above y c (PySem.mem_of_lookup h))
  · have hi : i < vs.length := by
      unfold start at h2
      by_cases hi : i < vs.length
      · exact hi
      · rw [List.getElem?_append_right (by simpa using hi)] at h2
        rw [List.getElem?_replicate] at h2
        split at h2 <;> cases h2
    have ha : vs[i]? = some v := by
      unfold start at h2
      rw [List.getElem?_append_left (by simpa using hi), List.getElem?_map] at h2
      cases e : vs[i]? with
      | none => rw [e] at h2; cases h2
      | some a => rw [e] at h2; cases h2; rfl
    obtain ⟨u, hu, rv⟩ := r.get ha
    have hp : ps[i]? = some y := by
      rw [← S.pre, List.getElem?_take_of_lt (by omega)]; exact h1
    have ndP : ps.Nodup := by rw [← S.pre]; exact S.nd.sublist (List.take_sublist _ _)
    refine ⟨u, rv, ?_⟩
    rcases S.par y (List.mem_of_getElem? hp) with k | k
    · exact .inl ⟨k, bindL_get ndP hp hu k⟩
    · obtain ⟨c, e⟩ := cell_has (n := s.heap.objs.size + 1) k
      refine .inr ⟨.inl k, c, e, ?_⟩
      have q := x.cell y c e
      rw [bindC_get ndP hp hu (by show scope.names.lookup y ≠ _; rw [k]; decide)] at q
      exact q
  · exact e0.hok.fresh (Nat.le_of_lt (x.above y c (PySem.mem_of_lookup h)))
  · unfold start
    show _ = N.length
    rw [List.length_append, List.length_map, List.length_replicate]
    omega
theorem fn_of {CX : CXT} {P : Program} {w : World} {K : PySem.W.Frag} {mg : Str → Option Value} {base : Heap} {k : Nat} {f : Addr} {name qual : Str} {params : Arguments} {body : List Stmt} {scope : Scope} {dV kV doc pm cdv ct oc : Value} {an od : Option Addr}
    {osl : Array (Option Value)} {N ps : List Str} {sp : Sp} (lk : K.lookup f = some ⟨oc, od, .func (PySem.W.fnOf name qual params body scope dV kV doc pm an cdv ct), osl⟩) (hcd : PySem.W.codeIn K cdv qual = true) (S : FnScope N ps scope)
    (len : ∀ vs H Q E, sp vs H Q E → vs.length = ps.length)
    (hbody : ∀ (A : Around) (outer : List Env) (s : Shared) (H : Hp) (vs : List V) (Q : VK) (E : XK), Room k (A.deeper (envOfC qual scope s.heap.objs.size f cdv)) → sp vs H Q E →
      ∃ t, PSs (cxOf CX P w K mg base N qual scope f cdv A outer s H E) body t ∧ t { nx := fun _ H' => Q .non H', rt := Q } (start N vs) H) :
    FnOk P w K mg base CX (k + 1) f (PySem.W.fnOf name qual params body scope dV kV doc pm an cdv ct) ps sp := by
  refine ⟨len, fun A outer s H args us vs Q E hr e0 hb r hsp => ?_⟩
  have hl := len _ _ _ _ hsp
  have KX : K.In s.heap := e0.mod.kin.keeps fun b o e => (e0.bs b o e).1
  have lim : s.heap.NoLimit := e0.mod.nolimit.keeps fun b o e => (e0.bs b o e).1
  have hkind : ∀ y ∈ ps.zip us, scope.names.lookup y.1 = some .local ∨ (scope.names.lookup y.1 = some .cell ∧ ((cellsFrom (s.heap.objs.size + 1) scope.names []).lookup y.1).isSome = true) := fun ⟨n, v⟩ hy => by
    rcases S.par n (List.of_mem_zip hy).1 with q | q
    · exact .inl q
    · exact .inr ⟨q, PySem.W.cellsFrom_some _ _ _ (.inl q)⟩
  refine codeAny_call_function hr.depth (KX _ _ lk) rfl S.co S.gen rfl (PySem.W.codeRec_of KX hcd) (hb _ _ _ _ ?_)
  refine wpAny_newFunctionEnv_cells S.kind hkind fun env he s1 x => ?_
  subst he
  refine ⟨lim.keeps x.toInCall.keep, codeAny_func ?_⟩
  obtain ⟨t, ht, hq⟩ := hbody A outer s H vs Q E (hr.deeper _) hsp
  have I : Inv (cxOf CX P w K mg base N qual scope f cdv A outer s H E) [] (start N vs) H s1 := inv_start S hr.hd e0 hl r x
  refine wpAny_mono (ht [] s1 (start N vs) H _ I hq) (fun fl s' hs => ?_) fun e s' hs => hs
  have fin : ∀ {σ' : St} {H' : Hp} {v : V} {u : Value}, Inv (cxOf CX P w K mg base N qual scope f cdv A outer s H E) [] σ' H' s' → RelV v u → Q v H' → CE outer P w H s Q u s' :=
    fun {σ' H' v u} J rv q => ⟨v, H', J.os, J.bare, J.base, J.hok, rv, q⟩
  cases fl with
  | ret u =>
    obtain ⟨v, σ', H', J, rv, q⟩ := hs
    exact fin J rv q
  | next =>
    obtain ⟨σ', H', J, q⟩ := hs
    exact fin (v := V.non) (u := Value.none) J rfl q
  | brk =>
    obtain ⟨_, _, _, q⟩ := hs
    exact False.elim q
  | cont =>
    obtain ⟨_, _, _, q⟩ := hs
    exact False.elim q
end L2
namespace L2
open PySem PySem.Spec PyProof.Rows
section
variable {X : Cx} {x : Str} {p pos : Pos} {e : Expr} {es : List Expr} {t : TA} {id T : String} {r : List V → Hp → VK → Prop}
noncomputable def tCB (r : List V → Hp → VK → Prop) (t : TA) : TE := fun σ H Q => t σ H fun vs H1 => r vs H1 Q
theorem pe_callB (hc : CallR X (.builtin id) r) (hg : Gl X x) (hm : X.mg x = none) (hv : bootBuiltins x = some (.builtin id)) (ha : PA X (e :: es) t) (hn : x ≠ "__name__" := by decide) (hdb : (x == ("__debug__" : Str)) = false := by decide)
    (he : starEach (e :: es) X.env = (false, eval e X.env) :: starEach es X.env := by rfl) (hpl : (backTo pos (starEach es X.env)).any (·.1) = false := by rfl) : PE X (.Call (.Name x p) (e :: es) [] pos) (tCB r t) := by
  intro pins s σ H Q I h
  refine wpAny_Call_Name_kw (ld_blt I hg hm hv ?_ hn hdb)
  exact PyProof.Rows.callWith_builtin1 (thn (ha pos pins s σ H _ I h) fun us s1 ⟨vs, H1, I1, r1, q1⟩ => hc pins s1 σ H1 vs us Q I1 r1 q1) he hpl
theorem pe_callTy (hc : CallR X (.type T) r) (hg : Gl X x) (hm : X.mg x = none) (hv : bootBuiltins x = some (.type T)) (ha : PA X (e :: es) t) (hn : x ≠ "__name__" := by decide) (hdb : (x == ("__debug__" : Str)) = false := by decide)
    (he : starEach (e :: es) X.env = (false, eval e X.env) :: starEach es X.env := by rfl) (hpl : (backTo pos (starEach es X.env)).any (·.1) = false := by rfl) : PE X (.Call (.Name x p) (e :: es) [] pos) (tCB r t) := by
  intro pins s σ H Q I h
  refine wpAny_Call_Name_kw (ld_blt I hg hm hv ?_ hn hdb)
  exact PyProof.Rows.callWith_type1 (thn (ha pos pins s σ H _ I h) fun us s1 ⟨vs, H1, I1, r1, q1⟩ => hc pins s1 σ H1 vs us Q I1 r1 q1) he hpl
end
end L2
namespace HT
open PySem PyProof.Rows
section
open PySem.SeqAt
open PySem.AutoSeq1 (wpAny_loadPart')
open PySem.MeetsSeq PySem.MeetsSeq2 PySem.MeetsSeq3
end
section
variable {prog : Program} {w : World} {A : Around} {E : Value → Shared → Prop} {s : Shared}
noncomputable def sIx (n d : Nat) : Option Int → Nat
  | none => d
  | some v => if v < 0 then (v + (n : Int)).toNat else min v.toNat n
theorem sIx_none (n d : Nat) : sIx n d none = d := rfl
theorem sIx_nat (n d k : Nat) : sIx n d (some (k : Int)) = min k n := by
  show (if (k : Int) < 0 then ((k : Int) + (n : Int)).toNat else min (k : Int).toNat n) = min k n
  rw [if_neg (by omega), Int.toNat_natCast]
theorem sIx_le (n d : Nat) (hd : d ≤ n) (o : Option Int) : sIx n d o ≤ n := by
  cases o with
  | none => exact hd
  | some v =>
    show (if v < 0 then (v + (n : Int)).toNat else min v.toNat n) ≤ n
    by_cases hv : v < 0
    · rw [if_pos hv]; omega
    · rw [if_neg hv]; exact Nat.min_le_right _ _
theorem clip_eq (v : Int) (n d : Nat) : (if v < 0 then max (v + (n : Int)) 0 else min v (n : Int)) = ((sIx n d (some v) : Nat) : Int) := by
  show _ = (((if v < 0 then (v + (n : Int)).toNat else min v.toNat n) : Nat) : Int)
  by_cases hv : v < 0
  · rw [if_pos hv, if_pos hv, Int.ofNat_toNat]
  · rw [if_neg hv, if_neg hv]
    obtain ⟨k, rfl⟩ := Int.eq_ofNat_of_zero_le (Int.not_lt.mp hv)
    show min (k : Int) (n : Int) = ((min k n : Nat) : Int)
    rcases Nat.le_total k n with h | h
    · rw [Nat.min_eq_left h, Int.min_eq_left (Int.ofNat_le.mpr h)]
    · rw [Nat.min_eq_right h, Int.min_eq_right (Int.ofNat_le.mpr h)]
theorem adjust_gen (lo hi : Option Int) (n : Nat) : Builtin.Slice.sliceAdjust lo hi 1 (n : Int) = (((sIx n 0 lo : Nat) : Int), ((sIx n n hi : Nat) : Int)) := by
  have h1 : ¬ ((1 : Int) < 0) := by omega
  unfold Builtin.Slice.sliceAdjust
  simp only [h1, if_false]
  refine Prod.ext ?_ ?_
  · cases lo with
    | none => rfl
    | some v => exact clip_eq v n 0
  · cases hi with
    | none => rfl
    | some v => exact clip_eq v n n
theorem places_gen (i j : Nat) : Builtin.Slice.slicePlaces (i : Int) (j : Int) 1 = j - i := by
  show (if (1 : Int) > 0 then (if (i : Int) < (j : Int) then ((j : Int) - i - 1) / 1 + 1 else 0) else _).toNat = j - i
  rw [if_pos (by decide), Int.ediv_one, Int.sub_add_cancel]
  by_cases h : (i : Int) < (j : Int)
  · rw [if_pos h, Int.toNat_sub]
  · rw [if_neg h]
    exact (Nat.sub_eq_zero_of_le (Int.ofNat_le.mp (Int.not_lt.mp h))).symm
theorem slicePart_ {v : Value} {o : Option Int} {Q : Option Int → Shared → Prop} (p : IsPart v o) (h : Q o s) : wpAny (model prog w) A (Builtin.Slice.slicePartIndex v) Q E s := by
  cases p with
  | none => exact slicePart_none h
  | int i t => exact slicePart_int h
theorem sliceApplied_gen {sl : Addr} {vl vu : Value} {lo hi : Option Int} {n : Nat} {Q : Int × Int × Nat → Shared → Prop} (hs : s.heap.IsSliceOf sl vl vu .none) (pl : IsPart vl lo) (pu : IsPart vu hi)
    (h : Q (((sIx n 0 lo : Nat) : Int), 1, sIx n n hi - sIx n 0 lo) s) : wpAny (model prog w) A (Builtin.Slice.sliceApplied (.ref sl) (pure (n : Int))) Q E s := by
  obtain ⟨os, hos, hcs, hds⟩ := id hs
  unfold Builtin.Slice.sliceApplied Builtin.Slice.sliceFields
  refine wpAny_bind (wpAny_bind (wpAny_field hos hds (x := vl) rfl (wpAny_bind (wpAny_field hos hds (x := vu) rfl (wpAny_bind (wpAny_field hos hds (x := .none) rfl (wpAny_pure ?_)))))))
  refine wpAny_bind (slicePart_none ?_)
  show wpAny _ _ (if ((1 : Int) == 0) = true then _ else _) _ _ s
  rw [if_neg (by decide)]
  refine wpAny_bind (slicePart_ pl (wpAny_bind (slicePart_ pu (wpAny_bind (wpAny_pure ?_)))))
  show wpAny _ _ (match Builtin.Slice.sliceAdjust lo hi 1 (n : Int) with | (lo, hi) => pure (lo, (1 : Int), Builtin.Slice.slicePlaces lo hi 1)) _ _ s
  rw [adjust_gen lo hi n]
  show wpAny _ _ (pure (((sIx n 0 lo : Nat) : Int), (1 : Int), Builtin.Slice.slicePlaces ((sIx n 0 lo : Nat) : Int) ((sIx n n hi : Nat) : Int) 1)) _ _ s
  rw [places_gen]
  exact wpAny_pure h
theorem pick_gen (xs : Array Value) (i k : Nat) : ((List.range k).filterMap fun (m : Nat) => xs[((i : Int) + (m : Int) * 1).toNat]?).toArray = ((xs.toList.drop i).take k).toArray := by
  have e : (fun (m : Nat) => xs[((i : Int) + (m : Int) * 1).toNat]?) = fun m => xs[i + m]? := by
    funext m
    have : ((i : Int) + (m : Int) * 1).toNat = i + m := by omega
    rw [this]
  rw [e]
  have := pick_run xs i k
  rw [List.filterMap_map] at this
  have e2 : ((fun x => xs[x]?) ∘ fun x => i + x) = fun m => xs[i + m]? := rfl
  rw [e2] at this
  rw [this]
theorem getItem_tuple_cut {t sl : Addr} {items : Array Value} {vl vu : Value} {lo hi : Option Int} {Q : Value → Shared → Prop} (ht : IsTup s.heap t items) (hs : s.heap.IsSliceOf sl vl vu .none) (pl : IsPart vl lo) (pu : IsPart vu hi)
    (hw : ¬ (sIx items.size 0 lo = 0 ∧ sIx items.size items.size hi = items.size))
    (h : Q (.ref s.heap.objs.size) { s with heap := s.heap.push { cls := .type "tuple", data := .seq ((items.toList.drop (sIx items.size 0 lo)).take (sIx items.size items.size hi - sIx items.size 0 lo)).toArray } })
    (hsz : items.size ≤ sizeLine) : wpAny (model prog w) A (getItem (.ref t) (.ref sl)) Q E s := by
  have htake : sizeOk (.seq ((items.toList.drop (sIx items.size 0 lo)).take (sIx items.size items.size hi - sIx items.size 0 lo)).toArray) := by
    show ((items.toList.drop (sIx items.size 0 lo)).take (sIx items.size items.size hi - sIx items.size 0 lo)).toArray.size ≤ sizeLine
    rw [List.size_toArray, List.length_take, List.length_drop, Array.length_toList]
    exact Nat.le_trans (Nat.min_le_right _ _) (Nat.le_trans (Nat.sub_le _ _) hsz)
  have hj : sIx items.size items.size hi ≤ items.size := sIx_le _ _ (Nat.le_refl _) hi
  obtain ⟨os, hos, hcs, hds⟩ := id hs
  have hTs : s.TypeIs (.ref sl) "slice" := ⟨os, hos, hcs⟩
  unfold getItem
  try with_reducible refine wpAny_holding ?_
  first | refine wpAny_bind (wpAny_pure ?_) | skip
  refine wpAny_bind (wpAny_sequenceKey ht.typeIs (by decide) ?_)
  refine wpAny_bind (wpAny_callSpecial?_slot (name := Str.ofString "__getitem__") ht.typeIs PyProof.Rows.slot_tuple_getitem
    (wpAny_call_entry PyProof.Rows.slot_tuple_getitem ht.typeIs entry_tuple_getitem ?_ (args_tuple_getitem _ _)))
  show wpAny _ _ (Builtin.Tuple.tupleItemsOf (.ref t) >>= _) _ _ s
  refine wpAny_bind (tupleItemsOf_ ht ?_)
  refine wpAny_bind (wpAny_typeOf hTs ?_)
  rw [if_pos (by decide)]
  refine wpAny_bind (sliceApplied_gen hs pl pu ?_)
  have hno : ¬ ((((sIx items.size 0 lo : Nat) : Int) == 0 && (1 : Int) == 1 && (sIx items.size items.size hi - sIx items.size 0 lo) == items.size) = true) := by
    intro q
    rw [Bool.and_eq_true, Bool.and_eq_true] at q
    have q1 : ((sIx items.size 0 lo : Nat) : Int) = 0 := eq_of_beq q.1.1
    have q2 : sIx items.size items.size hi - sIx items.size 0 lo = items.size := eq_of_beq q.2
    have q3 : sIx items.size 0 lo = 0 := Int.ofNat_eq_zero.mp q1
    exact hw ⟨q3, by rw [q3, Nat.sub_zero] at q2; exact q2⟩
  show wpAny _ _ (if (((sIx items.size 0 lo : Nat) : Int) == 0 && (1 : Int) == 1 && (sIx items.size items.size hi - sIx items.size 0 lo) == items.size) = true then _ else _) _ _ s
  rw [if_neg hno, pick_gen]
  first
    | exact wpAny_bind (m := Builtin.Tuple.tupleExact _) (wpAny_newObj_type (wpAny_pure ⟨_, rfl, wpAny_pure h⟩) htake)
    | exact wpAny_bind (m := Builtin.Tuple.tupleExact _) (wpAny_newObj_type (wpAny_bind (wpAny_pure (wpAny_pure ⟨_, rfl, wpAny_pure h⟩))) htake)
    | exact wpAny_bind (wpAny_bind (m := Builtin.Tuple.tupleExact _) (wpAny_newObj_type (wpAny_pure (wpAny_pure ⟨_, rfl, wpAny_pure h⟩)) htake))
    | exact wpAny_bind (wpAny_bind (m := Builtin.Tuple.tupleExact _) (wpAny_newObj_type (wpAny_pure ⟨_, rfl, wpAny_pure h⟩) htake))
end
end HT
namespace L2
open PySem PySem.Spec PyProof.Rows
noncomputable abbrev TO := St → Hp → (Option Int → Hp → Prop) → Prop
noncomputable def PO (X : Cx) (e : Option Expr) (t : TO) : Prop :=
  ∀ (pins : List (Addr × Obj)) (s : Shared) (σ : St) (H : Hp) (Q : Option Int → Hp → Prop), Inv X pins σ H s → t σ H Q →
    wpAny (model X.prog X.w) X.A (evalPart e X.env) (fun u s' => ∃ o H', Inv X pins σ H' s' ∧ IsPart u o ∧ Q o H') X.xe s
noncomputable def tNoPart : TO := fun _ H Q => Q none H
noncomputable def tPart (t : TE) : TO := fun σ H Q => t σ H fun x H1 => ∃ i, x = .int i ∧ Q (some i) H1
theorem intsAre_of {ns : List Int} : ∀ {us : List Value}, Vals (ns.map V.int) us → IntsAre us ns := by
  induction ns with
  | nil => intro us r; rw [List.map_nil] at r; cases r; exact .nil
  | cons n ns ih =>
    intro us r
    rw [List.map_cons] at r
    cases r with
    | cons r1 r2 =>
      obtain ⟨t, e⟩ := r1
      subst e
      exact .cons n t (ih r2)
section
variable {X : Cx} {e : Expr} {te : TE} {lo hi : Option Expr} {tl th : TO} {pos p2 : Pos}
theorem po_none : PO X none tNoPart := by
  intro pins s σ H Q I h
  rw [evalPart_none]
  exact wpAny_pure ⟨none, H, I, .none, h⟩
theorem po_some (h : PE X e te) : PO X (some e) (tPart te) := by
  intro pins s σ H Q I hw
  rw [evalPart_some]
  refine thn (h pins s σ H _ I hw) fun u s1 hq__ => ?_
  obtain ⟨x, H1, I1, r1, q1⟩ := hq__
  obtain ⟨i, rfl, q⟩ := q1
  obtain ⟨t, rfl⟩ := r1
  exact ⟨some i, H1, I1, .int i t, q⟩
noncomputable def SlR (X : Cx) (r : V → Option Int → Option Int → Hp → VK → Prop) : Prop :=
  ∀ (pins : List (Addr × Obj)) (s : Shared) (σ : St) (H : Hp) (x : V) (v vl vu : Value) (lo hi : Option Int) (sl : Addr) (Q : VK), Inv X pins σ H s → RelV x v → s.heap.IsSliceOf sl vl vu .none → IsPart vl lo → IsPart vu hi → r x lo hi H Q →
    ∃ T id, typeLookup (.type T) "__getitem__" = pure (some (.builtin id)) ∧ s.TypeIs v T ∧ wpAny (model X.prog X.w) X.A (getItem v (.ref sl)) (EP X pins σ Q) X.xe s
theorem SlR.or {r r' : V → Option Int → Option Int → Hp → VK → Prop} (h : SlR X r) (h' : SlR X r') : SlR X (fun x lo hi H Q => r x lo hi H Q ∨ r' x lo hi H Q) := by
  intro pins s σ H x v vl vu lo hi sl Q I rx hs pl pu q
  rcases q with q | q
  · exact h pins s σ H x v vl vu lo hi sl Q I rx hs pl pu q
  · exact h' pins s σ H x v vl vu lo hi sl Q I rx hs pl pu q
noncomputable def tSl (r : V → Option Int → Option Int → Hp → VK → Prop) (te : TE) (tl th : TO) : TE := fun σ H Q => te σ H fun x H1 => tl σ H1 fun l H2 => th σ H2 fun u H3 => r x l u H3 Q
theorem pe_slice {r : V → Option Int → Option Int → Hp → VK → Prop} (hr : SlR X r) (he : PE X e te) (hl : PO X lo tl) (hu : PO X hi th) : PE X (.Subscript e (.Slice lo hi none p2) pos) (tSl r te tl th) := by
  intro pins s σ H Q I h
  refine Subscript_ (thn (he pins s σ H _ I h) fun v s1 h1 => ?_)
  obtain ⟨x, H1, I1, r1, q1⟩ := h1
  refine wpAny_Slice (thn (hl pins s1 σ H1 _ I1 q1) fun vl s2 h2 => ?_)
  obtain ⟨l, H2, I2, pl, q2⟩ := h2
  refine thn (hu pins s2 σ H2 _ I2 q2) fun vu s3 h3 => ?_
  obtain ⟨u, H3, I3, pu, q3⟩ := h3
  rw [evalPart_none]
  refine wpAny_pure ?_
  have I4 : Inv X pins σ H3 { s3 with heap := s3.heap.push { cls := .type "slice", data := .fields #[vl, vu, .none] } } := I3.kept (t' := s3.toks) fun b ob q => Heap.get?_push_of_some _ q
  obtain ⟨T, id, hT, ht, hg⟩ := hr pins { s3 with heap := s3.heap.push { cls := .type "slice", data := .fields #[vl, vu, .none] } } σ H3 x v vl vu l u s3.heap.objs.size Q I4 r1 (Heap.IsSliceOf.new ..) pl pu q3
  show wpAny (model X.prog X.w) X.A (subscriptTail e (.Slice lo hi none p2) v (.ref s3.heap.objs.size)) (EP X pins σ Q) X.xe { s3 with heap := s3.heap.push { cls := .type "slice", data := .fields #[vl, vu, .none] } }
  exact tail_any (ops := [.ref s3.heap.objs.size, v]) ht hT hg (by with_unfolding_all rfl)
noncomputable def cutV (xs : List V) (lo hi : Option Int) : List V := (xs.drop (HT.sIx xs.length 0 lo)).take (HT.sIx xs.length xs.length hi - HT.sIx xs.length 0 lo)
theorem cutV_length (xs : List V) (lo hi : Option Int) : (cutV xs lo hi).length ≤ xs.length := by
  unfold cutV
  rw [List.length_take, List.length_drop]
  exact Nat.le_trans (Nat.min_le_right _ _) (Nat.sub_le _ _)
noncomputable def rSlT (K : PySem.W.Frag) : V → Option Int → Option Int → Hp → VK → Prop := fun x lo hi H Q => ∃ a xs, x = .ref a ∧ SqT K H a xs ∧
  ¬ (HT.sIx xs.length 0 lo = 0 ∧ HT.sIx xs.length xs.length hi = xs.length) ∧ ∀ p, H p = none → Q (.ref p) (upd H p (.tup (cutV xs lo hi)))
theorem sl_tup : SlR X (rSlT X.K) := by
  intro pins s σ H x v vl vu lo hi sl Q I rx hs pl pu h
  obtain ⟨a, xs, rfl, hx, hw, q⟩ := h
  cases rx
  obtain ⟨its, r, ht, hz⟩ := I.tuple hx
  have hlen : its.toArray.size = xs.length := by rw [List.size_toArray]; exact r.length.symm
  refine ⟨"tuple", _, PyProof.Rows.slot_tuple_getitem.lookup, ht.typeIs, ?_⟩
  refine HT.getItem_tuple_cut ht hs pl pu (by rw [hlen]; exact hw) ?_ (by rw [hlen]; exact hz)
  rw [hlen]
  refine ⟨.ref s.heap.objs.size, _, I.laid (t' := s.toks) (o := .tup (cutV xs lo hi)) (fun b ob q => Heap.get?_push_of_some _ q) (Nat.le_refl _) ?_, rfl, q _ (I.hok.fresh (Nat.le_refl _))⟩
  exact ⟨Nat.le_trans (cutV_length xs lo hi) hz, _, (r.drop (HT.sIx xs.length 0 lo)).take (HT.sIx xs.length xs.length hi - HT.sIx xs.length 0 lo), IsTup.new _ _⟩
end
end L2
namespace L2
open PySem PySem.Spec PyProof.Rows
noncomputable def ixN (n : Nat) (i : Int) : Option Nat := if 0 ≤ i then (if i < n then some i.toNat else none) else if -(n : Int) ≤ i then some (i + n).toNat else none
noncomputable def atI {α : Type} (xs : List α) (i : Int) : Option α := (ixN xs.length i).bind fun j => xs[j]?
theorem ixN_seq {n : Nat} {i : Int} {j : Nat} (h : ixN n i = some j) : seqIndex? i n = some j ∧ j < n ∧ -(n : Int) ≤ i ∧ i < n := by
  unfold ixN at h
  by_cases h0 : 0 ≤ i
  · rw [if_pos h0] at h
    by_cases h1 : i < n
    · rw [if_pos h1] at h
      have e : i.toNat = j := Option.some.inj h
      exact ⟨by rw [seqIndex_of h0 h1, e], by omega, by omega, h1⟩
    · rw [if_neg h1] at h; cases h
  · rw [if_neg h0] at h
    by_cases h1 : -(n : Int) ≤ i
    · rw [if_pos h1] at h
      have e : (i + n).toNat = j := Option.some.inj h
      exact ⟨by rw [seqIndex_neg (by omega) h1, e], by omega, h1, by omega⟩
    · rw [if_neg h1] at h; cases h
theorem atI_get {α : Type} {xs : List α} {i : Int} {v : α} (h : atI xs i = some v) : ∃ j, seqIndex? i xs.length = some j ∧ xs[j]? = some v ∧ j < xs.length ∧ -(xs.length : Int) ≤ i ∧ i < xs.length := by
  unfold atI at h
  cases e : ixN xs.length i with
  | none => rw [e] at h; cases h
  | some j =>
    rw [e] at h
    obtain ⟨h1, h2, h3, h4⟩ := ixN_seq e
    exact ⟨j, h1, h, h2, h3, h4⟩
theorem atI_nat {α : Type} {xs : List α} {j : Nat} {v : α} (h : xs[j]? = some v) : atI xs (j : Int) = some v := by
  have hj : j < xs.length := (List.getElem?_eq_some_iff.mp h).1
  have e : ixN xs.length (j : Int) = some j := by
    unfold ixN
    rw [if_pos (by omega), if_pos (by omega)]; simp
  unfold atI; rw [e]; exact h
noncomputable def PlainIx (b : Expr) : Prop := ∀ o i, subscripted b false o i = operate [o, i] (getItem o i)
noncomputable def IxR (X : Cx) (r : R2) : Prop :=
  ∀ (value slice : Expr) (pins : List (Addr × Obj)) (s : Shared) (σ : St) (H : Hp) (x y : V) (v u : Value) (Q : VK), Inv X pins σ H s → RelV x v → RelV y u → r x y H Q →
    subscripted slice false v u = operate [v, u] (getItem v u) → wpAny (model X.prog X.w) X.A (subscriptTail value slice v u) (EP X pins σ Q) X.xe s
noncomputable def MtR (X : Cx) (id : String) (r : V → List V → Hp → VK → Prop) : Prop :=
  ∀ (pins : List (Addr × Obj)) (s : Shared) (σ : St) (H : Hp) (x : V) (xs : List V) (v : Value) (us : List Value) (Q : VK), Inv X pins σ H s → RelV x v → Vals xs us → r x xs H Q →
    wpAny (model X.prog X.w) X.A (call (.builtin id) (v :: us)) (EP X pins σ Q) X.xe s
section
variable {X : Cx} {a b : Expr} {ta tb : TE} {pos : Pos}
theorem IxR.or {r r' : R2} (h : IxR X r) (h' : IxR X r') : IxR X (fun x y H Q => r x y H Q ∨ r' x y H Q) := by
  intro value slice pins s σ H x y v u Q I rx ry q hs
  rcases q with q | q
  · exact h value slice pins s σ H x y v u Q I rx ry q hs
  · exact h' value slice pins s σ H x y v u Q I rx ry q hs
theorem pe_ix {r : R2} (hr : IxR X r) (ha : PE X a ta) (hb : PE X b tb) (hs : PlainIx b) : PE X (.Subscript a b pos) (tOp r ta tb) := by
  intro pins s σ H Q I h
  exact Subscript_ (binT ha hb I h fun v u s2 x y H2 I2 rx ry q => hr a b pins s2 σ H2 x y v u Q I2 rx ry q (hs _ _))
noncomputable def rIxL (K : PySem.W.Frag) : R2 := fun x y H Q => ∃ p xs i v, x = .ref p ∧ y = .int i ∧ SqL K H p xs ∧ atI xs i = some v ∧ Q v H
noncomputable def rIxT (K : PySem.W.Frag) : R2 := fun x y H Q => ∃ p xs i v, x = .ref p ∧ y = .int i ∧ SqT K H p xs ∧ atI xs i = some v ∧ Q v H
theorem ix_list : IxR X (rIxL X.K) := by
  intro value slice pins s σ H x y v u Q I rx ry h hs
  obtain ⟨p, xs, i, z, rfl, rfl, hq, he, q⟩ := h
  cases rx
  obtain ⟨t, rfl⟩ := ry
  obtain ⟨its, r, pl, hz⟩ := I.list hq
  obtain ⟨j, h1, h2, h3, h4, h5⟩ := atI_get he
  obtain ⟨w, ew, rw'⟩ := r.get h2
  have hl := r.length
  have hn := line63
  have fin : EP X pins σ Q w s := ⟨z, H, I, rw', q⟩
  by_cases h0 : 0 ≤ i
  · have hj : i.toNat = j := by
      rw [seqIndex_of h0 h5] at h1
      exact Option.some.inj h1
    exact item_listR pl.isList h0 (by omega) (by rw [hj]; simpa using ew) fin hs
  · have hj : (i + (its.toArray.size : Int)).toNat = j := by
      rw [seqIndex_neg (by omega) h4] at h1
      rw [List.size_toArray, ← hl]
      exact Option.some.inj h1
    exact subscriptTail_builtinR (x := w) pl.isList.typeIs slot_list_getitem.lookup
      (wpAny_getItem_list_neg (Q := fun r s' => r = w ∧ EP X pins σ Q r s') pl.isList (by omega) (by rw [List.size_toArray] <;> omega) (by omega) (by rw [hj]; simpa using ew) ⟨rfl, fin⟩) hs
theorem ix_tup : IxR X (rIxT X.K) := by
  intro value slice pins s σ H x y v u Q I rx ry h hs
  obtain ⟨p, xs, i, z, rfl, rfl, hq, he, q⟩ := h
  cases rx
  obtain ⟨t, rfl⟩ := ry
  obtain ⟨its, r, pl, hz⟩ := I.tuple hq
  obtain ⟨j, h1, h2, h3, h4, h5⟩ := atI_get he
  obtain ⟨w, ew, rw'⟩ := r.get h2
  have hl := r.length
  have hn := line63
  have fin : EP X pins σ Q w s := ⟨z, H, I, rw', q⟩
  exact subscriptTail_builtinR (x := w) pl.typeIs slot_tuple_getitem.lookup
    (getItem_tuple (j := j) (Q := fun r s' => r = w ∧ EP X pins σ Q r s') pl (by omega) (by omega) (by rw [List.size_toArray, ← hl]; exact h1) (by simpa using ew) ⟨rfl, fin⟩) hs
theorem mapSeq_set (its : List Value) (n j : Nat) (u : Value) : Obj.mapSeq (·.setIfInBounds j u) { cls := .type "list", data := .seq its.toArray n } = { cls := .type "list", data := .seq (its.set j u).toArray n } := by
  simp [Obj.mapSeq]
theorem Inv.lst {pins : List (Addr × Obj)} {σ : St} {H : Hp} {s : Shared} {p : Addr} {xs : List V} (I : Inv X pins σ H s) (h : H p = some (.lst xs)) :
    ∃ (its : List Value) (n : Nat), Vals xs its ∧ s.heap.get? p = some { cls := .type "list", data := .seq its.toArray n } ∧ xs.length ≤ sizeLine := by
  obtain ⟨z, its, n, r, e⟩ := I.hok p _ h
  exact ⟨its, n, r, e, z⟩
theorem Inv.lstUpd {pins : List (Addr × Obj)} {σ : St} {H : Hp} {s : Shared} {p : Addr} {xs ys : List V} {its its' : List Value} {n n' : Nat} {f : Obj → Obj} (I : Inv X pins σ H s) (h : H p = some (.lst xs))
    (ho : s.heap.get? p = some { cls := .type "list", data := .seq its.toArray n }) (hf : f { cls := .type "list", data := .seq its.toArray n } = { cls := .type "list", data := .seq its'.toArray n' }) (r : Vals ys its') (hz : ys.length ≤ sizeLine) (t : Nat) :
    Inv X pins σ (upd H p (.lst ys)) { s with heap := s.heap.update p f, toks := t } := by
  have e : (s.heap.update p f).get? p = some { cls := .type "list", data := .seq its'.toArray n' } := by
    rw [Heap.get?_update_self f ho (by rw [hf] <;> rfl), hf]
  refine I.write (x := p) (e := p) (by rw [h]; trivial) (.inl rfl) (fun b u hb q => (Heap.get?_update_other _ _ (Ne.symm hb)).trans q) ⟨_, e⟩ ?_
  exact ⟨hz, its', n', r, e⟩
noncomputable def rSetL : V → V → V → Hp → (Hp → Prop) → Prop := fun o i v H Q => ∃ p xs k j, o = .ref p ∧ i = .int k ∧ H p = some (.lst xs) ∧ ixN xs.length k = some j ∧ Q (upd H p (.lst (xs.set j v)))
theorem set_list : PSet X rSetL := by
  intro pins s σ H o i v ov iv u Q I ro ri rv h
  obtain ⟨p, xs, k, j, rfl, rfl, hp, hj, q⟩ := h
  cases ro
  obtain ⟨t, rfl⟩ := ri
  obtain ⟨its, n, r, ho, hz⟩ := I.lst hp
  obtain ⟨h1, h2, h3, h4⟩ := ixN_seq hj
  have hl := r.length
  have hn := line63
  have I' : Inv X pins σ (upd H p (.lst (xs.set j v))) { s with heap := s.heap.update p (Obj.mapSeq (·.setIfInBounds j u)) } :=
    I.lstUpd hp ho (mapSeq_set its n j u) (r.set rv j) (by rw [List.length_set]; exact hz) s.toks
  by_cases h0 : 0 ≤ k
  · have hk : k.toNat = j := by
      rw [seqIndex_of h0 h4] at h1
      exact Option.some.inj h1
    exact PySem.W.ki_setAt ho h0 (by omega) (by rw [List.size_toArray, ← hl]; exact h4) (by rw [hk]; exact ⟨_, I', q⟩)
  · have hk : (k + (its.toArray.size : Int)).toNat = j := by
      rw [seqIndex_neg (by omega) h3] at h1
      rw [List.size_toArray, ← hl]
      exact Option.some.inj h1
    exact PySem.W.ki_setBack ho (by omega) (by rw [List.size_toArray, ← hl]; exact h3) (by omega) (by rw [hk]; exact ⟨_, I', q⟩)
theorem slice_bounds (lo hi : Option Int) (n : Nat) : (sliceBounds lo hi none n).1 = ((HT.sIx n 0 lo : Nat) : Int) ∧ (sliceBounds lo hi none n).2.1 = ((HT.sIx n n hi : Nat) : Int) ∧ (sliceBounds lo hi none n).2.2 = 1 := by
  have one : ∀ (i : Int) (d : Nat), max 0 (min (if i < 0 then i + (n : Int) else i) (n : Int)) = ((HT.sIx n d (some i) : Nat) : Int) := fun i d => by
    rw [← HT.clip_eq]
    by_cases h : i < 0
    · rw [if_pos h, if_pos h, Int.min_eq_left (by omega), Int.max_comm]
    · rw [if_neg h, if_neg h, Int.max_eq_right (Int.le_min.mpr ⟨Int.not_lt.mp h, Int.natCast_nonneg n⟩)]
  refine ⟨?_, ?_, rfl⟩
  · cases lo with
    | none => rfl
    | some i => exact one i 0
  · cases hi with
    | none => rfl
    | some i => exact one i n
theorem slicePick_cut (its : List Value) (lo hi : Option Int) : slicePick its.toArray lo hi none = ((its.drop (HT.sIx its.length 0 lo)).take (HT.sIx its.length its.length hi - HT.sIx its.length 0 lo)).toArray := by
  obtain ⟨h1, h2, h3⟩ := slice_bounds lo hi its.toArray.size
  unfold slicePick
  rw [h1, h2, h3]
  simp only [sliceRange_one, pick_run, List.size_toArray] <;> rfl
noncomputable def rSlL (K : PySem.W.Frag) : V → Option Int → Option Int → Hp → VK → Prop := fun x lo hi H Q => ∃ a xs, x = .ref a ∧ SqL K H a xs ∧ ∀ p, H p = none → Q (.ref p) (upd H p (.lst (cutV xs lo hi)))
theorem sl_list : SlR X (rSlL X.K) := by
  intro pins s σ H x v vl vu lo hi sl Q I rx hs pl pu h
  obtain ⟨a, xs, rfl, hx, q⟩ := h
  cases rx
  obtain ⟨its, r, ht, hz⟩ := I.list hx
  have hlen := r.length
  refine ⟨"list", _, slot_list_getitem.lookup, ht.isList.typeIs, ?_⟩
  refine wpAny_getItem_list_slice ht.isList hs pl pu .none (by simp) ?_ (by rw [List.size_toArray] <;> omega)
  rw [slicePick_cut, ← hlen]
  refine ⟨.ref s.heap.objs.size, _, I.laid (t' := s.toks) (o := .lst (cutV xs lo hi)) (fun b ob q => Heap.get?_push_of_some _ q) (Nat.le_refl _) ?_, rfl, q _ (I.hok.fresh (Nat.le_refl _))⟩
  exact ⟨Nat.le_trans (cutV_length xs lo hi) hz, _, 0, (r.drop (HT.sIx xs.length 0 lo)).take (HT.sIx xs.length xs.length hi - HT.sIx xs.length 0 lo), Heap.get?_push_size _ rfl⟩
noncomputable def flatV : V → Bool
  | .non => true
  | .bl _ => true
  | .int _ => true
  | .str _ => true
  | _ => false
noncomputable def eqV : V → V → Bool
  | .non, .non => true
  | .bl a, .bl b => a == b
  | .bl a, .int b => (if a then 1 else 0) == b
  | .int a, .bl b => a == (if b then 1 else 0)
  | .int a, .int b => a == b
  | .str a, .str b => a == b
  | _, _ => false
theorem eqAt_V {A : Around} {s : Shared} {y x : V} {u v : Value} (ry : RelV y u) (rx : RelV x v) (fy : flatV y = true) (fx : flatV x = true) : SeqAt.EqAt A s u v (eqV y x) := by
  cases y with
  | non =>
    cases ry
    cases x with
    | non => cases rx; exact SeqAt.EqAt.same _
    | bl b => cases rx; exact SeqAt.EqAt.none_bool b
    | int b => obtain ⟨t, rfl⟩ := rx; exact SeqAt.EqAt.none_int b t
    | str b => obtain ⟨t, rfl⟩ := rx; exact SeqAt.EqAt.none_str b t
    | _ => exact absurd (show false = true from fx) Bool.false_ne_true
  | bl a =>
    cases ry
    cases x with
    | non => cases rx; exact SeqAt.EqAt.bool_none a
    | bl b => cases rx; exact SeqAt.EqAt.bool_bool a b
    | int b => obtain ⟨t, rfl⟩ := rx; exact SeqAt.EqAt.bool_int a b t
    | str b => obtain ⟨t, rfl⟩ := rx; exact SeqAt.EqAt.bool_str a b t
    | _ => exact absurd (show false = true from fx) Bool.false_ne_true
  | int a =>
    obtain ⟨t', rfl⟩ := ry
    cases x with
    | non => cases rx; exact SeqAt.EqAt.int_none a t'
    | bl b => cases rx; exact SeqAt.EqAt.int_bool a t' b
    | int b => obtain ⟨t, rfl⟩ := rx; exact SeqAt.EqAt.int_int a t' b t
    | str b => obtain ⟨t, rfl⟩ := rx; exact SeqAt.EqAt.int_str a t' b t
    | _ => exact absurd (show false = true from fx) Bool.false_ne_true
  | str a =>
    obtain ⟨t', rfl⟩ := ry
    cases x with
    | non => cases rx; exact SeqAt.EqAt.str_none a t'
    | bl b => cases rx; exact SeqAt.EqAt.str_bool a t' b
    | int b => obtain ⟨t, rfl⟩ := rx; exact SeqAt.EqAt.str_int a t' b t
    | str b => obtain ⟨t, rfl⟩ := rx; exact SeqAt.EqAt.str_str a t' b t
    | _ => exact absurd (show false = true from fx) Bool.false_ne_true
  | _ => exact absurd (show false = true from fy) Bool.false_ne_true
noncomputable def eqU (x : V) (u : Value) : Bool := match u with
  | .none => eqV .non x
  | .bool b => eqV (.bl b) x
  | .int i _ => eqV (.int i) x
  | .str z _ => eqV (.str z) x
  | _ => false
theorem eqU_of {x y : V} {u : Value} (r : RelV y u) (f : flatV y = true) : eqU x u = eqV y x := by
  cases y with
  | non => cases r; rfl
  | bl b => cases r; rfl
  | int i => obtain ⟨t, rfl⟩ := r; rfl
  | str z => obtain ⟨t, rfl⟩ := r; rfl
  | _ => exact absurd (show false = true from f) Bool.false_ne_true
theorem any_eqU {x : V} : ∀ {xs : List V} {us : List Value}, Vals xs us → xs.all flatV = true → us.any (eqU x) = xs.any fun y => eqV y x := by
  intro xs us h
  induction h with
  | nil => intro _; rfl
  | cons r t ih =>
    intro f
    rw [List.all_cons, Bool.and_eq_true] at f
    rw [List.any_cons, List.any_cons, eqU_of r f.1, ih f.2]
theorem mem_eqAt {A : Around} {s : Shared} {x : V} {v : Value} (rx : RelV x v) (fx : flatV x = true) : ∀ {xs : List V} {us : List Value}, Vals xs us → xs.all flatV = true → ∀ u ∈ us, SeqAt.EqAt A s u v (eqU x u) := by
  intro xs us h
  induction h with
  | nil => intro _ u hu; cases hu
  | cons r t ih =>
    intro f u' hu
    rw [List.all_cons, Bool.and_eq_true] at f
    rcases List.mem_cons.mp hu with rfl | hu
    · rw [eqU_of r f.1]; exact eqAt_V r rx f.1 fx
    · exact ih f.2 u' hu
noncomputable def inV (x : V) (xs : List V) : Bool := xs.any fun y => eqV y x
noncomputable def rIn (K : PySem.W.Frag) (neg : Bool) : R2 := fun x y H Q => ∃ p xs, y = .ref p ∧ (SqL K H p xs ∨ SqT K H p xs) ∧ flatV x = true ∧ xs.all flatV = true ∧ Q (.bl (if neg then !inV x xs else inV x xs)) H
theorem op_in_seq : OpR X (compareOp .In) (rIn X.K false) := by
  intro pins s σ H x y v u Q I rx ry h
  obtain ⟨p, xs, rfl, hq, fx, fs, q⟩ := h
  cases ry
  rcases hq with hq | hq
  · obtain ⟨its, r, pl, hz⟩ := I.list hq
    refine SeqAt.in_listAt (eqU x) pl.isList (fun w hw => mem_eqAt rx fx r fs w (by simpa using hw)) ⟨.bl _, H, I, rfl, ?_⟩
    rw [show its.toArray.any (eqU x) = its.any (eqU x) by simp, any_eqU r fs]
    exact q
  · obtain ⟨its, r, pl, hz⟩ := I.tuple hq
    refine SeqAt.in_tupleAt (eqU x) pl (fun w hw => mem_eqAt rx fx r fs w (by simpa using hw)) ⟨.bl _, H, I, rfl, ?_⟩
    rw [show its.toArray.any (eqU x) = its.any (eqU x) by simp, any_eqU r fs]
    exact q
theorem op_notIn_seq : OpR X (compareOp .NotIn) (rIn X.K true) := by
  intro pins s σ H x y v u Q I rx ry h
  obtain ⟨p, xs, rfl, hq, fx, fs, q⟩ := h
  cases ry
  rcases hq with hq | hq
  · obtain ⟨its, r, pl, hz⟩ := I.list hq
    refine SeqAt.notIn_listAt (eqU x) pl.isList (fun w hw => mem_eqAt rx fx r fs w (by simpa using hw)) ⟨.bl _, H, I, rfl, ?_⟩
    rw [show its.toArray.any (eqU x) = its.any (eqU x) by simp, any_eqU r fs]
    exact q
  · obtain ⟨its, r, pl, hz⟩ := I.tuple hq
    refine SeqAt.notIn_tupleAt (eqU x) pl (fun w hw => mem_eqAt rx fx r fs w (by simpa using hw)) ⟨.bl _, H, I, rfl, ?_⟩
    rw [show its.toArray.any (eqU x) = its.any (eqU x) by simp, any_eqU r fs]
    exact q
theorem call_list_of : CallR X (.type "list") (fun xs H Q => ∃ p ys, xs = [.ref p] ∧ (SqL X.K H p ys ∨ SqT X.K H p ys) ∧ ∀ l, H l = none → Q (.ref l) (upd H l (.lst ys))) := by
  intro pins s σ H xs us Q I r h
  obtain ⟨p, ys, rfl, hq, q⟩ := h
  obtain ⟨u, rfl, rx⟩ := vals1 r
  cases rx
  have fin : ∀ (its : List Value), Vals ys its → ys.length ≤ sizeLine → ∀ (h' : Heap) (c' : Nat), (∀ b o', s.heap.get? b = some o' → h'.get? b = some o') →
      h'.get? s.heap.objs.size = some { cls := .type "list", dict := none, data := .seq its.toArray c', slots := #[] } → EP X pins σ Q (.ref s.heap.objs.size) { s with heap := h' } := fun its r' hz h' c' kp e =>
    ⟨.ref s.heap.objs.size, _, I.laid (t' := s.toks) kp (Nat.le_refl _) (show ObjOk X.prog X.w _ h' _ (.lst ys) from ⟨hz, its, c', r', e⟩), rfl, q _ (I.hok.fresh (Nat.le_refl _))⟩
  rcases hq with hq | hq
  · obtain ⟨its, r', pl, hz⟩ := I.list hq
    have hlen := r'.length
    obtain ⟨o, ho, hc, n, hd⟩ := pl.isList
    exact call_list_seq p (.inl rfl) ho hc hd (fun h' c' kp e => fin its r' hz h' c' kp e) (by simp only [List.size_toArray] <;> omega)
  · obtain ⟨its, r', pl, hz⟩ := I.tuple hq
    have hlen := r'.length
    obtain ⟨o, ho, hc, n, hd⟩ := pl
    exact call_list_seq p (.inr rfl) ho hc hd (fun h' c' kp e => fin its r' hz h' c' kp e) (by simp only [List.size_toArray] <;> omega)
theorem call_tuple_of : CallR X (.type "tuple") (fun xs H Q => ∃ p ys, xs = [.ref p] ∧ ((SqL X.K H p ys ∧ ∀ l, H l = none → Q (.ref l) (upd H l (.tup ys))) ∨ (SqT X.K H p ys ∧ Q (.ref p) H))) := by
  intro pins s σ H xs us Q I r h
  obtain ⟨p, ys, rfl, h⟩ := h
  obtain ⟨u, rfl, rx⟩ := vals1 r
  cases rx
  rcases h with ⟨hq, q⟩ | ⟨hq, q⟩
  · obtain ⟨its, r', pl, hz⟩ := I.list hq
    have hlen := r'.length
    refine call_tuple_list pl.isList (fun h' kp => ?_) (by simp only [List.size_toArray] <;> omega)
    have I1 : Inv X pins σ H { s with heap := h' } := I.kept (t' := s.toks) kp
    have I2 : Inv X pins σ (upd H h'.objs.size (.tup ys)) { s with heap := h'.push { cls := .type "tuple", data := .seq its.toArray } } :=
      I1.laid (t' := s.toks) (fun b o e => Heap.get?_push_of_some _ e) (Nat.le_refl _) (show ObjOk X.prog X.w _ _ _ (.tup ys) from ⟨hz, its, r', IsTup.new _ _⟩)
    exact ⟨.ref h'.objs.size, _, I2, rfl, q _ (I1.hok.fresh (Nat.le_refl _))⟩
  · obtain ⟨its, r', pl, hz⟩ := I.tuple hq
    exact call_tuple_same pl ⟨.ref p, H, I, rfl, q⟩
noncomputable def tyV (K : PySem.W.Frag) (T : String) (x : V) (H : Hp) : Prop := match x with
  | .str _ => T = "str"
  | .int _ => T = "int"
  | .ref p => (T = "list" ∧ ∃ xs, SqL K H p xs) ∨ (T = "tuple" ∧ ∃ o, K.lookup p = some o ∧ o.cls = .type "tuple" ∧ o.dict = none) ∨
      (T = "dict" ∧ ((∃ kvs, H p = some (.dK kvs)) ∨ ∃ kvs, H p = some (.dT kvs))) ∨ (T = "set" ∧ ∃ S n, H p = some (.set S n))
  | _ => False
theorem tyV_is {pins : List (Addr × Obj)} {σ : St} {H : Hp} {s : Shared} {T : String} {x : V} {v : Value} (I : Inv X pins σ H s) (r : RelV x v) (ty : tyV X.K T x H) :
    s.TypeIs v T ∧ ∀ a, v = .ref a → ∃ ob, s.heap.get? a = some ob ∧ ob.dict = none := by
  cases x with
  | str z =>
    obtain ⟨t, rfl⟩ := r
    cases (show T = "str" from ty)
    exact ⟨typeIs_str s z t, fun _ e => nomatch e⟩
  | int i =>
    obtain ⟨t, rfl⟩ := r
    cases (show T = "int" from ty)
    exact ⟨typeIs_int s i t, fun _ e => nomatch e⟩
  | ref p =>
    cases r
    rcases ty with ⟨rfl, xs, hq⟩ | ⟨rfl, o, hk, hc, hd⟩ | ⟨rfl, hk⟩ | ⟨rfl, S, n, hk⟩
    · obtain ⟨its, _, pl, _⟩ := I.list hq
      refine ⟨pl.isList.typeIs, fun a e => ?_⟩
      cases e
      obtain ⟨o, n, e, c, hd, _⟩ := pl
      exact ⟨o, e, hd⟩
    · refine ⟨⟨o, I.kIn p o hk, hc⟩, fun a e => ?_⟩
      cases e
      exact ⟨o, I.kIn _ o hk, hd⟩
    · have z : ∃ o, s.heap.get? p = some o ∧ o.ExactDict := by
        rcases hk with ⟨kvs, hk⟩ | ⟨kvs, hk⟩
        · obtain ⟨_, _, _, _, o, _, _, e, ex, _⟩ := I.hok p _ hk
          exact ⟨o, e, ex⟩
        · obtain ⟨_, _, _, _, o, _, _, e, ex, _⟩ := I.hok p _ hk
          exact ⟨o, e, ex⟩
      obtain ⟨o, e, ex⟩ := z
      refine ⟨⟨o, e, ex.1⟩, fun a e2 => ?_⟩
      cases e2
      exact ⟨o, e, ex.2.1⟩
    · obtain ⟨o, _, _, _, e, ex, _⟩ := I.hok p _ hk
      refine ⟨⟨o, e, ex.1⟩, fun a e2 => ?_⟩
      cases e2
      exact ⟨o, e, ex.2.1⟩
  | _ => exact False.elim ty
noncomputable def tBM0 (K : PySem.W.Frag) (T : String) (r : V → List V → Hp → VK → Prop) (to : TE) : TE := fun σ H Q => to σ H fun x H1 => tyV K T x H1 ∧ r x [] H1 Q
noncomputable def tBM (K : PySem.W.Frag) (T : String) (r : V → List V → Hp → VK → Prop) (to : TE) (t : TA) : TE := fun σ H Q => to σ H fun x H1 => tyV K T x H1 ∧ t σ H1 fun xs H2 => r x xs H2 Q
variable {o e : Expr} {es : List Expr} {to : TE} {t : TA} {name : Str} {apos cpos : Pos} {T id : String} {r : V → List V → Hp → VK → Prop}
theorem pe_bm0 (pa : PlainAttrs T) (slot : Slot T name id) (hty : typeOf (.builtin id) = pure (.type "method_descriptor")) (hm : MtR X id r) (ho : PE X o to)
    (hbase : attributeBase o name X.env (eval o X.env) = eval o X.env := by rfl) (hline : (apos.endLine == cpos.line) = true := by rfl) : PE X (.Call (.Attribute o name apos) [] [] cpos) (tBM0 X.K T r to) := by
  intro pins s σ H Q I h
  refine wpAny_Call_method0_late hbase hline (thn (ho pins s σ H _ I h) fun v s1 hq__ => ?_)
  obtain ⟨x, H1, I1, r1, ty, q1⟩ := hq__
  obtain ⟨h1, h2⟩ := tyV_is I1 r1 ty
  exact ⟨T, id, pa, slot, hty, h1, h2, Calls.callWith_builtin rfl (PySem.evalArgs_none (hm pins s1 σ H1 x [] v [] Q I1 r1 .nil q1))⟩
theorem pe_bm (pa : PlainAttrs T) (slot : Slot T name id) (hty : typeOf (.builtin id) = pure (.type "method_descriptor")) (hm : MtR X id r) (ho : PE X o to) (ha : PA X (e :: es) t)
    (hbase : attributeBase o name X.env (eval o X.env) = eval o X.env := by rfl)
    (hfew : ((backTo cpos (starEach (e :: es) X.env)).all (fun x => !x.1) && (backToKw cpos (keywordEach [] X.env)).all (fun x => x.1.isSome)
      && decide ((e :: es).length + ([] : List Keyword).length + (if ([] : List Keyword).isEmpty then 0 else 1) < 30)) = true := by rfl)
    (hline : (apos.endLine == cpos.line) = true := by rfl) (hs : starEach (e :: es) X.env = (false, eval e X.env) :: starEach es X.env := by rfl) (hplain : (backTo cpos (starEach es X.env)).any (·.1) = false := by rfl) :
    PE X (.Call (.Attribute o name apos) (e :: es) [] cpos) (tBM X.K T r to t) := by
  intro pins s σ H Q I h
  refine wpAny_Call_method_late hbase hfew hline rfl (thn (ho pins s σ H _ I h) fun v s1 hq__ => ?_)
  obtain ⟨x, H1, I1, r1, ty, q1⟩ := hq__
  obtain ⟨h1, h2⟩ := tyV_is I1 r1 ty
  refine ⟨T, id, pa, slot, hty, h1, h2, ?_⟩
  have hA := ha cpos pins s1 σ H1 _ I1 q1
  rw [hs] at hA ⊢
  refine Calls.callWith_builtin (by show (false || (backTo cpos (starEach es X.env)).any (·.1)) = false; rw [hplain] <;> rfl) (Calls.evalArgs_plain ?_)
  exact thn hA fun us s2 ⟨vs, H2, I2, r2, q2⟩ => hm pins s2 σ H2 x vs v us Q I2 r1 r2 q2
/- xs.append(e), list.index on a module's tuple .. are MtR facts of 06m -/
end
end L2
namespace L2
open PySem PySem.Spec PyProof.Rows
noncomputable def MtM (X : Cx) (id : String) (r : V → List V → Hp → VK → Prop) : Prop :=
  ∀ (pins : List (Addr × Obj)) (s : Shared) (σ : St) (H : Hp) (x : V) (xs : List V) (v : Value) (us : List Value) (Q : VK), Inv X pins σ H s → RelV x v → Vals xs us → r x xs H Q →
    wpAny (model X.prog X.w) X.A (call (.builtin id) (v :: us)) (EP X pins σ Q) X.xe s
theorem Vals.one : ∀ {x : V} {us : List Value}, Vals [x] us → ∃ u, us = [u] ∧ RelV x u := by
  intro x us h
  cases h with
  | cons r t => cases t; exact ⟨_, rfl, r⟩
theorem Vals.two {x y : V} {us : List Value} (h : Vals [x, y] us) : ∃ u v, us = [u, v] ∧ RelV x u ∧ RelV y v := vals2 h
theorem Vals.zero : ∀ {us : List Value}, Vals [] us → us = []
  | _, .nil => rfl
theorem Vals.eraseIdx : ∀ {xs : List V} {us : List Value} (i : Nat), Vals xs us → Vals (xs.eraseIdx i) (us.eraseIdx i)
  | _, _, _, .nil => .nil
  | _, _, 0, .cons _ t => t
  | _, _, i + 1, .cons r t => .cons r (Vals.eraseIdx i t)
theorem Vals.rep {xs : List V} {us : List Value} (h : Vals xs us) : ∀ k : Nat, Vals (List.replicate k xs).flatten (List.replicate k us).flatten
  | 0 => .nil
  | k + 1 => by
    rw [List.replicate_succ, List.replicate_succ, List.flatten_cons, List.flatten_cons]
    exact Vals.append h (Vals.rep h k)
theorem foldl_rep (its : List Value) (k : Nat) (acc : List Value) : List.foldl (fun x1 x2 => x1 ++ x2) acc.toArray (List.replicate k its.toArray) = (acc ++ (List.replicate k its).flatten).toArray := by
  induction k generalizing acc with
  | zero => simp
  | succ k ih =>
    have e : acc.toArray ++ its.toArray = (acc ++ its).toArray := by simp
    have e2 : (acc ++ its) ++ (List.replicate k its).flatten = acc ++ (List.replicate (k + 1) its).flatten := by
      rw [List.replicate_succ, List.flatten_cons, List.append_assoc]
    rw [← e2, ← ih (acc ++ its), ← e, List.replicate_succ, List.foldl_cons]
section
variable {X : Cx} {pins : List (Addr × Obj)} {σ : St} {H : Hp} {s : Shared} {l b : Addr} {xs ys zs : List V}
theorem Inv.lset {its its' : List Value} {n : Nat} {f : Array Value → Array Value} {t' : Nat} (I : Inv X pins σ H s) (hH : H l = some (.lst xs))
    (e : s.heap.get? l = some { cls := .type "list", data := .seq its.toArray n }) (hf : f its.toArray = its'.toArray) (hv : Vals ys its') (hz : ys.length ≤ sizeLine) :
    Inv X pins σ (upd H l (.lst ys)) { s with heap := s.heap.update l (Obj.mapSeq f), toks := t' } := by
  have q := PySem.IsL.update e f
  rw [hf] at q
  refine I.write (x := l) (e := l) (by rw [hH]; exact trivial) (.inl rfl) (fun b' u hb hu => (Heap.get?_update_other s.heap (Obj.mapSeq f) (Ne.symm hb)).trans hu) ⟨_, q⟩ ?_
  exact ⟨hz, its', _, hv, q⟩
theorem Inv.lnew {its : List Value} {t' : Nat} (I : Inv X pins σ H s) (hv : Vals ys its) (hz : ys.length ≤ sizeLine) :
    Inv X pins σ (upd H s.heap.objs.size (.lst ys)) { s with heap := s.heap.push { cls := .type "list", data := .seq its.toArray }, toks := t' } :=
  I.laid (fun _ _ q => Heap.get?_push_of_some _ q) (Nat.le_refl _) ⟨hz, its, 0, hv, Heap.get?_push_size _ rfl⟩
theorem Inv.fresh (I : Inv X pins σ H s) : H s.heap.objs.size = none := I.hok.fresh (Nat.le_refl _)
theorem Inv.lstM (I : Inv X pins σ H s) (hH : H l = some (.lst xs)) : xs.length ≤ sizeLine ∧ ∃ (its : List Value) (n : Nat), Vals xs its ∧ xs.length = its.length ∧ s.heap.get? l = some { cls := .type "list", data := .seq its.toArray n } := by
  obtain ⟨z, its, n, r, e⟩ := I.hok l _ hH
  exact ⟨z, its, n, r, r.length, e⟩
theorem notLongL {n : Nat} (h : n ≤ sizeLine) : Builtin.List.listTooLong n = false := by
  unfold Builtin.List.listTooLong
  exact decide_eq_false (by omega)
end
section
variable {X : Cx}
noncomputable def rAppend : V → List V → Hp → VK → Prop := fun x vs H Q => ∃ l xs y, x = .ref l ∧ vs = [y] ∧ H l = some (.lst xs) ∧ xs.length < sizeLine ∧ Q .non (upd H l (.lst (xs ++ [y])))
theorem mt_append : MtM X "list.append" rAppend := by
  intro pins s σ H x vs v us Q I rx rv h
  obtain ⟨l, xs, y, rfl, rfl, hH, hz, q⟩ := h
  cases rx
  obtain ⟨u, rfl, ru⟩ := rv.one
  obtain ⟨z, its, n, r, hl, e⟩ := I.lstM hH
  refine call_meets F.slot_list_append ⟨_, e, rfl⟩ F.entry_list_append (F.args_list_append_2 _ _) (PySem.list_append l its.toArray n u (by rw [List.size_toArray]; omega)) ⟨e, ?_⟩
  refine ⟨.non, _, I.lset (its' := its ++ [u]) hH e (by simp) (r.append (.cons ru .nil)) ?_, rfl, q⟩
  rw [List.length_append, List.length_singleton]
  omega
noncomputable def rExtend : V → List V → Hp → VK → Prop := fun x vs H Q => ∃ l b xs zs, x = .ref l ∧ vs = [.ref b] ∧ H l = some (.lst xs) ∧ H b = some (.lst zs) ∧ xs.length + zs.length ≤ sizeLine ∧ Q .non (upd H l (.lst (xs ++ zs)))
theorem mt_extend : MtM X "list.extend" rExtend := by
  intro pins s σ H x vs v us Q I rx rv h
  obtain ⟨l, b, xs, zs, rfl, rfl, hH, hB, hz, q⟩ := h
  cases rx
  obtain ⟨u, rfl, ru⟩ := rv.one
  cases ru
  obtain ⟨z, its, n, r, hl, e⟩ := I.lstM hH
  obtain ⟨z2, its2, n2, r2, hl2, e2⟩ := I.lstM hB
  have hsz : its.toArray.size + its2.toArray.size ≤ sizeLine := by rw [List.size_toArray, List.size_toArray]; omega
  have hlong : ¬ (!its.toArray.isEmpty && Builtin.List.listTooLong (its.toArray.size + its2.toArray.size)) = true := by
    rw [notLongL hsz, Bool.and_false]
    exact Bool.false_ne_true
  refine call_meets F.slot_list_extend ⟨_, e, rfl⟩ F.entry_list_extend (F.args_list_extend_2 _ _)
    (AutoSeq1.list_extend_list_list_0 l its.toArray n b its2.toArray n2 hlong (by rw [List.size_toArray]; omega) (by omega)) ⟨e, e2, ?_⟩
  refine ⟨.non, _, I.lset (its' := its ++ its2) hH e (by simp) (r.append r2) ?_, rfl, q⟩
  rw [List.length_append]
  omega
noncomputable def rCat : R2 := fun x y H Q => ∃ l b xs zs, x = .ref l ∧ y = .ref b ∧ H l = some (.lst xs) ∧ H b = some (.lst zs) ∧ xs.length + zs.length ≤ sizeLine ∧ ∀ p, H p = none → Q (.ref p) (upd H p (.lst (xs ++ zs)))
theorem op_cat : OpR X (binaryOp .Add) rCat := by
  intro pins s σ H x y v u Q I rx ry h
  obtain ⟨l, b, xs, zs, rfl, rfl, hH, hB, hz, q⟩ := h
  cases rx
  cases ry
  obtain ⟨z, its, n, r, hl, e⟩ := I.lstM hH
  obtain ⟨z2, its2, n2, r2, hl2, e2⟩ := I.lstM hB
  refine PySem.P.add_list e e2 ?_ (by rw [List.size_toArray, List.size_toArray]; omega)
  have ea : its.toArray ++ its2.toArray = (its ++ its2).toArray := by simp
  rw [ea]
  exact ⟨.ref _, _, I.lnew (t' := s.toks) (r.append r2) (by rw [List.length_append]; omega), rfl, q _ I.fresh⟩
noncomputable def rRep : R2 := fun x y H Q => ∃ l k xs, x = .ref l ∧ y = .int k ∧ H l = some (.lst xs) ∧ -(2 ^ 63) ≤ k ∧ k < 2 ^ 63 ∧ xs.length * k.toNat ≤ sizeLine ∧
  ∀ p, H p = none → Q (.ref p) (upd H p (.lst (List.replicate k.toNat xs).flatten))
theorem len_rep {α : Type} (xs : List α) (k : Nat) : (List.replicate k xs).flatten.length = k * xs.length := by
  induction k with
  | zero => simp
  | succ k ih => rw [List.replicate_succ, List.flatten_cons, List.length_append, ih, Nat.succ_mul, Nat.add_comm]
theorem op_rep : OpR X (binaryOp .Mult) rRep := by
  intro pins s σ H x y v u Q I rx ry h
  obtain ⟨l, k, xs, rfl, rfl, hH, h1, h2, hz, q⟩ := h
  cases rx
  obtain ⟨t, rfl⟩ := ry
  obtain ⟨z, its, n, r, hl, e⟩ := I.lstM hH
  have hlen : its.toArray.size * k.toNat ≤ sizeLine := by rw [List.size_toArray, ← hl]; exact hz
  have hcap : ¬ its.toArray.size * k.toNat > (2 ^ 63 - 1) / 8 := by
    have : (sizeLine : Nat) ≤ (2 ^ 63 - 1) / 8 := by decide
    omega
  have hfit : ¬ (!Builtin.List.listFitsIndex k) = true := by
    rw [fitsIndex_both h1 h2]
    exact Bool.false_ne_true
  have hlong : ¬ Builtin.List.listTooLong (its.toArray.size * k.toNat) = true := by
    rw [notLongL hlen]
    exact Bool.false_ne_true
  have hnew : List.foldl (fun x1 x2 => x1 ++ x2) #[] (List.replicate (if its.toArray.isEmpty = true then 0 else k.toNat) its.toArray) = (List.replicate k.toNat its).flatten.toArray := by
    have f0 : ∀ m : Nat, List.foldl (fun x1 x2 => x1 ++ x2) #[] (List.replicate m its.toArray) = (List.replicate m its).flatten.toArray := fun m => by
      have := foldl_rep its m []
      rw [List.nil_append] at this
      exact this
    rw [f0]
    cases its with
    | nil => simp
    | cons a r' => rw [if_neg (by simp)]
  refine wpAny_binaryOp_repeat_ref (T := "list") (U := "int") (by decide) ⟨_, e, rfl⟩ (fun s' => typeIs_int s' k t) noFill_list_mul F.fills_int_mul F.slot_int_rmul repeat_list F.slot_int_index.lookup
    (call_meets F.slot_int_rmul (typeIs_int s k t) F.entry_int_rmul (F.args_int_rmul_2 _ _) (int___rmul___int_list k t l its.toArray n)
      ⟨e, rfl, ⟨_, e, rfl⟩, call_meets F.slot_list_mul ⟨_, e, rfl⟩ F.entry_list_mul (F.args_list_mul_2 _ _) (AutoListH.list___mul___list_int_3 l its.toArray n k t hfit hcap hlong) ⟨e, ?_⟩⟩)
  rw [hnew]
  exact ⟨.ref _, _, I.lnew (t' := s.toks) (r.rep k.toNat) (by rw [len_rep, Nat.mul_comm]; exact hz), rfl, q _ I.fresh⟩
end
section
variable {prog : Program} {w : World} {A : Around} {E : Value → Shared → Prop} {s : Shared}
end
section
variable {X : Cx}
end
end L2
namespace L2
open PySem PySem.Spec PyProof.Rows
section
variable {κ : Type} [DecidableEq κ]
noncomputable def valV (kvs : List (κ × V)) (k : κ) : Option V := (kvs.find? fun kv => decide (kv.1 = k)).map (·.2)
noncomputable def putK (kvs : List (κ × V)) (k : κ) (v : V) : List (κ × V) :=
  if (kvs.any fun kv => decide (kv.1 = k)) = true then kvs.map (fun kv => if kv.1 = k then (kv.1, v) else kv) else kvs ++ [(k, v)]
theorem valV_pos {p : κ × V} {r : List (κ × V)} {k : κ} (e : p.1 = k) : valV (p :: r) k = some p.2 := by simp [valV, List.find?_cons, e]
theorem valV_neg {p : κ × V} {r : List (κ × V)} {k : κ} (e : ¬ p.1 = k) : valV (p :: r) k = valV r k := by simp [valV, List.find?_cons, e]
theorem valV_any (k : κ) (kvs : List (κ × V)) : (kvs.any fun kv => decide (kv.1 = k)) = (valV kvs k).isSome := by
  induction kvs with
  | nil => rfl
  | cons p r ih =>
    rw [List.any_cons]
    by_cases e : p.1 = k
    · simp only [valV_pos e, decide_eq_true e, Bool.true_or, Option.isSome_some]
    · rw [valV_neg e, decide_eq_false e, Bool.false_or]; exact ih
theorem valV_map (k j : κ) (y : V) (kvs : List (κ × V)) : valV (kvs.map fun kv => if kv.1 = k then (kv.1, y) else kv) j = (valV kvs j).map fun x => if j = k then y else x := by
  induction kvs with
  | nil => rfl
  | cons p r ih =>
    rw [List.map_cons]
    by_cases h : p.1 = k
    · rw [if_pos h]
      by_cases e : p.1 = j
      · rw [valV_pos (p := (p.1, y)) e, valV_pos e, Option.map_some, if_pos (e.symm.trans h)]
      · rw [valV_neg (p := (p.1, y)) e, valV_neg e, ih]
    · rw [if_neg h]
      by_cases e : p.1 = j
      · rw [valV_pos (p := p) e, valV_pos e, Option.map_some, if_neg (fun z => h (e.trans z))]
      · rw [valV_neg (p := p) e, valV_neg e, ih]
theorem valV_snoc (k j : κ) (y : V) : ∀ kvs : List (κ × V), valV kvs k = none → valV (kvs ++ [(k, y)]) j = if j = k then some y else valV kvs j := by
  intro kvs
  induction kvs with
  | nil =>
    intro _
    by_cases e : k = j
    · rw [if_pos e.symm]; exact valV_pos (p := (k, y)) e
    · rw [if_neg (fun z => e z.symm)]; exact valV_neg (p := (k, y)) e
  | cons p r ih =>
    intro hn
    rw [List.cons_append]
    have hk : ¬ p.1 = k := fun z => by rw [valV_pos z] at hn; cases hn
    rw [valV_neg hk] at hn
    have ih := ih hn
    by_cases e : p.1 = j
    · rw [valV_pos e, valV_pos e, if_neg (fun z => hk (e.trans z))]
    · rw [valV_neg e, valV_neg e, ih]
theorem valV_put (kvs : List (κ × V)) (k j : κ) (y : V) : valV (putK kvs k y) j = if j = k then some y else valV kvs j := by
  unfold putK
  by_cases a : (kvs.any fun kv => decide (kv.1 = k)) = true
  · rw [if_pos a, valV_map]
    rw [valV_any] at a
    by_cases e : j = k
    · obtain ⟨x, hx⟩ := Option.isSome_iff_exists.mp a
      rw [if_pos e, e, hx, Option.map_some, if_pos rfl]
    · rw [if_neg e]
      cases valV kvs j with
      | none => rfl
      | some x => rw [Option.map_some, if_neg e]
  · rw [if_neg a]
    refine valV_snoc k j y kvs ?_
    rw [valV_any] at a
    cases q : valV kvs k with
    | none => rfl
    | some x => rw [q] at a; exact (a rfl).elim
theorem length_putK (kvs : List (κ × V)) (k : κ) (v : V) : (putK kvs k v).length ≤ kvs.length + 1 := by
  unfold putK
  split
  · rw [List.length_map]; omega
  · rw [List.length_append, List.length_cons, List.length_nil]; omega
theorem putK_new {kvs : List (κ × V)} {k : κ} (v : V) (h : valV kvs k = none) : putK kvs k v = kvs ++ [(k, v)] := by
  unfold putK
  rw [valV_any, h]
  exact if_neg (by decide)
theorem RelO.isSome_eq {o : Option V} {u : Option Value} (r : RelO o u) : o.isSome = u.isSome := by
  cases o with
  | none => cases u with
    | none => rfl
    | some _ => exact (show False from r).elim
  | some _ => cases u with
    | none => exact (show False from r).elim
    | some _ => rfl
theorem RelO.getD {o : Option V} {u : Option Value} {d : V} {d' : Value} (r : RelO o u) (rd : RelV d d') : RelV (o.getD d) (u.getD d') := by
  cases o with
  | none => cases u with
    | none => exact rd
    | some _ => exact (show False from r).elim
  | some _ => cases u with
    | none => exact (show False from r).elim
    | some _ => exact r
theorem KV.val {kvs : List (κ × V)} {vs : List (κ × Value)} (r : KV kvs vs) (k : κ) : RelO (valV kvs k) (valueAt vs k) := by
  unfold KV at r
  induction r with
  | nil => exact True.intro
  | @cons p q ps qs h t ih =>
    obtain ⟨h1, h2⟩ := h
    by_cases e : p.1 = k
    · have e' : q.1 = k := h1.symm.trans e
      have b : valueAt (q :: qs) k = some q.2 := by simp [valueAt, List.find?_cons, e']
      rw [valV_pos e, b]; exact h2
    · have e' : ¬ q.1 = k := fun z => e (h1.trans z)
      have b : valueAt (q :: qs) k = valueAt qs k := by simp [valueAt, List.find?_cons, e']
      rw [valV_neg e, b]; exact ih
theorem KV.any {kvs : List (κ × V)} {vs : List (κ × Value)} (r : KV kvs vs) (k : κ) : (kvs.any fun kv => decide (kv.1 = k)) = vs.any fun kv => decide (kv.1 = k) := by
  unfold KV at r
  induction r with
  | nil => rfl
  | cons h t ih => rw [List.any_cons, List.any_cons, ih, h.1]
theorem KV.repl {kvs : List (κ × V)} {vs : List (κ × Value)} (r : KV kvs vs) (k : κ) {y : V} {u : Value} (ry : RelV y u) :
    KV (kvs.map fun kv => if kv.1 = k then (kv.1, y) else kv) (vs.map fun kv => if kv.1 = k then (kv.1, u) else kv) := by
  unfold KV at r ⊢
  induction r with
  | nil => exact .nil
  | @cons p q ps qs h t ih =>
    rw [List.map_cons, List.map_cons]
    refine .cons ?_ ih
    obtain ⟨h1, h2⟩ := h
    by_cases e : p.1 = k
    · rw [if_pos e, if_pos (h1.symm.trans e)]; exact ⟨h1, ry⟩
    · rw [if_neg e, if_neg (fun z => e (h1.trans z))]; exact ⟨h1, h2⟩
theorem KV.put {kvs : List (κ × V)} {vs : List (κ × Value)} (r : KV kvs vs) (k : κ) {y : V} {u : Value} (ry : RelV y u) : KV (putK kvs k y) (stored vs k u) := by
  unfold putK stored
  rw [r.any k]
  by_cases e : (vs.any fun kv => decide (kv.1 = k)) = true
  · rw [if_pos e, if_pos e]; exact r.repl k ry
  · rw [if_neg e, if_neg e]; exact Paired.snoc r ⟨rfl, ry⟩
theorem KV.length {kvs : List (κ × V)} {vs : List (κ × Value)} (r : KV kvs vs) : kvs.length = vs.length := Paired.length r
end
theorem kV_is {P : Program} {w : World} {k : Key} {u : Value} (r : RelV (kV k) u) : (mixKind P w).is k u = true := by
  cases k with
  | inl i => obtain ⟨t, e⟩ := (show ∃ t, u = Value.int i t from r); subst e; exact mixKind_int P w i t
  | inr x => obtain ⟨t, e⟩ := (show ∃ t, u = Value.str x t from r); subst e; exact mixKind_str P w x t
theorem items_are {P : Program} {w : World} {ks : List Key} {us : List Value} (r : Vals (ks.map kV) us) : ItemsAre (mixKind P w) ks us := by
  induction ks generalizing us with
  | nil => cases r; exact .nil
  | cons k ks ih =>
    cases r with
    | cons h t => exact .cons (kV_is h) (ih t)
noncomputable abbrev KT (H : Hp) : List (List Key × V) → List (List Key × Addr × Value) → Prop := Paired fun p q => p.1 = q.1 ∧ H q.2.1 = some (.tup (p.1.map kV)) ∧ RelV p.2 q.2.2
theorem KT.val {H : Hp} {kvs : List (List Key × V)} {xs : List (List Key × Addr × Value)} (r : KT H kvs xs) (k : List Key) : RelO (valV kvs k) ((atKey xs k).map (·.2)) := by
  induction r with
  | nil => exact True.intro
  | @cons p q ps qs h t ih =>
    obtain ⟨h1, _, h2⟩ := h
    by_cases e : p.1 = k
    · have e' : q.1 = k := h1.symm.trans e
      have b : atKey (q :: qs) k = some q.2 := by simp [atKey, List.find?_cons, e']
      rw [valV_pos e, b]; exact h2
    · have e' : ¬ q.1 = k := fun z => e (h1.trans z)
      have b : atKey (q :: qs) k = atKey qs k := by simp [atKey, List.find?_cons, e']
      rw [valV_neg e, b]; exact ih
theorem KT.repl {H : Hp} {kvs : List (List Key × V)} {xs : List (List Key × Addr × Value)} (r : KT H kvs xs) (k : List Key) {y : V} {u : Value} (ry : RelV y u) :
    KT H (kvs.map fun kv => if kv.1 = k then (kv.1, y) else kv) (xs.map (putAt k u)) := by
  induction r with
  | nil => exact .nil
  | @cons p q ps qs h t ih =>
    rw [List.map_cons, List.map_cons]
    refine .cons ?_ ih
    obtain ⟨h1, h2, h3⟩ := h
    unfold putAt
    by_cases e : p.1 = k
    · rw [if_pos e, if_pos (h1.symm.trans e)]; exact ⟨h1, h2, ry⟩
    · rw [if_neg e, if_neg (fun z => e (h1.trans z))]; exact ⟨h1, h2, h3⟩
theorem KT.put {H : Hp} {kvs : List (List Key × V)} {xs : List (List Key × Addr × Value)} (r : KT H kvs xs) (k : List Key) {b : Addr} {y : V} {u : Value} (hb : H b = some (.tup (k.map kV))) (ry : RelV y u) :
    KT H (putK kvs k y) (storedH xs k b u) := by
  have e : (kvs.any fun kv => decide (kv.1 = k)) = (atKey xs k).isSome := by
    rw [valV_any, (r.val k).isSome_eq, Option.isSome_map]
  unfold putK storedH
  rw [e]
  by_cases q : (atKey xs k).isSome = true
  · rw [if_pos q, if_pos q]; exact r.repl k ry
  · rw [if_neg q, if_neg q]; exact Paired.snoc r ⟨rfl, hb, ry⟩
theorem KT.keeps {H H' : Hp} {kvs : List (List Key × V)} {xs : List (List Key × Addr × Value)} (r : KT H kvs xs) (ht : ∀ b ys, H b = some (.tup ys) → H' b = some (.tup ys)) : KT H' kvs xs :=
  Paired.mapP r fun _ _ z => ⟨z.1, ht _ _ z.2.1, z.2.2⟩
section
variable {P : Program} {w : World} {H : Hp} {h : Heap} {a : Addr}
theorem rd_of {u : HO} (ok : HOk P w H h) (e : Rd H a u) : ObjOk P w H h a u := e.ok ok
theorem dk_rd {kvs : List (Key × V)} (ok : HOk P w H h) (e : Rd H a (.dK kvs)) : kvs.length ≤ sizeLine ∧ (a == sysModules) = false ∧ ∃ vs, KV kvs vs ∧ h.DictOf (mixKind P w) a vs :=
  show ObjOk P w H h a (.dK kvs) from rd_of ok e
theorem dk_of {kvs : List (Key × V)} (ok : HOk P w H h) (e : H a = some (.dK kvs)) : kvs.length ≤ sizeLine ∧ (a == sysModules) = false ∧ ∃ vs, KV kvs vs ∧ h.DictOf (mixKind P w) a vs := dk_rd ok (.inl e)
theorem key_of {ks : List Key} (ok : HOk P w H h) (e : H a = some (.tup (ks.map kV))) : (tupleKind (mixKind P w)).is h ks a := by
  obtain ⟨_, its, r, o, h1, h2, n, h3⟩ := (show ObjOk P w H h a (.tup (ks.map kV)) from ok a _ e)
  exact ⟨o, its.toArray, n, h1, h2, h3, by simpa using items_are r⟩
theorem dt_rd {kvs : List (List Key × V)} (ok : HOk P w H h) (e : Rd H a (.dT kvs)) : kvs.length ≤ sizeLine ∧ (a == sysModules) = false ∧
    ∃ xs, KT H kvs xs ∧ h.DictOfH (tupleKind (mixKind P w)) a xs := by
  obtain ⟨z, y, xs, r, o, es, ep, h1, h2, h3, h4, h5⟩ := (show ObjOk P w H h a (.dT kvs) from rd_of ok e)
  refine ⟨z, y, xs, r, o, es, ep, h1, h2, h3, h4, fun x hx => ?_, h5⟩
  have all : ∀ {l : List (List Key × V)} {m : List (List Key × Addr × Value)}, KT H l m → ∀ x ∈ m, (tupleKind (mixKind P w)).is h x.1 x.2.1 := by
    intro l m q
    induction q with
    | nil => intro x hx; exact nomatch hx
    | @cons p q ps qs hq t ih =>
      intro x hx
      rcases List.mem_cons.mp hx with e | hx
      · subst e
        exact key_of ok (by rw [← hq.1]; exact hq.2.1)
      · exact ih x hx
  exact all r x hx
theorem dt_of {kvs : List (List Key × V)} (ok : HOk P w H h) (e : H a = some (.dT kvs)) : kvs.length ≤ sizeLine ∧ (a == sysModules) = false ∧
    ∃ xs, KT H kvs xs ∧ h.DictOfH (tupleKind (mixKind P w)) a xs := dt_rd ok (.inl e)
end
noncomputable def DGet (H : Hp) (a : Addr) (y : V) (r : Option V) : Prop :=
  (∃ kvs k, Rd H a (.dK kvs) ∧ y = kV k ∧ r = valV kvs k) ∨ ∃ kvs k b, Rd H a (.dT kvs) ∧ y = .ref b ∧ H b = some (.tup (k.map kV)) ∧ r = valV kvs k
noncomputable def DPut (H : Hp) (a : Addr) (y v : V) (H' : Hp) : Prop :=
  (∃ kvs k, H a = some (.dK kvs) ∧ y = kV k ∧ kvs.length < sizeLine ∧ H' = upd H a (.dK (putK kvs k v))) ∨
  ∃ kvs k b, H a = some (.dT kvs) ∧ y = .ref b ∧ H b = some (.tup (k.map kV)) ∧ kvs.length < sizeLine ∧ H' = upd H a (.dT (putK kvs k v))
theorem DGet.k {H : Hp} {a : Addr} {kvs : List (Key × V)} {k : Key} (e : H a = some (.dK kvs)) : DGet H a (kV k) (valV kvs k) := .inl ⟨kvs, k, .inl e, rfl, rfl⟩
theorem DPut.k {H : Hp} {a : Addr} {kvs : List (Key × V)} {k : Key} {v : V} (e : H a = some (.dK kvs)) (hl : kvs.length < sizeLine) : DPut H a (kV k) v (upd H a (.dK (putK kvs k v))) := .inl ⟨kvs, k, e, rfl, hl, rfl⟩
section
variable {X : Cx} {pins : List (Addr × Obj)} {σ : St} {H : Hp} {s : Shared} {a : Addr} {y v : V} {u r : Value} {o : Option V} {A : Around} {E : Value → Shared → Prop}
theorem Inv.big (I : Inv X pins σ H s) : sysModules < s.heap.objs.size := by
  have h : mainGlobals < s.heap.objs.size := (I.mod.glob.keeps I.bk).lt
  exact Nat.lt_trans (by decide) h
theorem d_getItem {Q : Value → Shared → Prop} (hu : A.units + 1 < cLine) (I : Inv X pins σ H s) (g : DGet H a y (some v)) (ry : RelV y u) (h : ∀ w' s', Inv X pins σ H s' → RelV v w' → Q w' s') :
    wpAny (model X.prog X.w) A (getItem (.ref a) u) Q E s := by
  rcases g with ⟨kvs, k, e, ey, l⟩ | ⟨kvs, k, b, e, ey, eb, l⟩
  · subst ey
    obtain ⟨z, hd, vs, rel, dd⟩ := dk_rd I.hok e
    obtain ⟨w', hw, rw'⟩ := RelO.some_of (v := v) (o := valueAt vs k) (by rw [l]; exact rel.val k)
    exact wpAny_getItem_of (kV_is ry) dd.mapOf hw (h w' _ (I.tok _) rw')
  · subst ey
    cases (show u = Value.ref b from ry)
    obtain ⟨z, hd, xs, rel, dd⟩ := dt_rd I.hok e
    obtain ⟨w', hw, rw'⟩ := RelO.some_of (v := v) (o := (atKey xs k).map (·.2)) (by rw [l]; exact rel.val k)
    obtain ⟨p, hp, hp2⟩ := Option.map_eq_some_iff.mp hw
    refine wpAny_getItem_heap (tupleKind_room_in1 hu) (key_of I.hok eb) dd hp ?_
    rw [hp2]
    exact h w' _ (I.tok _) rw'
theorem d_notIn {Q : Value → Shared → Prop} (hu : A.units + 1 < cLine) (I : Inv X pins σ H s) (g : DGet H a y o) (ry : RelV y u) (h : ∀ s', Inv X pins σ H s' → Q (.bool (!o.isSome)) s') :
    wpAny (model X.prog X.w) A (compareOp .NotIn u (.ref a)) Q E s := by
  rcases g with ⟨kvs, k, e, ey, l⟩ | ⟨kvs, k, b, e, ey, eb, l⟩
  · subst ey
    obtain ⟨z, hd, vs, rel, dd⟩ := dk_rd I.hok e
    refine wpAny_notIn_of (kV_is ry) hd dd.mapOf ?_
    rw [← (rel.val k).isSome_eq, ← l]
    exact h _ (I.tok _)
  · subst ey
    cases (show u = Value.ref b from ry)
    obtain ⟨z, hd, xs, rel, dd⟩ := dt_rd I.hok e
    refine wpAny_notIn_heap (tupleKind_room_in1 hu) (key_of I.hok eb) hd dd ?_
    have q := (rel.val k).isSome_eq
    rw [Option.isSome_map] at q
    rw [← q, ← l]
    exact h _ (I.tok _)
theorem d_write {h' : Heap} {t' : Nat} {ob : HO} (I : Inv X pins σ H s) (mu : Mut (H a)) (hs : Heap.SameBut a s.heap h') (he : ∃ q, h'.get? a = some q) (new : ObjOk X.prog X.w (upd H a ob) h' a ob) :
    Inv X pins σ (upd H a ob) { s with heap := h', toks := t' } :=
  I.write (x := a) (e := a) mu (.inl rfl) (fun b q hb z => (hs.2 b hb).trans z) he new
theorem dk_new {P : Program} {w : World} {H' : Hp} {h' : Heap} {kvs : List (Key × V)} {vs : List (Key × Value)} (z : kvs.length ≤ sizeLine) (hd : (a == sysModules) = false) (rel : KV kvs vs) (dd : h'.DictOf (mixKind P w) a vs) :
    ObjOk P w H' h' a (.dK kvs) := ⟨z, hd, vs, rel, dd⟩
theorem d_setItem {H' : Hp} {Q : Unit → Shared → Prop} (hu : A.units + 1 < cLine) (I : Inv X pins σ H s) (g : DPut H a y v H') (ry : RelV y u) (rv : RelV v r) (h : ∀ s', Inv X pins σ H' s' → Q () s') :
    wpAny (model X.prog X.w) A (setItem (.ref a) u r) Q E s := by
  rcases g with ⟨kvs, k, e, ey, l, eH⟩ | ⟨kvs, k, b, e, ey, eb, l, eH⟩
  · subst ey eH
    obtain ⟨z, hd, vs, rel, dd⟩ := dk_of I.hok e
    have hz : vs.length ≤ sizeLine := by rw [← rel.length]; exact z
    have hl : (putK kvs k v).length ≤ sizeLine := by have := length_putK kvs k v; omega
    refine wpAny_setItem_pairs (hsz := hz) (kV_is ry) dd fun h' dd' hs => h _ ?_
    have he : ∃ q, h'.get? a = some q := let ⟨q, _, _, hq, _⟩ := dd'; ⟨q, hq⟩
    exact d_write I (by rw [e]; exact True.intro) hs he (dk_new hl hd (rel.put k rv) dd')
  · subst ey eH
    cases (show u = Value.ref b from ry)
    obtain ⟨z, hd, xs, rel, dd⟩ := dt_of I.hok e
    have hz : xs.length ≤ sizeLine := by rw [← Paired.length rel]; exact z
    have hl : (putK kvs k v).length ≤ sizeLine := by have := length_putK kvs k v; omega
    refine wpAny_setItem_heap (hsz := hz) (tupleKind_room_in1 hu) (key_of I.hok eb) dd fun h' dd' hs => h _ ?_
    obtain ⟨q, es, ep, hq, h2, h3, h4, _, h5⟩ := dd'
    refine d_write I (by rw [e]; exact True.intro) hs ⟨q, hq⟩ ⟨hl, hd, _, (rel.put k eb rv).keeps fun c ys ec => ?_, q, es, ep, hq, h2, h3, h4, h5⟩
    rw [upd_ne (ne_of ec e (fun z => nomatch z))]
    exact ec
end
section
variable {X : Cx} {pins : List (Addr × Obj)} {σ : St} {H : Hp} {s : Shared} {a : Addr} {kvs : List (Key × V)} {k : Key} {u : Value} {A : Around} {E : Value → Shared → Prop}
theorem d_len {Q : Value → Shared → Prop} (I : Inv X pins σ H s) (e : Rd H a (.dK kvs)) (h : ∀ t s', Inv X pins σ H s' → Q (.int kvs.length t) s') : wpAny (model X.prog X.w) A (call (.builtin "len") [.ref a]) Q E s := by
  obtain ⟨z, hd, vs, rel, dd⟩ := dk_rd I.hok e
  refine call_len_dict hd dd (by rw [← rel.length]; rw [sizeLine_eq] at z; omega) ?_
  rw [← rel.length]
  exact h _ _ (I.tok _)
end
noncomputable def NoSl (i : Expr) : Prop := ∀ ov iv, subscripted i false ov iv = operate [ov, iv] (getItem ov iv)
theorem subD_of {prog : Program} {w : World} {A : Around} {E : Value → Shared → Prop} {s : Shared} {env : Env} {value slice : Expr} {pos : Pos} {T id : String} {Q : Value → Shared → Prop}
    (hl : typeLookup (.type T) "__getitem__" = pure (some (.builtin id))) (hs : NoSl slice)
    (h : wpAny (model prog w) A (eval value env) (fun o s₁ => wpAny (model prog w) A (eval slice env) (fun i s₂ => s₂.TypeIs o T ∧ wpAny (model prog w) A (getItem o i) Q E s₂) E s₁) E s) :
    wpAny (model prog w) A (eval (.Subscript value slice pos) env) Q E s := by
  refine Subscript_ (wpAny_mono h (fun o s₁ h₁ => wpAny_mono h₁ (fun i s₂ h₂ => ?_) fun _ _ x => x) fun _ _ x => x)
  obtain ⟨hT, h₂⟩ := h₂
  unfold subscriptTail
  refine wpAny_bind ?_
  rw [getitemInPython_of_ne hT.not_modules]
  refine wpAny_bind (wpAny_specialOf hT hl ?_)
  have fin : wpAny (model prog w) A (subscripted slice false o i) (fun r s₃ => wpAny (model prog w) A (letTemporaryGo value o r >>= fun _ => pure r) Q E s₃) E s₂ := by
    rw [hs o i]
    exact wpAny_operating (wpAny_mono h₂ (fun r s₃ h₃ => wpAny_bind (wpAny_letTemporaryGo (wpAny_pure h₃))) fun _ _ x => x)
  first
    | exact wpAny_pure (wpAny_bind fin)
    | exact wpAny_bind (wpAny_pure (wpAny_bind fin))
    | exact wpAny_bind fin
theorem dict_typeIs {X : Cx} {pins : List (Addr × Obj)} {σ : St} {H : Hp} {s : Shared} {a : Addr} {y : V} {o : Option V} (I : Inv X pins σ H s) (g : DGet H a y o) : s.TypeIs (.ref a) "dict" := by
  rcases g with ⟨kvs, k, e, _, _⟩ | ⟨kvs, k, b, e, _, _, _⟩
  · obtain ⟨_, _, vs, _, dd⟩ := dk_rd I.hok e
    exact dd.typeIs
  · obtain ⟨_, _, xs, _, dd⟩ := dt_rd I.hok e
    exact dd.typeIs
noncomputable def tDGet (td ty : TE) : TE := fun σ H Q => td σ H fun x H1 => ty σ H1 fun y H2 => ∃ a v, x = .ref a ∧ DGet H2 a y (some v) ∧ Q v H2
noncomputable def tDNotIn (ty td : TE) : TE := fun σ H Q => ty σ H fun y H1 => td σ H1 fun x H2 => ∃ a o, x = .ref a ∧ DGet H2 a y o ∧ Q (.bl (!o.isSome)) H2
noncomputable def sDPut (td ty tv : TE) : TS := fun D σ H => tv σ H fun v H1 => td σ H1 fun x H2 => ty σ H2 fun y H3 => ∃ a H4, x = .ref a ∧ DPut H3 a y v H4 ∧ D.nx σ H4
section
variable {X : Cx} {o i e value : Expr} {pos pos' tpos : Pos} {td ty tv : TE}
theorem pe_dget (hu : X.A.units + 1 < cLine) (ho : PE X o td) (hi : PE X i ty) (hs : NoSl i) : PE X (.Subscript o i pos) (tDGet td ty) := by
  intro pins s σ H Q I h
  refine subD_of PySem.F.slot_dict_getitem.lookup hs (thn (ho pins s σ H _ I h) fun u s1 h1 => ?_)
  obtain ⟨x, H1, I1, rx, q1⟩ := h1
  refine thn (hi pins s1 σ H1 _ I1 q1) fun iv s2 h2 => ?_
  obtain ⟨y, H2, I2, ry, a, v, ex, g, q2⟩ := h2
  subst ex
  obtain rfl : u = Value.ref a := rx
  exact ⟨dict_typeIs I2 g, d_getItem hu I2 g ry fun w' s3 I3 rw' => ⟨v, H2, I3, rw', q2⟩⟩
theorem pc_dnotin (hu : X.A.units + 1 < cLine) (hi : PE X i ty) (ho : PE X o td) : PC X .NotIn i o (tDNotIn ty td) := by
  intro pins s σ H Q I h
  refine thn (hi pins s σ H _ I h) fun iv s1 h1 => ?_
  obtain ⟨y, H1, I1, ry, q1⟩ := h1
  refine thn (ho pins s1 σ H1 _ I1 q1) fun u s2 h2 => ?_
  obtain ⟨x, H2, I2, rx, a, ov, ex, g, q2⟩ := h2
  subst ex
  obtain rfl : u = Value.ref a := rx
  exact d_notIn hu I2 g ry fun s3 I3 => ⟨.bl (!ov.isSome), H2, I3, rfl, q2⟩
theorem ps_dput (hu : X.A.units + 1 < cLine) (ho : PE X o td) (hi : PE X i ty) (hv : PE X value tv) (hs : swapsWith value (some (.Subscript o i pos')) pos.line X.env = pure false) :
    PS X (.Assign [.Subscript o i pos'] value pos) (sDPut td ty tv) := by
  intro pins s σ H D I h
  refine wpAny_Assign_Subscript (thn (hv pins s σ H _ I h) fun r s1 h1 => ?_) hs
  obtain ⟨v, H1, I1, rv, q1⟩ := h1
  refine thn (ho pins s1 σ H1 _ I1 q1) fun u s2 h2 => ?_
  obtain ⟨x, H2, I2, rx, q2⟩ := h2
  refine thn (hi pins s2 σ H2 _ I2 q2) fun iv s3 h3 => ?_
  obtain ⟨y, H3, I3, ry, a, H4, ex, g, q3⟩ := h3
  subst ex
  obtain rfl : u = Value.ref a := rx
  exact d_setItem hu I3 g ry rv fun s4 I4 => ⟨σ, H4, I4, q3⟩
end
theorem dk_empty {P : Program} {w : World} {H : Hp} (h : Heap) (hb : sysModules < h.objs.size) : ObjOk P w H (h.push { cls := .type "dict", data := .dict #[] }) h.objs.size (.dK []) :=
  ⟨Nat.zero_le _, beq_eq_false_iff_ne.mpr (Ne.symm (Nat.ne_of_lt hb)), [], .nil, Heap.DictOf.new h⟩
noncomputable def tDNewK : TE := fun _ H Q => ∀ p, H p = none → Q (.ref p) (upd H p (.dK []))
section
variable {X : Cx} {pos : Pos}
theorem pe_dnewK : PE X (.Dict [] [] pos) tDNewK := fun pins s σ H Q I h =>
  wpAny_Dict_empty ⟨.ref s.heap.objs.size, _, I.laid (a := s.heap.objs.size) (o := .dK []) (t' := s.toks) (fun _ _ q => Heap.get?_push_of_some _ q) (Nat.le_refl _) (dk_empty s.heap I.big), rfl, h _ (I.hok.fresh (Nat.le_refl _))⟩
end
section
variable {X : Cx} {pins : List (Addr × Obj)} {σ : St} {H : Hp} {s : Shared} {a : Addr} {y d : V} {u r : Value} {o : Option V} {A : Around} {E : Value → Shared → Prop}
end
section
variable {X : Cx} {o e f : Expr} {apos cpos : Pos} {td ty tx : TE}
end
section
variable {X : Cx} {pins : List (Addr × Obj)} {σ : St} {H : Hp} {s : Shared} {a : Addr} {kvs : List (Key × V)} {A : Around} {E : Value → Shared → Prop}
end
section
variable {X : Cx} {pins : List (Addr × Obj)} {σ : St} {H : Hp} {s : Shared} {a : Addr} {y : V} {u : Value} {A : Around} {E : Value → Shared → Prop}
end
end L2
namespace Att
open PySem PySem.W PySem.Calls PyProof.Rows
theorem ints_of_wellAll {P : Params} {h : Heap} : ∀ (ns : List Int) (vs : List Value), WellAll P h vs (ns.map WData.int) → IntsAre vs ns := by
  intro ns
  induction ns with
  | nil =>
    intro vs w
    rw [List.map_nil] at w
    cases w
    exact .nil
  | cons n ns ih =>
    intro vs w
    rw [List.map_cons] at w
    cases w with
    | cons a b =>
      cases a
      exact .cons _ _ (ih _ b)
theorem script_of {l : OpenLaw} {n : Nat} (hn : l.most = some n) {P : Params} {h : Heap} {args : List WData} {vals : List Value}
    (hpre : l.row.toRowW.claim.pre args = true) (hwl : WellAll P h vals args) :
    ∃ a vs ns, vals = [Value.ref a] ∧ args = [WData.list (ns.map WData.int)] ∧ h.get? a = some { cls := .type "list", data := .seq vs.toArray } ∧ IntsAre vs ns ∧ ns.length ≤ n := by
  have hsh : WShape.hasAll [] args [.list .int] = true := (pre_splitW hpre).1
  have hc : l.pre.holds [] { args := args } = true := (pre_splitW hpre).2
  obtain ⟨d, r, rfl, h1, h2⟩ := hasAllW_cons hsh
  obtain rfl := hasAllW_nil h2
  obtain ⟨xs, rfl, h3⟩ := hasW_list h1
  obtain ⟨ns, rfl⟩ := items_int h3
  have hlen : ns.length ≤ n := by
    unfold OpenLaw.pre at hc
    have h4 : (WTm.not (.lt (.lit (.int (n : Int))) (.len (.arg 0)))).holds [] { args := [.list (ns.map .int)] } = true := by
      have h4 := (holds_andW hc).1
      rw [hn] at h4
      exact h4
    have h5 := condW_of h4 (w_not (w_lt w_lit (w_len_list (w_arg rfl))))
    rw [List.length_map] at h5
    refine Nat.le_of_not_lt fun q => ?_
    have q' : (n : Int) < ((ns.length : Nat) : Int) := by omega
    first
      | (rw [decide_eq_true q'] at h5; exact absurd h5 (by decide))
      | (simp at h5; omega)
  cases hwl with
  | cons w1 w2 =>
    cases w2
    cases w1 with
    | list ho hall => exact ⟨_, _, ns, rfl, rfl, ho, ints_of_wellAll ns _ hall, hlen⟩
theorem post_true (l : OpenLaw) (args : List WData) : l.row.toRowW.claim.post args (.bool true) args = true :=
  postW_of (r := l.row.toRowW) (X := (true == true))
    (show WShape.has [] (.bool true) .bool = true by first | rfl | decide | simp [WShape.has, WShape.arms, WShape.armsAll])
    (show (WTm.eq .res (.lit (.bool true))).value [] { args := args, res := some (.bool true), after := args } = some (.bool (true == true)) from w_eq_bool (w_res rfl) w_lit) rfl
theorem attach_call {l : OpenLaw} {n : Nat} {q : Program} {loose : List Str} {XP : (Str → Option Value) → Heap → Prop} {YP : World → Heap → Prop} {d : DefRec}
    (hn : l.most = some n) (hdf : d.params.defaults = [])
    (call : ∀ (w : World) (s₀ s₁ : Shared) (mg mb : Str → Option Value) (fa : Addr) (o : Obj) (pm cd doc : Value) (a : Addr) (vs : List Value) (ns : List Int),
      Ground q loose [] XP w s₀ mg mb s₁.heap → YP w s₁.heap →
      s₁.heap.get? fa = some o → o.data = .func (docDef d.name d.params d.body d.scope pm cd doc) → s₁.heap.CodeRec cd d.name → mg d.name = some (.ref fa) →
      s₁.heap.get? a = some { cls := .type "list", data := .seq vs.toArray } → IntsAre vs ns → ns.length ≤ n → s₁.gens = #[] →
      codeAny (model l.prog w) callerA (.call (.ref fa) ⟨[.ref a], []⟩) (fun r s' => r = .ok (.ret (.bool true)) ∧ OldK s₁.heap s'.heap ∧ s'.os = s₁.os ∧ AllBare s'.gens) s₁) :
    WalkO q loose XP YP l.row.toRowW d [] (fun f vs => PySem.call f vs) := by
  intro w s₀ s₁ mg mb G Y fa o pm cd doc dV kV ho hd hcd hD hmg hg args vals as hpre hlay hrd hwl hlo
  obtain rfl : dV = .none := Dflts.none hD hdf
  obtain rfl : kV = .none := Dflts.noKw hD
  obtain ⟨a, vs, ns, rfl, rfl, hobj, hints, hlen⟩ := script_of hn hpre hwl
  refine enter_call (codeAny_mono (call w s₀ s₁ mg mb fa o pm cd doc a vs ns G Y ho (fd_plain hd) hcd hmg hobj hints hlen hg) fun r s' hq => ?_)
  obtain ⟨rfl, h2, h3, h4⟩ := hq
  exact ⟨.inl ⟨.bool true, .bool true, [], rfl, fun _ => rfl, .bool true, post_true l _, fun _ => ⟨List.Pairwise.nil, fun _ hm => (nomatch hm)⟩⟩, h2, h3, h4⟩
section
variable {prog : Program} {w : World} {A : Around} {E : Value → Shared → Prop} {s : Shared} {K : Frag}
end
end Att
namespace L2
open PySem PySem.Spec PyProof.Rows
theorem vals_ints : ∀ {vs : List Value} {ns : List Int}, IntsAre vs ns → Vals (ns.map V.int) vs := by
  intro vs ns h
  induction h with
  | nil => exact .nil
  | cons n t h ih => exact .cons ⟨t, rfl⟩ ih
noncomputable def Only (H : Hp) : Prop := ∀ b, H b = none ∨ ∃ o xs, H b = some (.frz o (.lst xs))
theorem law_call {P : Program} {w : World} {K : PySem.W.Frag} {mg mb : Str → Option Value} {CX : CXT} {k : Nat} {fa a : Addr} {fd : FuncData} {x : Str} {sp : Sp} {s₁ : Shared} {vs : List Value} {ns : List Int}
    (KX : K.In s₁.heap) (hns : s₁.heap.Ns mainGlobals mg) (hb : s₁.heap.Ns builtinsNs mb) (hbb : ∀ x : Str, x ≠ "__name__" → mb x = bootBuiltins x) (hlim : s₁.heap.NoLimit) (hg : s₁.gens = #[])
    (ha : s₁.heap.get? a = some { cls := .type "list", data := .seq vs.toArray }) (hi : IntsAre vs ns) (hl : ns.length ≤ sizeLine) (hr : Room k callerA)
    (F : ∀ base : Heap, K.In base → base.Ns mainGlobals mg → FnOk P w K mg base CX k fa fd [x] sp) (hbind : ∀ (s : Shared) (u : Value), BindsTo s fd ⟨[u], []⟩ [(x, u)])
    (hsp : ∀ H : Hp, Only H → SqL K H a (ns.map V.int) → sp [.ref a] H (fun v _ => v = .bl true) fun _ _ _ => False)
    (hCX : ∀ H e s', CX [] H s₁ (fun _ _ _ => False) e s' → False) :
    codeAny (model P w) callerA (.call (.ref fa) ⟨[.ref a], []⟩) (fun r s' => r = .ok (.ret (.bool true)) ∧ OldK s₁.heap s'.heap ∧ s'.os = s₁.os ∧ AllBare s'.gens) s₁ := by
  have rv := vals_ints hi
  have lenV := hi.length
  have core : ∀ H : Hp, Only H → SqL K H a (ns.map V.int) → HOk P w H s₁.heap → (∀ b, H b ≠ none → b = a) → (H a ≠ none → K.lookup a = none) →
      codeAny (model P w) callerA (.call (.ref fa) ⟨[.ref a], []⟩) (fun r s' => r = .ok (.ret (.bool true)) ∧ OldK s₁.heap s'.heap ∧ s'.os = s₁.os ∧ AllBare s'.gens) s₁ := by
    intro H hO hS hok hA hK
    have base_of : ∀ {b : Addr} {o : Obj}, s₁.heap.get? b = some o → H b = none → (hidT s₁.heap H).get? b = some o := fun e n => hidT_get e n
    have noA : ∀ {b : Addr} {o : Obj} {es : Array DictEntry} {ep : Nat}, s₁.heap.get? b = some o → o.data = .dict es ep → H b = none := fun {b o es ep} e d => by
      cases q : H b with
      | none => rfl
      | some u =>
        have e' : b = a := hA b (by rw [q]; simp)
        subst e'
        rw [ha] at e; cases e
        have d' : Data.seq vs.toArray _ = Data.dict es ep := d
        cases d'
    have nsK : ∀ {b : Addr} {m : Str → Option Value}, s₁.heap.Ns b m → (hidT s₁.heap H).Ns b m := fun {b m} ⟨o, es, ep, e, d, r⟩ => ⟨o, es, ep, base_of e (noA e d), d, r⟩
    have hKb : K.In (hidT s₁.heap H) := fun b o e => base_of (KX b o e) (by
      cases q : H b with
      | none => rfl
      | some u =>
        have e' : b = a := hA b (by rw [q]; simp)
        subst e'
        rw [hK (by rw [q]; simp)] at e; cases e)
    have hM : Mod K mg (hidT s₁.heap H) := ⟨hKb, nsK hns, ⟨mb, nsK hb, hbb⟩, let ⟨mc, h1, h2⟩ := hlim; ⟨mc, nsK h1, h2⟩⟩
    have e0 : Env0 P w K mg (hidT s₁.heap H) callerA [] s₁ H := ⟨rfl, hM, fun b o e => of_hidT e, Nat.le_of_eq (hidT_size _ _), trivial, fun b hb => absurd (show b ∈ ([] : List Addr) from hb) (by simp), hok, .of_eq hg⟩
    refine codeAny_mono ((F _ hKb (nsK hns)).run callerA [] s₁ H ⟨[.ref a], []⟩ [.ref a] [.ref a] _ _ hr e0 (hbind s₁ (.ref a)) (.cons rfl .nil) (hsp H hO hS)) fun r s' h => ?_
    cases r with
    | error e => exact (hCX H e s' h).elim
    | ok fl =>
      cases fl with
      | next => exact False.elim h
      | brk => exact False.elim h
      | cont => exact False.elim h
      | ret u =>
        obtain ⟨v, H', os, bare, un, hok', r', q⟩ := h
        have q' : v = .bl true := q
        subst q'
        obtain rfl : u = Value.bool true := r'
        refine ⟨rfl, OldK.of_keep fun b o e => ?_, os, bare⟩
        cases q : H b with
        | none => exact un.keep b o e q (by intro z; exact absurd (show b ∈ ([] : List Addr) from z) (by simp)) (by simp)
        | some u =>
          rcases hO b with z | ⟨ob, xs, z⟩
          · rw [q] at z; cases z
          · have z2 := un.frzs b ob _ z
            obtain ⟨e1, _⟩ := hok b _ z
            obtain ⟨e2, _⟩ := hok' b _ z2
            rw [e] at e1; cases e1
            exact e2
  cases hk : K.lookup a with
  | some o =>
    have e := KX a o hk
    rw [ha] at e
    cases e
    refine core (fun _ => none) (fun _ => .inl rfl) (.inr ⟨_, vs.toArray, _, hk, rfl, rfl, rfl, by rw [List.size_toArray, lenV]; exact hl, by simpa using rv⟩) (fun b u z => by have z' : (none : Option HO) = some u := z; cases z') (fun b z => absurd rfl z) fun z => absurd rfl z
  | none =>
    refine core (fun b => if b = a then some (.frz { cls := .type "list", data := .seq vs.toArray } (.lst (ns.map V.int))) else none) (fun b => ?_) (.inl (.inr ⟨{ cls := .type "list", data := .seq vs.toArray }, if_pos rfl⟩)) (fun b u z => ?_) (fun b z => ?_) fun _ => hk
    · by_cases hb : b = a
      · exact .inr ⟨_, _, if_pos hb⟩
      · exact .inl (if_neg hb)
    · by_cases hb : b = a
      · have z' := (if_pos hb).symm.trans z
        cases z'
        subst hb
        exact ⟨ha, by rw [List.length_map]; exact hl, vs, _, rv, ha⟩
      · have z' := (if_neg hb).symm.trans z
        cases z'
    · by_cases hb : b = a
      · exact hb
      · exact absurd (if_neg hb) z
end L2
namespace L2
open PySem PySem.Spec PyProof.Rows
noncomputable abbrev KOf {K : PySem.W.Frag} {h : Heap} (_ : K.In h) : PySem.W.Frag := K
theorem walk_of {l : PySem.W.OpenLaw} {n k : Nat} {q : Program} {loose : List Str} {XP : (Str → Option Value) → Heap → Prop} {YP : World → Heap → Prop} {d : DefRec} {K : Params → PySem.W.Frag} {CX : World → CXT} {sp : World → Sp} {x : Str}
    (hn : l.most = some n) (hn2 : n ≤ sizeLine) (hdf : d.params.defaults = []) (hr : Room k callerA)
    (hY : ∀ (w : World) (h : Heap), YP w h → (K w.params).In h)
    (F : ∀ (w : World) (mg : Str → Option Value) (fa : Addr) (h : Heap), (K w.params).In h → h.Ns mainGlobals mg → mg d.name = some (.ref fa) →
      ∃ fd : FuncData, (∀ (s : Shared) (u : Value), BindsTo s fd ⟨[u], []⟩ [(x, u)]) ∧
        ∀ base : Heap, (K w.params).In base → base.Ns mainGlobals mg → FnOk l.prog w (K w.params) mg base (CX w) k fa fd [x] (sp w))
    (hsp : ∀ (w : World) (H : Hp) (a : Addr) (ns : List Int), ns.length ≤ n → Only H → SqL (K w.params) H a (ns.map V.int) → sp w [.ref a] H (fun v _ => v = .bl true) fun _ _ _ => False)
    (hCX : ∀ (w : World) (H : Hp) (s : Shared) (e : Value) (s' : Shared), CX w [] H s (fun _ _ _ => False) e s' → False) :
    PySem.W.WalkO q loose XP YP l.row.toRowW d [] (fun f vs => PySem.call f vs) := by
  refine Att.attach_call hn hdf fun w s₀ s₁ mg mb fa o pm cd doc a vs ns G Y ho hd hcd hmg hobj hints hlen hg => ?_
  have KX := hY w _ Y
  obtain ⟨fd, hb, hF⟩ := F w mg fa _ KX G.T.g hmg
  exact law_call KX G.T.g G.T.b G.T.builtins G.T.nolimit hg hobj hints (Nat.le_trans hlen hn2) hr hF hb (fun H hO hS => hsp w H a ns hlen hO hS) fun H e s' => hCX w H s₁ e s'
end L2
/- THE LAST THEOREM (shape; LID, My.* are yours):
   My.Adr: a structure of the addresses that your layer names (classes, functions); My.Txt K t: a structure (Prop) of the equations over K;
   My.txt_mk : {K} {implicit addresses ..} (e1 : nsIn K mainGlobals "law" = some (some (.ref f))) (e2 : K.lookup f = some ⟨oc, od, .func (fnOf "law" "law" params body scope dV kV doc pm an cdv ct), sl⟩) (e3 : codeIn K cdv "law" = true) .. : ∃ t, My.Txt K t
set_option maxRecDepth 100000 in
set_option maxHeartbeats 0 in
theorem PySem.Challenge.cw_LID_holds : PySem.Challenge.rw_LID.Holds := by
  w_on; o_law; k_head; (case hw => w_witness2)
  k_fill
  refine L2.walk_of (l := PySem.Challenge.rw_LID) (n := 63) (k := 40) (x := "script") (CX := fun w => ..) (sp := fun _ => My.sp_law) rfl (by decide) rfl ⟨rfl, by decide, by decide⟩ (fun w h Y => PySem.W.kIn_of Y) ?F ?S ?C
  case F =>
    intro w mg fa h KX G hmg
    have T : ∃ t, My.Txt (L2.KOf KX) t := by
      dsimp only [L2.KOf]                          -- K must stand as «<heap const> w.params» for k_is
      refine' My.txt_mk ?e1 ?e2 ?e3 ..
      (case e1 => PySem.W.k_is)                    -- in the order: a name -> its address -> its object -> its parts
      (case e2 => PySem.W.k_is)
      ..
    obtain ⟨t, T⟩ := T
    have e0 := hmg.symm.trans (PySem.W.mg_of KX G T.law)
    cases e0                                       -- fa is the law's own address
    exact ⟨_, fun s u => .of_eq rfl, fun base kb nb => My.law_fn T kb nb⟩     -- if «.of_eq rfl» comes too early: refine' ⟨_, ?b, fun base kb nb => My.law_fn T kb nb⟩; exact fun s u => .of_eq rfl
  case S => exact fun w H a ns hl hO hS => ..
  case C => exact ..
(the tactic k_is has no namespace: write k_is) -/
namespace L2
open PySem PySem.Spec PyProof.Rows
noncomputable def defArgs (s : Stmt) : Arguments := match s with
  | .FunctionDef _ a _ _ _ _ _ _ _ _ => a
  | _ => { posonlyargs := [], args := [], vararg := none, kwonlyargs := [], kw_defaults := [], kwarg := none, defaults := [] }
noncomputable def defBody (s : Stmt) : List Stmt := match s with
  | .FunctionDef _ _ b _ _ _ _ _ _ _ => b
  | _ => []
noncomputable def defScope (s : Stmt) : Scope := match s with
  | .FunctionDef _ _ _ _ _ _ sc _ _ _ => sc
  | _ => { kind := .function, names := [], isGenerator := false, isCoroutine := false }
noncomputable abbrev CX0 : CXT := fun _ _ _ _ _ _ => False
noncomputable abbrev E0 : XK := fun _ _ _ => False
theorem pass0 {X : Cx} : Passes CX0 X E0 := fun _ _ _ _ _ _ _ h => h.elim
structure Fun (K : PySem.W.Frag) (x qual : Str) (st : Stmt) (f : Addr) (fd : FuncData) : Prop where
  ex : ∃ (oc : Value) (od : Option Addr) (kV doc pm : Value) (an : Option Addr) (cdv ct : Value) (osl : Array (Option Value)),
    fd = PySem.W.fnOf x qual (defArgs st) (defBody st) (defScope st) .none kV doc pm an cdv ct ∧ K.lookup f = some ⟨oc, od, .func fd, osl⟩ ∧ PySem.W.codeIn K cdv qual = true
  kp : PySem.W.keepIn K (.ref f) = true
section
variable {P : Program} {w : World} {K : PySem.W.Frag} {mg : Str → Option Value} {base : Heap}
theorem Fun.ok {x qual : Str} {st : Stmt} {f : Addr} {fd : FuncData} {N ps : List Str} {k : Nat} {sp : Sp} (F : Fun K x qual st f fd) (S : FnScope N ps (defScope st)) (len : ∀ vs H Q E, sp vs H Q E → vs.length = ps.length)
    (hbody : ∀ (cdv : Value) (A : Around) (outer : List Env) (s : Shared) (H : Hp) (vs : List V) (Q : VK) (E : XK), Room k (A.deeper (envOfC qual (defScope st) s.heap.objs.size f cdv)) → sp vs H Q E →
      ∃ t, PSs (cxOf CX0 P w K mg base N qual (defScope st) f cdv A outer s H E).nox (defBody st) t ∧ t { nx := fun _ H' => Q .non H', rt := Q } (start N vs) H) : FnOk P w K mg base CX0 (k + 1) f fd ps sp := by
  obtain ⟨oc, od, kV, doc, pm, an, cdv, ct, osl, rfl, lk, hcd⟩ := F.ex
  refine fn_of lk hcd S len fun A outer s H vs Q E hr hsp => ?_
  obtain ⟨t, h, q⟩ := hbody cdv A outer s H vs Q E hr hsp
  exact ⟨t, h.nox, q⟩
theorem Fun.binds {x qual : Str} {st : Stmt} {f : Addr} {fd : FuncData} {ps : List Str} (F : Fun K x qual st f fd)
    (h : ∀ (kV doc pm : Value) (an : Option Addr) (cdv ct : Value) (us : List Value), us.length = ps.length → bindArgs (PySem.W.fnOf x qual (defArgs st) (defBody st) (defScope st) .none kV doc pm an cdv ct) ⟨us, []⟩ = pure (ps.zip us)) : Binds K fd ps [] := by
  obtain ⟨oc, od, kV, doc, pm, an, cdv, ct, osl, rfl, lk, hcd⟩ := F.ex
  exact .all (h kV doc pm an cdv ct)
theorem fun_mk {x qual : Str} {st : Stmt} {f : Addr} {oc : Value} {od an : Option Addr} {osl : Array (Option Value)} {kV doc pm cdv ct : Value} (l : K.lookup f = some ⟨oc, od, .func (PySem.W.fnOf x qual (defArgs st) (defBody st) (defScope st) .none kV doc pm an cdv ct), osl⟩)
    (c : PySem.W.codeIn K cdv qual = true) (k : PySem.W.keepIn K (.ref f) = true) : Fun K x qual st f (PySem.W.fnOf x qual (defArgs st) (defBody st) (defScope st) .none kV doc pm an cdv ct) := ⟨⟨oc, od, kV, doc, pm, an, cdv, ct, osl, rfl, l, c⟩, k⟩
end
theorem hu_of {A : Around} {k : Nat} (hr : Room k A) : A.units + 1 < cLine := Nat.lt_of_le_of_lt (Nat.add_le_add_left (by decide : 1 ≤ 64) _) hr.units
theorem small1000 {n : Nat} (h : n ≤ 1000) : n < sizeLine := Nat.lt_of_le_of_lt h (by decide)
section
variable {X : Cx}
theorem pv (i : Nat) {x : Str} {pos : Pos} (hN : X.N[i]? = some x := by rfl) (hv : Vis X.env.scope x := by first | exact Or.inl rfl | exact Or.inr (Or.inl rfl) | exact Or.inr (Or.inr rfl)) (hd : (x == ("__debug__" : Str)) = false := by decide)
    (hcd : (x == ("__classdict__" : Str)) = false := by decide) : PE X (.Name x pos) (tVar i) := pe_var hN hv hd hcd
theorem call_lenD : CallR X (.builtin "len") (fun xs H Q => ∃ a kvs, xs = [V.ref a] ∧ H a = some (.dK kvs) ∧ Q (.int kvs.length) H) := by
  intro pins s σ H xs us Q I r h
  obtain ⟨a, kvs, rfl, ha, q⟩ := h
  obtain ⟨u, rfl, ru⟩ := vals1 r
  cases ru
  exact d_len I (.inl ha) fun t s' I' => ⟨.int kvs.length, H, I', ⟨t, rfl⟩, q⟩
end
theorem iteF {A B : Prop} (h : B) : if false = true then A else B := by
  rw [if_neg Bool.false_ne_true]
  exact h
theorem iteT {A B : Prop} (h : A) : if true = true then A else B := by
  rw [if_pos rfl]
  exact h
noncomputable def Same (H H' : Hp) : Prop := ∀ b o, H b = some o → H' b = some o
theorem Same.refl (H : Hp) : Same H H := fun _ _ h => h
theorem Same.trans {H H1 H2 : Hp} (a : Same H H1) (b : Same H1 H2) : Same H H2 := fun c o h => b c o (a c o h)
theorem Same.free {H H' : Hp} (e : Same H H') {l : Addr} (h : H' l = Option.none) : H l = Option.none := by
  cases q : H l with
  | none => rfl
  | some o =>
    rw [e l o q] at h
    cases h
theorem Same.seq {K : PySem.W.Frag} {H H' : Hp} {a : Addr} {xs : List V} (e : Same H H') (h : SqL K H a xs) : SqL K H' a xs := by
  rcases h with (h | ⟨o, h⟩) | h
  · exact .inl (.inl (e _ _ h))
  · exact .inl (.inr ⟨o, e _ _ h⟩)
  · exact .inr h
section
variable {κ : Type} [DecidableEq κ]
theorem valV_not {kvs : List (κ × V)} {k : κ} (h : valV kvs k = none) : ¬ k ∈ kvs.map (·.1) := by
  intro m
  obtain ⟨p, hp, e⟩ := List.mem_map.mp m
  have q : (kvs.any fun kv => decide (kv.1 = k)) = true := List.any_eq_true.mpr ⟨p, hp, decide_eq_true e⟩
  rw [valV_any, h] at q
  exact absurd q (by simp)
theorem nd_snoc {l : List κ} {k : κ} (h : l.Nodup) (n : ¬ k ∈ l) : (l ++ [k]).Nodup := List.nodup_append.mpr ⟨h, List.pairwise_singleton _ _, fun a ha b hb e => n (by rw [← List.mem_singleton.mp hb, ← e]; exact ha)⟩
theorem nd_putK {kvs : List (κ × V)} {k : κ} (v : V) (hn : (kvs.map (·.1)).Nodup) (h : valV kvs k = none) : ((putK kvs k v).map (·.1)).Nodup := by
  rw [putK_new v h, List.map_append]
  exact nd_snoc hn (valV_not h)
end
end L2
set_option Elab.async false
set_option linter.all false
set_option maxRecDepth 100000
namespace L2
open PySem PySem.Spec PyProof.Rows
structure BA where
  cl : List (Str × Addr)
  C : Addr
  s₀ : Shared
  H₀ : Hp
  ex : List Addr
noncomputable abbrev blk (X : Cx) (sc : Scope) (N : List Str) (b : BA) : Cx :=
  { prog := X.prog, w := X.w, K := X.K, mg := X.mg, base := X.base, A := X.A, N := N, s₀ := b.s₀, H₀ := b.H₀, env := compEnvC sc b.cl b.C X.env, outer := X.stack, stack := X.stack, ex := b.ex, fn := fun _ => false, calm := X.calm, pn := [], xe := fun _ _ => False }
noncomputable def closFrom (env : Env) : List (Str × Addr) → List (Str × NameKind) → List (Str × Addr)
  | acc, [] => acc
  | acc, (n, k) :: r => closFrom env (if k == .free then (match env.cells.lookup n with | some c => (n, c) :: acc | none => acc) else acc) r
theorem clos_run (env : Env) : ∀ (l : List (Str × NameKind)) (acc : List (Str × Addr)), (∀ y ∈ l, y.2 = .free → ∃ c, env.cells.lookup y.1 = some c) →
    (forIn l acc (fun (x : Str × NameKind) (cs : List (Str × Addr)) => (match x with
      | (name, kind) => if (kind == .free) = true then (do let a ← cellOf env name; pure (ForInStep.yield ((name, a) :: cs))) else pure (ForInStep.yield cs) : Sem (ForInStep (List (Str × Addr)))))) = (pure (closFrom env acc l) : Sem (List (Str × Addr))) := by
  intro l
  induction l with
  | nil => intro acc _; rfl
  | cons nk r ih =>
    obtain ⟨n, k⟩ := nk
    intro acc h
    have hr : ∀ y ∈ r, y.2 = .free → ∃ c, env.cells.lookup y.1 = some c := fun y hy => h y (List.mem_cons_of_mem _ hy)
    rw [List.forIn_cons]
    by_cases hk : k = .free
    · subst hk
      obtain ⟨c, hc⟩ := h (n, .free) List.mem_cons_self rfl
      have hc' : env.cells.lookup n = some c := hc
      simp only [beq_self_eq_true, if_true, closFrom, hc']
      have e : cellOf env n = pure c := by unfold cellOf; rw [hc']
      rw [e, pure_bind, pure_bind]
      exact ih _ hr
    · have hb : (k == NameKind.free) = false := by simpa using hk
      simp only [hb, Bool.false_eq_true, if_false, closFrom]
      rw [pure_bind]
      exact ih _ hr
theorem clos_eq {env : Env} {sc : Scope} (h : ∀ y ∈ sc.names, y.2 = .free → ∃ c, env.cells.lookup y.1 = some c) : closureFor sc env = pure (closFrom env [] sc.names) := by
  unfold closureFor
  exact (congrArg (fun m => m >>= fun cs => pure cs) (clos_run env sc.names [] h)).trans (pure_bind _ _)
theorem clos_sound {env : Env} : ∀ (l : List (Str × NameKind)) (acc : List (Str × Addr)), (∀ x c, acc.lookup x = some c → env.cells.lookup x = some c) →
    ∀ x c, (closFrom env acc l).lookup x = some c → env.cells.lookup x = some c := by
  intro l
  induction l with
  | nil => intro acc h x c e; exact h x c e
  | cons nk r ih =>
    obtain ⟨n, k⟩ := nk
    intro acc h x c e
    refine ih _ (fun y d q => ?_) x c e
    by_cases hk : (k == NameKind.free) = true
    · rw [if_pos hk] at q
      cases hl : env.cells.lookup n with
      | none => rw [hl] at q; exact h y d q
      | some a =>
        rw [hl] at q
        simp only [List.lookup_cons] at q
        by_cases hy : (y == n) = true
        · rw [hy] at q
          have e1 : y = n := by simpa using hy
          subst e1
          cases q
          exact hl
        · rw [Bool.not_eq_true] at hy
          rw [hy] at q
          exact h y d q
    · rw [if_neg hk] at q
      exact h y d q
theorem clos_grow {env : Env} : ∀ (l : List (Str × NameKind)) (acc : List (Str × Addr)) (x : Str), (acc.lookup x).isSome = true → ((closFrom env acc l).lookup x).isSome = true
  | [], acc, x, h => h
  | (n, k) :: r, acc, x, h => by
    refine clos_grow r _ x ?_
    by_cases hk : (k == NameKind.free) = true
    · rw [if_pos hk]
      cases env.cells.lookup n with
      | none => exact h
      | some a =>
        show (List.lookup x ((n, a) :: acc)).isSome = true
        rw [List.lookup_cons]
        by_cases hy : (x == n) = true
        · rw [hy]; rfl
        · rw [Bool.not_eq_true] at hy
          rw [hy]; exact h
    · rw [if_neg hk]; exact h
theorem clos_some {env : Env} (l : List (Str × NameKind)) (acc : List (Str × Addr)) (x : Str) (h : (x, NameKind.free) ∈ l) (q : ∃ c, env.cells.lookup x = some c) : ((closFrom env acc l).lookup x).isSome = true := by
  obtain ⟨c, hc⟩ := q
  induction l generalizing acc with
  | nil => cases h
  | cons p r ih =>
    rcases List.mem_cons.mp h with e | h
    · subst e
      refine clos_grow r _ x ?_
      rw [if_pos (beq_self_eq_true _), hc]
      show (List.lookup x ((x, c) :: acc)).isSome = true
      rw [List.lookup_cons, beq_self_eq_true]; rfl
    · exact ih _ h
theorem relab_free {env : Env} : ∀ (l : List (Str × NameKind)) (x : Str) (k : NameKind), (∀ y ∈ l, y.2 ≠ .cell) → k = .cell ∨ k = .free →
    (l.map fun (n, k) => if (k == NameKind.free && env.scope.kind == .function && env.kindOf n == some .cell) then (n, NameKind.cell) else (n, k)).lookup x = some k → (x, NameKind.free) ∈ l := by
  intro l
  induction l with
  | nil => intro _ _ _ _ h; simp at h
  | cons nk r ih =>
    obtain ⟨n, k'⟩ := nk
    intro x k hc hk h
    rw [List.map_cons] at h
    by_cases hx : (x == n) = true
    · have e1 : x = n := by simpa using hx
      subst e1
      by_cases hf : k' = .free
      · subst hf; exact List.mem_cons_self
      · exfalso
        have hb : (k' == NameKind.free) = false := by simpa using hf
        simp only [hb, Bool.false_and, Bool.false_eq_true, if_false, List.lookup_cons, beq_self_eq_true] at h
        have e2 : k' = k := Option.some.inj h
        rcases hk with z | z
        · exact hc (x, k') List.mem_cons_self (e2.trans z)
        · exact hf (e2.trans z)
    · rw [Bool.not_eq_true] at hx
      refine List.mem_cons_of_mem _ (ih x k (fun y hy => hc y (List.mem_cons_of_mem _ hy)) hk ?_)
      by_cases hq : (k' == NameKind.free && env.scope.kind == .function && env.kindOf n == some .cell) = true
      · simp only [hq, if_true, List.lookup_cons, hx] at h; exact h
      · rw [Bool.not_eq_true] at hq
        simp only [hq, Bool.false_eq_true, if_false, List.lookup_cons, hx] at h; exact h
theorem relab_of_free {env : Env} : ∀ (l : List (Str × NameKind)) (x : Str), l.lookup x = some .free →
    ∃ k, (k = NameKind.cell ∨ k = NameKind.free) ∧ (l.map fun (n, k) => if (k == NameKind.free && env.scope.kind == .function && env.kindOf n == some .cell) then (n, NameKind.cell) else (n, k)).lookup x = some k := by
  intro l
  induction l with
  | nil => intro _ h; simp at h
  | cons nk r ih =>
    obtain ⟨n, k'⟩ := nk
    intro x h
    rw [List.map_cons]
    by_cases hx : (x == n) = true
    · simp only [List.lookup_cons, hx] at h
      have e2 : k' = .free := Option.some.inj h
      subst e2
      by_cases hq : (NameKind.free == NameKind.free && env.scope.kind == .function && env.kindOf n == some .cell) = true
      · exact ⟨.cell, .inl rfl, by simp only [hq, if_true, List.lookup_cons, hx]⟩
      · rw [Bool.not_eq_true] at hq
        exact ⟨.free, .inr rfl, by simp only [hq, Bool.false_eq_true, if_false, List.lookup_cons, hx]⟩
    · rw [Bool.not_eq_true] at hx
      simp only [List.lookup_cons, hx] at h
      obtain ⟨k, hk, e⟩ := ih x h
      refine ⟨k, hk, ?_⟩
      by_cases hq : (k' == NameKind.free && env.scope.kind == .function && env.kindOf n == some .cell) = true
      · simp only [hq, if_true, List.lookup_cons, hx]; exact e
      · rw [Bool.not_eq_true] at hq
        simp only [hq, Bool.false_eq_true, if_false, List.lookup_cons, hx]; exact e
theorem mem_of_look {l : List (Str × NameKind)} {x : Str} {k : NameKind} : l.lookup x = some k → (x, k) ∈ l := by
  induction l with
  | nil => intro h; simp at h
  | cons p r ih =>
    intro h
    obtain ⟨n, k'⟩ := p
    by_cases hx : (x == n) = true
    · simp only [List.lookup_cons, hx] at h
      have e1 : x = n := by simpa using hx
      subst e1
      cases h
      exact List.mem_cons_self
    · rw [Bool.not_eq_true] at hx
      simp only [List.lookup_cons, hx] at h
      exact List.mem_cons_of_mem _ (ih h)
section
variable {prog : Program} {w : World} {A : Around} {E : Value → Shared → Prop} {R : Result → Shared → Prop} {s : Shared}
noncomputable abbrev NoX : Value → Shared → Prop := fun _ _ => False
theorem comp_turns {elt target iter : Expr} {ifs : List Expr} {scope : Scope} {pos : Pos} {it acc : Value} {env : Env} (J : Nat → Shared → Prop)
    (turn : ∀ n s, J n s → wpAny (model prog w) A (pyNext it) (fun r s₁ => (r = none ∧ R (.ok .next) s₁) ∨ ∃ v, r = some v ∧
      wpAny (model prog w) A (letOwnedTupleGo target it v) (fun _ s₁' => wpAny (model prog w) A (assign target env v) (fun _ s₂ =>
        wpAny (model prog w) A (forIn ifs true fun c r => if r = true then do let ok ← isTrue c env (eval c env); pure (ForInStep.yield ok) else pure (ForInStep.yield r)) (fun ok s₃ =>
          (ok = true → wpAny (model prog w) A (eval elt env) (fun x s₄ => wpAny (model prog w) A (call (.builtin "list.append") [acc, x]) (fun _ s₅ => ∃ m, m < n ∧ J m s₅) NoX s₄) NoX s₃) ∧
          (ok = false → ∃ m, m < n ∧ J m s₃)) NoX s₂) NoX s₁') NoX s₁) NoX s)
    (n : Nat) (h : J n s) : codeAny (model prog w) A (.compLoop (.ListComp elt [⟨target, iter, ifs, 0⟩] scope pos) 0 it acc env) R s := by
  refine codeAny_loop (M := model prog w) (A := A) rfl J (fun n s hJ => ?_) n h
  refine wpAny_noted (m := compTurn (.ListComp elt [⟨target, iter, ifs, 0⟩] scope pos) 0 it acc env) ?_
  rw [compTurn_list]
  refine wpAny_bind (wpAny_standAt (wpAny_bind (wpAny_mono (turn n s hJ) (fun r s₁ q => ?_) fun _ _ z => z.elim)))
  rcases q with ⟨e, q⟩ | ⟨v, e, q⟩
  · subst e
    exact wpAny_pure q
  · subst e
    refine wpAny_bind (wpAny_mono q (fun _ s₂ q => ?_) fun _ _ z => z.elim)
    refine wpAny_bind (wpAny_mono q (fun _ s₃ q => ?_) fun _ _ z => z.elim)
    refine wpAny_bind (wpAny_mono q (fun ok s₄ q => ?_) fun _ _ z => z.elim)
    cases ok with
    | false => exact wpAny_pure ⟨rfl, q.2 rfl⟩
    | true =>
      refine wpAny_bind (wpAny_bind (wpAny_mono (q.1 rfl) (fun x s₅ q => ?_) fun _ _ z => z.elim))
      exact wpAny_bind (wpAny_mono q (fun _ s₆ q => wpAny_pure (wpAny_pure ⟨rfl, q⟩)) fun _ _ z => z.elim)
end
noncomputable def PIf (X : Cx) (ifs : List Expr) (t : TT) : Prop :=
  ∀ (pins : List (Addr × Obj)) (s : Shared) (σ : St) (H : Hp) (Q : Bool → Hp → Prop), Inv X pins σ H s → t σ H Q →
    wpAny (model X.prog X.w) X.A (forIn ifs true fun c r => if r = true then do let ok ← isTrue c X.env (eval c X.env); pure (ForInStep.yield ok) else pure (ForInStep.yield r)) (TP X pins σ Q) X.xe s
noncomputable def tYes : TT := fun _ H Q => Q true H
theorem pif_nil {X : Cx} : PIf X [] tYes := fun _ _ _ H _ I h => wpAny_tests_nil ⟨H, I, h⟩
theorem pif_one {X : Cx} {c : Expr} {t : TT} (h : PT X c t) : PIf X [c] t := fun pins s σ H Q I hw => wpAny_tests_one (h pins s σ H Q I hw)
noncomputable def pick (σ : St) (js : List (Option Nat)) : St := js.map fun j => j.bind fun i => (σ[i]?).join
noncomputable def Kept (σ σ' : St) : Prop := σ'.length = σ.length ∧ ∀ (i : Nat) v, σ[i]? = some (some v) → σ'[i]? = some (some v)
noncomputable def CompB (J : It) (H1 : Hp) (js : List (Option Nat)) (g : TG) (tc : TT) (te : TE) (σ : St) (Q : VK) : Prop := ∀ acc, H1 acc = none →
  ∃ W : Nat → Nat → List V → Hp → Prop, (∃ m, W 0 m [] (upd H1 acc (.lst []))) ∧ ∀ i m ys H, W i m ys H →
    (J.stop i H ∧ Q (.ref acc) H) ∨ (J.go i H ∧ ∃ N : List V → Hp → Prop, (∀ ys' H', N ys' H' → ∃ m', m' < m ∧ W (i + 1) m' ys' H') ∧
      ∀ x H', J.yld i H x H' → g x (pick σ js) H' fun σ2 H2 => Kept (pick σ js) σ2 ∧ tc σ2 H2 fun b H3 =>
        (b = true → te σ2 H3 fun y H4 => H4 acc = some (.lst ys) ∧ ys.length < sizeLine ∧ N (ys ++ [y]) (upd H4 acc (.lst (ys ++ [y])))) ∧ (b = false → N ys H3))
noncomputable def tComp (wi : TI) (js : List (Option Nat)) (g : TG) (tc : TT) (te : TE) : TE := fun σ H Q => wi σ H fun J H1 => CompB J H1 js g tc te σ Q
theorem Un.but {fs ex : List Addr} {H H1 : Hp} {h h1 h2 : Heap} (u : Un fs ex H H1 h h1) (k : ∀ b o, h.get? b = some o → ∀ o', h1.get? b = some o' → h2.get? b = some o') : Un fs ex H H1 h h2 where
  keep := fun b o e n h1 h2 => k b o e _ (u.keep b o e n h1 h2)
  slot := fun b o e n h1 h2 => let ⟨sl, q⟩ := u.slot b o e n h1 h2; ⟨sl, k b o e _ q⟩
  free := u.free
  there := fun b o e hx => let ⟨o', q⟩ := u.there b o e hx; ⟨o', k b o e _ q⟩
  tups := u.tups
  frzs := u.frzs
  tbls := u.tbls
theorem stays_but {P : Program} {w : World} {H : Hp} {h h' : Heap} {C : Addr} (ok : HOk P w H h) (hn : H C = none) (k : ∀ b o, b ≠ C → h.get? b = some o → h'.get? b = some o) : HOk P w H h' := fun b o e => by
  refine (ok b o e).stay (fun c u hc q => k c u ?_ q) (fun _ q => q) fun _ _ q => q
  rintro rfl
  rcases hc with z | z
  · rw [z] at hn; rw [hn] at e; cases e
  · rw [hn] at z; cases z
theorem pair_get {α β : Type} {F : α → β → Prop} : ∀ {l : List α} {r : List β} {i : Nat} {b : β}, Paired F l r → r[i]? = some b → ∃ a, l[i]? = some a ∧ F a b := by
  intro l r i b h
  induction h generalizing i with
  | nil => intro e; simp at e
  | cons r t ih =>
    intro e
    cases i with
    | zero => cases e; exact ⟨_, rfl, r⟩
    | succ i => exact ih e
theorem blk_ok {X : Cx} {pins : List (Addr × Obj)} {σ : St} {H : Hp} {s : Shared} {sc : Scope} {N : List Str} {fp : List Addr} (I : Inv X pins σ H s) (hk : sc.kind = .function)
    (hcell : ∀ y ∈ sc.names, y.2 ≠ .cell) (hcl : ∀ y ∈ sc.names, y.2 = .free → ∃ c, X.env.cells.lookup y.1 = some c) (f : ∀ b ∈ fp, FpOk X pins H b) (fl : ∀ b ∈ fp, b < s.heap.objs.size) :
    (blk X sc N ⟨closFrom X.env [] sc.names, s.heap.objs.size, s, H, fp⟩).Ok where
  mod := I.ok.mod
  kind := hk
  glob := I.ok.glob
  blt := I.ok.blt
  above := Nat.le_refl _
  inj := fun x y c e1 e2 => I.ok.inj x y c (clos_sound _ [] (fun _ _ z => by simp at z) x c e1) (clos_sound _ [] (fun _ _ z => by simp at z) y c e2)
  has := fun x hx => by
    have m : (x, NameKind.free) ∈ sc.names := by
      rcases hx with z | z
      · exact relab_free (env := X.env) sc.names x _ hcell (.inl rfl) z
      · exact relab_free (env := X.env) sc.names x _ hcell (.inr rfl) z
    exact Option.isSome_iff_exists.mp (clos_some sc.names [] x m (hcl _ m rfl))
  cab := fun _ _ z => by cases z
  hd := I.ok.hd
  frames := I.ok.frames
  stk := .inl rfl
  exf := fun b hb => ⟨Nat.ne_of_lt (fl b hb), fun x c e => (f b hb).2.2.2.2.1 x c (clos_sound _ [] (fun _ _ z => by simp at z) x c e)⟩
  bs := I.bs
  bsz := Nat.le_trans I.ok.bsz I.sz
  noex := fun b o e hb => by
    rcases (f b hb).2.2.2.1 with z | z
    · exact I.ok.noex b o e z
    · exact absurd (Nat.lt_of_lt_of_le (Heap.lt_size (I.ok.bs b o e).1) z) (Nat.lt_irrefl _)
  exfs := fun b hb hs => by
    rcases List.mem_cons.mp (I.stkSub b hs) with z | z
    · exact (f b hb).2.1 z
    · exact (f b hb).2.2.1 z
  funs := I.stack
  frf := I.stkFree
theorem blk_inv {X : Cx} {pins : List (Addr × Obj)} {σ : St} {H : Hp} {s s4 : Shared} {sc : Scope} {N : List Str} {js : List (Option Nat)} {fp : List Addr} {m : Str → Option Value} (I : Inv X pins σ H s)
    (ok : (blk X sc N ⟨closFrom X.env [] sc.names, s.heap.objs.size, s, H, fp⟩).Ok) (hfree : ∀ y ∈ sc.names, y.2 = .free → X.env.kindOf y.1 = some .cell ∨ X.env.kindOf y.1 = some .free)
    (hN : Paired (fun (j : Option Nat) n => ∀ i, j = some i → X.N[i]? = some n ∧ sc.names.lookup n = some .free) js N)
    (ho : s4.os = s.os) (hg : s4.gens = s.gens) (ns : s4.heap.Ns s.heap.objs.size m) (kp : ∀ b u, s.heap.get? b = some u → s4.heap.get? b = some u) :
    Inv (blk X sc N ⟨closFrom X.env [] sc.names, s.heap.objs.size, s, H, fp⟩) [] (pick σ js) H s4 where
  ok := ok
  os := ho
  bare := by rw [hg]; exact I.bare
  base := Un.kept kp
  loc := by
    refine ⟨m, ns, fun i x v e1 e2 e3 => ?_⟩
    have e1' : N[i]? = some x := e1
    obtain ⟨j, ej, fj⟩ := pair_get hN e1'
    unfold pick at e2
    rw [List.getElem?_map, ej] at e2
    cases j with
    | none => cases e2
    | some k =>
      obtain ⟨a1, a2⟩ := fj k rfl
      have e2' : (σ[k]?).join = some v := Option.some.inj e2
      have e4 : σ[k]? = some (some v) := by
        cases z : σ[k]? with
        | none => rw [z] at e2'; cases e2'
        | some y => rw [z] at e2'; exact congrArg some e2'
      have mem := mem_of_look a2
      have kn := hfree _ mem rfl
      have vis : Vis X.env.scope x := .inr kn
      obtain ⟨m', hn', hl'⟩ := I.loc
      obtain ⟨u, ru, lk⟩ := hl' k x v a1 e4 vis
      refine ⟨u, ru, .inr ⟨?_, ?_⟩⟩
      · obtain ⟨k', hk', e⟩ := relab_of_free (env := X.env) sc.names x a2
        rcases hk' with z | z
        · subst z; exact .inl e
        · subst z; exact .inr e
      · rcases lk with ⟨z, _⟩ | ⟨_, c, hc, hcl⟩
        · rcases kn with q | q
          · have q' : X.env.kindOf x = some .cell := q
            rw [z] at q'; cases q'
          · have q' : X.env.kindOf x = some .free := q
            rw [z] at q'; cases q'
        · obtain ⟨c', e'⟩ := Option.isSome_iff_exists.mp (clos_some (env := X.env) sc.names [] x mem ⟨c, hc⟩)
          have e2 := clos_sound sc.names [] (fun _ _ z => by simp at z) x c' e'
          rw [hc] at e2
          cases e2
          obtain ⟨o, h1, h2⟩ := hcl
          exact ⟨c, e', o, kp c o h1, h2⟩
  cell := fun x c e => by
    obtain ⟨v, o, h1, h2⟩ := I.cell x c (clos_sound _ [] (fun _ _ z => by simp at z) x c e)
    exact ⟨v, o, kp c o h1, h2⟩
  free := I.hok.fresh (Nat.le_refl _)
  freeC := fun x c e => I.freeC x c (clos_sound _ [] (fun _ _ z => by simp at z) x c e)
  pin := fun p hp => by cases hp
  hok := I.hok.kept kp
  len := by
    unfold pick
    rw [List.length_map]
    exact Paired.length hN
set_option maxHeartbeats 4000000 in
theorem lcomp_core {X : Cx} {cpos : Pos} {use : Option (Value → Sem Unit)} {R : Value → Shared → Prop} {pins : List (Addr × Obj)} {s : Shared} {σ : St} {H : Hp} {Q : VK} {elt iter tg : Expr} {ifs : List Expr} {sc : Scope} {pos : Pos} {wi : TI} {g : TG} {tc : TT} {te : TE} (N : List Str) (js : List (Option Nat))
    (hcalm : X.calm = true) (hi : PI X tg iter wi) (hg : ∀ b, PG (blk X sc N b) tg g) (hc : ∀ b, PIf (blk X sc N b) ifs tc) (he : ∀ b, PE (blk X sc N b) elt te)
    (hN : Paired (fun (j : Option Nat) n => ∀ i, j = some i → X.N[i]? = some n ∧ sc.names.lookup n = some .free) js N)
    (hk : sc.kind = .function)
    (hcell : (sc.names.all fun y => y.2 != .cell) = true)
    (hfree : (sc.names.all fun y => y.2 != .free || (X.env.scope.names.lookup y.1 == some .cell || X.env.scope.names.lookup y.1 == some .free)) = true)
    (hnames : (sc.names.all fun y => y.2 != .local || sc.names.lookup y.1 == some .local) = true)
    (hs : ∀ x, foldedSetIterable iter X.env x = pure x) (I : Inv X pins σ H s) (h : tComp wi js g tc te σ H Q)
    (fin0 : ∀ (l C : Addr) (s' : Shared) (H' : Hp) (m : Str → Option Value), Inv X pins σ H' s' → s'.heap.Ns C m → H' C = none → X.env.locals ≠ C → X.s₀.heap.objs.size ≤ C → (∀ x c, X.env.cells.lookup x = some c → c ≠ C) → (∀ p ∈ X.pn ++ pins, p.1 ≠ C) → Q (.ref l) H' → compPost (model X.prog X.w) X.A X.xe use R (.ref l) C (.ok .next) s') :
    wpAny (model X.prog X.w) X.A (comprehension (.ListComp elt [⟨tg, iter, ifs, 0⟩] sc pos) sc X.env cpos (newList []) false (eval iter X.env) use) R X.xe s := by
  have hcell' : ∀ y ∈ sc.names, y.2 ≠ .cell := fun y hy => by simpa using List.all_eq_true.mp hcell y hy
  have hfree' : ∀ y ∈ sc.names, y.2 = .free → X.env.kindOf y.1 = some .cell ∨ X.env.kindOf y.1 = some .free := fun y hy e => by
    have q := List.all_eq_true.mp hfree y hy
    rw [e] at q
    have q' : X.env.scope.names.lookup y.1 = some .cell ∨ X.env.scope.names.lookup y.1 = some .free := by simpa using q
    exact q'
  have hnames' : ∀ y ∈ sc.names, y.2 = .local → sc.names.lookup y.1 = some .local := fun y hy e => by
    have q := List.all_eq_true.mp hnames y hy
    rw [e] at q
    simpa using q
  have hcl : ∀ y ∈ sc.names, y.2 = .free → ∃ c, X.env.cells.lookup y.1 = some c := fun y hy e => I.ok.has y.1 (hfree' y hy e)
  refine wpAny_comprehension_free (use := use) (g := ⟨tg, iter, ifs, 0⟩) (gs := []) rfl hs (clos_eq hcl) hk hnames' ?_
  refine thn (hi pins s σ H _ I h) fun v s1 h1 => thn h1 fun itv s2 h2 => ?_
  obtain ⟨it, fp, tn, J, H2, e, I2, T, st2, f2, q⟩ := h2
  subst e
  obtain ⟨W, ⟨m0, w0⟩, step⟩ := q _ I2.fresh
  refine wpAny_newObj_type (wpAny_newFunctionEnv hcell' (by intro y hy; simp at hy) (fun h₁ hns hsb => ?_) hk)
  dsimp only at hns hsb ⊢
  have I3 : Inv X pins σ (upd H2 s2.heap.objs.size (.lst [])) { s2 with heap := s2.heap.push { cls := .type "list", data := .seq ([] : List Value).toArray }, toks := s2.toks } := I2.lnew .nil (Nat.zero_le _)
  generalize hs3 : ({ s2 with heap := s2.heap.push { cls := .type "list", data := .seq ([] : List Value).toArray }, toks := s2.toks } : Shared) = s3 at I3
  generalize hH3 : upd H2 s2.heap.objs.size (.lst []) = H3 at I3 w0
  have es3 : s3.heap = s2.heap.push { cls := .type "list", data := .seq ([] : List Value).toArray } := by rw [← hs3]
  have hC : (s2.heap.push { cls := .type "list", data := .seq ([] : List Value).toArray }).objs.size = s3.heap.objs.size := by rw [es3]
  have f3 : ∀ b ∈ fp, FpOk X pins H3 b := fun b hb => ⟨by rw [← hH3, upd_ne (Nat.ne_of_lt (by obtain ⟨o, e, _⟩ := T.obj _ _ st2 b hb; exact Heap.lt_size e))]; exact (f2 b hb).1, (f2 b hb).2⟩
  have fl3 : ∀ b ∈ fp, b < s3.heap.objs.size := fun b hb => by
    obtain ⟨o, e, _⟩ := T.obj _ _ st2 b hb
    rw [es3, Heap.size_push]
    exact Nat.lt_succ_of_lt (Heap.lt_size e)
  have ok := blk_ok (N := N) (sc := sc) (fp := fp) I3 hk hcell' hcl f3 fl3
  have k23 : ∀ b u, s2.heap.get? b = some u → s3.heap.get? b = some u := fun b u e => by rw [es3]; exact Heap.get?_push_of_some _ e
  have k34 : ∀ b u, s3.heap.get? b = some u → h₁.get? b = some u := fun b u e => by
    rw [hC] at hsb
    refine (hsb.2 b (Nat.ne_of_lt (Heap.lt_size e))).trans (Heap.get?_push_of_some _ ?_)
    rw [← es3]; exact e
  have I4 := blk_inv (s4 := { s2 with heap := h₁, toks := s2.toks + ([] : List (Str × Value)).length }) (js := js) I3 ok hfree' hN (by rw [← hs3]) (by rw [← hs3]) (by rw [← hC]; exact hns) k34
  have st4 : tn 0 h₁ := T.keep _ _ _ st2 fun b _ o e => k34 b o (k23 b o e)
  generalize hs4 : ({ s2 with heap := h₁, toks := s2.toks + ([] : List (Str × Value)).length } : Shared) = s4 at I4
  have eh4 : s4.heap = h₁ := by rw [← hs4]
  rw [hC]
  generalize hB : (⟨closFrom X.env [] sc.names, s3.heap.objs.size, s3, H3, fp⟩ : BA) = B at ok I4
  have eC : B.C = s3.heap.objs.size := by rw [← hB]
  have stat : ∀ {H' : Hp}, (∀ b ∈ fp, H' b = none) → ∀ b ∈ fp, FpOk (blk X sc N B) [] H' b := fun hn b hb => by
    refine ⟨hn b hb, ?_, fun z => ?_, .inl (by rw [← hB]; exact hb), fun x c e => (ok.exf b (by rw [← hB]; exact hb)).2 x c e, fun p hp => by cases hp⟩
    · exact (ok.exf b (by rw [← hB]; exact hb)).1
    · exact ok.exfs b (by rw [← hB]; exact hb) z
  have fin : ∀ {s' : Shared} {H' : Hp} {σ' : St}, Inv (blk X sc N B) [] σ' H' s' → Q (.ref s2.heap.objs.size) H' →
      compPost (model X.prog X.w) X.A X.xe use R (.ref s2.heap.objs.size) s3.heap.objs.size (.ok .next) s' := fun {s' H' σ'} I' q' => by
    obtain ⟨m, hm, _⟩ := id I'.loc
    have hm' : s'.heap.Ns s3.heap.objs.size m := by rw [← eC]; exact hm
    have u1 : Un (frs X.stack) fp H2 H3 s2.heap s3.heap := by rw [← hH3]; exact Un.laid k23 (Nat.le_refl _) I2.fresh
    have u2 : Un (frs X.stack) fp H3 H' s3.heap s'.heap := by
      have z := I'.base
      rw [← hB] at z
      exact z
    have fr' : H' s3.heap.objs.size = none := by rw [← eC]; exact I'.free
    have os' : s'.os = s2.os := by
      have z := I'.os
      rw [← hB] at z
      rw [z, ← hs3]
    have Io : Inv X pins σ H' s' := I2.call' (s' := s') (ch := fp) os' (u1.trans u2) I'.hok I'.bare fun b hb => ⟨(f2 b hb).2.2.2.1, (f2 b hb).2.1, (f2 b hb).2.2.2.2.1, (f2 b hb).2.2.2.2.2⟩
    have ltC : s2.heap.objs.size < s3.heap.objs.size := by rw [es3, Heap.size_push]; exact Nat.lt_succ_self _
    have cC : ∀ x c, X.env.cells.lookup x = some c → c ≠ s3.heap.objs.size := fun x c e z => by
      obtain ⟨v, q⟩ := I2.cell x c e
      exact absurd q.lt (by rw [z]; exact Nat.not_lt.mpr (Nat.le_of_lt ltC))
    exact fin0 _ _ s' H' m Io hm' fr' (Nat.ne_of_lt (Nat.lt_trans I2.lt ltC)) (Nat.le_trans I2.sz (Nat.le_of_lt ltC)) cC (fun p hp z => absurd (Heap.lt_size (I2.pin p hp).1) (by rw [z]; exact Nat.not_lt.mpr (Nat.le_of_lt ltC))) q'
  have loop : codeAny (model X.prog X.w) X.A (.compLoop (.ListComp elt [⟨tg, iter, ifs, 0⟩] sc pos) 0 (.ref it) (.ref s2.heap.objs.size) (blk X sc N B).env)
      (compPost (model X.prog X.w) X.A X.xe use R (.ref s2.heap.objs.size) s3.heap.objs.size) s4 := by
    refine comp_turns (fun n s' => ∃ i ys σ' H', Inv (blk X sc N B) [] σ' H' s' ∧ Kept (pick σ js) σ' ∧ tn i s'.heap ∧ (∀ b ∈ fp, H' b = none) ∧ W i n ys H') ?_ m0
      ⟨0, [], pick σ js, H3, I4, ⟨rfl, fun _ _ z => z⟩, by rw [eh4]; exact st4, fun b hb => (f3 b hb).1, w0⟩
    rintro n s5 ⟨i, ys, σ5, H5, I5', kp5, st5, fr5, w5⟩
    have I5 : Inv (blk X sc N B) [] (pick σ js) H5 s5 := I5'.weak kp5.1.symm kp5.2
    rcases step i n ys H5 w5 with ⟨stop, qn⟩ | ⟨go, N', hN', turn⟩
    · refine thn (T.done (blk X sc N B) rfl rfl rfl hcalm i [] s5 _ H5 NoX I5 (stat fr5) st5 stop) fun r s6 ⟨hr, I6⟩ => .inl ⟨hr, fin I6 qn⟩
    · refine thn (T.item (blk X sc N B) rfl rfl rfl hcalm i [] s5 _ H5 NoX I5 (stat fr5) st5 go) fun r s6 ⟨u, hr, h6⟩ => .inr ⟨u, hr, ?_⟩
      refine thn h6 fun _ s7 hq__ => ?_
      obtain ⟨x, H7, I7, r7, y7, st7, fr7⟩ := hq__
      have I7' := I7.pinned (stat fr7) (T.obj _ _ st7)
      have back : ∀ {σ8 : St} {H8 : Hp} {s8 : Shared}, Inv (blk X sc N B) ([] ++ pinsAt fp s7.heap) σ8 H8 s8 → tn (i + 1) s8.heap ∧ ∀ b ∈ fp, H8 b = none := fun {σ8 H8 s8} I8 => by
        refine ⟨T.keep _ _ _ st7 fun b hb o e => (I8.pin (b, o) (List.mem_append_right _ (List.mem_append_right _ (mem_pinsAt hb e)))).1, fun b hb => ?_⟩
        obtain ⟨o, e, d⟩ := T.obj _ _ st7 b hb
        exact (I8.pin (b, o) (List.mem_append_right _ (List.mem_append_right _ (mem_pinsAt hb e)))).2.1
      refine thn (hg B _ s7 _ H7 x u _ I7' r7 (turn x H7 y7)) fun _ s8 hq__ => ?_
      obtain ⟨σ8, H8, I8, kp8, q8⟩ := hq__
      refine thn (hc B _ s8 σ8 H8 _ I8 q8) fun ok s9 ⟨H9, I9, q9⟩ => ⟨fun e => ?_, fun e => ?_⟩
      · refine thn (he B _ s9 σ8 H9 _ I9 (q9.1 e)) fun yv s10 hq__ => ?_
        obtain ⟨y, H10, I10, r10, q10⟩ := hq__
        obtain ⟨e10, l10, n10⟩ := q10
        refine thn (mt_append _ s10 σ8 H10 (.ref s2.heap.objs.size) [y] _ _ (fun _ H' => N' (ys ++ [y]) H') I10 rfl (.cons r10 .nil) ⟨_, ys, y, rfl, rfl, e10, l10, n10⟩) fun _ s11 hq__ => ?_
        obtain ⟨_, H11, I11, _, q11⟩ := hq__
        obtain ⟨m', hm, w11⟩ := hN' _ _ q11
        obtain ⟨st11, fr11⟩ := back I11
        exact ⟨m', hm, i + 1, ys ++ [y], σ8, H11, I11.unpinned, kp8, st11, fr11, w11⟩
      · obtain ⟨m', hm, w11⟩ := hN' _ _ (q9.2 e)
        obtain ⟨st11, fr11⟩ := back I9
        exact ⟨m', hm, i + 1, ys, σ8, H9, I9.unpinned, kp8, st11, fr11, w11⟩
  have env_eq : (blk X sc N B).env = compEnvC sc (closFrom X.env [] sc.names) s3.heap.objs.size X.env := by rw [← hB]
  rw [env_eq] at loop
  have st4' : tn 0 s4.heap := by rw [eh4]; exact st4
  exact codeAny_compStart_list loop (T.self X.A 0 _ _ _ st4' loop)
theorem pe_lcomp {X : Cx} {elt iter tg : Expr} {ifs : List Expr} {sc : Scope} {pos : Pos} {wi : TI} {g : TG} {tc : TT} {te : TE} (N : List Str) (js : List (Option Nat))
    (hcalm : X.calm = true) (hi : PI X tg iter wi) (hg : ∀ b, PG (blk X sc N b) tg g) (hc : ∀ b, PIf (blk X sc N b) ifs tc) (he : ∀ b, PE (blk X sc N b) elt te)
    (hN : Paired (fun (j : Option Nat) n => ∀ i, j = some i → X.N[i]? = some n ∧ sc.names.lookup n = some .free) js N)
    (hk : sc.kind = .function := by rfl)
    (hcell : (sc.names.all fun y => y.2 != .cell) = true := by rfl)
    (hfree : (sc.names.all fun y => y.2 != .free || (X.env.scope.names.lookup y.1 == some .cell || X.env.scope.names.lookup y.1 == some .free)) = true := by rfl)
    (hnames : (sc.names.all fun y => y.2 != .local || sc.names.lookup y.1 == some .local) = true := by rfl)
    (hs : ∀ x, foldedSetIterable iter X.env x = pure x := by intro _; rfl) : PE X (.ListComp elt [⟨tg, iter, ifs, 0⟩] sc pos) (tComp wi js g tc te) := by
  intro pins s σ H Q I h
  rw [eval_ListComp]
  exact lcomp_core (use := none) N js hcalm hi hg hc he hN hk hcell hfree hnames hs I h fun l C s' H' m Io hm fr lC sz cC pC q' => ⟨m, hm, fun h' sb' => ⟨.ref l, H', Io.turned (t' := s'.toks) (it := C) (fun b o hb e => (sb'.2 b hb).trans e) fr lC.symm (.inr sz) cC pC, rfl, q'⟩⟩
end L2
set_option Elab.async false
set_option linter.all false
set_option maxRecDepth 100000
namespace L2
open PySem PySem.Spec PyProof.Rows
theorem ps_setC {X : Cx} {i₀ : Nat} {y₀ : Str} {py spos : Pos} {elt iter tg : Expr} {ifs : List Expr} {sc : Scope} {pos : Pos} {wi : TI} {g : TG} {tc : TT} {te : TE} (hN₀ : X.N.Nodup) (hi₀ : X.N[i₀]? = some y₀) (hx₀ : Loc X.env.scope y₀) (N : List Str) (js : List (Option Nat))
    (hcalm : X.calm = true) (hi : PI X tg iter wi) (hg : ∀ b, PG (blk X sc N b) tg g) (hc : ∀ b, PIf (blk X sc N b) ifs tc) (he : ∀ b, PE (blk X sc N b) elt te)
    (hN : Paired (fun (j : Option Nat) n => ∀ i, j = some i → X.N[i]? = some n ∧ sc.names.lookup n = some .free) js N)
    (hk : sc.kind = .function := by rfl)
    (hcell : (sc.names.all fun y => y.2 != .cell) = true := by rfl)
    (hfree : (sc.names.all fun y => y.2 != .free || (X.env.scope.names.lookup y.1 == some .cell || X.env.scope.names.lookup y.1 == some .free)) = true := by rfl)
    (hnames : (sc.names.all fun y => y.2 != .local || sc.names.lookup y.1 == some .local) = true := by rfl)
    (hs : ∀ x, foldedSetIterable iter X.env x = pure x := by intro _; rfl) (hsw : swapsWith (.ListComp elt [⟨tg, iter, ifs, 0⟩] sc pos) (some (.Name y₀ py)) spos.line X.env = pure true := by rfl)
    (hf₀ : X.fn y₀ = true ∨ X.env.scope.names.lookup y₀ = some .local := by first | exact .inl rfl | exact .inr rfl | assumption) : PS X (.Assign [.Name y₀ py] (.ListComp elt [⟨tg, iter, ifs, 0⟩] sc pos) spos) (tAsg (tComp wi js g tc te) (gName i₀)) := by
  intro pins s σ H D I h
  rw [exec_Assign_Name_used _ _ _ _ hsw]
  refine wpAny_bind (wpAny_standAt (wpAny_bind ?_))
  show wpAny _ X.A (do let _ ← comprehension (.ListComp elt [⟨tg, iter, ifs, 0⟩] sc pos) sc X.env _ (newList []) false (eval iter X.env) (some (assign (.Name y₀ py) X.env))) _ _ s
  refine wpAny_bind (wpAny_mono (lcomp_core (use := some (assign (.Name y₀ py) X.env)) (R := fun _ s' => SP X pins D .next s') (Q := fun x H1 => D.nx (σ.set i₀ (some x)) H1) N js hcalm hi hg hc he hN hk hcell hfree hnames hs I h fun l C s' H' m Io hm fr lC sz cC pC q' => ?_) (fun _ s' hq => wpAny_pure (wpAny_pure hq)) fun _ _ e => e)
  show wpAny (model X.prog X.w) X.A (assign (.Name y₀ py) X.env (.ref l)) _ X.xe s'
  refine wpAny_assign_Name (store_ok2 Io hN₀ hi₀ hx₀ (v := .ref l) rfl (fun s'' I'' ⟨a, sb, ha⟩ => ?_) hf₀)
  have haC : C ≠ a := by
    rcases ha with z | z
    · rw [z]; exact lC.symm
    · exact (cC _ _ z).symm
  exact ⟨m, hm.sameBut sb haC, fun h' sb' => ⟨_, H', I''.turned (t' := s''.toks) (it := C) (fun b o hb e => (sb'.2 b hb).trans e) fr lC.symm (.inr sz) cC pC, q'⟩⟩
end L2
set_option Elab.async false
set_option linter.all false
set_option maxRecDepth 100000
namespace L2
open PySem PySem.Spec PyProof.Rows
section
variable {X : Cx} {p : Pos}
theorem ty_int (h : X.mg "int" = none) (hg : Gl X "int" := by rfl) : PE X (.Name "int" p) (tC (.ty "int")) := pe_bltn hg h PyProof.Rows.boot_int rfl
theorem ty_bool (h : X.mg "bool" = none) (hg : Gl X "bool" := by rfl) : PE X (.Name "bool" p) (tC (.ty "bool")) := pe_bltn hg h PyProof.Rows.boot_bool rfl
theorem ty_list (h : X.mg "list" = none) (hg : Gl X "list" := by rfl) : PE X (.Name "list" p) (tC (.ty "list")) := pe_bltn hg h PyProof.Rows.boot_list rfl
theorem ty_tuple (h : X.mg "tuple" = none) (hg : Gl X "tuple" := by rfl) : PE X (.Name "tuple" p) (tC (.ty "tuple")) := pe_bltn hg h PyProof.Rows.boot_tuple rfl
theorem call_isi : CallR X (.builtin "isinstance") (fun xs H Q => ∃ x Y t b, xs = [x, .ty Y] ∧ TyOf X.K H x t ∧ PySem.W.kitOne X.K t (.type Y) = some b ∧ Q (.bl b) H) := by
  intro pins s σ H xs us Q I r h
  obtain ⟨x, Y, t, b, e, ty, ko, q⟩ := h
  subst e
  obtain ⟨u, w', e, rx, ry⟩ := vals2 r
  subst e
  cases ry
  exact isinst_ok I rx ty ko fun tk => ⟨.bl b, H, I.tok _, rfl, q⟩
end
structure Def (K : PySem.W.Frag) (mg : Str → Option Value) (x : Str) (st : Stmt) (ps : List Str) (f : Addr) (fd : FuncData) : Prop where
  fn : Fun K x x st f fd
  bd : Binds K fd ps []
  at' : mg x = some (.ref f)
section
variable {X : Cx} {k : Nat} {x : Str} {st : Stmt} {ps : List Str} {f : Addr} {fd : FuncData} {sp : Sp} {e : Expr} {es : List Expr} {t : TA} {p pos : Pos}
theorem pc (D : Def X.K X.mg x st ps f fd) (F : FnOk X.prog X.w X.K X.mg X.base CX0 k f fd ps sp) (hr : Room k X.A) (ha : PA X (e :: es) t) (hg : Gl X x := by rfl) (hdb : (x == ("__debug__" : Str)) = false := by decide)
    (he : starEach (e :: es) X.env = (false, eval e X.env) :: starEach es X.env := by rfl) (hpl : (backTo pos (starEach es X.env)).any (·.1) = false := by rfl) : PE X (.Call (.Name x p) (e :: es) [] pos) (tCall sp [] E0 t) :=
  pe_call F hr hg D.at' D.fn.kp D.bd .nil pass0 ha hdb he hpl
end
theorem Same.new {H : Hp} {a : Addr} {o : HO} (h : H a = none) : Same H (upd H a o) := fun b u e => by rw [upd_ne (ne_of_none e h)]; exact e
theorem Same.put {H H' : Hp} {a : Addr} {o : HO} (s : Same H H') (h : H a = none) : Same H (upd H' a o) := fun b u e => by rw [upd_ne (ne_of_none e h)]; exact s b u e
theorem Same.to {H H' : Hp} {a : Addr} {o : HO} (s : Same H H') (h : H' a = none) : Same H (upd H' a o) := s.trans (Same.new h)
end L2
set_option Elab.async false
set_option linter.all false
set_option maxRecDepth 100000
namespace L2
open PySem PySem.Spec PyProof.Rows
inductive DEq (K : PySem.W.Frag) (H : Hp) : Nat → V → V → Bool → Prop
  | flat {d : Nat} {x y : V} (fx : flatV x = true) (fy : flatV y = true) : DEq K H d x y (eqV x y)
  | lst {d : Nat} {a b : Addr} {xs ys : List V} {e : Nat → Bool} (h1 : SqL K H a xs) (h2 : SqL K H b ys) (hl : xs.length = ys.length)
      (he : ∀ (j : Nat) x y, xs[j]? = some x → ys[j]? = some y → DEq K H d x y (e j)) : DEq K H (d + 1) (.ref a) (.ref b) ((List.range xs.length).all e)
  | len {d : Nat} {a b : Addr} {xs ys : List V} (h1 : SqL K H a xs) (h2 : SqL K H b ys) (hl : xs.length ≠ ys.length) : DEq K H (d + 1) (.ref a) (.ref b) false
  | tup {d : Nat} {a b : Addr} {xs ys : List V} {e : Nat → Bool} (h1 : SqT K H a xs) (h2 : SqT K H b ys)
      (he : ∀ (j : Nat) x y, xs[j]? = some x → ys[j]? = some y → DEq K H d x y (e j)) : DEq K H (d + 1) (.ref a) (.ref b) ((List.range (min xs.length ys.length)).all e && xs.length == ys.length)
theorem eqV_refl : ∀ {x : V}, flatV x = true → eqV x x = true
  | .non, _ => rfl
  | .bl b, _ => by cases b <;> rfl
  | .int i, _ => by simp [eqV]
  | .str y, _ => by simp [eqV]
theorem DEq.self {X : Cx} {pins : List (Addr × Obj)} {σ : St} {H : Hp} {s : Shared} (I : Inv X pins σ H s) {d : Nat} {x y : V} {b : Bool} (h : DEq X.K H d x y b) : x = y → b = true := by
  induction h with
  | flat fx fy => intro e; subst e; exact eqV_refl fx
  | @lst d a b xs ys e h1 h2 hl he ih =>
    intro z
    cases z
    have q := I.list_inj h1 h2
    subst q
    rw [List.all_eq_true]
    intro j hj
    have hj' : j < xs.length := List.mem_range.mp hj
    exact ih j _ _ (List.getElem?_eq_getElem hj') (List.getElem?_eq_getElem hj') rfl
  | len h1 h2 hl =>
    intro z
    cases z
    have q := I.list_inj h1 h2
    exact absurd (congrArg List.length q) hl
  | @tup d a b xs ys e h1 h2 he ih =>
    intro z
    cases z
    have q := I.tuple_inj h1 h2
    subst q
    rw [Bool.and_eq_true, List.all_eq_true]
    refine ⟨fun j hj => ?_, by simp⟩
    have hj' : j < xs.length := by have := List.mem_range.mp hj; omega
    exact ih j _ _ (List.getElem?_eq_getElem hj') (List.getElem?_eq_getElem hj') rfl
theorem Vals.at {xs : List V} {us : List Value} (r : Vals xs us) {j : Nat} (h : j < us.toArray.size) : ∃ x, xs[j]? = some x ∧ RelV x us.toArray[j] := by
  have hl := r.length
  have h' : j < xs.length := by simpa [hl] using h
  obtain ⟨u, e, ru⟩ := r.get (List.getElem?_eq_getElem h')
  refine ⟨_, List.getElem?_eq_getElem h', ?_⟩
  have h2 : j < us.length := by simpa using h
  rw [List.getElem?_eq_getElem h2] at e
  have e2 : us[j] = u := Option.some.inj e
  simpa [e2] using ru
theorem DEq.at {X : Cx} {pins : List (Addr × Obj)} {σ : St} {H : Hp} {s : Shared} (I : Inv X pins σ H s) {d : Nat} {x y : V} {b : Bool} (h : DEq X.K H d x y b) :
    ∀ {A : Around} {u v : Value}, A.units + d < cLine → RelV x u → RelV y v → SeqAt.EqAt A s u v b := by
  induction h with
  | flat fx fy => intro A u v hu rx ry; exact eqAt_V rx ry fx fy
  | @lst d a b xs ys e h1 h2 hl he ih =>
    intro A u v hu rx ry
    cases rx; cases ry
    by_cases hab : a = b
    · have z : (List.range xs.length).all e = true := (DEq.lst h1 h2 hl he).self I (by rw [hab])
      rw [z, hab]
      exact SeqAt.EqAt.same _
    · obtain ⟨its, r, pl, _⟩ := I.list h1
      obtain ⟨its2, r2, pl2, _⟩ := I.list h2
      have l1 := r.length
      have l2 := r2.length
      have q := SeqAt.RcAt.lists (A := A) (e := e) pl.isList pl2.isList (by simp; omega) (by omega) fun j j1 j2 => by
        obtain ⟨x, ex, rx⟩ := r.at j1
        obtain ⟨y, ey, ry⟩ := r2.at j2
        exact ih j x y ex ey (by show A.units + 1 + d < cLine; omega) rx ry
      refine SeqAt.EqAt.of_refs hab ?_
      simpa [l1] using q
  | @len d a b xs ys h1 h2 hl =>
    intro A u v hu rx ry
    cases rx; cases ry
    have hab : a ≠ b := by
      rintro rfl
      exact hl (congrArg List.length (I.list_inj h1 h2))
    obtain ⟨its, r, pl, _⟩ := I.list h1
    obtain ⟨its2, r2, pl2, _⟩ := I.list h2
    have l1 := r.length
    have l2 := r2.length
    exact SeqAt.EqAt.of_refs hab (SeqAt.RcAt.lists_lengths pl.isList pl2.isList (by simp; omega) (by omega))
  | @tup d a b xs ys e h1 h2 he ih =>
    intro A u v hu rx ry
    cases rx; cases ry
    by_cases hab : a = b
    · have z := (DEq.tup h1 h2 he).self I (by rw [hab])
      rw [z, hab]
      exact SeqAt.EqAt.same _
    · obtain ⟨its, r, pl, _⟩ := I.tuple h1
      obtain ⟨its2, r2, pl2, _⟩ := I.tuple h2
      have l1 := r.length
      have l2 := r2.length
      have q := SeqAt.RcAt.tuples (A := A) (e := e) (show s.heap.IsTuple a its.toArray from pl) (show s.heap.IsTuple b its2.toArray from pl2) (by omega) fun j j1 j2 => by
        obtain ⟨x, ex, rx⟩ := r.at j1
        obtain ⟨y, ey, ry⟩ := r2.at j2
        exact ih j x y ex ey (by show A.units + 1 + d < cLine; omega) rx ry
      refine SeqAt.EqAt.of_refs hab ?_
      simpa [l1, l2] using q
section
variable {X : Cx}
noncomputable def rEqD (K : PySem.W.Frag) : R2 := fun x y H Q => ∃ d b, DEq K H d x y b ∧ d < 64 ∧ flatV x = false ∧ Q (.bl b) H
noncomputable def rNeD (K : PySem.W.Frag) : R2 := fun x y H Q => ∃ d b, DEq K H d x y b ∧ d < 64 ∧ flatV x = false ∧ Q (.bl (!b)) H
theorem op_eqD (hu : X.A.units + 64 < cLine) : OpR X (compareOp .Eq) (rEqD X.K) := by
  intro pins s σ H x y v u Q I rx ry h
  obtain ⟨d, b, dq, hd, fl, q⟩ := h
  cases dq with
  | flat fx fy => rw [fx] at fl; cases fl
  | @lst d a b xs ys e h1 h2 hl he =>
    cases rx; cases ry
    obtain ⟨its, r, pl, _⟩ := I.list h1
    obtain ⟨its2, r2, pl2, _⟩ := I.list h2
    have l1 := r.length
    have l2 := r2.length
    refine SeqAt.eq_listAt (e := e) pl.isList pl2.isList (by simp; omega) (by omega) (fun j j1 j2 => ?_) ?_
    · obtain ⟨x, ex, rx⟩ := r.at j1
      obtain ⟨y, ey, ry⟩ := r2.at j2
      exact (he j x y ex ey).at I (by show X.A.units + 1 + d < cLine; omega) rx ry
    · refine ⟨.bl _, H, I, rfl, ?_⟩
      simpa [← l1] using q
  | @len d a b xs ys h1 h2 hl =>
    cases rx; cases ry
    obtain ⟨its, r, pl, _⟩ := I.list h1
    obtain ⟨its2, r2, pl2, _⟩ := I.list h2
    have l1 := r.length
    have l2 := r2.length
    exact SeqAt.eq_list_lengthsAt pl.isList pl2.isList (by simp; omega) (by omega) ⟨.bl _, H, I, rfl, q⟩
  | @tup d a b xs ys e h1 h2 he =>
    cases rx; cases ry
    obtain ⟨its, r, pl, _⟩ := I.tuple h1
    obtain ⟨its2, r2, pl2, _⟩ := I.tuple h2
    have l1 := r.length
    have l2 := r2.length
    refine SeqAt.eq_tupleAt (e := e) (show s.heap.IsTuple a its.toArray from pl) (show s.heap.IsTuple b its2.toArray from pl2) (by omega) (fun j j1 j2 => ?_) ?_
    · obtain ⟨x, ex, rx⟩ := r.at j1
      obtain ⟨y, ey, ry⟩ := r2.at j2
      exact (he j x y ex ey).at I (by show X.A.units + 1 + d < cLine; omega) rx ry
    · refine ⟨.bl _, H, I, rfl, ?_⟩
      simpa [← l1, ← l2] using q
theorem op_neD (hu : X.A.units + 64 < cLine) : OpR X (compareOp .NotEq) (rNeD X.K) := by
  intro pins s σ H x y v u Q I rx ry h
  obtain ⟨d, b, dq, hd, fl, q⟩ := h
  cases dq with
  | flat fx fy => rw [fx] at fl; cases fl
  | @lst d a b xs ys e h1 h2 hl he =>
    cases rx; cases ry
    obtain ⟨its, r, pl, _⟩ := I.list h1
    obtain ⟨its2, r2, pl2, _⟩ := I.list h2
    have l1 := r.length
    have l2 := r2.length
    refine SeqAt.RcNeAt.lists (e := e) pl.isList pl2.isList (by simp; omega) (by omega) (fun j j1 j2 => ?_) _ _ _ _ ?_
    · obtain ⟨x, ex, rx⟩ := r.at j1
      obtain ⟨y, ey, ry⟩ := r2.at j2
      exact (he j x y ex ey).at I (by show X.A.units + 1 + d < cLine; omega) rx ry
    · refine ⟨.bl _, H, I, rfl, ?_⟩
      simpa [← l1] using q
  | @len d a b xs ys h1 h2 hl =>
    cases rx; cases ry
    obtain ⟨its, r, pl, _⟩ := I.list h1
    obtain ⟨its2, r2, pl2, _⟩ := I.list h2
    have l1 := r.length
    have l2 := r2.length
    exact SeqAt.RcNeAt.lists_lengths pl.isList pl2.isList (by simp; omega) (by omega) _ _ _ _ ⟨.bl _, H, I, rfl, q⟩
  | @tup d a b xs ys e h1 h2 he =>
    cases rx; cases ry
    obtain ⟨its, r, pl, _⟩ := I.tuple h1
    obtain ⟨its2, r2, pl2, _⟩ := I.tuple h2
    have l1 := r.length
    have l2 := r2.length
    refine SeqAt.RcNeAt.tuples (e := e) (show s.heap.IsTuple a its.toArray from pl) (show s.heap.IsTuple b its2.toArray from pl2) (by omega) (fun j j1 j2 => ?_) _ _ _ _ ?_
    · obtain ⟨x, ex, rx⟩ := r.at j1
      obtain ⟨y, ey, ry⟩ := r2.at j2
      exact (he j x y ex ey).at I (by show X.A.units + 1 + d < cLine; omega) rx ry
    · refine ⟨.bl _, H, I, rfl, ?_⟩
      simpa [← l1, ← l2] using q
theorem call_all : CallR X (.builtin "all") (fun xs H Q => ∃ (hc : X.calm = true) (p : Addr) (bs : List Bool), xs = [.ref p] ∧ SqL X.K H p (bs.map V.bl) ∧ Q (.bl (bs.all id)) H) := by
  intro pins s σ H xs us Q I r h
  obtain ⟨hc, p, bs, e, hq, q⟩ := h
  subst e
  obtain ⟨u, e, rx⟩ := vals1 r
  subst e
  cases rx
  obtain ⟨its, rv, pl, hz⟩ := I.list hq
  have hl := rv.length
  rw [List.length_map] at hl
  refine call_all_walk (wpAny_pyIter_list pl.isList ?_)
  have hne : p ≠ s.heap.objs.size := by
    obtain ⟨o, ho, _⟩ := pl.isList
    exact Nat.ne_of_lt (Heap.lt_size ho)
  refine ⟨s.heap.objs.size, _, _, _, _, _, fun i => bs.getD i true, rfl, Walks.list (A := X.A.in1) (show X.A.in1.handled = none from I.ok.hd hc) _ p hne its.toArray, ?_, ?_, ?_⟩
  · refine ⟨⟨_, Heap.get?_push_size _ rfl, rfl, rfl⟩, ?_⟩
    obtain ⟨o, ho, z⟩ := pl.isList
    exact ⟨o, Heap.get?_push_of_some _ ho, z⟩
  · intro i v s' Q' E' hi hq'
    have hi' : its[i]? = some v := by simpa using hi
    have h2 : i < bs.length := by rw [hl]; exact (List.getElem?_eq_some_iff.mp hi').1
    obtain ⟨u, eu, ru⟩ := rv.get (i := i) (x := .bl bs[i]) (by simp [h2])
    rw [hi'] at eu
    cases eu
    cases ru
    refine wpAny_truthy_bool ?_
    have : bs.getD i true = bs[i] := by simp [h2]
    rw [← this]; exact hq'
  · intro h' tk kp
    refine ⟨.bl (bs.all id), H, I.kept (fun b o e => kp b o ?_ (Heap.get?_push_of_some _ e)), ?_, q⟩
    · have := Heap.lt_size e
      intro z
      rw [List.mem_singleton] at z
      exact absurd this (by rw [z]; exact Nat.lt_irrefl _)
    · show Value.bool _ = Value.bool _
      congr 1
      have e2 : its.toArray.size = bs.length := by simp [hl]
      rw [e2, Bool.eq_iff_iff, List.all_eq_true, List.all_eq_true]
      constructor
      · intro h x hx
        obtain ⟨j, hj, ej⟩ := List.mem_iff_getElem.mp hx
        have := h j (List.mem_range.mpr hj)
        simpa [hj, ej] using this
      · intro h j hj
        have hj' := List.mem_range.mp hj
        have := h bs[j] (List.getElem_mem hj')
        simpa [hj'] using this
theorem call_sorted : CallR X (.builtin "sorted") (fun xs H Q => ∃ (p : Addr) (ns : List Int), xs = [.ref p] ∧ SqL X.K H p (ns.map V.int) ∧ ns.length < 64 ∧
    ∀ l (ms : List Int), H l = none → ms.Perm ns → ms.Pairwise (· ≤ ·) → Q (.ref l) (upd H l (.lst (ms.map V.int)))) := by
  intro pins s σ H xs us Q I r h
  obtain ⟨p, ns, e, hq, h64, q⟩ := h
  subst e
  obtain ⟨u, e, rx⟩ := vals1 r
  subst e
  cases rx
  obtain ⟨its, rv, pl, hz⟩ := I.list hq
  have hl := rv.length
  rw [List.length_map] at hl
  refine sorted_ints (vs := its) (ns := ns) pl.isList (intsAre_of rv) (by omega) fun out ns' a1 a2 a3 => ?_
  obtain ⟨ep, e⟩ := sortedAll_at s.heap its out
  have hn : s.heap.objs.size ≤ s.heap.objs.size + 1 := Nat.le_succ _
  refine ⟨.ref (s.heap.objs.size + 1), _, I.laid (t' := s.toks) (fun b o eb => sortedAll_old eb) hn (show ObjOk X.prog X.w _ _ _ (.lst (ns'.map V.int)) from ⟨?_, out.toList, ep, vals_ints a1, ?_⟩), rfl, q _ ns' (I.hok.fresh hn) a2 a3⟩
  · rw [List.length_map, a2.length_eq]; exact Nat.le_of_lt (small1000 (by omega))
  · simpa [seqObj] using e
end
end L2
set_option Elab.async false
set_option linter.all false
set_option maxRecDepth 100000
namespace L2
open PySem PySem.Spec PyProof.Rows
noncomputable def SameBut (acc : Addr) (H H' : Hp) : Prop := ∀ b o, b ≠ acc → H b = some o → H' b = some o
theorem Same.but {acc : Addr} {H H' : Hp} (s : Same H H') : SameBut acc H H' := fun b o _ e => s b o e
theorem SameBut.upd {acc : Addr} {H : Hp} {o : HO} : SameBut acc H (upd H acc o) := fun b u n e => by rw [upd_ne n]; exact e
theorem szl {n : Nat} (h : n ≤ 1000) : n ≤ sizeLine := Nat.le_of_lt (small1000 h)
theorem szr {n : Nat} (h : Nat.ble n 1000 = true := by rfl) : n ≤ sizeLine := szl (Nat.le_of_ble_eq_true h)
theorem szn {n : Nat} (h : n < 100000) : n < sizeLine := by rw [sizeLine_eq]; omega
theorem kept1 {x : Option V} {σ : St} : Kept (none :: σ) (x :: σ) := ⟨rfl, fun i v e => by
  cases i with
  | zero => cases e
  | succ i => exact e⟩
theorem comp_walk {J : It} {H1 : Hp} {js : List (Option Nat)} {σ : St} {tc : TT} {te : TE} {Q : VK} (n : Nat) (item : Nat → V) (p : Nat → Bool) (P : Addr → Nat → V → Hp → Prop) (hn : n < 100000)
    (mono : ∀ acc i v H H', P acc i v H → SameBut acc H H' → P acc i v H')
    (hgo : ∀ i H, i < n → Same H1 H → J.go i H) (hst : ∀ H, Same H1 H → J.stop n H) (hy : ∀ i H x H', i < n → Same H1 H → J.yld i H x H' → H' = H ∧ x = item i)
    (hc : ∀ i, i < n → ∀ H2 R, Same H1 H2 → R (p i) H2 → tc (some (item i) :: pick σ js) H2 R)
    (he : ∀ acc i, i < n → p i = true → ∀ H2 R, Same H1 H2 → H1 acc = none → H2 acc ≠ none → (∀ v H3, Same H2 H3 → P acc i v H3 → R v H3) → te (some (item i) :: pick σ js) H2 R)
    (hQ : ∀ acc vs H', Same H1 H' → H1 acc = none → H' acc = some (.lst vs) → Paired (fun i v => P acc i v H') ((List.range n).filter p) vs → Q (.ref acc) H') :
    CompB J H1 (none :: js) (gName 0) tc te σ Q := by
  intro acc hacc
  refine ⟨fun i m ys H => m = n - i ∧ i ≤ n ∧ Same H1 H ∧ H acc = some (.lst ys) ∧ Paired (fun k v => P acc k v H) ((List.range i).filter p) ys, ⟨n, by simp, Nat.zero_le _, Same.new hacc, upd_same, .nil⟩, ?_⟩
  rintro i m ys H ⟨rfl, hi, s1, ha, hp⟩
  by_cases hlt : i < n
  · refine .inr ⟨hgo i H hlt s1, fun ys' H' => i < n ∧ Same H1 H' ∧ H' acc = some (.lst ys') ∧ Paired (fun k v => P acc k v H') ((List.range (i + 1)).filter p) ys', fun ys' H' ⟨z, a, b, c⟩ => ⟨n - (i + 1), Nat.sub_succ_lt_self _ _ hlt, rfl, hlt, a, b, c⟩, fun x H' y => ?_⟩
    obtain ⟨rfl, rfl⟩ := hy i H x H' hlt s1 y
    refine ⟨kept1, hc i hlt _ _ s1 ⟨fun hb => ?_, fun hb => ?_⟩⟩
    · refine he acc i hlt hb _ _ s1 hacc (by rw [ha]; simp) fun v H3 s3 pv => ?_
      have hlen : ys.length ≤ i := by
        rw [← Paired.length hp]
        exact Nat.le_trans (List.length_filter_le _ _) (by simp)
      refine ⟨s3 _ _ ha, szn (by omega), hlt, (s1.trans s3).put hacc, upd_same, ?_⟩
      rw [List.range_succ, List.filter_append]
      have e : List.filter p [i] = [i] := by simp [hb]
      rw [e]
      refine Paired.snoc (Paired.mapP hp fun k v q => ?_) ?_
      · exact mono acc k v _ _ (mono acc k v _ _ q s3.but) SameBut.upd
      · exact mono acc i v _ _ pv SameBut.upd
    · refine ⟨hlt, s1, ha, ?_⟩
      rw [List.range_succ, List.filter_append]
      have e : List.filter p [i] = [] := by simp [hb]
      rw [e, List.append_nil]
      exact hp
  · have e : i = n := Nat.le_antisymm hi (Nat.le_of_not_lt hlt)
    subst e
    exact .inl ⟨hst H s1, hQ acc ys H s1 hacc ha hp⟩
theorem paired_map {α β : Type} {f : α → β} : ∀ {l : List α} {r : List β}, Paired (fun a b => b = f a) l r → r = l.map f := by
  intro l r h
  induction h with
  | nil => rfl
  | cons h t ih => rw [h, ih]; rfl
section
variable {K : PySem.W.Frag} {H1 : Hp} {js : List (Option Nat)} {σ : St} {tc : TT} {te : TE} {Q : VK}
theorem comp_range {lo : Int} {n : Nat} (f : Nat → V) (hn : n < 100000)
    (he : ∀ i : Nat, i < n → ∀ H2 R, Same H1 H2 → (∀ H3, Same H2 H3 → R (f i) H3) → te (some (.int (lo + i)) :: pick σ js) H2 R)
    (hQ : ∀ acc H', Same H1 H' → H1 acc = none → H' acc = some (.lst ((List.range n).map f)) → Q (.ref acc) H') : CompB (Itr lo n) H1 (none :: js) (gName 0) tYes te σ Q :=
  comp_walk (J := Itr lo n) (H1 := H1) (js := js) (σ := σ) (tc := tYes) (te := te) (Q := Q) n (fun i => .int (lo + i)) (fun _ => true) (fun _ i v _ => v = f i) hn (fun _ _ _ _ _ h _ => h)
    (fun _ _ h _ => h) (fun _ _ => Nat.le_refl _) (fun _ _ _ _ _ _ y => y) (fun _ _ _ _ _ h => h) (fun _ i hi _ H2 R s _ _ k => he i hi H2 R s fun H3 s3 => k _ H3 s3 rfl)
    fun acc vs H' s n' e p => hQ acc H' s n' (by rw [e, paired_map p, List.filter_eq_self.mpr (fun _ _ => rfl)])
theorem comp_list {a : Addr} {xs : List V} (p : Nat → Bool) (P : Addr → Nat → V → Hp → Prop) (hl : SqL K H1 a xs) (hn : xs.length < 100000)
    (mono : ∀ acc i v H H', P acc i v H → SameBut acc H H' → P acc i v H')
    (hc : ∀ (i : Nat) x, xs[i]? = some x → ∀ H2 R, Same H1 H2 → R (p i) H2 → tc (some x :: pick σ js) H2 R)
    (he : ∀ acc (i : Nat) x, xs[i]? = some x → p i = true → ∀ H2 R, Same H1 H2 → H1 acc = none → H2 acc ≠ none → (∀ v H3, Same H2 H3 → P acc i v H3 → R v H3) → te (some x :: pick σ js) H2 R)
    (hQ : ∀ acc vs H', Same H1 H' → H1 acc = none → H' acc = some (.lst vs) → Paired (fun i v => P acc i v H') ((List.range xs.length).filter p) vs → Q (.ref acc) H') : CompB (Itl K a) H1 (none :: js) (gName 0) tc te σ Q :=
  comp_walk (J := Itl K a) (H1 := H1) (js := js) (σ := σ) (tc := tc) (te := te) (Q := Q) xs.length (fun i => xs.getD i .non) p P hn mono
    (fun i H h s => ⟨xs, xs[i], s.seq hl, by simp [h]⟩) (fun H s => ⟨xs, s.seq hl, Nat.le_refl _⟩)
    (fun i H x H' h s y => ⟨y.1, by have e := y.2 xs (s.seq hl); simp [e]⟩)
    (fun i h H2 R s k => hc i _ (by simp [h]) H2 R s k) (fun acc i h hp H2 R s n1 n2 k => he acc i _ (by simp [h]) hp H2 R s n1 n2 k) hQ
end
end L2
set_option Elab.async false
set_option linter.all false
set_option maxRecDepth 100000
namespace L2
open PySem PySem.Spec PyProof.Rows
section
variable {X : Cx} {tg l : Expr} {tl : TE} {es : List Expr} {k n : Nat} {t : TGs} {pos : Pos} {a : Expr} {ta : TE}
theorem ixL (K : PySem.W.Frag) (h : X.K = K := by rfl) : IxR X (rIxL K) := by subst h; exact ix_list
theorem ixT (K : PySem.W.Frag) (h : X.K = K := by rfl) : IxR X (rIxT K) := by subst h; exact ix_tup
theorem slL (K : PySem.W.Frag) (h : X.K = K := by rfl) : SlR X (rSlL K) := by subst h; exact sl_list
theorem inS (K : PySem.W.Frag) (h : X.K = K := by rfl) : OpR X (compareOp .In) (rIn K false) := by subst h; exact op_in_seq
theorem ninS (K : PySem.W.Frag) (h : X.K = K := by rfl) : OpR X (compareOp .NotIn) (rIn K true) := by subst h; exact op_notIn_seq
theorem eqD (K : PySem.W.Frag) (hu : X.A.units + 64 < cLine) (h : X.K = K := by rfl) : OpR X (compareOp .Eq) (rEqD K) := by subst h; exact op_eqD hu
theorem neD (K : PySem.W.Frag) (hu : X.A.units + 64 < cLine) (h : X.K = K := by rfl) : OpR X (compareOp .NotEq) (rNeD K) := by subst h; exact op_neD hu
theorem cLen (K : PySem.W.Frag) (h : X.K = K := by rfl) : CallR X (.builtin "len") (fun xs H Q => ∃ x n, xs = [x] ∧ LenV K x H n ∧ Q (.int n) H) := by subst h; exact call_len
theorem cIsi (K : PySem.W.Frag) (h : X.K = K := by rfl) : CallR X (.builtin "isinstance") (fun xs H Q => ∃ x Y t b, xs = [x, .ty Y] ∧ TyOf K H x t ∧ PySem.W.kitOne K t (.type Y) = some b ∧ Q (.bl b) H) := by subst h; exact call_isi
theorem cAll (K : PySem.W.Frag) (hc : X.calm = true := by rfl) (h : X.K = K := by rfl) : CallR X (.builtin "all") (fun xs H Q => ∃ (p : Addr) (bs : List Bool), xs = [.ref p] ∧ SqL K H p (bs.map V.bl) ∧ Q (.bl (bs.all id)) H) := by
  subst h
  exact fun pins s σ H xs us Q I r q => call_all pins s σ H xs us Q I r (let ⟨p, bs, e⟩ := q; ⟨hc, p, bs, e⟩)
theorem cSorted (K : PySem.W.Frag) (h : X.K = K := by rfl) : CallR X (.builtin "sorted") (fun xs H Q => ∃ (p : Addr) (ns : List Int), xs = [.ref p] ∧ SqL K H p (ns.map V.int) ∧ ns.length < 64 ∧
    ∀ l (ms : List Int), H l = none → ms.Perm ns → ms.Pairwise (· ≤ ·) → Q (.ref l) (upd H l (.lst (ms.map V.int)))) := by subst h; exact call_sorted
theorem cList (K : PySem.W.Frag) (h : X.K = K := by rfl) : CallR X (.type "list") (fun xs H Q => ∃ p ys, xs = [.ref p] ∧ (SqL K H p ys ∨ SqT K H p ys) ∧ ∀ l, H l = none → Q (.ref l) (upd H l (.lst ys))) := by subst h; exact call_list_of
theorem piL (K : PySem.W.Frag) (hl : PE X l tl) (h : X.K = K := by rfl) : PI X tg l (iList K tl) := by subst h; exact pi_list hl
theorem piT (K : PySem.W.Frag) (hl : PE X l tl) (h : X.K = K := by rfl) : PI X tg l (iTup K tl) := by subst h; exact pi_tup hl
theorem pgT (K : PySem.W.Frag) (hc : X.calm = true) (hg : PGs X es t) (h : X.K = K := by rfl) (hn : (assignEach es X.env).length = n := by rfl) (hst : (assignEach es X.env).findIdx? (·.1) = none := by rfl) : PG X (.Tuple es k pos) (gTup K n t) := by
  subst h; exact pg_tup hc hg hn hst
end
theorem nodupN {X : Cx} {N : List Str} (h : N.Nodup) (e : X.N = N := by rfl) : X.N.Nodup := by rw [e]; exact h
theorem cut_to (xs : List V) (k : Nat) : cutV xs none (some (k : Int)) = xs.take k := by
  unfold cutV
  rw [HT.sIx_nat, HT.sIx_none, List.drop_zero, Nat.sub_zero]
  by_cases h : k ≤ xs.length
  · rw [Nat.min_eq_left h]
  · rw [Nat.min_eq_right (by omega), List.take_of_length_le (Nat.le_refl _), List.take_of_length_le (by omega)]
theorem cut_from (xs : List V) (k : Nat) : cutV xs (some (k : Int)) none = xs.drop k := by
  unfold cutV
  rw [HT.sIx_nat, HT.sIx_none]
  by_cases h : k ≤ xs.length
  · rw [Nat.min_eq_left h, List.take_of_length_le (by rw [List.length_drop]; omega)]
  · rw [Nat.min_eq_right (by omega), Nat.sub_self, List.take_zero, List.drop_of_length_le (by omega)]
section
variable {K : PySem.W.Frag} {H : Hp} {a b : Addr}
theorem deq_flat {xs : List V} (h1 : SqL K H a xs) (h2 : SqL K H b xs) (hf : ∀ x ∈ xs, flatV x = true) : DEq K H 1 (.ref a) (.ref b) true := by
  have q := DEq.lst (d := 0) (e := fun _ => true) h1 h2 rfl fun j x y ex ey => by
    rw [ex] at ey
    cases ey
    have f := hf x (List.mem_of_getElem? ex)
    have e := DEq.flat (K := K) (H := H) (d := 0) f f
    rw [eqV_refl f] at e
    exact e
  have e : ((List.range xs.length).all fun _ => true) = true := List.all_eq_true.mpr fun _ _ => rfl
  rw [e] at q
  exact q
theorem deq_nil {xs : List V} (h1 : SqL K H a xs) (h2 : SqL K H b []) : DEq K H 1 (.ref a) (.ref b) xs.isEmpty := by
  cases xs with
  | nil => exact deq_flat h1 h2 fun x hx => by cases hx
  | cons x r => exact DEq.len h1 h2 (by simp)
end
theorem ifNot {b : Bool} {A B : Prop} (h1 : b = false → A) (h2 : b = true → B) : if (!b) = true then A else B := by
  cases b with
  | true => exact iteF (h2 rfl)
  | false => exact iteT (h1 rfl)
theorem ifB {b : Bool} {A B : Prop} (h1 : b = true → A) (h2 : b = false → B) : if b = true then A else B := by
  cases b with
  | true => exact iteT (h1 rfl)
  | false => exact iteF (h2 rfl)
theorem ifEq {i j : Int} {A B : Prop} (h1 : i = j → A) (h2 : i ≠ j → B) : if decide (V.int i = V.int j) = true then A else B := by
  by_cases h : i = j
  · rw [if_pos (by simp [h])]; exact h1 h
  · rw [if_neg (by simp [h])]; exact h2 h
theorem ifNe {i j : Int} {A B : Prop} (h1 : i ≠ j → A) (h2 : i = j → B) : if (!decide (V.int i = V.int j)) = true then A else B := by
  by_cases h : i = j
  · rw [if_neg (by simp [h])]; exact h2 h
  · rw [if_pos (by simp [h])]; exact h1 h
theorem ifD {c : Prop} [Decidable c] {A B : Prop} (h1 : c → A) (h2 : ¬ c → B) : if decide c = true then A else B := by
  by_cases h : c
  · rw [if_pos (decide_eq_true h)]; exact h1 h
  · rw [if_neg (by simp [h])]; exact h2 h
noncomputable def tCut (t u : TS) : TS := fun D σ H => ∃ P : L2.St → Hp → Prop, t { D with nx := P } σ H ∧ ∀ σ' H', P σ' H' → u D σ' H'
theorem pss_cut {X : Cx} {st : Stmt} {rest : List Stmt} {t u : TS} (h1 : PS X st t) (h2 : PSs X rest u) : PSs X (st :: rest) (tCut t u) := by
  intro pins s σ H D I h
  obtain ⟨P, ht, hu⟩ := h
  refine wpAny_execs_cons (thn (h1 pins s σ H { D with nx := P } I ht) fun f s1 q => ?_)
  cases f with
  | next =>
    obtain ⟨σ', H', I', q⟩ := q
    exact h2 pins s1 σ' H' D I' (hu σ' H' q)
  | ret v => exact q
  | brk => exact q
  | cont => exact q
end L2
set_option Elab.async false
set_option linter.all false
set_option maxRecDepth 100000
namespace L2
open PySem PySem.Spec PyProof.Rows
section
variable {X : Cx} {tg l : Expr} {tl : TE}
end
end L2
set_option Elab.async false
set_option linter.all false
set_option maxRecDepth 100000
namespace L2
open PySem PySem.Spec PyProof.Rows
section
variable {X : Cx} {es : List Expr} {t : TA}
end
end L2
set_option Elab.async false
set_option linter.all false
set_option maxRecDepth 100000
namespace L2
open PySem PySem.Spec PyProof.Rows
theorem Inv.view {X : Cx} {pins : List (Addr × Obj)} {σ : L2.St} {H : Hp} {s : Shared} {a : Addr} {o : HO} (I : Inv X pins σ H s) (mu : Mut (H a)) (new : ObjOk X.prog X.w (upd H a o) s.heap a o) : Inv X pins σ (upd H a o) s := by
  have hex : ∃ u, s.heap.get? a = some u := by
    cases q : H a with
    | none => rw [q] at mu; exact mu.elim
    | some u =>
      have lt := I.hok.lt q
      have := I.hok a u q
      rw [q] at mu
      cases u with
      | lst xs => obtain ⟨_, _, _, _, e⟩ := this; exact ⟨_, e⟩
      | dK kvs => obtain ⟨_, _, _, _, o, _, _, e, _⟩ := this; exact ⟨_, e⟩
      | dT kvs => obtain ⟨_, _, _, _, o, _, _, e, _⟩ := this; exact ⟨_, e⟩
      | set S n => obtain ⟨o, _, _, _, e, _⟩ := this; exact ⟨_, e⟩
      | ins C dx fs => obtain ⟨_, _, _, e, _⟩ := this; exact ⟨_, e⟩
      | ext φ => obtain ⟨_, e, _⟩ := this; exact e
      | _ => exact mu.elim
  exact I.write (h' := s.heap) (x := a) (e := a) (t' := s.toks) mu (.inl rfl) (fun _ _ _ e => e) hex new
theorem entry_dict_itemiterator_iter : entryFor table "dict_itemiterator.__iter__" = some Builtin.«dict_keyiterator.__iter__» :=
  entryFor_alias (id' := "dict_keyiterator.__iter__") (by kernel_rfl) rfl (by decide +kernel) (by kernel_rfl)
noncomputable def DW (P : Program) (w : World) (d : Addr) (vs : List (Key × Value)) (ep : Nat) : Heap → Prop := fun h => h.DictAt (mixKind P w) d vs ep
theorem DW.ok {P : Program} {w : World} {H : Hp} {h : Heap} {d : Addr} {vs : List (Key × Value)} {ep : Nat} (x : h.DictAt (mixKind P w) d vs ep) : ObjOk P w H h d (.ext (DW P w d vs ep)) :=
  ⟨x, by obtain ⟨o, _, e, _⟩ := x; exact ⟨o, e⟩, fun _ _ y k => y.at' k⟩
theorem key_rel {P : Program} {w : World} {k : Key} {u : Value} (h : (mixKind P w).is k u = true) : RelV (kV k) u := by
  rcases keyIs_shape (k := k) (v := u) h with ⟨i, t, e1, e2⟩ | ⟨x, t, e1, e2⟩
  · subst e1 e2; exact ⟨t, rfl⟩
  · subst e1 e2; exact ⟨t, rfl⟩
noncomputable def Itk (φ : Heap → Prop) (d : Addr) (kvs : List (Key × V)) : It :=
  ⟨fun i H => H d = some (.ext φ) ∧ i < kvs.length, fun i H x H' => H' = H ∧ ∃ k v, kvs[i]? = some (k, v) ∧ x = kV k, fun i H => H d = some (.ext φ) ∧ kvs.length ≤ i⟩
noncomputable def Iti (φ : Heap → Prop) (d : Addr) (kvs : List (Key × V)) : It :=
  ⟨fun i H => H d = some (.ext φ) ∧ i < kvs.length, fun i H x H' => ∃ p k v, H p = none ∧ kvs[i]? = some (k, v) ∧ x = .ref p ∧ H' = upd H p (.tup [kV k, v]), fun i H => H d = some (.ext φ) ∧ kvs.length ≤ i⟩
theorem kv_at {kvs : List (Key × V)} {vs : List (Key × Value)} (r : KV kvs vs) {i : Nat} (h : i < kvs.length) : ∃ k v u, kvs[i]? = some (k, v) ∧ vs[i]? = some (k, u) ∧ RelV v u := by
  have hl := r.length
  obtain ⟨a, ha, f⟩ := pair_get (i := i) (b := vs[i]) r (List.getElem?_eq_getElem (by omega))
  refine ⟨a.1, a.2, vs[i].2, ha, ?_, f.2⟩
  rw [List.getElem?_eq_getElem (by omega), f.1]
theorem turn_keys {P : Program} {w : World} {K : PySem.W.Frag} {tg : Expr} (d it : Addr) {kvs : List (Key × V)} {vs : List (Key × Value)} {ep : Nat} (r : KV kvs vs) :
    Turn P w K tg (Itk (DW P w d vs ep) d kvs) [it] it (fun i h => h.IsKeyIter it d i vs.length ep) where
  mem := by simp
  obj := fun i h st b hb => by
    have e : b = it := by simpa using hb
    subst e
    obtain ⟨o, e, c, d⟩ := st
    exact ⟨o, e, fun v z => by rw [d] at z; cases z⟩
  keep := fun i h h' st k => st.at fun o e => k it (by simp) o e
  item := by
    intro X hP hw hK hc i pins s σ H E I hf st hg
    subst hP hw hK
    obtain ⟨hd, hi⟩ := hg
    obtain ⟨dm, _⟩ := (show ObjOk X.prog X.w H s.heap d (.ext (DW X.prog X.w d vs ep)) from I.hok d _ hd)
    obtain ⟨k, v, u, e1, e2, _⟩ := kv_at r hi
    obtain ⟨f0, f1, f2, f3, f4, f5⟩ := hf it (by simp)
    refine wpAny_pyNext_dict_item st dm e2 fun key h' hkey st' sb => ?_
    have I1 : Inv X pins σ H { s with heap := h' } := I.turned (t' := s.toks) (fun b o hb e => (sb.2 b hb).trans e) f0 f1 f3 f4 f5
    obtain ⟨o, e, c, d'⟩ := id st'
    exact ⟨key, rfl, go_of (s := { s with heap := h' }) e c d' (by decide) ⟨kV k, H, I1, key_rel hkey, ⟨rfl, k, v, e1, rfl⟩, st', fun b hb => (hf b hb).1⟩⟩
  done := by
    intro X hP hw hK hc i pins s σ H E I hf st hg
    subst hP hw hK
    obtain ⟨hd, hi⟩ := hg
    obtain ⟨dm, _⟩ := (show ObjOk X.prog X.w H s.heap d (.ext (DW X.prog X.w d vs ep)) from I.hok d _ hd)
    obtain ⟨f0, f1, f2, f3, f4, f5⟩ := hf it (by simp)
    have hl := r.length
    exact wpAny_pyNext_dict_end (I.ok.hd hc) st dm (List.getElem?_eq_none (by omega)) fun h' eb => ⟨rfl, I.turned (t' := s.toks) (fun b o hb e => eb b o hb e) f0 f1 f3 f4 f5⟩
  self := fun _ _ _ _ _ st h => wpAny_pyIter_keyiter st h
theorem turn_items {P : Program} {w : World} {K : PySem.W.Frag} {es : List Expr} {k1 : Nat} {pos : Pos} (d it : Addr) {kvs : List (Key × V)} {vs : List (Key × Value)} {ep : Nat} (r : KV kvs vs) :
    Turn P w K (.Tuple es k1 pos) (Iti (DW P w d vs ep) d kvs) [it] it (fun i h => ∃ ok ov, IsItemIter h it d i vs.length ep ok ov) where
  mem := by simp
  obj := fun i h st b hb => by
    have e : b = it := by simpa using hb
    subst e
    obtain ⟨_, _, e⟩ := st
    exact ⟨_, e, fun v z => by
      have z' : Data.fields _ = Data.cell v := z
      cases z'⟩
  keep := fun i h h' st k => let ⟨a, b, e⟩ := st; ⟨a, b, k it (by simp) _ e⟩
  item := by
    intro X hP hw hK hc i pins s σ H E I hf st hg
    subst hP hw hK
    obtain ⟨hd, hi⟩ := hg
    obtain ⟨ok, ov, st⟩ := st
    obtain ⟨dm, _⟩ := (show ObjOk X.prog X.w H s.heap d (.ext (DW X.prog X.w d vs ep)) from I.hok d _ hd)
    obtain ⟨k, v, u, e1, e2, rv⟩ := kv_at r hi
    obtain ⟨f0, f1, f2, f3, f4, f5⟩ := hf it (by simp)
    refine wpAny_pyNext_items_item st dm e2 fun key h' hkey st' tu hz kp => ?_
    refine ⟨_, rfl, wpAny_letOwnedTupleGo_items st' fun h2 st2 sb => ?_⟩
    have hne : s.heap.objs.size ≠ it := fun z => absurd (Heap.lt_size st) (by rw [← z]; exact Nat.lt_irrefl _)
    have I1 : Inv X pins σ H { s with heap := h2 } := I.turned (t' := s.toks) (fun b o hb e => (sb.2 b hb).trans (kp b o hb e)) f0 f1 f3 f4 f5
    have fr : H s.heap.objs.size = none := I.fresh
    have e3 : h2.get? s.heap.objs.size = some { cls := .type "tuple", data := .seq #[key, u] } := (sb.2 _ hne).trans tu
    have I2 : Inv X pins σ (upd H s.heap.objs.size (.tup [kV k, v])) { s with heap := h2 } := by
      have un : Un (frs X.stack) [it] H (upd H s.heap.objs.size (.tup [kV k, v])) s.heap h2 := {
        keep := fun b o q _ _ hx => (sb.2 b (by simpa using hx)).trans (kp b o (by simpa using hx) q)
        slot := fun b o q _ _ hx => ⟨o.slots, (sb.2 b (by simpa using hx)).trans (kp b o (by simpa using hx) q)⟩
        free := fun b o q n hx => by rw [upd_ne (Nat.ne_of_lt (Heap.lt_size q))]; exact n
        there := fun b o q hx => ⟨o, (sb.2 b (by simpa using hx)).trans (kp b o (by simpa using hx) q)⟩
        tups := fun b xs q => by rw [upd_ne (ne_of_none q fr)]; exact q
        frzs := fun b o xs q => by rw [upd_ne (ne_of_none q fr)]; exact q
        tbls := fun b ps q => ⟨#[], by rw [upd_ne (ne_of_none q fr), q]; simp⟩ }
      refine I.call' (s' := { s with heap := h2 }) (ch := [it]) rfl un (fun b o e => ?_) I.bare (fun b hb => ?_)
      · by_cases hb : b = s.heap.objs.size
        · subst hb
          rw [upd_same] at e
          cases e
          refine ⟨szr, [key, u], .cons (key_rel hkey) (.cons rv .nil), _, e3, rfl, _, rfl⟩
        · rw [upd_ne hb] at e
          refine (I1.hok b o e).stay (fun _ _ _ q => q) (fun c q => by rw [upd_ne (ne_of_none q fr)]; exact q) fun c xs q => by rw [upd_ne (ne_of_none q fr)]; exact q
      · have e : b = it := by simpa using hb
        subst e
        exact ⟨f3, f1, f4, f5⟩
    exact ⟨.ref s.heap.objs.size, _, I2, rfl, ⟨_, k, v, fr, e1, rfl, rfl⟩, ⟨key, u, st2⟩, fun b hb => by
      have e : b = it := by simpa using hb
      subst e
      rw [upd_ne hne.symm]; exact f0⟩
  done := by
    intro X hP hw hK hc i pins s σ H E I hf st hg
    subst hP hw hK
    obtain ⟨hd, hi⟩ := hg
    obtain ⟨ok, ov, st⟩ := st
    obtain ⟨dm, _⟩ := (show ObjOk X.prog X.w H s.heap d (.ext (DW X.prog X.w d vs ep)) from I.hok d _ hd)
    obtain ⟨f0, f1, f2, f3, f4, f5⟩ := hf it (by simp)
    have hl := r.length
    exact wpAny_pyNext_items_end (I.ok.hd hc) st dm (List.getElem?_eq_none (by omega)) fun h' eb => ⟨rfl, I.turned (t' := s.toks) (fun b o hb e => eb b o hb e) f0 f1 f3 f4 f5⟩
  self := fun A i s Q E st h => by
    obtain ⟨ok, ov, st⟩ := st
    have hT : s.TypeIs (.ref it) "dict_itemiterator" := ⟨_, st, rfl⟩
    refine wpAny_pyIter_slot hT F.slot_dict_itemiterator_iter (wpAny_call_entry F.slot_dict_itemiterator_iter hT entry_dict_itemiterator_iter ?_ (F.args_dict_itemiterator_iter_1 _))
    show wpAny _ _ (ret (.ref it)) _ _ s
    exact wpAny_pure ⟨_, rfl, "dict_itemiterator", _, hT, F.slot_dict_itemiterator_next.lookup, h⟩
section
variable {X : Cx} {tg l : Expr} {tl : TE}
noncomputable def iKeys (tl : TE) : TI := fun σ H R => tl σ H fun x H1 => ∃ d kvs, x = .ref d ∧ H1 d = some (.dK kvs) ∧ ∀ φ, R (Itk φ d kvs) (upd H1 d (.ext φ))
theorem pi_keys (hl : PE X l tl) : PI X tg l (iKeys tl) := by
  intro pins s σ H R I h
  refine thn (hl pins s σ H _ I h) fun v s1 hq__ => ?_
  obtain ⟨x, H1, I1, r1, q1⟩ := hq__
  obtain ⟨d, kvs, e, hd, q⟩ := q1
  subst e
  cases r1
  obtain ⟨hz, hm, vs, r, dd⟩ := dk_of I1.hok hd
  obtain ⟨ep, da⟩ := dd.dictAt
  have I2 : Inv X pins σ (upd H1 d (.ext (DW X.prog X.w d vs ep))) s1 := I1.view (by rw [hd]; trivial) (DW.ok da)
  refine wpAny_pyIter_dict hm da ?_
  refine ⟨s1.heap.objs.size, [s1.heap.objs.size], _, _, _, rfl, I2.kept (t' := s1.toks) fun b o e => Heap.get?_push_of_some _ e, turn_keys d _ r, ⟨_, Heap.get?_push_size _ rfl, rfl, rfl⟩, fun b hb => ?_, q _⟩
  have e : b = s1.heap.objs.size := by simpa using hb
  subst e
  exact I2.fpOk (Nat.le_refl _) (I2.hok.fresh (Nat.le_refl _))
noncomputable def VW (v d : Addr) : Heap → Prop := fun h => h.IsItemsView v d
theorem mt_items : MtR X "dict.items" (fun x xs H Q => ∃ d kvs, x = .ref d ∧ xs = [] ∧ H d = some (.dK kvs) ∧ ∀ v, H v = none → Q (.ref v) (upd H v (.ext (VW v d)))) := by
  intro pins s σ H x xs v us Q I rx rv h
  obtain ⟨d, kvs, e, e2, hd, q⟩ := h
  subst e e2
  cases rx
  have hus := rv.zero
  subst hus
  obtain ⟨hz, hm, vs, r, dd⟩ := dk_of I.hok hd
  refine call_meetsIn PySem.F.slot_dict_items dd.typeIs PySem.F.entry_dict_items (PySem.F.args_dict_items_1 _) (meets_dict_items (mixKind X.prog X.w) d hm) ⟨⟨vs, dd⟩, ?_⟩
  refine ⟨.ref s.heap.objs.size, _, I.laid (t' := s.toks) (fun b o e => Heap.get?_push_of_some _ e) (Nat.le_refl _) ?_, rfl, q _ I.fresh⟩
  exact ⟨⟨_, Heap.get?_push_size _ rfl, rfl, rfl⟩, ⟨_, Heap.get?_push_size _ rfl⟩, fun h1 h2 ⟨o, e, c⟩ k => ⟨o, k o e, c⟩⟩
noncomputable def iItems (tl : TE) : TI := fun σ H R => tl σ H fun x H1 => ∃ v d kvs, x = .ref v ∧ H1 v = some (.ext (VW v d)) ∧ H1 d = some (.dK kvs) ∧ ∀ φ, R (Iti φ d kvs) (upd H1 d (.ext φ))
theorem pi_items {es : List Expr} {k1 : Nat} {pos : Pos} (hl : PE X l tl) : PI X (.Tuple es k1 pos) l (iItems tl) := by
  intro pins s σ H R I h
  refine thn (hl pins s σ H _ I h) fun v s1 hq__ => ?_
  obtain ⟨x, H1, I1, r1, q1⟩ := hq__
  obtain ⟨v, d, kvs, e, hv, hd, q⟩ := q1
  subst e
  cases r1
  obtain ⟨hz, hm, vs, r, dd⟩ := dk_of I1.hok hd
  obtain ⟨ep, da⟩ := dd.dictAt
  obtain ⟨vw, _⟩ := (show ObjOk X.prog X.w H1 s1.heap v (.ext (VW v d)) from I1.hok v _ hv)
  have I2 : Inv X pins σ (upd H1 d (.ext (DW X.prog X.w d vs ep))) s1 := I1.view (by rw [hd]; trivial) (DW.ok da)
  refine wpAny_pyIter_items vw da ?_
  refine ⟨s1.heap.objs.size, [s1.heap.objs.size], _, _, _, rfl, I2.kept (t' := s1.toks) fun b o e => Heap.get?_push_of_some _ e, turn_items d _ r, ⟨.none, .none, Heap.get?_push_size _ rfl⟩, fun b hb => ?_, q _⟩
  have e : b = s1.heap.objs.size := by simpa using hb
  subst e
  exact I2.fpOk (Nat.le_refl _) (I2.hok.fresh (Nat.le_refl _))
theorem for_items {φ : Heap → Prop} {d : Addr} {kvs : List (Key × V)} {g : TG} {tb : TS} {D : Ends} {σ : L2.St} {H : Hp} (Pv : Nat → L2.St → Hp → Prop) (h0 : Pv 0 σ H) (hw : ∀ i σ H, i ≤ kvs.length → Pv i σ H → H d = some (.ext φ))
    (hs : ∀ i k v σ H p, kvs[i]? = some (k, v) → Pv i σ H → H p = none → g (.ref p) σ (upd H p (.tup [kV k, v])) fun σ2 H2 => tb { D with nx := Pv (i + 1), ct := Pv (i + 1), bk := D.nx } σ2 H2) (hd : ∀ σ H, Pv kvs.length σ H → D.nx σ H) :
    ∃ W : Nat → Nat → L2.St → Hp → Prop, (∃ m, W 0 m σ H) ∧ ∀ i m σ H, W i m σ H →
      ((Iti φ d kvs).stop i H ∧ D.nx σ H) ∨ ((Iti φ d kvs).go i H ∧ ∃ N : L2.St → Hp → Prop, (∀ σ' H', N σ' H' → ∃ m', m' < m ∧ W (i + 1) m' σ' H') ∧ ∀ v H', (Iti φ d kvs).yld i H v H' → g v σ H' fun σ2 H2 => tb { D with nx := N, ct := N, bk := D.nx } σ2 H2) := by
  refine ⟨fun i m σ H => m = kvs.length - i ∧ i ≤ kvs.length ∧ Pv i σ H, ⟨kvs.length, by simp, Nat.zero_le _, h0⟩, ?_⟩
  rintro i m σ H ⟨rfl, hi, p⟩
  by_cases hlt : i < kvs.length
  · refine .inr ⟨⟨hw i σ H hi p, hlt⟩, Pv (i + 1), fun σ' H' p' => ⟨kvs.length - (i + 1), Nat.sub_succ_lt_self _ _ hlt, rfl, hlt, p'⟩, fun v H' y => ?_⟩
    obtain ⟨q, k, v', hn, e, e2, e3⟩ := y
    subst e2 e3
    exact hs i k v' σ H q e p hn
  · have e : i = kvs.length := Nat.le_antisymm hi (Nat.le_of_not_lt hlt)
    subst e
    exact .inl ⟨⟨hw _ σ H hi p, Nat.le_refl _⟩, hd σ H p⟩
end
theorem comp_keys {H1 : Hp} {js : List (Option Nat)} {σ : L2.St} {te : TE} {Q : VK} {φ : Heap → Prop} {d : Addr} {kvs : List (Key × V)} (f : Key → V) (hn : kvs.length < 100000) (hd : H1 d = some (.ext φ))
    (he : ∀ (i : Nat) k v, kvs[i]? = some (k, v) → ∀ H2 R, Same H1 H2 → (∀ H3, Same H2 H3 → R (f k) H3) → te (some (kV k) :: pick σ js) H2 R)
    (hQ : ∀ acc H', Same H1 H' → H1 acc = none → H' acc = some (.lst (kvs.map fun p => f p.1)) → Q (.ref acc) H') : CompB (Itk φ d kvs) H1 (none :: js) (gName 0) tYes te σ Q :=
  comp_walk (J := Itk φ d kvs) (H1 := H1) (js := js) (σ := σ) (tc := tYes) (te := te) (Q := Q) kvs.length (fun i => ((kvs[i]?).map fun p => kV p.1).getD .non) (fun _ => true) (fun _ i v _ => v = ((kvs[i]?).map fun p => f p.1).getD .non) hn (fun _ _ _ _ _ h _ => h)
    (fun _ H h s => ⟨s _ _ hd, h⟩) (fun H s => ⟨s _ _ hd, Nat.le_refl _⟩)
    (fun i H x H' h s y => ⟨y.1, by obtain ⟨_, k, v, e, ex⟩ := y; rw [e, ex]; rfl⟩)
    (fun _ _ _ _ _ h => h)
    (fun _ i hi _ H2 R s _ _ k => by
      have e : kvs[i]? = some (kvs[i].1, kvs[i].2) := List.getElem?_eq_getElem hi
      rw [e]
      exact he i _ _ e H2 R s fun H3 s3 => k _ H3 s3 (by rw [e]; rfl))
    fun acc vs H' s n' e p => hQ acc H' s n' (by
      rw [e, paired_map p, List.filter_eq_self.mpr (fun _ _ => rfl)]
      congr 1; congr 1
      apply List.ext_getElem?
      intro i
      rw [List.getElem?_map, List.getElem?_map]
      by_cases hi : i < kvs.length
      · rw [List.getElem?_range hi, Option.map_some, List.getElem?_eq_getElem hi]; rfl
      · rw [List.getElem?_eq_none (by simp; omega), List.getElem?_eq_none (by omega)]; rfl)
end L2
set_option Elab.async false
set_option linter.all false
set_option maxRecDepth 100000
namespace L2
noncomputable abbrev HK := List (Key × V)
noncomputable def cnt (kvs : HK) (q : Nat) : Nat := (kvs.map (·.2)).count (V.int q)
noncomputable def bit (p : Prop) [Decidable p] : Nat := if p then 1 else 0
noncomputable def encA (as : List Int) : HK := as.map fun b => (Sum.inl b, V.bl true)
theorem int_dec (p q : Nat) : (V.int (p : Int) == V.int (q : Int)) = decide (q = p) := by
  by_cases h : q = p
  · subst h; simp
  · have : ¬ (V.int (p : Int) = V.int (q : Int)) := fun e => h (by injection e with e; omega)
    simp [h, this]
theorem cnt_new {kvs : HK} {k : Key} {p q : Nat} (h : valV kvs k = none) : cnt (putK kvs k (.int p)) q = cnt kvs q + bit (q = p) := by
  have a : ¬ (kvs.any fun kv => decide (kv.1 = k)) = true := by rw [valV_any, h]; simp
  unfold cnt putK bit
  rw [if_neg a, List.map_append, List.count_append]
  simp only [List.map_cons, List.map_nil, List.count_cons, List.count_nil, int_dec]
  by_cases e : q = p <;> simp [e]
theorem cnt_map_no {k : Key} {y : V} {kvs : HK} (h : ¬ k ∈ kvs.map (·.1)) : (kvs.map fun kv => if kv.1 = k then (kv.1, y) else kv) = kvs := by
  induction kvs with
  | nil => rfl
  | cons p r ih =>
    rw [List.map_cons, List.mem_cons] at h
    rw [List.map_cons, if_neg (fun e => h (.inl e.symm)), ih (fun m => h (.inr m))]
theorem cnt_old : ∀ {kvs : HK} {k : Key} {p p0 q : Nat}, (kvs.map (·.1)).Nodup → valV kvs k = some (.int p0) → cnt (putK kvs k (.int p)) q + bit (q = p0) = cnt kvs q + bit (q = p) := by
  intro kvs k p p0 q nd h
  have a : (kvs.any fun kv => decide (kv.1 = k)) = true := by rw [valV_any, h]; rfl
  unfold putK
  rw [if_pos a]
  clear a
  induction kvs with
  | nil => cases h
  | cons e r ih =>
    have nd' : (e.1 :: r.map (·.1)).Nodup := nd
    obtain ⟨n1, n2⟩ := List.nodup_cons.mp nd'
    by_cases ek : e.1 = k
    · rw [valV_pos ek] at h
      have hv : e.2 = V.int p0 := Option.some.inj h
      rw [List.map_cons, if_pos ek, cnt_map_no (by rw [← ek]; exact n1)]
      unfold cnt bit
      rw [List.map_cons, List.map_cons, List.count_cons, List.count_cons, hv, int_dec, int_dec]
      simp only [decide_eq_true_eq]
      omega
    · rw [valV_neg ek] at h
      have := ih n2 h
      rw [List.map_cons, if_neg ek]
      unfold cnt bit at *
      rw [List.map_cons, List.map_cons, List.count_cons, List.count_cons]
      omega
theorem nd_put {kvs : HK} {k : Key} {v : V} (nd : (kvs.map (·.1)).Nodup) : ((putK kvs k v).map (·.1)).Nodup := by
  cases h : valV kvs k with
  | none => exact nd_putK v nd h
  | some x =>
    have a : (kvs.any fun kv => decide (kv.1 = k)) = true := by rw [valV_any, h]; rfl
    unfold putK
    rw [if_pos a, List.map_map]
    have e : ((fun x : Key × V => x.1) ∘ fun kv : Key × V => if kv.1 = k then (kv.1, v) else kv) = fun x => x.1 := by
      funext x
      show (if x.1 = k then (x.1, v) else x).1 = x.1
      split <;> rfl
    rw [e]; exact nd
theorem mem_put {kvs : HK} {k : Key} {v : V} {e : Key × V} (h : e ∈ putK kvs k v) : e = (k, v) ∨ e ∈ kvs := by
  unfold putK at h
  split at h
  · obtain ⟨x, hx, ex⟩ := List.mem_map.mp h
    by_cases c : x.1 = k
    · rw [if_pos c] at ex
      left; rw [← ex, c]
    · rw [if_neg c] at ex
      right; rw [← ex]; exact hx
  · rcases List.mem_append.mp h with m | m
    · exact .inr m
    · exact .inl (List.mem_singleton.mp m)
theorem valV_mem {kvs : HK} {k : Key} {v : V} (h : valV kvs k = some v) : (k, v) ∈ kvs := by
  unfold valV at h
  obtain ⟨x, hx, e⟩ := Option.map_eq_some_iff.mp h
  have := List.find?_some hx
  have e1 : x.1 = k := of_decide_eq_true this
  have := List.mem_of_find?_eq_some hx
  rw [← e1, ← e]; exact this
theorem valV_of_mem {kvs : HK} {k : Key} {v : V} (nd : (kvs.map (·.1)).Nodup) (m : (k, v) ∈ kvs) : valV kvs k = some v := by
  induction kvs with
  | nil => cases m
  | cons e r ih =>
    obtain ⟨n1, n2⟩ := List.nodup_cons.mp (show (e.1 :: r.map (·.1)).Nodup from nd)
    rcases List.mem_cons.mp m with h | h
    · subst h; exact valV_pos rfl
    · have : ¬ e.1 = k := fun z => n1 (by rw [z]; exact List.mem_map.mpr ⟨_, h, rfl⟩)
      rw [valV_neg this]; exact ih n2 h
theorem encA_val (as : List Int) (b : Int) : valV (encA as) (Sum.inl b) = if b ∈ as then some (V.bl true) else none := by
  induction as with
  | nil => rfl
  | cons a r ih =>
    show valV ((Sum.inl a, V.bl true) :: encA r) _ = _
    by_cases e : a = b
    · subst e; rw [valV_pos rfl]; simp
    · rw [valV_neg (fun z => e (Sum.inl.inj z)), ih]
      have : ¬ b = a := fun z => e z.symm
      simp [this]
theorem encA_put {as : List Int} {b : Int} (h : ¬ b ∈ as) : putK (encA as) (Sum.inl b) (V.bl true) = encA (as ++ [b]) := by
  have a : ¬ ((encA as).any fun kv => decide (kv.1 = Sum.inl b)) = true := by rw [valV_any, encA_val, if_neg h]; simp
  unfold putK
  rw [if_neg a]
  unfold encA
  rw [List.map_append]; rfl
noncomputable def Good (ps : List (List Int)) (kvs : HK) : Prop := ∀ e ∈ kvs, ∃ (b : Int) (q : Nat) (p : List Int), e = (Sum.inl b, V.int q) ∧ ps[q]? = some p ∧ b ∈ p
theorem Good.put {ps : List (List Int)} {kvs : HK} (g : Good ps kvs) {b : Int} {q : Nat} {p : List Int} (h : ps[q]? = some p) (hb : b ∈ p) : Good ps (putK kvs (Sum.inl b) (.int q)) := fun e he => by
  rcases mem_put he with z | z
  · exact ⟨b, q, p, z, h, hb⟩
  · exact g e z
theorem Good.val {ps : List (List Int)} {kvs : HK} (g : Good ps kvs) {b : Int} {v : V} (h : valV kvs (Sum.inl b) = some v) : ∃ (q : Nat) (p : List Int), v = .int q ∧ ps[q]? = some p ∧ b ∈ p := by
  obtain ⟨b', q, p, e, h1, h2⟩ := g _ (valV_mem h)
  injection e with e1 e2
  cases e1
  exact ⟨q, p, e2, h1, h2⟩
noncomputable def Clo (ps : List (List Int)) (kvs : HK) (as as' : List Int) : Prop := ∀ b ∈ as', b ∉ as → ∃ (q : Nat) (p : List Int), valV kvs (Sum.inl b) = some (.int q) ∧ ps[q]? = some p ∧ ∀ c ∈ p, c ∈ as'
structure Sett (ps : List (List Int)) (U : List Int) (pl : Nat) (kvs : HK) (as : List Int) (ok : Bool) (kvs' : HK) (as' : List Int) : Prop where
  grow : ∀ b ∈ as, b ∈ as'
  nd : as'.Nodup
  sub : ∀ b ∈ as', b ∈ U
  no : ok = false → kvs' = kvs ∧ (∀ p, ps[pl]? = some p → ∀ b ∈ p, b ∈ as') ∧ Clo ps kvs as as'
  yes : ok = true → (kvs'.map (·.1)).Nodup ∧ Good ps kvs' ∧ (∀ q, cnt kvs' q = cnt kvs q + bit (q = pl)) ∧ (∀ b ∈ as, valV kvs' (Sum.inl b) = valV kvs (Sum.inl b)) ∧ kvs'.length ≤ kvs.length + U.length
structure SLoop (ps : List (List Int)) (U : List Int) (p : List Int) (kvs : HK) (as : List Int) (i : Nat) (ai : List Int) : Prop where
  grow : ∀ b ∈ as, b ∈ ai
  nd : ai.Nodup
  sub : ∀ b ∈ ai, b ∈ U
  past : ∀ b ∈ p.take i, b ∈ ai
  clo : Clo ps kvs as ai
theorem take_succ_mem {p : List Int} {i : Nat} {b c : Int} (h : p[i]? = some b) (hc : c ∈ p.take (i + 1)) : c ∈ p.take i ∨ c = b := by
  rw [List.take_add_one, h] at hc
  rcases List.mem_append.mp hc with z | z
  · exact .inl z
  · exact .inr (by simpa using z)
theorem SLoop.skip {ps : List (List Int)} {U p : List Int} {kvs : HK} {as ai : List Int} {i : Nat} {b : Int} (s : SLoop ps U p kvs as i ai) (h : p[i]? = some b) (hb : b ∈ ai) : SLoop ps U p kvs as (i + 1) ai :=
  ⟨s.grow, s.nd, s.sub, fun c hc => (take_succ_mem h hc).elim (s.past c) (fun e => e ▸ hb), s.clo⟩
theorem SLoop.miss {ps : List (List Int)} {U p : List Int} {kvs : HK} {as ai : List Int} {i q : Nat} {b : Int} {kvs2 : HK} {as2 : List Int} (s : SLoop ps U p kvs as i ai) (h : p[i]? = some b) (hb : b ∉ ai) (hq : valV kvs (Sum.inl b) = some (.int q)) (hl : q < ps.length)
    (r : Sett ps U q kvs (ai ++ [b]) false kvs2 as2) : kvs2 = kvs ∧ SLoop ps U p kvs as (i + 1) as2 := by
  obtain ⟨e, h1, h2⟩ := r.no rfl
  have g : ∀ c ∈ ai, c ∈ as2 := fun c hc => r.grow c (List.mem_append_left _ hc)
  have gb : b ∈ as2 := r.grow b (by simp)
  refine ⟨e, fun c hc => g c (s.grow c hc), r.nd, r.sub, fun c hc => (take_succ_mem h hc).elim (fun z => g c (s.past c z)) (fun e => e ▸ gb), fun c hc hn => ?_⟩
  by_cases c1 : c ∈ ai
  · obtain ⟨q', p', a1, a2, a3⟩ := s.clo c c1 hn
    exact ⟨q', p', a1, a2, fun d hd => g d (a3 d hd)⟩
  · by_cases c2 : c = b
    · subst c2
      exact ⟨q, ps[q], hq, List.getElem?_eq_getElem hl, h1 _ (List.getElem?_eq_getElem hl)⟩
    · exact h2 c hc (by simp [c1, c2])
theorem SLoop.free {ps : List (List Int)} {U p : List Int} {kvs : HK} {as ai : List Int} {i pl : Nat} {b : Int} (s : SLoop ps U p kvs as i ai) (hp : ps[pl]? = some p) (hU : ∀ b ∈ p, b ∈ U) (h : p[i]? = some b) (hb : b ∉ ai) (hq : valV kvs (Sum.inl b) = none)
    (nd : (kvs.map (·.1)).Nodup) (g : Good ps kvs) : Sett ps U pl kvs as true (putK kvs (Sum.inl b) (.int pl)) (ai ++ [b]) where
  grow := fun c hc => List.mem_append_left _ (s.grow c hc)
  nd := nd_snoc s.nd hb
  sub := fun c hc => (List.mem_append.mp hc).elim (s.sub c) fun z => by rw [List.mem_singleton.mp z]; exact hU b (List.mem_of_getElem? h)
  no := fun e => by cases e
  yes := fun _ => ⟨nd_put nd, g.put hp (List.mem_of_getElem? h), fun q => cnt_new hq, fun c hc => by
    rw [valV_put, if_neg (fun e => hb (by cases e; exact s.grow _ hc))], by
    have h1 := length_putK kvs (Sum.inl b) (V.int (pl : Int))
    have h2 : 0 < U.length := List.length_pos_of_mem (hU b (List.mem_of_getElem? h))
    omega⟩
theorem SLoop.turn {ps : List (List Int)} {U p : List Int} {kvs : HK} {as ai : List Int} {i pl q : Nat} {b : Int} {kvs2 : HK} {as2 : List Int} (s : SLoop ps U p kvs as i ai) (hp : ps[pl]? = some p) (h : p[i]? = some b) (hb : b ∉ ai)
    (hq : valV kvs (Sum.inl b) = some (.int q)) (r : Sett ps U q kvs (ai ++ [b]) true kvs2 as2) : Sett ps U pl kvs as true (putK kvs2 (Sum.inl b) (.int pl)) as2 := by
  obtain ⟨n2, g2, c2, v2, l2⟩ := r.yes rfl
  have hb2 : valV kvs2 (Sum.inl b) = some (.int q) := (v2 b (by simp)).trans hq
  refine ⟨fun c hc => r.grow c (List.mem_append_left _ (s.grow c hc)), r.nd, r.sub, (fun e => by cases e), fun _ => ⟨nd_put n2, g2.put hp (List.mem_of_getElem? h), fun t => ?_, fun c hc => ?_, ?_⟩⟩
  · have h1 := cnt_old (p := pl) (q := t) n2 hb2
    have h2 := c2 t
    omega
  · rw [valV_put, if_neg (fun e => hb (by cases e; exact s.grow _ hc)), v2 c (List.mem_append_left _ (s.grow c hc))]
  · have a : (kvs2.any fun kv => decide (kv.1 = Sum.inl b)) = true := by rw [valV_any, hb2]; rfl
    unfold putK
    rw [if_pos a, List.length_map]; exact l2
theorem SLoop.done {ps : List (List Int)} {U p : List Int} {kvs : HK} {as ai : List Int} {pl : Nat} (s : SLoop ps U p kvs as p.length ai) (hp : ps[pl]? = some p) : Sett ps U pl kvs as false kvs ai :=
  ⟨s.grow, s.nd, s.sub, fun _ => ⟨rfl, fun p' e b hb => by
    rw [hp] at e; cases e
    exact s.past b (by rw [List.take_length]; exact hb), s.clo⟩, fun e => by cases e⟩
theorem left_lt {U ai as : List Int} {b : Int} (hU : b ∈ U) (hb : b ∉ ai) (g : ∀ c ∈ as, c ∈ ai) : (U.filter fun c => decide (c ∉ ai ++ [b])).length < (U.filter fun c => decide (c ∉ as)).length := by
  induction U with
  | nil => cases hU
  | cons u r ih =>
    have le : ∀ l : List Int, (l.filter fun c => decide (c ∉ ai ++ [b])).length ≤ (l.filter fun c => decide (c ∉ as)).length := fun l => by
      induction l with
      | nil => exact Nat.le_refl _
      | cons x t ih =>
        by_cases hx : x ∈ as
        · rw [List.filter_cons_of_neg (by simp [g x hx]), List.filter_cons_of_neg (by simp [hx])]; exact ih
        · rw [List.filter_cons_of_pos (p := fun c => decide (c ∉ as)) (by simp [hx])]
          by_cases hy : x ∈ ai ++ [b]
          · rw [List.filter_cons_of_neg (by simp only [decide_eq_true_eq]; exact fun z => z hy), List.length_cons]; omega
          · rw [List.filter_cons_of_pos (by simp only [decide_eq_true_eq]; exact hy), List.length_cons, List.length_cons]; omega
    have hbs : b ∉ as := fun z => hb (g b z)
    by_cases e : u = b
    · subst e
      rw [List.filter_cons_of_neg (by simp), List.filter_cons_of_pos (p := fun c => decide (c ∉ as)) (by simp [hbs]), List.length_cons]
      have := le r
      omega
    · have hr : b ∈ r := (List.mem_cons.mp hU).resolve_left fun z => e z.symm
      have := ih hr
      by_cases hx : u ∈ as
      · rw [List.filter_cons_of_neg (by simp [g u hx]), List.filter_cons_of_neg (by simp [hx])]; exact this
      · rw [List.filter_cons_of_pos (p := fun c => decide (c ∉ as)) (by simp [hx])]
        by_cases hy : u ∈ ai ++ [b]
        · rw [List.filter_cons_of_neg (by simp only [decide_eq_true_eq]; exact fun z => z hy), List.length_cons]; omega
        · rw [List.filter_cons_of_pos (by simp only [decide_eq_true_eq]; exact hy), List.length_cons, List.length_cons]; omega
structure Deal (ps : List (List Int)) (hs : List Int) : Prop where
  len : hs.length = ps.length
  of : ∀ k (h1 : k < hs.length) (h2 : k < ps.length), hs[k] ∈ ps[k]
  nd : hs.Nodup
structure Short (ps : List (List Int)) (ms : List Nat) : Prop where
  up : ms.Pairwise (· < ·)
  few : ∃ X : List Int, X.length < ms.length ∧ ∀ q ∈ ms, ∃ p, ps[q]? = some p ∧ ∀ c ∈ p, c ∈ X
structure Held (ps : List (List Int)) (kvs : HK) (n : Nat) : Prop where
  nd : (kvs.map (·.1)).Nodup
  good : Good ps kvs
  one : ∀ q, cnt kvs q = bit (q < n)
theorem Held.start {ps : List (List Int)} : Held ps [] 0 := ⟨List.nodup_nil, fun _ h => (by cases h), fun q => by unfold cnt bit; simp⟩
theorem Held.next {ps : List (List Int)} {U : List Int} {kvs kvs' : HK} {n : Nat} {as' : List Int} (h : Held ps kvs n) (r : Sett ps U n kvs [] true kvs' as') : Held ps kvs' (n + 1) := by
  obtain ⟨a, b, c, _⟩ := r.yes rfl
  refine ⟨a, b, fun q => ?_⟩
  rw [c q, h.one q]
  unfold bit
  by_cases h1 : q < n
  · rw [if_pos h1, if_neg (by omega), if_pos (by omega)]
  · by_cases h2 : q = n
    · rw [if_neg h1, if_pos h2, if_pos (by omega)]
    · rw [if_neg h1, if_neg h2, if_neg (by omega)]
theorem nodup_of_count {α : Type} [DecidableEq α] {l : List α} (h : ∀ a, l.count a ≤ 1) : l.Nodup := by
  induction l with
  | nil => exact List.nodup_nil
  | cons x r ih =>
    refine List.nodup_cons.mpr ⟨fun m => ?_, ih fun a => ?_⟩
    · have q := h x
      have h2 := List.count_pos_iff.mpr m
      rw [List.count_cons_self] at q
      exact absurd h2 (Nat.not_lt_of_le (Nat.le_of_succ_le_succ q))
    · have q := h a
      rw [List.count_cons] at q
      exact Nat.le_trans (Nat.le_add_right _ _) q
theorem Held.vals {ps : List (List Int)} {kvs : HK} {n : Nat} (h : Held ps kvs n) : (kvs.map (·.2)).Nodup := nodup_of_count fun a => by
  by_cases m : a ∈ kvs.map (·.2)
  · obtain ⟨e, he, ea⟩ := List.mem_map.mp m
    obtain ⟨b, q, p, e1, _⟩ := h.good e he
    have ea' : a = V.int q := by rw [← ea, e1]
    have := h.one q
    unfold cnt bit at this
    rw [ea', this]
    split <;> omega
  · rw [List.count_eq_zero_of_not_mem m]; omega
theorem Held.lt {ps : List (List Int)} {kvs : HK} {n : Nat} (h : Held ps kvs n) {k : Key} {q : Nat} (m : (k, V.int q) ∈ kvs) : q < n := by
  have h1 : V.int (q : Int) ∈ kvs.map (·.2) := List.mem_map.mpr ⟨_, m, rfl⟩
  have h2 := List.count_pos_iff.mpr h1
  have := h.one q
  unfold cnt bit at this
  rw [this] at h2
  split at h2
  · assumption
  · omega
theorem Held.mem {ps : List (List Int)} {kvs : HK} {n q : Nat} (h : Held ps kvs n) (hq : q < n) : ∃ (b : Int) (p : List Int), (Sum.inl b, V.int q) ∈ kvs ∧ ps[q]? = some p ∧ b ∈ p := by
  have := h.one q
  unfold cnt bit at this
  rw [if_pos hq] at this
  have h1 : V.int (q : Int) ∈ kvs.map (·.2) := List.count_pos_iff.mp (by omega)
  obtain ⟨e, he, ea⟩ := List.mem_map.mp h1
  obtain ⟨b, q', p, e1, e2, e3⟩ := h.good e he
  subst e1
  have : q' = q := by
    have z : V.int (q' : Int) = V.int q := ea
    injection z with z
    omega
  subst this
  exact ⟨b, p, he, e2, e3⟩
theorem Held.key {ps : List (List Int)} {kvs : HK} {n q q' : Nat} {b : Int} (h : Held ps kvs n) (h1 : (Sum.inl b, V.int q) ∈ kvs) (h2 : (Sum.inl b, V.int q') ∈ kvs) : q = q' := by
  have a := valV_of_mem h.nd h1
  have c := valV_of_mem h.nd h2
  rw [a] at c
  have c := Option.some.inj c
  injection c with c
  omega
theorem Held.inj {ps : List (List Int)} {kvs : HK} {n q : Nat} {k k' : Key} (h : Held ps kvs n) (h1 : (k, V.int q) ∈ kvs) (h2 : (k', V.int q) ∈ kvs) : k = k' := by
  obtain ⟨i, hi, ei⟩ := List.mem_iff_getElem.mp h1
  obtain ⟨j, hj, ej⟩ := List.mem_iff_getElem.mp h2
  have nd := h.vals
  have e : (kvs.map (·.2))[i]'(by simpa using hi) = (kvs.map (·.2))[j]'(by simpa using hj) := by simp [ei, ej]
  have := (List.getElem_inj nd).mp e
  subst this
  rw [ei] at ej
  exact congrArg Prod.fst ej
theorem Held.deal {ps : List (List Int)} {kvs : HK} {hs : List Int} (h : Held ps kvs ps.length) (hl : hs.length = ps.length) (e : ∀ b (q : Nat), (Sum.inl b, V.int q) ∈ kvs → hs[q]? = some b) : Deal ps hs := by
  refine ⟨hl, fun k h1 h2 => ?_, ?_⟩
  · obtain ⟨b, p, m, e2, e3⟩ := h.mem h2
    have := e b k m
    rw [List.getElem?_eq_getElem h1] at this
    rw [Option.some.inj this]
    rw [List.getElem?_eq_getElem h2] at e2
    rw [Option.some.inj e2]; exact e3
  · rw [List.nodup_iff_pairwise_ne, List.pairwise_iff_getElem]
    intro i j hi hj hij z
    obtain ⟨b, _, m, _, _⟩ := h.mem (q := i) (by omega)
    obtain ⟨c, _, m', _, _⟩ := h.mem (q := j) (by omega)
    have e1 := e b i m
    have e2 := e c j m'
    rw [List.getElem?_eq_getElem hi] at e1
    rw [List.getElem?_eq_getElem hj] at e2
    have e1 := Option.some.inj e1
    have e2 := Option.some.inj e2
    have : b = c := by rw [← e1, ← e2]; exact z
    subst this
    have := h.key m m'
    omega
noncomputable def hold (kvs : HK) (b : Int) : Int := match valV kvs (Sum.inl b) with
  | some (.int i) => i
  | _ => 0
theorem hold_of {kvs : HK} {b i : Int} (h : valV kvs (Sum.inl b) = some (.int i)) : hold kvs b = i := by unfold hold; rw [h]
theorem Held.short {ps : List (List Int)} {U : List Int} {kvs kvs' : HK} {n : Nat} {as' : List Int} {ms : List Int} (h : Held ps kvs n) (hn : n < ps.length) (r : Sett ps U n kvs [] false kvs' as') (hp : ms.Perm ((n : Int) :: as'.map (hold kvs))) (hs : ms.Pairwise (· ≤ ·)) :
    ∃ qs : List Nat, ms = qs.map Int.ofNat ∧ Short ps qs := by
  obtain ⟨_, h1, h2⟩ := r.no rfl
  have hv : ∀ b ∈ as', ∃ (q : Nat) (p : List Int), valV kvs (Sum.inl b) = some (.int q) ∧ ps[q]? = some p ∧ ∀ c ∈ p, c ∈ as' := fun b hb => h2 b hb (by simp)
  have nd0 : ((n : Int) :: as'.map (hold kvs)).Nodup := by
    refine List.nodup_cons.mpr ⟨fun m => ?_, ?_⟩
    · obtain ⟨b, hb, e⟩ := List.mem_map.mp m
      obtain ⟨q, p, a1, _⟩ := hv b hb
      rw [hold_of a1] at e
      have := h.lt (valV_mem a1)
      omega
    · rw [List.nodup_iff_pairwise_ne, List.pairwise_map]
      refine List.Pairwise.imp_of_mem (R := (· ≠ ·)) ?_ (List.nodup_iff_pairwise_ne.mp r.nd)
      intro b c hb hc hne z
      obtain ⟨q, p, a1, _⟩ := hv b hb
      obtain ⟨q', p', a2, _⟩ := hv c hc
      rw [hold_of a1, hold_of a2] at z
      have : q = q' := by omega
      subst this
      have := h.inj (valV_mem a1) (valV_mem a2)
      exact hne (Sum.inl.inj this)
  have ndm : ms.Nodup := hp.nodup_iff.mpr nd0
  have nn : ∀ m ∈ ms, ∃ q : Nat, m = Int.ofNat q ∧ ∃ p, ps[q]? = some p ∧ ∀ c ∈ p, c ∈ as' := fun m hm => by
    rcases List.mem_cons.mp (hp.mem_iff.mp hm) with e | e
    · exact ⟨n, e, ps[n], List.getElem?_eq_getElem hn, h1 _ (List.getElem?_eq_getElem hn)⟩
    · obtain ⟨b, hb, e⟩ := List.mem_map.mp e
      obtain ⟨q, p, a1, a2, a3⟩ := hv b hb
      rw [hold_of a1] at e
      exact ⟨q, e.symm, p, a2, a3⟩
  refine ⟨ms.map Int.toNat, ?_, ?_, as', ?_, fun q hq => ?_⟩
  · rw [List.map_map]
    have : ∀ m ∈ ms, (Int.ofNat ∘ Int.toNat) m = m := fun m hm => by
      obtain ⟨q, e, _⟩ := nn m hm
      rw [e]; rfl
    exact ((List.map_congr_left this).trans (List.map_id _)).symm
  · rw [List.pairwise_map]
    have both : ms.Pairwise fun a b => a ≤ b ∧ a ≠ b := hs.and (List.nodup_iff_pairwise_ne.mp ndm)
    refine List.Pairwise.imp_of_mem ?_ both
    intro a b ha hb ⟨h1, h2⟩
    obtain ⟨q, e, _⟩ := nn a ha
    obtain ⟨q', e', _⟩ := nn b hb
    subst e e'
    have : (q : Int) ≤ q' := h1
    have h3 : (q : Int) ≠ q' := h2
    show q < q'
    omega
  · rw [List.length_map, hp.length_eq, List.length_cons, List.length_map]; omega
  · obtain ⟨m, hm, e⟩ := List.mem_map.mp hq
    obtain ⟨q', e', z⟩ := nn m hm
    subst e'
    have : q = q' := by rw [← e]; rfl
    subst this
    exact z
end L2
set_option Elab.async false
set_option linter.all false
set_option maxRecDepth 100000
namespace L2
open PySem PySem.Spec PyProof.Rows
noncomputable def SameX (ex : List Addr) (H H' : Hp) : Prop := ∀ b o, b ∉ ex → H b = some o → H' b = some o
theorem SameX.refl {ex : List Addr} {H : Hp} : SameX ex H H := fun _ _ _ h => h
theorem SameX.trans {ex : List Addr} {H H1 H2 : Hp} (a : SameX ex H H1) (b : SameX ex H1 H2) : SameX ex H H2 := fun c o n h => b c o n (a c o n h)
theorem SameX.upd {ex : List Addr} {H : Hp} {a : Addr} {o : HO} (h : a ∈ ex) : SameX ex H (upd H a o) := fun b u n e => by rw [upd_ne (fun z : b = a => n (by rw [z]; exact h))]; exact e
theorem Same.x {ex : List Addr} {H H' : Hp} (s : Same H H') : SameX ex H H' := fun b o _ h => s b o h
noncomputable def IsDk (H : Hp) (a : Addr) : Prop := ∃ kvs, H a = some (.dK kvs)
theorem SameX.seq {K : PySem.W.Frag} {ex : List Addr} {H H' : Hp} {a : Addr} {xs : List V} (s : SameX ex H H') (hx : ∀ x ∈ ex, IsDk H x) (h : SqL K H a xs) : SqL K H' a xs := by
  have ne : ∀ u, H a = some u → (∀ kvs, u ≠ .dK kvs) → a ∉ ex := fun u e n m => by
    obtain ⟨kvs, q⟩ := hx a m
    rw [e] at q
    exact n kvs (Option.some.inj q)
  rcases h with (h | ⟨o, h⟩) | h
  · exact .inl (.inl (s _ _ (ne _ h (fun _ z => by cases z)) h))
  · exact .inl (.inr ⟨o, s _ _ (ne _ h (fun _ z => by cases z)) h⟩)
  · exact .inr h
noncomputable def PoolsL (K : PySem.W.Frag) (H : Hp) (rs : List Addr) (ps : List (List Int)) : Prop := Paired (fun r p => SqL K H r (p.map V.int)) rs ps
theorem PoolsL.mono {K : PySem.W.Frag} {ex : List Addr} {H H' : Hp} {rs : List Addr} {ps : List (List Int)} (h : PoolsL K H rs ps) (s : SameX ex H H') (hx : ∀ x ∈ ex, IsDk H x) : PoolsL K H' rs ps := Paired.mapP h fun _ _ q => s.seq hx q
theorem PoolsL.same {K : PySem.W.Frag} {H H' : Hp} {rs : List Addr} {ps : List (List Int)} (h : PoolsL K H rs ps) (s : Same H H') : PoolsL K H' rs ps := Paired.mapP h fun _ _ q => s.seq q
theorem PoolsL.at {K : PySem.W.Frag} {H : Hp} {rs : List Addr} {ps : List (List Int)} (h : PoolsL K H rs ps) {i : Nat} {p : List Int} (e : ps[i]? = some p) : ∃ r, rs[i]? = some r ∧ SqL K H r (p.map V.int) := pair_get (F := fun (r : Addr) (p : List Int) => SqL K H r (p.map V.int)) h e
theorem PoolsL.len {K : PySem.W.Frag} {H : Hp} {rs : List Addr} {ps : List (List Int)} (h : PoolsL K H rs ps) : rs.length = ps.length := Paired.length h
theorem paired_of {α β : Type} {F : α → β → Prop} : ∀ {l : List α} {r : List β}, l.length = r.length → (∀ (i : Nat) a b, l[i]? = some a → r[i]? = some b → F a b) → Paired F l r := by
  intro l
  induction l with
  | nil =>
    intro r h f
    cases r with
    | nil => exact .nil
    | cons b r => cases h
  | cons a l ih =>
    intro r h f
    cases r with
    | nil => cases h
    | cons b r => exact .cons (f 0 a b rfl rfl) (ih (Nat.succ.inj h) fun i x y e1 e2 => f (i + 1) x y e1 e2)
theorem keys_le {ps : List (List Int)} {U : List Int} {kvs : HK} (hU : ∀ p ∈ ps, ∀ b ∈ p, b ∈ U) (g : Good ps kvs) (nd : (kvs.map (·.1)).Nodup) : kvs.length ≤ U.length := by
  have h : (kvs.map (·.1)).length ≤ (U.map (Sum.inl : Int → Key)).length := nd.length_le_of_subset fun k hk => by
    obtain ⟨e, he, ek⟩ := List.mem_map.mp hk
    obtain ⟨b, q, p, e1, e2, e3⟩ := g e he
    rw [← ek, e1]
    exact List.mem_map.mpr ⟨b, hU p (List.mem_of_getElem? e2) b e3, rfl⟩
  simpa using h
theorem inV_int (b : Int) (bs : List Int) : inV (.int b) (bs.map V.int) = decide (b ∈ bs) := by
  unfold inV
  induction bs with
  | nil => rfl
  | cons c r ih =>
    rw [List.map_cons, List.any_cons, ih]
    by_cases h : c = b
    · subst h; simp [eqV]
    · have h' : ¬ b = c := fun z => h z.symm
      simp [eqV, h, h']
theorem flat_all (bs : List Int) : (bs.map V.int).all flatV = true := by
  rw [List.all_eq_true]
  intro x hx
  obtain ⟨i, _, e⟩ := List.mem_map.mp hx
  rw [← e]; rfl
theorem paired_refs {G : Nat → Addr → Prop} : ∀ {l : List Nat} {vs : List V}, Paired (fun i v => ∃ r, v = .ref r ∧ G i r) l vs → ∃ rs : List Addr, vs = rs.map V.ref ∧ Paired G l rs := by
  intro l vs h
  induction h with
  | nil => exact ⟨[], rfl, .nil⟩
  | cons q t ih =>
    obtain ⟨r, e, g⟩ := q
    obtain ⟨rs, e2, p⟩ := ih
    exact ⟨r :: rs, by rw [e, e2]; rfl, .cons g p⟩
theorem comp_lists {K : PySem.W.Frag} {H1 : Hp} {js : List (Option Nat)} {σ : L2.St} {te : TE} {Q : VK} {a : Addr} {xs : List V} (f : Nat → List V) (hl : SqL K H1 a xs) (hn : xs.length < 100000)
    (he : ∀ (i : Nat) x, xs[i]? = some x → ∀ H2 R, Same H1 H2 → (∀ r H3, Same H2 H3 → H2 r = none → H3 r = some (.lst (f i)) → R (.ref r) H3) → te (some x :: pick σ js) H2 R)
    (hQ : ∀ acc (rs : List Addr) H', Same H1 H' → H1 acc = none → H' acc = some (.lst (rs.map V.ref)) → rs.length = xs.length → (∀ (i : Nat) r, rs[i]? = some r → H' r = some (.lst (f i)) ∧ H1 r = none) → (∀ r ∈ rs, r ≠ acc) → Q (.ref acc) H') :
    CompB (Itl K a) H1 (none :: js) (gName 0) tYes te σ Q :=
  comp_list (K := K) (H1 := H1) (js := js) (σ := σ) (tc := tYes) (te := te) (Q := Q) (a := a) (xs := xs) (fun _ => true) (fun acc i v H => ∃ r, v = .ref r ∧ r ≠ acc ∧ H1 r = none ∧ H r = some (.lst (f i))) hl hn
    (fun acc i v H H' ⟨r, e, n, h0, h⟩ s => ⟨r, e, n, h0, s r _ n h⟩) (fun _ _ _ _ _ _ h => h)
    (fun acc i x hx _ H2 R s n1 n2 k => he i x hx H2 R s fun r H3 s3 nr h3 => k _ H3 s3 ⟨r, rfl, fun z => n2 (by rw [← z]; exact nr), s.free nr, h3⟩)
    fun acc vs H' s n' e p => by
      rw [List.filter_eq_self.mpr (fun _ _ => rfl)] at p
      obtain ⟨rs, e2, p2⟩ := paired_refs p
      have ln : rs.length = xs.length := by rw [← Paired.length p2, List.length_range]
      have all : ∀ (i : Nat) r, rs[i]? = some r → r ≠ acc ∧ H1 r = none ∧ H' r = some (.lst (f i)) := fun i r hi => by
        obtain ⟨j, hj, g⟩ := pair_get p2 hi
        have lt : i < xs.length := by rw [← ln]; exact (List.getElem?_eq_some_iff.mp hi).1
        rw [List.getElem?_range lt] at hj
        cases hj
        exact g
      refine hQ acc rs H' s n' (by rw [e, e2]) ln (fun i r hi => ⟨(all i r hi).2.2, (all i r hi).2.1⟩) fun r hr => ?_
      obtain ⟨i, hi, ei⟩ := List.mem_iff_getElem.mp hr
      exact (all i r (by rw [List.getElem?_eq_getElem hi, ei])).1
end L2
set_option Elab.async false
set_option linter.all false
set_option maxRecDepth 100000
namespace L2
open PySem PySem.Spec PyProof.Rows
noncomputable abbrev Rise (xs : List Nat) : Prop := xs.Pairwise (· < ·)
structure CutAt (xs : Array Nat) (j p : Nat) : Prop where
  le : p ≤ xs.size
  lo : ∀ i (h : i < xs.size), i < p → xs[i] < j
  hi : ∀ i (h : i < xs.size), p ≤ i → j ≤ xs[i]
theorem rise_at {xs : Array Nat} (r : Rise xs.toList) {i k : Nat} (hi : i < xs.size) (hk : k < xs.size) (h : i < k) : xs[i] < xs[k] := by
  have := List.pairwise_iff_getElem.mp r i k (by simpa using hi) (by simpa using hk) h
  simpa using this
theorem below_go {xs : Array Nat} (r : Rise xs.toList) (j : Nat) : ∀ (f lo hi : Nat), hi - lo ≤ f → lo ≤ hi → hi ≤ xs.size → (∀ i (h : i < xs.size), i < lo → xs[i] < j) → (∀ i (h : i < xs.size), hi ≤ i → j ≤ xs[i]) → CutAt xs j (SetTable.below.go xs j f lo hi) := by
  intro f
  induction f with
  | zero =>
    intro lo hi hf hl hs h1 h2
    have e : hi = lo := by omega
    subst e
    exact ⟨hs, h1, h2⟩
  | succ f ih =>
    intro lo hi hf hl hs h1 h2
    unfold SetTable.below.go
    by_cases hlt : lo < hi
    · rw [if_pos hlt]
      have hm : (lo + hi) / 2 < xs.size := by omega
      have eg : xs.getD ((lo + hi) / 2) j = xs[(lo + hi) / 2] := by simp [hm]
      dsimp only
      rw [eg]
      by_cases hc : xs[(lo + hi) / 2] < j
      · rw [if_pos hc]
        refine ih _ _ (by omega) (by omega) hs (fun i h hi' => ?_) h2
        by_cases e : i = (lo + hi) / 2
        · subst e; exact hc
        · exact Nat.lt_trans (rise_at r h hm (by omega)) hc
      · rw [if_neg hc]
        refine ih _ _ (by omega) (by omega) (by omega) h1 fun i h hi' => ?_
        by_cases e : i = (lo + hi) / 2
        · subst e; omega
        · have := rise_at r hm h (by omega)
          omega
    · rw [if_neg hlt]
      have e : hi = lo := by omega
      subst e
      exact ⟨hs, h1, h2⟩
theorem below_cut {xs : Array Nat} (r : Rise xs.toList) (j : Nat) : CutAt xs j (SetTable.below xs j) :=
  below_go r j xs.size 0 xs.size (by omega) (Nat.zero_le _) (Nat.le_refl _) (fun i _ h => by omega) fun i h h' => by omega
theorem CutAt.unique {xs : Array Nat} {j p q : Nat} (a : CutAt xs j p) (b : CutAt xs j q) : p = q := by
  rcases Nat.lt_trichotomy p q with h | h | h
  · have hp : p < xs.size := Nat.lt_of_lt_of_le h b.le
    have := b.lo p hp h
    have := a.hi p hp (Nat.le_refl _)
    omega
  · exact h
  · have hq : q < xs.size := Nat.lt_of_lt_of_le h a.le
    have := a.lo q hq h
    have := b.hi q hq (Nat.le_refl _)
    omega
theorem insert_rise {xs : Array Nat} {j : Nat} (r : Rise xs.toList) (hn : xs[SetTable.below xs j]? ≠ some j) : Rise (SetTable.insertAt xs (SetTable.below xs j) j).toList := by
  have c := below_cut r j
  generalize SetTable.below xs j = p at hn c
  have e : (SetTable.insertAt xs p j).toList = xs.toList.take p ++ j :: xs.toList.drop p := by
    unfold SetTable.insertAt
    simp [Array.toList_append, Array.toList_push, List.extract_eq_take_drop]
    exact List.take_of_length_le (by simp)
  rw [e]
  refine List.pairwise_append.mpr ⟨r.sublist (List.take_sublist _ _), List.pairwise_cons.mpr ⟨fun x hx => ?_, r.sublist (List.drop_sublist _ _)⟩, fun x hx y hy => ?_⟩
  · obtain ⟨i, hi, ei⟩ := List.mem_iff_getElem.mp hx
    rw [List.length_drop, Array.length_toList] at hi
    rw [List.getElem_drop, Array.getElem_toList] at ei
    have h1 := c.hi (p + i) (by omega) (by omega)
    rw [ei] at h1
    by_cases z : x = j
    · exfalso
      have hp : p < xs.size := by omega
      have h2 := c.hi p hp (Nat.le_refl _)
      have h3 : xs[p] ≤ xs[p + i] := by
        by_cases i0 : i = 0
        · subst i0; exact Nat.le_refl _
        · exact Nat.le_of_lt (rise_at r hp (by omega) (by omega))
      have h4 : xs[p] = j := by rw [ei, z] at h3; omega
      exact hn (by rw [Array.getElem?_eq_getElem hp, h4])
    · omega
  · obtain ⟨i, hi, ei⟩ := List.mem_iff_getElem.mp hx
    rw [List.length_take, Array.length_toList] at hi
    rw [List.getElem_take, Array.getElem_toList] at ei
    have h1 := c.lo i (by omega) (by omega)
    rw [ei] at h1
    rcases List.mem_cons.mp hy with z | z
    · omega
    · obtain ⟨k, hk, ek⟩ := List.mem_iff_getElem.mp z
      rw [List.length_drop, Array.length_toList] at hk
      rw [List.getElem_drop, Array.getElem_toList] at ek
      have h2 := c.hi (p + k) (by omega) (by omega)
      omega
theorem slot_free {t : SetTable} {j : Nat} (h : t.slot j = .empty ∨ t.slot j = .dummy) : t.place[SetTable.below t.place j]? ≠ some j := by
  intro z
  have e : t.slot j = .live (SetTable.below t.place j) := by
    unfold SetTable.slot
    dsimp only
    rw [z]
    simp
  rw [e] at h
  rcases h with h | h <;> cases h
theorem probe_free {t : SetTable} {hh : Nat → Int} {h : Int} : ∀ (f : Nat) (p : SetTable.Probe) (j : Nat) (d : Option Nat), (∀ x, p.dummy = some x → t.slot x = .dummy) → SetTable.probe.go t hh h f p = some (.empty j d) → t.slot j = .empty ∧ ∀ x, d = some x → t.slot x = .dummy := by
  intro f
  induction f with
  | zero => intro p j d _ e; unfold SetTable.probe.go at e; cases e
  | succ f ih =>
    intro p j d hp e
    unfold SetTable.probe.go at e
    have adv : ∀ q : SetTable.Probe, (t.advance q).dummy = q.dummy := fun q => by
      unfold SetTable.advance
      split <;> rfl
    cases hs : t.slot p.j with
    | empty =>
      rw [hs] at e
      cases e
      exact ⟨hs, hp⟩
    | dummy =>
      rw [hs] at e
      refine ih _ j d (fun x hx => ?_) e
      rw [adv] at hx
      cases hx
      exact hs
    | live i =>
      rw [hs] at e
      dsimp only at e
      split at e
      · cases e
      · refine ih _ j d (fun x hx => ?_) e
        rw [adv] at hx
        exact hp x hx
theorem freeSlot_free {t : SetTable} {h : Int} {j : Nat} {b : Bool} (e : t.freeSlot h = some (j, b)) : t.place[SetTable.below t.place j]? ≠ some j := by
  unfold SetTable.freeSlot at e
  split at e
  · rename_i j' d hm
    have := probe_free (t := t) (h := h) _ _ j' d (fun x hx => by cases hx) hm
    have e' := Option.some.inj e
    cases d with
    | none =>
      have : j' = j := by have := congrArg Prod.fst e'; simpa using this
      subst this
      exact slot_free (.inl this.1)
    | some x =>
      have hx : x = j := by have := congrArg Prod.fst e'; simpa using this
      subst hx
      exact slot_free (.inr (this.2 x rfl))
  · cases e
structure TabK (led : Bool) (t : SetTable) : Prop where
  led : t.led = led
  rise : t.plain = true → Rise t.place.toList
theorem standIn_tab {led : Bool} {t : SetTable} (h : t.led = led) (n : Nat) : TabK led (t.standIn n) := ⟨h, fun z => by cases z⟩
theorem orStandIn_tab {led : Bool} {t : SetTable} (h : TabK led t) (n : Nat) : TabK led (t.orStandIn n) := by
  unfold SetTable.orStandIn
  split
  · exact h
  · exact standIn_tab h.led n
theorem layNew_tab {led : Bool} {t : SetTable} (h : TabK led t) (es : Array (Int × Value)) (hh : Int) (x : Value) : TabK led (layNew t es hh x).2.1 := by
  unfold layNew
  cases e : t.freeSlot hh with
  | none => exact standIn_tab h.led _
  | some q =>
    obtain ⟨j, b⟩ := q
    refine orStandIn_tab (t := (t.put j).1) ⟨h.led, fun z => ?_⟩ _
    exact insert_rise (h.rise z) (freeSlot_free e)
theorem laid_rise {mask finger moves : Nat} {led plain : Bool} {hs : Array Int} {t : SetTable} {o : Array Nat} (e : SetTable.laid mask finger moves led plain hs = some (t, o)) : t.led = led ∧ Rise t.place.toList := by
  unfold SetTable.laid at e
  obtain ⟨ow, _, e2⟩ := Option.bind_eq_some_iff.mp e
  have e2 := Option.some.inj e2
  have ht := congrArg Prod.fst e2
  dsimp only at ht
  rw [← ht]
  refine ⟨rfl, ?_⟩
  show List.Pairwise (fun a b => a < b) (List.map (fun x : Nat × Nat => x.1) _)
  rw [List.pairwise_map]
  refine List.pairwise_filterMap.mpr ?_
  refine List.Pairwise.imp ?_ List.pairwise_lt_range
  intro a b hab x hx y hy
  obtain ⟨u, _, eu⟩ := Option.map_eq_some_iff.mp hx
  obtain ⟨v, _, ev⟩ := Option.map_eq_some_iff.mp hy
  rw [← eu, ← ev]
  exact hab
theorem relayAll_tab {led : Bool} {t : SetTable} (h : TabK led t) (es : Array (Int × Value)) (n : Nat) : TabK led (relayAll t es n).2.1 := by
  unfold relayAll
  cases e : t.relaid (es.map (·.1)) n with
  | none => exact standIn_tab h.led _
  | some q =>
    obtain ⟨t', o⟩ := q
    dsimp only
    split
    · have := laid_rise e
      exact ⟨this.1.trans h.led, fun _ => this.2⟩
    · exact standIn_tab h.led _
end L2
set_option Elab.async false
set_option linter.all false
set_option maxRecDepth 100000
namespace L2
open PySem PySem.Spec PyProof.Rows
noncomputable abbrev byText (w : World) : Bool := w.params.followText "set-order"
noncomputable def Ents (es : List (Int × Value)) (ks : List Int) : Prop := Paired (fun (e : Int × Value) (k : Int) => ∃ t, e = (hashInt k, Value.int k t)) es ks
structure SetIn (w : World) (o : Obj) (es : Array (Int × Value)) (ep : Nat) (t : SetTable) (ks : List Int) : Prop where
  ex : o.ExactSet
  da : o.data = .set es ep t
  en : Ents es.toList ks
  nd : ks.Nodup
  sz : ks.length < 4000
  ft : t.fits es.size = true
  tb : TabK (!byText w) t
noncomputable def SX (w : World) (a : Addr) (ms : List Int) : Heap → Prop := fun h => ∃ o es ep t ks, h.get? a = some o ∧ SetIn w o es ep t ks ∧ ks.Perm ms
theorem SX.at {w : World} {a : Addr} {ms : List Int} {h h' : Heap} (x : SX w a ms h) (k : ∀ o, h.get? a = some o → h'.get? a = some o) : SX w a ms h' := by
  obtain ⟨o, es, ep, t, ks, e, r⟩ := x
  exact ⟨o, es, ep, t, ks, k o e, r⟩
theorem SX.lt {w : World} {a : Addr} {ms : List Int} {h : Heap} (x : SX w a ms h) : a < h.objs.size := by
  obtain ⟨o, es, ep, t, ks, e, r⟩ := x
  exact Heap.lt_size e
theorem SX.perm {w : World} {a : Addr} {ms ns : List Int} {h : Heap} (x : SX w a ms h) (p : ms.Perm ns) : SX w a ns h := by
  obtain ⟨o, es, ep, t, ks, e, r, q⟩ := x
  exact ⟨o, es, ep, t, ks, e, r, q.trans p⟩
theorem Ents.mem : ∀ {es : List (Int × Value)} {ks : List Int}, Ents es ks → ∀ {e : Int × Value}, e ∈ es → ∃ k t, k ∈ ks ∧ e = (hashInt k, Value.int k t) := by
  intro es ks h e
  unfold Ents at h
  induction h with
  | nil => intro h; cases h
  | cons q r ih =>
    intro h
    obtain ⟨t, q⟩ := q
    rcases List.mem_cons.mp h with z | z
    · exact ⟨_, t, List.mem_cons_self, z.trans q⟩
    · obtain ⟨k, t, m, q⟩ := ih z
      exact ⟨k, t, List.mem_cons_of_mem _ m, q⟩
theorem Ents.elems {P : Program} {w : World} {es : List (Int × Value)} {ks : List Int} (h : Ents es ks) : ElemsOf (intKind P w) es := fun e he => by
  obtain ⟨k, t, _, q⟩ := h.mem he
  subst q
  exact ⟨⟨k, intKind_is P w k t, rfl⟩, rfl⟩
theorem Ents.len {es : List (Int × Value)} {ks : List Int} (h : Ents es ks) : es.length = ks.length := Paired.length h
theorem Ents.perm {es es' : List (Int × Value)} (p : es'.Perm es) : ∀ {ks : List Int}, Ents es ks → ∃ ks', Ents es' ks' ∧ ks'.Perm ks := by
  induction p with
  | nil => intro ks h; cases h; exact ⟨[], .nil, .nil⟩
  | cons x _ ih =>
    intro ks h
    cases h with
    | cons q r =>
      obtain ⟨ks', a, b⟩ := ih r
      exact ⟨_ :: ks', .cons q a, b.cons _⟩
  | swap x y l =>
    intro ks h
    cases h with
    | cons q r =>
      cases r with
      | cons q' r => exact ⟨_ :: _ :: _, .cons q' (.cons q r), .swap _ _ _⟩
  | trans _ _ ih1 ih2 =>
    intro ks h
    obtain ⟨k2, a, b⟩ := ih2 h
    obtain ⟨k3, c, d⟩ := ih1 a
    exact ⟨k3, c, d.trans b⟩
theorem isInt_dec (k j : Int) (t : Tok) : Value.isInt k (.int j t) = decide (k = j) := by
  by_cases h : k = j
  · subst h; simp [Value.isInt]
  · simp [Value.isInt, h]
    exact fun z => h z.symm
theorem Ents.find {P : Program} {w : World} {k : Int} : ∀ {es : List (Int × Value)} {ks : List Int}, Ents es ks → (es.findIdx? (fun e => (intKind P w).is k e.2)).isSome = decide (k ∈ ks) := by
  intro es ks h
  unfold Ents at h
  induction h with
  | nil => rfl
  | @cons a j es ks q r ih =>
    obtain ⟨t, q⟩ := q
    subst q
    rw [List.findIdx?_cons]
    have e : (intKind P w).is k (hashInt j, Value.int j t).2 = decide (k = j) := isInt_dec k j t
    rw [e]
    by_cases h : k = j
    · subst h; simp
    · simp [h, ih]
section
variable {P : Program} {w : World} {A : Around} {E : Value → Shared → Prop} {s : Shared} {a : Addr} {ms ks : List Int} {o : Obj} {es : Array (Int × Value)} {ep : Nat} {t : SetTable}
theorem SetIn.bound (h : SetIn w o es ep t ks) : es.size < scanBound := by
  have : es.size = ks.length := by rw [← h.en.len, Array.length_toList]
  have := h.sz
  have e : scanBound = 4096 := rfl
  omega
theorem SetIn.size (h : SetIn w o es ep t ks) : es.size = ks.length := by rw [← h.en.len, Array.length_toList]
theorem put_SX {es' : Array (Int × Value)} {t' : SetTable} {ks' : List Int} (ho : s.heap.get? a = some o) (h : SetIn w o es ep t ks) (en : Ents es'.toList ks') (nd : ks'.Nodup) (sz : ks'.length < 4000) (ft : t'.fits es'.size = true) (tb : TabK (!byText w) t') :
    ∃ o', (s.heap.update a (Obj.putSet es' t')).get? a = some o' ∧ SetIn w o' es' (ep + 1) t' ks' := by
  have g := Heap.get?_update_self (Obj.putSet es' t') ho (by rw [putSet_of es' t' h.da]; rfl)
  rw [putSet_of es' t' h.da] at g
  exact ⟨_, g, ⟨h.ex, rfl, en, nd, sz, ft, tb⟩⟩
theorem gave_ok {g : Bool → Sem Unit} {Q : Unit → Shared → Prop} (hg : ∀ b, g b = match b with | true => rule "set.scan.the-table-gave-way" | false => pure ()) (b : Bool) {s : Shared} (h : Q () s) : wpAny (model P w) A (g b) Q E s := by
  rw [hg b]
  cases b with
  | true => exact wpAny_rule h
  | false => exact wpAny_pure h
theorem add_SX {x : Int} {tk : Tok} {Q : Bool → Shared → Prop} (ho : s.heap.get? a = some o) (hs : SetIn w o es ep t ks) (hl : ks.length + 1 < 4000)
    (h1 : x ∈ ks → Q false s) (h2 : x ∉ ks → ∀ h', Heap.SameBut a s.heap h' → SX w a (ks ++ [x]) h' → Q true { s with heap := h' }) : wpAny (model P w) A (setAddHashed a (.int x tk) (hashInt x)) Q E s := by
  have hel := hs.en.elems (P := P) (w := w)
  have hky : (intKind P w).is x (.int x tk) = true := intKind_is P w x tk
  unfold setAddHashed setAddHashedIn
  refine wpAny_holding (wpAny_bind (wpAny_setState_of ho hs.da hs.ft ?_))
  dsimp only
  rw [byScan_of (knd := intKind P w) rfl hs.bound hel, if_pos rfl]
  refine wpAny_bind ?_
  unfold setAddByScan
  refine wpAny_bind (wpAny_rule (wpAny_bind (wpAny_setScan_of (knd := intKind P w) (k := x) hky ho hs.da hs.ft hel ?_)))
  have fd := hs.en.find (P := P) (w := w) (k := x)
  cases hr : List.findIdx? (fun e => (intKind P w).is x e.2) es.toList with
  | some j =>
    rw [hr] at fd
    exact wpAny_pure (wpAny_pure (h1 (of_decide_eq_true fd.symm)))
  | none =>
    rw [hr] at fd
    have hx : x ∉ ks := of_decide_eq_false fd.symm
    have p1 := layNew_perm t es (hashInt x) (Value.int x tk)
    have f1 := layNew_fits t es (hashInt x) (Value.int x tk)
    have t1 := layNew_tab hs.tb es (hashInt x) (Value.int x tk)
    generalize layNew t es (hashInt x) (Value.int x tk) = L at p1 f1 t1 ⊢
    obtain ⟨e1, u1, wasD, gave⟩ := L
    dsimp only at p1 f1 t1 ⊢
    rw [Array.toList_push] at p1
    obtain ⟨k1, n1, q1⟩ := Ents.perm p1 (ks := ks ++ [x]) (Paired.snoc hs.en ⟨tk, rfl⟩)
    have nd1 : k1.Nodup := q1.nodup_iff.mpr (nd_snoc hs.nd hx)
    have l1 : k1.length < 4000 := by rw [q1.length_eq, List.length_append, List.length_singleton]; exact hl
    have b1 : e1.size ≤ sizeLine := by
      have : e1.size = k1.length := by rw [← n1.len, Array.length_toList]
      exact Nat.le_trans (by omega) (Nat.le_of_lt (szn (n := 99999) (by omega)))
    refine wpAny_bind (gave_ok (fun b => by cases b <;> rfl) gave ?_)
    have tail : ∀ u2 : SetTable, u2.fits e1.size = true → TabK (!byText w) u2 → ∀ R : Option Bool → Shared → Prop, (∀ h', Heap.SameBut a s.heap h' → SX w a (ks ++ [x]) h' → R (some true) { s with heap := h' }) → ∀ g : Bool → Sem Unit, (∀ b, g b = match b with | true => rule "set.scan.the-table-gave-way" | false => pure ()) →
        wpAny (model P w) A (do
          storeSet a e1 u2
          if (!wasD && u2.tooFull) = true then
            let (es, t, gave) := relayAll u2 e1 (SetTable.grown e1.size)
            g gave
            storeSet a es t
          return some true) R E s := by
      intro u2 f2 t2 R hR g hg
      refine wpAny_bind (wpAny_storeSet_of ho hs.da ?_ b1)
      obtain ⟨o', ho', hs'⟩ := put_SX (s := s) ho hs n1 nd1 l1 f2 t2
      have sb1 := Heap.SameBut.update s.heap a (Obj.putSet e1 u2)
      by_cases hc : (!wasD && u2.tooFull) = true
      · rw [if_pos hc]
        have p3 := relayAll_perm u2 e1 (SetTable.grown e1.size)
        have f3 := relayAll_fits u2 e1 (SetTable.grown e1.size)
        have t3 := relayAll_tab t2 e1 (SetTable.grown e1.size)
        generalize relayAll u2 e1 (SetTable.grown e1.size) = L at p3 f3 t3 ⊢
        obtain ⟨e3, u3, gave3⟩ := L
        dsimp only at p3 f3 t3 ⊢
        obtain ⟨k3, n3, q3⟩ := Ents.perm p3 n1
        have z3 : e3.size = e1.size := by rw [← Array.length_toList, p3.length_eq, Array.length_toList]
        refine wpAny_bind (gave_ok hg gave3 ?_)
        refine wpAny_bind (wpAny_storeSet_of ho' hs'.da ?_ (by rw [z3]; exact b1))
        obtain ⟨o3, ho3, hs3⟩ := put_SX (s := { s with heap := s.heap.update a (Obj.putSet e1 u2) }) ho' hs' n3 (q3.nodup_iff.mpr nd1) (by rw [q3.length_eq]; exact l1) f3 t3
        exact wpAny_pure (hR _ (sb1.trans (Heap.SameBut.update _ a _)) ⟨o3, e3, _, u3, k3, ho3, hs3, q3.trans q1⟩)
      · rw [if_neg hc]
        exact wpAny_pure (hR _ sb1 ⟨o', e1, _, u2, k1, ho', hs', q1⟩)
    by_cases hp : u1.plain = true
    · rw [if_pos hp]
      refine wpAny_bind ?_
      rw [hashByValue_scannable 8 (x := Value.int x tk) rfl]
      refine wpAny_pure ?_
      refine tail u1 f1 t1 _ (fun h' sb sx => ?_) _ (fun b => by cases b <;> rfl)
      exact wpAny_pure (h2 hx h' sb sx)
    · rw [if_neg hp]
      refine wpAny_bind (wpAny_pure ?_)
      refine tail u1 f1 t1 _ (fun h' sb sx => ?_) _ (fun b => by cases b <;> rfl)
      exact wpAny_pure (h2 hx h' sb sx)
end
end L2
set_option Elab.async false
set_option linter.all false
set_option maxRecDepth 100000
namespace L2
open PySem PySem.Spec PyProof.Rows
theorem slot_si_next : Slot "set_iterator" "__next__" "set_iterator.__next__" := .of (owner := "set_iterator") (n := "__next__") (by rw [typeLookup_type, builtinLookup_eq_fast]; kernel_rfl) (by decide +kernel) (by decide +kernel) (by decide +kernel) (.inl (by decide +kernel)) (by rw [isSubtype_type]; kernel_rfl)
theorem entry_si_next : entryFor table "set_iterator.__next__" = some Builtin.«set_iterator.__next__» := entryFor_of_tree (by kernel_rfl)
theorem args_si_next (a : Value) : argsOk "set_iterator.__next__" ⟨[a], []⟩ := by unfold argsOk; kernel_rfl
theorem slot_si_iter : Slot "set_iterator" "__iter__" "set_iterator.__iter__" := .of (owner := "set_iterator") (n := "__iter__") (by rw [typeLookup_type, builtinLookup_eq_fast]; kernel_rfl) (by decide +kernel) (by decide +kernel) (by decide +kernel) (.inl (by decide +kernel)) (by rw [isSubtype_type]; kernel_rfl)
theorem entry_si_iter : entryFor table "set_iterator.__iter__" = some Builtin.«dict_keyiterator.__iter__» := entryFor_alias (id' := "dict_keyiterator.__iter__") (by kernel_rfl) rfl (by decide +kernel) (by kernel_rfl)
theorem args_si_iter (a : Value) : argsOk "set_iterator.__iter__" ⟨[a], []⟩ := by unfold argsOk; kernel_rfl
theorem entry_set_iter : entryFor table "set.__iter__" = some Builtin.«frozenset.__iter__» := entryFor_alias (id' := "frozenset.__iter__") (by kernel_rfl) rfl (by decide +kernel) (by kernel_rfl)
end L2
set_option Elab.async false
set_option linter.all false
set_option maxRecDepth 100000
namespace L2
open PySem PySem.Spec PyProof.Rows
theorem erase_perm {α : Type} {l : List α} {i : Nat} {x : α} (h : l[i]? = some x) : l.Perm (x :: l.eraseIdx i) := by
  induction l generalizing i with
  | nil => simp at h
  | cons y r ih =>
    cases i with
    | zero => simp at h; subst h; simp
    | succ i =>
      simp at h
      exact ((ih h).cons y).trans (.swap _ _ _)
theorem pick_go {α : Type} (next : Nat → Nat) (f k : Nat) (left : List α) (out : Array α) (h : left.length = f) : (pickOrder.go next f k left out).toList.Perm (out.toList ++ left) := by
  induction f generalizing k left out with
  | zero =>
    have : left = [] := List.length_eq_zero_iff.mp h
    subst this
    unfold pickOrder.go
    simp
  | succ f ih =>
    unfold pickOrder.go
    have hp : 0 < left.length := by omega
    have hl := Nat.mod_lt (next k) hp
    rw [List.getElem?_eq_getElem hl]
    dsimp only
    refine (ih (k + 1) _ _ (by rw [List.length_eraseIdx_of_lt hl]; omega)).trans ?_
    rw [Array.toList_push, List.append_assoc]
    exact (erase_perm (List.getElem?_eq_getElem hl)).symm.append_left _
theorem pick_perm {α : Type} (next : Nat → Nat) (xs : Array α) : (pickOrder next xs).toList.Perm xs.toList := by
  have := pick_go next xs.size 0 xs.toList #[] (by simp)
  unfold pickOrder
  simpa using this
section
variable {M : Model} {A : Around} {E : Value → Shared → Prop} {s : Shared}
theorem wpAny_draw {src : Source} {n : Nat} {Q : Nat → Shared → Prop} (hn : n ≠ 0) (h : ∀ i d, i < n → Q i { s with drawn := d }) : wpAny M A (choose src n) Q E s := fun Γ p _ => by
  show Sem.wp M Γ (.choose src n .pure) _ _ p s
  rw [Sem.wp_choose]
  exact ⟨hn, h _ _ (Nat.mod_lt _ (Nat.pos_of_ne_zero hn))⟩
theorem draw_order {α : Type} : ∀ (n : Nat) (xs : List α) (s : Shared) (Q : List α → Shared → Prop), xs.length = n → (∀ ys d, ys.Perm xs → Q ys { s with drawn := d }) → wpAny M A (drawOrder n xs) Q E s := by
  intro n
  induction n with
  | zero =>
    intro xs s Q hl h
    have : xs = [] := List.length_eq_zero_iff.mp hl
    subst this
    unfold drawOrder
    exact wpAny_pure (h [] s.drawn (.refl _))
  | succ n ih =>
    intro xs s Q hl h
    cases xs with
    | nil => cases hl
    | cons x r =>
      unfold drawOrder
      refine wpAny_bind (wpAny_draw (by simp) fun i d hi => ?_)
      rw [List.getElem?_eq_getElem hi]
      dsimp only
      refine wpAny_bind (ih _ _ _ (by rw [List.length_eraseIdx_of_lt hi, hl]; rfl) fun ys d' hp => wpAny_pure ?_)
      exact h _ d' ((hp.cons _).trans (erase_perm (List.getElem?_eq_getElem hi)).symm)
end
noncomputable abbrev IsSI (h : Heap) (I : Addr) (first : Value) (i : Nat) (S : Addr) (n ep : Nat) : Prop :=
  h.get? I = some { cls := .type "set_iterator", dict := none, data := .fields #[first, .int i 0, .ref S, .int n 0, .int ep 0], slots := #[] }
section
variable {P : Program} {w : World} {A : Around} {E : Value → Shared → Prop} {s : Shared} {I S : Addr} {ks : List Int} {o : Obj} {es : Array (Int × Value)} {ep i : Nat} {t : SetTable} {first : Value}
theorem si_self {Q : Value → Shared → Prop} {n : Nat} (hit : IsSI s.heap I first i S n ep) (h : Q (.ref I) s) : wpAny (model P w) A (pyIter (.ref I)) Q E s := by
  have hT : s.TypeIs (.ref I) "set_iterator" := ⟨_, hit, rfl⟩
  refine wpAny_pyIter_slot hT slot_si_iter (wpAny_call_entry slot_si_iter hT entry_si_iter ?_ (args_si_iter _))
  show wpAny _ _ (ret (.ref I)) _ _ s
  exact wpAny_pure ⟨_, rfl, "set_iterator", _, hT, slot_si_next.lookup, h⟩
theorem stop_here {A' : Around} {R : Fin → Shared → Prop} {Q : Option Value → Shared → Prop} (hh : A'.handled = none) (h : ∀ h', (∀ b o, s.heap.get? b = some o → h'.get? b = some o) → Q none { s with heap := h' }) :
    wpAny (model P w) A' (do let e ← newExc (.type "StopIteration") []; raiseNew e) R (fun e s' => wpAny (model P w) A (do let b ← isInstance e (.type "StopIteration"); if b = true then pure none else throw e) Q E s') s := by
  refine wpAny_bind ?_
  simp only [newExc, newTuple]
  refine wpAny_bind (wpAny_newObj_type ?_ (by size_fits))
  refine wpAny_bind (m := firstArgMember _ _) (wpAny_of_eq (a := Value.none) (by first | rfl | (simp only [firstArgMember]; rfl)) ?_)
  refine wpAny_newObj_type ?_ (by size_fits)
  simp only [raiseNew]
  refine wpAny_bind (wpAny_handled ?_)
  rw [hh]
  refine wpAny_bind (wpAny_pure (wpAny_throw ?_))
  refine wpAny_bind (wpAny_isInstance (T := "StopIteration") (b := true) ⟨_, Heap.get?_push_size _ rfl, rfl⟩ isSubtype_stop ?_)
  exact wpAny_pure (h _ fun b o e => Heap.get?_push_of_some _ (Heap.get?_push_of_some _ e))
theorem si_next {Q : Option Value → Shared → Prop} {slot : Nat} (hh : A.handled = none) (hit : IsSI s.heap I (.int slot 0) i S es.size ep) (ho : s.heap.get? S = some o) (hs : SetIn w o es ep t ks) (r : Option (Value × Nat))
    (hr : ∀ (A' : Around) (E' : Value → Shared → Prop) (R : Option (Value × Nat) → Shared → Prop), R r s → wpAny (model P w) A' (setNext S slot i ep) R E' s)
    (h1 : ∀ x nx h', r = some (x, nx) → IsSI h' I (.int nx 0) (i + 1) S es.size ep → Heap.SameBut I s.heap h' → Q (some x) { s with heap := h' })
    (h2 : ∀ h', r = none → (∀ b o, b ≠ I → s.heap.get? b = some o → h'.get? b = some o) → Q none { s with heap := h' }) : wpAny (model P w) A (pyNext (.ref I)) Q E s := by
  have hT : s.TypeIs (.ref I) "set_iterator" := ⟨_, hit, rfl⟩
  unfold pyNext
  refine wpAny_bind (wpAny_attempt (wpAny_callSpecial?_slot (name := Str.ofString "__next__") hT slot_si_next (wpAny_call_entry slot_si_next hT entry_si_next ?_ (args_si_next _))))
  unfold Builtin.«set_iterator.__next__»
  refine wpAny_bind (wpAny_pure ?_)
  refine wpAny_bind (wpAny_fieldsOf hit rfl ?_)
  dsimp only
  refine wpAny_bind (wpAny_setEntries_of ho hs.da hs.ft ?_)
  rw [if_neg (by simp)]
  refine wpAny_bind (hr _ _ _ ?_)
  cases r with
  | none =>
    dsimp only
    refine wpAny_bind (wpAny_setField hit rfl (by simp) ?_)
    exact stop_here (A := A) (show A.in1.handled = none from hh) fun h' k => h2 h' rfl fun b o hb e => k b o ((Heap.get?_update_other _ _ (Ne.symm hb)).trans e)
  | some q =>
    obtain ⟨x, nx⟩ := q
    dsimp only
    refine wpAny_bind (wpAny_setField_rec hit (by simp) fun ha ea sa => ?_)
    refine wpAny_bind (wpAny_setField_rec ea (by simp) fun hb eb sb => wpAny_pure ⟨x, rfl, wpAny_pure (h1 x nx hb rfl ?_ (sa.trans sb))⟩)
    have e : ((i + 1 : Nat) : Int) = (i : Int) + 1 := by omega
    unfold IsSI
    rw [e]
    simpa [rawInt] using eb
theorem si_next_drawn {Q : Option Value → Shared → Prop} {T : Addr} {ps : List Nat} {m : Nat} (hh : A.handled = none) (hit : IsSI s.heap I (.ref T) i S es.size ep) (hT2 : s.heap.get? T = some { cls := .type "tuple", data := .seq (ps.map fun (p : Nat) => rawInt p).toArray m })
    (ho : s.heap.get? S = some o) (hs : SetIn w o es ep t ks) (hp : ∀ p ∈ ps, p < es.size)
    (h1 : ∀ p h', ps[i]? = some p → IsSI h' I (.ref T) (i + 1) S es.size ep → Heap.SameBut I s.heap h' → Q (es[p]?.map (·.2)) { s with heap := h' })
    (h2 : ∀ h', ps[i]? = none → (∀ b o, b ≠ I → s.heap.get? b = some o → h'.get? b = some o) → Q none { s with heap := h' }) : wpAny (model P w) A (pyNext (.ref I)) Q E s := by
  have hT : s.TypeIs (.ref I) "set_iterator" := ⟨_, hit, rfl⟩
  unfold pyNext
  refine wpAny_bind (wpAny_attempt (wpAny_callSpecial?_slot (name := Str.ofString "__next__") hT slot_si_next (wpAny_call_entry slot_si_next hT entry_si_next ?_ (args_si_next _))))
  unfold Builtin.«set_iterator.__next__»
  refine wpAny_bind (wpAny_pure ?_)
  refine wpAny_bind (wpAny_fieldsOf hit rfl ?_)
  dsimp only
  refine wpAny_bind (wpAny_setEntries_of ho hs.da hs.ft ?_)
  rw [if_neg (by simp)]
  refine wpAny_bind (wpAny_seqItems hT2 rfl ?_)
  dsimp only
  have eq : (ps.map fun (p : Nat) => rawInt p).toArray[(i : Int).toNat]? = (ps[i]?).map fun (p : Nat) => rawInt p := by
    rw [Int.toNat_natCast, List.getElem?_toArray, List.getElem?_map]
  rw [eq]
  cases hpi : ps[i]? with
  | none =>
    dsimp only [Option.map_none]
    refine wpAny_bind (wpAny_setField_rec hit (by simp) fun ha ea sa => ?_)
    refine wpAny_bind (wpAny_setField ea rfl (by simp) ?_)
    refine stop_here (A := A) (show A.in1.handled = none from hh) fun h' k => h2 h' hpi fun b o hb e => k b o ?_
    exact (Heap.get?_update_other _ _ (Ne.symm hb)).trans ((sa.2 b hb).trans e)
  | some p =>
    have hlt : p < es.size := hp p (List.mem_of_getElem? hpi)
    have key := h1 p
    rw [Array.getElem?_eq_getElem hlt] at key
    dsimp only [Option.map_some, rawInt]
    unfold setNextDrawn
    refine wpAny_bind (wpAny_bind (wpAny_setState_of ho hs.da hs.ft ?_))
    dsimp only
    rw [if_neg (by simp), Int.toNat_natCast, Array.getElem?_eq_getElem hlt]
    refine wpAny_pure ?_
    refine wpAny_bind (wpAny_setField_rec hit (by simp) fun ha ea sa => wpAny_pure ⟨_, rfl, wpAny_pure (key ha hpi ?_ sa)⟩)
    have e : ((i + 1 : Nat) : Int) = (i : Int) + 1 := by omega
    unfold IsSI
    rw [e]
    simpa [rawInt] using ea
end
end L2
set_option Elab.async false
set_option linter.all false
set_option maxRecDepth 100000
namespace L2
open PySem PySem.Spec PyProof.Rows
section
variable {P : Program} {w : World} {A : Around} {E : Value → Shared → Prop} {s : Shared} {I S : Addr} {ks : List Int} {o : Obj} {es : Array (Int × Value)} {ep i : Nat} {t : SetTable}
noncomputable def SetAt (w : World) (S : Addr) (es : Array (Int × Value)) (ep : Nat) (t : SetTable) (ks : List Int) (h : Heap) : Prop := ∃ o, h.get? S = some o ∧ SetIn w o es ep t ks
theorem SetAt.at {h h' : Heap} (x : SetAt w S es ep t ks h) (k : ∀ o, h.get? S = some o → h'.get? S = some o) : SetAt w S es ep t ks h' := let ⟨o, e, r⟩ := x; ⟨o, k o e, r⟩
noncomputable abbrev Yld (vs : List Int) : Nat → Value → Prop := fun i v => ∃ t, v = .int (vs.getD i 0) t
theorem ents_at {l : List (Int × Value)} {vs : List Int} (h : Ents l vs) {i : Nat} {e : Int × Value} (hi : l[i]? = some e) : ∃ tk, e.2 = Value.int (vs.getD i 0) tk := by
  have hl : i < vs.length := by rw [← h.len]; exact (List.getElem?_eq_some_iff.mp hi).1
  obtain ⟨a, ha, q⟩ := pair_get h (List.getElem?_eq_getElem hl)
  rw [hi] at ha
  cases ha
  obtain ⟨tk, q⟩ := q
  exact ⟨tk, by rw [q]; simp [hl]⟩
theorem walk_slots (hh : A.handled = none) (hne : S ≠ I) (ord : List (Int × Value)) (vs : List Int) (f : Nat → Nat) (hv : Ents ord vs) (hl : ord.length = es.size)
    (hr : ∀ (i : Nat) (s : Shared), i ≤ es.size → SetAt w S es ep t ks s.heap → ∀ (A' : Around) (E' : Value → Shared → Prop) (R : Option (Value × Nat) → Shared → Prop), R ((ord[i]?).map fun e => (e.2, f (i + 1))) s → wpAny (model P w) A' (setNext S (f i) i ep) R E' s) :
    Walks P w A I [I, S] [I] es.size (Yld vs) (fun i h => IsSI h I (.int (f i) 0) i S es.size ep ∧ SetAt w S es ep t ks h) where
  sub := fun b hb => by simp at hb; simp [hb]
  frame := fun i h h' st k => ⟨k I (by simp) _ st.1, st.2.at fun o e => k S (by simp) o e⟩
  item := fun i s Q E hi st hQ => by
    obtain ⟨o, ho, hs⟩ := id st.2
    obtain ⟨e, he⟩ : ∃ e, ord[i]? = some e := ⟨_, List.getElem?_eq_getElem (by omega)⟩
    refine si_next hh st.1 ho hs _ (hr i s (by omega) st.2) (fun x nx h' e2 it' sb => ?_) fun h' e2 _ => by rw [he] at e2; cases e2
    rw [he] at e2
    have e3 := Option.some.inj e2
    have hx : e.2 = x := congrArg Prod.fst e3
    have hn : f (i + 1) = nx := congrArg Prod.snd e3
    subst hx hn
    exact hQ _ h' s.toks (ents_at hv he) ⟨it', st.2.at fun o e => (sb.2 S hne).trans e⟩ fun b o hb e => (sb.2 b (by simpa using hb)).trans e
  done := fun s Q E st hQ => by
    obtain ⟨o, ho, hs⟩ := id st.2
    have he : ord[es.size]? = none := List.getElem?_eq_none (by omega)
    refine si_next hh st.1 ho hs _ (hr _ s (Nat.le_refl _) st.2) (fun x nx h' e2 it' sb => by rw [he] at e2; cases e2) fun h' _ k => ?_
    exact hQ h' s.toks fun b o hb e => k b o (by simpa using hb) e
  self := fun i s Q E st h => si_self st.1 h
theorem szl' {n : Nat} (h : n ≤ 5000) : n ≤ sizeLine := Nat.le_trans h (Nat.le_of_lt (szn (n := 5000) (by omega)))
theorem fm_map (ps : List Nat) (hp : ∀ p ∈ ps, p < es.size) : ps.filterMap (es[·]?) = ps.map fun q => es.getD q (0, .none) := by
  induction ps with
  | nil => rfl
  | cons q r ih =>
    have hq := hp q (by simp)
    rw [List.filterMap_cons, Array.getElem?_eq_getElem hq]
    dsimp only
    rw [ih (fun x hx => hp x (List.mem_cons_of_mem _ hx)), List.map_cons]
    simp [hq]
theorem walk_places {T : Addr} (hh : A.handled = none) (hne : S ≠ I) (hT : T ≠ I) (ps : List Nat) (vs : List Int) (hv : Ents (ps.filterMap (es[·]?)) vs) (hp : ∀ p ∈ ps, p < es.size) (hl : ps.length = es.size) :
    Walks P w A I [I, S, T] [I] es.size (Yld vs) (fun i h => IsSI h I (.ref T) i S es.size ep ∧ SetAt w S es ep t ks h ∧ h.get? T = some { cls := .type "tuple", data := .seq (ps.map fun (p : Nat) => rawInt p).toArray }) where
  sub := fun b hb => by simp at hb; simp [hb]
  frame := fun i h h' st k => ⟨k I (by simp) _ st.1, st.2.1.at fun o e => k S (by simp) o e, k T (by simp) _ st.2.2⟩
  item := fun i s Q E hi st hQ => by
    obtain ⟨o, ho, hs⟩ := id st.2.1
    refine si_next_drawn hh st.1 st.2.2 ho hs hp (fun p h' e2 it' sb => ?_) fun h' e2 _ => ?_
    · have hlt := hp p (List.mem_of_getElem? e2)
      rw [Array.getElem?_eq_getElem hlt]
      have e4 : (ps.filterMap (es[·]?))[i]? = some es[p] := by
        have := fm_map ps hp
        rw [this, List.getElem?_map, e2]
        simp [hlt]
      exact hQ _ h' s.toks (ents_at hv e4) ⟨it', st.2.1.at fun o e => (sb.2 S hne).trans e, (sb.2 T hT).trans st.2.2⟩ fun b o hb e => (sb.2 b (by simpa using hb)).trans e
    · rw [List.getElem?_eq_getElem (by omega)] at e2
      cases e2
  done := fun s Q E st hQ => by
    obtain ⟨o, ho, hs⟩ := id st.2.1
    refine si_next_drawn hh st.1 st.2.2 ho hs hp (fun p h' e2 it' sb => ?_) fun h' _ k => ?_
    · rw [List.getElem?_eq_none (by omega)] at e2
      cases e2
    · exact hQ h' s.toks fun b o hb e => k b o (by simpa using hb) e
  self := fun i s Q E st h => si_self st.1 h
theorem rise_short {l : List Nat} (h : l.length ≤ 1) : Rise l := by
  match l, h with
  | [], _ => exact .nil
  | [x], _ => exact List.pairwise_singleton _ _
noncomputable def slotAt (t : SetTable) : Nat → Nat
  | 0 => 0
  | i + 1 => t.place.getD i 0 + 1
theorem slot_cut {t : SetTable} (r : Rise t.place.toList) {i : Nat} (hi : i ≤ t.place.size) : SetTable.below t.place (slotAt t i) = i := by
  refine (below_cut r _).unique ⟨hi, fun k hk hlt => ?_, fun k hk hge => ?_⟩
  · cases i with
    | zero => omega
    | succ i =>
      have hi' : i < t.place.size := by omega
      have e : t.place.getD i 0 = t.place[i] := by simp [hi']
      show t.place[k] < t.place.getD i 0 + 1
      rw [e]
      by_cases z : k = i
      · subst z; omega
      · have := rise_at r hk hi' (by omega)
        omega
  · cases i with
    | zero => exact Nat.zero_le _
    | succ i =>
      have hi' : i < t.place.size := by omega
      have e : t.place.getD i 0 = t.place[i] := by simp [hi']
      show t.place.getD i 0 + 1 ≤ t.place[k]
      rw [e]
      exact rise_at r hi' hk (by omega)
theorem fits_size (h : t.fits es.size = true) : t.place.size = es.size := by
  simp only [SetTable.fits, Bool.and_eq_true, beq_iff_eq, decide_eq_true_eq] at h
  exact h.1
theorem setWalk_text {Q : Array (Int × Value) → Shared → Prop} (bt : byText w = true) (ho : s.heap.get? S = some o) (hs : SetIn w o es ep t ks) (h : Q (pickOrder (w.params.setOrder S ep) es) s) : wpAny (model P w) A (setWalk S) Q E s := by
  unfold setWalk setsByText
  refine wpAny_bind (wpAny_setState_of ho hs.da hs.ft ?_)
  dsimp only
  refine wpAny_bind (wpAny_bind (wpAny_askSetting (wpAny_pure ?_)))
  have bt' : (model P w).w.params.followText "set-order" = true := bt
  rw [bt', if_pos rfl]
  exact wpAny_bind (wpAny_askSetting (wpAny_pure h))
theorem next_text {slot : Nat} {Q : Option (Value × Nat) → Shared → Prop} (bt : byText w = true) (ho : s.heap.get? S = some o) (hs : SetIn w o es ep t ks)
    (h : Q (((pickOrder (w.params.setOrder S ep) es).toList[i]?).map fun e => (e.2, slot)) s) : wpAny (model P w) A (setNext S slot i ep) Q E s := by
  unfold setNext
  refine wpAny_bind (wpAny_setState_of ho hs.da hs.ft ?_)
  dsimp only
  refine wpAny_bind ?_
  unfold setsByText
  refine wpAny_bind (wpAny_askSetting (wpAny_pure ?_))
  have bt' : (model P w).w.params.followText "set-order" = true := bt
  rw [bt', if_pos rfl, if_neg (by simp)]
  refine wpAny_bind (setWalk_text bt ho hs (wpAny_pure ?_))
  rw [← Array.getElem?_toList]
  exact h
theorem next_plain {Q : Option (Value × Nat) → Shared → Prop} (bt : byText w = false) (ho : s.heap.get? S = some o) (hs : SetIn w o es ep t ks) (hd : (!t.plain && decide (es.size > 1)) = false) (hi : i ≤ es.size)
    (h : Q ((es.toList[i]?).map fun e => (e.2, slotAt t (i + 1))) s) : wpAny (model P w) A (setNext S (slotAt t i) i ep) Q E s := by
  have zs := fits_size hs.ft
  have r : Rise t.place.toList := by
    by_cases hp : t.plain = true
    · exact hs.tb.rise hp
    · refine rise_short ?_
      have : t.plain = false := by simpa using hp
      rw [this] at hd
      simp at hd
      rw [Array.length_toList, zs]; exact hd
  have ld : t.led = true := by rw [hs.tb.led, bt]; rfl
  unfold setNext
  refine wpAny_bind (wpAny_setState_of ho hs.da hs.ft ?_)
  dsimp only
  refine wpAny_bind ?_
  unfold setsByText
  refine wpAny_bind (wpAny_askSetting (wpAny_pure ?_))
  have bt' : (model P w).w.params.followText "set-order" = false := bt
  rw [bt', if_neg Bool.false_ne_true]
  show wpAny _ _ (if (!t.plain && decide (es.size > 1)) = true then _ else _) _ _ _
  rw [hd, if_neg Bool.false_ne_true]
  show wpAny _ _ ((if (!t.led && !es.isEmpty) = true then unsupported "set:maker-not-led" else pure ()) >>= fun _ => pure _) _ _ _
  rw [ld]
  refine wpAny_bind (wpAny_pure (wpAny_pure ?_))
  rw [slot_cut r (by omega)]
  by_cases hlt : i < es.size
  · have hp : i < t.place.size := by omega
    rw [Array.getElem?_eq_getElem hlt, Array.getElem?_eq_getElem hp]
    rw [Array.getElem?_toList, Array.getElem?_eq_getElem hlt] at h
    have e : slotAt t (i + 1) = t.place[i] + 1 := by
      show t.place.getD i 0 + 1 = _
      simp [hp]
    rw [e] at h
    exact h
  · rw [Array.getElem?_eq_none (by omega)]
    rw [Array.getElem?_toList, Array.getElem?_eq_none (by omega)] at h
    exact h
theorem iter_set {Q : Value → Shared → Prop} (hS : SetAt w S es ep t ks s.heap)
    (h : ∀ (I : Addr) (fp : List Addr) (vs : List Int) (St : Nat → Heap → Prop) (s' : Shared), vs.Perm ks → (∀ A' : Around, A'.handled = none → Walks P w A' I fp [I] es.size (Yld vs) St) → St 0 s'.heap → (∀ b ∈ fp, b < s'.heap.objs.size ∧ (b = S ∨ s.heap.objs.size ≤ b)) → s.heap.objs.size ≤ I →
      (∀ b o, s.heap.get? b = some o → s'.heap.get? b = some o) → s'.os = s.os → s'.gens = s.gens → Q (.ref I) s') : wpAny (model P w) A (pyIter (.ref S)) Q E s := by
  obtain ⟨o, ho, hs⟩ := id hS
  have hT : s.TypeIs (.ref S) "set" := ⟨o, ho, hs.ex.1⟩
  have hSl : S < s.heap.objs.size := Heap.lt_size ho
  refine wpAny_pyIter_slot hT F.slot_set_iter (wpAny_call_entry F.slot_set_iter hT entry_set_iter ?_ (F.args_set_iter_1 _))
  unfold Builtin.«frozenset.__iter__»
  refine wpAny_bind (wpAny_bind (wpAny_pure (wpAny_pure ?_)))
  unfold Builtin.Frozenset.sizeOf
  refine wpAny_bind (wpAny_bind (wpAny_setEntries_of ho hs.da hs.ft (wpAny_pure ?_)))
  refine wpAny_bind (wpAny_bind (wpAny_setState_of ho hs.da hs.ft ?_))
  dsimp only
  unfold setsByText
  refine wpAny_bind (wpAny_bind (wpAny_askSetting (wpAny_pure (wpAny_pure ?_))))
  show wpAny _ _ (if (!byText w && (!t.plain && decide (es.size > 1))) = true then (drawOrder es.size (List.range es.size) >>= fun l => newTuple (l.map fun (i : Nat) => rawInt i) >>= fun first => _) else (pure (rawInt 0) >>= fun first => _)) _ _ _
  cases bt : byText w with
  | true =>
    simp only [Bool.not_true, Bool.false_and, Bool.false_eq_true, if_false]
    refine wpAny_bind (wpAny_pure ?_)
    refine wpAny_bind (wpAny_setEpoch_of ho hs.da hs.ft ?_)
    refine wpAny_bind (wpAny_newObj_type (wpAny_pure ⟨_, rfl, "set_iterator", _, ⟨_, Heap.get?_push_size _ rfl, rfl⟩, slot_si_next.lookup, ?_⟩))
    obtain ⟨vs, hv, hp⟩ := Ents.perm (pick_perm (w.params.setOrder S ep) es) hs.en
    refine h s.heap.objs.size [s.heap.objs.size, S] vs (fun i h => IsSI h s.heap.objs.size (.int 0 0) i S es.size ep ∧ SetAt w S es ep t ks h) _ hp (fun A' hA' => walk_slots (f := fun _ => 0) hA' (Nat.ne_of_lt hSl) _ vs hv ?_ (fun i s' hi st A2 E2 R hR => ?_))
      ⟨Heap.get?_push_size _ rfl, hS.at fun o e => Heap.get?_push_of_some _ e⟩ (fun b hb => ?_) (Nat.le_refl _) (fun b o e => Heap.get?_push_of_some _ e) rfl rfl
    · have := (pick_perm (w.params.setOrder S ep) es).length_eq
      rw [this, Array.length_toList]
    · obtain ⟨o', ho', hs'⟩ := st
      exact next_text bt ho' hs' hR
    · rw [Heap.size_push]
      simp only [List.mem_cons, List.not_mem_nil, or_false] at hb
      rcases hb with e | e
      · rw [e]; exact ⟨Nat.lt_succ_self _, .inr (Nat.le_refl _)⟩
      · rw [e]; exact ⟨Nat.lt_succ_of_lt hSl, .inl rfl⟩
  | false =>
    simp only [Bool.not_false, Bool.true_and]
    cases hd : (!t.plain && decide (es.size > 1)) with
    | false =>
      simp only [Bool.false_eq_true, if_false]
      refine wpAny_bind (wpAny_pure ?_)
      refine wpAny_bind (wpAny_setEpoch_of ho hs.da hs.ft ?_)
      refine wpAny_bind (wpAny_newObj_type (wpAny_pure ⟨_, rfl, "set_iterator", _, ⟨_, Heap.get?_push_size _ rfl, rfl⟩, slot_si_next.lookup, ?_⟩))
      refine h s.heap.objs.size [s.heap.objs.size, S] ks (fun i h => IsSI h s.heap.objs.size (.int (slotAt t i) 0) i S es.size ep ∧ SetAt w S es ep t ks h) _ (.refl _) (fun A' hA' => walk_slots (f := slotAt t) hA' (Nat.ne_of_lt hSl) es.toList ks hs.en (by simp) (fun i s' hi st A2 E2 R hR => ?_))
        ⟨Heap.get?_push_size _ rfl, hS.at fun o e => Heap.get?_push_of_some _ e⟩ (fun b hb => ?_) (Nat.le_refl _) (fun b o e => Heap.get?_push_of_some _ e) rfl rfl
      · obtain ⟨o', ho', hs'⟩ := st
        exact next_plain bt ho' hs' hd hi hR
      · rw [Heap.size_push]
        simp only [List.mem_cons, List.not_mem_nil, or_false] at hb
        rcases hb with e | e
        · rw [e]; exact ⟨Nat.lt_succ_self _, .inr (Nat.le_refl _)⟩
        · rw [e]; exact ⟨Nat.lt_succ_of_lt hSl, .inl rfl⟩
    | true =>
      simp only [if_true]
      refine wpAny_bind (draw_order es.size (List.range es.size) s _ (by simp) fun ps d hp => ?_)
      have hlen : ps.length = es.size := by rw [hp.length_eq, List.length_range]
      have zb := hs.bound
      have eb : scanBound = 4096 := rfl
      refine wpAny_bind (wpAny_newTuple ?_ (by rw [List.length_map, hlen]; exact szl' (by omega)))
      refine wpAny_bind (wpAny_setEpoch_of (Heap.get?_push_of_some _ ho) hs.da hs.ft ?_)
      refine wpAny_bind (wpAny_newObj_type (wpAny_pure ⟨_, rfl, "set_iterator", _, ⟨_, Heap.get?_push_size _ rfl, rfl⟩, slot_si_next.lookup, ?_⟩))
      have hpl : ∀ p ∈ ps, p < es.size := fun p m => List.mem_range.mp (hp.mem_iff.mp m)
      have pe : (ps.filterMap (es[·]?)).Perm es.toList := by
        have := hp.filterMap (es[·]?)
        rw [filterMap_getElem?_range] at this
        exact this
      obtain ⟨vs, hv, hq⟩ := Ents.perm pe hs.en
      have sz1 : ∀ ob : Obj, (s.heap.push ob).objs.size = s.heap.objs.size + 1 := fun ob => Heap.size_push _ _
      have key := h (s.heap.objs.size + 1) [s.heap.objs.size + 1, S, s.heap.objs.size] vs (fun i h => IsSI h (s.heap.objs.size + 1) (.ref s.heap.objs.size) i S es.size ep ∧ SetAt w S es ep t ks h ∧ h.get? s.heap.objs.size = some { cls := .type "tuple", data := .seq (ps.map fun (p : Nat) => rawInt p).toArray })
        { s with heap := (s.heap.push { cls := .type "tuple", data := .seq (ps.map fun (p : Nat) => rawInt p).toArray }).push { cls := .type "set_iterator", data := .fields #[.ref s.heap.objs.size, .int 0 0, .ref S, .int es.size 0, .int ep 0] }, drawn := d } hq (fun A' hA' => walk_places (t := t) (ep := ep) (ks := ks) (T := s.heap.objs.size) hA' (Nat.ne_of_lt (Nat.lt_succ_of_lt hSl)) (Nat.ne_of_lt (Nat.lt_succ_self _)) ps vs hv hpl hlen)
        ⟨?it, hS.at fun o e => Heap.get?_push_of_some _ (Heap.get?_push_of_some _ e), Heap.get?_push_of_some _ (Heap.get?_push_size _ rfl)⟩ (fun b hb => ?fp) (Nat.le_succ _) (fun b o e => Heap.get?_push_of_some _ (Heap.get?_push_of_some _ e)) rfl rfl
      case it =>
        have := Heap.get?_push_size (s.heap.push { cls := .type "tuple", data := .seq (ps.map fun (p : Nat) => rawInt p).toArray }) (o := { cls := .type "set_iterator", data := .fields #[.ref s.heap.objs.size, .int 0 0, .ref S, .int es.size 0, .int ep 0] }) rfl
        rw [sz1] at this
        exact this
      case fp =>
        show b < ((s.heap.push _).push _).objs.size ∧ _
        rw [Heap.size_push, Heap.size_push]
        simp only [List.mem_cons, List.not_mem_nil, or_false] at hb
        rcases hb with e | e | e
        · rw [e]; exact ⟨Nat.lt_succ_self _, .inr (Nat.le_succ _)⟩
        · rw [e]; exact ⟨Nat.lt_succ_of_lt (Nat.lt_succ_of_lt hSl), .inl rfl⟩
        · rw [e]; exact ⟨Nat.lt_succ_of_lt (Nat.lt_succ_self _), .inr (Nat.le_refl _)⟩
      rw [← sz1 { cls := .type "tuple", data := .seq (ps.map fun (p : Nat) => rawInt p).toArray }] at key
      exact key
end
end L2
set_option Elab.async false
set_option linter.all false
set_option maxRecDepth 100000
namespace L2
open PySem PySem.Spec PyProof.Rows
section
variable {P : Program} {w : World} {A : Around} {E : Value → Shared → Prop} {s : Shared} {S : Addr} {ks ms : List Int} {o : Obj} {es : Array (Int × Value)} {ep i : Nat} {t : SetTable}
theorem hint_set {Q : Bool → Shared → Prop} (hT : s.TypeIs (.ref S) "set") (h : Q false s) : wpAny (model P w) A (Builtin.List.listLengthHint (.ref S)) Q E s := by
  unfold Builtin.List.listLengthHint
  refine wpAny_bind (wpAny_specialOf hT PySem.F.slot_set_len.lookup ?_)
  generalize hid : ("set.__len__" : String) = id0
  wp_delta
  rw [show splitId id0 = some ("set", "__len__") from by subst hid; decide +kernel]
  subst hid
  refine wpAny_bind (wpAny_isInstance (T := "set") (b := true) hT (by rw [isSubtype_type]; kernel_rfl) ?_)
  refine wpAny_ite_split (fun hab => absurd hab (by decide)) (fun _ => ?_)
  refine wpAny_ite_split (fun _ => ?_) (fun hab => absurd (by decide +kernel) hab)
  exact wpAny_bind (wpAny_typeOf hT (wpAny_pure h))
theorem items_ints {vs : List Int} {acc : Array Value} {n : Nat} (h : ItemsOf (Yld vs) acc n) (hn : vs.length = n) : IntsAre acc.toList vs := by
  have all : ∀ (l : List Value) (vs : List Int), l.length = vs.length → (∀ (j : Nat) v, l[j]? = some v → ∃ t, v = Value.int (vs.getD j 0) t) → IntsAre l vs := by
    intro l
    induction l with
    | nil =>
      intro vs hl _
      have : vs = [] := List.length_eq_zero_iff.mp (by simpa using hl.symm)
      subst this
      exact .nil
    | cons x r ih =>
      intro vs hl hv
      cases vs with
      | nil => simp at hl
      | cons v vs =>
        obtain ⟨t, e⟩ := hv 0 x rfl
        have e : x = Value.int v t := e
        subst e
        exact .cons v t (ih vs (by simpa using hl) fun j y hj => hv (j + 1) y (by simpa using hj))
  exact all acc.toList vs (by rw [Array.length_toList, h.1, hn]) fun j v hj => h.2 j v (by rw [← Array.getElem?_toList]; exact hj)
theorem collect_set {Q : List Value → Shared → Prop} (hh : A.handled = none) (hS : SetAt w S es ep t ks s.heap)
    (h : ∀ (vs : List Int) (l : List Value) (s' : Shared), vs.Perm ks → IntsAre l vs → (∀ b o, s.heap.get? b = some o → s'.heap.get? b = some o) → s'.os = s.os → s'.gens = s.gens → s.heap.objs.size ≤ s'.heap.objs.size → Q l s') : wpAny (model P w) A (collect (.ref S)) Q E s := by
  obtain ⟨o, ho, hs⟩ := id hS
  have hSl : S < s.heap.objs.size := Heap.lt_size ho
  have hne : s.heap.objs.size ≠ S := Nat.ne_of_gt hSl
  unfold collect
  refine wpAny_bind (wpAny_runValue (codeAny_builtin PySem.F.entry_proto_collect ?_))
  rw [Around.under_plainId PySem.F.plain_proto_collect _]
  show wpAny _ A.in1 (newList [] >>= fun l => again (.builtin "list.__iadd__" ⟨[l, .ref S], []⟩)) _ _ s
  refine wpAny_bind (wpAny_newObj_type ?_)
  refine wpAny_pure ⟨plainId_quiet PySem.F.plain_list_iadd _, codeAny_builtin PySem.F.entry_list_iadd ?_⟩
  rw [Around.under_plainId PySem.F.plain_list_iadd _]
  generalize hs1 : ({ s with heap := s.heap.push { cls := .type "list", data := .seq ([] : List Value).toArray } } : Shared) = s1
  have e1 : s1.heap = s.heap.push { cls := .type "list", data := .seq ([] : List Value).toArray } := by rw [← hs1]
  have k1 : ∀ b o, s.heap.get? b = some o → s1.heap.get? b = some o := fun b o e => by rw [e1]; exact Heap.get?_push_of_some _ e
  have hL1 : s1.heap.get? s.heap.objs.size = some { cls := .type "list", data := .seq ([] : List Value).toArray } := by rw [e1]; exact Heap.get?_push_size _ rfl
  have hS1 : SetAt w S es ep t ks s1.heap := hS.at (k1 S)
  have hT : ∀ s2 : Shared, (∀ b o, s1.heap.get? b = some o → s2.heap.get? b = some o) → s2.TypeIs (.ref S) "set" := fun s2 k => ⟨o, k _ _ (k1 _ _ ho), hs.ex.1⟩
  show wpAny _ A.in1 (Builtin.List.listExtendWith (.ref s.heap.objs.size) (.ref S) (.ref s.heap.objs.size)) _ _ _
  unfold Builtin.List.listExtendWith
  refine wpAny_bind (wpAny_typeOf (hT s1 fun _ _ e => e) ?_)
  have g1 : Builtin.List.listSameRef (.ref s.heap.objs.size) (.ref S) = false := by simp [Builtin.List.listSameRef, hne]
  have g2 : (Value.type "set" == Value.type "list") = false := by decide
  have g3 : (Value.type "set" == Value.type "tuple") = false := by decide
  simp only [g1, g2, g3, Bool.or_false, Bool.false_eq_true, if_false]
  refine wpAny_bind (iter_set hS1 fun I fp vs St s2 hp W st hfp hI k2 os2 gs2 => ?_)
  refine wpAny_bind (wpAny_holding (hint_set (hT s2 k2) ?_))
  show wpAny _ A.in1 (rule "list.extend.makes-room" >>= fun _ => Builtin.List.listTouch (.ref s.heap.objs.size) >>= fun _ =>
    again (.builtin "list.extend.loop" ⟨[.ref s.heap.objs.size, .ref I, .ref s.heap.objs.size], []⟩)) _ _ _
  refine wpAny_bind (wpAny_rule (wpAny_bind ?_))
  have hL2 := k2 _ _ hL1
  have lt1 : s.heap.objs.size < s1.heap.objs.size := by rw [e1, Heap.size_push]; exact Nat.lt_succ_self _
  show wpAny _ A.in1 (updateSeq s.heap.objs.size (·.push .none) >>= fun _ => updateSeq s.heap.objs.size (·.pop)) _ _ _
  refine wpAny_bind (wpAny_updateSeq hL2 rfl ?_)
  have hL3 := Heap.get?_update_self (Obj.mapSeq (·.push Value.none)) hL2 rfl
  refine wpAny_updateSeq hL3 rfl ?_
  have hL4 := Heap.get?_update_self (Obj.mapSeq (·.pop)) hL3 rfl
  have W1 := W A.in1 (show A.handled = none from hh)
  have hSf : s.heap.objs.size ∉ fp := fun m => by
    rcases (hfp _ m).2 with z | z
    · exact hne z
    · exact absurd lt1 (Nat.not_lt.mpr z)
  have zb := hs.bound
  have eb : scanBound = 4096 := rfl
  have oth : ∀ b o, b ≠ s.heap.objs.size → s2.heap.get? b = some o → ((s2.heap.update s.heap.objs.size (Obj.mapSeq (·.push Value.none))).update s.heap.objs.size (Obj.mapSeq (·.pop))).get? b = some o :=
    fun b o hb e => (Heap.get?_update_other _ _ (Ne.symm hb)).trans ((Heap.get?_update_other _ _ (Ne.symm hb)).trans e)
  refine wpAny_pure ⟨plainId_quiet PySem.F.plain_extend_loop _, codeAny_extend_loopS W1.toS (szl' (by omega)) _ hSf _ es.size 0 _ _ _ rfl (Nat.zero_le _) (W1.frame 0 _ _ st fun b hb o e => oth b o (fun z => hSf (z ▸ hb)) e) hL4 (ItemsOf.nil _) fun s3 acc c hm hL5 hacc => ?_⟩
  show wpAny _ A (load s.heap.objs.size >>= _) _ _ s3
  refine wpAny_bind (wpAny_load hL5 ?_)
  refine wpAny_pure (h vs acc.toList s3 hp (items_ints hacc (by rw [hp.length_eq, hs.size])) (fun b o e => ?_) ?_ ?_ (Nat.le_of_lt (Heap.lt_size hL5)))
  · have hb : b ≠ s.heap.objs.size := Nat.ne_of_lt (Heap.lt_size e)
    have e2 := k2 _ _ (k1 _ _ e)
    refine hm.heap b o (fun m => ?_) (oth b o hb e2)
    rcases List.mem_cons.mp m with z | z
    · exact hb z
    · have z : b = I := List.mem_singleton.mp z
      exact absurd (Heap.lt_size (k1 _ _ e)) (by rw [z]; exact Nat.not_lt.mpr hI)
  · have e2 : s3.os = s2.os := hm.os
    rw [e2, os2, ← hs1]
  · have e2 : s3.gens = s2.gens := hm.gens
    rw [e2, gs2, ← hs1]
end
end L2
set_option Elab.async false
set_option linter.all false
set_option maxRecDepth 100000
namespace L2
open PySem PySem.Spec PyProof.Rows
section
variable {P : Program} {w : World} {A : Around} {E : Value → Shared → Prop} {s : Shared} {S : Addr} {ks ms : List Int} {o : Obj} {es : Array (Int × Value)} {ep i : Nat} {t : SetTable}
theorem sorted_of_set {Q : Value → Shared → Prop} (hh : A.handled = none) (hS : SetAt w S es ep t ks s.heap) (h64 : ks.length < 64)
    (h : ∀ (L : Addr) (out : Array Value) (ns : List Int) (e : Nat) (s' : Shared), IntsAre out.toList ns → ns.Perm ks → ns.Pairwise (· ≤ ·) → s'.heap.get? L = some (seqObj "list" out e) → s.heap.objs.size ≤ L → (∀ b o, s.heap.get? b = some o → s'.heap.get? b = some o) → s'.os = s.os → s'.gens = s.gens → Q (.ref L) s') :
    wpAny (model P w) A (call (.builtin "sorted") [.ref S]) Q E s := by
  refine Calls.call_function_entry kind_sorted plain_sorted entry_sorted (args_sorted1 _) ?_
  unfold Builtin.«sorted»
  refine wpAny_bind (m := checkCount "sorted" 1 1 _) (wpAny_pure ?_)
  refine wpAny_bind (collect_set (show A.in1.handled = none from hh) hS fun vs l s1 hp hI k1 os1 gs1 le1 => ?_)
  have hl : l.length = vs.length := IntsAre.length hI
  have hv : vs.length = ks.length := hp.length_eq
  refine wpAny_bind (wpAny_newList ?_ (szl' (by omega)))
  have hoL : (s1.heap.push (seqObj "list" l.toArray 0)).get? s1.heap.objs.size = some (seqObj "list" l.toArray 0) := Heap.get?_push_size _ rfl
  refine wpAny_bind (wpAny_holding (wpAny_call_entry slot_list_sort ⟨_, hoL, rfl⟩ entry_list_sort (list_sort_tree (ns := vs) hoL hI (by omega) fun out ns' a1 a2 a3 => ⟨_, rfl, ?_⟩) (args_list_sort _)))
  refine wpAny_pure ⟨_, rfl, ?_⟩
  obtain ⟨e, he⟩ := sortedHeap_at (out := out) hoL
  have kp : ∀ b o, s.heap.get? b = some o → (sortedHeap (s1.heap.push (seqObj "list" l.toArray 0)) s1.heap.objs.size l out).get? b = some o := fun b o eb => by
    have e1 := k1 b o eb
    have lt := Heap.lt_size e1
    rw [sortedHeap_old (Nat.ne_of_lt lt) (by rw [Heap.size_push]; exact Nat.lt_succ_of_lt lt)]
    exact Heap.get?_push_of_some _ e1
  exact h s1.heap.objs.size out ns' e { s1 with heap := sortedHeap (s1.heap.push (seqObj "list" l.toArray 0)) s1.heap.objs.size l out } a1 (a2.trans hp) a3 he le1 kp os1 gs1
theorem len_of_set {Q : Value → Shared → Prop} (hS : SetAt w S es ep t ks s.heap) (h : ∀ tk n, Q (.int ks.length tk) { s with toks := n }) : wpAny (model P w) A (call (.builtin "len") [.ref S]) Q E s := by
  obtain ⟨o, ho, hs⟩ := hS
  have zb := hs.bound
  have eb : scanBound = 4096 := rfl
  have e := hs.size
  refine call_len_set ho hs.ex hs.da hs.ft (by omega) ?_
  rw [e]
  exact h _ _
noncomputable def dstep (acc : List Int) (x : Int) : List Int := if x ∈ acc then acc else acc ++ [x]
noncomputable def dd (ns : List Int) : List Int := ns.foldl dstep []
theorem dd_snoc (ns : List Int) (x : Int) : dd (ns ++ [x]) = dstep (dd ns) x := by unfold dd; rw [List.foldl_append]; rfl
theorem dstep_mem {acc : List Int} {x y : Int} : y ∈ dstep acc x ↔ y ∈ acc ∨ y = x := by
  unfold dstep
  split
  · rename_i h
    exact ⟨.inl, fun z => z.elim id fun e => e ▸ h⟩
  · simp
theorem fold_mem : ∀ (ns acc : List Int) (y : Int), y ∈ ns.foldl dstep acc ↔ y ∈ acc ∨ y ∈ ns
  | [], acc, y => by simp
  | x :: r, acc, y => by
    rw [List.foldl_cons, fold_mem r, dstep_mem, List.mem_cons, or_assoc]
theorem dd_mem {ns : List Int} {y : Int} : y ∈ dd ns ↔ y ∈ ns := by unfold dd; rw [fold_mem]; simp
theorem fold_nd : ∀ (ns acc : List Int), acc.Nodup → (ns.foldl dstep acc).Nodup
  | [], acc, h => h
  | x :: r, acc, h => by
    rw [List.foldl_cons]
    refine fold_nd r _ ?_
    unfold dstep
    split
    · exact h
    · rename_i hx; exact nd_snoc h hx
theorem dd_nd (ns : List Int) : (dd ns).Nodup := fold_nd ns [] List.nodup_nil
theorem dd_len (ns : List Int) : (dd ns).length ≤ ns.length := (dd_nd ns).length_le_of_subset fun _ h => dd_mem.mp h
theorem SX_add {x : Int} {tk : Tok} {Q : Bool → Shared → Prop} (hS : SX w S ms s.heap) (hl : ms.length + 1 < 4000)
    (h : ∀ b h', Heap.SameBut S s.heap h' → SX w S (dstep ms x) h' → Q b { s with heap := h' }) : wpAny (model P w) A (setAddHashed S (.int x tk) (hashInt x)) Q E s := by
  obtain ⟨o, es, ep, t, ks, ho, hs, hp⟩ := hS
  refine add_SX ho hs (by rw [hp.length_eq]; exact hl) (fun hx => ?_) fun hx h' sb sx => ?_
  · have e : dstep ms x = ms := if_pos (hp.mem_iff.mp hx)
    have := h false s.heap (Heap.SameBut.refl _ _) (by rw [e]; exact ⟨o, es, ep, t, ks, ho, hs, hp⟩)
    exact this
  · have e : dstep ms x = ms ++ [x] := if_neg fun z => hx (hp.mem_iff.mpr z)
    exact h true h' sb (by rw [e]; exact sx.perm (hp.append_right _))
theorem upd_loop {I l : Addr} {items : Array Value} {ns : List Int} {R : Result → Shared → Prop} (hh : A.handled = none) (hne : l ≠ I) (hSI : S ≠ I) (hSl : S ≠ l) (hi : IntsAre items.toList ns) (hb : ns.length + 1 < 4000) :
    ∀ (k i : Nat) (s : Shared), items.size - i = k → i ≤ items.size → s.heap.IsListIter I l i → s.heap.IsList l items → SX w S (dd (ns.take i)) s.heap →
      (∀ s', (∀ b o, b ≠ S → b ≠ I → s.heap.get? b = some o → s'.heap.get? b = some o) → s'.os = s.os → s'.gens = s.gens → s'.drawn = s.drawn → SX w S (dd ns) s'.heap → R (.ok (.ret .none)) s') →
      codeAny (model P w) A (.builtin "set.update.loop" ⟨[.ref S, .ref I], []⟩) R s := by
  have hsz : items.size = ns.length := by rw [← Array.length_toList]; exact IntsAre.length hi
  intro k
  induction k with
  | zero =>
    intro i s hk hil it hl hS hR
    have e : i = items.size := by omega
    subst e
    refine codeAny_builtin PyProof.Rows.F.entry_set_update_loop ?_
    rw [Around.under_plainId PyProof.Rows.F.plain_set_update_loop _]
    show wpAny _ A.in1 (pyNext (.ref I) >>= _) _ _ s
    refine wpAny_bind (wpAny_pyNext_list_end (show A.in1.handled = none from hh) it hl (by simp) fun h' eb => ?_)
    show wpAny _ A.in1 (ret Value.none) _ _ _
    refine wpAny_pure (hR _ (fun b o _ hb e => eb b o hb e) rfl rfl rfl ?_)
    rw [List.take_of_length_le (by omega)] at hS
    exact hS.at fun o e => eb S o hSI e
  | succ k ih =>
    intro i s hk hil it hl hS hR
    have hlt : i < items.size := by omega
    have hin : i < ns.length := by omega
    obtain ⟨tk, hv⟩ := IntsAre.int_at hi i items[i] (by simp [hlt])
    have egd : ns.getD i 0 = ns[i] := by simp [hin]
    rw [egd] at hv
    refine codeAny_builtin PyProof.Rows.F.entry_set_update_loop ?_
    rw [Around.under_plainId PyProof.Rows.F.plain_set_update_loop _]
    show wpAny _ A.in1 (pyNext (.ref I) >>= _) _ _ s
    refine wpAny_bind (wpAny_pyNext_list_item it hl (x := items[i]) (by simp [hlt]) fun h1 it1 sb1 => ?_)
    rw [hv]
    show wpAny _ A.in1 (holding [Value.int ns[i] tk] (setAdd S (.int ns[i] tk)) >>= _) _ _ _
    refine wpAny_bind (wpAny_holding ?_)
    unfold setAdd
    refine wpAny_holding (wpAny_bind ((intKind P w).pyHash (k := ns[i]) (intKind_is _ _ _ _) ?_))
    have hS1 : SX w S (dd (ns.take i)) h1 := hS.at fun o e => (sb1.2 S hSI).trans e
    have dl := dd_len (ns.take i)
    rw [List.length_take] at dl
    refine SX_add (s := { s with heap := h1, toks := s.toks + 1 }) hS1 (by omega) fun b h2 sb2 sx => ?_
    have e2 : dstep (dd (ns.take i)) ns[i] = dd (ns.take (i + 1)) := by rw [List.take_succ_eq_append_getElem hin, dd_snoc]
    rw [e2] at sx
    have hl1 : h1.IsList l items := by obtain ⟨o, e, r⟩ := hl; exact ⟨o, (sb1.2 l hne).trans e, r⟩
    refine wpAny_pure ⟨plainId_quiet PyProof.Rows.F.plain_set_update_loop _, ih (i + 1) _ (by omega) hlt ?_ ?_ sx fun s' kp os' gs' ds' sx' => ?_⟩
    · obtain ⟨o, e, r⟩ := it1
      exact ⟨o, (sb2.2 I hSI.symm).trans e, r⟩
    · obtain ⟨o, e, r⟩ := hl1
      exact ⟨o, (sb2.2 l hSl.symm).trans e, r⟩
    · exact hR s' (fun b o h1' h2' e => kp b o h1' h2' ((sb2.2 b h1').trans ((sb1.2 b h2').trans e))) os' gs' ds' sx'
end
end L2
set_option Elab.async false
set_option linter.all false
set_option maxRecDepth 100000
set_option maxHeartbeats 3000000
namespace L2
open PySem PySem.Spec PyProof.Rows
section
variable {P : Program} {w : World} {A : Around} {E : Value → Shared → Prop} {s : Shared} {S : Addr} {ks ms : List Int}
noncomputable def newSetObj (w : World) : Obj := { cls := .type "set", dict := none, data := .set #[] 0 (.fresh 0 0 (!byText w)) }
theorem newSet_SX {h : Heap} {a : Addr} (e : h.get? a = some (newSetObj w)) : SX w a [] h :=
  ⟨_, #[], 0, _, [], e, ⟨⟨rfl, rfl, rfl⟩, rfl, .nil, List.nodup_nil, by decide, rfl, ⟨rfl, fun _ => .nil⟩⟩, .refl _⟩
theorem set_new (a : Value) {Q : Value → Shared → Prop} (h : Q (.ref s.heap.objs.size) { s with heap := s.heap.push (newSetObj w) }) :
    codeAny (model P w) A (.call (.builtin "set.__new__") ⟨[.type "set", a], []⟩) (wants Q E) s := by
  refine codeAny_of_tree ?_
  show wpAny _ A.in1 (do checkBuiltinCall "set.__new__" ⟨[.type "set", a], []⟩; again (.builtin "set.__new__" ⟨[.type "set", a], []⟩)) _ _ s
  refine wpAny_bind (wpAny_of_eq (PySem.F.newCall_set_1 a) (wpAny_pure ⟨plainId_quiet PySem.F.plain_set_new _, codeAny_builtin PySem.F.entry_set_new ?_⟩))
  rw [Around.under_plainId PySem.F.plain_set_new _]
  unfold Builtin.«set.__new__» Builtin.Frozenset.newClass
  have hsub := sub_set_self
  obtain ⟨hp, g, d, tk, os⟩ := s
  dsimp only
  wp_walk
  refine wpAny_askSetting (wpAny_pure ?_)
  dsimp only
  simp only [newObj]
  exact wpAny_bind (wpAny_alloc (wpAny_pure (wpAny_pure h)))
theorem set_init {l : Addr} {items : Array Value} {ns : List Int} {R : Result → Shared → Prop} (hh : A.handled = none) (ho : s.heap.get? S = some (newSetObj w)) (hl : s.heap.IsList l items) (hne : S ≠ l) (hi : IntsAre items.toList ns) (hb : ns.length + 1 < 4000)
    (hR : ∀ s', (∀ b o, b ≠ S → s.heap.get? b = some o → s'.heap.get? b = some o) → s'.os = s.os → s'.gens = s.gens → SX w S (dd ns) s'.heap → R (.ok (.ret .none)) s') :
    wpAny (model P w) A.in1 (Builtin.«set.__init__» ⟨[.ref S, .ref l], []⟩)
      (fun fin s' => match fin with | .done f => R (.ok f) s' | .again c' => c'.quiet = true ∧ codeAny (model P w) A c' R s') (fun e s' => R (.error e) s') s := by
  obtain ⟨ol, hol, hcl, nl, hdl⟩ := id hl
  have hT : s.TypeIs (.ref S) "set" := ⟨_, ho, rfl⟩
  have hTl : s.TypeIs (.ref l) "list" := ⟨_, hol, hcl⟩
  have q1 := PySem.F.sub_list_set
  have q2 := PySem.F.sub_list_frozenset
  unfold Builtin.«set.__init__» noKeywords
  generalize hPI : Builtin.Frozenset.updateFrom = UF
  obtain ⟨hp, g, d, tk, os⟩ := s
  unfold newSetObj at ho
  wp_walk
  subst hPI
  unfold Builtin.Frozenset.updateFrom Builtin.Frozenset.isAnySet
  refine wpAny_bind ?_
  show wpAny _ _ (isInstance (.ref l) (.type "set") >>= fun b => _) _ _ _
  refine wpAny_bind (wpAny_isInstance hTl q1 ?_)
  show wpAny _ _ (isInstance (.ref l) (.type "frozenset")) _ _ _
  refine wpAny_isInstance hTl q2 ?_
  rw [if_neg Bool.false_ne_true]
  refine wpAny_bind (wpAny_typeOf hTl ?_)
  rw [if_neg (by decide)]
  refine wpAny_bind (wpAny_pyIter_list hl ?_)
  refine wpAny_bind (wpAny_runValue ?_)
  have hSh : S < hp.objs.size := Heap.lt_size ho
  have hlh : l < hp.objs.size := Heap.lt_size hol
  refine upd_loop (show A.in1.handled = none from hh) (Nat.ne_of_lt hlh) (Nat.ne_of_lt hSh) hne hi hb (items.size - 0) 0 _ rfl (Nat.zero_le _) ⟨_, Heap.get?_push_size _ rfl, rfl, rfl⟩ ?_ ?_ fun s' kp os' gs' ds' sx => ?_
  · exact ⟨ol, Heap.get?_push_of_some _ hol, hcl, nl, hdl⟩
  · rw [List.take_zero]
    exact newSet_SX (Heap.get?_push_of_some _ ho)
  · refine wpAny_pure (wpAny_pure (hR s' (fun b o hbS e => kp b o hbS (Nat.ne_of_lt (Heap.lt_size e)) (Heap.get?_push_of_some _ e)) os' gs' sx))
theorem set_of_list {l : Addr} {items : Array Value} {ns : List Int} {Q : Value → Shared → Prop} (hh : A.handled = none) (hl : s.heap.IsList l items) (hi : IntsAre items.toList ns) (hb : ns.length + 1 < 4000)
    (h : ∀ s', SX w s.heap.objs.size (dd ns) s'.heap → (∀ b o, s.heap.get? b = some o → s'.heap.get? b = some o) → s'.os = s.os → s'.gens = s.gens → Q (.ref s.heap.objs.size) s') : wpAny (model P w) A (call (.type "set") [.ref l]) Q E s := by
  obtain ⟨c, tl, hmro⟩ := PySem.F.called_set.mro
  have hmade := PySem.F.called_set.made
  have hsub := PySem.F.called_set.sub
  have n1 := PySem.F.called_set.notType
  have n2 := PySem.F.called_set.canCreate
  have hct := PySem.F.typeCall_set_1 (.ref l)
  refine wpAny_call (codeAny_of_tree ?_)
  show wpAny _ _ (callAny (.type "set") _) _ _ _
  refine wpAny_pure ⟨Code.quiet_builtin _ (by decide +kernel), codeAny_builtin PySem.F.entry_type_call ?_⟩
  rw [Around.under_plain (weight_type_call_type "set" [.ref l] []) rfl]
  repeat (any_goals (first | assumption | wp_step))
  refine codeAny_mono (set_new (E := E) (Q := fun v s1 => v = .ref s.heap.objs.size ∧ s1 = { s with heap := s.heap.push (newSetObj w) }) (.ref l) ⟨rfl, rfl⟩) fun r s1 hr => ?_
  cases r with
  | error e => exact hr
  | ok fl =>
    cases fl with
    | ret v =>
      obtain ⟨e1, e2⟩ := hr
      subst e1 e2
      have hS : (s.heap.push (newSetObj w)).get? s.heap.objs.size = some (newSetObj w) := Heap.get?_push_size _ rfl
      have hT : Shared.TypeIs { s with heap := s.heap.push (newSetObj w) } (.ref s.heap.objs.size) "set" := ⟨_, hS, rfl⟩
      have hlu := PySem.F.called_set.init.lookup
      have hbd := PySem.F.called_set.init.bind (.ref s.heap.objs.size)
      repeat (any_goals (first | assumption | wp_step))
      refine codeAny_mono (codeAny_call_builtin (R := wants (fun r s2 => r = .none ∧ Q (.ref s.heap.objs.size) s2) E) PySem.F.called_set.init.plain PySem.F.entry_set_init (check_set_init_1 hT ?_)) fun r2 s2 hr2 => ?_
      · obtain ⟨ol, hol, hcl⟩ := id hl
        refine set_init (A := A.in1) (show A.in1.handled = none from hh) hS ⟨ol, Heap.get?_push_of_some _ hol, hcl⟩ (Nat.ne_of_gt (Heap.lt_size hol)) hi hb fun s' kp os' gs' sx => ⟨rfl, h s' sx (fun b o e => kp b o (Nat.ne_of_lt (Heap.lt_size e)) (Heap.get?_push_of_some _ e)) os' gs'⟩
      · cases r2 with
        | error e => exact hr2
        | ok fl2 =>
          cases fl2 with
          | ret v2 =>
            obtain ⟨e1, hq⟩ := hr2
            subst e1
            repeat (any_goals (first | assumption | wp_step))
          | _ => exact hr2.elim
    | _ => exact hr.elim
end
end L2
set_option Elab.async false
set_option linter.all false
set_option maxRecDepth 100000
namespace L2
open PySem PySem.Spec PyProof.Rows
theorem SX.ok {P : Program} {w : World} {H : Hp} {h : Heap} {a : Addr} {ms : List Int} (x : SX w a ms h) : ObjOk P w H h a (.ext (SX w a ms)) :=
  ⟨x, by obtain ⟨o, _, _, _, _, e, _⟩ := x; exact ⟨o, e⟩, fun _ _ y k => y.at k⟩
section
variable {X : Cx}
theorem Inv.new' {pins : List (Addr × Obj)} {σ : L2.St} {H : Hp} {s s' : Shared} {a : Addr} {o : HO} (I : Inv X pins σ H s) (k : ∀ b u, s.heap.get? b = some u → s'.heap.get? b = some u) (hp : s.heap.objs.size ≤ a) (hos : s'.os = s.os) (hgs : s'.gens = s.gens)
    (new : ObjOk X.prog X.w (upd H a o) s'.heap a o) : Inv X pins σ (upd H a o) s' :=
  I.call' (ch := []) hos (Un.laid k hp (I.hok.fresh hp)) (I.hok.laid k hp new) (by rw [hgs]; exact I.bare) fun b hb => by cases hb
theorem SX_at {w : World} {a : Addr} {ms : List Int} {h : Heap} (x : SX w a ms h) : ∃ es ep t ks, SetAt w a es ep t ks h ∧ ks.Perm ms := by
  obtain ⟨o, es, ep, t, ks, e, r, p⟩ := x
  exact ⟨es, ep, t, ks, ⟨o, e, r⟩, p⟩
theorem cSet (w : World) (K : PySem.W.Frag) (hc : X.calm = true := by rfl) (hw : X.w = w := by rfl) (hK : X.K = K := by rfl) : CallR X (.type "set") (fun xs H Q => ∃ p ns, xs = [.ref p] ∧ SqL K H p (ns.map V.int) ∧ ns.length < 3000 ∧
    ∀ a, H a = none → Q (.ref a) (upd H a (.ext (SX w a (dd ns))))) := by
  subst hw hK
  intro pins s σ H xs us Q I r h
  obtain ⟨p, ns, e, hq, hl, q⟩ := h
  subst e
  obtain ⟨u, e, rx⟩ := vals1 r
  subst e
  cases rx
  obtain ⟨its, rv, pl, hz⟩ := I.list hq
  refine set_of_list (ns := ns) (I.ok.hd hc) pl.isList (by simpa using intsAre_of rv) (by omega) fun s' sx kp os' gs' => ?_
  exact ⟨.ref s.heap.objs.size, _, I.new' kp (Nat.le_refl _) os' gs' sx.ok, rfl, q _ I.fresh⟩
theorem cSortedS (w : World) (hc : X.calm = true := by rfl) (hw : X.w = w := by rfl) : CallR X (.builtin "sorted") (fun xs H Q => ∃ p ms, xs = [.ref p] ∧ H p = some (.ext (SX w p ms)) ∧ ms.length < 64 ∧
    ∀ l (ks : List Int), H l = none → ks.Perm ms → ks.Pairwise (· ≤ ·) → Q (.ref l) (upd H l (.lst (ks.map V.int)))) := by
  subst hw
  intro pins s σ H xs us Q I r h
  obtain ⟨p, ms, e, hp, hl, q⟩ := h
  subst e
  obtain ⟨u, e, rx⟩ := vals1 r
  subst e
  cases rx
  obtain ⟨sx, _⟩ := (show ObjOk X.prog X.w H s.heap p (.ext (SX X.w p ms)) from I.hok p _ hp)
  obtain ⟨es, ep, t, ks, sa, pm⟩ := SX_at sx
  refine sorted_of_set (I.ok.hd hc) sa (by rw [pm.length_eq]; exact hl) fun L out ns e s' hI hpm hs he le kp os' gs' => ?_
  refine ⟨.ref L, _, I.new' kp le os' gs' (show ObjOk X.prog X.w _ _ _ (.lst (ns.map V.int)) from ⟨?_, out.toList, e, vals_ints hI, ?_⟩), rfl, q _ ns (I.hok.fresh le) (hpm.trans pm) hs⟩
  · rw [List.length_map, hpm.length_eq, pm.length_eq]; exact szl (by omega)
  · simpa [seqObj] using he
theorem cLenS (w : World) (hw : X.w = w := by rfl) : CallR X (.builtin "len") (fun xs H Q => ∃ p ms, xs = [.ref p] ∧ H p = some (.ext (SX w p ms)) ∧ Q (.int ms.length) H) := by
  subst hw
  intro pins s σ H xs us Q I r h
  obtain ⟨p, ms, e, hp, q⟩ := h
  subst e
  obtain ⟨u, e, rx⟩ := vals1 r
  subst e
  cases rx
  obtain ⟨sx, _⟩ := (show ObjOk X.prog X.w H s.heap p (.ext (SX X.w p ms)) from I.hok p _ hp)
  obtain ⟨es, ep, t, ks, sa, pm⟩ := SX_at sx
  refine len_of_set sa fun tk n => ⟨.int ms.length, H, I.tok n, ⟨tk, ?_⟩, q⟩
  rw [pm.length_eq]
noncomputable def rInsert : V → List V → Hp → VK → Prop := fun x vs H Q => ∃ l xs i y, x = .ref l ∧ vs = [.int i, y] ∧ H l = some (.lst xs) ∧ xs.length < sizeLine ∧ 0 ≤ i ∧ i < 1000000 ∧ Q .non (upd H l (.lst (xs.take i.toNat ++ y :: xs.drop i.toNat)))
theorem insert_arr (its : List Value) (i : Int) (u : Value) (h0 : 0 ≤ i) : (have k := if i < 0 then (i + (its.toArray.size : Int)).toNat else min i.toNat its.toArray.size; (its.toArray.extract 0 k).push u ++ its.toArray.extract k) = (its.take i.toNat ++ u :: its.drop i.toNat).toArray := by
  dsimp only
  rw [if_neg (by omega), List.size_toArray]
  by_cases hkl : i.toNat ≤ its.length
  · rw [Nat.min_eq_left hkl]
    simp
    exact List.take_of_length_le (by simp)
  · rw [Nat.min_eq_right (by omega), List.take_of_length_le (by omega), List.drop_of_length_le (by omega)]
    simp
theorem mt_insert : MtM X "list.insert" rInsert := by
  intro pins s σ H x vs v us Q I rx rv h
  obtain ⟨l, xs, i, y, rfl, rfl, hH, hz, h0, h1, q⟩ := h
  cases rx
  obtain ⟨u, u', rfl, ru, ry⟩ := rv.two
  obtain ⟨t, rfl⟩ := ru
  obtain ⟨z, its, n, r, hl, e⟩ := I.lstM hH
  have hfit : ¬ (!Builtin.List.listFitsIndex i) = true := by
    have : Builtin.List.listFitsIndex i = true := fitsIndex_both (by omega) (by omega)
    rw [this]; simp
  refine call_meets PySem.F.slot_list_insert ⟨_, e, rfl⟩ PySem.F.entry_list_insert (PySem.F.args_list_insert_3 _ _ _) (AutoSeq1.list_insert_list_int_val_1 l its.toArray n i t u' hfit (by rw [List.size_toArray]; omega)) ⟨e, ?_⟩
  refine ⟨.non, _, I.lset (its' := its.take i.toNat ++ u' :: its.drop i.toNat) hH e (insert_arr its i u' h0) ((r.take _).append (.cons ry (r.drop _))) ?_, rfl, q⟩
  rw [List.length_append, List.length_cons, ← Nat.add_assoc, ← List.length_append, List.take_append_drop]; exact hz
end
end L2
set_option Elab.async false
set_option linter.all false
set_option maxRecDepth 100000
namespace L2
end L2
set_option Elab.async false
set_option linter.all false
set_option maxRecDepth 100000
namespace L2
open PySem PySem.Spec PyProof.Rows
noncomputable def Itst (lo st : Int) (n : Nat) : It := ⟨fun i _ => i < n, fun i H x H' => H' = H ∧ x = .int (lo + i * st), fun i _ => n ≤ i⟩
theorem turn_step {P : Program} {w : World} {K : PySem.W.Frag} {tg : Expr} (it : Addr) (lo st : Int) (n : Nat) : Turn P w K tg (Itst lo st n) [it] it (fun i h => IsRangeIter h it (lo + (i : Nat) * st) ((n : Int) - (i : Nat)) st) where
  mem := by simp
  obj := fun i h sta b hb => by
    have e : b = it := by simpa using hb
    subst e
    exact ⟨_, sta, fun v z => by
      have z' : Data.fields _ = Data.cell v := z
      cases z'⟩
  keep := fun i h h' sta k => k it (by simp) _ sta
  item := by
    intro X hP hw hK hc i pins s σ H E I hf sta hg
    subst hP hw hK
    obtain ⟨f0, f1, f2, f3, f4, f5⟩ := hf it (by simp)
    refine (Walks.range (prog := X.prog) (w := X.w) (I.ok.hd hc) it lo st n).item i s _ _ hg sta fun v h' tk hv sta' kk => ?_
    obtain ⟨t, rfl⟩ := hv
    have I1 : Inv X pins σ H { s with heap := h', toks := tk } := I.turned (fun b o hb e => kk b o (by simpa using hb) e) f0 f1 f3 f4 f5
    exact ⟨_, rfl, go_of (s := { s with heap := h', toks := tk }) (n := "range_iterator") sta' rfl rfl (by decide) ⟨.int (lo + i * st), H, I1, ⟨t, rfl⟩, ⟨rfl, rfl⟩, sta', fun b hb => (hf b hb).1⟩⟩
  done := by
    intro X hP hw hK hc i pins s σ H E I hf sta hg
    subst hP hw hK
    obtain ⟨f0, f1, f2, f3, f4, f5⟩ := hf it (by simp)
    exact wpAny_pyNext_range_end (I.ok.hd hc) sta (by have : n ≤ i := hg; omega) fun h' eb => ⟨rfl, I.turned (t' := s.toks) (fun b o hb e => eb b o hb e) f0 f1 f3 f4 f5⟩
  self := fun _ _ _ _ _ sta h => wpAny_pyIter_rangeiter sta h
section
variable {X : Cx} {tg : Expr}
noncomputable def iRng3 (ta : TA) : TI := fun σ H R => ta σ H fun vs H1 => ∃ i j k : Int, vs = [.int i, .int j, .int k] ∧ 0 ≤ i ∧ i < 2 ^ 60 ∧ 0 ≤ j ∧ j < 2 ^ 60 ∧ 0 < k ∧ k < 1073741824 ∧ R (Itst i k (if i < j then (j - i - 1) / k + 1 else 0).toNat) H1
theorem pi_range3 {a b c : Expr} {ta : TA} {p pos : Pos} (hg : Gl X "range") (hm : X.mg "range" = none) (ha : PA X [a, b, c] ta) (hs : starEach [a, b, c] X.env = [(false, eval a X.env), (false, eval b X.env), (false, eval c X.env)] := by rfl)
    (hs2 : starEach [b, c] X.env = [(false, eval b X.env), (false, eval c X.env)] := by rfl) : PI X tg (.Call (.Name "range" p) [a, b, c] [] pos) (iRng3 ta) := by
  intro pins s σ H R I h
  refine Call_ (ld_blt I hg hm boot_range (PyProof.Rows.callWith_type1 (thn (ha pos pins s σ H _ I h) fun us s1 ⟨vs, H1, I1, r1, q1⟩ => ?_) (by rw [hs, hs2]) (by rw [hs2]; rfl)))
  obtain ⟨i, j, k, e, h1, h2, h3, h4, h5, h6, q⟩ := q1
  subst e
  cases r1 with
  | cons r rr =>
    cases rr with
    | cons r' rr =>
      cases rr with
      | cons r'' rr =>
        cases rr
        obtain ⟨t, rfl⟩ := r
        obtain ⟨t', rfl⟩ := r'
        obtain ⟨t'', rfl⟩ := r''
        have hfit : ∀ z : Int, -(2 ^ 62) ≤ z → z < 2 ^ 62 → Builtin.Range.rangeFitsLong z = true := fun z a b => by
          unfold Builtin.Range.rangeFitsLong
          rw [Bool.and_eq_true, decide_eq_true_eq, decide_eq_true_eq]
          omega
        have hsz : Builtin.Range.rangeSize i j k = (if i < j then (j - i - 1) / k + 1 else 0) := by
          unfold Builtin.Range.rangeSize
          rw [if_pos h5]
        have hnn : 0 ≤ (if i < j then (j - i - 1) / k + 1 else 0) := by
          split
          · have := Int.ediv_nonneg (a := j - i - 1) (b := k) (by omega) (by omega); omega
          · omega
        have hle : (if i < j then (j - i - 1) / k + 1 else 0) < 2 ^ 62 := by
          split
          · have := Int.ediv_le_self (a := j - i - 1) k (by omega); omega
          · omega
        have hsm : Builtin.Range.small i j k = true := by
          unfold Builtin.Range.small
          rw [hsz, hfit i (by omega) (by omega), hfit j (by omega) (by omega), hfit k (by omega) (by omega), hfit _ (by omega) hle, if_pos h5, hfit (j + (k - 1)) (by omega) (by omega)]
          simp
        refine call_range_3 (by omega) ?_ (Or.inl (PyProof.noPylong_small (by omega)))
        refine wpAny_pyIter_range (IsRange.new ..) hsm ?_
        generalize hs9 : ({ s1 with heap := s1.heap.push { cls := .type "range", data := .fields #[.int i t, .int j t', .int k t''] }, toks := s1.toks } : Shared) = s2
        have I2 : Inv X pins σ H1 s2 := by rw [← hs9]; exact I1.kept fun b o e => Heap.get?_push_of_some _ e
        refine ⟨s2.heap.objs.size, [s2.heap.objs.size], _, _, H1, rfl, I2.kept (t' := s2.toks) fun b o e => Heap.get?_push_of_some _ e, turn_step _ i k (if i < j then (j - i - 1) / k + 1 else 0).toNat, ?_, fun b hb => ?_, q⟩
        · have e1 : i + ((0 : Nat) : Int) * k = i := by simp
          have e2 : (((if i < j then (j - i - 1) / k + 1 else 0).toNat : Nat) : Int) - ((0 : Nat) : Int) = Builtin.Range.rangeSize i j k := by rw [hsz]; omega
          rw [e1, e2]
          exact Heap.get?_push_size _ rfl
        · have e : b = s2.heap.objs.size := by simpa using hb
          subst e
          exact I2.fpOk (Nat.le_refl _) (I2.hok.fresh (Nat.le_refl _))
theorem for_step {lo st : Int} {n : Nat} {g : TG} {tb : TS} {D : Ends} {σ : L2.St} {H : Hp} (Pv : Nat → L2.St → Hp → Prop) (h0 : Pv 0 σ H)
    (hs : ∀ i σ H, i < n → Pv i σ H → g (.int (lo + i * st)) σ H fun σ2 H2 => tb { D with nx := Pv (i + 1), ct := Pv (i + 1), bk := D.nx } σ2 H2) (hd : ∀ σ H, Pv n σ H → D.nx σ H) :
    ∃ W : Nat → Nat → L2.St → Hp → Prop, (∃ m, W 0 m σ H) ∧ ∀ i m σ H, W i m σ H →
      ((Itst lo st n).stop i H ∧ D.nx σ H) ∨ ((Itst lo st n).go i H ∧ ∃ N : L2.St → Hp → Prop, (∀ σ' H', N σ' H' → ∃ m', m' < m ∧ W (i + 1) m' σ' H') ∧ ∀ x H', (Itst lo st n).yld i H x H' → g x σ H' fun σ2 H2 => tb { D with nx := N, ct := N, bk := D.nx } σ2 H2) := by
  refine ⟨fun i m σ H => m = n - i ∧ i ≤ n ∧ Pv i σ H, ⟨n, by simp, Nat.zero_le _, h0⟩, ?_⟩
  rintro i m σ H ⟨rfl, hi, p⟩
  by_cases hlt : i < n
  · refine .inr ⟨hlt, Pv (i + 1), fun σ' H' p' => ⟨n - (i + 1), Nat.sub_succ_lt_self _ _ hlt, rfl, hlt, p'⟩, fun x H' y => ?_⟩
    obtain ⟨e, y⟩ := y
    subst e y
    exact hs i σ _ hlt p
  · have e : i = n := Nat.le_antisymm hi (Nat.le_of_not_lt hlt)
    subst e
    exact .inl ⟨Nat.le_refl _, hd σ H p⟩
end
end L2
set_option Elab.async false
set_option linter.all false
set_option maxRecDepth 100000
namespace L2
open PySem PySem.Spec PyProof.Rows
section
variable {X : Cx} {pos : Pos}
noncomputable def gTupL (K : PySem.W.Frag) (n : Nat) (t : TGs) : TG := fun v σ H Q => ∃ a xs, v = .ref a ∧ SqL K H a xs ∧ xs.length = n ∧ t xs σ H Q
theorem pgTL {es : List Expr} {k : Nat} {t : TGs} {n : Nat} (K : PySem.W.Frag) (hc : X.calm = true) (hg : PGs X es t) (h : X.K = K := by rfl) (hn : (assignEach es X.env).length = n := by rfl) (hst : (assignEach es X.env).findIdx? (·.1) = none := by rfl) : PG X (.Tuple es k pos) (gTupL K n t) := by
  subst h
  intro pins s σ H v u Q I r hw
  obtain ⟨a, xs, e1, hq, hl, hw⟩ := hw
  subst e1
  cases r
  obtain ⟨its, rv, ht, hz⟩ := I.list hq
  rw [assign_Tuple]
  refine wpAny_bind (wpAny_standAt ?_)
  unfold unpack
  have en : (assignEach es X.env).length = its.toArray.size := by simp [hn, ← hl, rv.length]
  rw [en, hst]
  refine wpAny_bind (wpAny_holding (PySem.W.kun_itemsOf (I.ok.hd hc) ht.isList fun h' hx => ?_))
  have I1 : Inv X pins σ H { s with heap := h' } := I.kept (t' := s.toks) fun b o e => hx b o (Nat.ne_of_lt (Heap.lt_size e)) e
  exact hg pins _ σ H xs _ Q I1 (by simpa using rv) hw
end
theorem getD_get {hs : List Int} {k : Nat} (h : k < hs.length) : hs.getD k 0 = hs[k] := by simp [h]
theorem getD_getL {hs : List (List Int)} {k : Nat} (h : k < hs.length) : hs.getD k [] = hs[k] := by simp [h]
end L2
set_option Elab.async false
set_option linter.all false
set_option maxRecDepth 100000
namespace L2
open PySem PySem.Spec PyProof.Rows
noncomputable def lcg (M : Nat) : Nat → Nat → Nat
  | 0, i => i
  | j + 1, i => lcg M j ((i * 5 + 1) % M)
noncomputable def orb (M : Nat) : Nat → Nat → List Nat
  | 0, _ => []
  | n + 1, i => i :: orb M n ((i * 5 + 1) % M)
theorem lcg_add (M : Nat) : ∀ (a b i : Nat), lcg M (a + b) i = lcg M b (lcg M a i)
  | 0, b, i => by rw [Nat.zero_add]; rfl
  | a + 1, b, i => by
    have e : a + 1 + b = (a + b) + 1 := by omega
    rw [e]
    show lcg M (a + b) ((i * 5 + 1) % M) = lcg M b (lcg M a ((i * 5 + 1) % M))
    exact lcg_add M a b _
theorem orb_mem (M : Nat) (n i t : Nat) (h : t ∈ orb M n i) : ∃ b, b < n ∧ lcg M b i = t := by
  induction n generalizing i with
  | zero => cases h
  | succ n ih =>
    rcases List.mem_cons.mp h with e | e
    · exact ⟨0, Nat.succ_pos _, e.symm⟩
    · obtain ⟨b, hb, e⟩ := ih _ e
      exact ⟨b + 1, Nat.succ_lt_succ hb, e⟩
theorem orb_len (M : Nat) : ∀ (n i : Nat), (orb M n i).length = n
  | 0, _ => rfl
  | n + 1, i => by rw [orb, List.length_cons, orb_len M n]
theorem orb_lt {M : Nat} (hM : 0 < M) : ∀ (n i : Nat), i < M → ∀ t ∈ orb M n i, t < M
  | 0, _, _, t, h => by cases h
  | n + 1, i, hi, t, h => by
    rcases List.mem_cons.mp h with e | e
    · omega
    · exact orb_lt hM n _ (Nat.mod_lt _ hM) t e
noncomputable def Cyc (M : Nat) : Prop := ∀ i, i < M → ∀ t, t < M → ∃ j, j < M ∧ lcg M j i = t
theorem cyc_of {M : Nat} (hM : 0 < M) (nd : (orb M M 0).Nodup) (h0 : lcg M M 0 = 0) : Cyc M := by
  have all : ∀ t, t < M → ∃ b, b < M ∧ lcg M b 0 = t := fun t ht => by
    refine orb_mem M M 0 t (Decidable.byContradiction fun hn => ?_)
    have : (t :: orb M M 0).length ≤ (List.range M).length := (List.nodup_cons.mpr ⟨hn, nd⟩).length_le_of_subset fun x hx => by
      rw [List.mem_range]
      rcases List.mem_cons.mp hx with e | e
      · omega
      · exact orb_lt hM M 0 hM x e
    rw [List.length_cons, orb_len, List.length_range] at this
    omega
  intro i hi t ht
  obtain ⟨a, ha, ea⟩ := all i hi
  obtain ⟨b, hb, eb⟩ := all t ht
  by_cases h : a ≤ b
  · refine ⟨b - a, by omega, ?_⟩
    rw [← ea, ← lcg_add, ← eb]
    congr 1; omega
  · refine ⟨M + b - a, by omega, ?_⟩
    rw [← ea, ← lcg_add]
    have e : a + (M + b - a) = M + b := by omega
    rw [e, lcg_add, h0, eb]
theorem cyc_small {M : Nat} (h : M ∈ [8, 16, 32, 64, 128, 256]) : Cyc M := by
  simp only [List.mem_cons, List.not_mem_nil, or_false] at h
  rcases h with e | e | e | e | e | e <;> subst e
  all_goals exact cyc_of (by decide) (by decide +kernel) (by decide +kernel)
theorem size_small : ∀ n, n < 256 → SetTable.sizeAbove n ∈ [8, 16, 32, 64, 128, 256] ∧ n < SetTable.sizeAbove n := by decide +kernel
noncomputable def lp (mask : Nat) : Nat → Nat × Nat → Nat × Nat
  | 0, x => x
  | n + 1, x => lp mask n (SetTable.leap mask x.1 x.2)
theorem lp_add (mask : Nat) : ∀ (a b : Nat) (x : Nat × Nat), lp mask (a + b) x = lp mask b (lp mask a x)
  | 0, b, x => by rw [Nat.zero_add]; rfl
  | a + 1, b, x => by
    have e : a + 1 + b = (a + b) + 1 := by omega
    rw [e]
    exact lp_add mask a b _
theorem lp_snd (mask : Nat) (n : Nat) (x : Nat × Nat) : (lp mask n x).2 = x.2 / 32 ^ n := by
  induction n generalizing x with
  | zero => simp [lp]
  | succ n ih =>
    rw [lp, ih]
    show x.2 / 32 / 32 ^ n = x.2 / 32 ^ (n + 1)
    rw [Nat.div_div_eq_div_mul, Nat.pow_succ, Nat.mul_comm]
theorem lp_low (mask : Nat) (n i p : Nat) (h : p < 32) : (lp mask n (i, p)).1 = lcg (mask + 1) n i := by
  induction n generalizing i p with
  | zero => rfl
  | succ n ih =>
    have e : p / 32 = 0 := Nat.div_eq_of_lt h
    have e2 : SetTable.leap mask i p = ((i * 5 + 1) % (mask + 1), 0) := by unfold SetTable.leap; rw [e]
    rw [lp]
    show (lp mask n (SetTable.leap mask i p)).1 = _
    rw [e2, ih _ 0 (by decide)]
    rfl
theorem lp_lt (mask : Nat) : ∀ (n : Nat) (x : Nat × Nat), x.1 < mask + 1 → (lp mask n x).1 < mask + 1
  | 0, x, h => h
  | n + 1, x, h => by
    rw [lp]
    exact lp_lt mask n _ (Nat.mod_lt _ (by omega))
theorem free_hit (mask : Nat) (ow : Array (Option Nat)) : ∀ (f n i p : Nat), n < f → (ow.getD (lp mask n (i, p)).1 (some 0)).isNone = true → ∃ j, SetTable.layClean.free mask ow f i p = some j := by
  intro f
  induction f with
  | zero => intro n i p h; cases h
  | succ f ih =>
    intro n i p h hn
    unfold SetTable.layClean.free
    cases hf : (List.range (SetTable.runEnd mask i + 1 - i)).find? (fun k => (ow.getD (i + k) (some 0)).isNone) with
    | some k => exact ⟨i + k, rfl⟩
    | none =>
      dsimp only
      cases n with
      | zero =>
        exfalso
        rw [List.find?_eq_none] at hf
        have m : 0 ∈ List.range (SetTable.runEnd mask i + 1 - i) := by
          rw [List.mem_range]
          unfold SetTable.runEnd
          split <;> omega
        exact hf 0 m hn
      | succ n => exact ih n _ _ (Nat.lt_of_succ_lt_succ h) hn
theorem free_spot (mask : Nat) (ow : Array (Option Nat)) (f i p j : Nat) (h : SetTable.layClean.free mask ow f i p = some j) : (ow.getD j (some 0)).isNone = true := by
  induction f generalizing i p with
  | zero => unfold SetTable.layClean.free at h; cases h
  | succ f ih =>
    unfold SetTable.layClean.free at h
    cases hf : (List.range (SetTable.runEnd mask i + 1 - i)).find? (fun k => (ow.getD (i + k) (some 0)).isNone) with
    | some k =>
      rw [hf] at h
      have e := Option.some.inj h
      rw [← e]
      exact List.find?_some (p := fun k => (ow.getD (i + k) (some 0)).isNone) hf
    | none =>
      rw [hf] at h
      exact ih _ _ h
theorem bits_lt (h : Int) : SetTable.bits h < 2 ^ 64 := by
  unfold SetTable.bits
  have h1 := Int.emod_nonneg h (show (2 ^ 64 : Int) ≠ 0 by decide)
  have h2 := Int.emod_lt_of_pos h (show (0 : Int) < 2 ^ 64 by decide)
  omega
theorem free_some {mask : Nat} (c : Cyc (mask + 1)) (ow : Array (Option Nat)) (h : Int) {t : Nat} (ht : t < mask + 1) (hn : (ow.getD t (some 0)).isNone = true) :
    ∃ j, SetTable.layClean.free mask ow (SetTable.turns mask) (SetTable.bits h % (mask + 1)) (SetTable.bits h) = some j := by
  have hi : (lp mask 12 (SetTable.bits h % (mask + 1), SetTable.bits h)).1 < mask + 1 := lp_lt mask 12 _ (Nat.mod_lt _ (by omega))
  have hp : (lp mask 12 (SetTable.bits h % (mask + 1), SetTable.bits h)).2 < 32 := by
    rw [lp_snd]
    have := bits_lt h
    show SetTable.bits h / 32 ^ 12 < 32
    omega
  obtain ⟨j, hj, ej⟩ := c _ hi t ht
  refine free_hit mask ow _ (12 + j) _ _ (by unfold SetTable.turns; omega) ?_
  rw [lp_add]
  generalize lp mask 12 (SetTable.bits h % (mask + 1), SetTable.bits h) = x at hi hp ej
  obtain ⟨a, b⟩ := x
  rw [lp_low mask j a b hp]
  dsimp only at ej
  rw [ej]
  exact hn
structure Ownd (mask : Nat) (ow : Array (Option Nat)) (k : Nat) : Prop where
  sz : ow.size = mask + 1
  pm : (ow.toList.filterMap id).Perm (List.range k)
theorem Ownd.gap {mask : Nat} {ow : Array (Option Nat)} {k : Nat} (o : Ownd mask ow k) (h : k < mask + 1) : ∃ t, t < mask + 1 ∧ (ow.getD t (some 0)).isNone = true := by
  refine Decidable.byContradiction fun hn => ?_
  have all : ∀ a ∈ ow.toList, (id a).isSome = true := fun a ha => by
    obtain ⟨t, ht, e⟩ := List.mem_iff_getElem.mp ha
    rw [Array.length_toList] at ht
    cases a with
    | some x => rfl
    | none =>
      refine absurd ⟨t, by rw [← o.sz]; exact ht, ?_⟩ hn
      have : ow.getD t (some 0) = none := by
        rw [Array.getElem_toList] at e
        simp [Array.getD, ht, e]
      rw [this]; rfl
  have := List.filterMap_length_eq_length.mpr all
  rw [o.pm.length_eq, List.length_range, Array.length_toList, o.sz] at this
  omega
theorem Ownd.set {mask : Nat} {ow : Array (Option Nat)} {k j : Nat} (o : Ownd mask ow k) (h : (ow.getD j (some 0)).isNone = true) : Ownd mask (ow.setIfInBounds j (some k)) (k + 1) where
  sz := by rw [Array.size_setIfInBounds]; exact o.sz
  pm := by
    have hj : j < ow.size := by
      refine Decidable.byContradiction fun hn => ?_
      have : ow.getD j (some 0) = some 0 := by simp [Array.getD, hn]
      rw [this] at h; cases h
    have e : ow.toList[j]'(by rw [Array.length_toList]; exact hj) = none := by
      have : ow.getD j (some 0) = ow[j] := by simp [Array.getD, hj]
      rw [this] at h
      rw [Array.getElem_toList]
      exact Option.isNone_iff_eq_none.mp h
    have hjl : j < ow.toList.length := by rw [Array.length_toList]; exact hj
    rw [Array.toList_setIfInBounds, List.set_eq_take_append_cons_drop, if_pos hjl, List.filterMap_append, List.filterMap_cons]
    dsimp only [id]
    have e1 : ow.toList = ow.toList.take j ++ none :: ow.toList.drop (j + 1) := by
      conv => lhs; rw [← List.take_append_drop j ow.toList, List.drop_eq_getElem_cons hjl, e]
    have p := o.pm
    rw [e1, List.filterMap_append, List.filterMap_cons] at p
    dsimp only [id] at p
    rw [List.range_succ]
    exact (List.perm_middle.trans (p.cons k)).trans (List.perm_append_singleton k _).symm
theorem lay_fold {mask : Nat} (c : Cyc (mask + 1)) : ∀ (hs : List Int) (ow : Array (Option Nat)) (k : Nat), Ownd mask ow k → k + hs.length ≤ mask + 1 →
    ∃ ow', hs.foldl (fun (acc : Option (Array (Option Nat) × Nat)) h => do
      let (owner, k) ← acc
      let j ← SetTable.layClean.free mask owner (SetTable.turns mask) (SetTable.bits h % (mask + 1)) (SetTable.bits h)
      pure (owner.setIfInBounds j (some k), k + 1)) (some (ow, k)) = some (ow', k + hs.length) ∧ Ownd mask ow' (k + hs.length) := by
  intro hs
  induction hs with
  | nil => intro ow k o _; exact ⟨ow, rfl, o⟩
  | cons h r ih =>
    intro ow k o hl
    rw [List.length_cons] at hl
    obtain ⟨t, ht, hn⟩ := o.gap (by omega)
    obtain ⟨j, ej⟩ := free_some c ow h ht hn
    have o' := o.set (free_spot _ _ _ _ _ _ ej)
    obtain ⟨ow', e, o2⟩ := ih _ (k + 1) o' (by omega)
    have ek : k + (h :: r).length = k + 1 + r.length := by rw [List.length_cons]; omega
    rw [ek]
    refine ⟨ow', ?_, o2⟩
    rw [List.foldl_cons]
    refine Eq.trans (congrArg (fun z => List.foldl _ z r) ?_) e
    show (SetTable.layClean.free mask ow (SetTable.turns mask) (SetTable.bits h % (mask + 1)) (SetTable.bits h)).bind (fun j => some (ow.setIfInBounds j (some k), k + 1)) = _
    rw [ej]; rfl
structure Laid (t : SetTable) (o : Array Nat) (mask n : Nat) (led plain : Bool) : Prop where
  pm : o.toList.Perm (List.range n)
  ft : t.fits n = true
  ms : t.mask = mask
  dm : t.dummies = #[]
  ld : t.led = led
  pl : t.plain = plain
  rs : Rise t.place.toList
theorem laid_some {mask finger moves : Nat} {led plain : Bool} {hs : Array Int} (c : Cyc (mask + 1)) (hl : hs.size ≤ mask) : ∃ t o, SetTable.laid mask finger moves led plain hs = some (t, o) ∧ Laid t o mask hs.size led plain := by
  have o0 : Ownd mask (Array.replicate (mask + 1) none) 0 := ⟨Array.size_replicate, by simp⟩
  obtain ⟨ow, e, o⟩ := lay_fold c hs.toList _ 0 o0 (by rw [Array.length_toList]; omega)
  rw [Nat.zero_add, Array.length_toList] at e o
  have el : SetTable.layClean mask hs = some ow := by
    unfold SetTable.layClean
    rw [← Array.foldl_toList, e]; rfl
  have eq : SetTable.laid mask finger moves led plain hs = some ({ mask, place := (((List.range (mask + 1)).filterMap fun j => (ow.getD j none).map (j, ·)).map (·.1)).toArray, dummies := #[], finger, led, moves, plain }, (((List.range (mask + 1)).filterMap fun j => (ow.getD j none).map (j, ·)).map (·.2)).toArray) := by
    unfold SetTable.laid
    rw [el]; rfl
  have es : ((List.range (mask + 1)).filterMap fun j => (ow.getD j none).map (j, ·)).map (·.2) = ow.toList.filterMap id := by
    have eo : ow.toList = (List.range (mask + 1)).map fun j => ow.getD j none := by
      apply List.ext_getElem
      · simp [o.sz]
      · intro i h1 h2
        rw [Array.length_toList] at h1
        simp [Array.getD, h1]
    conv => rhs; rw [eo]
    rw [List.filterMap_map, List.map_filterMap]
    congr 1
    funext j
    show Option.map (fun x => x.snd) (Option.map (fun x => (j, x)) (ow.getD j none)) = ow.getD j none
    cases ow.getD j none <;> rfl
  have pm : (((List.range (mask + 1)).filterMap fun j => (ow.getD j none).map (j, ·)).map (·.2)).Perm (List.range hs.size) := by rw [es]; exact o.pm
  have ln := pm.length_eq
  rw [List.length_map, List.length_range] at ln
  obtain ⟨r1, r2⟩ := laid_rise eq
  refine ⟨_, _, eq, ⟨pm, ?_, rfl, rfl, rfl, rfl, r2⟩⟩
  unfold SetTable.fits SetTable.fill
  simp only [List.size_toArray, List.length_map, ln, Array.size_empty, Nat.add_zero]
  simp [hl]
end L2
set_option Elab.async false
set_option linter.all false
set_option maxRecDepth 100000
namespace L2
open PySem PySem.Spec PyProof.Rows
theorem fm_mapG {α β : Type} {f : α → Option β} {g : α → β} (l : List α) (h : ∀ a ∈ l, f a = some (g a)) : l.filterMap f = l.map g := by
  induction l with
  | nil => rfl
  | cons a r ih => rw [List.filterMap_cons, h a List.mem_cons_self, List.map_cons, ih fun b hb => h b (List.mem_cons_of_mem _ hb)]
theorem pick_all (es : Array (Int × Value)) : (List.range es.size).filterMap (fun i => es[i]?) = es.toList := by
  rw [fm_mapG (g := fun i => es.getD i (0, .none)) _ fun i hi => by have := List.mem_range.mp hi; simp [this]]
  apply List.ext_getElem
  · simp
  · intro i h1 h2
    rw [Array.length_toList] at h2
    simp [h2]
theorem order_perm {es : Array (Int × Value)} {o : Array Nat} (pm : o.toList.Perm (List.range es.size)) : (o.filterMap (es[·]?)).toList.Perm es.toList := by
  rw [Array.toList_filterMap]
  have := pm.filterMap (fun i => es[i]?)
  rw [pick_all] at this
  exact this
section
variable {P : Program} {w : World} {A : Around} {E : Value → Shared → Prop} {s : Shared} {S : Addr} {ks ms : List Int} {es : Array (Int × Value)} {ep : Nat} {t : SetTable}
theorem reord_ok {g : Array (Int × Value) → Option (SetTable × Array Nat) → Sem (Array (Int × Value) × SetTable)} {es : Array (Int × Value)} {t : SetTable} {o : Array Nat} {Q : Array (Int × Value) × SetTable → Shared → Prop}
    (hg : g es (some (t, o)) = (do
      if ((o.filterMap (es[·]?)).size != es.size) = true then unsupported "internal:set-table-lost-an-element"
      pure (o.filterMap (es[·]?), t))) (pm : o.toList.Perm (List.range es.size)) (h : Q (o.filterMap (es[·]?), t) s) : wpAny (model P w) A (g es (some (t, o))) Q E s := by
  have pp := (order_perm pm).length_eq
  rw [Array.length_toList, Array.length_toList] at pp
  rw [hg, if_neg (by rw [pp]; simp)]
  exact wpAny_pure h
theorem sl_big {n : Nat} (h : n < 5000) : n ≤ sizeLine := Nat.le_of_lt (szn (by omega))
theorem SetAt.store {es' : Array (Int × Value)} {t' : SetTable} {ks' : List Int} {Q : Unit → Shared → Prop} (hS : SetAt w S es ep t ks s.heap) (en : Ents es'.toList ks') (nd : ks'.Nodup) (sz : ks'.length < 4000) (ft : t'.fits es'.size = true) (tb : TabK (!byText w) t')
    (h : ∀ h', Heap.SameBut S s.heap h' → SetAt w S es' (ep + 1) t' ks' h' → Q () { s with heap := h' }) : wpAny (model P w) A (storeSet S es' t') Q E s := by
  obtain ⟨o, ho, hs⟩ := hS
  have z : es'.size = ks'.length := by rw [← en.len, Array.length_toList]
  refine wpAny_storeSet_of ho hs.da (h _ (Heap.SameBut.update ..) ?_) (by rw [z]; exact sl_big (by omega))
  obtain ⟨o', ho', hs'⟩ := put_SX (s := s) ho hs en nd sz ft tb
  exact ⟨o', ho', hs'⟩
theorem SetAt.state {Q : Array (Int × Value) × Nat × SetTable → Shared → Prop} (hS : SetAt w S es ep t ks s.heap) (h : Q (es, ep, t) s) : wpAny (model P w) A (setState S) Q E s := by
  obtain ⟨o, ho, hs⟩ := hS
  exact wpAny_setState_of ho hs.da hs.ft h
theorem SetAt.epoch {Q : Nat → Shared → Prop} (hS : SetAt w S es ep t ks s.heap) (h : Q ep s) : wpAny (model P w) A (setEpoch S) Q E s := by
  unfold setEpoch
  exact wpAny_bind (hS.state (wpAny_pure h))
theorem SetAt.entries {Q : Array (Int × Value) → Shared → Prop} (hS : SetAt w S es ep t ks s.heap) (h : Q es s) : wpAny (model P w) A (setEntries S) Q E s := by
  unfold setEntries
  exact wpAny_bind (hS.state (wpAny_pure h))
theorem SetAt.en (hS : SetAt w S es ep t ks s.heap) : Ents es.toList ks := let ⟨_, _, hs⟩ := hS; hs.en
theorem SetAt.nd (hS : SetAt w S es ep t ks s.heap) : ks.Nodup := let ⟨_, _, hs⟩ := hS; hs.nd
theorem SetAt.ft (hS : SetAt w S es ep t ks s.heap) : t.fits es.size = true := let ⟨_, _, hs⟩ := hS; hs.ft
theorem SetAt.tb (hS : SetAt w S es ep t ks s.heap) : TabK (!byText w) t := let ⟨_, _, hs⟩ := hS; hs.tb
theorem SetAt.sz (hS : SetAt w S es ep t ks s.heap) : es.size = ks.length := let ⟨_, _, hs⟩ := hS; hs.size
theorem SetAt.lt4 (hS : SetAt w S es ep t ks s.heap) : ks.length < 4000 := let ⟨_, _, hs⟩ := hS; hs.sz
theorem SetAt.sx (hS : SetAt w S es ep t ks s.heap) (p : ks.Perm ms) : SX w S ms s.heap := let ⟨o, e, r⟩ := hS; ⟨o, es, ep, t, ks, e, r, p⟩
theorem SetAt.relay {wanted : Nat} {Q : Unit → Shared → Prop} (hS : SetAt w S es ep t ks s.heap) (hw : wanted < 256) (hz : es.size < SetTable.sizeAbove wanted)
    (h : ∀ h' es' t' ks', Heap.SameBut S s.heap h' → SetAt w S es' (ep + 1) t' ks' h' → ks'.Perm ks → t'.mask + 1 = SetTable.sizeAbove wanted → t'.dummies = #[] → Q () { s with heap := h' }) : wpAny (model P w) A (setRelay S wanted) Q E s := by
  obtain ⟨m1, m2⟩ := size_small wanted hw
  have c := cyc_small m1
  have big : SetTable.sizeAbove wanted ≤ 256 ∧ 8 ≤ SetTable.sizeAbove wanted := by
    exact (show ∀ x ∈ [8, 16, 32, 64, 128, 256], x ≤ 256 ∧ 8 ≤ x by decide) _ m1
  unfold setRelay
  refine wpAny_bind (hS.state ?_)
  dsimp only
  rw [if_neg (by have := sl_big (n := SetTable.sizeAbove wanted) (by omega); omega)]
  have eM : SetTable.sizeAbove wanted - 1 + 1 = SetTable.sizeAbove wanted := by omega
  have c' : Cyc (SetTable.sizeAbove wanted - 1 + 1) := by rw [eM]; exact c
  have hsz : (es.map (·.1)).size = es.size := Array.size_map ..
  obtain ⟨t', o, e, L⟩ := laid_some (mask := SetTable.sizeAbove wanted - 1) (finger := t.finger) (moves := t.movedTo (SetTable.sizeAbove wanted - 1)) (led := t.led) (plain := t.plain) (hs := es.map (·.1)) c' (by rw [hsz]; omega)
  have e2 : t.relaid (es.map (·.1)) wanted = some (t', o) := e
  rw [e2]
  have pm := L.pm
  rw [hsz] at pm
  refine wpAny_bind (reord_ok (by rfl) pm ?_)
  dsimp only
  have pp := order_perm pm
  obtain ⟨ks', n', q'⟩ := Ents.perm pp hS.en
  have z : (o.filterMap (es[·]?)).size = es.size := by have := pp.length_eq; rw [Array.length_toList, Array.length_toList] at this; exact this
  refine hS.store n' (q'.nodup_iff.mpr hS.nd) (by rw [q'.length_eq]; exact hS.lt4) (by rw [z, ← hsz]; exact L.ft) ⟨by rw [L.ld]; exact hS.tb.led, fun _ => L.rs⟩ fun h' sb st => ?_
  exact h h' _ t' ks' sb st q' (by rw [L.ms]; omega) L.dm
theorem SetAt.find {x : Int} {tk : Tok} {Q : Option Nat → Shared → Prop} (hS : SetAt w S es ep t ks s.heap) (h1 : ∀ i, ks[i]? = some x → Q (some i) s) (h2 : x ∉ ks → Q none s) : wpAny (model P w) A (setFind S (.int x tk) (hashInt x)) Q E s := by
  obtain ⟨o, ho, hs⟩ := hS
  have hel := hs.en.elems (P := P) (w := w)
  have hky : (intKind P w).is x (.int x tk) = true := intKind_is P w x tk
  unfold setFind setFindIn
  refine wpAny_bind (wpAny_setState_of ho hs.da hs.ft ?_)
  dsimp only
  rw [byScan_of (knd := intKind P w) rfl hs.bound hel, if_pos rfl]
  refine wpAny_bind (wpAny_rule ?_)
  refine wpAny_bind (wpAny_setScan_of (knd := intKind P w) (k := x) hky ho hs.da hs.ft hel ?_)
  have fd := hs.en.find (P := P) (w := w) (k := x)
  cases hr : List.findIdx? (fun e => (intKind P w).is x e.2) es.toList with
  | some j =>
    refine wpAny_pure ?_
    rw [Nat.zero_add]
    refine h1 j ?_
    obtain ⟨hj, p1, _⟩ := List.findIdx?_eq_some_iff_getElem.mp hr
    have hjk : j < ks.length := by rw [← hs.en.len]; exact hj
    have gk := List.getElem?_eq_getElem hjk
    obtain ⟨e', g, tk', q⟩ := pair_get hs.en gk
    rw [List.getElem?_eq_getElem hj] at g
    have g := Option.some.inj g
    rw [g, q] at p1
    have : x = ks[j] := by
      have z : (intKind P w).is x (hashInt ks[j], Value.int ks[j] tk').2 = decide (x = ks[j]) := isInt_dec x ks[j] tk'
      rw [z] at p1
      exact of_decide_eq_true p1
    rw [gk, this]
  | none =>
    rw [hr] at fd
    exact wpAny_pure (h2 (of_decide_eq_false fd.symm))
end
end L2
set_option Elab.async false
set_option linter.all false
set_option maxRecDepth 100000
namespace L2
open PySem PySem.Spec PyProof.Rows
section
variable {P : Program} {w : World} {A : Around} {E : Value → Shared → Prop} {s : Shared} {S : Addr} {ks ms : List Int} {es : Array (Int × Value)} {ep : Nat} {t : SetTable}
theorem quiet_ok {Q : Bool → Shared → Prop} (sets : List Addr) (ho : ∀ a ∈ sets, ∃ ms, SX w a ms s.heap) (h : Q true s) : wpAny (model P w) A (setsQuiet sets) Q E s := by
  unfold setsQuiet
  refine wpAny_bind (wpAny_forIn_list _ (fun rest b s' => (∀ a ∈ rest, a ∈ sets) ∧ b.1 = none ∧ s' = s) _ ?_ ?_ sets _ ⟨fun _ h => h, rfl, rfl⟩)
  · rintro a rest b s' ⟨hm, hb, rfl⟩
    obtain ⟨ms, sx⟩ := ho a (hm a List.mem_cons_self)
    obtain ⟨es, ep, t, ks, sa, pm⟩ := SX_at sx
    refine wpAny_bind (sa.entries ?_)
    refine wpAny_bind (PySem.MeetsSeq2.wpAny_forIn_array _ (fun rest b s'' => (∀ a ∈ rest, a ∈ es.toList) ∧ b.1 = none ∧ s'' = s') _ ?_ ?_ es _ ⟨fun _ h => h, rfl, rfl⟩)
    · rintro x rest b s' ⟨hm, hb, rfl⟩
      obtain ⟨k, tk, _, e⟩ := Ents.mem (es := es.toList) sa.en (hm x List.mem_cons_self)
      subst e
      refine wpAny_pure ⟨fun a h => hm a (List.mem_cons_of_mem _ h), rfl, rfl⟩
    · rintro ⟨b1, b2⟩ s'' ⟨_, hb', rfl⟩
      dsimp only at hb'
      subst hb'
      exact wpAny_pure ⟨fun a h => hm a (List.mem_cons_of_mem _ h), rfl, rfl⟩
  · rintro ⟨b1, b2⟩ s' ⟨_, hb, rfl⟩
    dsimp only at hb
    subst hb
    exact wpAny_pure h
theorem text_ok {Q : Bool → Shared → Prop} (h : Q (byText w) s) : wpAny (model P w) A setsByText Q E s := by
  unfold setsByText
  exact wpAny_bind (wpAny_askSetting (wpAny_pure h))
theorem SetAt.walk {others : List Addr} {f : Option Addr} {Q : Array (Int × Value) → Shared → Prop} (hS : SetAt w S es ep t ks s.heap) (ho : ∀ a ∈ others, ∃ ms, SX w a ms s.heap) (hf : ∀ a, f = some a → a ≠ S ∧ SX w a ms s.heap)
    (h : ∀ xs h', xs.toList.Perm es.toList → (∀ b o, f ≠ some b → s.heap.get? b = some o → h'.get? b = some o) → (∀ a, f = some a → SX w a ms h') → Q xs { s with heap := h' }) : wpAny (model P w) A (setWalkUnseen S others f) Q E s := by
  have hS' := hS
  obtain ⟨o, hoo, hs⟩ := hS
  unfold setWalkUnseen
  refine wpAny_bind (hS'.state ?_)
  dsimp only
  refine wpAny_bind (text_ok ?_)
  have done : ∀ xs : Array (Int × Value), xs.toList.Perm es.toList → Q xs s := fun xs p => h xs s.heap p (fun _ _ _ e => e) fun a e => (hf a e).2
  by_cases hc : (byText w || t.led && t.plain || decide (es.size ≤ 1)) = true
  · rw [if_pos hc]
    by_cases bt : byText w = true
    · exact setWalk_text bt hoo hs (done _ (pick_perm _ _))
    · unfold setWalk
      have bt0 : byText w = false := by simpa using bt
      have ld : t.led = true := by rw [hs.tb.led, bt0]; rfl
      refine wpAny_bind (hS'.state ?_)
      dsimp only
      refine wpAny_bind (text_ok ?_)
      rw [bt0, if_neg Bool.false_ne_true]
      rw [bt0, ld] at hc
      show wpAny _ _ (if (!t.plain && decide (es.size > 1)) = true then _ else _) _ _ _
      rw [if_neg (by cases hp : t.plain with | true => simp | false => (rw [hp] at hc; simp at hc ⊢; omega))]
      refine wpAny_bind ?_
      show wpAny _ _ (if (!t.led && decide (es.size > 1)) = true then unsupported "set:maker-not-led" else pure ()) _ _ _
      rw [if_neg (by rw [ld]; simp)]
      exact wpAny_pure (wpAny_pure (done _ (.refl _)))
  · rw [if_neg hc]
    refine wpAny_bind (quiet_ok _ (fun a ha => ?_) ?_)
    · rcases List.mem_cons.mp ha with e | e
      · subst e; exact ⟨ks, hS'.sx (.refl _)⟩
      · exact ho a e
    rw [if_neg (by simp)]
    refine wpAny_bind (wpAny_rule ?_)
    cases f with
    | none => exact wpAny_pure (done _ (.refl _))
    | some a =>
      obtain ⟨hne, sx⟩ := hf a rfl
      obtain ⟨ef, epf, tf, kf, sf, pf⟩ := SX_at sx
      refine wpAny_bind (sf.state ?_)
      dsimp only
      by_cases hm : (tf.led && !t.led || tf.plain && !t.plain) = true
      · rw [if_pos hm]
        refine wpAny_bind (sf.store (t' := { tf with led := tf.led && t.led, plain := tf.plain && t.plain }) sf.en sf.nd sf.lt4 sf.ft ⟨by show (tf.led && t.led) = _; rw [sf.tb.led, hs.tb.led]; simp, fun z => sf.tb.rise (by have z : (tf.plain && t.plain) = true := z; simp at z; exact z.1)⟩ fun h' sb st => ?_)
        exact wpAny_pure (h es h' (.refl _) (fun b o n e => (sb.2 b fun z => n (by rw [z])).trans e) fun a' e => by cases e; exact st.sx (s := { s with heap := h' }) pf)
      · rw [if_neg hm]
        exact wpAny_pure (done _ (.refl _))
end
end L2
set_option Elab.async false
set_option linter.all false
set_option maxRecDepth 100000
namespace L2
open PySem PySem.Spec PyProof.Rows
section
variable {P : Program} {w : World} {A : Around} {E : Value → Shared → Prop} {s : Shared} {S T : Addr} {ks ms ns : List Int} {es : Array (Int × Value)} {ep : Nat} {t : SetTable}
theorem SX.ty (h : SX w S ms s.heap) : s.TypeIs (.ref S) "set" := let ⟨o, _, _, _, _, e, r, _⟩ := h; ⟨o, e, r.ex.1⟩
theorem anySet_ok {Q : Bool → Shared → Prop} (hT : s.TypeIs (.ref S) "set") (h : Q true s) : wpAny (model P w) A (Builtin.Frozenset.isAnySet (.ref S)) Q E s := by
  unfold Builtin.Frozenset.isAnySet
  show wpAny _ _ (isInstance (.ref S) (.type "set") >>= fun b => _) _ _ _
  refine wpAny_bind (wpAny_isInstance hT sub_set_self ?_)
  exact wpAny_pure h
theorem baseOf_ok {Q : Value → Shared → Prop} (hT : s.TypeIs (.ref S) "set") (h : Q (.type "set") s) : wpAny (model P w) A (Builtin.Frozenset.baseOf S) Q E s := by
  unfold Builtin.Frozenset.baseOf
  refine wpAny_bind (wpAny_isInstance hT sub_set_self ?_)
  exact wpAny_pure h
theorem newSet_ok {Q : Value → Shared → Prop} (h : Q (.ref s.heap.objs.size) { s with heap := s.heap.push (newSetObj w) }) : wpAny (model P w) A (newSet (.type "set")) Q E s := by
  unfold newSet
  refine wpAny_bind (text_ok ?_)
  dsimp only
  simp only [newObj]
  exact wpAny_bind (wpAny_alloc (wpAny_pure h))
theorem sizeOf_ok {Q : Nat → Shared → Prop} (hS : SetAt w S es ep t ks s.heap) (h : Q es.size s) : wpAny (model P w) A (Builtin.Frozenset.sizeOf S) Q E s := by
  unfold Builtin.Frozenset.sizeOf
  exact wpAny_bind (hS.entries (wpAny_pure h))
theorem unch_ok {id : String} {Q : Unit → Shared → Prop} (hS : SetAt w S es ep t ks s.heap) (h : Q () s) : wpAny (model P w) A (Builtin.Frozenset.unchanged id S ep) Q E s := by
  unfold Builtin.Frozenset.unchanged
  refine wpAny_bind (hS.epoch ?_)
  rw [if_neg (by simp)]
  exact wpAny_pure h
theorem keep_loop {r : Addr} {xs : Array (Int × Value)} {kx k0 : List Int} {f : (Int × Value) → PUnit → Sem (ForInStep PUnit)} {G : Heap → Prop} {Q : PUnit → Shared → Prop} (keep : Int → Bool) (en : Ents xs.toList kx) (nd : kx.Nodup) (dj : ∀ k ∈ kx, k ∉ k0) (hl : kx.length + k0.length + 1 < 4000)
    (hG : ∀ h h', G h → Heap.SameBut r h h' → G h')
    (hf : ∀ k tk (s' : Shared) (Q' : ForInStep PUnit → Shared → Prop) kr, k ∈ kx → G s'.heap → SX w r kr s'.heap → kr.length + 1 < 4000 → (keep k = true → ∀ h', Heap.SameBut r s'.heap h' → SX w r (dstep kr k) h' → Q' (.yield ⟨⟩) { s' with heap := h' }) → (keep k = false → Q' (.yield ⟨⟩) s') → wpAny (model P w) A (f (hashInt k, .int k tk) ⟨⟩) Q' E s')
    (g : G s.heap) (sx : SX w r k0 s.heap)
    (h : ∀ h', Heap.SameBut r s.heap h' → SX w r (k0 ++ kx.filter keep) h' → Q ⟨⟩ { s with heap := h' }) : wpAny (model P w) A (forIn xs ⟨⟩ f) Q E s := by
  refine PySem.MeetsSeq2.wpAny_forIn_array f (fun rest _ s' => ∃ kr h', Ents rest kr ∧ kr <:+ kx ∧ s' = { s with heap := h' } ∧ Heap.SameBut r s.heap h' ∧ SX w r (k0 ++ (kx.take (kx.length - kr.length)).filter keep) h' ∧ G h') _ ?_ ?_ xs ⟨⟩ ⟨kx, s.heap, en, List.suffix_refl _, rfl, Heap.SameBut.refl _ _, by rw [Nat.sub_self, List.take_zero]; simpa using sx, g⟩
  · rintro x rest b s' ⟨kr, h1, er, sf, rfl, sb, sx1, g1⟩
    cases er with
    | @cons _ k _ kr' q er' =>
      obtain ⟨tk, rfl⟩ := q
      obtain ⟨pre, ep⟩ := sf
      have hk : k ∈ kx := by rw [← ep]; simp
      have e1 : kx.length - (k :: kr').length = pre.length := by rw [← ep]; simp
      have e2 : kx.length - kr'.length = pre.length + 1 := by rw [← ep]; simp; omega
      have t1 : kx.take pre.length = pre := by rw [← ep]; simp
      have t2 : kx.take (pre.length + 1) = pre ++ [k] := by
        have : kx = (pre ++ [k]) ++ kr' := by rw [← ep]; simp
        rw [this]
        have : pre.length + 1 = (pre ++ [k]).length := by simp
        rw [this, List.take_left]
      rw [e1, t1] at sx1
      have kn : k ∉ pre := by
        rw [← ep, List.nodup_append] at nd
        exact fun m => nd.2.2 k m k (by simp) rfl
      have fl : (pre.filter keep).length ≤ kx.length := Nat.le_trans (List.length_filter_le ..) (by rw [← ep]; simp)
      have sfx : kr' <:+ kx := ⟨pre ++ [k], by rw [← ep]; simp⟩
      refine hf k tk _ _ _ hk g1 sx1 (by rw [List.length_append]; omega) (fun hp h2 sb2 sx2 => ?_) fun hp => ?_
      · refine ⟨kr', h2, er', sfx, rfl, sb.trans sb2, ?_, hG _ _ g1 sb2⟩
        have ed : dstep (k0 ++ pre.filter keep) k = k0 ++ (pre ++ [k]).filter keep := by
          have : k ∉ k0 ++ pre.filter keep := fun m => by
            rcases List.mem_append.mp m with m | m
            · exact dj k hk m
            · exact kn (List.mem_filter.mp m).1
          unfold dstep
          rw [if_neg this, List.filter_append, List.append_assoc]
          simp [hp]
        rw [e2, t2, ← ed]
        exact sx2
      · refine ⟨kr', h1, er', sfx, rfl, sb, ?_, g1⟩
        rw [e2, t2, List.filter_append]
        simpa [hp] using sx1
  · rintro b s' ⟨kr, h1, er, sf, rfl, sb, sx1, g1⟩
    cases er
    refine h h1 sb ?_
    rw [List.length_nil, Nat.sub_zero, List.take_length] at sx1
    exact sx1
end
end L2
set_option Elab.async false
set_option linter.all false
set_option maxRecDepth 100000
namespace L2
open PySem PySem.Spec PyProof.Rows
section
variable {P : Program} {w : World} {A : Around} {E : Value → Shared → Prop} {s : Shared} {S T : Addr} {ks ms ns : List Int} {es : Array (Int × Value)} {ep : Nat} {t : SetTable}
theorem sb_at {a r : Addr} {h h' : Heap} (n : a ≠ r) (sb : Heap.SameBut r h h') : ∀ o, h.get? a = some o → h'.get? a = some o := fun o e => (sb.2 a n).trans e
theorem ask_loop {id : String} {W0 K0 r : Addr} {ew : Array (Int × Value)} {epw : Nat} {tw : SetTable} {kw : List Int} {ka : List Int} {xs : Array (Int × Value)} {kx : List Int} {Q : PUnit → Shared → Prop}
    (hW : SetAt w W0 ew epw tw kw s.heap) (hK : SX w K0 ka s.heap) (n1 : W0 ≠ r) (n2 : K0 ≠ r) (en : Ents xs.toList kx) (nd : kx.Nodup) (hl : kx.length + 1 < 4000) (sx : SX w r [] s.heap) (c : Bool → Bool)
    {f : (Int × Value) → PUnit → Sem (ForInStep PUnit)}
    (hf : ∀ x, f x ⟨⟩ = (do
      holding [x.2] do
        let q ← setFind K0 x.2 x.1
        if c q.isSome = true then
          let _ ← setAddHashed r x.2 x.1
      Builtin.Frozenset.unchanged id W0 epw
      pure (.yield ⟨⟩)))
    (h : ∀ h', Heap.SameBut r s.heap h' → SX w r (kx.filter fun k => c (decide (k ∈ ka))) h' → Q ⟨⟩ { s with heap := h' }) : wpAny (model P w) A (forIn xs ⟨⟩ f) Q E s := by
  refine keep_loop (k0 := []) (G := fun h => SetAt w W0 ew epw tw kw h ∧ SX w K0 ka h) (fun k => c (decide (k ∈ ka))) en nd (fun _ _ h => by cases h) (by simpa using hl) (fun h h' g sb => ⟨g.1.at (sb_at n1 sb), g.2.at (sb_at n2 sb)⟩) ?_ ⟨hW, hK⟩ sx (fun h' sb sx' => h h' sb (by simpa using sx'))
  intro k tk s' Q' kr hk ⟨gW, gK⟩ sxr hlen q1 q2
  rw [hf]
  dsimp only
  obtain ⟨ek, epk, tk', kk, sk, pk⟩ := SX_at gK
  have fin : ∀ d : Bool, (decide (k ∈ ka) = d) → wpAny (model P w) A (if c d = true then (do let _ ← setAddHashed r (.int k tk) (hashInt k); pure PUnit.unit) else pure PUnit.unit) (fun _ s2 => wpAny (model P w) A (do Builtin.Frozenset.unchanged id W0 epw; pure (ForInStep.yield PUnit.unit)) Q' E s2) E s' := fun d hc => by
    by_cases hcb : c d = true
    · rw [if_pos hcb]
      refine wpAny_bind (SX_add sxr hlen fun _ h' sb sx' => wpAny_pure ?_)
      refine wpAny_bind (unch_ok (s := { s' with heap := h' }) (gW.at (sb_at n1 sb)) (wpAny_pure ?_))
      exact q1 (by rw [hc]; exact hcb) h' sb sx'
    · rw [if_neg hcb]
      refine wpAny_pure ?_
      refine wpAny_bind (unch_ok gW (wpAny_pure ?_))
      exact q2 (by rw [hc]; simpa using hcb)
  refine wpAny_bind (wpAny_holding (wpAny_bind (sk.find (fun i hi => ?_) fun hn => ?_)))
  · exact fin true (decide_eq_true (pk.mem_iff.mp (List.mem_of_getElem? hi)))
  · exact fin false (decide_eq_false fun m => hn (pk.mem_iff.mpr m))
theorem inter_ok {id : String} {Q : Value → Shared → Prop} (hS : SX w S ms s.heap) (hT : SX w T ns s.heap) (hne : S ≠ T) (hl1 : ms.length < 3000) (hl2 : ns.length < 3000)
    (h : ∀ h' ks, (∀ b o, s.heap.get? b = some o → h'.get? b = some o) → SX w s.heap.objs.size ks h' → ks.Nodup → (∀ x, x ∈ ks ↔ x ∈ ms ∧ x ∈ ns) → Q (.ref s.heap.objs.size) { s with heap := h' }) : wpAny (model P w) A (Builtin.Frozenset.intersection id S (.ref T)) Q E s := by
  unfold Builtin.Frozenset.intersection
  rw [if_neg (by simp; exact fun z => hne z.symm)]
  refine wpAny_bind (baseOf_ok hS.ty (wpAny_bind (newSet_ok ?_)))
  have lS := hS.lt
  have lT := hT.lt
  have kp : ∀ b o, s.heap.get? b = some o → (s.heap.push (newSetObj w)).get? b = some o := fun b o e => Heap.get?_push_of_some _ e
  have hS1 := hS.at (kp S)
  have hT1 := hT.at (kp T)
  have hR1 : SX w s.heap.objs.size [] (s.heap.push (newSetObj w)) := newSet_SX (Heap.get?_push_size _ rfl)
  generalize hr : s.heap.objs.size = r at *
  generalize hh1 : s.heap.push (newSetObj w) = h1 at *
  refine wpAny_bind (wpAny_pure ?_)
  have ne1 : S ≠ r := Nat.ne_of_lt lS
  have ne2 : T ≠ r := Nat.ne_of_lt lT
  have aS := SX_at hS1
  have aT := SX_at hT1
  obtain ⟨eS, epS, tS, kS, aS, pS⟩ := aS
  obtain ⟨eT, epT, tT, kT, aT, pT⟩ := aT
  refine wpAny_bind (wpAny_holding (wpAny_bind (anySet_ok (s := { s with heap := h1 }) hT1.ty ?_)))
  rw [if_pos rfl]
  refine wpAny_bind (wpAny_pure ?_)
  refine wpAny_bind (sizeOf_ok (s := { s with heap := h1 }) aT (wpAny_bind (sizeOf_ok (s := { s with heap := h1 }) aS ?_)))
  have core : ∀ (W0 K0 : Addr) (ew : Array (Int × Value)) (epw : Nat) (tw : SetTable) (kw ka : List Int), SetAt w W0 ew epw tw kw h1 → SX w K0 ka h1 → W0 ≠ r → K0 ≠ r → kw.length < 3000 → (∀ x, x ∈ kw ∧ x ∈ ka ↔ x ∈ ms ∧ x ∈ ns) →
      wpAny (model P w) A (do
        let was ← setEpoch W0
        let l ← setWalkUnseen W0 [K0, r] (some r)
        forIn l PUnit.unit fun x __s => match x with
          | (h, x) => do
            holding [x] do
              let q ← setFind K0 x h
              if q.isSome = true then do
                let _ ← setAddHashed r x h
                pure ()
              else pure ()
            Builtin.Frozenset.unchanged id W0 was
            pure (ForInStep.yield PUnit.unit)
        pure ()) (fun _ s' => wpAny (model P w) A (pure (Value.ref r)) Q E s') E { s with heap := h1 } := by
    intro W0 K0 ew epw tw kw ka hW hK n1 n2 hlw hm
    refine wpAny_bind (SetAt.epoch (s := { s with heap := h1 }) hW ?_)
    refine wpAny_bind (SetAt.walk (s := { s with heap := h1 }) (ms := []) hW (fun a ha => ?_) (fun a e => ?_) fun xs h2 px k2 f2 => ?_)
    · simp only [List.mem_cons, List.not_mem_nil, or_false] at ha
      rcases ha with e | e <;> subst e
      · exact ⟨_, hK⟩
      · exact ⟨_, hR1⟩
    · cases e; exact ⟨Ne.symm n1, hR1⟩
    have k2' : ∀ b o, b ≠ r → h1.get? b = some o → h2.get? b = some o := fun b o n e => k2 b o (fun z => n (Option.some.inj z).symm) e
    obtain ⟨kx, nx, qx⟩ := Ents.perm px (SetAt.en (s := { s with heap := h1 }) hW)
    have ndw := SetAt.nd (s := { s with heap := h1 }) hW
    have ndx : kx.Nodup := qx.nodup_iff.mpr ndw
    refine wpAny_bind (ask_loop (s := { s with heap := h2 }) (hW.at fun o e => k2' W0 o n1 e) (hK.at fun o e => k2' K0 o n2 e) n1 n2 nx ndx (by rw [qx.length_eq]; omega) (f2 r rfl) (fun b => b) (fun x => rfl) fun h3 sb sx => wpAny_pure (wpAny_pure ?_))
    refine h h3 _ (fun b o e => ?_) sx (ndx.filter _) fun x => ?_
    · have nb : b ≠ r := by rw [← hr]; exact Nat.ne_of_lt (Heap.lt_size e)
      exact sb_at nb sb o (k2' b o nb (kp b o e))
    · rw [List.mem_filter, qx.mem_iff, ← hm x]
      simp
  by_cases hc : eT.size > eS.size
  · rw [if_pos hc]
    exact core S T eS epS tS kS ns aS hT1 ne1 ne2 (by rw [pS.length_eq]; exact hl1) fun x => by rw [pS.mem_iff]
  · rw [if_neg hc]
    exact core T S eT epT tT kT ms aT hS1 ne2 ne1 (by rw [pT.length_eq]; exact hl2) fun x => by rw [pT.mem_iff]; exact And.comm
end
end L2
set_option Elab.async false
set_option linter.all false
set_option maxRecDepth 100000
namespace L2
open PySem PySem.Spec PyProof.Rows
section
variable {P : Program} {w : World} {A : Around} {E : Value → Shared → Prop} {s : Shared} {S T r : Addr} {ks ms ns : List Int} {es : Array (Int × Value)} {ep : Nat} {t : SetTable}
theorem fresh_at {h : Heap} (e : h.get? r = some (newSetObj w)) : SetAt w r #[] 0 (.fresh 0 0 (!byText w)) [] h :=
  ⟨_, e, ⟨⟨rfl, rfl, rfl⟩, rfl, .nil, List.nodup_nil, by decide, rfl, ⟨rfl, fun _ => .nil⟩⟩⟩
theorem room_fresh {n : Nat} {Q : Unit → Shared → Prop} (hr : s.heap.get? r = some (newSetObj w)) (hn : n < 128)
    (h : ∀ h' ep' t', Heap.SameBut r s.heap h' → SetAt w r #[] ep' t' [] h' → Cyc (t'.mask + 1) → n ≤ t'.mask → t'.dummies = #[] → Q () { s with heap := h' }) : wpAny (model P w) A (setRoomFor r n) Q E s := by
  have a := fresh_at hr
  unfold setRoomFor
  refine wpAny_bind (a.state ?_)
  dsimp only
  by_cases hc : (0 + n) * 5 ≥ 7 * 3
  · have e : (SetTable.fresh 0 0 (!byText w)).roomFor n = some ((0 + n) * 2) := if_pos hc
    rw [e]
    dsimp only
    obtain ⟨m1, m2⟩ := size_small ((0 + n) * 2) (by omega)
    refine a.relay (by omega) (by show 0 < _; omega) fun h' es' t' ks' sb st p mk dm => ?_
    have : ks' = [] := List.length_eq_zero_iff.mp (by rw [p.length_eq]; rfl)
    subst this
    have e0 : es' = #[] := by
      have := st.en (s := { s with heap := h' })
      have l := this.len
      exact Array.eq_empty_of_size_eq_zero (by rw [← Array.length_toList, l]; rfl)
    subst e0
    exact h h' _ t' sb st (by rw [mk]; exact cyc_small m1) (by omega) dm
  · have e : (SetTable.fresh 0 0 (!byText w)).roomFor n = none := if_neg hc
    rw [e]
    exact wpAny_pure (h s.heap 0 _ (Heap.SameBut.refl _ _) a (show Cyc 8 from cyc_small (by decide)) (by show n ≤ 7; omega) rfl)
theorem merge_fresh {each : Sem Unit} {Q : Unit → Shared → Prop} (hr : s.heap.get? r = some (newSetObj w)) (hS : SetAt w S es ep t ks s.heap) (hne : r ≠ S) (hl : ks.length < 128) (h0 : ks = [] → Q () s)
    (h : ∀ h' er ep' tr kr, ks ≠ [] → Heap.SameBut r s.heap h' → SetAt w r er ep' tr kr h' → kr.Perm ks → Q () { s with heap := h' }) : wpAny (model P w) A (setMerge r S each) Q E s := by
  have sz := hS.sz
  unfold setMerge
  rw [if_neg (by simpa using hne)]
  refine wpAny_bind (hS.state ?_)
  dsimp only
  by_cases he : es.isEmpty = true
  · rw [if_pos he]
    refine wpAny_pure (h0 (List.length_eq_zero_iff.mp ?_))
    rw [← sz]; simpa using he
  rw [if_neg he]
  have kne : ks ≠ [] := fun z => he (by rw [z] at sz; simpa using sz)
  refine wpAny_bind (room_fresh hr (by omega) fun h1 ep1 t1 sb1 a1 c1 n1 d1 => ?_)
  have hS1 : SetAt w S es ep t ks h1 := hS.at (sb_at (Ne.symm hne) sb1)
  refine wpAny_bind (SetAt.state (s := { s with heap := h1 }) a1 ?_)
  dsimp only
  have tb1 := SetAt.tb (s := { s with heap := h1 }) a1
  have tbS := hS.tb
  have ft1 := SetAt.ft (s := { s with heap := h1 }) a1
  have p0 : t1.place.size = 0 := by
    have := ft1
    simp only [SetTable.fits, Bool.and_eq_true, beq_iff_eq] at this
    exact this.1
  have fl : t1.fill = 0 := by unfold SetTable.fill; rw [p0, d1]; rfl
  have ld : (t1.led && t.led) = !byText w := by rw [tb1.led, tbS.led]; simp
  by_cases hc : (t1.mask == t.mask && t.dummies.isEmpty) = true
  · have er : t1.road t = .slotForSlot := by unfold SetTable.road; rw [fl]; simp only [bne_self_eq_false, Bool.false_eq_true, if_false]; rw [if_pos hc]
    rw [er]
    dsimp only
    refine SetAt.store (s := { s with heap := h1 }) a1 hS.en hS.nd hS.lt4 hS.ft ⟨ld, fun z => tbS.rise ?_⟩ fun h2 sb2 a2 => ?_
    · have z : (t1.plain && t.plain) = true := z
      simp at z; exact z.2
    · exact h h2 _ _ _ _ kne (sb1.trans sb2) a2 (.refl _)
  · have er : t1.road t = .clean := by unfold SetTable.road; rw [fl]; simp only [bne_self_eq_false, Bool.false_eq_true, if_false]; rw [if_neg hc]
    rw [er]
    dsimp only
    have hsz : (es.map (·.1)).size = es.size := Array.size_map ..
    obtain ⟨t', o, e, L⟩ := laid_some (mask := t1.mask) (finger := t1.finger) (moves := t1.moves) (led := t1.led && t.led) (plain := t1.plain && t.plain) (hs := es.map (·.1)) c1 (by rw [hsz]; exact n1)
    rw [e]
    have pm := L.pm
    rw [hsz] at pm
    refine wpAny_bind (reord_ok (by rfl) pm ?_)
    dsimp only
    have pp := order_perm pm
    obtain ⟨ks', n', q'⟩ := Ents.perm pp hS.en
    have z : (o.filterMap (es[·]?)).size = es.size := by have := pp.length_eq; rw [Array.length_toList, Array.length_toList] at this; exact this
    refine SetAt.store (s := { s with heap := h1 }) a1 n' (q'.nodup_iff.mpr hS.nd) (by rw [q'.length_eq]; exact hS.lt4) (by rw [z, ← hsz]; exact L.ft) ⟨by rw [L.ld]; exact ld, fun _ => L.rs⟩ fun h2 sb2 a2 => ?_
    exact h h2 _ _ _ _ kne (sb1.trans sb2) a2 q'
theorem copy_ok {Q : Value → Shared → Prop} (hS : SX w S ms s.heap) (hl : ms.length < 128)
    (h : ∀ h' er ep' tr kr, (∀ b o, s.heap.get? b = some o → h'.get? b = some o) → SetAt w s.heap.objs.size er ep' tr kr h' → kr.Perm ms → (ms = [] → h'.get? s.heap.objs.size = some (newSetObj w)) → Q (.ref s.heap.objs.size) { s with heap := h' }) : wpAny (model P w) A (Builtin.Frozenset.copyOf S) Q E s := by
  unfold Builtin.Frozenset.copyOf
  refine wpAny_bind (baseOf_ok hS.ty (wpAny_bind (newSet_ok ?_)))
  have hne : s.heap.objs.size ≠ S := Nat.ne_of_gt hS.lt
  have kp : ∀ b o, s.heap.get? b = some o → (s.heap.push (newSetObj w)).get? b = some o := fun b o e => Heap.get?_push_of_some _ e
  have hr : (s.heap.push (newSetObj w)).get? s.heap.objs.size = some (newSetObj w) := Heap.get?_push_size _ rfl
  obtain ⟨es, ep, t, ks, aS, pS⟩ := SX_at (hS.at (kp S))
  refine wpAny_bind (wpAny_pure (wpAny_bind (merge_fresh (s := { s with heap := s.heap.push (newSetObj w) }) hr aS hne (by rw [pS.length_eq]; exact hl) (fun e => ?_) fun h' er ep' tr kr kne sb a p => ?_)))
  · subst e
    have em : ms = [] := List.length_eq_zero_iff.mp (by rw [← pS.length_eq]; rfl)
    exact wpAny_pure (h _ _ _ _ _ kp (fresh_at hr) (by rw [em]) fun _ => hr)
  · refine wpAny_pure (h h' er ep' tr kr (fun b o e => sb_at (Nat.ne_of_lt (Heap.lt_size e)) sb o (kp b o e)) a (p.trans pS) fun e => ?_)
    subst e
    exact absurd (List.length_eq_zero_iff.mp (by rw [pS.length_eq]; rfl)) kne
end
end L2
set_option Elab.async false
set_option linter.all false
set_option maxRecDepth 100000
namespace L2
open PySem PySem.Spec PyProof.Rows
theorem dstep_len (acc : List Int) (x : Int) : (dstep acc x).length ≤ acc.length + 1 := by
  unfold dstep
  split
  · omega
  · simp
section
variable {P : Program} {w : World} {A : Around} {E : Value → Shared → Prop} {s : Shared} {S T r : Addr} {ks kr ms ns : List Int} {es er : Array (Int × Value)} {ep epr : Nat} {t tr : SetTable}
theorem SX.nd {h : Heap} (x : SX w S ms h) : ms.Nodup := by
  obtain ⟨o, es, ep, t, ks, e, r, p⟩ := x
  exact p.nodup_iff.mp r.nd
theorem SetAt.room {n : Nat} {Q : Unit → Shared → Prop} (hR : SetAt w r er epr tr kr s.heap) (hn : kr.length + n < 128)
    (h : ∀ h' er' ep' t' kr', Heap.SameBut r s.heap h' → SetAt w r er' ep' t' kr' h' → kr'.Perm kr → Q () { s with heap := h' }) : wpAny (model P w) A (setRoomFor r n) Q E s := by
  have sz := hR.sz
  have pz := fits_size hR.ft
  unfold setRoomFor
  refine wpAny_bind (hR.state ?_)
  dsimp only
  by_cases hc : (tr.fill + n) * 5 ≥ tr.mask * 3
  · have e : tr.roomFor n = some ((tr.place.size + n) * 2) := if_pos hc
    rw [e]
    dsimp only
    obtain ⟨m1, m2⟩ := size_small ((tr.place.size + n) * 2) (by omega)
    exact hR.relay (by omega) (by omega) fun h' es' t' ks' sb st p _ _ => h h' _ _ _ _ sb st p
  · have e : tr.roomFor n = none := if_neg hc
    rw [e]
    exact wpAny_pure (h s.heap _ _ _ _ (Heap.SameBut.refl _ _) hR (.refl _))
theorem merge_more {each : Sem Unit} {Q : Unit → Shared → Prop} (hR : SetAt w r er epr tr kr s.heap) (hS : SetAt w S es ep t ks s.heap) (hne : r ≠ S) (hl : kr.length + ks.length < 128) (hkr : kr ≠ [])
    (heach : ∀ (s' : Shared) (Q' : Unit → Shared → Prop), SetAt w S es ep t ks s'.heap → Q' () s' → wpAny (model P w) A each Q' E s')
    (h : ∀ h' acc, (∀ b o, b ≠ r → s.heap.get? b = some o → h'.get? b = some o) → SX w r acc h' → (∀ x, x ∈ acc ↔ x ∈ kr ∨ x ∈ ks) → Q () { s with heap := h' }) : wpAny (model P w) A (setMerge r S each) Q E s := by
  have sz := hS.sz
  unfold setMerge
  rw [if_neg (by simpa using hne)]
  refine wpAny_bind (hS.state ?_)
  dsimp only
  by_cases he : es.isEmpty = true
  · rw [if_pos he]
    have : ks = [] := List.length_eq_zero_iff.mp (by rw [← sz]; simpa using he)
    refine wpAny_pure (h s.heap kr (fun _ _ _ e => e) (hR.sx (.refl _)) fun x => ?_)
    rw [this]; simp
  rw [if_neg he]
  refine wpAny_bind (hR.room (by omega) fun h1 er1 ep1 t1 kr1 sb1 a1 p1 => ?_)
  have hS1 : SetAt w S es ep t ks h1 := hS.at (sb_at (Ne.symm hne) sb1)
  refine wpAny_bind (SetAt.state (s := { s with heap := h1 }) a1 ?_)
  dsimp only
  have sz1 := SetAt.sz (s := { s with heap := h1 }) a1
  have pz1 := fits_size (SetAt.ft (s := { s with heap := h1 }) a1)
  have fl : t1.fill ≠ 0 := by
    unfold SetTable.fill
    have : kr1.length ≠ 0 := by rw [p1.length_eq]; exact fun z => hkr (List.length_eq_zero_iff.mp z)
    omega
  have er' : t1.road t = .oneByOne := by unfold SetTable.road; rw [if_pos (by simpa using fl)]
  rw [er']
  dsimp only
  have sx1 : SX w r kr h1 := SetAt.sx (s := { s with heap := h1 }) a1 p1
  refine wpAny_bind (SetAt.walk (s := { s with heap := h1 }) (ms := kr) hS1 (fun a ha => ?_) (fun a e => ?_) fun xs h2 px k2 f2 => ?_)
  · rw [List.mem_singleton.mp ha]; exact ⟨_, sx1⟩
  · cases e; exact ⟨hne, sx1⟩
  have k2' : ∀ b o, b ≠ r → h1.get? b = some o → h2.get? b = some o := fun b o n e => k2 b o (fun z => n (Option.some.inj z).symm) e
  obtain ⟨kx, nx, qx⟩ := Ents.perm px (SetAt.en (s := { s with heap := h1 }) hS1)
  refine wpAny_bind (PySem.MeetsSeq2.wpAny_forIn_array _ (fun rest _ s' => ∃ kq acc h', Ents rest kq ∧ s' = { s with heap := h' } ∧ (∀ b o, b ≠ r → h2.get? b = some o → h'.get? b = some o) ∧ SX w r acc h' ∧ (∀ x, x ∈ acc ∨ x ∈ kq ↔ x ∈ kr ∨ x ∈ kx) ∧ acc.length + kq.length < 128) _ ?_ ?_ xs _ ⟨kx, kr, h2, nx, rfl, (fun _ _ _ e => e), f2 r rfl, fun x => Iff.rfl, by rw [qx.length_eq]; exact hl⟩)
  · rintro x rest b s' ⟨kq, acc, h3, eq, rfl, k3, sx3, m3, l3⟩
    cases eq with
    | @cons _ k _ kq' q eq' =>
      obtain ⟨tk, rfl⟩ := q
      rw [List.length_cons] at l3
      dsimp only
      refine wpAny_bind (wpAny_holding (SX_add (s := { s with heap := h3 }) sx3 (by omega) fun _ h4 sb4 sx4 => ?_))
      have k4 : ∀ b o, b ≠ r → h2.get? b = some o → h4.get? b = some o := fun b o n e => sb_at n sb4 o (k3 b o n e)
      have hS4 : SetAt w S es ep t ks h4 := hS1.at fun o e => k4 S o (Ne.symm hne) (k2' S o (Ne.symm hne) e)
      refine wpAny_bind (heach { s with heap := h4 } _ hS4 ?_)
      refine wpAny_bind (SetAt.state (s := { s with heap := h4 }) hS4 ?_)
      dsimp only
      rw [if_neg (by simp)]
      refine wpAny_pure ⟨kq', _, h4, eq', rfl, k4, sx4, fun x => ?_, ?_⟩
      · rw [dstep_mem, ← m3 x, List.mem_cons, or_assoc]
      · have := dstep_len acc k; omega
  · rintro b s' ⟨kq, acc, h3, eq, rfl, k3, sx3, m3, l3⟩
    cases eq
    refine wpAny_pure (h h3 acc (fun b o n e => k3 b o n (k2' b o n (sb_at n sb1 o e))) sx3 fun x => ?_)
    rw [← qx.mem_iff (a := x), ← m3 x]; simp
end
end L2
set_option Elab.async false
set_option linter.all false
set_option maxRecDepth 100000
namespace L2
open PySem PySem.Spec PyProof.Rows
section
variable {P : Program} {w : World} {A : Around} {E : Value → Shared → Prop} {s : Shared} {S T r : Addr} {ks kr ms ns : List Int} {es er : Array (Int × Value)} {ep epr : Nat} {t tr : SetTable}
theorem union_ok {id : String} {Q : Value → Shared → Prop} (hS : SX w S ms s.heap) (hT : SX w T ns s.heap) (hne : S ≠ T) (hl : ms.length + ns.length < 128)
    (h : ∀ h' ks, (∀ b o, s.heap.get? b = some o → h'.get? b = some o) → SX w s.heap.objs.size ks h' → (∀ x, x ∈ ks ↔ x ∈ ms ∨ x ∈ ns) → Q (.ref s.heap.objs.size) { s with heap := h' }) :
    wpAny (model P w) A (do
      let result ← Builtin.Frozenset.copyOf S
      if (Value.ref T != Value.ref S) = true then
        let a ← Builtin.Frozenset.addrOf result
        holding [result] (Builtin.Frozenset.updateFrom id a (.ref T))
      return result) Q E s := by
  refine wpAny_bind (copy_ok hS (by omega) fun h1 er ep1 tr kr kp aR pR fr => ?_)
  have lT := hT.lt
  have hTr : s.heap.objs.size ≠ T := Nat.ne_of_gt lT
  have hT1 : SX w T ns h1 := hT.at (kp T)
  obtain ⟨eT, epT, tT, kT, aT, pT⟩ := SX_at hT1
  rw [if_pos (by simp; exact fun z => hne z.symm)]
  refine wpAny_bind (wpAny_pure (wpAny_bind (wpAny_holding ?_)))
  unfold Builtin.Frozenset.updateFrom
  refine wpAny_bind (anySet_ok (s := { s with heap := h1 }) hT1.ty ?_)
  rw [if_pos rfl]
  refine wpAny_bind (wpAny_pure ?_)
  unfold Builtin.Frozenset.merge
  refine wpAny_bind (SetAt.epoch (s := { s with heap := h1 }) aT ?_)
  have lenT := pT.length_eq
  by_cases em : ms = []
  · refine merge_fresh (s := { s with heap := h1 }) (fr em) aT hTr (by omega) (fun e => ?_) fun h2 er2 ep2 tr2 kr2 _ sb2 a2 p2 => ?_
    · refine wpAny_pure (h h1 kr kp (SetAt.sx (s := { s with heap := h1 }) aR (.refl _)) fun x => ?_)
      rw [pR.mem_iff, ← pT.mem_iff (a := x), e]; simp
    · refine wpAny_pure (h h2 kr2 (fun b o e => sb_at (Nat.ne_of_lt (Heap.lt_size e)) sb2 o (kp b o e)) (SetAt.sx (s := { s with heap := h2 }) a2 (.refl _)) fun x => ?_)
      rw [p2.mem_iff, pT.mem_iff, em]; simp
  · refine merge_more (s := { s with heap := h1 }) aR aT hTr (by rw [pR.length_eq, lenT]; exact hl) (fun z => em ?_) (fun s' Q' a q => unch_ok a q) fun h2 acc k2 sx2 m2 => ?_
    · subst z; exact List.length_eq_zero_iff.mp (by rw [← pR.length_eq]; rfl)
    · refine wpAny_pure (h h2 acc (fun b o e => k2 b o (Nat.ne_of_lt (Heap.lt_size e)) (kp b o e)) sx2 fun x => ?_)
      rw [m2, pR.mem_iff, pT.mem_iff]
end
end L2
set_option Elab.async false
set_option linter.all false
set_option maxRecDepth 100000
namespace L2
open PySem PySem.Spec PyProof.Rows
section
variable {P : Program} {w : World} {A : Around} {E : Value → Shared → Prop} {s : Shared} {S T r : Addr} {ks kr ms ns : List Int} {es er : Array (Int × Value)} {ep epr : Nat} {t tr : SetTable}
end
end L2
set_option Elab.async false
set_option linter.all false
set_option maxRecDepth 100000
namespace L2
open PySem PySem.Spec PyProof.Rows
theorem slot_set_and : Slot "set" "__and__" "set.__and__" := .of (owner := "set") (n := "__and__") (by rw [typeLookup_type, builtinLookup_eq_fast]; kernel_rfl) (by decide +kernel) (by decide +kernel) (by decide +kernel) (.inl (by decide +kernel)) (by rw [isSubtype_type]; kernel_rfl)
theorem entry_set_and : entryFor table "set.__and__" = some Builtin.«frozenset.__and__» := entryFor_alias (id' := "frozenset.__and__") (by kernel_rfl) rfl (by decide +kernel) (by kernel_rfl)
theorem args_set_and (a b : Value) : argsOk "set.__and__" ⟨[a, b], []⟩ := by unfold argsOk; kernel_rfl
theorem fill_set_and : fillsNumberSlot (.type "set") "and" = pure true := fillsNumberSlot_of slot_set_and.lookup (by decide +kernel) (r := some (.builtin "set.__rand__")) (by rw [typeLookup_type, builtinLookup_eq_fast]; kernel_rfl)
theorem slot_set_or : Slot "set" "__or__" "set.__or__" := .of (owner := "set") (n := "__or__") (by rw [typeLookup_type, builtinLookup_eq_fast]; kernel_rfl) (by decide +kernel) (by decide +kernel) (by decide +kernel) (.inl (by decide +kernel)) (by rw [isSubtype_type]; kernel_rfl)
theorem entry_set_or : entryFor table "set.__or__" = some Builtin.«frozenset.__or__» := entryFor_alias (id' := "frozenset.__or__") (by kernel_rfl) rfl (by decide +kernel) (by kernel_rfl)
theorem args_set_or (a b : Value) : argsOk "set.__or__" ⟨[a, b], []⟩ := by unfold argsOk; kernel_rfl
theorem fill_set_or : fillsNumberSlot (.type "set") "or" = pure true := fillsNumberSlot_of slot_set_or.lookup (by decide +kernel) (r := some (.builtin "set.__ror__")) (by rw [typeLookup_type, builtinLookup_eq_fast]; kernel_rfl)
section
variable {X : Cx}
noncomputable def rSets (w : World) (rel : Int → List Int → List Int → Prop) : R2 := fun x y H Q => ∃ a b ms ns, x = .ref a ∧ y = .ref b ∧ a ≠ b ∧ H a = some (.ext (SX w a ms)) ∧ H b = some (.ext (SX w b ns)) ∧ ms.length < 64 ∧ ns.length < 64 ∧
  ∀ c ks, H c = none → ks.Nodup → (∀ x, x ∈ ks ↔ rel x ms ns) → Q (.ref c) (upd H c (.ext (SX w c ks)))
theorem op_sand (w : World) (hw : X.w = w := by rfl) : OpR X (binaryOp .BitAnd) (rSets w fun x ms ns => x ∈ ms ∧ x ∈ ns) := by
  subst hw
  intro pins s σ H x y v u Q I rx ry h
  obtain ⟨a, b, ms, ns, rfl, rfl, hne, ha, hb, l1, l2, q⟩ := h
  cases rx
  cases ry
  obtain ⟨sa, _⟩ := (show ObjOk X.prog X.w H s.heap a (.ext (SX X.w a ms)) from I.hok a _ ha)
  obtain ⟨sb, _⟩ := (show ObjOk X.prog X.w H s.heap b (.ext (SX X.w b ns)) from I.hok b _ hb)
  refine wpAny_binaryOp_same sa.ty sb.ty fill_set_and slot_set_and (wpAny_call_entry slot_set_and sa.ty entry_set_and ?_ (args_set_and _ _))
  show wpAny _ _ (Builtin.Frozenset.slot1 "__and__" ⟨[.ref a, .ref b], []⟩ >>= _) _ _ s
  refine wpAny_bind (wpAny_pure ?_)
  refine wpAny_bind ?_
  show wpAny _ _ (Builtin.Frozenset.isAnySet (.ref a) >>= fun c => _) _ _ _
  refine wpAny_bind (anySet_ok sa.ty ?_)
  show wpAny _ _ (Builtin.Frozenset.isAnySet (.ref b)) _ _ _
  refine anySet_ok sb.ty ?_
  rw [if_neg (by simp)]
  refine wpAny_bind (wpAny_pure ?_)
  refine wpAny_bind (inter_ok sa sb hne (by omega) (by omega) fun h' ks kp sx nd m => wpAny_pure ⟨_, rfl, by simp, ?_⟩)
  exact ⟨.ref s.heap.objs.size, _, I.new' (s' := { s with heap := h' }) kp (Nat.le_refl _) rfl rfl sx.ok, rfl, q _ ks I.fresh nd m⟩
theorem op_sor (w : World) (hw : X.w = w := by rfl) : OpR X (binaryOp .BitOr) (rSets w fun x ms ns => x ∈ ms ∨ x ∈ ns) := by
  subst hw
  intro pins s σ H x y v u Q I rx ry h
  obtain ⟨a, b, ms, ns, rfl, rfl, hne, ha, hb, l1, l2, q⟩ := h
  cases rx
  cases ry
  obtain ⟨sa, _⟩ := (show ObjOk X.prog X.w H s.heap a (.ext (SX X.w a ms)) from I.hok a _ ha)
  obtain ⟨sb, _⟩ := (show ObjOk X.prog X.w H s.heap b (.ext (SX X.w b ns)) from I.hok b _ hb)
  refine wpAny_binaryOp_same sa.ty sb.ty fill_set_or slot_set_or (wpAny_call_entry slot_set_or sa.ty entry_set_or ?_ (args_set_or _ _))
  show wpAny _ _ (Builtin.Frozenset.slot1 "__or__" ⟨[.ref a, .ref b], []⟩ >>= _) _ _ s
  refine wpAny_bind (wpAny_pure ?_)
  refine wpAny_bind ?_
  show wpAny _ _ (Builtin.Frozenset.isAnySet (.ref a) >>= fun c => _) _ _ _
  refine wpAny_bind (anySet_ok sa.ty ?_)
  show wpAny _ _ (Builtin.Frozenset.isAnySet (.ref b)) _ _ _
  refine anySet_ok sb.ty ?_
  rw [if_neg (by simp)]
  refine wpAny_bind (wpAny_pure ?_)
  refine wpAny_bind ?_
  refine union_ok (id := toString "frozenset." ++ toString "__or__") sa sb hne (by omega) fun h' ks kp sx m => ?_
  refine wpAny_pure ⟨_, rfl, by simp, ?_⟩
  exact ⟨.ref s.heap.objs.size, _, I.new' (s' := { s with heap := h' }) kp (Nat.le_refl _) rfl rfl sx.ok, rfl, q _ ks I.fresh sx.nd m⟩
end
end L2
set_option Elab.async false
set_option linter.all false
set_option maxRecDepth 100000
namespace L2
open PySem PySem.Spec PyProof.Rows
noncomputable def Itz (K : PySem.W.Frag) (a b : Addr) : It :=
  ⟨fun i H => ∃ xs ys x y, SqL K H a xs ∧ SqL K H b ys ∧ xs[i]? = some x ∧ ys[i]? = some y,
   fun i H v H' => ∃ p x y, H p = none ∧ (∀ xs, SqL K H a xs → xs[i]? = some x) ∧ (∀ ys, SqL K H b ys → ys[i]? = some y) ∧ v = .ref p ∧ H' = upd H p (.tup [x, y]),
   fun i H => ∃ xs ys, SqL K H a xs ∧ SqL K H b ys ∧ xs.length ≤ i⟩
theorem zip_stay {fs ex : List Addr} {H : Hp} {h h' : Heap} (k : ∀ b o, b ∉ ex → h.get? b = some o → h'.get? b = some o) : Un fs ex H H h h' where
  keep := fun b o q _ _ hx => k b o hx q
  slot := fun b o q _ _ hx => ⟨o.slots, k b o hx q⟩
  free := fun _ _ _ n _ => n
  there := fun b o q hx => ⟨o, k b o hx q⟩
  tups := fun _ _ q => q
  frzs := fun _ _ _ q => q
  tbls := fun b ps q => ⟨#[], by rw [q]; simp⟩
theorem turn_zip {P : Program} {w : World} {K : PySem.W.Frag} {es : List Expr} {k1 : Nat} {pos : Pos} (z TI TO i1 i2 l1 l2 : Addr) (D : ZipApart z TI TO i1 i2 l1 l2) :
    Turn P w K (.Tuple es k1 pos) (Itz K l1 l2) [z, TI, TO, i1, i2] z (fun i h => IsZip h z TI TO .none ∧ IsPair h TI (.ref i1) (.ref i2) ∧ (∃ a b, IsPair h TO a b) ∧ h.IsListIter i1 l1 i ∧ h.IsListIter i2 l2 i) where
  mem := by simp
  obj := fun i h st b hb => by
    obtain ⟨hz, hTI, ⟨a, c, hTO⟩, ⟨o1, e1, c1, d1⟩, ⟨o2, e2, c2, d2⟩⟩ := st
    simp only [List.mem_cons, List.not_mem_nil, or_false] at hb
    rcases hb with e | e | e | e | e <;> subst e
    · exact ⟨_, hz, fun v y => by have y' : Data.fields _ = Data.cell v := y; cases y'⟩
    · exact ⟨_, hTI, fun v y => by have y' : Data.seq _ _ = Data.cell v := y; cases y'⟩
    · exact ⟨_, hTO, fun v y => by have y' : Data.seq _ _ = Data.cell v := y; cases y'⟩
    · exact ⟨o1, e1, fun v y => by rw [d1] at y; cases y⟩
    · exact ⟨o2, e2, fun v y => by rw [d2] at y; cases y⟩
  keep := fun i h h' st k => by
    obtain ⟨hz, hTI, ⟨a, c, hTO⟩, h1, h2⟩ := st
    exact ⟨k z (by simp) _ hz, k TI (by simp) _ hTI, ⟨a, c, k TO (by simp) _ hTO⟩, h1.at fun o e => k i1 (by simp) o e, h2.at fun o e => k i2 (by simp) o e⟩
  item := by
    intro X hP hw hK hc i pins s σ H E I hf st hg
    subst hP hw hK
    obtain ⟨xs, ys, x, y, hq1, hq2, hx, hy⟩ := hg
    obtain ⟨its1, rv1, p1, _⟩ := I.list hq1
    obtain ⟨its2, rv2, p2, _⟩ := I.list hq2
    obtain ⟨u, hu, ru⟩ := rv1.get hx
    obtain ⟨v, hv, rv⟩ := rv2.get hy
    obtain ⟨hz, hTI, ⟨a, c, hTO⟩, h1, h2⟩ := st
    refine wpAny_pyNext_zip_item D hz hTI hTO h1 h2 p1.isList p2.isList (x := u) (y := v) (by simpa using hu) (by simpa using hv) fun h' a1 a2 a3 a4 a5 a6 kp => ?_
    refine ⟨_, rfl, wpAny_letOwnedTupleGo_zip a1 fun h2' z2 sb => ?_⟩
    have lt : ∀ {c o}, s.heap.get? c = some o → s.heap.objs.size ≠ c := fun e => Nat.ne_of_gt (Heap.lt_size e)
    have kp2 : ∀ b o, b ∉ [z, TI, TO, i1, i2] → s.heap.get? b = some o → h2'.get? b = some o := fun b o hb e => by
      simp only [List.mem_cons, List.not_mem_nil, or_false, not_or] at hb
      exact (sb.2 b hb.1).trans (kp b o hb.1 hb.2.2.1 hb.2.2.2.1 hb.2.2.2.2 e)
    have nz := lt hz
    have nTI := lt hTI
    have nTO := lt hTO
    have n1 : s.heap.objs.size ≠ i1 := by obtain ⟨_, e, _⟩ := h1; exact lt e
    have n2 : s.heap.objs.size ≠ i2 := by obtain ⟨_, e, _⟩ := h2; exact lt e
    have fr : H s.heap.objs.size = none := I.fresh
    have e3 : h2'.get? s.heap.objs.size = some { cls := .type "tuple", data := .seq #[u, v] } := (sb.2 _ nz).trans a5
    have hch : ∀ b ∈ [z, TI, TO, i1, i2], (b ∈ X.ex ∨ X.s₀.heap.objs.size ≤ b) ∧ b ≠ X.env.locals ∧ (∀ x c, X.env.cells.lookup x = some c → c ≠ b) ∧ ∀ p ∈ X.pn ++ pins, p.1 ≠ b := fun b hb => by
      obtain ⟨f0, f1, f2, f3, f4, f5⟩ := hf b hb
      exact ⟨f3, f1, f4, f5⟩
    have off : ∀ b o, H b = some o → b ∉ [z, TI, TO, i1, i2] := fun b o e m => by rw [(hf b m).1] at e; cases e
    have hok1 : HOk X.prog X.w H h2' := fun b o e => (I.hok b o e).stay (fun c oc hc q => kp2 c oc (by rcases hc with y | y; exact (by rw [y]; exact off b o e); exact off c _ y) q) (fun _ q => q) fun _ _ q => q
    have I2 : Inv X pins σ (upd H s.heap.objs.size (.tup [x, y])) { s with heap := h2' } := by
      have un : Un (frs X.stack) [z, TI, TO, i1, i2] H (upd H s.heap.objs.size (.tup [x, y])) s.heap h2' := {
        keep := fun b o q _ _ hx => kp2 b o hx q
        slot := fun b o q _ _ hx => ⟨o.slots, kp2 b o hx q⟩
        free := fun b o q n hx => by rw [upd_ne (Nat.ne_of_lt (Heap.lt_size q))]; exact n
        there := fun b o q hx => ⟨o, kp2 b o hx q⟩
        tups := fun b xs q => by rw [upd_ne (ne_of_none q fr)]; exact q
        frzs := fun b o xs q => by rw [upd_ne (ne_of_none q fr)]; exact q
        tbls := fun b ps q => ⟨#[], by rw [upd_ne (ne_of_none q fr), q]; simp⟩ }
      refine I.call' (s' := { s with heap := h2' }) (ch := [z, TI, TO, i1, i2]) rfl un (fun b o e => ?_) I.bare hch
      by_cases hb : b = s.heap.objs.size
      · subst hb
        rw [upd_same] at e
        cases e
        refine ⟨szr, [u, v], .cons ru (.cons rv .nil), _, e3, rfl, _, rfl⟩
      · rw [upd_ne hb] at e
        refine (hok1 b o e).stay (fun _ _ _ q => q) (fun c q => by rw [upd_ne (ne_of_none q fr)]; exact q) fun c xs q => by rw [upd_ne (ne_of_none q fr)]; exact q
    refine ⟨.ref s.heap.objs.size, _, I2, rfl, ⟨_, x, y, fr, fun xs' h => by rw [I.list_inj h hq1]; exact hx, fun ys' h => by rw [I.list_inj h hq2]; exact hy, rfl, rfl⟩, ⟨z2, ?_, ⟨u, v, ?_⟩, ?_, ?_⟩, fun b hb => ?_⟩
    · exact (sb.2 TI D.TIz).trans (kp TI _ D.TIz D.TITO D.TIi1 D.TIi2 hTI)
    · exact (sb.2 TO D.TOz).trans a2
    · exact a3.at fun o e => (sb.2 i1 D.i1z).trans e
    · exact a4.at fun o e => (sb.2 i2 D.i2z).trans e
    · have hne : b ≠ s.heap.objs.size := fun q => by
        subst q
        simp only [List.mem_cons, List.not_mem_nil, or_false] at hb
        rcases hb with e | e | e | e | e
        · exact nz e
        · exact nTI e
        · exact nTO e
        · exact n1 e
        · exact n2 e
      rw [upd_ne hne]; exact (hf b hb).1
  done := by
    intro X hP hw hK hc i pins s σ H E I hf st hg
    subst hP hw hK
    obtain ⟨xs, ys, hq1, hq2, hx⟩ := hg
    obtain ⟨its1, rv1, p1, _⟩ := I.list hq1
    obtain ⟨its2, rv2, p2, _⟩ := I.list hq2
    obtain ⟨hz, hTI, ⟨a, c, hTO⟩, h1, h2⟩ := st
    have hl := rv1.length
    have off : ∀ b o, H b = some o → b ∉ [z, TI, TO, i1, i2] := fun b o e m => by rw [(hf b m).1] at e; cases e
    refine wpAny_pyNext_zip_end (I.ok.hd hc) D hz hTI hTO h1 h2 p1.isList p2.isList (.inl (by simp; omega)) fun h' kp => ⟨rfl, ?_⟩
    have kp2 : ∀ b o, b ∉ [z, TI, TO, i1, i2] → s.heap.get? b = some o → h'.get? b = some o := fun b o hb e => by
      simp only [List.mem_cons, List.not_mem_nil, or_false, not_or] at hb
      exact kp b o hb.1 hb.2.2.1 hb.2.2.2.1 hb.2.2.2.2 e
    refine I.call' (s' := { s with heap := h' }) (ch := [z, TI, TO, i1, i2]) rfl (zip_stay kp2) (fun b o e => (I.hok b o e).stay (fun c oc hc q => kp2 c oc (by rcases hc with y | y; exact (by rw [y]; exact off b o e); exact off c _ y) q) (fun _ q => q) fun _ _ q => q) I.bare fun b hb => ?_
    obtain ⟨f0, f1, f2, f3, f4, f5⟩ := hf b hb
    exact ⟨f3, f1, f4, f5⟩
  self := fun _ _ _ _ _ st h => wpAny_pyIter_zip st.1 h
theorem zip_apart (n l1 l2 : Nat) (t1 : l1 < n) (t2 : l2 < n) : ZipApart (n + 4) (n + 2) (n + 3) n (n + 1) l1 l2 := by
  constructor <;> first | exact Nat.ne_of_lt (by omega) | exact Nat.ne_of_gt (by omega)
section
variable {X : Cx}
noncomputable def iZip (K : PySem.W.Frag) (ta : TA) : TI := fun σ H R => ta σ H fun vs H1 => ∃ a b xs ys, vs = [.ref a, .ref b] ∧ SqL K H1 a xs ∧ SqL K H1 b ys ∧ R (Itz K a b) H1
theorem pi_zip {a b : Expr} {ta : TA} {p pos tp : Pos} {es : List Expr} {k1 : Nat} (K : PySem.W.Frag) (hg : Gl X "zip") (hm : X.mg "zip" = none) (ha : PA X [a, b] ta) (hK : X.K = K := by rfl) (hs : starEach [a, b] X.env = [(false, eval a X.env), (false, eval b X.env)] := by rfl) (hs2 : starEach [b] X.env = [(false, eval b X.env)] := by rfl) :
    PI X (.Tuple es k1 tp) (.Call (.Name "zip" p) [a, b] [] pos) (iZip K ta) := by
  subst hK
  intro pins s σ H R I h
  refine Call_ (ld_blt I hg hm boot_zip (PyProof.Rows.callWith_type1 (thn (ha pos pins s σ H _ I h) fun us s1 ⟨vs, H1, I1, r1, q1⟩ => ?_) (by rw [hs, hs2]) (by rw [hs2]; rfl)))
  obtain ⟨l1, l2, xs, ys, e, hq1, hq2, q⟩ := q1
  subst e
  cases r1 with
  | cons r rr =>
    cases rr with
    | cons r' rr =>
      cases rr
      cases r
      cases r'
      obtain ⟨its1, rv1, p1, _⟩ := I1.list hq1
      obtain ⟨its2, rv2, p2, _⟩ := I1.list hq2
      have t1 : l1 < s1.heap.objs.size := by obtain ⟨o, e, _⟩ := p1.isList; exact Heap.lt_size e
      have t2 : l2 < s1.heap.objs.size := by obtain ⟨o, e, _⟩ := p2.isList; exact Heap.lt_size e
      refine call_zip_2 p1.isList p2.isList fun h' hz hTI hTO h1 h2 hsz kp => ?_
      refine wpAny_pyIter_zip hz ?_
      have D := zip_apart s1.heap.objs.size l1 l2 t1 t2
      have I2 : Inv X pins σ H1 { s1 with heap := h' } := I1.kept (t' := s1.toks) kp
      refine ⟨_, [s1.heap.objs.size + 4, s1.heap.objs.size + 2, s1.heap.objs.size + 3, s1.heap.objs.size, s1.heap.objs.size + 1], _, _, H1, rfl, I2, turn_zip _ _ _ _ _ _ _ D, ⟨hz, hTI, ⟨_, _, hTO⟩, h1, h2⟩, fun b hb => ?_, q⟩
      have le : s1.heap.objs.size ≤ b := by
        simp only [List.mem_cons, List.not_mem_nil, or_false] at hb
        rcases hb with e | e | e | e | e <;> subst e
        · exact Nat.le_add_right _ _
        · exact Nat.le_add_right _ _
        · exact Nat.le_add_right _ _
        · exact Nat.le_refl _
        · exact Nat.le_add_right _ _
      exact I1.fpOk le (I1.hok.fresh le)
end
end L2
set_option Elab.async false
set_option linter.all false
set_option maxRecDepth 100000
namespace L2
open PySem PySem.Spec PyProof.Rows
noncomputable def eqI (c : Int) : Value → Bool
  | .int a _ => a == c
  | _ => false
theorem ints_eq {ns : List Int} {its : List Value} (r : Vals (ns.map V.int) its) (c : Int) (t : Tok) : ∀ y, y ∈ its.toArray → MeetsSeq.EqGives y (.int c t) (eqI c y) := fun y hy => by
  have hy : y ∈ its := by simpa using hy
  obtain ⟨i, hi, e⟩ := List.mem_iff_getElem.mp hy
  obtain ⟨x, hx, rx⟩ := pair_get r (List.getElem?_eq_getElem hi)
  rw [List.getElem?_map] at hx
  obtain ⟨k, _, ek⟩ := Option.map_eq_some_iff.mp hx
  subst ek
  obtain ⟨t', et⟩ := rx
  rw [← e, et]
  exact MeetsSeq.EqGives.int k c t' t
theorem ints_at {ns : List Int} {its : List Value} (r : Vals (ns.map V.int) its) (c : Int) {i : Nat} (hi : i < its.toArray.size) (hn : i < ns.length) : eqI c its.toArray[i] = (ns[i] == c) := by
  have hi' : i < its.length := by simpa using hi
  obtain ⟨x, hx, rx⟩ := pair_get r (List.getElem?_eq_getElem hi')
  rw [List.getElem?_map, List.getElem?_eq_getElem hn] at hx
  have hx := Option.some.inj hx
  subst hx
  obtain ⟨t', et⟩ := rx
  have : its.toArray[i] = its[i] := by simp
  rw [this, et]; rfl
section
variable {X : Cx}
noncomputable def rIndex : V → List V → Hp → VK → Prop := fun x vs H Q => ∃ (l : Addr) (ns : List Int) (c : Int) (j : Nat), x = .ref l ∧ vs = [.int c] ∧ H l = some (.lst (ns.map V.int)) ∧ ns[j]? = some c ∧ (∀ m, m < j → ns[m]? ≠ some c) ∧ ns.length < 100000 ∧ Q (.int ((j : Nat) : Int)) H
theorem mt_index : MtM X "list.index" rIndex := by
  intro pins s σ H x vs v us Q I rx rv h
  obtain ⟨l, ns, c, j, rfl, rfl, hH, hj, hno, hz, q⟩ := h
  cases rx
  obtain ⟨u, e1, ru⟩ := vals1 rv
  subst e1
  obtain ⟨t, rfl⟩ := ru
  obtain ⟨z, its, n, r, hl, e⟩ := I.lstM hH
  have hlen := r.length
  rw [List.length_map] at hlen
  have hjl := (List.getElem?_eq_some_iff.mp hj).1
  have hji : j < its.toArray.size := by rw [List.size_toArray]; omega
  have hit : eqI c its.toArray[j] = true := by
    rw [ints_at r c hji hjl]
    have := (List.getElem?_eq_some_iff.mp hj).2
    rw [this]; simp
  refine call_meets PySem.F.slot_list_index ⟨_, e, rfl⟩ PySem.F.entry_list_index (PySem.F.args_list_index_2 _ _) (MeetsSeq.list_index l its.toArray n (.int c t) (eqI c) (ints_eq r c t) j hji (by omega) hit fun m hm hlt => ?_) ⟨e, ?_⟩
  · have hmn : m < ns.length := by rw [List.size_toArray] at hm; omega
    rw [ints_at r c hm hmn]
    have := hno m hlt
    rw [List.getElem?_eq_getElem hmn] at this
    simpa using this
  · exact ⟨.int ((j : Nat) : Int), H, I.tok _, ⟨_, rfl⟩, q⟩
noncomputable def rRemove : V → List V → Hp → VK → Prop := fun x vs H Q => ∃ (l : Addr) (ns : List Int) (c : Int) (j : Nat), x = .ref l ∧ vs = [.int c] ∧ H l = some (.lst (ns.map V.int)) ∧ ns[j]? = some c ∧ (∀ m, m < j → ns[m]? ≠ some c) ∧ Q .non (upd H l (.lst ((ns.eraseIdx j).map V.int)))
theorem mt_remove : MtM X "list.remove" rRemove := by
  intro pins s σ H x vs v us Q I rx rv h
  obtain ⟨l, ns, c, j, rfl, rfl, hH, hj, hno, q⟩ := h
  cases rx
  obtain ⟨u, e1, ru⟩ := vals1 rv
  subst e1
  obtain ⟨t, rfl⟩ := ru
  obtain ⟨z, its, n, r, hl, e⟩ := I.lstM hH
  have hlen := r.length
  have hlen2 := hlen
  rw [List.length_map] at hlen
  have hjl := (List.getElem?_eq_some_iff.mp hj).1
  have hji : j < its.toArray.size := by rw [List.size_toArray]; omega
  have hit : eqI c its.toArray[j] = true := by
    rw [ints_at r c hji hjl]
    have := (List.getElem?_eq_some_iff.mp hj).2
    rw [this]; simp
  refine call_meets PySem.F.slot_list_remove ⟨_, e, rfl⟩ PySem.F.entry_list_remove (PySem.F.args_list_remove_2 _ _) (MeetsSeq.list_remove l its.toArray n (.int c t) (eqI c) (ints_eq r c t) j hji hit (fun m hm hlt => ?_) (by rw [List.size_toArray]; omega)) ⟨e, ?_⟩
  · have hmn : m < ns.length := by rw [List.size_toArray] at hm; omega
    rw [ints_at r c hm hmn]
    have := hno m hlt
    rw [List.getElem?_eq_getElem hmn] at this
    simpa using this
  · refine ⟨.non, _, I.lset (its' := its.eraseIdx j) hH e ?_ ?_ ?_, rfl, q⟩
    · simp
    · have : (ns.eraseIdx j).map V.int = (ns.map V.int).eraseIdx j := by
        rw [List.eraseIdx_eq_take_drop_succ, List.eraseIdx_eq_take_drop_succ, List.map_append, List.map_take, List.map_drop]
      rw [this]; exact r.eraseIdx j
    · rw [List.length_map]; exact Nat.le_trans (List.length_eraseIdx_le ..) (by rw [List.length_map] at z; exact z)
end
end L2
set_option Elab.async false
set_option linter.all false
set_option maxRecDepth 100000
namespace L2
open PySem PySem.Spec PyProof.Rows
section
variable {X : Cx}
end
section
variable {X : Cx}
end
end L2
set_option Elab.async false
set_option linter.all false
set_option maxRecDepth 100000
namespace L2
open PySem PySem.Spec PyProof.Rows
section
variable {X : Cx}
end
end L2
set_option Elab.async false
set_option linter.all false
set_option maxRecDepth 100000
namespace L2
open PySem PySem.Spec PyProof.Rows
section
open PySem.AutoSeq1 (wpAny_loadPart')
open PySem.MeetsSeq PySem.MeetsSeq2 PySem.MeetsSeq3
end
section
variable {X : Cx}
end
end L2
set_option Elab.async false
set_option linter.all false
set_option maxRecDepth 100000
namespace L2
open PySem PySem.Spec PyProof.Rows
theorem comp_walk2 {J : It} {H1 : Hp} {js : List (Option Nat)} {σ : L2.St} {tc : TT} {te : TE} {Q : VK} (n : Nat) (item : Nat → V) (p : Nat → Bool) (P : Addr → Nat → V → Hp → Prop) (hn : n < 100000)
    (mono : ∀ acc i v H H', P acc i v H → SameBut acc H H' → P acc i v H')
    (hgo : ∀ i H, i < n → Same H1 H → J.go i H) (hst : ∀ H, Same H1 H → J.stop n H) (hy : ∀ i H x H', i < n → Same H1 H → J.yld i H x H' → H' = H ∧ x = item i)
    (hc : ∀ i, i < n → ∀ H2 R, Same H1 H2 → (∀ H3, Same H2 H3 → R (p i) H3) → tc (some (item i) :: pick σ js) H2 R)
    (he : ∀ acc i, i < n → p i = true → ∀ H2 R, Same H1 H2 → H1 acc = none → H2 acc ≠ none → (∀ v H3, Same H2 H3 → P acc i v H3 → R v H3) → te (some (item i) :: pick σ js) H2 R)
    (hQ : ∀ acc vs H', Same H1 H' → H1 acc = none → H' acc = some (.lst vs) → Paired (fun i v => P acc i v H') ((List.range n).filter p) vs → Q (.ref acc) H') :
    CompB J H1 (none :: js) (gName 0) tc te σ Q := by
  intro acc hacc
  refine ⟨fun i m ys H => m = n - i ∧ i ≤ n ∧ Same H1 H ∧ H acc = some (.lst ys) ∧ Paired (fun k v => P acc k v H) ((List.range i).filter p) ys, ⟨n, by simp, Nat.zero_le _, Same.new hacc, upd_same, .nil⟩, ?_⟩
  rintro i m ys H ⟨rfl, hi, s1, ha, hp⟩
  by_cases hlt : i < n
  · refine .inr ⟨hgo i H hlt s1, fun ys' H' => i < n ∧ Same H1 H' ∧ H' acc = some (.lst ys') ∧ Paired (fun k v => P acc k v H') ((List.range (i + 1)).filter p) ys', fun ys' H' ⟨z, a, b, c⟩ => ⟨n - (i + 1), Nat.sub_succ_lt_self _ _ hlt, rfl, hlt, a, b, c⟩, fun x H' y => ?_⟩
    obtain ⟨rfl, rfl⟩ := hy i H x H' hlt s1 y
    refine ⟨kept1, hc i hlt _ _ s1 fun H2 s2 => ⟨fun hb => ?_, fun hb => ?_⟩⟩
    · have ha2 := s2 _ _ ha
      refine he acc i hlt hb _ _ (s1.trans s2) hacc (by rw [ha2]; simp) fun v H3 s3 pv => ?_
      have hlen : ys.length ≤ i := by
        rw [← Paired.length hp]
        exact Nat.le_trans (List.length_filter_le _ _) (by simp)
      refine ⟨s3 _ _ ha2, szn (by omega), hlt, ((s1.trans s2).trans s3).put hacc, upd_same, ?_⟩
      rw [List.range_succ, List.filter_append]
      have e : List.filter p [i] = [i] := by simp [hb]
      rw [e]
      refine Paired.snoc (Paired.mapP hp fun k v q => ?_) ?_
      · exact mono acc k v _ _ (mono acc k v _ _ q (s2.trans s3).but) SameBut.upd
      · exact mono acc i v _ _ pv SameBut.upd
    · refine ⟨hlt, s1.trans s2, s2 _ _ ha, ?_⟩
      rw [List.range_succ, List.filter_append]
      have e : List.filter p [i] = [] := by simp [hb]
      rw [e, List.append_nil]
      exact Paired.mapP hp fun k v q => mono acc k v _ _ q s2.but
  · have e : i = n := Nat.le_antisymm hi (Nat.le_of_not_lt hlt)
    subst e
    exact .inl ⟨hst H s1, hQ acc ys H s1 hacc ha hp⟩
theorem comp_some {H1 : Hp} {js : List (Option Nat)} {σ : L2.St} {tc : TT} {te : TE} {Q : VK} {n : Nat} (p : Nat → Bool) (hn : n < 100000)
    (hc : ∀ i : Nat, i < n → ∀ H2 R, Same H1 H2 → (∀ H3, Same H2 H3 → R (p i) H3) → tc (some (.int (0 + (i : Int))) :: pick σ js) H2 R)
    (he : ∀ i : Nat, i < n → ∀ H2 R, R (.int ((i : Nat) : Int)) H2 → te (some (.int (0 + (i : Int))) :: pick σ js) H2 R)
    (hQ : ∀ acc H', Same H1 H' → H1 acc = none → H' acc = some (.lst (((List.range n).filter p).map fun (i : Nat) => V.int (i : Int))) → Q (.ref acc) H') : CompB (Itr 0 n) H1 (none :: js) (gName 0) tc te σ Q :=
  comp_walk2 (J := Itr 0 n) (H1 := H1) (js := js) (σ := σ) (tc := tc) (te := te) (Q := Q) n (fun i => .int (0 + (i : Int))) p (fun _ i v _ => v = V.int (i : Int)) hn (fun _ _ _ _ _ h _ => h)
    (fun _ _ h _ => h) (fun _ _ => Nat.le_refl _) (fun _ _ _ _ _ _ y => y) hc (fun _ i hi _ H2 R s _ _ k => he i hi H2 R (k _ H2 (Same.refl _) rfl))
    fun acc vs H' s n' e p => hQ acc H' s n' (by rw [e, paired_map p])
theorem Same.seqT {K : PySem.W.Frag} {H H' : Hp} {a : Addr} {xs : List V} (e : Same H H') (h : SqT K H a xs) : SqT K H' a xs := by
  rcases h with (h | ⟨o, h⟩) | h
  · exact .inl (.inl (e _ _ h))
  · exact .inl (.inr ⟨o, e _ _ h⟩)
  · exact .inr h
theorem comp_tup {K : PySem.W.Frag} {H1 : Hp} {js : List (Option Nat)} {σ : L2.St} {tc : TT} {te : TE} {Q : VK} {a : Addr} {xs : List V} (p : Nat → Bool) (f : Nat → V) (hl : SqT K H1 a xs) (hn : xs.length < 100000)
    (hc : ∀ (i : Nat) x, xs[i]? = some x → ∀ H2 R, Same H1 H2 → (∀ H3, Same H2 H3 → R (p i) H3) → tc (some x :: pick σ js) H2 R)
    (he : ∀ (i : Nat) x, xs[i]? = some x → p i = true → ∀ H2 R, Same H1 H2 → (∀ H3, Same H2 H3 → R (f i) H3) → te (some x :: pick σ js) H2 R)
    (hQ : ∀ acc H', Same H1 H' → H1 acc = none → H' acc = some (.lst (((List.range xs.length).filter p).map f)) → Q (.ref acc) H') : CompB (Itt K a) H1 (none :: js) (gName 0) tc te σ Q :=
  comp_walk2 (J := Itt K a) (H1 := H1) (js := js) (σ := σ) (tc := tc) (te := te) (Q := Q) xs.length (fun i => xs.getD i .non) p (fun _ i v _ => v = f i) hn (fun _ _ _ _ _ h _ => h)
    (fun i H h s => ⟨xs, xs[i], Same.seqT s hl, by simp [h]⟩) (fun H s => ⟨xs, Same.seqT s hl, Nat.le_refl _⟩)
    (fun i H x H' h s y => ⟨y.1, by have e := y.2 xs (Same.seqT s hl); simp [e]⟩)
    (fun i h H2 R s k => hc i _ (by simp [h]) H2 R s k) (fun acc i h hp H2 R s n1 n2 k => he i _ (by simp [h]) hp H2 R s fun H3 s3 => k _ H3 s3 rfl)
    fun acc vs H' s n' e p => hQ acc H' s n' (by rw [e, paired_map p])
noncomputable def unl (f : Nat → Int) (st : List Nat) : Nat := (dd (st.map f)).length
theorem unl_snoc (f : Nat → Int) (st : List Nat) (i : Nat) : unl f (st ++ [i]) = if f i ∈ st.map f then unl f st else unl f st + 1 := by
  unfold unl
  rw [List.map_append, List.map_cons, List.map_nil, dd_snoc]
  unfold dstep
  by_cases h : f i ∈ st.map f
  · rw [if_pos h, if_pos (dd_mem.mpr h)]
  · rw [if_neg h, if_neg fun z => h (dd_mem.mp z), List.length_append, List.length_singleton]
theorem comp_list2 {K : PySem.W.Frag} {H1 : Hp} {js : List (Option Nat)} {σ : L2.St} {tc : TT} {te : TE} {Q : VK} {a : Addr} {xs : List V} (p : Nat → Bool) (f : Nat → V) (hl : SqL K H1 a xs) (hn : xs.length < 100000)
    (hc : ∀ (i : Nat) x, xs[i]? = some x → ∀ H2 R, Same H1 H2 → (∀ H3, Same H2 H3 → R (p i) H3) → tc (some x :: pick σ js) H2 R)
    (he : ∀ (i : Nat) x, xs[i]? = some x → p i = true → ∀ H2 R, Same H1 H2 → (∀ H3, Same H2 H3 → R (f i) H3) → te (some x :: pick σ js) H2 R)
    (hQ : ∀ acc H', Same H1 H' → H1 acc = none → H' acc = some (.lst (((List.range xs.length).filter p).map f)) → Q (.ref acc) H') : CompB (Itl K a) H1 (none :: js) (gName 0) tc te σ Q :=
  comp_walk2 (J := Itl K a) (H1 := H1) (js := js) (σ := σ) (tc := tc) (te := te) (Q := Q) xs.length (fun i => xs.getD i .non) p (fun _ i v _ => v = f i) hn (fun _ _ _ _ _ h _ => h)
    (fun i H h s => ⟨xs, xs[i], s.seq hl, by simp [h]⟩) (fun H s => ⟨xs, s.seq hl, Nat.le_refl _⟩)
    (fun i H x H' h s y => ⟨y.1, by have e := y.2 xs (s.seq hl); simp [e]⟩)
    (fun i h H2 R s k => hc i _ (by simp [h]) H2 R s k) (fun acc i h hp H2 R s n1 n2 k => he i _ (by simp [h]) hp H2 R s fun H3 s3 => k _ H3 s3 rfl)
    fun acc vs H' s n' e p => hQ acc H' s n' (by rw [e, paired_map p])
theorem sift {α : Type} {st : List Nat} {g : Nat → Bool} {F : Nat → α} : (((List.range st.length).filter fun j => g (st.getD j 0)).map fun j => F (st.getD j 0)) = (st.filter g).map F := by
  have e0 : st = (List.range st.length).map fun i => st.getD i 0 := by
    apply List.ext_getElem
    · simp
    · intro i h1 h2; simp [h1]
  conv => rhs; rw [e0]
  rw [List.filter_map, List.map_map]
  rfl
noncomputable def brk (f : Nat → Int) (n : Nat) (wd : Str) (k : Int) (st : List Nat) : Bool :=
  if wd = "most" then decide (k < ((unl f (st.filter fun i => decide (i < n)) : Nat) : Int)) else decide (((unl f (st.filter fun i => decide (i < n)) : Nat) : Int) + (st.length : Int) - ((st.filter fun i => decide (i < n)).length : Int) < k)
noncomputable def fx (hs : List Int) (x : Int) : Nat := hs.findIdx fun y => decide (y = x)
theorem fx_at {hs : List Int} {x : Int} (h : x ∈ hs) : hs[fx hs x]? = some x := by
  have hl : fx hs x < hs.length := List.findIdx_lt_length_of_exists ⟨x, h, by simp⟩
  have := List.findIdx_getElem (xs := hs) (p := fun y => decide (y = x)) (w := hl)
  rw [List.getElem?_eq_getElem hl]
  exact congrArg some (of_decide_eq_true this)
theorem fx_no {hs : List Int} {x : Int} {m : Nat} (h : m < fx hs x) : hs[m]? ≠ some x := fun z => by
  obtain ⟨hm, e⟩ := List.getElem?_eq_some_iff.mp z
  have := List.not_of_lt_findIdx h
  rw [e] at this
  simp at this
theorem fx_le {hs : List Int} {k : Nat} (h : k < hs.length) : fx hs (hs.getD k 0) ≤ k := by
  refine Decidable.byContradiction fun z => fx_no (by omega : k < fx hs (hs.getD k 0)) ?_
  rw [getD_get h, List.getElem?_eq_getElem h]
noncomputable def shN (hs : List Int) (k : Nat) : Nat := (dd (hs.take (fx hs (hs.getD k 0)))).length
noncomputable def shp (hs : List Int) : List Nat := (List.range hs.length).map (shN hs)
theorem shp_len {hs : List Int} : (shp hs).length = hs.length := by unfold shp; simp
theorem shp_at {hs : List Int} {k : Nat} (h : k < hs.length) : (shp hs)[k]? = some (shN hs k) := by
  unfold shp
  rw [List.getElem?_map, List.getElem?_range h]; rfl
end L2
set_option Elab.async false
set_option linter.all false
set_option maxRecDepth 100000
namespace L2
open PySem PySem.Spec PyProof.Rows
theorem comp_rlists {H1 : Hp} {js : List (Option Nat)} {σ : L2.St} {te : TE} {Q : VK} {n : Nat} (f : Nat → List V) (hn : n < 100000)
    (he : ∀ i : Nat, i < n → ∀ H2 R, Same H1 H2 → (∀ r H3, Same H2 H3 → H2 r = none → H3 r = some (.lst (f i)) → R (.ref r) H3) → te (some (.int (0 + (i : Int))) :: pick σ js) H2 R)
    (hQ : ∀ acc (rs : List Addr) H', Same H1 H' → H1 acc = none → H' acc = some (.lst (rs.map V.ref)) → rs.length = n → (∀ (i : Nat) r, rs[i]? = some r → H' r = some (.lst (f i)) ∧ H1 r = none) → (∀ r ∈ rs, r ≠ acc) → Q (.ref acc) H') :
    CompB (Itr 0 n) H1 (none :: js) (gName 0) tYes te σ Q :=
  comp_walk2 (J := Itr 0 n) (H1 := H1) (js := js) (σ := σ) (tc := tYes) (te := te) (Q := Q) n (fun i => .int (0 + (i : Int))) (fun _ => true) (fun acc i v H => ∃ r, v = .ref r ∧ r ≠ acc ∧ H1 r = none ∧ H r = some (.lst (f i))) hn
    (fun acc i v H H' ⟨r, e, n, h0, h⟩ s => ⟨r, e, n, h0, s r _ n h⟩) (fun _ _ h _ => h) (fun _ _ => Nat.le_refl _) (fun _ _ _ _ _ _ y => y) (fun _ _ _ _ _ h => h _ (Same.refl _))
    (fun acc i hi _ H2 R s n1 n2 k => he i hi H2 R s fun r H3 s3 nr h3 => k _ H3 s3 ⟨r, rfl, fun z => n2 (by rw [← z]; exact nr), s.free nr, h3⟩)
    fun acc vs H' s n' e p => by
      rw [List.filter_eq_self.mpr (fun _ _ => rfl)] at p
      have hl : vs.length = n := by rw [← Paired.length p, List.length_range]
      have all : ∀ (i : Nat) v, vs[i]? = some v → ∃ r, v = .ref r ∧ r ≠ acc ∧ H1 r = none ∧ H' r = some (.lst (f i)) := fun i v hv => by
        obtain ⟨k, hk, q⟩ := pair_get p hv
        have hi : i < n := by rw [← hl]; exact (List.getElem?_eq_some_iff.mp hv).1
        rw [List.getElem?_range hi] at hk
        cases hk
        exact q
      have ex : ∃ rs : List Addr, vs = rs.map V.ref := by
        refine ⟨vs.map fun v => match v with | .ref r => r | _ => 0, ?_⟩
        rw [List.map_map]
        apply List.ext_getElem
        · simp
        · intro i h1 h2
          obtain ⟨r, er, _⟩ := all i vs[i] (List.getElem?_eq_getElem h1)
          rw [List.getElem_map]
          show vs[i] = V.ref (match vs[i] with | .ref r => r | _ => 0)
          rw [er]
      obtain ⟨rs, rfl⟩ := ex
      rw [List.length_map] at hl
      refine hQ acc rs H' s n' e hl (fun i r hr => ?_) fun r hr => ?_
      · obtain ⟨r', er, _, h1, h2⟩ := all i (.ref r) (by rw [List.getElem?_map, hr]; rfl)
        cases er
        exact ⟨h2, h1⟩
      · obtain ⟨i, hi, ei⟩ := List.mem_iff_getElem.mp hr
        obtain ⟨r', er, h0, _⟩ := all i (.ref r) (by rw [List.getElem?_map, List.getElem?_eq_getElem hi, ei]; rfl)
        cases er
        exact h0
end L2
set_option Elab.async false
set_option linter.all false
set_option maxRecDepth 100000
namespace L2
open PySem PySem.Spec PyProof.Rows
theorem fx_app {l r : List Int} {b : Int} (h : b ∈ l) : fx (l ++ r) b = fx l b := by
  have hl : fx l b < l.length := List.findIdx_lt_length_of_exists ⟨b, h, by simp⟩
  unfold fx at *
  rw [List.findIdx_append, if_pos hl]
theorem fx_new {l : List Int} {b : Int} (h : b ∉ l) : fx (l ++ [b]) b = l.length := by
  have hl : ¬ fx l b < l.length := fun z => by
    have := List.findIdx_getElem (xs := l) (p := fun y => decide (y = b)) (w := z)
    exact h (by rw [← of_decide_eq_true this]; exact List.getElem_mem _)
  unfold fx at *
  rw [List.findIdx_append, if_neg hl]
  simp [List.findIdx_cons]
theorem fx_lt {l : List Int} {b : Int} (h : b ∈ l) : fx l b < l.length := List.findIdx_lt_length_of_exists ⟨b, h, by simp⟩
theorem snoc_ind {P : List Int → Prop} (h0 : P []) (hs : ∀ l x, P l → P (l ++ [x])) (l : List Int) : P l := by
  have : ∀ n, ∀ l : List Int, l.length = n → P l := fun n => by
    induction n with
    | zero => intro l h; rw [List.length_eq_zero_iff.mp h]; exact h0
    | succ n ih =>
      intro l h
      have e : l = l.dropLast ++ [l.getLast (by intro z; rw [z] at h; simp at h)] := (List.dropLast_concat_getLast _).symm
      rw [e]
      exact hs _ _ (ih _ (by rw [List.length_dropLast]; omega))
  exact this _ l rfl
end L2
set_option Elab.async false
set_option linter.all false
set_option maxRecDepth 100000
namespace L2
open PySem PySem.Spec PyProof.Rows
section
variable {X : Cx}
end
end L2
set_option Elab.async false
set_option linter.all false
set_option maxRecDepth 100000
namespace L2
open PySem PySem.Spec PyProof.Rows
noncomputable def num (hs : List Int) (b : Int) : Nat := (dd (hs.take (fx hs b))).length
theorem shp_map (hs : List Int) : shp hs = hs.map (num hs) := by
  apply List.ext_getElem
  · rw [shp_len, List.length_map]
  · intro i h1 h2
    rw [shp_len] at h1
    have := shp_at h1
    rw [List.getElem?_eq_getElem (by rw [shp_len]; exact h1)] at this
    rw [Option.some.inj this, List.getElem_map]
    unfold shN num
    rw [getD_get h1]
theorem num_lt {hs : List Int} {a b : Int} (ha : a ∈ hs) (h : fx hs a < fx hs b) : num hs a < num hs b := by
  have na : a ∉ hs.take (fx hs a) := fun m => by
    obtain ⟨i, hi, e⟩ := List.mem_iff_getElem.mp m
    rw [List.length_take] at hi
    rw [List.getElem_take] at e
    exact fx_no (show i < fx hs a by omega) (by rw [List.getElem?_eq_getElem (by omega), e])
  have ma : a ∈ hs.take (fx hs b) := by
    have hl := fx_lt ha
    have e := fx_at ha
    rw [List.getElem?_eq_getElem hl] at e
    rw [List.mem_iff_getElem]
    exact ⟨fx hs a, by rw [List.length_take]; omega, by rw [List.getElem_take]; exact Option.some.inj e⟩
  have nd : (dd (hs.take (fx hs a)) ++ [a]).Nodup := nd_snoc (dd_nd _) fun z => na (dd_mem.mp z)
  have := nd.length_le_of_subset (l₂ := dd (hs.take (fx hs b))) fun x hx => by
    rcases List.mem_append.mp hx with z | z
    · refine dd_mem.mpr ?_
      have hx' := dd_mem.mp z
      have : hs.take (fx hs a) = (hs.take (fx hs b)).take (fx hs a) := by rw [List.take_take, Nat.min_eq_left (by omega)]
      rw [this] at hx'
      exact List.mem_of_mem_take hx'
    · rw [List.mem_singleton.mp z]; exact dd_mem.mpr ma
  rw [List.length_append, List.length_singleton] at this
  exact this
theorem num_inj {hs : List Int} {a b : Int} (ha : a ∈ hs) (hb : b ∈ hs) (h : num hs a = num hs b) : a = b := by
  rcases Nat.lt_trichotomy (fx hs a) (fx hs b) with z | z | z
  · have := num_lt ha z; omega
  · have e1 := fx_at ha
    have e2 := fx_at hb
    rw [z, e2] at e1
    exact (Option.some.inj e1).symm
  · have := num_lt hb z; omega
theorem dd_map_len {g : Int → Int} (l : List Int) : (∀ x ∈ l, ∀ y ∈ l, g x = g y → x = y) → (dd (l.map g)).length = (dd l).length := by
  refine snoc_ind (P := fun l => (∀ x ∈ l, ∀ y ∈ l, g x = g y → x = y) → (dd (l.map g)).length = (dd l).length) (fun _ => rfl) (fun l x ih hi => ?_) l
  have ih := ih fun a ha b hb => hi a (List.mem_append_left _ ha) b (List.mem_append_left _ hb)
  rw [List.map_append, List.map_cons, List.map_nil, dd_snoc, dd_snoc]
  unfold dstep
  by_cases hx : x ∈ l
  · rw [if_pos (dd_mem.mpr (List.mem_map.mpr ⟨x, hx, rfl⟩)), if_pos (dd_mem.mpr hx), ih]
  · have hg : g x ∉ l.map g := fun m => by
      obtain ⟨y, hy, e⟩ := List.mem_map.mp m
      have := hi y (List.mem_append_left _ hy) x (by simp) e
      exact hx (by rw [← this]; exact hy)
    rw [if_neg fun z => hg (dd_mem.mp z), if_neg fun z => hx (dd_mem.mp z), List.length_append, List.length_append, ih]
    rfl
theorem shp_wide (hs : List Int) : (dd ((shp hs).map fun (i : Nat) => (i : Int))).length = (dd hs).length := by
  have e : (shp hs).map (fun (i : Nat) => (i : Int)) = hs.map fun b => ((num hs b : Nat) : Int) := by rw [shp_map, List.map_map]; rfl
  rw [e]
  exact dd_map_len hs fun x hx y hy h => num_inj hx hy (by omega)
theorem shp_take {hs : List Int} {k : Nat} (h : k ≤ hs.length) : shp (hs.take k) = (shp hs).take k := by
  rw [shp_map, shp_map, ← List.map_take]
  apply List.map_congr_left
  intro b hb
  have e : fx (hs.take k) b = fx hs b := by
    have := fx_app (r := hs.drop k) hb
    rw [List.take_append_drop] at this
    exact this.symm
  unfold num
  rw [e, List.take_take, Nat.min_eq_left]
  have := fx_lt hb
  rw [List.length_take] at this
  omega
theorem shN_le {hs : List Int} {k : Nat} (h : k < hs.length) : shN hs k ≤ (dd (hs.take k)).length := by
  unfold shN
  refine (dd_nd _).length_le_of_subset fun x hx => dd_mem.mpr ?_
  have hx := dd_mem.mp hx
  have fl := fx_le h
  have : hs.take (fx hs (hs.getD k 0)) = (hs.take k).take (fx hs (hs.getD k 0)) := by rw [List.take_take, Nat.min_eq_left fl]
  rw [this] at hx
  exact List.mem_of_mem_take hx
end L2
set_option Elab.async false
set_option linter.all false
set_option maxRecDepth 100000
namespace L2
open PySem PySem.Spec PyProof.Rows
theorem deq_intsB {K : PySem.W.Frag} {H : Hp} {d : Nat} {a b : Addr} {ps qs : List Int} (h1 : SqL K H a (ps.map V.int)) (h2 : SqL K H b (qs.map V.int)) : DEq K H (d + 1) (.ref a) (.ref b) (decide (ps = qs)) := by
  by_cases hl : ps.length = qs.length
  · have q := DEq.lst (d := d) (e := fun j => ps.getD j 0 == qs.getD j 0) h1 h2 (by rw [List.length_map, List.length_map]; exact hl) fun j x y ex ey => by
      rw [List.getElem?_map] at ex ey
      obtain ⟨p, e1, e2⟩ := Option.map_eq_some_iff.mp ex
      obtain ⟨r, e3, e4⟩ := Option.map_eq_some_iff.mp ey
      subst e2 e4
      have g1 : ps.getD j 0 = p := by rw [List.getD_eq_getElem?_getD, e1]; rfl
      have g2 : qs.getD j 0 = r := by rw [List.getD_eq_getElem?_getD, e3]; rfl
      rw [g1, g2]
      exact DEq.flat (x := .int p) (y := .int r) rfl rfl
    have e : ((List.range (ps.map V.int).length).all fun j => ps.getD j 0 == qs.getD j 0) = decide (ps = qs) := by
      rw [List.length_map, Bool.eq_iff_iff, List.all_eq_true, decide_eq_true_iff]
      constructor
      · intro h
        apply List.ext_getElem hl
        intro j h1 h2
        have := h j (List.mem_range.mpr h1)
        rw [getD_get h1, getD_get h2] at this
        simpa using this
      · intro h j _
        rw [h]; simp
    rw [e] at q
    exact q
  · have q := DEq.len (d := d) h1 h2 (by rw [List.length_map, List.length_map]; exact hl)
    rw [decide_eq_false fun z => hl (by rw [z])]
    exact q
end L2
set_option Elab.async false
set_option linter.all false
set_option maxRecDepth 100000
namespace L2
open PySem PySem.Spec PyProof.Rows
section
variable {X : Cx} {tg l : Expr} {tl : TE}
noncomputable def iSeq (K : PySem.W.Frag) (tl : TE) : TI := fun σ H R => tl σ H fun x H1 => ∃ a, x = .ref a ∧ ((∃ xs, SqL K H1 a xs) ∧ R (Itl K a) H1 ∨ (∃ xs, SqT K H1 a xs) ∧ R (Itt K a) H1)
theorem piE (K : PySem.W.Frag) (hl : PE X l tl) (h : X.K = K := by rfl) : PI X tg l (iSeq K tl) := by
  subst h
  intro pins s σ H R I h
  refine thn (hl pins s σ H _ I h) fun v s1 hq__ => ?_
  obtain ⟨x, H1, I1, r1, q1⟩ := hq__
  obtain ⟨a, e, q1⟩ := q1
  subst e
  cases r1
  rcases q1 with ⟨⟨xs, hq⟩, q⟩ | ⟨⟨xs, hq⟩, q⟩
  · obtain ⟨its, rv, p, hz⟩ := I1.list hq
    refine wpAny_pyIter_list p.isList ?_
    refine ⟨s1.heap.objs.size, [s1.heap.objs.size], _, _, H1, rfl, I1.kept (t' := s1.toks) fun b o e => Heap.get?_push_of_some _ e, turn_list a _, ⟨_, Heap.get?_push_size _ rfl, rfl, rfl⟩, fun b hb => ?_, q⟩
    have e : b = s1.heap.objs.size := by simpa using hb
    subst e
    exact I1.fpOk (Nat.le_refl _) (I1.hok.fresh (Nat.le_refl _))
  · obtain ⟨its, rv, p, hz⟩ := I1.tuple hq
    refine wpAny_pyIter_tuple (show s1.heap.IsTuple a its.toArray from p) ?_
    refine ⟨s1.heap.objs.size, [s1.heap.objs.size], _, _, H1, rfl, I1.kept (t' := s1.toks) fun b o e => Heap.get?_push_of_some _ e, turn_tuple a _, ⟨_, Heap.get?_push_size _ rfl, rfl, rfl⟩, fun b hb => ?_, q⟩
    have e : b = s1.heap.objs.size := by simpa using hb
    subst e
    exact I1.fpOk (Nat.le_refl _) (I1.hok.fresh (Nat.le_refl _))
end
theorem at_nat {st : List Nat} {j : Nat} {x : V} (hx : (st.map fun (i : Nat) => V.int (i : Int))[j]? = some x) : ∃ d : Nat, st[j]? = some d ∧ x = V.int (d : Int) ∧ st.getD j 0 = d := by
  rw [List.getElem?_map] at hx
  obtain ⟨b, h1, h2⟩ := Option.map_eq_some_iff.mp hx
  exact ⟨b, h1, h2.symm, by rw [List.getD_eq_getElem?_getD, h1]; rfl⟩
theorem dec_lt {d n : Nat} : decide (d < n) = decide ((d : Int) < (n : Int)) := by
  by_cases z : d < n
  · rw [decide_eq_true z, decide_eq_true (by omega)]
  · rw [decide_eq_false z, decide_eq_false (by omega)]
theorem all_at {hs : List Int} {st : List Nat} : ((List.range (st.map fun (i : Nat) => V.int (i : Int)).length).filter fun _ => true).map (fun j => V.int (hs.getD (st.getD j 0) 0)) = (st.map fun i => hs.getD i 0).map V.int := by
  rw [List.filter_eq_self.mpr (fun _ _ => rfl), List.length_map]
  apply List.ext_getElem
  · simp
  · intro j h1 h2
    simp only [List.length_map, List.length_range] at h1
    have : st.getD j 0 = st[j] := by simp only [List.getD_eq_getElem?_getD, List.getElem?_eq_getElem h1, Option.getD_some]
    simp only [List.getElem_map, List.getElem_range, this]
section
variable {X : Cx}
theorem op_isB : OpR X (compareOp .Is) (fun x y H Q => ∃ c d, x = .bl c ∧ y = .bl d ∧ Q (.bl (c == d)) H) := by
  intro pins s σ H x y v u Q I rx ry h
  obtain ⟨c, d, rfl, rfl, q⟩ := h
  cases rx
  cases ry
  exact is_bool (fin_bl I q rfl)
theorem op_notB : OpR X (compareOp .IsNot) (fun x y H Q => ∃ c d, x = .bl c ∧ y = .bl d ∧ Q (.bl (c != d)) H) := by
  intro pins s σ H x y v u Q I rx ry h
  obtain ⟨c, d, rfl, rfl, q⟩ := h
  cases rx
  cases ry
  exact isnot_bool (fin_bl I q rfl)
end
end L2
set_option Elab.async false
set_option linter.all false
set_option maxRecDepth 100000
namespace L2
open PySem PySem.Spec PyProof.Rows
theorem comp_inv {J : It} {H1 : Hp} {js : List (Option Nat)} {σ : L2.St} {te : TE} {Q : VK} (n : Nat) (item : Nat → V) (P : Addr → List V → Hp → Prop) (hn : n < 100000)
    (mono : ∀ acc ys H H', P acc ys H → SameBut acc H H' → P acc ys H') (h0 : ∀ acc H, P acc [] H)
    (hgo : ∀ i H, i < n → Same H1 H → J.go i H) (hst : ∀ H, Same H1 H → J.stop n H) (hy : ∀ i H x H', i < n → Same H1 H → J.yld i H x H' → H' = H ∧ x = item i)
    (he : ∀ acc i ys H2 R, i < n → Same H1 H2 → H1 acc = none → H2 acc = some (.lst ys) → ys.length = i → P acc ys H2 → (∀ v H3, Same H2 H3 → P acc (ys ++ [v]) H3 → R v H3) → te (some (item i) :: pick σ js) H2 R)
    (hQ : ∀ acc ys H', Same H1 H' → H1 acc = none → H' acc = some (.lst ys) → ys.length = n → P acc ys H' → Q (.ref acc) H') :
    CompB J H1 (none :: js) (gName 0) tYes te σ Q := by
  intro acc hacc
  refine ⟨fun i m ys H => m = n - i ∧ i ≤ n ∧ Same H1 H ∧ H acc = some (.lst ys) ∧ ys.length = i ∧ P acc ys H, ⟨n, by simp, Nat.zero_le _, Same.new hacc, upd_same, rfl, h0 _ _⟩, ?_⟩
  rintro i m ys H ⟨rfl, hi, s1, ha, hl, hp⟩
  by_cases hlt : i < n
  · refine .inr ⟨hgo i H hlt s1, fun ys' H' => i < n ∧ Same H1 H' ∧ H' acc = some (.lst ys') ∧ ys'.length = i + 1 ∧ P acc ys' H', fun ys' H' ⟨z, a, b, c, d⟩ => ⟨n - (i + 1), Nat.sub_succ_lt_self _ _ hlt, rfl, hlt, a, b, c, d⟩, fun x H' y => ?_⟩
    obtain ⟨rfl, rfl⟩ := hy i H x H' hlt s1 y
    refine ⟨kept1, ⟨fun _ => ?_, fun hb => by cases hb⟩⟩
    refine he acc i ys _ _ hlt s1 hacc ha hl hp fun v H3 s3 pv => ?_
    refine ⟨s3 _ _ ha, szn (by omega), hlt, (s1.trans s3).put hacc, upd_same, by rw [List.length_append, List.length_singleton, hl], ?_⟩
    exact mono acc _ _ _ pv SameBut.upd
  · have e : i = n := Nat.le_antisymm hi (Nat.le_of_not_lt hlt)
    subst e
    exact .inl ⟨hst H s1, hQ acc ys H s1 hacc ha hl hp⟩
theorem comp_invL {K : PySem.W.Frag} {H1 : Hp} {js : List (Option Nat)} {σ : L2.St} {te : TE} {Q : VK} {a : Addr} {xs : List V} (P : Addr → List V → Hp → Prop) (hl : SqL K H1 a xs) (hn : xs.length < 100000)
    (mono : ∀ acc ys H H', P acc ys H → SameBut acc H H' → P acc ys H') (h0 : ∀ acc H, P acc [] H)
    (he : ∀ acc (i : Nat) x ys H2 R, xs[i]? = some x → Same H1 H2 → H1 acc = none → H2 acc = some (.lst ys) → ys.length = i → P acc ys H2 → (∀ v H3, Same H2 H3 → P acc (ys ++ [v]) H3 → R v H3) → te (some x :: pick σ js) H2 R)
    (hQ : ∀ acc ys H', Same H1 H' → H1 acc = none → H' acc = some (.lst ys) → ys.length = xs.length → P acc ys H' → Q (.ref acc) H') :
    CompB (Itl K a) H1 (none :: js) (gName 0) tYes te σ Q :=
  comp_inv (J := Itl K a) (H1 := H1) (js := js) (σ := σ) (te := te) (Q := Q) xs.length (fun i => xs.getD i .non) P hn mono h0
    (fun i H h s => ⟨xs, xs[i], s.seq hl, by simp [h]⟩) (fun H s => ⟨xs, s.seq hl, Nat.le_refl _⟩)
    (fun i H x H' h s y => ⟨y.1, by have e := y.2 xs (s.seq hl); simp [e]⟩)
    (fun acc i ys H2 R h s n1 n2 ln p k => he acc i _ ys H2 R (by simp [h]) s n1 n2 ln p k) hQ
theorem comp_invR {H1 : Hp} {js : List (Option Nat)} {σ : L2.St} {te : TE} {Q : VK} {n : Nat} (P : Addr → List V → Hp → Prop) (hn : n < 100000)
    (mono : ∀ acc ys H H', P acc ys H → SameBut acc H H' → P acc ys H') (h0 : ∀ acc H, P acc [] H)
    (he : ∀ acc (i : Nat) ys H2 R, i < n → Same H1 H2 → H1 acc = none → H2 acc = some (.lst ys) → ys.length = i → P acc ys H2 → (∀ v H3, Same H2 H3 → P acc (ys ++ [v]) H3 → R v H3) → te (some (.int (0 + (i : Int))) :: pick σ js) H2 R)
    (hQ : ∀ acc ys H', Same H1 H' → H1 acc = none → H' acc = some (.lst ys) → ys.length = n → P acc ys H' → Q (.ref acc) H') :
    CompB (Itr 0 n) H1 (none :: js) (gName 0) tYes te σ Q :=
  comp_inv (J := Itr 0 n) (H1 := H1) (js := js) (σ := σ) (te := te) (Q := Q) n (fun i => .int (0 + (i : Int))) P hn mono h0
    (fun _ _ h _ => h) (fun _ _ => Nat.le_refl _) (fun _ _ _ _ _ _ y => y) he hQ
theorem dec_intP {i j : Int} : decide (i = j) = decide (V.int i = V.int j) := by
  by_cases z : i = j
  · simp [z]
  · simp [z]
theorem atI_int {ns : List Int} {j : Nat} (h : j < ns.length) : atI (ns.map V.int) (j : Int) = some (.int (ns.getD j 0)) := atI_nat (by simp [h])
noncomputable def RowsL (H : Hp) (rs : List Addr) (ps : List (List Int)) : Prop := Paired (fun r p => H r = some (.lst (p.map V.int))) rs ps
theorem RowsL.len {H : Hp} {rs : List Addr} {ps : List (List Int)} (h : RowsL H rs ps) : rs.length = ps.length := Paired.length h
theorem RowsL.same {H H' : Hp} {rs : List Addr} {ps : List (List Int)} (h : RowsL H rs ps) (s : Same H H') : RowsL H' rs ps := Paired.mapP h fun _ _ q => s _ _ q
theorem RowsL.pools {K : PySem.W.Frag} {H : Hp} {rs : List Addr} {ps : List (List Int)} (h : RowsL H rs ps) : PoolsL K H rs ps := Paired.mapP h fun _ _ q => SqL.of q
theorem RowsL.at {H : Hp} {rs : List Addr} {ps : List (List Int)} (h : RowsL H rs ps) {i : Nat} {p : List Int} (e : ps[i]? = some p) : ∃ r, rs[i]? = some r ∧ H r = some (.lst (p.map V.int)) := pair_get (F := fun (r : Addr) (p : List Int) => H r = some (.lst (p.map V.int))) h e
theorem RowsL.get {H : Hp} {rs : List Addr} {ps : List (List Int)} (h : RowsL H rs ps) {i : Nat} {r : Addr} (e : rs[i]? = some r) : ∃ p, ps[i]? = some p ∧ H r = some (.lst (p.map V.int)) := by
  have hi : i < ps.length := by rw [← h.len]; exact (List.getElem?_eq_some_iff.mp e).1
  obtain ⟨r', e1, e2⟩ := h.at (List.getElem?_eq_getElem hi)
  rw [e] at e1
  cases e1
  exact ⟨_, List.getElem?_eq_getElem hi, e2⟩
theorem RowsL.of {H : Hp} {rs : List Addr} {ps : List (List Int)} (hl : rs.length = ps.length) (h : ∀ (i : Nat) r p, rs[i]? = some r → ps[i]? = some p → H r = some (.lst (p.map V.int))) : RowsL H rs ps := paired_of hl h
theorem RowsL.set {H : Hp} {rs : List Addr} {ps : List (List Int)} (h : RowsL H rs ps) (nd : rs.Nodup) {j : Nat} {r : Addr} (e : rs[j]? = some r) (p : List Int) : RowsL (upd H r (.lst (p.map V.int))) rs (ps.set j p) := by
  refine RowsL.of (by rw [List.length_set, h.len]) fun i r' p' e1 e2 => ?_
  by_cases z : i = j
  · subst z
    rw [e] at e1
    cases e1
    have hi : i < ps.length := by rw [← h.len]; exact (List.getElem?_eq_some_iff.mp e).1
    rw [List.getElem?_set_self hi] at e2
    cases e2
    exact upd_same
  · rw [List.getElem?_set_ne (fun y => z y.symm)] at e2
    have ne : r' ≠ r := fun y => by
      subst y
      obtain ⟨h1, h1'⟩ := List.getElem?_eq_some_iff.mp e1
      obtain ⟨h2, h2'⟩ := List.getElem?_eq_some_iff.mp e
      exact z ((List.getElem_inj nd).mp (h1'.trans h2'.symm))
    obtain ⟨p2, e3, e4⟩ := h.get e1
    rw [e2] at e3
    cases e3
    rw [upd_ne ne]
    exact e4
structure TieT (H : Hp) (x : Addr × Addr × Str × Int × List Nat) : Prop where
  tp : H x.1 = some (.tup [.str x.2.2.1, .int x.2.2.2.1, .ref x.2.1])
  ts : H x.2.1 = some (.tup (x.2.2.2.2.map fun (i : Nat) => V.int (i : Int)))
  wd : x.2.2.1 = "most" ∨ x.2.2.1 = "least"
  sl : x.2.2.2.2.length ≤ 6
theorem TieT.same {H H' : Hp} {x : Addr × Addr × Str × Int × List Nat} (h : TieT H x) (s : Same H H') : TieT H' x := ⟨s _ _ h.tp, s _ _ h.ts, h.wd, h.sl⟩
theorem TieT.put {H : Hp} {x : Addr × Addr × Str × Int × List Nat} {r : Addr} {xs ys : List V} (h : TieT H x) (hr : H r = some (.lst xs)) : TieT (upd H r (.lst ys)) x := by
  have n1 : x.1 ≠ r := fun z => by have := h.tp; rw [z, hr] at this; cases this
  have n2 : x.2.1 ≠ r := fun z => by have := h.ts; rw [z, hr] at this; cases this
  exact ⟨by rw [upd_ne n1]; exact h.tp, by rw [upd_ne n2]; exact h.ts, h.wd, h.sl⟩
structure TieG (n : Nat) (x : Addr × Addr × Str × Int × List Nat) : Prop where
  k1 : 1 ≤ x.2.2.2.1
  k6 : x.2.2.2.1 ≤ 6
  ne : x.2.2.2.2 ≠ []
  lt : ∀ i ∈ x.2.2.2.2, i < n
  up : x.2.2.2.2.Pairwise (· < ·)
structure Ties (K : PySem.W.Frag) (H : Hp) (b : Addr) (ts : List (Addr × Addr × Str × Int × List Nat)) (n : Nat) : Prop where
  ls : SqL K H b (ts.map fun x => V.ref x.1)
  ea : ∀ x ∈ ts, TieT H x
  ln : ts.length ≤ n
noncomputable def fstB (f : Nat → Int) (n : Nat) (ts : List (Addr × Addr × Str × Int × List Nat)) : Option Nat := ts.findIdx? fun x => brk f n x.2.2.1 x.2.2.2.1 x.2.2.2.2
noncomputable def optV : Option Nat → V
  | none => .non
  | some i => .int ((i : Nat) : Int)
structure Drawn (H : Hp) (l m L T : Addr) (ms : List Int) (rs : List Addr) (ps : List (List Int)) (ts : List (Addr × Addr × Str × Int × List Nat)) (top : Nat) : Prop where
  hl : H l = some (.lst [.ref m, .ref L, .ref T])
  hm : H m = some (.lst (ms.map V.int))
  hL : H L = some (.lst (rs.map V.ref))
  hT : H T = some (.lst (ts.map fun x => V.ref x.1))
  rows : RowsL H rs ps
  mup : ms.Pairwise (· < ·)
  mne : ms ≠ []
  m8 : ms.length ≤ 8
  mb : ∀ b ∈ ms, 1 ≤ b ∧ b ≤ 10 ^ 18
  pup : ∀ p ∈ ps, p.Pairwise (· < ·)
  psub : ∀ p ∈ ps, ∀ b ∈ p, b ∈ ms
  p1 : 1 ≤ ps.length
  ptop : ps.length ≤ top
  p6 : ps.length ≤ 6
  tea : ∀ x ∈ ts, TieT H x
  tg : ∀ x ∈ ts, TieG ps.length x
  t12 : ts.length ≤ 12
theorem Drawn.same {H H' : Hp} {l m L T : Addr} {ms : List Int} {rs : List Addr} {ps : List (List Int)} {ts : List (Addr × Addr × Str × Int × List Nat)} {top : Nat} (d : Drawn H l m L T ms rs ps ts top) (s : Same H H') : Drawn H' l m L T ms rs ps ts top :=
  ⟨s _ _ d.hl, s _ _ d.hm, s _ _ d.hL, s _ _ d.hT, d.rows.same s, d.mup, d.mne, d.m8, d.mb, d.pup, d.psub, d.p1, d.ptop, d.p6, fun x hx => (d.tea x hx).same s, d.tg, d.t12⟩
theorem Drawn.row_le {H : Hp} {l m L T : Addr} {ms : List Int} {rs : List Addr} {ps : List (List Int)} {ts : List (Addr × Addr × Str × Int × List Nat)} {top : Nat} (d : Drawn H l m L T ms rs ps ts top) {p : List Int} (hp : p ∈ ps) : p.length ≤ 8 := by
  have nd : p.Nodup := (d.pup p hp).imp fun h => by omega
  have := nd.length_le_of_subset fun b hb => d.psub p hp b hb
  have := d.m8
  omega
theorem mask_bit : ∀ m, m < 7 → ∀ x, x < 64 → 1 ≤ x → x < 2 ^ m → ∃ i, i < m ∧ x / 2 ^ i % 2 = 1 := by decide
end L2
set_option Elab.async false
set_option linter.all false
set_option maxRecDepth 100000
namespace L2
open PySem PySem.Spec PyProof.Rows
theorem dd_le {l r : List Int} (h : ∀ x ∈ l, x ∈ r) : (dd l).length ≤ (dd r).length := (dd_nd l).length_le_of_subset fun x hx => dd_mem.mpr (h x (dd_mem.mp hx))
theorem unl_sub {f : Nat → Int} {A st : List Nat} (h : ∀ i ∈ A, i ∈ st) : unl f A ≤ unl f st := dd_le fun x hx => by
  obtain ⟨i, hi, e⟩ := List.mem_map.mp hx
  exact List.mem_map.mpr ⟨i, h i hi, e⟩
theorem snoc_indN {P : List Nat → Prop} (h0 : P []) (hs : ∀ l x, P l → P (l ++ [x])) (l : List Nat) : P l := by
  have : ∀ n (l : List Nat), l.length = n → P l := by
    intro n
    induction n with
    | zero => intro l e; rw [List.length_eq_zero_iff.mp e]; exact h0
    | succ n ih =>
      intro l e
      have hne : l ≠ [] := fun z => by rw [z] at e; simp at e
      rw [← List.dropLast_concat_getLast hne]
      exact hs _ _ (ih _ (by rw [List.length_dropLast, e]; rfl))
  exact this _ l rfl
theorem unl_iff {f g : Nat → Int} (A : List Nat) : (∀ i ∈ A, ∀ j ∈ A, f i = f j ↔ g i = g j) → unl f A = unl g A := by
  refine snoc_indN (P := fun A => (∀ i ∈ A, ∀ j ∈ A, f i = f j ↔ g i = g j) → unl f A = unl g A) (fun _ => rfl) (fun l x ih h => ?_) A
  have ih' := ih fun i hi j hj => h i (List.mem_append_left _ hi) j (List.mem_append_left _ hj)
  rw [unl_snoc, unl_snoc, ih']
  have e : f x ∈ l.map f ↔ g x ∈ l.map g := by
    constructor
    · intro m
      obtain ⟨i, hi, e⟩ := List.mem_map.mp m
      exact List.mem_map.mpr ⟨i, hi, (h i (List.mem_append_left _ hi) x (by simp)).mp e⟩
    · intro m
      obtain ⟨i, hi, e⟩ := List.mem_map.mp m
      exact List.mem_map.mpr ⟨i, hi, (h i (List.mem_append_left _ hi) x (by simp)).mpr e⟩
  by_cases z : f x ∈ l.map f
  · rw [if_pos z, if_pos (e.mp z)]
  · rw [if_neg z, if_neg fun y => z (e.mpr y)]
theorem filt_len {st : List Nat} {p : Nat → Bool} : (st.filter p).length + (st.filter fun i => !p i).length = st.length := by
  induction st with
  | nil => rfl
  | cons x r ih =>
    by_cases h : p x = true
    · simp [h]; omega
    · have h' : p x = false := by simpa using h
      simp [h']; omega
theorem unl_add {f : Nat → Int} {st : List Nat} {p : Nat → Bool} : unl f st + (st.filter p).length ≤ unl f (st.filter p) + st.length := by
  have := (dd_nd (st.map f)).length_le_of_subset (l₂ := dd ((st.filter p).map f) ++ (st.filter fun i => !p i).map f) fun x hx => by
    obtain ⟨i, hi, e⟩ := List.mem_map.mp (dd_mem.mp hx)
    by_cases h : p i = true
    · exact List.mem_append_left _ (dd_mem.mpr (List.mem_map.mpr ⟨i, List.mem_filter.mpr ⟨hi, h⟩, e⟩))
    · exact List.mem_append_right _ (List.mem_map.mpr ⟨i, List.mem_filter.mpr ⟨hi, by simpa using h⟩, e⟩)
  rw [List.length_append, List.length_map] at this
  have := filt_len (st := st) (p := p)
  unfold unl
  omega
noncomputable def kp (f : Nat → Int) (wd : Str) (k : Int) (st : List Nat) : Bool := if wd = "most" then decide (((unl f st : Nat) : Int) ≤ k) else decide (k ≤ ((unl f st : Nat) : Int))
theorem brk_iff {f g : Nat → Int} {n : Nat} {wd : Str} {k : Int} {st : List Nat} (h : ∀ i, i < n → ∀ j, j < n → (f i = f j ↔ g i = g j)) : brk f n wd k st = brk g n wd k st := by
  unfold brk
  have e : unl f (st.filter fun i => decide (i < n)) = unl g (st.filter fun i => decide (i < n)) := unl_iff _ fun i hi j hj => h i (of_decide_eq_true (List.mem_filter.mp hi).2) j (of_decide_eq_true (List.mem_filter.mp hj).2)
  rw [e]
theorem shpI_at {hs : List Int} {i : Nat} (h : i < hs.length) : ((shp hs).map fun (i : Nat) => (i : Int)).getD i 0 = (num hs (hs.getD i 0) : Int) := by
  rw [shp_map, List.map_map]
  simp [h, List.getD_eq_getElem?_getD]
theorem shp_same {hs : List Int} {i j : Nat} (hi : i < hs.length) (hj : j < hs.length) : ((shp hs).map fun (i : Nat) => (i : Int)).getD i 0 = ((shp hs).map fun (i : Nat) => (i : Int)).getD j 0 ↔ hs.getD i 0 = hs.getD j 0 := by
  rw [shpI_at hi, shpI_at hj]
  constructor
  · intro h
    exact num_inj (by rw [getD_get hi]; exact List.getElem_mem hi) (by rw [getD_get hj]; exact List.getElem_mem hj) (by omega)
  · intro h; rw [h]
theorem brk_no {f : Nat → Int} {n : Nat} {wd : Str} {k : Int} {st : List Nat} (h : brk f n wd k st = true) : kp f wd k st = false := by
  unfold brk at h
  unfold kp
  by_cases z : wd = "most"
  · rw [if_pos z] at h ⊢
    have h := of_decide_eq_true h
    have := unl_sub (f := f) (A := st.filter fun i => decide (i < n)) (st := st) fun i hi => (List.mem_filter.mp hi).1
    exact decide_eq_false (by omega)
  · rw [if_neg z] at h ⊢
    have h := of_decide_eq_true h
    have := unl_add (f := f) (st := st) (p := fun i => decide (i < n))
    exact decide_eq_false (by omega)
theorem brk_whole {f : Nat → Int} {n : Nat} {wd : Str} {k : Int} {st : List Nat} (h : ∀ i ∈ st, i < n) : brk f n wd k st = !kp f wd k st := by
  have e : st.filter (fun i => decide (i < n)) = st := List.filter_eq_self.mpr fun i hi => decide_eq_true (h i hi)
  unfold brk kp
  rw [e]
  by_cases z : wd = "most"
  · rw [if_pos z, if_pos z]
    by_cases y : k < (unl f st : Int)
    · rw [decide_eq_true y, decide_eq_false (by omega)]; rfl
    · rw [decide_eq_false y, decide_eq_true (by omega)]; rfl
  · rw [if_neg z, if_neg z]
    by_cases y : k ≤ (unl f st : Int)
    · rw [decide_eq_false (by omega), decide_eq_true y]; rfl
    · rw [decide_eq_true (by omega), decide_eq_false y]; rfl
theorem kp_iff {f g : Nat → Int} {n : Nat} {wd : Str} {k : Int} {st : List Nat} (hl : ∀ i ∈ st, i < n) (h : ∀ i, i < n → ∀ j, j < n → (f i = f j ↔ g i = g j)) : kp f wd k st = kp g wd k st := by
  unfold kp
  rw [unl_iff st fun i hi j hj => h i (hl i hi) j (hl j hj)]
theorem shN_iff {hs os : List Int} (hl : hs.length = os.length) (h : ∀ i, i < hs.length → ∀ j, j < hs.length → (hs.getD i 0 = hs.getD j 0 ↔ os.getD i 0 = os.getD j 0)) {k : Nat} (hk : k < hs.length) : shN hs k = shN os k := by
  have hk' : k < os.length := by omega
  have mh : hs.getD k 0 ∈ hs := by rw [getD_get hk]; exact List.getElem_mem hk
  have mo : os.getD k 0 ∈ os := by rw [getD_get hk']; exact List.getElem_mem hk'
  have ef : fx hs (hs.getD k 0) = fx os (os.getD k 0) := by
    have a1 := fx_lt mh
    have a2 := fx_lt mo
    have b1 := fx_at mh
    have b2 := fx_at mo
    have c1 : hs.getD (fx hs (hs.getD k 0)) 0 = hs.getD k 0 := by rw [List.getD_eq_getElem?_getD, b1]; rfl
    have c2 : os.getD (fx os (os.getD k 0)) 0 = os.getD k 0 := by rw [List.getD_eq_getElem?_getD, b2]; rfl
    have d1 := (h _ a1 _ hk).mp c1
    have d2 := (h _ (by omega) _ hk).mpr c2
    have g1 : ∀ m, m < fx os (os.getD k 0) → os.getD m 0 ≠ os.getD k 0 := fun m hm e => by
      have := List.not_of_lt_findIdx hm
      rw [getD_get (by omega : m < os.length)] at e
      simp at this
      exact this (by rw [e, List.getD_eq_getElem?_getD])
    have g2 : ∀ m, m < fx hs (hs.getD k 0) → hs.getD m 0 ≠ hs.getD k 0 := fun m hm e => by
      have := List.not_of_lt_findIdx hm
      rw [getD_get (by omega : m < hs.length)] at e
      simp at this
      exact this (by rw [e, List.getD_eq_getElem?_getD])
    rcases Nat.lt_trichotomy (fx hs (hs.getD k 0)) (fx os (os.getD k 0)) with y | y | y
    · exact absurd d1 (g1 _ y)
    · exact y
    · exact absurd d2 (g2 _ y)
  have el : ∀ n, n ≤ hs.length → (dd (hs.take n)).length = (dd (os.take n)).length := fun n hn => by
    have e1 : ∀ (l : List Int), n ≤ l.length → l.take n = (List.range n).map fun i => l.getD i 0 := fun l hl' => by
      apply List.ext_getElem
      · simp; omega
      · intro i h1 h2
        simp only [List.length_take] at h1
        have : i < l.length := by omega
        simp [this]
    have u := unl_iff (f := fun i => hs.getD i 0) (g := fun i => os.getD i 0) (List.range n) fun i hi j hj => h i (by have := List.mem_range.mp hi; omega) j (by have := List.mem_range.mp hj; omega)
    unfold unl at u
    rw [← e1 hs hn, ← e1 os (by omega)] at u
    exact u
  unfold shN
  rw [← ef]
  exact el _ (Nat.le_of_lt (fx_lt mh))
theorem shp_eq_iff {hs os : List Int} (hl : hs.length = os.length) : shp hs = shp os ↔ ∀ i, i < hs.length → ∀ j, j < i → (hs.getD i 0 = hs.getD j 0 ↔ os.getD i 0 = os.getD j 0) := by
  constructor
  · intro e i hi j hj
    rw [← shp_same hi (by omega), ← shp_same (hs := os) (by omega) (by omega), e]
  · intro h
    have h' : ∀ i, i < hs.length → ∀ j, j < hs.length → (hs.getD i 0 = hs.getD j 0 ↔ os.getD i 0 = os.getD j 0) := fun i hi j hj => by
      rcases Nat.lt_trichotomy i j with y | y | y
      · have := h j hj i y
        exact ⟨fun e => (this.mp e.symm).symm, fun e => (this.mpr e.symm).symm⟩
      · subst y; simp
      · exact h i hi j y
    unfold shp
    rw [← hl]
    exact List.map_congr_left fun k hk => shN_iff hl h' (List.mem_range.mp hk)
theorem dd_snoc_len (l : List Int) (x : Int) : (dd (l ++ [x])).length = if x ∈ l then (dd l).length else (dd l).length + 1 := by
  rw [dd_snoc]
  unfold dstep
  by_cases h : x ∈ l
  · rw [if_pos h, if_pos (dd_mem.mpr h)]
  · rw [if_neg h, if_neg fun z => h (dd_mem.mp z), List.length_append, List.length_singleton]
noncomputable def Canon (p : List Int) : Prop := p = (shp p).map fun (i : Nat) => (i : Int)
theorem shp_lt {hs : List Int} {k : Nat} (h : k < hs.length) : shN hs k < (dd hs).length := by
  unfold shN
  have m : hs.getD k 0 ∈ hs := by rw [getD_get h]; exact List.getElem_mem h
  have a := fx_lt m
  have nm : hs.getD k 0 ∉ hs.take (fx hs (hs.getD k 0)) := fun z => by
    obtain ⟨i, hi, e⟩ := List.mem_iff_getElem.mp z
    rw [List.length_take] at hi
    have := List.not_of_lt_findIdx (show i < fx hs (hs.getD k 0) by omega)
    rw [List.getElem_take] at e
    simp at this
    exact this (by rw [e, List.getD_eq_getElem?_getD])
  have e := dd_snoc_len (hs.take (fx hs (hs.getD k 0))) (hs.getD k 0)
  rw [if_neg nm] at e
  have := dd_le (l := hs.take (fx hs (hs.getD k 0)) ++ [hs.getD k 0]) (r := hs) fun x hx => by
    rcases List.mem_append.mp hx with z | z
    · exact List.mem_of_mem_take z
    · rw [List.mem_singleton.mp z]; exact m
  omega
theorem shp_snoc (p : List Int) (x : Int) : shp (p ++ [x]) = shp p ++ [if x ∈ p then num p x else (dd p).length] := by
  have h1 : (shp (p ++ [x])).take p.length = shp p := by
    rw [← shp_take (by simp), List.take_left']; rfl
  have h2 : (shp (p ++ [x]))[p.length]? = some (shN (p ++ [x]) p.length) := shp_at (by simp)
  have e : shp (p ++ [x]) = (shp (p ++ [x])).take p.length ++ [shN (p ++ [x]) p.length] := by
    have hlen : (shp (p ++ [x])).length = p.length + 1 := by rw [shp_len]; simp
    conv => lhs; rw [← List.take_append_drop p.length (shp (p ++ [x]))]
    congr 1
    apply List.ext_getElem?
    intro i
    rw [List.getElem?_drop]
    cases i with
    | zero => rw [Nat.add_zero, h2]; rfl
    | succ i =>
      rw [List.getElem?_eq_none (by omega)]
      simp
  rw [e, h1]
  congr 2
  have eg : (p ++ [x]).getD p.length 0 = x := by simp [List.getD_eq_getElem?_getD]
  unfold shN
  rw [eg]
  by_cases z : x ∈ p
  · rw [if_pos z, fx_app z]
    unfold num
    rw [List.take_append_of_le_length (Nat.le_of_lt (fx_lt z))]
  · rw [if_neg z, fx_new z, List.take_left']; rfl
theorem num_canon {p : List Int} (c : Canon p) {j : Nat} (h : (j : Int) ∈ p) : num p (j : Int) = j := by
  obtain ⟨i, hi, e⟩ := List.mem_iff_getElem.mp h
  have g := shpI_at hi
  rw [← c, getD_get hi, e] at g
  omega
theorem canon_mem {p : List Int} (c : Canon p) {x : Int} (h : x ∈ p) : ∃ j : Nat, x = (j : Int) ∧ j < (dd p).length := by
  rw [c] at h
  obtain ⟨j, hj, e⟩ := List.mem_map.mp h
  obtain ⟨i, hi, e2⟩ := List.mem_iff_getElem.mp hj
  rw [shp_len] at hi
  have g := shp_at hi
  rw [List.getElem?_eq_getElem (by rw [shp_len]; exact hi), e2] at g
  have := shp_lt hi
  refine ⟨j, e.symm, ?_⟩
  have : j = shN p i := Option.some.inj g
  omega
theorem canon_has {p : List Int} (c : Canon p) {j : Nat} (h : j < (dd p).length) : (j : Int) ∈ p := by
  refine Decidable.byContradiction fun n => ?_
  have := (dd_nd p).length_le_of_subset (l₂ := ((List.range (dd p).length).filter fun i => decide (i ≠ j)).map fun (i : Nat) => (i : Int)) fun x hx => by
    have hx := dd_mem.mp hx
    obtain ⟨i, e, hi⟩ := canon_mem c hx
    refine List.mem_map.mpr ⟨i, List.mem_filter.mpr ⟨List.mem_range.mpr hi, decide_eq_true fun z => n ?_⟩, e.symm⟩
    rw [← z, ← e]; exact hx
  rw [List.length_map] at this
  have lt : ((List.range (dd p).length).filter fun i => decide (i ≠ j)).length < (List.range (dd p).length).length := by
    refine Nat.lt_of_le_of_ne (List.length_filter_le _ _) fun z => ?_
    have := List.length_filter_eq_length_iff.mp z j (List.mem_range.mpr h)
    simp at this
  rw [List.length_range] at lt
  omega
theorem canon_nil : Canon [] := rfl
theorem canon_snoc {p : List Int} (c : Canon p) {j : Nat} (h : j ≤ (dd p).length) : Canon (p ++ [(j : Int)]) := by
  unfold Canon
  rw [shp_snoc, List.map_append, ← c]
  congr 1
  by_cases z : (j : Int) ∈ p
  · rw [if_pos z, num_canon c z]; rfl
  · rw [if_neg z]
    have : ¬ j < (dd p).length := fun y => z (canon_has c y)
    have : j = (dd p).length := by omega
    rw [this]; rfl
end L2
set_option Elab.async false
set_option linter.all false
set_option maxRecDepth 100000
namespace L2
open PySem PySem.Spec PyProof.Rows
end L2
set_option Elab.async false
set_option linter.all false
set_option maxRecDepth 100000
namespace L2
open PySem PySem.Spec PyProof.Rows
noncomputable def blkS (p : List Int) (b : Nat) : List Nat := (List.range p.length).filter fun i => decide (p.getD i 0 = (b : Int))
theorem blkS_mem {p : List Int} {b i : Nat} : i ∈ blkS p b ↔ i < p.length ∧ p.getD i 0 = (b : Int) := by
  unfold blkS
  rw [List.mem_filter, List.mem_range, decide_eq_true_iff]
theorem blkS_ne {p : List Int} (c : Canon p) {b : Nat} (h : b < (dd p).length) : blkS p b ≠ [] := by
  obtain ⟨i, hi, e⟩ := List.mem_iff_getElem.mp (canon_has c h)
  intro z
  have : i ∈ blkS p b := blkS_mem.mpr ⟨hi, by rw [getD_get hi, e]⟩
  rw [z] at this
  cases this
noncomputable def poolS (st : List Nat) (may : List (List Int)) : List Int := (may.getD (st.getD 0 0) []).filter fun x => st.all fun s => decide (x ∈ may.getD s [])
noncomputable def poolN (may : List (List Int)) (p : List Int) (b : Nat) : List Int := poolS (blkS p b) may
noncomputable def pools (may : List (List Int)) (p : List Int) : List (List Int) := (List.range (dd p).length).map (poolN may p)
theorem pools_len {may : List (List Int)} {p : List Int} : (pools may p).length = (dd p).length := by unfold pools; simp
theorem pools_at {may : List (List Int)} {p : List Int} {b : Nat} (h : b < (dd p).length) : (pools may p)[b]? = some (poolN may p b) := by
  unfold pools
  rw [List.getElem?_map, List.getElem?_range h]; rfl
theorem poolS_mem {st : List Nat} {may : List (List Int)} {x : Int} (h : st ≠ []) : x ∈ poolS st may ↔ ∀ s ∈ st, x ∈ may.getD s [] := by
  unfold poolS
  rw [List.mem_filter, List.all_eq_true]
  constructor
  · intro ⟨_, a⟩ s hs
    exact of_decide_eq_true (a s hs)
  · intro a
    refine ⟨a _ ?_, fun s hs => decide_eq_true (a s hs)⟩
    cases st with
    | nil => exact absurd rfl h
    | cons s r => simp
theorem poolN_mem {may : List (List Int)} {p : List Int} {b : Nat} {x : Int} (c : Canon p) (h : b < (dd p).length) : x ∈ poolN may p b ↔ ∀ i, i < p.length → p.getD i 0 = (b : Int) → x ∈ may.getD i [] := by
  unfold poolN
  rw [poolS_mem (blkS_ne c h)]
  exact ⟨fun a i h1 h2 => a i (blkS_mem.mpr ⟨h1, h2⟩), fun a s hs => a s (blkS_mem.mp hs).1 (blkS_mem.mp hs).2⟩
theorem poolS_up {st : List Nat} {may : List (List Int)} (h : ∀ p ∈ may, p.Pairwise (· < ·)) : (poolS st may).Pairwise (· < ·) := by
  unfold poolS
  refine List.Pairwise.filter _ ?_
  by_cases z : st.getD 0 0 < may.length
  · have : may.getD (st.getD 0 0) [] = may[st.getD 0 0] := by rw [List.getD_eq_getElem?_getD, List.getElem?_eq_getElem z]; rfl
    rw [this]
    exact h _ (List.getElem_mem z)
  · have : may.getD (st.getD 0 0) [] = [] := by rw [List.getD_eq_getElem?_getD, List.getElem?_eq_none (by omega)]; rfl
    rw [this]; exact List.Pairwise.nil
noncomputable abbrev Tie := Str × Int × List Nat
structure IsPlan (may : List (List Int)) (ts : List Tie) (hs : List Int) : Prop where
  len : hs.length = may.length
  of : ∀ i, i < hs.length → hs.getD i 0 ∈ may.getD i []
  kp : ∀ t ∈ ts, kp (fun i => hs.getD i 0) t.1 t.2.1 t.2.2 = true
noncomputable def Beg (p hs : List Int) : Prop := p.length ≤ hs.length ∧ ((shp hs).map fun (i : Nat) => (i : Int)).take p.length = p
theorem Beg.at {p hs : List Int} (b : Beg p hs) {i : Nat} (h : i < p.length) : ((shp hs).map fun (i : Nat) => (i : Int)).getD i 0 = p.getD i 0 := by
  rw [← congrArg (fun l => List.getD l i 0) b.2]
  simp [List.getD_eq_getElem?_getD, List.getElem?_take, h]
theorem Beg.same {p hs : List Int} (b : Beg p hs) {i j : Nat} (hi : i < p.length) (hj : j < p.length) : p.getD i 0 = p.getD j 0 ↔ hs.getD i 0 = hs.getD j 0 := by
  rw [← b.at hi, ← b.at hj]
  exact shp_same (Nat.lt_of_lt_of_le hi b.1) (Nat.lt_of_lt_of_le hj b.1)
theorem Beg.canon {p hs : List Int} (b : Beg p hs) : Canon p := by
  have e : shp p = (shp hs).take p.length := by
    rw [← shp_take b.1]
    refine (shp_eq_iff (by rw [List.length_take]; have := b.1; omega)).mpr fun i hi j hj => ?_
    have e1 : (hs.take p.length).getD i 0 = hs.getD i 0 := by simp [List.getD_eq_getElem?_getD, List.getElem?_take, hi]
    have e2 : (hs.take p.length).getD j 0 = hs.getD j 0 := by simp [List.getD_eq_getElem?_getD, List.getElem?_take, (by omega : j < p.length)]
    rw [e1, e2]
    exact b.same hi (by omega)
  unfold Canon
  rw [e, List.map_take]
  exact b.2.symm
theorem Beg.brk {p hs : List Int} (b : Beg p hs) {wd : Str} {k : Int} {st : List Nat} (h : brk (fun i => p.getD i 0) p.length wd k st = true) : L2.kp (fun i => hs.getD i 0) wd k st = false := by
  refine brk_no (n := p.length) ?_
  rw [← h]
  exact brk_iff fun i hi j hj => (b.same hi hj).symm
theorem Beg.short {may : List (List Int)} {p hs : List Int} (b : Beg p hs) (of : ∀ i, i < hs.length → hs.getD i 0 ∈ may.getD i []) {ms : List Nat} (s : Short (pools may p) ms) : False := by
  obtain ⟨X, hX, hq⟩ := s.few
  have c := b.canon
  have nd : ms.Nodup := s.up.imp fun h => Nat.ne_of_lt h
  have lt : ∀ q ∈ ms, q < (dd p).length := fun q m => by
    obtain ⟨r, e, _⟩ := hq q m
    have := (List.getElem?_eq_some_iff.mp e).1
    rw [pools_len] at this
    exact this
  have fs : ∀ q ∈ ms, ∃ i, i < p.length ∧ p.getD i 0 = (q : Int) := fun q m => by
    obtain ⟨i, hi, e⟩ := List.mem_iff_getElem.mp (canon_has c (lt q m))
    exact ⟨i, hi, by rw [getD_get hi, e]⟩
  let f : Nat → Int := fun q => hs.getD (fx p (q : Int)) 0
  have fa : ∀ q ∈ ms, fx p (q : Int) < p.length ∧ p.getD (fx p (q : Int)) 0 = (q : Int) := fun q m => by
    have := canon_has c (lt q m)
    refine ⟨fx_lt this, ?_⟩
    rw [List.getD_eq_getElem?_getD, fx_at this]; rfl
  have nd2 : (ms.map f).Nodup := by
    rw [List.nodup_iff_pairwise_ne, List.pairwise_map]
    refine List.Pairwise.imp_of_mem ?_ (List.nodup_iff_pairwise_ne.mp nd)
    intro q r hq hr hne e
    obtain ⟨a1, a2⟩ := fa q hq
    obtain ⟨b1, b2⟩ := fa r hr
    have := (b.same a1 b1).mpr e
    rw [a2, b2] at this
    omega
  have := nd2.length_le_of_subset (l₂ := X) fun x hx => by
    obtain ⟨q, m, e⟩ := List.mem_map.mp hx
    obtain ⟨r, er, hr⟩ := hq q m
    rw [pools_at (lt q m)] at er
    cases er
    refine hr x ((poolN_mem c (lt q m)).mpr fun i hi ei => ?_)
    obtain ⟨a1, a2⟩ := fa q m
    have : p.getD (fx p (q : Int)) 0 = p.getD i 0 := by rw [a2, ei]
    have := (b.same a1 hi).mp this
    have h2 := of i (Nat.lt_of_lt_of_le hi b.1)
    rw [← this] at h2
    rw [← e]
    exact h2
  rw [List.length_map] at this
  omega
theorem Beg.next {p hs : List Int} (b : Beg p hs) (h : p.length < hs.length) : ∃ j : Nat, j ≤ (dd p).length ∧ Beg (p ++ [(j : Int)]) hs := by
  have c := b.canon
  have nl := shN_le (hs := hs) (k := p.length) h
  have e : (dd (hs.take p.length)).length = (dd p).length := by
    have h2 := shp_wide (hs.take p.length)
    rw [shp_take (by omega), List.map_take, b.2] at h2
    exact h2.symm
  refine ⟨shN hs p.length, by omega, by simp; omega, ?_⟩
  rw [List.length_append, List.length_singleton, List.take_add_one, b.2]
  congr 1
  rw [List.getElem?_map, shp_at h]; rfl
theorem Beg.nil (hs : List Int) : Beg [] hs := ⟨Nat.zero_le _, rfl⟩
theorem plan_of {may : List (List Int)} {ts : List Tie} {p ds : List Int} (c : Canon p) (hl : p.length = may.length) (d : Deal (pools may p) ds) (lt : ∀ t ∈ ts, ∀ i ∈ t.2.2, i < p.length) (nb : ∀ t ∈ ts, brk (fun i => p.getD i 0) p.length t.1 t.2.1 t.2.2 = false) :
    IsPlan may ts (p.map fun x => ds.getD x.toNat 0) := by
  have dl : ds.length = (dd p).length := by rw [d.len, pools_len]
  have key : ∀ i, i < p.length → ∃ b : Nat, p.getD i 0 = (b : Int) ∧ b < (dd p).length ∧ (p.map fun x => ds.getD x.toNat 0).getD i 0 = ds.getD b 0 := fun i hi => by
    obtain ⟨b, e, hb⟩ := canon_mem c (x := p.getD i 0) (by rw [getD_get hi]; exact List.getElem_mem hi)
    refine ⟨b, e, hb, ?_⟩
    have : (p.map fun x => ds.getD x.toNat 0).getD i 0 = ds.getD (p.getD i 0).toNat 0 := by simp [List.getD_eq_getElem?_getD, hi]
    rw [this, e, Int.toNat_natCast]
  refine ⟨by rw [List.length_map, hl], fun i hi => ?_, fun t ht => ?_⟩
  · rw [List.length_map] at hi
    obtain ⟨b, e, hb, e2⟩ := key i hi
    rw [e2]
    have h1 : b < ds.length := by omega
    have h2 : b < (pools may p).length := by rw [pools_len]; exact hb
    have := d.of b h1 h2
    have e3 : (pools may p)[b] = poolN may p b := by
      have := pools_at (may := may) hb
      rw [List.getElem?_eq_getElem h2] at this
      exact Option.some.inj this
    rw [e3] at this
    rw [getD_get h1]
    exact (poolN_mem c hb).mp this i hi e
  · have h := nb t ht
    rw [brk_whole (lt t ht)] at h
    have h : L2.kp (fun i => p.getD i 0) t.1 t.2.1 t.2.2 = true := by simpa using h
    rw [← h]
    refine kp_iff (lt t ht) fun i hi j hj => ?_
    obtain ⟨b, e, hb, e2⟩ := key i hi
    obtain ⟨b', e', hb', e2'⟩ := key j hj
    show (p.map fun x => ds.getD x.toNat 0).getD i 0 = (p.map fun x => ds.getD x.toNat 0).getD j 0 ↔ p.getD i 0 = p.getD j 0
    rw [e2, e2', e, e', getD_get (by omega : b < ds.length), getD_get (by omega : b' < ds.length), List.getElem_inj d.nd]
    omega
inductive Pap where
  | tie (j : Nat)
  | short (bs : List Nat)
  | split (ps : List Pap)
inductive Shows (may : List (List Int)) (ts : List Tie) : List Int → Pap → Prop where
  | tie {p : List Int} {j : Nat} {t : Tie} (h : ts[j]? = some t) (b : brk (fun i => p.getD i 0) p.length t.1 t.2.1 t.2.2 = true) : Shows may ts p (.tie j)
  | short {p : List Int} {bs : List Nat} (s : Short (pools may p) bs) : Shows may ts p (.short bs)
  | split {p : List Int} {ps : List Pap} (hl : p.length < may.length) (hn : ps.length = (dd p).length + 1) (h : ∀ (j : Nat) (q : Pap), ps[j]? = some q → Shows may ts (p ++ [(j : Int)]) q) : Shows may ts p (.split ps)
end L2
set_option Elab.async false
set_option linter.all false
set_option maxRecDepth 100000
namespace L2
open PySem PySem.Spec PyProof.Rows
theorem up_ext : ∀ {l r : List Int}, l.Pairwise (· < ·) → r.Pairwise (· < ·) → (∀ x, x ∈ l ↔ x ∈ r) → l = r := by
  intro l
  induction l with
  | nil =>
    intro r _ _ h
    cases r with
    | nil => rfl
    | cons b r => have := (h b).mpr List.mem_cons_self; cases this
  | cons a l ih =>
    intro r hl hr h
    cases r with
    | nil => have := (h a).mp List.mem_cons_self; cases this
    | cons b r =>
      rw [List.pairwise_cons] at hl hr
      have e : a = b := by
        rcases List.mem_cons.mp ((h a).mp List.mem_cons_self) with z | z
        · exact z
        · rcases List.mem_cons.mp ((h b).mpr List.mem_cons_self) with y | y
          · exact y.symm
          · exact absurd (Int.lt_trans (hr.1 a z) (hl.1 b y)) (Int.lt_irrefl _)
      subst e
      rw [ih hl.2 hr.2 fun x => ?_]
      constructor
      · intro hx
        rcases List.mem_cons.mp ((h x).mp (List.mem_cons_of_mem _ hx)) with z | z
        · exact absurd (hl.1 x hx) (by rw [z]; exact Int.lt_irrefl _)
        · exact z
      · intro hx
        rcases List.mem_cons.mp ((h x).mpr (List.mem_cons_of_mem _ hx)) with z | z
        · exact absurd (hr.1 x hx) (by rw [z]; exact Int.lt_irrefl _)
        · exact z
noncomputable def Rel (way : Nat) (x : Int) (F S : List Int) : Prop := if way = 0 then x ∈ F ∧ x ∈ S else if way = 1 then x ∈ F ∨ x ∈ S else x ∈ F ∧ x ∉ S
theorem sort_lt {ks : List Int} (h : ks.Pairwise (· ≤ ·)) (nd : ks.Nodup) : ks.Pairwise (· < ·) :=
  (h.and (List.nodup_iff_pairwise_ne.mp nd)).imp fun ⟨a, b⟩ => by omega
noncomputable def Told2 (H H' : Hp) (l : Addr) (way : Nat) (F S ks : List Int) : Prop := Same H H' ∧ H l = none ∧ H' l = some (.lst (ks.map V.int)) ∧ ks.Pairwise (· < ·) ∧ ∀ x, x ∈ ks ↔ Rel way x F S
structure Both (K : PySem.W.Frag) (H : Hp) (a b : Addr) (F S U : List Int) : Prop where
  fa : SqL K H a (F.map V.int)
  sb : SqL K H b (S.map V.int)
  pf : F.Pairwise (· < ·)
  ps : S.Pairwise (· < ·)
  fu : ∀ x ∈ F, x ∈ U
  su : ∀ x ∈ S, x ∈ U
  ul : U.length ≤ 60
theorem lt_nd {F : List Int} (h : F.Pairwise (· < ·)) : F.Nodup := h.imp fun h => Int.ne_of_lt h
theorem Both.l1 {K : PySem.W.Frag} {H : Hp} {a b : Addr} {F S U : List Int} (h : Both K H a b F S U) : F.length ≤ 60 := Nat.le_trans ((lt_nd h.pf).length_le_of_subset h.fu) h.ul
theorem Both.l2 {K : PySem.W.Frag} {H : Hp} {a b : Addr} {F S U : List Int} (h : Both K H a b F S U) : S.length ≤ 60 := Nat.le_trans ((lt_nd h.ps).length_le_of_subset h.su) h.ul
noncomputable def spW (K : PySem.W.Frag) (way : Nat) : Sp := fun vs H Q _ => ∃ (a b : Addr) (F S U : List Int), vs = [.ref a, .ref b] ∧ Both K H a b F S U ∧ ∀ l ks H', Told2 H H' l way F S ks → Q (.ref l) H'
structure May (K : PySem.W.Frag) (H : Hp) (a : Addr) (rs : List Addr) (may : List (List Int)) (U : List Int) : Prop where
  ls : SqL K H a (rs.map V.ref)
  po : PoolsL K H rs may
  up : ∀ p ∈ may, p.Pairwise (· < ·)
  sub : ∀ p ∈ may, ∀ b ∈ p, b ∈ U
  m6 : may.length ≤ 6
  u20 : U.length ≤ 26
theorem May.same {K : PySem.W.Frag} {H H' : Hp} {a : Addr} {rs : List Addr} {may : List (List Int)} {U : List Int} (m : May K H a rs may U) (s : Same H H') : May K H' a rs may U := ⟨s.seq m.ls, m.po.same s, m.up, m.sub, m.m6, m.u20⟩
theorem May.rows {K : PySem.W.Frag} {H : Hp} {a : Addr} {rs : List Addr} {may : List (List Int)} {U : List Int} (m : May K H a rs may U) {i : Nat} (h : i < may.length) : ∃ r, rs[i]? = some r ∧ SqL K H r ((may.getD i []).map V.int) ∧ (may.getD i []).Pairwise (· < ·) ∧ ∀ b ∈ may.getD i [], b ∈ U := by
  have e : may.getD i [] = may[i] := getD_getL h
  obtain ⟨r, e1, e2⟩ := m.po.at (List.getElem?_eq_getElem h)
  rw [e]
  exact ⟨r, e1, e2, m.up _ (List.getElem_mem h), m.sub _ (List.getElem_mem h)⟩
theorem poolS_snoc {st : List Nat} {may : List (List Int)} {s : Nat} (h : st ≠ []) (x : Int) : x ∈ poolS (st ++ [s]) may ↔ x ∈ poolS st may ∧ x ∈ may.getD s [] := by
  rw [poolS_mem (by simp), poolS_mem h]
  constructor
  · exact fun a => ⟨fun t ht => a t (List.mem_append_left _ ht), a s (by simp)⟩
  · rintro ⟨a, b⟩ t ht
    rcases List.mem_append.mp ht with z | z
    · exact a t z
    · rw [List.mem_singleton.mp z]; exact b
theorem poolS_one {may : List (List Int)} {s : Nat} : poolS [s] may = may.getD s [] := by
  unfold poolS
  show (may.getD s []).filter _ = _
  refine List.filter_eq_self.mpr fun x hx => ?_
  simp only [List.all_cons, List.all_nil, Bool.and_true]
  exact decide_eq_true hx
theorem at_int {st : List Int} {j : Nat} {x : V} (hx : (st.map V.int)[j]? = some x) : ∃ d : Int, st[j]? = some d ∧ x = V.int d ∧ st.getD j 0 = d := by
  rw [List.getElem?_map] at hx
  obtain ⟨b, h1, h2⟩ := Option.map_eq_some_iff.mp hx
  exact ⟨b, h1, h2.symm, by rw [List.getD_eq_getElem?_getD, h1]; rfl⟩
theorem siftI {st : List Int} {g : Int → Bool} : (((List.range st.length).filter fun j => g (st.getD j 0)).map fun j => V.int (st.getD j 0)) = (st.filter g).map V.int := by
  have e0 : st = (List.range st.length).map fun i => st.getD i 0 := by
    apply List.ext_getElem
    · simp
    · intro i h1 h2; simp [h1]
  conv => rhs; rw [e0]
  rw [List.filter_map, List.map_map]
  rfl
end L2
set_option Elab.async false
set_option linter.all false
set_option maxRecDepth 100000
namespace L2
open PySem PySem.Spec PyProof.Rows
theorem kept2 {x y : Option V} {σ : St} : Kept (none :: none :: σ) (x :: y :: σ) := ⟨rfl, fun i v e => by
  cases i with
  | zero => cases e
  | succ i =>
    cases i with
    | zero => cases e
    | succ i => exact e⟩
theorem comp_zip {K : PySem.W.Frag} {H1 : Hp} {js : List (Option Nat)} {σ : L2.St} {te : TE} {Q : VK} {a b : Addr} {xs ys : List V} (P : Addr → List V → Hp → Prop) (hl : xs.length = ys.length) (h1 : SqL K H1 a xs) (h2 : SqL K H1 b ys) (hn : xs.length < 100000)
    (mono : ∀ acc ys H H', P acc ys H → SameBut acc H H' → P acc ys H') (h0 : ∀ acc H, P acc [] H)
    (he : ∀ acc (i : Nat) x y zs H2 R, xs[i]? = some x → ys[i]? = some y → Same H1 H2 → H1 acc = none → H2 acc = some (.lst zs) → zs.length = i → P acc zs H2 → (∀ v H3, Same H2 H3 → P acc (zs ++ [v]) H3 → R v H3) → te (some x :: some y :: pick σ js) H2 R)
    (hQ : ∀ acc zs H', Same H1 H' → H1 acc = none → H' acc = some (.lst zs) → zs.length = xs.length → P acc zs H' → Q (.ref acc) H') :
    CompB (Itz K a b) H1 (none :: none :: js) (gTup K 2 (gCons (gName 0) (gCons (gName 1) gNil))) tYes te σ Q := by
  intro acc hacc
  refine ⟨fun i m zs H => m = xs.length - i ∧ i ≤ xs.length ∧ Same H1 H ∧ H acc = some (.lst zs) ∧ zs.length = i ∧ P acc zs H, ⟨xs.length, by simp, Nat.zero_le _, Same.new hacc, upd_same, rfl, h0 _ _⟩, ?_⟩
  rintro i m zs H ⟨rfl, hi, s1, ha, hz, hp⟩
  have w1 := s1.seq h1
  have w2 := s1.seq h2
  by_cases hlt : i < xs.length
  · have hlt2 : i < ys.length := by omega
    refine .inr ⟨⟨xs, ys, xs[i], ys[i], w1, w2, List.getElem?_eq_getElem hlt, List.getElem?_eq_getElem hlt2⟩, fun zs' H' => i < xs.length ∧ Same H1 H' ∧ H' acc = some (.lst zs') ∧ zs'.length = i + 1 ∧ P acc zs' H', fun zs' H' ⟨z, a, b, c, d⟩ => ⟨xs.length - (i + 1), Nat.sub_succ_lt_self _ _ hlt, rfl, hlt, a, b, c, d⟩, fun v H' y => ?_⟩
    obtain ⟨q, x, y, hq, e1, e2, e3, e4⟩ := y
    subst e3 e4
    have sq := Same.new (o := .tup [x, y]) hq
    refine ⟨q, [x, y], rfl, SqT.of upd_same, rfl, x, [y], rfl, y, [], rfl, rfl, kept2, fun _ => ?_, fun hb => by cases hb⟩
    refine he acc i x y zs _ _ (e1 xs w1) (e2 ys w2) (s1.trans sq) hacc (sq _ _ ha) hz (mono _ _ _ _ hp sq.but) fun v H3 s3 pv => ?_
    have s13 := (s1.trans sq).trans s3
    refine ⟨s3 _ _ (sq _ _ ha), szn (by omega), hlt, s13.put hacc, upd_same, by rw [List.length_append, List.length_singleton, hz], ?_⟩
    exact mono acc _ _ _ pv SameBut.upd
  · have e : i = xs.length := Nat.le_antisymm hi (Nat.le_of_not_lt hlt)
    subst e
    exact .inl ⟨⟨xs, ys, w1, w2, Nat.le_refl _⟩, hQ acc zs H s1 hacc ha hz hp⟩
theorem comp_zipV {K : PySem.W.Frag} {H1 : Hp} {js : List (Option Nat)} {σ : L2.St} {te : TE} {Q : VK} {a b : Addr} {xs ys : List V} (f : Nat → V) (hl : xs.length = ys.length) (h1 : SqL K H1 a xs) (h2 : SqL K H1 b ys) (hn : xs.length < 100000)
    (he : ∀ (i : Nat) x y H2 R, xs[i]? = some x → ys[i]? = some y → Same H1 H2 → (∀ H3, Same H2 H3 → R (f i) H3) → te (some x :: some y :: pick σ js) H2 R)
    (hQ : ∀ acc H', Same H1 H' → H1 acc = none → H' acc = some (.lst ((List.range xs.length).map f)) → Q (.ref acc) H') :
    CompB (Itz K a b) H1 (none :: none :: js) (gTup K 2 (gCons (gName 0) (gCons (gName 1) gNil))) tYes te σ Q :=
  comp_zip (fun _ zs _ => zs = (List.range zs.length).map f) hl h1 h2 hn (fun _ _ _ _ h _ => h) (fun _ _ => rfl)
    (fun acc i x y zs H2 R ex ey s _ _ hz hp k => he i x y H2 R ex ey s fun H3 s3 => k _ H3 s3 (by
      rw [List.length_append, List.length_singleton, List.range_succ, List.map_append, ← hp, hz]; rfl))
    fun acc zs H' s n e hz hp => hQ acc H' s n (by rw [e, ← hz, ← hp])
end L2
set_option Elab.async false
set_option linter.all false
set_option maxRecDepth 100000
namespace L2
open PySem PySem.Spec PyProof.Rows
end L2
set_option Elab.async false
set_option linter.all false
set_option maxRecDepth 100000
namespace L2
open PySem PySem.Spec PyProof.Rows
theorem deq_true {K : PySem.W.Frag} {H : Hp} {d : Nat} {a b : Addr} {xs ys : List V} (h1 : SqL K H a xs) (h2 : SqL K H b ys) (hl : xs.length = ys.length) (he : ∀ (j : Nat) x y, xs[j]? = some x → ys[j]? = some y → DEq K H d x y true) : DEq K H (d + 1) (.ref a) (.ref b) true := by
  have q := DEq.lst (e := fun _ => true) h1 h2 hl he
  rw [show ((List.range xs.length).all fun _ => true) = true from by simp] at q
  exact q
theorem deqT_true {K : PySem.W.Frag} {H : Hp} {d : Nat} {a b : Addr} {xs ys : List V} (h1 : SqT K H a xs) (h2 : SqT K H b ys) (hl : xs.length = ys.length) (he : ∀ (j : Nat) x y, xs[j]? = some x → ys[j]? = some y → DEq K H d x y true) : DEq K H (d + 1) (.ref a) (.ref b) true := by
  have q := DEq.tup (e := fun _ => true) h1 h2 he
  rw [show ((List.range (min xs.length ys.length)).all (fun _ => true) && xs.length == ys.length) = true from by simp [hl]] at q
  exact q
theorem deq_flat1 {K : PySem.W.Frag} {H : Hp} {d : Nat} {x : V} (f : flatV x = true) : DEq K H d x x true := by
  have q := DEq.flat (K := K) (H := H) (d := d) f f
  rw [eqV_refl f] at q
  exact q
theorem TieT.self {K : PySem.W.Frag} {H : Hp} {x : Addr × Addr × Str × Int × List Nat} (t : TieT H x) : DEq K H 2 (.ref x.1) (.ref x.1) true :=
  deqT_true (SqT.of t.tp) (SqT.of t.tp) rfl fun j u v eu ev => by
    rw [eu] at ev
    cases ev
    rcases j with _ | _ | _ | j
    · cases eu; exact deq_flat1 rfl
    · cases eu; exact deq_flat1 rfl
    · cases eu
      refine deqT_true (SqT.of t.ts) (SqT.of t.ts) rfl fun j u v eu ev => ?_
      rw [eu] at ev
      cases ev
      obtain ⟨i, _, e⟩ := List.mem_map.mp (List.mem_of_getElem? eu)
      rw [← e]
      exact deq_flat1 rfl
    · cases eu
theorem deq_ties {K : PySem.W.Frag} {H : Hp} {a b : Addr} {ts : List (Addr × Addr × Str × Int × List Nat)} (h1 : SqL K H a (ts.map fun x => V.ref x.1)) (h2 : SqL K H b (ts.map fun x => V.ref x.1)) (ea : ∀ x ∈ ts, TieT H x) : DEq K H 3 (.ref a) (.ref b) true :=
  deq_true h1 h2 rfl fun j u v eu ev => by
    rw [eu] at ev
    cases ev
    obtain ⟨x, hx, e⟩ := List.mem_map.mp (List.mem_of_getElem? eu)
    rw [← e]
    exact (ea x hx).self
noncomputable def tieOf (x : Addr × Addr × Str × Int × List Nat) : Tie := x.2.2
noncomputable def kpX (hs : List Int) (x : Addr × Addr × Str × Int × List Nat) : Bool := kp (fun i => hs.getD i 0) x.2.2.1 x.2.2.2.1 x.2.2.2.2
noncomputable def fitB (may : List (List Int)) (ts : List (Addr × Addr × Str × Int × List Nat)) (hs : List Int) : Bool :=
  decide (hs.length = may.length) && ((List.range hs.length).all fun i => decide (hs.getD i 0 ∈ may.getD i [])) && ts.all (kpX hs)
theorem fitB_iff {may : List (List Int)} {ts : List (Addr × Addr × Str × Int × List Nat)} {hs : List Int} : fitB may ts hs = true ↔ IsPlan may (ts.map tieOf) hs := by
  unfold fitB
  rw [Bool.and_eq_true, Bool.and_eq_true, List.all_eq_true, List.all_eq_true, decide_eq_true_iff]
  constructor
  · rintro ⟨⟨a, b⟩, c⟩
    refine ⟨a, fun i hi => of_decide_eq_true (b i (List.mem_range.mpr hi)), fun t ht => ?_⟩
    obtain ⟨x, hx, e⟩ := List.mem_map.mp ht
    rw [← e]
    exact c x hx
  · intro p
    exact ⟨⟨p.len, fun i hi => decide_eq_true (p.of i (List.mem_range.mp hi))⟩, fun x hx => p.kp _ (List.mem_map.mpr ⟨x, hx, rfl⟩)⟩
theorem map_at {α β : Type} {ts : List α} {f : α → β} {g : Nat → β} (h : ∀ (i : Nat) x, ts[i]? = some x → g i = f x) : (List.range ts.length).map g = ts.map f := by
  apply List.ext_getElem?
  intro i
  rw [List.getElem?_map, List.getElem?_map]
  by_cases l : i < ts.length
  · rw [List.getElem?_range l, List.getElem?_eq_getElem l]
    show some (g i) = some (f ts[i])
    rw [h i _ (List.getElem?_eq_getElem l)]
  · rw [List.getElem?_eq_none (by simp; omega), List.getElem?_eq_none (by omega)]; rfl
end L2
set_option Elab.async false
set_option linter.all false
set_option maxRecDepth 100000
namespace L2
open PySem PySem.Spec PyProof.Rows
end L2
set_option Elab.async false
set_option linter.all false
set_option maxRecDepth 100000
namespace L2
open PySem PySem.Spec PyProof.Rows
theorem RowsL.append {H : Hp} : ∀ {rs rs' : List Addr} {ps ps' : List (List Int)}, RowsL H rs ps → RowsL H rs' ps' → RowsL H (rs ++ rs') (ps ++ ps') := by
  intro rs rs' ps ps' h h'
  unfold RowsL at *
  induction h with
  | nil => exact h'
  | cons a t ih => exact .cons a ih
end L2
set_option Elab.async false
set_option linter.all false
set_option maxRecDepth 100000
namespace L2
open PySem PySem.Spec PyProof.Rows
inductive PapAt (H : Hp) : V → Pap → Prop where
  | tie {t : Addr} {j : Nat} (ht : H t = some (.tup [.str "tie", .int ((j : Nat) : Int)])) : PapAt H (.ref t) (.tie j)
  | short {t l : Addr} {bs : List Nat} (ht : H t = some (.tup [.str "short", .ref l])) (hl : H l = some (.lst (bs.map fun (i : Nat) => V.int (i : Int)))) : PapAt H (.ref t) (.short bs)
  | split {t l : Addr} {vs : List V} {ps : List Pap} (ht : H t = some (.tup [.str "split", .ref l])) (hl : H l = some (.lst vs)) (hn : vs.length = ps.length) (h : ∀ (i : Nat) v q, vs[i]? = some v → ps[i]? = some q → PapAt H v q) : PapAt H (.ref t) (.split ps)
theorem PapAt.same {H H' : Hp} {v : V} {q : Pap} (p : PapAt H v q) (s : Same H H') : PapAt H' v q := by
  induction p with
  | tie ht => exact .tie (s _ _ ht)
  | short ht hl => exact .short (s _ _ ht) (s _ _ hl)
  | split ht hl hn h ih => exact .split (s _ _ ht) (s _ _ hl) hn fun i v q e1 e2 => ih i v q e1 e2
noncomputable def nw (H H' : Hp) : Hp := fun a => match H a with
  | none => H' a
  | some _ => none
theorem nw_some {H H' : Hp} {a : Addr} {o : HO} (h : nw H H' a = some o) : H a = none ∧ H' a = some o := by
  unfold nw at h
  cases e : H a with
  | none => rw [e] at h; exact ⟨rfl, h⟩
  | some x => rw [e] at h; cases h
theorem nw_of {H H' : Hp} {a : Addr} {o : HO} (h1 : H a = none) (h2 : H' a = some o) : nw H H' a = some o := by
  unfold nw
  rw [h1]; exact h2
theorem nw_to {H Hc H' Hx : Hp} (s : ∀ a, Hc a = none → H a = none) (k : ∀ a o, Hc a = none → H' a = some o → Hx a = some o) : Same (nw Hc H') (nw H Hx) := fun b o e => by
  obtain ⟨e1, e2⟩ := nw_some e
  exact nw_of (s b e1) (k b o e1 e2)
noncomputable def PTold (H H' : Hp) (t : Addr) (may : List (List Int)) (ts : List Tie) (p : List Int) : Prop :=
  (∃ (l : Addr) (hs : List Int), H' t = some (.tup [.str "plan", .ref l]) ∧ H' l = some (.lst (hs.map V.int)) ∧ H l = none ∧ IsPlan may ts hs) ∨
  ∃ (v : V) (q : Pap), H' t = some (.tup [.str "none", v]) ∧ PapAt (nw H H') v q ∧ Shows may ts p q
theorem fstB_some {f : Nat → Int} {n j : Nat} {ts : List (Addr × Addr × Str × Int × List Nat)} (h : fstB f n ts = some j) : ∃ x, ts[j]? = some x ∧ brk f n x.2.2.1 x.2.2.2.1 x.2.2.2.2 = true := by
  unfold fstB at h
  rw [List.findIdx?_eq_some_iff_getElem] at h
  obtain ⟨hj, e, _⟩ := h
  exact ⟨_, List.getElem?_eq_getElem hj, e⟩
theorem fstB_none {f : Nat → Int} {n : Nat} {ts : List (Addr × Addr × Str × Int × List Nat)} (h : fstB f n ts = none) : ∀ x ∈ ts, brk f n x.2.2.1 x.2.2.2.1 x.2.2.2.2 = false := fun x hx => by
  unfold fstB at h
  rw [List.findIdx?_eq_none_iff] at h
  simpa using h x hx
theorem pools_sub {may : List (List Int)} {p : List Int} {U : List Int} (c : Canon p) (hl : p.length ≤ may.length) (h : ∀ q ∈ may, ∀ b ∈ q, b ∈ U) : ∀ q ∈ pools may p, ∀ b ∈ q, b ∈ U := fun q hq b hb => by
  obtain ⟨i, hi, e⟩ := List.mem_iff_getElem.mp hq
  have hi2 := hi
  rw [pools_len] at hi2
  have g := pools_at (may := may) hi2
  rw [List.getElem?_eq_getElem hi, e] at g
  cases g
  obtain ⟨j, hj, ej⟩ := List.mem_iff_getElem.mp (canon_has c hi2)
  have := (poolN_mem c hi2).mp hb j hj (by rw [getD_get hj, ej])
  have hj2 : j < may.length := by omega
  rw [getD_getL hj2] at this
  exact h _ (List.getElem_mem hj2) b this
theorem dec_optV {o : Option Nat} : decide (optV o = V.non) = o.isNone := by cases o <;> rfl
noncomputable def hide (c : Addr) (H : Hp) : Hp := fun a => if a = c then none else H a
theorem hide_some {c a : Addr} {H : Hp} {o : HO} (h : hide c H a = some o) : a ≠ c ∧ H a = some o := by
  unfold hide at h
  by_cases z : a = c
  · rw [if_pos z] at h; cases h
  · rw [if_neg z] at h; exact ⟨z, h⟩
theorem hide_of {c a : Addr} {H : Hp} {o : HO} (n : a ≠ c) (h : H a = some o) : hide c H a = some o := by
  unfold hide
  rw [if_neg n]; exact h
end L2
set_option Elab.async false
set_option linter.all false
set_option maxRecDepth 100000
namespace L2
open PySem PySem.Spec PyProof.Rows
theorem rows_copy {H3 H2 : Hp} {hs : List Addr} {may : List (List Int)} (hl : hs.length = may.length) (al : ∀ (i : Nat) r, hs[i]? = some r → H3 r = some (.lst ((may.getD i []).map V.int)) ∧ H2 r = none) : RowsL H3 hs may := RowsL.of hl fun i r p' e1 e2 => by
  have := (al i r e1).1
  rw [List.getD_eq_getElem?_getD, e2] at this
  exact this
theorem PoolsL.ref {K : PySem.W.Frag} {H : Hp} {rs : List Addr} {may : List (List Int)} (po : PoolsL K H rs may) {i : Nat} {x : V} (hx : (rs.map V.ref)[i]? = some x) : ∃ r, x = .ref r ∧ SqL K H r ((may.getD i []).map V.int) := by
  rw [List.getElem?_map] at hx
  obtain ⟨r, hr, rfl⟩ := Option.map_eq_some_iff.mp hx
  have hi : i < may.length := by rw [← po.len]; exact (List.getElem?_eq_some_iff.mp hr).1
  obtain ⟨r', e1, e2⟩ := po.at (List.getElem?_eq_getElem hi)
  rw [hr] at e1
  cases e1
  rw [← getD_getL hi] at e2
  exact ⟨r, rfl, e2⟩
theorem comp_copy {K : PySem.W.Frag} {H1 : Hp} {js : List (Option Nat)} {σ : L2.St} {te : TE} {Q : VK} {a : Addr} {rs : List Addr} {may : List (List Int)} (hl : SqL K H1 a (rs.map V.ref)) (po : PoolsL K H1 rs may) (m : may.length ≤ 1000)
    (he : ∀ r ys H2 R, SqL K H2 r ys → (∀ l, H2 l = none → R (.ref l) (upd H2 l (.lst ys))) → te (some (.ref r) :: pick σ js) H2 R)
    (hQ : ∀ acc (hs : List Addr) H', Same H1 H' → H1 acc = none → H' acc = some (.lst (hs.map V.ref)) → RowsL H' hs may → (∀ r ∈ hs, H1 r = none ∧ r ≠ acc) → Q (.ref acc) H') :
    CompB (Itl K a) H1 (none :: js) (gName 0) tYes te σ Q := by
  have rl : rs.length = may.length := po.len
  refine comp_lists (xs := rs.map V.ref) (fun i => (may.getD i []).map V.int) hl (by rw [List.length_map]; omega) (fun i x hx H3 R s3 k => ?_) fun hd hs H3 s3 nhd hhd hhs hall hne => ?_
  · obtain ⟨r, rfl, hq⟩ := (po.same s3).ref hx
    exact he r _ H3 R hq fun l nl => k l _ (Same.new nl) nl upd_same
  · rw [List.length_map, rl] at hhs
    refine hQ hd hs H3 s3 nhd hhd (rows_copy hhs hall) fun r hr => ⟨?_, hne r hr⟩
    obtain ⟨i, hi, ei⟩ := List.mem_iff_getElem.mp hr
    exact (hall i r (by rw [List.getElem?_eq_getElem hi, ei])).2
end L2
set_option Elab.async false
set_option linter.all false
set_option maxRecDepth 100000
namespace L2
open PySem PySem.Spec PyProof.Rows
section
variable {X : Cx}
theorem ixE (K : PySem.W.Frag) (h : X.K = K := by rfl) : IxR X (fun x y H Q => rIxL K x y H Q ∨ rIxT K x y H Q) := by subst h; exact ix_list.or ix_tup
theorem slE (K : PySem.W.Frag) (h : X.K = K := by rfl) : SlR X (fun x lo hi H Q => rSlL K x lo hi H Q ∨ rSlT K x lo hi H Q) := by subst h; exact sl_list.or sl_tup
end
theorem encA_again {as : List Int} {b : Int} (h : b ∈ as) : putK (encA as) (Sum.inl b) (V.bl true) = encA as := by
  have a : ((encA as).any fun kv => decide (kv.1 = Sum.inl b)) = true := by rw [valV_any, encA_val, if_pos h]; rfl
  unfold putK
  rw [if_pos a]
  unfold encA
  rw [List.map_map]
  refine List.map_congr_left fun c _ => ?_
  show (if (Sum.inl c : Key) = Sum.inl b then ((Sum.inl c : Key), V.bl true) else (Sum.inl c, V.bl true)) = (Sum.inl c, V.bl true)
  split <;> rfl
theorem encA_dd {as : List Int} {b : Int} : putK (encA as) (Sum.inl b) (V.bl true) = encA (dstep as b) := by
  unfold dstep
  by_cases h : b ∈ as
  · rw [if_pos h]; exact encA_again h
  · rw [if_neg h]; exact encA_put h
end L2
set_option Elab.async false
set_option linter.all false
set_option maxRecDepth 100000
namespace L2
open PySem PySem.Spec PyProof.Rows
end L2
set_option Elab.async false
set_option linter.all false
set_option maxRecDepth 100000
namespace L2
open PySem PySem.Spec PyProof.Rows
inductive GPap where
  | tie (j : Int)
  | short (bs : List Int)
  | split (ps : List GPap)
noncomputable instance : Inhabited GPap := ⟨.tie 0⟩
inductive GPapAt (H : Hp) : V → GPap → Prop where
  | tie {t : Addr} {j : Int} (ht : H t = some (.tup [.str "tie", .int j])) : GPapAt H (.ref t) (.tie j)
  | short {t l : Addr} {bs : List Int} (ht : H t = some (.tup [.str "short", .ref l])) (hl : H l = some (.lst (bs.map V.int))) : GPapAt H (.ref t) (.short bs)
  | split {t l : Addr} {vs : List V} {ps : List GPap} (ht : H t = some (.tup [.str "split", .ref l])) (hl : H l = some (.lst vs)) (hn : vs.length = ps.length) (h : ∀ (i : Nat) v q, vs[i]? = some v → ps[i]? = some q → GPapAt H v q) : GPapAt H (.ref t) (.split ps)
theorem GPapAt.same {H H' : Hp} {v : V} {q : GPap} (p : GPapAt H v q) (s : Same H H') : GPapAt H' v q := by
  induction p with
  | tie ht => exact .tie (s _ _ ht)
  | short ht hl => exact .short (s _ _ ht) (s _ _ hl)
  | split ht hl hn h ih => exact .split (s _ _ ht) (s _ _ hl) hn fun i v q e1 e2 => ih i v q e1 e2
noncomputable def risB (ns : List Int) : Bool := (List.range (ns.length - 1)).all fun k => decide (ns.getD k 0 < ns.getD (k + 1) 0)
theorem risB_iff {ns : List Int} : risB ns = true ↔ ns.Pairwise (· < ·) := by
  unfold risB
  rw [List.all_eq_true]
  constructor
  · intro h
    have st : ∀ i, i + 1 < ns.length → ns.getD i 0 < ns.getD (i + 1) 0 := fun i hi => of_decide_eq_true (h i (List.mem_range.mpr (by omega)))
    have lt : ∀ d i, i + d + 1 < ns.length → ns.getD i 0 < ns.getD (i + d + 1) 0 := by
      intro d
      induction d with
      | zero => intro i hi; exact st i hi
      | succ d ih => intro i hi; exact Int.lt_trans (ih i (by omega)) (st (i + d + 1) (by omega))
    rw [List.pairwise_iff_getElem]
    intro i j h1 h2 h3
    have := lt (j - i - 1) i (by omega)
    have e : i + (j - i - 1) + 1 = j := by omega
    rw [e, getD_get h1, getD_get h2] at this
    exact this
  · intro h i hi
    have := List.mem_range.mp hi
    have := List.pairwise_iff_getElem.mp h i (i + 1) (by omega) (by omega) (by omega)
    rw [getD_get (by omega), getD_get (by omega)]
    exact decide_eq_true this
noncomputable def poolsU (may : List (List Int)) (p : List Int) (bs : List Int) : List Int := bs.flatMap fun b => poolN may p b.toNat
noncomputable def inB (p : List Int) (bs : List Int) : Bool := bs.all fun b => decide (0 ≤ b ∧ b < (((dd p).length : Nat) : Int))
noncomputable def shortB (may : List (List Int)) (p : List Int) (bs : List Int) : Bool := risB bs && inB p bs && decide ((dd (poolsU may p bs)).length < bs.length)
theorem shortB_of {may : List (List Int)} {p : List Int} {bs : List Nat} (s : Short (pools may p) bs) : shortB may p (bs.map fun (i : Nat) => (i : Int)) = true := by
  obtain ⟨X, hX, hq⟩ := s.few
  have lt : ∀ q ∈ bs, q < (dd p).length := fun q m => by
    obtain ⟨r, e, _⟩ := hq q m
    have := (List.getElem?_eq_some_iff.mp e).1
    rw [pools_len] at this
    exact this
  unfold shortB
  rw [Bool.and_eq_true, Bool.and_eq_true]
  refine ⟨⟨risB_iff.mpr ?_, ?_⟩, decide_eq_true ?_⟩
  · rw [List.pairwise_map]
    exact s.up.imp fun h => by omega
  · refine List.all_eq_true.mpr fun b hb => ?_
    obtain ⟨q, hq', e⟩ := List.mem_map.mp hb
    have := lt q hq'
    exact decide_eq_true (by omega)
  · rw [List.length_map]
    refine Nat.lt_of_le_of_lt ((dd_nd _).length_le_of_subset (l₂ := X) fun x hx => ?_) hX
    obtain ⟨b, hb, hx⟩ := List.mem_flatMap.mp (dd_mem.mp hx)
    obtain ⟨q, hq', e⟩ := List.mem_map.mp hb
    obtain ⟨r, er, hr⟩ := hq q hq'
    rw [pools_at (lt q hq')] at er
    cases er
    rw [← e, Int.toNat_natCast] at hx
    exact hr x hx
theorem shortB_to {may : List (List Int)} {p : List Int} {bs : List Int} (h : shortB may p bs = true) : Short (pools may p) (bs.map Int.toNat) := by
  unfold shortB at h
  rw [Bool.and_eq_true, Bool.and_eq_true] at h
  obtain ⟨⟨h1, h2⟩, h3⟩ := h
  have up := risB_iff.mp h1
  have lt : ∀ b ∈ bs, 0 ≤ b ∧ b < (((dd p).length : Nat) : Int) := fun b hb => of_decide_eq_true (List.all_eq_true.mp h2 b hb)
  refine ⟨?_, dd (poolsU may p bs), by rw [List.length_map]; exact of_decide_eq_true h3, fun q hq => ?_⟩
  · rw [List.pairwise_map]
    refine List.Pairwise.imp_of_mem ?_ up
    intro a b ha hb h
    have := lt a ha
    have := lt b hb
    omega
  · obtain ⟨b, hb, e⟩ := List.mem_map.mp hq
    have := lt b hb
    refine ⟨_, pools_at (by omega), fun c hc => dd_mem.mpr (List.mem_flatMap.mpr ⟨b, hb, by rw [e]; exact hc⟩)⟩
inductive ShowsIs (may : List (List Int)) (ts : List Tie) : List Int → GPap → Bool → Prop where
  | tie {p : List Int} {j : Int} {t : Tie} (h0 : 0 ≤ j) (h : ts[j.toNat]? = some t) : ShowsIs may ts p (.tie j) (brk (fun i => p.getD i 0) p.length t.1 t.2.1 t.2.2)
  | noTie {p : List Int} {j : Int} (h : ¬ (0 ≤ j ∧ j < (ts.length : Int))) : ShowsIs may ts p (.tie j) false
  | short {p : List Int} {bs : List Int} : ShowsIs may ts p (.short bs) (shortB may p bs)
  | noSplit {p : List Int} {ps : List GPap} (h : ¬ (p.length < may.length ∧ ps.length = (dd p).length + 1)) : ShowsIs may ts p (.split ps) false
  | split {p : List Int} {ps : List GPap} {bs : List Bool} (hl : p.length < may.length) (hn : ps.length = (dd p).length + 1) (hb : bs.length = ps.length) (h : ∀ (j : Nat) (q : GPap) (b : Bool), ps[j]? = some q → bs[j]? = some b → ShowsIs may ts (p ++ [(j : Int)]) q b) : ShowsIs may ts p (.split ps) (bs.all id)
theorem ShowsIs.total {may : List (List Int)} {ts : List Tie} : ∀ (m : Nat) (p : List Int), may.length < p.length + m → ∀ g, ∃ b, ShowsIs may ts p g b := by
  intro m
  induction m with
  | zero =>
    intro p h g
    cases g with
    | tie j =>
      by_cases z : 0 ≤ j ∧ j < (ts.length : Int)
      · have : j.toNat < ts.length := by omega
        exact ⟨_, .tie z.1 (List.getElem?_eq_getElem this)⟩
      · exact ⟨_, .noTie z⟩
    | short bs => exact ⟨_, .short⟩
    | split ps => exact ⟨_, .noSplit fun z => by omega⟩
  | succ m ih =>
    intro p h g
    cases g with
    | tie j =>
      by_cases z : 0 ≤ j ∧ j < (ts.length : Int)
      · have : j.toNat < ts.length := by omega
        exact ⟨_, .tie z.1 (List.getElem?_eq_getElem this)⟩
      · exact ⟨_, .noTie z⟩
    | short bs => exact ⟨_, .short⟩
    | split ps =>
      by_cases z : p.length < may.length ∧ ps.length = (dd p).length + 1
      · have ex : ∀ j : Nat, ∃ b, ShowsIs may ts (p ++ [(j : Int)]) (ps.getD j default) b := fun j => ih _ (by simp; omega) _
        refine ⟨_, .split (bs := (List.range ps.length).map fun j => Classical.choose (ex j)) z.1 z.2 (by simp) fun j q b e1 e2 => ?_⟩
        have hj := (List.getElem?_eq_some_iff.mp e1).1
        rw [List.getElem?_map, List.getElem?_range hj] at e2
        have e2 : Classical.choose (ex j) = b := Option.some.inj e2
        have := Classical.choose_spec (ex j)
        rw [e2, List.getD_eq_getElem?_getD, e1] at this
        exact this
      · exact ⟨_, .noSplit z⟩
theorem ShowsIs.none {may : List (List Int)} {ts : List Tie} {p : List Int} {g : GPap} {b : Bool} (s : ShowsIs may ts p g b) : b = true → ∀ hs, Beg p hs → ¬ IsPlan may ts hs := by
  induction s with
  | tie h0 h =>
    intro e hs g pl
    have := pl.kp _ (List.mem_of_getElem? h)
    rw [g.brk e] at this
    cases this
  | noTie h => intro e; cases e
  | short => intro e hs g pl; exact g.short pl.of (shortB_to e)
  | noSplit h => intro e; cases e
  | @split p ps bs hl hn hb h ih =>
    intro e hs g pl
    obtain ⟨j, hj, g2⟩ := g.next (by rw [pl.len]; exact hl)
    have hj' : j < ps.length := by omega
    have hj2 : j < bs.length := by omega
    exact ih j ps[j] bs[j] (List.getElem?_eq_getElem hj') (List.getElem?_eq_getElem hj2) (List.all_eq_true.mp e _ (List.getElem_mem hj2)) hs g2 pl
inductive GBnd : GPap → Prop where
  | tie {j : Int} : GBnd (.tie j)
  | short {bs : List Int} (h : bs.length ≤ 1000) : GBnd (.short bs)
  | split {ps : List GPap} (h : ∀ q ∈ ps, GBnd q) : GBnd (.split ps)
end L2
set_option Elab.async false
set_option linter.all false
set_option maxRecDepth 100000
namespace L2
open PySem PySem.Spec PyProof.Rows
theorem Shows.isB {may : List (List Int)} {ts : List Tie} {p : List Int} {q : Pap} (s : Shows may ts p q) : p.length ≤ may.length → may.length ≤ 1000 → ∀ {H : Hp} {v : V}, PapAt H v q → ∃ g, GPapAt H v g ∧ GBnd g ∧ ShowsIs may ts p g true := by
  induction s with
  | @tie p j t h b =>
    intro _ _ H v a
    cases a with
    | tie ht =>
      have := ShowsIs.tie (may := may) (ts := ts) (p := p) (j := (j : Int)) (t := t) (by omega) (by rw [Int.toNat_natCast]; exact h)
      rw [b] at this
      exact ⟨.tie (j : Int), .tie ht, .tie, this⟩
  | @short p bs sh =>
    intro h1 h2 H v a
    cases a with
    | short ht hl =>
      have := ShowsIs.short (may := may) (ts := ts) (p := p) (bs := bs.map fun (i : Nat) => (i : Int))
      rw [shortB_of sh] at this
      have nd : bs.Nodup := sh.up.imp fun h => Nat.ne_of_lt h
      have le := nd.length_le_of_subset (l₂ := List.range (dd p).length) fun i hi => by
        obtain ⟨X, _, hq⟩ := sh.few
        obtain ⟨r, e, _⟩ := hq i hi
        have := (List.getElem?_eq_some_iff.mp e).1
        rw [pools_len] at this
        exact List.mem_range.mpr this
      rw [List.length_range] at le
      have := dd_len p
      exact ⟨_, .short ht (by rw [hl, List.map_map]; rfl), .short (by rw [List.length_map]; omega), by assumption⟩
  | @split p ps hl hn h ih =>
    intro h1 h2 H v a
    cases a with
    | @split t l vs _ ht hl' hvn hat =>
      have ex : ∀ j : Nat, ∃ g, j < ps.length → ∀ v', vs[j]? = some v' → GPapAt H v' g ∧ GBnd g ∧ ShowsIs may ts (p ++ [(j : Int)]) g true := fun j => by
        by_cases z : j < ps.length
        · have z2 : j < vs.length := by omega
          obtain ⟨g, g1, g2, g3⟩ := ih j ps[j] (List.getElem?_eq_getElem z) (by simp; omega) h2 (hat j vs[j] ps[j] (List.getElem?_eq_getElem z2) (List.getElem?_eq_getElem z))
          exact ⟨g, fun _ v' e => by rw [List.getElem?_eq_getElem z2] at e; cases e; exact ⟨g1, g2, g3⟩⟩
        · exact ⟨default, fun y => absurd y z⟩
      have gs : ((List.range ps.length).map fun j => Classical.choose (ex j)).length = ps.length := by simp
      refine ⟨.split ((List.range ps.length).map fun j => Classical.choose (ex j)), .split ht hl' (by omega) fun i v' q e1 e2 => ?_, .split fun q hq => ?_, ?_⟩
      · have hi := (List.getElem?_eq_some_iff.mp e2).1
        rw [gs] at hi
        rw [List.getElem?_map, List.getElem?_range hi] at e2
        have e2 : Classical.choose (ex i) = q := Option.some.inj e2
        rw [← e2]
        exact (Classical.choose_spec (ex i) hi v' e1).1
      · obtain ⟨i, hi, e⟩ := List.mem_map.mp hq
        have hi := List.mem_range.mp hi
        rw [← e]
        have z2 : i < vs.length := by omega
        exact (Classical.choose_spec (ex i) hi vs[i] (List.getElem?_eq_getElem z2)).2.1
      · have all : (List.replicate ps.length true).all id = true := List.all_eq_true.mpr fun x hx => List.eq_of_mem_replicate hx
        have fin : ShowsIs may ts p (.split ((List.range ps.length).map fun j => Classical.choose (ex j))) ((List.replicate ps.length true).all id) := by
          refine .split hl (by omega) (by simp) fun j q b e1 e2 => ?_
          have hj := (List.getElem?_eq_some_iff.mp e1).1
          rw [gs] at hj
          rw [List.getElem?_map, List.getElem?_range hj] at e1
          have e1 : Classical.choose (ex j) = q := Option.some.inj e1
          rw [List.getElem?_replicate, if_pos hj] at e2
          cases e2
          rw [← e1]
          have z2 : j < vs.length := by omega
          exact (Classical.choose_spec (ex j) hj vs[j] (List.getElem?_eq_getElem z2)).2.2
        rw [all] at fin
        exact fin
end L2
set_option Elab.async false
set_option linter.all false
set_option maxRecDepth 100000
namespace L2
open PySem PySem.Spec PyProof.Rows
theorem lo62 (n : Nat) : -(2 ^ 62) ≤ ((n : Nat) : Int) := by omega
theorem modN (c : Int) {n : Nat} (h : 0 < n) : ∃ m : Nat, m < n ∧ c % ((n : Nat) : Int) = ((m : Nat) : Int) := by
  have w1 := Int.emod_nonneg c (show ((n : Nat) : Int) ≠ 0 by omega)
  have w2 := Int.emod_lt_of_pos c (show (0 : Int) < ((n : Nat) : Int) by omega)
  exact ⟨(c % ((n : Nat) : Int)).toNat, by omega, by omega⟩
theorem ex1 {α : Type} {us : List α} (hl : us.length = 1) : ∃ a, us = [a] := by
  match us, hl with
  | [a], _ => exact ⟨a, rfl⟩
theorem ex2 {α : Type} {us : List α} (hl : us.length = 2) : ∃ a b, us = [a, b] := by
  match us, hl with
  | [a, b], _ => exact ⟨a, b, rfl⟩
theorem ex3 {α : Type} {us : List α} (hl : us.length = 3) : ∃ a b c, us = [a, b, c] := by
  match us, hl with
  | [a, b, c], _ => exact ⟨a, b, c, rfl⟩
theorem ex4 {α : Type} {us : List α} (hl : us.length = 4) : ∃ a b c d, us = [a, b, c, d] := by
  match us, hl with
  | [a, b, c, d], _ => exact ⟨a, b, c, d, rfl⟩
end L2
set_option Elab.async false
set_option linter.all false
set_option maxRecDepth 100000
namespace L2
open PySem PySem.Spec PyProof.Rows
section
variable {X : Cx}
end
section
variable {X : Cx}
end
end L2
set_option Elab.async false
set_option linter.all false
set_option maxRecDepth 100000
namespace L2
open PySem PySem.Spec PyProof.Rows
section
variable {prog : Program} {w : World} {A : Around} {E : Value → Shared → Prop} {h : Heap} {g : Array GenState} {d : PySem.Drawn} {t : Nat} {os : OsState} {a : Addr} {o : Obj}
end
section
variable {P : Program} {w : World} {A : Around} {R : Result → Shared → Prop} {p d I : Addr} {its : List Value} {vs : List (Key × Value)} {h0 : Heap}
end
section
variable {X : Cx}
end
end L2
set_option Elab.async false
set_option linter.all false
set_option maxRecDepth 100000
namespace L2
open PySem PySem.Spec PyProof.Rows
theorem pair_at {α β : Type} {F : α → β → Prop} {l : List α} {r : List β} {i : Nat} {a : α} (h : Paired F l r) (e : l[i]? = some a) : ∃ b, r[i]? = some b ∧ F a b := by
  induction h generalizing i with
  | nil => cases e
  | cons x t ih =>
    cases i with
    | zero => cases e; exact ⟨_, rfl, x⟩
    | succ i => exact ih e
end L2
set_option Elab.async false
set_option linter.all false
set_option maxRecDepth 100000
namespace L2
open PySem PySem.Spec PyProof.Rows
end L2
set_option Elab.async false
set_option linter.all false
set_option maxRecDepth 100000
namespace L2
open PySem PySem.Spec PyProof.Rows
end L2
set_option Elab.async false
set_option linter.all false
set_option maxRecDepth 100000
namespace L2
open PySem PySem.Spec PyProof.Rows
section
variable {X : Cx}
theorem cRange1 : CallR X (.type "range") (fun xs H Q => ∃ n : Nat, xs = [.int (n : Int)] ∧ n ≤ 1000 ∧ ∀ r, H r = none → Q (.ref r) (upd H r (.rng 0 (n : Int)))) := by
  intro pins s σ H xs us Q I r h
  obtain ⟨n, e, hn, q⟩ := h
  subst e
  obtain ⟨u, e, rx⟩ := vals1 r
  subst e
  obtain ⟨t, e⟩ := rx
  subst e
  refine call_range_1 ?_
  exact ⟨.ref s.heap.objs.size, _, I.laid (fun b o e => Heap.get?_push_of_some _ e) (Nat.le_refl _) (show ObjOk X.prog X.w _ _ _ (.rng 0 (n : Int)) from ⟨_, _, _, Heap.get?_push_size _ rfl⟩), rfl, q _ (I.hok.fresh (Nat.le_refl _))⟩
theorem cListR (K : PySem.W.Frag) (hc : X.calm = true := by rfl) (hK : X.K = K := by rfl) : CallR X (.type "list") (fun xs H Q => ∃ (r : Addr) (n : Nat), xs = [.ref r] ∧ H r = some (.rng 0 (n : Int)) ∧ n ≤ 1000 ∧ ∀ l, H l = none → Q (.ref l) (upd H l (.lst ((List.range n).map fun (i : Nat) => V.int (i : Int))))) := by
  subst hK
  intro pins s σ H xs us Q I r h
  obtain ⟨a, n, e, hr, hn, q⟩ := h
  subst e
  obtain ⟨u, e, rx⟩ := vals1 r
  subst e
  cases rx
  obtain ⟨t, u, v, ho⟩ := (show ObjOk X.prog X.w H s.heap a (.rng 0 (n : Int)) from I.hok a _ hr)
  have e0 : Builtin.Range.rangeSize 0 (n : Int) 1 = n := by rw [rangeSize_one]; split <;> omega
  refine call_list_range (n := n) (I.ok.hd hc) ho (small_one (by decide) (by decide) (by omega) (by omega)) e0 (Nat.le_trans hn (by decide)) fun h' tk acc' c' kp ho' ia => ?_
  refine ⟨.ref s.heap.objs.size, _, I.laid (t' := tk) kp (Nat.le_refl _) (show ObjOk X.prog X.w _ h' _ (.lst ((List.range n).map fun (i : Nat) => V.int (i : Int))) from ⟨by rw [List.length_map, List.length_range, sizeLine_eq]; omega, acc'.toList, c', ?_, ?_⟩), rfl, q _ (I.hok.fresh (Nat.le_refl _))⟩
  · refine paired_of (by rw [List.length_map, List.length_range, Array.length_toList]; exact ia.1.symm) fun i x y ex ey => ?_
    rw [List.getElem?_map] at ex
    obtain ⟨j, ej, rfl⟩ := Option.map_eq_some_iff.mp ex
    obtain ⟨hj, ej⟩ := List.getElem?_eq_some_iff.mp ej
    rw [List.getElem_range] at ej
    subst ej
    obtain ⟨t, e⟩ := ia.2 i y (by rw [← Array.getElem?_toList]; exact ey)
    exact ⟨t, by rw [e]; simp⟩
  · rw [Array.toArray_toList]; exact ho'
end
end L2
set_option Elab.async false
set_option linter.all false
set_option maxRecDepth 100000
namespace L2
open PySem PySem.Spec PyProof.Rows
theorem fs_at {β : Type} {f : Nat → Option β} {i : Nat} {x : β} (n : (List.range i).findSome? f = none) (e : f i = some x) : ∀ w, i < w → (List.range w).findSome? f = some x := by
  intro w
  induction w with
  | zero => intro h; cases h
  | succ w ih =>
    intro h
    rw [List.range_succ, List.findSome?_append]
    by_cases z : i = w
    · subst z
      rw [n]
      simp [e]
    · rw [ih (by omega)]; rfl
theorem fs_none {β : Type} {f : Nat → Option β} {i : Nat} (n : (List.range i).findSome? f = none) (e : f i = none) : (List.range (i + 1)).findSome? f = none := by
  rw [List.range_succ, List.findSome?_append, n]
  simp [e]
noncomputable def upToI (w : Nat) : List Int := (List.range w).map fun (i : Nat) => (i : Int)
noncomputable def hitTwo (may : List (List Int)) (p : List Int) (one two : Nat) : Option (List Int) := if shortB may p [(two : Int), (one : Int)] = true then some [(two : Int), (one : Int)] else none
noncomputable def hitOne (may : List (List Int)) (p : List Int) (one : Nat) : Option (List Int) := if shortB may p [(one : Int)] = true then some [(one : Int)] else (List.range one).findSome? (hitTwo may p one)
noncomputable def blocksF (may : List (List Int)) (p : List Int) : List Int :=
  ((List.range (dd p).length).findSome? (hitOne may p)).getD (if shortB may p (upToI (dd p).length) = true then upToI (dd p).length else [])
theorem blocksF_len {may : List (List Int)} {p : List Int} : (blocksF may p).length ≤ (dd p).length + 2 := by
  have ul : (upToI (dd p).length).length = (dd p).length := by unfold upToI; simp
  unfold blocksF
  cases e : (List.range (dd p).length).findSome? (hitOne may p) with
  | none =>
    show (if _ then _ else _ : List Int).length ≤ _
    split
    · rw [ul]; omega
    · exact Nat.zero_le _
  | some bs =>
    obtain ⟨one, _, h⟩ := List.exists_of_findSome?_eq_some e
    show bs.length ≤ _
    unfold hitOne at h
    split at h
    · cases h; show 1 ≤ _; omega
    · obtain ⟨two, _, h⟩ := List.exists_of_findSome?_eq_some h
      unfold hitTwo at h
      split at h
      · cases h; show 2 ≤ _; omega
      · cases h
noncomputable def hidA (lf : Addr) (H : Hp) : Hp := fun b => if b = lf then none else H b
theorem hidA_ne {lf b : Addr} {H : Hp} (h : b ≠ lf) : hidA lf H b = H b := if_neg h
theorem hidA_at {lf b : Addr} {H : Hp} {o : HO} (h : hidA lf H b = some o) : b ≠ lf ∧ H b = some o := by
  unfold hidA at h
  split at h
  · cases h
  · rename_i n; exact ⟨n, h⟩
theorem comp_cnt {H1 : Hp} {js : List (Option Nat)} {σ : L2.St} {te : TE} {Q : VK} {n : Nat} (P : Addr → List V → Hp → Prop) (hn : n < 100000)
    (mono : ∀ acc ys H o, P acc ys H → P acc ys (upd H acc o)) (h0 : ∀ acc, H1 acc = none → P acc [] (upd H1 acc (.lst [])))
    (he : ∀ acc (i : Nat) ys H2 R, i < n → H1 acc = none → H2 acc = some (.lst ys) → ys.length = i → P acc ys H2 → (∀ v H3, H3 acc = some (.lst ys) → P acc (ys ++ [v]) H3 → R v H3) → te (some (.int (0 + (i : Int))) :: pick σ js) H2 R)
    (hQ : ∀ acc ys H', H1 acc = none → H' acc = some (.lst ys) → ys.length = n → P acc ys H' → Q (.ref acc) H') :
    CompB (Itr 0 n) H1 (none :: js) (gName 0) tYes te σ Q := by
  intro acc hacc
  refine ⟨fun i m ys H => m = n - i ∧ i ≤ n ∧ H acc = some (.lst ys) ∧ ys.length = i ∧ P acc ys H, ⟨n, by simp, Nat.zero_le _, upd_same, rfl, h0 acc hacc⟩, ?_⟩
  rintro i m ys H ⟨rfl, hi, ha, hl, hp⟩
  by_cases hlt : i < n
  · refine .inr ⟨hlt, fun ys' H' => i < n ∧ H' acc = some (.lst ys') ∧ ys'.length = i + 1 ∧ P acc ys' H', fun ys' H' ⟨z, a, b, c⟩ => ⟨n - (i + 1), Nat.sub_succ_lt_self _ _ hlt, rfl, hlt, a, b, c⟩, fun x H' y => ?_⟩
    obtain ⟨rfl, rfl⟩ := y
    refine ⟨kept1, fun _ => ?_, fun hb => by cases hb⟩
    refine he acc i ys _ _ hlt hacc ha hl hp fun v H3 h3 pv => ⟨h3, szn (by omega), hlt, upd_same, by rw [List.length_append, List.length_singleton, hl], mono _ _ _ _ pv⟩
  · have e : i = n := Nat.le_antisymm hi (Nat.le_of_not_lt hlt)
    subst e
    exact .inl ⟨Nat.le_refl _, hQ acc ys H hacc ha hl hp⟩
theorem GPapAt.splitP {H : Hp} {t l : Addr} {vs : List V} {ps : List GPap} (ht : H t = some (.tup [.str "split", .ref l])) (hl : H l = some (.lst vs)) (h : Paired (GPapAt H) vs ps) : GPapAt H (.ref t) (.split ps) :=
  .split ht hl (Paired.length h) fun i v q e1 e2 => by
    obtain ⟨q', e3, g⟩ := pair_at h e1
    rw [e2] at e3
    cases e3
    exact g
theorem paps_same {H H' : Hp} {vs : List V} {ps : List GPap} (h : Paired (GPapAt H) vs ps) (s : Same H H') : Paired (GPapAt H') vs ps := Paired.mapP h fun _ _ g => g.same s
noncomputable def joinN (G H H' : Hp) : Hp := fun b => match H b with
  | none => H' b
  | some _ => G b
theorem jn_new {G H H' : Hp} {b : Addr} {o : HO} (h : H b = none) (e : H' b = some o) : joinN G H H' b = some o := by unfold joinN; rw [h]; exact e
theorem jn_at {G H H' : Hp} {b : Addr} {o : HO} (e : joinN G H H' b = some o) : (H b = none ∧ H' b = some o) ∨ ((∃ u, H b = some u) ∧ G b = some o) := by
  unfold joinN at e
  cases h : H b with
  | none => rw [h] at e; exact .inl ⟨rfl, e⟩
  | some u => rw [h] at e; exact .inr ⟨⟨u, rfl⟩, e⟩
noncomputable def noH : Hp := fun _ => none
theorem nw_at {H H' : Hp} {b : Addr} {o : HO} (e : joinN noH H H' b = some o) : H b = none ∧ H' b = some o := by
  rcases jn_at e with z | ⟨_, z⟩
  · exact z
  · cases z
theorem nw_sub {H H' : Hp} : Same (joinN noH H H') H' := fun b o e => (nw_at e).2
end L2
set_option Elab.async false
set_option linter.all false
set_option maxRecDepth 100000
namespace L2
open PySem PySem.Spec PyProof.Rows
noncomputable def hA (hs : List (Option Int)) (j : Nat) : Option Int := hs.getD j none
end L2
set_option Elab.async false
set_option linter.all false
set_option maxRecDepth 100000
namespace L2
open PySem PySem.Spec PyProof.Rows
section
variable {X : Cx}
end
end L2
set_option Elab.async false
set_option linter.all false
set_option maxRecDepth 100000
namespace L2
open PySem PySem.Spec PyProof.Rows
end L2
set_option Elab.async false
set_option linter.all false
set_option maxRecDepth 100000
namespace L2
open PySem PySem.Spec PyProof.Rows PySem.W
end L2
set_option Elab.async false
set_option linter.all false
set_option maxRecDepth 100000
namespace L2
open PySem PySem.Spec PyProof.Rows PySem.W
section
variable {prog : Program} {w : World} {A : Around} {E : Value → Shared → Prop} {s : Shared}
end
end L2
set_option Elab.async false
set_option linter.all false
set_option maxRecDepth 100000
namespace L2
open PySem PySem.Spec PyProof.Rows PySem.W
section
variable {X : Cx}
end
end L2
set_option Elab.async false
set_option linter.all false
namespace L2
open PySem PySem.Spec PyProof.Rows PySem.W
end L2
set_option Elab.async false
set_option linter.all false
set_option maxRecDepth 100000
namespace L2
open PySem PySem.Spec PyProof.Rows PySem.W
section
variable {prog : Program} {w : World} {A : Around} {E : Value → Shared → Prop} {s : Shared}
end
section
variable {X : Cx}
end
end L2
set_option Elab.async false
set_option linter.all false
set_option maxRecDepth 100000
namespace L2
open PySem PySem.Spec PyProof.Rows PySem.W
end L2
set_option Elab.async false
set_option linter.all false
set_option maxRecDepth 100000
namespace L2
open PySem PySem.Spec PyProof.Rows PySem.W
end L2
set_option Elab.async false
set_option linter.all false
set_option maxRecDepth 100000
namespace L2
open PySem PySem.Spec PyProof.Rows PySem.W
theorem vals_refs {as : List Addr} {us : List Value} (h : Vals (as.map V.ref) us) : us = as.map Value.ref := by
  induction as generalizing us with
  | nil => cases h; rfl
  | cons a as ih =>
    cases h with
    | cons r t => cases r; rw [ih t]; rfl
noncomputable def rInR (K : PySem.W.Frag) (neg : Bool) : R2 := fun x y H Q => ∃ (p : Addr) (as : List Addr) (d : Nat) (f : Addr → Bool), y = .ref p ∧ SqL K H p (as.map V.ref) ∧ d < 60 ∧ (∀ a ∈ as, DEq K H d (.ref a) x (f a)) ∧ Q (.bl (if neg then !as.any f else as.any f)) H
noncomputable def refB (f : Addr → Bool) : Value → Bool
  | .ref a => f a
  | _ => false
section
variable {X : Cx}
theorem any_refB (as : List Addr) (f : Addr → Bool) : (as.map Value.ref).toArray.any (refB f) = as.any f := by
  rw [List.any_toArray, List.any_map]; rfl
theorem inR (K : PySem.W.Frag) (hu : X.A.units + 64 < cLine) (hK : X.K = K := by rfl) : OpR X (compareOp .In) (rInR K false) := by
  subst hK
  intro pins s σ H x y v u Q I rx ry h
  obtain ⟨p, as, d, f, rfl, hq, hd, he, q⟩ := h
  cases ry
  obtain ⟨its, r, pl, hz⟩ := I.list hq
  have e1 := vals_refs r
  subst e1
  refine SeqAt.in_listAt (refB f) pl.isList (fun w hw => ?_) ⟨.bl _, H, I, rfl, ?_⟩
  · obtain ⟨a, ha, rfl⟩ : ∃ a ∈ as, Value.ref a = w := by simpa using hw
    exact (he a ha).at I (by show X.A.units + 1 + d < cLine; omega) rfl rx
  · rw [any_refB]; exact q
end
noncomputable def empB (H : Hp) (a : Addr) : Bool := match H a with
  | some (.lst l) => l.isEmpty
  | _ => false
theorem deq_emp {K : PySem.W.Frag} {H : Hp} {a b : Addr} {xs : List V} (h1 : H a = some (.lst xs)) (h2 : SqL K H b []) : DEq K H 1 (.ref a) (.ref b) (empB H a) := by
  unfold empB
  rw [h1]
  exact deq_nil (SqL.of h1) h2
end L2
set_option Elab.async false
set_option linter.all false
set_option maxRecDepth 100000
set_option maxHeartbeats 4000000
namespace My
seal L2.PE L2.PA L2.PS L2.PSs L2.PT L2.PW L2.PI L2.PG L2.PGs L2.PIf L2.PO L2.OpR L2.CallR L2.IxR L2.SlR L2.UnR
open PySem L2 PyProof.Rows
local macro_rules | `(tactic| walk_at "om") => `(tactic| first | assumption | (apply Nat.le_trans; assumption; exact Nat.le_of_ble_eq_true rfl) | (apply Nat.lt_of_le_of_lt; assumption; exact Nat.le_of_ble_eq_true rfl) | omega)
local macro_rules | `(tactic| walk_at "go") => `(tactic| repeat (first | refine ⟨_, rfl, ?_⟩ | refine ⟨_, _, rfl, rfl, (show (0 : Int) < _ by decide), ?_⟩ | refine ⟨_, _, rfl, rfl, (show CDiv _ _ from ⟨by decide, by decide⟩), ?_⟩ | refine ⟨_, _, rfl, rfl, (show CPow _ _ from ⟨by decide, by decide, by decide⟩), ?_⟩ | refine ⟨_, _, rfl, rfl, (show CMul _ _ from .inl ⟨by decide, by decide⟩), ?_⟩ | refine ⟨_, _, rfl, rfl, (show CMul _ _ from .inr ⟨by decide, by decide⟩), ?_⟩ | refine ⟨_, _, rfl, rfl, ?_⟩ | refine ⟨rfl, ?_⟩))
noncomputable def top (i : Nat) : Stmt := PySem.Challenge.pw_deskround_k26_whole_papers_are_sound.main.body.getD i (.Pass ⟨0, 0, 0, 0⟩)
noncomputable abbrev s_is_whole : Stmt := top 1
noncomputable abbrev s_is_rising : Stmt := top 2
noncomputable abbrev s_common : Stmt := top 3
noncomputable abbrev s_joined : Stmt := top 4
noncomputable abbrev s_width : Stmt := top 6
noncomputable abbrev s_grown : Stmt := top 7
noncomputable abbrev s_keeps : Stmt := top 9
noncomputable abbrev s_breaks : Stmt := top 10
noncomputable abbrev s_first_broken : Stmt := top 11
noncomputable abbrev s_unlike : Stmt := top 12
noncomputable abbrev s_pools_of : Stmt := top 14
noncomputable abbrev s_pool_of : Stmt := top 15
noncomputable abbrev s_shows : Stmt := top 16
noncomputable abbrev s_shows_for : Stmt := top 17
noncomputable abbrev s_tie_shows : Stmt := top 18
noncomputable abbrev s_short_shows : Stmt := top 19
noncomputable abbrev s_is_list_of_blocks : Stmt := top 20
noncomputable abbrev s_split_shows : Stmt := top 21
noncomputable abbrev s_is_split : Stmt := top 22
noncomputable abbrev s_deal : Stmt := top 24
noncomputable abbrev s_settle : Stmt := top 25
noncomputable abbrev s_short_places : Stmt := top 26
noncomputable abbrev s_hands_of : Stmt := top 27
noncomputable abbrev s_fits : Stmt := top 29
noncomputable abbrev s_plan : Stmt := top 30
noncomputable abbrev s_plan_from : Stmt := top 31
noncomputable abbrev s_law_cell : Stmt := top 33
noncomputable abbrev s_law_whole : Stmt := top 34
noncomputable abbrev s_law_menu : Stmt := top 35
noncomputable abbrev s_law_bond : Stmt := top 36
noncomputable abbrev s_law_drawn : Stmt := top 37
noncomputable abbrev s_law_unlike : Stmt := top 38
noncomputable abbrev s_law_breaks : Stmt := top 39
noncomputable abbrev s_law_in_all : Stmt := top 40
noncomputable abbrev s_law_pool : Stmt := top 41
noncomputable abbrev s_law_short : Stmt := top 42
noncomputable abbrev s_law_blocks : Stmt := top 43
noncomputable abbrev s_law_honest : Stmt := top 44
noncomputable abbrev s_law_harder : Stmt := top 45
noncomputable abbrev s_law_hands : Stmt := top 46
noncomputable abbrev s_law : Stmt := top 47
structure Txt (mg : Str → Option Value) : Prop where
  z_all : mg "all" = none
  z_bool : mg "bool" = none
  z_int : mg "int" = none
  z_isinstance : mg "isinstance" = none
  z_len : mg "len" = none
  z_list : mg "list" = none
  z_max : mg "max" = none
  z_min : mg "min" = none
  z_range : mg "range" = none
  z_set : mg "set" = none
  z_sorted : mg "sorted" = none
  z_tuple : mg "tuple" = none
  z_zip : mg "zip" = none
structure Dfs (K : PySem.W.Frag) (mg : Str → Option Value) (aF : Nat → Addr) (dF : Nat → FuncData) : Prop where
  is_whole : Def K mg "is_whole" s_is_whole ["thing"] (aF 0) (dF 0)
  is_rising : Def K mg "is_rising" s_is_rising ["numbers"] (aF 1) (dF 1)
  common : Def K mg "common" s_common ["one", "other"] (aF 2) (dF 2)
  joined : Def K mg "joined" s_joined ["one", "other"] (aF 3) (dF 3)
  width : Def K mg "width" s_width ["pattern"] (aF 4) (dF 4)
  grown : Def K mg "grown" s_grown ["pattern"] (aF 5) (dF 5)
  keeps : Def K mg "keeps" s_keeps ["hands", "tie"] (aF 6) (dF 6)
  breaks : Def K mg "breaks" s_breaks ["pattern", "tie"] (aF 7) (dF 7)
  first_broken : Def K mg "first_broken" s_first_broken ["pattern", "ties"] (aF 8) (dF 8)
  unlike : Def K mg "unlike" s_unlike ["row", "steps"] (aF 9) (dF 9)
  pools_of : Def K mg "pools_of" s_pools_of ["pattern", "may"] (aF 10) (dF 10)
  pool_of : Def K mg "pool_of" s_pool_of ["block", "pattern", "may"] (aF 11) (dF 11)
  shows : Def K mg "shows" s_shows ["may", "ties", "paper"] (aF 12) (dF 12)
  shows_for : Def K mg "shows_for" s_shows_for ["pattern", "may", "ties", "paper"] (aF 13) (dF 13)
  tie_shows : Def K mg "tie_shows" s_tie_shows ["pattern", "ties", "place"] (aF 14) (dF 14)
  short_shows : Def K mg "short_shows" s_short_shows ["pattern", "may", "blocks"] (aF 15) (dF 15)
  is_list_of_blocks : Def K mg "is_list_of_blocks" s_is_list_of_blocks ["pattern", "blocks"] (aF 16) (dF 16)
  split_shows : Def K mg "split_shows" s_split_shows ["pattern", "may", "ties", "papers"] (aF 17) (dF 17)
  is_split : Def K mg "is_split" s_is_split ["pattern", "count", "papers"] (aF 18) (dF 18)
  deal : Def K mg "deal" s_deal ["pools"] (aF 19) (dF 19)
  settle : Def K mg "settle" s_settle ["pools", "holders", "place", "asked"] (aF 20) (dF 20)
  short_places : Def K mg "short_places" s_short_places ["holders", "place", "asked"] (aF 21) (dF 21)
  hands_of : Def K mg "hands_of" s_hands_of ["holders", "count"] (aF 22) (dF 22)
  fits : Def K mg "fits" s_fits ["may", "ties", "hands"] (aF 23) (dF 23)
  plan : Def K mg "plan" s_plan ["may", "ties"] (aF 24) (dF 24)
  plan_from : Def K mg "plan_from" s_plan_from ["pattern", "may", "ties"] (aF 25) (dF 25)
  law_cell : Def K mg "_law_cell" s_law_cell ["script", "k"] (aF 26) (dF 26)
  law_whole : Def K mg "_law_whole" s_law_whole ["found"] (aF 27) (dF 27)
  law_menu : Def K mg "_law_menu" s_law_menu ["script", "at", "wide"] (aF 28) (dF 28)
  law_bond : Def K mg "_law_bond" s_law_bond ["cell", "many"] (aF 29) (dF 29)
  law_drawn : Def K mg "_law_drawn" s_law_drawn ["script", "top"] (aF 30) (dF 30)
  law_unlike : Def K mg "_law_unlike" s_law_unlike ["things", "steps"] (aF 31) (dF 31)
  law_breaks : Def K mg "_law_breaks" s_law_breaks ["pattern", "tie"] (aF 32) (dF 32)
  law_in_all : Def K mg "_law_in_all" s_law_in_all ["badge", "lists", "steps"] (aF 33) (dF 33)
  law_pool : Def K mg "_law_pool" s_law_pool ["pattern", "lists", "block"] (aF 34) (dF 34)
  law_short : Def K mg "_law_short" s_law_short ["pattern", "lists", "blocks"] (aF 35) (dF 35)
  law_blocks : Def K mg "_law_blocks" s_law_blocks ["pattern", "lists"] (aF 36) (dF 36)
  law_honest : Def K mg "_law_honest" s_law_honest ["pattern", "lists", "ties"] (aF 37) (dF 37)
  law_harder : Def K mg "_law_harder" s_law_harder ["script", "menu", "lists", "ties"] (aF 38) (dF 38)
  law_hands : Def K mg "_law_hands" s_law_hands ["script", "at", "lists"] (aF 39) (dF 39)
  law : Def K mg "law" s_law ["script"] (aF 40) (dF 40)
section
variable {P : Program} {w : World} {K : PySem.W.Frag} {mg : Str → Option Value} {base : Heap} {aF : Nat → Addr} {dF : Nat → FuncData}
noncomputable def sp_is_whole (K : PySem.W.Frag) : Sp := fun vs H Q _ => ∃ (i : Int), vs = [.int i] ∧ Q (.bl true) H
theorem sc_is_whole : FnScope ["thing"] ["thing"] (defScope s_is_whole) := ⟨rfl, rfl, rfl, by decide +kernel, rfl, by decide +kernel, by decide +kernel⟩
theorem ok_is_whole (D : Dfs K mg aF dF) (T : Txt mg) : FnOk P w K mg base CX0 1 (aF 0) (dF 0) ["thing"] (sp_is_whole K) := by
  refine D.is_whole.fn.ok sc_is_whole (fun vs H Q E h => ?_) (fun cdv A outer s H vs Q E hr h => ?_)
  · obtain ⟨i, rfl, _⟩ := h; rfl
  · have hu := hu_of hr
    obtain ⟨i, rfl, q⟩ := h
    refine ⟨_, (pss_one (ps_ret (pe_and (pe_callB (cIsi K) (by rfl) T.z_isinstance boot_isinstance (pa_cons (pv 0) (pa_cons (ty_int T.z_int) pa_nil))) (pe_one (pe_not (pe_callB (cIsi K) (by rfl) T.z_isinstance boot_isinstance (pa_cons (pv 0) (pa_cons (ty_bool T.z_bool) pa_nil)))))))), ?_⟩
    exact ⟨_, rfl, _, _, _, true, rfl, .int _, rfl, _, rfl, iteT ⟨_, rfl, _, _, _, false, rfl, .int _, rfl, _, rfl, q⟩⟩
noncomputable def sp_is_rising (K : PySem.W.Frag) : Sp := fun vs H Q _ => ∃ (a : Addr) (ns : List Int), vs = [.ref a] ∧ SqL K H a (ns.map V.int) ∧ ns.length ≤ 1000 ∧ ∀ H', Same H H' → Q (.bl (risB ns)) H'
theorem sc_is_rising : FnScope ["numbers"] ["numbers"] (defScope s_is_rising) := ⟨rfl, rfl, rfl, by decide +kernel, rfl, by decide +kernel, by decide +kernel⟩
theorem ok_is_rising (D : Dfs K mg aF dF) (T : Txt mg) : FnOk P w K mg base CX0 1 (aF 1) (dF 1) ["numbers"] (sp_is_rising K) := by
  refine D.is_rising.fn.ok sc_is_rising (fun vs H Q E h => ?_) (fun cdv A outer s H vs Q E hr h => ?_)
  · obtain ⟨a, ns, rfl, _⟩ := h; rfl
  · have hu := hu_of hr
    obtain ⟨a, ns, rfl, hS, hl, q⟩ := h
    refine ⟨_, (pss_one (ps_ret (pe_callB (cAll K) (by rfl) T.z_all boot_all (pa_cons (pe_lcomp ["place", "numbers"] [none, some 0] rfl (pi_range2 rfl T.z_range (pa_cons pe_int (pa_cons (pe_callB (cLen K) (by rfl) T.z_len boot_len (pa_cons (pv 0) pa_nil)) pa_nil))) (fun _ => pg_name (i := 0) (nodupN (N := ["place", "numbers"]) (by decide +kernel)) rfl (Or.inl rfl)) (fun _ => pif_nil) (fun _ => (pe_cmpR op_lt (pe_ix (ixL K) (pv 1) (pe_op op_sub (pv 0) pe_int) (fun _ _ => rfl)) (pe_ix (ixL K) (pv 1) (pv 0) (fun _ _ => rfl)) (nomark _))) ((.cons (fun _ e => by cases e) (.cons (fun _ e => by cases e; exact ⟨rfl, rfl⟩) .nil)))) pa_nil)))), ?_⟩
    refine ⟨_, rfl, _, _, rfl, .inl ⟨_, hS, rfl⟩, _, _, rfl, ⟨by decide, by decide, by walk_at "om", ?_⟩, ?_⟩
    · rw [List.length_map]; walk_at "om"
    rw [List.length_map]
    have e : ((ns.length : Int) - 1).toNat = ns.length - 1 := Int.toNat_sub ns.length 1
    rw [e]
    refine comp_range (n := ns.length - 1) (fun k => .bl (decide (ns.getD k 0 < ns.getD (k + 1) 0))) (by walk_at "om") (fun i hi H2 R s2 k => ?_) fun acc H' s1 n1 h1 => ?_
    · have e1 : (1 : Int) + (i : Int) - 1 = (i : Int) := by rw [Int.add_comm]; exact Int.add_sub_cancel _ _
      have e2 : (1 : Int) + (i : Int) = ((i + 1 : Nat) : Int) := by walk_at "om"
      refine ⟨_, rfl, _, rfl, _, _, rfl, rfl, a, _, _, _, rfl, rfl, s2.seq hS, by rw [e1]; exact atI_int (by walk_at "om"), _, rfl, _, rfl, a, _, _, _, rfl, rfl, s2.seq hS, by rw [e2]; exact atI_int (by walk_at "om"), _, _, rfl, rfl, k H2 (Same.refl _)⟩
    · refine ⟨acc, (List.range (ns.length - 1)).map fun k => decide (ns.getD k 0 < ns.getD (k + 1) 0), rfl, SqL.of ?_, ?_⟩
      · rw [h1, List.map_map]; rfl
      · rw [List.all_map]
        exact q H' s1
noncomputable def sp_common (K : PySem.W.Frag) : Sp := spW K 0
theorem sc_common : FnScope ["one", "other"] ["one", "other"] (defScope s_common) := ⟨rfl, rfl, rfl, by decide +kernel, rfl, by decide +kernel, by decide +kernel⟩
theorem ok_common (D : Dfs K mg aF dF) (T : Txt mg) : FnOk P w K mg base CX0 1 (aF 2) (dF 2) ["one", "other"] (sp_common K) := by
  refine D.common.fn.ok sc_common (fun vs H Q E h => ?_) (fun cdv A outer s H vs Q E hr h => ?_)
  · obtain ⟨a, b, F, S, U, rfl, _⟩ := h; rfl
  · have hu := hu_of hr
    obtain ⟨a, b, F, S, U, rfl, bo, q⟩ := h
    refine ⟨_, (pss_one (ps_ret (pe_callB (cSortedS w) (by rfl) T.z_sorted boot_sorted (pa_cons (pe_op (op_sand w) (pe_callTy (cSet w K) (by rfl) T.z_set PyProof.Rows.boot_set (pa_cons (pv 0) pa_nil)) (pe_callTy (cSet w K) (by rfl) T.z_set PyProof.Rows.boot_set (pa_cons (pv 1) pa_nil))) pa_nil)))), ?_⟩
    have h1 := bo.l1
    have h2 := bo.l2
    refine ⟨_, rfl, a, F, rfl, bo.fa, by walk_at "om", fun s1 n1 => ⟨_, rfl, b, S, rfl, (Same.new n1).seq bo.sb, by walk_at "om", fun s2 n2 => ?_⟩⟩
    have d1 := dd_len F
    have d2 := dd_len S
    have n12 : s1 ≠ s2 := fun z => by rw [← z, upd_same] at n2; cases n2
    refine ⟨s1, s2, dd F, dd S, rfl, rfl, n12, by rw [upd_ne n12]; exact upd_same, upd_same, by walk_at "om", by walk_at "om", fun c ks nc nd hm => ?_⟩
    have lk : ks.length ≤ F.length := nd.length_le_of_subset fun x hx => dd_mem.mp ((hm x).mp hx).1
    refine ⟨c, ks, rfl, upd_same, by walk_at "om", fun l ms nl pm sr => ?_⟩
    refine q l ms _ ⟨(((Same.new n1).to n2).to nc).to nl, (((Same.new n1).to (o := .ext (SX w s2 (dd S))) n2).to (o := .ext (SX w c ks)) nc).free nl, upd_same, sort_lt sr (pm.nodup_iff.mpr nd), fun x => ?_⟩
    rw [pm.mem_iff, hm x]
    dsimp only
    rw [dd_mem, dd_mem]
    exact Iff.rfl
noncomputable def sp_joined (K : PySem.W.Frag) : Sp := spW K 1
theorem sc_joined : FnScope ["one", "other"] ["one", "other"] (defScope s_joined) := ⟨rfl, rfl, rfl, by decide +kernel, rfl, by decide +kernel, by decide +kernel⟩
theorem ok_joined (D : Dfs K mg aF dF) (T : Txt mg) : FnOk P w K mg base CX0 1 (aF 3) (dF 3) ["one", "other"] (sp_joined K) := by
  refine D.joined.fn.ok sc_joined (fun vs H Q E h => ?_) (fun cdv A outer s H vs Q E hr h => ?_)
  · obtain ⟨a, b, F, S, U, rfl, _⟩ := h; rfl
  · have hu := hu_of hr
    obtain ⟨a, b, F, S, U, rfl, bo, q⟩ := h
    refine ⟨_, (pss_one (ps_ret (pe_callB (cSortedS w) (by rfl) T.z_sorted boot_sorted (pa_cons (pe_op (op_sor w) (pe_callTy (cSet w K) (by rfl) T.z_set PyProof.Rows.boot_set (pa_cons (pv 0) pa_nil)) (pe_callTy (cSet w K) (by rfl) T.z_set PyProof.Rows.boot_set (pa_cons (pv 1) pa_nil))) pa_nil)))), ?_⟩
    have h1 := bo.l1
    have h2 := bo.l2
    refine ⟨_, rfl, a, F, rfl, bo.fa, by walk_at "om", fun s1 n1 => ⟨_, rfl, b, S, rfl, (Same.new n1).seq bo.sb, by walk_at "om", fun s2 n2 => ?_⟩⟩
    have d1 := dd_len F
    have d2 := dd_len S
    have n12 : s1 ≠ s2 := fun z => by rw [← z, upd_same] at n2; cases n2
    refine ⟨s1, s2, dd F, dd S, rfl, rfl, n12, by rw [upd_ne n12]; exact upd_same, upd_same, by walk_at "om", by walk_at "om", fun c ks nc nd hm => ?_⟩
    have lk : ks.length ≤ U.length := nd.length_le_of_subset fun x hx => ((hm x).mp hx).elim (fun h => bo.fu x (dd_mem.mp h)) fun h => bo.su x (dd_mem.mp h)
    have ul := bo.ul
    refine ⟨c, ks, rfl, upd_same, by walk_at "om", fun l ms nl pm sr => ?_⟩
    refine q l ms _ ⟨(((Same.new n1).to n2).to nc).to nl, (((Same.new n1).to (o := .ext (SX w s2 (dd S))) n2).to (o := .ext (SX w c ks)) nc).free nl, upd_same, sort_lt sr (pm.nodup_iff.mpr nd), fun x => ?_⟩
    rw [pm.mem_iff, hm x]
    dsimp only
    rw [dd_mem, dd_mem]
    exact Iff.rfl
noncomputable def sp_width (K : PySem.W.Frag) : Sp := fun vs H Q _ => ∃ (a : Addr) (ps : List Int), vs = [.ref a] ∧ SqL K H a (ps.map V.int) ∧ ps.length ≤ 6 ∧ ∀ H', Same H H' → Q (.int (((dd ps).length : Nat) : Int)) H'
theorem sc_width : FnScope ["pattern"] ["pattern"] (defScope s_width) := ⟨rfl, rfl, rfl, by decide +kernel, rfl, by decide +kernel, by decide +kernel⟩
theorem ok_width (D : Dfs K mg aF dF) (T : Txt mg) : FnOk P w K mg base CX0 1 (aF 4) (dF 4) ["pattern"] (sp_width K) := by
  refine D.width.fn.ok sc_width (fun vs H Q E h => ?_) (fun cdv A outer s H vs Q E hr h => ?_)
  · obtain ⟨a, ps, rfl, _⟩ := h; rfl
  · have hu := hu_of hr
    obtain ⟨a, ps, rfl, ha, h6, q⟩ := h
    refine ⟨_, (pss_one (ps_ret (pe_callB (cLenS w) (by rfl) T.z_len boot_len (pa_cons (pe_callTy (cSet w K) (by rfl) T.z_set PyProof.Rows.boot_set (pa_cons (pv 0) pa_nil)) pa_nil)))), ?_⟩
    exact ⟨_, rfl, a, ps, rfl, ha, by walk_at "om", fun S nS => ⟨S, _, rfl, upd_same, q _ (Same.new nS)⟩⟩
noncomputable def sp_grown (K : PySem.W.Frag) : Sp := fun vs H Q _ => ∃ (a : Addr) (ps : List Int), vs = [.ref a] ∧ H a = some (.lst (ps.map V.int)) ∧ ps.length ≤ 6 ∧
  ∀ l (rs : List Addr) H', Same H H' → H l = none → H' l = some (.lst (rs.map V.ref)) → rs.length = (dd ps).length + 1 → (∀ (i : Nat) r, rs[i]? = some r → H' r = some (.lst ((ps ++ [(i : Int)]).map V.int)) ∧ H r = none) → Q (.ref l) H'
theorem sc_grown : FnScope ["pattern"] ["pattern"] (defScope s_grown) := ⟨rfl, rfl, rfl, by decide +kernel, rfl, by decide +kernel, by decide +kernel⟩
theorem ok_grown (D : Dfs K mg aF dF) (T : Txt mg) : FnOk P w K mg base CX0 2 (aF 5) (dF 5) ["pattern"] (sp_grown K) := by
  have Gwidth : FnOk P w K mg base CX0 1 (aF 4) (dF 4) ["pattern"] (sp_width K) := ok_width D T
  refine D.grown.fn.ok sc_grown (fun vs H Q E h => ?_) (fun cdv A outer s H vs Q E hr h => ?_)
  · obtain ⟨a, ps, rfl, _⟩ := h; rfl
  · have hu := hu_of hr
    obtain ⟨a, ps, rfl, ha, h6, q⟩ := h
    refine ⟨_, (pss_one (ps_ret (pe_lcomp ["number", "pattern"] [none, some 0] rfl (pi_range1 rfl T.z_range (pa_cons (pe_op op_add (pc D.width Gwidth (hr.mono (by decide)) (pa_cons (pv 0) pa_nil)) pe_int) pa_nil)) (fun _ => pg_name (i := 0) (nodupN (N := ["number", "pattern"]) (by decide +kernel)) rfl (Or.inl rfl)) (fun _ => pif_nil) (fun _ => (pe_op op_cat (pv 1) (pe_lst (pa_cons (pv 0) pa_nil)))) ((.cons (fun _ e => by cases e) (.cons (fun _ e => by cases e; exact ⟨rfl, rfl⟩) .nil)))))), ?_⟩
    refine ⟨_, rfl, a, ps, rfl, SqL.of ha, h6, fun H1 s1 => ?_⟩
    have dl := dd_len ps
    refine ⟨_, _, rfl, rfl, _, rfl, lo62 _, by walk_at "om", ?_⟩
    have e0 : (((dd ps).length : Int) + 1).toNat = (dd ps).length + 1 := by walk_at "om"
    rw [e0]
    refine comp_rlists (n := (dd ps).length + 1) (fun i => (ps ++ [(i : Int)]).map V.int) (by walk_at "om") (fun i hi H2 R s2 k => ?_) fun acc rs H2 s2 nacc hacc hrs hall hne => ?_
    · have ei : (0 : Int) + (i : Int) = ((i : Nat) : Int) := by walk_at "om"
      rw [ei]
      refine ⟨_, rfl, _, rfl, szr, fun p np => ?_⟩
      have ha2 := (s1.trans s2) _ _ ha
      refine ⟨a, p, _, _, rfl, rfl, Same.new np _ _ ha2, upd_same, by rw [List.length_map]; exact szl (by simp; walk_at "om"), fun r nr => ?_⟩
      have e : ps.map V.int ++ [V.int ((i : Nat) : Int)] = (ps ++ [(i : Int)]).map V.int := by rw [List.map_append]; rfl
      rw [e]
      exact k r _ ((Same.new np).to nr) ((Same.new np).free nr) upd_same
    · exact q acc rs H2 (s1.trans s2) (s1.free nacc) hacc hrs fun i r hr => ⟨(hall i r hr).1, s1.free (hall i r hr).2⟩
noncomputable def sp_unlike (K : PySem.W.Frag) : Sp := fun vs H Q _ => ∃ (a t : Addr) (hs : List Int) (st : List Nat), vs = [.ref a, .ref t] ∧ SqL K H a (hs.map V.int) ∧ (SqL K H t (st.map fun (i : Nat) => V.int (i : Int)) ∨ SqT K H t (st.map fun (i : Nat) => V.int (i : Int))) ∧ (∀ i ∈ st, i < hs.length) ∧ st.length ≤ 6 ∧
  ∀ H', Same H H' → Q (.int ((unl (fun i => hs.getD i 0) st : Nat) : Int)) H'
theorem sc_unlike : FnScope ["row", "steps"] ["row", "steps"] (defScope s_unlike) := ⟨rfl, rfl, rfl, by decide +kernel, rfl, by decide +kernel, by decide +kernel⟩
theorem ok_unlike (D : Dfs K mg aF dF) (T : Txt mg) : FnOk P w K mg base CX0 1 (aF 9) (dF 9) ["row", "steps"] (sp_unlike K) := by
  refine D.unlike.fn.ok sc_unlike (fun vs H Q E h => ?_) (fun cdv A outer s H vs Q E hr h => ?_)
  · obtain ⟨a, t, hs, st, rfl, _⟩ := h; rfl
  · have hu := hu_of hr
    obtain ⟨a, t, hs, st, rfl, ha, ht, hlt, h6, q⟩ := h
    refine ⟨_, (pss_one (ps_ret (pe_callB (cLenS w) (by rfl) T.z_len boot_len (pa_cons (pe_callTy (cSet w K) (by rfl) T.z_set PyProof.Rows.boot_set (pa_cons (pe_lcomp ["step", "row"] [none, some 0] rfl (piE K (pv 1)) (fun _ => pg_name (i := 0) (nodupN (N := ["step", "row"]) (by decide +kernel)) rfl (Or.inl rfl)) (fun _ => pif_nil) (fun _ => (pe_ix (ixL K) (pv 1) (pv 0) (fun _ _ => rfl))) ((.cons (fun _ e => by cases e) (.cons (fun _ e => by cases e; exact ⟨rfl, rfl⟩) .nil)))) pa_nil)) pa_nil)))), ?_⟩
    have fin : ∀ acc H2, Same H H2 → H2 acc = some (.lst ((st.map fun i => hs.getD i 0).map V.int)) → ∀ S, H2 S = none → Q (.int ((unl (fun i => hs.getD i 0) st : Nat) : Int)) (upd H2 S (.ext (SX w S (dd (st.map fun i => hs.getD i 0))))) := fun acc H2 s2 _ S nS => q _ (s2.to nS)
    refine ⟨_, rfl, t, rfl, ?_⟩
    rcases ht with ht | ht
    · refine .inl ⟨⟨_, ht⟩, comp_list2 (xs := st.map fun (i : Nat) => V.int (i : Int)) (fun _ => true) (fun j => .int (hs.getD (st.getD j 0) 0)) ht (by rw [List.length_map]; walk_at "om") (fun _ _ _ _ _ _ k => k _ (Same.refl _)) (fun j x hx _ H2 R s2 k => ?_) fun acc H2 s2 nacc hacc => ?_⟩
      · obtain ⟨d, hd, rfl, ed⟩ := at_nat hx
        rw [ed] at k
        exact ⟨_, rfl, _, rfl, a, _, _, _, rfl, rfl, s2.seq ha, atI_int (hlt d (List.mem_of_getElem? hd)), k _ (Same.refl _)⟩
      rw [all_at] at hacc
      exact ⟨acc, st.map fun i => hs.getD i 0, rfl, SqL.of hacc, by rw [List.length_map]; walk_at "om", fun S nS => ⟨S, _, rfl, upd_same, fin acc H2 s2 hacc S nS⟩⟩
    · refine .inr ⟨⟨_, ht⟩, comp_tup (xs := st.map fun (i : Nat) => V.int (i : Int)) (fun _ => true) (fun j => .int (hs.getD (st.getD j 0) 0)) ht (by rw [List.length_map]; walk_at "om") (fun _ _ _ _ _ _ k => k _ (Same.refl _)) (fun j x hx _ H2 R s2 k => ?_) fun acc H2 s2 nacc hacc => ?_⟩
      · obtain ⟨d, hd, rfl, ed⟩ := at_nat hx
        rw [ed] at k
        exact ⟨_, rfl, _, rfl, a, _, _, _, rfl, rfl, s2.seq ha, atI_int (hlt d (List.mem_of_getElem? hd)), k _ (Same.refl _)⟩
      rw [all_at] at hacc
      exact ⟨acc, st.map fun i => hs.getD i 0, rfl, SqL.of hacc, by rw [List.length_map]; walk_at "om", fun S nS => ⟨S, _, rfl, upd_same, fin acc H2 s2 hacc S nS⟩⟩
noncomputable def sp_keeps (K : PySem.W.Frag) : Sp := fun vs H Q _ => ∃ (a tp t : Addr) (hs : List Int) (st : List Nat) (wd : Str) (k : Int), vs = [.ref a, .ref tp] ∧ SqL K H a (hs.map V.int) ∧ SqT K H tp [.str wd, .int k, .ref t] ∧ SqT K H t (st.map fun (i : Nat) => V.int (i : Int)) ∧ (wd = "most" ∨ wd = "least") ∧ (∀ i ∈ st, i < hs.length) ∧ st.length ≤ 6 ∧
  ∀ H', Same H H' → Q (.bl (if wd = "most" then decide (((unl (fun i => hs.getD i 0) st : Nat) : Int) ≤ k) else decide (k ≤ ((unl (fun i => hs.getD i 0) st : Nat) : Int)))) H'
theorem sc_keeps : FnScope ["hands", "tie", "hands_there"] ["hands", "tie"] (defScope s_keeps) := ⟨rfl, rfl, rfl, by decide +kernel, rfl, by decide +kernel, by decide +kernel⟩
theorem ok_keeps (D : Dfs K mg aF dF) (T : Txt mg) : FnOk P w K mg base CX0 2 (aF 6) (dF 6) ["hands", "tie"] (sp_keeps K) := by
  have Gunlike : FnOk P w K mg base CX0 1 (aF 9) (dF 9) ["row", "steps"] (sp_unlike K) := ok_unlike D T
  refine D.keeps.fn.ok sc_keeps (fun vs H Q E h => ?_) (fun cdv A outer s H vs Q E hr h => ?_)
  · obtain ⟨a, tp, t, hs, st, wd, k, rfl, _⟩ := h; rfl
  · have hu := hu_of hr
    obtain ⟨a, tp, t, hs, st, wd, k, rfl, ha, htp, ht, hwd, hlt, h6, q⟩ := h
    refine ⟨_, (pss_cons (ps_set (i := 2) sc_keeps.nd rfl (Or.inl rfl) (pc D.unlike Gunlike (hr.mono (by decide)) (pa_cons (pv 0) (pa_cons (pe_ix (ixT K) (pv 1) pe_int (fun _ _ => rfl)) pa_nil))))
      (pss_cons (ps_if (pt_cmpR op_eq (pe_ix (ixT K) (pv 1) pe_int (fun _ _ => rfl)) pe_str (nomark _))
        (pss_one (ps_ret (pe_cmpR op_le (pv 2) (pe_ix (ixT K) (pv 1) pe_int (fun _ _ => rfl)) (nomark _))))
        pss_nil)
      (pss_one (ps_ret (pe_cmpR op_ge (pv 2) (pe_ix (ixT K) (pv 1) pe_int (fun _ _ => rfl)) (nomark _)))))), ?_⟩
    refine ⟨_, rfl, _, rfl, tp, _, _, _, rfl, rfl, htp, rfl, a, t, hs, st, rfl, ha, .inr ht, hlt, h6, fun H3 s3 => ?_⟩
    have q3 := q H3 s3
    refine ⟨_, rfl, tp, _, _, _, rfl, rfl, Same.seqT s3 htp, rfl, rfl, _, rfl, ?_⟩
    rcases hwd with e | e <;> subst e
    · refine iteT ?_
      rw [if_pos rfl] at q3
      exact ⟨_, rfl, _, rfl, tp, _, _, _, rfl, rfl, Same.seqT s3 htp, rfl, _, _, rfl, rfl, q3⟩
    · rw [decide_eq_false (by decide)]
      refine iteF ?_
      rw [if_neg (by decide)] at q3
      exact ⟨_, rfl, _, rfl, tp, _, _, _, rfl, rfl, Same.seqT s3 htp, rfl, _, _, rfl, rfl, q3⟩
noncomputable def sp_breaks (K : PySem.W.Frag) : Sp := fun vs H Q _ => ∃ (a tp t : Addr) (hs : List Int) (st : List Nat) (wd : Str) (k : Int), vs = [.ref a, .ref tp] ∧ SqL K H a (hs.map V.int) ∧ SqT K H tp [.str wd, .int k, .ref t] ∧ SqT K H t (st.map fun (i : Nat) => V.int (i : Int)) ∧ (wd = "most" ∨ wd = "least") ∧ st.length ≤ 6 ∧
  ∀ H', Same H H' → Q (.bl (brk (fun i => hs.getD i 0) hs.length wd k st)) H'
theorem sc_breaks : FnScope ["pattern", "tie", "steps", "numbers_there"] ["pattern", "tie"] (defScope s_breaks) := ⟨rfl, rfl, rfl, by decide +kernel, rfl, by decide +kernel, by decide +kernel⟩
theorem ok_breaks (D : Dfs K mg aF dF) (T : Txt mg) : FnOk P w K mg base CX0 2 (aF 7) (dF 7) ["pattern", "tie"] (sp_breaks K) := by
  have Gunlike : FnOk P w K mg base CX0 1 (aF 9) (dF 9) ["row", "steps"] (sp_unlike K) := ok_unlike D T
  refine D.breaks.fn.ok sc_breaks (fun vs H Q E h => ?_) (fun cdv A outer s H vs Q E hr h => ?_)
  · obtain ⟨a, tp, t, hs, st, wd, k, rfl, _⟩ := h; rfl
  · have hu := hu_of hr
    obtain ⟨a, tp, t, hs, st, wd, k, rfl, ha, htp, ht, hwd, h6, q⟩ := h
    refine ⟨_, (pss_cons (ps_setC (i₀ := 2) sc_breaks.nd rfl (Or.inl rfl) ["step", "pattern"] [none, some 0] rfl (piT K (pe_ix (ixT K) (pv 1) pe_int (fun _ _ => rfl))) (fun _ => pg_name (i := 0) (nodupN (N := ["step", "pattern"]) (by decide +kernel)) rfl (Or.inl rfl)) (fun _ => pif_one (pt_cmpR op_lt (pv 0) (pe_callB (cLen K) (by rfl) T.z_len boot_len (pa_cons (pv 1) pa_nil)) (nomark _))) (fun _ => (pv 0)) ((.cons (fun _ e => by cases e) (.cons (fun _ e => by cases e; exact ⟨rfl, rfl⟩) .nil))))
      (pss_cons (ps_set (i := 3) sc_breaks.nd rfl (Or.inl rfl) (pc D.unlike Gunlike (hr.mono (by decide)) (pa_cons (pv 0) (pa_cons (pv 2) pa_nil))))
      (pss_cons (ps_if (pt_cmpR op_eq (pe_ix (ixT K) (pv 1) pe_int (fun _ _ => rfl)) pe_str (nomark _))
        (pss_one (ps_ret (pe_cmpR op_gt (pv 3) (pe_ix (ixT K) (pv 1) pe_int (fun _ _ => rfl)) (nomark _))))
        pss_nil)
      (pss_one (ps_ret (pe_cmpR op_lt (pe_op op_sub (pe_op op_add (pv 3) (pe_callB (cLen K) (by rfl) T.z_len boot_len (pa_cons (pe_ix (ixT K) (pv 1) pe_int (fun _ _ => rfl)) pa_nil))) (pe_callB (cLen K) (by rfl) T.z_len boot_len (pa_cons (pv 2) pa_nil))) (pe_ix (ixT K) (pv 1) pe_int (fun _ _ => rfl)) (nomark _))))))), ?_⟩
    refine ⟨_, rfl, tp, _, _, _, rfl, rfl, htp, rfl, t, rfl, ⟨_, ht⟩, ?_⟩
    refine comp_tup (xs := st.map fun (i : Nat) => V.int (i : Int)) (fun j => decide (st.getD j 0 < hs.length)) (fun j => .int ((st.getD j 0 : Nat) : Int)) ht (by rw [List.length_map]; walk_at "om") (fun j x hx H2 R s2 k => ?_) (fun j x hx hp H2 R s2 k => ?_) fun acc H2 s2 nacc hacc => ?_
    · obtain ⟨d, hd, rfl, ed⟩ := at_nat hx
      rw [ed] at k
      refine ⟨_, rfl, _, rfl, _, _, rfl, .inl ⟨_, s2.seq ha, rfl⟩, _, _, rfl, rfl, _, rfl, ?_⟩
      have kk := k H2 (Same.refl _)
      rw [dec_lt] at kk
      rw [List.length_map]
      exact kk
    · obtain ⟨d, hd, rfl, ed⟩ := at_nat hx
      rw [ed] at k
      exact ⟨_, rfl, k _ (Same.refl _)⟩
    rw [List.length_map, sift (g := fun i => decide (i < hs.length)) (F := fun (i : Nat) => V.int (i : Int))] at hacc
    have fl : (st.filter fun i => decide (i < hs.length)).length ≤ st.length := List.length_filter_le ..
    refine ⟨_, rfl, _, rfl, a, acc, hs, st.filter fun i => decide (i < hs.length), rfl, s2.seq ha, .inl (SqL.of hacc), (fun i hi => of_decide_eq_true (List.mem_filter.mp hi).2), by walk_at "om", fun H3 s23 => ?_⟩
    have s3 := s2.trans s23
    have hacc3 := s23 _ _ hacc
    have q3 := q H3 s3
    refine ⟨_, rfl, tp, _, _, _, rfl, rfl, Same.seqT s3 htp, rfl, rfl, _, rfl, ?_⟩
    unfold brk at q3
    rcases hwd with e | e <;> subst e
    · refine iteT ?_
      rw [if_pos rfl] at q3
      exact ⟨_, rfl, _, rfl, tp, _, _, _, rfl, rfl, Same.seqT s3 htp, rfl, _, _, rfl, rfl, q3⟩
    · rw [decide_eq_false (by decide)]
      refine iteF ?_
      rw [if_neg (by decide)] at q3
      refine ⟨_, rfl, _, rfl, tp, _, _, _, rfl, rfl, Same.seqT s3 htp, rfl, _, _, rfl, .inr ⟨_, Same.seqT s3 ht, rfl⟩, _, _, rfl, rfl, _, rfl, _, _, rfl, .inl ⟨_, SqL.of hacc3, rfl⟩, _, _, rfl, rfl, _, rfl, tp, _, _, _, rfl, rfl, Same.seqT s3 htp, rfl, _, _, rfl, rfl, ?_⟩
      rw [List.length_map, List.length_map]
      exact q3
noncomputable def sp_first_broken (K : PySem.W.Frag) : Sp := fun vs H Q _ => ∃ (a b : Addr) (hs : List Int) (ts : List (Addr × Addr × Str × Int × List Nat)), vs = [.ref a, .ref b] ∧ SqL K H a (hs.map V.int) ∧ Ties K H b ts 100 ∧ ∀ H', Same H H' → Q (optV (fstB (fun i => hs.getD i 0) hs.length ts)) H'
theorem sc_first_broken : FnScope ["pattern", "ties", "place"] ["pattern", "ties"] (defScope s_first_broken) := ⟨rfl, rfl, rfl, by decide +kernel, rfl, by decide +kernel, by decide +kernel⟩
theorem ok_first_broken (D : Dfs K mg aF dF) (T : Txt mg) : FnOk P w K mg base CX0 3 (aF 8) (dF 8) ["pattern", "ties"] (sp_first_broken K) := by
  have Gbreaks : FnOk P w K mg base CX0 2 (aF 7) (dF 7) ["pattern", "tie"] (sp_breaks K) := ok_breaks D T
  refine D.first_broken.fn.ok sc_first_broken (fun vs H Q E h => ?_) (fun cdv A outer s H vs Q E hr h => ?_)
  · obtain ⟨a, b, hs, ts, rfl, _⟩ := h; rfl
  · have hu := hu_of hr
    obtain ⟨a, b, hs, ts, rfl, ha, tt, q⟩ := h
    refine ⟨_, (pss_cons (ps_for PassesOwn.never rfl (pi_range1 rfl T.z_range (pa_cons (pe_callB (cLen K) (by rfl) T.z_len boot_len (pa_cons (pv 1) pa_nil)) pa_nil)) (pg_name (i := 2) sc_first_broken.nd rfl (Or.inl rfl))
        (pss_one (ps_if (pt_val (pc D.breaks Gbreaks (hr.mono (by decide)) (pa_cons (pv 0) (pa_cons (pe_ix (ixL K) (pv 1) (pv 2) (fun _ _ => rfl)) pa_nil))))
          (pss_one (ps_ret (pv 2)))
          pss_nil)))
      (pss_one (ps_ret pe_non))), ?_⟩
    have ln := tt.ln
    have sl : (ts.map fun x => V.ref x.1).length = ts.length := by rw [List.length_map]
    refine ⟨_, rfl, _, _, rfl, .inl ⟨_, tt.ls, rfl⟩, _, rfl, lo62 _, by walk_at "om", ?_⟩
    have e0 : (((ts.map fun x => V.ref x.1).length : Nat) : Int).toNat = ts.length := by walk_at "om"
    rw [e0]
    refine for_range (n := ts.length) (fun i σ H1 => ∃ x : Option V, σ = [some (.ref a), some (.ref b), x] ∧ Same H H1 ∧ ∀ j, j < i → ∀ x, ts[j]? = some x → brk (fun i => hs.getD i 0) hs.length x.2.2.1 x.2.2.2.1 x.2.2.2.2 = false) ⟨none, rfl, Same.refl _, fun j h => by walk_at "om"⟩ ?_ ?_
    · rintro i σ H1 hi ⟨x, rfl, s1, no⟩
      have ei : (0 : Int) + (i : Int) = ((i : Nat) : Int) := by walk_at "om"
      rw [ei]
      have gi : ts[i]? = some ts[i] := List.getElem?_eq_getElem hi
      have te := tt.ea _ (List.getElem_mem hi)
      refine ⟨_, rfl, _, rfl, _, rfl, b, _, _, _, rfl, rfl, s1.seq tt.ls, atI_nat (by rw [List.getElem?_map, gi]; rfl), a, ts[i].1, ts[i].2.1, hs, ts[i].2.2.2.2, ts[i].2.2.1, ts[i].2.2.2.1, rfl, s1.seq ha, SqT.of (s1 _ _ te.tp), SqT.of (s1 _ _ te.ts), te.wd, te.sl, fun H2 s2 => ⟨_, rfl, ?_⟩⟩
      refine ifB (fun hb => ?_) fun hb => ?_
      · have e : fstB (fun i => hs.getD i 0) hs.length ts = some i := by
          unfold fstB
          rw [List.findIdx?_eq_some_iff_getElem]
          exact ⟨hi, hb, fun j hj => by
            have := no j hj _ (List.getElem?_eq_getElem (by walk_at "om"))
            simpa using this⟩
        have qq := q H2 (s1.trans s2)
        rw [e] at qq
        exact ⟨_, rfl, qq⟩
      · refine ⟨_, rfl, s1.trans s2, fun j hj x hx => ?_⟩
        by_cases z : j = i
        · subst z
          rw [gi] at hx
          cases hx
          exact hb
        · exact no j (by walk_at "om") x hx
    · rintro σ H1 ⟨x, rfl, s1, no⟩
      have e : fstB (fun i => hs.getD i 0) hs.length ts = none := by
        unfold fstB
        rw [List.findIdx?_eq_none_iff]
        intro x hx
        obtain ⟨j, hj, ej⟩ := List.mem_iff_getElem.mp hx
        exact no j hj x (by rw [List.getElem?_eq_getElem hj, ej])
      have qq := q H1 s1
      rw [e] at qq
      exact qq
noncomputable def sp_pool_of (K : PySem.W.Frag) : Sp := fun vs H Q _ => ∃ (b : Nat) (pa ma : Addr) (p : List Int) (rs : List Addr) (may : List (List Int)) (U : List Int), vs = [.int ((b : Nat) : Int), .ref pa, .ref ma] ∧ SqL K H pa (p.map V.int) ∧ May K H ma rs may U ∧ Canon p ∧ b < (dd p).length ∧ p.length ≤ may.length ∧
  ∀ l H', Same H H' → H l = none → H' l = some (.lst ((poolN may p b).map V.int)) → Q (.ref l) H'
theorem sc_pool_of : FnScope ["block", "pattern", "may", "steps", "step", "pool"] ["block", "pattern", "may"] (defScope s_pool_of) := ⟨rfl, rfl, rfl, by decide +kernel, rfl, by decide +kernel, by decide +kernel⟩
theorem ok_pool_of (D : Dfs K mg aF dF) (T : Txt mg) : FnOk P w K mg base CX0 2 (aF 11) (dF 11) ["block", "pattern", "may"] (sp_pool_of K) := by
  have Gcommon : FnOk P w K mg base CX0 1 (aF 2) (dF 2) ["one", "other"] (sp_common K) := ok_common D T
  refine D.pool_of.fn.ok sc_pool_of (fun vs H Q E h => ?_) (fun cdv A outer s H vs Q E hr h => ?_)
  · obtain ⟨b, pa, ma, p, rs, may, U, rfl, _⟩ := h; rfl
  · have hu := hu_of hr
    obtain ⟨b, pa, ma, p, rs, may, U, rfl, hp, hm, c, hb, hl, q⟩ := h
    refine ⟨_, (pss_cons (ps_setC (i₀ := 3) sc_pool_of.nd rfl (Or.inl rfl) ["step", "pattern", "block"] [none, some 1, some 0] rfl (pi_range1 rfl T.z_range (pa_cons (pe_callB (cLen K) (by rfl) T.z_len boot_len (pa_cons (pv 1) pa_nil)) pa_nil)) (fun _ => pg_name (i := 0) (nodupN (N := ["step", "pattern", "block"]) (by decide +kernel)) rfl (Or.inl rfl)) (fun _ => pif_one (pt_cmpR op_eq (pe_ix (ixL K) (pv 1) (pv 0) (fun _ _ => rfl)) (pv 2) (nomark _))) (fun _ => (pv 0)) ((.cons (fun _ e => by cases e) (.cons (fun _ e => by cases e; exact ⟨rfl, rfl⟩) (.cons (fun _ e => by cases e; exact ⟨rfl, rfl⟩) .nil)))))
      (pss_cons (ps_set (i := 5) sc_pool_of.nd rfl (Or.inl rfl) (pe_callTy (cList K) (by rfl) T.z_list boot_list (pa_cons (pe_ix (ixL K) (pv 2) (pe_ix (ixL K) (pv 3) pe_int (fun _ _ => rfl)) (fun _ _ => rfl)) pa_nil)))
      (pss_cons (ps_for PassesOwn.never rfl (piL K (pe_slice (slL K) (pv 3) (po_some pe_int) po_none)) (pg_name (i := 4) sc_pool_of.nd rfl (Or.inl rfl))
        (pss_one (ps_set (i := 5) sc_pool_of.nd rfl (Or.inl rfl) (pc D.common Gcommon (hr.mono (by decide)) (pa_cons (pv 5) (pa_cons (pe_ix (ixL K) (pv 2) (pv 4) (fun _ _ => rfl)) pa_nil))))))
      (pss_one (ps_ret (pv 5)))))), ?_⟩
    have m6 := hm.m6
    refine ⟨_, rfl, _, _, rfl, .inl ⟨_, hp, rfl⟩, _, rfl, lo62 _, by rw [List.length_map]; walk_at "om", ?_⟩
    have e0 : (((p.map V.int).length : Nat) : Int).toNat = p.length := by rw [List.length_map]; walk_at "om"
    rw [e0]
    refine comp_some (n := p.length) (fun i => decide (p.getD i 0 = (b : Int))) (by walk_at "om") (fun i hi H3 R s3 k => ?_) (fun i hi H3 R k => ?_) fun sl H3 s3 nsl hsl => ?_
    · have ei : (0 : Int) + (i : Int) = ((i : Nat) : Int) := by walk_at "om"
      rw [ei]
      have kk := k H3 (Same.refl _)
      rw [dec_intP] at kk
      exact ⟨_, rfl, _, rfl, pa, _, _, _, rfl, rfl, s3.seq hp, atI_int hi, _, rfl, rfl, _, rfl, kk⟩
    · have ei : (0 : Int) + (i : Int) = ((i : Nat) : Int) := by walk_at "om"
      rw [ei]
      exact ⟨_, rfl, k⟩
    have sne : blkS p b ≠ [] := blkS_ne c hb
    have slt : ∀ i ∈ blkS p b, i < may.length := fun i hi => by have := (blkS_mem.mp hi).1; walk_at "om"
    have hsl : H3 sl = some (.lst ((blkS p b).map fun (i : Nat) => V.int (i : Int))) := hsl
    have q2 : ∀ l H', Same H3 H' → H3 l = none → H' l = some (.lst ((poolS (blkS p b) may).map V.int)) → Q (.ref l) H' := fun l H' s n e => q l H' (s3.trans s) (s3.free n) e
    have s6 : (blkS p b).length ≤ 6 := by
      have := List.length_filter_le (fun i => decide (p.getD i 0 = (b : Int))) (List.range p.length)
      rw [List.length_range] at this
      show ((List.range p.length).filter fun i => decide (p.getD i 0 = (b : Int))).length ≤ 6
      walk_at "om"
    have hm3 := hm.same s3
    clear q
    generalize blkS p b = st at hsl sne slt q2 s6
    obtain ⟨s0, sr, rfl⟩ := List.exists_cons_of_ne_nil sne
    obtain ⟨r0, hr0, hq0, up0, sub0⟩ := hm3.rows (slt s0 (by simp))
    refine ⟨_, rfl, _, rfl, sl, _, _, _, rfl, rfl, SqL.of hsl, atI_nat (j := 0) (v := V.int (s0 : Int)) rfl, ma, _, _, _, rfl, rfl, hm3.ls, atI_nat (by rw [List.getElem?_map, hr0]; rfl), r0, _, rfl, .inl hq0, fun l nl => ?_⟩
    have cf : cutV (((s0 :: sr).map fun (i : Nat) => V.int (i : Int))) (some (1 : Int)) none = sr.map fun (i : Nat) => V.int (i : Int) := cut_from _ 1
    refine ⟨_, rfl, _, rfl, sl, _, rfl, SqL.of (Same.new nl _ _ hsl), fun cc ncc => ?_⟩
    have s34 := (Same.new (o := .lst ((may.getD s0 []).map V.int)) nl).to (o := .lst (sr.map fun (i : Nat) => V.int (i : Int))) ncc
    have ncl : l ≠ cc := fun z => by rw [← z, upd_same] at ncc; cases ncc
    have hl4 : upd (upd H3 l (.lst ((may.getD s0 []).map V.int))) cc (.lst (sr.map fun (i : Nat) => V.int (i : Int))) l = some (.lst ((may.getD s0 []).map V.int)) := by rw [upd_ne ncl]; exact upd_same
    have hcc4 : upd (upd H3 l (.lst ((may.getD s0 []).map V.int))) cc (.lst (sr.map fun (i : Nat) => V.int (i : Int))) cc = some (.lst (sr.map fun (i : Nat) => V.int (i : Int))) := upd_same
    rw [cf]
    generalize upd (upd H3 l (.lst ((may.getD s0 []).map V.int))) cc (.lst (sr.map fun (i : Nat) => V.int (i : Int))) = H4 at s34 hl4 hcc4
    refine ⟨cc, rfl, ⟨_, SqL.of hcc4⟩, ?_⟩
    refine for_list (K := K) (a := cc) (xs := sr.map fun (i : Nat) => V.int (i : Int)) (fun i σ H5 => ∃ (po : Addr) (x : Option V), σ = [some (.int ((b : Nat) : Int)), some (.ref pa), some (.ref ma), some (.ref sl), x, some (.ref po)] ∧ Same H4 H5 ∧ H3 po = none ∧ H5 po = some (.lst ((poolS (s0 :: sr.take i) may).map V.int)))
      ⟨l, none, rfl, Same.refl _, nl, by rw [List.take_zero, poolS_one]; exact hl4⟩ (fun i σ H5 _ hq__ => by obtain ⟨_, _, _, s, _⟩ := hq__; exact s.seq (SqL.of hcc4)) ?_ ?_
    · rintro i y σ H5 hi ⟨po, x, rfl, s5, npo, hpo⟩
      obtain ⟨d, hd, rfl, _⟩ := at_nat hi
      have hdl := slt d (List.mem_cons_of_mem _ (List.mem_of_getElem? hd))
      have hm5 := hm3.same (s34.trans s5)
      obtain ⟨r1, hr1, hq1, up1, sub1⟩ := hm5.rows hdl
      refine ⟨_, rfl, _, rfl, _, rfl, ma, _, _, _, rfl, rfl, hm5.ls, atI_nat (by rw [List.getElem?_map, hr1]; rfl), po, r1, poolS (s0 :: sr.take i) may, may.getD d [], U, rfl, ⟨SqL.of hpo, hq1, poolS_up hm.up, up1, fun x hx => sub0 x ((List.mem_filter.mp hx).1), sub1, by have := hm.u20; walk_at "om"⟩, fun l2 ks H6 ⟨t1, t2, t3, t4, t5⟩ => ?_⟩
      refine ⟨l2, _, rfl, s5.trans t1, (s34.trans s5).free t2, ?_⟩
      have et : sr.take (i + 1) = sr.take i ++ [d] := by rw [List.take_add_one, hd]; rfl
      have ek : ks = poolS (s0 :: sr.take (i + 1)) may := by
        refine up_ext t4 (poolS_up hm.up) fun x => ?_
        rw [t5 x, et, ← List.cons_append, poolS_snoc (by simp)]
        exact Iff.rfl
      rw [← ek]
      exact t3
    · rintro σ H5 ⟨po, x, rfl, s5, npo, hpo⟩
      rw [List.length_map, List.take_length] at hpo
      exact ⟨_, rfl, q2 po H5 (s34.trans s5) npo hpo⟩
noncomputable def sp_pools_of (K : PySem.W.Frag) : Sp := fun vs H Q _ => ∃ (pa ma : Addr) (p : List Int) (rs : List Addr) (may : List (List Int)) (U : List Int), vs = [.ref pa, .ref ma] ∧ SqL K H pa (p.map V.int) ∧ May K H ma rs may U ∧ Canon p ∧ p.length ≤ may.length ∧
  ∀ l (ls : List Addr) H', Same H H' → H l = none → H' l = some (.lst (ls.map V.ref)) → RowsL H' ls (pools may p) → (∀ r ∈ ls, H r = none) → Q (.ref l) H'
theorem sc_pools_of : FnScope ["pattern", "may"] ["pattern", "may"] (defScope s_pools_of) := ⟨rfl, rfl, rfl, by decide +kernel, rfl, by decide +kernel, by decide +kernel⟩
theorem ok_pools_of (D : Dfs K mg aF dF) (T : Txt mg) : FnOk P w K mg base CX0 3 (aF 10) (dF 10) ["pattern", "may"] (sp_pools_of K) := by
  have Gwidth : FnOk P w K mg base CX0 1 (aF 4) (dF 4) ["pattern"] (sp_width K) := ok_width D T
  have Gpool_of : FnOk P w K mg base CX0 2 (aF 11) (dF 11) ["block", "pattern", "may"] (sp_pool_of K) := ok_pool_of D T
  refine D.pools_of.fn.ok sc_pools_of (fun vs H Q E h => ?_) (fun cdv A outer s H vs Q E hr h => ?_)
  · obtain ⟨pa, ma, p, rs, may, U, rfl, _⟩ := h; rfl
  · have hu := hu_of hr
    obtain ⟨pa, ma, p, rs, may, U, rfl, hp, hm, c, hl, q⟩ := h
    refine ⟨_, (pss_one (ps_ret (pe_lcomp ["block", "pattern", "may"] [none, some 0, some 1] rfl (pi_range1 rfl T.z_range (pa_cons (pc D.width Gwidth (hr.mono (by decide)) (pa_cons (pv 0) pa_nil)) pa_nil)) (fun _ => pg_name (i := 0) (nodupN (N := ["block", "pattern", "may"]) (by decide +kernel)) rfl (Or.inl rfl)) (fun _ => pif_nil) (fun _ => (pc D.pool_of Gpool_of (hr.mono (by decide)) (pa_cons (pv 0) (pa_cons (pv 1) (pa_cons (pv 2) pa_nil))))) ((.cons (fun _ e => by cases e) (.cons (fun _ e => by cases e; exact ⟨rfl, rfl⟩) (.cons (fun _ e => by cases e; exact ⟨rfl, rfl⟩) .nil))))))), ?_⟩
    have m6 := hm.m6
    have dl := dd_len p
    refine ⟨_, rfl, pa, p, rfl, hp, by walk_at "om", fun H1 s1 => ?_⟩
    refine ⟨_, rfl, lo62 _, by walk_at "om", ?_⟩
    rw [Int.toNat_natCast]
    refine comp_rlists (n := (dd p).length) (fun i => (poolN may p i).map V.int) (by walk_at "om") (fun i hi H2 R s2 k => ?_) fun acc ls H2 s2 nacc hacc hrs hall hne => ?_
    · have ei : (0 : Int) + (i : Int) = ((i : Nat) : Int) := by walk_at "om"
      rw [ei]
      have s12 := s1.trans s2
      exact ⟨_, rfl, _, rfl, _, rfl, i, pa, ma, p, rs, may, U, rfl, s12.seq hp, hm.same s12, c, hi, hl, fun r H3 s3 nr hr => k r H3 s3 nr hr⟩
    · refine q acc ls H2 (s1.trans s2) (s1.free nacc) hacc (RowsL.of (by rw [hrs, pools_len]) fun i r p' e1 e2 => ?_) fun r hr => ?_
      · have hi : i < (dd p).length := by rw [← hrs]; exact (List.getElem?_eq_some_iff.mp e1).1
        rw [pools_at hi] at e2
        cases e2
        exact (hall i r e1).1
      · obtain ⟨i, hi, ei⟩ := List.mem_iff_getElem.mp hr
        exact s1.free (hall i r (by rw [List.getElem?_eq_getElem hi, ei])).2
noncomputable def sp_tie_shows (K : PySem.W.Frag) : Sp := fun vs H Q _ => ∃ (pa ta : Addr) (j : Int) (p : List Int) (may : List (List Int)) (ts : List (Addr × Addr × Str × Int × List Nat)) (b : Bool), vs = [.ref pa, .ref ta, .int j] ∧ SqL K H pa (p.map V.int) ∧ Ties K H ta ts 100 ∧ ShowsIs may (ts.map tieOf) p (.tie j) b ∧ ∀ H', Same H H' → Q (.bl b) H'
theorem sc_tie_shows : FnScope ["pattern", "ties", "place"] ["pattern", "ties", "place"] (defScope s_tie_shows) := ⟨rfl, rfl, rfl, by decide +kernel, rfl, by decide +kernel, by decide +kernel⟩
theorem ok_tie_shows (D : Dfs K mg aF dF) (T : Txt mg) : FnOk P w K mg base CX0 3 (aF 14) (dF 14) ["pattern", "ties", "place"] (sp_tie_shows K) := by
  have Gis_whole : FnOk P w K mg base CX0 1 (aF 0) (dF 0) ["thing"] (sp_is_whole K) := ok_is_whole D T
  have Gbreaks : FnOk P w K mg base CX0 2 (aF 7) (dF 7) ["pattern", "tie"] (sp_breaks K) := ok_breaks D T
  refine D.tie_shows.fn.ok sc_tie_shows (fun vs H Q E h => ?_) (fun cdv A outer s H vs Q E hr h => ?_)
  · obtain ⟨pa, ta, j, p, may, ts, b, rfl, _⟩ := h; rfl
  · have hu := hu_of hr
    obtain ⟨pa, ta, j, p, may, ts, b, rfl, hp, tt, si, q⟩ := h
    refine ⟨_, (pss_one (ps_ret (pe_and (pc D.is_whole Gis_whole (hr.mono (by decide)) (pa_cons (pv 2) pa_nil)) (pe_and (pe_chain op_le op_lt pe_int (pv 2) (pe_callB (cLen K) (by rfl) T.z_len boot_len (pa_cons (pv 1) pa_nil))) (pe_one (pc D.breaks Gbreaks (hr.mono (by decide)) (pa_cons (pv 0) (pa_cons (pe_ix (ixL K) (pv 1) (pv 2) (fun _ _ => rfl)) pa_nil)))))))), ?_⟩
    refine ⟨_, rfl, j, rfl, _, rfl, iteT ?_⟩
    refine ⟨_, rfl, _, _, rfl, rfl, _, rfl, ?_⟩
    cases si with
    | @tie _ _ t h0 hj =>
      rw [List.getElem?_map] at hj
      obtain ⟨x, hx, rfl⟩ := Option.map_eq_some_iff.mp hj
      have jl := (List.getElem?_eq_some_iff.mp hx).1
      obtain ⟨n, en⟩ : ∃ n : Nat, j = (n : Int) := ⟨j.toNat, by walk_at "om"⟩
      subst en
      rw [Int.toNat_natCast] at hx jl
      have te := tt.ea x (List.mem_of_getElem? hx)
      rw [decide_eq_true (by walk_at "om")]
      refine iteT ⟨_, rfl, _, _, rfl, .inl ⟨_, tt.ls, rfl⟩, _, _, rfl, rfl, _, rfl, ?_⟩
      rw [decide_eq_true (by rw [List.length_map]; walk_at "om")]
      exact iteT ⟨_, rfl, _, rfl, _, rfl, ta, _, _, _, rfl, rfl, tt.ls, atI_nat (by rw [List.getElem?_map, hx]; rfl), pa, x.1, x.2.1, p, x.2.2.2.2, x.2.2.1, x.2.2.2.1, rfl, hp, SqT.of te.tp, SqT.of te.ts, te.wd, te.sl, fun H1 s1 => q H1 s1⟩
    | noTie hno =>
      rw [List.length_map] at hno
      by_cases z : (0 : Int) ≤ j
      · rw [decide_eq_true z]
        refine iteT ⟨_, rfl, _, _, rfl, .inl ⟨_, tt.ls, rfl⟩, _, _, rfl, rfl, _, rfl, ?_⟩
        rw [decide_eq_false (by rw [List.length_map]; exact fun y => hno ⟨z, y⟩)]
        exact iteF (q H (Same.refl _))
      · rw [decide_eq_false z]
        exact iteF ⟨_, rfl, iteF (q H (Same.refl _))⟩
noncomputable def sp_is_list_of_blocks (K : PySem.W.Frag) : Sp := fun vs H Q _ => ∃ (pa ba : Addr) (p bs : List Int), vs = [.ref pa, .ref ba] ∧ SqL K H pa (p.map V.int) ∧ p.length ≤ 6 ∧ H ba = some (.lst (bs.map V.int)) ∧ bs.length ≤ 1000 ∧ ∀ H', Same H H' → Q (.bl (risB bs && inB p bs)) H'
theorem sc_is_list_of_blocks : FnScope ["pattern", "blocks"] ["pattern", "blocks"] (defScope s_is_list_of_blocks) := ⟨rfl, rfl, rfl, by decide +kernel, rfl, by decide +kernel, by decide +kernel⟩
theorem ok_is_list_of_blocks (D : Dfs K mg aF dF) (T : Txt mg) : FnOk P w K mg base CX0 2 (aF 16) (dF 16) ["pattern", "blocks"] (sp_is_list_of_blocks K) := by
  have Gis_whole : FnOk P w K mg base CX0 1 (aF 0) (dF 0) ["thing"] (sp_is_whole K) := ok_is_whole D T
  have Gis_rising : FnOk P w K mg base CX0 1 (aF 1) (dF 1) ["numbers"] (sp_is_rising K) := ok_is_rising D T
  have Gwidth : FnOk P w K mg base CX0 1 (aF 4) (dF 4) ["pattern"] (sp_width K) := ok_width D T
  refine D.is_list_of_blocks.fn.ok sc_is_list_of_blocks (fun vs H Q E h => ?_) (fun cdv A outer s H vs Q E hr h => ?_)
  · obtain ⟨pa, ba, p, bs, rfl, _⟩ := h; rfl
  · have hu := hu_of hr
    obtain ⟨pa, ba, p, bs, rfl, hp, p6, hba, bl, q⟩ := h
    refine ⟨_, (pss_cons (ps_if (PW.pt (pw_or (pt_not (pt_val (pe_callB (cIsi K) (by rfl) T.z_isinstance boot_isinstance (pa_cons (pv 1) (pa_cons (ty_list T.z_list) pa_nil))))) (pw_or1 (pt_not (pt_val (pe_callB (cAll K) (by rfl) T.z_all boot_all (pa_cons (pe_lcomp ["block"] [none] rfl (piL K (pv 1)) (fun _ => pg_name (i := 0) (nodupN (N := ["block"]) (by decide +kernel)) rfl (Or.inl rfl)) (fun _ => pif_nil) (fun _ => (pc D.is_whole Gis_whole (hr.mono (by decide)) (pa_cons (pv 0) pa_nil))) ((.cons (fun _ e => by cases e) .nil))) pa_nil)))))))
        (pss_one (ps_ret pe_bl))
        pss_nil)
      (pss_one (ps_ret (pe_and (pc D.is_rising Gis_rising (hr.mono (by decide)) (pa_cons (pv 1) pa_nil)) (pe_one (pe_callB (cAll K) (by rfl) T.z_all boot_all (pa_cons (pe_lcomp ["block", "pattern"] [none, some 0] rfl (piL K (pv 1)) (fun _ => pg_name (i := 0) (nodupN (N := ["block", "pattern"]) (by decide +kernel)) rfl (Or.inl rfl)) (fun _ => pif_nil) (fun _ => (pe_chain op_le op_lt pe_int (pv 0) (pc D.width Gwidth (hr.mono (by decide)) (pa_cons (pv 1) pa_nil)))) ((.cons (fun _ e => by cases e) (.cons (fun _ e => by cases e; exact ⟨rfl, rfl⟩) .nil)))) pa_nil))))))), ?_⟩
    refine ⟨_, rfl, _, _, _, true, rfl, .lst hba, rfl, _, rfl, iteF ?_⟩
    refine ⟨_, rfl, ba, rfl, ⟨_, SqL.of hba⟩, ?_⟩
    refine comp_list2 (xs := bs.map V.int) (fun _ => true) (fun _ => .bl true) (SqL.of hba) (by rw [List.length_map]; walk_at "om") (fun _ _ _ _ _ _ k => k _ (Same.refl _)) (fun j x hx _ H2 R s2 k => ?_) fun acc H2 s2 nacc hacc => ?_
    · obtain ⟨d, hd, rfl, ed⟩ := at_int hx
      exact ⟨_, rfl, d, rfl, k H2 (Same.refl _)⟩
    rw [List.filter_eq_self.mpr (fun _ _ => rfl)] at hacc
    have e1 : (List.range (bs.map V.int).length).map (fun _ => V.bl true) = ((List.range (bs.map V.int).length).map fun _ => true).map V.bl := by rw [List.map_map]; rfl
    rw [e1] at hacc
    refine ⟨acc, _, rfl, SqL.of hacc, _, rfl, ?_⟩
    have e2 : ((List.range (bs.map V.int).length).map fun _ => true).all id = true := List.all_eq_true.mpr fun x hx => by obtain ⟨_, _, e⟩ := List.mem_map.mp hx; rw [← e]; rfl
    rw [e2]
    refine iteF ?_
    refine ⟨_, rfl, ba, bs, rfl, SqL.of (s2 _ _ hba), bl, fun H3 s3 => ⟨_, rfl, ifB (fun h1 => ?_) fun h1 => ?_⟩⟩
    · have s23 := s2.trans s3
      refine ⟨_, rfl, ba, rfl, ⟨_, SqL.of (s23 _ _ hba)⟩, ?_⟩
      refine comp_list2 (xs := bs.map V.int) (fun _ => true) (fun j => .bl (decide (0 ≤ bs.getD j 0 ∧ bs.getD j 0 < (((dd p).length : Nat) : Int)))) (SqL.of (s23 _ _ hba)) (by rw [List.length_map]; walk_at "om") (fun _ _ _ _ _ _ k => k _ (Same.refl _)) (fun j x hx _ H4 R s4 k => ?_) fun acc2 H4 s4 nacc2 hacc2 => ?_
      · obtain ⟨d, hd, rfl, ed⟩ := at_int hx
        rw [ed] at k
        refine ⟨_, rfl, _, _, rfl, rfl, _, rfl, ifD (fun z => ?_) fun z => ?_⟩
        · refine ⟨_, rfl, pa, p, rfl, (s23.trans s4).seq hp, p6, fun H5 s5 => ⟨_, _, rfl, rfl, ?_⟩⟩
          have kk := k H5 s5
          have e : decide (0 ≤ d ∧ d < (((dd p).length : Nat) : Int)) = decide (d < (((dd p).length : Nat) : Int)) := by
            by_cases y : d < (((dd p).length : Nat) : Int)
            · rw [decide_eq_true y, decide_eq_true ⟨z, y⟩]
            · rw [decide_eq_false y, decide_eq_false fun w => y w.2]
          rw [e] at kk
          exact kk
        · have kk := k H4 (Same.refl _)
          rw [decide_eq_false fun w => z w.1] at kk
          exact kk
      rw [List.filter_eq_self.mpr (fun _ _ => rfl), List.length_map] at hacc2
      have e3 : (List.range bs.length).map (fun j => V.bl (decide (0 ≤ bs.getD j 0 ∧ bs.getD j 0 < (((dd p).length : Nat) : Int)))) = (bs.map fun b => decide (0 ≤ b ∧ b < (((dd p).length : Nat) : Int))).map V.bl := by
        rw [List.map_map]
        exact map_at fun i x hx => by rw [List.getD_eq_getElem?_getD, hx]; rfl
      rw [e3] at hacc2
      refine ⟨acc2, _, rfl, SqL.of hacc2, ?_⟩
      have e4 : (bs.map fun b => decide (0 ≤ b ∧ b < (((dd p).length : Nat) : Int))).all id = inB p bs := by unfold inB; rw [List.all_map]; rfl
      rw [e4]
      have qq := q H4 (s23.trans s4)
      rw [h1, Bool.true_and] at qq
      exact qq
    · have qq := q H3 (s2.trans s3)
      rw [h1, Bool.false_and] at qq
      exact qq
noncomputable def sp_short_shows (K : PySem.W.Frag) : Sp := fun vs H Q _ => ∃ (pa ma ba : Addr) (p : List Int) (rs : List Addr) (may : List (List Int)) (U : List Int) (bs : List Int), vs = [.ref pa, .ref ma, .ref ba] ∧ SqL K H pa (p.map V.int) ∧ May K H ma rs may U ∧ Canon p ∧ p.length ≤ may.length ∧ H ba = some (.lst (bs.map V.int)) ∧ bs.length ≤ 1000 ∧ ∀ H', Same H H' → Q (.bl (shortB may p bs)) H'
theorem sc_short_shows : FnScope ["pattern", "may", "blocks", "pools", "badges", "block"] ["pattern", "may", "blocks"] (defScope s_short_shows) := ⟨rfl, rfl, rfl, by decide +kernel, rfl, by decide +kernel, by decide +kernel⟩
theorem ok_short_shows (D : Dfs K mg aF dF) (T : Txt mg) : FnOk P w K mg base CX0 4 (aF 15) (dF 15) ["pattern", "may", "blocks"] (sp_short_shows K) := by
  have Gjoined : FnOk P w K mg base CX0 1 (aF 3) (dF 3) ["one", "other"] (sp_joined K) := ok_joined D T
  have Gpools_of : FnOk P w K mg base CX0 3 (aF 10) (dF 10) ["pattern", "may"] (sp_pools_of K) := ok_pools_of D T
  have Gis_list_of_blocks : FnOk P w K mg base CX0 2 (aF 16) (dF 16) ["pattern", "blocks"] (sp_is_list_of_blocks K) := ok_is_list_of_blocks D T
  refine D.short_shows.fn.ok sc_short_shows (fun vs H Q E h => ?_) (fun cdv A outer s H vs Q E hr h => ?_)
  · obtain ⟨pa, ma, ba, p, rs, may, U, bs, rfl, _⟩ := h; rfl
  · have hu := hu_of hr
    obtain ⟨pa, ma, ba, p, rs, may, U, bs, rfl, hp, hm, c, hl, hba, bl, q⟩ := h
    refine ⟨_, (pss_cons (ps_if (pt_not (pt_val (pc D.is_list_of_blocks Gis_list_of_blocks (hr.mono (by decide)) (pa_cons (pv 0) (pa_cons (pv 2) pa_nil)))))
        (pss_one (ps_ret pe_bl))
        pss_nil)
      (pss_cons (ps_set (i := 3) sc_short_shows.nd rfl (Or.inl rfl) (pc D.pools_of Gpools_of (hr.mono (by decide)) (pa_cons (pv 0) (pa_cons (pv 1) pa_nil))))
      (pss_cons (ps_set (i := 4) sc_short_shows.nd rfl (Or.inl rfl) (pe_lst pa_nil))
      (pss_cons (ps_for PassesOwn.never rfl (piL K (pv 2)) (pg_name (i := 5) sc_short_shows.nd rfl (Or.inl rfl))
        (pss_one (ps_set (i := 4) sc_short_shows.nd rfl (Or.inl rfl) (pc D.joined Gjoined (hr.mono (by decide)) (pa_cons (pv 4) (pa_cons (pe_ix (ixL K) (pv 3) (pv 5) (fun _ _ => rfl)) pa_nil))))))
      (pss_one (ps_ret (pe_cmpR op_lt (pe_callB (cLen K) (by rfl) T.z_len boot_len (pa_cons (pv 4) pa_nil)) (pe_callB (cLen K) (by rfl) T.z_len boot_len (pa_cons (pv 2) pa_nil)) (nomark _)))))))), ?_⟩
    have m6 := hm.m6
    refine ⟨_, rfl, _, rfl, pa, ba, p, bs, rfl, hp, by walk_at "om", hba, bl, fun H1 s1 => ⟨_, rfl, ifNot (fun h1 => ?_) fun h1 => ?_⟩⟩
    · have qq := q H1 s1
      unfold shortB at qq
      rw [h1, Bool.false_and] at qq
      exact qq
    have hin : ∀ b ∈ bs, 0 ≤ b ∧ b < (((dd p).length : Nat) : Int) := fun b hb => of_decide_eq_true (List.all_eq_true.mp (Bool.and_eq_true_iff.mp h1).2 b hb)
    have hm1 := hm.same s1
    refine ⟨_, rfl, _, rfl, pa, ma, p, rs, may, U, rfl, s1.seq hp, hm1, c, hl, fun po ls H2 s2 npo hpo R2 fr2 => ⟨szr, fun b0 nb0 => ?_⟩⟩
    have s23 := Same.new (o := .lst []) nb0
    have s03 := (s1.trans s2).trans s23
    have hb3 : upd H2 b0 (.lst []) b0 = some (.lst []) := upd_same
    generalize upd H2 b0 (.lst []) = H3 at s23 s03 hb3
    have u26 := hm.u20
    refine ⟨_, rfl, ba, rfl, ⟨_, SqL.of (s03 _ _ hba)⟩, ?_⟩
    refine for_list (K := K) (a := ba) (xs := bs.map V.int) (fun i σ Hx => ∃ (x : Addr) (ks : List Int) (y : Option V), σ = [some (.ref pa), some (.ref ma), some (.ref ba), some (.ref po), some (.ref x), y] ∧ Same H3 Hx ∧ Hx x = some (.lst (ks.map V.int)) ∧ ks.Pairwise (· < ·) ∧ (∀ b ∈ ks, b ∈ U) ∧ ∀ b, b ∈ ks ↔ b ∈ poolsU may p (bs.take i)) ⟨b0, [], none, rfl, Same.refl _, hb3, List.Pairwise.nil, (fun _ z => by cases z), fun b => Iff.rfl⟩ (fun i σ Hx _ hq__ => by obtain ⟨_, _, _, _, s, _⟩ := hq__; exact s.seq (SqL.of (s03 _ _ hba))) ?_ ?_
    · rintro i y σ Hx hi ⟨x, ks, y', rfl, sx, hx, up, sub, mem⟩
      obtain ⟨d, hd, rfl, ed⟩ := at_int hi
      obtain ⟨d0, d1⟩ := hin d (List.mem_of_getElem? hd)
      obtain ⟨b, eb⟩ : ∃ b : Nat, d = (b : Int) := ⟨d.toNat, by walk_at "om"⟩
      subst eb
      have bl' : b < (dd p).length := by walk_at "om"
      have s2x := s23.trans sx
      obtain ⟨r, er, hr'⟩ := (R2.same s2x).at (pools_at bl')
      have psub := pools_sub c hl hm.sub (poolN may p b) (List.mem_of_getElem? (pools_at bl'))
      refine ⟨_, rfl, _, rfl, _, rfl, po, _, _, _, rfl, rfl, SqL.of (s2x _ _ hpo), atI_nat (by rw [List.getElem?_map, er]; rfl), x, r, ks, poolN may p b, U, rfl, ⟨SqL.of hx, SqL.of hr', up, poolS_up hm.up, sub, psub, by walk_at "om"⟩, fun l2 ks2 H4 ⟨t1, t2, t3, t4, t5⟩ => ?_⟩
      refine ⟨l2, ks2, _, rfl, sx.trans t1, t3, t4, fun b' hb' => ?_, fun b' => ?_⟩
      · rcases (t5 b').mp hb' with z | z
        · exact sub b' z
        · exact psub b' z
      · have et : bs.take (i + 1) = bs.take i ++ [(b : Int)] := by rw [List.take_add_one, hd]; rfl
        rw [t5 b', et]
        unfold poolsU
        rw [List.flatMap_append, List.mem_append]
        have e2 : [(b : Int)].flatMap (fun b => poolN may p b.toNat) = poolN may p b := by rw [List.flatMap_singleton, Int.toNat_natCast]
        rw [e2]
        exact or_congr (mem b') Iff.rfl
    · rintro σ Hx ⟨x, ks, y', rfl, sx, hx, up, sub, mem⟩
      rw [List.length_map, List.take_length] at mem
      refine ⟨_, rfl, _, _, rfl, .inl ⟨_, SqL.of hx, rfl⟩, _, rfl, _, _, rfl, .inl ⟨_, SqL.of (sx _ _ (s03 _ _ hba)), rfl⟩, _, _, rfl, rfl, ?_⟩
      have el : ks.length = (dd (poolsU may p bs)).length := by
        have nd := lt_nd up
        have a1 := nd.length_le_of_subset (l₂ := dd (poolsU may p bs)) fun b hb => dd_mem.mpr ((mem b).mp hb)
        have a2 := (dd_nd (poolsU may p bs)).length_le_of_subset (l₂ := ks) fun b hb => (mem b).mpr (dd_mem.mp hb)
        walk_at "om"
      have qq := q Hx (s03.trans sx)
      have e : shortB may p bs = decide ((((ks.map V.int).length : Nat) : Int) < (((bs.map V.int).length : Nat) : Int)) := by
        unfold shortB
        rw [h1, Bool.true_and, List.length_map, List.length_map, el]
        by_cases z : (dd (poolsU may p bs)).length < bs.length
        · rw [decide_eq_true z, decide_eq_true (by walk_at "om")]
        · rw [decide_eq_false z, decide_eq_false (by walk_at "om")]
      rw [e] at qq
      exact qq
noncomputable def sp_is_split (K : PySem.W.Frag) : Sp := fun vs H Q _ => ∃ (pa l : Addr) (p : List Int) (vs' : List V) (c : Nat), vs = [.ref pa, .int (c : Int), .ref l] ∧ H pa = some (.lst (p.map V.int)) ∧ H l = some (.lst vs') ∧ c ≤ 6 ∧ ∀ H', Same H H' → Q (.bl (decide (p.length < c ∧ vs'.length = (dd p).length + 1))) H'
theorem sc_is_split : FnScope ["pattern", "count", "papers"] ["pattern", "count", "papers"] (defScope s_is_split) := ⟨rfl, rfl, rfl, by decide +kernel, rfl, by decide +kernel, by decide +kernel⟩
theorem ok_is_split (D : Dfs K mg aF dF) (T : Txt mg) : FnOk P w K mg base CX0 3 (aF 18) (dF 18) ["pattern", "count", "papers"] (sp_is_split K) := by
  have Ggrown : FnOk P w K mg base CX0 2 (aF 5) (dF 5) ["pattern"] (sp_grown K) := ok_grown D T
  refine D.is_split.fn.ok sc_is_split (fun vs H Q E h => ?_) (fun cdv A outer s H vs Q E hr h => ?_)
  · obtain ⟨pa, l, p, vs', c, rfl, _⟩ := h; rfl
  · have hu := hu_of hr
    obtain ⟨pa, l, p, vs', c, rfl, hpa, hl, c6, q⟩ := h
    refine ⟨_, (pss_one (ps_ret (pe_and (pe_cmpR op_lt (pe_callB (cLen K) (by rfl) T.z_len boot_len (pa_cons (pv 0) pa_nil)) (pv 1) (nomark _)) (pe_and (pe_callB (cIsi K) (by rfl) T.z_isinstance boot_isinstance (pa_cons (pv 2) (pa_cons (ty_list T.z_list) pa_nil))) (pe_one (pe_cmpR op_eq (pe_callB (cLen K) (by rfl) T.z_len boot_len (pa_cons (pv 2) pa_nil)) (pe_callB (cLen K) (by rfl) T.z_len boot_len (pa_cons (pc D.grown Ggrown (hr.mono (by decide)) (pa_cons (pv 0) pa_nil)) pa_nil)) (nomark _))))))), ?_⟩
    refine ⟨_, rfl, _, _, rfl, .inl ⟨_, SqL.of hpa, rfl⟩, _, rfl, _, _, rfl, rfl, _, rfl, ifD (fun lt => ?_) fun ge => ?_⟩
    · rw [List.length_map] at lt
      refine ⟨_, rfl, _, _, _, true, rfl, .lst hl, rfl, _, rfl, iteT ?_⟩
      refine ⟨_, rfl, _, _, rfl, .inl ⟨_, SqL.of hl, rfl⟩, _, rfl, pa, p, rfl, hpa, by walk_at "om", fun gl gs H1 s1 ngl hgl hgs gall => ?_⟩
      refine ⟨_, _, rfl, .inl ⟨_, SqL.of hgl, rfl⟩, rfl, ?_⟩
      have qq := q H1 s1
      have e : decide (p.length < c ∧ vs'.length = (dd p).length + 1) = decide (V.int ((vs'.length : Nat) : Int) = V.int ((((gs.map V.ref).length : Nat)) : Int)) := by
        rw [List.length_map, hgs]
        by_cases z : vs'.length = (dd p).length + 1
        · rw [decide_eq_true ⟨by walk_at "om", z⟩, decide_eq_true (by rw [z])]
        · rw [decide_eq_false (fun y => z y.2), decide_eq_false (fun y => z (by injection y with y; walk_at "om"))]
      rw [e] at qq
      exact qq
    · rw [List.length_map] at ge
      have qq := q H (Same.refl _)
      rw [decide_eq_false (by walk_at "om")] at qq
      exact qq
noncomputable def spN_shows_for (K : PySem.W.Frag) (m : Nat) : Sp := fun vs H Q _ => ∃ (pa ma ta : Addr) (v : V) (p : List Int) (rs : List Addr) (may : List (List Int)) (U : List Int) (ts : List (Addr × Addr × Str × Int × List Nat)) (g : GPap) (b : Bool), vs = [.ref pa, .ref ma, .ref ta, v] ∧ H pa = some (.lst (p.map V.int)) ∧ May K H ma rs may U ∧ Ties K H ta ts 100 ∧ Canon p ∧ p.length ≤ may.length ∧ may.length < p.length + m ∧ GPapAt H v g ∧ GBnd g ∧ ShowsIs may (ts.map tieOf) p g b ∧ ∀ H', Same H H' → Q (.bl b) H'
noncomputable def spN_split_shows (K : PySem.W.Frag) (m : Nat) : Sp := fun vs H Q _ => ∃ (pa ma ta l : Addr) (vs' : List V) (p : List Int) (rs : List Addr) (may : List (List Int)) (U : List Int) (ts : List (Addr × Addr × Str × Int × List Nat)) (ps : List GPap) (b : Bool), vs = [.ref pa, .ref ma, .ref ta, .ref l] ∧ H pa = some (.lst (p.map V.int)) ∧ May K H ma rs may U ∧ Ties K H ta ts 100 ∧ Canon p ∧ p.length ≤ may.length ∧ may.length ≤ p.length + m ∧ H l = some (.lst vs') ∧ vs'.length = ps.length ∧ (∀ (i : Nat) v q, vs'[i]? = some v → ps[i]? = some q → GPapAt H v q) ∧ (∀ q ∈ ps, GBnd q) ∧ ShowsIs may (ts.map tieOf) p (.split ps) b ∧ ∀ H', Same H H' → Q (.bl b) H'
theorem sc_split_shows : FnScope ["pattern", "may", "ties", "papers"] ["pattern", "may", "ties", "papers"] (defScope s_split_shows) := ⟨rfl, rfl, rfl, by decide +kernel, rfl, by decide +kernel, by decide +kernel⟩
theorem ok_split_shows (D : Dfs K mg aF dF) (T : Txt mg) (n : Nat) (Gshows_for : FnOk P w K mg base CX0 (10 + 2 * n) (aF 13) (dF 13) ["pattern", "may", "ties", "paper"] (spN_shows_for K n)) : FnOk P w K mg base CX0 (10 + 2 * n + 1) (aF 17) (dF 17) ["pattern", "may", "ties", "papers"] (spN_split_shows K n) := by
  have Ggrown : FnOk P w K mg base CX0 2 (aF 5) (dF 5) ["pattern"] (sp_grown K) := ok_grown D T
  have Gis_split : FnOk P w K mg base CX0 3 (aF 18) (dF 18) ["pattern", "count", "papers"] (sp_is_split K) := ok_is_split D T
  refine D.split_shows.fn.ok sc_split_shows (fun vs H Q E h => ?_) (fun cdv A outer s H vs Q E hr h => ?_)
  · obtain ⟨pa, ma, ta, l, vs', p, rs, may, U, ts, ps, b, rfl, _⟩ := h; rfl
  obtain ⟨pa, ma, ta, l, vs', p, rs, may, U, ts, ps, b, rfl, hpa, hm, tt, c, hl, hlm, hl', hvn, hat, gb, si, q⟩ := h
  have rk : Nat.add 10 (Nat.mul 2 n) = 10 + 2 * n := rfl
  refine ⟨_, (pss_cons (ps_if (pt_not (pt_val (pc D.is_split Gis_split (hr.mono (by have := rk; walk_at "om")) (pa_cons (pv 0) (pa_cons (pe_callB (cLen K) (by rfl) T.z_len boot_len (pa_cons (pv 1) pa_nil)) (pa_cons (pv 3) pa_nil))))))
        (pss_one (ps_ret pe_bl))
        pss_nil)
      (pss_one (ps_ret (pe_callB (cAll K) (by rfl) T.z_all boot_all (pa_cons (pe_lcomp ["one", "paper", "may", "ties"] [none, none, some 1, some 2] rfl (pi_zip K rfl T.z_zip (pa_cons (pc D.grown Ggrown (hr.mono (by have := rk; walk_at "om")) (pa_cons (pv 0) pa_nil)) (pa_cons (pv 3) pa_nil))) (fun _ => pgT K (n := 2) rfl (pgs_cons (pg_name (i := 0) (nodupN (N := ["one", "paper", "may", "ties"]) (by decide +kernel)) rfl (Or.inl rfl)) (pgs_cons (pg_name (i := 1) (nodupN (N := ["one", "paper", "may", "ties"]) (by decide +kernel)) rfl (Or.inl rfl)) pgs_nil))) (fun _ => pif_nil) (fun _ => (pc D.shows_for Gshows_for (hr.mono (by have := rk; walk_at "om")) (pa_cons (pv 0) (pa_cons (pv 2) (pa_cons (pv 3) (pa_cons (pv 1) pa_nil)))))) ((.cons (fun _ e => by cases e) (.cons (fun _ e => by cases e) (.cons (fun _ e => by cases e; exact ⟨rfl, rfl⟩) (.cons (fun _ e => by cases e; exact ⟨rfl, rfl⟩) .nil)))))) pa_nil))))), ?_⟩
  have m6 := hm.m6
  have dl := dd_len p
  refine ⟨_, rfl, _, rfl, _, _, rfl, .inl ⟨_, hm.ls, rfl⟩, _, rfl, pa, l, p, vs', _, rfl, hpa, hl', by rw [List.length_map, hm.po.len]; walk_at "om", fun H0 s0 => ⟨_, rfl, ifNot (fun h1 => ?_) fun h1 => ?_⟩⟩
  · rw [List.length_map, hm.po.len] at h1
    cases si with
    | noSplit h => exact q H0 s0
    | split hl2 hn => exact absurd ⟨by walk_at "om", by walk_at "om"⟩ (of_decide_eq_false h1)
  rw [List.length_map, hm.po.len] at h1
  obtain ⟨lt, e⟩ := of_decide_eq_true h1
  cases si with
  | noSplit h => exact absurd ⟨by walk_at "om", by walk_at "om"⟩ h
  | @split _ _ bs hl2 hn hb hs =>
    refine ⟨_, rfl, pa, p, rfl, s0 _ _ hpa, by walk_at "om", fun gl gs H1 s1 ngl hgl hgs gall => ?_⟩
    have s1 := s0.trans s1
    refine ⟨_, rfl, gl, l, _, _, rfl, SqL.of hgl, SqL.of (s1 _ _ hl'), ?_⟩
    refine comp_zipV (xs := gs.map V.ref) (ys := vs') (fun j => .bl (bs.getD j false)) (by rw [List.length_map]; walk_at "om") (SqL.of hgl) (SqL.of (s1 _ _ hl')) (by rw [List.length_map]; walk_at "om") (fun j x y H2 R hx hy s2 k => ?_) fun acc H2 s2 nacc hacc => ?_
    · rw [List.getElem?_map] at hx
      obtain ⟨r, hr', rfl⟩ := Option.map_eq_some_iff.mp hx
      have hj := (List.getElem?_eq_some_iff.mp hr').1
      have hjp : j < ps.length := by walk_at "om"
      have hjb : j < bs.length := by walk_at "om"
      have eb : bs.getD j false = bs[j] := by rw [List.getD_eq_getElem?_getD, List.getElem?_eq_getElem hjb]; rfl
      rw [eb] at k
      have s02 := s1.trans s2
      exact ⟨_, rfl, _, rfl, _, rfl, _, rfl, r, ma, ta, y, p ++ [(j : Int)], rs, may, U, ts, ps[j], bs[j], rfl, s2 _ _ (gall j r hr').1, hm.same s02, ⟨s02.seq tt.ls, fun x hx => (tt.ea x hx).same s02, tt.ln⟩, canon_snoc c (by walk_at "om"), by simp; walk_at "om", by simp; walk_at "om", (hat j y ps[j] hy (List.getElem?_eq_getElem hjp)).same s02, gb _ (List.getElem_mem hjp), hs j ps[j] bs[j] (List.getElem?_eq_getElem hjp) (List.getElem?_eq_getElem hjb), fun H3 s3 => k H3 s3⟩
    · rw [List.length_map] at hacc
      have e3 : (List.range gs.length).map (fun j => V.bl (bs.getD j false)) = bs.map V.bl := by
        have el : gs.length = bs.length := by walk_at "om"
        rw [el]
        exact map_at fun i x hx => by rw [List.getD_eq_getElem?_getD, hx]; rfl
      rw [e3] at hacc
      exact ⟨acc, bs, rfl, SqL.of hacc, q H2 (s1.trans s2)⟩
noncomputable def sp_shows_for (K : PySem.W.Frag) : Sp := spN_shows_for K 7
theorem sc_shows_for : FnScope ["pattern", "may", "ties", "paper"] ["pattern", "may", "ties", "paper"] (defScope s_shows_for) := ⟨rfl, rfl, rfl, by decide +kernel, rfl, by decide +kernel, by decide +kernel⟩
theorem ok_shows_for (D : Dfs K mg aF dF) (T : Txt mg) : FnOk P w K mg base CX0 24 (aF 13) (dF 13) ["pattern", "may", "ties", "paper"] (sp_shows_for K) := by
  have Gtie_shows : FnOk P w K mg base CX0 3 (aF 14) (dF 14) ["pattern", "ties", "place"] (sp_tie_shows K) := ok_tie_shows D T
  have Gshort_shows : FnOk P w K mg base CX0 4 (aF 15) (dF 15) ["pattern", "may", "blocks"] (sp_short_shows K) := ok_short_shows D T
  have all : ∀ n, FnOk P w K mg base CX0 (10 + 2 * n) (aF 13) (dF 13) ["pattern", "may", "ties", "paper"] (spN_shows_for K n) := by
    intro n
    induction n with
    | zero =>
      have no : ∀ vs H Q E, ¬ spN_shows_for K 0 vs H Q E := fun vs H Q E h => by
        obtain ⟨pa, ma, ta, v, p, rs, may, U, ts, g, b, _, _, _, _, _, h1, h2, _⟩ := h
        walk_at "om"
      exact ⟨fun vs H Q E h => absurd h (no vs H Q E), fun A outer s H args us vs Q E _ _ _ _ h => absurd h (no vs H Q E)⟩
    | succ n Gshows_for =>
      have Gsplit_shows := ok_split_shows D T n Gshows_for
      refine D.shows_for.fn.ok sc_shows_for (fun vs H Q E h => ?_) (fun cdv A outer s H vs Q E hr h => ?_)
      · obtain ⟨pa, ma, ta, v, p, rs, may, U, ts, g, b, rfl, _⟩ := h; rfl
      obtain ⟨pa, ma, ta, v, p, rs, may, U, ts, g, b, rfl, hpa, hm, tt, c, hl, hlm, pat, gb, si, q⟩ := h
      have rk : Nat.add 10 (Nat.mul 2 n + 1) = 10 + (2 * n + 1) := rfl
      refine ⟨_, (pss_cons (ps_if (PW.pt (pw_or (pt_not (pt_val (pe_callB (cIsi K) (by rfl) T.z_isinstance boot_isinstance (pa_cons (pv 3) (pa_cons (ty_tuple T.z_tuple) pa_nil))))) (pw_or1 (pt_cmpR op_ne (pe_callB (cLen K) (by rfl) T.z_len boot_len (pa_cons (pv 3) pa_nil)) pe_int (nomark _)))))
        (pss_one (ps_ret pe_bl))
        pss_nil)
      (pss_cons (ps_if (pt_cmpR op_eq (pe_ix (ixT K) (pv 3) pe_int (fun _ _ => rfl)) pe_str (nomark _))
        (pss_one (ps_ret (pc D.tie_shows Gtie_shows (hr.mono (by have := rk; walk_at "om")) (pa_cons (pv 0) (pa_cons (pv 2) (pa_cons (pe_ix (ixT K) (pv 3) pe_int (fun _ _ => rfl)) pa_nil))))))
        pss_nil)
      (pss_cons (ps_if (pt_cmpR op_eq (pe_ix (ixT K) (pv 3) pe_int (fun _ _ => rfl)) pe_str (nomark _))
        (pss_one (ps_ret (pc D.short_shows Gshort_shows (hr.mono (by have := rk; walk_at "om")) (pa_cons (pv 0) (pa_cons (pv 1) (pa_cons (pe_ix (ixT K) (pv 3) pe_int (fun _ _ => rfl)) pa_nil))))))
        pss_nil)
      (pss_cons (ps_if (pt_cmpR op_eq (pe_ix (ixT K) (pv 3) pe_int (fun _ _ => rfl)) pe_str (nomark _))
        (pss_one (ps_ret (pc D.split_shows Gsplit_shows (hr.mono (by have := rk; walk_at "om")) (pa_cons (pv 0) (pa_cons (pv 1) (pa_cons (pv 2) (pa_cons (pe_ix (ixT K) (pv 3) pe_int (fun _ _ => rfl)) pa_nil)))))))
        pss_nil)
      (pss_one (ps_ret pe_bl)))))), ?_⟩
      have m6 := hm.m6
      cases pat with
      | @tie tp j ht =>
        refine ⟨_, rfl, _, _, _, true, rfl, .tup ht, rfl, _, rfl, iteF ?_⟩
        refine ⟨_, rfl, _, _, rfl, .inr ⟨_, SqT.of ht, rfl⟩, rfl, _, rfl, ifNe (fun h => absurd rfl h) fun _ => ?_⟩
        refine ⟨_, rfl, tp, _, _, _, rfl, rfl, SqT.of ht, rfl, rfl, _, rfl, ?_⟩
        rw [decide_eq_true rfl]
        exact iteT ⟨_, rfl, _, rfl, _, rfl, tp, _, _, _, rfl, rfl, SqT.of ht, rfl, pa, ta, j, p, may, ts, b, rfl, SqL.of hpa, tt, si, q⟩
      | @short tp l bs ht hl' =>
        refine ⟨_, rfl, _, _, _, true, rfl, .tup ht, rfl, _, rfl, iteF ?_⟩
        refine ⟨_, rfl, _, _, rfl, .inr ⟨_, SqT.of ht, rfl⟩, rfl, _, rfl, ifNe (fun h => absurd rfl h) fun _ => ?_⟩
        refine ⟨_, rfl, tp, _, _, _, rfl, rfl, SqT.of ht, rfl, rfl, _, rfl, ?_⟩
        rw [decide_eq_false (by decide)]
        refine iteF ?_
        refine ⟨_, rfl, tp, _, _, _, rfl, rfl, SqT.of ht, rfl, rfl, _, rfl, ?_⟩
        rw [decide_eq_true rfl]
        cases si
        cases gb with
        | short gb =>
        exact iteT ⟨_, rfl, _, rfl, _, rfl, tp, _, _, _, rfl, rfl, SqT.of ht, rfl, pa, ma, l, p, rs, may, U, bs, rfl, SqL.of hpa, hm, c, hl, hl', gb, q⟩
      | @split tp l vs' ps ht hl' hvn hat =>
        refine ⟨_, rfl, _, _, _, true, rfl, .tup ht, rfl, _, rfl, iteF ?_⟩
        refine ⟨_, rfl, _, _, rfl, .inr ⟨_, SqT.of ht, rfl⟩, rfl, _, rfl, ifNe (fun h => absurd rfl h) fun _ => ?_⟩
        refine ⟨_, rfl, tp, _, _, _, rfl, rfl, SqT.of ht, rfl, rfl, _, rfl, ?_⟩
        rw [decide_eq_false (by decide)]
        refine iteF ?_
        refine ⟨_, rfl, tp, _, _, _, rfl, rfl, SqT.of ht, rfl, rfl, _, rfl, ?_⟩
        rw [decide_eq_false (by decide)]
        refine iteF ?_
        refine ⟨_, rfl, tp, _, _, _, rfl, rfl, SqT.of ht, rfl, rfl, _, rfl, ?_⟩
        rw [decide_eq_true rfl]
        cases gb with
        | split gb =>
        exact iteT ⟨_, rfl, _, rfl, _, rfl, _, rfl, tp, _, _, _, rfl, rfl, SqT.of ht, rfl, pa, ma, ta, l, vs', p, rs, may, U, ts, ps, b, rfl, hpa, hm, tt, c, hl, by walk_at "om", hl', hvn, hat, gb, si, q⟩
  exact all 7
noncomputable def sp_shows (K : PySem.W.Frag) : Sp := fun vs H Q _ => ∃ (ma ta : Addr) (v : V) (rs : List Addr) (may : List (List Int)) (U : List Int) (ts : List (Addr × Addr × Str × Int × List Nat)) (g : GPap) (b : Bool), vs = [.ref ma, .ref ta, v] ∧ May K H ma rs may U ∧ Ties K H ta ts 100 ∧ GPapAt H v g ∧ GBnd g ∧ ShowsIs may (ts.map tieOf) [] g b ∧ ∀ H', Same H H' → Q (.bl b) H'
theorem sc_shows : FnScope ["may", "ties", "paper"] ["may", "ties", "paper"] (defScope s_shows) := ⟨rfl, rfl, rfl, by decide +kernel, rfl, by decide +kernel, by decide +kernel⟩
theorem ok_shows (D : Dfs K mg aF dF) (T : Txt mg) : FnOk P w K mg base CX0 25 (aF 12) (dF 12) ["may", "ties", "paper"] (sp_shows K) := by
  have Gshows_for : FnOk P w K mg base CX0 24 (aF 13) (dF 13) ["pattern", "may", "ties", "paper"] (sp_shows_for K) := ok_shows_for D T
  refine D.shows.fn.ok sc_shows (fun vs H Q E h => ?_) (fun cdv A outer s H vs Q E hr h => ?_)
  · obtain ⟨ma, ta, v, rs, may, U, ts, g, b, rfl, _⟩ := h; rfl
  · have hu := hu_of hr
    obtain ⟨ma, ta, v, rs, may, U, ts, g, b, rfl, hm, tt, pat, gb, si, q⟩ := h
    refine ⟨_, (pss_one (ps_ret (pc D.shows_for Gshows_for (hr.mono (by decide)) (pa_cons (pe_lst pa_nil) (pa_cons (pv 0) (pa_cons (pv 1) (pa_cons (pv 2) pa_nil))))))), ?_⟩
    have m6 := hm.m6
    refine ⟨szr, fun e ne => ?_⟩
    have s1 := Same.new (o := .lst []) ne
    exact ⟨_, rfl, _, rfl, _, rfl, e, ma, ta, v, [], rs, may, U, ts, g, b, rfl, upd_same, hm.same s1, ⟨s1.seq tt.ls, fun x hx => (tt.ea x hx).same s1, tt.ln⟩, canon_nil, Nat.zero_le _, by simp; walk_at "om", pat.same s1, gb, si, fun H' s => q H' (s1.trans s)⟩
noncomputable def spN_settle (K : PySem.W.Frag) (n : Nat) : Sp := fun vs H Q _ => ∃ (a hd ad : Addr) (rs : List Addr) (ps : List (List Int)) (U : List Int) (pl : Nat) (kvs : HK) (as : List Int), vs = [.ref a, .ref hd, .int pl, .ref ad] ∧
  SqL K H a (rs.map V.ref) ∧ PoolsL K H rs ps ∧ pl < ps.length ∧ (∀ p ∈ ps, ∀ b ∈ p, b ∈ U) ∧ U.length ≤ 60 ∧ H hd = some (.dK kvs) ∧ H ad = some (.dK (encA as)) ∧ hd ≠ ad ∧
  (kvs.map (·.1)).Nodup ∧ Good ps kvs ∧ as.Nodup ∧ (∀ b ∈ as, b ∈ U) ∧ (U.filter fun c => decide (c ∉ as)).length < n ∧
  ∀ ok kvs' as' H', Sett ps U pl kvs as ok kvs' as' → SameX [hd, ad] H H' → H' hd = some (.dK kvs') → H' ad = some (.dK (encA as')) → Q (.bl ok) H'
noncomputable def sp_settle (K : PySem.W.Frag) : Sp := spN_settle K 28
theorem sc_settle : FnScope ["pools", "holders", "place", "asked", "badge"] ["pools", "holders", "place", "asked"] (defScope s_settle) := ⟨rfl, rfl, rfl, by decide +kernel, rfl, by decide +kernel, by decide +kernel⟩
theorem ok_settle (D : Dfs K mg aF dF) (T : Txt mg) : FnOk P w K mg base CX0 28 (aF 20) (dF 20) ["pools", "holders", "place", "asked"] (sp_settle K) := by
  have all : ∀ n, FnOk P w K mg base CX0 n (aF 20) (dF 20) ["pools", "holders", "place", "asked"] (spN_settle K n) := by
    intro n
    induction n with
    | zero =>
      have no : ∀ vs H Q E, ¬ spN_settle K 0 vs H Q E := fun vs H Q E h => by
        obtain ⟨a, hd, ad, rs, ps, U, pl, kvs, as, _, _, _, _, _, _, _, _, _, _, _, _, _, h, _⟩ := h
        walk_at "om"
      exact ⟨fun vs H Q E h => absurd h (no vs H Q E), fun A outer s H args us vs Q E _ _ _ _ h => absurd h (no vs H Q E)⟩
    | succ n Gsettle =>
      refine D.settle.fn.ok sc_settle (fun vs H Q E h => ?_) (fun cdv A outer s H vs Q E hr h => ?_)
      · obtain ⟨a, hd, ad, rs, ps, U, pl, kvs, as, rfl, _⟩ := h; rfl
      have hu : A.units + 3 + 1 < cLine := by have := hr.un; show A.units + 3 + 1 < cLine; simp only [Around.deeper] at this; walk_at "om"
      obtain ⟨a, hd, ad, rs, ps, U, pl, kvs, as, rfl, hS, hP, hpl, hU, hU60, hH, hA, hne, nd, g, nda, hsub, hleft, q⟩ := h
      refine ⟨_, (pss_cons (ps_for PassesOwn.never rfl (piL K (pe_ix (ixL K) (pv 0) (pv 2) (fun _ _ => rfl))) (pg_name (i := 4) sc_settle.nd rfl (Or.inl rfl))
        (pss_one (ps_if (pt_cmp (pc_dnotin hu (pv 4) (pv 3)))
          (pss_cons (ps_dput hu (pv 3) (pv 4) pe_bl rfl)
          (pss_one (ps_if (PW.pt (pw_or (pt_cmp (pc_dnotin hu (pv 4) (pv 1))) (pw_or1 (pt_val (pc D.settle Gsettle hr (pa_cons (pv 0) (pa_cons (pv 1) (pa_cons (pe_dget hu (pv 1) (pv 4) (fun _ _ => rfl)) (pa_cons (pv 3) pa_nil)))))))))
            (pss_cons (ps_dput hu (pv 1) (pv 4) (pv 2) rfl)
            (pss_one (ps_ret pe_bl)))
            pss_nil)))
          pss_nil)))
      (pss_one (ps_ret pe_bl))), ?_⟩
      have hp : ps[pl]? = some ps[pl] := List.getElem?_eq_getElem hpl
      generalize ps[pl] = p at hp
      obtain ⟨r, hr1, hr2⟩ := hP.at hp
      have dk0 : ∀ x ∈ [hd, ad], IsDk H x := fun x hx => by
        simp only [List.mem_cons, List.not_mem_nil, or_false] at hx
        rcases hx with e | e <;> subst e
        · exact ⟨_, hH⟩
        · exact ⟨_, hA⟩
      refine ⟨_, rfl, _, rfl, a, _, _, _, rfl, rfl, hS, atI_nat (by rw [List.getElem?_map, hr1]; rfl), r, rfl, ⟨_, hr2⟩, ?_⟩
      refine for_list (K := K) (a := r) (xs := p.map V.int) (fun i σ H1 => ∃ ai v, σ = [some (.ref a), some (.ref hd), some (.int pl), some (.ref ad), v] ∧ SLoop ps U p kvs as i ai ∧ SameX [hd, ad] H H1 ∧ H1 hd = some (.dK kvs) ∧ H1 ad = some (.dK (encA ai)))
        ⟨as, none, rfl, ⟨fun _ h => h, nda, hsub, fun _ h => by simp at h, fun b hb hn => absurd hb hn⟩, SameX.refl, hH, hA⟩ (fun i σ H1 _ hq__ => by obtain ⟨_, _, _, _, s1, _⟩ := hq__; exact s1.seq dk0 hr2) ?_ ?_
      · rintro i y σ H1 hi ⟨ai, v, rfl, sl, s1, hH1, hA1⟩
        obtain ⟨b, hb, rfl⟩ : ∃ b, p[i]? = some b ∧ y = V.int b := by
          rw [List.getElem?_map] at hi
          obtain ⟨b, h1, h2⟩ := Option.map_eq_some_iff.mp hi
          exact ⟨b, h1, h2.symm⟩
        have hbU : b ∈ U := hU p (List.mem_of_getElem? hp) b (List.mem_of_getElem? hb)
        have al : ai.length ≤ U.length := sl.nd.length_le_of_subset sl.sub
        have dk1 : ∀ x ∈ [hd, ad], IsDk H1 x := fun x hx => by
          simp only [List.mem_cons, List.not_mem_nil, or_false] at hx
          rcases hx with e | e <;> subst e
          · exact ⟨_, hH1⟩
          · exact ⟨_, hA1⟩
        refine ⟨_, rfl, _, rfl, ad, _, rfl, DGet.k (k := Sum.inl b) hA1, _, rfl, ?_⟩
        rw [encA_val]
        by_cases hba : b ∈ ai
        · rw [if_pos hba]
          exact iteF ⟨ai, _, rfl, sl.skip hb hba, s1, hH1, hA1⟩
        rw [if_neg hba]
        refine iteT ?_
        refine ⟨_, rfl, _, rfl, ad, _, rfl, DPut.k (k := Sum.inl b) hA1 (szn (by unfold encA; rw [List.length_map]; walk_at "om")), ?_⟩
        rw [encA_put hba]
        have hH2 : upd H1 ad (.dK (encA (ai ++ [b]))) hd = some (.dK kvs) := by rw [upd_ne hne]; exact hH1
        have s2 : SameX [hd, ad] H (upd H1 ad (.dK (encA (ai ++ [b])))) := s1.trans (SameX.upd (by simp))
        have dk2 : ∀ x ∈ [hd, ad], IsDk (upd H1 ad (.dK (encA (ai ++ [b])))) x := fun x hx => by
          simp only [List.mem_cons, List.not_mem_nil, or_false] at hx
          rcases hx with e | e <;> subst e
          · exact ⟨_, hH2⟩
          · exact ⟨_, upd_same⟩
        have kl := keys_le hU g nd
        refine ⟨_, rfl, _, rfl, hd, _, rfl, DGet.k (k := Sum.inl b) hH2, _, rfl, ?_⟩
        cases hv : valV kvs (Sum.inl b) with
        | none =>
          refine iteT (iteT ?_)
          refine ⟨_, rfl, _, rfl, _, rfl, hd, _, rfl, DPut.k (k := Sum.inl b) hH2 (szn (by walk_at "om")), ?_⟩
          refine q true _ (ai ++ [b]) _ (sl.free hp (hU p (List.mem_of_getElem? hp)) hb hba hv nd g) (s2.trans (SameX.upd (by simp))) upd_same ?_
          rw [upd_ne hne.symm]; exact upd_same
        | some vv =>
          obtain ⟨t, pt, rfl, ht, _⟩ := g.val hv
          have htl : t < ps.length := (List.getElem?_eq_some_iff.mp ht).1
          refine iteF ?_
          refine ⟨_, rfl, _, rfl, _, rfl, _, rfl, hd, _, rfl, (by rw [← hv]; exact DGet.k (k := Sum.inl b) hH2), _, rfl, ?_⟩
          refine ⟨a, hd, ad, rs, ps, U, t, kvs, ai ++ [b], rfl, s2.seq dk0 hS, hP.mono s2 dk0, htl, hU, hU60, hH2, upd_same, hne, nd, g, nd_snoc sl.nd hba, ?_, ?_, ?_⟩
          · intro c hc
            rcases List.mem_append.mp hc with z | z
            · exact sl.sub c z
            · rw [List.mem_singleton.mp z]; exact hbU
          · have := left_lt hbU hba sl.grow
            walk_at "om"
          intro ok kvs2 as2 H3 st s3 hH3 hA3
          refine ⟨ok, rfl, ?_⟩
          cases ok with
          | false =>
            obtain ⟨e, sl2⟩ := sl.miss hb hba hv htl st
            subst e
            exact iteF ⟨as2, _, rfl, sl2, s2.trans s3, hH3, hA3⟩
          | true =>
            obtain ⟨n2, g2, _⟩ := st.yes rfl
            have kl2 := keys_le hU g2 n2
            refine iteT ?_
            refine ⟨_, rfl, _, rfl, _, rfl, hd, _, rfl, DPut.k (k := Sum.inl b) hH3 (szn (by walk_at "om")), ?_⟩
            refine q true _ as2 _ (sl.turn hp hb hba hv st) ((s2.trans s3).trans (SameX.upd (by simp))) upd_same ?_
            rw [upd_ne hne.symm]; exact hA3
      · rintro σ H1 ⟨ai, v, rfl, sl, s1, hH1, hA1⟩
        rw [List.length_map] at sl
        exact q false kvs ai H1 (sl.done hp) s1 hH1 hA1
  exact all 28
noncomputable def sp_short_places (K : PySem.W.Frag) : Sp := fun vs H Q _ => ∃ (hd ad : Addr) (pl : Nat) (kvs : HK) (as : List Int), vs = [.ref hd, .int pl, .ref ad] ∧ H hd = some (.dK kvs) ∧ H ad = some (.dK (encA as)) ∧ hd ≠ ad ∧ as.length ≤ 60 ∧
  (∀ b ∈ as, ∃ i : Int, valV kvs (Sum.inl b) = some (.int i)) ∧
  ∀ l (ms : List Int) H', SameX [ad] H H' → H l = none → H' l = some (.lst (ms.map V.int)) → ms.Perm ((pl : Int) :: as.map (hold kvs)) → ms.Pairwise (· ≤ ·) → Q (.ref l) H'
theorem sc_short_places : FnScope ["holders", "place", "asked"] ["holders", "place", "asked"] (defScope s_short_places) := ⟨rfl, rfl, rfl, by decide +kernel, rfl, by decide +kernel, by decide +kernel⟩
theorem ok_short_places (D : Dfs K mg aF dF) (T : Txt mg) : FnOk P w K mg base CX0 1 (aF 21) (dF 21) ["holders", "place", "asked"] (sp_short_places K) := by
  refine D.short_places.fn.ok sc_short_places (fun vs H Q E h => ?_) (fun cdv A outer s H vs Q E hr h => ?_)
  · obtain ⟨hd, ad, pl, kvs, as, rfl, _⟩ := h; rfl
  · have hu := hu_of hr
    obtain ⟨hd, ad, pl, kvs, as, rfl, hH, hA, hne, h60, hv, q⟩ := h
    refine ⟨_, (pss_one (ps_ret (pe_callB (cSorted K) (by rfl) T.z_sorted boot_sorted (pa_cons (pe_op op_cat (pe_lst (pa_cons (pv 1) pa_nil)) (pe_lcomp ["badge", "holders"] [none, some 0] rfl (pi_keys (pv 2)) (fun _ => pg_name (i := 0) (nodupN (N := ["badge", "holders"]) (by decide +kernel)) rfl (Or.inl rfl)) (fun _ => pif_nil) (fun _ => (pe_dget hu (pv 1) (pv 0) (fun _ _ => rfl))) ((.cons (fun _ e => by cases e) (.cons (fun _ e => by cases e; exact ⟨rfl, rfl⟩) .nil))))) pa_nil)))), ?_⟩
    refine ⟨_, rfl, szr, fun l1 n1 => ?_⟩
    have nl1 : ad ≠ l1 := ne_of_none hA n1
    refine ⟨_, rfl, ad, _, rfl, by rw [upd_ne nl1]; exact hA, fun φ => ?_⟩
    have hH1 : upd (upd H l1 (.lst [.int pl])) ad (.ext φ) hd = some (.dK kvs) := by rw [upd_ne hne, upd_ne (ne_of_none hH n1)]; exact hH
    refine comp_keys (kvs := encA as) (fun k => match k with | .inl b => .int (hold kvs b) | .inr _ => .non) (by unfold encA; rw [List.length_map]; walk_at "om") upd_same (fun i k v hi H2 R s2 kk => ?_) fun acc H2 s2 na hacc => ?_
    · obtain ⟨b, hb, e⟩ : ∃ b, b ∈ as ∧ (Sum.inl b, V.bl true) = (k, v) := by
        have m := List.mem_of_getElem? hi
        obtain ⟨b, hb, e⟩ := List.mem_map.mp m
        exact ⟨b, hb, e⟩
      cases e
      obtain ⟨z, hz⟩ := hv b hb
      refine ⟨_, rfl, _, rfl, hd, _, rfl, (by rw [← hz]; exact DGet.k (k := Sum.inl b) (s2 _ _ hH1)), ?_⟩
      have e := hold_of hz
      rw [← e]
      exact kk H2 (Same.refl _)
    have e1 : (encA as).map (fun p => match p.1 with | Sum.inl b => V.int (hold kvs b) | Sum.inr _ => V.non) = (as.map (hold kvs)).map V.int := by
      unfold encA
      rw [List.map_map, List.map_map]; rfl
    have hacc' : H2 acc = some (.lst ((as.map (hold kvs)).map V.int)) := hacc.trans (congrArg (fun z => some (HO.lst z)) e1)
    have hl2 : H2 l1 = some (.lst [.int pl]) := s2 _ _ (by rw [upd_ne nl1.symm]; exact upd_same)
    refine ⟨l1, acc, _, _, rfl, rfl, hl2, hacc', by rw [List.length_map, List.length_map]; exact szl (by show 1 + _ ≤ 1000; walk_at "om"), fun l3 n3 => ?_⟩
    refine ⟨l3, (pl : Int) :: as.map (hold kvs), rfl, SqL.of upd_same, by rw [List.length_cons, List.length_map]; walk_at "om", fun l4 ms n4 hp hs => ?_⟩
    have sA : SameX [ad] H H2 := fun b o hb e => s2 b o (by rw [upd_ne (by simpa using hb), upd_ne (ne_of_none e n1)]; exact e)
    have n4' : H l4 = none := by
      cases z : H l4 with
      | none => rfl
      | some o =>
        by_cases hb : l4 = ad
        · have : upd H2 l3 (.lst (V.int (pl : Int) :: (as.map (hold kvs)).map V.int)) ad = none := hb ▸ n4
          rw [upd_ne (ne_of_none (s2 _ _ upd_same) n3), s2 _ _ upd_same] at this
          cases this
        · have z2 := sA l4 o (by simpa using hb) z
          have : upd H2 l3 (.lst (V.int (pl : Int) :: (as.map (hold kvs)).map V.int)) l4 = none := n4
          rw [upd_ne (ne_of_none z2 n3), z2] at this
          cases this
    refine q l4 ms _ ?_ n4' upd_same hp hs
    exact sA.trans (Same.x ((Same.new n3).to n4))
noncomputable def sp_hands_of (K : PySem.W.Frag) : Sp := fun vs H Q _ => ∃ (hd : Addr) (ps : List (List Int)) (kvs : HK), vs = [.ref hd, .int ps.length] ∧ H hd = some (.dK kvs) ∧ ps.length ≤ 60 ∧ Held ps kvs ps.length ∧
  ∀ l (hs : List Int) H', SameX [hd] H H' → H l = none → H' l = some (.lst (hs.map V.int)) → Deal ps hs → Q (.ref l) H'
theorem sc_hands_of : FnScope ["holders", "count", "hands", "badge", "place"] ["holders", "count"] (defScope s_hands_of) := ⟨rfl, rfl, rfl, by decide +kernel, rfl, by decide +kernel, by decide +kernel⟩
theorem ok_hands_of (D : Dfs K mg aF dF) (T : Txt mg) : FnOk P w K mg base CX0 1 (aF 22) (dF 22) ["holders", "count"] (sp_hands_of K) := by
  refine D.hands_of.fn.ok sc_hands_of (fun vs H Q E h => ?_) (fun cdv A outer s H vs Q E hr h => ?_)
  · obtain ⟨hd, ps, kvs, rfl, _⟩ := h; rfl
  · have hu := hu_of hr
    obtain ⟨hd, ps, kvs, rfl, hH, h60, he, q⟩ := h
    refine ⟨_, (pss_cons (ps_set (i := 2) sc_hands_of.nd rfl (Or.inl rfl) (pe_op op_rep (pe_lst (pa_cons pe_int pa_nil)) (pv 1)))
      (pss_cons (ps_for PassesOwn.never rfl (pi_items (pe_bm0 PySem.F.plainAttrs_dict PySem.F.slot_dict_items PySem.F.type_dict_items mt_items (pv 0))) (pgT K rfl (pgs_cons (pg_name (i := 3) sc_hands_of.nd rfl (Or.inl rfl)) (pgs_cons (pg_name (i := 4) sc_hands_of.nd rfl (Or.inl rfl)) pgs_nil)))
        (pss_one (ps_asg (pv 3) (pg_sub (pv 2) (pv 4) set_list))))
      (pss_one (ps_ret (pv 2))))), ?_⟩
    refine ⟨szr, fun l0 n0 => ⟨_, rfl, l0, _, _, rfl, rfl, upd_same, by walk_at "om", by walk_at "om", by show 1 * _ ≤ _; exact szl (by walk_at "om"), fun l nl => ?_⟩⟩
    have el : (List.replicate ((ps.length : Int)).toNat [V.int 0]).flatten = (List.replicate ps.length (0 : Int)).map V.int := by
      have : ((ps.length : Int)).toNat = ps.length := by walk_at "om"
      rw [this]
      generalize ps.length = m
      induction m with
      | zero => rfl
      | succ m ih => rw [List.replicate_succ, List.flatten_cons, ih, List.replicate_succ]; rfl
    rw [el]
    have nhd0 : hd ≠ l0 := ne_of_none hH n0
    have nhd : hd ≠ l := ne_of_none (show upd H l0 (.lst [.int 0]) hd = some _ by rw [upd_ne nhd0]; exact hH) nl
    have nl' : H l = none := by
      cases z : H l with
      | none => rfl
      | some o =>
        rw [upd_ne (ne_of_none z n0), z] at nl
        cases nl
    have hH1 : upd (upd H l0 (.lst [.int 0])) l (.lst ((List.replicate ps.length (0 : Int)).map V.int)) hd = some (.dK kvs) := by rw [upd_ne nhd, upd_ne nhd0]; exact hH
    refine ⟨_, rfl, .inr (.inr (.inl ⟨rfl, .inl ⟨_, hH1⟩⟩)), hd, kvs, rfl, rfl, hH1, fun v nv => ?_⟩
    have nvd : hd ≠ v := ne_of_none hH1 nv
    have nvl : l ≠ v := ne_of_none upd_same nv
    refine ⟨v, hd, kvs, rfl, upd_same, by rw [upd_ne nvd]; exact hH1, fun φ => ?_⟩
    refine for_items (fun i σ H1 => ∃ (hs : List Int) (x y : Option V), σ = [some (.ref hd), some (.int ps.length), some (.ref l), x, y] ∧ SameX [hd] H H1 ∧ H1 hd = some (.ext φ) ∧ H1 l = some (.lst (hs.map V.int)) ∧ hs.length = ps.length ∧
        ∀ j (b : Int) (t : Nat), j < i → kvs[j]? = some (Sum.inl b, V.int t) → hs[t]? = some b) ⟨List.replicate ps.length 0, none, none, rfl, ?_, upd_same, ?_, by rw [List.length_replicate], fun j b t h => by walk_at "om"⟩ (fun i σ H1 _ hq__ => by obtain ⟨_, _, _, _, _, h, _⟩ := hq__; exact h) ?_ ?_
    · intro b o hb e
      have h1 : b ≠ hd := by simpa using hb
      rw [upd_ne h1, upd_ne (ne_of_none (show upd (upd H l0 _) l _ b = some o by rw [upd_ne (ne_of_none e nl'), upd_ne (ne_of_none e n0)]; exact e) nv), upd_ne (ne_of_none e nl'), upd_ne (ne_of_none e n0)]; exact e
    · rw [upd_ne nhd.symm, upd_ne nvl]; exact upd_same
    · rintro i k v' σ H1 p hi ⟨hs, x, y, rfl, s1, hx1, hl1, hlen, hin⟩ np
      obtain ⟨b, t, pl, e, e2, e3⟩ := he.good _ (List.mem_of_getElem? hi)
      cases e
      have ht : t < ps.length := (List.getElem?_eq_some_iff.mp e2).1
      have npl : l ≠ p := ne_of_none hl1 np
      refine ⟨p, _, rfl, SqT.of upd_same, rfl, _, _, rfl, _, _, rfl, rfl, ?_⟩
      refine ⟨_, rfl, _, rfl, _, rfl, l, _, _, t, rfl, rfl, by rw [upd_ne npl]; exact hl1, ?_, ?_⟩
      · unfold ixN
        rw [if_pos (by walk_at "om"), if_pos (by rw [List.length_map]; walk_at "om")]
        congr 1
      refine ⟨hs.set t b, _, _, rfl, ?_, ?_, ?_, by rw [List.length_set]; exact hlen, fun j b' t' hj hj' => ?_⟩
      · intro c o hc e
        rw [upd_ne (ne_of_none e nl'), upd_ne (ne_of_none (s1 c o hc e) np)]; exact s1 c o hc e
      · rw [upd_ne nhd, upd_ne (ne_of_none hx1 np)]; exact hx1
      · rw [upd_same]; congr 1; congr 1
        rw [List.map_set]; rfl
      · by_cases hji : j = i
        · subst hji
          rw [hi] at hj'
          have z := Option.some.inj hj'
          injection z with z1 z2
          have z1 := Sum.inl.inj z1
          injection z2 with z2
          have : t = t' := by walk_at "om"
          subst this z1
          rw [List.getElem?_set_self (by walk_at "om")]
        · have h1 := hin j b' t' (by walk_at "om") hj'
          have : t ≠ t' := fun z => by
            subst z
            have nd := he.vals
            have l1 : j < kvs.length := (List.getElem?_eq_some_iff.mp hj').1
            have l2 : i < kvs.length := (List.getElem?_eq_some_iff.mp hi).1
            rw [List.getElem?_eq_getElem l1] at hj'
            rw [List.getElem?_eq_getElem l2] at hi
            have e1 : (kvs.map (·.2))[j]'(by simpa using l1) = (kvs.map (·.2))[i]'(by simpa using l2) := by simp [Option.some.inj hj', Option.some.inj hi]
            exact hji ((List.getElem_inj nd).mp e1)
          rw [List.getElem?_set_ne this]; exact h1
    · rintro σ H1 ⟨hs, x, y, rfl, s1, hx1, hl1, hlen, hin⟩
      refine ⟨_, rfl, q l hs H1 s1 nl' hl1 (he.deal hlen fun b t m => ?_)⟩
      obtain ⟨j, hj, ej⟩ := List.mem_iff_getElem.mp m
      exact hin j b t hj (by rw [List.getElem?_eq_getElem hj, ej])
noncomputable def Told (H : Hp) (t : Addr) (ps : List (List Int)) : Prop := (∃ (l : Addr) (hs : List Int), H t = some (.tup [.str "dealt", .ref l]) ∧ H l = some (.lst (hs.map V.int)) ∧ Deal ps hs) ∨
  ∃ (l : Addr) (qs : List Nat), H t = some (.tup [.str "short", .ref l]) ∧ H l = some (.lst (qs.map fun (q : Nat) => V.int (q : Int))) ∧ Short ps qs
noncomputable def New (H H' : Hp) (t : Addr) : Prop := H t = none ∧ ∀ s l, H' t = some (.tup [.str s, .ref l]) → H l = none
noncomputable def sp_deal (K : PySem.W.Frag) : Sp := fun vs H Q _ => ∃ (a : Addr) (rs : List Addr) (ps : List (List Int)) (U : List Int), vs = [.ref a] ∧ SqL K H a (rs.map V.ref) ∧ PoolsL K H rs ps ∧ ps.length ≤ 6 ∧ (∀ p ∈ ps, ∀ b ∈ p, b ∈ U) ∧ U.length ≤ 26 ∧
  ∀ t H', Same H H' → New H H' t → Told H' t ps → Q (.ref t) H'
theorem sc_deal : FnScope ["pools", "holders", "place", "asked"] ["pools"] (defScope s_deal) := ⟨rfl, rfl, rfl, by decide +kernel, rfl, by decide +kernel, by decide +kernel⟩
theorem ok_deal (D : Dfs K mg aF dF) (T : Txt mg) : FnOk P w K mg base CX0 29 (aF 19) (dF 19) ["pools"] (sp_deal K) := by
  have Gsettle : FnOk P w K mg base CX0 28 (aF 20) (dF 20) ["pools", "holders", "place", "asked"] (sp_settle K) := ok_settle D T
  have Gshort_places : FnOk P w K mg base CX0 1 (aF 21) (dF 21) ["holders", "place", "asked"] (sp_short_places K) := ok_short_places D T
  have Ghands_of : FnOk P w K mg base CX0 1 (aF 22) (dF 22) ["holders", "count"] (sp_hands_of K) := ok_hands_of D T
  refine D.deal.fn.ok sc_deal (fun vs H Q E h => ?_) (fun cdv A outer s H vs Q E hr h => ?_)
  · obtain ⟨a, rs, ps, U, rfl, _⟩ := h; rfl
  · have hu := hu_of hr
    obtain ⟨a, rs, ps, U, rfl, hS, hP, h6, hU, hU26, q⟩ := h
    refine ⟨_, (pss_cons (ps_set (i := 1) sc_deal.nd rfl (Or.inl rfl) pe_dnewK)
      (pss_cons (ps_for PassesOwn.never rfl (pi_range1 rfl T.z_range (pa_cons (pe_callB (cLen K) (by rfl) T.z_len boot_len (pa_cons (pv 0) pa_nil)) pa_nil)) (pg_name (i := 2) sc_deal.nd rfl (Or.inl rfl))
        (pss_cons (ps_set (i := 3) sc_deal.nd rfl (Or.inl rfl) pe_dnewK)
        (pss_one (ps_if (pt_not (pt_val (pc D.settle Gsettle (hr.mono (by decide)) (pa_cons (pv 0) (pa_cons (pv 1) (pa_cons (pv 2) (pa_cons (pv 3) pa_nil)))))))
          (pss_one (ps_ret (pe_tup (pa_cons pe_str (pa_cons (pc D.short_places Gshort_places (hr.mono (by decide)) (pa_cons (pv 1) (pa_cons (pv 2) (pa_cons (pv 3) pa_nil)))) pa_nil)))))
          pss_nil))))
      (pss_one (ps_ret (pe_tup (pa_cons pe_str (pa_cons (pc D.hands_of Ghands_of (hr.mono (by decide)) (pa_cons (pv 1) (pa_cons (pe_callB (cLen K) (by rfl) T.z_len boot_len (pa_cons (pv 0) pa_nil)) pa_nil))) pa_nil))))))), ?_⟩
    intro hd nh
    have hl : rs.length = ps.length := Paired.length hP
    refine ⟨_, rfl, _, _, rfl, .inl ⟨_, (Same.new nh).seq hS, rfl⟩, _, rfl, lo62 _, by rw [List.length_map]; walk_at "om", ?_⟩
    rw [List.length_map, hl]
    have e0 : ((ps.length : Int)).toNat = ps.length := by walk_at "om"
    rw [e0]
    refine for_range (n := ps.length) (fun i σ H1 => ∃ (kvs : HK) (x y : Option V), σ = [some (.ref a), some (.ref hd), x, y] ∧ Same H H1 ∧ H1 hd = some (.dK kvs) ∧ Held ps kvs i) ⟨[], none, none, rfl, Same.new nh, upd_same, Held.start⟩ ?_ ?_
    · rintro i σ H1 hi ⟨kvs, x, y, rfl, s1, hH1, he⟩
      intro ad na
      have hne : hd ≠ ad := ne_of_none hH1 na
      have na' : H ad = none := s1.free na
      refine ⟨_, rfl, _, rfl, _, rfl, _, rfl, ?_⟩
      have ei : (0 : Int) + (i : Int) = (i : Int) := by walk_at "om"
      rw [ei]
      have s2 : Same H (upd H1 ad (.dK [])) := s1.to na
      have hH2 : upd H1 ad (.dK []) hd = some (.dK kvs) := by rw [upd_ne hne]; exact hH1
      refine ⟨a, hd, ad, rs, ps, U, i, kvs, [], rfl, s2.seq hS, hP.same s2, hi, hU, by walk_at "om", hH2, upd_same, hne, he.nd, he.good, List.nodup_nil, (fun _ h => by cases h), ?_, ?_⟩
      · have := List.length_filter_le (fun c => decide (c ∉ ([] : List Int))) U
        walk_at "om"
      intro ok kvs' as' H3 st s3 hH3 hA3
      have fr : ∀ b o, H b = some o → b ∉ [hd, ad] := fun b o e m => by
        simp only [List.mem_cons, List.not_mem_nil, or_false] at m
        rcases m with z | z
        · rw [z, nh] at e; cases e
        · rw [z, na'] at e; cases e
      have s4 : Same H H3 := fun b o e => s3 b o (fr b o e) (s2 b o e)
      refine ⟨ok, rfl, ?_⟩
      cases ok with
      | true => exact iteF ⟨kvs', _, _, rfl, s4, hH3, he.next st⟩
      | false =>
        obtain ⟨e, h1, h2⟩ := st.no rfl
        subst e
        refine iteT ?_
        refine ⟨_, rfl, _, rfl, _, rfl, ?_⟩
        have al : as'.length ≤ U.length := st.nd.length_le_of_subset st.sub
        refine ⟨hd, ad, i, kvs', as', rfl, hH3, hA3, hne, by walk_at "om", fun b hb => ?_, fun l ms H4 s5 nl hl4 hp hs => ?_⟩
        · obtain ⟨t, _, e, _⟩ := h2 b hb (by simp)
          exact ⟨t, e⟩
        obtain ⟨qs, eq, sh⟩ := he.short hi st hp hs
        have s6 : Same H H4 := fun b o e => s5 b o (fun m => fr b o e (List.mem_cons_of_mem _ m)) (s4 b o e)
        refine ⟨szr, fun t nt => q t _ (s6.to nt) ⟨s6.free nt, fun s l' e => ?_⟩ (.inr ⟨l, qs, upd_same, ?_, sh⟩)⟩
        · rw [upd_same] at e
          cases e
          exact s4.free nl
        · rw [upd_ne (ne_of_none hl4 nt), hl4, eq, List.map_map]; rfl
    · rintro σ H1 ⟨kvs, x, y, rfl, s1, hH1, he⟩
      refine ⟨_, rfl, _, rfl, _, _, rfl, .inl ⟨_, s1.seq hS, rfl⟩, ?_⟩
      rw [List.length_map, hl]
      refine ⟨hd, ps, kvs, rfl, hH1, by walk_at "om", he, fun l hs H2 s2 nl hl2 dl => ?_⟩
      have s6 : Same H H2 := fun b o e => s2 b o (fun m => by
        rw [List.mem_singleton.mp m, nh] at e
        cases e) (s1 b o e)
      refine ⟨szr, fun t nt => q t _ (s6.to nt) ⟨s6.free nt, fun s l' e => ?_⟩ (.inl ⟨l, hs, upd_same, ?_, dl⟩)⟩
      · rw [upd_same] at e
        cases e
        exact s1.free nl
      · rw [upd_ne (ne_of_none hl2 nt)]; exact hl2
noncomputable def sp_fits (K : PySem.W.Frag) : Sp := fun vs H Q _ => ∃ (ma ta ha : Addr) (rs : List Addr) (may : List (List Int)) (ts : List (Addr × Addr × Str × Int × List Nat)) (hs : List Int), vs = [.ref ma, .ref ta, .ref ha] ∧ SqL K H ma (rs.map V.ref) ∧ PoolsL K H rs may ∧ may.length ≤ 6 ∧ Ties K H ta ts 100 ∧ (∀ x ∈ ts, ∀ i ∈ x.2.2.2.2, i < may.length) ∧ SqL K H ha (hs.map V.int) ∧ hs.length ≤ 100 ∧
  ∀ H', Same H H' → Q (.bl (fitB may ts hs)) H'
theorem sc_fits : FnScope ["may", "ties", "hands"] ["may", "ties", "hands"] (defScope s_fits) := ⟨rfl, rfl, rfl, by decide +kernel, rfl, by decide +kernel, by decide +kernel⟩
theorem ok_fits (D : Dfs K mg aF dF) (T : Txt mg) : FnOk P w K mg base CX0 3 (aF 23) (dF 23) ["may", "ties", "hands"] (sp_fits K) := by
  have Gkeeps : FnOk P w K mg base CX0 2 (aF 6) (dF 6) ["hands", "tie"] (sp_keeps K) := ok_keeps D T
  refine D.fits.fn.ok sc_fits (fun vs H Q E h => ?_) (fun cdv A outer s H vs Q E hr h => ?_)
  · obtain ⟨ma, ta, ha, rs, may, ts, hs, rfl, _⟩ := h; rfl
  · have hu := hu_of hr
    obtain ⟨ma, ta, ha, rs, may, ts, hs, rfl, hm, po, m6, tt, tl, hh, h100, q⟩ := h
    refine ⟨_, (pss_cons (ps_if (pt_cmpR op_ne (pe_callB (cLen K) (by rfl) T.z_len boot_len (pa_cons (pv 2) pa_nil)) (pe_callB (cLen K) (by rfl) T.z_len boot_len (pa_cons (pv 0) pa_nil)) (nomark _))
        (pss_one (ps_ret pe_bl))
        pss_nil)
      (pss_cons (ps_if (pt_not (pt_val (pe_callB (cAll K) (by rfl) T.z_all boot_all (pa_cons (pe_lcomp ["hand", "badges"] [none, none] rfl (pi_zip K rfl T.z_zip (pa_cons (pv 2) (pa_cons (pv 0) pa_nil))) (fun _ => pgT K (n := 2) rfl (pgs_cons (pg_name (i := 0) (nodupN (N := ["hand", "badges"]) (by decide +kernel)) rfl (Or.inl rfl)) (pgs_cons (pg_name (i := 1) (nodupN (N := ["hand", "badges"]) (by decide +kernel)) rfl (Or.inl rfl)) pgs_nil))) (fun _ => pif_nil) (fun _ => (pe_cmpR (inS K) (pv 0) (pv 1) (by with_unfolding_all rfl))) ((.cons (fun _ e => by cases e) (.cons (fun _ e => by cases e) .nil)))) pa_nil))))
        (pss_one (ps_ret pe_bl))
        pss_nil)
      (pss_one (ps_ret (pe_callB (cAll K) (by rfl) T.z_all boot_all (pa_cons (pe_lcomp ["tie", "hands"] [none, some 2] rfl (piL K (pv 1)) (fun _ => pg_name (i := 0) (nodupN (N := ["tie", "hands"]) (by decide +kernel)) rfl (Or.inl rfl)) (fun _ => pif_nil) (fun _ => (pc D.keeps Gkeeps (hr.mono (by decide)) (pa_cons (pv 1) (pa_cons (pv 0) pa_nil)))) ((.cons (fun _ e => by cases e) (.cons (fun _ e => by cases e; exact ⟨rfl, rfl⟩) .nil)))) pa_nil)))))), ?_⟩
    have rl : rs.length = may.length := po.len
    refine ⟨_, rfl, _, _, rfl, .inl ⟨_, hh, rfl⟩, _, rfl, _, _, rfl, .inl ⟨_, hm, rfl⟩, rfl, _, rfl, ifNe (fun h => ?_) fun h => ?_⟩
    · rw [List.length_map, List.length_map, rl] at h
      have e : fitB may ts hs = false := by
        unfold fitB
        rw [decide_eq_false (by walk_at "om")]; rfl
      have qq := q H (Same.refl _)
      rw [e] at qq
      exact qq
    rw [List.length_map, List.length_map, rl] at h
    have hl : hs.length = may.length := by walk_at "om"
    refine ⟨_, rfl, _, rfl, ha, ma, _, _, rfl, hh, hm, ?_⟩
    refine comp_zipV (xs := hs.map V.int) (ys := rs.map V.ref) (fun i => .bl (decide (hs.getD i 0 ∈ may.getD i []))) (by rw [List.length_map, List.length_map]; walk_at "om") hh hm (by rw [List.length_map]; walk_at "om") (fun i x y H2 R hx hy s2 k => ?_) fun acc H2 s2 nacc hacc => ?_
    · obtain ⟨d, hd, rfl, ed⟩ := at_int hx
      rw [List.getElem?_map] at hy
      obtain ⟨r, hr, rfl⟩ := Option.map_eq_some_iff.mp hy
      have hi : i < may.length := by rw [← rl]; exact (List.getElem?_eq_some_iff.mp hr).1
      obtain ⟨r', e1, e2⟩ := (po.same s2).at (List.getElem?_eq_getElem hi)
      rw [hr] at e1
      cases e1
      rw [← getD_getL hi] at e2
      rw [ed] at k
      refine ⟨_, rfl, _, rfl, r, _, rfl, .inl e2, rfl, flat_all _, ?_⟩
      rw [if_neg (by decide), inV_int]
      exact k H2 (Same.refl _)
    have eb : (List.range (hs.map V.int).length).map (fun i => V.bl (decide (hs.getD i 0 ∈ may.getD i []))) = ((List.range hs.length).map fun i => decide (hs.getD i 0 ∈ may.getD i [])).map V.bl := by rw [List.length_map, List.map_map]; rfl
    rw [eb] at hacc
    refine ⟨acc, _, rfl, SqL.of hacc, _, rfl, ?_⟩
    have ea : ((List.range hs.length).map fun i => decide (hs.getD i 0 ∈ may.getD i [])).all id = (List.range hs.length).all fun i => decide (hs.getD i 0 ∈ may.getD i []) := by rw [List.all_map]; rfl
    rw [ea]
    refine ifNot (fun hn => ?_) fun hy => ?_
    · have e : fitB may ts hs = false := by
        unfold fitB
        rw [hn, Bool.and_false]; rfl
      have qq := q H2 s2
      rw [e] at qq
      exact qq
    have tl2 := tt.ln
    refine ⟨_, rfl, ta, rfl, ⟨_, s2.seq tt.ls⟩, ?_⟩
    refine comp_list2 (xs := ts.map fun x => V.ref x.1) (fun _ => true) (fun j => .bl ((ts[j]?.map (kpX hs)).getD true)) (s2.seq tt.ls) (by rw [List.length_map]; walk_at "om") (fun _ _ _ _ _ _ k => k _ (Same.refl _)) (fun j x hx _ H3 R s3 k => ?_) fun acc2 H3 s3 nacc2 hacc2 => ?_
    · rw [List.getElem?_map] at hx
      obtain ⟨t, ht, rfl⟩ := Option.map_eq_some_iff.mp hx
      have tm := List.mem_of_getElem? ht
      have te := (tt.ea t tm).same (s2.trans s3)
      rw [ht] at k
      exact ⟨_, rfl, _, rfl, ha, t.1, t.2.1, hs, t.2.2.2.2, t.2.2.1, t.2.2.2.1, rfl, (s2.trans s3).seq hh, SqT.of te.tp, SqT.of te.ts, te.wd, (fun i hi => by rw [hl]; exact tl t tm i hi), te.sl, fun H4 s4 => k H4 s4⟩
    rw [List.filter_eq_self.mpr (fun _ _ => rfl), List.length_map] at hacc2
    have e2 : (List.range ts.length).map (fun j => V.bl ((ts[j]?.map (kpX hs)).getD true)) = (ts.map (kpX hs)).map V.bl := by
      rw [List.map_map]
      exact map_at fun i x hx => by rw [hx]; rfl
    rw [e2] at hacc2
    refine ⟨acc2, _, rfl, SqL.of hacc2, ?_⟩
    have e : (ts.map (kpX hs)).all id = fitB may ts hs := by
      unfold fitB
      rw [hy, decide_eq_true hl, List.all_map]; rfl
    rw [e]
    exact q H3 (s2.trans s3)
noncomputable def spN_plan_from (K : PySem.W.Frag) (m : Nat) : Sp := fun vs H Q _ => ∃ (pa ma ta : Addr) (p : List Int) (rs : List Addr) (may : List (List Int)) (U : List Int) (ts : List (Addr × Addr × Str × Int × List Nat)), vs = [.ref pa, .ref ma, .ref ta] ∧ H pa = some (.lst (p.map V.int)) ∧ May K H ma rs may U ∧ Ties K H ta ts 100 ∧ (∀ x ∈ ts, TieG may.length x) ∧ Canon p ∧ p.length ≤ may.length ∧ may.length < p.length + m ∧
  ∀ t H', Same H H' → PTold H H' t may (ts.map tieOf) p → Q (.ref t) H'
noncomputable def sp_plan_from (K : PySem.W.Frag) : Sp := spN_plan_from K 7
theorem sc_plan_from : FnScope ["pattern", "may", "ties", "broken", "dealt", "papers", "longer", "told"] ["pattern", "may", "ties"] (defScope s_plan_from) := ⟨rfl, rfl, rfl, by decide +kernel, rfl, by decide +kernel, by decide +kernel⟩
theorem ok_plan_from (D : Dfs K mg aF dF) (T : Txt mg) : FnOk P w K mg base CX0 37 (aF 25) (dF 25) ["pattern", "may", "ties"] (sp_plan_from K) := by
  have Ggrown : FnOk P w K mg base CX0 2 (aF 5) (dF 5) ["pattern"] (sp_grown K) := ok_grown D T
  have Gfirst_broken : FnOk P w K mg base CX0 3 (aF 8) (dF 8) ["pattern", "ties"] (sp_first_broken K) := ok_first_broken D T
  have Gpools_of : FnOk P w K mg base CX0 3 (aF 10) (dF 10) ["pattern", "may"] (sp_pools_of K) := ok_pools_of D T
  have Gdeal : FnOk P w K mg base CX0 29 (aF 19) (dF 19) ["pools"] (sp_deal K) := ok_deal D T
  have all : ∀ n, FnOk P w K mg base CX0 (30 + n) (aF 25) (dF 25) ["pattern", "may", "ties"] (spN_plan_from K n) := by
    intro n
    induction n with
    | zero =>
      have no : ∀ vs H Q E, ¬ spN_plan_from K 0 vs H Q E := fun vs H Q E h => by
        obtain ⟨pa, ma, ta, p, rs, may, U, ts, _, _, _, _, _, _, h1, h2, _⟩ := h
        walk_at "om"
      exact ⟨fun vs H Q E h => absurd h (no vs H Q E), fun A outer s H args us vs Q E _ _ _ _ h => absurd h (no vs H Q E)⟩
    | succ n Gplan_from =>
      refine D.plan_from.fn.ok sc_plan_from (fun vs H Q E h => ?_) (fun cdv A outer s H vs Q E hr h => ?_)
      · obtain ⟨pa, ma, ta, p, rs, may, U, ts, rfl, _⟩ := h; rfl
      obtain ⟨pa, ma, ta, p, rs, may, U, ts, rfl, hpa, hm, tt, tg, c, hl, hlm, q⟩ := h
      have rk : Nat.add 30 n = 30 + n := rfl
      refine ⟨_, (pss_cons (ps_set (i := 3) sc_plan_from.nd rfl (Or.inl rfl) (pc D.first_broken Gfirst_broken (hr.mono (by have := rk; walk_at "om")) (pa_cons (pv 0) (pa_cons (pv 2) pa_nil))))
      (pss_cons (ps_if (pt_cmpR op_notN (pv 3) pe_non (nomark _))
        (pss_one (ps_ret (pe_tup (pa_cons pe_str (pa_cons (pe_tup (pa_cons pe_str (pa_cons (pv 3) pa_nil))) pa_nil)))))
        pss_nil)
      (pss_cons (ps_set (i := 4) sc_plan_from.nd rfl (Or.inr rfl) (pc D.deal Gdeal (hr.mono (by have := rk; walk_at "om")) (pa_cons (pc D.pools_of Gpools_of (hr.mono (by have := rk; walk_at "om")) (pa_cons (pv 0) (pa_cons (pv 1) pa_nil))) pa_nil)))
      (pss_cons (ps_if (pt_cmpR op_eq (pe_ix (ixT K) (pv 4) pe_int (fun _ _ => rfl)) pe_str (nomark _))
        (pss_one (ps_ret (pe_tup (pa_cons pe_str (pa_cons (pe_tup (pa_cons pe_str (pa_cons (pe_ix (ixT K) (pv 4) pe_int (fun _ _ => rfl)) pa_nil))) pa_nil)))))
        pss_nil)
      (pss_cons (ps_if (pt_cmpR op_eq (pe_callB (cLen K) (by rfl) T.z_len boot_len (pa_cons (pv 0) pa_nil)) (pe_callB (cLen K) (by rfl) T.z_len boot_len (pa_cons (pv 1) pa_nil)) (nomark _))
        (pss_one (ps_ret (pe_tup (pa_cons pe_str (pa_cons (pe_lcomp ["block", "dealt"] [none, some 4] rfl (piL K (pv 0)) (fun _ => pg_name (i := 0) (nodupN (N := ["block", "dealt"]) (by decide +kernel)) rfl (Or.inl rfl)) (fun _ => pif_nil) (fun _ => (pe_ix (ixL K) (pe_ix (ixT K) (pv 1) pe_int (fun _ _ => rfl)) (pv 0) (fun _ _ => rfl))) ((.cons (fun _ e => by cases e) (.cons (fun _ e => by cases e; exact ⟨rfl, rfl⟩) .nil)))) pa_nil)))))
        pss_nil)
      (pss_cons (ps_set (i := 5) sc_plan_from.nd rfl (Or.inl rfl) (pe_lst pa_nil))
      (pss_cons (ps_for PassesOwn.never rfl (piL K (pc D.grown Ggrown (hr.mono (by have := rk; walk_at "om")) (pa_cons (pv 0) pa_nil))) (pg_name (i := 6) sc_plan_from.nd rfl (Or.inl rfl))
        (pss_cons (ps_set (i := 7) sc_plan_from.nd rfl (Or.inl rfl) (pc D.plan_from Gplan_from hr (pa_cons (pv 6) (pa_cons (pv 1) (pa_cons (pv 2) pa_nil)))))
        (pss_cons (ps_if (pt_cmpR op_eq (pe_ix (ixT K) (pv 7) pe_int (fun _ _ => rfl)) pe_str (nomark _))
          (pss_one (ps_ret (pv 7)))
          pss_nil)
        (pss_one (ps_expr (pe_bm PySem.F.plainAttrs_list PySem.F.slot_list_append PySem.F.type_list_append mt_append (pv 5) (pa_cons (pe_ix (ixT K) (pv 7) pe_int (fun _ _ => rfl)) pa_nil)))))))
      (pss_one (ps_ret (pe_tup (pa_cons pe_str (pa_cons (pe_tup (pa_cons pe_str (pa_cons (pv 5) pa_nil))) pa_nil)))))))))))), ?_⟩
      have m6 := hm.m6
      have dl := dd_len p
      refine ⟨_, rfl, _, rfl, pa, ta, p, ts, rfl, SqL.of hpa, tt, fun H1 s1 => ?_⟩
      refine ⟨_, rfl, rfl, _, rfl, ?_⟩
      rw [dec_optV]
      cases hf : fstB (fun i => p.getD i 0) p.length ts with
      | some j =>
        refine iteT ⟨_, rfl, szr, fun t1 n1 => ⟨szr, fun t2 n2 => ?_⟩⟩
        obtain ⟨x, hx, hb⟩ := fstB_some hf
        have n12 : t1 ≠ t2 := fun z => by rw [← z, upd_same] at n2; cases n2
        refine q t2 _ ((s1.to n1).to n2) (.inr ⟨.ref t1, .tie j, upd_same, .tie (nw_of (s1.free n1) (by rw [upd_ne n12]; exact upd_same)), .tie (t := tieOf x) (by rw [List.getElem?_map, hx]; rfl) hb⟩)
      | none =>
        have nb := fstB_none hf
        refine iteF ?_
        have hm1 := hm.same s1
        refine ⟨_, rfl, _, rfl, pa, ma, p, rs, may, U, rfl, SqL.of (s1 _ _ hpa), hm1, c, hl, fun po ls H2 s2 npo hpo R2 fr2 => ⟨po, ls, pools may p, U, rfl, SqL.of hpo, R2.pools, by rw [pools_len]; walk_at "om", pools_sub c hl hm.sub, hm.u20, fun t H3 s3 nwt td => ?_⟩⟩
        have s03 := (s1.trans s2).trans s3
        have hpa3 := s03 _ _ hpa
        have hm3 := hm.same s03
        rcases td with ⟨dlA, ds, ht, hdl, dl'⟩ | ⟨sl, qs, ht, hsl, sh⟩
        · refine ⟨_, rfl, t, _, _, _, rfl, rfl, SqT.of ht, rfl, rfl, _, rfl, ?_⟩
          rw [decide_eq_false (by decide)]
          refine iteF ?_
          refine ⟨_, rfl, _, _, rfl, .inl ⟨_, SqL.of hpa3, rfl⟩, _, rfl, _, _, rfl, .inl ⟨_, hm3.ls, rfl⟩, rfl, _, rfl, ifEq (fun e => ?_) fun ne => ?_⟩
          · rw [List.length_map, List.length_map, hm.po.len] at e
            have e : p.length = may.length := by walk_at "om"
            refine ⟨_, rfl, pa, rfl, ⟨_, SqL.of hpa3⟩, ?_⟩
            have dsl : ds.length = (dd p).length := by rw [dl'.len, pools_len]
            refine comp_list2 (xs := p.map V.int) (fun _ => true) (fun j => .int (ds.getD (p.getD j 0).toNat 0)) (SqL.of hpa3) (by rw [List.length_map]; walk_at "om") (fun _ _ _ _ _ _ k => k _ (Same.refl _)) (fun j x hx _ H4 R s4 k => ?_) fun acc H4 s4 nacc hacc => ?_
            · obtain ⟨d, hd, rfl, ed⟩ := at_int hx
              obtain ⟨b, eb, hb⟩ := canon_mem c (List.mem_of_getElem? hd)
              rw [ed] at k
              subst eb
              rw [Int.toNat_natCast] at k
              exact ⟨_, rfl, t, _, _, _, rfl, rfl, SqT.of (s4 _ _ ht), rfl, _, rfl, dlA, _, _, _, rfl, rfl, SqL.of (s4 _ _ hdl), atI_int (by walk_at "om"), k _ (Same.refl _)⟩
            rw [List.filter_eq_self.mpr (fun _ _ => rfl), List.length_map] at hacc
            have e2 : (List.range p.length).map (fun j => V.int (ds.getD (p.getD j 0).toNat 0)) = (p.map fun x => ds.getD x.toNat 0).map V.int := by
              rw [List.map_map]
              exact map_at fun i x hx => by rw [List.getD_eq_getElem?_getD (l := p), hx]; rfl
            rw [e2] at hacc
            refine ⟨szr, fun t2 n2 => ?_⟩
            refine q t2 _ ((s03.trans s4).to n2) (.inl ⟨acc, _, upd_same, Same.new n2 _ _ hacc, s03.free nacc, plan_of c e dl' (fun x hx => ?_) fun x hx => ?_⟩)
            · obtain ⟨y, hy, ey⟩ := List.mem_map.mp hx
              rw [← ey, e]
              exact (tg y hy).lt
            · obtain ⟨y, hy, ey⟩ := List.mem_map.mp hx
              rw [← ey]
              exact nb y hy
          · rw [List.length_map, List.length_map, hm.po.len] at ne
            have lt : p.length < may.length := by walk_at "om"
            refine ⟨szr, fun pl npl => ?_⟩
            have s34 := Same.new (o := .lst []) npl
            have hpl4 : upd H3 pl (.lst []) pl = some (.lst []) := upd_same
            generalize upd H3 pl (.lst []) = H4 at s34 hpl4
            have s04 := s03.trans s34
            have npl0 : H pl = none := s03.free npl
            refine ⟨_, rfl, pa, p, rfl, s04 _ _ hpa, by walk_at "om", fun gl gs H5 s45 ngl hgl hgs gall => ⟨gl, rfl, ⟨_, SqL.of hgl⟩, ?_⟩⟩
            have glp : gl ≠ pl := fun z => by rw [z, hpl4] at ngl; cases ngl
            have gsp : ∀ (i : Nat) r, gs[i]? = some r → r ≠ pl := fun i r hr z => by have := (gall i r hr).2; rw [z, hpl4] at this; cases this
            refine for_list (K := K) (a := gl) (xs := gs.map V.ref) (fun i σ Hx => ∃ (vs : List V) (ps : List Pap) (x y : Option V), σ = [some (.ref pa), some (.ref ma), some (.ref ta), some .non, some (.ref t), some (.ref pl), x, y] ∧ SameBut pl H5 Hx ∧ Hx pl = some (.lst vs) ∧ vs.length = i ∧ ps.length = i ∧ ∀ (k : Nat) v q, vs[k]? = some v → ps[k]? = some q → PapAt (hide pl (nw H Hx)) v q ∧ Shows may (ts.map tieOf) (p ++ [(k : Int)]) q)
              ⟨[], [], none, none, rfl, fun _ _ _ h => h, s45 _ _ hpl4, rfl, rfl, fun k v q h => by simp at h⟩ (fun i σ Hx _ hq__ => by obtain ⟨_, _, _, _, _, sb, _⟩ := hq__; exact SqL.of (sb _ _ glp hgl)) ?_ ?_
            · rintro i y σ Hx hi ⟨vs, ps, x, y', rfl, sb, hpl, vl, psl, al⟩
              rw [List.getElem?_map] at hi
              obtain ⟨r, hr', rfl⟩ := Option.map_eq_some_iff.mp hi
              have il : i < (dd p).length + 1 := by rw [← hgs]; exact (List.getElem?_eq_some_iff.mp hr').1
              have hrx := sb _ _ (gsp i r hr') (gall i r hr').1
              have s0x : Same H Hx := fun b o e => sb _ _ (fun z => by rw [z, npl0] at e; cases e) ((s04.trans s45) _ _ e)
              have cx := canon_snoc c (j := i) (by walk_at "om")
              refine ⟨_, rfl, _, rfl, _, rfl, r, ma, ta, p ++ [(i : Int)], rs, may, U, ts, rfl, hrx, hm.same s0x, ⟨s0x.seq tt.ls, fun x hx => (tt.ea x hx).same s0x, tt.ln⟩, tg, cx, by simp; walk_at "om", by simp; walk_at "om", fun t2 H6 s6 td2 => ?_⟩
              have s06 := s0x.trans s6
              rcases td2 with ⟨l2, hs2, ht2, hl2, nl2, ip⟩ | ⟨v, qq, ht2, pq, sq⟩
              · refine ⟨_, rfl, t2, _, _, _, rfl, rfl, SqT.of ht2, rfl, rfl, _, rfl, iteT ?_⟩
                exact ⟨_, rfl, q t2 H6 s06 (.inl ⟨l2, hs2, ht2, hl2, s0x.free nl2, ip⟩)⟩
              · refine ⟨_, rfl, t2, _, _, _, rfl, rfl, SqT.of ht2, rfl, rfl, _, rfl, ?_⟩
                rw [decide_eq_false (by decide)]
                refine iteF ?_
                have hpl6 := s6 _ _ hpl
                refine ⟨_, rfl, .inl ⟨rfl, _, SqL.of hpl6⟩, _, rfl, t2, _, _, _, rfl, rfl, SqT.of ht2, rfl, pl, _, _, rfl, rfl, hpl6, szn (by walk_at "om"), ?_⟩
                refine ⟨vs ++ [v], ps ++ [qq], _, _, rfl, fun b o nb' e => ?_, upd_same, by simp [vl], by simp [psl], fun k v' q' e1 e2 => ?_⟩
                · rw [upd_ne nb']
                  exact s6 _ _ (sb _ _ nb' e)
                · by_cases z : k < i
                  · rw [List.getElem?_append_left (by walk_at "om")] at e1 e2
                    obtain ⟨g1, g2⟩ := al k v' q' e1 e2
                    refine ⟨g1.same fun b o e => ?_, g2⟩
                    obtain ⟨zb, e⟩ := hide_some e
                    obtain ⟨u1, u2⟩ := nw_some e
                    exact hide_of zb (nw_of u1 (by rw [upd_ne zb]; exact s6 _ _ u2))
                  · have zi : k = i := by
                      have := (List.getElem?_eq_some_iff.mp e1).1
                      rw [List.length_append, List.length_singleton] at this
                      walk_at "om"
                    subst zi
                    rw [List.getElem?_append_right (by walk_at "om"), vl, Nat.sub_self] at e1
                    rw [List.getElem?_append_right (by walk_at "om"), psl, Nat.sub_self] at e2
                    cases e1
                    cases e2
                    refine ⟨pq.same fun b o e => ?_, sq⟩
                    obtain ⟨u1, u2⟩ := nw_some e
                    have zb : b ≠ pl := fun z => by rw [z, hpl] at u1; cases u1
                    exact hide_of zb (nw_of (s0x.free u1) (by rw [upd_ne zb]; exact u2))
            · rintro σ Hx ⟨vs, ps, x, y', rfl, sb, hpl, vl, psl, al⟩
              rw [List.length_map, hgs] at vl psl
              have s0x : Same H Hx := fun b o e => sb _ _ (fun z => by rw [z, npl0] at e; cases e) ((s04.trans s45) _ _ e)
              refine ⟨_, rfl, szr, fun t1 n1 => ⟨szr, fun t2 n2 => ?_⟩⟩
              have n12 : t1 ≠ t2 := fun z => by rw [← z, upd_same] at n2; cases n2
              have npl1 : pl ≠ t1 := ne_of_none hpl n1
              have sx2 := (Same.new (o := .tup [.str "split", .ref pl]) n1).to (o := .tup [.str "none", .ref t1]) n2
              refine q t2 _ (s0x.trans sx2) (.inr ⟨.ref t1, .split ps, upd_same, .split (nw_of (s0x.free n1) (by rw [upd_ne n12]; exact upd_same)) (nw_of npl0 (sx2 _ _ hpl)) (by walk_at "om") fun k v' q' e1 e2 => ?_, .split lt psl fun j q' e => ?_⟩)
              · refine (al k v' q' e1 e2).1.same fun b o e => ?_
                obtain ⟨zb, e⟩ := hide_some e
                obtain ⟨u1, u2⟩ := nw_some e
                exact nw_of u1 (sx2 _ _ u2)
              · have hj : j < vs.length := by have := (List.getElem?_eq_some_iff.mp e).1; walk_at "om"
                exact (al j _ q' (List.getElem?_eq_getElem hj) e).2
        · refine ⟨_, rfl, t, _, _, _, rfl, rfl, SqT.of ht, rfl, rfl, _, rfl, iteT ?_⟩
          refine ⟨_, rfl, t, _, _, _, rfl, rfl, SqT.of ht, rfl, szr, fun t1 n1 => ⟨szr, fun t2 n2 => ?_⟩⟩
          have n12 : t1 ≠ t2 := fun z => by rw [← z, upd_same] at n2; cases n2
          have nsl : H sl = none := (s1.trans s2).free (nwt.2 _ _ ht)
          have sx2 := (Same.new (o := .tup [.str "short", .ref sl]) n1).to (o := .tup [.str "none", .ref t1]) n2
          exact q t2 _ (s03.trans sx2) (.inr ⟨.ref t1, .short qs, upd_same, .short (nw_of (s03.free n1) (by rw [upd_ne n12]; exact upd_same)) (nw_of nsl (sx2 _ _ hsl)), .short sh⟩)
  exact all 7
noncomputable def sp_plan (K : PySem.W.Frag) : Sp := fun vs H Q _ => ∃ (ma ta : Addr) (rs : List Addr) (may : List (List Int)) (U : List Int) (ts : List (Addr × Addr × Str × Int × List Nat)), vs = [.ref ma, .ref ta] ∧ May K H ma rs may U ∧ Ties K H ta ts 100 ∧ (∀ x ∈ ts, TieG may.length x) ∧ ∀ t H', Same H H' → PTold H H' t may (ts.map tieOf) [] → Q (.ref t) H'
theorem sc_plan : FnScope ["may", "ties"] ["may", "ties"] (defScope s_plan) := ⟨rfl, rfl, rfl, by decide +kernel, rfl, by decide +kernel, by decide +kernel⟩
theorem ok_plan (D : Dfs K mg aF dF) (T : Txt mg) : FnOk P w K mg base CX0 38 (aF 24) (dF 24) ["may", "ties"] (sp_plan K) := by
  have Gplan_from : FnOk P w K mg base CX0 37 (aF 25) (dF 25) ["pattern", "may", "ties"] (sp_plan_from K) := ok_plan_from D T
  refine D.plan.fn.ok sc_plan (fun vs H Q E h => ?_) (fun cdv A outer s H vs Q E hr h => ?_)
  · obtain ⟨ma, ta, rs, may, U, ts, rfl, _⟩ := h; rfl
  · have hu := hu_of hr
    obtain ⟨ma, ta, rs, may, U, ts, rfl, hm, tt, tg, q⟩ := h
    refine ⟨_, (pss_one (ps_ret (pc D.plan_from Gplan_from (hr.mono (by decide)) (pa_cons (pe_lst pa_nil) (pa_cons (pv 0) (pa_cons (pv 1) pa_nil)))))), ?_⟩
    have m6 := hm.m6
    refine ⟨szr, fun pa npa => ?_⟩
    have s1 := Same.new (o := .lst []) npa
    refine ⟨_, rfl, _, rfl, pa, ma, ta, [], rs, may, U, ts, rfl, upd_same, hm.same s1, ⟨s1.seq tt.ls, fun x hx => (tt.ea x hx).same s1, tt.ln⟩, tg, canon_nil, Nat.zero_le _, by simp; walk_at "om", fun t H' s td => ?_⟩
    refine q t H' (s1.trans s) ?_
    rcases td with ⟨l, hs, a1, a2, a3, a4⟩ | ⟨v, qq, a1, a2, a3⟩
    · exact .inl ⟨l, hs, a1, a2, s1.free a3, a4⟩
    · exact .inr ⟨v, qq, a1, a2.same (nw_to (fun a e => s1.free e) fun a o _ e => e), a3⟩
noncomputable def cv (ns : List Int) (k : Nat) : Int := if k < ns.length then ns.getD k 0 else if ns = [] then (k : Int) * k * 7919 + 13 * k else (ns.getD (k % ns.length) 0 + k * k * 7919 + 1) * 48271 % 2147483647
noncomputable def sp_law_cell (K : PySem.W.Frag) : Sp := fun vs H Q _ => ∃ (a : Addr) (ns : List Int) (k : Nat), vs = [.ref a, .int ((k : Nat) : Int)] ∧ SqL K H a (ns.map V.int) ∧ ns.length ≤ 200 ∧ k ≤ 1000 ∧ ∀ H', Same H H' → Q (.int (cv ns k)) H'
theorem sc_law_cell : FnScope ["script", "k"] ["script", "k"] (defScope s_law_cell) := ⟨rfl, rfl, rfl, by decide +kernel, rfl, by decide +kernel, by decide +kernel⟩
theorem ok_law_cell (D : Dfs K mg aF dF) (T : Txt mg) : FnOk P w K mg base CX0 1 (aF 26) (dF 26) ["script", "k"] (sp_law_cell K) := by
  refine D.law_cell.fn.ok sc_law_cell (fun vs H Q E h => ?_) (fun cdv A outer s H vs Q E hr h => ?_)
  · obtain ⟨a, ns, k, rfl, _⟩ := h; rfl
  · have hu := hu_of hr
    obtain ⟨a, ns, k, rfl, hS, hl, hk, q⟩ := h
    refine ⟨_, (pss_cons (ps_if (pt_cmpR op_lt (pv 1) (pe_callB (cLen K) (by rfl) T.z_len boot_len (pa_cons (pv 0) pa_nil)) (nomark _))
        (pss_one (ps_ret (pe_ix (ixL K) (pv 0) (pv 1) (fun _ _ => rfl))))
        pss_nil)
      (pss_cons (ps_if (pt_cmpR (eqD K hr.units) (pv 0) (pe_lst pa_nil) (nomark _))
        (pss_one (ps_ret (pe_op op_add (pe_op op_mul (pe_op op_mul (pv 1) (pv 1)) pe_int) (pe_op op_mul pe_int (pv 1)))))
        pss_nil)
      (pss_one (ps_ret (pe_op op_mod (pe_op op_mul (pe_op op_add (pe_op op_add (pe_ix (ixL K) (pv 0) (pe_op op_mod (pv 1) (pe_callB (cLen K) (by rfl) T.z_len boot_len (pa_cons (pv 0) pa_nil))) (fun _ _ => rfl)) (pe_op op_mul (pe_op op_mul (pv 1) (pv 1)) pe_int)) pe_int) pe_int) pe_int))))), ?_⟩
    refine ⟨_, rfl, _, rfl, _, _, rfl, .inl ⟨_, hS, rfl⟩, _, _, rfl, rfl, _, rfl, ifD (fun h => ?_) fun h => ?_⟩
    · rw [List.length_map] at h
      have h' : k < ns.length := by walk_at "om"
      refine ⟨_, rfl, _, rfl, a, _, _, _, rfl, rfl, hS, atI_int h', ?_⟩
      have e : cv ns k = ns.getD k 0 := if_pos h'
      rw [← e]
      exact q H (Same.refl _)
    · rw [List.length_map] at h
      have h' : ¬ k < ns.length := by walk_at "om"
      refine ⟨_, rfl, szr, fun p np => ⟨1, _, deq_nil ((Same.new np).seq hS) (SqL.of upd_same), by decide, rfl, _, rfl, ifB (fun h => ?_) fun h => ?_⟩⟩
      · have e0 : ns = [] := by
          cases ns with
          | nil => rfl
          | cons x r => cases h
        have e : cv ns k = (k : Int) * k * 7919 + 13 * k := by unfold cv; rw [if_neg h', if_pos e0]
        have q' := q _ (Same.new (o := .lst []) np)
        rw [e] at q'
        refine ⟨_, rfl, _, rfl, _, _, rfl, rfl, .inl ⟨by walk_at "om", by walk_at "om"⟩, ?_⟩
        walk_at "go"
        exact q'
      · have e0 : ns ≠ [] := by rintro rfl; cases h
        have hpos : 0 < ns.length := List.length_pos_iff.mpr e0
        have e : cv ns k = (ns.getD (k % ns.length) 0 + k * k * 7919 + 1) * 48271 % 2147483647 := by unfold cv; rw [if_neg h', if_neg e0]
        have q' := q _ (Same.new (o := .lst []) np)
        rw [e] at q'
        have hlen : ((ns.map V.int).length : Int) = (ns.length : Int) := by rw [List.length_map]
        refine ⟨_, rfl, _, rfl, _, rfl, _, _, rfl, .inl ⟨_, (Same.new np).seq hS, rfl⟩, _, _, rfl, rfl, ?_, ?_⟩
        · show (0 : Int) < ((ns.map V.int).length : Int)
          rw [hlen]; walk_at "om"
        · refine ⟨a, _, _, _, rfl, rfl, (Same.new np).seq hS, (?_ : atI (ns.map V.int) ((k : Int) % ((ns.map V.int).length : Int)) = some (.int (ns.getD (k % ns.length) 0))), ?_⟩
          · rw [hlen]
            have e1 : (k : Int) % (ns.length : Int) = ((k % ns.length : Nat) : Int) := by simp
            rw [e1]
            exact atI_int (Nat.mod_lt _ hpos)
          · refine ⟨_, rfl, _, rfl, _, _, rfl, rfl, .inl ⟨by walk_at "om", by walk_at "om"⟩, ?_⟩
            walk_at "go"
            exact q'
noncomputable def sp_law_whole (K : PySem.W.Frag) : Sp := fun vs H Q _ => ∃ (i : Int), vs = [.int i] ∧ Q (.bl true) H
theorem sc_law_whole : FnScope ["found"] ["found"] (defScope s_law_whole) := ⟨rfl, rfl, rfl, by decide +kernel, rfl, by decide +kernel, by decide +kernel⟩
theorem ok_law_whole (D : Dfs K mg aF dF) (T : Txt mg) : FnOk P w K mg base CX0 1 (aF 27) (dF 27) ["found"] (sp_law_whole K) := by
  refine D.law_whole.fn.ok sc_law_whole (fun vs H Q E h => ?_) (fun cdv A outer s H vs Q E hr h => ?_)
  · obtain ⟨i, rfl, _⟩ := h; rfl
  · have hu := hu_of hr
    obtain ⟨i, rfl, q⟩ := h
    refine ⟨_, (pss_one (ps_ret (pe_and (pe_callB (cIsi K) (by rfl) T.z_isinstance boot_isinstance (pa_cons (pv 0) (pa_cons (ty_int T.z_int) pa_nil))) (pe_one (pe_not (pe_callB (cIsi K) (by rfl) T.z_isinstance boot_isinstance (pa_cons (pv 0) (pa_cons (ty_bool T.z_bool) pa_nil)))))))), ?_⟩
    exact ⟨_, rfl, _, _, _, true, rfl, .int _, rfl, _, rfl, iteT ⟨_, rfl, _, _, _, false, rfl, .int _, rfl, _, rfl, q⟩⟩
noncomputable def pw3 : List Int := [7, 30, 10 ^ 18]
theorem pick3 (c : Int) : ∃ d : Int, atI [V.int 7, V.int 30, V.int (10 ^ 18)] (c % 3) = some (.int d) ∧ 0 < d ∧ d ≤ 10 ^ 18 := by
  obtain ⟨n, h, e⟩ := modN c (n := 3) (by decide)
  rw [show c % 3 = ((n : Nat) : Int) from e]
  exact ⟨pw3.getD n 0, (show ∀ n : Nat, n < 3 → atI [V.int 7, V.int 30, V.int (10 ^ 18)] (n : Int) = some (.int (pw3.getD n 0)) ∧ 0 < pw3.getD n 0 ∧ pw3.getD n 0 ≤ 10 ^ 18 by decide) n h⟩
noncomputable def sp_law_menu (K : PySem.W.Frag) : Sp := fun vs H Q _ => ∃ (a : Addr) (ns : List Int) (at' wd : Nat), vs = [.ref a, .int ((at' : Nat) : Int), .int ((wd : Nat) : Int)] ∧ SqL K H a (ns.map V.int) ∧ ns.length ≤ 200 ∧ at' ≤ 500 ∧ wd ≤ 60 ∧ 0 < wd ∧
  ∀ l (ms : List Int) H', Same H H' → H l = none → H' l = some (.lst (ms.map V.int)) → ms.Pairwise (· < ·) → ms.length ≤ wd → ms ≠ [] → (∀ b ∈ ms, 1 ≤ b ∧ b ≤ 10 ^ 18) → Q (.ref l) H'
theorem sc_law_menu : FnScope ["script", "at", "wide", "badges", "k", "cell"] ["script", "at", "wide"] (defScope s_law_menu) := ⟨rfl, rfl, rfl, by decide +kernel, rfl, by decide +kernel, by decide +kernel⟩
theorem ok_law_menu (D : Dfs K mg aF dF) (T : Txt mg) : FnOk P w K mg base CX0 2 (aF 28) (dF 28) ["script", "at", "wide"] (sp_law_menu K) := by
  have Glaw_cell : FnOk P w K mg base CX0 1 (aF 26) (dF 26) ["script", "k"] (sp_law_cell K) := ok_law_cell D T
  refine D.law_menu.fn.ok sc_law_menu (fun vs H Q E h => ?_) (fun cdv A outer s H vs Q E hr h => ?_)
  · obtain ⟨a, ns, at', wd, rfl, _⟩ := h; rfl
  · have hu := hu_of hr
    obtain ⟨a, ns, at', wd, rfl, hS, hl, hat, hwd, hwd0, q⟩ := h
    refine ⟨_, (pss_cons (ps_set (i := 3) sc_law_menu.nd rfl (Or.inl rfl) (pe_lst pa_nil))
      (pss_cons (ps_for PassesOwn.never rfl (pi_range1 rfl T.z_range (pa_cons (pv 2) pa_nil)) (pg_name (i := 4) sc_law_menu.nd rfl (Or.inl rfl))
        (pss_cons (ps_set (i := 5) sc_law_menu.nd rfl (Or.inl rfl) (pc D.law_cell Glaw_cell (hr.mono (by decide)) (pa_cons (pv 0) (pa_cons (pe_op op_add (pv 1) (pv 4)) pa_nil))))
        (pss_one (ps_expr (pe_bm PySem.F.plainAttrs_list PySem.F.slot_list_append PySem.F.type_list_append mt_append (pv 3) (pa_cons (pe_op op_add pe_int (pe_op op_mod (pe_op op_fdiv (pv 5) pe_int) (pe_ix (ixL K) (pe_lst (pa_cons pe_int (pa_cons pe_int (pa_cons (pe_op op_pow pe_int pe_int) pa_nil)))) (pe_op op_mod (pv 5) pe_int) (fun _ _ => rfl)))) pa_nil))))))
      (pss_one (ps_ret (pe_callB (cSortedS w) (by rfl) T.z_sorted boot_sorted (pa_cons (pe_callTy (cSet w K) (by rfl) T.z_set PyProof.Rows.boot_set (pa_cons (pv 3) pa_nil)) pa_nil)))))), ?_⟩
    refine ⟨szr, fun l nl => ?_⟩
    refine ⟨_, rfl, _, rfl, lo62 _, by walk_at "om", ?_⟩
    have e0 : ((wd : Int)).toNat = wd := by walk_at "om"
    rw [e0]
    refine for_range (n := wd) (fun i σ H1 => ∃ (bs : List Int) (x y : Option V), σ = [some (.ref a), some (.int at'), some (.int wd), some (.ref l), x, y] ∧ Same H H1 ∧ H1 l = some (.lst (bs.map V.int)) ∧ bs.length = i ∧ ∀ b ∈ bs, 1 ≤ b ∧ b ≤ 10 ^ 18) ⟨[], none, none, rfl, Same.new nl, upd_same, rfl, fun _ z => by cases z⟩ ?_ ?_
    · rintro i σ H1 hi ⟨bs, x, y, rfl, s1, hl1, hlen, hb⟩
      have ei : (at' : Int) + (0 + (i : Int)) = ((at' + i : Nat) : Int) := by walk_at "om"
      refine ⟨_, rfl, _, rfl, _, rfl, _, _, rfl, rfl, a, ns, at' + i, (by show [V.ref a, V.int ((at' : Int) + (0 + (i : Int)))] = _; rw [ei]), s1.seq hS, by walk_at "om", by walk_at "om", fun H2 s2 => ?_⟩
      have hl2 := s2 _ _ hl1
      refine ⟨_, rfl, .inl ⟨rfl, _, SqL.of hl2⟩, ?_⟩
      walk_at "go"
      refine ⟨szr, fun p np => ?_⟩
      obtain ⟨d, hd, hd0, hd1⟩ := pick3 (cv ns (at' + i))
      refine ⟨_, rfl, _, _, rfl, rfl, (show (0 : Int) < 3 by decide), p, _, _, _, rfl, rfl, SqL.of upd_same, hd, _, _, rfl, rfl, hd0, _, _, rfl, rfl, ?_⟩
      have npl : l ≠ p := ne_of_none hl2 np
      refine ⟨l, _, _, rfl, rfl, by rw [upd_ne npl]; exact hl2, szn (by rw [List.length_map]; walk_at "om"), ?_⟩
      have w1 := Int.emod_nonneg (cv ns (at' + i) / 3) (show d ≠ 0 by walk_at "om")
      have w2 := Int.emod_lt_of_pos (cv ns (at' + i) / 3) hd0
      refine ⟨bs ++ [1 + cv ns (at' + i) / 3 % d], _, _, rfl, ((s1.trans s2).to np).put nl, ?_, by rw [List.length_append, List.length_singleton, hlen], fun b hb' => ?_⟩
      · rw [upd_same, List.map_append]; rfl
      · rcases List.mem_append.mp hb' with h | h
        · exact hb b h
        · rw [List.mem_singleton.mp h]; walk_at "om"
    · rintro σ H1 ⟨bs, x, y, rfl, s1, hl1, hlen, hb⟩
      have dl := dd_len bs
      refine ⟨_, rfl, l, bs, rfl, SqL.of hl1, by walk_at "om", fun S nS => ⟨S, dd bs, rfl, upd_same, by walk_at "om", fun r ks nr hp hs => ?_⟩⟩
      refine q r ks _ ((s1.to nS).to nr) ?_ upd_same (sort_lt hs (hp.nodup_iff.mpr (dd_nd bs))) (by rw [hp.length_eq]; walk_at "om") ?_ ?_
      · exact (s1.to nS).free nr
      · rintro rfl
        have e := hp.symm.eq_nil
        cases bs with
        | nil => simp at hlen; walk_at "om"
        | cons b r =>
          have : b ∈ dd (b :: r) := dd_mem.mpr (List.mem_cons_self ..)
          rw [e] at this
          cases this
      · exact fun b hb' => hb b (dd_mem.mp (hp.mem_iff.mp hb'))
theorem pickW (c : Int) : ∃ wd : Str, atI [V.str "most", V.str "least"] (c % 2) = some (.str wd) ∧ (wd = "most" ∨ wd = "least") := by
  rcases (show c % 2 = 0 ∨ c % 2 = 1 by walk_at "om") with e | e
  · rw [e]; exact ⟨"most", rfl, .inl rfl⟩
  · rw [e]; exact ⟨"least", rfl, .inr rfl⟩
noncomputable def pwM : List Int := [0, 1, 3, 7, 15, 31, 63]
theorem pickM {m : Nat} (h1 : 1 ≤ m) (h6 : m ≤ 6) : ∃ d : Int, atI [V.int 1, V.int 3, V.int 7, V.int 15, V.int 31, V.int 63] ((m : Int) - 1) = some (.int d) ∧ 0 < d ∧ d + 1 = ((2 ^ m : Nat) : Int) :=
  ⟨pwM.getD m 0, (show ∀ m : Nat, m < 7 → 1 ≤ m → atI [V.int 1, V.int 3, V.int 7, V.int 15, V.int 31, V.int 63] ((m : Int) - 1) = some (.int (pwM.getD m 0)) ∧ 0 < pwM.getD m 0 ∧ pwM.getD m 0 + 1 = ((2 ^ m : Nat) : Int) by decide) m (Nat.lt_succ_of_le h6) h1⟩
noncomputable def pw6 : List Int := [1, 2, 4, 8, 16, 32]
theorem pw6_at {i : Nat} (h : i < 6) : atI [V.int 1, V.int 2, V.int 4, V.int 8, V.int 16, V.int 32] (i : Int) = some (.int (pw6.getD i 0)) ∧ 0 < pw6.getD i 0 ∧ pw6.getD i 0 < 100 ∧ pw6.getD i 0 = ((2 ^ i : Nat) : Int) :=
  (show ∀ i : Nat, i < 6 → atI [V.int 1, V.int 2, V.int 4, V.int 8, V.int 16, V.int 32] (i : Int) = some (.int (pw6.getD i 0)) ∧ 0 < pw6.getD i 0 ∧ pw6.getD i 0 < 100 ∧ pw6.getD i 0 = ((2 ^ i : Nat) : Int) by decide) i h
theorem dec_int {i j : Int} {b : Bool} (h : b = decide (i = j)) : b = decide (V.int i = V.int j) := by
  rw [h]
  by_cases z : i = j
  · simp [z]
  · simp [z]
theorem bits_ne {m : Nat} {x d : Int} (h6 : m ≤ 6) (h0 : 0 < d) (hd : d + 1 = ((2 ^ m : Nat) : Int)) : ((List.range m).filter fun i => decide ((1 + x % d) / pw6.getD i 0 % 2 = 1)) ≠ [] := by
  have w1 := Int.emod_nonneg x (show d ≠ 0 by walk_at "om")
  have w2 := Int.emod_lt_of_pos x h0
  have p64 : 2 ^ m ≤ 2 ^ 6 := Nat.pow_le_pow_right (by decide) h6
  obtain ⟨y, hy⟩ : ∃ y : Nat, 1 + x % d = (y : Int) := ⟨(1 + x % d).toNat, by walk_at "om"⟩
  obtain ⟨i, hi, e⟩ := mask_bit m (by walk_at "om") y (by walk_at "om") (by walk_at "om") (by walk_at "om")
  intro z
  have : i ∈ ((List.range m).filter fun i => decide ((1 + x % d) / pw6.getD i 0 % 2 = 1)) := by
    refine List.mem_filter.mpr ⟨List.mem_range.mpr hi, decide_eq_true ?_⟩
    rw [hy, (pw6_at (show i < 6 by walk_at "om")).2.2.2]
    have : (y : Int) / ((2 ^ i : Nat) : Int) = ((y / 2 ^ i : Nat) : Int) := (Int.natCast_ediv _ _).symm
    rw [this]
    walk_at "om"
  rw [z] at this
  cases this
noncomputable def sp_law_bond (K : PySem.W.Frag) : Sp := fun vs H Q _ => ∃ (c : Int) (many : Nat), vs = [.int c, .int ((many : Nat) : Int)] ∧ 1 ≤ many ∧ many ≤ 6 ∧
  ∀ x H', Same H H' → TieT H' x → TieG many x → H x.1 = none → H x.2.1 = none → Q (.ref x.1) H'
theorem sc_law_bond : FnScope ["cell", "many", "mask", "steps", "limit"] ["cell", "many"] (defScope s_law_bond) := ⟨rfl, rfl, rfl, by decide +kernel, rfl, by decide +kernel, by decide +kernel⟩
theorem ok_law_bond (D : Dfs K mg aF dF) (T : Txt mg) : FnOk P w K mg base CX0 1 (aF 29) (dF 29) ["cell", "many"] (sp_law_bond K) := by
  refine D.law_bond.fn.ok sc_law_bond (fun vs H Q E h => ?_) (fun cdv A outer s H vs Q E hr h => ?_)
  · obtain ⟨c, many, rfl, _⟩ := h; rfl
  · have hu := hu_of hr
    obtain ⟨c, many, rfl, m1, m6, q⟩ := h
    refine ⟨_, (pss_cons (ps_set (i := 2) sc_law_bond.nd rfl (Or.inr rfl) (pe_op op_add pe_int (pe_op op_mod (pe_op op_fdiv (pv 0) pe_int) (pe_ix (ixL K) (pe_lst (pa_cons pe_int (pa_cons pe_int (pa_cons pe_int (pa_cons pe_int (pa_cons pe_int (pa_cons pe_int pa_nil))))))) (pe_op op_sub (pv 1) pe_int) (fun _ _ => rfl)))))
      (pss_cons (ps_setC (i₀ := 3) sc_law_bond.nd rfl (Or.inl rfl) ["k", "mask"] [none, some 2] rfl (pi_range1 rfl T.z_range (pa_cons (pv 1) pa_nil)) (fun _ => pg_name (i := 0) (nodupN (N := ["k", "mask"]) (by decide +kernel)) rfl (Or.inl rfl)) (fun _ => pif_one (pt_cmpR op_eq (pe_op op_mod (pe_op op_fdiv (pv 1) (pe_ix (ixL K) (pe_lst (pa_cons pe_int (pa_cons pe_int (pa_cons pe_int (pa_cons pe_int (pa_cons pe_int (pa_cons pe_int pa_nil))))))) (pv 0) (fun _ _ => rfl))) pe_int) pe_int (nomark _))) (fun _ => (pv 0)) ((.cons (fun _ e => by cases e) (.cons (fun _ e => by cases e; exact ⟨rfl, rfl⟩) .nil))))
      (pss_cons (ps_set (i := 4) sc_law_bond.nd rfl (Or.inl rfl) (pe_op op_add pe_int (pe_op op_mod (pe_op op_fdiv (pv 0) pe_int) pe_int)))
      (pss_cut (ps_if (pt_cmpR op_gt (pe_op op_mod (pe_op op_fdiv (pv 0) pe_int) pe_int) pe_int (nomark _))
        (pss_one (ps_set (i := 4) sc_law_bond.nd rfl (Or.inl rfl) (pe_op op_add pe_int (pe_op op_mod (pe_op op_sub (pv 4) pe_int) (pe_callB (cLen K) (by rfl) T.z_len boot_len (pa_cons (pv 3) pa_nil))))))
        pss_nil)
      (pss_one (ps_ret (pe_tup (pa_cons (pe_ix (ixL K) (pe_lst (pa_cons pe_str (pa_cons pe_str pa_nil))) (pe_op op_mod (pv 0) pe_int) (fun _ _ => rfl)) (pa_cons (pv 4) (pa_cons (pe_callTy call_tuple_of (by rfl) T.z_tuple boot_tuple (pa_cons (pv 3) pa_nil)) pa_nil)))))))))), ?_⟩
    obtain ⟨wd, hwd, hw2⟩ := pickW c
    obtain ⟨dm, hdm, hdm0, hdm1⟩ := pickM m1 m6
    refine ⟨_, rfl, ?_⟩
    walk_at "go"
    refine ⟨szr, fun p2 np2 => ?_⟩
    refine ⟨_, rfl, _, _, rfl, rfl, p2, _, _, _, rfl, rfl, SqL.of upd_same, hdm, _, _, rfl, rfl, hdm0, _, _, rfl, rfl, ?_⟩
    generalize hH2 : upd H p2 _ = H2
    have s2 : Same H H2 := by rw [← hH2]; exact Same.new np2
    refine ⟨_, rfl, _, rfl, lo62 _, by omega, ?_⟩
    rw [Int.toNat_natCast]
    refine comp_some (n := many) (fun i => decide ((1 + c / 12 % dm) / pw6.getD i 0 % 2 = 1)) (by walk_at "om") (fun i hi H3 R s3 k => ?_) (fun i hi H3 R k => ?_) fun sl H3 s3 nsl hsl => ?_
    · have ei : (0 : Int) + (i : Int) = ((i : Nat) : Int) := by walk_at "om"
      rw [ei]
      obtain ⟨g1, g2, g3, _⟩ := pw6_at (show i < 6 by walk_at "om")
      refine ⟨_, rfl, szr, fun l nl => ⟨_, rfl, l, _, _, _, rfl, rfl, SqL.of upd_same, g1, _, _, rfl, rfl, ⟨g2, by walk_at "om"⟩, _, _, rfl, rfl, (show (0 : Int) < 2 by decide), rfl, _, rfl, ?_⟩⟩
      generalize hH4 : upd H3 l _ = H4
      have s34 : Same H3 H4 := by rw [← hH4]; exact Same.new nl
      have kk := k H4 s34
      dsimp only at kk ⊢
      rw [dec_int (i := (1 + c / 12 % dm) / pw6.getD i 0 % 2) (j := 1) rfl] at kk
      exact kk
    · have ei : (0 : Int) + (i : Int) = ((i : Nat) : Int) := by walk_at "om"
      rw [ei]
      exact ⟨_, rfl, k⟩
    have sne := bits_ne (x := c / 12) m6 hdm0 hdm1
    have hst : ∀ i ∈ ((List.range many).filter fun i => decide ((1 + c / 12 % dm) / pw6.getD i 0 % 2 = 1)), i < many := fun i hi => List.mem_range.mp (List.mem_filter.mp hi).1
    have hup : ((List.range many).filter fun i => decide ((1 + c / 12 % dm) / pw6.getD i 0 % 2 = 1)).Pairwise (· < ·) := List.Pairwise.filter _ List.pairwise_lt_range
    have hle : ((List.range many).filter fun i => decide ((1 + c / 12 % dm) / pw6.getD i 0 % 2 = 1)).length ≤ 6 := Nat.le_trans (List.length_filter_le _ _) (by rw [List.length_range]; exact m6)
    generalize (List.range many).filter (fun i => decide ((1 + c / 12 % dm) / pw6.getD i 0 % 2 = 1)) = st at hsl sne hst hup hle
    have spos : 0 < st.length := List.length_pos_iff.mpr sne
    have k1 := Int.emod_nonneg (c / 2) (show (6 : Int) ≠ 0 by decide)
    have k2 := Int.emod_lt_of_pos (c / 2) (show (0 : Int) < 6 by decide)
    refine ⟨_, rfl, ?_⟩
    walk_at "go"
    refine ⟨fun σ H5 => ∃ lim : Int, σ = [some (.int c), some (.int ((many : Nat) : Int)), some (.int (1 + c / 12 % dm)), some (.ref sl), some (.int lim)] ∧ H5 = H3 ∧ 1 ≤ lim ∧ lim ≤ 6, ?_, ?_⟩
    · refine ⟨_, rfl, ?_⟩
      walk_at "go"
      refine ifD (fun _ => ?_) fun _ => ⟨_, rfl, rfl, by walk_at "om", by walk_at "om"⟩
      have hlp : (0 : Int) < (((st.map fun (i : Nat) => V.int (i : Int)).length : Nat) : Int) := by rw [List.length_map]; walk_at "om"
      refine ⟨_, rfl, _, _, rfl, rfl, _, rfl, _, _, rfl, .inl ⟨_, SqL.of hsl, rfl⟩, _, _, rfl, rfl, hlp, _, _, rfl, rfl, ?_⟩
      have z1 := Int.emod_nonneg (1 + c / 2 % 6 - 1) (show (((st.map fun (i : Nat) => V.int (i : Int)).length : Nat) : Int) ≠ 0 by walk_at "om")
      have z2 := Int.emod_lt_of_pos (1 + c / 2 % 6 - 1) hlp
      refine ⟨_, rfl, rfl, by walk_at "om", ?_⟩
      have z3 : (((st.map fun (i : Nat) => V.int (i : Int)).length : Nat) : Int) ≤ 6 := by rw [List.length_map]; walk_at "om"
      walk_at "om"
    · rintro σ H5 ⟨lim, rfl, rfl, l1, l6⟩
      refine ⟨szr, fun p np => ?_⟩
      refine ⟨_, rfl, _, _, rfl, rfl, (show (0 : Int) < 2 by decide), p, _, _, _, rfl, rfl, SqL.of upd_same, hwd, _, rfl, _, rfl, ?_⟩
      have s4 := Same.new (o := .lst [.str "most", .str "least"]) np
      have hsl4 := s4 _ _ hsl
      generalize upd H5 p (.lst [.str "most", .str "least"]) = H6 at s4 hsl4 ⊢
      refine ⟨sl, _, rfl, .inl ⟨SqL.of hsl4, fun t nt => ?_⟩⟩
      refine ⟨szr, fun tp ntp => ?_⟩
      have ntt : t ≠ tp := fun z => by rw [← z, upd_same] at ntp; cases ntp
      have s05 := (s2.trans s3).trans s4
      exact q (tp, t, wd, lim, st) _ ((s05.to nt).to ntp) ⟨upd_same, by show upd _ tp _ t = _; rw [upd_ne ntt]; exact upd_same, hw2, hle⟩ ⟨l1, l6, sne, hst, hup⟩ ((s05.to nt).free ntp) (s05.free nt)
theorem pick4 (c : Int) : ∃ d : Nat, atI [V.int 3, V.int 5, V.int 5, V.int 8] (c % 4) = some (.int ((d : Nat) : Int)) ∧ 0 < d ∧ d ≤ 8 := by
  obtain ⟨n, h, e⟩ := modN c (n := 4) (by decide)
  rw [show c % 4 = ((n : Nat) : Int) from e]
  exact ⟨[3, 5, 5, 8].getD n 0, (show ∀ n : Nat, n < 4 → atI [V.int 3, V.int 5, V.int 5, V.int 8] (n : Int) = some (.int (([3, 5, 5, 8].getD n 0 : Nat) : Int)) ∧ 0 < [3, 5, 5, 8].getD n 0 ∧ [3, 5, 5, 8].getD n 0 ≤ 8 by decide) n h⟩
theorem pick8 (c : Int) : ∃ d : Nat, atI [V.int 1, V.int 2, V.int 3, V.int 4, V.int 4, V.int 5, V.int 3, V.int 6] (c % 8) = some (.int ((d : Nat) : Int)) ∧ 1 ≤ d ∧ d ≤ 6 := by
  obtain ⟨n, h, e⟩ := modN c (n := 8) (by decide)
  rw [show c % 8 = ((n : Nat) : Int) from e]
  exact ⟨[1, 2, 3, 4, 4, 5, 3, 6].getD n 0, (show ∀ n : Nat, n < 8 → atI [V.int 1, V.int 2, V.int 3, V.int 4, V.int 4, V.int 5, V.int 3, V.int 6] (n : Int) = some (.int (([1, 2, 3, 4, 4, 5, 3, 6].getD n 0 : Nat) : Int)) ∧ 1 ≤ [1, 2, 3, 4, 4, 5, 3, 6].getD n 0 ∧ [1, 2, 3, 4, 4, 5, 3, 6].getD n 0 ≤ 6 by decide) n h⟩
noncomputable def pwR : List Int := [6, 14, 40]
theorem pickR (c : Int) : ∃ d : Int, atI [V.int 6, V.int 14, V.int 40] (c % 3) = some (.int d) ∧ 0 < d ∧ d ≤ 40 := by
  obtain ⟨n, h, e⟩ := modN c (n := 3) (by decide)
  rw [show c % 3 = ((n : Nat) : Int) from e]
  exact ⟨pwR.getD n 0, (show ∀ n : Nat, n < 3 → atI [V.int 6, V.int 14, V.int 40] (n : Int) = some (.int (pwR.getD n 0)) ∧ 0 < pwR.getD n 0 ∧ pwR.getD n 0 ≤ 40 by decide) n h⟩
theorem ifEq2 {i j : Int} {A B R S : Prop} (h1 : i = j → (S → R) → A) (h2 : i ≠ j → (S → R) → B) (r : S → R) : if decide (V.int i = V.int j) = true then A else B := ifEq (fun h => h1 h r) fun h => h2 h r
noncomputable def DrI (H : Hp) (a m L T : Addr) (top cnt : Nat) (fi ra : Int) (ms : List Int) (rs : List Addr) (σ : L2.St) (Hx : Hp) : Prop := ∃ (ps : List (List Int)) (ts : List (Addr × Addr × Str × Int × List Nat)) (x y z : Option V), σ = [some (.ref a), some (.int ((top : Nat) : Int)), some (.int fi), some (.ref m), some (.int ((cnt : Nat) : Int)), some (.int ra), some (.ref L), x, some (.ref T), y, z] ∧ Same H Hx ∧ Hx m = some (.lst (ms.map V.int)) ∧ Hx L = some (.lst (rs.map V.ref)) ∧ Hx T = some (.lst (ts.map fun x => V.ref x.1)) ∧ RowsL Hx rs ps ∧ (∀ p ∈ ps, p.Nodup) ∧ (∀ p ∈ ps, ∀ b ∈ p, b ∈ ms) ∧ (∀ x ∈ ts, TieT Hx x) ∧ (∀ x ∈ ts, TieG cnt x) ∧ ts.length ≤ 12
noncomputable def sp_law_drawn (K : PySem.W.Frag) : Sp := fun vs H Q _ => ∃ (a : Addr) (ns : List Int) (top : Nat), vs = [.ref a, .int ((top : Nat) : Int)] ∧ SqL K H a (ns.map V.int) ∧ ns.length ≤ 63 ∧ 1 ≤ top ∧ top ≤ 6 ∧
  ∀ l m L T ms rs ps ts H', Same H H' → Drawn H' l m L T ms rs ps ts top → H l = none → Q (.ref l) H'
theorem sc_law_drawn : FnScope ["script", "top", "first", "menu", "count", "rare", "lists", "k", "ties", "cell", "badge"] ["script", "top"] (defScope s_law_drawn) := ⟨rfl, rfl, rfl, by decide +kernel, rfl, by decide +kernel, by decide +kernel⟩
theorem ok_law_drawn (D : Dfs K mg aF dF) (T : Txt mg) : FnOk P w K mg base CX0 3 (aF 30) (dF 30) ["script", "top"] (sp_law_drawn K) := by
  have Glaw_cell : FnOk P w K mg base CX0 1 (aF 26) (dF 26) ["script", "k"] (sp_law_cell K) := ok_law_cell D T
  have Glaw_menu : FnOk P w K mg base CX0 2 (aF 28) (dF 28) ["script", "at", "wide"] (sp_law_menu K) := ok_law_menu D T
  have Glaw_bond : FnOk P w K mg base CX0 1 (aF 29) (dF 29) ["cell", "many"] (sp_law_bond K) := ok_law_bond D T
  refine D.law_drawn.fn.ok sc_law_drawn (fun vs H Q E h => ?_) (fun cdv A outer s H vs Q E hr h => ?_)
  · obtain ⟨a, ns, top, rfl, _⟩ := h; rfl
  · have hu := hu_of hr
    obtain ⟨a, ns, top, rfl, hS, hl, t1, t6, q⟩ := h
    refine ⟨_, (pss_cons (ps_set (i := 2) sc_law_drawn.nd rfl (Or.inl rfl) (pc D.law_cell Glaw_cell (hr.mono (by decide)) (pa_cons (pv 0) (pa_cons pe_int pa_nil))))
      (pss_cons (ps_set (i := 3) sc_law_drawn.nd rfl (Or.inr rfl) (pc D.law_menu Glaw_menu (hr.mono (by decide)) (pa_cons (pv 0) (pa_cons pe_int (pa_cons (pe_ix (ixL K) (pe_lst (pa_cons pe_int (pa_cons pe_int (pa_cons pe_int (pa_cons pe_int pa_nil))))) (pe_op op_mod (pe_op op_fdiv (pv 2) pe_int) pe_int) (fun _ _ => rfl)) pa_nil)))))
      (pss_cons (ps_set (i := 4) sc_law_drawn.nd rfl (Or.inl rfl) (pe_callB (call_min2 rfl) (by rfl) T.z_min boot_min (pa_cons (pv 1) (pa_cons (pe_ix (ixL K) (pe_lst (pa_cons pe_int (pa_cons pe_int (pa_cons pe_int (pa_cons pe_int (pa_cons pe_int (pa_cons pe_int (pa_cons pe_int (pa_cons pe_int pa_nil))))))))) (pe_op op_mod (pv 2) pe_int) (fun _ _ => rfl)) pa_nil))))
      (pss_cons (ps_set (i := 5) sc_law_drawn.nd rfl (Or.inl rfl) (pe_ix (ixL K) (pe_lst (pa_cons pe_int (pa_cons pe_int (pa_cons pe_int pa_nil)))) (pe_op op_mod (pe_op op_fdiv (pv 2) pe_int) pe_int) (fun _ _ => rfl)))
      (pss_cons (ps_setC (i₀ := 6) sc_law_drawn.nd rfl (Or.inl rfl) ["k", "menu"] [none, some 3] rfl (pi_range1 rfl T.z_range (pa_cons (pv 4) pa_nil)) (fun _ => pg_name (i := 0) (nodupN (N := ["k", "menu"]) (by decide +kernel)) rfl (Or.inl rfl)) (fun _ => pif_nil) (fun _ => (pe_callTy (cList K) (by rfl) T.z_list boot_list (pa_cons (pv 1) pa_nil))) ((.cons (fun _ e => by cases e) (.cons (fun _ e => by cases e; exact ⟨rfl, rfl⟩) .nil))))
      (pss_cons (ps_set (i := 8) sc_law_drawn.nd rfl (Or.inl rfl) (pe_lst pa_nil))
      (pss_cons (ps_for PassesOwn.never rfl (pi_range2 rfl T.z_range (pa_cons pe_int (pa_cons (pe_callB (call_max2 rfl) (by rfl) T.z_max boot_max (pa_cons (pe_callB (cLen K) (by rfl) T.z_len boot_len (pa_cons (pv 0) pa_nil)) (pa_cons pe_int pa_nil))) pa_nil))) (pg_name (i := 7) sc_law_drawn.nd rfl (Or.inl rfl))
        (pss_cons (ps_set (i := 9) sc_law_drawn.nd rfl (Or.inl rfl) (pc D.law_cell Glaw_cell (hr.mono (by decide)) (pa_cons (pv 0) (pa_cons (pv 7) pa_nil))))
        (pss_cons (ps_set (i := 10) sc_law_drawn.nd rfl (Or.inl rfl) (pe_ix (ixL K) (pv 3) (pe_op op_mod (pe_op op_fdiv (pv 9) (pv 5)) (pe_callB (cLen K) (by rfl) T.z_len boot_len (pa_cons (pv 3) pa_nil))) (fun _ _ => rfl)))
        (pss_one (ps_if (PW.pt (pw_and (pt_cmpR op_eq (pe_op op_mod (pv 9) (pv 5)) pe_int (nomark _)) (pw_and1 (pt_cmpR op_lt (pe_callB (cLen K) (by rfl) T.z_len boot_len (pa_cons (pv 8) pa_nil)) pe_int (nomark _)))))
          (pss_one (ps_expr (pe_bm PySem.F.plainAttrs_list PySem.F.slot_list_append PySem.F.type_list_append mt_append (pv 8) (pa_cons (pc D.law_bond Glaw_bond (hr.mono (by decide)) (pa_cons (pe_op op_fdiv (pv 9) (pv 5)) (pa_cons (pv 4) pa_nil))) pa_nil))))
          (pss_one (ps_if (pt_cmpR (inS K) (pv 10) (pe_ix (ixL K) (pv 6) (pe_op op_mod (pv 7) (pv 4)) (fun _ _ => rfl)) (by with_unfolding_all rfl))
            (pss_one (ps_expr (pe_bm PySem.F.plainAttrs_list PySem.F.slot_list_remove PySem.F.type_list_remove mt_remove (pe_ix (ixL K) (pv 6) (pe_op op_mod (pv 7) (pv 4)) (fun _ _ => rfl)) (pa_cons (pv 10) pa_nil))))
            (pss_one (ps_expr (pe_bm PySem.F.plainAttrs_list PySem.F.slot_list_append PySem.F.type_list_append mt_append (pe_ix (ixL K) (pv 6) (pe_op op_mod (pv 7) (pv 4)) (fun _ _ => rfl)) (pa_cons (pv 10) pa_nil)))))))))))
      (pss_one (ps_ret (pe_lst (pa_cons (pv 3) (pa_cons (pe_lcomp ["row"] [none] rfl (piL K (pv 6)) (fun _ => pg_name (i := 0) (nodupN (N := ["row"]) (by decide +kernel)) rfl (Or.inl rfl)) (fun _ => pif_nil) (fun _ => (pe_callB (cSorted K) (by rfl) T.z_sorted boot_sorted (pa_cons (pv 0) pa_nil))) ((.cons (fun _ e => by cases e) .nil))) (pa_cons (pv 8) pa_nil))))))))))))), ?_⟩
    refine ⟨_, rfl, a, ns, 0, rfl, hS, by walk_at "om", by walk_at "om", fun H1 s1 => ?_⟩
    generalize cv ns 0 = fi
    obtain ⟨wd, hwd, wd0, wd8⟩ := pick4 (fi / 24)
    refine ⟨_, rfl, szr, fun p np => ?_⟩
    walk_at "go"
    refine ⟨p, _, _, _, rfl, rfl, SqL.of upd_same, hwd, ?_⟩
    refine ⟨a, ns, 1, wd, rfl, (s1.to np).seq hS, by walk_at "om", by walk_at "om", by walk_at "om", wd0, fun m ms H2 s2 nm hm mup mlen mne mb => ?_⟩
    have s02 := (s1.to np).trans s2
    have ms0 : 0 < ms.length := List.length_pos_iff.mpr mne
    obtain ⟨d8, hd8, d81, d86⟩ := pick8 fi
    refine ⟨_, rfl, szr, fun p2 np2 => ?_⟩
    walk_at "go"
    refine ⟨p2, _, _, _, rfl, rfl, SqL.of upd_same, hd8, _, _, rfl, ?_⟩
    obtain ⟨cnt, hcnt, c1, ct, c6⟩ : ∃ cnt : Nat, (if (d8 : Int) < (top : Int) then (d8 : Int) else (top : Int)) = (cnt : Int) ∧ 1 ≤ cnt ∧ cnt ≤ top ∧ cnt ≤ 6 := by
      by_cases z : (d8 : Int) < (top : Int)
      · exact ⟨d8, by rw [if_pos z], d81, by walk_at "om", d86⟩
      · exact ⟨top, by rw [if_neg z], t1, by walk_at "om", t6⟩
    dsimp only
    rw [hcnt]
    have s03 := s02.to (o := .lst [.int 1, .int 2, .int 3, .int 4, .int 4, .int 5, .int 3, .int 6]) np2
    have hm3 := (Same.new (o := .lst [.int 1, .int 2, .int 3, .int 4, .int 4, .int 5, .int 3, .int 6]) np2) _ _ hm
    generalize upd H2 p2 (.lst [.int 1, .int 2, .int 3, .int 4, .int 4, .int 5, .int 3, .int 6]) = H3 at s03 hm3 ⊢
    obtain ⟨ra, hra, ra0, ra40⟩ := pickR (fi / 8)
    refine ⟨szr, fun p3 np3 => ?_⟩
    walk_at "go"
    refine ⟨p3, _, _, _, rfl, rfl, SqL.of upd_same, hra, ?_⟩
    have s04 := s03.to (o := .lst [.int 6, .int 14, .int 40]) np3
    have hm4 := (Same.new (o := .lst [.int 6, .int 14, .int 40]) np3) _ _ hm3
    generalize upd H3 p3 (.lst [.int 6, .int 14, .int 40]) = H4 at s04 hm4 ⊢
    refine ⟨_, rfl, _, rfl, lo62 _, by omega, ?_⟩
    rw [Int.toNat_natCast]
    refine comp_invR (n := cnt) (fun acc ys Hx => ∃ rs : List Addr, ys = rs.map V.ref ∧ rs.Nodup ∧ ∀ r ∈ rs, r ≠ acc ∧ H4 r = none ∧ Hx r = some (.lst (ms.map V.int))) (by walk_at "om")
      (fun acc ys Hx Hy ⟨rs, e, nd, al⟩ sb => ⟨rs, e, nd, fun r hr => ⟨(al r hr).1, (al r hr).2.1, sb r _ (al r hr).1 (al r hr).2.2⟩⟩) (fun acc Hx => ⟨[], rfl, List.nodup_nil, fun _ z => by cases z⟩) (fun acc i ys H5 R hi s5 nacc hacc ylen ⟨rs, e, nd, al⟩ k => ?_) fun L ys H5 s5 nL hL ylen ⟨rs, e, nd, al⟩ => ?_
    · refine ⟨_, rfl, m, _, rfl, .inl (SqL.of (s5 _ _ hm4)), fun l nl => k (.ref l) _ (Same.new nl) ⟨rs ++ [l], by rw [e, List.map_append]; rfl, nd_snoc nd fun z => ?_, fun r hr => ?_⟩⟩
      · have := (al l z).2.2
        rw [nl] at this
        cases this
      · rcases List.mem_append.mp hr with z | z
        · exact ⟨(al r z).1, (al r z).2.1, Same.new nl _ _ (al r z).2.2⟩
        · rw [List.mem_singleton.mp z]
          exact ⟨(fun y => by rw [y, hacc] at nl; cases nl), s5.free nl, upd_same⟩
    subst e
    rw [List.length_map] at ylen
    have s05 := s04.trans s5
    have hm5 := s5 _ _ hm4
    refine ⟨szr, fun T nT => ?_⟩
    have nTL : L ≠ T := ne_of_none hL nT
    have nTm : m ≠ T := ne_of_none hm5 nT
    have mL : m ≠ L := fun z => by rw [← z, hm4] at nL; cases nL
    have rL : ∀ r ∈ rs, r ≠ L := fun r hr => (al r hr).1
    have rm : ∀ r ∈ rs, r ≠ m := fun r hr z => by have := (al r hr).2.1; rw [z, hm4] at this; cases this
    have rT : ∀ r ∈ rs, r ≠ T := fun r hr => ne_of_none (al r hr).2.2 nT
    have r0 : ∀ r ∈ rs, H r = none := fun r hr => s04.free (al r hr).2.1
    have nT0 : H T = none := s05.free nT
    have nL0 : H L = none := s04.free nL
    refine ⟨_, rfl, _, _, rfl, .inl ⟨_, (s05.to nT).seq hS, rfl⟩, _, _, rfl, _, _, rfl, ⟨by walk_at "om", by walk_at "om", ?_, ?_⟩, ?_⟩
    · rw [List.length_map]; split <;> walk_at "om"
    · rw [List.length_map]; split <;> omega
    obtain ⟨tn, htn, tn60⟩ : ∃ tn : Nat, ((if (21 : Int) > (((ns.map V.int).length : Nat) : Int) then (21 : Int) else (((ns.map V.int).length : Nat) : Int)) - 9).toNat = tn ∧ tn ≤ 60 := ⟨_, rfl, by rw [List.length_map]; split <;> walk_at "om"⟩
    rw [htn]
    refine for_range (n := tn) (fun _ σ Hx => DrI H a m L T top cnt fi ra ms rs σ Hx)
      ⟨List.replicate cnt ms, [], none, none, none, rfl, s05.to nT, Same.new nT _ _ hm5, Same.new nT _ _ hL, upd_same (H := H5) (a := T) (o := .lst []), RowsL.of (by rw [List.length_replicate, ylen]) fun i r p' e1 e2 => ?_, fun p' hp => ?_, fun p' hp b hb => ?_, (fun _ z => by cases z), (fun _ z => by cases z), by decide⟩ ?_ ?_
    · have hp := List.eq_of_mem_replicate (List.mem_of_getElem? e2)
      rw [hp]
      exact Same.new nT _ _ (al r (List.mem_of_getElem? e1)).2.2
    · rw [List.eq_of_mem_replicate hp]; exact mup.imp fun h => Int.ne_of_lt h
    · rw [List.eq_of_mem_replicate hp] at hb; exact hb
    · rintro i σ Hx hi ⟨ps, ts, x, y, z, rfl, s6, hm6, hL6, hT6, rows, pnd, psub, tea, tg, t12⟩
      have ei : (9 : Int) + (i : Int) = ((9 + i : Nat) : Int) := by walk_at "om"
      rw [ei]
      refine ⟨_, rfl, _, rfl, a, ns, 9 + i, rfl, s6.seq hS, by walk_at "om", by walk_at "om", fun H7 s7 => ?_⟩
      generalize cv ns (9 + i) = c
      have hm7 := s7 _ _ hm6
      have hL7 := s7 _ _ hL6
      have hT7 := s7 _ _ hT6
      have rows7 := rows.same s7
      have s07 := s6.trans s7
      have tea7 : ∀ x ∈ ts, TieT H7 x := fun x hx => (tea x hx).same s7
      have ml : (0 : Int) < (((ms.map V.int).length : Nat) : Int) := by rw [List.length_map]; walk_at "om"
      have b1 := Int.emod_nonneg (c / ra) (show (((ms.map V.int).length : Nat) : Int) ≠ 0 by walk_at "om")
      have b2 := Int.emod_lt_of_pos (c / ra) ml
      obtain ⟨bj, hbj⟩ : ∃ bj : Nat, c / ra % (((ms.map V.int).length : Nat) : Int) = (bj : Int) := ⟨(c / ra % (((ms.map V.int).length : Nat) : Int)).toNat, by walk_at "om"⟩
      have bl : bj < ms.length := by rw [List.length_map] at b2 hbj; walk_at "om"
      refine ⟨_, rfl, _, rfl, _, rfl, _, _, rfl, rfl, ⟨ra0, by walk_at "om"⟩, _, rfl, _, _, rfl, .inl ⟨_, SqL.of hm7, rfl⟩, _, _, rfl, rfl, ml, m, _, _, _, rfl, rfl, SqL.of hm7, (by (try dsimp only); rw [hbj]; exact atI_int bl), ?_⟩
      have bm : ms.getD bj 0 ∈ ms := by rw [getD_get bl]; exact List.getElem_mem bl
      generalize ms.getD bj 0 = bd at bm ⊢
      clear hbj b1 b2 bl ml
      obtain ⟨j, hj⟩ : ∃ j : Nat, ((9 + i : Nat) : Int) % ((cnt : Nat) : Int) = (j : Int) := ⟨(9 + i) % cnt, by simp⟩
      have cpos : (0 : Int) < ((cnt : Nat) : Int) := by walk_at "om"
      have jl : j < rs.length := by
        have := Int.emod_lt_of_pos ((9 + i : Nat) : Int) cpos
        walk_at "om"
      have jp : j < ps.length := by rw [← rows.len]; exact jl
      have grs : rs[j]? = some rs[j] := List.getElem?_eq_getElem jl
      have mrs : rs[j] ∈ rs := List.getElem_mem jl
      obtain ⟨row, hrow, hrr⟩ := rows7.get grs
      have mrow : row ∈ ps := List.mem_of_getElem? hrow
      have hix : atI (rs.map V.ref) (((9 + i : Nat) : Int) % ((cnt : Nat) : Int)) = some (.ref rs[j]) := by rw [hj]; exact atI_nat (by rw [List.getElem?_map, grs]; rfl)
      have rlen : row.length ≤ 8 := by
        have := (pnd row mrow).length_le_of_subset fun b hb => psub row mrow b hb
        walk_at "om"
      refine ⟨_, rfl, _, rfl, _, _, rfl, rfl, ra0, rfl, _, rfl, ifEq2 (S := True) (fun _ k => ?_) (fun _ k => iteF (k trivial)) ?_⟩
      · refine ⟨_, rfl, _, _, rfl, .inl ⟨_, SqL.of hT7, rfl⟩, _, _, rfl, rfl, _, rfl, ifD (fun lt12 => ?_) fun _ => k trivial⟩
        rw [List.length_map] at lt12
        refine ⟨_, rfl, .inl ⟨rfl, _, SqL.of hT7⟩, _, rfl, _, rfl, _, _, rfl, rfl, ⟨ra0, by walk_at "om"⟩, _, rfl, _, cnt, rfl, c1, c6, fun tx H8 s8 tx1 tx2 _ _ => ?_⟩
        refine ⟨T, _, _, rfl, rfl, s8 _ _ hT7, szn (by rw [List.length_map]; walk_at "om"), ?_⟩
        have s08 := s07.trans s8
        have nxT : ∀ {u : Addr} {xs : List V}, H8 u = some (.tup xs) → u ≠ T := fun {u xs} hu z => by rw [z, s8 _ _ hT7] at hu; cases hu
        refine ⟨ps, ts ++ [tx], _, _, _, rfl, s08.put nT0, by rw [upd_ne nTm]; exact s8 _ _ hm7, by rw [upd_ne nTL]; exact s8 _ _ hL7, by rw [upd_same, List.map_append]; rfl, ?_, pnd, psub, fun x hx => ?_, fun x hx => ?_, by rw [List.length_append, List.length_singleton]; walk_at "om"⟩
        · refine RowsL.of rows.len fun i' r' p' e1 e2 => ?_
          rw [upd_ne (rT r' (List.mem_of_getElem? e1))]
          obtain ⟨p2, e3, e4⟩ := (rows7.same s8).get e1
          rw [e2] at e3
          cases e3
          exact e4
        · rcases List.mem_append.mp hx with h | h
          · exact ((tea7 x h).same s8).put (s8 _ _ hT7)
          · rw [List.mem_singleton.mp h]; exact tx1.put (s8 _ _ hT7)
        · rcases List.mem_append.mp hx with h | h
          · exact tg x h
          · rw [List.mem_singleton.mp h]; exact tx2
      intro _
      have upds : ∀ nr : List Int, nr.Nodup → (∀ b ∈ nr, b ∈ ms) → DrI H a m L T top cnt fi ra ms rs [some (.ref a), some (.int ((top : Nat) : Int)), some (.int fi), some (.ref m), some (.int ((cnt : Nat) : Int)), some (.int ra), some (.ref L), some (.int ((9 + i : Nat) : Int)), some (.ref T), some (.int c), some (.int bd)] (upd H7 rs[j] (.lst (nr.map V.int))) := by
        intro nr nn nm'
        refine ⟨ps.set j nr, ts, _, _, _, rfl, s07.put (r0 _ mrs), by rw [upd_ne fun z => rm _ mrs z.symm]; exact hm7, by rw [upd_ne fun z => rL _ mrs z.symm]; exact hL7, by rw [upd_ne fun z => rT _ mrs z.symm]; exact hT7, rows7.set nd grs nr, fun p' hp => ?_, fun p' hp => ?_, fun x hx => (tea7 x hx).put hrr, tg, t12⟩
        · rcases List.mem_or_eq_of_mem_set hp with h | h
          · exact pnd p' h
          · rw [h]; exact nn
        · rcases List.mem_or_eq_of_mem_set hp with h | h
          · exact psub p' h
          · rw [h]; exact nm'
      refine ⟨_, rfl, _, rfl, _, rfl, _, rfl, _, _, rfl, rfl, cpos, L, _, _, _, rfl, rfl, SqL.of hL7, hix, ?_⟩
      refine ⟨rs[j], _, rfl, .inl (SqL.of hrr), rfl, flat_all _, _, rfl, ?_⟩
      rw [if_neg (by decide), inV_int]
      refine ifD (fun hin => ?_) fun hin => ?_
      · refine ⟨_, rfl, _, rfl, _, rfl, _, _, rfl, rfl, cpos, L, _, _, _, rfl, rfl, SqL.of hL7, hix, .inl ⟨rfl, _, SqL.of hrr⟩, _, rfl, ?_⟩
        have g0 := fx_at hin
        refine ⟨rs[j], row, bd, fx row bd, rfl, rfl, hrr, g0, fun mm hmm => fx_no hmm, ?_⟩
        exact upds (row.eraseIdx (fx row bd)) ((pnd row mrow).sublist (List.eraseIdx_sublist ..)) fun b hb => psub row mrow b ((List.eraseIdx_sublist ..).subset hb)
      · refine ⟨_, rfl, _, rfl, _, rfl, _, _, rfl, rfl, cpos, L, _, _, _, rfl, rfl, SqL.of hL7, hix, .inl ⟨rfl, _, SqL.of hrr⟩, _, rfl, ?_⟩
        refine ⟨rs[j], _, _, rfl, rfl, hrr, szn (by rw [List.length_map]; walk_at "om"), ?_⟩
        have e : row.map V.int ++ [V.int bd] = (row ++ [bd]).map V.int := by rw [List.map_append]; rfl
        rw [e]
        exact upds (row ++ [bd]) (nd_snoc (pnd row mrow) hin) fun b hb => by
          rcases List.mem_append.mp hb with h | h
          · exact psub row mrow b h
          · rw [List.mem_singleton.mp h]; exact bm
    · rintro σ Hx ⟨ps, ts, x, y, z, rfl, s6, hm6, hL6, hT6, rows, pnd, psub, tea, tg, t12⟩
      have pl : ps.length = cnt := by rw [← rows.len, ylen]
      refine ⟨_, rfl, _, rfl, L, rfl, ⟨_, SqL.of hL6⟩, ?_⟩
      refine comp_invL (fun acc ys Hy => ∃ (rs' : List Addr) (ps' : List (List Int)), ys = rs'.map V.ref ∧ RowsL Hy rs' ps' ∧ (∀ r ∈ rs', r ≠ acc) ∧ ∀ (i : Nat) p', ps'[i]? = some p' → ∃ p0, ps[i]? = some p0 ∧ p'.Perm p0 ∧ p'.Pairwise (· ≤ ·)) (SqL.of hL6) (by rw [List.length_map, ylen]; walk_at "om")
        (fun acc ys Hy Hz ⟨rs', ps', e, rw', ne, al'⟩ sb => ⟨rs', ps', e, RowsL.of rw'.len fun i' r' p' e1 e2 => ?_, ne, al'⟩) (fun acc Hy => ⟨[], [], rfl, .nil, fun _ z => (by cases z), fun _ _ z => by simp at z⟩) (fun acc i x ys Hy R hx sy nacc hacc yl ⟨rs', ps', e, rw', ne, al'⟩ k => ?_) fun L2' ys Hy sy nL2 hL2 yl ⟨rs', ps', e, rw', ne, al'⟩ => ?_
      · obtain ⟨p2, e3, e4⟩ := rw'.get e1
        rw [e2] at e3
        cases e3
        exact sb r' _ (ne r' (List.mem_of_getElem? e1)) e4
      · rw [List.getElem?_map] at hx
        obtain ⟨r, hr, rfl⟩ := Option.map_eq_some_iff.mp hx
        obtain ⟨row, hrow, hrr⟩ := rows.get hr
        have mrow := List.mem_of_getElem? hrow
        have rlen : row.length ≤ 8 := by
          have := (pnd row mrow).length_le_of_subset fun b hb => psub row mrow b hb
          walk_at "om"
        refine ⟨_, rfl, r, row, rfl, SqL.of (sy _ _ hrr), by walk_at "om", fun l ks nl pm sr => k (.ref l) _ (Same.new nl) ⟨rs' ++ [l], ps' ++ [ks], by rw [e, List.map_append]; rfl, ?_, fun r' hr' => ?_, fun i' p' hp' => ?_⟩⟩
        · exact Paired.snoc (Paired.mapP rw' fun _ _ q' => Same.new nl _ _ q') upd_same
        · rcases List.mem_append.mp hr' with h | h
          · exact ne r' h
          · rw [List.mem_singleton.mp h]
            exact fun z' => by rw [z', hacc] at nl; cases nl
        · have el : ps'.length = i := by rw [← rw'.len, ← yl, e, List.length_map]
          by_cases z' : i' < ps'.length
          · rw [List.getElem?_append_left z'] at hp'
            exact al' i' p' hp'
          · have z2 : i' = ps'.length := by
              have := (List.getElem?_eq_some_iff.mp hp').1
              rw [List.length_append, List.length_singleton] at this
              walk_at "om"
            rw [z2, List.getElem?_append_right (Nat.le_refl _), Nat.sub_self] at hp'
            cases hp'
            exact ⟨row, by rw [z2, el]; exact hrow, pm, sr⟩
      · have plen : ps'.length = ps.length := by rw [← rw'.len, ← rows.len, ← List.length_map (f := V.ref) (as := rs'), ← e, yl, List.length_map]
        refine ⟨_, rfl, szr, fun l nl => ?_⟩
        have sl := Same.new (o := .lst [.ref m, .ref L2', .ref T]) nl
        have s6y := s6.trans sy
        have fact : ∀ p' ∈ ps', ∃ p0 ∈ ps, p'.Perm p0 ∧ p'.Pairwise (· ≤ ·) := fun p' hp => by
          obtain ⟨i', hi', e'⟩ := List.mem_iff_getElem.mp hp
          obtain ⟨p0, g1, g2, g3⟩ := al' i' p' (by rw [List.getElem?_eq_getElem hi', e'])
          exact ⟨p0, List.mem_of_getElem? g1, g2, g3⟩
        refine q l m L2' T ms rs' ps' ts _ (s6y.to nl) ⟨upd_same, sl _ _ (sy _ _ hm6), by rw [← e]; exact sl _ _ hL2, sl _ _ (sy _ _ hT6), rw'.same sl, mup, mne, by walk_at "om", mb, fun p' hp => ?_, fun p' hp b hb => ?_, by walk_at "om", by walk_at "om", by walk_at "om", fun x hx => ((tea x hx).same sy).same sl, fun x hx => by rw [plen, pl]; exact tg x hx, t12⟩ (s6y.free nl)
        · obtain ⟨p0, m0, pm, sr⟩ := fact p' hp
          exact sort_lt sr (pm.nodup_iff.mpr (pnd p0 m0))
        · obtain ⟨p0, m0, pm, sr⟩ := fact p' hp
          exact psub p0 m0 b (pm.mem_iff.mp hb)
noncomputable def sp_law_unlike (K : PySem.W.Frag) : Sp := fun vs H Q _ => ∃ (a b : Addr) (hs : List Int) (st : List Nat), vs = [.ref a, .ref b] ∧ SqL K H a (hs.map V.int) ∧ (SqL K H b (st.map fun (i : Nat) => V.int (i : Int)) ∨ SqT K H b (st.map fun (i : Nat) => V.int (i : Int))) ∧ (∀ i ∈ st, i < hs.length) ∧ st.length ≤ 6 ∧
  ∀ H', Same H H' → Q (.int ((unl (fun i => hs.getD i 0) st : Nat) : Int)) H'
theorem sc_law_unlike : FnScope ["things", "steps", "count", "k"] ["things", "steps"] (defScope s_law_unlike) := ⟨rfl, rfl, rfl, by decide +kernel, rfl, by decide +kernel, by decide +kernel⟩
theorem ok_law_unlike (D : Dfs K mg aF dF) (T : Txt mg) : FnOk P w K mg base CX0 1 (aF 31) (dF 31) ["things", "steps"] (sp_law_unlike K) := by
  refine D.law_unlike.fn.ok sc_law_unlike (fun vs H Q E h => ?_) (fun cdv A outer s H vs Q E hr h => ?_)
  · obtain ⟨a, b, hs, st, rfl, _⟩ := h; rfl
  · have hu := hu_of hr
    obtain ⟨a, b, hs, st, rfl, ha, hb, hlt, h6, q⟩ := h
    refine ⟨_, (pss_cons (ps_set (i := 2) sc_law_unlike.nd rfl (Or.inl rfl) pe_int)
      (pss_cons (ps_for PassesOwn.never rfl (pi_range1 rfl T.z_range (pa_cons (pe_callB (cLen K) (by rfl) T.z_len boot_len (pa_cons (pv 1) pa_nil)) pa_nil)) (pg_name (i := 3) sc_law_unlike.nd rfl (Or.inl rfl))
        (pss_one (ps_if (pt_cmpR (ninS K) (pe_ix (ixL K) (pv 0) (pe_ix (ixE K) (pv 1) (pv 3) (fun _ _ => rfl)) (fun _ _ => rfl)) (pe_lcomp ["step", "things"] [none, some 0] rfl (piE K (pe_slice (slE K) (pv 1) po_none (po_some (pv 3)))) (fun _ => pg_name (i := 0) (nodupN (N := ["step", "things"]) (by decide +kernel)) rfl (Or.inl rfl)) (fun _ => pif_nil) (fun _ => (pe_ix (ixL K) (pv 1) (pv 0) (fun _ _ => rfl))) ((.cons (fun _ e => by cases e) (.cons (fun _ e => by cases e; exact ⟨rfl, rfl⟩) .nil)))) (by with_unfolding_all rfl))
          (pss_one (ps_set (i := 2) sc_law_unlike.nd rfl (Or.inl rfl) (pe_op op_add (pv 2) pe_int)))
          pss_nil)))
      (pss_one (ps_ret (pv 2))))), ?_⟩
    have sl : (st.map fun (i : Nat) => V.int (i : Int)).length = st.length := by rw [List.length_map]
    have hlen : LenV K (.ref b) H (st.map fun (i : Nat) => V.int (i : Int)).length := by
      rcases hb with hb | hb
      · exact .inl ⟨_, hb, rfl⟩
      · exact .inr ⟨_, hb, rfl⟩
    refine ⟨_, rfl, _, _, rfl, hlen, _, rfl, lo62 _, by walk_at "om", ?_⟩
    have e0 : (((st.map fun (i : Nat) => V.int (i : Int)).length : Nat) : Int).toNat = st.length := by walk_at "om"
    rw [e0]
    refine for_range (n := st.length) (fun i σ H1 => ∃ x : Option V, σ = [some (.ref a), some (.ref b), some (.int ((unl (fun i => hs.getD i 0) (st.take i) : Nat) : Int)), x] ∧ Same H H1) ⟨none, rfl, Same.refl _⟩ ?_ ?_
    · rintro i σ H1 hi ⟨x, rfl, s1⟩
      have ei : (0 : Int) + (i : Int) = ((i : Nat) : Int) := by walk_at "om"
      rw [ei]
      have gi : (st.map fun (i : Nat) => V.int (i : Int))[i]? = some (.int ((st[i] : Nat) : Int)) := by rw [List.getElem?_map, List.getElem?_eq_getElem hi]; rfl
      have hl := hlt _ (List.getElem_mem hi)
      have et : st.take (i + 1) = st.take i ++ [st[i]] := by rw [List.take_add_one, List.getElem?_eq_getElem hi]; rfl
      have ek : cutV (st.map fun (i : Nat) => V.int (i : Int)) none (some (i : Int)) = (st.take i).map fun (i : Nat) => V.int (i : Int) := by rw [cut_to, ← List.map_take]
      have us := unl_snoc (fun i => hs.getD i 0) (st.take i) st[i]
      have elt : ∀ (Hc : Hp) (j : Nat) (x : V), Same H1 Hc → ((st.take i).map fun (i : Nat) => V.int (i : Int))[j]? = some x → ∃ d : Nat, x = V.int (d : Int) ∧ (st.take i).getD j 0 = d ∧ d < hs.length := fun Hc j x _ hx => by
        obtain ⟨d, hd, rfl, ed⟩ := at_nat hx
        exact ⟨d, rfl, ed, hlt d (List.mem_of_mem_take (List.mem_of_getElem? hd))⟩
      have fin : ∀ acc Hc, Same H1 Hc → Hc acc = some (.lst (((st.take i).map fun i => hs.getD i 0).map V.int)) → ∀ R1 R2 : Prop, (hs.getD st[i] 0 ∉ (st.take i).map (fun i => hs.getD i 0) → R1) → (hs.getD st[i] 0 ∈ (st.take i).map (fun i => hs.getD i 0) → R2) → if (if true = true then !inV (.int (hs.getD st[i] 0)) (((st.take i).map fun i => hs.getD i 0).map V.int) else inV (.int (hs.getD st[i] 0)) (((st.take i).map fun i => hs.getD i 0).map V.int)) = true then R1 else R2 := fun acc Hc _ _ R1 R2 f1 f2 => by
        rw [if_pos rfl, inV_int]
        exact ifNot (fun hn => f1 (of_decide_eq_false hn)) fun hin => f2 (of_decide_eq_true hin)
      have r1 : hs.getD st[i] 0 ∉ (st.take i).map (fun i => hs.getD i 0) → unl (fun i => hs.getD i 0) (st.take (i + 1)) = unl (fun i => hs.getD i 0) (st.take i) + 1 := fun h => by rw [et, us, if_neg h]
      have r2 : hs.getD st[i] 0 ∈ (st.take i).map (fun i => hs.getD i 0) → unl (fun i => hs.getD i 0) (st.take (i + 1)) = unl (fun i => hs.getD i 0) (st.take i) := fun h => by rw [et, us, if_pos h]
      rcases hb with hb | hb
      · refine ⟨_, rfl, _, rfl, _, rfl, .inl ⟨b, _, _, _, rfl, rfl, s1.seq hb, atI_nat gi, a, _, _, _, rfl, rfl, s1.seq ha, atI_int hl, ?_⟩⟩
        refine ⟨_, rfl, _, rfl, _, rfl, .inl ⟨b, _, rfl, s1.seq hb, fun c nc => ?_⟩⟩
        rw [ek]
        refine ⟨c, rfl, .inl ⟨⟨_, SqL.of upd_same⟩, ?_⟩⟩
        refine comp_list2 (xs := (st.take i).map fun (i : Nat) => V.int (i : Int)) (fun _ => true) (fun j => .int (hs.getD ((st.take i).getD j 0) 0)) (SqL.of upd_same) (by rw [List.length_map, List.length_take]; walk_at "om") (fun _ _ _ _ _ _ k => k _ (Same.refl _)) (fun j x hx _ H2 R s2 k => ?_) fun acc H2 s2 nacc hacc => ?_
        · obtain ⟨d, rfl, ed, hdl⟩ := elt H1 j x (Same.refl _) hx
          rw [ed] at k
          exact ⟨_, rfl, _, rfl, a, _, _, _, rfl, rfl, ((s1.to nc).trans s2).seq ha, atI_int hdl, k _ (Same.refl _)⟩
        rw [all_at] at hacc
        have s12 := (Same.new (o := .lst ((st.take i).map fun (i : Nat) => V.int (i : Int))) nc).trans s2
        refine ⟨acc, _, rfl, .inl (SqL.of hacc), rfl, flat_all _, _, rfl, fin acc H2 s12 hacc _ _ (fun h => ?_) fun h => ?_⟩
        · refine ⟨_, rfl, _, _, rfl, rfl, some (.int ((i : Nat) : Int)), ?_, s1.trans s12⟩
          rw [r1 h]; rfl
        · refine ⟨some (.int ((i : Nat) : Int)), ?_, s1.trans s12⟩
          rw [r2 h]; rfl
      · refine ⟨_, rfl, _, rfl, _, rfl, .inr ⟨b, _, _, _, rfl, rfl, Same.seqT s1 hb, atI_nat gi, a, _, _, _, rfl, rfl, s1.seq ha, atI_int hl, ?_⟩⟩
        refine ⟨_, rfl, _, rfl, _, rfl, .inr ⟨b, _, rfl, Same.seqT s1 hb, ?_, fun c nc => ?_⟩⟩
        · rintro ⟨_, z⟩
          rw [HT.sIx_nat, sl] at z
          walk_at "om"
        rw [ek]
        refine ⟨c, rfl, .inr ⟨⟨_, SqT.of upd_same⟩, ?_⟩⟩
        refine comp_tup (xs := (st.take i).map fun (i : Nat) => V.int (i : Int)) (fun _ => true) (fun j => .int (hs.getD ((st.take i).getD j 0) 0)) (SqT.of upd_same) (by rw [List.length_map, List.length_take]; walk_at "om") (fun _ _ _ _ _ _ k => k _ (Same.refl _)) (fun j x hx _ H2 R s2 k => ?_) fun acc H2 s2 nacc hacc => ?_
        · obtain ⟨d, rfl, ed, hdl⟩ := elt H1 j x (Same.refl _) hx
          rw [ed] at k
          exact ⟨_, rfl, _, rfl, a, _, _, _, rfl, rfl, ((s1.to nc).trans s2).seq ha, atI_int hdl, k _ (Same.refl _)⟩
        rw [all_at] at hacc
        have s12 := (Same.new (o := .tup ((st.take i).map fun (i : Nat) => V.int (i : Int))) nc).trans s2
        refine ⟨acc, _, rfl, .inl (SqL.of hacc), rfl, flat_all _, _, rfl, fin acc H2 s12 hacc _ _ (fun h => ?_) fun h => ?_⟩
        · refine ⟨_, rfl, _, _, rfl, rfl, some (.int ((i : Nat) : Int)), ?_, s1.trans s12⟩
          rw [r1 h]; rfl
        · refine ⟨some (.int ((i : Nat) : Int)), ?_, s1.trans s12⟩
          rw [r2 h]; rfl
    · rintro σ H1 ⟨x, rfl, s1⟩
      rw [List.take_length]
      exact ⟨_, rfl, q H1 s1⟩
noncomputable def sp_law_breaks (K : PySem.W.Frag) : Sp := sp_breaks K
theorem sc_law_breaks : FnScope ["pattern", "tie", "here", "many"] ["pattern", "tie"] (defScope s_law_breaks) := ⟨rfl, rfl, rfl, by decide +kernel, rfl, by decide +kernel, by decide +kernel⟩
theorem ok_law_breaks (D : Dfs K mg aF dF) (T : Txt mg) : FnOk P w K mg base CX0 2 (aF 32) (dF 32) ["pattern", "tie"] (sp_law_breaks K) := by
  have Glaw_unlike : FnOk P w K mg base CX0 1 (aF 31) (dF 31) ["things", "steps"] (sp_law_unlike K) := ok_law_unlike D T
  refine D.law_breaks.fn.ok sc_law_breaks (fun vs H Q E h => ?_) (fun cdv A outer s H vs Q E hr h => ?_)
  · obtain ⟨a, tp, t, hs, st, wd, k, rfl, _⟩ := h; rfl
  · have hu := hu_of hr
    obtain ⟨a, tp, t, hs, st, wd, k, rfl, ha, htp, ht, hwd, h6, q⟩ := h
    refine ⟨_, (pss_cons (ps_setC (i₀ := 2) sc_law_breaks.nd rfl (Or.inl rfl) ["step", "pattern"] [none, some 0] rfl (piT K (pe_ix (ixT K) (pv 1) pe_int (fun _ _ => rfl))) (fun _ => pg_name (i := 0) (nodupN (N := ["step", "pattern"]) (by decide +kernel)) rfl (Or.inl rfl)) (fun _ => pif_one (pt_cmpR op_lt (pv 0) (pe_callB (cLen K) (by rfl) T.z_len boot_len (pa_cons (pv 1) pa_nil)) (nomark _))) (fun _ => (pv 0)) ((.cons (fun _ e => by cases e) (.cons (fun _ e => by cases e; exact ⟨rfl, rfl⟩) .nil))))
      (pss_cons (ps_set (i := 3) sc_law_breaks.nd rfl (Or.inl rfl) (pc D.law_unlike Glaw_unlike (hr.mono (by decide)) (pa_cons (pv 0) (pa_cons (pv 2) pa_nil))))
      (pss_cons (ps_if (pt_cmpR op_eq (pe_ix (ixT K) (pv 1) pe_int (fun _ _ => rfl)) pe_str (nomark _))
        (pss_one (ps_ret (pe_cmpR op_gt (pv 3) (pe_ix (ixT K) (pv 1) pe_int (fun _ _ => rfl)) (nomark _))))
        pss_nil)
      (pss_one (ps_ret (pe_cmpR op_lt (pe_op op_sub (pe_op op_add (pv 3) (pe_callB (cLen K) (by rfl) T.z_len boot_len (pa_cons (pe_ix (ixT K) (pv 1) pe_int (fun _ _ => rfl)) pa_nil))) (pe_callB (cLen K) (by rfl) T.z_len boot_len (pa_cons (pv 2) pa_nil))) (pe_ix (ixT K) (pv 1) pe_int (fun _ _ => rfl)) (nomark _))))))), ?_⟩
    refine ⟨_, rfl, tp, _, _, _, rfl, rfl, htp, rfl, t, rfl, ⟨_, ht⟩, ?_⟩
    refine comp_tup (xs := st.map fun (i : Nat) => V.int (i : Int)) (fun j => decide (st.getD j 0 < hs.length)) (fun j => .int ((st.getD j 0 : Nat) : Int)) ht (by rw [List.length_map]; walk_at "om") (fun j x hx H2 R s2 k => ?_) (fun j x hx hp H2 R s2 k => ?_) fun acc H2 s2 nacc hacc => ?_
    · obtain ⟨d, hd, rfl⟩ : ∃ d : Nat, st[j]? = some d ∧ x = V.int (d : Int) := by
        rw [List.getElem?_map] at hx
        obtain ⟨b, h1, h2⟩ := Option.map_eq_some_iff.mp hx
        exact ⟨b, h1, h2.symm⟩
      have ed : st.getD j 0 = d := by rw [List.getD_eq_getElem?_getD, hd]; rfl
      rw [ed] at k
      refine ⟨_, rfl, _, rfl, _, _, rfl, .inl ⟨_, s2.seq ha, rfl⟩, _, _, rfl, rfl, _, rfl, ?_⟩
      have kk := k H2 (Same.refl _)
      have e : decide (d < hs.length) = decide ((d : Int) < (((hs.map V.int).length : Nat) : Int)) := by
        rw [List.length_map]
        by_cases z : d < hs.length
        · rw [decide_eq_true z, decide_eq_true (by walk_at "om")]
        · rw [decide_eq_false z, decide_eq_false (by walk_at "om")]
      rw [e] at kk
      exact kk
    · obtain ⟨d, hd, rfl⟩ : ∃ d : Nat, st[j]? = some d ∧ x = V.int (d : Int) := by
        rw [List.getElem?_map] at hx
        obtain ⟨b, h1, h2⟩ := Option.map_eq_some_iff.mp hx
        exact ⟨b, h1, h2.symm⟩
      have ed : st.getD j 0 = d := by rw [List.getD_eq_getElem?_getD, hd]; rfl
      rw [ed] at k
      exact ⟨_, rfl, k _ (Same.refl _)⟩
    rw [List.length_map, sift (g := fun i => decide (i < hs.length)) (F := fun (i : Nat) => V.int (i : Int))] at hacc
    have fl : (st.filter fun i => decide (i < hs.length)).length ≤ st.length := List.length_filter_le ..
    refine ⟨_, rfl, _, rfl, a, acc, hs, st.filter fun i => decide (i < hs.length), rfl, s2.seq ha, .inl (SqL.of hacc), (fun i hi => of_decide_eq_true (List.mem_filter.mp hi).2), by walk_at "om", fun H3 s23 => ?_⟩
    have s3 := s2.trans s23
    have hacc3 := s23 _ _ hacc
    have q3 := q H3 s3
    refine ⟨_, rfl, tp, _, _, _, rfl, rfl, Same.seqT s3 htp, rfl, rfl, _, rfl, ?_⟩
    unfold brk at q3
    rcases hwd with e | e <;> subst e
    · refine iteT ?_
      rw [if_pos rfl] at q3
      exact ⟨_, rfl, _, rfl, tp, _, _, _, rfl, rfl, Same.seqT s3 htp, rfl, _, _, rfl, rfl, q3⟩
    · rw [decide_eq_false (by decide)]
      refine iteF ?_
      rw [if_neg (by decide)] at q3
      refine ⟨_, rfl, _, rfl, tp, _, _, _, rfl, rfl, Same.seqT s3 htp, rfl, _, _, rfl, .inr ⟨_, Same.seqT s3 ht, rfl⟩, _, _, rfl, rfl, _, rfl, _, _, rfl, .inl ⟨_, SqL.of hacc3, rfl⟩, _, _, rfl, rfl, _, rfl, tp, _, _, _, rfl, rfl, Same.seqT s3 htp, rfl, _, _, rfl, rfl, ?_⟩
      rw [List.length_map, List.length_map]
      exact q3
noncomputable def sp_law_in_all (K : PySem.W.Frag) : Sp := fun vs H Q _ => ∃ (b : Int) (ma sa : Addr) (rs : List Addr) (may : List (List Int)) (U : List Int) (st : List Nat), vs = [.int b, .ref ma, .ref sa] ∧ May K H ma rs may U ∧ SqL K H sa (st.map fun (i : Nat) => V.int (i : Int)) ∧ (∀ s ∈ st, s < may.length) ∧
  ∀ H', Same H H' → Q (.bl (st.all fun s => decide (b ∈ may.getD s []))) H'
theorem sc_law_in_all : FnScope ["badge", "lists", "steps", "step"] ["badge", "lists", "steps"] (defScope s_law_in_all) := ⟨rfl, rfl, rfl, by decide +kernel, rfl, by decide +kernel, by decide +kernel⟩
theorem ok_law_in_all (D : Dfs K mg aF dF) (T : Txt mg) : FnOk P w K mg base CX0 1 (aF 33) (dF 33) ["badge", "lists", "steps"] (sp_law_in_all K) := by
  refine D.law_in_all.fn.ok sc_law_in_all (fun vs H Q E h => ?_) (fun cdv A outer s H vs Q E hr h => ?_)
  · obtain ⟨b, ma, sa, rs, may, U, st, rfl, _⟩ := h; rfl
  · have hu := hu_of hr
    obtain ⟨b, ma, sa, rs, may, U, st, rfl, hm, hs, lt, q⟩ := h
    refine ⟨_, (pss_cons (ps_for PassesOwn.never rfl (piL K (pv 2)) (pg_name (i := 3) sc_law_in_all.nd rfl (Or.inl rfl))
        (pss_one (ps_if (pt_cmpR (ninS K) (pv 0) (pe_ix (ixL K) (pv 1) (pv 3) (fun _ _ => rfl)) (by with_unfolding_all rfl))
          (pss_one (ps_ret pe_bl))
          pss_nil)))
      (pss_one (ps_ret pe_bl))), ?_⟩
    refine ⟨_, rfl, sa, rfl, ⟨_, hs⟩, ?_⟩
    refine for_list (K := K) (a := sa) (xs := st.map fun (i : Nat) => V.int (i : Int)) (fun i σ H1 => ∃ x : Option V, σ = [some (.int b), some (.ref ma), some (.ref sa), x] ∧ Same H H1 ∧ ∀ s ∈ st.take i, b ∈ may.getD s []) ⟨none, rfl, Same.refl _, fun s z => by cases z⟩ (fun i σ H1 _ hq__ => by obtain ⟨_, _, s, _⟩ := hq__; exact s.seq hs) ?_ ?_
    · rintro i y σ H1 hi ⟨x, rfl, s1, al⟩
      obtain ⟨d, hd, rfl, _⟩ := at_nat hi
      have hm1 := hm.same s1
      obtain ⟨r, hr, hq, _, _⟩ := hm1.rows (lt d (List.mem_of_getElem? hd))
      refine ⟨_, rfl, _, rfl, _, rfl, ma, _, _, _, rfl, rfl, hm1.ls, atI_nat (by rw [List.getElem?_map, hr]; rfl), r, _, rfl, .inl hq, rfl, flat_all _, _, rfl, ?_⟩
      rw [if_pos rfl, inV_int]
      refine ifNot (fun hn => ?_) fun hin => ?_
      · have e : (st.all fun s => decide (b ∈ may.getD s [])) = false := by
          rw [Bool.eq_false_iff]
          intro z
          have := of_decide_eq_true (List.all_eq_true.mp z d (List.mem_of_getElem? hd))
          exact of_decide_eq_false hn this
        have qq := q H1 s1
        rw [e] at qq
        exact qq
      · refine ⟨_, rfl, s1, fun s hs' => ?_⟩
        rw [List.take_add_one, hd] at hs'
        rcases List.mem_append.mp hs' with z | z
        · exact al s z
        · rw [List.mem_singleton.mp z]; exact of_decide_eq_true hin
    · rintro σ H1 ⟨x, rfl, s1, al⟩
      rw [List.length_map, List.take_length] at al
      have e : (st.all fun s => decide (b ∈ may.getD s [])) = true := List.all_eq_true.mpr fun s hs' => decide_eq_true (al s hs')
      have qq := q H1 s1
      rw [e] at qq
      exact qq
noncomputable def sp_law_pool (K : PySem.W.Frag) : Sp := fun vs H Q _ => ∃ (b : Nat) (pa ma : Addr) (p : List Int) (rs : List Addr) (may : List (List Int)) (U : List Int), vs = [.ref pa, .ref ma, .int ((b : Nat) : Int)] ∧ SqL K H pa (p.map V.int) ∧ May K H ma rs may U ∧ Canon p ∧ b < (dd p).length ∧ p.length ≤ may.length ∧
  ∀ l H', Same H H' → H l = none → H' l = some (.lst ((poolN may p b).map V.int)) → Q (.ref l) H'
theorem sc_law_pool : FnScope ["pattern", "lists", "block", "steps"] ["pattern", "lists", "block"] (defScope s_law_pool) := ⟨rfl, rfl, rfl, by decide +kernel, rfl, by decide +kernel, by decide +kernel⟩
theorem ok_law_pool (D : Dfs K mg aF dF) (T : Txt mg) : FnOk P w K mg base CX0 2 (aF 34) (dF 34) ["pattern", "lists", "block"] (sp_law_pool K) := by
  have Glaw_in_all : FnOk P w K mg base CX0 1 (aF 33) (dF 33) ["badge", "lists", "steps"] (sp_law_in_all K) := ok_law_in_all D T
  refine D.law_pool.fn.ok sc_law_pool (fun vs H Q E h => ?_) (fun cdv A outer s H vs Q E hr h => ?_)
  · obtain ⟨b, pa, ma, p, rs, may, U, rfl, _⟩ := h; rfl
  · have hu := hu_of hr
    obtain ⟨b, pa, ma, p, rs, may, U, rfl, hp, hm, c, hb, hl, q⟩ := h
    refine ⟨_, (pss_cons (ps_set (i := 3) sc_law_pool.nd rfl (Or.inr rfl) (pe_lcomp ["k", "pattern", "block"] [none, some 0, some 2] rfl (pi_range1 rfl T.z_range (pa_cons (pe_callB (cLen K) (by rfl) T.z_len boot_len (pa_cons (pv 0) pa_nil)) pa_nil)) (fun _ => pg_name (i := 0) (nodupN (N := ["k", "pattern", "block"]) (by decide +kernel)) rfl (Or.inl rfl)) (fun _ => pif_one (pt_cmpR op_eq (pe_ix (ixL K) (pv 1) (pv 0) (fun _ _ => rfl)) (pv 2) (nomark _))) (fun _ => (pv 0)) ((.cons (fun _ e => by cases e) (.cons (fun _ e => by cases e; exact ⟨rfl, rfl⟩) (.cons (fun _ e => by cases e; exact ⟨rfl, rfl⟩) .nil))))))
      (pss_one (ps_ret (pe_lcomp ["badge", "lists", "steps"] [none, some 1, some 3] rfl (piL K (pe_ix (ixL K) (pv 1) (pe_ix (ixL K) (pv 3) pe_int (fun _ _ => rfl)) (fun _ _ => rfl))) (fun _ => pg_name (i := 0) (nodupN (N := ["badge", "lists", "steps"]) (by decide +kernel)) rfl (Or.inl rfl)) (fun _ => pif_one (pt_val (pc D.law_in_all Glaw_in_all (hr.mono (by decide)) (pa_cons (pv 0) (pa_cons (pv 1) (pa_cons (pv 2) pa_nil)))))) (fun _ => (pv 0)) ((.cons (fun _ e => by cases e) (.cons (fun _ e => by cases e; exact ⟨rfl, rfl⟩) (.cons (fun _ e => by cases e; exact ⟨rfl, rfl⟩) .nil)))))))), ?_⟩
    have m6 := hm.m6
    refine ⟨_, rfl, _, _, rfl, .inl ⟨_, hp, rfl⟩, _, rfl, lo62 _, by rw [List.length_map]; walk_at "om", ?_⟩
    have e0 : (((p.map V.int).length : Nat) : Int).toNat = p.length := by rw [List.length_map]; walk_at "om"
    rw [e0]
    refine comp_some (n := p.length) (fun i => decide (p.getD i 0 = (b : Int))) (by walk_at "om") (fun i hi H3 R s3 k => ?_) (fun i hi H3 R k => ?_) fun sl H3 s3 nsl hsl => ?_
    · have ei : (0 : Int) + (i : Int) = ((i : Nat) : Int) := by walk_at "om"
      rw [ei]
      have kk := k H3 (Same.refl _)
      rw [dec_intP] at kk
      exact ⟨_, rfl, _, rfl, pa, _, _, _, rfl, rfl, s3.seq hp, atI_int hi, _, rfl, rfl, _, rfl, kk⟩
    · have ei : (0 : Int) + (i : Int) = ((i : Nat) : Int) := by walk_at "om"
      rw [ei]
      exact ⟨_, rfl, k⟩
    have sne : blkS p b ≠ [] := blkS_ne c hb
    have slt : ∀ i ∈ blkS p b, i < may.length := fun i hi => by have := (blkS_mem.mp hi).1; walk_at "om"
    have hsl : H3 sl = some (.lst ((blkS p b).map fun (i : Nat) => V.int (i : Int))) := hsl
    have q2 : ∀ l H', Same H3 H' → H3 l = none → H' l = some (.lst ((poolS (blkS p b) may).map V.int)) → Q (.ref l) H' := fun l H' s n e => q l H' (s3.trans s) (s3.free n) e
    have hm3 := hm.same s3
    clear q
    generalize blkS p b = st at hsl sne slt q2
    obtain ⟨s0, sr, rfl⟩ := List.exists_cons_of_ne_nil sne
    obtain ⟨r0, hr0, hq0, up0, sub0⟩ := hm3.rows (slt s0 (by simp))
    refine ⟨_, rfl, _, rfl, sl, _, _, _, rfl, rfl, SqL.of hsl, atI_nat (j := 0) (v := V.int (s0 : Int)) rfl, ma, _, _, _, rfl, rfl, hm3.ls, atI_nat (by rw [List.getElem?_map, hr0]; rfl), r0, rfl, ⟨_, hq0⟩, ?_⟩
    have r26 : (may.getD s0 []).length ≤ 26 := Nat.le_trans ((lt_nd up0).length_le_of_subset sub0) hm.u20
    refine comp_list2 (xs := (may.getD s0 []).map V.int) (fun j => (s0 :: sr).all fun s => decide ((may.getD s0 []).getD j 0 ∈ may.getD s [])) (fun j => .int ((may.getD s0 []).getD j 0)) hq0 (by rw [List.length_map]; walk_at "om") (fun j x hx H2 R s2 k => ?_) (fun j x hx _ H2 R s2 k => ?_) fun acc H2 s2 nacc hacc => ?_
    · obtain ⟨d, hd, rfl, ed⟩ := at_int hx
      rw [ed] at k
      exact ⟨_, rfl, _, rfl, _, rfl, d, ma, sl, rs, may, U, s0 :: sr, rfl, hm3.same s2, SqL.of (s2 _ _ hsl), slt, fun H4 s4 => ⟨_, rfl, k H4 s4⟩⟩
    · obtain ⟨d, hd, rfl, ed⟩ := at_int hx
      rw [ed] at k
      exact ⟨_, rfl, k _ (Same.refl _)⟩
    · refine q2 acc H2 s2 nacc ?_
      rw [hacc, List.length_map, siftI (g := fun x => (s0 :: sr).all fun s => decide (x ∈ may.getD s []))]
      rfl
theorem dd_app (l r : List Int) : dd (l ++ r) = r.foldl dstep (dd l) := by unfold dd; rw [List.foldl_append]
theorem ifS3 {c : Prop} [Decidable c] {A B R S : Prop} (h1 : c → (S → R) → A) (h2 : ¬ c → (S → R) → B) (r : S → R) : if decide c = true then A else B := ifD (fun h => h1 h r) fun h => h2 h r
noncomputable def sp_law_short (K : PySem.W.Frag) : Sp := fun vs H Q _ => ∃ (pa ma ba : Addr) (p : List Int) (rs : List Addr) (may : List (List Int)) (U : List Int) (bs : List Int), vs = [.ref pa, .ref ma, .ref ba] ∧ SqL K H pa (p.map V.int) ∧ May K H ma rs may U ∧ Canon p ∧ p.length ≤ may.length ∧ H ba = some (.lst (bs.map V.int)) ∧ bs.length ≤ 1000 ∧
  ∀ H', Same H H' → Q (.bl (shortB may p bs)) H'
theorem sc_law_short : FnScope ["pattern", "lists", "blocks", "some", "k", "badge"] ["pattern", "lists", "blocks"] (defScope s_law_short) := ⟨rfl, rfl, rfl, by decide +kernel, rfl, by decide +kernel, by decide +kernel⟩
theorem ok_law_short (D : Dfs K mg aF dF) (T : Txt mg) : FnOk P w K mg base CX0 3 (aF 35) (dF 35) ["pattern", "lists", "blocks"] (sp_law_short K) := by
  have Glaw_whole : FnOk P w K mg base CX0 1 (aF 27) (dF 27) ["found"] (sp_law_whole K) := ok_law_whole D T
  have Glaw_pool : FnOk P w K mg base CX0 2 (aF 34) (dF 34) ["pattern", "lists", "block"] (sp_law_pool K) := ok_law_pool D T
  refine D.law_short.fn.ok sc_law_short (fun vs H Q E h => ?_) (fun cdv A outer s H vs Q E hr h => ?_)
  · obtain ⟨pa, ma, ba, p, rs, may, U, bs, rfl, _⟩ := h; rfl
  · have hu := hu_of hr
    obtain ⟨pa, ma, ba, p, rs, may, U, bs, rfl, hp, hm, c, hl, hba, bl, q⟩ := h
    refine ⟨_, (pss_cons (ps_if (pt_not (pt_val (pe_callB (cIsi K) (by rfl) T.z_isinstance boot_isinstance (pa_cons (pv 2) (pa_cons (ty_list T.z_list) pa_nil)))))
        (pss_one (ps_ret pe_bl))
        pss_nil)
      (pss_cons (ps_set (i := 3) sc_law_short.nd rfl (Or.inl rfl) pe_dnewK)
      (pss_cons (ps_for PassesOwn.never rfl (pi_range1 rfl T.z_range (pa_cons (pe_callB (cLen K) (by rfl) T.z_len boot_len (pa_cons (pv 2) pa_nil)) pa_nil)) (pg_name (i := 4) sc_law_short.nd rfl (Or.inl rfl))
        (pss_cons (ps_if (PW.pt (pw_or (pt_not (pt_val (pc D.law_whole Glaw_whole (hr.mono (by decide)) (pa_cons (pe_ix (ixL K) (pv 2) (pv 4) (fun _ _ => rfl)) pa_nil)))) (pw_or1 (pt_cmpR (ninS K) (pe_ix (ixL K) (pv 2) (pv 4) (fun _ _ => rfl)) (pv 0) (by with_unfolding_all rfl)))))
          (pss_one (ps_ret pe_bl))
          pss_nil)
        (pss_cons (ps_if (PW.pt (pw_and (pt_cmpR op_gt (pv 4) pe_int (nomark _)) (pw_and1 (pt_cmpR op_le (pe_ix (ixL K) (pv 2) (pv 4) (fun _ _ => rfl)) (pe_ix (ixL K) (pv 2) (pe_op op_sub (pv 4) pe_int) (fun _ _ => rfl)) (nomark _)))))
          (pss_one (ps_ret pe_bl))
          pss_nil)
        (pss_one (ps_for PassesOwn.never rfl (piL K (pc D.law_pool Glaw_pool (hr.mono (by decide)) (pa_cons (pv 0) (pa_cons (pv 1) (pa_cons (pe_ix (ixL K) (pv 2) (pv 4) (fun _ _ => rfl)) pa_nil))))) (pg_name (i := 5) sc_law_short.nd rfl (Or.inl rfl))
          (pss_one (ps_dput hu (pv 3) (pv 5) pe_bl rfl)))))))
      (pss_one (ps_ret (pe_cmpR op_lt (pe_callB call_lenD (by rfl) T.z_len boot_len (pa_cons (pv 3) pa_nil)) (pe_callB (cLen K) (by rfl) T.z_len boot_len (pa_cons (pv 2) pa_nil)) (nomark _))))))), ?_⟩
    have m6 := hm.m6
    have dl := dd_len p
    have u26 := hm.u20
    refine ⟨_, rfl, _, _, _, true, rfl, .lst hba, rfl, _, rfl, iteF ?_⟩
    intro so nso
    have s1 := Same.new (o := .dK []) nso
    refine ⟨_, rfl, _, _, rfl, .inl ⟨_, SqL.of (s1 _ _ hba), rfl⟩, _, rfl, lo62 _, by rw [List.length_map]; walk_at "om", ?_⟩
    have e0 : (((bs.map V.int).length : Nat) : Int).toNat = bs.length := by rw [List.length_map]; walk_at "om"
    rw [e0]
    have psub : ∀ b : Nat, b < (dd p).length → ∀ x ∈ poolN may p b, x ∈ U := fun b hb => pools_sub c hl hm.sub (poolN may p b) (List.mem_of_getElem? (pools_at hb))
    refine for_range (n := bs.length) (fun i σ H1 => ∃ (x y : Option V), σ = [some (.ref pa), some (.ref ma), some (.ref ba), some (.ref so), x, y] ∧ Same H H1 ∧ H1 so = some (.dK (encA (dd (poolsU may p (bs.take i))))) ∧ (∀ b ∈ bs.take i, b ∈ p) ∧ (bs.take i).Pairwise (· < ·)) ⟨none, none, rfl, s1, upd_same, (fun _ z => by cases z), .nil⟩ ?_ ?_
    · rintro i σ H1 hi ⟨x, y, rfl, s01, hso, inn, up⟩
      have ei : (0 : Int) + (i : Int) = ((i : Nat) : Int) := by walk_at "om"
      rw [ei]
      have hm1 := hm.same s01
      have hb1 := s01 _ _ hba
      have hbi : bs[i]? = some (bs.getD i 0) := by rw [List.getD_eq_getElem?_getD, List.getElem?_eq_getElem hi]; rfl
      have et : bs.take (i + 1) = bs.take i ++ [bs.getD i 0] := by rw [List.take_add_one, hbi]; rfl
      refine ⟨_, rfl, _, rfl, ba, _, _, _, rfl, rfl, SqL.of hb1, atI_int hi, bs.getD i 0, rfl, _, rfl, iteF ?_⟩
      refine ⟨_, rfl, _, rfl, ba, _, _, _, rfl, rfl, SqL.of hb1, atI_int hi, _, rfl, pa, _, rfl, .inl (s01.seq hp), rfl, flat_all _, _, rfl, ?_⟩
      rw [if_pos rfl, inV_int]
      refine ifNot (fun h1 => ?_) fun h1 => ?_
      · -- no block of the pattern
        have e : shortB may p bs = false := by
          cases z : shortB may p bs with
          | false => rfl
          | true =>
            unfold shortB at z
            rw [Bool.and_eq_true, Bool.and_eq_true] at z
            have w := of_decide_eq_true (List.all_eq_true.mp z.1.2 _ (List.mem_of_getElem? hbi))
            refine absurd ?_ (of_decide_eq_false h1)
            have := canon_has c (j := (bs.getD i 0).toNat) (by walk_at "om")
            rw [show (((bs.getD i 0).toNat : Nat) : Int) = bs.getD i 0 by walk_at "om"] at this
            exact this
        have qq := q H1 s01
        rw [e] at qq
        exact qq
      have hin := of_decide_eq_true h1
      obtain ⟨b, eb, hb⟩ := canon_mem c hin
      refine ⟨_, rfl, _, _, rfl, rfl, _, rfl, ifS3 (S := ∀ y ∈ bs.take i, y < bs.getD i 0) (fun pos k => ?_) (fun npos k => iteF (k ?_)) fun hup => ?_⟩
      · have e1 : (i : Int) - 1 = ((i - 1 : Nat) : Int) := by walk_at "om"
        have i1 : i - 1 < bs.length := by walk_at "om"
        refine ⟨_, rfl, _, rfl, ba, _, _, _, rfl, rfl, SqL.of hb1, atI_int hi, _, rfl, _, rfl, _, _, rfl, rfl, ba, _, _, _, rfl, rfl, SqL.of hb1, (by (try dsimp only); rw [e1]; exact atI_int i1), _, _, rfl, rfl, _, rfl, ifD (fun le => ?_) fun nle => k ?_⟩
        · have e : shortB may p bs = false := by
            cases z : shortB may p bs with
            | false => rfl
            | true =>
              unfold shortB at z
              rw [Bool.and_eq_true, Bool.and_eq_true] at z
              have := List.pairwise_iff_getElem.mp (risB_iff.mp z.1.1) (i - 1) i i1 hi (by walk_at "om")
              rw [getD_get i1, getD_get hi] at le
              walk_at "om"
          have qq := q H1 s01
          rw [e] at qq
          exact qq
        · intro y hy
          have hl1 : bs.getD (i - 1) 0 ∈ bs.take i := by
            rw [getD_get i1]
            exact List.mem_take_iff_getElem.mpr ⟨i - 1, by walk_at "om", rfl⟩
          obtain ⟨j, hj, ej⟩ := List.mem_take_iff_getElem.mp hy
          by_cases z : j = i - 1
          · subst z
            rw [← ej, ← getD_get i1]
            walk_at "om"
          · have h2 := List.pairwise_iff_getElem.mp up j (i - 1) (by rw [List.length_take]; walk_at "om") (by rw [List.length_take]; walk_at "om") (by walk_at "om")
            rw [List.getElem_take, List.getElem_take, ej, ← getD_get i1] at h2
            walk_at "om"
      · intro y hy
        have : i = 0 := by walk_at "om"
        subst this
        cases hy
      refine ⟨_, rfl, _, rfl, _, rfl, _, rfl, ba, _, _, _, rfl, rfl, SqL.of hb1, atI_int hi, b, pa, ma, p, rs, may, U, (by rw [eb]; rfl), s01.seq hp, hm1, c, hb, hl, fun po H2 s2 npo hpo => ⟨po, rfl, ⟨_, SqL.of hpo⟩, ?_⟩⟩
      have hso2 := s2 _ _ hso
      have npso : po ≠ so := fun z => by rw [z, hso] at npo; cases npo
      have nd0 := dd_nd (poolsU may p (bs.take i))
      have pUsub : ∀ z ∈ dd (poolsU may p (bs.take i)), z ∈ U := fun z hz => by
        obtain ⟨b', hb', hz'⟩ := List.mem_flatMap.mp (dd_mem.mp hz)
        obtain ⟨j, ej, hj⟩ := canon_mem c (inn b' hb')
        rw [ej, Int.toNat_natCast] at hz'
        exact psub j hj z hz'
      refine for_list (K := K) (a := po) (xs := (poolN may p b).map V.int) (fun j σ H3 => ∃ (y : Option V), σ = [some (.ref pa), some (.ref ma), some (.ref ba), some (.ref so), some (.int ((i : Nat) : Int)), y] ∧ SameBut so H2 H3 ∧ H3 so = some (.dK (encA (((poolN may p b).take j).foldl dstep (dd (poolsU may p (bs.take i))))))) ⟨_, rfl, fun _ _ _ h => h, hso2⟩ (fun j σ H3 _ hq__ => by obtain ⟨_, _, sb, _⟩ := hq__; exact SqL.of (sb _ _ npso hpo)) ?_ ?_
      · rintro j y σ H3 hj ⟨y', rfl, sb, hso3⟩
        obtain ⟨d, hd, rfl, _⟩ := at_int hj
        have al : (((poolN may p b).take j).foldl dstep (dd (poolsU may p (bs.take i)))).length ≤ U.length := by
          refine (fold_nd _ _ nd0).length_le_of_subset fun z hz => ?_
          rcases (fold_mem _ _ _).mp hz with z1 | z1
          · exact pUsub z z1
          · exact psub b hb z (List.mem_of_mem_take z1)
        refine ⟨_, rfl, _, rfl, so, _, rfl, DPut.k (k := Sum.inl d) hso3 (szn (by unfold encA; rw [List.length_map]; walk_at "om")), ?_⟩
        rw [encA_dd]
        have et2 : (poolN may p b).take (j + 1) = (poolN may p b).take j ++ [d] := by rw [List.take_add_one, hd]; rfl
        refine ⟨_, rfl, fun b o nb e => by rw [upd_ne nb]; exact sb _ _ nb e, ?_⟩
        rw [upd_same, et2, List.foldl_append]; rfl
      · rintro σ H3 ⟨y', rfl, sb, hso3⟩
        rw [List.length_map, List.take_length] at hso3
        refine ⟨_, _, rfl, fun b o e => sb _ _ (fun z => by rw [z, nso] at e; cases e) ((s01.trans s2) _ _ e), ?_, fun z hz => ?_, ?_⟩
        · rw [hso3, et]
          have : poolsU may p (bs.take i ++ [bs.getD i 0]) = poolsU may p (bs.take i) ++ poolN may p b := by
            unfold poolsU
            rw [List.flatMap_append, List.flatMap_singleton, eb, Int.toNat_natCast]
          rw [this, dd_app]
        · rw [et] at hz
          rcases List.mem_append.mp hz with y1 | y1
          · exact inn z y1
          · rw [List.mem_singleton.mp y1]; exact hin
        · rw [et]
          exact List.pairwise_append.mpr ⟨up, List.pairwise_singleton .., fun a ha b' hb' => by rw [List.mem_singleton.mp hb']; exact hup a ha⟩
    · rintro σ H1 ⟨x, y, rfl, s01, hso, inn, up⟩
      rw [List.take_length] at hso inn up
      have el : (encA (dd (poolsU may p bs))).length = (dd (poolsU may p bs)).length := by unfold encA; rw [List.length_map]
      refine ⟨_, rfl, so, _, rfl, hso, _, rfl, _, _, rfl, .inl ⟨_, SqL.of (s01 _ _ hba), rfl⟩, _, _, rfl, rfl, ?_⟩
      have e : decide (((encA (dd (poolsU may p bs))).length : Int) < (((bs.map V.int).length : Nat) : Int)) = shortB may p bs := by
        unfold shortB
        rw [risB_iff.mpr up, show inB p bs = true from List.all_eq_true.mpr fun b hb => by
          obtain ⟨j, ej, hj⟩ := canon_mem c (inn b hb)
          exact decide_eq_true (by walk_at "om"), Bool.true_and, Bool.true_and, List.length_map, el]
        by_cases z : (dd (poolsU may p bs)).length < bs.length
        · rw [decide_eq_true z, decide_eq_true (by walk_at "om")]
        · rw [decide_eq_false z, decide_eq_false (by walk_at "om")]
      show Q (V.bl (decide (((encA (dd (poolsU may p bs))).length : Int) < (((bs.map V.int).length : Nat) : Int)))) H1
      rw [e]
      exact q H1 s01
noncomputable def sp_law_blocks (K : PySem.W.Frag) : Sp := fun vs H Q _ => ∃ (pa ma : Addr) (p : List Int) (rs : List Addr) (may : List (List Int)) (U : List Int), vs = [.ref pa, .ref ma] ∧ SqL K H pa (p.map V.int) ∧ May K H ma rs may U ∧ Canon p ∧ p.length ≤ may.length ∧
  ∀ l H', Same H H' → H l = none → H' l = some (.lst ((blocksF may p).map V.int)) → Q (.ref l) H'
theorem sc_law_blocks : FnScope ["pattern", "lists", "wide", "one", "two", "every"] ["pattern", "lists"] (defScope s_law_blocks) := ⟨rfl, rfl, rfl, by decide +kernel, rfl, by decide +kernel, by decide +kernel⟩
theorem ok_law_blocks (D : Dfs K mg aF dF) (T : Txt mg) : FnOk P w K mg base CX0 4 (aF 36) (dF 36) ["pattern", "lists"] (sp_law_blocks K) := by
  have Glaw_short : FnOk P w K mg base CX0 3 (aF 35) (dF 35) ["pattern", "lists", "blocks"] (sp_law_short K) := ok_law_short D T
  refine D.law_blocks.fn.ok sc_law_blocks (fun vs H Q E h => ?_) (fun cdv A outer s H vs Q E hr h => ?_)
  · obtain ⟨pa, ma, p, rs, may, U, rfl, _⟩ := h; rfl
  · have hu := hu_of hr
    obtain ⟨pa, ma, p, rs, may, U, rfl, hp, hm, c, hl, q⟩ := h
    refine ⟨_, (pss_cons (ps_set (i := 2) sc_law_blocks.nd rfl (Or.inl rfl) (pe_callB (cLenS w) (by rfl) T.z_len boot_len (pa_cons (pe_callTy (cSet w K) (by rfl) T.z_set PyProof.Rows.boot_set (pa_cons (pv 0) pa_nil)) pa_nil)))
      (pss_cons (ps_for PassesOwn.never rfl (pi_range1 rfl T.z_range (pa_cons (pv 2) pa_nil)) (pg_name (i := 3) sc_law_blocks.nd rfl (Or.inl rfl))
        (pss_cons (ps_if (pt_val (pc D.law_short Glaw_short (hr.mono (by decide)) (pa_cons (pv 0) (pa_cons (pv 1) (pa_cons (pe_lst (pa_cons (pv 3) pa_nil)) pa_nil)))))
          (pss_one (ps_ret (pe_lst (pa_cons (pv 3) pa_nil))))
          pss_nil)
        (pss_one (ps_for PassesOwn.never rfl (pi_range1 rfl T.z_range (pa_cons (pv 3) pa_nil)) (pg_name (i := 4) sc_law_blocks.nd rfl (Or.inl rfl))
          (pss_one (ps_if (pt_val (pc D.law_short Glaw_short (hr.mono (by decide)) (pa_cons (pv 0) (pa_cons (pv 1) (pa_cons (pe_lst (pa_cons (pv 4) (pa_cons (pv 3) pa_nil))) pa_nil)))))
            (pss_one (ps_ret (pe_lst (pa_cons (pv 4) (pa_cons (pv 3) pa_nil)))))
            pss_nil))))))
      (pss_cons (ps_set (i := 5) sc_law_blocks.nd rfl (Or.inl rfl) (pe_callTy (cListR K) (by rfl) T.z_list boot_list (pa_cons (pe_callTy cRange1 (by rfl) T.z_range boot_range (pa_cons (pv 2) pa_nil)) pa_nil)))
      (pss_cons (ps_if (pt_val (pc D.law_short Glaw_short (hr.mono (by decide)) (pa_cons (pv 0) (pa_cons (pv 1) (pa_cons (pv 5) pa_nil)))))
        (pss_one (ps_ret (pv 5)))
        pss_nil)
      (pss_one (ps_ret (pe_lst pa_nil))))))), ?_⟩
    have m6 := hm.m6
    have dl := dd_len p
    refine ⟨_, rfl, pa, p, rfl, hp, by walk_at "om", fun S nS => ⟨S, _, rfl, upd_same, ?_⟩⟩
    have s0 := Same.new (o := .ext (SX w S (dd p))) nS
    generalize upd H S (.ext (SX w S (dd p))) = H0 at s0
    refine ⟨_, rfl, _, rfl, lo62 _, by walk_at "om", ?_⟩
    rw [Int.toNat_natCast]
    refine for_range (n := (dd p).length) (fun i σ Hx => ∃ x y z : Option V, σ = [some (.ref pa), some (.ref ma), some (.int (((dd p).length : Nat) : Int)), x, y, z] ∧ Same H Hx ∧ (List.range i).findSome? (hitOne may p) = none) ⟨none, none, none, rfl, s0, rfl⟩ ?_ ?_
    · rintro i σ Hx hi ⟨x, y, z, rfl, sx, no⟩
      have ei : (0 : Int) + (i : Int) = ((i : Nat) : Int) := by walk_at "om"
      rw [ei]
      refine ⟨_, rfl, _, rfl, _, rfl, szr, fun b1 nb1 => ?_⟩
      have s1 := Same.new (o := .lst [.int ((i : Nat) : Int)]) nb1
      have hb1 : upd Hx b1 (.lst [.int ((i : Nat) : Int)]) b1 = some (.lst ([((i : Nat) : Int)].map V.int)) := upd_same
      generalize upd Hx b1 (.lst [.int ((i : Nat) : Int)]) = H1 at s1 hb1
      have s01 := sx.trans s1
      refine ⟨pa, ma, b1, p, rs, may, U, [((i : Nat) : Int)], rfl, s01.seq hp, hm.same s01, c, hl, hb1, (by show 1 ≤ 1000; decide), fun H2 s2 => ⟨_, rfl, ifB (fun h1 => ?_) fun h1 => ?_⟩⟩
      · refine ⟨_, rfl, szr, fun l nl => q l _ ((s01.trans s2).to nl) ((s01.trans s2).free nl) ?_⟩
        have e : blocksF may p = [((i : Nat) : Int)] := by
          unfold blocksF
          rw [fs_at no (x := [((i : Nat) : Int)]) (by unfold hitOne; rw [if_pos h1]) _ hi]; rfl
        rw [e]; exact upd_same
      have s02 := s01.trans s2
      refine ⟨_, rfl, _, rfl, lo62 _, by walk_at "om", ?_⟩
      rw [Int.toNat_natCast]
      refine for_range (n := i) (fun j σ Hy => ∃ y z : Option V, σ = [some (.ref pa), some (.ref ma), some (.int (((dd p).length : Nat) : Int)), some (.int ((i : Nat) : Int)), y, z] ∧ Same H Hy ∧ (List.range j).findSome? (hitTwo may p i) = none) ⟨y, z, rfl, s02, rfl⟩ ?_ ?_
      · rintro j σ Hy hj ⟨y, z, rfl, sy, no2⟩
        have ej : (0 : Int) + (j : Int) = ((j : Nat) : Int) := by walk_at "om"
        rw [ej]
        refine ⟨_, rfl, _, rfl, _, rfl, _, rfl, szr, fun b2 nb2 => ?_⟩
        have s3 := Same.new (o := .lst [.int ((j : Nat) : Int), .int ((i : Nat) : Int)]) nb2
        have hb2 : upd Hy b2 (.lst [.int ((j : Nat) : Int), .int ((i : Nat) : Int)]) b2 = some (.lst ([((j : Nat) : Int), ((i : Nat) : Int)].map V.int)) := upd_same
        generalize upd Hy b2 (.lst [.int ((j : Nat) : Int), .int ((i : Nat) : Int)]) = H3 at s3 hb2
        have s03 := sy.trans s3
        refine ⟨pa, ma, b2, p, rs, may, U, [((j : Nat) : Int), ((i : Nat) : Int)], rfl, s03.seq hp, hm.same s03, c, hl, hb2, (by show 2 ≤ 1000; decide), fun H4 s4 => ⟨_, rfl, ifB (fun h2 => ?_) fun h2 => ?_⟩⟩
        · refine ⟨_, rfl, _, rfl, szr, fun l nl => q l _ ((s03.trans s4).to nl) ((s03.trans s4).free nl) ?_⟩
          have e2 : (List.range i).findSome? (hitTwo may p i) = some [((j : Nat) : Int), ((i : Nat) : Int)] := fs_at no2 (by unfold hitTwo; rw [if_pos h2]) _ hj
          have e : blocksF may p = [((j : Nat) : Int), ((i : Nat) : Int)] := by
            unfold blocksF
            rw [fs_at no (x := [((j : Nat) : Int), ((i : Nat) : Int)]) (by unfold hitOne; rw [if_neg (by rw [h1]; decide)]; exact e2) _ hi]; rfl
          rw [e]; exact upd_same
        · exact ⟨_, _, rfl, s03.trans s4, fs_none no2 (by unfold hitTwo; rw [if_neg (by rw [h2]; decide)])⟩
      · rintro σ Hy ⟨y, z, rfl, sy, no2⟩
        exact ⟨_, _, _, rfl, sy, fs_none no (by unfold hitOne; rw [if_neg (by rw [h1]; decide)]; exact no2)⟩
    · rintro σ Hx ⟨x, y, z, rfl, sx, no⟩
      refine ⟨_, rfl, (dd p).length, rfl, by walk_at "om", fun r nr => ⟨r, (dd p).length, rfl, upd_same, by walk_at "om", fun ev nev => ?_⟩⟩
      have s1 := (Same.new (o := .rng 0 (((dd p).length : Nat) : Int)) nr).to (o := .lst ((List.range (dd p).length).map fun (i : Nat) => V.int (i : Int))) nev
      have hev : upd (upd Hx r (.rng 0 (((dd p).length : Nat) : Int))) ev (.lst ((List.range (dd p).length).map fun (i : Nat) => V.int (i : Int))) ev = some (.lst ((upToI (dd p).length).map V.int)) := by rw [upd_same]; unfold upToI; rw [List.map_map]; rfl
      have nev0 : Hx ev = none := (Same.new nr).free nev
      generalize upd (upd Hx r (.rng 0 (((dd p).length : Nat) : Int))) ev (.lst ((List.range (dd p).length).map fun (i : Nat) => V.int (i : Int))) = H1 at s1 hev
      have s01 := sx.trans s1
      have ul : (upToI (dd p).length).length ≤ 1000 := by unfold upToI; simp; walk_at "om"
      refine ⟨_, rfl, _, rfl, _, rfl, pa, ma, ev, p, rs, may, U, upToI (dd p).length, rfl, s01.seq hp, hm.same s01, c, hl, hev, ul, fun H2 s2 => ⟨_, rfl, ifB (fun h1 => ?_) fun h1 => ?_⟩⟩
      · refine ⟨_, rfl, q ev H2 (s01.trans s2) (sx.free nev0) ?_⟩
        have e : blocksF may p = upToI (dd p).length := by unfold blocksF; rw [no, h1]; rfl
        rw [e]; exact s2 _ _ hev
      · refine ⟨szr, fun l nl => q l _ ((s01.trans s2).to nl) ((s01.trans s2).free nl) ?_⟩
        have e : blocksF may p = [] := by unfold blocksF; rw [no, h1]; rfl
        rw [e]; exact upd_same
noncomputable def spN_law_honest (K : PySem.W.Frag) (m : Nat) : Sp := fun vs H Q _ => ∃ (pa ma ta : Addr) (p : List Int) (rs : List Addr) (may : List (List Int)) (U : List Int) (ts : List (Addr × Addr × Str × Int × List Nat)), vs = [.ref pa, .ref ma, .ref ta] ∧ H pa = some (.lst (p.map V.int)) ∧ May K H ma rs may U ∧ Ties K H ta ts 100 ∧ Canon p ∧ p.length ≤ may.length ∧ may.length < p.length + m ∧
  ∀ v g H', Same H H' → GPapAt (joinN noH H H') v g → GBnd g → Q v H'
noncomputable def sp_law_honest (K : PySem.W.Frag) : Sp := spN_law_honest K 7
theorem sc_law_honest : FnScope ["pattern", "lists", "ties", "place", "blocks"] ["pattern", "lists", "ties"] (defScope s_law_honest) := ⟨rfl, rfl, rfl, by decide +kernel, rfl, by decide +kernel, by decide +kernel⟩
theorem ok_law_honest (D : Dfs K mg aF dF) (T : Txt mg) : FnOk P w K mg base CX0 17 (aF 37) (dF 37) ["pattern", "lists", "ties"] (sp_law_honest K) := by
  have Glaw_breaks : FnOk P w K mg base CX0 2 (aF 32) (dF 32) ["pattern", "tie"] (sp_law_breaks K) := ok_law_breaks D T
  have Glaw_blocks : FnOk P w K mg base CX0 4 (aF 36) (dF 36) ["pattern", "lists"] (sp_law_blocks K) := ok_law_blocks D T
  have all : ∀ n, FnOk P w K mg base CX0 (10 + n) (aF 37) (dF 37) ["pattern", "lists", "ties"] (spN_law_honest K n) := by
    intro n
    induction n with
    | zero =>
      have no : ∀ vs H Q E, ¬ spN_law_honest K 0 vs H Q E := fun vs H Q E h => by
        obtain ⟨pa, ma, ta, p, rs, may, U, ts, _, _, _, _, _, h1, h2, _⟩ := h
        walk_at "om"
      exact ⟨fun vs H Q E h => absurd h (no vs H Q E), fun A outer s H args us vs Q E _ _ _ _ h => absurd h (no vs H Q E)⟩
    | succ n Glaw_honest =>
      refine D.law_honest.fn.ok sc_law_honest (fun vs H Q E h => ?_) (fun cdv A outer s H vs Q E hr h => ?_)
      · obtain ⟨pa, ma, ta, p, rs, may, U, ts, rfl, _⟩ := h; rfl
      obtain ⟨pa, ma, ta, p, rs, may, U, ts, rfl, hpa, hm, tt, c, hl, hlm, q⟩ := h
      have rk : Nat.add 10 n = 10 + n := rfl
      have hu := hu_of hr
      refine ⟨_, (pss_cons (ps_for PassesOwn.never rfl (pi_range1 rfl T.z_range (pa_cons (pe_callB (cLen K) (by rfl) T.z_len boot_len (pa_cons (pv 2) pa_nil)) pa_nil)) (pg_name (i := 3) sc_law_honest.nd rfl (Or.inl rfl))
        (pss_one (ps_if (pt_val (pc D.law_breaks Glaw_breaks (hr.mono (by have := rk; walk_at "om")) (pa_cons (pv 0) (pa_cons (pe_ix (ixL K) (pv 2) (pv 3) (fun _ _ => rfl)) pa_nil))))
          (pss_one (ps_ret (pe_tup (pa_cons pe_str (pa_cons (pv 3) pa_nil)))))
          pss_nil)))
      (pss_cons (ps_set (i := 4) sc_law_honest.nd rfl (Or.inl rfl) (pc D.law_blocks Glaw_blocks (hr.mono (by have := rk; walk_at "om")) (pa_cons (pv 0) (pa_cons (pv 1) pa_nil))))
      (pss_cons (ps_if (PW.pt (pw_or (pt_cmpR (neD K hr.units) (pv 4) (pe_lst pa_nil) (nomark _)) (pw_or1 (pt_cmpR op_eq (pe_callB (cLen K) (by rfl) T.z_len boot_len (pa_cons (pv 0) pa_nil)) (pe_callB (cLen K) (by rfl) T.z_len boot_len (pa_cons (pv 1) pa_nil)) (nomark _)))))
        (pss_one (ps_ret (pe_tup (pa_cons pe_str (pa_cons (pv 4) pa_nil)))))
        pss_nil)
      (pss_one (ps_ret (pe_tup (pa_cons pe_str (pa_cons (pe_lcomp ["k", "pattern", "lists", "ties"] [none, some 0, some 1, some 2] rfl (pi_range1 rfl T.z_range (pa_cons (pe_op op_add (pe_callB (cLenS w) (by rfl) T.z_len boot_len (pa_cons (pe_callTy (cSet w K) (by rfl) T.z_set PyProof.Rows.boot_set (pa_cons (pv 0) pa_nil)) pa_nil)) pe_int) pa_nil)) (fun _ => pg_name (i := 0) (nodupN (N := ["k", "pattern", "lists", "ties"]) (by decide +kernel)) rfl (Or.inl rfl)) (fun _ => pif_nil) (fun _ => (pc D.law_honest Glaw_honest hr (pa_cons (pe_op op_cat (pv 1) (pe_lst (pa_cons (pv 0) pa_nil))) (pa_cons (pv 2) (pa_cons (pv 3) pa_nil))))) ((.cons (fun _ e => by cases e) (.cons (fun _ e => by cases e; exact ⟨rfl, rfl⟩) (.cons (fun _ e => by cases e; exact ⟨rfl, rfl⟩) (.cons (fun _ e => by cases e; exact ⟨rfl, rfl⟩) .nil)))))) pa_nil)))))))), ?_⟩
      have m6 := hm.m6
      have dl := dd_len p
      have tln := tt.ln
      refine ⟨_, rfl, _, _, rfl, .inl ⟨_, tt.ls, rfl⟩, _, rfl, lo62 _, by rw [List.length_map]; walk_at "om", ?_⟩
      have e0 : (((ts.map fun x => V.ref x.1).length : Nat) : Int).toNat = ts.length := by rw [List.length_map]; walk_at "om"
      rw [e0]
      refine for_range (n := ts.length) (fun i σ Hx => ∃ x : Option V, σ = [some (.ref pa), some (.ref ma), some (.ref ta), x, none] ∧ Same H Hx) ⟨none, rfl, Same.refl _⟩ ?_ ?_
      · rintro i σ Hx hi ⟨x, rfl, sx⟩
        have ei : (0 : Int) + (i : Int) = ((i : Nat) : Int) := by walk_at "om"
        rw [ei]
        have hx : ts[i]? = some ts[i] := List.getElem?_eq_getElem hi
        generalize ts[i] = tx at hx
        have te := (tt.ea tx (List.mem_of_getElem? hx)).same sx
        refine ⟨_, rfl, _, rfl, _, rfl, ta, _, _, _, rfl, rfl, sx.seq tt.ls, atI_nat (by rw [List.getElem?_map, hx]; rfl), pa, tx.1, tx.2.1, p, tx.2.2.2.2, tx.2.2.1, tx.2.2.2.1, rfl, SqL.of (sx _ _ hpa), SqT.of te.tp, SqT.of te.ts, te.wd, te.sl, fun H1 s1 => ⟨_, rfl, ifB (fun hb => ?_) fun hb => ?_⟩⟩
        · refine ⟨_, rfl, szr, fun t nt => ?_⟩
          exact q _ (.tie (i : Int)) _ ((sx.trans s1).to nt) (.tie (jn_new ((sx.trans s1).free nt) upd_same)) .tie
        · exact ⟨_, rfl, sx.trans s1⟩
      rintro σ H1 ⟨x, rfl, s1⟩
      refine ⟨_, rfl, _, rfl, pa, ma, p, rs, may, U, rfl, SqL.of (s1 _ _ hpa), hm.same s1, c, hl, fun bk H2 s2 nbk hbk => ?_⟩
      have s02 := s1.trans s2
      have nbk0 := s1.free nbk
      have bb : GBnd (.short (blocksF may p)) := .short (by have := blocksF_len (may := may) (p := p); walk_at "om")
      refine ⟨_, rfl, szr, fun e ne => ?_⟩
      have s3 := Same.new (o := .lst []) ne
      have hbk3 := s3 _ _ hbk
      have s03 := s02.trans s3
      have fin : ∀ H3 t, Same (upd H2 e (.lst [])) H3 → H3 t = none → Q (.ref t) (upd H3 t (.tup [.str "short", .ref bk])) := fun H3 t s nt => q _ _ _ ((s03.trans s).to nt) (.short (jn_new ((s03.trans s).free nt) upd_same) (jn_new nbk0 ((s.to nt) _ _ hbk3))) bb
      refine ⟨1, _, deq_nil (SqL.of (s3 _ _ hbk)) (SqL.of upd_same), by decide, rfl, _, rfl, ifNot (fun he => ?_) fun he => ?_⟩
      · exact ⟨_, rfl, szr, fun t nt => fin _ t (Same.refl _) nt⟩
      generalize upd H2 e (.lst []) = H3 at s03 hbk3 fin
      refine ⟨_, rfl, _, _, rfl, .inl ⟨_, SqL.of (s03 _ _ hpa), rfl⟩, _, rfl, _, _, rfl, .inl ⟨_, (hm.same s03).ls, rfl⟩, rfl, _, rfl, ifEq (fun e => ?_) fun e => ?_⟩
      · exact ⟨_, rfl, szr, fun t nt => fin _ t (Same.refl _) nt⟩
      rw [List.length_map, List.length_map, hm.po.len] at e
      have hl2 : p.length < may.length := by walk_at "om"
      refine ⟨_, rfl, pa, p, rfl, SqL.of (s03 _ _ hpa), by walk_at "om", fun S nS => ⟨S, _, rfl, upd_same, ?_⟩⟩
      have s4 := Same.new (o := .ext (SX w S (dd p))) nS
      have s04 := s03.trans s4
      generalize upd H3 S (.ext (SX w S (dd p))) = H4 at s4 s04
      refine ⟨_, _, rfl, rfl, _, rfl, lo62 _, by walk_at "om", ?_⟩
      have e1 : ((((dd p).length : Nat) : Int) + 1).toNat = (dd p).length + 1 := by walk_at "om"
      rw [e1]
      refine comp_cnt (n := (dd p).length + 1) (fun acc ys Hx => H acc = none ∧ Same H Hx ∧ ∃ gs, Paired (GPapAt (hidA acc (joinN noH H Hx))) ys gs ∧ ∀ g ∈ gs, GBnd g) (by walk_at "om") ?_ ?_ ?_ ?_
      · rintro acc ys Hx o ⟨a2, a3, gs, a5, a6⟩
        refine ⟨a2, a3.put a2, gs, paps_same a5 fun b u h => ?_, a6⟩
        obtain ⟨nb, h'⟩ := hidA_at h
        obtain ⟨h1, h2⟩ := nw_at h'
        rw [hidA_ne nb]
        exact jn_new h1 (by rw [upd_ne nb]; exact h2)
      · intro acc nacc
        exact ⟨s04.free nacc, s04.to nacc, [], .nil, fun _ z => by cases z⟩
      · rintro acc i ys H5 R hi nacc hacc hys ⟨a2, a3, gs, a5, a6⟩ k
        have ei : (0 : Int) + (i : Int) = ((i : Nat) : Int) := by walk_at "om"
        rw [ei]
        refine ⟨_, rfl, _, rfl, szr, fun q1 nq1 => ?_⟩
        have t1 := Same.new (o := .lst [V.int ((i : Nat) : Int)]) nq1
        refine ⟨pa, q1, _, _, rfl, rfl, t1 _ _ (a3 _ _ hpa), upd_same, szl (by simp; walk_at "om"), fun r nr => ?_⟩
        have e5 : p.map V.int ++ [V.int ((i : Nat) : Int)] = (p ++ [((i : Nat) : Int)]).map V.int := by rw [List.map_append]; rfl
        rw [e5]
        have t2 := t1.to (o := .lst ((p ++ [((i : Nat) : Int)]).map V.int)) nr
        have hr6 : upd (upd H5 q1 (.lst [V.int ((i : Nat) : Int)])) r (.lst ((p ++ [((i : Nat) : Int)]).map V.int)) r = some (.lst ((p ++ [((i : Nat) : Int)]).map V.int)) := upd_same
        generalize upd (upd H5 q1 (.lst [V.int ((i : Nat) : Int)])) r (.lst ((p ++ [((i : Nat) : Int)]).map V.int)) = H6 at t2 hr6
        have s6 := a3.trans t2
        refine ⟨_, rfl, _, rfl, r, ma, ta, p ++ [(i : Int)], rs, may, U, ts, rfl, hr6, hm.same s6, ⟨s6.seq tt.ls, fun x hx => (tt.ea x hx).same s6, tt.ln⟩, canon_snoc c (by walk_at "om"), by simp; walk_at "om", by simp; walk_at "om", fun v g H7 s7 g7 gb => ?_⟩
        have t7 := t2.trans s7
        refine k v H7 (t7 _ _ hacc) ⟨a2, a3.trans t7, gs ++ [g], Paired.snoc (paps_same a5 fun b u h => ?_) (g7.same fun b u h => ?_), fun x hx => ?_⟩
        · obtain ⟨nb, h'⟩ := hidA_at h
          obtain ⟨h1, h2⟩ := nw_at h'
          rw [hidA_ne nb]
          exact jn_new h1 (t7 _ _ h2)
        · obtain ⟨h1, h2⟩ := nw_at h
          have nb : b ≠ acc := fun z => by rw [z, t2 _ _ hacc] at h1; cases h1
          rw [hidA_ne nb]
          exact jn_new (s6.free h1) h2
        · rcases List.mem_append.mp hx with z | z
          · exact a6 x z
          · rw [List.mem_singleton.mp z]; exact gb
      · rintro acc ys H5 nacc hacc hys ⟨a2, a3, gs, a5, a6⟩
        refine ⟨szr, fun t nt => ?_⟩
        have t1 := Same.new (o := .tup [.str "split", .ref acc]) nt
        refine q _ (.split gs) _ (a3.trans t1) (.splitP (jn_new (a3.free nt) upd_same) (jn_new a2 (t1 _ _ hacc)) (paps_same a5 fun b u h => ?_)) (.split a6)
        obtain ⟨nb, h'⟩ := hidA_at h
        obtain ⟨h1, h2⟩ := nw_at h'
        exact jn_new h1 (t1 _ _ h2)
  exact all 7
theorem siftI {p : List Int} {g : Int → Bool} : ((List.range p.length).filter fun j => g (p.getD j 0)).map (fun j => V.int (p.getD j 0)) = (p.filter g).map V.int := by
  have e : (List.range p.length).map (fun i => p.getD i 0) = p := by
    apply List.ext_getElem
    · rw [List.length_map, List.length_range]
    · intro i h1 h2
      rw [List.getElem_map, List.getElem_range, List.getD_eq_getElem?_getD, List.getElem?_eq_getElem h2]
      rfl
  have := congrArg (fun l => (l.filter g).map V.int) e
  simp only [List.filter_map, List.map_map] at this
  exact this
structure Hrd (H : Hp) (h : Addr) (L T : Addr) (rs : List Addr) (ps : List (List Int)) (ts : List (Addr × Addr × Str × Int × List Nat)) (ms : List Int) (n : Nat) : Prop where
  hh : H h = some (.lst [.ref L, .ref T])
  hL : H L = some (.lst (rs.map V.ref))
  rows : RowsL H rs ps
  len : ps.length = n
  up : ∀ p ∈ ps, p.Pairwise (· < ·)
  sub : ∀ p ∈ ps, ∀ b ∈ p, b ∈ ms
  hT : H T = some (.lst (ts.map fun x => V.ref x.1))
  tea : ∀ x ∈ ts, TieT H x
  tg : ∀ x ∈ ts, TieG n x
  t13 : ts.length ≤ 13
noncomputable def sp_law_harder (K : PySem.W.Frag) : Sp := fun vs H Q _ => ∃ (a l m L T : Addr) (ns ms : List Int) (rs : List Addr) (ps : List (List Int)) (ts : List (Addr × Addr × Str × Int × List Nat)) (top : Nat), vs = [.ref a, .ref m, .ref L, .ref T] ∧ SqL K H a (ns.map V.int) ∧ ns.length ≤ 63 ∧ Drawn H l m L T ms rs ps ts top ∧
  ∀ h L2 T2 rs2 ps2 ts2 H', Same H H' → Hrd H' h L2 T2 rs2 ps2 ts2 ms ps.length → (ts2 = ts ∨ ts2.length ≠ ts.length) → Q (.ref h) H'
theorem sc_law_harder : FnScope ["script", "menu", "lists", "ties", "cell", "rows", "bonds", "gone", "place"] ["script", "menu", "lists", "ties"] (defScope s_law_harder) := ⟨rfl, rfl, rfl, by decide +kernel, rfl, by decide +kernel, by decide +kernel⟩
theorem ok_law_harder (D : Dfs K mg aF dF) (T : Txt mg) : FnOk P w K mg base CX0 2 (aF 38) (dF 38) ["script", "menu", "lists", "ties"] (sp_law_harder K) := by
  have Glaw_cell : FnOk P w K mg base CX0 1 (aF 26) (dF 26) ["script", "k"] (sp_law_cell K) := ok_law_cell D T
  have Glaw_bond : FnOk P w K mg base CX0 1 (aF 29) (dF 29) ["cell", "many"] (sp_law_bond K) := ok_law_bond D T
  refine D.law_harder.fn.ok sc_law_harder (fun vs H Q E h => ?_) (fun cdv A outer s H vs Q E hr h => ?_)
  · obtain ⟨a, l, m, L, Ta, ns, ms, rs, ps, ts, top, rfl, _⟩ := h; rfl
  · have hu := hu_of hr
    obtain ⟨a, l, m, L, Ta, ns, ms, rs, ps, ts, top, rfl, hS, hl, d, q⟩ := h
    refine ⟨_, (pss_cons (ps_set (i := 4) sc_law_harder.nd rfl (Or.inr rfl) (pc D.law_cell Glaw_cell (hr.mono (by decide)) (pa_cons (pv 0) (pa_cons (pe_op op_fdiv (pe_callB (cLen K) (by rfl) T.z_len boot_len (pa_cons (pv 0) pa_nil)) pe_int) pa_nil))))
      (pss_cons (ps_setC (i₀ := 5) sc_law_harder.nd rfl (Or.inl rfl) ["row"] [none] rfl (piL K (pv 2)) (fun _ => pg_name (i := 0) (nodupN (N := ["row"]) (by decide +kernel)) rfl (Or.inl rfl)) (fun _ => pif_nil) (fun _ => (pe_callTy (cList K) (by rfl) T.z_list boot_list (pa_cons (pv 0) pa_nil))) ((.cons (fun _ e => by cases e) .nil)))
      (pss_cons (ps_set (i := 6) sc_law_harder.nd rfl (Or.inl rfl) (pe_callTy (cList K) (by rfl) T.z_list boot_list (pa_cons (pv 3) pa_nil)))
      (pss_cut (ps_if (pt_cmpR op_gt (pe_op op_mod (pv 4) pe_int) pe_int (nomark _))
        (pss_cons (ps_set (i := 7) sc_law_harder.nd rfl (Or.inr rfl) (pe_lst (pa_cons (pe_ix (ixL K) (pv 1) (pe_op op_mod (pe_op op_fdiv (pv 4) pe_int) (pe_callB (cLen K) (by rfl) T.z_len boot_len (pa_cons (pv 1) pa_nil))) (fun _ _ => rfl)) (pa_cons (pe_ix (ixL K) (pv 1) (pe_op op_mod (pe_op op_fdiv (pv 4) pe_int) (pe_callB (cLen K) (by rfl) T.z_len boot_len (pa_cons (pv 1) pa_nil))) (fun _ _ => rfl)) pa_nil))))
        (pss_one (ps_setC (i₀ := 5) sc_law_harder.nd rfl (Or.inl rfl) ["row", "gone", "cell"] [none, some 7, some 4] rfl (piL K (pv 2)) (fun _ => pg_name (i := 0) (nodupN (N := ["row", "gone", "cell"]) (by decide +kernel)) rfl (Or.inl rfl)) (fun _ => pif_nil) (fun _ => (pe_lcomp ["badge", "gone", "cell"] [none, some 1, some 2] rfl (piL K (pv 0)) (fun _ => pg_name (i := 0) (nodupN (N := ["badge", "gone", "cell"]) (by decide +kernel)) rfl (Or.inl rfl)) (fun _ => pif_one (pt_cmpR (ninS K) (pv 0) (pe_slice (slL K) (pv 1) po_none (po_some (pe_op op_mod (pv 2) pe_int))) (by with_unfolding_all rfl))) (fun _ => (pv 0)) ((.cons (fun _ e => by cases e) (.cons (fun _ e => by cases e; exact ⟨rfl, rfl⟩) (.cons (fun _ e => by cases e; exact ⟨rfl, rfl⟩) .nil)))))) ((.cons (fun _ e => by cases e) (.cons (fun _ e => by cases e; exact ⟨rfl, rfl⟩) (.cons (fun _ e => by cases e; exact ⟨rfl, rfl⟩) .nil)))))))
        pss_nil)
      (pss_cut (ps_if (PW.pt (pw_and (pt_cmpR op_gt (pe_op op_mod (pe_op op_fdiv (pv 4) pe_int) pe_int) pe_int (nomark _)) (pw_and1 (pt_cmpR op_lt (pe_callB (cLen K) (by rfl) T.z_len boot_len (pa_cons (pv 3) pa_nil)) pe_int (nomark _)))))
        (pss_cons (ps_set (i := 8) sc_law_harder.nd rfl (Or.inl rfl) (pe_op op_mod (pe_op op_fdiv (pv 4) pe_int) (pe_op op_add (pe_callB (cLen K) (by rfl) T.z_len boot_len (pa_cons (pv 3) pa_nil)) pe_int)))
        (pss_one (ps_expr (pe_bm PySem.F.plainAttrs_list PySem.F.slot_list_insert PySem.F.type_list_insert mt_insert (pv 6) (pa_cons (pv 8) (pa_cons (pc D.law_bond Glaw_bond (hr.mono (by decide)) (pa_cons (pc D.law_cell Glaw_cell (hr.mono (by decide)) (pa_cons (pv 0) (pa_cons (pe_op op_add (pe_op op_fdiv (pe_callB (cLen K) (by rfl) T.z_len boot_len (pa_cons (pv 0) pa_nil)) pe_int) pe_int) pa_nil))) (pa_cons (pe_callB (cLen K) (by rfl) T.z_len boot_len (pa_cons (pv 2) pa_nil)) pa_nil))) pa_nil))))))
        pss_nil)
      (pss_one (ps_ret (pe_lst (pa_cons (pv 5) (pa_cons (pv 6) pa_nil)))))))))), ?_⟩
    have m6 := d.p6
    have p1 := d.p1
    have m8 := d.m8
    have t12 := d.t12
    have rl : rs.length = ps.length := d.rows.len
    have mpos : 0 < ms.length := List.length_pos_iff.mpr d.mne
    have e6 : (((ns.map V.int).length : Nat) : Int) / 2 = ((ns.length / 2 : Nat) : Int) := by rw [List.length_map]; walk_at "om"
    refine ⟨_, rfl, _, rfl, _, _, rfl, .inl ⟨_, hS, rfl⟩, _, _, rfl, rfl, ⟨by decide, by decide⟩, a, ns, ns.length / 2, (by show [V.ref a, V.int ((((ns.map V.int).length : Nat) : Int) / 2)] = _; rw [e6]), hS, by walk_at "om", by walk_at "om", fun H1 s1 => ?_⟩
    generalize cv ns (ns.length / 2) = c
    have d1 := d.same s1
    refine ⟨_, rfl, L, rfl, ⟨_, SqL.of d1.hL⟩, ?_⟩
    refine comp_copy (SqL.of d1.hL) d1.rows.pools (by walk_at "om") (fun r ys H2 R hr2 k => ⟨_, rfl, r, _, rfl, .inl hr2, fun l nl => k l nl⟩) fun ro hs H2 s2 nro hro rh nh => ?_
    have s02 := s1.trans s2
    have d2 := d.same s02
    refine ⟨_, rfl, Ta, _, rfl, .inl (SqL.of d2.hT), fun bo nbo => ?_⟩
    have s3 := Same.new (o := .lst (ts.map fun x => V.ref x.1)) nbo
    have hbo : upd H2 bo (.lst (ts.map fun x => V.ref x.1)) bo = some (.lst (ts.map fun x => V.ref x.1)) := upd_same
    have hro3 := s3 _ _ hro
    have rh3 := rh.same s3
    have s03 := s02.trans s3
    have nrb : ro ≠ bo := ne_of_none hro nbo
    have nhb : bo ∉ hs := fun z => by
      obtain ⟨i, hi⟩ := List.mem_iff_getElem?.mp z
      obtain ⟨p', _, e2⟩ := rh.get hi
      rw [nbo] at e2
      cases e2
    have nb0 : H bo = none := s02.free nbo
    generalize upd H2 bo (.lst (ts.map fun x => V.ref x.1)) = H3 at s3 hbo hro3 rh3 s03
    have d3 := d.same s03
    refine ⟨fun σ Hx => ∃ (ro' : Addr) (rs' : List Addr) (ps' : List (List Int)) (g : Option V), σ = [some (.ref a), some (.ref m), some (.ref L), some (.ref Ta), some (.int c), some (.ref ro'), some (.ref bo), g, none] ∧ Same H3 Hx ∧ Hx ro' = some (.lst (rs'.map V.ref)) ∧ RowsL Hx rs' ps' ∧ ps'.length = ps.length ∧ (∀ p ∈ ps', p.Pairwise (· < ·)) ∧ (∀ p ∈ ps', ∀ b ∈ p, b ∈ ms) ∧ ro' ≠ bo ∧ bo ∉ rs', ?_, ?_⟩
    · refine ⟨_, rfl, _, _, rfl, rfl, (show (0 : Int) < 4 by decide), _, _, rfl, rfl, _, rfl, ifD (fun h4 => ?_) fun h4 => ?_⟩
      · obtain ⟨j1, hj1, e1⟩ := modN (c / 4) mpos
        obtain ⟨j2, hj2, e2⟩ := modN (c / 32) mpos
        have eml : (((ms.map V.int).length : Nat) : Int) = ((ms.length : Nat) : Int) := by rw [List.length_map]
        have mp' : (0 : Int) < (((ms.map V.int).length : Nat) : Int) := by rw [eml]; walk_at "om"
        refine ⟨_, rfl, _, rfl, _, _, rfl, rfl, (show CDiv _ 4 from ⟨by decide, by decide⟩), _, rfl, _, _, rfl, .inl ⟨_, SqL.of d3.hm, rfl⟩, _, _, rfl, rfl, mp', m, _, _, _, rfl, rfl, SqL.of d3.hm, (by (try dsimp only); rw [eml, e1]; exact atI_int hj1), ?_⟩
        refine ⟨_, rfl, _, rfl, _, _, rfl, rfl, (show CDiv _ 32 from ⟨by decide, by decide⟩), _, rfl, _, _, rfl, .inl ⟨_, SqL.of d3.hm, rfl⟩, _, _, rfl, rfl, mp', m, _, _, _, rfl, rfl, SqL.of d3.hm, (by (try dsimp only); rw [eml, e2]; exact atI_int hj2), szr, fun g ng => ?_⟩
        generalize ms.getD j1 0 = g1
        generalize ms.getD j2 0 = g2
        have s4 := Same.new (o := .lst [.int g1, .int g2]) ng
        have hg : upd H3 g (.lst [.int g1, .int g2]) g = some (.lst ([g1, g2].map V.int)) := upd_same
        generalize upd H3 g (.lst [.int g1, .int g2]) = H4 at s4 hg
        obtain ⟨k4, hk4, ek4⟩ := modN c (n := 4) (by decide)
        have ek4 : c % 4 = (k4 : Int) := ek4
        have hL4 := s4 _ _ d3.hL
        refine ⟨_, rfl, L, rfl, ⟨_, SqL.of hL4⟩, ?_⟩
        refine comp_lists (xs := rs.map V.ref) (fun i => ((ps.getD i []).filter fun b => !decide (b ∈ [g1, g2].take k4)).map V.int) (SqL.of hL4) (by rw [List.length_map]; walk_at "om") (fun i x hx H5 R s5 k => ?_) fun acc ls H5 s5 nacc hacc hls hall hne => ?_
        · rw [List.getElem?_map] at hx
          obtain ⟨r, hr, rfl⟩ := Option.map_eq_some_iff.mp hx
          obtain ⟨p, hp, hrp⟩ := ((d3.rows.same s4).same s5).get hr
          have eg : ps.getD i [] = p := by rw [List.getD_eq_getElem?_getD, hp]; rfl
          rw [eg] at k
          have pl8 : p.length ≤ 100 := by have := d.row_le (List.mem_of_getElem? hp); walk_at "om"
          refine ⟨_, rfl, r, rfl, ⟨_, SqL.of hrp⟩, ?_⟩
          refine comp_list2 (xs := p.map V.int) (fun j => !decide (p.getD j 0 ∈ [g1, g2].take k4)) (fun j => .int (p.getD j 0)) (SqL.of hrp) (by rw [List.length_map]; walk_at "om") (fun j x hx H6 R6 s6 k6 => ?_) (fun j x hx _ H6 R6 s6 k6 => ?_) fun acc H6 s6 nacc hacc => ?_
          · rw [List.getElem?_map] at hx
            obtain ⟨b, hb, rfl⟩ := Option.map_eq_some_iff.mp hx
            refine ⟨_, rfl, _, rfl, _, rfl, _, _, rfl, rfl, (show (0 : Int) < 4 by decide), _, rfl, g, _, rfl, SqL.of ((s5.trans s6) _ _ hg), fun c5 nc => ?_⟩
            have ecut : cutV ([g1, g2].map V.int) none (some (c % 4)) = ([g1, g2].take k4).map V.int := by rw [ek4, cut_to, ← List.map_take]
            refine ⟨c5, _, rfl, .inl (SqL.of upd_same), rfl, by rw [ecut]; exact flat_all _, ?_⟩
            rw [if_pos rfl, ecut, inV_int]
            have := k6 _ (Same.new (o := .lst (([g1, g2].take k4).map V.int)) nc)
            rw [List.getD_eq_getElem?_getD, hb] at this
            exact ⟨_, rfl, this⟩
          · rw [List.getElem?_map] at hx
            obtain ⟨b, hb, rfl⟩ := Option.map_eq_some_iff.mp hx
            have := k6 _ (Same.refl _)
            rw [List.getD_eq_getElem?_getD, hb] at this
            exact ⟨_, rfl, this⟩
          · refine k acc H6 s6 nacc ?_
            rw [hacc, List.length_map]
            exact congrArg (fun l => some (HO.lst l)) (siftI (p := p) (g := fun b => !decide (b ∈ [g1, g2].take k4)))
        · rw [List.length_map] at hls
          have s35 := s4.trans s5
          refine ⟨acc, ls, ps.map fun p => p.filter fun b => !decide (b ∈ [g1, g2].take k4), _, rfl, s35, hacc, RowsL.of (by rw [List.length_map]; walk_at "om") fun i r p e1 e2 => ?_, by rw [List.length_map], fun p hp => ?_, fun p hp => ?_, (fun z => by rw [z, s4 _ _ hbo] at nacc; cases nacc), fun z => ?_⟩
          · rw [List.getElem?_map] at e2
            obtain ⟨p', hp', rfl⟩ := Option.map_eq_some_iff.mp e2
            have := (hall i r e1).1
            rw [List.getD_eq_getElem?_getD, hp'] at this
            exact this
          · obtain ⟨p', hp', rfl⟩ := List.mem_map.mp hp
            exact (d.pup p' hp').filter _
          · obtain ⟨p', hp', rfl⟩ := List.mem_map.mp hp
            exact fun b hb => d.psub p' hp' b (List.mem_filter.mp hb).1
          · obtain ⟨i, hi⟩ := List.mem_iff_getElem?.mp z
            have := (hall i bo hi).2
            rw [s4 _ _ hbo] at this
            cases this
      · exact ⟨ro, hs, ps, none, rfl, Same.refl _, hro3, rh3, rfl, d.pup, d.psub, nrb, nhb⟩
    · rintro σ Hx ⟨ro', rs', ps', g, rfl, sx, hro', R', l', up', sub', n1, n2⟩
      have s0x := s03.trans sx
      have dx := d.same s0x
      have hbx := sx _ _ hbo
      refine ⟨fun σ Hy => ∃ (ts2 : List (Addr × Addr × Str × Int × List Nat)) (p : Option V), σ = [some (.ref a), some (.ref m), some (.ref L), some (.ref Ta), some (.int c), some (.ref ro'), some (.ref bo), g, p] ∧ Same H Hy ∧ Hy ro' = some (.lst (rs'.map V.ref)) ∧ RowsL Hy rs' ps' ∧ Hy bo = some (.lst (ts2.map fun x => V.ref x.1)) ∧ (∀ x ∈ ts2, TieT Hy x) ∧ (∀ x ∈ ts2, TieG ps.length x) ∧ ts2.length ≤ 13 ∧ (ts2 = ts ∨ ts2.length ≠ ts.length), ?_, ?_⟩
      · refine ⟨_, rfl, _, _, rfl, rfl, (show CDiv _ 256 from ⟨by decide, by decide⟩), _, _, rfl, rfl, (show (0 : Int) < 3 by decide), _, _, rfl, rfl, _, rfl, ifD (fun _ => ?_) fun _ => iteF ⟨ts, none, rfl, s0x, hro', R', hbx, dx.tea, dx.tg, by walk_at "om", .inl rfl⟩⟩
        refine ⟨_, rfl, _, _, rfl, .inl ⟨_, SqL.of dx.hT, rfl⟩, _, _, rfl, rfl, _, rfl, ifD (fun h12 => ?_) fun _ => ⟨ts, none, rfl, s0x, hro', R', hbx, dx.tea, dx.tg, by walk_at "om", .inl rfl⟩⟩
        obtain ⟨pl, hpl, epl⟩ := modN (c / 768) (n := ts.length + 1) (by walk_at "om")
        have etl : (((ts.map fun x => V.ref x.1).length : Nat) : Int) + 1 = ((ts.length + 1 : Nat) : Int) := by rw [List.length_map]; walk_at "om"
        refine ⟨_, rfl, _, _, rfl, rfl, (show CDiv _ 768 from ⟨by decide, by decide⟩), _, rfl, _, _, rfl, .inl ⟨_, SqL.of dx.hT, rfl⟩, _, _, rfl, rfl, _, _, rfl, rfl, (by rw [etl]; walk_at "om"), ?_⟩
        dsimp only
        rw [etl, epl]
        have e7 : (((ns.map V.int).length : Nat) : Int) / 2 + 1 = ((ns.length / 2 + 1 : Nat) : Int) := by rw [List.length_map]; walk_at "om"
        refine ⟨_, rfl, .inl ⟨rfl, _, SqL.of hbx⟩, _, rfl, _, rfl, _, rfl, _, _, rfl, .inl ⟨_, s0x.seq hS, rfl⟩, _, _, rfl, rfl, ⟨by decide, by decide⟩, _, _, rfl, rfl, a, ns, ns.length / 2 + 1, (by show [V.ref a, V.int ((((ns.map V.int).length : Nat) : Int) / 2 + 1)] = _; rw [e7]), s0x.seq hS, by walk_at "om", by walk_at "om", fun H5 s5 => ?_⟩
        have hL5 := s5 _ _ dx.hL
        refine ⟨_, rfl, _, _, rfl, .inl ⟨_, SqL.of hL5, rfl⟩, cv ns (ns.length / 2 + 1), ps.length, (by rw [List.length_map, rl]; rfl), p1, m6, fun y H6 s6 ty gy ny1 ny2 => ?_⟩
        have s56 := s5.trans s6
        have hb6 := s56 _ _ hbx
        refine ⟨bo, _, _, _, rfl, rfl, hb6, szn (by rw [List.length_map]; omega), by omega, by omega, ?_⟩
        have yb : y.1 ≠ bo := fun z => by rw [z, s5 _ _ hbx] at ny1; cases ny1
        have yb2 : y.2.1 ≠ bo := fun z => by rw [z, s5 _ _ hbx] at ny2; cases ny2
        refine ⟨ts.take pl ++ y :: ts.drop pl, _, rfl, (s0x.trans s56).put nb0, by rw [upd_ne n1]; exact s56 _ _ hro', ?_, ?_, fun x hx => ?_, fun x hx => ?_, ?_, .inr ?_⟩
        · have R6 := R'.same s56
          refine RowsL.of R6.len fun i r p e1 e2 => ?_
          obtain ⟨p', h1, h2⟩ := R6.get e1
          rw [e2] at h1
          cases h1
          rw [upd_ne (show r ≠ bo from fun z => n2 (by rw [← z]; exact List.mem_of_getElem? e1))]
          exact h2
        · rw [upd_same, Int.toNat_natCast, List.map_append, List.map_cons, List.map_take, List.map_drop]
        · refine TieT.put ?_ hb6
          rcases List.mem_append.mp hx with z | z
          · exact (dx.tea x (List.mem_of_mem_take z)).same s56
          · rcases List.mem_cons.mp z with z | z
            · rw [z]; exact ty
            · exact (dx.tea x (List.mem_of_mem_drop z)).same s56
        · rcases List.mem_append.mp hx with z | z
          · exact d.tg x (List.mem_of_mem_take z)
          · rcases List.mem_cons.mp z with z | z
            · rw [z]; exact gy
            · exact d.tg x (List.mem_of_mem_drop z)
        · rw [List.length_append, List.length_cons, ← Nat.add_assoc, ← List.length_append, List.take_append_drop]; walk_at "om"
        · rw [List.length_append, List.length_cons, ← Nat.add_assoc, ← List.length_append, List.take_append_drop]; walk_at "om"
      · rintro σ Hy ⟨ts2, p, rfl, sy, hroy, Ry, hby, tea, tg, t13, hor⟩
        refine ⟨_, rfl, _, rfl, szr, fun h nh => ?_⟩
        have sh := Same.new (o := .lst [.ref ro', .ref bo]) nh
        exact q h ro' bo rs' ps' ts2 _ (sy.trans sh) ⟨upd_same, sh _ _ hroy, Ry.same sh, l', up', sub', sh _ _ hby, fun x hx => (tea x hx).same sh, tg, t13⟩ hor
noncomputable def sp_law_hands (K : PySem.W.Frag) : Sp := fun vs H Q _ => ∃ (a L : Addr) (ns : List Int) (at' : Nat) (rs : List Addr) (ps : List (List Int)), vs = [.ref a, .int (at' : Int), .ref L] ∧ SqL K H a (ns.map V.int) ∧ ns.length ≤ 63 ∧ at' ≤ 100 ∧ H L = some (.lst (rs.map V.ref)) ∧ RowsL H rs ps ∧ ps.length ≤ 6 ∧ (∀ p ∈ ps, p ≠ []) ∧
  ∀ l (hs : List Int) H', Same H H' → H l = none → H' l = some (.lst (hs.map V.int)) → hs.length = ps.length → Q (.ref l) H'
theorem sc_law_hands : FnScope ["script", "at", "lists"] ["script", "at", "lists"] (defScope s_law_hands) := ⟨rfl, rfl, rfl, by decide +kernel, rfl, by decide +kernel, by decide +kernel⟩
theorem ok_law_hands (D : Dfs K mg aF dF) (T : Txt mg) : FnOk P w K mg base CX0 2 (aF 39) (dF 39) ["script", "at", "lists"] (sp_law_hands K) := by
  have Glaw_cell : FnOk P w K mg base CX0 1 (aF 26) (dF 26) ["script", "k"] (sp_law_cell K) := ok_law_cell D T
  refine D.law_hands.fn.ok sc_law_hands (fun vs H Q E h => ?_) (fun cdv A outer s H vs Q E hr h => ?_)
  · obtain ⟨a, L, ns, at', rs, ps, rfl, _⟩ := h; rfl
  · have hu := hu_of hr
    obtain ⟨a, L, ns, at', rs, ps, rfl, hS, hl, h100, hL, R, m6, ne, q⟩ := h
    refine ⟨_, (pss_one (ps_ret (pe_lcomp ["k", "lists", "script", "at"] [none, some 2, some 0, some 1] rfl (pi_range1 rfl T.z_range (pa_cons (pe_callB (cLen K) (by rfl) T.z_len boot_len (pa_cons (pv 2) pa_nil)) pa_nil)) (fun _ => pg_name (i := 0) (nodupN (N := ["k", "lists", "script", "at"]) (by decide +kernel)) rfl (Or.inl rfl)) (fun _ => pif_nil) (fun _ => (pe_ix (ixL K) (pe_ix (ixL K) (pv 1) (pv 0) (fun _ _ => rfl)) (pe_op op_mod (pc D.law_cell Glaw_cell (hr.mono (by decide)) (pa_cons (pv 2) (pa_cons (pe_op op_add (pv 3) (pv 0)) pa_nil))) (pe_callB (cLen K) (by rfl) T.z_len boot_len (pa_cons (pe_ix (ixL K) (pv 1) (pv 0) (fun _ _ => rfl)) pa_nil))) (fun _ _ => rfl))) ((.cons (fun _ e => by cases e) (.cons (fun _ e => by cases e; exact ⟨rfl, rfl⟩) (.cons (fun _ e => by cases e; exact ⟨rfl, rfl⟩) (.cons (fun _ e => by cases e; exact ⟨rfl, rfl⟩) .nil)))))))), ?_⟩
    have rl : rs.length = ps.length := R.len
    refine ⟨_, rfl, _, _, rfl, .inl ⟨_, SqL.of hL, rfl⟩, _, rfl, lo62 _, by rw [List.length_map]; walk_at "om", ?_⟩
    have e0 : (((rs.map V.ref).length : Nat) : Int).toNat = ps.length := by rw [List.length_map]; walk_at "om"
    rw [e0]
    refine comp_range (n := ps.length) (fun i => .int ((ps.getD i []).getD (cv ns (at' + i) % ((ps.getD i []).length : Int)).toNat 0)) (by walk_at "om") (fun i hi H2 R2 s2 k => ?_) fun acc H2 s2 nacc hacc => ?_
    · have ei : (0 : Int) + (i : Int) = ((i : Nat) : Int) := by walk_at "om"
      rw [ei]
      obtain ⟨r, hr, hrp⟩ := (R.same s2).at (List.getElem?_eq_getElem hi)
      have hL2 := s2 _ _ hL
      have hat := atI_nat (show (rs.map V.ref)[i]? = some (.ref r) by rw [List.getElem?_map, hr]; rfl)
      have eg : ps.getD i [] = ps[i] := getD_getL hi
      rw [eg] at k
      have npos : 0 < ps[i].length := List.length_pos_iff.mpr (ne _ (List.getElem_mem hi))
      refine ⟨_, rfl, _, rfl, L, _, _, _, rfl, rfl, SqL.of hL2, hat, ?_⟩
      refine ⟨_, rfl, _, rfl, _, rfl, _, _, rfl, rfl, a, ns, at' + i, (by show [V.ref a, V.int ((at' : Int) + (i : Int))] = _; rw [Int.natCast_add]), s2.seq hS, by walk_at "om", by walk_at "om", fun H3 s3 => ?_⟩
      obtain ⟨j, hj, ej⟩ := modN (cv ns (at' + i)) npos
      have hr3 := s3 _ _ hrp
      have eml : (((ps[i].map V.int).length : Nat) : Int) = ((ps[i].length : Nat) : Int) := by rw [List.length_map]
      refine ⟨_, rfl, _, rfl, L, _, _, _, rfl, rfl, SqL.of (s3 _ _ hL2), hat, _, _, rfl, .inl ⟨_, SqL.of hr3, rfl⟩, _, _, rfl, rfl, (by rw [eml]; show (0 : Int) < ((ps[i].length : Nat) : Int); walk_at "om"), r, _, _, _, rfl, rfl, SqL.of hr3, (by (try dsimp only); rw [eml, ej]; exact atI_int hj), ?_⟩
      rw [ej, Int.toNat_natCast] at k
      exact k H3 s3
    · refine q acc ((List.range ps.length).map fun i => ((ps.getD i []).getD (cv ns (at' + i) % ((ps.getD i []).length : Int)).toNat 0)) H2 s2 nacc (by rw [hacc, List.map_map]; rfl) (by rw [List.length_map, List.length_range])
theorem deq_rowsB {K : PySem.W.Frag} {H : Hp} {a b : Addr} {rs rs' : List Addr} {ps qs : List (List Int)} (h1 : SqL K H a (rs.map V.ref)) (p1 : PoolsL K H rs ps) (h2 : SqL K H b (rs'.map V.ref)) (p2 : PoolsL K H rs' qs) (hl : ps.length = qs.length) : DEq K H 3 (.ref a) (.ref b) (decide (ps = qs)) := by
  have l1 : rs.length = ps.length := p1.len
  have l2 : rs'.length = qs.length := p2.len
  have h := DEq.lst (K := K) (H := H) (d := 2) (e := fun j => decide (ps.getD j [] = qs.getD j [])) h1 h2 (by rw [List.length_map, List.length_map]; walk_at "om") fun j x y hx hy => by
    obtain ⟨r, rfl, hq⟩ := p1.ref hx
    obtain ⟨r', rfl, hq'⟩ := p2.ref hy
    exact deq_intsB hq hq'
  have e : (List.range (rs.map V.ref).length).all (fun j => decide (ps.getD j [] = qs.getD j [])) = decide (ps = qs) := by
    rw [List.length_map, l1]
    by_cases z : ps = qs
    · rw [z, decide_eq_true rfl, List.all_eq_true]
      exact fun j _ => decide_eq_true rfl
    · rw [decide_eq_false z, List.all_eq_false]
      refine Classical.byContradiction fun n => z ?_
      apply List.ext_getElem hl
      intro j j1 j2
      refine Classical.byContradiction fun m => n ⟨j, List.mem_range.mpr j1, ?_⟩
      intro y
      have y := of_decide_eq_true y
      rw [getD_getL j1, getD_getL j2] at y
      exact m y
  rw [e] at h
  exact h
theorem deq_hard {K : PySem.W.Frag} {H : Hp} {h p L2 T2 L T : Addr} {rs2 rs : List Addr} {ps2 ps : List (List Int)} {ts2 ts : List (Addr × Addr × Str × Int × List Nat)} (h1 : SqL K H h [.ref L2, .ref T2]) (h2 : SqL K H p [.ref L, .ref T]) (hL2 : SqL K H L2 (rs2.map V.ref)) (p2 : PoolsL K H rs2 ps2) (hL : SqL K H L (rs.map V.ref)) (p1 : PoolsL K H rs ps)
    (hT2 : SqL K H T2 (ts2.map fun x => V.ref x.1)) (hT : SqL K H T (ts.map fun x => V.ref x.1)) (te : ∀ x ∈ ts, TieT H x) (hl : ps2.length = ps.length) (hor : ts2 = ts ∨ ts2.length ≠ ts.length) (no : ¬ (ps2 = ps ∧ ts2 = ts)) : DEq K H 4 (.ref h) (.ref p) false := by
  obtain ⟨e1, d1, f1⟩ : ∃ e1, DEq K H 3 (.ref T2) (.ref T) e1 ∧ (e1 = true → ts2 = ts) := by
    rcases hor with z | z
    · subst z
      exact ⟨true, deq_ties hT2 hT te, fun _ => rfl⟩
    · exact ⟨false, DEq.len hT2 hT (by rw [List.length_map, List.length_map]; exact z), fun y => by cases y⟩
  have h := DEq.lst (K := K) (H := H) (d := 3) (e := fun j => if j = 0 then decide (ps2 = ps) else e1) h1 h2 rfl fun j x y hx hy => by
    rcases j with _ | _ | j
    · cases hx; cases hy
      exact deq_rowsB hL2 p2 hL p1 hl
    · cases hx; cases hy
      exact d1
    · cases hx
  have e : (List.range [V.ref L2, V.ref T2].length).all (fun j => if j = 0 then decide (ps2 = ps) else e1) = false := by
    show (decide (ps2 = ps) && (e1 && true)) = false
    by_cases z : ps2 = ps
    · cases e1 with
      | false => simp
      | true => exact absurd ⟨z, f1 rfl⟩ no
    · rw [decide_eq_false z]; rfl
  rw [e] at h
  exact h
noncomputable def sp_law (K : PySem.W.Frag) : Sp := fun vs H Q _ => ∃ (a : Addr) (ns : List Int), vs = [.ref a] ∧ SqL K H a (ns.map V.int) ∧ ns.length ≤ 63 ∧ ∀ H', Q (.bl true) H'
theorem sc_law : FnScope ["script", "menu", "lists", "ties", "harder", "told", "paper", "found", "at"] ["script"] (defScope s_law) := ⟨rfl, rfl, rfl, by decide +kernel, rfl, by decide +kernel, by decide +kernel⟩
theorem ok_law (D : Dfs K mg aF dF) (T : Txt mg) : FnOk P w K mg base CX0 39 (aF 40) (dF 40) ["script"] (sp_law K) := by
  have Gshows : FnOk P w K mg base CX0 25 (aF 12) (dF 12) ["may", "ties", "paper"] (sp_shows K) := ok_shows D T
  have Gfits : FnOk P w K mg base CX0 3 (aF 23) (dF 23) ["may", "ties", "hands"] (sp_fits K) := ok_fits D T
  have Gplan : FnOk P w K mg base CX0 38 (aF 24) (dF 24) ["may", "ties"] (sp_plan K) := ok_plan D T
  have Glaw_drawn : FnOk P w K mg base CX0 3 (aF 30) (dF 30) ["script", "top"] (sp_law_drawn K) := ok_law_drawn D T
  have Glaw_honest : FnOk P w K mg base CX0 17 (aF 37) (dF 37) ["pattern", "lists", "ties"] (sp_law_honest K) := ok_law_honest D T
  have Glaw_harder : FnOk P w K mg base CX0 2 (aF 38) (dF 38) ["script", "menu", "lists", "ties"] (sp_law_harder K) := ok_law_harder D T
  have Glaw_hands : FnOk P w K mg base CX0 2 (aF 39) (dF 39) ["script", "at", "lists"] (sp_law_hands K) := ok_law_hands D T
  refine D.law.fn.ok sc_law (fun vs H Q E h => ?_) (fun cdv A outer s H vs Q E hr h => ?_)
  · obtain ⟨a, ns, rfl, _⟩ := h; rfl
  · have hu := hu_of hr
    obtain ⟨a, ns, rfl, hS, hl, q⟩ := h
    refine ⟨_, (pss_cons (ps_asg (pc D.law_drawn Glaw_drawn (hr.mono (by decide)) (pa_cons (pv 0) (pa_cons pe_int pa_nil))) (pgTL K rfl (pgs_cons (pg_name (i := 1) sc_law.nd rfl (Or.inl rfl)) (pgs_cons (pg_name (i := 2) sc_law.nd rfl (Or.inl rfl)) (pgs_cons (pg_name (i := 3) sc_law.nd rfl (Or.inl rfl)) pgs_nil)))))
      (pss_cons (ps_set (i := 4) sc_law.nd rfl (Or.inl rfl) (pc D.law_harder Glaw_harder (hr.mono (by decide)) (pa_cons (pv 0) (pa_cons (pv 1) (pa_cons (pv 2) (pa_cons (pv 3) pa_nil))))))
      (pss_cons (ps_set (i := 5) sc_law.nd rfl (Or.inl rfl) (pc D.plan Gplan (hr.mono (by decide)) (pa_cons (pe_lcomp ["row"] [none] rfl (piL K (pe_ix (ixL K) (pv 4) pe_int (fun _ _ => rfl))) (fun _ => pg_name (i := 0) (nodupN (N := ["row"]) (by decide +kernel)) rfl (Or.inl rfl)) (fun _ => pif_nil) (fun _ => (pe_callTy (cList K) (by rfl) T.z_list boot_list (pa_cons (pv 0) pa_nil))) ((.cons (fun _ e => by cases e) .nil))) (pa_cons (pe_callTy (cList K) (by rfl) T.z_list boot_list (pa_cons (pe_ix (ixL K) (pv 4) pe_int (fun _ _ => rfl)) pa_nil)) pa_nil))))
      (pss_cons (ps_set (i := 6) sc_law.nd rfl (Or.inl rfl) (pe_ix (ixT K) (pv 5) pe_int (fun _ _ => rfl)))
      (pss_cut (ps_if (pt_cmpR op_eq (pe_ix (ixT K) (pv 5) pe_int (fun _ _ => rfl)) pe_str (nomark _))
        (pss_one (ps_set (i := 6) sc_law.nd rfl (Or.inl rfl) (pc D.law_honest Glaw_honest (hr.mono (by decide)) (pa_cons (pe_lst pa_nil) (pa_cons (pe_ix (ixL K) (pv 4) pe_int (fun _ _ => rfl)) (pa_cons (pe_ix (ixL K) (pv 4) pe_int (fun _ _ => rfl)) pa_nil))))))
        pss_nil)
      (pss_cons (ps_set (i := 7) sc_law.nd rfl (Or.inl rfl) (pc D.shows Gshows (hr.mono (by decide)) (pa_cons (pe_lcomp ["row"] [none] rfl (piL K (pv 2)) (fun _ => pg_name (i := 0) (nodupN (N := ["row"]) (by decide +kernel)) rfl (Or.inl rfl)) (fun _ => pif_nil) (fun _ => (pe_callTy (cList K) (by rfl) T.z_list boot_list (pa_cons (pv 0) pa_nil))) ((.cons (fun _ e => by cases e) .nil))) (pa_cons (pe_callTy (cList K) (by rfl) T.z_list boot_list (pa_cons (pv 3) pa_nil)) (pa_cons (pv 6) pa_nil)))))
      (pss_cons (ps_if (pt_cmpR op_notB (pv 7) pe_bl (nomark _))
        (pss_one (ps_ret (pe_and (pe_cmpR op_isB (pv 7) pe_bl (nomark _)) (pe_one (pe_or (pe_cmpR op_eq (pe_ix (ixT K) (pv 5) pe_int (fun _ _ => rfl)) pe_str (nomark _)) (pe_one (pe_cmpR (neD K hr.units) (pv 4) (pe_lst (pa_cons (pv 2) (pa_cons (pv 3) pa_nil))) (nomark _))))))))
        pss_nil)
      (pss_cons (ps_if (pt_cmpR op_ne (pe_ix (ixT K) (pc D.plan Gplan (hr.mono (by decide)) (pa_cons (pe_lcomp ["row"] [none] rfl (piL K (pv 2)) (fun _ => pg_name (i := 0) (nodupN (N := ["row"]) (by decide +kernel)) rfl (Or.inl rfl)) (fun _ => pif_nil) (fun _ => (pe_callTy (cList K) (by rfl) T.z_list boot_list (pa_cons (pv 0) pa_nil))) ((.cons (fun _ e => by cases e) .nil))) (pa_cons (pe_callTy (cList K) (by rfl) T.z_list boot_list (pa_cons (pv 3) pa_nil)) pa_nil))) pe_int (fun _ _ => rfl)) pe_str (nomark _))
        (pss_one (ps_ret pe_bl))
        pss_nil)
      (pss_cons (ps_if (pt_cmpR (inR K hr.units) (pe_lst pa_nil) (pv 2) (by with_unfolding_all rfl))
        (pss_one (ps_ret pe_bl))
        pss_nil)
      (pss_cons (ps_for PassesOwn.never rfl (pi_range3 rfl T.z_range (pa_cons pe_int (pa_cons (pe_callB (cLen K) (by rfl) T.z_len boot_len (pa_cons (pv 0) pa_nil)) (pa_cons (pe_callB (cLen K) (by rfl) T.z_len boot_len (pa_cons (pv 2) pa_nil)) pa_nil)))) (pg_name (i := 8) sc_law.nd rfl (Or.inl rfl))
        (pss_one (ps_if (pt_val (pc D.fits Gfits (hr.mono (by decide)) (pa_cons (pe_lcomp ["row"] [none] rfl (piL K (pv 2)) (fun _ => pg_name (i := 0) (nodupN (N := ["row"]) (by decide +kernel)) rfl (Or.inl rfl)) (fun _ => pif_nil) (fun _ => (pe_callTy (cList K) (by rfl) T.z_list boot_list (pa_cons (pv 0) pa_nil))) ((.cons (fun _ e => by cases e) .nil))) (pa_cons (pe_callTy (cList K) (by rfl) T.z_list boot_list (pa_cons (pv 3) pa_nil)) (pa_cons (pc D.law_hands Glaw_hands (hr.mono (by decide)) (pa_cons (pv 0) (pa_cons (pv 8) (pa_cons (pv 2) pa_nil)))) pa_nil)))))
          (pss_one (ps_ret pe_bl))
          pss_nil)))
      (pss_one (ps_ret pe_bl)))))))))))), ?_⟩
    refine ⟨_, rfl, a, ns, 4, rfl, hS, hl, by decide, by decide, fun l m L T ms rs ps ts H1 s1 d nl => ?_⟩
    refine ⟨l, _, rfl, SqL.of d.hl, rfl, _, _, rfl, _, _, rfl, _, _, rfl, rfl, ?_⟩
    have m6 := d.p6
    have p1 := d.p1
    have m8 := d.m8
    have t12 := d.t12
    have rl : rs.length = ps.length := d.rows.len
    have u26 : ms.length ≤ 26 := Nat.le_trans m8 (by decide)
    have m1k : ps.length ≤ 1000 := Nat.le_trans m6 (by decide)
    have t100 : ts.length ≤ 100 := Nat.le_trans t12 (by decide)
    refine ⟨_, rfl, _, rfl, _, rfl, _, rfl, a, l, m, L, T, ns, ms, rs, ps, ts, 4, rfl, s1.seq hS, hl, d, fun h L2 T2 rs2 ps2 ts2 H2 s2 hd hor => ?_⟩
    have l2 := hd.len
    have t13 : ts2.length ≤ 100 := Nat.le_trans hd.t13 (by decide)
    have m62 : ps2.length ≤ 6 := by rw [l2]; exact m6
    have m2k : ps2.length ≤ 1000 := Nat.le_trans m62 (by decide)
    have dd2 := d.same s2
    refine ⟨_, rfl, h, _, _, _, rfl, rfl, SqL.of hd.hh, rfl, L2, rfl, ⟨_, SqL.of hd.hL⟩, ?_⟩
    refine comp_copy (SqL.of hd.hL) hd.rows.pools m2k (fun r ys H2 R hr2 k => ⟨_, rfl, r, _, rfl, .inl hr2, fun l nl => k l nl⟩) fun c1 cs1 H3 s3 nc1 hc1 rc1 nr1 => ?_
    refine ⟨_, rfl, h, _, _, _, rfl, rfl, SqL.of (s3 _ _ hd.hh), rfl, T2, _, rfl, .inl (SqL.of (s3 _ _ hd.hT)), fun b1 nb1 => ?_⟩
    have s4 := Same.new (o := .lst (ts2.map fun x => V.ref x.1)) nb1
    have s24 := s3.trans s4
    refine ⟨c1, b1, cs1, ps2, ms, ts2, rfl, ⟨SqL.of (s4 _ _ hc1), (rc1.same s4).pools, hd.up, hd.sub, m62, u26⟩, ⟨SqL.of upd_same, fun x hx => (hd.tea x hx).same s24, t13⟩, (by rw [l2]; exact hd.tg), fun t H5 s5 pt => ?_⟩
    have s25 := s24.trans s5
    obtain ⟨w, v0, ht, hw⟩ : ∃ (w : Str) (v0 : V), H5 t = some (.tup [.str w, v0]) ∧ (w = "plan" ∨ (w = "none" ∧ ∃ g, GPapAt H5 v0 g ∧ GBnd g ∧ ShowsIs ps2 (ts2.map tieOf) [] g true)) := by
      rcases pt with ⟨l', hs, h1, _, _, _⟩ | ⟨v, qq, h1, h2, h3⟩
      · exact ⟨"plan", .ref l', h1, .inl rfl⟩
      · obtain ⟨g, ga, gb, gs⟩ := h3.isB (Nat.zero_le _) m2k h2
        exact ⟨"none", v, h1, .inr ⟨rfl, g, ga.same fun b o e => (nw_some e).2, gb, gs⟩⟩
    refine ⟨_, rfl, t, _, _, _, rfl, rfl, SqT.of ht, rfl, ?_⟩
    refine ⟨fun σ Hx => ∃ (v : V) (g : GPap), σ = [some (.ref a), some (.ref m), some (.ref L), some (.ref T), some (.ref h), some (.ref t), some v, none, none] ∧ Same H5 Hx ∧ GPapAt Hx v g ∧ GBnd g ∧ (w = "plan" ∨ (w = "none" ∧ ShowsIs ps2 (ts2.map tieOf) [] g true)), ?_, ?_⟩
    · refine ⟨_, rfl, t, _, _, _, rfl, rfl, SqT.of ht, rfl, rfl, _, rfl, ?_⟩
      rcases hw with rfl | ⟨rfl, g, ga, gb, gs⟩
      · refine iteT ?_
        refine ⟨szr, fun e ne => ?_⟩
        have se := Same.new (o := .lst []) ne
        have s2e := s25.trans se
        refine ⟨_, rfl, h, _, _, _, rfl, rfl, SqL.of (s2e _ _ hd.hh), rfl, _, rfl, h, _, _, _, rfl, rfl, SqL.of (s2e _ _ hd.hh), rfl, ?_⟩
        refine ⟨e, L2, T2, [], rs2, ps2, ms, ts2, rfl, upd_same, ⟨SqL.of (s2e _ _ hd.hL), (hd.rows.same s2e).pools, hd.up, hd.sub, m62, u26⟩, ⟨SqL.of (s2e _ _ hd.hT), fun x hx => (hd.tea x hx).same s2e, t13⟩, canon_nil, Nat.zero_le _, Nat.lt_of_le_of_lt m62 (by decide), fun v g H7 s7 g7 gb => ?_⟩
        exact ⟨v, g, rfl, se.trans s7, g7.same nw_sub, gb, .inl rfl⟩
      · exact iteF ⟨v0, g, rfl, Same.refl _, ga, gb, .inr ⟨rfl, gs⟩⟩
    · rintro σ Hx ⟨v, g, rfl, sx, ga, gb, hw'⟩
      have s2x := s25.trans sx
      have dx := dd2.same s2x
      obtain ⟨b, sb, hb⟩ : ∃ b, ShowsIs ps (ts.map tieOf) [] g b ∧ (b = false → w = "plan" ∨ ¬ (ps2 = ps ∧ ts2 = ts)) := by
        rcases hw' with e | ⟨_, gs⟩
        · obtain ⟨b, sb⟩ := ShowsIs.total (may := ps) (ts := ts.map tieOf) (ps.length + 1) [] (by rw [List.length_nil, Nat.zero_add]; exact Nat.lt_succ_self _) g
          exact ⟨b, sb, fun _ => .inl e⟩
        · by_cases same : ps2 = ps ∧ ts2 = ts
          · rw [same.1, same.2] at gs
            exact ⟨true, gs, fun z => by cases z⟩
          · obtain ⟨b, sb⟩ := ShowsIs.total (may := ps) (ts := ts.map tieOf) (ps.length + 1) [] (by rw [List.length_nil, Nat.zero_add]; exact Nat.lt_succ_self _) g
            exact ⟨b, sb, fun _ => .inr same⟩
      refine ⟨_, rfl, L, rfl, ⟨_, SqL.of dx.hL⟩, ?_⟩
      refine comp_copy (SqL.of dx.hL) dx.rows.pools m1k (fun r ys H2 R hr2 k => ⟨_, rfl, r, _, rfl, .inl hr2, fun l nl => k l nl⟩) fun c2 cs2 H7 s7 nc2 hc2 rc2 nr2 => ?_
      refine ⟨_, rfl, T, _, rfl, .inl (SqL.of (s7 _ _ dx.hT)), fun b2 nb2 => ?_⟩
      have s8 := Same.new (o := .lst (ts.map fun x => V.ref x.1)) nb2
      have s78 := s7.trans s8
      refine ⟨_, rfl, c2, b2, v, cs2, ps, ms, ts, g, b, rfl, ⟨SqL.of (s8 _ _ hc2), (rc2.same s8).pools, d.pup, d.psub, m6, u26⟩, ⟨SqL.of upd_same, fun x hx => (dx.tea x hx).same s78, t100⟩, ga.same s78, gb, sb, fun H9 s9 => ?_⟩
      have sx9 := s78.trans s9
      have s29 := s2x.trans sx9
      have ht9 := (sx.trans sx9) _ _ ht
      have d9 := dd2.same s29
      refine ⟨_, rfl, _, _, rfl, rfl, _, rfl, ?_⟩
      cases b with
      | false =>
        refine iteT ?_
        refine ⟨_, rfl, _, _, rfl, rfl, _, rfl, iteT ?_⟩
        refine ⟨_, rfl, t, _, _, _, rfl, rfl, SqT.of ht9, rfl, rfl, _, rfl, ifD (fun _ => q _) fun nw' => ?_⟩
        have ns' : ¬ (ps2 = ps ∧ ts2 = ts) := (hb rfl).resolve_left fun z => nw' (by rw [z])
        refine ⟨_, rfl, _, rfl, _, rfl, szr, fun p np => ⟨4, false, ?_, by decide, rfl, q _⟩⟩
        have sp := s29.trans (Same.new (o := .lst [.ref L, .ref T]) np)
        have dp := dd2.same sp
        exact deq_hard (SqL.of (sp _ _ hd.hh)) (SqL.of upd_same) (SqL.of (sp _ _ hd.hL)) (hd.rows.same sp).pools (SqL.of dp.hL) dp.rows.pools (SqL.of (sp _ _ hd.hT)) (SqL.of dp.hT) dp.tea l2 hor ns'
      | true =>
        refine iteF ?_
        have nop : ∀ hs, ¬ IsPlan ps (ts.map tieOf) hs := fun hs => sb.none rfl hs (Beg.nil hs)
        refine ⟨_, rfl, L, rfl, ⟨_, SqL.of d9.hL⟩, ?_⟩
        refine comp_copy (SqL.of d9.hL) d9.rows.pools m1k (fun r ys H2 R hr2 k => ⟨_, rfl, r, _, rfl, .inl hr2, fun l nl => k l nl⟩) fun c3 cs3 H10 s10 nc3 hc3 rc3 nr3 => ?_
        refine ⟨_, rfl, T, _, rfl, .inl (SqL.of (s10 _ _ d9.hT)), fun b3 nb3 => ?_⟩
        have s11 := Same.new (o := .lst (ts.map fun x => V.ref x.1)) nb3
        have s911 := s10.trans s11
        refine ⟨c3, b3, cs3, ps, ms, ts, rfl, ⟨SqL.of (s11 _ _ hc3), (rc3.same s11).pools, d.pup, d.psub, m6, u26⟩, ⟨SqL.of upd_same, fun x hx => (d9.tea x hx).same s911, t100⟩, d.tg, fun t3 H12 s12 pt3 => ?_⟩
        rcases pt3 with ⟨_, hs3, _, _, _, ip⟩ | ⟨v3, q3, ht3, _, _⟩
        · exact absurd ip (nop hs3)
        refine ⟨t3, _, _, _, rfl, rfl, SqT.of ht3, rfl, rfl, _, rfl, ?_⟩
        refine iteF ?_
        have s212 := s29.trans (s911.trans s12)
        have d12 := dd2.same s212
        refine ⟨szr, fun e ne => ?_⟩
        have se := Same.new (o := .lst []) ne
        have d13 := d12.same se
        refine ⟨_, rfl, L, rs, 1, empB (upd H12 e (.lst [])), rfl, SqL.of d13.hL, by decide, fun r hr => ?_, _, rfl, ?_⟩
        · obtain ⟨i, hi⟩ := List.mem_iff_getElem?.mp hr
          obtain ⟨p', _, e2⟩ := d13.rows.get hi
          exact deq_emp e2 (SqL.of upd_same)
        rw [if_neg Bool.false_ne_true]
        refine ifB (fun _ => q _) fun hany => ?_
        have ne' : ∀ p ∈ ps, p ≠ [] := fun p hp z => by
          obtain ⟨i, hi⟩ := List.mem_iff_getElem?.mp hp
          obtain ⟨r, hr, e2⟩ := d13.rows.at hi
          have : empB (upd H12 e (.lst [])) r = true := by unfold empB; rw [e2, z]; rfl
          rw [List.any_eq_false] at hany
          exact hany r (List.mem_of_getElem? hr) this
        have s213 := s212.trans se
        generalize upd H12 e (.lst []) = H13 at s213 d13
        have hS13 := (s1.trans (s2.trans s213)).seq hS
        have eln : (((ns.map V.int).length : Nat) : Int) = (ns.length : Int) := by rw [List.length_map]
        have erl : (((rs.map V.ref).length : Nat) : Int) = (ps.length : Int) := by rw [List.length_map, rl]
        refine ⟨_, rfl, _, _, rfl, .inl ⟨_, hS13, rfl⟩, _, rfl, _, _, rfl, .inl ⟨_, SqL.of d13.hL, rfl⟩, _, _, _, rfl, by decide, by decide, by walk_at "om", by rw [eln]; walk_at "om", by rw [erl]; walk_at "om", by rw [erl]; walk_at "om", ?_⟩
        rw [eln, erl]
        refine for_step (lo := 9) (st := (ps.length : Int)) (fun i σ Hy => ∃ x : Option V, σ = [some (.ref a), some (.ref m), some (.ref L), some (.ref T), some (.ref h), some (.ref t), some v, some (.bl true), x] ∧ Same H13 Hy) ⟨none, rfl, Same.refl _⟩ ?_ ?_
        · rintro i σ Hy hi ⟨x, rfl, sy⟩
          have dy := d13.same sy
          obtain ⟨at', eat, lat⟩ : ∃ at' : Nat, (9 : Int) + (i : Int) * (ps.length : Int) = (at' : Int) ∧ at' ≤ 100 := by
            have h9 : (9 : Int) < (ns.length : Int) := by
              by_cases z : (9 : Int) < (ns.length : Int)
              · exact z
              · rw [if_neg z] at hi; simp at hi
            rw [if_pos h9] at hi
            have hk : (i : Int) ≤ ((ns.length : Int) - 9 - 1) / (ps.length : Int) := by walk_at "om"
            have h1 : (i : Int) * (ps.length : Int) ≤ (((ns.length : Int) - 9 - 1) / (ps.length : Int)) * (ps.length : Int) := Int.mul_le_mul_of_nonneg_right hk (by walk_at "om")
            have h2 := Int.ediv_mul_le ((ns.length : Int) - 9 - 1) (show (ps.length : Int) ≠ 0 by walk_at "om")
            have h3 : 0 ≤ (i : Int) * (ps.length : Int) := Int.mul_nonneg (by walk_at "om") (by walk_at "om")
            exact ⟨(9 + (i : Int) * (ps.length : Int)).toNat, by walk_at "om", by walk_at "om"⟩
          rw [eat]
          refine ⟨_, rfl, L, rfl, ⟨_, SqL.of dy.hL⟩, ?_⟩
          refine comp_copy (SqL.of dy.hL) dy.rows.pools m1k (fun r ys H2 R hr2 k => ⟨_, rfl, r, _, rfl, .inl hr2, fun l nl => k l nl⟩) fun c4 cs4 H14 s14 nc4 hc4 rc4 nr4 => ?_
          refine ⟨_, rfl, T, _, rfl, .inl (SqL.of (s14 _ _ dy.hT)), fun b4 nb4 => ?_⟩
          have s15 := Same.new (o := .lst (ts.map fun x => V.ref x.1)) nb4
          have sy15 := s14.trans s15
          have hb4 : upd H14 b4 (.lst (ts.map fun x => V.ref x.1)) b4 = some (.lst (ts.map fun x => V.ref x.1)) := upd_same
          have d15 := dy.same sy15
          refine ⟨_, rfl, _, rfl, _, rfl, a, L, ns, at', rs, ps, rfl, (sy.trans sy15).seq hS13, hl, lat, d15.hL, d15.rows, m6, ne', fun hh hs H16 s16 nhh hhh lhs => ?_⟩
          have dz := d15.same s16
          refine ⟨c4, b4, hh, cs4, ps, ts, hs, rfl, SqL.of ((s15.trans s16) _ _ hc4), (rc4.same (s15.trans s16)).pools, m6, ⟨SqL.of (s16 _ _ hb4), dz.tea, t100⟩, fun x hx => (d.tg x hx).lt, SqL.of hhh, (by rw [lhs]; exact Nat.le_trans m6 (by decide)), fun H17 s17 => ?_⟩
          have ef : fitB ps ts hs = false := by
            cases z : fitB ps ts hs with
            | false => rfl
            | true => exact absurd (fitB_iff.mp z) (nop hs)
          rw [ef]
          exact ⟨_, rfl, iteF ⟨_, rfl, (sy.trans sy15).trans (s16.trans s17)⟩⟩
        · rintro σ Hy ⟨x, rfl, sy⟩
          exact q _
end
theorem all_mk {l : PySem.W.OpenLaw} {w : World} {K : PySem.W.Frag} {h : Heap} {mg : Str → Option Value} {fa f_is_whole f_is_rising f_common f_joined f_width f_grown f_keeps f_breaks f_first_broken f_unlike f_pools_of f_pool_of f_shows f_shows_for f_tie_shows f_short_shows f_is_list_of_blocks f_split_shows f_is_split f_deal f_settle f_short_places f_hands_of f_fits f_plan f_plan_from f_law_cell f_law_whole f_law_menu f_law_bond f_law_drawn f_law_unlike f_law_breaks f_law_in_all f_law_pool f_law_short f_law_blocks f_law_honest f_law_harder f_law_hands f_law : Addr} (X : K.In h) (G : h.Ns mainGlobals mg) (hfa : mg "law" = some (.ref fa))
    {od_is_whole an_is_whole : Option Addr} {sl_is_whole : Array (Option Value)} {oc_is_whole kV_is_whole dc_is_whole pm_is_whole cd_is_whole ct_is_whole : Value}
    {od_is_rising an_is_rising : Option Addr} {sl_is_rising : Array (Option Value)} {oc_is_rising kV_is_rising dc_is_rising pm_is_rising cd_is_rising ct_is_rising : Value}
    {od_common an_common : Option Addr} {sl_common : Array (Option Value)} {oc_common kV_common dc_common pm_common cd_common ct_common : Value}
    {od_joined an_joined : Option Addr} {sl_joined : Array (Option Value)} {oc_joined kV_joined dc_joined pm_joined cd_joined ct_joined : Value}
    {od_width an_width : Option Addr} {sl_width : Array (Option Value)} {oc_width kV_width dc_width pm_width cd_width ct_width : Value}
    {od_grown an_grown : Option Addr} {sl_grown : Array (Option Value)} {oc_grown kV_grown dc_grown pm_grown cd_grown ct_grown : Value}
    {od_keeps an_keeps : Option Addr} {sl_keeps : Array (Option Value)} {oc_keeps kV_keeps dc_keeps pm_keeps cd_keeps ct_keeps : Value}
    {od_breaks an_breaks : Option Addr} {sl_breaks : Array (Option Value)} {oc_breaks kV_breaks dc_breaks pm_breaks cd_breaks ct_breaks : Value}
    {od_first_broken an_first_broken : Option Addr} {sl_first_broken : Array (Option Value)} {oc_first_broken kV_first_broken dc_first_broken pm_first_broken cd_first_broken ct_first_broken : Value}
    {od_unlike an_unlike : Option Addr} {sl_unlike : Array (Option Value)} {oc_unlike kV_unlike dc_unlike pm_unlike cd_unlike ct_unlike : Value}
    {od_pools_of an_pools_of : Option Addr} {sl_pools_of : Array (Option Value)} {oc_pools_of kV_pools_of dc_pools_of pm_pools_of cd_pools_of ct_pools_of : Value}
    {od_pool_of an_pool_of : Option Addr} {sl_pool_of : Array (Option Value)} {oc_pool_of kV_pool_of dc_pool_of pm_pool_of cd_pool_of ct_pool_of : Value}
    {od_shows an_shows : Option Addr} {sl_shows : Array (Option Value)} {oc_shows kV_shows dc_shows pm_shows cd_shows ct_shows : Value}
    {od_shows_for an_shows_for : Option Addr} {sl_shows_for : Array (Option Value)} {oc_shows_for kV_shows_for dc_shows_for pm_shows_for cd_shows_for ct_shows_for : Value}
    {od_tie_shows an_tie_shows : Option Addr} {sl_tie_shows : Array (Option Value)} {oc_tie_shows kV_tie_shows dc_tie_shows pm_tie_shows cd_tie_shows ct_tie_shows : Value}
    {od_short_shows an_short_shows : Option Addr} {sl_short_shows : Array (Option Value)} {oc_short_shows kV_short_shows dc_short_shows pm_short_shows cd_short_shows ct_short_shows : Value}
    {od_is_list_of_blocks an_is_list_of_blocks : Option Addr} {sl_is_list_of_blocks : Array (Option Value)} {oc_is_list_of_blocks kV_is_list_of_blocks dc_is_list_of_blocks pm_is_list_of_blocks cd_is_list_of_blocks ct_is_list_of_blocks : Value}
    {od_split_shows an_split_shows : Option Addr} {sl_split_shows : Array (Option Value)} {oc_split_shows kV_split_shows dc_split_shows pm_split_shows cd_split_shows ct_split_shows : Value}
    {od_is_split an_is_split : Option Addr} {sl_is_split : Array (Option Value)} {oc_is_split kV_is_split dc_is_split pm_is_split cd_is_split ct_is_split : Value}
    {od_deal an_deal : Option Addr} {sl_deal : Array (Option Value)} {oc_deal kV_deal dc_deal pm_deal cd_deal ct_deal : Value}
    {od_settle an_settle : Option Addr} {sl_settle : Array (Option Value)} {oc_settle kV_settle dc_settle pm_settle cd_settle ct_settle : Value}
    {od_short_places an_short_places : Option Addr} {sl_short_places : Array (Option Value)} {oc_short_places kV_short_places dc_short_places pm_short_places cd_short_places ct_short_places : Value}
    {od_hands_of an_hands_of : Option Addr} {sl_hands_of : Array (Option Value)} {oc_hands_of kV_hands_of dc_hands_of pm_hands_of cd_hands_of ct_hands_of : Value}
    {od_fits an_fits : Option Addr} {sl_fits : Array (Option Value)} {oc_fits kV_fits dc_fits pm_fits cd_fits ct_fits : Value}
    {od_plan an_plan : Option Addr} {sl_plan : Array (Option Value)} {oc_plan kV_plan dc_plan pm_plan cd_plan ct_plan : Value}
    {od_plan_from an_plan_from : Option Addr} {sl_plan_from : Array (Option Value)} {oc_plan_from kV_plan_from dc_plan_from pm_plan_from cd_plan_from ct_plan_from : Value}
    {od_law_cell an_law_cell : Option Addr} {sl_law_cell : Array (Option Value)} {oc_law_cell kV_law_cell dc_law_cell pm_law_cell cd_law_cell ct_law_cell : Value}
    {od_law_whole an_law_whole : Option Addr} {sl_law_whole : Array (Option Value)} {oc_law_whole kV_law_whole dc_law_whole pm_law_whole cd_law_whole ct_law_whole : Value}
    {od_law_menu an_law_menu : Option Addr} {sl_law_menu : Array (Option Value)} {oc_law_menu kV_law_menu dc_law_menu pm_law_menu cd_law_menu ct_law_menu : Value}
    {od_law_bond an_law_bond : Option Addr} {sl_law_bond : Array (Option Value)} {oc_law_bond kV_law_bond dc_law_bond pm_law_bond cd_law_bond ct_law_bond : Value}
    {od_law_drawn an_law_drawn : Option Addr} {sl_law_drawn : Array (Option Value)} {oc_law_drawn kV_law_drawn dc_law_drawn pm_law_drawn cd_law_drawn ct_law_drawn : Value}
    {od_law_unlike an_law_unlike : Option Addr} {sl_law_unlike : Array (Option Value)} {oc_law_unlike kV_law_unlike dc_law_unlike pm_law_unlike cd_law_unlike ct_law_unlike : Value}
    {od_law_breaks an_law_breaks : Option Addr} {sl_law_breaks : Array (Option Value)} {oc_law_breaks kV_law_breaks dc_law_breaks pm_law_breaks cd_law_breaks ct_law_breaks : Value}
    {od_law_in_all an_law_in_all : Option Addr} {sl_law_in_all : Array (Option Value)} {oc_law_in_all kV_law_in_all dc_law_in_all pm_law_in_all cd_law_in_all ct_law_in_all : Value}
    {od_law_pool an_law_pool : Option Addr} {sl_law_pool : Array (Option Value)} {oc_law_pool kV_law_pool dc_law_pool pm_law_pool cd_law_pool ct_law_pool : Value}
    {od_law_short an_law_short : Option Addr} {sl_law_short : Array (Option Value)} {oc_law_short kV_law_short dc_law_short pm_law_short cd_law_short ct_law_short : Value}
    {od_law_blocks an_law_blocks : Option Addr} {sl_law_blocks : Array (Option Value)} {oc_law_blocks kV_law_blocks dc_law_blocks pm_law_blocks cd_law_blocks ct_law_blocks : Value}
    {od_law_honest an_law_honest : Option Addr} {sl_law_honest : Array (Option Value)} {oc_law_honest kV_law_honest dc_law_honest pm_law_honest cd_law_honest ct_law_honest : Value}
    {od_law_harder an_law_harder : Option Addr} {sl_law_harder : Array (Option Value)} {oc_law_harder kV_law_harder dc_law_harder pm_law_harder cd_law_harder ct_law_harder : Value}
    {od_law_hands an_law_hands : Option Addr} {sl_law_hands : Array (Option Value)} {oc_law_hands kV_law_hands dc_law_hands pm_law_hands cd_law_hands ct_law_hands : Value}
    {od_law an_law : Option Addr} {sl_law : Array (Option Value)} {oc_law kV_law dc_law pm_law cd_law ct_law : Value}
    (a_is_whole : PySem.W.nsIn K mainGlobals "is_whole" = some (some (.ref f_is_whole))) (l_is_whole : K.lookup f_is_whole = some ⟨oc_is_whole, od_is_whole, .func (PySem.W.fnOf "is_whole" "is_whole" (defArgs s_is_whole) (defBody s_is_whole) (defScope s_is_whole) .none kV_is_whole dc_is_whole pm_is_whole an_is_whole cd_is_whole ct_is_whole), sl_is_whole⟩) (c_is_whole : PySem.W.codeIn K cd_is_whole "is_whole" = true) (k_is_whole : PySem.W.keepIn K (.ref f_is_whole) = true)
    (a_is_rising : PySem.W.nsIn K mainGlobals "is_rising" = some (some (.ref f_is_rising))) (l_is_rising : K.lookup f_is_rising = some ⟨oc_is_rising, od_is_rising, .func (PySem.W.fnOf "is_rising" "is_rising" (defArgs s_is_rising) (defBody s_is_rising) (defScope s_is_rising) .none kV_is_rising dc_is_rising pm_is_rising an_is_rising cd_is_rising ct_is_rising), sl_is_rising⟩) (c_is_rising : PySem.W.codeIn K cd_is_rising "is_rising" = true) (k_is_rising : PySem.W.keepIn K (.ref f_is_rising) = true)
    (a_common : PySem.W.nsIn K mainGlobals "common" = some (some (.ref f_common))) (l_common : K.lookup f_common = some ⟨oc_common, od_common, .func (PySem.W.fnOf "common" "common" (defArgs s_common) (defBody s_common) (defScope s_common) .none kV_common dc_common pm_common an_common cd_common ct_common), sl_common⟩) (c_common : PySem.W.codeIn K cd_common "common" = true) (k_common : PySem.W.keepIn K (.ref f_common) = true)
    (a_joined : PySem.W.nsIn K mainGlobals "joined" = some (some (.ref f_joined))) (l_joined : K.lookup f_joined = some ⟨oc_joined, od_joined, .func (PySem.W.fnOf "joined" "joined" (defArgs s_joined) (defBody s_joined) (defScope s_joined) .none kV_joined dc_joined pm_joined an_joined cd_joined ct_joined), sl_joined⟩) (c_joined : PySem.W.codeIn K cd_joined "joined" = true) (k_joined : PySem.W.keepIn K (.ref f_joined) = true)
    (a_width : PySem.W.nsIn K mainGlobals "width" = some (some (.ref f_width))) (l_width : K.lookup f_width = some ⟨oc_width, od_width, .func (PySem.W.fnOf "width" "width" (defArgs s_width) (defBody s_width) (defScope s_width) .none kV_width dc_width pm_width an_width cd_width ct_width), sl_width⟩) (c_width : PySem.W.codeIn K cd_width "width" = true) (k_width : PySem.W.keepIn K (.ref f_width) = true)
    (a_grown : PySem.W.nsIn K mainGlobals "grown" = some (some (.ref f_grown))) (l_grown : K.lookup f_grown = some ⟨oc_grown, od_grown, .func (PySem.W.fnOf "grown" "grown" (defArgs s_grown) (defBody s_grown) (defScope s_grown) .none kV_grown dc_grown pm_grown an_grown cd_grown ct_grown), sl_grown⟩) (c_grown : PySem.W.codeIn K cd_grown "grown" = true) (k_grown : PySem.W.keepIn K (.ref f_grown) = true)
    (a_keeps : PySem.W.nsIn K mainGlobals "keeps" = some (some (.ref f_keeps))) (l_keeps : K.lookup f_keeps = some ⟨oc_keeps, od_keeps, .func (PySem.W.fnOf "keeps" "keeps" (defArgs s_keeps) (defBody s_keeps) (defScope s_keeps) .none kV_keeps dc_keeps pm_keeps an_keeps cd_keeps ct_keeps), sl_keeps⟩) (c_keeps : PySem.W.codeIn K cd_keeps "keeps" = true) (k_keeps : PySem.W.keepIn K (.ref f_keeps) = true)
    (a_breaks : PySem.W.nsIn K mainGlobals "breaks" = some (some (.ref f_breaks))) (l_breaks : K.lookup f_breaks = some ⟨oc_breaks, od_breaks, .func (PySem.W.fnOf "breaks" "breaks" (defArgs s_breaks) (defBody s_breaks) (defScope s_breaks) .none kV_breaks dc_breaks pm_breaks an_breaks cd_breaks ct_breaks), sl_breaks⟩) (c_breaks : PySem.W.codeIn K cd_breaks "breaks" = true) (k_breaks : PySem.W.keepIn K (.ref f_breaks) = true)
    (a_first_broken : PySem.W.nsIn K mainGlobals "first_broken" = some (some (.ref f_first_broken))) (l_first_broken : K.lookup f_first_broken = some ⟨oc_first_broken, od_first_broken, .func (PySem.W.fnOf "first_broken" "first_broken" (defArgs s_first_broken) (defBody s_first_broken) (defScope s_first_broken) .none kV_first_broken dc_first_broken pm_first_broken an_first_broken cd_first_broken ct_first_broken), sl_first_broken⟩) (c_first_broken : PySem.W.codeIn K cd_first_broken "first_broken" = true) (k_first_broken : PySem.W.keepIn K (.ref f_first_broken) = true)
    (a_unlike : PySem.W.nsIn K mainGlobals "unlike" = some (some (.ref f_unlike))) (l_unlike : K.lookup f_unlike = some ⟨oc_unlike, od_unlike, .func (PySem.W.fnOf "unlike" "unlike" (defArgs s_unlike) (defBody s_unlike) (defScope s_unlike) .none kV_unlike dc_unlike pm_unlike an_unlike cd_unlike ct_unlike), sl_unlike⟩) (c_unlike : PySem.W.codeIn K cd_unlike "unlike" = true) (k_unlike : PySem.W.keepIn K (.ref f_unlike) = true)
    (a_pools_of : PySem.W.nsIn K mainGlobals "pools_of" = some (some (.ref f_pools_of))) (l_pools_of : K.lookup f_pools_of = some ⟨oc_pools_of, od_pools_of, .func (PySem.W.fnOf "pools_of" "pools_of" (defArgs s_pools_of) (defBody s_pools_of) (defScope s_pools_of) .none kV_pools_of dc_pools_of pm_pools_of an_pools_of cd_pools_of ct_pools_of), sl_pools_of⟩) (c_pools_of : PySem.W.codeIn K cd_pools_of "pools_of" = true) (k_pools_of : PySem.W.keepIn K (.ref f_pools_of) = true)
    (a_pool_of : PySem.W.nsIn K mainGlobals "pool_of" = some (some (.ref f_pool_of))) (l_pool_of : K.lookup f_pool_of = some ⟨oc_pool_of, od_pool_of, .func (PySem.W.fnOf "pool_of" "pool_of" (defArgs s_pool_of) (defBody s_pool_of) (defScope s_pool_of) .none kV_pool_of dc_pool_of pm_pool_of an_pool_of cd_pool_of ct_pool_of), sl_pool_of⟩) (c_pool_of : PySem.W.codeIn K cd_pool_of "pool_of" = true) (k_pool_of : PySem.W.keepIn K (.ref f_pool_of) = true)
    (a_shows : PySem.W.nsIn K mainGlobals "shows" = some (some (.ref f_shows))) (l_shows : K.lookup f_shows = some ⟨oc_shows, od_shows, .func (PySem.W.fnOf "shows" "shows" (defArgs s_shows) (defBody s_shows) (defScope s_shows) .none kV_shows dc_shows pm_shows an_shows cd_shows ct_shows), sl_shows⟩) (c_shows : PySem.W.codeIn K cd_shows "shows" = true) (k_shows : PySem.W.keepIn K (.ref f_shows) = true)
    (a_shows_for : PySem.W.nsIn K mainGlobals "shows_for" = some (some (.ref f_shows_for))) (l_shows_for : K.lookup f_shows_for = some ⟨oc_shows_for, od_shows_for, .func (PySem.W.fnOf "shows_for" "shows_for" (defArgs s_shows_for) (defBody s_shows_for) (defScope s_shows_for) .none kV_shows_for dc_shows_for pm_shows_for an_shows_for cd_shows_for ct_shows_for), sl_shows_for⟩) (c_shows_for : PySem.W.codeIn K cd_shows_for "shows_for" = true) (k_shows_for : PySem.W.keepIn K (.ref f_shows_for) = true)
    (a_tie_shows : PySem.W.nsIn K mainGlobals "tie_shows" = some (some (.ref f_tie_shows))) (l_tie_shows : K.lookup f_tie_shows = some ⟨oc_tie_shows, od_tie_shows, .func (PySem.W.fnOf "tie_shows" "tie_shows" (defArgs s_tie_shows) (defBody s_tie_shows) (defScope s_tie_shows) .none kV_tie_shows dc_tie_shows pm_tie_shows an_tie_shows cd_tie_shows ct_tie_shows), sl_tie_shows⟩) (c_tie_shows : PySem.W.codeIn K cd_tie_shows "tie_shows" = true) (k_tie_shows : PySem.W.keepIn K (.ref f_tie_shows) = true)
    (a_short_shows : PySem.W.nsIn K mainGlobals "short_shows" = some (some (.ref f_short_shows))) (l_short_shows : K.lookup f_short_shows = some ⟨oc_short_shows, od_short_shows, .func (PySem.W.fnOf "short_shows" "short_shows" (defArgs s_short_shows) (defBody s_short_shows) (defScope s_short_shows) .none kV_short_shows dc_short_shows pm_short_shows an_short_shows cd_short_shows ct_short_shows), sl_short_shows⟩) (c_short_shows : PySem.W.codeIn K cd_short_shows "short_shows" = true) (k_short_shows : PySem.W.keepIn K (.ref f_short_shows) = true)
    (a_is_list_of_blocks : PySem.W.nsIn K mainGlobals "is_list_of_blocks" = some (some (.ref f_is_list_of_blocks))) (l_is_list_of_blocks : K.lookup f_is_list_of_blocks = some ⟨oc_is_list_of_blocks, od_is_list_of_blocks, .func (PySem.W.fnOf "is_list_of_blocks" "is_list_of_blocks" (defArgs s_is_list_of_blocks) (defBody s_is_list_of_blocks) (defScope s_is_list_of_blocks) .none kV_is_list_of_blocks dc_is_list_of_blocks pm_is_list_of_blocks an_is_list_of_blocks cd_is_list_of_blocks ct_is_list_of_blocks), sl_is_list_of_blocks⟩) (c_is_list_of_blocks : PySem.W.codeIn K cd_is_list_of_blocks "is_list_of_blocks" = true) (k_is_list_of_blocks : PySem.W.keepIn K (.ref f_is_list_of_blocks) = true)
    (a_split_shows : PySem.W.nsIn K mainGlobals "split_shows" = some (some (.ref f_split_shows))) (l_split_shows : K.lookup f_split_shows = some ⟨oc_split_shows, od_split_shows, .func (PySem.W.fnOf "split_shows" "split_shows" (defArgs s_split_shows) (defBody s_split_shows) (defScope s_split_shows) .none kV_split_shows dc_split_shows pm_split_shows an_split_shows cd_split_shows ct_split_shows), sl_split_shows⟩) (c_split_shows : PySem.W.codeIn K cd_split_shows "split_shows" = true) (k_split_shows : PySem.W.keepIn K (.ref f_split_shows) = true)
    (a_is_split : PySem.W.nsIn K mainGlobals "is_split" = some (some (.ref f_is_split))) (l_is_split : K.lookup f_is_split = some ⟨oc_is_split, od_is_split, .func (PySem.W.fnOf "is_split" "is_split" (defArgs s_is_split) (defBody s_is_split) (defScope s_is_split) .none kV_is_split dc_is_split pm_is_split an_is_split cd_is_split ct_is_split), sl_is_split⟩) (c_is_split : PySem.W.codeIn K cd_is_split "is_split" = true) (k_is_split : PySem.W.keepIn K (.ref f_is_split) = true)
    (a_deal : PySem.W.nsIn K mainGlobals "deal" = some (some (.ref f_deal))) (l_deal : K.lookup f_deal = some ⟨oc_deal, od_deal, .func (PySem.W.fnOf "deal" "deal" (defArgs s_deal) (defBody s_deal) (defScope s_deal) .none kV_deal dc_deal pm_deal an_deal cd_deal ct_deal), sl_deal⟩) (c_deal : PySem.W.codeIn K cd_deal "deal" = true) (k_deal : PySem.W.keepIn K (.ref f_deal) = true)
    (a_settle : PySem.W.nsIn K mainGlobals "settle" = some (some (.ref f_settle))) (l_settle : K.lookup f_settle = some ⟨oc_settle, od_settle, .func (PySem.W.fnOf "settle" "settle" (defArgs s_settle) (defBody s_settle) (defScope s_settle) .none kV_settle dc_settle pm_settle an_settle cd_settle ct_settle), sl_settle⟩) (c_settle : PySem.W.codeIn K cd_settle "settle" = true) (k_settle : PySem.W.keepIn K (.ref f_settle) = true)
    (a_short_places : PySem.W.nsIn K mainGlobals "short_places" = some (some (.ref f_short_places))) (l_short_places : K.lookup f_short_places = some ⟨oc_short_places, od_short_places, .func (PySem.W.fnOf "short_places" "short_places" (defArgs s_short_places) (defBody s_short_places) (defScope s_short_places) .none kV_short_places dc_short_places pm_short_places an_short_places cd_short_places ct_short_places), sl_short_places⟩) (c_short_places : PySem.W.codeIn K cd_short_places "short_places" = true) (k_short_places : PySem.W.keepIn K (.ref f_short_places) = true)
    (a_hands_of : PySem.W.nsIn K mainGlobals "hands_of" = some (some (.ref f_hands_of))) (l_hands_of : K.lookup f_hands_of = some ⟨oc_hands_of, od_hands_of, .func (PySem.W.fnOf "hands_of" "hands_of" (defArgs s_hands_of) (defBody s_hands_of) (defScope s_hands_of) .none kV_hands_of dc_hands_of pm_hands_of an_hands_of cd_hands_of ct_hands_of), sl_hands_of⟩) (c_hands_of : PySem.W.codeIn K cd_hands_of "hands_of" = true) (k_hands_of : PySem.W.keepIn K (.ref f_hands_of) = true)
    (a_fits : PySem.W.nsIn K mainGlobals "fits" = some (some (.ref f_fits))) (l_fits : K.lookup f_fits = some ⟨oc_fits, od_fits, .func (PySem.W.fnOf "fits" "fits" (defArgs s_fits) (defBody s_fits) (defScope s_fits) .none kV_fits dc_fits pm_fits an_fits cd_fits ct_fits), sl_fits⟩) (c_fits : PySem.W.codeIn K cd_fits "fits" = true) (k_fits : PySem.W.keepIn K (.ref f_fits) = true)
    (a_plan : PySem.W.nsIn K mainGlobals "plan" = some (some (.ref f_plan))) (l_plan : K.lookup f_plan = some ⟨oc_plan, od_plan, .func (PySem.W.fnOf "plan" "plan" (defArgs s_plan) (defBody s_plan) (defScope s_plan) .none kV_plan dc_plan pm_plan an_plan cd_plan ct_plan), sl_plan⟩) (c_plan : PySem.W.codeIn K cd_plan "plan" = true) (k_plan : PySem.W.keepIn K (.ref f_plan) = true)
    (a_plan_from : PySem.W.nsIn K mainGlobals "plan_from" = some (some (.ref f_plan_from))) (l_plan_from : K.lookup f_plan_from = some ⟨oc_plan_from, od_plan_from, .func (PySem.W.fnOf "plan_from" "plan_from" (defArgs s_plan_from) (defBody s_plan_from) (defScope s_plan_from) .none kV_plan_from dc_plan_from pm_plan_from an_plan_from cd_plan_from ct_plan_from), sl_plan_from⟩) (c_plan_from : PySem.W.codeIn K cd_plan_from "plan_from" = true) (k_plan_from : PySem.W.keepIn K (.ref f_plan_from) = true)
    (a_law_cell : PySem.W.nsIn K mainGlobals "_law_cell" = some (some (.ref f_law_cell))) (l_law_cell : K.lookup f_law_cell = some ⟨oc_law_cell, od_law_cell, .func (PySem.W.fnOf "_law_cell" "_law_cell" (defArgs s_law_cell) (defBody s_law_cell) (defScope s_law_cell) .none kV_law_cell dc_law_cell pm_law_cell an_law_cell cd_law_cell ct_law_cell), sl_law_cell⟩) (c_law_cell : PySem.W.codeIn K cd_law_cell "_law_cell" = true) (k_law_cell : PySem.W.keepIn K (.ref f_law_cell) = true)
    (a_law_whole : PySem.W.nsIn K mainGlobals "_law_whole" = some (some (.ref f_law_whole))) (l_law_whole : K.lookup f_law_whole = some ⟨oc_law_whole, od_law_whole, .func (PySem.W.fnOf "_law_whole" "_law_whole" (defArgs s_law_whole) (defBody s_law_whole) (defScope s_law_whole) .none kV_law_whole dc_law_whole pm_law_whole an_law_whole cd_law_whole ct_law_whole), sl_law_whole⟩) (c_law_whole : PySem.W.codeIn K cd_law_whole "_law_whole" = true) (k_law_whole : PySem.W.keepIn K (.ref f_law_whole) = true)
    (a_law_menu : PySem.W.nsIn K mainGlobals "_law_menu" = some (some (.ref f_law_menu))) (l_law_menu : K.lookup f_law_menu = some ⟨oc_law_menu, od_law_menu, .func (PySem.W.fnOf "_law_menu" "_law_menu" (defArgs s_law_menu) (defBody s_law_menu) (defScope s_law_menu) .none kV_law_menu dc_law_menu pm_law_menu an_law_menu cd_law_menu ct_law_menu), sl_law_menu⟩) (c_law_menu : PySem.W.codeIn K cd_law_menu "_law_menu" = true) (k_law_menu : PySem.W.keepIn K (.ref f_law_menu) = true)
    (a_law_bond : PySem.W.nsIn K mainGlobals "_law_bond" = some (some (.ref f_law_bond))) (l_law_bond : K.lookup f_law_bond = some ⟨oc_law_bond, od_law_bond, .func (PySem.W.fnOf "_law_bond" "_law_bond" (defArgs s_law_bond) (defBody s_law_bond) (defScope s_law_bond) .none kV_law_bond dc_law_bond pm_law_bond an_law_bond cd_law_bond ct_law_bond), sl_law_bond⟩) (c_law_bond : PySem.W.codeIn K cd_law_bond "_law_bond" = true) (k_law_bond : PySem.W.keepIn K (.ref f_law_bond) = true)
    (a_law_drawn : PySem.W.nsIn K mainGlobals "_law_drawn" = some (some (.ref f_law_drawn))) (l_law_drawn : K.lookup f_law_drawn = some ⟨oc_law_drawn, od_law_drawn, .func (PySem.W.fnOf "_law_drawn" "_law_drawn" (defArgs s_law_drawn) (defBody s_law_drawn) (defScope s_law_drawn) .none kV_law_drawn dc_law_drawn pm_law_drawn an_law_drawn cd_law_drawn ct_law_drawn), sl_law_drawn⟩) (c_law_drawn : PySem.W.codeIn K cd_law_drawn "_law_drawn" = true) (k_law_drawn : PySem.W.keepIn K (.ref f_law_drawn) = true)
    (a_law_unlike : PySem.W.nsIn K mainGlobals "_law_unlike" = some (some (.ref f_law_unlike))) (l_law_unlike : K.lookup f_law_unlike = some ⟨oc_law_unlike, od_law_unlike, .func (PySem.W.fnOf "_law_unlike" "_law_unlike" (defArgs s_law_unlike) (defBody s_law_unlike) (defScope s_law_unlike) .none kV_law_unlike dc_law_unlike pm_law_unlike an_law_unlike cd_law_unlike ct_law_unlike), sl_law_unlike⟩) (c_law_unlike : PySem.W.codeIn K cd_law_unlike "_law_unlike" = true) (k_law_unlike : PySem.W.keepIn K (.ref f_law_unlike) = true)
    (a_law_breaks : PySem.W.nsIn K mainGlobals "_law_breaks" = some (some (.ref f_law_breaks))) (l_law_breaks : K.lookup f_law_breaks = some ⟨oc_law_breaks, od_law_breaks, .func (PySem.W.fnOf "_law_breaks" "_law_breaks" (defArgs s_law_breaks) (defBody s_law_breaks) (defScope s_law_breaks) .none kV_law_breaks dc_law_breaks pm_law_breaks an_law_breaks cd_law_breaks ct_law_breaks), sl_law_breaks⟩) (c_law_breaks : PySem.W.codeIn K cd_law_breaks "_law_breaks" = true) (k_law_breaks : PySem.W.keepIn K (.ref f_law_breaks) = true)
    (a_law_in_all : PySem.W.nsIn K mainGlobals "_law_in_all" = some (some (.ref f_law_in_all))) (l_law_in_all : K.lookup f_law_in_all = some ⟨oc_law_in_all, od_law_in_all, .func (PySem.W.fnOf "_law_in_all" "_law_in_all" (defArgs s_law_in_all) (defBody s_law_in_all) (defScope s_law_in_all) .none kV_law_in_all dc_law_in_all pm_law_in_all an_law_in_all cd_law_in_all ct_law_in_all), sl_law_in_all⟩) (c_law_in_all : PySem.W.codeIn K cd_law_in_all "_law_in_all" = true) (k_law_in_all : PySem.W.keepIn K (.ref f_law_in_all) = true)
    (a_law_pool : PySem.W.nsIn K mainGlobals "_law_pool" = some (some (.ref f_law_pool))) (l_law_pool : K.lookup f_law_pool = some ⟨oc_law_pool, od_law_pool, .func (PySem.W.fnOf "_law_pool" "_law_pool" (defArgs s_law_pool) (defBody s_law_pool) (defScope s_law_pool) .none kV_law_pool dc_law_pool pm_law_pool an_law_pool cd_law_pool ct_law_pool), sl_law_pool⟩) (c_law_pool : PySem.W.codeIn K cd_law_pool "_law_pool" = true) (k_law_pool : PySem.W.keepIn K (.ref f_law_pool) = true)
    (a_law_short : PySem.W.nsIn K mainGlobals "_law_short" = some (some (.ref f_law_short))) (l_law_short : K.lookup f_law_short = some ⟨oc_law_short, od_law_short, .func (PySem.W.fnOf "_law_short" "_law_short" (defArgs s_law_short) (defBody s_law_short) (defScope s_law_short) .none kV_law_short dc_law_short pm_law_short an_law_short cd_law_short ct_law_short), sl_law_short⟩) (c_law_short : PySem.W.codeIn K cd_law_short "_law_short" = true) (k_law_short : PySem.W.keepIn K (.ref f_law_short) = true)
    (a_law_blocks : PySem.W.nsIn K mainGlobals "_law_blocks" = some (some (.ref f_law_blocks))) (l_law_blocks : K.lookup f_law_blocks = some ⟨oc_law_blocks, od_law_blocks, .func (PySem.W.fnOf "_law_blocks" "_law_blocks" (defArgs s_law_blocks) (defBody s_law_blocks) (defScope s_law_blocks) .none kV_law_blocks dc_law_blocks pm_law_blocks an_law_blocks cd_law_blocks ct_law_blocks), sl_law_blocks⟩) (c_law_blocks : PySem.W.codeIn K cd_law_blocks "_law_blocks" = true) (k_law_blocks : PySem.W.keepIn K (.ref f_law_blocks) = true)
    (a_law_honest : PySem.W.nsIn K mainGlobals "_law_honest" = some (some (.ref f_law_honest))) (l_law_honest : K.lookup f_law_honest = some ⟨oc_law_honest, od_law_honest, .func (PySem.W.fnOf "_law_honest" "_law_honest" (defArgs s_law_honest) (defBody s_law_honest) (defScope s_law_honest) .none kV_law_honest dc_law_honest pm_law_honest an_law_honest cd_law_honest ct_law_honest), sl_law_honest⟩) (c_law_honest : PySem.W.codeIn K cd_law_honest "_law_honest" = true) (k_law_honest : PySem.W.keepIn K (.ref f_law_honest) = true)
    (a_law_harder : PySem.W.nsIn K mainGlobals "_law_harder" = some (some (.ref f_law_harder))) (l_law_harder : K.lookup f_law_harder = some ⟨oc_law_harder, od_law_harder, .func (PySem.W.fnOf "_law_harder" "_law_harder" (defArgs s_law_harder) (defBody s_law_harder) (defScope s_law_harder) .none kV_law_harder dc_law_harder pm_law_harder an_law_harder cd_law_harder ct_law_harder), sl_law_harder⟩) (c_law_harder : PySem.W.codeIn K cd_law_harder "_law_harder" = true) (k_law_harder : PySem.W.keepIn K (.ref f_law_harder) = true)
    (a_law_hands : PySem.W.nsIn K mainGlobals "_law_hands" = some (some (.ref f_law_hands))) (l_law_hands : K.lookup f_law_hands = some ⟨oc_law_hands, od_law_hands, .func (PySem.W.fnOf "_law_hands" "_law_hands" (defArgs s_law_hands) (defBody s_law_hands) (defScope s_law_hands) .none kV_law_hands dc_law_hands pm_law_hands an_law_hands cd_law_hands ct_law_hands), sl_law_hands⟩) (c_law_hands : PySem.W.codeIn K cd_law_hands "_law_hands" = true) (k_law_hands : PySem.W.keepIn K (.ref f_law_hands) = true)
    (a_law : PySem.W.nsIn K mainGlobals "law" = some (some (.ref f_law))) (l_law : K.lookup f_law = some ⟨oc_law, od_law, .func (PySem.W.fnOf "law" "law" (defArgs s_law) (defBody s_law) (defScope s_law) .none kV_law dc_law pm_law an_law cd_law ct_law), sl_law⟩) (c_law : PySem.W.codeIn K cd_law "law" = true) (k_law : PySem.W.keepIn K (.ref f_law) = true)
    (z_all : PySem.W.nsIn K mainGlobals "all" = some none)
    (z_bool : PySem.W.nsIn K mainGlobals "bool" = some none)
    (z_int : PySem.W.nsIn K mainGlobals "int" = some none)
    (z_isinstance : PySem.W.nsIn K mainGlobals "isinstance" = some none)
    (z_len : PySem.W.nsIn K mainGlobals "len" = some none)
    (z_list : PySem.W.nsIn K mainGlobals "list" = some none)
    (z_max : PySem.W.nsIn K mainGlobals "max" = some none)
    (z_min : PySem.W.nsIn K mainGlobals "min" = some none)
    (z_range : PySem.W.nsIn K mainGlobals "range" = some none)
    (z_set : PySem.W.nsIn K mainGlobals "set" = some none)
    (z_sorted : PySem.W.nsIn K mainGlobals "sorted" = some none)
    (z_tuple : PySem.W.nsIn K mainGlobals "tuple" = some none)
    (z_zip : PySem.W.nsIn K mainGlobals "zip" = some none)
    : ∃ fd : FuncData, (∀ (s : Shared) (v : Value), BindsTo s fd ⟨[v], []⟩ [("script", v)]) ∧ ∀ base : Heap, K.In base → base.Ns mainGlobals mg → FnOk l.prog w K mg base CX0 39 fa fd ["script"] (sp_law K) := by
  have e := hfa.symm.trans (PySem.W.mg_of X G a_law)
  cases e
  have T : Txt mg := ⟨PySem.W.mg_none_of X G z_all, PySem.W.mg_none_of X G z_bool, PySem.W.mg_none_of X G z_int, PySem.W.mg_none_of X G z_isinstance, PySem.W.mg_none_of X G z_len, PySem.W.mg_none_of X G z_list, PySem.W.mg_none_of X G z_max, PySem.W.mg_none_of X G z_min, PySem.W.mg_none_of X G z_range, PySem.W.mg_none_of X G z_set, PySem.W.mg_none_of X G z_sorted, PySem.W.mg_none_of X G z_tuple, PySem.W.mg_none_of X G z_zip⟩
  have F_is_whole := fun_mk (st := s_is_whole) l_is_whole c_is_whole k_is_whole
  have F_is_rising := fun_mk (st := s_is_rising) l_is_rising c_is_rising k_is_rising
  have F_common := fun_mk (st := s_common) l_common c_common k_common
  have F_joined := fun_mk (st := s_joined) l_joined c_joined k_joined
  have F_width := fun_mk (st := s_width) l_width c_width k_width
  have F_grown := fun_mk (st := s_grown) l_grown c_grown k_grown
  have F_keeps := fun_mk (st := s_keeps) l_keeps c_keeps k_keeps
  have F_breaks := fun_mk (st := s_breaks) l_breaks c_breaks k_breaks
  have F_first_broken := fun_mk (st := s_first_broken) l_first_broken c_first_broken k_first_broken
  have F_unlike := fun_mk (st := s_unlike) l_unlike c_unlike k_unlike
  have F_pools_of := fun_mk (st := s_pools_of) l_pools_of c_pools_of k_pools_of
  have F_pool_of := fun_mk (st := s_pool_of) l_pool_of c_pool_of k_pool_of
  have F_shows := fun_mk (st := s_shows) l_shows c_shows k_shows
  have F_shows_for := fun_mk (st := s_shows_for) l_shows_for c_shows_for k_shows_for
  have F_tie_shows := fun_mk (st := s_tie_shows) l_tie_shows c_tie_shows k_tie_shows
  have F_short_shows := fun_mk (st := s_short_shows) l_short_shows c_short_shows k_short_shows
  have F_is_list_of_blocks := fun_mk (st := s_is_list_of_blocks) l_is_list_of_blocks c_is_list_of_blocks k_is_list_of_blocks
  have F_split_shows := fun_mk (st := s_split_shows) l_split_shows c_split_shows k_split_shows
  have F_is_split := fun_mk (st := s_is_split) l_is_split c_is_split k_is_split
  have F_deal := fun_mk (st := s_deal) l_deal c_deal k_deal
  have F_settle := fun_mk (st := s_settle) l_settle c_settle k_settle
  have F_short_places := fun_mk (st := s_short_places) l_short_places c_short_places k_short_places
  have F_hands_of := fun_mk (st := s_hands_of) l_hands_of c_hands_of k_hands_of
  have F_fits := fun_mk (st := s_fits) l_fits c_fits k_fits
  have F_plan := fun_mk (st := s_plan) l_plan c_plan k_plan
  have F_plan_from := fun_mk (st := s_plan_from) l_plan_from c_plan_from k_plan_from
  have F_law_cell := fun_mk (st := s_law_cell) l_law_cell c_law_cell k_law_cell
  have F_law_whole := fun_mk (st := s_law_whole) l_law_whole c_law_whole k_law_whole
  have F_law_menu := fun_mk (st := s_law_menu) l_law_menu c_law_menu k_law_menu
  have F_law_bond := fun_mk (st := s_law_bond) l_law_bond c_law_bond k_law_bond
  have F_law_drawn := fun_mk (st := s_law_drawn) l_law_drawn c_law_drawn k_law_drawn
  have F_law_unlike := fun_mk (st := s_law_unlike) l_law_unlike c_law_unlike k_law_unlike
  have F_law_breaks := fun_mk (st := s_law_breaks) l_law_breaks c_law_breaks k_law_breaks
  have F_law_in_all := fun_mk (st := s_law_in_all) l_law_in_all c_law_in_all k_law_in_all
  have F_law_pool := fun_mk (st := s_law_pool) l_law_pool c_law_pool k_law_pool
  have F_law_short := fun_mk (st := s_law_short) l_law_short c_law_short k_law_short
  have F_law_blocks := fun_mk (st := s_law_blocks) l_law_blocks c_law_blocks k_law_blocks
  have F_law_honest := fun_mk (st := s_law_honest) l_law_honest c_law_honest k_law_honest
  have F_law_harder := fun_mk (st := s_law_harder) l_law_harder c_law_harder k_law_harder
  have F_law_hands := fun_mk (st := s_law_hands) l_law_hands c_law_hands k_law_hands
  have F_law := fun_mk (st := s_law) l_law c_law k_law
  have b_is_whole := F_is_whole.binds (ps := ["thing"]) fun _ _ _ _ _ _ us hl => by obtain ⟨_, rfl⟩ := ex1 hl; rfl
  have b_is_rising := F_is_rising.binds (ps := ["numbers"]) fun _ _ _ _ _ _ us hl => by obtain ⟨_, rfl⟩ := ex1 hl; rfl
  have b_common := F_common.binds (ps := ["one", "other"]) fun _ _ _ _ _ _ us hl => by obtain ⟨_, _, rfl⟩ := ex2 hl; rfl
  have b_joined := F_joined.binds (ps := ["one", "other"]) fun _ _ _ _ _ _ us hl => by obtain ⟨_, _, rfl⟩ := ex2 hl; rfl
  have b_width := F_width.binds (ps := ["pattern"]) fun _ _ _ _ _ _ us hl => by obtain ⟨_, rfl⟩ := ex1 hl; rfl
  have b_grown := F_grown.binds (ps := ["pattern"]) fun _ _ _ _ _ _ us hl => by obtain ⟨_, rfl⟩ := ex1 hl; rfl
  have b_keeps := F_keeps.binds (ps := ["hands", "tie"]) fun _ _ _ _ _ _ us hl => by obtain ⟨_, _, rfl⟩ := ex2 hl; rfl
  have b_breaks := F_breaks.binds (ps := ["pattern", "tie"]) fun _ _ _ _ _ _ us hl => by obtain ⟨_, _, rfl⟩ := ex2 hl; rfl
  have b_first_broken := F_first_broken.binds (ps := ["pattern", "ties"]) fun _ _ _ _ _ _ us hl => by obtain ⟨_, _, rfl⟩ := ex2 hl; rfl
  have b_unlike := F_unlike.binds (ps := ["row", "steps"]) fun _ _ _ _ _ _ us hl => by obtain ⟨_, _, rfl⟩ := ex2 hl; rfl
  have b_pools_of := F_pools_of.binds (ps := ["pattern", "may"]) fun _ _ _ _ _ _ us hl => by obtain ⟨_, _, rfl⟩ := ex2 hl; rfl
  have b_pool_of := F_pool_of.binds (ps := ["block", "pattern", "may"]) fun _ _ _ _ _ _ us hl => by obtain ⟨_, _, _, rfl⟩ := ex3 hl; rfl
  have b_shows := F_shows.binds (ps := ["may", "ties", "paper"]) fun _ _ _ _ _ _ us hl => by obtain ⟨_, _, _, rfl⟩ := ex3 hl; rfl
  have b_shows_for := F_shows_for.binds (ps := ["pattern", "may", "ties", "paper"]) fun _ _ _ _ _ _ us hl => by obtain ⟨_, _, _, _, rfl⟩ := ex4 hl; rfl
  have b_tie_shows := F_tie_shows.binds (ps := ["pattern", "ties", "place"]) fun _ _ _ _ _ _ us hl => by obtain ⟨_, _, _, rfl⟩ := ex3 hl; rfl
  have b_short_shows := F_short_shows.binds (ps := ["pattern", "may", "blocks"]) fun _ _ _ _ _ _ us hl => by obtain ⟨_, _, _, rfl⟩ := ex3 hl; rfl
  have b_is_list_of_blocks := F_is_list_of_blocks.binds (ps := ["pattern", "blocks"]) fun _ _ _ _ _ _ us hl => by obtain ⟨_, _, rfl⟩ := ex2 hl; rfl
  have b_split_shows := F_split_shows.binds (ps := ["pattern", "may", "ties", "papers"]) fun _ _ _ _ _ _ us hl => by obtain ⟨_, _, _, _, rfl⟩ := ex4 hl; rfl
  have b_is_split := F_is_split.binds (ps := ["pattern", "count", "papers"]) fun _ _ _ _ _ _ us hl => by obtain ⟨_, _, _, rfl⟩ := ex3 hl; rfl
  have b_deal := F_deal.binds (ps := ["pools"]) fun _ _ _ _ _ _ us hl => by obtain ⟨_, rfl⟩ := ex1 hl; rfl
  have b_settle := F_settle.binds (ps := ["pools", "holders", "place", "asked"]) fun _ _ _ _ _ _ us hl => by obtain ⟨_, _, _, _, rfl⟩ := ex4 hl; rfl
  have b_short_places := F_short_places.binds (ps := ["holders", "place", "asked"]) fun _ _ _ _ _ _ us hl => by obtain ⟨_, _, _, rfl⟩ := ex3 hl; rfl
  have b_hands_of := F_hands_of.binds (ps := ["holders", "count"]) fun _ _ _ _ _ _ us hl => by obtain ⟨_, _, rfl⟩ := ex2 hl; rfl
  have b_fits := F_fits.binds (ps := ["may", "ties", "hands"]) fun _ _ _ _ _ _ us hl => by obtain ⟨_, _, _, rfl⟩ := ex3 hl; rfl
  have b_plan := F_plan.binds (ps := ["may", "ties"]) fun _ _ _ _ _ _ us hl => by obtain ⟨_, _, rfl⟩ := ex2 hl; rfl
  have b_plan_from := F_plan_from.binds (ps := ["pattern", "may", "ties"]) fun _ _ _ _ _ _ us hl => by obtain ⟨_, _, _, rfl⟩ := ex3 hl; rfl
  have b_law_cell := F_law_cell.binds (ps := ["script", "k"]) fun _ _ _ _ _ _ us hl => by obtain ⟨_, _, rfl⟩ := ex2 hl; rfl
  have b_law_whole := F_law_whole.binds (ps := ["found"]) fun _ _ _ _ _ _ us hl => by obtain ⟨_, rfl⟩ := ex1 hl; rfl
  have b_law_menu := F_law_menu.binds (ps := ["script", "at", "wide"]) fun _ _ _ _ _ _ us hl => by obtain ⟨_, _, _, rfl⟩ := ex3 hl; rfl
  have b_law_bond := F_law_bond.binds (ps := ["cell", "many"]) fun _ _ _ _ _ _ us hl => by obtain ⟨_, _, rfl⟩ := ex2 hl; rfl
  have b_law_drawn := F_law_drawn.binds (ps := ["script", "top"]) fun _ _ _ _ _ _ us hl => by obtain ⟨_, _, rfl⟩ := ex2 hl; rfl
  have b_law_unlike := F_law_unlike.binds (ps := ["things", "steps"]) fun _ _ _ _ _ _ us hl => by obtain ⟨_, _, rfl⟩ := ex2 hl; rfl
  have b_law_breaks := F_law_breaks.binds (ps := ["pattern", "tie"]) fun _ _ _ _ _ _ us hl => by obtain ⟨_, _, rfl⟩ := ex2 hl; rfl
  have b_law_in_all := F_law_in_all.binds (ps := ["badge", "lists", "steps"]) fun _ _ _ _ _ _ us hl => by obtain ⟨_, _, _, rfl⟩ := ex3 hl; rfl
  have b_law_pool := F_law_pool.binds (ps := ["pattern", "lists", "block"]) fun _ _ _ _ _ _ us hl => by obtain ⟨_, _, _, rfl⟩ := ex3 hl; rfl
  have b_law_short := F_law_short.binds (ps := ["pattern", "lists", "blocks"]) fun _ _ _ _ _ _ us hl => by obtain ⟨_, _, _, rfl⟩ := ex3 hl; rfl
  have b_law_blocks := F_law_blocks.binds (ps := ["pattern", "lists"]) fun _ _ _ _ _ _ us hl => by obtain ⟨_, _, rfl⟩ := ex2 hl; rfl
  have b_law_honest := F_law_honest.binds (ps := ["pattern", "lists", "ties"]) fun _ _ _ _ _ _ us hl => by obtain ⟨_, _, _, rfl⟩ := ex3 hl; rfl
  have b_law_harder := F_law_harder.binds (ps := ["script", "menu", "lists", "ties"]) fun _ _ _ _ _ _ us hl => by obtain ⟨_, _, _, _, rfl⟩ := ex4 hl; rfl
  have b_law_hands := F_law_hands.binds (ps := ["script", "at", "lists"]) fun _ _ _ _ _ _ us hl => by obtain ⟨_, _, _, rfl⟩ := ex3 hl; rfl
  have b_law := F_law.binds (ps := ["script"]) fun _ _ _ _ _ _ us hl => by obtain ⟨_, rfl⟩ := ex1 hl; rfl
  exact ⟨PySem.W.fnOf "law" "law" (defArgs s_law) (defBody s_law) (defScope s_law) .none kV_law dc_law pm_law an_law cd_law ct_law, fun s v => .of_eq rfl, fun base _ _ => ok_law (aF := fun i => List.getD [f_is_whole, f_is_rising, f_common, f_joined, f_width, f_grown, f_keeps, f_breaks, f_first_broken, f_unlike, f_pools_of, f_pool_of, f_shows, f_shows_for, f_tie_shows, f_short_shows, f_is_list_of_blocks, f_split_shows, f_is_split, f_deal, f_settle, f_short_places, f_hands_of, f_fits, f_plan, f_plan_from, f_law_cell, f_law_whole, f_law_menu, f_law_bond, f_law_drawn, f_law_unlike, f_law_breaks, f_law_in_all, f_law_pool, f_law_short, f_law_blocks, f_law_honest, f_law_harder, f_law_hands, fa] i fa) (dF := fun i => List.getD [PySem.W.fnOf "is_whole" "is_whole" (defArgs s_is_whole) (defBody s_is_whole) (defScope s_is_whole) .none kV_is_whole dc_is_whole pm_is_whole an_is_whole cd_is_whole ct_is_whole, PySem.W.fnOf "is_rising" "is_rising" (defArgs s_is_rising) (defBody s_is_rising) (defScope s_is_rising) .none kV_is_rising dc_is_rising pm_is_rising an_is_rising cd_is_rising ct_is_rising, PySem.W.fnOf "common" "common" (defArgs s_common) (defBody s_common) (defScope s_common) .none kV_common dc_common pm_common an_common cd_common ct_common, PySem.W.fnOf "joined" "joined" (defArgs s_joined) (defBody s_joined) (defScope s_joined) .none kV_joined dc_joined pm_joined an_joined cd_joined ct_joined, PySem.W.fnOf "width" "width" (defArgs s_width) (defBody s_width) (defScope s_width) .none kV_width dc_width pm_width an_width cd_width ct_width, PySem.W.fnOf "grown" "grown" (defArgs s_grown) (defBody s_grown) (defScope s_grown) .none kV_grown dc_grown pm_grown an_grown cd_grown ct_grown, PySem.W.fnOf "keeps" "keeps" (defArgs s_keeps) (defBody s_keeps) (defScope s_keeps) .none kV_keeps dc_keeps pm_keeps an_keeps cd_keeps ct_keeps, PySem.W.fnOf "breaks" "breaks" (defArgs s_breaks) (defBody s_breaks) (defScope s_breaks) .none kV_breaks dc_breaks pm_breaks an_breaks cd_breaks ct_breaks, PySem.W.fnOf "first_broken" "first_broken" (defArgs s_first_broken) (defBody s_first_broken) (defScope s_first_broken) .none kV_first_broken dc_first_broken pm_first_broken an_first_broken cd_first_broken ct_first_broken, PySem.W.fnOf "unlike" "unlike" (defArgs s_unlike) (defBody s_unlike) (defScope s_unlike) .none kV_unlike dc_unlike pm_unlike an_unlike cd_unlike ct_unlike, PySem.W.fnOf "pools_of" "pools_of" (defArgs s_pools_of) (defBody s_pools_of) (defScope s_pools_of) .none kV_pools_of dc_pools_of pm_pools_of an_pools_of cd_pools_of ct_pools_of, PySem.W.fnOf "pool_of" "pool_of" (defArgs s_pool_of) (defBody s_pool_of) (defScope s_pool_of) .none kV_pool_of dc_pool_of pm_pool_of an_pool_of cd_pool_of ct_pool_of, PySem.W.fnOf "shows" "shows" (defArgs s_shows) (defBody s_shows) (defScope s_shows) .none kV_shows dc_shows pm_shows an_shows cd_shows ct_shows, PySem.W.fnOf "shows_for" "shows_for" (defArgs s_shows_for) (defBody s_shows_for) (defScope s_shows_for) .none kV_shows_for dc_shows_for pm_shows_for an_shows_for cd_shows_for ct_shows_for, PySem.W.fnOf "tie_shows" "tie_shows" (defArgs s_tie_shows) (defBody s_tie_shows) (defScope s_tie_shows) .none kV_tie_shows dc_tie_shows pm_tie_shows an_tie_shows cd_tie_shows ct_tie_shows, PySem.W.fnOf "short_shows" "short_shows" (defArgs s_short_shows) (defBody s_short_shows) (defScope s_short_shows) .none kV_short_shows dc_short_shows pm_short_shows an_short_shows cd_short_shows ct_short_shows, PySem.W.fnOf "is_list_of_blocks" "is_list_of_blocks" (defArgs s_is_list_of_blocks) (defBody s_is_list_of_blocks) (defScope s_is_list_of_blocks) .none kV_is_list_of_blocks dc_is_list_of_blocks pm_is_list_of_blocks an_is_list_of_blocks cd_is_list_of_blocks ct_is_list_of_blocks, PySem.W.fnOf "split_shows" "split_shows" (defArgs s_split_shows) (defBody s_split_shows) (defScope s_split_shows) .none kV_split_shows dc_split_shows pm_split_shows an_split_shows cd_split_shows ct_split_shows, PySem.W.fnOf "is_split" "is_split" (defArgs s_is_split) (defBody s_is_split) (defScope s_is_split) .none kV_is_split dc_is_split pm_is_split an_is_split cd_is_split ct_is_split, PySem.W.fnOf "deal" "deal" (defArgs s_deal) (defBody s_deal) (defScope s_deal) .none kV_deal dc_deal pm_deal an_deal cd_deal ct_deal, PySem.W.fnOf "settle" "settle" (defArgs s_settle) (defBody s_settle) (defScope s_settle) .none kV_settle dc_settle pm_settle an_settle cd_settle ct_settle, PySem.W.fnOf "short_places" "short_places" (defArgs s_short_places) (defBody s_short_places) (defScope s_short_places) .none kV_short_places dc_short_places pm_short_places an_short_places cd_short_places ct_short_places, PySem.W.fnOf "hands_of" "hands_of" (defArgs s_hands_of) (defBody s_hands_of) (defScope s_hands_of) .none kV_hands_of dc_hands_of pm_hands_of an_hands_of cd_hands_of ct_hands_of, PySem.W.fnOf "fits" "fits" (defArgs s_fits) (defBody s_fits) (defScope s_fits) .none kV_fits dc_fits pm_fits an_fits cd_fits ct_fits, PySem.W.fnOf "plan" "plan" (defArgs s_plan) (defBody s_plan) (defScope s_plan) .none kV_plan dc_plan pm_plan an_plan cd_plan ct_plan, PySem.W.fnOf "plan_from" "plan_from" (defArgs s_plan_from) (defBody s_plan_from) (defScope s_plan_from) .none kV_plan_from dc_plan_from pm_plan_from an_plan_from cd_plan_from ct_plan_from, PySem.W.fnOf "_law_cell" "_law_cell" (defArgs s_law_cell) (defBody s_law_cell) (defScope s_law_cell) .none kV_law_cell dc_law_cell pm_law_cell an_law_cell cd_law_cell ct_law_cell, PySem.W.fnOf "_law_whole" "_law_whole" (defArgs s_law_whole) (defBody s_law_whole) (defScope s_law_whole) .none kV_law_whole dc_law_whole pm_law_whole an_law_whole cd_law_whole ct_law_whole, PySem.W.fnOf "_law_menu" "_law_menu" (defArgs s_law_menu) (defBody s_law_menu) (defScope s_law_menu) .none kV_law_menu dc_law_menu pm_law_menu an_law_menu cd_law_menu ct_law_menu, PySem.W.fnOf "_law_bond" "_law_bond" (defArgs s_law_bond) (defBody s_law_bond) (defScope s_law_bond) .none kV_law_bond dc_law_bond pm_law_bond an_law_bond cd_law_bond ct_law_bond, PySem.W.fnOf "_law_drawn" "_law_drawn" (defArgs s_law_drawn) (defBody s_law_drawn) (defScope s_law_drawn) .none kV_law_drawn dc_law_drawn pm_law_drawn an_law_drawn cd_law_drawn ct_law_drawn, PySem.W.fnOf "_law_unlike" "_law_unlike" (defArgs s_law_unlike) (defBody s_law_unlike) (defScope s_law_unlike) .none kV_law_unlike dc_law_unlike pm_law_unlike an_law_unlike cd_law_unlike ct_law_unlike, PySem.W.fnOf "_law_breaks" "_law_breaks" (defArgs s_law_breaks) (defBody s_law_breaks) (defScope s_law_breaks) .none kV_law_breaks dc_law_breaks pm_law_breaks an_law_breaks cd_law_breaks ct_law_breaks, PySem.W.fnOf "_law_in_all" "_law_in_all" (defArgs s_law_in_all) (defBody s_law_in_all) (defScope s_law_in_all) .none kV_law_in_all dc_law_in_all pm_law_in_all an_law_in_all cd_law_in_all ct_law_in_all, PySem.W.fnOf "_law_pool" "_law_pool" (defArgs s_law_pool) (defBody s_law_pool) (defScope s_law_pool) .none kV_law_pool dc_law_pool pm_law_pool an_law_pool cd_law_pool ct_law_pool, PySem.W.fnOf "_law_short" "_law_short" (defArgs s_law_short) (defBody s_law_short) (defScope s_law_short) .none kV_law_short dc_law_short pm_law_short an_law_short cd_law_short ct_law_short, PySem.W.fnOf "_law_blocks" "_law_blocks" (defArgs s_law_blocks) (defBody s_law_blocks) (defScope s_law_blocks) .none kV_law_blocks dc_law_blocks pm_law_blocks an_law_blocks cd_law_blocks ct_law_blocks, PySem.W.fnOf "_law_honest" "_law_honest" (defArgs s_law_honest) (defBody s_law_honest) (defScope s_law_honest) .none kV_law_honest dc_law_honest pm_law_honest an_law_honest cd_law_honest ct_law_honest, PySem.W.fnOf "_law_harder" "_law_harder" (defArgs s_law_harder) (defBody s_law_harder) (defScope s_law_harder) .none kV_law_harder dc_law_harder pm_law_harder an_law_harder cd_law_harder ct_law_harder, PySem.W.fnOf "_law_hands" "_law_hands" (defArgs s_law_hands) (defBody s_law_hands) (defScope s_law_hands) .none kV_law_hands dc_law_hands pm_law_hands an_law_hands cd_law_hands ct_law_hands, PySem.W.fnOf "law" "law" (defArgs s_law) (defBody s_law) (defScope s_law) .none kV_law dc_law pm_law an_law cd_law ct_law] i (PySem.W.fnOf "law" "law" (defArgs s_law) (defBody s_law) (defScope s_law) .none kV_law dc_law pm_law an_law cd_law ct_law)) (⟨⟨F_is_whole, b_is_whole, PySem.W.mg_of X G a_is_whole⟩, ⟨F_is_rising, b_is_rising, PySem.W.mg_of X G a_is_rising⟩, ⟨F_common, b_common, PySem.W.mg_of X G a_common⟩, ⟨F_joined, b_joined, PySem.W.mg_of X G a_joined⟩, ⟨F_width, b_width, PySem.W.mg_of X G a_width⟩, ⟨F_grown, b_grown, PySem.W.mg_of X G a_grown⟩, ⟨F_keeps, b_keeps, PySem.W.mg_of X G a_keeps⟩, ⟨F_breaks, b_breaks, PySem.W.mg_of X G a_breaks⟩, ⟨F_first_broken, b_first_broken, PySem.W.mg_of X G a_first_broken⟩, ⟨F_unlike, b_unlike, PySem.W.mg_of X G a_unlike⟩, ⟨F_pools_of, b_pools_of, PySem.W.mg_of X G a_pools_of⟩, ⟨F_pool_of, b_pool_of, PySem.W.mg_of X G a_pool_of⟩, ⟨F_shows, b_shows, PySem.W.mg_of X G a_shows⟩, ⟨F_shows_for, b_shows_for, PySem.W.mg_of X G a_shows_for⟩, ⟨F_tie_shows, b_tie_shows, PySem.W.mg_of X G a_tie_shows⟩, ⟨F_short_shows, b_short_shows, PySem.W.mg_of X G a_short_shows⟩, ⟨F_is_list_of_blocks, b_is_list_of_blocks, PySem.W.mg_of X G a_is_list_of_blocks⟩, ⟨F_split_shows, b_split_shows, PySem.W.mg_of X G a_split_shows⟩, ⟨F_is_split, b_is_split, PySem.W.mg_of X G a_is_split⟩, ⟨F_deal, b_deal, PySem.W.mg_of X G a_deal⟩, ⟨F_settle, b_settle, PySem.W.mg_of X G a_settle⟩, ⟨F_short_places, b_short_places, PySem.W.mg_of X G a_short_places⟩, ⟨F_hands_of, b_hands_of, PySem.W.mg_of X G a_hands_of⟩, ⟨F_fits, b_fits, PySem.W.mg_of X G a_fits⟩, ⟨F_plan, b_plan, PySem.W.mg_of X G a_plan⟩, ⟨F_plan_from, b_plan_from, PySem.W.mg_of X G a_plan_from⟩, ⟨F_law_cell, b_law_cell, PySem.W.mg_of X G a_law_cell⟩, ⟨F_law_whole, b_law_whole, PySem.W.mg_of X G a_law_whole⟩, ⟨F_law_menu, b_law_menu, PySem.W.mg_of X G a_law_menu⟩, ⟨F_law_bond, b_law_bond, PySem.W.mg_of X G a_law_bond⟩, ⟨F_law_drawn, b_law_drawn, PySem.W.mg_of X G a_law_drawn⟩, ⟨F_law_unlike, b_law_unlike, PySem.W.mg_of X G a_law_unlike⟩, ⟨F_law_breaks, b_law_breaks, PySem.W.mg_of X G a_law_breaks⟩, ⟨F_law_in_all, b_law_in_all, PySem.W.mg_of X G a_law_in_all⟩, ⟨F_law_pool, b_law_pool, PySem.W.mg_of X G a_law_pool⟩, ⟨F_law_short, b_law_short, PySem.W.mg_of X G a_law_short⟩, ⟨F_law_blocks, b_law_blocks, PySem.W.mg_of X G a_law_blocks⟩, ⟨F_law_honest, b_law_honest, PySem.W.mg_of X G a_law_honest⟩, ⟨F_law_harder, b_law_harder, PySem.W.mg_of X G a_law_harder⟩, ⟨F_law_hands, b_law_hands, PySem.W.mg_of X G a_law_hands⟩, ⟨F_law, b_law, PySem.W.mg_of X G a_law⟩⟩) T⟩
theorem walk {l : PySem.W.OpenLaw} {q : Program} {loose : List Str} {XP : (Str → Option Value) → Heap → Prop} {YP : World → Heap → Prop} {d : DefRec} {K : Params → PySem.W.Frag} (hn : l.most = some 63) (hdf : d.params.defaults = [])
    (hY : ∀ (w : World) (h : Heap), YP w h → (K w.params).In h)
    (F : ∀ (w : World) (mg : Str → Option Value) (fa : Addr) (h : Heap), (K w.params).In h → h.Ns mainGlobals mg → mg d.name = some (.ref fa) →
      ∃ fd : FuncData, (∀ (s : Shared) (u : Value), BindsTo s fd ⟨[u], []⟩ [("script", u)]) ∧ ∀ base : Heap, (K w.params).In base → base.Ns mainGlobals mg → FnOk l.prog w (K w.params) mg base CX0 39 fa fd ["script"] (sp_law (K w.params))) :
    PySem.W.WalkO q loose XP YP l.row.toRowW d [] (fun f vs => PySem.call f vs) :=
  L2.walk_of (n := 63) (k := 39) (x := "script") (CX := fun _ => CX0) (sp := fun w => sp_law (K w.params)) hn (by decide) hdf ⟨rfl, by decide, by decide⟩ hY F (fun _ _ a ns hl _ hS => ⟨a, ns, rfl, hS, hl, fun _ => rfl⟩) fun _ _ _ _ _ z => z
end My
open PySem PySem.W PyProof.Rows
set_option maxRecDepth 100000 in
set_option maxHeartbeats 0 in
theorem PySem.Challenge.cw_deskround_k26_whole_papers_are_sound_holds : PySem.Challenge.rw_deskround_k26_whole_papers_are_sound.Holds := by
  w_on; o_law; k_head; (case hw => w_witness2)
  k_fill
  refine My.walk (l := PySem.Challenge.rw_deskround_k26_whole_papers_are_sound) rfl rfl (fun w h Y => PySem.W.kIn_of Y) ?F
  case F =>
    intro w mg fa h KX G hmg
    refine' My.all_mk KX G hmg ?a_is_whole ?l_is_whole ?c_is_whole ?k_is_whole ?a_is_rising ?l_is_rising ?c_is_rising ?k_is_rising ?a_common ?l_common ?c_common ?k_common ?a_joined ?l_joined ?c_joined ?k_joined ?a_width ?l_width ?c_width ?k_width ?a_grown ?l_grown ?c_grown ?k_grown ?a_keeps ?l_keeps ?c_keeps ?k_keeps ?a_breaks ?l_breaks ?c_breaks ?k_breaks ?a_first_broken ?l_first_broken ?c_first_broken ?k_first_broken ?a_unlike ?l_unlike ?c_unlike ?k_unlike ?a_pools_of ?l_pools_of ?c_pools_of ?k_pools_of ?a_pool_of ?l_pool_of ?c_pool_of ?k_pool_of ?a_shows ?l_shows ?c_shows ?k_shows ?a_shows_for ?l_shows_for ?c_shows_for ?k_shows_for ?a_tie_shows ?l_tie_shows ?c_tie_shows ?k_tie_shows ?a_short_shows ?l_short_shows ?c_short_shows ?k_short_shows ?a_is_list_of_blocks ?l_is_list_of_blocks ?c_is_list_of_blocks ?k_is_list_of_blocks ?a_split_shows ?l_split_shows ?c_split_shows ?k_split_shows ?a_is_split ?l_is_split ?c_is_split ?k_is_split ?a_deal ?l_deal ?c_deal ?k_deal ?a_settle ?l_settle ?c_settle ?k_settle ?a_short_places ?l_short_places ?c_short_places ?k_short_places ?a_hands_of ?l_hands_of ?c_hands_of ?k_hands_of ?a_fits ?l_fits ?c_fits ?k_fits ?a_plan ?l_plan ?c_plan ?k_plan ?a_plan_from ?l_plan_from ?c_plan_from ?k_plan_from ?a_law_cell ?l_law_cell ?c_law_cell ?k_law_cell ?a_law_whole ?l_law_whole ?c_law_whole ?k_law_whole ?a_law_menu ?l_law_menu ?c_law_menu ?k_law_menu ?a_law_bond ?l_law_bond ?c_law_bond ?k_law_bond ?a_law_drawn ?l_law_drawn ?c_law_drawn ?k_law_drawn ?a_law_unlike ?l_law_unlike ?c_law_unlike ?k_law_unlike ?a_law_breaks ?l_law_breaks ?c_law_breaks ?k_law_breaks ?a_law_in_all ?l_law_in_all ?c_law_in_all ?k_law_in_all ?a_law_pool ?l_law_pool ?c_law_pool ?k_law_pool ?a_law_short ?l_law_short ?c_law_short ?k_law_short ?a_law_blocks ?l_law_blocks ?c_law_blocks ?k_law_blocks ?a_law_honest ?l_law_honest ?c_law_honest ?k_law_honest ?a_law_harder ?l_law_harder ?c_law_harder ?k_law_harder ?a_law_hands ?l_law_hands ?c_law_hands ?k_law_hands ?a_law ?l_law ?c_law ?k_law ?z_all ?z_bool ?z_int ?z_isinstance ?z_len ?z_list ?z_max ?z_min ?z_range ?z_set ?z_sorted ?z_tuple ?z_zip
    (case a_is_whole => k_is); (case l_is_whole => k_is); (case c_is_whole => k_is); (case k_is_whole => k_is)
    (case a_is_rising => k_is); (case l_is_rising => k_is); (case c_is_rising => k_is); (case k_is_rising => k_is)
    (case a_common => k_is); (case l_common => k_is); (case c_common => k_is); (case k_common => k_is)
    (case a_joined => k_is); (case l_joined => k_is); (case c_joined => k_is); (case k_joined => k_is)
    (case a_width => k_is); (case l_width => k_is); (case c_width => k_is); (case k_width => k_is)
    (case a_grown => k_is); (case l_grown => k_is); (case c_grown => k_is); (case k_grown => k_is)
    (case a_keeps => k_is); (case l_keeps => k_is); (case c_keeps => k_is); (case k_keeps => k_is)
    (case a_breaks => k_is); (case l_breaks => k_is); (case c_breaks => k_is); (case k_breaks => k_is)
    (case a_first_broken => k_is); (case l_first_broken => k_is); (case c_first_broken => k_is); (case k_first_broken => k_is)
    (case a_unlike => k_is); (case l_unlike => k_is); (case c_unlike => k_is); (case k_unlike => k_is)
    (case a_pools_of => k_is); (case l_pools_of => k_is); (case c_pools_of => k_is); (case k_pools_of => k_is)
    (case a_pool_of => k_is); (case l_pool_of => k_is); (case c_pool_of => k_is); (case k_pool_of => k_is)
    (case a_shows => k_is); (case l_shows => k_is); (case c_shows => k_is); (case k_shows => k_is)
    (case a_shows_for => k_is); (case l_shows_for => k_is); (case c_shows_for => k_is); (case k_shows_for => k_is)
    (case a_tie_shows => k_is); (case l_tie_shows => k_is); (case c_tie_shows => k_is); (case k_tie_shows => k_is)
    (case a_short_shows => k_is); (case l_short_shows => k_is); (case c_short_shows => k_is); (case k_short_shows => k_is)
    (case a_is_list_of_blocks => k_is); (case l_is_list_of_blocks => k_is); (case c_is_list_of_blocks => k_is); (case k_is_list_of_blocks => k_is)
    (case a_split_shows => k_is); (case l_split_shows => k_is); (case c_split_shows => k_is); (case k_split_shows => k_is)
    (case a_is_split => k_is); (case l_is_split => k_is); (case c_is_split => k_is); (case k_is_split => k_is)
    (case a_deal => k_is); (case l_deal => k_is); (case c_deal => k_is); (case k_deal => k_is)
    (case a_settle => k_is); (case l_settle => k_is); (case c_settle => k_is); (case k_settle => k_is)
    (case a_short_places => k_is); (case l_short_places => k_is); (case c_short_places => k_is); (case k_short_places => k_is)
    (case a_hands_of => k_is); (case l_hands_of => k_is); (case c_hands_of => k_is); (case k_hands_of => k_is)
    (case a_fits => k_is); (case l_fits => k_is); (case c_fits => k_is); (case k_fits => k_is)
    (case a_plan => k_is); (case l_plan => k_is); (case c_plan => k_is); (case k_plan => k_is)
    (case a_plan_from => k_is); (case l_plan_from => k_is); (case c_plan_from => k_is); (case k_plan_from => k_is)
    (case a_law_cell => k_is); (case l_law_cell => k_is); (case c_law_cell => k_is); (case k_law_cell => k_is)
    (case a_law_whole => k_is); (case l_law_whole => k_is); (case c_law_whole => k_is); (case k_law_whole => k_is)
    (case a_law_menu => k_is); (case l_law_menu => k_is); (case c_law_menu => k_is); (case k_law_menu => k_is)
    (case a_law_bond => k_is); (case l_law_bond => k_is); (case c_law_bond => k_is); (case k_law_bond => k_is)
    (case a_law_drawn => k_is); (case l_law_drawn => k_is); (case c_law_drawn => k_is); (case k_law_drawn => k_is)
    (case a_law_unlike => k_is); (case l_law_unlike => k_is); (case c_law_unlike => k_is); (case k_law_unlike => k_is)
    (case a_law_breaks => k_is); (case l_law_breaks => k_is); (case c_law_breaks => k_is); (case k_law_breaks => k_is)
    (case a_law_in_all => k_is); (case l_law_in_all => k_is); (case c_law_in_all => k_is); (case k_law_in_all => k_is)
    (case a_law_pool => k_is); (case l_law_pool => k_is); (case c_law_pool => k_is); (case k_law_pool => k_is)
    (case a_law_short => k_is); (case l_law_short => k_is); (case c_law_short => k_is); (case k_law_short => k_is)
    (case a_law_blocks => k_is); (case l_law_blocks => k_is); (case c_law_blocks => k_is); (case k_law_blocks => k_is)
    (case a_law_honest => k_is); (case l_law_honest => k_is); (case c_law_honest => k_is); (case k_law_honest => k_is)
    (case a_law_harder => k_is); (case l_law_harder => k_is); (case c_law_harder => k_is); (case k_law_harder => k_is)
    (case a_law_hands => k_is); (case l_law_hands => k_is); (case c_law_hands => k_is); (case k_law_hands => k_is)
    (case a_law => k_is); (case l_law => k_is); (case c_law => k_is); (case k_law => k_is)
    (case z_all => k_is)
    (case z_bool => k_is)
    (case z_int => k_is)
    (case z_isinstance => k_is)
    (case z_len => k_is)
    (case z_list => k_is)
    (case z_max => k_is)
    (case z_min => k_is)
    (case z_range => k_is)
    (case z_set => k_is)
    (case z_sorted => k_is)
    (case z_tuple => k_is)
    (case z_zip => k_is)
