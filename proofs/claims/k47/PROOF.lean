import PyProof.Rows.All
import Wide.All
import OpenK.AllK
import Wide.FinOn
import Lean
import PyProof.EqAt
import PyProof.EqKinds
import PyProof.TupleCall
import PyProof.NeKinds
import PyProof.DictWalks
import PyProof.DictItems
import PyProof.CollectWalk
import KE.KDictList
import PyProof.AutoSeq1
import PyProof.Rows.Range3
import KE.KUnpack
import PyProof.MeetsSeq2
import PyProof.ZipIter
import KE.KRevSl
import PyProof.MeetsSeq
import PyProof.EnumMake
import PyProof.EnumFor
import PyProof.EnumStmt
import PyProof.MinMaxWalk
import PyProof.WalkInts
import PyProof.SumAny
import KE.KRevIter
import PyProof.Rows.FactsT2
import PyProof.IsiH_list
import PyProof.AttrMiss
import KE.KDictOf
import PyProof.ListRange
import KE.KDictLaws
import KE.KSortTup
import KE.KItemsList
import PyProof.ExcArgs
import PySem.Challenge.RW_deskround_k47_whole_lines
set_option bootstrap.genMatcherCode false
set_option Elab.async false
set_option linter.all false
set_option maxRecDepth 100000
namespace L2
open PySem PySem.Spec PyProof.Rows
noncomputable abbrev Key := Sum Int Str
noncomputable def keyIs : Key → Value → Bool
  | .inl k, v => Value.isInt k v
  | .inr x, v => Value.isStrOf x v
noncomputable def keyH (w : World) : Key → Int
  | .inl k => hashInt k
  | .inr x => hashStr w x
theorem keyIs_shape : ∀ {k : Key} {v : Value}, keyIs k v = true → (∃ i t, k = Sum.inl i ∧ v = Value.int i t) ∨ (∃ x t, k = Sum.inr x ∧ v = Value.str x t)
  | .inl i, v, h => by
    obtain ⟨t, e⟩ := Value.isInt_shape (k := i) (v := v) h
    exact .inl ⟨i, t, rfl, e⟩
  | .inr x, v, h => by
    obtain ⟨t, e⟩ := Value.isStrOf_shape (x := x) (v := v) h
    exact .inr ⟨x, t, rfl, e⟩
theorem key_ll (a b : Int) : decide ((Sum.inl a : Key) = Sum.inl b) = (a == b) := by
  by_cases e : a = b
  · subst e; simp
  · have h : ¬ (Sum.inl a : Key) = Sum.inl b := fun q => e (Sum.inl.inj q)
    rw [decide_eq_false h]
    exact (beq_eq_false_iff_ne.mpr e).symm
theorem key_rr (a b : Str) : decide ((Sum.inr a : Key) = Sum.inr b) = decide (a = b) := by
  by_cases e : a = b
  · subst e; simp
  · have h : ¬ (Sum.inr a : Key) = Sum.inr b := fun q => e (Sum.inr.inj q)
    rw [decide_eq_false h, decide_eq_false e]
theorem key_lr (a : Int) (b : Str) : decide ((Sum.inl a : Key) = Sum.inr b) = false := decide_eq_false (fun q => nomatch q)
theorem key_rl (a : Str) (b : Int) : decide ((Sum.inr a : Key) = Sum.inl b) = false := decide_eq_false (fun q => nomatch q)
noncomputable def mixKind (prog : Program) (w : World) : PySem.KeyKind prog w Key where
  is := keyIs
  hash := keyH w
  inj := fun v a b ha hb => by
    rcases keyIs_shape ha with ⟨i, t, rfl, rfl⟩ | ⟨x, t, rfl, rfl⟩
    · rcases keyIs_shape hb with ⟨j, u, rfl, e⟩ | ⟨y, u, rfl, e⟩
      · injection e with e1 _; rw [e1]
      · exact nomatch e
    · rcases keyIs_shape hb with ⟨j, u, rfl, e⟩ | ⟨y, u, rfl, e⟩
      · exact nomatch e
      · injection e with e1 _; rw [e1]
  byValue := fun k v h => by
    rcases keyIs_shape h with ⟨i, t, rfl, rfl⟩ | ⟨x, t, rfl, rfl⟩ <;> rfl
  pyHash := fun hv h => by
    rcases keyIs_shape hv with ⟨i, t, rfl, rfl⟩ | ⟨x, t, rfl, rfl⟩
    · exact wpAny_pyHash_int h
    · exact wpAny_pyHash_str h
  eqBool := fun hu hv h => by
    rcases keyIs_shape hu with ⟨i, t, rfl, rfl⟩ | ⟨x, t, rfl, rfl⟩
    · rcases keyIs_shape hv with ⟨j, u, rfl, rfl⟩ | ⟨y, u, rfl, rfl⟩
      · rw [key_ll] at h; exact wpAny_eqBool_int h
      · rw [key_lr] at h; exact SeqAt.EqAt.int_str i t y u _ _ _ _ h
    · rcases keyIs_shape hv with ⟨j, u, rfl, rfl⟩ | ⟨y, u, rfl, rfl⟩
      · rw [key_rl] at h; exact SeqAt.EqAt.str_int x t j u _ _ _ _ h
      · rw [key_rr] at h; exact wpAny_eqBool_str h
  «strs» := fun k x t v h => by
    rcases keyIs_shape h with ⟨i, u, rfl, e⟩ | ⟨y, u, rfl, e⟩
    · exact nomatch e
    · injection e with e1 _
      subst e1
      cases v <;> rfl
end L2
namespace L2
open PySem PySem.Spec PyProof.Rows
inductive V where
  | non | bl (b : Bool) | int (i : Int) | str (x : Str) | byt (b : Array UInt8) | flt (b : UInt64) | ref (a : Addr) | ty (n : String)
  deriving DecidableEq
noncomputable def RelV : V → Value → Prop
  | .non, u => u = Value.none
  | .bl b, u => u = Value.bool b
  | .int i, u => ∃ t, u = Value.int i t
  | .str x, u => ∃ t, u = Value.str x t
  | .byt b, u => ∃ t, u = Value.bytes b t
  | .flt b, u => ∃ t, u = Value.float b t
  | .ref a, u => u = Value.ref a
  | .ty n, u => u = Value.type n
noncomputable abbrev Vals : List V → List Value → Prop := Paired RelV
theorem Vals.length {xs : List V} {us : List Value} (r : Vals xs us) : xs.length = us.length := Paired.length r
theorem Vals.get : ∀ {xs : List V} {us : List Value} {i : Nat} {x : V}, Vals xs us → xs[i]? = some x → ∃ u, us[i]? = some u ∧ RelV x u := by
  intro xs us i x h
  induction h generalizing i with
  | nil => intro e; simp at e
  | cons r t ih =>
    intro e
    cases i with
    | zero => cases e; exact ⟨_, rfl, r⟩
    | succ i => exact ih e
theorem Vals.set {x : V} {u : Value} (r : RelV x u) : ∀ {xs : List V} {us : List Value} (i : Nat), Vals xs us → Vals (xs.set i x) (us.set i u) := by
  intro xs us i h
  induction h generalizing i with
  | nil => exact .nil
  | cons q t ih =>
    cases i with
    | zero => exact .cons r t
    | succ i => exact .cons q (ih i)
theorem Vals.append : ∀ {xs ys : List V} {us ws : List Value}, Vals xs us → Vals ys ws → Vals (xs ++ ys) (us ++ ws) := by
  intro xs ys us ws h s
  induction h with
  | nil => exact s
  | cons r t ih => exact .cons r ih
theorem Vals.take : ∀ {xs : List V} {us : List Value} (n : Nat), Vals xs us → Vals (xs.take n) (us.take n) := by
  intro xs us n h
  induction h generalizing n with
  | nil => cases n <;> exact .nil
  | cons r t ih =>
    cases n with
    | zero => exact .nil
    | succ n => exact .cons r (ih n)
theorem Vals.drop : ∀ {xs : List V} {us : List Value} (n : Nat), Vals xs us → Vals (xs.drop n) (us.drop n) := by
  intro xs us n h
  induction h generalizing n with
  | nil => cases n <;> exact .nil
  | cons r t ih =>
    cases n with
    | zero => exact .cons r t
    | succ n => exact ih n
noncomputable def RelO : Option V → Option Value → Prop
  | some v, some u => RelV v u
  | none, none => True
  | _, _ => False
noncomputable def KV {κ : Type} : List (κ × V) → List (κ × Value) → Prop := Paired fun (p : κ × V) (q : κ × Value) => p.1 = q.1 ∧ RelV p.2 q.2
noncomputable def kV : Key → V
  | .inl i => .int i
  | .inr x => .str x
inductive HO where
  /-- a list -/
  | lst (xs : List V)
  /-- a tuple (never changes) -/
  | tup (xs : List V)
  /-- a dict whose keys are ints and texts; one whose keys are tuples of ints and texts (the empty one is both) -/
  | dK (kvs : List (Key × V)) | dT (kvs : List (List Key × V))
  /-- a set of ints: its members, its size -/
  | set (S : Int → Bool) (n : Nat)
  /-- an instance of the class at C, its dict at dx, its attributes -/
  | ins (C dx : Addr) (fs : List (Str × V))
  /-- the dict of the instance at x -/
  | own (x : Addr)
  /-- the dict of an exception -/
  | xd (fs : List (Str × V))
  /-- a bound method, f of x -/
  | met (f x : Addr)
  /-- a range object lo, lo + 1, .. below hi -/
  | rng (lo hi : Int)
  /-- a thing that is known to the object (the script; a dict while a loop walks it): read, never written while it is so -/
  | frz (o : Obj) (u : HO)
  /-- a code object's table -/
  | tbl (ps : Array Value)
  /-- any other thing, by what is true of its one object (a def of one's own: SetO a S n := HO.ext fun h => ..) -/
  | ext (φ : Heap → Prop)
noncomputable abbrev Hp := Addr → Option HO
noncomputable def upd (H : Hp) (a : Addr) (o : HO) : Hp := fun b => if b = a then some o else H b
theorem upd_same {H : Hp} {a : Addr} {o : HO} : upd H a o a = some o := by unfold upd; rw [if_pos rfl]
theorem upd_ne {H : Hp} {a b : Addr} {o : HO} (h : b ≠ a) : upd H a o b = H b := by unfold upd; rw [if_neg h]
theorem ne_of_none {H : Hp} {a b : Addr} {o : HO} (h : H a = some o) (h' : H b = none) : a ≠ b := by
  intro e; subst e; rw [h] at h'; cases h'
section
variable (P : Program) (w : World)
noncomputable def ObjOk (H : Hp) (h : Heap) (a : Addr) : HO → Prop
  | .lst xs => xs.length ≤ sizeLine ∧ ∃ (its : List Value) (n : Nat), Vals xs its ∧ h.get? a = some { cls := .type "list", data := .seq its.toArray n }
  | .tup xs => xs.length ≤ sizeLine ∧ ∃ its : List Value, Vals xs its ∧ IsTup h a its.toArray
  | .dK kvs => kvs.length ≤ sizeLine ∧ (a == sysModules) = false ∧ ∃ vs, KV kvs vs ∧ h.DictOf (mixKind P w) a vs
  | .dT kvs => kvs.length ≤ sizeLine ∧ (a == sysModules) = false ∧ ∃ xs : List (List Key × Addr × Value),
      Paired (fun (p : List Key × V) (q : List Key × Addr × Value) => p.1 = q.1 ∧ H q.2.1 = some (.tup (p.1.map kV)) ∧ RelV p.2 q.2.2) kvs xs ∧
      ∃ o es ep, h.get? a = some o ∧ o.ExactDict ∧ o.data = .dict es ep ∧ es.toList = xs.map (entryOfKey (tupleKind (mixKind P w))) ∧ (xs.map (·.1)).Nodup
  | .set S n => h.SetOf (intKind P w) a S n
  | .ins C dx fs => H dx = some (.own a) ∧ fs.length ≤ 1000 ∧ dx ≠ a ∧ h.get? a = some (PySem.W.instObj C dx) ∧
      ∃ mA, h.Ns1 dx mA ∧ (∀ f, RelO (fs.lookup f) (mA f)) ∧ PySem.Within mA (fs.map (·.1))
  | .own _ => ∃ o, h.get? a = some o
  | .xd fs => ∃ mA, h.Ns1 a mA ∧ ∀ f, RelO (fs.lookup f) (mA f)
  | .rng lo hi => ∃ t u v, h.get? a = some { cls := .type "range", data := .fields #[.int lo t, .int hi u, .int 1 v] }
  | .frz o u => h.get? a = some o ∧ ObjOk H h a u
  | .tbl ps => h.get? a = some { cls := .none, data := .fields ps }
  | .met f x => h.get? a = some (PySem.W.methodObj (.ref f) (.ref x))
  | .ext φ => φ h ∧ (∃ o, h.get? a = some o) ∧ ∀ h1 h2 : Heap, φ h1 → (∀ o, h1.get? a = some o → h2.get? a = some o) → φ h2
noncomputable def HOk (H : Hp) (h : Heap) : Prop := ∀ a o, H a = some o → ObjOk P w H h a o
end
section
variable {P : Program} {w : World} {H H' : Hp} {h h' : Heap} {a : Addr} {o : HO}
theorem ObjOk.lt (x : ObjOk P w H h a o) : a < h.objs.size := by
  cases o with
  | lst xs => obtain ⟨_, _, _, _, e⟩ := x; exact Heap.lt_size e
  | tup xs => obtain ⟨_, _, _, p⟩ := x; exact p.lt
  | dK kvs => obtain ⟨_, _, _, _, o, _, _, e, _⟩ := x; exact Heap.lt_size e
  | dT kvs => obtain ⟨_, _, _, _, o, _, _, e, _⟩ := x; exact Heap.lt_size e
  | set S n => obtain ⟨o, _, _, _, e, _⟩ := x; exact Heap.lt_size e
  | ins C dx fs => obtain ⟨_, _, _, e, _⟩ := x; exact Heap.lt_size e
  | own y => obtain ⟨_, e⟩ := x; exact Heap.lt_size e
  | xd fs => obtain ⟨_, ⟨_, _, _, e, _⟩, _⟩ := x; exact Heap.lt_size e
  | rng lo hi => obtain ⟨_, _, _, e⟩ := x; exact Heap.lt_size e
  | frz ob u => obtain ⟨e, _⟩ := x; exact Heap.lt_size e
  | tbl ps => exact Heap.lt_size (show h.get? a = some _ from x)
  | met f y => exact Heap.lt_size (show h.get? a = some _ from x)
  | ext φ => obtain ⟨_, ⟨_, e⟩, _⟩ := x; exact Heap.lt_size e
theorem Paired.mapP {α β : Type} {F G : α → β → Prop} : ∀ {l₁ : List α} {l₂ : List β}, Paired F l₁ l₂ → (∀ a b, F a b → G a b) → Paired G l₁ l₂ := by
  intro l₁ l₂ h f
  induction h with
  | nil => exact .nil
  | cons r t ih => exact .cons (f _ _ r) ih
theorem ObjOk.stay (x : ObjOk P w H h a o) (k : ∀ b u, (b = a ∨ H b = some (.own a)) → h.get? b = some u → h'.get? b = some u)
    (ho : ∀ b, H b = some (.own a) → H' b = some (.own a)) (ht : ∀ b xs, H b = some (.tup xs) → H' b = some (.tup xs)) : ObjOk P w H' h' a o := by
  induction o with
  | lst xs => obtain ⟨z, its, n, r, e⟩ := x; exact ⟨z, its, n, r, k _ _ (.inl rfl) e⟩
  | tup xs => obtain ⟨z, its, r, ob, e, c⟩ := x; exact ⟨z, its, r, ob, k _ _ (.inl rfl) e, c⟩
  | dK kvs => obtain ⟨z, y, vs, r, ob, es, ep, e, c⟩ := x; exact ⟨z, y, vs, r, ob, es, ep, k _ _ (.inl rfl) e, c⟩
  | dT kvs =>
    obtain ⟨z, y, xs, r, ob, es, ep, e, c⟩ := x
    exact ⟨z, y, xs, Paired.mapP r fun p q z => ⟨z.1, ht _ _ z.2.1, z.2.2⟩, ob, es, ep, k _ _ (.inl rfl) e, c⟩
  | set S n => obtain ⟨ob, es, ep, t, e, c⟩ := x; exact ⟨ob, es, ep, t, k _ _ (.inl rfl) e, c⟩
  | ins C dx fs =>
    obtain ⟨d, z, ne, e, mA, ⟨od, es, ep, e2, c⟩, r⟩ := x
    exact ⟨ho _ d, z, ne, k _ _ (.inl rfl) e, mA, ⟨od, es, ep, k _ _ (.inr d) e2, c⟩, r⟩
  | own y => obtain ⟨ob, e⟩ := x; exact ⟨ob, k _ _ (.inl rfl) e⟩
  | xd fs => obtain ⟨mA, ⟨od, es, ep, e, c⟩, r⟩ := x; exact ⟨mA, ⟨od, es, ep, k _ _ (.inl rfl) e, c⟩, r⟩
  | rng lo hi => obtain ⟨t, u, v, e⟩ := x; exact ⟨t, u, v, k _ _ (.inl rfl) e⟩
  | frz ob u ih => obtain ⟨e, q⟩ := x; exact ⟨k _ _ (.inl rfl) e, ih q⟩
  | tbl ps =>
    have e : h.get? a = some { cls := .none, data := .fields ps } := x
    show h'.get? a = some { cls := .none, data := .fields ps }
    exact k a _ (.inl rfl) e
  | met f y =>
    have e : h.get? a = some (PySem.W.methodObj (.ref f) (.ref y)) := x
    show h'.get? a = some (PySem.W.methodObj (.ref f) (.ref y))
    exact k a _ (.inl rfl) e
  | ext φ => obtain ⟨p, ⟨o, e⟩, st⟩ := x; exact ⟨st _ _ p fun o q => k _ _ (.inl rfl) q, ⟨o, k _ _ (.inl rfl) e⟩, st⟩
theorem HOk.lt (x : HOk P w H h) (e : H a = some o) : a < h.objs.size := (x a o e).lt
theorem HOk.fresh (x : HOk P w H h) (e : h.objs.size ≤ a) : H a = none := by
  cases q : H a with
  | none => rfl
  | some u => exact absurd (Nat.lt_of_lt_of_le (x.lt q) e) (Nat.lt_irrefl _)
theorem HOk.kept (x : HOk P w H h) (k : ∀ b u, h.get? b = some u → h'.get? b = some u) : HOk P w H h' := fun a o e =>
  (x a o e).stay (fun b u _ q => k b u q) (fun _ q => q) fun _ _ q => q
theorem HOk.laid (x : HOk P w H h) (k : ∀ b u, h.get? b = some u → h'.get? b = some u) (hp : h.objs.size ≤ a) (new : ObjOk P w (upd H a o) h' a o) : HOk P w (upd H a o) h' := fun b u e => by
  have hn := x.fresh hp
  by_cases hb : b = a
  · subst hb; rw [upd_same] at e; cases e; exact new
  · rw [upd_ne hb] at e
    exact (x b u e).stay (fun c v _ q => k c v q) (fun c q => by rw [upd_ne (ne_of_none q hn)]; exact q) fun c xs q => by rw [upd_ne (ne_of_none q hn)]; exact q
end
noncomputable def Rd (H : Hp) (a : Addr) (u : HO) : Prop := H a = some u ∨ ∃ o, H a = some (.frz o u)
theorem Rd.of {H : Hp} {a : Addr} {u : HO} (h : H a = some u) : Rd H a u := .inl h
theorem Rd.ok {P : Program} {w : World} {H : Hp} {h : Heap} {a : Addr} {u : HO} (r : Rd H a u) (x : HOk P w H h) : ObjOk P w H h a u := by
  rcases r with r | ⟨o, r⟩
  · exact x a u r
  · obtain ⟨_, q⟩ := x a _ r
    exact q
noncomputable def Mut : Option HO → Prop
  | some (.lst _) => True
  | some (.dK _) => True
  | some (.dT _) => True
  | some (.set _ _) => True
  | some (.ins _ _ _) => True
  | some (.ext _) => True
  | _ => False
section
variable {P : Program} {w : World} {H : Hp} {h h' : Heap} {x e : Addr} {o' : HO}
theorem HOk.write (ok : HOk P w H h) (mu : Mut (H x)) (he : e = x ∨ H e = some (.own x)) (k : ∀ b u, b ≠ e → h.get? b = some u → h'.get? b = some u) (heo : ∃ u, h'.get? e = some u)
    (new : ObjOk P w (upd H x o') h' x o') : HOk P w (upd H x o') h' := fun b u q => by
  have nown : ∀ c y, H c = some (.own y) → c ≠ x := fun c y r z => by subst z; rw [r] at mu; exact mu
  have ntup : ∀ c xs, H c = some (.tup xs) → c ≠ x := fun c xs r z => by subst z; rw [r] at mu; exact mu
  by_cases hb : b = x
  · subst hb; rw [upd_same] at q; cases q; exact new
  · rw [upd_ne hb] at q
    by_cases hbe : b = e
    · have q' : H b = some (.own x) := by
        rcases he with z | z
        · exact absurd (hbe.trans z) hb
        · rw [hbe]; exact z
      rw [q] at q'; cases q'
      obtain ⟨v, hv⟩ := heo
      exact ⟨v, by rw [hbe]; exact hv⟩
    · refine (ok b u q).stay (fun c v hc r => k c v ?_ r) (fun c r => by rw [upd_ne (nown c b r)]; exact r) fun c xs r => by rw [upd_ne (ntup c xs r)]; exact r
      rcases hc with rfl | hc
      · exact hbe
      · rintro rfl
        rcases he with z | z
        · exact nown c b hc z
        · rw [hc] at z; cases z; exact hb rfl
end
structure Un (fs ex : List Addr) (H H' : Hp) (h h' : Heap) : Prop where
  keep : ∀ b o, h.get? b = some o → H b = none → b ∉ fs → b ∉ ex → h'.get? b = some o
  slot : ∀ b o, h.get? b = some o → H b = none → b ∈ fs → b ∉ ex → ∃ sl, h'.get? b = some { o with slots := sl }
  free : ∀ b o, h.get? b = some o → H b = none → b ∉ ex → H' b = none
  there : ∀ b o, h.get? b = some o → b ∉ ex → ∃ o', h'.get? b = some o'
  tups : ∀ b xs, H b = some (.tup xs) → H' b = some (.tup xs)
  frzs : ∀ b o u, H b = some (.frz o u) → H' b = some (.frz o u)
  tbls : ∀ b ps, H b = some (.tbl ps) → ∃ more, H' b = some (.tbl (ps ++ more))
section
variable {fs fs' ex ex' : List Addr} {H H1 H2 : Hp} {h h1 h2 h' : Heap} {a x e : Addr} {o : HO}
theorem Un.any (u : Un fs ex H H1 h h1) {b : Addr} {ob : Obj} (q : h.get? b = some ob) (n : H b = none) (hx : b ∉ ex) : ∃ sl, h1.get? b = some { ob with slots := sl } := by
  by_cases hb : b ∈ fs
  · exact u.slot b ob q n hb hx
  · exact ⟨ob.slots, u.keep b ob q n hb hx⟩
theorem Un.trans (a : Un fs ex H H1 h h1) (b : Un fs ex H1 H2 h1 h2) : Un fs ex H H2 h h2 where
  keep := fun c ob q n hc hx => b.keep c ob (a.keep c ob q n hc hx) (a.free c ob q n hx) hc hx
  slot := fun c ob q n hc hx => by
    obtain ⟨sl, e1⟩ := a.slot c ob q n hc hx
    obtain ⟨sl', e2⟩ := b.slot c _ e1 (a.free c ob q n hx) hc hx
    exact ⟨sl', e2⟩
  free := fun c ob q n hx => by
    obtain ⟨o', e1⟩ := a.there c ob q hx
    exact b.free c o' e1 (a.free c ob q n hx) hx
  there := fun c ob q hx => by
    obtain ⟨o', e1⟩ := a.there c ob q hx
    exact b.there c o' e1 hx
  tups := fun c xs q => b.tups c xs (a.tups c xs q)
  frzs := fun c ob xs q => b.frzs c ob xs (a.frzs c ob xs q)
  tbls := fun c ps q => by
    obtain ⟨m1, e1⟩ := a.tbls c ps q
    obtain ⟨m2, e2⟩ := b.tbls c _ e1
    exact ⟨m1 ++ m2, by rw [e2, Array.append_assoc]⟩
theorem Un.kept (k : ∀ b u, h.get? b = some u → h'.get? b = some u) : Un fs ex H H h h' :=
  ⟨fun b ob q _ _ _ => k b ob q, fun b ob q _ _ _ => ⟨ob.slots, k b ob q⟩, fun _ _ _ n _ => n, fun b ob q _ => ⟨ob, k b ob q⟩, fun _ _ q => q, fun _ _ _ q => q, fun _ ps q => ⟨#[], by rw [q]; simp⟩⟩
theorem Un.refl : Un fs ex H H h h := Un.kept fun _ _ q => q
theorem Un.laid (k : ∀ b u, h.get? b = some u → h'.get? b = some u) (hp : h.objs.size ≤ a) (hn : H a = none) : Un fs ex H (upd H a o) h h' where
  keep := fun b u q _ _ _ => k b u q
  slot := fun b u q _ _ _ => ⟨u.slots, k b u q⟩
  free := fun b u q n _ => by rw [upd_ne (Nat.ne_of_lt (Nat.lt_of_lt_of_le (Heap.lt_size q) hp))]; exact n
  there := fun b u q _ => ⟨u, k b u q⟩
  tups := fun b xs q => by rw [upd_ne (ne_of_none q hn)]; exact q
  frzs := fun b u xs q => by rw [upd_ne (ne_of_none q hn)]; exact q
  tbls := fun b ps q => ⟨#[], by rw [upd_ne (ne_of_none q hn), q]; simp⟩
theorem Un.write (mu : Mut (H x)) (he : e = x ∨ H e = some (.own x)) (k : ∀ b u, b ≠ e → h.get? b = some u → h'.get? b = some u) (heo : ∃ u, h'.get? e = some u) : Un fs ex H (upd H x o) h h' := by
  have hx : ∀ b, H b = none → b ≠ x := fun b n z => by subst z; rw [n] at mu; exact mu
  have hb : ∀ b, H b = none → b ≠ e := fun b n z => by
    subst z
    rcases he with r | r
    · exact hx b n r
    · rw [n] at r; cases r
  have hm : ∀ b u, H b = some u → ¬ Mut (some u) → b ≠ x := fun b u q nm z => by subst z; rw [q] at mu; exact nm mu
  refine ⟨fun b u q n _ _ => k b u (hb b n) q, fun b u q n _ _ => ⟨u.slots, k b u (hb b n) q⟩, fun b u q n _ => by rw [upd_ne (hx b n)]; exact n, fun b u q _ => ?_,
    fun b xs q => by rw [upd_ne (hm b _ q fun z => z)]; exact q, fun b u xs q => by rw [upd_ne (hm b _ q fun z => z)]; exact q, fun b ps q => ⟨#[], by rw [upd_ne (hm b _ q fun z => z), q]; simp⟩⟩
  by_cases hbe : b = e
  · subst hbe; exact heo
  · exact ⟨u, k b u hbe q⟩
end
noncomputable def trk (h : Heap) (H : Hp) : List Addr := (List.range h.objs.size).filter fun a => (H a).isSome
noncomputable def hidT (h : Heap) (H : Hp) : Heap := PySem.W.hideAll h (trk h H)
theorem hidT_size (h : Heap) (H : Hp) : (hidT h H).objs.size = h.objs.size := PySem.W.hideAll_size _ _
theorem hidT_get {h : Heap} {H : Hp} {b : Addr} {o : Obj} (e : h.get? b = some o) (n : H b = none) : (hidT h H).get? b = some o :=
  PySem.W.hideAll_get _ e fun hm => by
    have q : (H b).isSome = true := (List.mem_filter.mp hm).2
    rw [n] at q; simp at q
theorem of_hidT {h : Heap} {H : Hp} {b : Addr} {o : Obj} (e : (hidT h H).get? b = some o) : h.get? b = some o ∧ H b = none := by
  have e' : h.get? b = some o := PySem.W.of_hideAll (trk h H) e
  refine ⟨e', ?_⟩
  cases q : H b with
  | none => rfl
  | some x =>
    have hm : b ∈ trk h H := List.mem_filter.mpr ⟨List.mem_range.mpr (Heap.lt_size e'), by simp [q]⟩
    have z : (hidT h H).get? b = none := PySem.W.hideAll_none (trk h H) hm
    rw [z] at e; cases e
noncomputable def allNews (g h : Heap) (L : Addr) : List (Addr × Obj) := (List.range h.objs.size).filterMap fun a => if a = L ∨ (g.get? a).isSome = true then none else (h.get? a).map fun o => (a, o)
noncomputable def rest (g h : Heap) (L d : Addr) : List (Addr × Obj) := (allNews g h L).filter fun p => decide (p.1 ≠ d)
end L2
namespace L2
open PySem PySem.Spec PyProof.Rows
structure Mod (K : PySem.W.Frag) (mg : Str → Option Value) (base : Heap) : Prop where
  kin : K.In base
  glob : base.Ns mainGlobals mg
  blt : ∃ mb, base.Ns builtinsNs mb ∧ ∀ x : Str, x ≠ "__name__" → mb x = bootBuiltins x
  nolimit : base.NoLimit
/-- the context: a def's body (or a comprehension's block) running. base: fixed through the whole law; s₀, H₀: the entry; outer: the frames whose slots others may change (a def's callers); stack: all frames that run;
   ex: iterators that were made ahead of the entry and are walked here (a comprehension's); fn: the names whose cells were made at the entry (a def: all; a comprehension's block: its own); calm: not within an except suite; pn: pins that every state bears; xe: what is wanted of an exception that leaves the code -/
structure Cx where
  prog : Program
  w : World
  K : PySem.W.Frag
  mg : Str → Option Value
  base : Heap
  A : Around
  N : List Str
  s₀ : Shared
  H₀ : Hp
  env : Env
  outer : List Env
  stack : List Env
  ex : List Addr
  fn : Str → Bool
  calm : Bool
  pn : List (Addr × Obj)
  xe : Value → Shared → Prop
noncomputable def frs (l : List Env) : List Addr := l.filterMap (·.frame)
noncomputable abbrev Cx.fs (X : Cx) : List Addr := frs X.outer
noncomputable def Vis (sc : Scope) (x : Str) : Prop := sc.names.lookup x = some .local ∨ sc.names.lookup x = some .cell ∨ sc.names.lookup x = some .free
noncomputable def Loc (sc : Scope) (x : Str) : Prop := sc.names.lookup x = some .local ∨ sc.names.lookup x = some .cell
noncomputable def Look (env : Env) (h : Heap) (m : Str → Option Value) (x : Str) (u : Value) : Prop :=
  (env.kindOf x = some .local ∧ m x = some u) ∨ ((env.kindOf x = some .cell ∨ env.kindOf x = some .free) ∧ ∃ c, env.cells.lookup x = some c ∧ h.IsCell c (some u))
structure Cx.Ok (X : Cx) : Prop where
  mod : Mod X.K X.mg X.base
  kind : X.env.scope.kind = .function
  glob : X.env.globals = mainGlobals
  blt : X.env.builtins = builtinsNs
  above : X.s₀.heap.objs.size ≤ X.env.locals
  inj : ∀ x y c, X.env.cells.lookup x = some c → X.env.cells.lookup y = some c → x = y
  has : ∀ x, (X.env.kindOf x = some .cell ∨ X.env.kindOf x = some .free) → ∃ c, X.env.cells.lookup x = some c
  cab : ∀ x c, X.fn x = true → X.env.cells.lookup x = some c → X.s₀.heap.objs.size ≤ c
  hd : X.calm = true → X.A.handled = none
  frames : X.A.frames = some X.stack
  stk : X.stack = X.outer ∨ (X.stack = X.env :: X.outer ∧ X.env.frame = some X.env.locals)
  exf : ∀ b ∈ X.ex, b ≠ X.env.locals ∧ ∀ x c, X.env.cells.lookup x = some c → c ≠ b
  bs : ∀ b o, X.base.get? b = some o → X.s₀.heap.get? b = some o ∧ X.H₀ b = none
  bsz : X.base.objs.size ≤ X.s₀.heap.objs.size
  noex : ∀ b o, X.base.get? b = some o → b ∉ X.ex
  exfs : ∀ b ∈ X.ex, b ∉ X.fs
  funs : X.s₀.heap.FunFrames X.base X.outer
  frf : ∀ b ∈ X.fs, X.H₀ b = none
structure Inv (X : Cx) (pins : List (Addr × Obj)) (σ : List (Option V)) (H : Hp) (s : Shared) : Prop where
  ok : X.Ok
  os : s.os = X.s₀.os
  bare : AllBare s.gens
  base : Un X.fs X.ex X.H₀ H X.s₀.heap s.heap
  loc : ∃ m, s.heap.Ns X.env.locals m ∧ ∀ (i : Nat) (x : Str) (v : V), X.N[i]? = some x → σ[i]? = some (some v) → Vis X.env.scope x → ∃ u, RelV v u ∧ Look X.env s.heap m x u
  cell : ∀ x c, X.env.cells.lookup x = some c → ∃ v, s.heap.IsCell c v
  free : H X.env.locals = none
  freeC : ∀ x c, X.env.cells.lookup x = some c → H c = none
  pin : ∀ p ∈ X.pn ++ pins, s.heap.get? p.1 = some p.2 ∧ H p.1 = none ∧ p.1 ≠ X.env.locals ∧ p.1 ∉ X.fs ∧ ∀ v, p.2.data ≠ .cell v
  hok : HOk X.prog X.w H s.heap
  len : σ.length = X.N.length
section
variable {X : Cx} {pins : List (Addr × Obj)} {σ : List (Option V)} {H H' : Hp} {s : Shared} {h' : Heap}
theorem Cx.Ok.nofr (ok : X.Ok) {b : Addr} {o : Obj} (e : X.base.get? b = some o) : b ∉ X.fs := fun hb => by
  have := (ok.funs.mem hb).1
  rw [e] at this; cases this
theorem Inv.bs (I : Inv X pins σ H s) : ∀ b o, X.base.get? b = some o → s.heap.get? b = some o ∧ H b = none := fun b o e =>
  ⟨I.base.keep b o (I.ok.bs b o e).1 (I.ok.bs b o e).2 (I.ok.nofr e) (I.ok.noex b o e), I.base.free b o (I.ok.bs b o e).1 (I.ok.bs b o e).2 (I.ok.noex b o e)⟩
theorem Inv.bk (I : Inv X pins σ H s) : ∀ b o, X.base.get? b = some o → s.heap.get? b = some o := fun b o e => (I.bs b o e).1
theorem Inv.mod (I : Inv X pins σ H s) : Mod X.K X.mg X.base := I.ok.mod
theorem Inv.kIn (I : Inv X pins σ H s) : X.K.In s.heap := I.ok.mod.kin.keeps I.bk
theorem Inv.fr (I : Inv X pins σ H s) : ∃ m, Fr X.base X.env.locals s.heap m :=
  let ⟨m, hn, _⟩ := I.loc
  ⟨m, hn, I.bk, Nat.le_trans I.ok.bsz I.ok.above⟩
theorem Inv.lt (I : Inv X pins σ H s) : X.env.locals < s.heap.objs.size := let ⟨_, hn, _⟩ := I.loc; hn.lt
theorem Inv.sz (I : Inv X pins σ H s) : X.s₀.heap.objs.size ≤ s.heap.objs.size := Nat.le_trans I.ok.above (Nat.le_of_lt I.lt)
theorem Inv.nofs (I : Inv X pins σ H s) {a : Addr} (h : s.heap.objs.size ≤ a) : a ∉ X.fs := fun hb => by
  obtain ⟨_, o, ho, _⟩ := I.ok.funs.mem hb
  exact absurd (Nat.lt_of_lt_of_le (Heap.lt_size ho) (Nat.le_trans I.sz h)) (Nat.lt_irrefl _)
theorem Inv.cne (I : Inv X pins σ H s) : ∀ x c, X.env.cells.lookup x = some c → c ≠ X.env.locals := fun x c e z => by
  obtain ⟨v, o, ho, hd⟩ := I.cell x c e
  obtain ⟨m, ⟨o', es, ep, ho', hd', _⟩, _⟩ := I.loc
  rw [z, ho'] at ho; cases ho; rw [hd'] at hd; cases hd
theorem Inv.funs (I : Inv X pins σ H s) : s.heap.FunFrames X.base X.outer := by
  have all : ∀ (l : List Env), (∀ b ∈ frs l, b ∈ X.fs) → X.s₀.heap.FunFrames X.base l → s.heap.FunFrames X.base l := by
    intro l
    induction l with
    | nil => intro _ _; trivial
    | cons env r ih =>
      intro hs hl
      obtain ⟨hk, ⟨L, o, hf, hn, ho, hd⟩, hr⟩ := hl
      have hL : L ∈ X.fs := hs L (by unfold frs; rw [List.filterMap_cons, hf]; exact List.mem_cons_self)
      obtain ⟨sl, e⟩ := I.base.slot L o ho (I.ok.frf L hL) hL fun z => I.ok.exfs L z hL
      exact ⟨hk, ⟨L, _, hf, hn, e, hd⟩, ih (fun b hb => hs b (by unfold frs; rw [List.filterMap_cons, hf]; exact List.mem_cons_of_mem _ hb)) hr⟩
  exact all X.outer (fun _ hb => hb) I.ok.funs
theorem Inv.stack (I : Inv X pins σ H s) : s.heap.FunFrames X.base X.stack := by
  rcases I.ok.stk with e | ⟨e, hf⟩
  · rw [e]; exact I.funs
  · rw [e]
    obtain ⟨m, hn, _⟩ := I.loc
    refine .cons (by rw [I.ok.kind]; decide) hf hn ?_ I.funs
    exact Heap.get?_none_of_le (Nat.le_trans I.ok.bsz I.ok.above)
theorem Inv.stkSub (I : Inv X pins σ H s) : ∀ b ∈ frs X.stack, b ∈ X.env.locals :: X.fs := fun b hb => by
  rcases I.ok.stk with e | ⟨e, hf⟩
  · rw [e] at hb; exact List.mem_cons_of_mem _ hb
  · rw [e] at hb
    unfold frs at hb
    rw [List.filterMap_cons, hf] at hb
    exact hb
theorem Inv.stkFree (I : Inv X pins σ H s) : ∀ b ∈ frs X.stack, H b = none := fun b hb => by
  rcases List.mem_cons.mp (I.stkSub b hb) with e | hb
  · rw [e]; exact I.free
  · obtain ⟨_, o, ho, _⟩ := I.ok.funs.mem hb
    exact I.base.free b o ho (I.ok.frf b hb) fun z => I.ok.exfs b z hb
theorem Inv.step {g' : Array GenState} {t' : Nat} {d' : Drawn} {ch : List Addr} (I : Inv X pins σ H s)
    (hch : ∀ b ∈ ch, (b ∈ X.ex ∨ X.s₀.heap.objs.size ≤ b) ∧ b ≠ X.env.locals ∧ (∀ x c, X.env.cells.lookup x = some c → c ≠ b) ∧ ∀ p ∈ X.pn ++ pins, p.1 ≠ b)
    (keep : ∀ b o, b ≠ X.env.locals → b ∉ X.fs → b ∉ ch → s.heap.get? b = some o → H b = none → h'.get? b = some o)
    (slot : ∀ b o, b ≠ X.env.locals → b ∈ X.fs → b ∉ ch → s.heap.get? b = some o → H b = none → ∃ sl, h'.get? b = some { o with slots := sl }) (free : ∀ b o, b ∉ ch → s.heap.get? b = some o → H b = none → H' b = none)
    (there : ∀ b o, b ∉ ch → s.heap.get? b = some o → ∃ o', h'.get? b = some o')
    (tups : ∀ b xs, H b = some (.tup xs) → H' b = some (.tup xs)) (frzs : ∀ b o u, H b = some (.frz o u) → H' b = some (.frz o u)) (tbls : ∀ b ps, H b = some (.tbl ps) → ∃ more, H' b = some (.tbl (ps ++ more)))
    (ns : ∀ m, s.heap.Ns X.env.locals m → h'.Ns X.env.locals m) (hok : HOk X.prog X.w H' h') (hg : AllBare g') :
    Inv X pins σ H' { s with heap := h', gens := g', drawn := d', toks := t' } := by
  have neL : ∀ b o, X.s₀.heap.get? b = some o → b ≠ X.env.locals := fun b o e => Nat.ne_of_lt (Nat.lt_of_lt_of_le (Heap.lt_size e) I.ok.above)
  have neC : ∀ b o, X.s₀.heap.get? b = some o → b ∉ X.ex → b ∉ ch := fun b o e hx hb => by
    rcases (hch b hb).1 with z | z
    · exact hx z
    · exact absurd (Nat.lt_of_lt_of_le (Heap.lt_size e) z) (Nat.lt_irrefl _)
  have cellK : ∀ x c, X.env.cells.lookup x = some c → ∀ v, s.heap.IsCell c v → h'.IsCell c v := fun x c e v ⟨o, ho, hd⟩ => by
    have nch : c ∉ ch := fun z => (hch c z).2.2.1 x c e rfl
    by_cases hc : c ∈ X.fs
    · obtain ⟨sl, q⟩ := slot c o (I.cne x c e) hc nch ho (I.freeC x c e)
      exact ⟨_, q, hd⟩
    · exact ⟨o, keep c o (I.cne x c e) hc nch ho (I.freeC x c e), hd⟩
  refine ⟨I.ok, I.os, hg, ⟨fun b o e n hb hx => ?_, fun b o e n hb hx => ?_, fun b o e n hx => ?_, fun b o e hx => ?_, fun b xs e => tups b xs (I.base.tups b xs e), fun b o xs e => frzs b o xs (I.base.frzs b o xs e), fun b ps e => ?_⟩, ?_, fun x c e => ?_, ?_, fun x c e => ?_, fun p hp => ?_, hok, I.len⟩
  · exact keep b o (neL b o e) hb (neC b o e hx) (I.base.keep b o e n hb hx) (I.base.free b o e n hx)
  · obtain ⟨sl, e1⟩ := I.base.slot b o e n hb hx
    obtain ⟨sl', e2⟩ := slot b _ (neL b o e) hb (neC b o e hx) e1 (I.base.free b o e n hx)
    exact ⟨sl', e2⟩
  · obtain ⟨o', e1⟩ := I.base.there b o e hx
    exact free b o' (neC b o e hx) e1 (I.base.free b o e n hx)
  · obtain ⟨o', e1⟩ := I.base.there b o e hx
    exact there b o' (neC b o e hx) e1
  · obtain ⟨m1, e1⟩ := I.base.tbls b ps e
    obtain ⟨m2, e2⟩ := tbls b _ e1
    exact ⟨m1 ++ m2, by rw [e2, Array.append_assoc]⟩
  · obtain ⟨m, hn, hl⟩ := I.loc
    refine ⟨m, ns m hn, fun i x v e1 e2 e3 => ?_⟩
    obtain ⟨u, r, l⟩ := hl i x v e1 e2 e3
    refine ⟨u, r, ?_⟩
    rcases l with l | ⟨k, c, e, z⟩
    · exact .inl l
    · exact .inr ⟨k, c, e, cellK x c e _ z⟩
  · obtain ⟨v, z⟩ := I.cell x c e
    exact ⟨v, cellK x c e v z⟩
  · obtain ⟨m, ⟨o, _, _, ho, _⟩, _⟩ := I.loc
    exact free _ o (fun z => (hch _ z).2.1 rfl) ho I.free
  · obtain ⟨v, o, ho, hd⟩ := I.cell x c e
    exact free c o (fun z => (hch c z).2.2.1 x c e rfl) ho (I.freeC x c e)
  · obtain ⟨e, n, ne, nf, d⟩ := I.pin p hp
    have nch : p.1 ∉ ch := fun z => (hch p.1 z).2.2.2 p hp rfl
    exact ⟨keep p.1 p.2 ne nf nch e n, free p.1 p.2 nch e n, ne, nf, d⟩
theorem Inv.un {t' : Nat} (I : Inv X pins σ H s) (u : Un X.fs [] H H' s.heap h') (hok : HOk X.prog X.w H' h') : Inv X pins σ H' { s with heap := h', toks := t' } := by
  obtain ⟨m, ⟨o, es, ep, ho, r⟩, _⟩ := id I.loc
  obtain ⟨sl, hL⟩ := u.any ho I.free (by simp)
  exact I.step (g' := s.gens) (d' := s.drawn) (ch := []) (fun _ z => nomatch z) (fun b o _ hb _ e n => u.keep b o e n hb (by simp)) (fun b o _ hb _ e n => u.slot b o e n hb (by simp)) (fun b o _ e n => u.free b o e n (by simp)) (fun b o _ e => u.there b o e (by simp)) u.tups u.frzs u.tbls (fun m' hm => by
    obtain ⟨o', es', ep', ho', r'⟩ := hm
    rw [ho] at ho'; cases ho'
    exact ⟨_, es', ep', hL, r'⟩) hok I.bare
theorem Inv.call {g' : Array GenState} {t' : Nat} {d' : Drawn} {ch : List Addr} (I : Inv X pins σ H s) (u : Un (frs X.stack) ch H H' s.heap h') (hok : HOk X.prog X.w H' h') (hg : AllBare g')
    (hch : ∀ b ∈ ch, (b ∈ X.ex ∨ X.s₀.heap.objs.size ≤ b) ∧ b ≠ X.env.locals ∧ (∀ x c, X.env.cells.lookup x = some c → c ≠ b) ∧ ∀ p ∈ X.pn ++ pins, p.1 ≠ b) :
    Inv X pins σ H' { s with heap := h', gens := g', drawn := d', toks := t' } := by
  obtain ⟨m, ⟨o, es, ep, ho, r⟩, _⟩ := id I.loc
  obtain ⟨sl, hL⟩ := u.any ho I.free fun z => (hch _ z).2.1 rfl
  exact I.step (ch := ch) hch (fun b o hL hb hc e n => u.keep b o e n (fun z => (List.mem_cons.mp (I.stkSub b z)).elim hL hb) hc) (fun b o _ _ hc e n => u.any e n hc) (fun b o hc e n => u.free b o e n hc) (fun b o hc e => u.there b o e hc) u.tups u.frzs u.tbls (fun m' hm => by
    obtain ⟨o', es', ep', ho', r'⟩ := hm
    rw [ho] at ho'; cases ho'
    exact ⟨_, es', ep', hL, r'⟩) hok hg
theorem Inv.turned {t' : Nat} {it : Addr} (I : Inv X pins σ H s) (k : ∀ b o, b ≠ it → s.heap.get? b = some o → h'.get? b = some o) (hn : H it = none) (hL : it ≠ X.env.locals)
    (h1 : it ∈ X.ex ∨ X.s₀.heap.objs.size ≤ it) (h2 : ∀ x c, X.env.cells.lookup x = some c → c ≠ it) (h3 : ∀ p ∈ X.pn ++ pins, p.1 ≠ it) : Inv X pins σ H { s with heap := h', toks := t' } := by
  have nit : ∀ b u, H b = some u → b ≠ it := fun b u e z => by rw [z, hn] at e; cases e
  refine I.step (g' := s.gens) (d' := s.drawn) (ch := [it]) (fun b hb => ?_) (fun b o _ _ hc e _ => k b o (fun z => hc (by simp [z])) e) (fun b o _ _ hc e _ => ⟨o.slots, k b o (fun z => hc (by simp [z])) e⟩) (fun _ _ _ _ n => n)
    (fun b o hc e => ⟨o, k b o (fun z => hc (by simp [z])) e⟩) (fun _ _ e => e) (fun _ _ _ e => e) (fun b ps e => ⟨#[], by rw [e]; simp⟩) (fun m hm => ?_) (fun b u e => ?_) I.bare
  · have e : b = it := by simpa using hb
    subst e
    exact ⟨h1, hL, h2, h3⟩
  · obtain ⟨o, es, ep, ho, r⟩ := hm
    exact ⟨o, es, ep, k _ o (Ne.symm hL) ho, r⟩
  · refine (I.hok b u e).stay (fun c v hc q => k c v ?_ q) (fun _ q => q) fun _ _ q => q
    rcases hc with z | z
    · rw [z]; exact nit b u e
    · exact nit c _ z
theorem Inv.tok (I : Inv X pins σ H s) (t : Nat) : Inv X pins σ H { s with toks := t } := I.un (h' := s.heap) (t' := t) Un.refl I.hok
theorem Inv.kept {t' : Nat} (I : Inv X pins σ H s) (k : ∀ b u, s.heap.get? b = some u → h'.get? b = some u) : Inv X pins σ H { s with heap := h', toks := t' } := I.un (Un.kept k) (I.hok.kept k)
theorem Inv.laid {a : Addr} {o : HO} {t' : Nat} (I : Inv X pins σ H s) (k : ∀ b u, s.heap.get? b = some u → h'.get? b = some u) (hp : s.heap.objs.size ≤ a) (new : ObjOk X.prog X.w (upd H a o) h' a o) :
    Inv X pins σ (upd H a o) { s with heap := h', toks := t' } := I.un (Un.laid k hp (I.hok.fresh hp)) (I.hok.laid k hp new)
theorem Inv.write {x e : Addr} {o : HO} {t' : Nat} (I : Inv X pins σ H s) (mu : Mut (H x)) (he : e = x ∨ H e = some (.own x)) (k : ∀ b u, b ≠ e → s.heap.get? b = some u → h'.get? b = some u) (heo : ∃ u, h'.get? e = some u)
    (new : ObjOk X.prog X.w (upd H x o) h' x o) : Inv X pins σ (upd H x o) { s with heap := h', toks := t' } := I.un (Un.write mu he k heo) (I.hok.write mu he k heo new)
theorem Inv.weak {σ' : List (Option V)} (I : Inv X pins σ H s) (hl : σ'.length = σ.length) (w : ∀ (i : Nat) v, σ'[i]? = some (some v) → σ[i]? = some (some v)) : Inv X pins σ' H s :=
  ⟨I.ok, I.os, I.bare, I.base, let ⟨m, hn, hl'⟩ := I.loc; ⟨m, hn, fun i x v e1 e2 e3 => hl' i x v e1 (w i v e2) e3⟩, I.cell, I.free, I.freeC, I.pin, I.hok, hl.trans I.len⟩
theorem Inv.pins_of {pins' : List (Addr × Obj)} (I : Inv X pins σ H s) (h : ∀ p ∈ pins', s.heap.get? p.1 = some p.2 ∧ H p.1 = none ∧ p.1 ≠ X.env.locals ∧ p.1 ∉ X.fs ∧ ∀ v, p.2.data ≠ .cell v) : Inv X pins' σ H s :=
  ⟨I.ok, I.os, I.bare, I.base, I.loc, I.cell, I.free, I.freeC, fun p hp => (List.mem_append.mp hp).elim (fun z => I.pin p (List.mem_append_left _ z)) (h p), I.hok, I.len⟩
theorem nodup_ix {N : List Str} (hN : N.Nodup) {i j : Nat} {x : Str} (a : N[i]? = some x) (b : N[j]? = some x) : i = j := by
  obtain ⟨h1, e1⟩ := List.getElem?_eq_some_iff.mp a
  obtain ⟨h2, e2⟩ := List.getElem?_eq_some_iff.mp b
  exact (List.getElem_inj hN).mp (e1.trans e2.symm)
theorem store_ok2 {M : Model} {A : Around} {E : Value → Shared → Prop} {i : Nat} {x : Str} {v : V} {u : Value} {Q : Unit → Shared → Prop} (I : Inv X pins σ H s) (hN : X.N.Nodup) (hi : X.N[i]? = some x) (hx : Loc X.env.scope x) (r : RelV v u)
    (h : ∀ s', Inv X pins (σ.set i (some v)) H s' → (∃ a, Heap.SameBut a s.heap s'.heap ∧ (a = X.env.locals ∨ X.env.cells.lookup x = some a)) → Q () s') (hf : X.fn x = true ∨ X.env.scope.names.lookup x = some .local := by first | exact .inl rfl | exact .inr rfl | assumption) : wpAny M A (storeName X.env x u) Q E s := by
  obtain ⟨m, hn, hl⟩ := id I.loc
  have hcls : (X.env.scope.kind == .class || (X.env.scope.kind == .module && X.env.locals != X.env.globals)) = false := by rw [I.ok.kind]; rfl
  have hiσ : i < σ.length := by rw [I.len]; exact (List.getElem?_eq_some_iff.mp hi).1
  have cne := I.cne
  have tracked : ∀ {a : Addr} {h' : Heap}, (∃ o, s.heap.get? a = some o ∧ H a = none) → Heap.SameBut a s.heap h' → HOk X.prog X.w H h' := fun {a h'} ha hs b ob e => by
    obtain ⟨_, _, hfree⟩ := ha
    refine (I.hok b ob e).stay (fun c w' hc q => (hs.2 c ?_).trans q) (fun _ q => q) fun _ _ q => q
    rintro rfl
    rcases hc with rfl | hc
    · rw [hfree] at e; cases e
    · rw [hfree] at hc; cases hc
  rcases hx with hk | hk
  · refine wpAny_storeName_local hk hn (fun h' hn' hs => ?_) hcls
    obtain ⟨oL, _, _, hoL, _⟩ := id hn
    refine h _ ⟨I.ok, I.os, I.bare, ⟨fun b o e n hb hx => ?_, fun b o e n hb hx => ?_, I.base.free, fun b o e hx => ?_, I.base.tups, I.base.frzs, I.base.tbls⟩, ⟨_, hn', fun j y v' e1 e2 e3 => ?_⟩, fun y c e => ?_, I.free, I.freeC, fun p hp => ?_, tracked ⟨oL, hoL, I.free⟩ hs, by simpa using I.len⟩ ⟨_, hs, .inl rfl⟩
    · exact (hs.2 b (Nat.ne_of_lt (Nat.lt_of_lt_of_le (Heap.lt_size e) I.ok.above))).trans (I.base.keep b o e n hb hx)
    · obtain ⟨sl, e1⟩ := I.base.slot b o e n hb hx
      exact ⟨sl, (hs.2 b (Nat.ne_of_lt (Nat.lt_of_lt_of_le (Heap.lt_size e) I.ok.above))).trans e1⟩
    · obtain ⟨o', e1⟩ := I.base.there b o e hx
      exact ⟨o', (hs.2 b (Nat.ne_of_lt (Nat.lt_of_lt_of_le (Heap.lt_size e) I.ok.above))).trans e1⟩
    · by_cases hj : j = i
      · subst hj
        rw [hi] at e1; cases e1
        rw [List.getElem?_set_self hiσ] at e2
        cases e2
        exact ⟨u, r, .inl ⟨hk, by simp⟩⟩
      · rw [List.getElem?_set_ne (Ne.symm hj)] at e2
        obtain ⟨u', r', q⟩ := hl j y v' e1 e2 e3
        refine ⟨u', r', ?_⟩
        rcases q with ⟨k, e⟩ | ⟨k, c, e, z⟩
        · refine .inl ⟨k, ?_⟩
          have : y ≠ x := fun e => hj (nodup_ix hN e1 (e ▸ hi))
          simp [this, e]
        · exact .inr ⟨k, c, e, z.sameBut hs (cne y c e)⟩
    · obtain ⟨w', z⟩ := I.cell y c e
      exact ⟨w', z.sameBut hs (cne y c e)⟩
    · obtain ⟨e, n, ne, nf, d⟩ := I.pin p hp
      exact ⟨(hs.2 p.1 ne).trans e, n, ne, nf, d⟩
  · have hfn : X.fn x = true := by
      rcases hf with z | z
      · exact z
      · rw [z] at hk; cases hk
    obtain ⟨c, hc⟩ := I.ok.has x (.inl hk)
    obtain ⟨w', z⟩ := I.cell x c hc
    refine wpAny_storeName_cell I.ok.kind hk hc z (fun h' hc' hs => ?_)
    obtain ⟨oc, hoc, hocd⟩ := id z
    refine h { s with heap := h' } ⟨I.ok, I.os, I.bare, ⟨fun b o e n hb hx => ?_, fun b o e n hb hx => ?_, I.base.free, fun b o e hx => ?_, I.base.tups, I.base.frzs, I.base.tbls⟩, ⟨m, hn.sameBut hs (Ne.symm (cne x c hc)), fun j y v' e1 e2 e3 => ?_⟩, fun y c' e => ?_, I.free, I.freeC, fun p hp => ?_, tracked ⟨oc, hoc, I.freeC x c hc⟩ hs, by simpa using I.len⟩ ⟨c, hs, .inr hc⟩
    · exact (hs.2 b (Nat.ne_of_lt (Nat.lt_of_lt_of_le (Heap.lt_size e) (I.ok.cab x c hfn hc)))).trans (I.base.keep b o e n hb hx)
    · obtain ⟨sl, e1⟩ := I.base.slot b o e n hb hx
      exact ⟨sl, (hs.2 b (Nat.ne_of_lt (Nat.lt_of_lt_of_le (Heap.lt_size e) (I.ok.cab x c hfn hc)))).trans e1⟩
    · obtain ⟨o', e1⟩ := I.base.there b o e hx
      exact ⟨o', (hs.2 b (Nat.ne_of_lt (Nat.lt_of_lt_of_le (Heap.lt_size e) (I.ok.cab x c hfn hc)))).trans e1⟩
    · by_cases hj : j = i
      · subst hj
        rw [hi] at e1; cases e1
        rw [List.getElem?_set_self hiσ] at e2
        cases e2
        exact ⟨u, r, .inr ⟨.inl hk, c, hc, hc'⟩⟩
      · rw [List.getElem?_set_ne (Ne.symm hj)] at e2
        obtain ⟨u', r', q⟩ := hl j y v' e1 e2 e3
        refine ⟨u', r', ?_⟩
        rcases q with q | ⟨k, c', e, z'⟩
        · exact .inl q
        · refine .inr ⟨k, c', e, z'.sameBut hs ?_⟩
          rintro rfl
          exact hj (nodup_ix hN e1 (I.ok.inj _ _ _ e hc ▸ hi))
    · by_cases hcc : c' = c
      · subst hcc; exact ⟨_, hc'⟩
      · obtain ⟨w2, z2⟩ := I.cell y c' e
        exact ⟨w2, z2.sameBut hs hcc⟩
    · obtain ⟨e, n, ne, nf, d⟩ := I.pin p hp
      refine ⟨(hs.2 p.1 ?_).trans e, n, ne, nf, d⟩
      intro q
      rw [q, hoc] at e
      have q' : oc = p.2 := Option.some.inj e
      exact d w' (by rw [← q']; exact hocd)
theorem store_ok {M : Model} {A : Around} {E : Value → Shared → Prop} {i : Nat} {x : Str} {v : V} {u : Value} {Q : Unit → Shared → Prop} (I : Inv X pins σ H s) (hN : X.N.Nodup) (hi : X.N[i]? = some x) (hx : Loc X.env.scope x) (r : RelV v u)
    (h : ∀ s', Inv X pins (σ.set i (some v)) H s' → Q () s') (hf : X.fn x = true ∨ X.env.scope.names.lookup x = some .local := by first | exact .inl rfl | exact .inr rfl | assumption) : wpAny M A (storeName X.env x u) Q E s :=
  store_ok2 I hN hi hx r (fun s' I' _ => h s' I') hf
theorem Inv.call' {s' : Shared} {ch : List Addr} (I : Inv X pins σ H s) (ho : s'.os = s.os) (u : Un (frs X.stack) ch H H' s.heap s'.heap) (hok : HOk X.prog X.w H' s'.heap) (hg : AllBare s'.gens)
    (hch : ∀ b ∈ ch, (b ∈ X.ex ∨ X.s₀.heap.objs.size ≤ b) ∧ b ≠ X.env.locals ∧ (∀ x c, X.env.cells.lookup x = some c → c ≠ b) ∧ ∀ p ∈ X.pn ++ pins, p.1 ≠ b) : Inv X pins σ H' s' := by
  obtain ⟨h', g', d', t', o'⟩ := s'
  have e : o' = s.os := ho
  subst e
  exact I.call (g' := g') (t' := t') (d' := d') u hok hg hch
end
noncomputable abbrev XK := Value → Option Addr → Hp → Prop
noncomputable abbrev St := List (Option V)
noncomputable abbrev VK := V → Hp → Prop
noncomputable abbrev TE := St → Hp → VK → Prop
noncomputable abbrev TT := St → Hp → (Bool → Hp → Prop) → Prop
noncomputable abbrev TA := St → Hp → (List V → Hp → Prop) → Prop
structure Ends where
  nx : St → Hp → Prop
  rt : VK
  bk : St → Hp → Prop := fun _ _ => False
  ct : St → Hp → Prop := fun _ _ => False
noncomputable abbrev TS := Ends → St → Hp → Prop
noncomputable def EP (X : Cx) (pins : List (Addr × Obj)) (σ : St) (Q : VK) (u : Value) (s' : Shared) : Prop := ∃ v H', Inv X pins σ H' s' ∧ RelV v u ∧ Q v H'
noncomputable def TP (X : Cx) (pins : List (Addr × Obj)) (σ : St) (Q : Bool → Hp → Prop) (b : Bool) (s' : Shared) : Prop := ∃ H', Inv X pins σ H' s' ∧ Q b H'
noncomputable def AP (X : Cx) (pins : List (Addr × Obj)) (σ : St) (Q : List V → Hp → Prop) (us : List Value) (s' : Shared) : Prop := ∃ vs H', Inv X pins σ H' s' ∧ Vals vs us ∧ Q vs H'
noncomputable def SP (X : Cx) (pins : List (Addr × Obj)) (D : Ends) (f : Flow) (s' : Shared) : Prop :=
  match f with
  | .next => ∃ σ' H', Inv X pins σ' H' s' ∧ D.nx σ' H'
  | .brk => ∃ σ' H', Inv X pins σ' H' s' ∧ D.bk σ' H'
  | .cont => ∃ σ' H', Inv X pins σ' H' s' ∧ D.ct σ' H'
  | .ret u => ∃ v σ' H', Inv X pins σ' H' s' ∧ RelV v u ∧ D.rt v H'
noncomputable def PE (X : Cx) (e : Expr) (t : TE) : Prop :=
  ∀ (pins : List (Addr × Obj)) (s : Shared) (σ : St) (H : Hp) (Q : VK), Inv X pins σ H s → t σ H Q → wpAny (model X.prog X.w) X.A (eval e X.env) (EP X pins σ Q) X.xe s
noncomputable def PT (X : Cx) (e : Expr) (t : TT) : Prop :=
  ∀ (pins : List (Addr × Obj)) (s : Shared) (σ : St) (H : Hp) (Q : Bool → Hp → Prop), Inv X pins σ H s → t σ H Q → wpAny (model X.prog X.w) X.A (isTrue e X.env (eval e X.env)) (TP X pins σ Q) X.xe s
noncomputable def PW (X : Cx) (e : Expr) (t : TT) : Prop :=
  ∀ (whole : Sem Value) (pins : List (Addr × Obj)) (s : Shared) (σ : St) (H : Hp) (Q : Bool → Hp → Prop), Inv X pins σ H s → t σ H Q → wpAny (model X.prog X.w) X.A (isTrue e X.env whole) (TP X pins σ Q) X.xe s
theorem PW.pt {X : Cx} {e : Expr} {t : TT} (h : PW X e t) : PT X e t := h _
noncomputable def PA (X : Cx) (es : List Expr) (t : TA) : Prop :=
  ∀ (pos : Pos) (pins : List (Addr × Obj)) (s : Shared) (σ : St) (H : Hp) (Q : List V → Hp → Prop), Inv X pins σ H s → t σ H Q → wpAny (model X.prog X.w) X.A (spliced (backTo pos (starEach es X.env))) (AP X pins σ Q) X.xe s
noncomputable def PS (X : Cx) (st : Stmt) (t : TS) : Prop :=
  ∀ (pins : List (Addr × Obj)) (s : Shared) (σ : St) (H : Hp) (D : Ends), Inv X pins σ H s → t D σ H → wpAny (model X.prog X.w) X.A (exec st X.env) (SP X pins D) X.xe s
noncomputable def PSs (X : Cx) (st : List Stmt) (t : TS) : Prop :=
  ∀ (pins : List (Addr × Obj)) (s : Shared) (σ : St) (H : Hp) (D : Ends), Inv X pins σ H s → t D σ H → wpAny (model X.prog X.w) X.A (execs st X.env) (SP X pins D) X.xe s
theorem thn {α : Type} {t : Sem α} {Q Q' : α → Shared → Prop} {M : Model} {A : Around} {E : Value → Shared → Prop} {s : Shared} (h : wpAny M A t Q E s) (hQ : ∀ a s, Q a s → Q' a s) : wpAny M A t Q' E s := wpAny_mono h hQ fun _ _ x => x
end L2
namespace L2
open PySem PySem.Spec PyProof.Rows
section
variable {X : Cx}
theorem bin {a b : Expr} {ta tb : TE} (ha : PE X a ta) (hb : PE X b tb) {pins : List (Addr × Obj)} {s : Shared} {σ : St} {H : Hp} {R : V → V → Hp → Prop} (I : Inv X pins σ H s) (h : ta σ H fun x H1 => tb σ H1 fun y H2 => R x y H2)
    {α : Type} {Q : α → Shared → Prop} {f : Value → Value → Sem α}
    (hf : ∀ v u s2 x y H2, Inv X pins σ H2 s2 → RelV x v → RelV y u → R x y H2 → wpAny (model X.prog X.w) X.A (f v u) Q X.xe s2) :
    wpAny (model X.prog X.w) X.A (eval a X.env) (fun v s₁ => wpAny (model X.prog X.w) X.A (eval b X.env) (fun u s₂ => wpAny (model X.prog X.w) X.A (f v u) Q X.xe s₂) X.xe s₁) X.xe s := by
  refine thn (ha pins s σ H _ I h) fun v s1 hq__ => ?_
  obtain ⟨x, H1, I1, r1, q1⟩ := hq__
  refine thn (hb pins s1 σ H1 _ I1 q1) fun u s2 hq__ => ?_
  obtain ⟨y, H2, I2, r2, q2⟩ := hq__
  exact hf v u s2 x y H2 I2 r1 r2 q2
noncomputable def tVar (i : Nat) : TE := fun σ H Q => ∃ v, σ[i]? = some (some v) ∧ Q v H
noncomputable def tC (v : V) : TE := fun _ H Q => Q v H
theorem pe_var {i : Nat} {x : Str} {pos : Pos} (hN : X.N[i]? = some x) (hv : Vis X.env.scope x) (hd : (x == ("__debug__" : Str)) = false := by decide) (hcd : (x == ("__classdict__" : Str)) = false := by decide) : PE X (.Name x pos) (tVar i) := by
  intro pins s σ H Q I h
  obtain ⟨v, e, h⟩ := h
  obtain ⟨m, hn, hl⟩ := I.loc
  obtain ⟨u, r, l⟩ := hl i x v hN e hv
  have fin : EP X pins σ Q u s := ⟨v, H, I, r, h⟩
  rcases l with ⟨hk, hm⟩ | ⟨hk, c, hc, hcell⟩
  · exact wpAny_Name (wpAny_loadName_local I.ok.kind hk hn hm fin) hd
  · rcases hk with hk | hk
    · exact wpAny_Name (wpAny_loadName_cell I.ok.kind hk hc hcell fin) hd
    · exact wpAny_Name (wpAny_loadName_free I.ok.kind hk hc hcell fin hcd) hd
theorem pe_int {i j pos} : PE X (.Constant (.int i) j pos) (tC (.int i)) := fun _ _ _ H _ I h => wpAny_Constant_int ⟨.int i, H, I.tok _, ⟨_, rfl⟩, h⟩
theorem pe_bl {b j pos} : PE X (.Constant (.bool b) j pos) (tC (.bl b)) := fun _ _ _ H _ I h => Constant_bool ⟨.bl b, H, I, rfl, h⟩
theorem pe_non {j pos} : PE X (.Constant .none j pos) (tC .non) := fun _ _ _ H _ I h => Constant_none ⟨.non, H, I, rfl, h⟩
theorem pe_str {x j pos} : PE X (.Constant (.str x) j pos) (tC (.str x)) := fun _ _ _ H _ I h => Calls.Constant_str ⟨.str x, H, I.tok _, ⟨_, rfl⟩, h⟩
noncomputable def Gl (X : Cx) (x : Str) : Prop := X.env.kindOf x = some .globalImplicit
theorem ld_glob {E : Value → Shared → Prop} {pins : List (Addr × Obj)} {s : Shared} {σ : St} {H : Hp} {x : Str} {u : Value} {pos : Pos} {Q : Value → Shared → Prop} (I : Inv X pins σ H s) (hg : Gl X x) (hm : X.mg x = some u) (h : Q u s)
    (hd : (x == ("__debug__" : Str)) = false := by decide) : wpAny (model X.prog X.w) X.A (eval (.Name x pos) X.env) Q E s :=
  Calls.Name_function_global I.ok.kind hg (Calls.loadGlobal_global (by rw [I.ok.glob]; exact I.mod.glob.keeps I.bk) hm h) hd
theorem ld_blt {E : Value → Shared → Prop} {pins : List (Addr × Obj)} {s : Shared} {σ : St} {H : Hp} {x : Str} {u : Value} {pos : Pos} {Q : Value → Shared → Prop} (I : Inv X pins σ H s) (hg : Gl X x) (hm : X.mg x = none) (hv : bootBuiltins x = some u) (h : Q u s)
    (hn : x ≠ "__name__" := by decide) (hd : (x == ("__debug__" : Str)) = false := by decide) : wpAny (model X.prog X.w) X.A (eval (.Name x pos) X.env) Q E s := by
  obtain ⟨mb, h1, h2⟩ := I.mod.blt
  exact Calls.Name_function_global I.ok.kind hg (Calls.loadGlobal_builtin (by rw [I.ok.glob]; exact I.mod.glob.keeps I.bk) hm (by rw [I.ok.blt]; exact h1.keeps I.bk) ((h2 x hn).trans hv) h) hd
theorem pe_bltn {x : Str} {v : V} {u : Value} {pos : Pos} (hg : Gl X x) (hm : X.mg x = none) (hv : bootBuiltins x = some u) (r : RelV v u) (hn : x ≠ "__name__" := by decide) (hd : (x == ("__debug__" : Str)) = false := by decide) : PE X (.Name x pos) (tC v) :=
  fun _ _ _ H _ I h => ld_blt I hg hm hv ⟨v, H, I, r, h⟩ hn hd
variable {a b : Expr} {ta tb : TE} {pos : Pos}
noncomputable def PC (X : Cx) (op : CmpOp) (a b : Expr) (t : TE) : Prop :=
  ∀ (pins : List (Addr × Obj)) (s : Shared) (σ : St) (H : Hp) (Q : VK), Inv X pins σ H s → t σ H Q →
    wpAny (model X.prog X.w) X.A (eval a X.env) (fun v s₁ => wpAny (model X.prog X.w) X.A (eval b X.env) (fun u s₂ => wpAny (model X.prog X.w) X.A (compareOp op v u) (EP X pins σ Q) X.xe s₂) X.xe s₁) X.xe s
theorem nobehind (b : Expr) {op : CmpOp} (h : op ≠ .In) (h2 : op ≠ .NotIn) : behindInMarks op b = false := by
  have e1 : (op == CmpOp.In) = false := by cases op <;> first | rfl | exact absurd rfl h
  have e2 : (op == CmpOp.NotIn) = false := by cases op <;> first | rfl | exact absurd rfl h2
  cases b <;> simp [behindInMarks, e1, e2]
noncomputable def tB (t : TE) : TT := fun σ H Q => t σ H fun x H1 => ∃ c, x = .bl c ∧ Q c H1
theorem pt_cmp {op : CmpOp} {t : TE} (h : PC X op a b t) (h1 : behindInMarks op b = false := by first | exact nobehind _ (by decide) (by decide) | rfl) : PT X (.Compare a [op] [b] pos) (tB t) := by
  intro pins s σ H Q I hw
  refine wpAny_isTrue_Compare1 (thn (h pins s σ H _ I hw) fun v s1 h1 => thn h1 fun u s2 h2 => thn h2 fun c s3 ⟨x, H1, I1, r1, q1⟩ => ?_) h1
  obtain ⟨d, rfl, q⟩ := q1
  cases r1
  exact wpAny_truthy_bool ⟨H1, I1, q⟩
theorem pt_val {e : Expr} {t : TE} (h : PE X e t) (he : ∀ whole, isTrue e X.env whole = (do let v ← whole; standAt e.pos; holding [v] (truthy v)) := by intro _; rfl) : PT X e (tB t) := by
  intro pins s σ H Q I hw
  refine isTrue_plain (thn (h pins s σ H _ I hw) fun v s1 ⟨x, H1, I1, r1, q1⟩ => ?_) (he _)
  obtain ⟨d, rfl, q⟩ := q1
  cases r1
  exact wpAny_truthy_bool ⟨H1, I1, q⟩
variable {tA tB' : TT} {rest : List Expr}
noncomputable def tAnd (t u : TT) : TT := fun σ H Q => t σ H fun c H1 => if c = true then u σ H1 Q else Q false H1
noncomputable def tOr (t u : TT) : TT := fun σ H Q => t σ H fun c H1 => if c = true then Q true H1 else u σ H1 Q
noncomputable def tNot (t : TT) : TT := fun σ H Q => t σ H fun c H1 => Q (!c) H1
theorem pw_and1 (ha : PT X a tA) : PW X (.BoolOp .And [a] pos) tA := by
  intro wh pins s σ H Q I h
  refine isTrue_and (thn (ha pins s σ H Q I h) fun c s1 e => ?_)
  cases c with
  | true => exact isTrue_and_nil e
  | false => exact e
theorem pw_or1 (ha : PT X a tA) : PW X (.BoolOp .Or [a] pos) tA := by
  intro wh pins s σ H Q I h
  refine isTrue_or (thn (ha pins s σ H Q I h) fun c s1 e => ?_)
  cases c with
  | false => exact isTrue_or_nil e
  | true => exact e
theorem pw_and (ha : PT X a tA) (hb : PW X (.BoolOp .And (b :: rest) pos) tB') : PW X (.BoolOp .And (a :: b :: rest) pos) (tAnd tA tB') := by
  intro wh pins s σ H Q I h
  refine isTrue_and (thn (ha pins s σ H _ I h) fun c s1 hq__ => ?_)
  obtain ⟨H1, I1, q1⟩ := hq__
  cases c with
  | true => exact hb wh pins s1 σ H1 Q I1 q1
  | false => exact ⟨H1, I1, q1⟩
theorem pw_or (ha : PT X a tA) (hb : PW X (.BoolOp .Or (b :: rest) pos) tB') : PW X (.BoolOp .Or (a :: b :: rest) pos) (tOr tA tB') := by
  intro wh pins s σ H Q I h
  refine isTrue_or (thn (ha pins s σ H _ I h) fun c s1 hq__ => ?_)
  obtain ⟨H1, I1, q1⟩ := hq__
  cases c with
  | true => exact ⟨H1, I1, q1⟩
  | false => exact hb wh pins s1 σ H1 Q I1 q1
theorem pt_not (ha : PT X a tA) : PT X (.UnaryOp .Not a pos) (tNot tA) := by
  intro pins s σ H Q I h
  exact isTrue_not (ha pins s σ H (fun c H1 => Q (!c) H1) I h)
noncomputable def tAndV (ta tb : TE) : TE := fun σ H Q => ta σ H fun x H1 => ∃ c, x = .bl c ∧ if c = true then tb σ H1 Q else Q (.bl false) H1
noncomputable def tNotV (ta : TE) : TE := fun σ H Q => ta σ H fun x H1 => ∃ c, x = .bl c ∧ Q (.bl (!c)) H1
theorem pe_one {op} {t : TE} (h : PE X a t) : PE X (.BoolOp op [a] pos) t := fun pins s σ H Q I hw => BoolOp_one (h pins s σ H Q I hw)
theorem pe_and (ha : PE X a ta) (hb : PE X (.BoolOp .And (b :: rest) pos) tb) : PE X (.BoolOp .And (a :: b :: rest) pos) (tAndV ta tb) := by
  intro pins s σ H Q I h
  refine BoolOp_and (thn (ha pins s σ H _ I h) fun v s1 hq__ => ?_)
  obtain ⟨x, H1, I1, r1, q1⟩ := hq__
  obtain ⟨c, rfl, q1⟩ := q1
  cases r1
  refine wpAny_truthy_bool ?_
  cases c with
  | true => exact hb pins s1 σ H1 Q I1 q1
  | false => exact ⟨.bl false, H1, I1, rfl, q1⟩
theorem pe_not (ha : PE X a ta) : PE X (.UnaryOp .Not a pos) (tNotV ta) := by
  intro pins s σ H Q I h
  refine UnaryOp_ (thn (ha pins s σ H _ I h) fun v s1 hq__ => ?_)
  obtain ⟨x, H1, I1, r1, q1⟩ := hq__
  obtain ⟨c, rfl, q1⟩ := q1
  cases r1
  exact not_of (wpAny_truthy_bool ⟨.bl (!c), H1, I1, rfl, q1⟩)
end
end L2
namespace L2
open PySem PySem.Spec PyProof.Rows
noncomputable def SqL (K : PySem.W.Frag) (H : Hp) (a : Addr) (xs : List V) : Prop :=
  Rd H a (.lst xs) ∨
    ∃ (o : Obj) (its : Array Value) (n : Nat), K.lookup a = some o ∧ o.cls = .type "list" ∧ o.dict = none ∧ o.data = .seq its n ∧ its.size ≤ sizeLine ∧ Vals xs its.toList
noncomputable def SqT (K : PySem.W.Frag) (H : Hp) (a : Addr) (xs : List V) : Prop :=
  Rd H a (.tup xs) ∨
    ∃ (o : Obj) (its : Array Value) (n : Nat), K.lookup a = some o ∧ o.cls = .type "tuple" ∧ o.data = .seq its n ∧ its.size ≤ sizeLine ∧ Vals xs its.toList
noncomputable def absV : Value → Option V
  | .none => some .non
  | .bool b => some (.bl b)
  | .int i _ => some (.int i)
  | .str x _ => some (.str x)
  | .bytes b _ => some (.byt b)
  | .float b _ => some (.flt b)
  | .ref a => some (.ref a)
  | .type n => some (.ty n)
  | _ => none
theorem RelV.abs {x : V} {u : Value} (r : RelV x u) : absV u = some x := by
  cases x with
  | non => cases r; rfl
  | bl _ => cases r; rfl
  | int _ => obtain ⟨t, rfl⟩ := r; rfl
  | str _ => obtain ⟨t, rfl⟩ := r; rfl
  | byt _ => obtain ⟨t, rfl⟩ := r; rfl
  | flt _ => obtain ⟨t, rfl⟩ := r; rfl
  | ref _ => cases r; rfl
  | ty _ => cases r; rfl
theorem RelV.inj {x y : V} {u : Value} (r : RelV x u) (q : RelV y u) : x = y := Option.some.inj (r.abs.symm.trans q.abs)
theorem Vals.inj : ∀ {xs ys : List V} {us : List Value}, Vals xs us → Vals ys us → xs = ys := by
  intro xs ys us h
  induction h generalizing ys with
  | nil => intro h'; cases h'; rfl
  | cons r t ih =>
    intro h'
    cases h' with
    | cons r' t' => rw [r.inj r', ih t']
section
variable {X : Cx} {pins : List (Addr × Obj)} {σ : St} {H : Hp} {s : Shared} {a : Addr} {xs ys : List V}
theorem SqL.of {K : PySem.W.Frag} (h : H a = some (.lst xs)) : SqL K H a xs := .inl (.inl h)
theorem SqT.of {K : PySem.W.Frag} (h : H a = some (.tup xs)) : SqT K H a xs := .inl (.inl h)
theorem Inv.list (I : Inv X pins σ H s) (h : SqL X.K H a xs) : ∃ its : List Value, Vals xs its ∧ PlainL s.heap a its.toArray ∧ xs.length ≤ sizeLine := by
  rcases h with h | ⟨o, its, n, hk, hc, hd, hs, hz, r⟩
  · obtain ⟨z, its, n, r, e⟩ := h.ok I.hok
    exact ⟨its, r, ⟨_, n, e, rfl, rfl, rfl⟩, z⟩
  · refine ⟨its.toList, r, ⟨o, n, I.kIn a o hk, hc, hd, by simpa using hs⟩, ?_⟩
    have e := r.length
    simp only [Array.length_toList] at e
    omega
theorem Inv.tuple (I : Inv X pins σ H s) (h : SqT X.K H a xs) : ∃ its : List Value, Vals xs its ∧ IsTup s.heap a its.toArray ∧ xs.length ≤ sizeLine := by
  rcases h with h | ⟨o, its, n, hk, hc, hs, hz, r⟩
  · obtain ⟨z, its, r, p⟩ := h.ok I.hok
    exact ⟨its, r, p, z⟩
  · refine ⟨its.toList, r, ⟨o, I.kIn a o hk, hc, n, by simpa using hs⟩, ?_⟩
    have e := r.length
    simp only [Array.length_toList] at e
    omega
theorem Inv.list_inj (I : Inv X pins σ H s) (h : SqL X.K H a xs) (h' : SqL X.K H a ys) : xs = ys := by
  obtain ⟨its, r, ⟨o, n, e, _, _, d⟩, _⟩ := I.list h
  obtain ⟨its', r', ⟨o', n', e', _, _, d'⟩, _⟩ := I.list h'
  rw [e] at e'; cases e'
  rw [d] at d'
  injection d' with d1 _
  have : its = its' := by simpa using congrArg Array.toList d1
  subst this
  exact r.inj r'
theorem Inv.tuple_inj (I : Inv X pins σ H s) (h : SqT X.K H a xs) (h' : SqT X.K H a ys) : xs = ys := by
  obtain ⟨its, r, ⟨o, e, _, n, d⟩, _⟩ := I.tuple h
  obtain ⟨its', r', ⟨o', e', _, n', d'⟩, _⟩ := I.tuple h'
  rw [e] at e'; cases e'
  rw [d] at d'
  injection d' with d1 _
  have : its = its' := by simpa using congrArg Array.toList d1
  subst this
  exact r.inj r'
end
noncomputable abbrev Cx.wish (X : Cx) (E : Value → Shared → Prop) : Cx := { X with xe := E }
noncomputable abbrev Cx.nox (X : Cx) : Cx := X.wish fun _ _ => False
theorem Cx.Ok.wish {X : Cx} (ok : X.Ok) (E : Value → Shared → Prop) : (X.wish E).Ok :=
  ⟨ok.mod, ok.kind, ok.glob, ok.blt, ok.above, ok.inj, ok.has, ok.cab, ok.hd, ok.frames, ok.stk, ok.exf, ok.bs, ok.bsz, ok.noex, ok.exfs, ok.funs, ok.frf⟩
theorem Cx.Ok.unwish {X : Cx} {E : Value → Shared → Prop} (ok : (X.wish E).Ok) : X.Ok :=
  ⟨ok.mod, ok.kind, ok.glob, ok.blt, ok.above, ok.inj, ok.has, ok.cab, ok.hd, ok.frames, ok.stk, ok.exf, ok.bs, ok.bsz, ok.noex, ok.exfs, ok.funs, ok.frf⟩
section
variable {X : Cx} {pins : List (Addr × Obj)} {σ : St} {H : Hp} {s : Shared} {E : Value → Shared → Prop}
theorem Inv.wish (I : Inv X pins σ H s) (E : Value → Shared → Prop) : Inv (X.wish E) pins σ H s := ⟨I.ok.wish E, I.os, I.bare, I.base, I.loc, I.cell, I.free, I.freeC, I.pin, I.hok, I.len⟩
theorem Inv.unwish (I : Inv (X.wish E) pins σ H s) : Inv X pins σ H s := ⟨I.ok.unwish, I.os, I.bare, I.base, I.loc, I.cell, I.free, I.freeC, I.pin, I.hok, I.len⟩
theorem SP.unwish {D : Ends} {f : Flow} {s' : Shared} (h : SP (X.wish E) pins D f s') : SP X pins D f s' := by
  cases f with
  | next => obtain ⟨σ', H', I, q⟩ := h; exact ⟨σ', H', I.unwish, q⟩
  | brk => obtain ⟨σ', H', I, q⟩ := h; exact ⟨σ', H', I.unwish, q⟩
  | cont => obtain ⟨σ', H', I, q⟩ := h; exact ⟨σ', H', I.unwish, q⟩
  | ret u => obtain ⟨v, σ', H', I, r, q⟩ := h; exact ⟨v, σ', H', I.unwish, r, q⟩
theorem PSs.nox {st : List Stmt} {t : TS} (h : PSs X.nox st t) : PSs X st t := fun pins s σ H D I hw =>
  wpAny_mono (h pins s σ H D (I.wish _) hw) (fun _ _ q => q.unwish) fun _ _ z => False.elim z
end
section
variable {X : Cx} {st : Stmt} {rest : List Stmt} {t u : TS} {e : Expr} {te : TE} {pos : Pos}
noncomputable def tNext : TS := fun D σ H => D.nx σ H
noncomputable def tSeq (t u : TS) : TS := fun D σ H => t { D with nx := u D } σ H
theorem pss_nil : PSs X [] tNext := fun _ _ σ H _ I h => wpAny_execs_nil ⟨σ, H, I, h⟩
theorem pss_cons (h1 : PS X st t) (h2 : PSs X rest u) : PSs X (st :: rest) (tSeq t u) := by
  intro pins s σ H D I h
  refine wpAny_execs_cons (thn (h1 pins s σ H { D with nx := u D } I h) fun f s1 q => ?_)
  cases f with
  | next =>
    obtain ⟨σ', H', I', q⟩ := q
    exact h2 pins s1 σ' H' D I' q
  | ret v => exact q
  | brk => exact q
  | cont => exact q
theorem pss_one (h1 : PS X st t) : PSs X [st] t := by
  intro pins s σ H D I h
  refine wpAny_execs_cons (thn (h1 pins s σ H D I h) fun f s1 q => ?_)
  cases f with
  | next => exact wpAny_execs_nil q
  | ret v => exact q
  | brk => exact q
  | cont => exact q
theorem Inv.quiet {pins : List (Addr × Obj)} {σ : St} {H : Hp} {s : Shared} (I : Inv X pins σ H s) : interactive X.env = false := by simp [interactive, I.ok.kind]
noncomputable def tDrop (te : TE) : TS := fun D σ H => te σ H fun _ H1 => D.nx σ H1
theorem ps_expr (he : PE X e te) (hs : swapsWith e none pos.line X.env = pure false := by rfl) : PS X (.Expr e pos) (tDrop te) := by
  intro pins s σ H D I h
  exact wpAny_Expr_any (thn (he pins s σ H _ I h) fun v s1 ⟨x, H1, I1, r1, q1⟩ => ⟨σ, H1, I1, q1⟩) I.quiet hs
noncomputable def tRet (te : TE) : TS := fun D σ H => te σ H D.rt
theorem ps_ret (he : PE X e te) : PS X (.Return (some e) pos) (tRet te) := by
  intro pins s σ H D I h
  exact wpAny_Return_some (thn (he pins s σ H _ I h) fun v s1 ⟨x, H1, I1, r1, q1⟩ => ⟨x, σ, H1, I1, r1, q1⟩)
noncomputable def tIfS (c : TT) (t u : TS) : TS := fun D σ H => c σ H fun b H1 => if b = true then t D σ H1 else u D σ H1
theorem ps_if {c : Expr} {a b : List Stmt} {tc : TT} (hc : PT X c tc) (ha : PSs X a t) (hb : PSs X b u) : PS X (.If c a b pos) (tIfS tc t u) := by
  intro pins s σ H D I h
  refine wpAny_If (thn (hc pins s σ H _ I h) fun d s1 hq__ => ?_)
  obtain ⟨H1, I1, q1⟩ := hq__
  cases d with
  | true => exact ha pins s1 σ H1 D I1 q1
  | false => exact hb pins s1 σ H1 D I1 q1
end
noncomputable abbrev TG := V → St → Hp → (St → Hp → Prop) → Prop
noncomputable abbrev TGs := List V → St → Hp → (St → Hp → Prop) → Prop
noncomputable def PG (X : Cx) (target : Expr) (t : TG) : Prop :=
  ∀ (pins : List (Addr × Obj)) (s : Shared) (σ : St) (H : Hp) (v : V) (u : Value) (Q : St → Hp → Prop), Inv X pins σ H s → RelV v u → t v σ H Q →
    wpAny (model X.prog X.w) X.A (assign target X.env u) (fun _ s' => ∃ σ' H', Inv X pins σ' H' s' ∧ Q σ' H') X.xe s
noncomputable def PGs (X : Cx) (ts : List Expr) (t : TGs) : Prop :=
  ∀ (pins : List (Addr × Obj)) (s : Shared) (σ : St) (H : Hp) (vs : List V) (us : List Value) (Q : St → Hp → Prop), Inv X pins σ H s → Vals vs us → t vs σ H Q →
    wpAny (model X.prog X.w) X.A (assignInOrder ((assignEach ts X.env).map (·.2)) us) (fun _ s' => ∃ σ' H', Inv X pins σ' H' s' ∧ Q σ' H') X.xe s
noncomputable abbrev TSet := V → V → V → Hp → (Hp → Prop) → Prop
noncomputable def PSet (X : Cx) (t : TSet) : Prop :=
  ∀ (pins : List (Addr × Obj)) (s : Shared) (σ : St) (H : Hp) (o i v : V) (ov iv u : Value) (Q : Hp → Prop), Inv X pins σ H s → RelV o ov → RelV i iv → RelV v u → t o i v H Q →
    wpAny (model X.prog X.w) X.A (setItem ov iv u) (fun _ s' => ∃ H', Inv X pins σ H' s' ∧ Q H') X.xe s
section
variable {X : Cx} {pos : Pos}
noncomputable def gName (i : Nat) : TG := fun v σ H Q => Q (σ.set i (some v)) H
theorem pg_name {i : Nat} {x : Str} (hN : X.N.Nodup) (hi : X.N[i]? = some x) (hx : Loc X.env.scope x) (hf : X.fn x = true ∨ X.env.scope.names.lookup x = some .local := by first | exact .inl rfl | exact .inr rfl | assumption) : PG X (.Name x pos) (gName i) := by
  intro pins s σ H v u Q I r h
  exact wpAny_assign_Name (store_ok I hN hi hx r (fun s' I' => ⟨_, H, I', h⟩) hf)
noncomputable def gNil : TGs := fun vs σ H Q => vs = [] ∧ Q σ H
noncomputable def gCons (t : TG) (u : TGs) : TGs := fun vs σ H Q => ∃ v r, vs = v :: r ∧ t v σ H fun σ' H' => u r σ' H' Q
theorem pgs_nil : PGs X [] gNil := by
  intro pins s σ H vs us Q I r h
  obtain ⟨e, h⟩ := h
  subst e
  cases r
  exact assignInOrder_nil ⟨σ, H, I, h⟩
theorem pgs_cons {e : Expr} {es : List Expr} {t : TG} {u : TGs} (h1 : PG X e t) (h2 : PGs X es u)
    (hs : (assignEach (e :: es) X.env).map (·.2) = assign e X.env :: (assignEach es X.env).map (·.2) := by rfl) : PGs X (e :: es) (gCons t u) := by
  intro pins s σ H vs us Q I r h
  obtain ⟨v, vr, e1, h⟩ := h
  subst e1
  cases r with
  | cons r rr =>
    rw [hs]
    refine assignInOrder_cons (thn (h1 pins s σ H _ _ _ I r h) fun _ s1 hq__ => ?_)
    obtain ⟨σ1, H1, I1, q1⟩ := hq__
    exact h2 pins s1 σ1 H1 _ _ Q I1 rr q1
noncomputable def gTup (K : PySem.W.Frag) (n : Nat) (t : TGs) : TG := fun v σ H Q => ∃ a xs, v = .ref a ∧ SqT K H a xs ∧ xs.length = n ∧ t xs σ H Q
theorem pg_tup {es : List Expr} {k : Nat} {t : TGs} {n : Nat} (hc : X.calm = true) (h : PGs X es t)
    (hn : (assignEach es X.env).length = n := by rfl) (hst : (assignEach es X.env).findIdx? (·.1) = none := by rfl) : PG X (.Tuple es k pos) (gTup X.K n t) := by
  intro pins s σ H v u Q I r hw
  obtain ⟨a, xs, e1, hq, hl, hw⟩ := hw
  subst e1
  cases r
  obtain ⟨its, rv, ht, hz⟩ := I.tuple hq
  refine assign_Tuple_tuple (I.ok.hd hc) ht (by simp [hn, ← hl, rv.length]) hst fun h' hx => ?_
  have I1 : Inv X pins σ H { s with heap := h' } := I.kept (t' := s.toks) fun b o e => hx b o (Nat.ne_of_lt (Heap.lt_size e)) e
  exact h pins _ σ H xs _ Q I1 (by simpa using rv) hw
noncomputable def gSub (to ti : TE) (t : TSet) : TG := fun v σ H Q => to σ H fun o H1 => ti σ H1 fun i H2 => t o i v H2 fun H3 => Q σ H3
theorem pg_sub {o i : Expr} {to ti : TE} {t : TSet} (ho : PE X o to) (hi : PE X i ti) (hs : PSet X t)
    (ha : ∀ v, assign (.Subscript o i pos) X.env v = (do
      let ov ← holding [v] (eval o X.env)
      let iv ← holding [v, ov] (eval i X.env)
      standAt pos
      holding [v, ov, iv] (setItem ov iv v)
      release [v, ov, iv] []) := by intro _; rfl) : PG X (.Subscript o i pos) (gSub to ti t) := by
  intro pins s σ H v u Q I r h
  rw [ha]
  refine wpAny_bind (wpAny_holding (thn (ho pins s σ H _ I h) fun ov s1 hq__ => ?_))
  obtain ⟨x, H1, I1, r1, q1⟩ := hq__
  refine wpAny_bind (wpAny_holding (thn (hi pins s1 σ H1 _ I1 q1) fun iv s2 hq__ => ?_))
  obtain ⟨y, H2, I2, r2, q2⟩ := hq__
  refine wpAny_bind (wpAny_standAt (wpAny_bind (wpAny_holding (thn (hs pins s2 σ H2 x y v ov iv u _ I2 r1 r2 r q2) fun _ s3 hq__ => ?_))))
  obtain ⟨H3, I3, q3⟩ := hq__
  exact wpAny_release ⟨σ, H3, I3, q3⟩
noncomputable def tAsg (te : TE) (g : TG) : TS := fun D σ H => te σ H fun x H1 => g x σ H1 D.nx
theorem ps_asg {tg e : Expr} {te : TE} {g : TG} (he : PE X e te) (hg : PG X tg g) (hs : swapsWithSole [tg] e pos.line X.env = pure false := by rfl) (hw : swappedStores [tg] e X.env = pure none := by rfl)
    (h1 : (assignEach [tg] X.env).map (·.2) = [assign tg X.env] := by rfl) : PS X (.Assign [tg] e pos) (tAsg te g) := by
  intro pins s σ H D I h
  refine wpAny_Assign_stores (thn (he pins s σ H _ I h) fun v s1 ⟨x, H1, I1, r1, q1⟩ => ?_) hs hw
  rw [h1]
  exact thn (hg pins s1 σ H1 x v _ I1 r1 q1) fun _ s2 q => q
theorem ps_set {i : Nat} {x : Str} {e : Expr} {te : TE} {pos' : Pos} (hN : X.N.Nodup) (hi : X.N[i]? = some x) (hx : Loc X.env.scope x) (he : PE X e te) (hs : swapsWith e (some (.Name x pos')) pos.line X.env = pure false := by rfl) (hf : X.fn x = true ∨ X.env.scope.names.lookup x = some .local := by first | exact .inl rfl | exact .inr rfl | assumption) :
    PS X (.Assign [.Name x pos'] e pos) (tAsg te (gName i)) := by
  intro pins s σ H D I h
  refine wpAny_Assign_Name (thn (he pins s σ H _ I h) fun v s1 ⟨y, H1, I1, r1, q1⟩ => ?_) hs
  exact store_ok I1 hN hi hx r1 (fun s2 I2 => ⟨_, H1, I2, q1⟩) hf
end
section
variable {X : Cx} {pos : Pos}
noncomputable def tWhile (c : TT) (tb : TS) : TS := fun D σ H => ∃ W : Nat → St → Hp → Prop, (∃ m, W m σ H) ∧ ∀ m σ H, W m σ H →
  c σ H fun b H1 => if b = true then ∃ N : St → Hp → Prop, (∀ σ' H', N σ' H' → ∃ m', m' < m ∧ W m' σ' H') ∧ tb { D with nx := N, ct := N, bk := D.nx } σ H1 else D.nx σ H1
theorem ps_while {c : Expr} {body : List Stmt} {tc : TT} {tb : TS} (hp : PassesOwn (model X.prog X.w) X.A X.env X.xe) (hc : PT X c tc) (hb : PSs X body tb) : PS X (.While c body [] pos) (tWhile tc tb) := by
  intro pins s σ H D I h
  obtain ⟨W, ⟨m0, w0⟩, turn⟩ := h
  refine wpAny_While (codeAny_whileLoop (fun n s' => ∃ σ' H', Inv X pins σ' H' s' ∧ W n σ' H') ?_ m0 ⟨σ, H, I, w0⟩)
  rintro n s1 ⟨σ1, H1, I1, w1⟩
  refine wpAny_passesOwn hp (thn (hc pins s1 σ1 H1 _ I1 (turn n σ1 H1 w1)) fun b s2 hq__ => ?_)
  obtain ⟨H2, I2, q2⟩ := hq__
  cases b with
  | true =>
    obtain ⟨N, hN, q2⟩ := q2
    rw [if_pos rfl]
    refine wpAny_passesOwn hp (thn (hb pins s2 σ1 H2 _ I2 q2) fun f s3 q3 => ?_)
    cases f with
    | next =>
      obtain ⟨σ3, H3, I3, n3⟩ := q3
      obtain ⟨m', hm, w3⟩ := hN σ3 H3 n3
      exact ⟨m', hm, σ3, H3, I3, w3⟩
    | cont =>
      obtain ⟨σ3, H3, I3, n3⟩ := q3
      obtain ⟨m', hm, w3⟩ := hN σ3 H3 n3
      exact ⟨m', hm, σ3, H3, I3, w3⟩
    | brk => exact q3
    | ret v => exact q3
  | false =>
    rw [if_neg Bool.false_ne_true]
    exact wpAny_execs_nil ⟨σ1, H2, I2, q2⟩
end
structure It where
  go : Nat → Hp → Prop
  yld : Nat → Hp → V → Hp → Prop
  stop : Nat → Hp → Prop
noncomputable def FpOk (X : Cx) (pins : List (Addr × Obj)) (H : Hp) (b : Addr) : Prop :=
  H b = none ∧ b ≠ X.env.locals ∧ b ∉ X.fs ∧ (b ∈ X.ex ∨ X.s₀.heap.objs.size ≤ b) ∧ (∀ x c, X.env.cells.lookup x = some c → c ≠ b) ∧ ∀ p ∈ X.pn ++ pins, p.1 ≠ b
theorem Inv.fpOk {X : Cx} {pins : List (Addr × Obj)} {σ : St} {H H' : Hp} {s : Shared} {b : Addr} (I : Inv X pins σ H s) (hb : s.heap.objs.size ≤ b) (hn : H' b = none) : FpOk X pins H' b := by
  refine ⟨hn, Nat.ne_of_gt (Nat.lt_of_lt_of_le I.lt hb), I.nofs hb, .inr (Nat.le_trans I.sz hb), fun x c e z => ?_, fun p hp z => ?_⟩
  · obtain ⟨v, q⟩ := I.cell x c e
    exact absurd (Nat.lt_of_lt_of_le q.lt (by rw [z]; exact hb)) (Nat.lt_irrefl _)
  · exact absurd (Nat.lt_of_lt_of_le (Heap.lt_size (I.pin p hp).1) (by rw [z]; exact hb)) (Nat.lt_irrefl _)
structure Turn (P : Program) (w : World) (K : PySem.W.Frag) (tg : Expr) (J : It) (fp : List Addr) (it : Addr) (tn : Nat → Heap → Prop) : Prop where
  mem : it ∈ fp
  obj : ∀ i h, tn i h → ∀ b ∈ fp, ∃ o, h.get? b = some o ∧ ∀ v, o.data ≠ .cell v
  keep : ∀ i h h', tn i h → (∀ b ∈ fp, ∀ o, h.get? b = some o → h'.get? b = some o) → tn i h'
  item : ∀ (X : Cx), X.prog = P → X.w = w → X.K = K → X.calm = true → ∀ (i : Nat) (pins : List (Addr × Obj)) (s : Shared) (σ : St) (H : Hp) (E : Value → Shared → Prop), Inv X pins σ H s → (∀ b ∈ fp, FpOk X pins H b) → tn i s.heap → J.go i H →
    wpAny (model P w) X.A (pyNext (.ref it)) (fun r s1 => ∃ u, r = some u ∧
      wpAny (model P w) X.A (letOwnedTupleGo tg (.ref it) u) (fun _ s2 => ∃ x H', Inv X pins σ H' s2 ∧ RelV x u ∧ J.yld i H x H' ∧ tn (i + 1) s2.heap ∧ ∀ b ∈ fp, H' b = none) E s1) E s
  done : ∀ (X : Cx), X.prog = P → X.w = w → X.K = K → X.calm = true → ∀ (i : Nat) (pins : List (Addr × Obj)) (s : Shared) (σ : St) (H : Hp) (E : Value → Shared → Prop), Inv X pins σ H s → (∀ b ∈ fp, FpOk X pins H b) → tn i s.heap → J.stop i H →
    wpAny (model P w) X.A (pyNext (.ref it)) (fun r s1 => r = none ∧ Inv X pins σ H s1) E s
  self : ∀ (A : Around) (i : Nat) (s : Shared) (Q : Value → Shared → Prop) (E : Value → Shared → Prop), tn i s.heap → Q (.ref it) s → wpAny (model P w) A (pyIter (.ref it)) Q E s
noncomputable abbrev TI := St → Hp → (It → Hp → Prop) → Prop
noncomputable def PIE (X : Cx) (pins : List (Addr × Obj)) (σ : St) (tg : Expr) (R : It → Hp → Prop) (itv : Value) (s2 : Shared) : Prop :=
  ∃ (it : Addr) (fp : List Addr) (tn : Nat → Heap → Prop) (J : It) (H' : Hp), itv = .ref it ∧ Inv X pins σ H' s2 ∧ Turn X.prog X.w X.K tg J fp it tn ∧ tn 0 s2.heap ∧ (∀ b ∈ fp, FpOk X pins H' b) ∧ R J H'
noncomputable def PI (X : Cx) (tg iter : Expr) (wi : TI) : Prop :=
  ∀ (pins : List (Addr × Obj)) (s : Shared) (σ : St) (H : Hp) (R : It → Hp → Prop), Inv X pins σ H s → wi σ H R →
    wpAny (model X.prog X.w) X.A (eval iter X.env) (fun v s1 => wpAny (model X.prog X.w) X.A (pyIter v) (PIE X pins σ tg R) X.xe s1) X.xe s
theorem go_of {M : Model} {A : Around} {E : Value → Shared → Prop} {s : Shared} {tg : Expr} {it : Addr} {u : Value} {o : Obj} {n : String} {vs : Array Value} {Q : Unit → Shared → Prop} (ho : s.heap.get? it = some o) (hc : o.cls = .type n) (hd : o.data = .fields vs)
    (hn : ["enumerate", "zip", "dict_itemiterator", "dict_reverseitemiterator", "odict_iterator", "itertools.zip_longest", "itertools.pairwise"].contains n = false) (hQ : Q () s) : wpAny M A (letOwnedTupleGo tg (.ref it) u) Q E s := by
  unfold letOwnedTupleGo
  cases tg <;> first
    | exact wpAny_pure hQ
    | (cases u <;> first
        | exact wpAny_pure hQ
        | (refine wpAny_bind (wpAny_load ho ?_)
           rw [hc, hd]
           show wpAny M A (if (["enumerate", "zip", "dict_itemiterator", "dict_reverseitemiterator", "odict_iterator", "itertools.zip_longest", "itertools.pairwise"].contains n && vs[0]? == some (rawInt _)) = true then _ else _) Q E s
           rw [if_neg (by intro h; rw [hn, Bool.false_and] at h; cases h)]
           exact wpAny_pure hQ))
noncomputable def Itl (K : PySem.W.Frag) (a : Addr) : It :=
  ⟨fun i H => ∃ xs x, SqL K H a xs ∧ xs[i]? = some x, fun i H x H' => H' = H ∧ ∀ xs, SqL K H a xs → xs[i]? = some x, fun i H => ∃ xs, SqL K H a xs ∧ xs.length ≤ i⟩
noncomputable def Itr (lo : Int) (n : Nat) : It := ⟨fun i _ => i < n, fun i H x H' => H' = H ∧ x = .int (lo + i), fun i _ => n ≤ i⟩
theorem turn_list {P : Program} {w : World} {K : PySem.W.Frag} {tg : Expr} (a it : Addr) : Turn P w K tg (Itl K a) [it] it (fun i h => h.IsListIter it a i) where
  mem := by simp
  obj := fun i h st b hb => by
    have e : b = it := by simpa using hb
    subst e
    obtain ⟨o, e, c, d⟩ := st
    exact ⟨o, e, fun v z => by rw [d] at z; cases z⟩
  keep := fun i h h' st k => st.at fun o e => k it (by simp) o e
  item := by
    intro X hP hw hK hc i pins s σ H E I hf st hg
    subst hP hw hK
    obtain ⟨xs, x, hq, hx⟩ := hg
    obtain ⟨its, rv, p, hz⟩ := I.list hq
    obtain ⟨u, hu, ru⟩ := rv.get hx
    obtain ⟨f0, f1, f2, f3, f4, f5⟩ := hf it (by simp)
    refine wpAny_pyNext_list_item st p.isList (x := u) (by simpa using hu) fun h' st' sb => ?_
    have I1 : Inv X pins σ H { s with heap := h' } := I.turned (t' := s.toks) (fun b o hb e => (sb.2 b hb).trans e) f0 f1 f3 f4 f5
    obtain ⟨o, e, c, d⟩ := id st'
    exact ⟨u, rfl, go_of (s := { s with heap := h' }) e c d (by decide) ⟨x, H, I1, ru, ⟨rfl, fun ys hy => by rw [I.list_inj hy hq]; exact hx⟩, st', fun b hb => (hf b hb).1⟩⟩
  done := by
    intro X hP hw hK hc i pins s σ H E I hf st hg
    subst hP hw hK
    obtain ⟨xs, hq, hx⟩ := hg
    obtain ⟨its, rv, p, hz⟩ := I.list hq
    obtain ⟨f0, f1, f2, f3, f4, f5⟩ := hf it (by simp)
    have hl := rv.length
    exact wpAny_pyNext_list_end (I.ok.hd hc) st p.isList (by simp; omega) fun h' eb => ⟨rfl, I.turned (t' := s.toks) (fun b o hb e => eb b o hb e) f0 f1 f3 f4 f5⟩
  self := fun _ _ _ _ _ st h => wpAny_pyIter_listiter st h
theorem turn_range {P : Program} {w : World} {K : PySem.W.Frag} {tg : Expr} (it : Addr) (lo : Int) (n : Nat) : Turn P w K tg (Itr lo n) [it] it (fun i h => IsRangeIter h it (lo + (i : Nat) * 1) ((n : Int) - (i : Nat)) 1) where
  mem := by simp
  obj := fun i h st b hb => by
    have e : b = it := by simpa using hb
    subst e
    exact ⟨_, st, fun v z => by
      have z' : Data.fields _ = Data.cell v := z
      cases z'⟩
  keep := fun i h h' st k => k it (by simp) _ st
  item := by
    intro X hP hw hK hc i pins s σ H E I hf st hg
    subst hP hw hK
    obtain ⟨f0, f1, f2, f3, f4, f5⟩ := hf it (by simp)
    have W := Walks.range (prog := X.prog) (w := X.w) (I.ok.hd hc) it lo 1 n
    refine W.item i s _ _ hg st fun v h' tk hv st' kk => ?_
    obtain ⟨t, rfl⟩ := hv
    have I1 : Inv X pins σ H { s with heap := h', toks := tk } := I.turned (fun b o hb e => kk b o (by simpa using hb) e) f0 f1 f3 f4 f5
    refine ⟨_, rfl, go_of (s := { s with heap := h', toks := tk }) (n := "range_iterator") st' rfl rfl (by decide) ⟨.int (lo + i), H, I1, ⟨t, ?_⟩, ⟨rfl, rfl⟩, st', fun b hb => (hf b hb).1⟩⟩
    rw [Int.mul_one]
  done := by
    intro X hP hw hK hc i pins s σ H E I hf st hg
    subst hP hw hK
    obtain ⟨f0, f1, f2, f3, f4, f5⟩ := hf it (by simp)
    exact wpAny_pyNext_range_end (I.ok.hd hc) st (by have : n ≤ i := hg; omega) fun h' eb => ⟨rfl, I.turned (t' := s.toks) (fun b o hb e => eb b o hb e) f0 f1 f3 f4 f5⟩
  self := fun _ _ _ _ _ st h => wpAny_pyIter_rangeiter st h
end L2
namespace L2
open PySem PySem.Spec PyProof.Rows
section
variable {X : Cx} {tg : Expr}
noncomputable def iList (K : PySem.W.Frag) (tl : TE) : TI := fun σ H R => tl σ H fun x H1 => ∃ a, x = .ref a ∧ (∃ xs, SqL K H1 a xs) ∧ R (Itl K a) H1
theorem pi_list {l : Expr} {tl : TE} (hl : PE X l tl) : PI X tg l (iList X.K tl) := by
  intro pins s σ H R I h
  refine thn (hl pins s σ H _ I h) fun v s1 hq__ => ?_
  obtain ⟨x, H1, I1, r1, q1⟩ := hq__
  obtain ⟨a, e, ⟨xs, hq⟩, q⟩ := q1
  subst e
  cases r1
  obtain ⟨its, rv, p, hz⟩ := I1.list hq
  refine wpAny_pyIter_list p.isList ?_
  refine ⟨s1.heap.objs.size, [s1.heap.objs.size], _, _, H1, rfl, I1.kept (t' := s1.toks) fun b o e => Heap.get?_push_of_some _ e, turn_list a _, ⟨_, Heap.get?_push_size _ rfl, rfl, rfl⟩, fun b hb => ?_, q⟩
  have e : b = s1.heap.objs.size := by simpa using hb
  subst e
  exact I1.fpOk (Nat.le_refl _) (I1.hok.fresh (Nat.le_refl _))
theorem range_it {pins : List (Addr × Obj)} {σ : St} {H : Hp} {s : Shared} {R : It → Hp → Prop} {E : Value → Shared → Prop} {lo hi : Int} {t u v : Tok} {tk : Nat} (I : Inv X pins σ H s) (h1 : -(2 ^ 62) ≤ lo) (h2 : lo < 2 ^ 62) (h3 : -(2 ^ 62) ≤ hi) (h4 : hi < 2 ^ 62)
    (q : R (Itr lo (hi - lo).toNat) H) : wpAny (model X.prog X.w) X.A (pyIter (.ref s.heap.objs.size)) (PIE X pins σ tg R) E { s with heap := s.heap.push { cls := .type "range", data := .fields #[.int lo t, .int hi u, .int 1 v] }, toks := tk } := by
  refine wpAny_pyIter_range (IsRange.new ..) (small_one h1 h2 h3 h4) ?_
  have I1 : Inv X pins σ H { s with heap := s.heap.push { cls := .type "range", data := .fields #[.int lo t, .int hi u, .int 1 v] }, toks := tk } := I.kept fun b o e => Heap.get?_push_of_some _ e
  refine ⟨(s.heap.push { cls := .type "range", data := .fields #[.int lo t, .int hi u, .int 1 v] }).objs.size, [(s.heap.push { cls := .type "range", data := .fields #[.int lo t, .int hi u, .int 1 v] }).objs.size], _, _, H, rfl,
    I1.kept (t' := tk) fun b o e => Heap.get?_push_of_some _ e, turn_range _ lo (hi - lo).toNat, ?_, fun b hb => ?_, q⟩
  · have e1 : lo + ((0 : Nat) : Int) * 1 = lo := by simp
    have e2 : (((hi - lo).toNat : Nat) : Int) - ((0 : Nat) : Int) = Builtin.Range.rangeSize lo hi 1 := by rw [rangeSize_one]; split <;> omega
    show IsRangeIter _ _ (lo + ((0 : Nat) : Int) * 1) ((((hi - lo).toNat : Nat) : Int) - ((0 : Nat) : Int)) 1
    rw [e1, e2]
    exact Heap.get?_push_size _ rfl
  · have e : b = (s.heap.push { cls := .type "range", data := .fields #[.int lo t, .int hi u, .int 1 v] }).objs.size := by simpa using hb
    subst e
    exact I1.fpOk (Nat.le_refl _) (I1.hok.fresh (Nat.le_refl _))
noncomputable def iRng1 (ta : TA) : TI := fun σ H R => ta σ H fun vs H1 => ∃ j : Int, vs = [.int j] ∧ -(2 ^ 62) ≤ j ∧ j < 2 ^ 62 ∧ R (Itr 0 j.toNat) H1
theorem pi_range1 {a : Expr} {ta : TA} {p pos : Pos} (hg : Gl X "range") (hm : X.mg "range" = none) (ha : PA X [a] ta) (hs : starEach [a] X.env = [(false, eval a X.env)] := by rfl) : PI X tg (.Call (.Name "range" p) [a] [] pos) (iRng1 ta) := by
  intro pins s σ H R I h
  refine Call_ (ld_blt I hg hm boot_range (PyProof.Rows.callWith_type1 (thn (ha pos pins s σ H _ I h) fun us s1 ⟨vs, H1, I1, r1, q1⟩ => ?_) hs rfl))
  obtain ⟨j, e, q1, q2, q⟩ := q1
  subst e
  cases r1 with
  | cons r rr =>
    cases rr
    obtain ⟨t, rfl⟩ := r
    exact call_range_1 (range_it I1 (by omega) (by omega) q1 q2 (by simpa using q))
noncomputable def tFor (wi : TI) (g : TG) (tb : TS) : TS := fun D σ H => wi σ H fun J H1 => ∃ W : Nat → Nat → St → Hp → Prop, (∃ m, W 0 m σ H1) ∧ ∀ i m σ H, W i m σ H →
  (J.stop i H ∧ D.nx σ H) ∨ (J.go i H ∧ ∃ N : St → Hp → Prop, (∀ σ' H', N σ' H' → ∃ m', m' < m ∧ W (i + 1) m' σ' H') ∧ ∀ x H', J.yld i H x H' → g x σ H' fun σ2 H2 => tb { D with nx := N, ct := N, bk := D.nx } σ2 H2)
noncomputable def pinsAt (fp : List Addr) (h : Heap) : List (Addr × Obj) := fp.filterMap fun b => (h.get? b).map fun o => (b, o)
theorem mem_pinsAt {fp : List Addr} {h : Heap} {b : Addr} {o : Obj} (hb : b ∈ fp) (e : h.get? b = some o) : (b, o) ∈ pinsAt fp h := List.mem_filterMap.mpr ⟨b, hb, by rw [e]; rfl⟩
theorem of_pinsAt {fp : List Addr} {h : Heap} {p : Addr × Obj} (hp : p ∈ pinsAt fp h) : p.1 ∈ fp ∧ h.get? p.1 = some p.2 := by
  obtain ⟨b, hb, e⟩ := List.mem_filterMap.mp hp
  cases q : h.get? b with
  | none => rw [q] at e; cases e
  | some o =>
    rw [q] at e
    have e' : (b, o) = p := Option.some.inj e
    subst e'
    exact ⟨hb, q⟩
theorem Inv.pinned {pins : List (Addr × Obj)} {σ : St} {H : Hp} {s : Shared} {fp : List Addr} (I : Inv X pins σ H s) (hf : ∀ b ∈ fp, FpOk X pins H b) (ho : ∀ b ∈ fp, ∃ o, s.heap.get? b = some o ∧ ∀ v, o.data ≠ .cell v) : Inv X (pins ++ pinsAt fp s.heap) σ H s :=
  I.pins_of fun p hp => (List.mem_append.mp hp).elim (fun z => I.pin p (List.mem_append_right _ z)) fun z => by
    obtain ⟨hb, e⟩ := of_pinsAt z
    obtain ⟨f0, f1, f2, _⟩ := hf p.1 hb
    obtain ⟨o, e', d⟩ := ho p.1 hb
    rw [e] at e'; cases e'
    exact ⟨e, f0, f1, f2, d⟩
theorem Inv.unpinned {pins pl : List (Addr × Obj)} {σ : St} {H : Hp} {s : Shared} (I : Inv X (pins ++ pl) σ H s) : Inv X pins σ H s := I.pins_of fun p hp => I.pin p (List.mem_append_right _ (List.mem_append_left _ hp))
theorem ps_for {iter : Expr} {body : List Stmt} {wi : TI} {g : TG} {tb : TS} {pos : Pos} (hp : PassesOwn (model X.prog X.w) X.A X.env X.xe) (hc : X.calm = true) (hi : PI X tg iter wi) (hg : PG X tg g) (hb : PSs X body tb)
    (hs : ∀ x, foldedSetIterable iter X.env x = pure x := by intro _; rfl) : PS X (.For tg iter body [] pos) (tFor wi g tb) := by
  intro pins s σ H D I h
  refine wpAny_For (thn (hi pins s σ H _ I h) fun v s1 h1 => thn h1 fun itv s2 h2 => ?_) hs
  obtain ⟨it, fp, tn, J, H2, e, I2, T, st2, f2, W, ⟨m0, w0⟩, turn⟩ := h2
  subst e
  have stat : ∀ {H' : Hp}, (∀ b ∈ fp, H' b = none) → ∀ b ∈ fp, FpOk X pins H' b := fun hn b hb => ⟨hn b hb, (f2 b hb).2⟩
  refine codeAny_forLoop_any (fun n s' => ∃ i σ' H', Inv X pins σ' H' s' ∧ tn i s'.heap ∧ (∀ b ∈ fp, H' b = none) ∧ W i n σ' H') ?_ m0 ⟨0, σ, H2, I2, st2, fun b hb => (f2 b hb).1, w0⟩
  rintro n s3 ⟨i, σ3, H3, I3, st3, fr3, w3⟩
  rcases turn i n σ3 H3 w3 with ⟨stop, qn⟩ | ⟨go, N, hN, step⟩
  · refine wpAny_passesOwn hp (thn (T.done X rfl rfl rfl hc i pins s3 σ3 H3 X.xe I3 (stat fr3) st3 stop) fun r s4 hq__ => ?_)
    obtain ⟨hr, I4⟩ := hq__
    subst hr
    exact wpAny_execs_nil ⟨σ3, H3, I4, qn⟩
  · refine wpAny_passesOwn hp (thn (T.item X rfl rfl rfl hc i pins s3 σ3 H3 X.xe I3 (stat fr3) st3 go) fun r s4 hq__ => ?_)
    obtain ⟨u, hr, h4⟩ := hq__
    subst hr
    refine wpAny_passesOwn hp (thn h4 fun _ s5 hq__ => ?_)
    obtain ⟨x, H5, I5, r5, y5, st5, fr5⟩ := hq__
    have I5' := I5.pinned (stat fr5) (T.obj _ _ st5)
    refine wpAny_passesOwn hp (thn (hg _ s5 σ3 H5 x u _ I5' r5 (step x H5 y5)) fun _ s6 hq__ => ?_)
    obtain ⟨σ6, H6, I6, q6⟩ := hq__
    refine wpAny_passesOwn hp (thn (hb _ s6 σ6 H6 _ I6 q6) fun f s7 q7 => ?_)
    have again : ∀ {σ7 : St} {H7 : Hp}, Inv X (pins ++ pinsAt fp s5.heap) σ7 H7 s7 → N σ7 H7 → ∃ m, m < n ∧ ∃ i σ' H', Inv X pins σ' H' s7 ∧ tn i s7.heap ∧ (∀ b ∈ fp, H' b = none) ∧ W i m σ' H' := fun {σ7 H7} I7 n7 => by
      obtain ⟨m', hm, w7⟩ := hN σ7 H7 n7
      refine ⟨m', hm, i + 1, σ7, H7, I7.unpinned, T.keep _ _ _ st5 fun b hb o e => (I7.pin (b, o) (List.mem_append_right _ (List.mem_append_right _ (mem_pinsAt hb e)))).1, fun b hb => ?_, w7⟩
      obtain ⟨o, e, d⟩ := T.obj _ _ st5 b hb
      exact (I7.pin (b, o) (List.mem_append_right _ (List.mem_append_right _ (mem_pinsAt hb e)))).2.1
    cases f with
    | next => obtain ⟨σ7, H7, I7, n7⟩ := q7; exact again I7 n7
    | cont => obtain ⟨σ7, H7, I7, n7⟩ := q7; exact again I7 n7
    | brk => obtain ⟨σ7, H7, I7, q7⟩ := q7; exact ⟨σ7, H7, I7.unpinned, q7⟩
    | ret v => obtain ⟨x7, σ7, H7, I7, r7, q7⟩ := q7; exact ⟨x7, σ7, H7, I7.unpinned, r7, q7⟩
end
theorem for_list {K : PySem.W.Frag} {a : Addr} {xs : List V} {g : TG} {tb : TS} {D : Ends} {σ : St} {H : Hp} (Pv : Nat → St → Hp → Prop) (h0 : Pv 0 σ H) (hl : ∀ i σ H, i ≤ xs.length → Pv i σ H → SqL K H a xs)
    (hs : ∀ i x σ H, xs[i]? = some x → Pv i σ H → g x σ H fun σ2 H2 => tb { D with nx := Pv (i + 1), ct := Pv (i + 1), bk := D.nx } σ2 H2) (hd : ∀ σ H, Pv xs.length σ H → D.nx σ H) :
    ∃ W : Nat → Nat → St → Hp → Prop, (∃ m, W 0 m σ H) ∧ ∀ i m σ H, W i m σ H →
      ((Itl K a).stop i H ∧ D.nx σ H) ∨ ((Itl K a).go i H ∧ ∃ N : St → Hp → Prop, (∀ σ' H', N σ' H' → ∃ m', m' < m ∧ W (i + 1) m' σ' H') ∧ ∀ x H', (Itl K a).yld i H x H' → g x σ H' fun σ2 H2 => tb { D with nx := N, ct := N, bk := D.nx } σ2 H2) := by
  refine ⟨fun i m σ H => m = xs.length - i ∧ i ≤ xs.length ∧ Pv i σ H, ⟨xs.length, by simp, Nat.zero_le _, h0⟩, ?_⟩
  rintro i m σ H ⟨rfl, hi, p⟩
  have q := hl i σ H hi p
  by_cases hlt : i < xs.length
  · refine .inr ⟨⟨xs, xs[i], q, by simp [hlt]⟩, Pv (i + 1), fun σ' H' p' => ⟨xs.length - (i + 1), by omega, rfl, hlt, p'⟩, fun x H' y => ?_⟩
    obtain ⟨e, y⟩ := y
    subst e
    exact hs i x σ _ (y xs q) p
  · have e : i = xs.length := by omega
    subst e
    exact .inl ⟨⟨xs, q, Nat.le_refl _⟩, hd σ H p⟩
theorem for_range {lo : Int} {n : Nat} {g : TG} {tb : TS} {D : Ends} {σ : St} {H : Hp} (Pv : Nat → St → Hp → Prop) (h0 : Pv 0 σ H)
    (hs : ∀ i σ H, i < n → Pv i σ H → g (.int (lo + i)) σ H fun σ2 H2 => tb { D with nx := Pv (i + 1), ct := Pv (i + 1), bk := D.nx } σ2 H2) (hd : ∀ σ H, Pv n σ H → D.nx σ H) :
    ∃ W : Nat → Nat → St → Hp → Prop, (∃ m, W 0 m σ H) ∧ ∀ i m σ H, W i m σ H →
      ((Itr lo n).stop i H ∧ D.nx σ H) ∨ ((Itr lo n).go i H ∧ ∃ N : St → Hp → Prop, (∀ σ' H', N σ' H' → ∃ m', m' < m ∧ W (i + 1) m' σ' H') ∧ ∀ x H', (Itr lo n).yld i H x H' → g x σ H' fun σ2 H2 => tb { D with nx := N, ct := N, bk := D.nx } σ2 H2) := by
  refine ⟨fun i m σ H => m = n - i ∧ i ≤ n ∧ Pv i σ H, ⟨n, by simp, Nat.zero_le _, h0⟩, ?_⟩
  rintro i m σ H ⟨rfl, hi, p⟩
  by_cases hlt : i < n
  · refine .inr ⟨hlt, Pv (i + 1), fun σ' H' p' => ⟨n - (i + 1), by omega, rfl, hlt, p'⟩, fun x H' y => ?_⟩
    obtain ⟨e, y⟩ := y
    subst e y
    exact hs i σ _ hlt p
  · have e : i = n := by omega
    subst e
    exact .inl ⟨Nat.le_refl _, hd σ H p⟩
theorem while_by {c : TT} {tb : TS} {D : Ends} {σ : St} {H : Hp} (Pv : St → Hp → Prop) (μ : St → Hp → Nat) (h0 : Pv σ H)
    (hs : ∀ σ H, Pv σ H → c σ H fun b H1 => if b = true then tb { D with nx := fun σ' H' => Pv σ' H' ∧ μ σ' H' < μ σ H, ct := fun σ' H' => Pv σ' H' ∧ μ σ' H' < μ σ H, bk := D.nx } σ H1 else D.nx σ H1)
    (mono : ∀ σ H Q Q', (∀ b H1, Q b H1 → Q' b H1) → c σ H Q → c σ H Q') : tWhile c tb D σ H := by
  refine ⟨fun m σ H => m = μ σ H ∧ Pv σ H, ⟨_, rfl, h0⟩, ?_⟩
  rintro m σ H ⟨rfl, p⟩
  refine mono σ H _ _ (fun b H1 q => ?_) (hs σ H p)
  cases b with
  | true => exact ⟨_, fun σ' H' ⟨p', l⟩ => ⟨_, l, rfl, p'⟩, q⟩
  | false => exact q
end L2
namespace L2
open PySem PySem.Spec PyProof.Rows
noncomputable abbrev R2 := V → V → Hp → VK → Prop
noncomputable def OpR (X : Cx) (f : Value → Value → Sem Value) (r : R2) : Prop :=
  ∀ (pins : List (Addr × Obj)) (s : Shared) (σ : St) (H : Hp) (x y : V) (v u : Value) (Q : VK), Inv X pins σ H s → RelV x v → RelV y u → r x y H Q →
    wpAny (model X.prog X.w) X.A (f v u) (EP X pins σ Q) X.xe s
noncomputable def UnR (X : Cx) (f : Value → Sem Value) (r : V → Hp → VK → Prop) : Prop :=
  ∀ (pins : List (Addr × Obj)) (s : Shared) (σ : St) (H : Hp) (x : V) (v : Value) (Q : VK), Inv X pins σ H s → RelV x v → r x H Q →
    wpAny (model X.prog X.w) X.A (f v) (EP X pins σ Q) X.xe s
noncomputable def CallR (X : Cx) (f : Value) (r : List V → Hp → VK → Prop) : Prop :=
  ∀ (pins : List (Addr × Obj)) (s : Shared) (σ : St) (H : Hp) (xs : List V) (us : List Value) (Q : VK), Inv X pins σ H s → Vals xs us → r xs H Q →
    wpAny (model X.prog X.w) X.A (call f us) (EP X pins σ Q) X.xe s
noncomputable def TruR (X : Cx) (r : V → Hp → (Bool → Hp → Prop) → Prop) : Prop :=
  ∀ (pins : List (Addr × Obj)) (s : Shared) (σ : St) (H : Hp) (x : V) (v : Value) (Q : Bool → Hp → Prop), Inv X pins σ H s → RelV x v → r x H Q →
    wpAny (model X.prog X.w) X.A (truthy v) (TP X pins σ Q) X.xe s
noncomputable def tOp (r : R2) (ta tb : TE) : TE := fun σ H Q => ta σ H fun x H1 => tb σ H1 fun y H2 => r x y H2 Q
noncomputable def tUn (r : V → Hp → VK → Prop) (ta : TE) : TE := fun σ H Q => ta σ H fun x H1 => r x H1 Q
noncomputable def rI (C : Int → Int → Prop) (g : Int → Int → V) : R2 := fun x y H Q => ∃ i j, x = .int i ∧ y = .int j ∧ C i j ∧ Q (g i j) H
noncomputable def rI0 (g : Int → Int → V) : R2 := fun x y H Q => ∃ i j, x = .int i ∧ y = .int j ∧ Q (g i j) H
noncomputable def rU (g : Int → V) : V → Hp → VK → Prop := fun x H Q => ∃ i, x = .int i ∧ Q (g i) H
section
variable {X : Cx} {a b c : Expr} {ta tb tc : TE} {pos : Pos}
theorem binT (ha : PE X a ta) (hb : PE X b tb) {pins : List (Addr × Obj)} {s : Shared} {σ : St} {H : Hp} {R : V → V → Hp → Prop} (I : Inv X pins σ H s)
    (h : ta σ H fun x H1 => tb σ H1 fun y H2 => R x y H2) {Q : Value → Shared → Prop} {f : Value → Value → Sem Value}
    (hf : ∀ v u s2 x y H2, Inv X pins σ H2 s2 → RelV x v → RelV y u → R x y H2 → wpAny (model X.prog X.w) X.A (f v u) Q X.xe s2) :
    wpAny (model X.prog X.w) X.A (eval a X.env) (fun v s₁ => wpAny (model X.prog X.w) X.A (eval b X.env) (fun u s₂ => wpAny (model X.prog X.w) X.A (f v u) Q X.xe s₂) X.xe s₁) X.xe s := by
  refine thn (ha pins s σ H _ I h) fun v s1 hq__ => ?_
  obtain ⟨x, H1, I1, r1, q1⟩ := hq__
  refine thn (hb pins s1 σ H1 _ I1 q1) fun u s2 hq__ => ?_
  obtain ⟨y, H2, I2, r2, q2⟩ := hq__
  exact hf v u s2 x y H2 I2 r1 r2 q2
theorem pe_op {op : Operator} {r : R2} (ho : OpR X (binaryOp op) r) (ha : PE X a ta) (hb : PE X b tb) : PE X (.BinOp a op b pos) (tOp r ta tb) := by
  intro pins s σ H Q I h
  exact wpAny_BinOp (binT ha hb I h fun v u s2 x y H2 I2 rx ry q => ho pins s2 σ H2 x y v u Q I2 rx ry q)
theorem pe_un {op : UnaryOp} {r : V → Hp → VK → Prop} (ho : UnR X (unaryOp op) r) (ha : PE X a ta) : PE X (.UnaryOp op a pos) (tUn r ta) := by
  intro pins s σ H Q I h
  exact UnaryOp_ (thn (ha pins s σ H _ I h) fun v s1 ⟨x, H1, I1, r1, q1⟩ => ho pins s1 σ H1 x v Q I1 r1 q1)
theorem opI {f : Value → Value → Sem Value} {C : Int → Int → Prop} {g : Int → Int → Int}
    (rule : ∀ (i j : Int) (t u : Tok) (s : Shared) (Q : Value → Shared → Prop) (E : Value → Shared → Prop), C i j → Q (.int (g i j) s.toks) { s with toks := s.toks + 1 } → wpAny (model X.prog X.w) X.A (f (.int i t) (.int j u)) Q E s) :
    OpR X f (rI C fun i j => .int (g i j)) := by
  intro pins s σ H x y v u Q I rx ry h
  obtain ⟨i, j, rfl, rfl, hc, q⟩ := h
  obtain ⟨t, rfl⟩ := rx
  obtain ⟨t', rfl⟩ := ry
  exact rule i j t t' s _ _ hc ⟨.int (g i j), H, I.tok _, ⟨_, rfl⟩, q⟩
theorem opI0 {f : Value → Value → Sem Value} {g : Int → Int → Int}
    (rule : ∀ (i j : Int) (t u : Tok) (s : Shared) (Q : Value → Shared → Prop) (E : Value → Shared → Prop), Q (.int (g i j) s.toks) { s with toks := s.toks + 1 } → wpAny (model X.prog X.w) X.A (f (.int i t) (.int j u)) Q E s) :
    OpR X f (rI0 fun i j => .int (g i j)) := by
  intro pins s σ H x y v u Q I rx ry h
  obtain ⟨i, j, rfl, rfl, q⟩ := h
  obtain ⟨t, rfl⟩ := rx
  obtain ⟨t', rfl⟩ := ry
  exact rule i j t t' s _ _ ⟨.int (g i j), H, I.tok _, ⟨_, rfl⟩, q⟩
theorem opB0 {f : Value → Value → Sem Value} {g : Int → Int → Bool}
    (rule : ∀ (i j : Int) (t u : Tok) (s : Shared) (Q : Value → Shared → Prop) (E : Value → Shared → Prop), Q (.bool (g i j)) s → wpAny (model X.prog X.w) X.A (f (.int i t) (.int j u)) Q E s) :
    OpR X f (rI0 fun i j => .bl (g i j)) := by
  intro pins s σ H x y v u Q I rx ry h
  obtain ⟨i, j, rfl, rfl, q⟩ := h
  obtain ⟨t, rfl⟩ := rx
  obtain ⟨t', rfl⟩ := ry
  exact rule i j t t' s _ _ ⟨.bl (g i j), H, I, rfl, q⟩
noncomputable def CDiv (i j : Int) : Prop := 0 < j ∧ j < 1073741824
noncomputable def CPow (i j : Int) : Prop := 0 ≤ j ∧ j ≤ 1000000 ∧ i.natAbs < 2 ^ 64
noncomputable def CMul (i j : Int) : Prop := (-(2 ^ 64) < i ∧ i < 2 ^ 64) ∨ (-(2 ^ 64) < j ∧ j < 2 ^ 64)
theorem CMul.ok {i j : Int} (h : CMul i j) : IntMulOk i j := by
  rcases h with ⟨h1, h2⟩ | ⟨h1, h2⟩
  · exact .of_left (intBits_le_64 h1 h2)
  · exact .of_right (intBits_le_64 h1 h2)
theorem op_add : OpR X (binaryOp .Add) (rI0 fun i j => .int (i + j)) := opI0 fun _ _ _ _ _ _ _ q => add_int q
theorem op_sub : OpR X (binaryOp .Sub) (rI0 fun i j => .int (i - j)) := opI0 fun _ _ _ _ _ _ _ q => sub_int q
theorem op_mul : OpR X (binaryOp .Mult) (rI CMul fun i j => .int (i * j)) := opI fun _ _ _ _ _ _ _ hc q => mul_int q hc.ok
theorem op_fdiv : OpR X (binaryOp .FloorDiv) (rI CDiv fun i j => .int (i / j)) := opI fun i j _ _ _ _ _ hc q => by
  have h1 : (0 : Int) < j := hc.1
  have h2 : j < 1073741824 := hc.2
  exact floordiv_int (by omega) (by rw [Int.fdiv_eq_ediv_of_nonneg i (by omega)]; exact q) (.inl (PyProof.noPylong_small (by omega)))
theorem op_mod : OpR X (binaryOp .Mod) (rI (fun _ j => 0 < j) fun i j => .int (i % j)) := opI fun i j _ _ _ _ _ hc q => by
  have h1 : (0 : Int) < j := hc
  exact mod_int' (by omega) (by rw [Int.fmod_eq_emod_of_nonneg i (by omega)]; exact q)
theorem op_pow : OpR X (binaryOp .Pow) (rI CPow fun i j => .int (i ^ j.toNat)) := opI fun _ _ _ _ _ _ _ hc q => pow_int_small hc.1 hc.2.1 hc.2.2 q
theorem unI {f : Value → Sem Value} {g : Int → Int}
    (rule : ∀ (i : Int) (t : Tok) (s : Shared) (Q : Value → Shared → Prop) (E : Value → Shared → Prop), Q (.int (g i) s.toks) { s with toks := s.toks + 1 } → wpAny (model X.prog X.w) X.A (f (.int i t)) Q E s) :
    UnR X f (rU fun i => .int (g i)) := by
  intro pins s σ H x v Q I rx h
  obtain ⟨i, rfl, q⟩ := h
  obtain ⟨t, rfl⟩ := rx
  exact rule i t s _ _ ⟨.int (g i), H, I.tok _, ⟨_, rfl⟩, q⟩
theorem un_neg : UnR X (unaryOp .USub) (rU fun i => .int (-i)) := unI fun _ _ _ _ _ q => neg_int q
end
noncomputable def scal : V → V → Bool
  | .non, .non => true | .non, .int _ => true | .int _, .non => true | .non, .bl _ => true | .bl _, .non => true | .non, .str _ => true | .str _, .non => true
  | .int _, .int _ => true | .bl _, .bl _ => true | .str _, .str _ => true | .byt _, .byt _ => true
  | .int _, .str _ => true | .str _, .int _ => true | .bl _, .str _ => true | .str _, .bl _ => true
  | _, _ => false
noncomputable def rEq : R2 := fun x y H Q => scal x y = true ∧ Q (.bl (decide (x = y))) H
noncomputable def rNe : R2 := fun x y H Q => scal x y = true ∧ Q (.bl (!decide (x = y))) H
theorem dec_int {i j : Int} : decide (V.int i = V.int j) = (i == j) := by
  rw [Bool.eq_iff_iff]
  simp
theorem dec_bl {i j : Bool} : decide (V.bl i = V.bl j) = (i == j) := by
  rw [Bool.eq_iff_iff]
  simp
theorem dec_str {i j : Str} : decide (V.str i = V.str j) = (i == j) := by
  rw [Bool.eq_iff_iff]
  simp
theorem dec_byt {i j : Array UInt8} : decide (V.byt i = V.byt j) = (i.toList == j.toList) := by
  rw [Bool.eq_iff_iff]
  cases i
  cases j
  simp
section
variable {X : Cx} {a b c : Expr} {ta tb tc : TE} {pos : Pos}
theorem fin_bl {pins : List (Addr × Obj)} {σ : St} {H : Hp} {s : Shared} {Q : VK} {k k' : Bool} (I : Inv X pins σ H s) (q : Q (.bl k) H) (e : k = k') : EP X pins σ Q (.bool k') s := by
  subst e
  exact ⟨.bl k, H, I, rfl, q⟩
theorem op_eq : OpR X (compareOp .Eq) rEq := by
  intro pins s σ H x y v u Q I rx ry h
  obtain ⟨hs, q⟩ := h
  cases x with
  | non =>
    cases rx
    cases y with
    | non => cases ry; exact PySem.EqNone.eq_none_none (fin_bl I q (by simp))
    | bl j => cases ry; exact PySem.EqNone.eq_none_bool (fin_bl I q (by simp))
    | int j => obtain ⟨t', rfl⟩ := ry; exact PySem.EqNone.eq_none_int (fin_bl I q (by simp))
    | str j => obtain ⟨t', rfl⟩ := ry; exact PySem.EqNone.eq_none_str (fin_bl I q (by simp))
    | _ => exact absurd (show false = true from hs) Bool.false_ne_true
  | bl i =>
    cases rx
    cases y with
    | non => cases ry; exact PySem.EqNone.eq_bool_none (fin_bl I q (by simp))
    | bl j => cases ry; exact eq_bool (fin_bl I q dec_bl)
    | str j => obtain ⟨t', rfl⟩ := ry; exact PySem.EqMixed.eq_bool_str (fin_bl I q (by simp))
    | _ => exact absurd (show false = true from hs) Bool.false_ne_true
  | int i =>
    obtain ⟨t, rfl⟩ := rx
    cases y with
    | non => cases ry; exact PySem.EqNone.eq_int_none (fin_bl I q (by simp))
    | int j => obtain ⟨t', rfl⟩ := ry; exact eq_int (fin_bl I q dec_int)
    | str j => obtain ⟨t', rfl⟩ := ry; exact PySem.EqMixed.eq_int_str (fin_bl I q (by simp))
    | _ => exact absurd (show false = true from hs) Bool.false_ne_true
  | str i =>
    obtain ⟨t, rfl⟩ := rx
    cases y with
    | non => cases ry; exact PySem.EqNone.eq_str_none (fin_bl I q (by simp))
    | bl j => cases ry; exact PySem.EqMixed.eq_str_bool (fin_bl I q (by simp))
    | int j => obtain ⟨t', rfl⟩ := ry; exact PySem.EqMixed.eq_str_int (fin_bl I q (by simp))
    | str j => obtain ⟨t', rfl⟩ := ry; exact eq_str (fin_bl I q dec_str)
    | _ => exact absurd (show false = true from hs) Bool.false_ne_true
  | byt i =>
    obtain ⟨t, rfl⟩ := rx
    cases y with
    | byt j => obtain ⟨t', rfl⟩ := ry; exact PySem.W.eq_bytes (fin_bl I q dec_byt)
    | _ => exact absurd (show false = true from hs) Bool.false_ne_true
  | _ => cases y <;> exact absurd (show false = true from hs) Bool.false_ne_true
theorem op_ne : OpR X (compareOp .NotEq) rNe := by
  intro pins s σ H x y v u Q I rx ry h
  obtain ⟨hs, q⟩ := h
  cases x with
  | non =>
    cases rx
    cases y with
    | non => cases ry; exact PySem.EqNone.ne_none_none (fin_bl I q (by simp))
    | bl j => cases ry; exact PySem.EqNone.ne_none_bool (fin_bl I q (by simp))
    | int j => obtain ⟨t', rfl⟩ := ry; exact PySem.EqNone.ne_none_int (fin_bl I q (by simp))
    | str j => obtain ⟨t', rfl⟩ := ry; exact PySem.EqNone.ne_none_str (fin_bl I q (by simp))
    | _ => exact absurd (show false = true from hs) Bool.false_ne_true
  | bl i =>
    cases rx
    cases y with
    | non => cases ry; exact PySem.EqNone.ne_bool_none (fin_bl I q (by simp))
    | bl j => cases ry; exact ne_bool (fin_bl I q (congrArg not dec_bl))
    | str j => obtain ⟨t', rfl⟩ := ry; exact PySem.EqMixed.ne_bool_str (fin_bl I q (by simp))
    | _ => exact absurd (show false = true from hs) Bool.false_ne_true
  | int i =>
    obtain ⟨t, rfl⟩ := rx
    cases y with
    | non => cases ry; exact PySem.EqNone.ne_int_none (fin_bl I q (by simp))
    | int j => obtain ⟨t', rfl⟩ := ry; exact ne_int (fin_bl I q (congrArg not dec_int))
    | str j => obtain ⟨t', rfl⟩ := ry; exact PySem.EqMixed.ne_int_str (fin_bl I q (by simp))
    | _ => exact absurd (show false = true from hs) Bool.false_ne_true
  | str i =>
    obtain ⟨t, rfl⟩ := rx
    cases y with
    | non => cases ry; exact PySem.EqNone.ne_str_none (fin_bl I q (by simp))
    | bl j => cases ry; exact PySem.EqMixed.ne_str_bool (fin_bl I q (by simp))
    | int j => obtain ⟨t', rfl⟩ := ry; exact PySem.EqMixed.ne_str_int (fin_bl I q (by simp))
    | str j => obtain ⟨t', rfl⟩ := ry; exact ne_str (fin_bl I q (congrArg not dec_str))
    | _ => exact absurd (show false = true from hs) Bool.false_ne_true
  | byt i =>
    obtain ⟨t, rfl⟩ := rx
    cases y with
    | byt j => obtain ⟨t', rfl⟩ := ry; exact PySem.W.ne_bytes (fin_bl I q (congrArg not dec_byt))
    | _ => exact absurd (show false = true from hs) Bool.false_ne_true
  | _ => cases y <;> exact absurd (show false = true from hs) Bool.false_ne_true
theorem op_lt : OpR X (compareOp .Lt) (rI0 fun i j => .bl (decide (i < j))) := opB0 fun _ _ _ _ _ _ _ q => lt_int q
theorem op_ge : OpR X (compareOp .GtE) (rI0 fun i j => .bl (decide (j ≤ i))) := opB0 fun _ _ _ _ _ _ _ q => ge_int q
theorem op_notN : OpR X (compareOp .IsNot) (fun x y H Q => y = .non ∧ Q (.bl (!decide (x = .non))) H) := by
  intro pins s σ H x y v u Q I rx ry h
  obtain ⟨rfl, q⟩ := h
  cases ry
  refine isnot_none_gen (fin_bl I q ?_)
  cases x <;> first
    | (cases rx; rfl)
    | (obtain ⟨t, rfl⟩ := rx; rfl)
theorem nomark (b : Expr) {op : CmpOp} (h : op ≠ .In := by decide) (h2 : op ≠ .NotIn := by decide) : behindInMarks op b = false := by
  have e1 : (op == CmpOp.In) = false := by cases op <;> first | rfl | exact absurd rfl h
  have e2 : (op == CmpOp.NotIn) = false := by cases op <;> first | rfl | exact absurd rfl h2
  cases b <;> simp [behindInMarks, e1, e2]
theorem pe_cmpR {op : CmpOp} {r : R2} (ho : OpR X (compareOp op) r) (ha : PE X a ta) (hb : PE X b tb) (hm : behindInMarks op b = false) : PE X (.Compare a [op] [b] pos) (tOp r ta tb) := by
  intro pins s σ H Q I h
  exact wpAny_Compare1 (binT ha hb I h fun v u s2 x y H2 I2 rx ry q => ho pins s2 σ H2 x y v u Q I2 rx ry q) hm
noncomputable def tTest (t : TE) : TT := fun σ H Q => t σ H fun x H' => ∃ k, x = .bl k ∧ Q k H'
theorem pt_cmpR {op : CmpOp} {r : R2} (ho : OpR X (compareOp op) r) (ha : PE X a ta) (hb : PE X b tb) (hm : behindInMarks op b = false) : PT X (.Compare a [op] [b] pos) (tTest (tOp r ta tb)) := by
  intro pins s σ H Q I h
  refine wpAny_isTrue_Compare1 (thn (ha pins s σ H _ I h) fun v s1 h1 => ?_) hm
  obtain ⟨x, H1, I1, r1, q1⟩ := h1
  refine thn (hb pins s1 σ H1 _ I1 q1) fun u s2 h2 => ?_
  obtain ⟨y, H2, I2, r2, q2⟩ := h2
  refine thn (ho pins s2 σ H2 x y v u _ I2 r1 r2 q2) fun c s3 h3 => ?_
  obtain ⟨z, H3, I3, r3, k, e, q3⟩ := h3
  subst e
  cases r3
  exact wpAny_truthy_bool ⟨H3, I3, q3⟩
noncomputable def TruV (K : PySem.W.Frag) (x : V) (H : Hp) (k : Bool) : Prop :=
  match x with
  | .non => k = false
  | .bl b => k = b
  | .int i => k = (i != 0)
  | .str y => y.length ≤ sizeLine ∧ k = ((y.length : Int) != 0)
  | .byt y => y.size ≤ sizeLine ∧ k = ((y.size : Int) != 0)
  | .ref p => (∃ xs, SqL K H p xs ∧ k = !xs.isEmpty) ∨ (∃ xs, SqT K H p xs ∧ k = !xs.isEmpty) ∨ ∃ kvs, H p = some (.dK kvs) ∧ k = !kvs.isEmpty
  | _ => False
theorem isEmpty_kv {κ : Type} {kvs : List (κ × V)} {vs : List (κ × Value)} (r : KV kvs vs) : (!vs.isEmpty) = !kvs.isEmpty := by
  cases r <;> rfl
theorem isEmpty_of {xs : List V} {its : List Value} (r : Vals xs its) : (!its.toArray.isEmpty) = !xs.isEmpty := by
  cases r <;> simp
theorem line63 : (sizeLine : Nat) < 2 ^ 63 := by rw [sizeLine_eq]; decide
theorem tru_ok : TruR X (fun x H Q => ∃ k, TruV X.K x H k ∧ Q k H) := by
  intro pins s σ H x v Q I rx h
  obtain ⟨k, e, q⟩ := h
  have hl := line63
  have hs : sizeLine = 16777216 := sizeLine_eq
  cases x with
  | non =>
    cases rx
    have e' : k = false := e
    subst e'
    exact truthy_none ⟨H, I, q⟩
  | bl b =>
    cases rx
    have e' : k = b := e
    subst e'
    exact wpAny_truthy_bool ⟨H, I, q⟩
  | int i =>
    obtain ⟨t, rfl⟩ := rx
    have e' : k = (i != 0) := e
    subst e'
    exact PySem.P.truthy_int ⟨H, I, q⟩
  | str y =>
    obtain ⟨t, rfl⟩ := rx
    obtain ⟨hy, e'⟩ : y.length ≤ sizeLine ∧ k = ((y.length : Int) != 0) := e
    subst e'
    exact PySem.P.truthy_str (by omega) ⟨H, I.tok _, q⟩
  | byt y =>
    obtain ⟨t, rfl⟩ := rx
    obtain ⟨hy, e'⟩ : y.size ≤ sizeLine ∧ k = ((y.size : Int) != 0) := e
    subst e'
    exact PySem.W.truthy_bytes (by omega) ⟨H, I.tok _, q⟩
  | ref p =>
    cases rx
    have e' : (∃ xs, SqL X.K H p xs ∧ k = !xs.isEmpty) ∨ (∃ xs, SqT X.K H p xs ∧ k = !xs.isEmpty) ∨ ∃ kvs, H p = some (.dK kvs) ∧ k = !kvs.isEmpty := e
    rcases e' with ⟨xs, hx, e'⟩ | ⟨xs, hx, e'⟩ | ⟨kvs, hx, e'⟩
    · subst e'
      obtain ⟨its, r, pl, hz⟩ := I.list hx
      have hlen := r.length
      exact wpAny_truthy_list pl.isList (by simp only [List.size_toArray]; omega) ⟨H, I.tok _, by rw [isEmpty_of r]; exact q⟩
    · subst e'
      obtain ⟨its, r, pl, hz⟩ := I.tuple hx
      have hlen := r.length
      exact truthy_tuple pl (by simp only [List.size_toArray]; omega) ⟨H, I.tok _, by rw [isEmpty_of r]; exact q⟩
    · subst e'
      obtain ⟨hz, hS, vs, r, m⟩ : kvs.length ≤ sizeLine ∧ (p == sysModules) = false ∧ ∃ vs, KV kvs vs ∧ s.heap.DictOf (mixKind X.prog X.w) p vs := I.hok p _ hx
      have hlen : kvs.length = vs.length := Paired.length r
      exact wpAny_truthy_dict hS m (by omega) ⟨H, I.tok _, by rw [isEmpty_kv r]; exact q⟩
  | _ => exact (show False from e).elim
theorem vals1 {x : V} {us : List Value} (r : Vals [x] us) : ∃ u, us = [u] ∧ RelV x u := by
  cases r with
  | cons r1 r2 => cases r2; exact ⟨_, rfl, r1⟩
theorem vals2 {x y : V} {us : List Value} (r : Vals [x, y] us) : ∃ u w', us = [u, w'] ∧ RelV x u ∧ RelV y w' := by
  cases r with
  | cons r1 r2 =>
    cases r2 with
    | cons r3 r4 => cases r4; exact ⟨_, _, rfl, r1, r3⟩
theorem call_max2 (hc : X.calm = true) : CallR X (.builtin "max") (fun xs H Q => ∃ i j, xs = [.int i, .int j] ∧ Q (.int (if j > i then j else i)) H) := by
  intro pins s σ H xs us Q I r h
  obtain ⟨i, j, rfl, q⟩ := h
  obtain ⟨u, w', rfl, ⟨t, rfl⟩, ⟨t', rfl⟩⟩ := vals2 r
  refine max_two_ints (I.ok.hd hc) fun h' tk k => ⟨_, H, I.kept k, ?_, q⟩
  by_cases hj : j > i
  · rw [if_pos hj, if_pos hj]; exact ⟨_, rfl⟩
  · rw [if_neg hj, if_neg hj]; exact ⟨_, rfl⟩
theorem call_min2 (hc : X.calm = true) : CallR X (.builtin "min") (fun xs H Q => ∃ i j, xs = [.int i, .int j] ∧ Q (.int (if j < i then j else i)) H) := by
  intro pins s σ H xs us Q I r h
  obtain ⟨i, j, rfl, q⟩ := h
  obtain ⟨u, w', rfl, ⟨t, rfl⟩, ⟨t', rfl⟩⟩ := vals2 r
  refine min_two_ints (I.ok.hd hc) fun h' tk k => ⟨_, H, I.kept k, ?_, q⟩
  by_cases hj : j < i
  · rw [if_pos hj, if_pos hj]; exact ⟨_, rfl⟩
  · rw [if_neg hj, if_neg hj]; exact ⟨_, rfl⟩
noncomputable def LenV (K : PySem.W.Frag) (x : V) (H : Hp) (n : Nat) : Prop :=
  match x with
  | .str y => y.length ≤ sizeLine ∧ n = y.length
  | .byt y => y.size ≤ sizeLine ∧ n = y.size
  | .ref p => (∃ xs, SqL K H p xs ∧ n = xs.length) ∨ ∃ xs, SqT K H p xs ∧ n = xs.length
  | _ => False
theorem call_len : CallR X (.builtin "len") (fun xs H Q => ∃ x n, xs = [x] ∧ LenV X.K x H n ∧ Q (.int n) H) := by
  intro pins s σ H xs us Q I r h
  obtain ⟨x, n, rfl, e, q⟩ := h
  obtain ⟨u, rfl, rx⟩ := vals1 r
  have hl := line63
  have hs : sizeLine = 16777216 := sizeLine_eq
  cases x with
  | str y =>
    obtain ⟨t, rfl⟩ := rx
    obtain ⟨hy, e'⟩ : y.length ≤ sizeLine ∧ n = y.length := e
    subst e'
    exact len_str (by omega) ⟨.int _, H, I.tok _, ⟨_, rfl⟩, q⟩
  | byt y =>
    obtain ⟨t, rfl⟩ := rx
    obtain ⟨hy, e'⟩ : y.size ≤ sizeLine ∧ n = y.size := e
    subst e'
    exact PySem.W.len_bytes (by omega) ⟨.int _, H, I.tok _, ⟨_, rfl⟩, q⟩
  | ref p =>
    cases rx
    have e' : (∃ xs, SqL X.K H p xs ∧ n = xs.length) ∨ ∃ xs, SqT X.K H p xs ∧ n = xs.length := e
    rcases e' with ⟨xs, hx, e'⟩ | ⟨xs, hx, e'⟩
    · subst e'
      obtain ⟨its, r', pl, hz⟩ := I.list hx
      have hlen := r'.length
      exact Calls.call_len_list pl.isList (by simp only [List.size_toArray]; omega) ⟨.int xs.length, H, I.tok _, ⟨_, by simp only [List.size_toArray]; rw [hlen]⟩, q⟩
    · subst e'
      obtain ⟨its, r', pl, hz⟩ := I.tuple hx
      have hlen := r'.length
      exact len_tuple pl (by simp only [List.size_toArray]; omega) ⟨.int xs.length, H, I.tok _, ⟨_, by simp only [List.size_toArray]; rw [hlen]⟩, q⟩
  | _ => exact (show False from e).elim
end
end L2
namespace L2
open PySem PySem.Spec PyProof.Rows
structure ObjM (h : Heap) (x dx C : Addr) (mA : Str → Option Value) : Prop where
  obj : h.get? x = some (PySem.W.instObj C dx)
  ns : h.Ns1 dx mA
  ne : dx ≠ x
theorem lookIn_ns {h : Heap} {dx : Addr} {mA : Str → Option Value} (n : h.Ns1 dx mA) : ∃ od, h.get? dx = some od ∧ ∀ name, PySem.W.lookIn name od = some (mA name) := by
  obtain ⟨o, es, ep, ho, hd, hk, _, hm⟩ := n
  refine ⟨o, ho, fun name => ?_⟩
  have e := hm name
  unfold nsFind findBy at e
  rw [← Array.find?_toList] at e
  unfold PySem.W.lookIn
  rw [hd]
  dsimp only
  split
  · rename_i y q
    rw [q] at e
    exact congrArg some e
  · rename_i q
    rw [q] at e
    have a : es.toList.any (·.refKey) = false := by
      rw [List.any_eq_false]
      intro y hy
      obtain ⟨z, t, hkey⟩ := hk y (Array.mem_toList_iff.mp hy)
      simp [DictEntry.refKey, hkey]
    have a' : ¬ es.toList.any (·.refKey) = true := by rw [a]; exact Bool.false_ne_true
    rw [if_neg a']
    exact congrArg some e
theorem ObjM.look {h : Heap} {x dx C : Addr} {mA : Str → Option Value} (I : ObjM h x dx C mA) : ∃ od, PySem.W.InstAt h x (PySem.W.instObj C dx) C (some od) ∧ ∀ name, PySem.W.lookIn name od = some (mA name) :=
  let ⟨od, ho, hl⟩ := lookIn_ns I.ns
  ⟨od, ⟨I.obj, rfl, rfl, ho⟩, hl⟩
section
variable {prog : Program} {w : World} {A : Around} {E : Value → Shared → Prop} {s : Shared} {K : PySem.W.Frag} {x dx C f : Addr} {mA : Str → Option Value} {name : Str} {v : Value}
end
section
variable {P : Program} {w : World} {H H' : Hp} {h h' : Heap} {a C dx : Addr} {fs fs' : List (Str × V)}
theorem ins_get (hok : HOk P w H h) (e : H a = some (.ins C dx fs)) : ∃ mA, ObjM h a dx C mA ∧ (∀ f, RelO (fs.lookup f) (mA f)) ∧ PySem.Within mA (fs.map (·.1)) ∧ fs.length ≤ 1000 ∧ H dx = some (.own a) := by
  obtain ⟨d, z, ne, ob, mA, n, r, q⟩ := (show ObjOk P w H h a (.ins C dx fs) from hok a _ e)
  exact ⟨mA, ⟨ob, n, ne⟩, r, q, z, d⟩
end
structure Cls (K : PySem.W.Frag) (C : Addr) : Prop where
  pg : PySem.W.plainGet K C Str.empty = true
  hd : PySem.W.hasDictIn K C = true
  po : PySem.W.plainOver K C = true
  sa : PySem.W.findIn K (.ref C) "__setattr__" = some (some (.builtin "object.__setattr__"))
theorem Cls.get {K : PySem.W.Frag} {C : Addr} (c : Cls K C) (f : Str) : PySem.W.plainGet K C f = true := c.pg
section
variable {X : Cx} {pins : List (Addr × Obj)} {σ : St} {H : Hp} {s : Shared} {a C dx : Addr} {fs : List (Str × V)} {f : Str} {v : V} {A : Around} {E : Value → Shared → Prop}
end
section
variable {X : Cx} {o e value : Expr} {f : Str} {pos pos' tpos : Pos} {ta tv : TE}
end
section
variable {X : Cx} {pins : List (Addr × Obj)} {σ : St} {H : Hp} {s : Shared} {A : Around} {E : Value → Shared → Prop} {Q : Value → Shared → Prop} {c : Value} {b : Bool}
inductive TyOf (K : PySem.W.Frag) (H : Hp) : V → Value → Prop where
  | non : TyOf K H .non (.type "NoneType")
  | bl (x : Bool) : TyOf K H (.bl x) (.type "bool")
  | int (i : Int) : TyOf K H (.int i) (.type "int")
  | str (x : Str) : TyOf K H (.str x) (.type "str")
  | flt (x : UInt64) : TyOf K H (.flt x) (.type "float")
  | lst {a : Addr} {xs : List V} (e : H a = some (.lst xs)) : TyOf K H (.ref a) (.type "list")
  | frz {a : Addr} {o : Obj} {xs : List V} (e : H a = some (.frz o (.lst xs))) : TyOf K H (.ref a) (.type "list")
  | tup {a : Addr} {xs : List V} (e : H a = some (.tup xs)) : TyOf K H (.ref a) (.type "tuple")
  | dK {a : Addr} {kvs : List (Key × V)} (e : H a = some (.dK kvs)) : TyOf K H (.ref a) (.type "dict")
  | dT {a : Addr} {kvs : List (List Key × V)} (e : H a = some (.dT kvs)) : TyOf K H (.ref a) (.type "dict")
  | ins {a C dx : Addr} {fs : List (Str × V)} (e : H a = some (.ins C dx fs)) (cl : Cls K C) (ha : PySem.W.findIn K (.ref C) "__class__" = some (some (.builtin "object.__class__")))
      (hn : PySem.W.specialIn K (.builtin "object.__class__") "__get__" = some (some (.builtin "getset_descriptor.__get__"))) (htk : PySem.W.takesIn K (.builtin "object.__class__") = some true)
      (hm : PySem.W.mroIn K C (.type "object") = some true) : TyOf K H (.ref a) (.ref C)
theorem isinst_ok {x : V} {u t : Value} (I : Inv X pins σ H s) (rx : RelV x u) (ty : TyOf X.K H x t) (e : PySem.W.kitOne X.K t c = some b) (h : ∀ tk, Q (.bool b) { s with toks := tk }) :
    wpAny (model X.prog X.w) A (call (.builtin "isinstance") [u, c]) Q E s := by
  cases ty with
  | non => cases (show u = Value.none from rx); exact PySem.W.kia_one PySem.W.kitx_none I.kIn True.intro e (fun z => nomatch z) h
  | bl y => cases (show u = Value.bool y from rx); exact PySem.W.kia_one PySem.W.kitx_bool I.kIn True.intro e (fun z => nomatch z) h
  | int i => obtain ⟨t, q⟩ := (show ∃ t, u = Value.int i t from rx); cases q; exact PySem.W.kia_one PySem.W.kitx_int I.kIn True.intro e (fun z => nomatch z) h
  | str y => obtain ⟨t, q⟩ := (show ∃ t, u = Value.str y t from rx); cases q; exact PySem.W.kia_one PySem.W.kitx_str I.kIn True.intro e (fun z => nomatch z) h
  | flt y => obtain ⟨t, q⟩ := (show ∃ t, u = Value.float y t from rx); cases q; exact PySem.W.kia_one PySem.W.kitx_float I.kIn True.intro e (fun z => nomatch z) h
  | @lst a xs ea =>
    cases (show u = Value.ref a from rx)
    obtain ⟨_, _, n, _, h1⟩ := (show ObjOk X.prog X.w H s.heap a (.lst xs) from I.hok a _ ea)
    exact PySem.W.kia_one PySem.W.kitx_list I.kIn ⟨_, h1, rfl⟩ e (fun z => nomatch z) h
  | @frz a ob xs ea =>
    cases (show u = Value.ref a from rx)
    obtain ⟨_, _, _, n, _, h1⟩ := (show ObjOk X.prog X.w H s.heap a (.frz ob (.lst xs)) from I.hok a _ ea)
    exact PySem.W.kia_one PySem.W.kitx_list I.kIn ⟨_, h1, rfl⟩ e (fun z => nomatch z) h
  | @tup a xs ea =>
    cases (show u = Value.ref a from rx)
    obtain ⟨_, _, _, p⟩ := (show ObjOk X.prog X.w H s.heap a (.tup xs) from I.hok a _ ea)
    obtain ⟨o, h1, h2, _⟩ := p
    exact PySem.W.kia_one PySem.W.kitx_tuple I.kIn ⟨o, h1, h2⟩ e (fun z => nomatch z) h
  | @dK a kvs ea =>
    cases (show u = Value.ref a from rx)
    obtain ⟨_, _, vs, _, p⟩ := (show ObjOk X.prog X.w H s.heap a (.dK kvs) from I.hok a _ ea)
    obtain ⟨o, es, ep, h1, h2, _⟩ := p
    exact PySem.W.kia_one PySem.W.kitx_dict I.kIn ⟨o, h1, h2.1⟩ e (fun z => nomatch z) h
  | @dT a kvs ea =>
    cases (show u = Value.ref a from rx)
    obtain ⟨_, _, xs, _, o, es, ep, h1, h2, _⟩ := (show ObjOk X.prog X.w H s.heap a (.dT kvs) from I.hok a _ ea)
    exact PySem.W.kia_one PySem.W.kitx_dict I.kIn ⟨o, h1, h2.1⟩ e (fun z => nomatch z) h
  | @ins a C dx fs ea cl ha hn htk hm =>
    cases (show u = Value.ref a from rx)
    obtain ⟨mA, O, _⟩ := ins_get I.hok ea
    obtain ⟨od, J, _⟩ := O.look
    exact PySem.W.kia_one (PySem.W.kitx_own (cl.get _) cl.hd ha hn htk hm) I.kIn J e (fun z => nomatch z) h
end
end L2
namespace L2
open PySem PySem.Spec PyProof.Rows
structure Room (k : Nat) (A : Around) : Prop where
  hd : A.handled = none
  dp : A.depth + 3 * k + 5 < recursionLimit
  un : A.units + 16 * k + 200 < cLine
theorem Room.mono {j k : Nat} {A : Around} (r : Room k A) (h : j ≤ k) : Room j A := ⟨r.hd, by have := r.dp; omega, by have := r.un; omega⟩
theorem Room.deeper {k : Nat} {A : Around} (r : Room (k + 1) A) (env : Env) : Room k (A.deeper env) :=
  ⟨r.hd, by have := r.dp; show A.depth + 1 + 3 * k + 5 < _; omega, by have := r.un; show A.units + 3 + 16 * k + 200 < _; omega⟩
theorem Room.depth {k : Nat} {A : Around} (r : Room k A) : A.depth < recursionLimit := by have := r.dp; omega
theorem Room.units {k : Nat} {A : Around} (r : Room k A) : A.units + 64 < cLine := by have := r.un; omega
noncomputable def tNil : TA := fun _ H Q => Q [] H
noncomputable def tCons (ta : TE) (tr : TA) : TA := fun σ H Q => ta σ H fun x H1 => tr σ H1 fun xs H2 => Q (x :: xs) H2
section
variable {X : Cx} {e : Expr} {es : List Expr} {te : TE} {t : TA} {pos : Pos}
theorem pa_nil : PA X [] tNil := fun _ _ _ _ H Q I h => Calls.spliced_nil ⟨[], H, I, .nil, h⟩
theorem pa_cons (ha : PE X e te) (hr : PA X es t) (hs : starEach (e :: es) X.env = (false, eval e X.env) :: starEach es X.env := by rfl) : PA X (e :: es) (tCons te t) := by
  intro pos pins s σ H Q I h
  rw [hs]
  show wpAny _ _ (spliced ((false, eval e X.env) :: backTo pos (starEach es X.env))) _ _ s
  refine Calls.spliced_cons (thn (ha pins s σ H _ I h) fun u s1 hq__ => ?_)
  obtain ⟨x, H1, I1, r1, q1⟩ := hq__
  exact thn (hr pos pins s1 σ H1 _ I1 q1) fun us s2 ⟨xs, H2, I2, r2, q2⟩ => ⟨x :: xs, H2, I2, .cons r1 r2, q2⟩
noncomputable def tTup (t : TA) : TE := fun σ H Q => t σ H fun xs H1 => xs.length ≤ sizeLine ∧ ∀ p, H1 p = none → Q (.ref p) (upd H1 p (.tup xs))
noncomputable def tLst (t : TA) : TE := fun σ H Q => t σ H fun xs H1 => xs.length ≤ sizeLine ∧ ∀ p, H1 p = none → Q (.ref p) (upd H1 p (.lst xs))
theorem pe_tup {x1} (h : PA X es t) : PE X (.Tuple es x1 pos) (tTup t) := by
  intro pins s σ H Q I hq
  refine wpAny_Tuple_spliced (thn (h pos pins s σ H _ I hq) fun us s1 ⟨xs, H1, I1, r, z, q⟩ => ⟨by rw [← r.length]; exact z, ?_⟩)
  have hf : H1 s1.heap.objs.size = none := I1.hok.fresh (Nat.le_refl _)
  refine ⟨.ref s1.heap.objs.size, upd H1 s1.heap.objs.size (.tup xs), I1.laid (t' := s1.toks) (fun b u e => Heap.get?_push_of_some _ e) (Nat.le_refl _) ?_, rfl, q _ hf⟩
  exact ⟨z, us, r, ⟨_, Heap.get?_push_size _ rfl, rfl, _, rfl⟩⟩
theorem pe_lst (h : PA X es t) : PE X (.List es pos) (tLst t) := by
  intro pins s σ H Q I hq
  refine wpAny_List_spliced (thn (h pos pins s σ H _ I hq) fun us s1 ⟨xs, H1, I1, r, z, q⟩ => ⟨by rw [← r.length]; exact z, ?_⟩)
  have hf : H1 s1.heap.objs.size = none := I1.hok.fresh (Nat.le_refl _)
  refine ⟨.ref s1.heap.objs.size, upd H1 s1.heap.objs.size (.lst xs), I1.laid (t' := s1.toks) (fun b u e => Heap.get?_push_of_some _ e) (Nat.le_refl _) ?_, rfl, q _ hf⟩
  exact ⟨z, us, 0, r, Heap.get?_push_size _ rfl⟩
end
noncomputable abbrev Sp := List V → Hp → VK → XK → Prop
noncomputable abbrev CXT := List Env → Hp → Shared → XK → Value → Shared → Prop
structure Env0 (P : Program) (w : World) (K : PySem.W.Frag) (mg : Str → Option Value) (base : Heap) (A : Around) (outer : List Env) (s : Shared) (H : Hp) : Prop where
  frames : A.frames = some outer
  mod : Mod K mg base
  bs : ∀ b o, base.get? b = some o → s.heap.get? b = some o ∧ H b = none
  bsz : base.objs.size ≤ s.heap.objs.size
  funs : s.heap.FunFrames base outer
  frf : ∀ b ∈ frs outer, H b = none
  hok : HOk P w H s.heap
  bare : AllBare s.gens
noncomputable def CE (outer : List Env) (P : Program) (w : World) (H : Hp) (s : Shared) (Q : VK) (u : Value) (s' : Shared) : Prop :=
  ∃ v H', s'.os = s.os ∧ AllBare s'.gens ∧ Un (frs outer) [] H H' s.heap s'.heap ∧ HOk P w H' s'.heap ∧ RelV v u ∧ Q v H'
noncomputable def CR (CX : CXT) (outer : List Env) (P : Program) (w : World) (H : Hp) (s : Shared) (Q : VK) (E : XK) (r : Result) (s' : Shared) : Prop :=
  match r with
  | .ok (.ret u) => CE outer P w H s Q u s'
  | .ok _ => False
  | .error e => CX outer H s E e s'
structure FnOk (P : Program) (w : World) (K : PySem.W.Frag) (mg : Str → Option Value) (base : Heap) (CX : CXT) (k : Nat) (f : Addr) (fd : FuncData) (ps : List Str) (sp : Sp) : Prop where
  len : ∀ vs H Q E, sp vs H Q E → vs.length = ps.length
  run : ∀ (A : Around) (outer : List Env) (s : Shared) (H : Hp) (args : Args) (us : List Value) (vs : List V) (Q : VK) (E : XK), Room k A → Env0 P w K mg base A outer s H → BindsTo s fd args (ps.zip us) → Vals vs us → sp vs H Q E →
    codeAny (model P w) A (.call (.ref f) args) (CR CX outer P w H s Q E) s
theorem FnOk.imp {P : Program} {w : World} {K : PySem.W.Frag} {mg : Str → Option Value} {base : Heap} {CX : CXT} {k : Nat} {f : Addr} {fd : FuncData} {ps : List Str} {sp sp' : Sp} (F : FnOk P w K mg base CX k f fd ps sp)
    (h : ∀ vs H Q E, sp' vs H Q E → sp vs H Q E) : FnOk P w K mg base CX k f fd ps sp' :=
  ⟨fun vs H Q E q => F.len vs H Q E (h _ _ _ _ q), fun A outer s H args us vs Q E hr he hb hv hs => F.run A outer s H args us vs Q E hr he hb hv (h _ _ _ _ hs)⟩
section
variable {X : Cx} {pins : List (Addr × Obj)} {σ : St} {H : Hp} {s s' : Shared}
theorem Inv.env0 (I : Inv X pins σ H s) : Env0 X.prog X.w X.K X.mg X.base X.A X.stack s H :=
  ⟨I.ok.frames, I.ok.mod, I.bs, Nat.le_trans I.ok.bsz I.sz, I.stack, I.stkFree, I.hok, I.bare⟩
theorem Inv.after {Q : VK} {u : Value} (I : Inv X pins σ H s) (h : CE X.stack X.prog X.w H s Q u s') : EP X pins σ Q u s' := by
  obtain ⟨v, H', os, bare, un, hok, r, q⟩ := h
  obtain ⟨hh, g, d, t, os'⟩ := s'
  obtain rfl : os' = s.os := os
  exact ⟨v, H', I.call (h' := hh) (g' := g) (d' := d) (t' := t) (ch := []) un hok bare (fun b z => absurd z (by simp)), r, q⟩
end
noncomputable def tCall (sp : Sp) (dvs : List V) (E : XK) (t : TA) : TE := fun σ H Q => t σ H fun vs H1 => sp (vs ++ dvs) H1 Q E
noncomputable def Binds (K : PySem.W.Frag) (fd : FuncData) (ps : List Str) (ds : List Value) : Prop :=
  ∀ (s : Shared) (us : List Value), K.In s.heap → (us ++ ds).length = ps.length → BindsTo s fd ⟨us, []⟩ (ps.zip (us ++ ds))
theorem Binds.all {K : PySem.W.Frag} {fd : FuncData} {ps : List Str} (h : ∀ us : List Value, us.length = ps.length → bindArgs fd ⟨us, []⟩ = pure (ps.zip us)) : Binds K fd ps [] := fun s us _ hl => by
  rw [List.append_nil] at hl ⊢
  exact .of_eq (h us hl)
noncomputable def Passes (CX : CXT) (X : Cx) (E : XK) : Prop := ∀ (pins : List (Addr × Obj)) (σ : St) (H : Hp) (s : Shared) (e : Value) (s' : Shared), Inv X pins σ H s → CX X.stack H s E e s' → X.xe e s'
section
variable {X : Cx} {CX : CXT} {k : Nat} {f C : Addr} {fd : FuncData} {ps : List Str} {sp : Sp} {dvs : List V} {ds : List Value} {E : XK} {x m : Str} {p pos apos : Pos} {e o : Expr} {es : List Expr} {ta : TE} {t : TA}
theorem run_fn {pins : List (Addr × Obj)} {σ : St} {H : Hp} {s : Shared} {Q : VK} {us : List Value} {vs : List V} (F : FnOk X.prog X.w X.K X.mg X.base CX k f fd ps sp) (hr : Room k X.A) (hb : Binds X.K fd ps ds) (hd : Vals dvs ds) (hx : Passes CX X E)
    (I : Inv X pins σ H s) (r : Vals vs us) (h : sp (vs ++ dvs) H Q E) : wpAny (model X.prog X.w) X.A (call (.ref f) us) (EP X pins σ Q) X.xe s := by
  have r2 : Vals (vs ++ dvs) (us ++ ds) := r.append hd
  have hl : (us ++ ds).length = ps.length := by rw [← r2.length]; exact F.len _ _ _ _ h
  refine wpAny_call (codeAny_mono (F.run X.A X.stack s H ⟨us, []⟩ (us ++ ds) (vs ++ dvs) Q E hr I.env0 (hb s us I.kIn hl) r2 h) fun r s' hq => ?_)
  cases r with
  | error e => exact hx pins σ H s e s' I hq
  | ok fl =>
    cases fl with
    | ret u => exact I.after hq
    | next => exact False.elim hq
    | brk => exact False.elim hq
    | cont => exact False.elim hq
theorem pe_call (F : FnOk X.prog X.w X.K X.mg X.base CX k f fd ps sp) (hr : Room k X.A) (hg : Gl X x) (hm : X.mg x = some (.ref f)) (hk : PySem.W.keepIn X.K (.ref f) = true) (hb : Binds X.K fd ps ds) (hd : Vals dvs ds) (hx : Passes CX X E)
    (ha : PA X (e :: es) t) (hdb : (x == ("__debug__" : Str)) = false := by decide) (he : starEach (e :: es) X.env = (false, eval e X.env) :: starEach es X.env := by rfl) (hpl : (backTo pos (starEach es X.env)).any (·.1) = false := by rfl) :
    PE X (.Call (.Name x p) (e :: es) [] pos) (tCall sp dvs E t) := by
  intro pins s σ H Q I h
  refine wpAny_Call_Name_kw (ld_glob I hg hm ?_ hdb)
  refine PySem.W.callWith_K (h₀ := X.base) I.ok.mod.kin hk (thn (ha pos pins s σ H _ I h) fun us s1 ⟨vs, H1, I1, r, q⟩ => ⟨I1.kIn, ?_⟩) he hpl
  exact run_fn F hr hb hd hx I1 r q
end
section
variable {X : Cx} {CX : CXT} {k : Nat} {f C : Addr} {fd : FuncData} {ps ks : List Str} {sp : Sp} {E : XK} {x m : Str} {p pos apos kpos : Pos} {e o : Expr} {es : List Expr} {kws : List Keyword} {te ta : TE} {t tk : TA} {nm : Option Str}
variable {g : List Value → List Value → List Value} {gV : List V → List V → List V}
end
structure FnScope (N P : List Str) (sc : Scope) : Prop where
  kind : sc.kind = .function
  co : sc.isCoroutine = false
  gen : sc.isGenerator = false
  nd : N.Nodup
  pre : N.take P.length = P
  par : ∀ x ∈ P, sc.names.lookup x = some .local ∨ sc.names.lookup x = some .cell
  nofree : ∀ y ∈ sc.names, y.2 ≠ .free
theorem bindL_out {kindOf : Str → Option NameKind} {x : Str} : ∀ {binds : List (Str × Value)} {m : Str → Option Value}, (∀ v, (x, v) ∉ binds) → bindL kindOf binds m x = m x
  | [], _, _ => rfl
  | (n, v) :: r, m, h => by
    unfold bindL
    rw [bindL_out fun w hw => h w (List.mem_cons_of_mem _ hw)]
    split
    · have : x ≠ n := by rintro rfl; exact h v List.mem_cons_self
      simp [this]
    · rfl
theorem bindC_out {kindOf : Str → Option NameKind} {x : Str} : ∀ {binds : List (Str × Value)} {m : Str → Option Value}, (∀ v, (x, v) ∉ binds) → bindC kindOf binds m x = m x
  | [], _, _ => rfl
  | (n, v) :: r, m, h => by
    unfold bindC
    rw [bindC_out fun w hw => h w (List.mem_cons_of_mem _ hw)]
    split
    · rfl
    · have : x ≠ n := by rintro rfl; exact h v List.mem_cons_self
      simp [this]
theorem bindL_get {kindOf : Str → Option NameKind} {x : Str} {v : Value} : ∀ {P : List Str} {vs : List Value} {i : Nat} {m : Str → Option Value}, P.Nodup → P[i]? = some x → vs[i]? = some v → kindOf x = some .local →
    bindL kindOf (P.zip vs) m x = some v := by
  intro P
  induction P with
  | nil => intro vs i m _ h; cases h
  | cons p P ih =>
    intro vs i m nd h1 h2 hk
    cases vs with
    | nil => cases h2
    | cons w vs =>
      show bindL kindOf ((p, w) :: P.zip vs) m x = _
      unfold bindL
      cases i with
      | zero =>
        cases h1; cases h2
        rw [bindL_out fun v hv => (List.nodup_cons.mp nd).1 (List.of_mem_zip hv).1, if_pos hk]
        simp
      | succ i => exact ih (List.nodup_cons.mp nd).2 h1 h2 hk
theorem bindC_get {kindOf : Str → Option NameKind} {x : Str} {v : Value} : ∀ {P : List Str} {vs : List Value} {i : Nat} {m : Str → Option Value}, P.Nodup → P[i]? = some x → vs[i]? = some v → kindOf x ≠ some .local →
    bindC kindOf (P.zip vs) m x = some v := by
  intro P
  induction P with
  | nil => intro vs i m _ h; cases h
  | cons p P ih =>
    intro vs i m nd h1 h2 hk
    cases vs with
    | nil => cases h2
    | cons w vs =>
      show bindC kindOf ((p, w) :: P.zip vs) m x = _
      unfold bindC
      cases i with
      | zero =>
        cases h1; cases h2
        rw [bindC_out fun v hv => (List.nodup_cons.mp nd).1 (List.of_mem_zip hv).1, if_neg hk]
        simp
      | succ i => exact ih (List.nodup_cons.mp nd).2 h1 h2 hk
noncomputable def start (N : List Str) (vs : List V) : St := vs.map some ++ List.replicate (N.length - vs.length) none
noncomputable def cxOf (CX : CXT) (P : Program) (w : World) (K : PySem.W.Frag) (mg : Str → Option Value) (base : Heap) (N : List Str) (qual : Str) (scope : Scope) (f : Addr) (cd : Value) (A : Around) (outer : List Env) (s : Shared) (H : Hp) (E : XK) : Cx where
  prog := P
  w := w
  K := K
  mg := mg
  base := base
  A := A.deeper (envOfC qual scope s.heap.objs.size f cd)
  N := N
  s₀ := s
  H₀ := H
  env := envOfC qual scope s.heap.objs.size f cd
  outer := outer
  stack := envOfC qual scope s.heap.objs.size f cd :: outer
  ex := []
  calm := true
  fn := fun _ => true
  pn := []
  xe := fun e s' => wpAny (model P w) (A.deeper (envOfC qual scope s.heap.objs.size f cd)) (leaving (envOfC qual scope s.heap.objs.size f cd) e) (fun _ s'' => CX outer H s E e s'') (fun e' s'' => CX outer H s E e' s'') s'
theorem cell_has {sc : Scope} {n : Nat} {x : Str} (h : sc.names.lookup x = some .cell) : ∃ c, (cellsFrom n sc.names []).lookup x = some c := by
  have q := PySem.W.cellsFrom_some sc.names n [] (.inl h)
  exact Option.isSome_iff_exists.mp q
theorem inv_start {CX : CXT} {P : Program} {w : World} {K : PySem.W.Frag} {mg : Str → Option Value} {base : Heap} {N ps : List Str} {qual : Str} {scope : Scope} {f : Addr} {cd : Value} {A : Around} {outer : List Env} {s s1 : Shared} {H : Hp} {E : XK} {us : List Value} {vs : List V}
    (S : FnScope N ps scope) (hd : A.handled = none) (e0 : Env0 P w K mg base A outer s H) (hl : vs.length = ps.length) (r : Vals vs us)
    (x : InCallC s s.heap.objs.size (bindL (envOfC qual scope s.heap.objs.size f cd).kindOf (ps.zip us) fun _ => none) (cellsFrom (s.heap.objs.size + 1) scope.names []) (bindC (envOfC qual scope s.heap.objs.size f cd).kindOf (ps.zip us) fun _ => none) s1) :
    Inv (cxOf CX P w K mg base N qual scope f cd A outer s H E) [] (start N vs) H s1 := by
  have hpl : ps.length ≤ N.length := by have := congrArg List.length S.pre; rw [List.length_take] at this; omega
  obtain ⟨h1, tk, rfl, hk⟩ := x.done
  have noA : ∀ b : Addr, b ∉ (cxOf CX P w K mg base N qual scope f cd A outer s H E).ex := fun b z => absurd (show b ∈ ([] : List Addr) from z) (by simp)
  refine ⟨⟨e0.mod, S.kind, rfl, rfl, Nat.le_refl _, fun y z c h1 h2 => ?_, fun y hy => ?_, fun y c _ h => ?_, fun _ => hd, Around.frames_deeper e0.frames, .inr ⟨rfl, rfl⟩, fun b z => absurd z (noA b), e0.bs, e0.bsz, fun b _ _ => noA b, fun b z => absurd z (noA b), e0.funs, e0.frf⟩,
    rfl, e0.bare, Un.kept hk, ⟨_, x.toInCall.ns, fun i y v h1 h2 h3 => ?_⟩, fun y c h => ⟨_, x.cell y c h⟩, e0.hok.fresh (Nat.le_refl _), fun y c h => ?_, fun p hp => absurd (show p ∈ ([] : List (Addr × Obj)) from hp) (by simp), e0.hok.kept hk, ?_⟩
  · exact name_of_addr x.apart (PySem.mem_of_lookup h1) (PySem.mem_of_lookup h2)
  · have hy : scope.names.lookup y = some .cell ∨ scope.names.lookup y = some .free := hy
    rcases hy with hy | hy
    · exact cell_has hy
    · exact absurd rfl (S.nofree _ (PySem.mem_of_lookup hy))
  · exact Nat.le_of_lt (x.above y c (PySem.mem_of_lookup h))
  · have hi : i < vs.length := by
      unfold start at h2
      by_cases hi : i < vs.length
      · exact hi
      · rw [List.getElem?_append_right (by simpa using hi)] at h2
        rw [List.getElem?_replicate] at h2
        split at h2 <;> cases h2
    have ha : vs[i]? = some v := by
      unfold start at h2
      rw [List.getElem?_append_left (by simpa using hi), List.getElem?_map] at h2
      cases e : vs[i]? with
      | none => rw [e] at h2; cases h2
      | some a => rw [e] at h2; cases h2; rfl
    obtain ⟨u, hu, rv⟩ := r.get ha
    have hp : ps[i]? = some y := by
      rw [← S.pre, List.getElem?_take_of_lt (by omega)]; exact h1
    have ndP : ps.Nodup := by rw [← S.pre]; exact S.nd.sublist (List.take_sublist _ _)
    refine ⟨u, rv, ?_⟩
    rcases S.par y (List.mem_of_getElem? hp) with k | k
    · exact .inl ⟨k, bindL_get ndP hp hu k⟩
    · obtain ⟨c, e⟩ := cell_has (n := s.heap.objs.size + 1) k
      refine .inr ⟨.inl k, c, e, ?_⟩
      have q := x.cell y c e
      rw [bindC_get ndP hp hu (by show scope.names.lookup y ≠ _; rw [k]; decide)] at q
      exact q
  · exact e0.hok.fresh (Nat.le_of_lt (x.above y c (PySem.mem_of_lookup h)))
  · unfold start
    show _ = N.length
    rw [List.length_append, List.length_map, List.length_replicate]
    omega
theorem fn_of {CX : CXT} {P : Program} {w : World} {K : PySem.W.Frag} {mg : Str → Option Value} {base : Heap} {k : Nat} {f : Addr} {name qual : Str} {params : Arguments} {body : List Stmt} {scope : Scope} {dV kV doc pm cdv ct oc : Value} {an od : Option Addr}
    {osl : Array (Option Value)} {N ps : List Str} {sp : Sp} (lk : K.lookup f = some ⟨oc, od, .func (PySem.W.fnOf name qual params body scope dV kV doc pm an cdv ct), osl⟩) (hcd : PySem.W.codeIn K cdv qual = true) (S : FnScope N ps scope)
    (len : ∀ vs H Q E, sp vs H Q E → vs.length = ps.length)
    (hbody : ∀ (A : Around) (outer : List Env) (s : Shared) (H : Hp) (vs : List V) (Q : VK) (E : XK), Room k (A.deeper (envOfC qual scope s.heap.objs.size f cdv)) → sp vs H Q E →
      ∃ t, PSs (cxOf CX P w K mg base N qual scope f cdv A outer s H E) body t ∧ t { nx := fun _ H' => Q .non H', rt := Q } (start N vs) H) :
    FnOk P w K mg base CX (k + 1) f (PySem.W.fnOf name qual params body scope dV kV doc pm an cdv ct) ps sp := by
  refine ⟨len, fun A outer s H args us vs Q E hr e0 hb r hsp => ?_⟩
  have hl := len _ _ _ _ hsp
  have KX : K.In s.heap := e0.mod.kin.keeps fun b o e => (e0.bs b o e).1
  have lim : s.heap.NoLimit := e0.mod.nolimit.keeps fun b o e => (e0.bs b o e).1
  have hkind : ∀ y ∈ ps.zip us, scope.names.lookup y.1 = some .local ∨ (scope.names.lookup y.1 = some .cell ∧ ((cellsFrom (s.heap.objs.size + 1) scope.names []).lookup y.1).isSome = true) := fun ⟨n, v⟩ hy => by
    rcases S.par n (List.of_mem_zip hy).1 with q | q
    · exact .inl q
    · exact .inr ⟨q, PySem.W.cellsFrom_some _ _ _ (.inl q)⟩
  refine codeAny_call_function hr.depth (KX _ _ lk) rfl S.co S.gen rfl (PySem.W.codeRec_of KX hcd) (hb _ _ _ _ ?_)
  refine wpAny_newFunctionEnv_cells S.kind hkind fun env he s1 x => ?_
  subst he
  refine ⟨lim.keeps x.toInCall.keep, codeAny_func ?_⟩
  obtain ⟨t, ht, hq⟩ := hbody A outer s H vs Q E (hr.deeper _) hsp
  have I : Inv (cxOf CX P w K mg base N qual scope f cdv A outer s H E) [] (start N vs) H s1 := inv_start S hr.hd e0 hl r x
  refine wpAny_mono (ht [] s1 (start N vs) H _ I hq) (fun fl s' hs => ?_) fun e s' hs => hs
  have fin : ∀ {σ' : St} {H' : Hp} {v : V} {u : Value}, Inv (cxOf CX P w K mg base N qual scope f cdv A outer s H E) [] σ' H' s' → RelV v u → Q v H' → CE outer P w H s Q u s' :=
    fun {σ' H' v u} J rv q => ⟨v, H', J.os, J.bare, J.base, J.hok, rv, q⟩
  cases fl with
  | ret u =>
    obtain ⟨v, σ', H', J, rv, q⟩ := hs
    exact fin J rv q
  | next =>
    obtain ⟨σ', H', J, q⟩ := hs
    exact fin (v := V.non) (u := Value.none) J rfl q
  | brk =>
    obtain ⟨_, _, _, q⟩ := hs
    exact False.elim q
  | cont =>
    obtain ⟨_, _, _, q⟩ := hs
    exact False.elim q
end L2
namespace L2
open PySem PySem.Spec PyProof.Rows
section
variable {X : Cx} {x : Str} {p pos : Pos} {e : Expr} {es : List Expr} {t : TA} {id T : String} {r : List V → Hp → VK → Prop}
noncomputable def tCB (r : List V → Hp → VK → Prop) (t : TA) : TE := fun σ H Q => t σ H fun vs H1 => r vs H1 Q
theorem pe_callB (hc : CallR X (.builtin id) r) (hg : Gl X x) (hm : X.mg x = none) (hv : bootBuiltins x = some (.builtin id)) (ha : PA X (e :: es) t) (hn : x ≠ "__name__" := by decide) (hdb : (x == ("__debug__" : Str)) = false := by decide)
    (he : starEach (e :: es) X.env = (false, eval e X.env) :: starEach es X.env := by rfl) (hpl : (backTo pos (starEach es X.env)).any (·.1) = false := by rfl) : PE X (.Call (.Name x p) (e :: es) [] pos) (tCB r t) := by
  intro pins s σ H Q I h
  refine wpAny_Call_Name_kw (ld_blt I hg hm hv ?_ hn hdb)
  exact PyProof.Rows.callWith_builtin1 (thn (ha pos pins s σ H _ I h) fun us s1 ⟨vs, H1, I1, r1, q1⟩ => hc pins s1 σ H1 vs us Q I1 r1 q1) he hpl
theorem pe_callTy (hc : CallR X (.type T) r) (hg : Gl X x) (hm : X.mg x = none) (hv : bootBuiltins x = some (.type T)) (ha : PA X (e :: es) t) (hn : x ≠ "__name__" := by decide) (hdb : (x == ("__debug__" : Str)) = false := by decide)
    (he : starEach (e :: es) X.env = (false, eval e X.env) :: starEach es X.env := by rfl) (hpl : (backTo pos (starEach es X.env)).any (·.1) = false := by rfl) : PE X (.Call (.Name x p) (e :: es) [] pos) (tCB r t) := by
  intro pins s σ H Q I h
  refine wpAny_Call_Name_kw (ld_blt I hg hm hv ?_ hn hdb)
  exact PyProof.Rows.callWith_type1 (thn (ha pos pins s σ H _ I h) fun us s1 ⟨vs, H1, I1, r1, q1⟩ => hc pins s1 σ H1 vs us Q I1 r1 q1) he hpl
end
end L2
namespace HT
open PySem PyProof.Rows
section
open PySem.SeqAt
open PySem.AutoSeq1 (wpAny_loadPart')
open PySem.MeetsSeq PySem.MeetsSeq2 PySem.MeetsSeq3
end
section
variable {prog : Program} {w : World} {A : Around} {E : Value → Shared → Prop} {s : Shared}
noncomputable def sIx (n d : Nat) : Option Int → Nat
  | none => d
  | some v => if v < 0 then (v + (n : Int)).toNat else min v.toNat n
theorem sIx_none (n d : Nat) : sIx n d none = d := rfl
theorem sIx_nat (n d k : Nat) : sIx n d (some (k : Int)) = min k n := by
  show (if (k : Int) < 0 then ((k : Int) + (n : Int)).toNat else min (k : Int).toNat n) = min k n
  rw [if_neg (by omega), Int.toNat_natCast]
end
end HT
namespace L2
open PySem PySem.Spec PyProof.Rows
noncomputable abbrev TO := St → Hp → (Option Int → Hp → Prop) → Prop
noncomputable def PO (X : Cx) (e : Option Expr) (t : TO) : Prop :=
  ∀ (pins : List (Addr × Obj)) (s : Shared) (σ : St) (H : Hp) (Q : Option Int → Hp → Prop), Inv X pins σ H s → t σ H Q →
    wpAny (model X.prog X.w) X.A (evalPart e X.env) (fun u s' => ∃ o H', Inv X pins σ H' s' ∧ IsPart u o ∧ Q o H') X.xe s
noncomputable def tNoPart : TO := fun _ H Q => Q none H
noncomputable def tPart (t : TE) : TO := fun σ H Q => t σ H fun x H1 => ∃ i, x = .int i ∧ Q (some i) H1
theorem intsAre_of {ns : List Int} : ∀ {us : List Value}, Vals (ns.map V.int) us → IntsAre us ns := by
  induction ns with
  | nil => intro us r; rw [List.map_nil] at r; cases r; exact .nil
  | cons n ns ih =>
    intro us r
    rw [List.map_cons] at r
    cases r with
    | cons r1 r2 =>
      obtain ⟨t, e⟩ := r1
      subst e
      exact .cons n t (ih r2)
section
variable {X : Cx} {e : Expr} {te : TE} {lo hi : Option Expr} {tl th : TO} {pos p2 : Pos}
theorem po_none : PO X none tNoPart := by
  intro pins s σ H Q I h
  rw [evalPart_none]
  exact wpAny_pure ⟨none, H, I, .none, h⟩
theorem po_some (h : PE X e te) : PO X (some e) (tPart te) := by
  intro pins s σ H Q I hw
  rw [evalPart_some]
  refine thn (h pins s σ H _ I hw) fun u s1 hq__ => ?_
  obtain ⟨x, H1, I1, r1, q1⟩ := hq__
  obtain ⟨i, rfl, q⟩ := q1
  obtain ⟨t, rfl⟩ := r1
  exact ⟨some i, H1, I1, .int i t, q⟩
noncomputable def SlR (X : Cx) (r : V → Option Int → Option Int → Hp → VK → Prop) : Prop :=
  ∀ (pins : List (Addr × Obj)) (s : Shared) (σ : St) (H : Hp) (x : V) (v vl vu : Value) (lo hi : Option Int) (sl : Addr) (Q : VK), Inv X pins σ H s → RelV x v → s.heap.IsSliceOf sl vl vu .none → IsPart vl lo → IsPart vu hi → r x lo hi H Q →
    ∃ T id, typeLookup (.type T) "__getitem__" = pure (some (.builtin id)) ∧ s.TypeIs v T ∧ wpAny (model X.prog X.w) X.A (getItem v (.ref sl)) (EP X pins σ Q) X.xe s
noncomputable def tSl (r : V → Option Int → Option Int → Hp → VK → Prop) (te : TE) (tl th : TO) : TE := fun σ H Q => te σ H fun x H1 => tl σ H1 fun l H2 => th σ H2 fun u H3 => r x l u H3 Q
theorem pe_slice {r : V → Option Int → Option Int → Hp → VK → Prop} (hr : SlR X r) (he : PE X e te) (hl : PO X lo tl) (hu : PO X hi th) : PE X (.Subscript e (.Slice lo hi none p2) pos) (tSl r te tl th) := by
  intro pins s σ H Q I h
  refine Subscript_ (thn (he pins s σ H _ I h) fun v s1 h1 => ?_)
  obtain ⟨x, H1, I1, r1, q1⟩ := h1
  refine wpAny_Slice (thn (hl pins s1 σ H1 _ I1 q1) fun vl s2 h2 => ?_)
  obtain ⟨l, H2, I2, pl, q2⟩ := h2
  refine thn (hu pins s2 σ H2 _ I2 q2) fun vu s3 h3 => ?_
  obtain ⟨u, H3, I3, pu, q3⟩ := h3
  rw [evalPart_none]
  refine wpAny_pure ?_
  have I4 : Inv X pins σ H3 { s3 with heap := s3.heap.push { cls := .type "slice", data := .fields #[vl, vu, .none] } } := I3.kept (t' := s3.toks) fun b ob q => Heap.get?_push_of_some _ q
  obtain ⟨T, id, hT, ht, hg⟩ := hr pins { s3 with heap := s3.heap.push { cls := .type "slice", data := .fields #[vl, vu, .none] } } σ H3 x v vl vu l u s3.heap.objs.size Q I4 r1 (Heap.IsSliceOf.new ..) pl pu q3
  show wpAny (model X.prog X.w) X.A (subscriptTail e (.Slice lo hi none p2) v (.ref s3.heap.objs.size)) (EP X pins σ Q) X.xe { s3 with heap := s3.heap.push { cls := .type "slice", data := .fields #[vl, vu, .none] } }
  exact tail_any (ops := [.ref s3.heap.objs.size, v]) ht hT hg (by with_unfolding_all rfl)
noncomputable def cutV (xs : List V) (lo hi : Option Int) : List V := (xs.drop (HT.sIx xs.length 0 lo)).take (HT.sIx xs.length xs.length hi - HT.sIx xs.length 0 lo)
theorem cutV_length (xs : List V) (lo hi : Option Int) : (cutV xs lo hi).length ≤ xs.length := by
  unfold cutV
  rw [List.length_take, List.length_drop]
  omega
end
end L2
namespace L2
open PySem PySem.Spec PyProof.Rows
noncomputable def ixN (n : Nat) (i : Int) : Option Nat := if 0 ≤ i then (if i < n then some i.toNat else none) else if -(n : Int) ≤ i then some (i + n).toNat else none
noncomputable def atI {α : Type} (xs : List α) (i : Int) : Option α := (ixN xs.length i).bind fun j => xs[j]?
theorem ixN_seq {n : Nat} {i : Int} {j : Nat} (h : ixN n i = some j) : seqIndex? i n = some j ∧ j < n ∧ -(n : Int) ≤ i ∧ i < n := by
  unfold ixN at h
  by_cases h0 : 0 ≤ i
  · rw [if_pos h0] at h
    by_cases h1 : i < n
    · rw [if_pos h1] at h
      have e : i.toNat = j := Option.some.inj h
      exact ⟨by rw [seqIndex_of h0 h1, e], by omega, by omega, h1⟩
    · rw [if_neg h1] at h; cases h
  · rw [if_neg h0] at h
    by_cases h1 : -(n : Int) ≤ i
    · rw [if_pos h1] at h
      have e : (i + n).toNat = j := Option.some.inj h
      exact ⟨by rw [seqIndex_neg (by omega) h1, e], by omega, h1, by omega⟩
    · rw [if_neg h1] at h; cases h
theorem atI_get {α : Type} {xs : List α} {i : Int} {v : α} (h : atI xs i = some v) : ∃ j, seqIndex? i xs.length = some j ∧ xs[j]? = some v ∧ j < xs.length ∧ -(xs.length : Int) ≤ i ∧ i < xs.length := by
  unfold atI at h
  cases e : ixN xs.length i with
  | none => rw [e] at h; cases h
  | some j =>
    rw [e] at h
    obtain ⟨h1, h2, h3, h4⟩ := ixN_seq e
    exact ⟨j, h1, h, h2, h3, h4⟩
theorem atI_nat {α : Type} {xs : List α} {j : Nat} {v : α} (h : xs[j]? = some v) : atI xs (j : Int) = some v := by
  have hj : j < xs.length := (List.getElem?_eq_some_iff.mp h).1
  have e : ixN xs.length (j : Int) = some j := by
    unfold ixN
    rw [if_pos (by omega), if_pos (by omega)]; simp
  unfold atI; rw [e]; exact h
theorem atI_last {α : Type} (xs : List α) (v : α) : atI (xs ++ [v]) (-1) = some v := by
  have hl : (xs ++ [v]).length = xs.length + 1 := by simp
  have e : ixN (xs ++ [v]).length (-1) = some xs.length := by
    unfold ixN
    rw [hl, if_neg (by decide), if_pos (by omega)]
    congr 1
    omega
  unfold atI
  rw [e]
  show (xs ++ [v])[xs.length]? = some v
  simp
noncomputable def PlainIx (b : Expr) : Prop := ∀ o i, subscripted b false o i = operate [o, i] (getItem o i)
noncomputable def IxR (X : Cx) (r : R2) : Prop :=
  ∀ (value slice : Expr) (pins : List (Addr × Obj)) (s : Shared) (σ : St) (H : Hp) (x y : V) (v u : Value) (Q : VK), Inv X pins σ H s → RelV x v → RelV y u → r x y H Q →
    subscripted slice false v u = operate [v, u] (getItem v u) → wpAny (model X.prog X.w) X.A (subscriptTail value slice v u) (EP X pins σ Q) X.xe s
noncomputable def MtR (X : Cx) (id : String) (r : V → List V → Hp → VK → Prop) : Prop :=
  ∀ (pins : List (Addr × Obj)) (s : Shared) (σ : St) (H : Hp) (x : V) (xs : List V) (v : Value) (us : List Value) (Q : VK), Inv X pins σ H s → RelV x v → Vals xs us → r x xs H Q →
    wpAny (model X.prog X.w) X.A (call (.builtin id) (v :: us)) (EP X pins σ Q) X.xe s
section
variable {X : Cx} {a b : Expr} {ta tb : TE} {pos : Pos}
theorem pe_ix {r : R2} (hr : IxR X r) (ha : PE X a ta) (hb : PE X b tb) (hs : PlainIx b) : PE X (.Subscript a b pos) (tOp r ta tb) := by
  intro pins s σ H Q I h
  exact Subscript_ (binT ha hb I h fun v u s2 x y H2 I2 rx ry q => hr a b pins s2 σ H2 x y v u Q I2 rx ry q (hs _ _))
noncomputable def rIxL (K : PySem.W.Frag) : R2 := fun x y H Q => ∃ p xs i v, x = .ref p ∧ y = .int i ∧ SqL K H p xs ∧ atI xs i = some v ∧ Q v H
noncomputable def rIxT (K : PySem.W.Frag) : R2 := fun x y H Q => ∃ p xs i v, x = .ref p ∧ y = .int i ∧ SqT K H p xs ∧ atI xs i = some v ∧ Q v H
theorem ix_list : IxR X (rIxL X.K) := by
  intro value slice pins s σ H x y v u Q I rx ry h hs
  obtain ⟨p, xs, i, z, rfl, rfl, hq, he, q⟩ := h
  cases rx
  obtain ⟨t, rfl⟩ := ry
  obtain ⟨its, r, pl, hz⟩ := I.list hq
  obtain ⟨j, h1, h2, h3, h4, h5⟩ := atI_get he
  obtain ⟨w, ew, rw'⟩ := r.get h2
  have hl := r.length
  have hn := line63
  have fin : EP X pins σ Q w s := ⟨z, H, I, rw', q⟩
  by_cases h0 : 0 ≤ i
  · have hj : i.toNat = j := by
      rw [seqIndex_of h0 h5] at h1
      exact Option.some.inj h1
    exact item_listR pl.isList h0 (by omega) (by rw [hj]; simpa using ew) fin hs
  · have hj : (i + (its.toArray.size : Int)).toNat = j := by
      rw [seqIndex_neg (by omega) h4] at h1
      rw [List.size_toArray, ← hl]
      exact Option.some.inj h1
    exact subscriptTail_builtinR (x := w) pl.isList.typeIs slot_list_getitem.lookup
      (wpAny_getItem_list_neg (Q := fun r s' => r = w ∧ EP X pins σ Q r s') pl.isList (by omega) (by rw [List.size_toArray] <;> omega) (by omega) (by rw [hj]; simpa using ew) ⟨rfl, fin⟩) hs
theorem ix_tup : IxR X (rIxT X.K) := by
  intro value slice pins s σ H x y v u Q I rx ry h hs
  obtain ⟨p, xs, i, z, rfl, rfl, hq, he, q⟩ := h
  cases rx
  obtain ⟨t, rfl⟩ := ry
  obtain ⟨its, r, pl, hz⟩ := I.tuple hq
  obtain ⟨j, h1, h2, h3, h4, h5⟩ := atI_get he
  obtain ⟨w, ew, rw'⟩ := r.get h2
  have hl := r.length
  have hn := line63
  have fin : EP X pins σ Q w s := ⟨z, H, I, rw', q⟩
  exact subscriptTail_builtinR (x := w) pl.typeIs slot_tuple_getitem.lookup
    (getItem_tuple (j := j) (Q := fun r s' => r = w ∧ EP X pins σ Q r s') pl (by omega) (by omega) (by rw [List.size_toArray, ← hl]; exact h1) (by simpa using ew) ⟨rfl, fin⟩) hs
theorem mapSeq_set (its : List Value) (n j : Nat) (u : Value) : Obj.mapSeq (·.setIfInBounds j u) { cls := .type "list", data := .seq its.toArray n } = { cls := .type "list", data := .seq (its.set j u).toArray n } := by
  simp [Obj.mapSeq]
theorem Inv.lst {pins : List (Addr × Obj)} {σ : St} {H : Hp} {s : Shared} {p : Addr} {xs : List V} (I : Inv X pins σ H s) (h : H p = some (.lst xs)) :
    ∃ (its : List Value) (n : Nat), Vals xs its ∧ s.heap.get? p = some { cls := .type "list", data := .seq its.toArray n } ∧ xs.length ≤ sizeLine := by
  obtain ⟨z, its, n, r, e⟩ := I.hok p _ h
  exact ⟨its, n, r, e, z⟩
theorem Inv.lstUpd {pins : List (Addr × Obj)} {σ : St} {H : Hp} {s : Shared} {p : Addr} {xs ys : List V} {its its' : List Value} {n n' : Nat} {f : Obj → Obj} (I : Inv X pins σ H s) (h : H p = some (.lst xs))
    (ho : s.heap.get? p = some { cls := .type "list", data := .seq its.toArray n }) (hf : f { cls := .type "list", data := .seq its.toArray n } = { cls := .type "list", data := .seq its'.toArray n' }) (r : Vals ys its') (hz : ys.length ≤ sizeLine) (t : Nat) :
    Inv X pins σ (upd H p (.lst ys)) { s with heap := s.heap.update p f, toks := t } := by
  have e : (s.heap.update p f).get? p = some { cls := .type "list", data := .seq its'.toArray n' } := by
    rw [Heap.get?_update_self f ho (by rw [hf] <;> rfl), hf]
  refine I.write (x := p) (e := p) (by rw [h]; trivial) (.inl rfl) (fun b u hb q => (Heap.get?_update_other _ _ (Ne.symm hb)).trans q) ⟨_, e⟩ ?_
  exact ⟨hz, its', n', r, e⟩
noncomputable def rSetL : V → V → V → Hp → (Hp → Prop) → Prop := fun o i v H Q => ∃ p xs k j, o = .ref p ∧ i = .int k ∧ H p = some (.lst xs) ∧ ixN xs.length k = some j ∧ Q (upd H p (.lst (xs.set j v)))
theorem set_list : PSet X rSetL := by
  intro pins s σ H o i v ov iv u Q I ro ri rv h
  obtain ⟨p, xs, k, j, rfl, rfl, hp, hj, q⟩ := h
  cases ro
  obtain ⟨t, rfl⟩ := ri
  obtain ⟨its, n, r, ho, hz⟩ := I.lst hp
  obtain ⟨h1, h2, h3, h4⟩ := ixN_seq hj
  have hl := r.length
  have hn := line63
  have I' : Inv X pins σ (upd H p (.lst (xs.set j v))) { s with heap := s.heap.update p (Obj.mapSeq (·.setIfInBounds j u)) } :=
    I.lstUpd hp ho (mapSeq_set its n j u) (r.set rv j) (by rw [List.length_set]; exact hz) s.toks
  by_cases h0 : 0 ≤ k
  · have hk : k.toNat = j := by
      rw [seqIndex_of h0 h4] at h1
      exact Option.some.inj h1
    exact PySem.W.ki_setAt ho h0 (by omega) (by rw [List.size_toArray, ← hl]; exact h4) (by rw [hk]; exact ⟨_, I', q⟩)
  · have hk : (k + (its.toArray.size : Int)).toNat = j := by
      rw [seqIndex_neg (by omega) h3] at h1
      rw [List.size_toArray, ← hl]
      exact Option.some.inj h1
    exact PySem.W.ki_setBack ho (by omega) (by rw [List.size_toArray, ← hl]; exact h3) (by omega) (by rw [hk]; exact ⟨_, I', q⟩)
theorem slice_bounds (lo hi : Option Int) (n : Nat) : (sliceBounds lo hi none n).1 = ((HT.sIx n 0 lo : Nat) : Int) ∧ (sliceBounds lo hi none n).2.1 = ((HT.sIx n n hi : Nat) : Int) ∧ (sliceBounds lo hi none n).2.2 = 1 := by
  refine ⟨?_, ?_, rfl⟩
  · cases lo with
    | none => simp [sliceBounds, HT.sIx]
    | some i =>
      simp only [sliceBounds, HT.sIx, Option.getD_none, show (1 : Int) > 0 by decide, if_true]
      by_cases h : i < 0
      · simp only [h, if_true] <;> omega
      · simp only [h, if_false] <;> omega
  · cases hi with
    | none => simp [sliceBounds, HT.sIx]
    | some i =>
      simp only [sliceBounds, HT.sIx, Option.getD_none, show (1 : Int) > 0 by decide, if_true]
      by_cases h : i < 0
      · simp only [h, if_true] <;> omega
      · simp only [h, if_false] <;> omega
theorem slicePick_cut (its : List Value) (lo hi : Option Int) : slicePick its.toArray lo hi none = ((its.drop (HT.sIx its.length 0 lo)).take (HT.sIx its.length its.length hi - HT.sIx its.length 0 lo)).toArray := by
  obtain ⟨h1, h2, h3⟩ := slice_bounds lo hi its.toArray.size
  unfold slicePick
  rw [h1, h2, h3]
  simp only [sliceRange_one, pick_run, List.size_toArray] <;> rfl
noncomputable def rSlL (K : PySem.W.Frag) : V → Option Int → Option Int → Hp → VK → Prop := fun x lo hi H Q => ∃ a xs, x = .ref a ∧ SqL K H a xs ∧ ∀ p, H p = none → Q (.ref p) (upd H p (.lst (cutV xs lo hi)))
theorem sl_list : SlR X (rSlL X.K) := by
  intro pins s σ H x v vl vu lo hi sl Q I rx hs pl pu h
  obtain ⟨a, xs, rfl, hx, q⟩ := h
  cases rx
  obtain ⟨its, r, ht, hz⟩ := I.list hx
  have hlen := r.length
  refine ⟨"list", _, slot_list_getitem.lookup, ht.isList.typeIs, ?_⟩
  refine wpAny_getItem_list_slice ht.isList hs pl pu .none (by simp) ?_ (by rw [List.size_toArray] <;> omega)
  rw [slicePick_cut, ← hlen]
  refine ⟨.ref s.heap.objs.size, _, I.laid (t' := s.toks) (o := .lst (cutV xs lo hi)) (fun b ob q => Heap.get?_push_of_some _ q) (Nat.le_refl _) ?_, rfl, q _ (I.hok.fresh (Nat.le_refl _))⟩
  exact ⟨Nat.le_trans (cutV_length xs lo hi) hz, _, 0, (r.drop (HT.sIx xs.length 0 lo)).take (HT.sIx xs.length xs.length hi - HT.sIx xs.length 0 lo), Heap.get?_push_size _ rfl⟩
noncomputable def flatV : V → Bool
  | .non => true
  | .bl _ => true
  | .int _ => true
  | .str _ => true
  | _ => false
noncomputable def eqV : V → V → Bool
  | .non, .non => true
  | .bl a, .bl b => a == b
  | .bl a, .int b => (if a then 1 else 0) == b
  | .int a, .bl b => a == (if b then 1 else 0)
  | .int a, .int b => a == b
  | .str a, .str b => a == b
  | _, _ => false
theorem eqAt_V {A : Around} {s : Shared} {y x : V} {u v : Value} (ry : RelV y u) (rx : RelV x v) (fy : flatV y = true) (fx : flatV x = true) : SeqAt.EqAt A s u v (eqV y x) := by
  cases y with
  | non =>
    cases ry
    cases x with
    | non => cases rx; exact SeqAt.EqAt.same _
    | bl b => cases rx; exact SeqAt.EqAt.none_bool b
    | int b => obtain ⟨t, rfl⟩ := rx; exact SeqAt.EqAt.none_int b t
    | str b => obtain ⟨t, rfl⟩ := rx; exact SeqAt.EqAt.none_str b t
    | _ => exact absurd (show false = true from fx) Bool.false_ne_true
  | bl a =>
    cases ry
    cases x with
    | non => cases rx; exact SeqAt.EqAt.bool_none a
    | bl b => cases rx; exact SeqAt.EqAt.bool_bool a b
    | int b => obtain ⟨t, rfl⟩ := rx; exact SeqAt.EqAt.bool_int a b t
    | str b => obtain ⟨t, rfl⟩ := rx; exact SeqAt.EqAt.bool_str a b t
    | _ => exact absurd (show false = true from fx) Bool.false_ne_true
  | int a =>
    obtain ⟨t', rfl⟩ := ry
    cases x with
    | non => cases rx; exact SeqAt.EqAt.int_none a t'
    | bl b => cases rx; exact SeqAt.EqAt.int_bool a t' b
    | int b => obtain ⟨t, rfl⟩ := rx; exact SeqAt.EqAt.int_int a t' b t
    | str b => obtain ⟨t, rfl⟩ := rx; exact SeqAt.EqAt.int_str a t' b t
    | _ => exact absurd (show false = true from fx) Bool.false_ne_true
  | str a =>
    obtain ⟨t', rfl⟩ := ry
    cases x with
    | non => cases rx; exact SeqAt.EqAt.str_none a t'
    | bl b => cases rx; exact SeqAt.EqAt.str_bool a t' b
    | int b => obtain ⟨t, rfl⟩ := rx; exact SeqAt.EqAt.str_int a t' b t
    | str b => obtain ⟨t, rfl⟩ := rx; exact SeqAt.EqAt.str_str a t' b t
    | _ => exact absurd (show false = true from fx) Bool.false_ne_true
  | _ => exact absurd (show false = true from fy) Bool.false_ne_true
noncomputable def eqU (x : V) (u : Value) : Bool := match u with
  | .none => eqV .non x
  | .bool b => eqV (.bl b) x
  | .int i _ => eqV (.int i) x
  | .str z _ => eqV (.str z) x
  | _ => false
theorem eqU_of {x y : V} {u : Value} (r : RelV y u) (f : flatV y = true) : eqU x u = eqV y x := by
  cases y with
  | non => cases r; rfl
  | bl b => cases r; rfl
  | int i => obtain ⟨t, rfl⟩ := r; rfl
  | str z => obtain ⟨t, rfl⟩ := r; rfl
  | _ => exact absurd (show false = true from f) Bool.false_ne_true
theorem any_eqU {x : V} : ∀ {xs : List V} {us : List Value}, Vals xs us → xs.all flatV = true → us.any (eqU x) = xs.any fun y => eqV y x := by
  intro xs us h
  induction h with
  | nil => intro _; rfl
  | cons r t ih =>
    intro f
    rw [List.all_cons, Bool.and_eq_true] at f
    rw [List.any_cons, List.any_cons, eqU_of r f.1, ih f.2]
theorem mem_eqAt {A : Around} {s : Shared} {x : V} {v : Value} (rx : RelV x v) (fx : flatV x = true) : ∀ {xs : List V} {us : List Value}, Vals xs us → xs.all flatV = true → ∀ u ∈ us, SeqAt.EqAt A s u v (eqU x u) := by
  intro xs us h
  induction h with
  | nil => intro _ u hu; cases hu
  | cons r t ih =>
    intro f u' hu
    rw [List.all_cons, Bool.and_eq_true] at f
    rcases List.mem_cons.mp hu with rfl | hu
    · rw [eqU_of r f.1]; exact eqAt_V r rx f.1 fx
    · exact ih f.2 u' hu
noncomputable def inV (x : V) (xs : List V) : Bool := xs.any fun y => eqV y x
noncomputable def rIn (K : PySem.W.Frag) (neg : Bool) : R2 := fun x y H Q => ∃ p xs, y = .ref p ∧ (SqL K H p xs ∨ SqT K H p xs) ∧ flatV x = true ∧ xs.all flatV = true ∧ Q (.bl (if neg then !inV x xs else inV x xs)) H
theorem op_in_seq : OpR X (compareOp .In) (rIn X.K false) := by
  intro pins s σ H x y v u Q I rx ry h
  obtain ⟨p, xs, rfl, hq, fx, fs, q⟩ := h
  cases ry
  rcases hq with hq | hq
  · obtain ⟨its, r, pl, hz⟩ := I.list hq
    refine SeqAt.in_listAt (eqU x) pl.isList (fun w hw => mem_eqAt rx fx r fs w (by simpa using hw)) ⟨.bl _, H, I, rfl, ?_⟩
    rw [show its.toArray.any (eqU x) = its.any (eqU x) by simp, any_eqU r fs]
    exact q
  · obtain ⟨its, r, pl, hz⟩ := I.tuple hq
    refine SeqAt.in_tupleAt (eqU x) pl (fun w hw => mem_eqAt rx fx r fs w (by simpa using hw)) ⟨.bl _, H, I, rfl, ?_⟩
    rw [show its.toArray.any (eqU x) = its.any (eqU x) by simp, any_eqU r fs]
    exact q
theorem op_notIn_seq : OpR X (compareOp .NotIn) (rIn X.K true) := by
  intro pins s σ H x y v u Q I rx ry h
  obtain ⟨p, xs, rfl, hq, fx, fs, q⟩ := h
  cases ry
  rcases hq with hq | hq
  · obtain ⟨its, r, pl, hz⟩ := I.list hq
    refine SeqAt.notIn_listAt (eqU x) pl.isList (fun w hw => mem_eqAt rx fx r fs w (by simpa using hw)) ⟨.bl _, H, I, rfl, ?_⟩
    rw [show its.toArray.any (eqU x) = its.any (eqU x) by simp, any_eqU r fs]
    exact q
  · obtain ⟨its, r, pl, hz⟩ := I.tuple hq
    refine SeqAt.notIn_tupleAt (eqU x) pl (fun w hw => mem_eqAt rx fx r fs w (by simpa using hw)) ⟨.bl _, H, I, rfl, ?_⟩
    rw [show its.toArray.any (eqU x) = its.any (eqU x) by simp, any_eqU r fs]
    exact q
theorem call_list_of : CallR X (.type "list") (fun xs H Q => ∃ p ys, xs = [.ref p] ∧ (SqL X.K H p ys ∨ SqT X.K H p ys) ∧ ∀ l, H l = none → Q (.ref l) (upd H l (.lst ys))) := by
  intro pins s σ H xs us Q I r h
  obtain ⟨p, ys, rfl, hq, q⟩ := h
  obtain ⟨u, rfl, rx⟩ := vals1 r
  cases rx
  have fin : ∀ (its : List Value), Vals ys its → ys.length ≤ sizeLine → ∀ (h' : Heap) (c' : Nat), (∀ b o', s.heap.get? b = some o' → h'.get? b = some o') →
      h'.get? s.heap.objs.size = some { cls := .type "list", dict := none, data := .seq its.toArray c', slots := #[] } → EP X pins σ Q (.ref s.heap.objs.size) { s with heap := h' } := fun its r' hz h' c' kp e =>
    ⟨.ref s.heap.objs.size, _, I.laid (t' := s.toks) kp (Nat.le_refl _) (show ObjOk X.prog X.w _ h' _ (.lst ys) from ⟨hz, its, c', r', e⟩), rfl, q _ (I.hok.fresh (Nat.le_refl _))⟩
  rcases hq with hq | hq
  · obtain ⟨its, r', pl, hz⟩ := I.list hq
    have hlen := r'.length
    obtain ⟨o, ho, hc, n, hd⟩ := pl.isList
    exact call_list_seq p (.inl rfl) ho hc hd (fun h' c' kp e => fin its r' hz h' c' kp e) (by simp only [List.size_toArray] <;> omega)
  · obtain ⟨its, r', pl, hz⟩ := I.tuple hq
    have hlen := r'.length
    obtain ⟨o, ho, hc, n, hd⟩ := pl
    exact call_list_seq p (.inr rfl) ho hc hd (fun h' c' kp e => fin its r' hz h' c' kp e) (by simp only [List.size_toArray] <;> omega)
noncomputable def tyV (K : PySem.W.Frag) (T : String) (x : V) (H : Hp) : Prop := match x with
  | .str _ => T = "str"
  | .int _ => T = "int"
  | .ref p => (T = "list" ∧ ∃ xs, SqL K H p xs) ∨ (T = "tuple" ∧ ∃ o, K.lookup p = some o ∧ o.cls = .type "tuple" ∧ o.dict = none) ∨
      (T = "dict" ∧ ((∃ kvs, H p = some (.dK kvs)) ∨ ∃ kvs, H p = some (.dT kvs))) ∨ (T = "set" ∧ ∃ S n, H p = some (.set S n))
  | _ => False
theorem tyV_is {pins : List (Addr × Obj)} {σ : St} {H : Hp} {s : Shared} {T : String} {x : V} {v : Value} (I : Inv X pins σ H s) (r : RelV x v) (ty : tyV X.K T x H) :
    s.TypeIs v T ∧ ∀ a, v = .ref a → ∃ ob, s.heap.get? a = some ob ∧ ob.dict = none := by
  cases x with
  | str z =>
    obtain ⟨t, rfl⟩ := r
    cases (show T = "str" from ty)
    exact ⟨typeIs_str s z t, fun _ e => nomatch e⟩
  | int i =>
    obtain ⟨t, rfl⟩ := r
    cases (show T = "int" from ty)
    exact ⟨typeIs_int s i t, fun _ e => nomatch e⟩
  | ref p =>
    cases r
    rcases ty with ⟨rfl, xs, hq⟩ | ⟨rfl, o, hk, hc, hd⟩ | ⟨rfl, hk⟩ | ⟨rfl, S, n, hk⟩
    · obtain ⟨its, _, pl, _⟩ := I.list hq
      refine ⟨pl.isList.typeIs, fun a e => ?_⟩
      cases e
      obtain ⟨o, n, e, c, hd, _⟩ := pl
      exact ⟨o, e, hd⟩
    · refine ⟨⟨o, I.kIn p o hk, hc⟩, fun a e => ?_⟩
      cases e
      exact ⟨o, I.kIn _ o hk, hd⟩
    · have z : ∃ o, s.heap.get? p = some o ∧ o.ExactDict := by
        rcases hk with ⟨kvs, hk⟩ | ⟨kvs, hk⟩
        · obtain ⟨_, _, _, _, o, _, _, e, ex, _⟩ := I.hok p _ hk
          exact ⟨o, e, ex⟩
        · obtain ⟨_, _, _, _, o, _, _, e, ex, _⟩ := I.hok p _ hk
          exact ⟨o, e, ex⟩
      obtain ⟨o, e, ex⟩ := z
      refine ⟨⟨o, e, ex.1⟩, fun a e2 => ?_⟩
      cases e2
      exact ⟨o, e, ex.2.1⟩
    · obtain ⟨o, _, _, _, e, ex, _⟩ := I.hok p _ hk
      refine ⟨⟨o, e, ex.1⟩, fun a e2 => ?_⟩
      cases e2
      exact ⟨o, e, ex.2.1⟩
  | _ => exact False.elim ty
noncomputable def tBM (K : PySem.W.Frag) (T : String) (r : V → List V → Hp → VK → Prop) (to : TE) (t : TA) : TE := fun σ H Q => to σ H fun x H1 => tyV K T x H1 ∧ t σ H1 fun xs H2 => r x xs H2 Q
variable {o e : Expr} {es : List Expr} {to : TE} {t : TA} {name : Str} {apos cpos : Pos} {T id : String} {r : V → List V → Hp → VK → Prop}
theorem pe_bm (pa : PlainAttrs T) (slot : Slot T name id) (hty : typeOf (.builtin id) = pure (.type "method_descriptor")) (hm : MtR X id r) (ho : PE X o to) (ha : PA X (e :: es) t)
    (hbase : attributeBase o name X.env (eval o X.env) = eval o X.env := by rfl)
    (hfew : ((backTo cpos (starEach (e :: es) X.env)).all (fun x => !x.1) && (backToKw cpos (keywordEach [] X.env)).all (fun x => x.1.isSome)
      && decide ((e :: es).length + ([] : List Keyword).length + (if ([] : List Keyword).isEmpty then 0 else 1) < 30)) = true := by rfl)
    (hline : (apos.endLine == cpos.line) = true := by rfl) (hs : starEach (e :: es) X.env = (false, eval e X.env) :: starEach es X.env := by rfl) (hplain : (backTo cpos (starEach es X.env)).any (·.1) = false := by rfl) :
    PE X (.Call (.Attribute o name apos) (e :: es) [] cpos) (tBM X.K T r to t) := by
  intro pins s σ H Q I h
  refine wpAny_Call_method_late hbase hfew hline rfl (thn (ho pins s σ H _ I h) fun v s1 hq__ => ?_)
  obtain ⟨x, H1, I1, r1, ty, q1⟩ := hq__
  obtain ⟨h1, h2⟩ := tyV_is I1 r1 ty
  refine ⟨T, id, pa, slot, hty, h1, h2, ?_⟩
  have hA := ha cpos pins s1 σ H1 _ I1 q1
  rw [hs] at hA ⊢
  refine Calls.callWith_builtin (by show (false || (backTo cpos (starEach es X.env)).any (·.1)) = false; rw [hplain] <;> rfl) (Calls.evalArgs_plain ?_)
  exact thn hA fun us s2 ⟨vs, H2, I2, r2, q2⟩ => hm pins s2 σ H2 x vs v us Q I2 r1 r2 q2
/- xs.append(e), list.index on a module's tuple .. are MtR facts of 06m -/
end
end L2
namespace L2
open PySem PySem.Spec PyProof.Rows
noncomputable def MtM (X : Cx) (id : String) (r : V → List V → Hp → VK → Prop) : Prop :=
  ∀ (pins : List (Addr × Obj)) (s : Shared) (σ : St) (H : Hp) (x : V) (xs : List V) (v : Value) (us : List Value) (Q : VK), Inv X pins σ H s → RelV x v → Vals xs us → r x xs H Q →
    wpAny (model X.prog X.w) X.A (call (.builtin id) (v :: us)) (EP X pins σ Q) X.xe s
theorem Vals.one : ∀ {x : V} {us : List Value}, Vals [x] us → ∃ u, us = [u] ∧ RelV x u := by
  intro x us h
  cases h with
  | cons r t => cases t; exact ⟨_, rfl, r⟩
theorem Vals.two : ∀ {x y : V} {us : List Value}, Vals [x, y] us → ∃ u v, us = [u, v] ∧ RelV x u ∧ RelV y v
  | _, _, _, .cons r (.cons q .nil) => ⟨_, _, rfl, r, q⟩
theorem Vals.dropLast {xs : List V} {us : List Value} (h : Vals xs us) : Vals xs.dropLast us.dropLast := by
  induction h with
  | nil => exact .nil
  | cons r t ih =>
    cases t with
    | nil => exact .nil
    | cons q t' => exact .cons r ih
theorem Vals.eraseIdx : ∀ {xs : List V} {us : List Value} (i : Nat), Vals xs us → Vals (xs.eraseIdx i) (us.eraseIdx i)
  | _, _, _, .nil => .nil
  | _, _, 0, .cons _ t => t
  | _, _, i + 1, .cons r t => .cons r (Vals.eraseIdx i t)
theorem Vals.rep {xs : List V} {us : List Value} (h : Vals xs us) : ∀ k : Nat, Vals (List.replicate k xs).flatten (List.replicate k us).flatten
  | 0 => .nil
  | k + 1 => by
    rw [List.replicate_succ, List.replicate_succ, List.flatten_cons, List.flatten_cons]
    exact Vals.append h (Vals.rep h k)
theorem foldl_rep (its : List Value) : ∀ (k : Nat) (acc : List Value),
    List.foldl (fun x1 x2 => x1 ++ x2) acc.toArray (List.replicate k its.toArray) = (acc ++ (List.replicate k its).flatten).toArray
  | 0, acc => by simp
  | k + 1, acc => by
    have e : acc.toArray ++ its.toArray = (acc ++ its).toArray := by simp
    have e2 : (acc ++ its) ++ (List.replicate k its).flatten = acc ++ (List.replicate (k + 1) its).flatten := by
      rw [List.replicate_succ, List.flatten_cons, List.append_assoc]
    rw [← e2, ← foldl_rep its k (acc ++ its), ← e, List.replicate_succ, List.foldl_cons]
section
variable {X : Cx} {pins : List (Addr × Obj)} {σ : St} {H : Hp} {s : Shared} {l b : Addr} {xs ys zs : List V}
theorem Inv.lset {its its' : List Value} {n : Nat} {f : Array Value → Array Value} {t' : Nat} (I : Inv X pins σ H s) (hH : H l = some (.lst xs))
    (e : s.heap.get? l = some { cls := .type "list", data := .seq its.toArray n }) (hf : f its.toArray = its'.toArray) (hv : Vals ys its') (hz : ys.length ≤ sizeLine) :
    Inv X pins σ (upd H l (.lst ys)) { s with heap := s.heap.update l (Obj.mapSeq f), toks := t' } := by
  have q := PySem.IsL.update e f
  rw [hf] at q
  refine I.write (x := l) (e := l) (by rw [hH]; exact trivial) (.inl rfl) (fun b' u hb hu => (Heap.get?_update_other s.heap (Obj.mapSeq f) (Ne.symm hb)).trans hu) ⟨_, q⟩ ?_
  exact ⟨hz, its', _, hv, q⟩
theorem Inv.lnew {its : List Value} {t' : Nat} (I : Inv X pins σ H s) (hv : Vals ys its) (hz : ys.length ≤ sizeLine) :
    Inv X pins σ (upd H s.heap.objs.size (.lst ys)) { s with heap := s.heap.push { cls := .type "list", data := .seq its.toArray }, toks := t' } :=
  I.laid (fun _ _ q => Heap.get?_push_of_some _ q) (Nat.le_refl _) ⟨hz, its, 0, hv, Heap.get?_push_size _ rfl⟩
theorem Inv.fresh (I : Inv X pins σ H s) : H s.heap.objs.size = none := I.hok.fresh (Nat.le_refl _)
theorem Inv.lstM (I : Inv X pins σ H s) (hH : H l = some (.lst xs)) : xs.length ≤ sizeLine ∧ ∃ (its : List Value) (n : Nat), Vals xs its ∧ xs.length = its.length ∧ s.heap.get? l = some { cls := .type "list", data := .seq its.toArray n } := by
  obtain ⟨z, its, n, r, e⟩ := I.hok l _ hH
  exact ⟨z, its, n, r, r.length, e⟩
theorem notLongL {n : Nat} (h : n ≤ sizeLine) : Builtin.List.listTooLong n = false := by
  unfold Builtin.List.listTooLong
  exact decide_eq_false (by omega)
end
section
variable {X : Cx}
noncomputable def rAppend : V → List V → Hp → VK → Prop := fun x vs H Q => ∃ l xs y, x = .ref l ∧ vs = [y] ∧ H l = some (.lst xs) ∧ xs.length < sizeLine ∧ Q .non (upd H l (.lst (xs ++ [y])))
theorem mt_append : MtM X "list.append" rAppend := by
  intro pins s σ H x vs v us Q I rx rv h
  obtain ⟨l, xs, y, rfl, rfl, hH, hz, q⟩ := h
  cases rx
  obtain ⟨u, rfl, ru⟩ := rv.one
  obtain ⟨z, its, n, r, hl, e⟩ := I.lstM hH
  refine call_meets F.slot_list_append ⟨_, e, rfl⟩ F.entry_list_append (F.args_list_append_2 _ _) (PySem.list_append l its.toArray n u (by rw [List.size_toArray]; omega)) ⟨e, ?_⟩
  refine ⟨.non, _, I.lset (its' := its ++ [u]) hH e (by simp) (r.append (.cons ru .nil)) ?_, rfl, q⟩
  rw [List.length_append, List.length_singleton]
  omega
noncomputable def rExtend : V → List V → Hp → VK → Prop := fun x vs H Q => ∃ l b xs zs, x = .ref l ∧ vs = [.ref b] ∧ H l = some (.lst xs) ∧ H b = some (.lst zs) ∧ xs.length + zs.length ≤ sizeLine ∧ Q .non (upd H l (.lst (xs ++ zs)))
theorem mt_extend : MtM X "list.extend" rExtend := by
  intro pins s σ H x vs v us Q I rx rv h
  obtain ⟨l, b, xs, zs, rfl, rfl, hH, hB, hz, q⟩ := h
  cases rx
  obtain ⟨u, rfl, ru⟩ := rv.one
  cases ru
  obtain ⟨z, its, n, r, hl, e⟩ := I.lstM hH
  obtain ⟨z2, its2, n2, r2, hl2, e2⟩ := I.lstM hB
  have hsz : its.toArray.size + its2.toArray.size ≤ sizeLine := by rw [List.size_toArray, List.size_toArray]; omega
  have hlong : ¬ (!its.toArray.isEmpty && Builtin.List.listTooLong (its.toArray.size + its2.toArray.size)) = true := by
    rw [notLongL hsz, Bool.and_false]
    exact Bool.false_ne_true
  refine call_meets F.slot_list_extend ⟨_, e, rfl⟩ F.entry_list_extend (F.args_list_extend_2 _ _)
    (AutoSeq1.list_extend_list_list_0 l its.toArray n b its2.toArray n2 hlong (by rw [List.size_toArray]; omega) (by omega)) ⟨e, e2, ?_⟩
  refine ⟨.non, _, I.lset (its' := its ++ its2) hH e (by simp) (r.append r2) ?_, rfl, q⟩
  rw [List.length_append]
  omega
noncomputable def rCat : R2 := fun x y H Q => ∃ l b xs zs, x = .ref l ∧ y = .ref b ∧ H l = some (.lst xs) ∧ H b = some (.lst zs) ∧ xs.length + zs.length ≤ sizeLine ∧ ∀ p, H p = none → Q (.ref p) (upd H p (.lst (xs ++ zs)))
theorem op_cat : OpR X (binaryOp .Add) rCat := by
  intro pins s σ H x y v u Q I rx ry h
  obtain ⟨l, b, xs, zs, rfl, rfl, hH, hB, hz, q⟩ := h
  cases rx
  cases ry
  obtain ⟨z, its, n, r, hl, e⟩ := I.lstM hH
  obtain ⟨z2, its2, n2, r2, hl2, e2⟩ := I.lstM hB
  refine PySem.P.add_list e e2 ?_ (by rw [List.size_toArray, List.size_toArray]; omega)
  have ea : its.toArray ++ its2.toArray = (its ++ its2).toArray := by simp
  rw [ea]
  exact ⟨.ref _, _, I.lnew (t' := s.toks) (r.append r2) (by rw [List.length_append]; omega), rfl, q _ I.fresh⟩
noncomputable def rRep : R2 := fun x y H Q => ∃ l k xs, x = .ref l ∧ y = .int k ∧ H l = some (.lst xs) ∧ -(2 ^ 63) ≤ k ∧ k < 2 ^ 63 ∧ xs.length * k.toNat ≤ sizeLine ∧
  ∀ p, H p = none → Q (.ref p) (upd H p (.lst (List.replicate k.toNat xs).flatten))
theorem len_rep {α : Type} (xs : List α) (k : Nat) : (List.replicate k xs).flatten.length = k * xs.length := by
  induction k with
  | zero => simp
  | succ k ih => rw [List.replicate_succ, List.flatten_cons, List.length_append, ih, Nat.succ_mul, Nat.add_comm]
theorem op_rep : OpR X (binaryOp .Mult) rRep := by
  intro pins s σ H x y v u Q I rx ry h
  obtain ⟨l, k, xs, rfl, rfl, hH, h1, h2, hz, q⟩ := h
  cases rx
  obtain ⟨t, rfl⟩ := ry
  obtain ⟨z, its, n, r, hl, e⟩ := I.lstM hH
  have hlen : its.toArray.size * k.toNat ≤ sizeLine := by rw [List.size_toArray, ← hl]; exact hz
  have hcap : ¬ its.toArray.size * k.toNat > (2 ^ 63 - 1) / 8 := by
    have : (sizeLine : Nat) ≤ (2 ^ 63 - 1) / 8 := by decide
    omega
  have hfit : ¬ (!Builtin.List.listFitsIndex k) = true := by
    rw [fitsIndex_both h1 h2]
    exact Bool.false_ne_true
  have hlong : ¬ Builtin.List.listTooLong (its.toArray.size * k.toNat) = true := by
    rw [notLongL hlen]
    exact Bool.false_ne_true
  have hnew : List.foldl (fun x1 x2 => x1 ++ x2) #[] (List.replicate (if its.toArray.isEmpty = true then 0 else k.toNat) its.toArray) = (List.replicate k.toNat its).flatten.toArray := by
    have f0 : ∀ m : Nat, List.foldl (fun x1 x2 => x1 ++ x2) #[] (List.replicate m its.toArray) = (List.replicate m its).flatten.toArray := fun m => by
      have := foldl_rep its m []
      rw [List.nil_append] at this
      exact this
    rw [f0]
    cases its with
    | nil => simp
    | cons a r' => rw [if_neg (by simp)]
  refine wpAny_binaryOp_repeat_ref (T := "list") (U := "int") (by decide) ⟨_, e, rfl⟩ (fun s' => typeIs_int s' k t) noFill_list_mul F.fills_int_mul F.slot_int_rmul repeat_list F.slot_int_index.lookup
    (call_meets F.slot_int_rmul (typeIs_int s k t) F.entry_int_rmul (F.args_int_rmul_2 _ _) (int___rmul___int_list k t l its.toArray n)
      ⟨e, rfl, ⟨_, e, rfl⟩, call_meets F.slot_list_mul ⟨_, e, rfl⟩ F.entry_list_mul (F.args_list_mul_2 _ _) (AutoListH.list___mul___list_int_3 l its.toArray n k t hfit hcap hlong) ⟨e, ?_⟩⟩)
  rw [hnew]
  exact ⟨.ref _, _, I.lnew (t' := s.toks) (r.rep k.toNat) (by rw [len_rep, Nat.mul_comm]; exact hz), rfl, q _ I.fresh⟩
end
section
variable {prog : Program} {w : World} {A : Around} {E : Value → Shared → Prop} {s : Shared}
end
section
variable {X : Cx}
end
end L2
namespace L2
open PySem PySem.Spec PyProof.Rows
section
variable {κ : Type} [DecidableEq κ]
noncomputable def valV (kvs : List (κ × V)) (k : κ) : Option V := (kvs.find? fun kv => decide (kv.1 = k)).map (·.2)
noncomputable def putK (kvs : List (κ × V)) (k : κ) (v : V) : List (κ × V) :=
  if (kvs.any fun kv => decide (kv.1 = k)) = true then kvs.map (fun kv => if kv.1 = k then (kv.1, v) else kv) else kvs ++ [(k, v)]
noncomputable def dropK (kvs : List (κ × V)) (k : κ) : List (κ × V) := kvs.filter fun kv => decide (kv.1 ≠ k)
theorem valV_pos {p : κ × V} {r : List (κ × V)} {k : κ} (e : p.1 = k) : valV (p :: r) k = some p.2 := by simp [valV, List.find?_cons, e]
theorem valV_neg {p : κ × V} {r : List (κ × V)} {k : κ} (e : ¬ p.1 = k) : valV (p :: r) k = valV r k := by simp [valV, List.find?_cons, e]
theorem valV_any (k : κ) : ∀ kvs : List (κ × V), (kvs.any fun kv => decide (kv.1 = k)) = (valV kvs k).isSome
  | [] => rfl
  | p :: r => by
    rw [List.any_cons]
    by_cases e : p.1 = k
    · simp only [valV_pos e, decide_eq_true e, Bool.true_or, Option.isSome_some]
    · rw [valV_neg e, decide_eq_false e, Bool.false_or]; exact valV_any k r
theorem valV_map (k j : κ) (y : V) : ∀ kvs : List (κ × V), valV (kvs.map fun kv => if kv.1 = k then (kv.1, y) else kv) j = (valV kvs j).map fun x => if j = k then y else x
  | [] => rfl
  | p :: r => by
    have ih := valV_map k j y r
    rw [List.map_cons]
    by_cases h : p.1 = k
    · rw [if_pos h]
      by_cases e : p.1 = j
      · rw [valV_pos (p := (p.1, y)) e, valV_pos e, Option.map_some, if_pos (e.symm.trans h)]
      · rw [valV_neg (p := (p.1, y)) e, valV_neg e, ih]
    · rw [if_neg h]
      by_cases e : p.1 = j
      · rw [valV_pos (p := p) e, valV_pos e, Option.map_some, if_neg (fun z => h (e.trans z))]
      · rw [valV_neg (p := p) e, valV_neg e, ih]
theorem valV_snoc (k j : κ) (y : V) : ∀ kvs : List (κ × V), valV kvs k = none → valV (kvs ++ [(k, y)]) j = if j = k then some y else valV kvs j := by
  intro kvs
  induction kvs with
  | nil =>
    intro _
    by_cases e : k = j
    · rw [if_pos e.symm]; exact valV_pos (p := (k, y)) e
    · rw [if_neg (fun z => e z.symm)]; exact valV_neg (p := (k, y)) e
  | cons p r ih =>
    intro hn
    rw [List.cons_append]
    have hk : ¬ p.1 = k := fun z => by rw [valV_pos z] at hn; cases hn
    rw [valV_neg hk] at hn
    have ih := ih hn
    by_cases e : p.1 = j
    · rw [valV_pos e, valV_pos e, if_neg (fun z => hk (e.trans z))]
    · rw [valV_neg e, valV_neg e, ih]
theorem valV_put (kvs : List (κ × V)) (k j : κ) (y : V) : valV (putK kvs k y) j = if j = k then some y else valV kvs j := by
  unfold putK
  by_cases a : (kvs.any fun kv => decide (kv.1 = k)) = true
  · rw [if_pos a, valV_map]
    rw [valV_any] at a
    by_cases e : j = k
    · obtain ⟨x, hx⟩ := Option.isSome_iff_exists.mp a
      rw [if_pos e, e, hx, Option.map_some, if_pos rfl]
    · rw [if_neg e]
      cases valV kvs j with
      | none => rfl
      | some x => rw [Option.map_some, if_neg e]
  · rw [if_neg a]
    refine valV_snoc k j y kvs ?_
    rw [valV_any] at a
    cases q : valV kvs k with
    | none => rfl
    | some x => rw [q] at a; exact (a rfl).elim
theorem RelO.getD {o : Option V} {u : Option Value} {d : V} {d' : Value} (r : RelO o u) (rd : RelV d d') : RelV (o.getD d) (u.getD d') := by
  cases o with
  | none => cases u with
    | none => exact rd
    | some _ => exact (show False from r).elim
  | some _ => cases u with
    | none => exact (show False from r).elim
    | some _ => exact r
theorem KV.any {kvs : List (κ × V)} {vs : List (κ × Value)} (r : KV kvs vs) (k : κ) : (kvs.any fun kv => decide (kv.1 = k)) = vs.any fun kv => decide (kv.1 = k) := by
  unfold KV at r
  induction r with
  | nil => rfl
  | cons h t ih => rw [List.any_cons, List.any_cons, ih, h.1]
theorem KV.drop {kvs : List (κ × V)} {vs : List (κ × Value)} (r : KV kvs vs) (k : κ) : KV (dropK kvs k) (without vs k) := by
  unfold KV at r ⊢
  unfold dropK without
  induction r with
  | nil => exact .nil
  | @cons p q ps qs h t ih =>
    obtain ⟨h1, h2⟩ := h
    rw [List.filter_cons, List.filter_cons]
    by_cases e : p.1 = k
    · have a : ¬ decide (p.1 ≠ k) = true := by simp [e]
      have b : ¬ decide (q.1 ≠ k) = true := by simp [h1.symm.trans e]
      rw [if_neg a, if_neg b]; exact ih
    · have e' : ¬ q.1 = k := fun z => e (h1.trans z)
      have a : decide (p.1 ≠ k) = true := by simp [e]
      have b : decide (q.1 ≠ k) = true := by simp [e']
      rw [if_pos a, if_pos b]; exact .cons ⟨h1, h2⟩ ih
theorem KV.length {kvs : List (κ × V)} {vs : List (κ × Value)} (r : KV kvs vs) : kvs.length = vs.length := Paired.length r
end
section
variable {P : Program} {w : World} {H : Hp} {h : Heap} {a : Addr}
end
section
variable {X : Cx} {pins : List (Addr × Obj)} {σ : St} {H : Hp} {s : Shared} {a : Addr} {y v : V} {u r : Value} {o : Option V} {A : Around} {E : Value → Shared → Prop}
end
section
variable {X : Cx} {pins : List (Addr × Obj)} {σ : St} {H : Hp} {s : Shared} {a : Addr} {kvs : List (Key × V)} {k : Key} {u : Value} {A : Around} {E : Value → Shared → Prop}
end
section
variable {X : Cx} {o i e value : Expr} {pos pos' tpos : Pos} {td ty tv : TE}
end
section
variable {X : Cx} {pos : Pos}
end
section
variable {X : Cx} {pins : List (Addr × Obj)} {σ : St} {H : Hp} {s : Shared} {a : Addr} {y d : V} {u r : Value} {o : Option V} {A : Around} {E : Value → Shared → Prop}
end
section
variable {X : Cx} {o e f : Expr} {apos cpos : Pos} {td ty tx : TE}
end
section
variable {X : Cx} {pins : List (Addr × Obj)} {σ : St} {H : Hp} {s : Shared} {a : Addr} {kvs : List (Key × V)} {A : Around} {E : Value → Shared → Prop}
end
section
variable {X : Cx} {pins : List (Addr × Obj)} {σ : St} {H : Hp} {s : Shared} {a : Addr} {y : V} {u : Value} {A : Around} {E : Value → Shared → Prop}
end
end L2
namespace Att
open PySem PySem.W PySem.Calls PyProof.Rows
theorem ints_of_wellAll {P : Params} {h : Heap} : ∀ (ns : List Int) (vs : List Value), WellAll P h vs (ns.map WData.int) → IntsAre vs ns := by
  intro ns
  induction ns with
  | nil =>
    intro vs w
    rw [List.map_nil] at w
    cases w
    exact .nil
  | cons n ns ih =>
    intro vs w
    rw [List.map_cons] at w
    cases w with
    | cons a b =>
      cases a
      exact .cons _ _ (ih _ b)
theorem script_of {l : OpenLaw} {n : Nat} (hn : l.most = some n) {P : Params} {h : Heap} {args : List WData} {vals : List Value}
    (hpre : l.row.toRowW.claim.pre args = true) (hwl : WellAll P h vals args) :
    ∃ a vs ns, vals = [Value.ref a] ∧ args = [WData.list (ns.map WData.int)] ∧ h.get? a = some { cls := .type "list", data := .seq vs.toArray } ∧ IntsAre vs ns ∧ ns.length ≤ n := by
  have hsh : WShape.hasAll [] args [.list .int] = true := (pre_splitW hpre).1
  have hc : l.pre.holds [] { args := args } = true := (pre_splitW hpre).2
  obtain ⟨d, r, rfl, h1, h2⟩ := hasAllW_cons hsh
  obtain rfl := hasAllW_nil h2
  obtain ⟨xs, rfl, h3⟩ := hasW_list h1
  obtain ⟨ns, rfl⟩ := items_int h3
  have hlen : ns.length ≤ n := by
    unfold OpenLaw.pre at hc
    have h4 : (WTm.not (.lt (.lit (.int (n : Int))) (.len (.arg 0)))).holds [] { args := [.list (ns.map .int)] } = true := by
      have h4 := (holds_andW hc).1
      rw [hn] at h4
      exact h4
    have h5 := condW_of h4 (w_not (w_lt w_lit (w_len_list (w_arg rfl))))
    rw [List.length_map] at h5
    refine Nat.le_of_not_lt fun q => ?_
    have q' : (n : Int) < ((ns.length : Nat) : Int) := by omega
    first
      | (rw [decide_eq_true q'] at h5; exact absurd h5 (by decide))
      | (simp at h5; omega)
  cases hwl with
  | cons w1 w2 =>
    cases w2
    cases w1 with
    | list ho hall => exact ⟨_, _, ns, rfl, rfl, ho, ints_of_wellAll ns _ hall, hlen⟩
theorem post_true (l : OpenLaw) (args : List WData) : l.row.toRowW.claim.post args (.bool true) args = true :=
  postW_of (r := l.row.toRowW) (X := (true == true))
    (show WShape.has [] (.bool true) .bool = true by first | rfl | decide | simp [WShape.has, WShape.arms, WShape.armsAll])
    (show (WTm.eq .res (.lit (.bool true))).value [] { args := args, res := some (.bool true), after := args } = some (.bool (true == true)) from w_eq_bool (w_res rfl) w_lit) rfl
theorem attach_call {l : OpenLaw} {n : Nat} {q : Program} {loose : List Str} {XP : (Str → Option Value) → Heap → Prop} {YP : World → Heap → Prop} {d : DefRec}
    (hn : l.most = some n) (hdf : d.params.defaults = [])
    (call : ∀ (w : World) (s₀ s₁ : Shared) (mg mb : Str → Option Value) (fa : Addr) (o : Obj) (pm cd doc : Value) (a : Addr) (vs : List Value) (ns : List Int),
      Ground q loose [] XP w s₀ mg mb s₁.heap → YP w s₁.heap →
      s₁.heap.get? fa = some o → o.data = .func (docDef d.name d.params d.body d.scope pm cd doc) → s₁.heap.CodeRec cd d.name → mg d.name = some (.ref fa) →
      s₁.heap.get? a = some { cls := .type "list", data := .seq vs.toArray } → IntsAre vs ns → ns.length ≤ n → s₁.gens = #[] →
      codeAny (model l.prog w) callerA (.call (.ref fa) ⟨[.ref a], []⟩) (fun r s' => r = .ok (.ret (.bool true)) ∧ OldK s₁.heap s'.heap ∧ s'.os = s₁.os ∧ AllBare s'.gens) s₁) :
    WalkO q loose XP YP l.row.toRowW d [] (fun f vs => PySem.call f vs) := by
  intro w s₀ s₁ mg mb G Y fa o pm cd doc dV kV ho hd hcd hD hmg hg args vals as hpre hlay hrd hwl hlo
  obtain rfl : dV = .none := Dflts.none hD hdf
  obtain rfl : kV = .none := Dflts.noKw hD
  obtain ⟨a, vs, ns, rfl, rfl, hobj, hints, hlen⟩ := script_of hn hpre hwl
  refine enter_call (codeAny_mono (call w s₀ s₁ mg mb fa o pm cd doc a vs ns G Y ho (fd_plain hd) hcd hmg hobj hints hlen hg) fun r s' hq => ?_)
  obtain ⟨rfl, h2, h3, h4⟩ := hq
  exact ⟨.inl ⟨.bool true, .bool true, [], rfl, fun _ => rfl, .bool true, post_true l _, fun _ => ⟨List.Pairwise.nil, fun _ hm => (nomatch hm)⟩⟩, h2, h3, h4⟩
section
variable {prog : Program} {w : World} {A : Around} {E : Value → Shared → Prop} {s : Shared} {K : Frag}
end
end Att
namespace L2
open PySem PySem.Spec PyProof.Rows
theorem vals_ints : ∀ {vs : List Value} {ns : List Int}, IntsAre vs ns → Vals (ns.map V.int) vs := by
  intro vs ns h
  induction h with
  | nil => exact .nil
  | cons n t h ih => exact .cons ⟨t, rfl⟩ ih
noncomputable def Only (H : Hp) : Prop := ∀ b, H b = none ∨ ∃ o xs, H b = some (.frz o (.lst xs))
theorem law_call {P : Program} {w : World} {K : PySem.W.Frag} {mg mb : Str → Option Value} {CX : CXT} {k : Nat} {fa a : Addr} {fd : FuncData} {x : Str} {sp : Sp} {s₁ : Shared} {vs : List Value} {ns : List Int}
    (KX : K.In s₁.heap) (hns : s₁.heap.Ns mainGlobals mg) (hb : s₁.heap.Ns builtinsNs mb) (hbb : ∀ x : Str, x ≠ "__name__" → mb x = bootBuiltins x) (hlim : s₁.heap.NoLimit) (hg : s₁.gens = #[])
    (ha : s₁.heap.get? a = some { cls := .type "list", data := .seq vs.toArray }) (hi : IntsAre vs ns) (hl : ns.length ≤ sizeLine) (hr : Room k callerA)
    (F : ∀ base : Heap, K.In base → base.Ns mainGlobals mg → FnOk P w K mg base CX k fa fd [x] sp) (hbind : ∀ (s : Shared) (u : Value), BindsTo s fd ⟨[u], []⟩ [(x, u)])
    (hsp : ∀ H : Hp, Only H → SqL K H a (ns.map V.int) → sp [.ref a] H (fun v _ => v = .bl true) fun _ _ _ => False)
    (hCX : ∀ H e s', CX [] H s₁ (fun _ _ _ => False) e s' → False) :
    codeAny (model P w) callerA (.call (.ref fa) ⟨[.ref a], []⟩) (fun r s' => r = .ok (.ret (.bool true)) ∧ OldK s₁.heap s'.heap ∧ s'.os = s₁.os ∧ AllBare s'.gens) s₁ := by
  have rv := vals_ints hi
  have lenV := hi.length
  have core : ∀ H : Hp, Only H → SqL K H a (ns.map V.int) → HOk P w H s₁.heap → (∀ b, H b ≠ none → b = a) → (H a ≠ none → K.lookup a = none) →
      codeAny (model P w) callerA (.call (.ref fa) ⟨[.ref a], []⟩) (fun r s' => r = .ok (.ret (.bool true)) ∧ OldK s₁.heap s'.heap ∧ s'.os = s₁.os ∧ AllBare s'.gens) s₁ := by
    intro H hO hS hok hA hK
    have base_of : ∀ {b : Addr} {o : Obj}, s₁.heap.get? b = some o → H b = none → (hidT s₁.heap H).get? b = some o := fun e n => hidT_get e n
    have noA : ∀ {b : Addr} {o : Obj} {es : Array DictEntry} {ep : Nat}, s₁.heap.get? b = some o → o.data = .dict es ep → H b = none := fun {b o es ep} e d => by
      cases q : H b with
      | none => rfl
      | some u =>
        have e' : b = a := hA b (by rw [q]; simp)
        subst e'
        rw [ha] at e; cases e
        have d' : Data.seq vs.toArray _ = Data.dict es ep := d
        cases d'
    have nsK : ∀ {b : Addr} {m : Str → Option Value}, s₁.heap.Ns b m → (hidT s₁.heap H).Ns b m := fun {b m} ⟨o, es, ep, e, d, r⟩ => ⟨o, es, ep, base_of e (noA e d), d, r⟩
    have hKb : K.In (hidT s₁.heap H) := fun b o e => base_of (KX b o e) (by
      cases q : H b with
      | none => rfl
      | some u =>
        have e' : b = a := hA b (by rw [q]; simp)
        subst e'
        rw [hK (by rw [q]; simp)] at e; cases e)
    have hM : Mod K mg (hidT s₁.heap H) := ⟨hKb, nsK hns, ⟨mb, nsK hb, hbb⟩, let ⟨mc, h1, h2⟩ := hlim; ⟨mc, nsK h1, h2⟩⟩
    have e0 : Env0 P w K mg (hidT s₁.heap H) callerA [] s₁ H := ⟨rfl, hM, fun b o e => of_hidT e, Nat.le_of_eq (hidT_size _ _), trivial, fun b hb => absurd (show b ∈ ([] : List Addr) from hb) (by simp), hok, .of_eq hg⟩
    refine codeAny_mono ((F _ hKb (nsK hns)).run callerA [] s₁ H ⟨[.ref a], []⟩ [.ref a] [.ref a] _ _ hr e0 (hbind s₁ (.ref a)) (.cons rfl .nil) (hsp H hO hS)) fun r s' h => ?_
    cases r with
    | error e => exact (hCX H e s' h).elim
    | ok fl =>
      cases fl with
      | next => exact False.elim h
      | brk => exact False.elim h
      | cont => exact False.elim h
      | ret u =>
        obtain ⟨v, H', os, bare, un, hok', r', q⟩ := h
        have q' : v = .bl true := q
        subst q'
        obtain rfl : u = Value.bool true := r'
        refine ⟨rfl, OldK.of_keep fun b o e => ?_, os, bare⟩
        cases q : H b with
        | none => exact un.keep b o e q (by intro z; exact absurd (show b ∈ ([] : List Addr) from z) (by simp)) (by simp)
        | some u =>
          rcases hO b with z | ⟨ob, xs, z⟩
          · rw [q] at z; cases z
          · have z2 := un.frzs b ob _ z
            obtain ⟨e1, _⟩ := hok b _ z
            obtain ⟨e2, _⟩ := hok' b _ z2
            rw [e] at e1; cases e1
            exact e2
  cases hk : K.lookup a with
  | some o =>
    have e := KX a o hk
    rw [ha] at e
    cases e
    refine core (fun _ => none) (fun _ => .inl rfl) (.inr ⟨_, vs.toArray, _, hk, rfl, rfl, rfl, by rw [List.size_toArray, lenV]; exact hl, by simpa using rv⟩) (fun b u z => by have z' : (none : Option HO) = some u := z; cases z') (fun b z => absurd rfl z) fun z => absurd rfl z
  | none =>
    refine core (fun b => if b = a then some (.frz { cls := .type "list", data := .seq vs.toArray } (.lst (ns.map V.int))) else none) (fun b => ?_) (.inl (.inr ⟨{ cls := .type "list", data := .seq vs.toArray }, if_pos rfl⟩)) (fun b u z => ?_) (fun b z => ?_) fun _ => hk
    · by_cases hb : b = a
      · exact .inr ⟨_, _, if_pos hb⟩
      · exact .inl (if_neg hb)
    · by_cases hb : b = a
      · have z' := (if_pos hb).symm.trans z
        cases z'
        subst hb
        exact ⟨ha, by rw [List.length_map]; exact hl, vs, _, rv, ha⟩
      · have z' := (if_neg hb).symm.trans z
        cases z'
    · by_cases hb : b = a
      · exact hb
      · exact absurd (if_neg hb) z
end L2
namespace L2
open PySem PySem.Spec PyProof.Rows
noncomputable abbrev KOf {K : PySem.W.Frag} {h : Heap} (_ : K.In h) : PySem.W.Frag := K
theorem walk_of {l : PySem.W.OpenLaw} {n k : Nat} {q : Program} {loose : List Str} {XP : (Str → Option Value) → Heap → Prop} {YP : World → Heap → Prop} {d : DefRec} {K : Params → PySem.W.Frag} {CX : World → CXT} {sp : World → Sp} {x : Str}
    (hn : l.most = some n) (hn2 : n ≤ sizeLine) (hdf : d.params.defaults = []) (hr : Room k callerA)
    (hY : ∀ (w : World) (h : Heap), YP w h → (K w.params).In h)
    (F : ∀ (w : World) (mg : Str → Option Value) (fa : Addr) (h : Heap), (K w.params).In h → h.Ns mainGlobals mg → mg d.name = some (.ref fa) →
      ∃ fd : FuncData, (∀ (s : Shared) (u : Value), BindsTo s fd ⟨[u], []⟩ [(x, u)]) ∧
        ∀ base : Heap, (K w.params).In base → base.Ns mainGlobals mg → FnOk l.prog w (K w.params) mg base (CX w) k fa fd [x] (sp w))
    (hsp : ∀ (w : World) (H : Hp) (a : Addr) (ns : List Int), ns.length ≤ n → Only H → SqL (K w.params) H a (ns.map V.int) → sp w [.ref a] H (fun v _ => v = .bl true) fun _ _ _ => False)
    (hCX : ∀ (w : World) (H : Hp) (s : Shared) (e : Value) (s' : Shared), CX w [] H s (fun _ _ _ => False) e s' → False) :
    PySem.W.WalkO q loose XP YP l.row.toRowW d [] (fun f vs => PySem.call f vs) := by
  refine Att.attach_call hn hdf fun w s₀ s₁ mg mb fa o pm cd doc a vs ns G Y ho hd hcd hmg hobj hints hlen hg => ?_
  have KX := hY w _ Y
  obtain ⟨fd, hb, hF⟩ := F w mg fa _ KX G.T.g hmg
  exact law_call KX G.T.g G.T.b G.T.builtins G.T.nolimit hg hobj hints (Nat.le_trans hlen hn2) hr hF hb (fun H hO hS => hsp w H a ns hlen hO hS) fun H e s' => hCX w H s₁ e s'
end L2
/- THE LAST THEOREM (shape; LID, My.* are yours):
   My.Adr: a structure of the addresses that your layer names (classes, functions); My.Txt K t: a structure (Prop) of the equations over K;
   My.txt_mk : {K} {implicit addresses ..} (e1 : nsIn K mainGlobals "law" = some (some (.ref f))) (e2 : K.lookup f = some ⟨oc, od, .func (fnOf "law" "law" params body scope dV kV doc pm an cdv ct), sl⟩) (e3 : codeIn K cdv "law" = true) .. : ∃ t, My.Txt K t
set_option maxRecDepth 100000 in
set_option maxHeartbeats 0 in
theorem PySem.Challenge.cw_LID_holds : PySem.Challenge.rw_LID.Holds := by
  w_on; o_law; k_head; (case hw => w_witness2)
  k_fill
  refine L2.walk_of (l := PySem.Challenge.rw_LID) (n := 63) (k := 40) (x := "script") (CX := fun w => ..) (sp := fun _ => My.sp_law) rfl (by decide) rfl ⟨rfl, by decide, by decide⟩ (fun w h Y => PySem.W.kIn_of Y) ?F ?S ?C
  case F =>
    intro w mg fa h KX G hmg
    have T : ∃ t, My.Txt (L2.KOf KX) t := by
      dsimp only [L2.KOf]                          -- K must stand as «<heap const> w.params» for k_is
      refine' My.txt_mk ?e1 ?e2 ?e3 ..
      (case e1 => PySem.W.k_is)                    -- in the order: a name -> its address -> its object -> its parts
      (case e2 => PySem.W.k_is)
      ..
    obtain ⟨t, T⟩ := T
    have e0 := hmg.symm.trans (PySem.W.mg_of KX G T.law)
    cases e0                                       -- fa is the law's own address
    exact ⟨_, fun s u => .of_eq rfl, fun base kb nb => My.law_fn T kb nb⟩     -- if «.of_eq rfl» comes too early: refine' ⟨_, ?b, fun base kb nb => My.law_fn T kb nb⟩; exact fun s u => .of_eq rfl
  case S => exact fun w H a ns hl hO hS => ..
  case C => exact ..
(the tactic k_is has no namespace: write k_is) -/
namespace L2
open PySem PySem.Spec PyProof.Rows
noncomputable def defArgs (s : Stmt) : Arguments := match s with
  | .FunctionDef _ a _ _ _ _ _ _ _ _ => a
  | _ => { posonlyargs := [], args := [], vararg := none, kwonlyargs := [], kw_defaults := [], kwarg := none, defaults := [] }
noncomputable def defBody (s : Stmt) : List Stmt := match s with
  | .FunctionDef _ _ b _ _ _ _ _ _ _ => b
  | _ => []
noncomputable def defScope (s : Stmt) : Scope := match s with
  | .FunctionDef _ _ _ _ _ _ sc _ _ _ => sc
  | _ => { kind := .function, names := [], isGenerator := false, isCoroutine := false }
noncomputable abbrev CX0 : CXT := fun _ _ _ _ _ _ => False
noncomputable abbrev E0 : XK := fun _ _ _ => False
theorem pass0 {X : Cx} : Passes CX0 X E0 := fun _ _ _ _ _ _ _ h => h.elim
structure Fun (K : PySem.W.Frag) (x qual : Str) (st : Stmt) (f : Addr) (fd : FuncData) : Prop where
  ex : ∃ (oc : Value) (od : Option Addr) (kV doc pm : Value) (an : Option Addr) (cdv ct : Value) (osl : Array (Option Value)),
    fd = PySem.W.fnOf x qual (defArgs st) (defBody st) (defScope st) .none kV doc pm an cdv ct ∧ K.lookup f = some ⟨oc, od, .func fd, osl⟩ ∧ PySem.W.codeIn K cdv qual = true
  kp : PySem.W.keepIn K (.ref f) = true
section
variable {P : Program} {w : World} {K : PySem.W.Frag} {mg : Str → Option Value} {base : Heap}
theorem Fun.ok {x qual : Str} {st : Stmt} {f : Addr} {fd : FuncData} {N ps : List Str} {k : Nat} {sp : Sp} (F : Fun K x qual st f fd) (S : FnScope N ps (defScope st)) (len : ∀ vs H Q E, sp vs H Q E → vs.length = ps.length)
    (hbody : ∀ (cdv : Value) (A : Around) (outer : List Env) (s : Shared) (H : Hp) (vs : List V) (Q : VK) (E : XK), Room k (A.deeper (envOfC qual (defScope st) s.heap.objs.size f cdv)) → sp vs H Q E →
      ∃ t, PSs (cxOf CX0 P w K mg base N qual (defScope st) f cdv A outer s H E).nox (defBody st) t ∧ t { nx := fun _ H' => Q .non H', rt := Q } (start N vs) H) : FnOk P w K mg base CX0 (k + 1) f fd ps sp := by
  obtain ⟨oc, od, kV, doc, pm, an, cdv, ct, osl, rfl, lk, hcd⟩ := F.ex
  refine fn_of lk hcd S len fun A outer s H vs Q E hr hsp => ?_
  obtain ⟨t, h, q⟩ := hbody cdv A outer s H vs Q E hr hsp
  exact ⟨t, h.nox, q⟩
theorem Fun.binds {x qual : Str} {st : Stmt} {f : Addr} {fd : FuncData} {ps : List Str} (F : Fun K x qual st f fd)
    (h : ∀ (kV doc pm : Value) (an : Option Addr) (cdv ct : Value) (us : List Value), us.length = ps.length → bindArgs (PySem.W.fnOf x qual (defArgs st) (defBody st) (defScope st) .none kV doc pm an cdv ct) ⟨us, []⟩ = pure (ps.zip us)) : Binds K fd ps [] := by
  obtain ⟨oc, od, kV, doc, pm, an, cdv, ct, osl, rfl, lk, hcd⟩ := F.ex
  exact .all (h kV doc pm an cdv ct)
theorem fun_mk {x qual : Str} {st : Stmt} {f : Addr} {oc : Value} {od an : Option Addr} {osl : Array (Option Value)} {kV doc pm cdv ct : Value} (l : K.lookup f = some ⟨oc, od, .func (PySem.W.fnOf x qual (defArgs st) (defBody st) (defScope st) .none kV doc pm an cdv ct), osl⟩)
    (c : PySem.W.codeIn K cdv qual = true) (k : PySem.W.keepIn K (.ref f) = true) : Fun K x qual st f (PySem.W.fnOf x qual (defArgs st) (defBody st) (defScope st) .none kV doc pm an cdv ct) := ⟨⟨oc, od, kV, doc, pm, an, cdv, ct, osl, rfl, l, c⟩, k⟩
end
theorem hu_of {A : Around} {k : Nat} (hr : Room k A) : A.units + 1 < cLine := Nat.lt_of_le_of_lt (Nat.add_le_add_left (by decide : 1 ≤ 64) _) hr.units
theorem small1000 {n : Nat} (h : n ≤ 1000) : n < sizeLine := Nat.lt_of_le_of_lt h (by decide)
section
variable {X : Cx}
theorem pv (i : Nat) {x : Str} {pos : Pos} (hN : X.N[i]? = some x := by rfl) (hv : Vis X.env.scope x := by first | exact Or.inl rfl | exact Or.inr (Or.inl rfl) | exact Or.inr (Or.inr rfl)) (hd : (x == ("__debug__" : Str)) = false := by decide)
    (hcd : (x == ("__classdict__" : Str)) = false := by decide) : PE X (.Name x pos) (tVar i) := pe_var hN hv hd hcd
end
theorem iteF {A B : Prop} (h : B) : if false = true then A else B := by
  rw [if_neg Bool.false_ne_true]
  exact h
theorem iteT {A B : Prop} (h : A) : if true = true then A else B := by
  rw [if_pos rfl]
  exact h
noncomputable def Same (H H' : Hp) : Prop := ∀ b o, H b = some o → H' b = some o
theorem Same.refl (H : Hp) : Same H H := fun _ _ h => h
theorem Same.trans {H H1 H2 : Hp} (a : Same H H1) (b : Same H1 H2) : Same H H2 := fun c o h => b c o (a c o h)
theorem Same.free {H H' : Hp} (e : Same H H') {l : Addr} (h : H' l = Option.none) : H l = Option.none := by
  cases q : H l with
  | none => rfl
  | some o =>
    rw [e l o q] at h
    cases h
theorem Same.seq {K : PySem.W.Frag} {H H' : Hp} {a : Addr} {xs : List V} (e : Same H H') (h : SqL K H a xs) : SqL K H' a xs := by
  rcases h with (h | ⟨o, h⟩) | h
  · exact .inl (.inl (e _ _ h))
  · exact .inl (.inr ⟨o, e _ _ h⟩)
  · exact .inr h
section
variable {κ : Type} [DecidableEq κ]
theorem nd_snoc : ∀ {l : List κ} {k : κ}, l.Nodup → ¬ k ∈ l → (l ++ [k]).Nodup
  | [], k, _, _ => by simp
  | a :: r, k, h, hk => by
    obtain ⟨h1, h2⟩ := List.nodup_cons.mp h
    show (a :: (r ++ [k])).Nodup
    refine List.nodup_cons.mpr ⟨fun m => ?_, nd_snoc h2 fun m => hk (List.mem_cons.mpr (Or.inr m))⟩
    rcases List.mem_append.mp m with q | q
    · exact h1 q
    · exact hk (List.mem_cons.mpr (Or.inl (List.mem_singleton.mp q).symm))
end
end L2
set_option Elab.async false
set_option linter.all false
set_option maxRecDepth 100000
namespace L2
open PySem PySem.Spec PyProof.Rows
structure BA where
  cl : List (Str × Addr)
  C : Addr
  s₀ : Shared
  H₀ : Hp
  ex : List Addr
noncomputable abbrev blk (X : Cx) (sc : Scope) (N : List Str) (b : BA) : Cx :=
  { prog := X.prog, w := X.w, K := X.K, mg := X.mg, base := X.base, A := X.A, N := N, s₀ := b.s₀, H₀ := b.H₀, env := compEnvC sc b.cl b.C X.env, outer := X.stack, stack := X.stack, ex := b.ex, fn := fun _ => false, calm := X.calm, pn := [], xe := fun _ _ => False }
noncomputable def closFrom (env : Env) : List (Str × Addr) → List (Str × NameKind) → List (Str × Addr)
  | acc, [] => acc
  | acc, (n, k) :: r => closFrom env (if k == .free then (match env.cells.lookup n with | some c => (n, c) :: acc | none => acc) else acc) r
theorem clos_run (env : Env) : ∀ (l : List (Str × NameKind)) (acc : List (Str × Addr)), (∀ y ∈ l, y.2 = .free → ∃ c, env.cells.lookup y.1 = some c) →
    (forIn l acc (fun (x : Str × NameKind) (cs : List (Str × Addr)) => (match x with
      | (name, kind) => if (kind == .free) = true then (do let a ← cellOf env name; pure (ForInStep.yield ((name, a) :: cs))) else pure (ForInStep.yield cs) : Sem (ForInStep (List (Str × Addr)))))) = (pure (closFrom env acc l) : Sem (List (Str × Addr))) := by
  intro l
  induction l with
  | nil => intro acc _; rfl
  | cons nk r ih =>
    obtain ⟨n, k⟩ := nk
    intro acc h
    have hr : ∀ y ∈ r, y.2 = .free → ∃ c, env.cells.lookup y.1 = some c := fun y hy => h y (List.mem_cons_of_mem _ hy)
    rw [List.forIn_cons]
    by_cases hk : k = .free
    · subst hk
      obtain ⟨c, hc⟩ := h (n, .free) List.mem_cons_self rfl
      have hc' : env.cells.lookup n = some c := hc
      simp only [beq_self_eq_true, if_true, closFrom, hc']
      have e : cellOf env n = pure c := by unfold cellOf; rw [hc']
      rw [e, pure_bind, pure_bind]
      exact ih _ hr
    · have hb : (k == NameKind.free) = false := by simpa using hk
      simp only [hb, Bool.false_eq_true, if_false, closFrom]
      rw [pure_bind]
      exact ih _ hr
theorem clos_eq {env : Env} {sc : Scope} (h : ∀ y ∈ sc.names, y.2 = .free → ∃ c, env.cells.lookup y.1 = some c) : closureFor sc env = pure (closFrom env [] sc.names) := by
  unfold closureFor
  exact (congrArg (fun m => m >>= fun cs => pure cs) (clos_run env sc.names [] h)).trans (pure_bind _ _)
theorem clos_sound {env : Env} : ∀ (l : List (Str × NameKind)) (acc : List (Str × Addr)), (∀ x c, acc.lookup x = some c → env.cells.lookup x = some c) →
    ∀ x c, (closFrom env acc l).lookup x = some c → env.cells.lookup x = some c := by
  intro l
  induction l with
  | nil => intro acc h x c e; exact h x c e
  | cons nk r ih =>
    obtain ⟨n, k⟩ := nk
    intro acc h x c e
    refine ih _ (fun y d q => ?_) x c e
    by_cases hk : (k == NameKind.free) = true
    · rw [if_pos hk] at q
      cases hl : env.cells.lookup n with
      | none => rw [hl] at q; exact h y d q
      | some a =>
        rw [hl] at q
        simp only [List.lookup_cons] at q
        by_cases hy : (y == n) = true
        · rw [hy] at q
          have e1 : y = n := by simpa using hy
          subst e1
          cases q
          exact hl
        · rw [Bool.not_eq_true] at hy
          rw [hy] at q
          exact h y d q
    · rw [if_neg hk] at q
      exact h y d q
theorem clos_grow {env : Env} : ∀ (l : List (Str × NameKind)) (acc : List (Str × Addr)) (x : Str), (acc.lookup x).isSome = true → ((closFrom env acc l).lookup x).isSome = true
  | [], acc, x, h => h
  | (n, k) :: r, acc, x, h => by
    refine clos_grow r _ x ?_
    by_cases hk : (k == NameKind.free) = true
    · rw [if_pos hk]
      cases env.cells.lookup n with
      | none => exact h
      | some a =>
        show (List.lookup x ((n, a) :: acc)).isSome = true
        rw [List.lookup_cons]
        by_cases hy : (x == n) = true
        · rw [hy]; rfl
        · rw [Bool.not_eq_true] at hy
          rw [hy]; exact h
    · rw [if_neg hk]; exact h
theorem clos_some {env : Env} : ∀ (l : List (Str × NameKind)) (acc : List (Str × Addr)) (x : Str), (x, NameKind.free) ∈ l → (∃ c, env.cells.lookup x = some c) → ((closFrom env acc l).lookup x).isSome = true
  | [], _, _, h, _ => by cases h
  | (n, k) :: r, acc, x, h, ⟨c, hc⟩ => by
    rcases List.mem_cons.mp h with e | h
    · obtain ⟨rfl, rfl⟩ := Prod.mk.inj e
      refine clos_grow r _ x ?_
      rw [if_pos (beq_self_eq_true _), hc]
      show (List.lookup x ((x, c) :: acc)).isSome = true
      rw [List.lookup_cons, beq_self_eq_true]; rfl
    · exact clos_some r _ x h ⟨c, hc⟩
theorem relab_free {env : Env} : ∀ (l : List (Str × NameKind)) (x : Str) (k : NameKind), (∀ y ∈ l, y.2 ≠ .cell) → k = .cell ∨ k = .free →
    (l.map fun (n, k) => if (k == NameKind.free && env.scope.kind == .function && env.kindOf n == some .cell) then (n, NameKind.cell) else (n, k)).lookup x = some k → (x, NameKind.free) ∈ l := by
  intro l
  induction l with
  | nil => intro _ _ _ _ h; simp at h
  | cons nk r ih =>
    obtain ⟨n, k'⟩ := nk
    intro x k hc hk h
    rw [List.map_cons] at h
    by_cases hx : (x == n) = true
    · have e1 : x = n := by simpa using hx
      subst e1
      by_cases hf : k' = .free
      · subst hf; exact List.mem_cons_self
      · exfalso
        have hb : (k' == NameKind.free) = false := by simpa using hf
        simp only [hb, Bool.false_and, Bool.false_eq_true, if_false, List.lookup_cons, beq_self_eq_true] at h
        have e2 : k' = k := Option.some.inj h
        rcases hk with z | z
        · exact hc (x, k') List.mem_cons_self (e2.trans z)
        · exact hf (e2.trans z)
    · rw [Bool.not_eq_true] at hx
      refine List.mem_cons_of_mem _ (ih x k (fun y hy => hc y (List.mem_cons_of_mem _ hy)) hk ?_)
      by_cases hq : (k' == NameKind.free && env.scope.kind == .function && env.kindOf n == some .cell) = true
      · simp only [hq, if_true, List.lookup_cons, hx] at h; exact h
      · rw [Bool.not_eq_true] at hq
        simp only [hq, Bool.false_eq_true, if_false, List.lookup_cons, hx] at h; exact h
theorem relab_of_free {env : Env} : ∀ (l : List (Str × NameKind)) (x : Str), l.lookup x = some .free →
    ∃ k, (k = NameKind.cell ∨ k = NameKind.free) ∧ (l.map fun (n, k) => if (k == NameKind.free && env.scope.kind == .function && env.kindOf n == some .cell) then (n, NameKind.cell) else (n, k)).lookup x = some k := by
  intro l
  induction l with
  | nil => intro _ h; simp at h
  | cons nk r ih =>
    obtain ⟨n, k'⟩ := nk
    intro x h
    rw [List.map_cons]
    by_cases hx : (x == n) = true
    · simp only [List.lookup_cons, hx] at h
      have e2 : k' = .free := Option.some.inj h
      subst e2
      by_cases hq : (NameKind.free == NameKind.free && env.scope.kind == .function && env.kindOf n == some .cell) = true
      · exact ⟨.cell, .inl rfl, by simp only [hq, if_true, List.lookup_cons, hx]⟩
      · rw [Bool.not_eq_true] at hq
        exact ⟨.free, .inr rfl, by simp only [hq, Bool.false_eq_true, if_false, List.lookup_cons, hx]⟩
    · rw [Bool.not_eq_true] at hx
      simp only [List.lookup_cons, hx] at h
      obtain ⟨k, hk, e⟩ := ih x h
      refine ⟨k, hk, ?_⟩
      by_cases hq : (k' == NameKind.free && env.scope.kind == .function && env.kindOf n == some .cell) = true
      · simp only [hq, if_true, List.lookup_cons, hx]; exact e
      · rw [Bool.not_eq_true] at hq
        simp only [hq, Bool.false_eq_true, if_false, List.lookup_cons, hx]; exact e
theorem mem_of_look {l : List (Str × NameKind)} {x : Str} {k : NameKind} : l.lookup x = some k → (x, k) ∈ l := by
  induction l with
  | nil => intro h; simp at h
  | cons p r ih =>
    intro h
    obtain ⟨n, k'⟩ := p
    by_cases hx : (x == n) = true
    · simp only [List.lookup_cons, hx] at h
      have e1 : x = n := by simpa using hx
      subst e1
      cases h
      exact List.mem_cons_self
    · rw [Bool.not_eq_true] at hx
      simp only [List.lookup_cons, hx] at h
      exact List.mem_cons_of_mem _ (ih h)
section
variable {prog : Program} {w : World} {A : Around} {E : Value → Shared → Prop} {R : Result → Shared → Prop} {s : Shared}
noncomputable abbrev NoX : Value → Shared → Prop := fun _ _ => False
theorem comp_turns {elt target iter : Expr} {ifs : List Expr} {scope : Scope} {pos : Pos} {it acc : Value} {env : Env} (J : Nat → Shared → Prop)
    (turn : ∀ n s, J n s → wpAny (model prog w) A (pyNext it) (fun r s₁ => (r = none ∧ R (.ok .next) s₁) ∨ ∃ v, r = some v ∧
      wpAny (model prog w) A (letOwnedTupleGo target it v) (fun _ s₁' => wpAny (model prog w) A (assign target env v) (fun _ s₂ =>
        wpAny (model prog w) A (forIn ifs true fun c r => if r = true then do let ok ← isTrue c env (eval c env); pure (ForInStep.yield ok) else pure (ForInStep.yield r)) (fun ok s₃ =>
          (ok = true → wpAny (model prog w) A (eval elt env) (fun x s₄ => wpAny (model prog w) A (call (.builtin "list.append") [acc, x]) (fun _ s₅ => ∃ m, m < n ∧ J m s₅) NoX s₄) NoX s₃) ∧
          (ok = false → ∃ m, m < n ∧ J m s₃)) NoX s₂) NoX s₁') NoX s₁) NoX s)
    (n : Nat) (h : J n s) : codeAny (model prog w) A (.compLoop (.ListComp elt [⟨target, iter, ifs, 0⟩] scope pos) 0 it acc env) R s := by
  refine codeAny_loop (M := model prog w) (A := A) rfl J (fun n s hJ => ?_) n h
  refine wpAny_noted (m := compTurn (.ListComp elt [⟨target, iter, ifs, 0⟩] scope pos) 0 it acc env) ?_
  rw [compTurn_list]
  refine wpAny_bind (wpAny_standAt (wpAny_bind (wpAny_mono (turn n s hJ) (fun r s₁ q => ?_) fun _ _ z => z.elim)))
  rcases q with ⟨e, q⟩ | ⟨v, e, q⟩
  · subst e
    exact wpAny_pure q
  · subst e
    refine wpAny_bind (wpAny_mono q (fun _ s₂ q => ?_) fun _ _ z => z.elim)
    refine wpAny_bind (wpAny_mono q (fun _ s₃ q => ?_) fun _ _ z => z.elim)
    refine wpAny_bind (wpAny_mono q (fun ok s₄ q => ?_) fun _ _ z => z.elim)
    cases ok with
    | false => exact wpAny_pure ⟨rfl, q.2 rfl⟩
    | true =>
      refine wpAny_bind (wpAny_bind (wpAny_mono (q.1 rfl) (fun x s₅ q => ?_) fun _ _ z => z.elim))
      exact wpAny_bind (wpAny_mono q (fun _ s₆ q => wpAny_pure (wpAny_pure ⟨rfl, q⟩)) fun _ _ z => z.elim)
end
noncomputable def PIf (X : Cx) (ifs : List Expr) (t : TT) : Prop :=
  ∀ (pins : List (Addr × Obj)) (s : Shared) (σ : St) (H : Hp) (Q : Bool → Hp → Prop), Inv X pins σ H s → t σ H Q →
    wpAny (model X.prog X.w) X.A (forIn ifs true fun c r => if r = true then do let ok ← isTrue c X.env (eval c X.env); pure (ForInStep.yield ok) else pure (ForInStep.yield r)) (TP X pins σ Q) X.xe s
noncomputable def tYes : TT := fun _ H Q => Q true H
theorem pif_nil {X : Cx} : PIf X [] tYes := fun _ _ _ H _ I h => wpAny_tests_nil ⟨H, I, h⟩
theorem pif_one {X : Cx} {c : Expr} {t : TT} (h : PT X c t) : PIf X [c] t := fun pins s σ H Q I hw => wpAny_tests_one (h pins s σ H Q I hw)
noncomputable def pick (σ : St) (js : List (Option Nat)) : St := js.map fun j => j.bind fun i => (σ[i]?).join
noncomputable def Kept (σ σ' : St) : Prop := σ'.length = σ.length ∧ ∀ (i : Nat) v, σ[i]? = some (some v) → σ'[i]? = some (some v)
noncomputable def CompB (J : It) (H1 : Hp) (js : List (Option Nat)) (g : TG) (tc : TT) (te : TE) (σ : St) (Q : VK) : Prop := ∀ acc, H1 acc = none →
  ∃ W : Nat → Nat → List V → Hp → Prop, (∃ m, W 0 m [] (upd H1 acc (.lst []))) ∧ ∀ i m ys H, W i m ys H →
    (J.stop i H ∧ Q (.ref acc) H) ∨ (J.go i H ∧ ∃ N : List V → Hp → Prop, (∀ ys' H', N ys' H' → ∃ m', m' < m ∧ W (i + 1) m' ys' H') ∧
      ∀ x H', J.yld i H x H' → g x (pick σ js) H' fun σ2 H2 => Kept (pick σ js) σ2 ∧ tc σ2 H2 fun b H3 =>
        (b = true → te σ2 H3 fun y H4 => H4 acc = some (.lst ys) ∧ ys.length < sizeLine ∧ N (ys ++ [y]) (upd H4 acc (.lst (ys ++ [y])))) ∧ (b = false → N ys H3))
noncomputable def tComp (wi : TI) (js : List (Option Nat)) (g : TG) (tc : TT) (te : TE) : TE := fun σ H Q => wi σ H fun J H1 => CompB J H1 js g tc te σ Q
theorem Un.but {fs ex : List Addr} {H H1 : Hp} {h h1 h2 : Heap} (u : Un fs ex H H1 h h1) (k : ∀ b o, h.get? b = some o → ∀ o', h1.get? b = some o' → h2.get? b = some o') : Un fs ex H H1 h h2 where
  keep := fun b o e n h1 h2 => k b o e _ (u.keep b o e n h1 h2)
  slot := fun b o e n h1 h2 => let ⟨sl, q⟩ := u.slot b o e n h1 h2; ⟨sl, k b o e _ q⟩
  free := u.free
  there := fun b o e hx => let ⟨o', q⟩ := u.there b o e hx; ⟨o', k b o e _ q⟩
  tups := u.tups
  frzs := u.frzs
  tbls := u.tbls
theorem stays_but {P : Program} {w : World} {H : Hp} {h h' : Heap} {C : Addr} (ok : HOk P w H h) (hn : H C = none) (k : ∀ b o, b ≠ C → h.get? b = some o → h'.get? b = some o) : HOk P w H h' := fun b o e => by
  refine (ok b o e).stay (fun c u hc q => k c u ?_ q) (fun _ q => q) fun _ _ q => q
  rintro rfl
  rcases hc with z | z
  · rw [z] at hn; rw [hn] at e; cases e
  · rw [hn] at z; cases z
theorem pair_get {α β : Type} {F : α → β → Prop} : ∀ {l : List α} {r : List β} {i : Nat} {b : β}, Paired F l r → r[i]? = some b → ∃ a, l[i]? = some a ∧ F a b := by
  intro l r i b h
  induction h generalizing i with
  | nil => intro e; simp at e
  | cons r t ih =>
    intro e
    cases i with
    | zero => cases e; exact ⟨_, rfl, r⟩
    | succ i => exact ih e
theorem blk_ok {X : Cx} {pins : List (Addr × Obj)} {σ : St} {H : Hp} {s : Shared} {sc : Scope} {N : List Str} {fp : List Addr} (I : Inv X pins σ H s) (hk : sc.kind = .function)
    (hcell : ∀ y ∈ sc.names, y.2 ≠ .cell) (hcl : ∀ y ∈ sc.names, y.2 = .free → ∃ c, X.env.cells.lookup y.1 = some c) (f : ∀ b ∈ fp, FpOk X pins H b) (fl : ∀ b ∈ fp, b < s.heap.objs.size) :
    (blk X sc N ⟨closFrom X.env [] sc.names, s.heap.objs.size, s, H, fp⟩).Ok where
  mod := I.ok.mod
  kind := hk
  glob := I.ok.glob
  blt := I.ok.blt
  above := Nat.le_refl _
  inj := fun x y c e1 e2 => I.ok.inj x y c (clos_sound _ [] (fun _ _ z => by simp at z) x c e1) (clos_sound _ [] (fun _ _ z => by simp at z) y c e2)
  has := fun x hx => by
    have m : (x, NameKind.free) ∈ sc.names := by
      rcases hx with z | z
      · exact relab_free (env := X.env) sc.names x _ hcell (.inl rfl) z
      · exact relab_free (env := X.env) sc.names x _ hcell (.inr rfl) z
    exact Option.isSome_iff_exists.mp (clos_some sc.names [] x m (hcl _ m rfl))
  cab := fun _ _ z => by cases z
  hd := I.ok.hd
  frames := I.ok.frames
  stk := .inl rfl
  exf := fun b hb => ⟨Nat.ne_of_lt (fl b hb), fun x c e => (f b hb).2.2.2.2.1 x c (clos_sound _ [] (fun _ _ z => by simp at z) x c e)⟩
  bs := I.bs
  bsz := Nat.le_trans I.ok.bsz I.sz
  noex := fun b o e hb => by
    rcases (f b hb).2.2.2.1 with z | z
    · exact I.ok.noex b o e z
    · exact absurd (Nat.lt_of_lt_of_le (Heap.lt_size (I.ok.bs b o e).1) z) (Nat.lt_irrefl _)
  exfs := fun b hb hs => by
    rcases List.mem_cons.mp (I.stkSub b hs) with z | z
    · exact (f b hb).2.1 z
    · exact (f b hb).2.2.1 z
  funs := I.stack
  frf := I.stkFree
theorem blk_inv {X : Cx} {pins : List (Addr × Obj)} {σ : St} {H : Hp} {s s4 : Shared} {sc : Scope} {N : List Str} {js : List (Option Nat)} {fp : List Addr} {m : Str → Option Value} (I : Inv X pins σ H s)
    (ok : (blk X sc N ⟨closFrom X.env [] sc.names, s.heap.objs.size, s, H, fp⟩).Ok) (hfree : ∀ y ∈ sc.names, y.2 = .free → X.env.kindOf y.1 = some .cell ∨ X.env.kindOf y.1 = some .free)
    (hN : Paired (fun (j : Option Nat) n => ∀ i, j = some i → X.N[i]? = some n ∧ sc.names.lookup n = some .free) js N)
    (ho : s4.os = s.os) (hg : s4.gens = s.gens) (ns : s4.heap.Ns s.heap.objs.size m) (kp : ∀ b u, s.heap.get? b = some u → s4.heap.get? b = some u) :
    Inv (blk X sc N ⟨closFrom X.env [] sc.names, s.heap.objs.size, s, H, fp⟩) [] (pick σ js) H s4 where
  ok := ok
  os := ho
  bare := by rw [hg]; exact I.bare
  base := Un.kept kp
  loc := by
    refine ⟨m, ns, fun i x v e1 e2 e3 => ?_⟩
    have e1' : N[i]? = some x := e1
    obtain ⟨j, ej, fj⟩ := pair_get hN e1'
    unfold pick at e2
    rw [List.getElem?_map, ej] at e2
    cases j with
    | none => cases e2
    | some k =>
      obtain ⟨a1, a2⟩ := fj k rfl
      have e2' : (σ[k]?).join = some v := Option.some.inj e2
      have e4 : σ[k]? = some (some v) := by
        cases z : σ[k]? with
        | none => rw [z] at e2'; cases e2'
        | some y => rw [z] at e2'; exact congrArg some e2'
      have mem := mem_of_look a2
      have kn := hfree _ mem rfl
      have vis : Vis X.env.scope x := .inr kn
      obtain ⟨m', hn', hl'⟩ := I.loc
      obtain ⟨u, ru, lk⟩ := hl' k x v a1 e4 vis
      refine ⟨u, ru, .inr ⟨?_, ?_⟩⟩
      · obtain ⟨k', hk', e⟩ := relab_of_free (env := X.env) sc.names x a2
        rcases hk' with z | z
        · subst z; exact .inl e
        · subst z; exact .inr e
      · rcases lk with ⟨z, _⟩ | ⟨_, c, hc, hcl⟩
        · rcases kn with q | q
          · have q' : X.env.kindOf x = some .cell := q
            rw [z] at q'; cases q'
          · have q' : X.env.kindOf x = some .free := q
            rw [z] at q'; cases q'
        · obtain ⟨c', e'⟩ := Option.isSome_iff_exists.mp (clos_some (env := X.env) sc.names [] x mem ⟨c, hc⟩)
          have e2 := clos_sound sc.names [] (fun _ _ z => by simp at z) x c' e'
          rw [hc] at e2
          cases e2
          obtain ⟨o, h1, h2⟩ := hcl
          exact ⟨c, e', o, kp c o h1, h2⟩
  cell := fun x c e => by
    obtain ⟨v, o, h1, h2⟩ := I.cell x c (clos_sound _ [] (fun _ _ z => by simp at z) x c e)
    exact ⟨v, o, kp c o h1, h2⟩
  free := I.hok.fresh (Nat.le_refl _)
  freeC := fun x c e => I.freeC x c (clos_sound _ [] (fun _ _ z => by simp at z) x c e)
  pin := fun p hp => by cases hp
  hok := I.hok.kept kp
  len := by
    unfold pick
    rw [List.length_map]
    exact Paired.length hN
set_option maxHeartbeats 4000000 in
theorem lcomp_core {X : Cx} {cpos : Pos} {use : Option (Value → Sem Unit)} {R : Value → Shared → Prop} {pins : List (Addr × Obj)} {s : Shared} {σ : St} {H : Hp} {Q : VK} {elt iter tg : Expr} {ifs : List Expr} {sc : Scope} {pos : Pos} {wi : TI} {g : TG} {tc : TT} {te : TE} (N : List Str) (js : List (Option Nat))
    (hcalm : X.calm = true) (hi : PI X tg iter wi) (hg : ∀ b, PG (blk X sc N b) tg g) (hc : ∀ b, PIf (blk X sc N b) ifs tc) (he : ∀ b, PE (blk X sc N b) elt te)
    (hN : Paired (fun (j : Option Nat) n => ∀ i, j = some i → X.N[i]? = some n ∧ sc.names.lookup n = some .free) js N)
    (hk : sc.kind = .function)
    (hcell : (sc.names.all fun y => y.2 != .cell) = true)
    (hfree : (sc.names.all fun y => y.2 != .free || (X.env.scope.names.lookup y.1 == some .cell || X.env.scope.names.lookup y.1 == some .free)) = true)
    (hnames : (sc.names.all fun y => y.2 != .local || sc.names.lookup y.1 == some .local) = true)
    (hs : ∀ x, foldedSetIterable iter X.env x = pure x) (I : Inv X pins σ H s) (h : tComp wi js g tc te σ H Q)
    (fin0 : ∀ (l C : Addr) (s' : Shared) (H' : Hp) (m : Str → Option Value), Inv X pins σ H' s' → s'.heap.Ns C m → H' C = none → X.env.locals ≠ C → X.s₀.heap.objs.size ≤ C → (∀ x c, X.env.cells.lookup x = some c → c ≠ C) → (∀ p ∈ X.pn ++ pins, p.1 ≠ C) → Q (.ref l) H' → compPost (model X.prog X.w) X.A X.xe use R (.ref l) C (.ok .next) s') :
    wpAny (model X.prog X.w) X.A (comprehension (.ListComp elt [⟨tg, iter, ifs, 0⟩] sc pos) sc X.env cpos (newList []) false (eval iter X.env) use) R X.xe s := by
  have hcell' : ∀ y ∈ sc.names, y.2 ≠ .cell := fun y hy => by simpa using List.all_eq_true.mp hcell y hy
  have hfree' : ∀ y ∈ sc.names, y.2 = .free → X.env.kindOf y.1 = some .cell ∨ X.env.kindOf y.1 = some .free := fun y hy e => by
    have q := List.all_eq_true.mp hfree y hy
    rw [e] at q
    have q' : X.env.scope.names.lookup y.1 = some .cell ∨ X.env.scope.names.lookup y.1 = some .free := by simpa using q
    exact q'
  have hnames' : ∀ y ∈ sc.names, y.2 = .local → sc.names.lookup y.1 = some .local := fun y hy e => by
    have q := List.all_eq_true.mp hnames y hy
    rw [e] at q
    simpa using q
  have hcl : ∀ y ∈ sc.names, y.2 = .free → ∃ c, X.env.cells.lookup y.1 = some c := fun y hy e => I.ok.has y.1 (hfree' y hy e)
  refine wpAny_comprehension_free (use := use) (g := ⟨tg, iter, ifs, 0⟩) (gs := []) rfl hs (clos_eq hcl) hk hnames' ?_
  refine thn (hi pins s σ H _ I h) fun v s1 h1 => thn h1 fun itv s2 h2 => ?_
  obtain ⟨it, fp, tn, J, H2, e, I2, T, st2, f2, q⟩ := h2
  subst e
  obtain ⟨W, ⟨m0, w0⟩, step⟩ := q _ I2.fresh
  refine wpAny_newObj_type (wpAny_newFunctionEnv hcell' (by intro y hy; simp at hy) (fun h₁ hns hsb => ?_) hk)
  dsimp only at hns hsb ⊢
  have I3 : Inv X pins σ (upd H2 s2.heap.objs.size (.lst [])) { s2 with heap := s2.heap.push { cls := .type "list", data := .seq ([] : List Value).toArray }, toks := s2.toks } := I2.lnew .nil (Nat.zero_le _)
  generalize hs3 : ({ s2 with heap := s2.heap.push { cls := .type "list", data := .seq ([] : List Value).toArray }, toks := s2.toks } : Shared) = s3 at I3
  generalize hH3 : upd H2 s2.heap.objs.size (.lst []) = H3 at I3 w0
  have es3 : s3.heap = s2.heap.push { cls := .type "list", data := .seq ([] : List Value).toArray } := by rw [← hs3]
  have hC : (s2.heap.push { cls := .type "list", data := .seq ([] : List Value).toArray }).objs.size = s3.heap.objs.size := by rw [es3]
  have f3 : ∀ b ∈ fp, FpOk X pins H3 b := fun b hb => ⟨by rw [← hH3, upd_ne (Nat.ne_of_lt (by obtain ⟨o, e, _⟩ := T.obj _ _ st2 b hb; exact Heap.lt_size e))]; exact (f2 b hb).1, (f2 b hb).2⟩
  have fl3 : ∀ b ∈ fp, b < s3.heap.objs.size := fun b hb => by
    obtain ⟨o, e, _⟩ := T.obj _ _ st2 b hb
    rw [es3, Heap.size_push]
    exact Nat.lt_succ_of_lt (Heap.lt_size e)
  have ok := blk_ok (N := N) (sc := sc) (fp := fp) I3 hk hcell' hcl f3 fl3
  have k23 : ∀ b u, s2.heap.get? b = some u → s3.heap.get? b = some u := fun b u e => by rw [es3]; exact Heap.get?_push_of_some _ e
  have k34 : ∀ b u, s3.heap.get? b = some u → h₁.get? b = some u := fun b u e => by
    rw [hC] at hsb
    refine (hsb.2 b (Nat.ne_of_lt (Heap.lt_size e))).trans (Heap.get?_push_of_some _ ?_)
    rw [← es3]; exact e
  have I4 := blk_inv (s4 := { s2 with heap := h₁, toks := s2.toks + ([] : List (Str × Value)).length }) (js := js) I3 ok hfree' hN (by rw [← hs3]) (by rw [← hs3]) (by rw [← hC]; exact hns) k34
  have st4 : tn 0 h₁ := T.keep _ _ _ st2 fun b _ o e => k34 b o (k23 b o e)
  generalize hs4 : ({ s2 with heap := h₁, toks := s2.toks + ([] : List (Str × Value)).length } : Shared) = s4 at I4
  have eh4 : s4.heap = h₁ := by rw [← hs4]
  rw [hC]
  generalize hB : (⟨closFrom X.env [] sc.names, s3.heap.objs.size, s3, H3, fp⟩ : BA) = B at ok I4
  have eC : B.C = s3.heap.objs.size := by rw [← hB]
  have stat : ∀ {H' : Hp}, (∀ b ∈ fp, H' b = none) → ∀ b ∈ fp, FpOk (blk X sc N B) [] H' b := fun hn b hb => by
    refine ⟨hn b hb, ?_, fun z => ?_, .inl (by rw [← hB]; exact hb), fun x c e => (ok.exf b (by rw [← hB]; exact hb)).2 x c e, fun p hp => by cases hp⟩
    · exact (ok.exf b (by rw [← hB]; exact hb)).1
    · exact ok.exfs b (by rw [← hB]; exact hb) z
  have fin : ∀ {s' : Shared} {H' : Hp} {σ' : St}, Inv (blk X sc N B) [] σ' H' s' → Q (.ref s2.heap.objs.size) H' →
      compPost (model X.prog X.w) X.A X.xe use R (.ref s2.heap.objs.size) s3.heap.objs.size (.ok .next) s' := fun {s' H' σ'} I' q' => by
    obtain ⟨m, hm, _⟩ := id I'.loc
    have hm' : s'.heap.Ns s3.heap.objs.size m := by rw [← eC]; exact hm
    have u1 : Un (frs X.stack) fp H2 H3 s2.heap s3.heap := by rw [← hH3]; exact Un.laid k23 (Nat.le_refl _) I2.fresh
    have u2 : Un (frs X.stack) fp H3 H' s3.heap s'.heap := by
      have z := I'.base
      rw [← hB] at z
      exact z
    have fr' : H' s3.heap.objs.size = none := by rw [← eC]; exact I'.free
    have os' : s'.os = s2.os := by
      have z := I'.os
      rw [← hB] at z
      rw [z, ← hs3]
    have Io : Inv X pins σ H' s' := I2.call' (s' := s') (ch := fp) os' (u1.trans u2) I'.hok I'.bare fun b hb => ⟨(f2 b hb).2.2.2.1, (f2 b hb).2.1, (f2 b hb).2.2.2.2.1, (f2 b hb).2.2.2.2.2⟩
    have ltC : s2.heap.objs.size < s3.heap.objs.size := by rw [es3, Heap.size_push]; exact Nat.lt_succ_self _
    have cC : ∀ x c, X.env.cells.lookup x = some c → c ≠ s3.heap.objs.size := fun x c e z => by
      obtain ⟨v, q⟩ := I2.cell x c e
      exact absurd q.lt (by rw [z]; exact Nat.not_lt.mpr (Nat.le_of_lt ltC))
    exact fin0 _ _ s' H' m Io hm' fr' (Nat.ne_of_lt (Nat.lt_trans I2.lt ltC)) (Nat.le_trans I2.sz (Nat.le_of_lt ltC)) cC (fun p hp z => absurd (Heap.lt_size (I2.pin p hp).1) (by rw [z]; exact Nat.not_lt.mpr (Nat.le_of_lt ltC))) q'
  have loop : codeAny (model X.prog X.w) X.A (.compLoop (.ListComp elt [⟨tg, iter, ifs, 0⟩] sc pos) 0 (.ref it) (.ref s2.heap.objs.size) (blk X sc N B).env)
      (compPost (model X.prog X.w) X.A X.xe use R (.ref s2.heap.objs.size) s3.heap.objs.size) s4 := by
    refine comp_turns (fun n s' => ∃ i ys σ' H', Inv (blk X sc N B) [] σ' H' s' ∧ Kept (pick σ js) σ' ∧ tn i s'.heap ∧ (∀ b ∈ fp, H' b = none) ∧ W i n ys H') ?_ m0
      ⟨0, [], pick σ js, H3, I4, ⟨rfl, fun _ _ z => z⟩, by rw [eh4]; exact st4, fun b hb => (f3 b hb).1, w0⟩
    rintro n s5 ⟨i, ys, σ5, H5, I5', kp5, st5, fr5, w5⟩
    have I5 : Inv (blk X sc N B) [] (pick σ js) H5 s5 := I5'.weak kp5.1.symm kp5.2
    rcases step i n ys H5 w5 with ⟨stop, qn⟩ | ⟨go, N', hN', turn⟩
    · refine thn (T.done (blk X sc N B) rfl rfl rfl hcalm i [] s5 _ H5 NoX I5 (stat fr5) st5 stop) fun r s6 ⟨hr, I6⟩ => .inl ⟨hr, fin I6 qn⟩
    · refine thn (T.item (blk X sc N B) rfl rfl rfl hcalm i [] s5 _ H5 NoX I5 (stat fr5) st5 go) fun r s6 ⟨u, hr, h6⟩ => .inr ⟨u, hr, ?_⟩
      refine thn h6 fun _ s7 hq__ => ?_
      obtain ⟨x, H7, I7, r7, y7, st7, fr7⟩ := hq__
      have I7' := I7.pinned (stat fr7) (T.obj _ _ st7)
      have back : ∀ {σ8 : St} {H8 : Hp} {s8 : Shared}, Inv (blk X sc N B) ([] ++ pinsAt fp s7.heap) σ8 H8 s8 → tn (i + 1) s8.heap ∧ ∀ b ∈ fp, H8 b = none := fun {σ8 H8 s8} I8 => by
        refine ⟨T.keep _ _ _ st7 fun b hb o e => (I8.pin (b, o) (List.mem_append_right _ (List.mem_append_right _ (mem_pinsAt hb e)))).1, fun b hb => ?_⟩
        obtain ⟨o, e, d⟩ := T.obj _ _ st7 b hb
        exact (I8.pin (b, o) (List.mem_append_right _ (List.mem_append_right _ (mem_pinsAt hb e)))).2.1
      refine thn (hg B _ s7 _ H7 x u _ I7' r7 (turn x H7 y7)) fun _ s8 hq__ => ?_
      obtain ⟨σ8, H8, I8, kp8, q8⟩ := hq__
      refine thn (hc B _ s8 σ8 H8 _ I8 q8) fun ok s9 ⟨H9, I9, q9⟩ => ⟨fun e => ?_, fun e => ?_⟩
      · refine thn (he B _ s9 σ8 H9 _ I9 (q9.1 e)) fun yv s10 hq__ => ?_
        obtain ⟨y, H10, I10, r10, q10⟩ := hq__
        obtain ⟨e10, l10, n10⟩ := q10
        refine thn (mt_append _ s10 σ8 H10 (.ref s2.heap.objs.size) [y] _ _ (fun _ H' => N' (ys ++ [y]) H') I10 rfl (.cons r10 .nil) ⟨_, ys, y, rfl, rfl, e10, l10, n10⟩) fun _ s11 hq__ => ?_
        obtain ⟨_, H11, I11, _, q11⟩ := hq__
        obtain ⟨m', hm, w11⟩ := hN' _ _ q11
        obtain ⟨st11, fr11⟩ := back I11
        exact ⟨m', hm, i + 1, ys ++ [y], σ8, H11, I11.unpinned, kp8, st11, fr11, w11⟩
      · obtain ⟨m', hm, w11⟩ := hN' _ _ (q9.2 e)
        obtain ⟨st11, fr11⟩ := back I9
        exact ⟨m', hm, i + 1, ys, σ8, H9, I9.unpinned, kp8, st11, fr11, w11⟩
  have env_eq : (blk X sc N B).env = compEnvC sc (closFrom X.env [] sc.names) s3.heap.objs.size X.env := by rw [← hB]
  rw [env_eq] at loop
  have st4' : tn 0 s4.heap := by rw [eh4]; exact st4
  exact codeAny_compStart_list loop (T.self X.A 0 _ _ _ st4' loop)
theorem pe_lcomp {X : Cx} {elt iter tg : Expr} {ifs : List Expr} {sc : Scope} {pos : Pos} {wi : TI} {g : TG} {tc : TT} {te : TE} (N : List Str) (js : List (Option Nat))
    (hcalm : X.calm = true) (hi : PI X tg iter wi) (hg : ∀ b, PG (blk X sc N b) tg g) (hc : ∀ b, PIf (blk X sc N b) ifs tc) (he : ∀ b, PE (blk X sc N b) elt te)
    (hN : Paired (fun (j : Option Nat) n => ∀ i, j = some i → X.N[i]? = some n ∧ sc.names.lookup n = some .free) js N)
    (hk : sc.kind = .function := by rfl)
    (hcell : (sc.names.all fun y => y.2 != .cell) = true := by rfl)
    (hfree : (sc.names.all fun y => y.2 != .free || (X.env.scope.names.lookup y.1 == some .cell || X.env.scope.names.lookup y.1 == some .free)) = true := by rfl)
    (hnames : (sc.names.all fun y => y.2 != .local || sc.names.lookup y.1 == some .local) = true := by rfl)
    (hs : ∀ x, foldedSetIterable iter X.env x = pure x := by intro _; rfl) : PE X (.ListComp elt [⟨tg, iter, ifs, 0⟩] sc pos) (tComp wi js g tc te) := by
  intro pins s σ H Q I h
  rw [eval_ListComp]
  exact lcomp_core (use := none) N js hcalm hi hg hc he hN hk hcell hfree hnames hs I h fun l C s' H' m Io hm fr lC sz cC pC q' => ⟨m, hm, fun h' sb' => ⟨.ref l, H', Io.turned (t' := s'.toks) (it := C) (fun b o hb e => (sb'.2 b hb).trans e) fr lC.symm (.inr sz) cC pC, rfl, q'⟩⟩
end L2
set_option Elab.async false
set_option linter.all false
set_option maxRecDepth 100000
namespace L2
open PySem PySem.Spec PyProof.Rows
theorem ps_setC {X : Cx} {i₀ : Nat} {y₀ : Str} {py spos : Pos} {elt iter tg : Expr} {ifs : List Expr} {sc : Scope} {pos : Pos} {wi : TI} {g : TG} {tc : TT} {te : TE} (hN₀ : X.N.Nodup) (hi₀ : X.N[i₀]? = some y₀) (hx₀ : Loc X.env.scope y₀) (N : List Str) (js : List (Option Nat))
    (hcalm : X.calm = true) (hi : PI X tg iter wi) (hg : ∀ b, PG (blk X sc N b) tg g) (hc : ∀ b, PIf (blk X sc N b) ifs tc) (he : ∀ b, PE (blk X sc N b) elt te)
    (hN : Paired (fun (j : Option Nat) n => ∀ i, j = some i → X.N[i]? = some n ∧ sc.names.lookup n = some .free) js N)
    (hk : sc.kind = .function := by rfl)
    (hcell : (sc.names.all fun y => y.2 != .cell) = true := by rfl)
    (hfree : (sc.names.all fun y => y.2 != .free || (X.env.scope.names.lookup y.1 == some .cell || X.env.scope.names.lookup y.1 == some .free)) = true := by rfl)
    (hnames : (sc.names.all fun y => y.2 != .local || sc.names.lookup y.1 == some .local) = true := by rfl)
    (hs : ∀ x, foldedSetIterable iter X.env x = pure x := by intro _; rfl) (hsw : swapsWith (.ListComp elt [⟨tg, iter, ifs, 0⟩] sc pos) (some (.Name y₀ py)) spos.line X.env = pure true := by rfl)
    (hf₀ : X.fn y₀ = true ∨ X.env.scope.names.lookup y₀ = some .local := by first | exact .inl rfl | exact .inr rfl | assumption) : PS X (.Assign [.Name y₀ py] (.ListComp elt [⟨tg, iter, ifs, 0⟩] sc pos) spos) (tAsg (tComp wi js g tc te) (gName i₀)) := by
  intro pins s σ H D I h
  rw [exec_Assign_Name_used _ _ _ _ hsw]
  refine wpAny_bind (wpAny_standAt (wpAny_bind ?_))
  show wpAny _ X.A (do let _ ← comprehension (.ListComp elt [⟨tg, iter, ifs, 0⟩] sc pos) sc X.env _ (newList []) false (eval iter X.env) (some (assign (.Name y₀ py) X.env))) _ _ s
  refine wpAny_bind (wpAny_mono (lcomp_core (use := some (assign (.Name y₀ py) X.env)) (R := fun _ s' => SP X pins D .next s') (Q := fun x H1 => D.nx (σ.set i₀ (some x)) H1) N js hcalm hi hg hc he hN hk hcell hfree hnames hs I h fun l C s' H' m Io hm fr lC sz cC pC q' => ?_) (fun _ s' hq => wpAny_pure (wpAny_pure hq)) fun _ _ e => e)
  show wpAny (model X.prog X.w) X.A (assign (.Name y₀ py) X.env (.ref l)) _ X.xe s'
  refine wpAny_assign_Name (store_ok2 Io hN₀ hi₀ hx₀ (v := .ref l) rfl (fun s'' I'' ⟨a, sb, ha⟩ => ?_) hf₀)
  have haC : C ≠ a := by
    rcases ha with z | z
    · rw [z]; exact lC.symm
    · exact (cC _ _ z).symm
  exact ⟨m, hm.sameBut sb haC, fun h' sb' => ⟨_, H', I''.turned (t' := s''.toks) (it := C) (fun b o hb e => (sb'.2 b hb).trans e) fr lC.symm (.inr sz) cC pC, q'⟩⟩
end L2
set_option Elab.async false
set_option linter.all false
set_option maxRecDepth 100000
namespace L2
open PySem PySem.Spec PyProof.Rows
section
variable {X : Cx} {p : Pos}
theorem ty_int (h : X.mg "int" = none) (hg : Gl X "int" := by rfl) : PE X (.Name "int" p) (tC (.ty "int")) := pe_bltn hg h PyProof.Rows.boot_int rfl
theorem ty_bool (h : X.mg "bool" = none) (hg : Gl X "bool" := by rfl) : PE X (.Name "bool" p) (tC (.ty "bool")) := pe_bltn hg h PyProof.Rows.boot_bool rfl
theorem ty_list (h : X.mg "list" = none) (hg : Gl X "list" := by rfl) : PE X (.Name "list" p) (tC (.ty "list")) := pe_bltn hg h PyProof.Rows.boot_list rfl
theorem call_isi : CallR X (.builtin "isinstance") (fun xs H Q => ∃ x Y t b, xs = [x, .ty Y] ∧ TyOf X.K H x t ∧ PySem.W.kitOne X.K t (.type Y) = some b ∧ Q (.bl b) H) := by
  intro pins s σ H xs us Q I r h
  obtain ⟨x, Y, t, b, e, ty, ko, q⟩ := h
  subst e
  obtain ⟨u, w', e, rx, ry⟩ := vals2 r
  subst e
  cases ry
  exact isinst_ok I rx ty ko fun tk => ⟨.bl b, H, I.tok _, rfl, q⟩
end
structure Def (K : PySem.W.Frag) (mg : Str → Option Value) (x : Str) (st : Stmt) (ps : List Str) (f : Addr) (fd : FuncData) : Prop where
  fn : Fun K x x st f fd
  bd : Binds K fd ps []
  at' : mg x = some (.ref f)
section
variable {X : Cx} {k : Nat} {x : Str} {st : Stmt} {ps : List Str} {f : Addr} {fd : FuncData} {sp : Sp} {e : Expr} {es : List Expr} {t : TA} {p pos : Pos}
theorem pc (D : Def X.K X.mg x st ps f fd) (F : FnOk X.prog X.w X.K X.mg X.base CX0 k f fd ps sp) (hr : Room k X.A) (ha : PA X (e :: es) t) (hg : Gl X x := by rfl) (hdb : (x == ("__debug__" : Str)) = false := by decide)
    (he : starEach (e :: es) X.env = (false, eval e X.env) :: starEach es X.env := by rfl) (hpl : (backTo pos (starEach es X.env)).any (·.1) = false := by rfl) : PE X (.Call (.Name x p) (e :: es) [] pos) (tCall sp [] E0 t) :=
  pe_call F hr hg D.at' D.fn.kp D.bd .nil pass0 ha hdb he hpl
end
theorem Same.new {H : Hp} {a : Addr} {o : HO} (h : H a = none) : Same H (upd H a o) := fun b u e => by rw [upd_ne (ne_of_none e h)]; exact e
theorem Same.put {H H' : Hp} {a : Addr} {o : HO} (s : Same H H') (h : H a = none) : Same H (upd H' a o) := fun b u e => by rw [upd_ne (ne_of_none e h)]; exact s b u e
theorem Same.to {H H' : Hp} {a : Addr} {o : HO} (s : Same H H') (h : H' a = none) : Same H (upd H' a o) := s.trans (Same.new h)
end L2
set_option Elab.async false
set_option linter.all false
set_option maxRecDepth 100000
namespace L2
open PySem PySem.Spec PyProof.Rows
inductive DEq (K : PySem.W.Frag) (H : Hp) : Nat → V → V → Bool → Prop
  | flat {d : Nat} {x y : V} (fx : flatV x = true) (fy : flatV y = true) : DEq K H d x y (eqV x y)
  | lst {d : Nat} {a b : Addr} {xs ys : List V} {e : Nat → Bool} (h1 : SqL K H a xs) (h2 : SqL K H b ys) (hl : xs.length = ys.length)
      (he : ∀ (j : Nat) x y, xs[j]? = some x → ys[j]? = some y → DEq K H d x y (e j)) : DEq K H (d + 1) (.ref a) (.ref b) ((List.range xs.length).all e)
  | len {d : Nat} {a b : Addr} {xs ys : List V} (h1 : SqL K H a xs) (h2 : SqL K H b ys) (hl : xs.length ≠ ys.length) : DEq K H (d + 1) (.ref a) (.ref b) false
  | tup {d : Nat} {a b : Addr} {xs ys : List V} {e : Nat → Bool} (h1 : SqT K H a xs) (h2 : SqT K H b ys)
      (he : ∀ (j : Nat) x y, xs[j]? = some x → ys[j]? = some y → DEq K H d x y (e j)) : DEq K H (d + 1) (.ref a) (.ref b) ((List.range (min xs.length ys.length)).all e && xs.length == ys.length)
theorem eqV_refl : ∀ {x : V}, flatV x = true → eqV x x = true
  | .non, _ => rfl
  | .bl b, _ => by cases b <;> rfl
  | .int i, _ => by simp [eqV]
  | .str y, _ => by simp [eqV]
theorem DEq.self {X : Cx} {pins : List (Addr × Obj)} {σ : St} {H : Hp} {s : Shared} (I : Inv X pins σ H s) {d : Nat} {x y : V} {b : Bool} (h : DEq X.K H d x y b) : x = y → b = true := by
  induction h with
  | flat fx fy => intro e; subst e; exact eqV_refl fx
  | @lst d a b xs ys e h1 h2 hl he ih =>
    intro z
    cases z
    have q := I.list_inj h1 h2
    subst q
    rw [List.all_eq_true]
    intro j hj
    have hj' : j < xs.length := List.mem_range.mp hj
    exact ih j _ _ (List.getElem?_eq_getElem hj') (List.getElem?_eq_getElem hj') rfl
  | len h1 h2 hl =>
    intro z
    cases z
    have q := I.list_inj h1 h2
    exact absurd (congrArg List.length q) hl
  | @tup d a b xs ys e h1 h2 he ih =>
    intro z
    cases z
    have q := I.tuple_inj h1 h2
    subst q
    rw [Bool.and_eq_true, List.all_eq_true]
    refine ⟨fun j hj => ?_, by simp⟩
    have hj' : j < xs.length := by have := List.mem_range.mp hj; omega
    exact ih j _ _ (List.getElem?_eq_getElem hj') (List.getElem?_eq_getElem hj') rfl
theorem Vals.at {xs : List V} {us : List Value} (r : Vals xs us) {j : Nat} (h : j < us.toArray.size) : ∃ x, xs[j]? = some x ∧ RelV x us.toArray[j] := by
  have hl := r.length
  have h' : j < xs.length := by simpa [hl] using h
  obtain ⟨u, e, ru⟩ := r.get (List.getElem?_eq_getElem h')
  refine ⟨_, List.getElem?_eq_getElem h', ?_⟩
  have h2 : j < us.length := by simpa using h
  rw [List.getElem?_eq_getElem h2] at e
  have e2 : us[j] = u := Option.some.inj e
  simpa [e2] using ru
theorem DEq.at {X : Cx} {pins : List (Addr × Obj)} {σ : St} {H : Hp} {s : Shared} (I : Inv X pins σ H s) {d : Nat} {x y : V} {b : Bool} (h : DEq X.K H d x y b) :
    ∀ {A : Around} {u v : Value}, A.units + d < cLine → RelV x u → RelV y v → SeqAt.EqAt A s u v b := by
  induction h with
  | flat fx fy => intro A u v hu rx ry; exact eqAt_V rx ry fx fy
  | @lst d a b xs ys e h1 h2 hl he ih =>
    intro A u v hu rx ry
    cases rx; cases ry
    by_cases hab : a = b
    · have z : (List.range xs.length).all e = true := (DEq.lst h1 h2 hl he).self I (by rw [hab])
      rw [z, hab]
      exact SeqAt.EqAt.same _
    · obtain ⟨its, r, pl, _⟩ := I.list h1
      obtain ⟨its2, r2, pl2, _⟩ := I.list h2
      have l1 := r.length
      have l2 := r2.length
      have q := SeqAt.RcAt.lists (A := A) (e := e) pl.isList pl2.isList (by simp; omega) (by omega) fun j j1 j2 => by
        obtain ⟨x, ex, rx⟩ := r.at j1
        obtain ⟨y, ey, ry⟩ := r2.at j2
        exact ih j x y ex ey (by show A.units + 1 + d < cLine; omega) rx ry
      refine SeqAt.EqAt.of_refs hab ?_
      simpa [l1] using q
  | @len d a b xs ys h1 h2 hl =>
    intro A u v hu rx ry
    cases rx; cases ry
    have hab : a ≠ b := by
      rintro rfl
      exact hl (congrArg List.length (I.list_inj h1 h2))
    obtain ⟨its, r, pl, _⟩ := I.list h1
    obtain ⟨its2, r2, pl2, _⟩ := I.list h2
    have l1 := r.length
    have l2 := r2.length
    exact SeqAt.EqAt.of_refs hab (SeqAt.RcAt.lists_lengths pl.isList pl2.isList (by simp; omega) (by omega))
  | @tup d a b xs ys e h1 h2 he ih =>
    intro A u v hu rx ry
    cases rx; cases ry
    by_cases hab : a = b
    · have z := (DEq.tup h1 h2 he).self I (by rw [hab])
      rw [z, hab]
      exact SeqAt.EqAt.same _
    · obtain ⟨its, r, pl, _⟩ := I.tuple h1
      obtain ⟨its2, r2, pl2, _⟩ := I.tuple h2
      have l1 := r.length
      have l2 := r2.length
      have q := SeqAt.RcAt.tuples (A := A) (e := e) (show s.heap.IsTuple a its.toArray from pl) (show s.heap.IsTuple b its2.toArray from pl2) (by omega) fun j j1 j2 => by
        obtain ⟨x, ex, rx⟩ := r.at j1
        obtain ⟨y, ey, ry⟩ := r2.at j2
        exact ih j x y ex ey (by show A.units + 1 + d < cLine; omega) rx ry
      refine SeqAt.EqAt.of_refs hab ?_
      simpa [l1, l2] using q
section
variable {X : Cx}
noncomputable def rEqD (K : PySem.W.Frag) : R2 := fun x y H Q => ∃ d b, DEq K H d x y b ∧ d < 64 ∧ flatV x = false ∧ Q (.bl b) H
noncomputable def rNeD (K : PySem.W.Frag) : R2 := fun x y H Q => ∃ d b, DEq K H d x y b ∧ d < 64 ∧ flatV x = false ∧ Q (.bl (!b)) H
theorem op_eqD (hu : X.A.units + 64 < cLine) : OpR X (compareOp .Eq) (rEqD X.K) := by
  intro pins s σ H x y v u Q I rx ry h
  obtain ⟨d, b, dq, hd, fl, q⟩ := h
  cases dq with
  | flat fx fy => rw [fx] at fl; cases fl
  | @lst d a b xs ys e h1 h2 hl he =>
    cases rx; cases ry
    obtain ⟨its, r, pl, _⟩ := I.list h1
    obtain ⟨its2, r2, pl2, _⟩ := I.list h2
    have l1 := r.length
    have l2 := r2.length
    refine SeqAt.eq_listAt (e := e) pl.isList pl2.isList (by simp; omega) (by omega) (fun j j1 j2 => ?_) ?_
    · obtain ⟨x, ex, rx⟩ := r.at j1
      obtain ⟨y, ey, ry⟩ := r2.at j2
      exact (he j x y ex ey).at I (by show X.A.units + 1 + d < cLine; omega) rx ry
    · refine ⟨.bl _, H, I, rfl, ?_⟩
      simpa [← l1] using q
  | @len d a b xs ys h1 h2 hl =>
    cases rx; cases ry
    obtain ⟨its, r, pl, _⟩ := I.list h1
    obtain ⟨its2, r2, pl2, _⟩ := I.list h2
    have l1 := r.length
    have l2 := r2.length
    exact SeqAt.eq_list_lengthsAt pl.isList pl2.isList (by simp; omega) (by omega) ⟨.bl _, H, I, rfl, q⟩
  | @tup d a b xs ys e h1 h2 he =>
    cases rx; cases ry
    obtain ⟨its, r, pl, _⟩ := I.tuple h1
    obtain ⟨its2, r2, pl2, _⟩ := I.tuple h2
    have l1 := r.length
    have l2 := r2.length
    refine SeqAt.eq_tupleAt (e := e) (show s.heap.IsTuple a its.toArray from pl) (show s.heap.IsTuple b its2.toArray from pl2) (by omega) (fun j j1 j2 => ?_) ?_
    · obtain ⟨x, ex, rx⟩ := r.at j1
      obtain ⟨y, ey, ry⟩ := r2.at j2
      exact (he j x y ex ey).at I (by show X.A.units + 1 + d < cLine; omega) rx ry
    · refine ⟨.bl _, H, I, rfl, ?_⟩
      simpa [← l1, ← l2] using q
theorem op_neD (hu : X.A.units + 64 < cLine) : OpR X (compareOp .NotEq) (rNeD X.K) := by
  intro pins s σ H x y v u Q I rx ry h
  obtain ⟨d, b, dq, hd, fl, q⟩ := h
  cases dq with
  | flat fx fy => rw [fx] at fl; cases fl
  | @lst d a b xs ys e h1 h2 hl he =>
    cases rx; cases ry
    obtain ⟨its, r, pl, _⟩ := I.list h1
    obtain ⟨its2, r2, pl2, _⟩ := I.list h2
    have l1 := r.length
    have l2 := r2.length
    refine SeqAt.RcNeAt.lists (e := e) pl.isList pl2.isList (by simp; omega) (by omega) (fun j j1 j2 => ?_) _ _ _ _ ?_
    · obtain ⟨x, ex, rx⟩ := r.at j1
      obtain ⟨y, ey, ry⟩ := r2.at j2
      exact (he j x y ex ey).at I (by show X.A.units + 1 + d < cLine; omega) rx ry
    · refine ⟨.bl _, H, I, rfl, ?_⟩
      simpa [← l1] using q
  | @len d a b xs ys h1 h2 hl =>
    cases rx; cases ry
    obtain ⟨its, r, pl, _⟩ := I.list h1
    obtain ⟨its2, r2, pl2, _⟩ := I.list h2
    have l1 := r.length
    have l2 := r2.length
    exact SeqAt.RcNeAt.lists_lengths pl.isList pl2.isList (by simp; omega) (by omega) _ _ _ _ ⟨.bl _, H, I, rfl, q⟩
  | @tup d a b xs ys e h1 h2 he =>
    cases rx; cases ry
    obtain ⟨its, r, pl, _⟩ := I.tuple h1
    obtain ⟨its2, r2, pl2, _⟩ := I.tuple h2
    have l1 := r.length
    have l2 := r2.length
    refine SeqAt.RcNeAt.tuples (e := e) (show s.heap.IsTuple a its.toArray from pl) (show s.heap.IsTuple b its2.toArray from pl2) (by omega) (fun j j1 j2 => ?_) _ _ _ _ ?_
    · obtain ⟨x, ex, rx⟩ := r.at j1
      obtain ⟨y, ey, ry⟩ := r2.at j2
      exact (he j x y ex ey).at I (by show X.A.units + 1 + d < cLine; omega) rx ry
    · refine ⟨.bl _, H, I, rfl, ?_⟩
      simpa [← l1, ← l2] using q
theorem call_all : CallR X (.builtin "all") (fun xs H Q => ∃ (hc : X.calm = true) (p : Addr) (bs : List Bool), xs = [.ref p] ∧ SqL X.K H p (bs.map V.bl) ∧ Q (.bl (bs.all id)) H) := by
  intro pins s σ H xs us Q I r h
  obtain ⟨hc, p, bs, e, hq, q⟩ := h
  subst e
  obtain ⟨u, e, rx⟩ := vals1 r
  subst e
  cases rx
  obtain ⟨its, rv, pl, hz⟩ := I.list hq
  have hl := rv.length
  rw [List.length_map] at hl
  refine call_all_walk (wpAny_pyIter_list pl.isList ?_)
  have hne : p ≠ s.heap.objs.size := by
    obtain ⟨o, ho, _⟩ := pl.isList
    exact Nat.ne_of_lt (Heap.lt_size ho)
  refine ⟨s.heap.objs.size, _, _, _, _, _, fun i => bs.getD i true, rfl, Walks.list (A := X.A.in1) (show X.A.in1.handled = none from I.ok.hd hc) _ p hne its.toArray, ?_, ?_, ?_⟩
  · refine ⟨⟨_, Heap.get?_push_size _ rfl, rfl, rfl⟩, ?_⟩
    obtain ⟨o, ho, z⟩ := pl.isList
    exact ⟨o, Heap.get?_push_of_some _ ho, z⟩
  · intro i v s' Q' E' hi hq'
    have hi' : its[i]? = some v := by simpa using hi
    have h2 : i < bs.length := by rw [hl]; exact (List.getElem?_eq_some_iff.mp hi').1
    obtain ⟨u, eu, ru⟩ := rv.get (i := i) (x := .bl bs[i]) (by simp [h2])
    rw [hi'] at eu
    cases eu
    cases ru
    refine wpAny_truthy_bool ?_
    have : bs.getD i true = bs[i] := by simp [h2]
    rw [← this]; exact hq'
  · intro h' tk kp
    refine ⟨.bl (bs.all id), H, I.kept (fun b o e => kp b o ?_ (Heap.get?_push_of_some _ e)), ?_, q⟩
    · have := Heap.lt_size e
      intro z
      rw [List.mem_singleton] at z
      exact absurd this (by rw [z]; exact Nat.lt_irrefl _)
    · show Value.bool _ = Value.bool _
      congr 1
      have e2 : its.toArray.size = bs.length := by simp [hl]
      rw [e2, Bool.eq_iff_iff, List.all_eq_true, List.all_eq_true]
      constructor
      · intro h x hx
        obtain ⟨j, hj, ej⟩ := List.mem_iff_getElem.mp hx
        have := h j (List.mem_range.mpr hj)
        simpa [hj, ej] using this
      · intro h j hj
        have hj' := List.mem_range.mp hj
        have := h bs[j] (List.getElem_mem hj')
        simpa [hj'] using this
theorem call_sorted : CallR X (.builtin "sorted") (fun xs H Q => ∃ (p : Addr) (ns : List Int), xs = [.ref p] ∧ SqL X.K H p (ns.map V.int) ∧ ns.length < 64 ∧
    ∀ l (ms : List Int), H l = none → ms.Perm ns → ms.Pairwise (· ≤ ·) → Q (.ref l) (upd H l (.lst (ms.map V.int)))) := by
  intro pins s σ H xs us Q I r h
  obtain ⟨p, ns, e, hq, h64, q⟩ := h
  subst e
  obtain ⟨u, e, rx⟩ := vals1 r
  subst e
  cases rx
  obtain ⟨its, rv, pl, hz⟩ := I.list hq
  have hl := rv.length
  rw [List.length_map] at hl
  refine sorted_ints (vs := its) (ns := ns) pl.isList (intsAre_of rv) (by omega) fun out ns' a1 a2 a3 => ?_
  obtain ⟨ep, e⟩ := sortedAll_at s.heap its out
  have hn : s.heap.objs.size ≤ s.heap.objs.size + 1 := Nat.le_succ _
  refine ⟨.ref (s.heap.objs.size + 1), _, I.laid (t' := s.toks) (fun b o eb => sortedAll_old eb) hn (show ObjOk X.prog X.w _ _ _ (.lst (ns'.map V.int)) from ⟨?_, out.toList, ep, vals_ints a1, ?_⟩), rfl, q _ ns' (I.hok.fresh hn) a2 a3⟩
  · rw [List.length_map, a2.length_eq]; exact Nat.le_of_lt (small1000 (by omega))
  · simpa [seqObj] using e
end
end L2
set_option Elab.async false
set_option linter.all false
set_option maxRecDepth 100000
namespace L2
open PySem PySem.Spec PyProof.Rows
noncomputable def SameBut (acc : Addr) (H H' : Hp) : Prop := ∀ b o, b ≠ acc → H b = some o → H' b = some o
theorem Same.but {acc : Addr} {H H' : Hp} (s : Same H H') : SameBut acc H H' := fun b o _ e => s b o e
theorem SameBut.trans {acc : Addr} {H H1 H2 : Hp} (a : SameBut acc H H1) (b : SameBut acc H1 H2) : SameBut acc H H2 := fun c o n h => b c o n (a c o n h)
theorem SameBut.upd {acc : Addr} {H : Hp} {o : HO} : SameBut acc H (upd H acc o) := fun b u n e => by rw [upd_ne n]; exact e
theorem SameBut.same {acc : Addr} {H H' : Hp} (h : SameBut acc H H') (n : H acc = none) : Same H H' := fun b o e => h b o (ne_of_none e n) e
theorem szl {n : Nat} (h : n ≤ 1000) : n ≤ sizeLine := Nat.le_of_lt (small1000 h)
theorem szr {n : Nat} (h : Nat.ble n 1000 = true := by rfl) : n ≤ sizeLine := szl (Nat.le_of_ble_eq_true h)
theorem szn {n : Nat} (h : n < 100000) : n < sizeLine := by rw [sizeLine_eq]; omega
theorem kept1 {x : Option V} {σ : St} : Kept (none :: σ) (x :: σ) := ⟨rfl, fun i v e => by
  cases i with
  | zero => cases e
  | succ i => exact e⟩
theorem paired_map {α β : Type} {f : α → β} : ∀ {l : List α} {r : List β}, Paired (fun a b => b = f a) l r → r = l.map f := by
  intro l r h
  induction h with
  | nil => rfl
  | cons h t ih => rw [h, ih]; rfl
section
variable {K : PySem.W.Frag} {H1 : Hp} {js : List (Option Nat)} {σ : St} {tc : TT} {te : TE} {Q : VK}
end
end L2
set_option Elab.async false
set_option linter.all false
set_option maxRecDepth 100000
namespace L2
open PySem PySem.Spec PyProof.Rows
section
variable {X : Cx} {tg l : Expr} {tl : TE} {es : List Expr} {k n : Nat} {t : TGs} {pos : Pos} {a : Expr} {ta : TE}
theorem ixL (K : PySem.W.Frag) (h : X.K = K := by rfl) : IxR X (rIxL K) := by subst h; exact ix_list
theorem ixT (K : PySem.W.Frag) (h : X.K = K := by rfl) : IxR X (rIxT K) := by subst h; exact ix_tup
theorem slL (K : PySem.W.Frag) (h : X.K = K := by rfl) : SlR X (rSlL K) := by subst h; exact sl_list
theorem inS (K : PySem.W.Frag) (h : X.K = K := by rfl) : OpR X (compareOp .In) (rIn K false) := by subst h; exact op_in_seq
theorem ninS (K : PySem.W.Frag) (h : X.K = K := by rfl) : OpR X (compareOp .NotIn) (rIn K true) := by subst h; exact op_notIn_seq
theorem eqD (K : PySem.W.Frag) (hu : X.A.units + 64 < cLine) (h : X.K = K := by rfl) : OpR X (compareOp .Eq) (rEqD K) := by subst h; exact op_eqD hu
theorem neD (K : PySem.W.Frag) (hu : X.A.units + 64 < cLine) (h : X.K = K := by rfl) : OpR X (compareOp .NotEq) (rNeD K) := by subst h; exact op_neD hu
theorem cLen (K : PySem.W.Frag) (h : X.K = K := by rfl) : CallR X (.builtin "len") (fun xs H Q => ∃ x n, xs = [x] ∧ LenV K x H n ∧ Q (.int n) H) := by subst h; exact call_len
theorem cIsi (K : PySem.W.Frag) (h : X.K = K := by rfl) : CallR X (.builtin "isinstance") (fun xs H Q => ∃ x Y t b, xs = [x, .ty Y] ∧ TyOf K H x t ∧ PySem.W.kitOne K t (.type Y) = some b ∧ Q (.bl b) H) := by subst h; exact call_isi
theorem cAll (K : PySem.W.Frag) (hc : X.calm = true := by rfl) (h : X.K = K := by rfl) : CallR X (.builtin "all") (fun xs H Q => ∃ (p : Addr) (bs : List Bool), xs = [.ref p] ∧ SqL K H p (bs.map V.bl) ∧ Q (.bl (bs.all id)) H) := by
  subst h
  exact fun pins s σ H xs us Q I r q => call_all pins s σ H xs us Q I r (let ⟨p, bs, e⟩ := q; ⟨hc, p, bs, e⟩)
theorem cSorted (K : PySem.W.Frag) (h : X.K = K := by rfl) : CallR X (.builtin "sorted") (fun xs H Q => ∃ (p : Addr) (ns : List Int), xs = [.ref p] ∧ SqL K H p (ns.map V.int) ∧ ns.length < 64 ∧
    ∀ l (ms : List Int), H l = none → ms.Perm ns → ms.Pairwise (· ≤ ·) → Q (.ref l) (upd H l (.lst (ms.map V.int)))) := by subst h; exact call_sorted
theorem cList (K : PySem.W.Frag) (h : X.K = K := by rfl) : CallR X (.type "list") (fun xs H Q => ∃ p ys, xs = [.ref p] ∧ (SqL K H p ys ∨ SqT K H p ys) ∧ ∀ l, H l = none → Q (.ref l) (upd H l (.lst ys))) := by subst h; exact call_list_of
theorem piL (K : PySem.W.Frag) (hl : PE X l tl) (h : X.K = K := by rfl) : PI X tg l (iList K tl) := by subst h; exact pi_list hl
theorem pgT (K : PySem.W.Frag) (hc : X.calm = true) (hg : PGs X es t) (h : X.K = K := by rfl) (hn : (assignEach es X.env).length = n := by rfl) (hst : (assignEach es X.env).findIdx? (·.1) = none := by rfl) : PG X (.Tuple es k pos) (gTup K n t) := by
  subst h; exact pg_tup hc hg hn hst
end
theorem nodupN {X : Cx} {N : List Str} (h : N.Nodup) (e : X.N = N := by rfl) : X.N.Nodup := by rw [e]; exact h
theorem cut_to (xs : List V) (k : Nat) : cutV xs none (some (k : Int)) = xs.take k := by
  unfold cutV
  rw [HT.sIx_nat, HT.sIx_none, List.drop_zero, Nat.sub_zero]
  by_cases h : k ≤ xs.length
  · rw [Nat.min_eq_left h]
  · rw [Nat.min_eq_right (by omega), List.take_of_length_le (Nat.le_refl _), List.take_of_length_le (by omega)]
theorem cut_from (xs : List V) (k : Nat) : cutV xs (some (k : Int)) none = xs.drop k := by
  unfold cutV
  rw [HT.sIx_nat, HT.sIx_none]
  by_cases h : k ≤ xs.length
  · rw [Nat.min_eq_left h, List.take_of_length_le (by rw [List.length_drop]; omega)]
  · rw [Nat.min_eq_right (by omega), Nat.sub_self, List.take_zero, List.drop_of_length_le (by omega)]
theorem cut_mid (xs : List V) (i j : Nat) : cutV xs (some (i : Int)) (some (j : Int)) = (xs.drop i).take (j - i) := by
  unfold cutV
  rw [HT.sIx_nat, HT.sIx_nat]
  by_cases h : i ≤ xs.length
  · rw [Nat.min_eq_left h]
    by_cases h2 : j ≤ xs.length
    · rw [Nat.min_eq_left h2]
    · rw [Nat.min_eq_right (by omega), List.take_of_length_le (by rw [List.length_drop]; omega), List.take_of_length_le (by rw [List.length_drop]; omega)]
  · have e : min i xs.length = xs.length := Nat.min_eq_right (by omega)
    rw [e, List.drop_of_length_le (Nat.le_refl _), List.drop_of_length_le (l := xs) (i := i) (by omega), List.take_nil, List.take_nil]
section
variable {K : PySem.W.Frag} {H : Hp} {a b : Addr}
theorem deq_flat {xs : List V} (h1 : SqL K H a xs) (h2 : SqL K H b xs) (hf : ∀ x ∈ xs, flatV x = true) : DEq K H 1 (.ref a) (.ref b) true := by
  have q := DEq.lst (d := 0) (e := fun _ => true) h1 h2 rfl fun j x y ex ey => by
    rw [ex] at ey
    cases ey
    have f := hf x (List.mem_of_getElem? ex)
    have e := DEq.flat (K := K) (H := H) (d := 0) f f
    rw [eqV_refl f] at e
    exact e
  have e : ((List.range xs.length).all fun _ => true) = true := List.all_eq_true.mpr fun _ _ => rfl
  rw [e] at q
  exact q
theorem deq_nil {xs : List V} (h1 : SqL K H a xs) (h2 : SqL K H b []) : DEq K H 1 (.ref a) (.ref b) xs.isEmpty := by
  cases xs with
  | nil => exact deq_flat h1 h2 fun x hx => by cases hx
  | cons x r => exact DEq.len h1 h2 (by simp)
end
theorem ifB {b : Bool} {A B : Prop} (h1 : b = true → A) (h2 : b = false → B) : if b = true then A else B := by
  cases b with
  | true => exact iteT (h1 rfl)
  | false => exact iteF (h2 rfl)
theorem ifNe {i j : Int} {A B : Prop} (h1 : i ≠ j → A) (h2 : i = j → B) : if (!decide (V.int i = V.int j)) = true then A else B := by
  by_cases h : i = j
  · rw [if_neg (by simp [h])]; exact h2 h
  · rw [if_pos (by simp [h])]; exact h1 h
theorem ifD {c : Prop} [Decidable c] {A B : Prop} (h1 : c → A) (h2 : ¬ c → B) : if decide c = true then A else B := by
  by_cases h : c
  · rw [if_pos (decide_eq_true h)]; exact h1 h
  · rw [if_neg (by simp [h])]; exact h2 h
end L2
set_option Elab.async false
set_option linter.all false
set_option maxRecDepth 100000
namespace L2
open PySem PySem.Spec PyProof.Rows
section
variable {X : Cx} {tg l : Expr} {tl : TE}
end
end L2
set_option Elab.async false
set_option linter.all false
set_option maxRecDepth 100000
namespace L2
open PySem PySem.Spec PyProof.Rows
section
variable {X : Cx} {es : List Expr} {t : TA}
end
end L2
set_option Elab.async false
set_option linter.all false
set_option maxRecDepth 100000
namespace L2
open PySem PySem.Spec PyProof.Rows
noncomputable def DW (P : Program) (w : World) (d : Addr) (vs : List (Key × Value)) (ep : Nat) : Heap → Prop := fun h => h.DictAt (mixKind P w) d vs ep
theorem DW.ok {P : Program} {w : World} {H : Hp} {h : Heap} {d : Addr} {vs : List (Key × Value)} {ep : Nat} (x : h.DictAt (mixKind P w) d vs ep) : ObjOk P w H h d (.ext (DW P w d vs ep)) :=
  ⟨x, by obtain ⟨o, _, e, _⟩ := x; exact ⟨o, e⟩, fun _ _ y k => y.at' k⟩
section
variable {X : Cx} {tg l : Expr} {tl : TE}
end
end L2
set_option Elab.async false
set_option linter.all false
set_option maxRecDepth 100000
namespace L2
noncomputable abbrev HK := List (Key × V)
noncomputable def cnt (kvs : HK) (q : Nat) : Nat := (kvs.map (·.2)).count (V.int q)
noncomputable def bit (p : Prop) [Decidable p] : Nat := if p then 1 else 0
theorem valV_mem {kvs : HK} {k : Key} {v : V} (h : valV kvs k = some v) : (k, v) ∈ kvs := by
  unfold valV at h
  obtain ⟨x, hx, e⟩ := Option.map_eq_some_iff.mp h
  have := List.find?_some hx
  have e1 : x.1 = k := of_decide_eq_true this
  have := List.mem_of_find?_eq_some hx
  rw [← e1, ← e]; exact this
noncomputable def Good (ps : List (List Int)) (kvs : HK) : Prop := ∀ e ∈ kvs, ∃ (b : Int) (q : Nat) (p : List Int), e = (Sum.inl b, V.int q) ∧ ps[q]? = some p ∧ b ∈ p
noncomputable def Clo (ps : List (List Int)) (kvs : HK) (as as' : List Int) : Prop := ∀ b ∈ as', b ∉ as → ∃ (q : Nat) (p : List Int), valV kvs (Sum.inl b) = some (.int q) ∧ ps[q]? = some p ∧ ∀ c ∈ p, c ∈ as'
structure Sett (ps : List (List Int)) (U : List Int) (pl : Nat) (kvs : HK) (as : List Int) (ok : Bool) (kvs' : HK) (as' : List Int) : Prop where
  grow : ∀ b ∈ as, b ∈ as'
  nd : as'.Nodup
  sub : ∀ b ∈ as', b ∈ U
  no : ok = false → kvs' = kvs ∧ (∀ p, ps[pl]? = some p → ∀ b ∈ p, b ∈ as') ∧ Clo ps kvs as as'
  yes : ok = true → (kvs'.map (·.1)).Nodup ∧ Good ps kvs' ∧ (∀ q, cnt kvs' q = cnt kvs q + bit (q = pl)) ∧ (∀ b ∈ as, valV kvs' (Sum.inl b) = valV kvs (Sum.inl b)) ∧ kvs'.length ≤ kvs.length + U.length
structure Short (ps : List (List Int)) (ms : List Nat) : Prop where
  up : ms.Pairwise (· < ·)
  few : ∃ X : List Int, X.length < ms.length ∧ ∀ q ∈ ms, ∃ p, ps[q]? = some p ∧ ∀ c ∈ p, c ∈ X
structure Held (ps : List (List Int)) (kvs : HK) (n : Nat) : Prop where
  nd : (kvs.map (·.1)).Nodup
  good : Good ps kvs
  one : ∀ q, cnt kvs q = bit (q < n)
theorem Held.next {ps : List (List Int)} {U : List Int} {kvs kvs' : HK} {n : Nat} {as' : List Int} (h : Held ps kvs n) (r : Sett ps U n kvs [] true kvs' as') : Held ps kvs' (n + 1) := by
  obtain ⟨a, b, c, _⟩ := r.yes rfl
  refine ⟨a, b, fun q => ?_⟩
  rw [c q, h.one q]
  unfold bit
  by_cases h1 : q < n
  · rw [if_pos h1, if_neg (by omega), if_pos (by omega)]
  · by_cases h2 : q = n
    · rw [if_neg h1, if_pos h2, if_pos (by omega)]
    · rw [if_neg h1, if_neg h2, if_neg (by omega)]
theorem nodup_of_count {α : Type} [DecidableEq α] : ∀ {l : List α}, (∀ a, l.count a ≤ 1) → l.Nodup
  | [], _ => List.nodup_nil
  | x :: r, h => by
    refine List.nodup_cons.mpr ⟨fun m => ?_, nodup_of_count fun a => ?_⟩
    · have := h x
      have h2 := List.count_pos_iff.mpr m
      rw [List.count_cons_self] at this
      omega
    · have := h a
      rw [List.count_cons] at this
      omega
theorem Held.vals {ps : List (List Int)} {kvs : HK} {n : Nat} (h : Held ps kvs n) : (kvs.map (·.2)).Nodup := nodup_of_count fun a => by
  by_cases m : a ∈ kvs.map (·.2)
  · obtain ⟨e, he, ea⟩ := List.mem_map.mp m
    obtain ⟨b, q, p, e1, _⟩ := h.good e he
    have ea' : a = V.int q := by rw [← ea, e1]
    have := h.one q
    unfold cnt bit at this
    rw [ea', this]
    split <;> omega
  · rw [List.count_eq_zero_of_not_mem m]; omega
theorem Held.lt {ps : List (List Int)} {kvs : HK} {n : Nat} (h : Held ps kvs n) {k : Key} {q : Nat} (m : (k, V.int q) ∈ kvs) : q < n := by
  have h1 : V.int (q : Int) ∈ kvs.map (·.2) := List.mem_map.mpr ⟨_, m, rfl⟩
  have h2 := List.count_pos_iff.mpr h1
  have := h.one q
  unfold cnt bit at this
  rw [this] at h2
  split at h2
  · assumption
  · omega
theorem Held.mem {ps : List (List Int)} {kvs : HK} {n q : Nat} (h : Held ps kvs n) (hq : q < n) : ∃ (b : Int) (p : List Int), (Sum.inl b, V.int q) ∈ kvs ∧ ps[q]? = some p ∧ b ∈ p := by
  have := h.one q
  unfold cnt bit at this
  rw [if_pos hq] at this
  have h1 : V.int (q : Int) ∈ kvs.map (·.2) := List.count_pos_iff.mp (by omega)
  obtain ⟨e, he, ea⟩ := List.mem_map.mp h1
  obtain ⟨b, q', p, e1, e2, e3⟩ := h.good e he
  subst e1
  have : q' = q := by
    have z : V.int (q' : Int) = V.int q := ea
    injection z with z
    omega
  subst this
  exact ⟨b, p, he, e2, e3⟩
theorem Held.inj {ps : List (List Int)} {kvs : HK} {n q : Nat} {k k' : Key} (h : Held ps kvs n) (h1 : (k, V.int q) ∈ kvs) (h2 : (k', V.int q) ∈ kvs) : k = k' := by
  obtain ⟨i, hi, ei⟩ := List.mem_iff_getElem.mp h1
  obtain ⟨j, hj, ej⟩ := List.mem_iff_getElem.mp h2
  have nd := h.vals
  have e : (kvs.map (·.2))[i]'(by simpa using hi) = (kvs.map (·.2))[j]'(by simpa using hj) := by simp [ei, ej]
  have := (List.getElem_inj nd).mp e
  subst this
  rw [ei] at ej
  exact congrArg Prod.fst ej
noncomputable def hold (kvs : HK) (b : Int) : Int := match valV kvs (Sum.inl b) with
  | some (.int i) => i
  | _ => 0
theorem hold_of {kvs : HK} {b i : Int} (h : valV kvs (Sum.inl b) = some (.int i)) : hold kvs b = i := by unfold hold; rw [h]
theorem Held.short {ps : List (List Int)} {U : List Int} {kvs kvs' : HK} {n : Nat} {as' : List Int} {ms : List Int} (h : Held ps kvs n) (hn : n < ps.length) (r : Sett ps U n kvs [] false kvs' as') (hp : ms.Perm ((n : Int) :: as'.map (hold kvs))) (hs : ms.Pairwise (· ≤ ·)) :
    ∃ qs : List Nat, ms = qs.map Int.ofNat ∧ Short ps qs := by
  obtain ⟨_, h1, h2⟩ := r.no rfl
  have hv : ∀ b ∈ as', ∃ (q : Nat) (p : List Int), valV kvs (Sum.inl b) = some (.int q) ∧ ps[q]? = some p ∧ ∀ c ∈ p, c ∈ as' := fun b hb => h2 b hb (by simp)
  have nd0 : ((n : Int) :: as'.map (hold kvs)).Nodup := by
    refine List.nodup_cons.mpr ⟨fun m => ?_, ?_⟩
    · obtain ⟨b, hb, e⟩ := List.mem_map.mp m
      obtain ⟨q, p, a1, _⟩ := hv b hb
      rw [hold_of a1] at e
      have := h.lt (valV_mem a1)
      omega
    · rw [List.nodup_iff_pairwise_ne, List.pairwise_map]
      refine List.Pairwise.imp_of_mem (R := (· ≠ ·)) ?_ (List.nodup_iff_pairwise_ne.mp r.nd)
      intro b c hb hc hne z
      obtain ⟨q, p, a1, _⟩ := hv b hb
      obtain ⟨q', p', a2, _⟩ := hv c hc
      rw [hold_of a1, hold_of a2] at z
      have : q = q' := by omega
      subst this
      have := h.inj (valV_mem a1) (valV_mem a2)
      exact hne (Sum.inl.inj this)
  have ndm : ms.Nodup := hp.nodup_iff.mpr nd0
  have nn : ∀ m ∈ ms, ∃ q : Nat, m = Int.ofNat q ∧ ∃ p, ps[q]? = some p ∧ ∀ c ∈ p, c ∈ as' := fun m hm => by
    rcases List.mem_cons.mp (hp.mem_iff.mp hm) with e | e
    · exact ⟨n, e, ps[n], List.getElem?_eq_getElem hn, h1 _ (List.getElem?_eq_getElem hn)⟩
    · obtain ⟨b, hb, e⟩ := List.mem_map.mp e
      obtain ⟨q, p, a1, a2, a3⟩ := hv b hb
      rw [hold_of a1] at e
      exact ⟨q, e.symm, p, a2, a3⟩
  refine ⟨ms.map Int.toNat, ?_, ?_, as', ?_, fun q hq => ?_⟩
  · rw [List.map_map]
    have : ∀ m ∈ ms, (Int.ofNat ∘ Int.toNat) m = m := fun m hm => by
      obtain ⟨q, e, _⟩ := nn m hm
      rw [e]; rfl
    exact ((List.map_congr_left this).trans (List.map_id _)).symm
  · rw [List.pairwise_map]
    have both : ms.Pairwise fun a b => a ≤ b ∧ a ≠ b := hs.and (List.nodup_iff_pairwise_ne.mp ndm)
    refine List.Pairwise.imp_of_mem ?_ both
    intro a b ha hb ⟨h1, h2⟩
    obtain ⟨q, e, _⟩ := nn a ha
    obtain ⟨q', e', _⟩ := nn b hb
    subst e e'
    have : (q : Int) ≤ q' := h1
    have h3 : (q : Int) ≠ q' := h2
    show q < q'
    omega
  · rw [List.length_map, hp.length_eq, List.length_cons, List.length_map]; omega
  · obtain ⟨m, hm, e⟩ := List.mem_map.mp hq
    obtain ⟨q', e', z⟩ := nn m hm
    subst e'
    have : q = q' := by rw [← e]; rfl
    subst this
    exact z
end L2
set_option Elab.async false
set_option linter.all false
set_option maxRecDepth 100000
namespace L2
open PySem PySem.Spec PyProof.Rows
noncomputable def SameX (ex : List Addr) (H H' : Hp) : Prop := ∀ b o, b ∉ ex → H b = some o → H' b = some o
theorem SameX.refl {ex : List Addr} {H : Hp} : SameX ex H H := fun _ _ _ h => h
theorem SameX.trans {ex : List Addr} {H H1 H2 : Hp} (a : SameX ex H H1) (b : SameX ex H1 H2) : SameX ex H H2 := fun c o n h => b c o n (a c o n h)
noncomputable def IsDk (H : Hp) (a : Addr) : Prop := ∃ kvs, H a = some (.dK kvs)
theorem SameX.seq {K : PySem.W.Frag} {ex : List Addr} {H H' : Hp} {a : Addr} {xs : List V} (s : SameX ex H H') (hx : ∀ x ∈ ex, IsDk H x) (h : SqL K H a xs) : SqL K H' a xs := by
  have ne : ∀ u, H a = some u → (∀ kvs, u ≠ .dK kvs) → a ∉ ex := fun u e n m => by
    obtain ⟨kvs, q⟩ := hx a m
    rw [e] at q
    exact n kvs (Option.some.inj q)
  rcases h with (h | ⟨o, h⟩) | h
  · exact .inl (.inl (s _ _ (ne _ h (fun _ z => by cases z)) h))
  · exact .inl (.inr ⟨o, s _ _ (ne _ h (fun _ z => by cases z)) h⟩)
  · exact .inr h
noncomputable def PoolsL (K : PySem.W.Frag) (H : Hp) (rs : List Addr) (ps : List (List Int)) : Prop := Paired (fun r p => SqL K H r (p.map V.int)) rs ps
theorem PoolsL.same {K : PySem.W.Frag} {H H' : Hp} {rs : List Addr} {ps : List (List Int)} (h : PoolsL K H rs ps) (s : Same H H') : PoolsL K H' rs ps := Paired.mapP h fun _ _ q => s.seq q
theorem PoolsL.at {K : PySem.W.Frag} {H : Hp} {rs : List Addr} {ps : List (List Int)} (h : PoolsL K H rs ps) {i : Nat} {p : List Int} (e : ps[i]? = some p) : ∃ r, rs[i]? = some r ∧ SqL K H r (p.map V.int) := pair_get (F := fun (r : Addr) (p : List Int) => SqL K H r (p.map V.int)) h e
theorem PoolsL.len {K : PySem.W.Frag} {H : Hp} {rs : List Addr} {ps : List (List Int)} (h : PoolsL K H rs ps) : rs.length = ps.length := Paired.length h
theorem paired_of {α β : Type} {F : α → β → Prop} : ∀ {l : List α} {r : List β}, l.length = r.length → (∀ (i : Nat) a b, l[i]? = some a → r[i]? = some b → F a b) → Paired F l r := by
  intro l
  induction l with
  | nil =>
    intro r h f
    cases r with
    | nil => exact .nil
    | cons b r => cases h
  | cons a l ih =>
    intro r h f
    cases r with
    | nil => cases h
    | cons b r => exact .cons (f 0 a b rfl rfl) (ih (Nat.succ.inj h) fun i x y e1 e2 => f (i + 1) x y e1 e2)
theorem inV_int (b : Int) (bs : List Int) : inV (.int b) (bs.map V.int) = decide (b ∈ bs) := by
  unfold inV
  induction bs with
  | nil => rfl
  | cons c r ih =>
    rw [List.map_cons, List.any_cons, ih]
    by_cases h : c = b
    · subst h; simp [eqV]
    · have h' : ¬ b = c := fun z => h z.symm
      simp [eqV, h, h']
theorem flat_all (bs : List Int) : (bs.map V.int).all flatV = true := by
  rw [List.all_eq_true]
  intro x hx
  obtain ⟨i, _, e⟩ := List.mem_map.mp hx
  rw [← e]; rfl
end L2
set_option Elab.async false
set_option linter.all false
set_option maxRecDepth 100000
namespace L2
open PySem PySem.Spec PyProof.Rows
noncomputable abbrev Rise (xs : List Nat) : Prop := xs.Pairwise (· < ·)
structure TabK (led : Bool) (t : SetTable) : Prop where
  led : t.led = led
  rise : t.plain = true → Rise t.place.toList
end L2
set_option Elab.async false
set_option linter.all false
set_option maxRecDepth 100000
namespace L2
open PySem PySem.Spec PyProof.Rows
noncomputable abbrev byText (w : World) : Bool := w.params.followText "set-order"
noncomputable def Ents (es : List (Int × Value)) (ks : List Int) : Prop := Paired (fun (e : Int × Value) (k : Int) => ∃ t, e = (hashInt k, Value.int k t)) es ks
structure SetIn (w : World) (o : Obj) (es : Array (Int × Value)) (ep : Nat) (t : SetTable) (ks : List Int) : Prop where
  ex : o.ExactSet
  da : o.data = .set es ep t
  en : Ents es.toList ks
  nd : ks.Nodup
  sz : ks.length < 4000
  ft : t.fits es.size = true
  tb : TabK (!byText w) t
noncomputable def SX (w : World) (a : Addr) (ms : List Int) : Heap → Prop := fun h => ∃ o es ep t ks, h.get? a = some o ∧ SetIn w o es ep t ks ∧ ks.Perm ms
theorem SX.at {w : World} {a : Addr} {ms : List Int} {h h' : Heap} (x : SX w a ms h) (k : ∀ o, h.get? a = some o → h'.get? a = some o) : SX w a ms h' := by
  obtain ⟨o, es, ep, t, ks, e, r⟩ := x
  exact ⟨o, es, ep, t, ks, k o e, r⟩
theorem SX.lt {w : World} {a : Addr} {ms : List Int} {h : Heap} (x : SX w a ms h) : a < h.objs.size := by
  obtain ⟨o, es, ep, t, ks, e, r⟩ := x
  exact Heap.lt_size e
theorem SX.perm {w : World} {a : Addr} {ms ns : List Int} {h : Heap} (x : SX w a ms h) (p : ms.Perm ns) : SX w a ns h := by
  obtain ⟨o, es, ep, t, ks, e, r, q⟩ := x
  exact ⟨o, es, ep, t, ks, e, r, q.trans p⟩
theorem Ents.mem : ∀ {es : List (Int × Value)} {ks : List Int}, Ents es ks → ∀ {e : Int × Value}, e ∈ es → ∃ k t, k ∈ ks ∧ e = (hashInt k, Value.int k t) := by
  intro es ks h e
  unfold Ents at h
  induction h with
  | nil => intro h; cases h
  | cons q r ih =>
    intro h
    obtain ⟨t, q⟩ := q
    rcases List.mem_cons.mp h with z | z
    · exact ⟨_, t, List.mem_cons_self, z.trans q⟩
    · obtain ⟨k, t, m, q⟩ := ih z
      exact ⟨k, t, List.mem_cons_of_mem _ m, q⟩
theorem Ents.elems {P : Program} {w : World} {es : List (Int × Value)} {ks : List Int} (h : Ents es ks) : ElemsOf (intKind P w) es := fun e he => by
  obtain ⟨k, t, _, q⟩ := h.mem he
  subst q
  exact ⟨⟨k, intKind_is P w k t, rfl⟩, rfl⟩
theorem Ents.len {es : List (Int × Value)} {ks : List Int} (h : Ents es ks) : es.length = ks.length := Paired.length h
theorem Ents.perm {es es' : List (Int × Value)} (p : es'.Perm es) : ∀ {ks : List Int}, Ents es ks → ∃ ks', Ents es' ks' ∧ ks'.Perm ks := by
  induction p with
  | nil => intro ks h; cases h; exact ⟨[], .nil, .nil⟩
  | cons x _ ih =>
    intro ks h
    cases h with
    | cons q r =>
      obtain ⟨ks', a, b⟩ := ih r
      exact ⟨_ :: ks', .cons q a, b.cons _⟩
  | swap x y l =>
    intro ks h
    cases h with
    | cons q r =>
      cases r with
      | cons q' r => exact ⟨_ :: _ :: _, .cons q' (.cons q r), .swap _ _ _⟩
  | trans _ _ ih1 ih2 =>
    intro ks h
    obtain ⟨k2, a, b⟩ := ih2 h
    obtain ⟨k3, c, d⟩ := ih1 a
    exact ⟨k3, c, d.trans b⟩
theorem isInt_dec (k j : Int) (t : Tok) : Value.isInt k (.int j t) = decide (k = j) := by
  by_cases h : k = j
  · subst h; simp [Value.isInt]
  · simp [Value.isInt, h]
    exact fun z => h z.symm
theorem Ents.find {P : Program} {w : World} {k : Int} : ∀ {es : List (Int × Value)} {ks : List Int}, Ents es ks → (es.findIdx? (fun e => (intKind P w).is k e.2)).isSome = decide (k ∈ ks) := by
  intro es ks h
  unfold Ents at h
  induction h with
  | nil => rfl
  | @cons a j es ks q r ih =>
    obtain ⟨t, q⟩ := q
    subst q
    rw [List.findIdx?_cons]
    have e : (intKind P w).is k (hashInt j, Value.int j t).2 = decide (k = j) := isInt_dec k j t
    rw [e]
    by_cases h : k = j
    · subst h; simp
    · simp [h, ih]
section
variable {P : Program} {w : World} {A : Around} {E : Value → Shared → Prop} {s : Shared} {a : Addr} {ms ks : List Int} {o : Obj} {es : Array (Int × Value)} {ep : Nat} {t : SetTable}
theorem SetIn.bound (h : SetIn w o es ep t ks) : es.size < scanBound := by
  have : es.size = ks.length := by rw [← h.en.len, Array.length_toList]
  have := h.sz
  have e : scanBound = 4096 := rfl
  omega
theorem SetIn.size (h : SetIn w o es ep t ks) : es.size = ks.length := by rw [← h.en.len, Array.length_toList]
theorem put_SX {es' : Array (Int × Value)} {t' : SetTable} {ks' : List Int} (ho : s.heap.get? a = some o) (h : SetIn w o es ep t ks) (en : Ents es'.toList ks') (nd : ks'.Nodup) (sz : ks'.length < 4000) (ft : t'.fits es'.size = true) (tb : TabK (!byText w) t') :
    ∃ o', (s.heap.update a (Obj.putSet es' t')).get? a = some o' ∧ SetIn w o' es' (ep + 1) t' ks' := by
  have g := Heap.get?_update_self (Obj.putSet es' t') ho (by rw [putSet_of es' t' h.da]; rfl)
  rw [putSet_of es' t' h.da] at g
  exact ⟨_, g, ⟨h.ex, rfl, en, nd, sz, ft, tb⟩⟩
end
end L2
set_option Elab.async false
set_option linter.all false
set_option maxRecDepth 100000
namespace L2
open PySem PySem.Spec PyProof.Rows
end L2
set_option Elab.async false
set_option linter.all false
set_option maxRecDepth 100000
namespace L2
open PySem PySem.Spec PyProof.Rows
theorem erase_perm {α : Type} {l : List α} {i : Nat} {x : α} (h : l[i]? = some x) : l.Perm (x :: l.eraseIdx i) := by
  induction l generalizing i with
  | nil => simp at h
  | cons y r ih =>
    cases i with
    | zero => simp at h; subst h; simp
    | succ i =>
      simp at h
      exact ((ih h).cons y).trans (.swap _ _ _)
section
variable {M : Model} {A : Around} {E : Value → Shared → Prop} {s : Shared}
end
section
variable {P : Program} {w : World} {A : Around} {E : Value → Shared → Prop} {s : Shared} {I S : Addr} {ks : List Int} {o : Obj} {es : Array (Int × Value)} {ep i : Nat} {t : SetTable} {first : Value}
end
end L2
set_option Elab.async false
set_option linter.all false
set_option maxRecDepth 100000
namespace L2
open PySem PySem.Spec PyProof.Rows
section
variable {P : Program} {w : World} {A : Around} {E : Value → Shared → Prop} {s : Shared} {I S : Addr} {ks : List Int} {o : Obj} {es : Array (Int × Value)} {ep i : Nat} {t : SetTable}
noncomputable def SetAt (w : World) (S : Addr) (es : Array (Int × Value)) (ep : Nat) (t : SetTable) (ks : List Int) (h : Heap) : Prop := ∃ o, h.get? S = some o ∧ SetIn w o es ep t ks
theorem SetAt.at {h h' : Heap} (x : SetAt w S es ep t ks h) (k : ∀ o, h.get? S = some o → h'.get? S = some o) : SetAt w S es ep t ks h' := let ⟨o, e, r⟩ := x; ⟨o, k o e, r⟩
theorem fits_size (h : t.fits es.size = true) : t.place.size = es.size := by
  simp only [SetTable.fits, Bool.and_eq_true, beq_iff_eq, decide_eq_true_eq] at h
  exact h.1
end
end L2
set_option Elab.async false
set_option linter.all false
set_option maxRecDepth 100000
namespace L2
open PySem PySem.Spec PyProof.Rows
section
variable {P : Program} {w : World} {A : Around} {E : Value → Shared → Prop} {s : Shared} {S : Addr} {ks ms : List Int} {o : Obj} {es : Array (Int × Value)} {ep i : Nat} {t : SetTable}
end
end L2
set_option Elab.async false
set_option linter.all false
set_option maxRecDepth 100000
namespace L2
open PySem PySem.Spec PyProof.Rows
section
variable {P : Program} {w : World} {A : Around} {E : Value → Shared → Prop} {s : Shared} {S : Addr} {ks ms : List Int} {o : Obj} {es : Array (Int × Value)} {ep i : Nat} {t : SetTable}
noncomputable def dstep (acc : List Int) (x : Int) : List Int := if x ∈ acc then acc else acc ++ [x]
noncomputable def dd (ns : List Int) : List Int := ns.foldl dstep []
theorem dd_snoc (ns : List Int) (x : Int) : dd (ns ++ [x]) = dstep (dd ns) x := by unfold dd; rw [List.foldl_append]; rfl
theorem dstep_mem {acc : List Int} {x y : Int} : y ∈ dstep acc x ↔ y ∈ acc ∨ y = x := by
  unfold dstep
  split
  · rename_i h
    exact ⟨.inl, fun z => z.elim id fun e => e ▸ h⟩
  · simp
theorem fold_mem : ∀ (ns acc : List Int) (y : Int), y ∈ ns.foldl dstep acc ↔ y ∈ acc ∨ y ∈ ns
  | [], acc, y => by simp
  | x :: r, acc, y => by
    rw [List.foldl_cons, fold_mem r, dstep_mem, List.mem_cons, or_assoc]
theorem dd_mem {ns : List Int} {y : Int} : y ∈ dd ns ↔ y ∈ ns := by unfold dd; rw [fold_mem]; simp
theorem fold_nd : ∀ (ns acc : List Int), acc.Nodup → (ns.foldl dstep acc).Nodup
  | [], acc, h => h
  | x :: r, acc, h => by
    rw [List.foldl_cons]
    refine fold_nd r _ ?_
    unfold dstep
    split
    · exact h
    · rename_i hx; exact nd_snoc h hx
theorem dd_nd (ns : List Int) : (dd ns).Nodup := fold_nd ns [] List.nodup_nil
end
end L2
set_option Elab.async false
set_option linter.all false
set_option maxRecDepth 100000
set_option maxHeartbeats 3000000
namespace L2
open PySem PySem.Spec PyProof.Rows
section
variable {P : Program} {w : World} {A : Around} {E : Value → Shared → Prop} {s : Shared} {S : Addr} {ks ms : List Int}
end
end L2
set_option Elab.async false
set_option linter.all false
set_option maxRecDepth 100000
namespace L2
open PySem PySem.Spec PyProof.Rows
theorem SX.ok {P : Program} {w : World} {H : Hp} {h : Heap} {a : Addr} {ms : List Int} (x : SX w a ms h) : ObjOk P w H h a (.ext (SX w a ms)) :=
  ⟨x, by obtain ⟨o, _, _, _, _, e, _⟩ := x; exact ⟨o, e⟩, fun _ _ y k => y.at k⟩
section
variable {X : Cx}
noncomputable def rInsert : V → List V → Hp → VK → Prop := fun x vs H Q => ∃ l xs i y, x = .ref l ∧ vs = [.int i, y] ∧ H l = some (.lst xs) ∧ xs.length < sizeLine ∧ 0 ≤ i ∧ i < 1000000 ∧ Q .non (upd H l (.lst (xs.take i.toNat ++ y :: xs.drop i.toNat)))
theorem insert_arr (its : List Value) (i : Int) (u : Value) (h0 : 0 ≤ i) : (have k := if i < 0 then (i + (its.toArray.size : Int)).toNat else min i.toNat its.toArray.size; (its.toArray.extract 0 k).push u ++ its.toArray.extract k) = (its.take i.toNat ++ u :: its.drop i.toNat).toArray := by
  dsimp only
  rw [if_neg (by omega), List.size_toArray]
  by_cases hkl : i.toNat ≤ its.length
  · rw [Nat.min_eq_left hkl]
    simp
    exact List.take_of_length_le (by simp)
  · rw [Nat.min_eq_right (by omega), List.take_of_length_le (by omega), List.drop_of_length_le (by omega)]
    simp
theorem mt_insert : MtM X "list.insert" rInsert := by
  intro pins s σ H x vs v us Q I rx rv h
  obtain ⟨l, xs, i, y, rfl, rfl, hH, hz, h0, h1, q⟩ := h
  cases rx
  obtain ⟨u, u', rfl, ru, ry⟩ := rv.two
  obtain ⟨t, rfl⟩ := ru
  obtain ⟨z, its, n, r, hl, e⟩ := I.lstM hH
  have hfit : ¬ (!Builtin.List.listFitsIndex i) = true := by
    have : Builtin.List.listFitsIndex i = true := fitsIndex_both (by omega) (by omega)
    rw [this]; simp
  refine call_meets PySem.F.slot_list_insert ⟨_, e, rfl⟩ PySem.F.entry_list_insert (PySem.F.args_list_insert_3 _ _ _) (AutoSeq1.list_insert_list_int_val_1 l its.toArray n i t u' hfit (by rw [List.size_toArray]; omega)) ⟨e, ?_⟩
  refine ⟨.non, _, I.lset (its' := its.take i.toNat ++ u' :: its.drop i.toNat) hH e (insert_arr its i u' h0) ((r.take _).append (.cons ry (r.drop _))) ?_, rfl, q⟩
  rw [List.length_append, List.length_cons, List.length_take, List.length_drop]; omega
end
end L2
set_option Elab.async false
set_option linter.all false
set_option maxRecDepth 100000
namespace L2
theorem Short.lt {ps : List (List Int)} {qs : List Nat} (s : Short ps qs) : ∀ q ∈ qs, q < ps.length := fun q m => by
  obtain ⟨X, hX, hq⟩ := s.few
  obtain ⟨p, e, _⟩ := hq q m
  exact (List.getElem?_eq_some_iff.mp e).1
theorem Short.len {ps : List (List Int)} {qs : List Nat} (s : Short ps qs) : qs.length ≤ ps.length := by
  have nd : qs.Nodup := s.up.imp fun h => Nat.ne_of_lt h
  have := nd.length_le_of_subset (l₂ := List.range ps.length) fun q m => List.mem_range.mpr (s.lt q m)
  rw [List.length_range] at this
  exact this
theorem sorted_same {l m : List Int} (p : m.Perm l) (h1 : l.Pairwise (· ≤ ·)) (h2 : m.Pairwise (· ≤ ·)) : m = l := p.eq_of_pairwise (fun a b _ _ x y => Int.le_antisymm x y) h2 h1
end L2
set_option Elab.async false
set_option linter.all false
set_option maxRecDepth 100000
namespace L2
open PySem PySem.Spec PyProof.Rows
section
variable {X : Cx} {tg : Expr}
end
end L2
set_option Elab.async false
set_option linter.all false
set_option maxRecDepth 100000
namespace L2
open PySem PySem.Spec PyProof.Rows
section
variable {X : Cx} {pos : Pos}
end
theorem getD_get {hs : List Int} {k : Nat} (h : k < hs.length) : hs.getD k 0 = hs[k] := by simp [h]
theorem getD_getL {hs : List (List Int)} {k : Nat} (h : k < hs.length) : hs.getD k [] = hs[k] := by simp [h]
end L2
set_option Elab.async false
set_option linter.all false
set_option maxRecDepth 100000
namespace L2
open PySem PySem.Spec PyProof.Rows
noncomputable def lp (mask : Nat) : Nat → Nat × Nat → Nat × Nat
  | 0, x => x
  | n + 1, x => lp mask n (SetTable.leap mask x.1 x.2)
structure Ownd (mask : Nat) (ow : Array (Option Nat)) (k : Nat) : Prop where
  sz : ow.size = mask + 1
  pm : (ow.toList.filterMap id).Perm (List.range k)
theorem Ownd.set {mask : Nat} {ow : Array (Option Nat)} {k j : Nat} (o : Ownd mask ow k) (h : (ow.getD j (some 0)).isNone = true) : Ownd mask (ow.setIfInBounds j (some k)) (k + 1) where
  sz := by rw [Array.size_setIfInBounds]; exact o.sz
  pm := by
    have hj : j < ow.size := by
      refine Decidable.byContradiction fun hn => ?_
      have : ow.getD j (some 0) = some 0 := by simp [Array.getD, hn]
      rw [this] at h; cases h
    have e : ow.toList[j]'(by rw [Array.length_toList]; exact hj) = none := by
      have : ow.getD j (some 0) = ow[j] := by simp [Array.getD, hj]
      rw [this] at h
      rw [Array.getElem_toList]
      exact Option.isNone_iff_eq_none.mp h
    have hjl : j < ow.toList.length := by rw [Array.length_toList]; exact hj
    rw [Array.toList_setIfInBounds, List.set_eq_take_append_cons_drop, if_pos hjl, List.filterMap_append, List.filterMap_cons]
    dsimp only [id]
    have e1 : ow.toList = ow.toList.take j ++ none :: ow.toList.drop (j + 1) := by
      conv => lhs; rw [← List.take_append_drop j ow.toList, List.drop_eq_getElem_cons hjl, e]
    have p := o.pm
    rw [e1, List.filterMap_append, List.filterMap_cons] at p
    dsimp only [id] at p
    rw [List.range_succ]
    exact (List.perm_middle.trans (p.cons k)).trans (List.perm_append_singleton k _).symm
end L2
set_option Elab.async false
set_option linter.all false
set_option maxRecDepth 100000
namespace L2
open PySem PySem.Spec PyProof.Rows
section
variable {P : Program} {w : World} {A : Around} {E : Value → Shared → Prop} {s : Shared} {S : Addr} {ks ms : List Int} {es : Array (Int × Value)} {ep : Nat} {t : SetTable}
theorem sl_big {n : Nat} (h : n < 5000) : n ≤ sizeLine := Nat.le_of_lt (szn (by omega))
theorem SetAt.store {es' : Array (Int × Value)} {t' : SetTable} {ks' : List Int} {Q : Unit → Shared → Prop} (hS : SetAt w S es ep t ks s.heap) (en : Ents es'.toList ks') (nd : ks'.Nodup) (sz : ks'.length < 4000) (ft : t'.fits es'.size = true) (tb : TabK (!byText w) t')
    (h : ∀ h', Heap.SameBut S s.heap h' → SetAt w S es' (ep + 1) t' ks' h' → Q () { s with heap := h' }) : wpAny (model P w) A (storeSet S es' t') Q E s := by
  obtain ⟨o, ho, hs⟩ := hS
  have z : es'.size = ks'.length := by rw [← en.len, Array.length_toList]
  refine wpAny_storeSet_of ho hs.da (h _ (Heap.SameBut.update ..) ?_) (by rw [z]; exact sl_big (by omega))
  obtain ⟨o', ho', hs'⟩ := put_SX (s := s) ho hs en nd sz ft tb
  exact ⟨o', ho', hs'⟩
theorem SetAt.state {Q : Array (Int × Value) × Nat × SetTable → Shared → Prop} (hS : SetAt w S es ep t ks s.heap) (h : Q (es, ep, t) s) : wpAny (model P w) A (setState S) Q E s := by
  obtain ⟨o, ho, hs⟩ := hS
  exact wpAny_setState_of ho hs.da hs.ft h
theorem SetAt.en (hS : SetAt w S es ep t ks s.heap) : Ents es.toList ks := let ⟨_, _, hs⟩ := hS; hs.en
theorem SetAt.nd (hS : SetAt w S es ep t ks s.heap) : ks.Nodup := let ⟨_, _, hs⟩ := hS; hs.nd
theorem SetAt.ft (hS : SetAt w S es ep t ks s.heap) : t.fits es.size = true := let ⟨_, _, hs⟩ := hS; hs.ft
theorem SetAt.tb (hS : SetAt w S es ep t ks s.heap) : TabK (!byText w) t := let ⟨_, _, hs⟩ := hS; hs.tb
theorem SetAt.sz (hS : SetAt w S es ep t ks s.heap) : es.size = ks.length := let ⟨_, _, hs⟩ := hS; hs.size
theorem SetAt.lt4 (hS : SetAt w S es ep t ks s.heap) : ks.length < 4000 := let ⟨_, _, hs⟩ := hS; hs.sz
theorem SetAt.sx (hS : SetAt w S es ep t ks s.heap) (p : ks.Perm ms) : SX w S ms s.heap := let ⟨o, e, r⟩ := hS; ⟨o, es, ep, t, ks, e, r, p⟩
theorem SetAt.find {x : Int} {tk : Tok} {Q : Option Nat → Shared → Prop} (hS : SetAt w S es ep t ks s.heap) (h1 : ∀ i, ks[i]? = some x → Q (some i) s) (h2 : x ∉ ks → Q none s) : wpAny (model P w) A (setFind S (.int x tk) (hashInt x)) Q E s := by
  obtain ⟨o, ho, hs⟩ := hS
  have hel := hs.en.elems (P := P) (w := w)
  have hky : (intKind P w).is x (.int x tk) = true := intKind_is P w x tk
  unfold setFind setFindIn
  refine wpAny_bind (wpAny_setState_of ho hs.da hs.ft ?_)
  dsimp only
  rw [byScan_of (knd := intKind P w) rfl hs.bound hel, if_pos rfl]
  refine wpAny_bind (wpAny_rule ?_)
  refine wpAny_bind (wpAny_setScan_of (knd := intKind P w) (k := x) hky ho hs.da hs.ft hel ?_)
  have fd := hs.en.find (P := P) (w := w) (k := x)
  cases hr : List.findIdx? (fun e => (intKind P w).is x e.2) es.toList with
  | some j =>
    refine wpAny_pure ?_
    rw [Nat.zero_add]
    refine h1 j ?_
    obtain ⟨hj, p1, _⟩ := List.findIdx?_eq_some_iff_getElem.mp hr
    have hjk : j < ks.length := by rw [← hs.en.len]; exact hj
    have gk := List.getElem?_eq_getElem hjk
    obtain ⟨e', g, tk', q⟩ := pair_get hs.en gk
    rw [List.getElem?_eq_getElem hj] at g
    have g := Option.some.inj g
    rw [g, q] at p1
    have : x = ks[j] := by
      have z : (intKind P w).is x (hashInt ks[j], Value.int ks[j] tk').2 = decide (x = ks[j]) := isInt_dec x ks[j] tk'
      rw [z] at p1
      exact of_decide_eq_true p1
    rw [gk, this]
  | none =>
    rw [hr] at fd
    exact wpAny_pure (h2 (of_decide_eq_false fd.symm))
end
end L2
set_option Elab.async false
set_option linter.all false
set_option maxRecDepth 100000
namespace L2
open PySem PySem.Spec PyProof.Rows
section
variable {P : Program} {w : World} {A : Around} {E : Value → Shared → Prop} {s : Shared} {S : Addr} {ks ms : List Int} {es : Array (Int × Value)} {ep : Nat} {t : SetTable}
end
end L2
set_option Elab.async false
set_option linter.all false
set_option maxRecDepth 100000
namespace L2
open PySem PySem.Spec PyProof.Rows
section
variable {P : Program} {w : World} {A : Around} {E : Value → Shared → Prop} {s : Shared} {S T : Addr} {ks ms ns : List Int} {es : Array (Int × Value)} {ep : Nat} {t : SetTable}
end
end L2
set_option Elab.async false
set_option linter.all false
set_option maxRecDepth 100000
namespace L2
open PySem PySem.Spec PyProof.Rows
section
variable {P : Program} {w : World} {A : Around} {E : Value → Shared → Prop} {s : Shared} {S T : Addr} {ks ms ns : List Int} {es : Array (Int × Value)} {ep : Nat} {t : SetTable}
end
end L2
set_option Elab.async false
set_option linter.all false
set_option maxRecDepth 100000
namespace L2
open PySem PySem.Spec PyProof.Rows
section
variable {P : Program} {w : World} {A : Around} {E : Value → Shared → Prop} {s : Shared} {S T r : Addr} {ks ms ns : List Int} {es : Array (Int × Value)} {ep : Nat} {t : SetTable}
end
end L2
set_option Elab.async false
set_option linter.all false
set_option maxRecDepth 100000
namespace L2
open PySem PySem.Spec PyProof.Rows
section
variable {P : Program} {w : World} {A : Around} {E : Value → Shared → Prop} {s : Shared} {S T r : Addr} {ks kr ms ns : List Int} {es er : Array (Int × Value)} {ep epr : Nat} {t tr : SetTable}
theorem SX.nd {h : Heap} (x : SX w S ms h) : ms.Nodup := by
  obtain ⟨o, es, ep, t, ks, e, r, p⟩ := x
  exact p.nodup_iff.mp r.nd
end
end L2
set_option Elab.async false
set_option linter.all false
set_option maxRecDepth 100000
namespace L2
open PySem PySem.Spec PyProof.Rows
theorem eraseAt_list {α : Type} (xs : Array α) (i : Nat) (h : i < xs.size) : (SetTable.eraseAt xs i).toList = xs.toList.eraseIdx i := by
  unfold SetTable.eraseAt
  rw [Array.toList_append, Array.toList_extract, Array.toList_extract, List.eraseIdx_eq_take_drop_succ]
  simp [List.extract_eq_take_drop]
  exact List.take_of_length_le (by simp)
theorem insertAt_size {α : Type} (xs : Array α) (p : Nat) (x : α) : (SetTable.insertAt xs p x).size = xs.size + 1 := by
  unfold SetTable.insertAt
  simp
  omega
section
variable {P : Program} {w : World} {A : Around} {E : Value → Shared → Prop} {s : Shared} {S T r : Addr} {ks kr ms ns : List Int} {es er : Array (Int × Value)} {ep epr : Nat} {t tr : SetTable}
theorem SetAt.drop {x : Int} {tk : Tok} {Q : Bool → Shared → Prop} (hR : SetAt w r er epr tr kr s.heap)
    (h : ∀ b h' kr', Heap.SameBut r s.heap h' → SX w r kr' h' → (∀ y, y ∈ kr' ↔ y ∈ kr ∧ y ≠ x) → kr'.length ≤ kr.length → Q b { s with heap := h' }) : wpAny (model P w) A (setDiscardHashed r (.int x tk) (hashInt x)) Q E s := by
  unfold setDiscardHashed
  refine wpAny_bind (hR.find (fun i hi => ?_) fun hn => ?_)
  · dsimp only
    refine wpAny_bind (hR.state ?_)
    dsimp only
    have hik : i < kr.length := (List.getElem?_eq_some_iff.mp hi).1
    have sz := hR.sz
    have pz := fits_size hR.ft
    have hie : i < er.size := by omega
    have hip : i < tr.place.size := by omega
    have gp := Array.getElem?_eq_getElem hip
    have p1 : er.toList.Perm (er[i] :: er.toList.eraseIdx i) := erase_perm (by simp [hie])
    obtain ⟨k1, n1, q1⟩ := Ents.perm p1.symm hR.en
    cases n1 with
    | @cons _ k _ k1' q n1' =>
      obtain ⟨t1, e1⟩ := q
      obtain ⟨a', ga, t2, e2⟩ := pair_get hR.en hi
      have ga' : er[i] = a' := by
        rw [Array.getElem?_toList, Array.getElem?_eq_getElem hie] at ga
        exact Option.some.inj ga
      rw [ga', e2] at e1
      have ekx : x = k := by
        have := congrArg Prod.snd e1
        injection this
      subst ekx
      have nd1 : (x :: k1').Nodup := q1.nodup_iff.mpr hR.nd
      rw [List.nodup_cons] at nd1
      have le : k1'.length + 1 = kr.length := by rw [← q1.length_eq]; rfl
      have el : (SetTable.eraseAt er i).toList = er.toList.eraseIdx i := eraseAt_list er i hie
      have ez : (SetTable.eraseAt er i).size = er.size - 1 := by rw [← Array.length_toList, el, List.length_eraseIdx_of_lt (by rw [Array.length_toList]; exact hie), Array.length_toList]
      have ed : tr.drop i = { tr with place := SetTable.eraseAt tr.place i, dummies := SetTable.insertAt tr.dummies (SetTable.below tr.dummies tr.place[i]) tr.place[i] } := by unfold SetTable.drop; rw [gp]
      have pl : (SetTable.eraseAt tr.place i).toList = tr.place.toList.eraseIdx i := eraseAt_list tr.place i hip
      have pe : (SetTable.eraseAt tr.place i).size = tr.place.size - 1 := by rw [← Array.length_toList, pl, List.length_eraseIdx_of_lt (by rw [Array.length_toList]; exact hip), Array.length_toList]
      have ft := hR.ft
      simp only [SetTable.fits, SetTable.fill, Bool.and_eq_true, beq_iff_eq, decide_eq_true_eq] at ft
      refine wpAny_bind (hR.store (es' := SetTable.eraseAt er i) (t' := tr.drop i) (ks' := k1') (by rw [el]; exact n1') nd1.2 (by have := hR.lt4; omega) ?_ ?_ fun h' sb st => ?_)
      · rw [ed]
        simp only [SetTable.fits, SetTable.fill, Bool.and_eq_true, beq_iff_eq, decide_eq_true_eq, pe, ez, insertAt_size]
        have f2 := of_decide_eq_true ft.2
        omega
      · rw [ed]
        refine ⟨hR.tb.led, fun z => ?_⟩
        show Rise (SetTable.eraseAt tr.place i).toList
        rw [pl]
        exact (hR.tb.rise z).sublist (List.eraseIdx_sublist ..)
      · refine wpAny_bind (wpAny_point (wpAny_pure (h true h' k1' sb (SetAt.sx (s := { s with heap := h' }) st (.refl _)) (fun y => ?_) (by omega))))
        rw [← q1.mem_iff (a := y), List.mem_cons]
        constructor
        · exact fun m => ⟨.inr m, fun z => nd1.1 (by rw [← z]; exact m)⟩
        · exact fun ⟨m, n⟩ => m.resolve_left n
  · exact wpAny_pure (h false s.heap kr (Heap.SameBut.refl _ _) (hR.sx (.refl _)) (fun y => ⟨fun m => ⟨m, fun z => hn (by rw [← z]; exact m)⟩, fun m => m.1⟩) (Nat.le_refl _))
end
end L2
set_option Elab.async false
set_option linter.all false
set_option maxRecDepth 100000
namespace L2
open PySem PySem.Spec PyProof.Rows
section
variable {P : Program} {w : World} {A : Around} {E : Value → Shared → Prop} {s : Shared} {S T r : Addr} {ks kr ms ns : List Int} {es er : Array (Int × Value)} {ep epr : Nat} {t tr : SetTable}
end
end L2
set_option Elab.async false
set_option linter.all false
set_option maxRecDepth 100000
namespace L2
open PySem PySem.Spec PyProof.Rows
section
variable {X : Cx}
end
end L2
set_option Elab.async false
set_option linter.all false
set_option maxRecDepth 100000
namespace L2
open PySem PySem.Spec PyProof.Rows
section
variable {X : Cx}
end
end L2
set_option Elab.async false
set_option linter.all false
set_option maxRecDepth 100000
namespace L2
open PySem PySem.Spec PyProof.Rows
noncomputable def eqI (c : Int) : Value → Bool
  | .int a _ => a == c
  | _ => false
theorem ints_eq {ns : List Int} {its : List Value} (r : Vals (ns.map V.int) its) (c : Int) (t : Tok) : ∀ y, y ∈ its.toArray → MeetsSeq.EqGives y (.int c t) (eqI c y) := fun y hy => by
  have hy : y ∈ its := by simpa using hy
  obtain ⟨i, hi, e⟩ := List.mem_iff_getElem.mp hy
  obtain ⟨x, hx, rx⟩ := pair_get r (List.getElem?_eq_getElem hi)
  rw [List.getElem?_map] at hx
  obtain ⟨k, _, ek⟩ := Option.map_eq_some_iff.mp hx
  subst ek
  obtain ⟨t', et⟩ := rx
  rw [← e, et]
  exact MeetsSeq.EqGives.int k c t' t
theorem ints_at {ns : List Int} {its : List Value} (r : Vals (ns.map V.int) its) (c : Int) {i : Nat} (hi : i < its.toArray.size) (hn : i < ns.length) : eqI c its.toArray[i] = (ns[i] == c) := by
  have hi' : i < its.length := by simpa using hi
  obtain ⟨x, hx, rx⟩ := pair_get r (List.getElem?_eq_getElem hi')
  rw [List.getElem?_map, List.getElem?_eq_getElem hn] at hx
  have hx := Option.some.inj hx
  subst hx
  obtain ⟨t', et⟩ := rx
  have : its.toArray[i] = its[i] := by simp
  rw [this, et]; rfl
section
variable {X : Cx}
noncomputable def rIndex : V → List V → Hp → VK → Prop := fun x vs H Q => ∃ (l : Addr) (ns : List Int) (c : Int) (j : Nat), x = .ref l ∧ vs = [.int c] ∧ H l = some (.lst (ns.map V.int)) ∧ ns[j]? = some c ∧ (∀ m, m < j → ns[m]? ≠ some c) ∧ ns.length < 100000 ∧ Q (.int ((j : Nat) : Int)) H
theorem mt_index : MtM X "list.index" rIndex := by
  intro pins s σ H x vs v us Q I rx rv h
  obtain ⟨l, ns, c, j, rfl, rfl, hH, hj, hno, hz, q⟩ := h
  cases rx
  obtain ⟨u, e1, ru⟩ := vals1 rv
  subst e1
  obtain ⟨t, rfl⟩ := ru
  obtain ⟨z, its, n, r, hl, e⟩ := I.lstM hH
  have hlen := r.length
  rw [List.length_map] at hlen
  have hjl := (List.getElem?_eq_some_iff.mp hj).1
  have hji : j < its.toArray.size := by rw [List.size_toArray]; omega
  have hit : eqI c its.toArray[j] = true := by
    rw [ints_at r c hji hjl]
    have := (List.getElem?_eq_some_iff.mp hj).2
    rw [this]; simp
  refine call_meets PySem.F.slot_list_index ⟨_, e, rfl⟩ PySem.F.entry_list_index (PySem.F.args_list_index_2 _ _) (MeetsSeq.list_index l its.toArray n (.int c t) (eqI c) (ints_eq r c t) j hji (by omega) hit fun m hm hlt => ?_) ⟨e, ?_⟩
  · have hmn : m < ns.length := by rw [List.size_toArray] at hm; omega
    rw [ints_at r c hm hmn]
    have := hno m hlt
    rw [List.getElem?_eq_getElem hmn] at this
    simpa using this
  · exact ⟨.int ((j : Nat) : Int), H, I.tok _, ⟨_, rfl⟩, q⟩
end
end L2
set_option Elab.async false
set_option linter.all false
set_option maxRecDepth 100000
namespace L2
open PySem PySem.Spec PyProof.Rows
section
variable {X : Cx}
end
section
variable {X : Cx}
end
end L2
set_option Elab.async false
set_option linter.all false
set_option maxRecDepth 100000
namespace L2
open PySem PySem.Spec PyProof.Rows
section
variable {X : Cx}
end
end L2
set_option Elab.async false
set_option linter.all false
set_option maxRecDepth 100000
namespace L2
open PySem PySem.Spec PyProof.Rows
section
open PySem.AutoSeq1 (wpAny_loadPart')
open PySem.MeetsSeq PySem.MeetsSeq2 PySem.MeetsSeq3
end
section
variable {X : Cx}
end
end L2
set_option Elab.async false
set_option linter.all false
set_option maxRecDepth 100000
namespace L2
open PySem PySem.Spec PyProof.Rows
theorem comp_walk2 {J : It} {H1 : Hp} {js : List (Option Nat)} {σ : L2.St} {tc : TT} {te : TE} {Q : VK} (n : Nat) (item : Nat → V) (p : Nat → Bool) (P : Addr → Nat → V → Hp → Prop) (hn : n < 100000)
    (mono : ∀ acc i v H H', P acc i v H → SameBut acc H H' → P acc i v H')
    (hgo : ∀ i H, i < n → Same H1 H → J.go i H) (hst : ∀ H, Same H1 H → J.stop n H) (hy : ∀ i H x H', i < n → Same H1 H → J.yld i H x H' → H' = H ∧ x = item i)
    (hc : ∀ i, i < n → ∀ H2 R, Same H1 H2 → (∀ H3, Same H2 H3 → R (p i) H3) → tc (some (item i) :: pick σ js) H2 R)
    (he : ∀ acc i, i < n → p i = true → ∀ H2 R, Same H1 H2 → H1 acc = none → H2 acc ≠ none → (∀ v H3, Same H2 H3 → P acc i v H3 → R v H3) → te (some (item i) :: pick σ js) H2 R)
    (hQ : ∀ acc vs H', Same H1 H' → H1 acc = none → H' acc = some (.lst vs) → Paired (fun i v => P acc i v H') ((List.range n).filter p) vs → Q (.ref acc) H') :
    CompB J H1 (none :: js) (gName 0) tc te σ Q := by
  intro acc hacc
  refine ⟨fun i m ys H => m = n - i ∧ i ≤ n ∧ Same H1 H ∧ H acc = some (.lst ys) ∧ Paired (fun k v => P acc k v H) ((List.range i).filter p) ys, ⟨n, by simp, Nat.zero_le _, Same.new hacc, upd_same, .nil⟩, ?_⟩
  rintro i m ys H ⟨rfl, hi, s1, ha, hp⟩
  by_cases hlt : i < n
  · refine .inr ⟨hgo i H hlt s1, fun ys' H' => i < n ∧ Same H1 H' ∧ H' acc = some (.lst ys') ∧ Paired (fun k v => P acc k v H') ((List.range (i + 1)).filter p) ys', fun ys' H' ⟨z, a, b, c⟩ => ⟨n - (i + 1), by omega, rfl, hlt, a, b, c⟩, fun x H' y => ?_⟩
    obtain ⟨rfl, rfl⟩ := hy i H x H' hlt s1 y
    refine ⟨kept1, hc i hlt _ _ s1 fun H2 s2 => ⟨fun hb => ?_, fun hb => ?_⟩⟩
    · have ha2 := s2 _ _ ha
      refine he acc i hlt hb _ _ (s1.trans s2) hacc (by rw [ha2]; simp) fun v H3 s3 pv => ?_
      have hlen : ys.length ≤ i := by
        rw [← Paired.length hp]
        exact Nat.le_trans (List.length_filter_le _ _) (by simp)
      refine ⟨s3 _ _ ha2, szn (by omega), hlt, ((s1.trans s2).trans s3).put hacc, upd_same, ?_⟩
      rw [List.range_succ, List.filter_append]
      have e : List.filter p [i] = [i] := by simp [hb]
      rw [e]
      refine Paired.snoc (Paired.mapP hp fun k v q => ?_) ?_
      · exact mono acc k v _ _ (mono acc k v _ _ q (s2.trans s3).but) SameBut.upd
      · exact mono acc i v _ _ pv SameBut.upd
    · refine ⟨hlt, s1.trans s2, s2 _ _ ha, ?_⟩
      rw [List.range_succ, List.filter_append]
      have e : List.filter p [i] = [] := by simp [hb]
      rw [e, List.append_nil]
      exact Paired.mapP hp fun k v q => mono acc k v _ _ q s2.but
  · have e : i = n := by omega
    subst e
    exact .inl ⟨hst H s1, hQ acc ys H s1 hacc ha hp⟩
theorem comp_some {H1 : Hp} {js : List (Option Nat)} {σ : L2.St} {tc : TT} {te : TE} {Q : VK} {n : Nat} (p : Nat → Bool) (hn : n < 100000)
    (hc : ∀ i : Nat, i < n → ∀ H2 R, Same H1 H2 → (∀ H3, Same H2 H3 → R (p i) H3) → tc (some (.int (0 + (i : Int))) :: pick σ js) H2 R)
    (he : ∀ i : Nat, i < n → ∀ H2 R, R (.int ((i : Nat) : Int)) H2 → te (some (.int (0 + (i : Int))) :: pick σ js) H2 R)
    (hQ : ∀ acc H', Same H1 H' → H1 acc = none → H' acc = some (.lst (((List.range n).filter p).map fun (i : Nat) => V.int (i : Int))) → Q (.ref acc) H') : CompB (Itr 0 n) H1 (none :: js) (gName 0) tc te σ Q :=
  comp_walk2 (J := Itr 0 n) (H1 := H1) (js := js) (σ := σ) (tc := tc) (te := te) (Q := Q) n (fun i => .int (0 + (i : Int))) p (fun _ i v _ => v = V.int (i : Int)) hn (fun _ _ _ _ _ h _ => h)
    (fun _ _ h _ => h) (fun _ _ => Nat.le_refl _) (fun _ _ _ _ _ _ y => y) hc (fun _ i hi _ H2 R s _ _ k => he i hi H2 R (k _ H2 (Same.refl _) rfl))
    fun acc vs H' s n' e p => hQ acc H' s n' (by rw [e, paired_map p])
noncomputable def unl (f : Nat → Int) (st : List Nat) : Nat := (dd (st.map f)).length
theorem unl_snoc (f : Nat → Int) (st : List Nat) (i : Nat) : unl f (st ++ [i]) = if f i ∈ st.map f then unl f st else unl f st + 1 := by
  unfold unl
  rw [List.map_append, List.map_cons, List.map_nil, dd_snoc]
  unfold dstep
  by_cases h : f i ∈ st.map f
  · rw [if_pos h, if_pos (dd_mem.mpr h)]
  · rw [if_neg h, if_neg fun z => h (dd_mem.mp z), List.length_append, List.length_singleton]
theorem comp_list2 {K : PySem.W.Frag} {H1 : Hp} {js : List (Option Nat)} {σ : L2.St} {tc : TT} {te : TE} {Q : VK} {a : Addr} {xs : List V} (p : Nat → Bool) (f : Nat → V) (hl : SqL K H1 a xs) (hn : xs.length < 100000)
    (hc : ∀ (i : Nat) x, xs[i]? = some x → ∀ H2 R, Same H1 H2 → (∀ H3, Same H2 H3 → R (p i) H3) → tc (some x :: pick σ js) H2 R)
    (he : ∀ (i : Nat) x, xs[i]? = some x → p i = true → ∀ H2 R, Same H1 H2 → (∀ H3, Same H2 H3 → R (f i) H3) → te (some x :: pick σ js) H2 R)
    (hQ : ∀ acc H', Same H1 H' → H1 acc = none → H' acc = some (.lst (((List.range xs.length).filter p).map f)) → Q (.ref acc) H') : CompB (Itl K a) H1 (none :: js) (gName 0) tc te σ Q :=
  comp_walk2 (J := Itl K a) (H1 := H1) (js := js) (σ := σ) (tc := tc) (te := te) (Q := Q) xs.length (fun i => xs.getD i .non) p (fun _ i v _ => v = f i) hn (fun _ _ _ _ _ h _ => h)
    (fun i H h s => ⟨xs, xs[i], s.seq hl, by simp [h]⟩) (fun H s => ⟨xs, s.seq hl, Nat.le_refl _⟩)
    (fun i H x H' h s y => ⟨y.1, by have e := y.2 xs (s.seq hl); simp [e]⟩)
    (fun i h H2 R s k => hc i _ (by simp [h]) H2 R s k) (fun acc i h hp H2 R s n1 n2 k => he i _ (by simp [h]) hp H2 R s fun H3 s3 => k _ H3 s3 rfl)
    fun acc vs H' s n' e p => hQ acc H' s n' (by rw [e, paired_map p])
noncomputable def brk (f : Nat → Int) (n : Nat) (wd : Str) (k : Int) (st : List Nat) : Bool :=
  if wd = "most" then decide (k < ((unl f (st.filter fun i => decide (i < n)) : Nat) : Int)) else decide (((unl f (st.filter fun i => decide (i < n)) : Nat) : Int) + (st.length : Int) - ((st.filter fun i => decide (i < n)).length : Int) < k)
noncomputable def fx (hs : List Int) (x : Int) : Nat := hs.findIdx fun y => decide (y = x)
theorem fx_at {hs : List Int} {x : Int} (h : x ∈ hs) : hs[fx hs x]? = some x := by
  have hl : fx hs x < hs.length := List.findIdx_lt_length_of_exists ⟨x, h, by simp⟩
  have := List.findIdx_getElem (xs := hs) (p := fun y => decide (y = x)) (w := hl)
  rw [List.getElem?_eq_getElem hl]
  exact congrArg some (of_decide_eq_true this)
theorem fx_no {hs : List Int} {x : Int} {m : Nat} (h : m < fx hs x) : hs[m]? ≠ some x := fun z => by
  obtain ⟨hm, e⟩ := List.getElem?_eq_some_iff.mp z
  have := List.not_of_lt_findIdx h
  rw [e] at this
  simp at this
theorem fx_le {hs : List Int} {k : Nat} (h : k < hs.length) : fx hs (hs.getD k 0) ≤ k := by
  refine Decidable.byContradiction fun z => fx_no (by omega : k < fx hs (hs.getD k 0)) ?_
  rw [getD_get h, List.getElem?_eq_getElem h]
noncomputable def shN (hs : List Int) (k : Nat) : Nat := (dd (hs.take (fx hs (hs.getD k 0)))).length
noncomputable def shp (hs : List Int) : List Nat := (List.range hs.length).map (shN hs)
theorem shp_len {hs : List Int} : (shp hs).length = hs.length := by unfold shp; simp
theorem shp_at {hs : List Int} {k : Nat} (h : k < hs.length) : (shp hs)[k]? = some (shN hs k) := by
  unfold shp
  rw [List.getElem?_map, List.getElem?_range h]; rfl
end L2
set_option Elab.async false
set_option linter.all false
set_option maxRecDepth 100000
namespace L2
open PySem PySem.Spec PyProof.Rows
end L2
set_option Elab.async false
set_option linter.all false
set_option maxRecDepth 100000
namespace L2
open PySem PySem.Spec PyProof.Rows
theorem fx_app {l r : List Int} {b : Int} (h : b ∈ l) : fx (l ++ r) b = fx l b := by
  have hl : fx l b < l.length := List.findIdx_lt_length_of_exists ⟨b, h, by simp⟩
  unfold fx at *
  rw [List.findIdx_append, if_pos hl]
theorem fx_lt {l : List Int} {b : Int} (h : b ∈ l) : fx l b < l.length := List.findIdx_lt_length_of_exists ⟨b, h, by simp⟩
theorem snoc_ind {P : List Int → Prop} (h0 : P []) (hs : ∀ l x, P l → P (l ++ [x])) (l : List Int) : P l := by
  have : ∀ n, ∀ l : List Int, l.length = n → P l := fun n => by
    induction n with
    | zero => intro l h; rw [List.length_eq_zero_iff.mp h]; exact h0
    | succ n ih =>
      intro l h
      have e : l = l.dropLast ++ [l.getLast (by intro z; rw [z] at h; simp at h)] := (List.dropLast_concat_getLast _).symm
      rw [e]
      exact hs _ _ (ih _ (by rw [List.length_dropLast]; omega))
  exact this _ l rfl
end L2
set_option Elab.async false
set_option linter.all false
set_option maxRecDepth 100000
namespace L2
open PySem PySem.Spec PyProof.Rows
section
variable {X : Cx}
end
end L2
set_option Elab.async false
set_option linter.all false
set_option maxRecDepth 100000
namespace L2
open PySem PySem.Spec PyProof.Rows
noncomputable def num (hs : List Int) (b : Int) : Nat := (dd (hs.take (fx hs b))).length
theorem shp_map (hs : List Int) : shp hs = hs.map (num hs) := by
  apply List.ext_getElem
  · rw [shp_len, List.length_map]
  · intro i h1 h2
    rw [shp_len] at h1
    have := shp_at h1
    rw [List.getElem?_eq_getElem (by rw [shp_len]; exact h1)] at this
    rw [Option.some.inj this, List.getElem_map]
    unfold shN num
    rw [getD_get h1]
theorem num_lt {hs : List Int} {a b : Int} (ha : a ∈ hs) (h : fx hs a < fx hs b) : num hs a < num hs b := by
  have na : a ∉ hs.take (fx hs a) := fun m => by
    obtain ⟨i, hi, e⟩ := List.mem_iff_getElem.mp m
    rw [List.length_take] at hi
    rw [List.getElem_take] at e
    exact fx_no (show i < fx hs a by omega) (by rw [List.getElem?_eq_getElem (by omega), e])
  have ma : a ∈ hs.take (fx hs b) := by
    have hl := fx_lt ha
    have e := fx_at ha
    rw [List.getElem?_eq_getElem hl] at e
    rw [List.mem_iff_getElem]
    exact ⟨fx hs a, by rw [List.length_take]; omega, by rw [List.getElem_take]; exact Option.some.inj e⟩
  have nd : (dd (hs.take (fx hs a)) ++ [a]).Nodup := nd_snoc (dd_nd _) fun z => na (dd_mem.mp z)
  have := nd.length_le_of_subset (l₂ := dd (hs.take (fx hs b))) fun x hx => by
    rcases List.mem_append.mp hx with z | z
    · refine dd_mem.mpr ?_
      have hx' := dd_mem.mp z
      have : hs.take (fx hs a) = (hs.take (fx hs b)).take (fx hs a) := by rw [List.take_take, Nat.min_eq_left (by omega)]
      rw [this] at hx'
      exact List.mem_of_mem_take hx'
    · rw [List.mem_singleton.mp z]; exact dd_mem.mpr ma
  rw [List.length_append, List.length_singleton] at this
  exact this
theorem num_inj {hs : List Int} {a b : Int} (ha : a ∈ hs) (hb : b ∈ hs) (h : num hs a = num hs b) : a = b := by
  rcases Nat.lt_trichotomy (fx hs a) (fx hs b) with z | z | z
  · have := num_lt ha z; omega
  · have e1 := fx_at ha
    have e2 := fx_at hb
    rw [z, e2] at e1
    exact (Option.some.inj e1).symm
  · have := num_lt hb z; omega
theorem dd_map_len {g : Int → Int} (l : List Int) : (∀ x ∈ l, ∀ y ∈ l, g x = g y → x = y) → (dd (l.map g)).length = (dd l).length := by
  refine snoc_ind (P := fun l => (∀ x ∈ l, ∀ y ∈ l, g x = g y → x = y) → (dd (l.map g)).length = (dd l).length) (fun _ => rfl) (fun l x ih hi => ?_) l
  have ih := ih fun a ha b hb => hi a (List.mem_append_left _ ha) b (List.mem_append_left _ hb)
  rw [List.map_append, List.map_cons, List.map_nil, dd_snoc, dd_snoc]
  unfold dstep
  by_cases hx : x ∈ l
  · rw [if_pos (dd_mem.mpr (List.mem_map.mpr ⟨x, hx, rfl⟩)), if_pos (dd_mem.mpr hx), ih]
  · have hg : g x ∉ l.map g := fun m => by
      obtain ⟨y, hy, e⟩ := List.mem_map.mp m
      have := hi y (List.mem_append_left _ hy) x (by simp) e
      exact hx (by rw [← this]; exact hy)
    rw [if_neg fun z => hg (dd_mem.mp z), if_neg fun z => hx (dd_mem.mp z), List.length_append, List.length_append, ih]
    rfl
theorem shp_wide (hs : List Int) : (dd ((shp hs).map fun (i : Nat) => (i : Int))).length = (dd hs).length := by
  have e : (shp hs).map (fun (i : Nat) => (i : Int)) = hs.map fun b => ((num hs b : Nat) : Int) := by rw [shp_map, List.map_map]; rfl
  rw [e]
  exact dd_map_len hs fun x hx y hy h => num_inj hx hy (by omega)
theorem shp_take {hs : List Int} {k : Nat} (h : k ≤ hs.length) : shp (hs.take k) = (shp hs).take k := by
  rw [shp_map, shp_map, ← List.map_take]
  apply List.map_congr_left
  intro b hb
  have e : fx (hs.take k) b = fx hs b := by
    have := fx_app (r := hs.drop k) hb
    rw [List.take_append_drop] at this
    exact this.symm
  unfold num
  rw [e, List.take_take, Nat.min_eq_left]
  have := fx_lt hb
  rw [List.length_take] at this
  omega
theorem shN_le {hs : List Int} {k : Nat} (h : k < hs.length) : shN hs k ≤ (dd (hs.take k)).length := by
  unfold shN
  refine (dd_nd _).length_le_of_subset fun x hx => dd_mem.mpr ?_
  have hx := dd_mem.mp hx
  have fl := fx_le h
  have : hs.take (fx hs (hs.getD k 0)) = (hs.take k).take (fx hs (hs.getD k 0)) := by rw [List.take_take, Nat.min_eq_left fl]
  rw [this] at hx
  exact List.mem_of_mem_take hx
end L2
set_option Elab.async false
set_option linter.all false
set_option maxRecDepth 100000
namespace L2
open PySem PySem.Spec PyProof.Rows
end L2
set_option Elab.async false
set_option linter.all false
set_option maxRecDepth 100000
namespace L2
open PySem PySem.Spec PyProof.Rows
section
variable {X : Cx} {tg l : Expr} {tl : TE}
end
section
variable {X : Cx}
end
end L2
set_option Elab.async false
set_option linter.all false
set_option maxRecDepth 100000
namespace L2
open PySem PySem.Spec PyProof.Rows
theorem atI_int {ns : List Int} {j : Nat} (h : j < ns.length) : atI (ns.map V.int) (j : Int) = some (.int (ns.getD j 0)) := atI_nat (by simp [h])
noncomputable def RowsL (H : Hp) (rs : List Addr) (ps : List (List Int)) : Prop := Paired (fun r p => H r = some (.lst (p.map V.int))) rs ps
theorem RowsL.len {H : Hp} {rs : List Addr} {ps : List (List Int)} (h : RowsL H rs ps) : rs.length = ps.length := Paired.length h
theorem RowsL.same {H H' : Hp} {rs : List Addr} {ps : List (List Int)} (h : RowsL H rs ps) (s : Same H H') : RowsL H' rs ps := Paired.mapP h fun _ _ q => s _ _ q
theorem RowsL.at {H : Hp} {rs : List Addr} {ps : List (List Int)} (h : RowsL H rs ps) {i : Nat} {p : List Int} (e : ps[i]? = some p) : ∃ r, rs[i]? = some r ∧ H r = some (.lst (p.map V.int)) := pair_get (F := fun (r : Addr) (p : List Int) => H r = some (.lst (p.map V.int))) h e
theorem RowsL.get {H : Hp} {rs : List Addr} {ps : List (List Int)} (h : RowsL H rs ps) {i : Nat} {r : Addr} (e : rs[i]? = some r) : ∃ p, ps[i]? = some p ∧ H r = some (.lst (p.map V.int)) := by
  have hi : i < ps.length := by rw [← h.len]; exact (List.getElem?_eq_some_iff.mp e).1
  obtain ⟨r', e1, e2⟩ := h.at (List.getElem?_eq_getElem hi)
  rw [e] at e1
  cases e1
  exact ⟨_, List.getElem?_eq_getElem hi, e2⟩
theorem RowsL.of {H : Hp} {rs : List Addr} {ps : List (List Int)} (hl : rs.length = ps.length) (h : ∀ (i : Nat) r p, rs[i]? = some r → ps[i]? = some p → H r = some (.lst (p.map V.int))) : RowsL H rs ps := paired_of hl h
theorem RowsL.set {H : Hp} {rs : List Addr} {ps : List (List Int)} (h : RowsL H rs ps) (nd : rs.Nodup) {j : Nat} {r : Addr} (e : rs[j]? = some r) (p : List Int) : RowsL (upd H r (.lst (p.map V.int))) rs (ps.set j p) := by
  refine RowsL.of (by rw [List.length_set, h.len]) fun i r' p' e1 e2 => ?_
  by_cases z : i = j
  · subst z
    rw [e] at e1
    cases e1
    have hi : i < ps.length := by rw [← h.len]; exact (List.getElem?_eq_some_iff.mp e).1
    rw [List.getElem?_set_self hi] at e2
    cases e2
    exact upd_same
  · rw [List.getElem?_set_ne (fun y => z y.symm)] at e2
    have ne : r' ≠ r := fun y => by
      subst y
      obtain ⟨h1, h1'⟩ := List.getElem?_eq_some_iff.mp e1
      obtain ⟨h2, h2'⟩ := List.getElem?_eq_some_iff.mp e
      exact z ((List.getElem_inj nd).mp (h1'.trans h2'.symm))
    obtain ⟨p2, e3, e4⟩ := h.get e1
    rw [e2] at e3
    cases e3
    rw [upd_ne ne]
    exact e4
structure TieT (H : Hp) (x : Addr × Addr × Str × Int × List Nat) : Prop where
  tp : H x.1 = some (.tup [.str x.2.2.1, .int x.2.2.2.1, .ref x.2.1])
  ts : H x.2.1 = some (.tup (x.2.2.2.2.map fun (i : Nat) => V.int (i : Int)))
  wd : x.2.2.1 = "most" ∨ x.2.2.1 = "least"
  sl : x.2.2.2.2.length ≤ 6
theorem TieT.same {H H' : Hp} {x : Addr × Addr × Str × Int × List Nat} (h : TieT H x) (s : Same H H') : TieT H' x := ⟨s _ _ h.tp, s _ _ h.ts, h.wd, h.sl⟩
structure TieG (n : Nat) (x : Addr × Addr × Str × Int × List Nat) : Prop where
  k1 : 1 ≤ x.2.2.2.1
  k6 : x.2.2.2.1 ≤ 6
  ne : x.2.2.2.2 ≠ []
  lt : ∀ i ∈ x.2.2.2.2, i < n
  up : x.2.2.2.2.Pairwise (· < ·)
structure Drawn (H : Hp) (l m L T : Addr) (ms : List Int) (rs : List Addr) (ps : List (List Int)) (ts : List (Addr × Addr × Str × Int × List Nat)) (top : Nat) : Prop where
  hl : H l = some (.lst [.ref m, .ref L, .ref T])
  hm : H m = some (.lst (ms.map V.int))
  hL : H L = some (.lst (rs.map V.ref))
  hT : H T = some (.lst (ts.map fun x => V.ref x.1))
  rows : RowsL H rs ps
  mup : ms.Pairwise (· < ·)
  mne : ms ≠ []
  m8 : ms.length ≤ 8
  mb : ∀ b ∈ ms, 1 ≤ b ∧ b ≤ 10 ^ 18
  pup : ∀ p ∈ ps, p.Pairwise (· < ·)
  psub : ∀ p ∈ ps, ∀ b ∈ p, b ∈ ms
  p1 : 1 ≤ ps.length
  ptop : ps.length ≤ top
  p6 : ps.length ≤ 6
  tea : ∀ x ∈ ts, TieT H x
  tg : ∀ x ∈ ts, TieG ps.length x
  t12 : ts.length ≤ 12
theorem Drawn.same {H H' : Hp} {l m L T : Addr} {ms : List Int} {rs : List Addr} {ps : List (List Int)} {ts : List (Addr × Addr × Str × Int × List Nat)} {top : Nat} (d : Drawn H l m L T ms rs ps ts top) (s : Same H H') : Drawn H' l m L T ms rs ps ts top :=
  ⟨s _ _ d.hl, s _ _ d.hm, s _ _ d.hL, s _ _ d.hT, d.rows.same s, d.mup, d.mne, d.m8, d.mb, d.pup, d.psub, d.p1, d.ptop, d.p6, fun x hx => (d.tea x hx).same s, d.tg, d.t12⟩
end L2
set_option Elab.async false
set_option linter.all false
set_option maxRecDepth 100000
namespace L2
open PySem PySem.Spec PyProof.Rows
theorem dd_le {l r : List Int} (h : ∀ x ∈ l, x ∈ r) : (dd l).length ≤ (dd r).length := (dd_nd l).length_le_of_subset fun x hx => dd_mem.mpr (h x (dd_mem.mp hx))
theorem snoc_indN {P : List Nat → Prop} (h0 : P []) (hs : ∀ l x, P l → P (l ++ [x])) (l : List Nat) : P l := by
  have : ∀ n (l : List Nat), l.length = n → P l := by
    intro n
    induction n with
    | zero => intro l e; rw [List.length_eq_zero_iff.mp e]; exact h0
    | succ n ih =>
      intro l e
      have hne : l ≠ [] := fun z => by rw [z] at e; simp at e
      rw [← List.dropLast_concat_getLast hne]
      exact hs _ _ (ih _ (by rw [List.length_dropLast, e]; rfl))
  exact this _ l rfl
theorem unl_iff {f g : Nat → Int} (A : List Nat) : (∀ i ∈ A, ∀ j ∈ A, f i = f j ↔ g i = g j) → unl f A = unl g A := by
  refine snoc_indN (P := fun A => (∀ i ∈ A, ∀ j ∈ A, f i = f j ↔ g i = g j) → unl f A = unl g A) (fun _ => rfl) (fun l x ih h => ?_) A
  have ih' := ih fun i hi j hj => h i (List.mem_append_left _ hi) j (List.mem_append_left _ hj)
  rw [unl_snoc, unl_snoc, ih']
  have e : f x ∈ l.map f ↔ g x ∈ l.map g := by
    constructor
    · intro m
      obtain ⟨i, hi, e⟩ := List.mem_map.mp m
      exact List.mem_map.mpr ⟨i, hi, (h i (List.mem_append_left _ hi) x (by simp)).mp e⟩
    · intro m
      obtain ⟨i, hi, e⟩ := List.mem_map.mp m
      exact List.mem_map.mpr ⟨i, hi, (h i (List.mem_append_left _ hi) x (by simp)).mpr e⟩
  by_cases z : f x ∈ l.map f
  · rw [if_pos z, if_pos (e.mp z)]
  · rw [if_neg z, if_neg fun y => z (e.mpr y)]
noncomputable def kp (f : Nat → Int) (wd : Str) (k : Int) (st : List Nat) : Bool := if wd = "most" then decide (((unl f st : Nat) : Int) ≤ k) else decide (k ≤ ((unl f st : Nat) : Int))
theorem shpI_at {hs : List Int} {i : Nat} (h : i < hs.length) : ((shp hs).map fun (i : Nat) => (i : Int)).getD i 0 = (num hs (hs.getD i 0) : Int) := by
  rw [shp_map, List.map_map]
  simp [h, List.getD_eq_getElem?_getD]
theorem shp_same {hs : List Int} {i j : Nat} (hi : i < hs.length) (hj : j < hs.length) : ((shp hs).map fun (i : Nat) => (i : Int)).getD i 0 = ((shp hs).map fun (i : Nat) => (i : Int)).getD j 0 ↔ hs.getD i 0 = hs.getD j 0 := by
  rw [shpI_at hi, shpI_at hj]
  constructor
  · intro h
    exact num_inj (by rw [getD_get hi]; exact List.getElem_mem hi) (by rw [getD_get hj]; exact List.getElem_mem hj) (by omega)
  · intro h; rw [h]
theorem shN_iff {hs os : List Int} (hl : hs.length = os.length) (h : ∀ i, i < hs.length → ∀ j, j < hs.length → (hs.getD i 0 = hs.getD j 0 ↔ os.getD i 0 = os.getD j 0)) {k : Nat} (hk : k < hs.length) : shN hs k = shN os k := by
  have hk' : k < os.length := by omega
  have mh : hs.getD k 0 ∈ hs := by rw [getD_get hk]; exact List.getElem_mem hk
  have mo : os.getD k 0 ∈ os := by rw [getD_get hk']; exact List.getElem_mem hk'
  have ef : fx hs (hs.getD k 0) = fx os (os.getD k 0) := by
    have a1 := fx_lt mh
    have a2 := fx_lt mo
    have b1 := fx_at mh
    have b2 := fx_at mo
    have c1 : hs.getD (fx hs (hs.getD k 0)) 0 = hs.getD k 0 := by rw [List.getD_eq_getElem?_getD, b1]; rfl
    have c2 : os.getD (fx os (os.getD k 0)) 0 = os.getD k 0 := by rw [List.getD_eq_getElem?_getD, b2]; rfl
    have d1 := (h _ a1 _ hk).mp c1
    have d2 := (h _ (by omega) _ hk).mpr c2
    have g1 : ∀ m, m < fx os (os.getD k 0) → os.getD m 0 ≠ os.getD k 0 := fun m hm e => by
      have := List.not_of_lt_findIdx hm
      rw [getD_get (by omega : m < os.length)] at e
      simp at this
      exact this (by rw [e, List.getD_eq_getElem?_getD])
    have g2 : ∀ m, m < fx hs (hs.getD k 0) → hs.getD m 0 ≠ hs.getD k 0 := fun m hm e => by
      have := List.not_of_lt_findIdx hm
      rw [getD_get (by omega : m < hs.length)] at e
      simp at this
      exact this (by rw [e, List.getD_eq_getElem?_getD])
    rcases Nat.lt_trichotomy (fx hs (hs.getD k 0)) (fx os (os.getD k 0)) with y | y | y
    · exact absurd d1 (g1 _ y)
    · exact y
    · exact absurd d2 (g2 _ y)
  have el : ∀ n, n ≤ hs.length → (dd (hs.take n)).length = (dd (os.take n)).length := fun n hn => by
    have e1 : ∀ (l : List Int), n ≤ l.length → l.take n = (List.range n).map fun i => l.getD i 0 := fun l hl' => by
      apply List.ext_getElem
      · simp; omega
      · intro i h1 h2
        simp only [List.length_take] at h1
        have : i < l.length := by omega
        simp [this]
    have u := unl_iff (f := fun i => hs.getD i 0) (g := fun i => os.getD i 0) (List.range n) fun i hi j hj => h i (by have := List.mem_range.mp hi; omega) j (by have := List.mem_range.mp hj; omega)
    unfold unl at u
    rw [← e1 hs hn, ← e1 os (by omega)] at u
    exact u
  unfold shN
  rw [← ef]
  exact el _ (Nat.le_of_lt (fx_lt mh))
theorem shp_eq_iff {hs os : List Int} (hl : hs.length = os.length) : shp hs = shp os ↔ ∀ i, i < hs.length → ∀ j, j < i → (hs.getD i 0 = hs.getD j 0 ↔ os.getD i 0 = os.getD j 0) := by
  constructor
  · intro e i hi j hj
    rw [← shp_same hi (by omega), ← shp_same (hs := os) (by omega) (by omega), e]
  · intro h
    have h' : ∀ i, i < hs.length → ∀ j, j < hs.length → (hs.getD i 0 = hs.getD j 0 ↔ os.getD i 0 = os.getD j 0) := fun i hi j hj => by
      rcases Nat.lt_trichotomy i j with y | y | y
      · have := h j hj i y
        exact ⟨fun e => (this.mp e.symm).symm, fun e => (this.mpr e.symm).symm⟩
      · subst y; simp
      · exact h i hi j y
    unfold shp
    rw [← hl]
    exact List.map_congr_left fun k hk => shN_iff hl h' (List.mem_range.mp hk)
theorem dd_snoc_len (l : List Int) (x : Int) : (dd (l ++ [x])).length = if x ∈ l then (dd l).length else (dd l).length + 1 := by
  rw [dd_snoc]
  unfold dstep
  by_cases h : x ∈ l
  · rw [if_pos h, if_pos (dd_mem.mpr h)]
  · rw [if_neg h, if_neg fun z => h (dd_mem.mp z), List.length_append, List.length_singleton]
noncomputable def Canon (p : List Int) : Prop := p = (shp p).map fun (i : Nat) => (i : Int)
theorem shp_lt {hs : List Int} {k : Nat} (h : k < hs.length) : shN hs k < (dd hs).length := by
  unfold shN
  have m : hs.getD k 0 ∈ hs := by rw [getD_get h]; exact List.getElem_mem h
  have a := fx_lt m
  have nm : hs.getD k 0 ∉ hs.take (fx hs (hs.getD k 0)) := fun z => by
    obtain ⟨i, hi, e⟩ := List.mem_iff_getElem.mp z
    rw [List.length_take] at hi
    have := List.not_of_lt_findIdx (show i < fx hs (hs.getD k 0) by omega)
    rw [List.getElem_take] at e
    simp at this
    exact this (by rw [e, List.getD_eq_getElem?_getD])
  have e := dd_snoc_len (hs.take (fx hs (hs.getD k 0))) (hs.getD k 0)
  rw [if_neg nm] at e
  have := dd_le (l := hs.take (fx hs (hs.getD k 0)) ++ [hs.getD k 0]) (r := hs) fun x hx => by
    rcases List.mem_append.mp hx with z | z
    · exact List.mem_of_mem_take z
    · rw [List.mem_singleton.mp z]; exact m
  omega
theorem canon_mem {p : List Int} (c : Canon p) {x : Int} (h : x ∈ p) : ∃ j : Nat, x = (j : Int) ∧ j < (dd p).length := by
  rw [c] at h
  obtain ⟨j, hj, e⟩ := List.mem_map.mp h
  obtain ⟨i, hi, e2⟩ := List.mem_iff_getElem.mp hj
  rw [shp_len] at hi
  have g := shp_at hi
  rw [List.getElem?_eq_getElem (by rw [shp_len]; exact hi), e2] at g
  have := shp_lt hi
  refine ⟨j, e.symm, ?_⟩
  have : j = shN p i := Option.some.inj g
  omega
theorem canon_has {p : List Int} (c : Canon p) {j : Nat} (h : j < (dd p).length) : (j : Int) ∈ p := by
  refine Decidable.byContradiction fun n => ?_
  have := (dd_nd p).length_le_of_subset (l₂ := ((List.range (dd p).length).filter fun i => decide (i ≠ j)).map fun (i : Nat) => (i : Int)) fun x hx => by
    have hx := dd_mem.mp hx
    obtain ⟨i, e, hi⟩ := canon_mem c hx
    refine List.mem_map.mpr ⟨i, List.mem_filter.mpr ⟨List.mem_range.mpr hi, decide_eq_true fun z => n ?_⟩, e.symm⟩
    rw [← z, ← e]; exact hx
  rw [List.length_map] at this
  have lt : ((List.range (dd p).length).filter fun i => decide (i ≠ j)).length < (List.range (dd p).length).length := by
    refine Nat.lt_of_le_of_ne (List.length_filter_le _ _) fun z => ?_
    have := List.length_filter_eq_length_iff.mp z j (List.mem_range.mpr h)
    simp at this
  rw [List.length_range] at lt
  omega
end L2
set_option Elab.async false
set_option linter.all false
set_option maxRecDepth 100000
namespace L2
open PySem PySem.Spec PyProof.Rows
end L2
set_option Elab.async false
set_option linter.all false
set_option maxRecDepth 100000
namespace L2
open PySem PySem.Spec PyProof.Rows
noncomputable def blkS (p : List Int) (b : Nat) : List Nat := (List.range p.length).filter fun i => decide (p.getD i 0 = (b : Int))
theorem blkS_mem {p : List Int} {b i : Nat} : i ∈ blkS p b ↔ i < p.length ∧ p.getD i 0 = (b : Int) := by
  unfold blkS
  rw [List.mem_filter, List.mem_range, decide_eq_true_iff]
theorem blkS_ne {p : List Int} (c : Canon p) {b : Nat} (h : b < (dd p).length) : blkS p b ≠ [] := by
  obtain ⟨i, hi, e⟩ := List.mem_iff_getElem.mp (canon_has c h)
  intro z
  have : i ∈ blkS p b := blkS_mem.mpr ⟨hi, by rw [getD_get hi, e]⟩
  rw [z] at this
  cases this
noncomputable def poolS (st : List Nat) (may : List (List Int)) : List Int := (may.getD (st.getD 0 0) []).filter fun x => st.all fun s => decide (x ∈ may.getD s [])
noncomputable def poolN (may : List (List Int)) (p : List Int) (b : Nat) : List Int := poolS (blkS p b) may
noncomputable def pools (may : List (List Int)) (p : List Int) : List (List Int) := (List.range (dd p).length).map (poolN may p)
theorem pools_len {may : List (List Int)} {p : List Int} : (pools may p).length = (dd p).length := by unfold pools; simp
theorem pools_at {may : List (List Int)} {p : List Int} {b : Nat} (h : b < (dd p).length) : (pools may p)[b]? = some (poolN may p b) := by
  unfold pools
  rw [List.getElem?_map, List.getElem?_range h]; rfl
theorem poolS_mem {st : List Nat} {may : List (List Int)} {x : Int} (h : st ≠ []) : x ∈ poolS st may ↔ ∀ s ∈ st, x ∈ may.getD s [] := by
  unfold poolS
  rw [List.mem_filter, List.all_eq_true]
  constructor
  · intro ⟨_, a⟩ s hs
    exact of_decide_eq_true (a s hs)
  · intro a
    refine ⟨a _ ?_, fun s hs => decide_eq_true (a s hs)⟩
    cases st with
    | nil => exact absurd rfl h
    | cons s r => simp
theorem poolN_mem {may : List (List Int)} {p : List Int} {b : Nat} {x : Int} (c : Canon p) (h : b < (dd p).length) : x ∈ poolN may p b ↔ ∀ i, i < p.length → p.getD i 0 = (b : Int) → x ∈ may.getD i [] := by
  unfold poolN
  rw [poolS_mem (blkS_ne c h)]
  exact ⟨fun a i h1 h2 => a i (blkS_mem.mpr ⟨h1, h2⟩), fun a s hs => a s (blkS_mem.mp hs).1 (blkS_mem.mp hs).2⟩
noncomputable abbrev Tie := Str × Int × List Nat
noncomputable def Beg (p hs : List Int) : Prop := p.length ≤ hs.length ∧ ((shp hs).map fun (i : Nat) => (i : Int)).take p.length = p
theorem Beg.at {p hs : List Int} (b : Beg p hs) {i : Nat} (h : i < p.length) : ((shp hs).map fun (i : Nat) => (i : Int)).getD i 0 = p.getD i 0 := by
  rw [← congrArg (fun l => List.getD l i 0) b.2]
  simp [List.getD_eq_getElem?_getD, List.getElem?_take, h]
theorem Beg.same {p hs : List Int} (b : Beg p hs) {i j : Nat} (hi : i < p.length) (hj : j < p.length) : p.getD i 0 = p.getD j 0 ↔ hs.getD i 0 = hs.getD j 0 := by
  rw [← b.at hi, ← b.at hj]
  exact shp_same (Nat.lt_of_lt_of_le hi b.1) (Nat.lt_of_lt_of_le hj b.1)
theorem Beg.canon {p hs : List Int} (b : Beg p hs) : Canon p := by
  have e : shp p = (shp hs).take p.length := by
    rw [← shp_take b.1]
    refine (shp_eq_iff (by rw [List.length_take]; have := b.1; omega)).mpr fun i hi j hj => ?_
    have e1 : (hs.take p.length).getD i 0 = hs.getD i 0 := by simp [List.getD_eq_getElem?_getD, List.getElem?_take, hi]
    have e2 : (hs.take p.length).getD j 0 = hs.getD j 0 := by simp [List.getD_eq_getElem?_getD, List.getElem?_take, (by omega : j < p.length)]
    rw [e1, e2]
    exact b.same hi (by omega)
  unfold Canon
  rw [e, List.map_take]
  exact b.2.symm
theorem Beg.short {may : List (List Int)} {p hs : List Int} (b : Beg p hs) (of : ∀ i, i < hs.length → hs.getD i 0 ∈ may.getD i []) {ms : List Nat} (s : Short (pools may p) ms) : False := by
  obtain ⟨X, hX, hq⟩ := s.few
  have c := b.canon
  have nd : ms.Nodup := s.up.imp fun h => Nat.ne_of_lt h
  have lt : ∀ q ∈ ms, q < (dd p).length := fun q m => by
    obtain ⟨r, e, _⟩ := hq q m
    have := (List.getElem?_eq_some_iff.mp e).1
    rw [pools_len] at this
    exact this
  have fs : ∀ q ∈ ms, ∃ i, i < p.length ∧ p.getD i 0 = (q : Int) := fun q m => by
    obtain ⟨i, hi, e⟩ := List.mem_iff_getElem.mp (canon_has c (lt q m))
    exact ⟨i, hi, by rw [getD_get hi, e]⟩
  let f : Nat → Int := fun q => hs.getD (fx p (q : Int)) 0
  have fa : ∀ q ∈ ms, fx p (q : Int) < p.length ∧ p.getD (fx p (q : Int)) 0 = (q : Int) := fun q m => by
    have := canon_has c (lt q m)
    refine ⟨fx_lt this, ?_⟩
    rw [List.getD_eq_getElem?_getD, fx_at this]; rfl
  have nd2 : (ms.map f).Nodup := by
    rw [List.nodup_iff_pairwise_ne, List.pairwise_map]
    refine List.Pairwise.imp_of_mem ?_ (List.nodup_iff_pairwise_ne.mp nd)
    intro q r hq hr hne e
    obtain ⟨a1, a2⟩ := fa q hq
    obtain ⟨b1, b2⟩ := fa r hr
    have := (b.same a1 b1).mpr e
    rw [a2, b2] at this
    omega
  have := nd2.length_le_of_subset (l₂ := X) fun x hx => by
    obtain ⟨q, m, e⟩ := List.mem_map.mp hx
    obtain ⟨r, er, hr⟩ := hq q m
    rw [pools_at (lt q m)] at er
    cases er
    refine hr x ((poolN_mem c (lt q m)).mpr fun i hi ei => ?_)
    obtain ⟨a1, a2⟩ := fa q m
    have : p.getD (fx p (q : Int)) 0 = p.getD i 0 := by rw [a2, ei]
    have := (b.same a1 hi).mp this
    have h2 := of i (Nat.lt_of_lt_of_le hi b.1)
    rw [← this] at h2
    rw [← e]
    exact h2
  rw [List.length_map] at this
  omega
theorem Beg.next {p hs : List Int} (b : Beg p hs) (h : p.length < hs.length) : ∃ j : Nat, j ≤ (dd p).length ∧ Beg (p ++ [(j : Int)]) hs := by
  have c := b.canon
  have nl := shN_le (hs := hs) (k := p.length) h
  have e : (dd (hs.take p.length)).length = (dd p).length := by
    have h2 := shp_wide (hs.take p.length)
    rw [shp_take (by omega), List.map_take, b.2] at h2
    exact h2.symm
  refine ⟨shN hs p.length, by omega, by simp; omega, ?_⟩
  rw [List.length_append, List.length_singleton, List.take_add_one, b.2]
  congr 1
  rw [List.getElem?_map, shp_at h]; rfl
theorem Beg.nil (hs : List Int) : Beg [] hs := ⟨Nat.zero_le _, rfl⟩
inductive Pap where
  | tie (j : Nat)
  | short (bs : List Nat)
  | split (ps : List Pap)
inductive Shows (may : List (List Int)) (ts : List Tie) : List Int → Pap → Prop where
  | tie {p : List Int} {j : Nat} {t : Tie} (h : ts[j]? = some t) (b : brk (fun i => p.getD i 0) p.length t.1 t.2.1 t.2.2 = true) : Shows may ts p (.tie j)
  | short {p : List Int} {bs : List Nat} (s : Short (pools may p) bs) : Shows may ts p (.short bs)
  | split {p : List Int} {ps : List Pap} (hl : p.length < may.length) (hn : ps.length = (dd p).length + 1) (h : ∀ (j : Nat) (q : Pap), ps[j]? = some q → Shows may ts (p ++ [(j : Int)]) q) : Shows may ts p (.split ps)
end L2
set_option Elab.async false
set_option linter.all false
set_option maxRecDepth 100000
namespace L2
open PySem PySem.Spec PyProof.Rows
theorem lt_nd {F : List Int} (h : F.Pairwise (· < ·)) : F.Nodup := h.imp fun h => Int.ne_of_lt h
structure May (K : PySem.W.Frag) (H : Hp) (a : Addr) (rs : List Addr) (may : List (List Int)) (U : List Int) : Prop where
  ls : SqL K H a (rs.map V.ref)
  po : PoolsL K H rs may
  up : ∀ p ∈ may, p.Pairwise (· < ·)
  sub : ∀ p ∈ may, ∀ b ∈ p, b ∈ U
  m6 : may.length ≤ 6
  u20 : U.length ≤ 26
theorem May.same {K : PySem.W.Frag} {H H' : Hp} {a : Addr} {rs : List Addr} {may : List (List Int)} {U : List Int} (m : May K H a rs may U) (s : Same H H') : May K H' a rs may U := ⟨s.seq m.ls, m.po.same s, m.up, m.sub, m.m6, m.u20⟩
theorem May.rows {K : PySem.W.Frag} {H : Hp} {a : Addr} {rs : List Addr} {may : List (List Int)} {U : List Int} (m : May K H a rs may U) {i : Nat} (h : i < may.length) : ∃ r, rs[i]? = some r ∧ SqL K H r ((may.getD i []).map V.int) ∧ (may.getD i []).Pairwise (· < ·) ∧ ∀ b ∈ may.getD i [], b ∈ U := by
  have e : may.getD i [] = may[i] := getD_getL h
  obtain ⟨r, e1, e2⟩ := m.po.at (List.getElem?_eq_getElem h)
  rw [e]
  exact ⟨r, e1, e2, m.up _ (List.getElem_mem h), m.sub _ (List.getElem_mem h)⟩
theorem at_int {st : List Int} {j : Nat} {x : V} (hx : (st.map V.int)[j]? = some x) : ∃ d : Int, st[j]? = some d ∧ x = V.int d ∧ st.getD j 0 = d := by
  rw [List.getElem?_map] at hx
  obtain ⟨b, h1, h2⟩ := Option.map_eq_some_iff.mp hx
  exact ⟨b, h1, h2.symm, by rw [List.getD_eq_getElem?_getD, h1]; rfl⟩
end L2
set_option Elab.async false
set_option linter.all false
set_option maxRecDepth 100000
namespace L2
open PySem PySem.Spec PyProof.Rows
theorem kept2 {x y : Option V} {σ : St} : Kept (none :: none :: σ) (x :: y :: σ) := ⟨rfl, fun i v e => by
  cases i with
  | zero => cases e
  | succ i =>
    cases i with
    | zero => cases e
    | succ i => exact e⟩
end L2
set_option Elab.async false
set_option linter.all false
set_option maxRecDepth 100000
namespace L2
open PySem PySem.Spec PyProof.Rows
noncomputable def hV : Option Int → V
  | none => .non
  | some b => .int b
theorem atI_hV {dn : List (Option Int)} {j : Nat} (h : j < dn.length) : atI (dn.map hV) (j : Int) = some (hV (dn.getD j none)) := atI_nat (by rw [List.getElem?_map, List.getElem?_eq_getElem h, List.getD_eq_getElem?_getD, List.getElem?_eq_getElem h]; rfl)
theorem dec_hV {h : Option Int} : decide (hV h = V.non) = h.isNone := by cases h <;> rfl
end L2
set_option Elab.async false
set_option linter.all false
set_option maxRecDepth 100000
namespace L2
open PySem PySem.Spec PyProof.Rows
theorem DEq.up {K : PySem.W.Frag} {H : Hp} {d : Nat} {x y : V} {b : Bool} (h : DEq K H d x y b) : DEq K H (d + 1) x y b := by
  induction h with
  | flat fx fy => exact .flat fx fy
  | lst h1 h2 hl he ih => exact .lst h1 h2 hl ih
  | len h1 h2 hl => exact .len h1 h2 hl
  | tup h1 h2 he ih => exact .tup h1 h2 ih
end L2
set_option Elab.async false
set_option linter.all false
set_option maxRecDepth 100000
namespace L2
open PySem PySem.Spec PyProof.Rows
end L2
set_option Elab.async false
set_option linter.all false
set_option maxRecDepth 100000
namespace L2
open PySem PySem.Spec PyProof.Rows
theorem RowsL.append {H : Hp} : ∀ {rs rs' : List Addr} {ps ps' : List (List Int)}, RowsL H rs ps → RowsL H rs' ps' → RowsL H (rs ++ rs') (ps ++ ps') := by
  intro rs rs' ps ps' h h'
  unfold RowsL at *
  induction h with
  | nil => exact h'
  | cons a t ih => exact .cons a ih
end L2
set_option Elab.async false
set_option linter.all false
set_option maxRecDepth 100000
namespace L2
open PySem PySem.Spec PyProof.Rows
inductive PapAt (H : Hp) : V → Pap → Prop where
  | tie {t : Addr} {j : Nat} (ht : H t = some (.tup [.str "tie", .int ((j : Nat) : Int)])) : PapAt H (.ref t) (.tie j)
  | short {t l : Addr} {bs : List Nat} (ht : H t = some (.tup [.str "short", .ref l])) (hl : H l = some (.lst (bs.map fun (i : Nat) => V.int (i : Int)))) : PapAt H (.ref t) (.short bs)
  | split {t l : Addr} {vs : List V} {ps : List Pap} (ht : H t = some (.tup [.str "split", .ref l])) (hl : H l = some (.lst vs)) (hn : vs.length = ps.length) (h : ∀ (i : Nat) v q, vs[i]? = some v → ps[i]? = some q → PapAt H v q) : PapAt H (.ref t) (.split ps)
theorem PapAt.same {H H' : Hp} {v : V} {q : Pap} (p : PapAt H v q) (s : Same H H') : PapAt H' v q := by
  induction p with
  | tie ht => exact .tie (s _ _ ht)
  | short ht hl => exact .short (s _ _ ht) (s _ _ hl)
  | split ht hl hn h ih => exact .split (s _ _ ht) (s _ _ hl) hn fun i v q e1 e2 => ih i v q e1 e2
noncomputable def nw (H H' : Hp) : Hp := fun a => match H a with
  | none => H' a
  | some _ => none
end L2
set_option Elab.async false
set_option linter.all false
set_option maxRecDepth 100000
namespace L2
open PySem PySem.Spec PyProof.Rows
theorem PoolsL.ref {K : PySem.W.Frag} {H : Hp} {rs : List Addr} {may : List (List Int)} (po : PoolsL K H rs may) {i : Nat} {x : V} (hx : (rs.map V.ref)[i]? = some x) : ∃ r, x = .ref r ∧ SqL K H r ((may.getD i []).map V.int) := by
  rw [List.getElem?_map] at hx
  obtain ⟨r, hr, rfl⟩ := Option.map_eq_some_iff.mp hx
  have hi : i < may.length := by rw [← po.len]; exact (List.getElem?_eq_some_iff.mp hr).1
  obtain ⟨r', e1, e2⟩ := po.at (List.getElem?_eq_getElem hi)
  rw [hr] at e1
  cases e1
  rw [← getD_getL hi] at e2
  exact ⟨r, rfl, e2⟩
end L2
set_option Elab.async false
set_option linter.all false
set_option maxRecDepth 100000
namespace L2
open PySem PySem.Spec PyProof.Rows
section
variable {X : Cx}
end
end L2
set_option Elab.async false
set_option linter.all false
set_option maxRecDepth 100000
namespace L2
open PySem PySem.Spec PyProof.Rows
end L2
set_option Elab.async false
set_option linter.all false
set_option maxRecDepth 100000
namespace L2
open PySem PySem.Spec PyProof.Rows
inductive GPap where
  | tie (j : Int)
  | short (bs : List Int)
  | split (ps : List GPap)
noncomputable instance : Inhabited GPap := ⟨.tie 0⟩
inductive GPapAt (H : Hp) : V → GPap → Prop where
  | tie {t : Addr} {j : Int} (ht : H t = some (.tup [.str "tie", .int j])) : GPapAt H (.ref t) (.tie j)
  | short {t l : Addr} {bs : List Int} (ht : H t = some (.tup [.str "short", .ref l])) (hl : H l = some (.lst (bs.map V.int))) : GPapAt H (.ref t) (.short bs)
  | split {t l : Addr} {vs : List V} {ps : List GPap} (ht : H t = some (.tup [.str "split", .ref l])) (hl : H l = some (.lst vs)) (hn : vs.length = ps.length) (h : ∀ (i : Nat) v q, vs[i]? = some v → ps[i]? = some q → GPapAt H v q) : GPapAt H (.ref t) (.split ps)
theorem GPapAt.same {H H' : Hp} {v : V} {q : GPap} (p : GPapAt H v q) (s : Same H H') : GPapAt H' v q := by
  induction p with
  | tie ht => exact .tie (s _ _ ht)
  | short ht hl => exact .short (s _ _ ht) (s _ _ hl)
  | split ht hl hn h ih => exact .split (s _ _ ht) (s _ _ hl) hn fun i v q e1 e2 => ih i v q e1 e2
noncomputable def risB (ns : List Int) : Bool := (List.range (ns.length - 1)).all fun k => decide (ns.getD k 0 < ns.getD (k + 1) 0)
theorem risB_iff {ns : List Int} : risB ns = true ↔ ns.Pairwise (· < ·) := by
  unfold risB
  rw [List.all_eq_true]
  constructor
  · intro h
    have st : ∀ i, i + 1 < ns.length → ns.getD i 0 < ns.getD (i + 1) 0 := fun i hi => of_decide_eq_true (h i (List.mem_range.mpr (by omega)))
    have lt : ∀ d i, i + d + 1 < ns.length → ns.getD i 0 < ns.getD (i + d + 1) 0 := by
      intro d
      induction d with
      | zero => intro i hi; exact st i hi
      | succ d ih => intro i hi; exact Int.lt_trans (ih i (by omega)) (st (i + d + 1) (by omega))
    rw [List.pairwise_iff_getElem]
    intro i j h1 h2 h3
    have := lt (j - i - 1) i (by omega)
    have e : i + (j - i - 1) + 1 = j := by omega
    rw [e, getD_get h1, getD_get h2] at this
    exact this
  · intro h i hi
    have := List.mem_range.mp hi
    have := List.pairwise_iff_getElem.mp h i (i + 1) (by omega) (by omega) (by omega)
    rw [getD_get (by omega), getD_get (by omega)]
    exact decide_eq_true this
noncomputable def poolsU (may : List (List Int)) (p : List Int) (bs : List Int) : List Int := bs.flatMap fun b => poolN may p b.toNat
noncomputable def inB (p : List Int) (bs : List Int) : Bool := bs.all fun b => decide (0 ≤ b ∧ b < (((dd p).length : Nat) : Int))
noncomputable def shortB (may : List (List Int)) (p : List Int) (bs : List Int) : Bool := risB bs && inB p bs && decide ((dd (poolsU may p bs)).length < bs.length)
theorem shortB_of {may : List (List Int)} {p : List Int} {bs : List Nat} (s : Short (pools may p) bs) : shortB may p (bs.map fun (i : Nat) => (i : Int)) = true := by
  obtain ⟨X, hX, hq⟩ := s.few
  have lt : ∀ q ∈ bs, q < (dd p).length := fun q m => by
    obtain ⟨r, e, _⟩ := hq q m
    have := (List.getElem?_eq_some_iff.mp e).1
    rw [pools_len] at this
    exact this
  unfold shortB
  rw [Bool.and_eq_true, Bool.and_eq_true]
  refine ⟨⟨risB_iff.mpr ?_, ?_⟩, decide_eq_true ?_⟩
  · rw [List.pairwise_map]
    exact s.up.imp fun h => by omega
  · refine List.all_eq_true.mpr fun b hb => ?_
    obtain ⟨q, hq', e⟩ := List.mem_map.mp hb
    have := lt q hq'
    exact decide_eq_true (by omega)
  · rw [List.length_map]
    refine Nat.lt_of_le_of_lt ((dd_nd _).length_le_of_subset (l₂ := X) fun x hx => ?_) hX
    obtain ⟨b, hb, hx⟩ := List.mem_flatMap.mp (dd_mem.mp hx)
    obtain ⟨q, hq', e⟩ := List.mem_map.mp hb
    obtain ⟨r, er, hr⟩ := hq q hq'
    rw [pools_at (lt q hq')] at er
    cases er
    rw [← e, Int.toNat_natCast] at hx
    exact hr x hx
inductive ShowsIs (may : List (List Int)) (ts : List Tie) : List Int → GPap → Bool → Prop where
  | tie {p : List Int} {j : Int} {t : Tie} (h0 : 0 ≤ j) (h : ts[j.toNat]? = some t) : ShowsIs may ts p (.tie j) (brk (fun i => p.getD i 0) p.length t.1 t.2.1 t.2.2)
  | noTie {p : List Int} {j : Int} (h : ¬ (0 ≤ j ∧ j < (ts.length : Int))) : ShowsIs may ts p (.tie j) false
  | short {p : List Int} {bs : List Int} : ShowsIs may ts p (.short bs) (shortB may p bs)
  | noSplit {p : List Int} {ps : List GPap} (h : ¬ (p.length < may.length ∧ ps.length = (dd p).length + 1)) : ShowsIs may ts p (.split ps) false
  | split {p : List Int} {ps : List GPap} {bs : List Bool} (hl : p.length < may.length) (hn : ps.length = (dd p).length + 1) (hb : bs.length = ps.length) (h : ∀ (j : Nat) (q : GPap) (b : Bool), ps[j]? = some q → bs[j]? = some b → ShowsIs may ts (p ++ [(j : Int)]) q b) : ShowsIs may ts p (.split ps) (bs.all id)
theorem Shows.is {may : List (List Int)} {ts : List Tie} {p : List Int} {q : Pap} (s : Shows may ts p q) : ∀ {H : Hp} {v : V}, PapAt H v q → ∃ g, GPapAt H v g ∧ ShowsIs may ts p g true := by
  induction s with
  | @tie p j t h b =>
    intro H v a
    cases a with
    | tie ht =>
      have := ShowsIs.tie (may := may) (ts := ts) (p := p) (j := (j : Int)) (t := t) (by omega) (by rw [Int.toNat_natCast]; exact h)
      rw [b] at this
      exact ⟨.tie (j : Int), .tie ht, this⟩
  | @short p bs sh =>
    intro H v a
    cases a with
    | short ht hl =>
      have := ShowsIs.short (may := may) (ts := ts) (p := p) (bs := bs.map fun (i : Nat) => (i : Int))
      rw [shortB_of sh] at this
      exact ⟨_, .short ht (by rw [hl, List.map_map]; rfl), this⟩
  | @split p ps hl hn h ih =>
    intro H v a
    cases a with
    | @split t l vs _ ht hl' hvn hat =>
      have ex : ∀ j : Nat, ∃ g, j < ps.length → ∀ v', vs[j]? = some v' → GPapAt H v' g ∧ ShowsIs may ts (p ++ [(j : Int)]) g true := fun j => by
        by_cases z : j < ps.length
        · have z2 : j < vs.length := by omega
          obtain ⟨g, g1, g2⟩ := ih j ps[j] (List.getElem?_eq_getElem z) (hat j vs[j] ps[j] (List.getElem?_eq_getElem z2) (List.getElem?_eq_getElem z))
          exact ⟨g, fun _ v' e => by rw [List.getElem?_eq_getElem z2] at e; cases e; exact ⟨g1, g2⟩⟩
        · exact ⟨default, fun y => absurd y z⟩
      have gs : ((List.range ps.length).map fun j => Classical.choose (ex j)).length = ps.length := by simp
      refine ⟨.split ((List.range ps.length).map fun j => Classical.choose (ex j)), .split ht hl' (by omega) fun i v' q e1 e2 => ?_, ?_⟩
      · have hi := (List.getElem?_eq_some_iff.mp e2).1
        rw [gs] at hi
        rw [List.getElem?_map, List.getElem?_range hi] at e2
        have e2 : Classical.choose (ex i) = q := Option.some.inj e2
        rw [← e2]
        exact (Classical.choose_spec (ex i) hi v' e1).1
      · have all : (List.replicate ps.length true).all id = true := List.all_eq_true.mpr fun x hx => List.eq_of_mem_replicate hx
        have fin : ShowsIs may ts p (.split ((List.range ps.length).map fun j => Classical.choose (ex j))) ((List.replicate ps.length true).all id) := by
          refine .split hl (by omega) (by simp) fun j q b e1 e2 => ?_
          have hj := (List.getElem?_eq_some_iff.mp e1).1
          rw [gs] at hj
          rw [List.getElem?_map, List.getElem?_range hj] at e1
          have e1 : Classical.choose (ex j) = q := Option.some.inj e1
          rw [List.getElem?_replicate, if_pos hj] at e2
          cases e2
          rw [← e1]
          have z2 : j < vs.length := by omega
          exact (Classical.choose_spec (ex j) hj vs[j] (List.getElem?_eq_getElem z2)).2
        rw [all] at fin
        exact fin
end L2
set_option Elab.async false
set_option linter.all false
set_option maxRecDepth 100000
namespace L2
open PySem PySem.Spec PyProof.Rows
structure LSt (H : Hp) (L : Addr) (rs : List Addr) (ps : List (List Int)) (ms : List Int) (n : Nat) : Prop where
  hL : H L = some (.lst (rs.map V.ref))
  rows : RowsL H rs ps
  nin : L ∉ rs
  len : ps.length = n
  up : ∀ p ∈ ps, p.Pairwise (· < ·)
  sub : ∀ p ∈ ps, ∀ b ∈ p, b ∈ ms
theorem LSt.same {H H' : Hp} {L : Addr} {rs : List Addr} {ps : List (List Int)} {ms : List Int} {n : Nat} (h : LSt H L rs ps ms n) (s : Same H H') : LSt H' L rs ps ms n := ⟨s _ _ h.hL, h.rows.same s, h.nin, h.len, h.up, h.sub⟩
end L2
set_option Elab.async false
set_option linter.all false
set_option maxRecDepth 100000
namespace L2
open PySem PySem.Spec PyProof.Rows
theorem lo62 (n : Nat) : -(2 ^ 62) ≤ ((n : Nat) : Int) := by omega
theorem modN (c : Int) {n : Nat} (h : 0 < n) : ∃ m : Nat, m < n ∧ c % ((n : Nat) : Int) = ((m : Nat) : Int) := by
  have w1 := Int.emod_nonneg c (show ((n : Nat) : Int) ≠ 0 by omega)
  have w2 := Int.emod_lt_of_pos c (show (0 : Int) < ((n : Nat) : Int) by omega)
  exact ⟨(c % ((n : Nat) : Int)).toNat, by omega, by omega⟩
theorem ex1 {α : Type} {us : List α} (hl : us.length = 1) : ∃ a, us = [a] := by
  match us, hl with
  | [a], _ => exact ⟨a, rfl⟩
theorem ex2 {α : Type} {us : List α} (hl : us.length = 2) : ∃ a b, us = [a, b] := by
  match us, hl with
  | [a, b], _ => exact ⟨a, b, rfl⟩
theorem ex3 {α : Type} {us : List α} (hl : us.length = 3) : ∃ a b c, us = [a, b, c] := by
  match us, hl with
  | [a, b, c], _ => exact ⟨a, b, c, rfl⟩
end L2
set_option Elab.async false
set_option linter.all false
set_option maxRecDepth 100000
namespace L2
open PySem PySem.Spec PyProof.Rows
theorem Moved.eq_heap {wr : List Addr} {s s' : Shared} (m : Moved wr (fun a b => b = a) s s') : s' = { s with heap := s'.heap, toks := s'.toks } := by
  obtain ⟨h, g, d, t, os⟩ := s
  obtain ⟨h', g', d', t', os'⟩ := s'
  obtain ⟨_, e1, e2, e3, _⟩ := m
  simp only at e1 e2 e3
  subst e1 e2 e3
  rfl
section
variable {X : Cx}
end
section
variable {X : Cx}
end
end L2
set_option Elab.async false
set_option linter.all false
set_option maxRecDepth 100000
namespace L2
open PySem PySem.Spec PyProof.Rows
section
variable {prog : Program} {w : World} {A : Around} {E : Value → Shared → Prop} {h : Heap} {g : Array GenState} {d : PySem.Drawn} {t : Nat} {os : OsState} {a : Addr} {o : Obj}
end
section
variable {P : Program} {w : World} {A : Around} {R : Result → Shared → Prop} {p d I : Addr} {its : List Value} {vs : List (Key × Value)} {h0 : Heap}
end
section
variable {X : Cx}
end
end L2
set_option Elab.async false
set_option linter.all false
set_option maxRecDepth 100000
namespace L2
open PySem PySem.Spec PyProof.Rows
noncomputable def PairT (H : Hp) (a : Addr) (x : Int × Int) : Prop := H a = some (.tup [.int x.1, .int x.2])
noncomputable def TupsL (H : Hp) (ps : List Addr) (row : List (Int × Int)) : Prop := Paired (PairT H) ps row
noncomputable def RowAt (H : Hp) (r : Addr) (row : List (Int × Int)) : Prop := ∃ ps : List Addr, H r = some (.lst (ps.map V.ref)) ∧ TupsL H ps row
noncomputable def BillL (H : Hp) (rs : List Addr) (rows : List (List (Int × Int))) : Prop := Paired (RowAt H) rs rows
theorem pair_at {α β : Type} {F : α → β → Prop} : ∀ {l : List α} {r : List β} {i : Nat} {a : α}, Paired F l r → l[i]? = some a → ∃ b, r[i]? = some b ∧ F a b
  | _, _, _, _, .nil, e => by simp at e
  | _, _, 0, _, .cons h _, e => by simp at e; subst e; exact ⟨_, rfl, h⟩
  | _, _, i + 1, b, .cons _ t, e => by
    have e' := e
    rw [List.getElem?_cons_succ] at e'
    obtain ⟨a, ea, fa⟩ := pair_at t e'
    exact ⟨a, by rw [List.getElem?_cons_succ]; exact ea, fa⟩
theorem TupsL.same {H H' : Hp} {ps : List Addr} {row : List (Int × Int)} (h : TupsL H ps row) (s : Same H H') : TupsL H' ps row := Paired.mapP h fun _ _ q => s _ _ q
theorem TupsL.len {H : Hp} {ps : List Addr} {row : List (Int × Int)} (h : TupsL H ps row) : ps.length = row.length := Paired.length h
theorem RowAt.same {H H' : Hp} {r : Addr} {row : List (Int × Int)} (h : RowAt H r row) (s : Same H H') : RowAt H' r row := let ⟨ps, a, b⟩ := h; ⟨ps, s _ _ a, b.same s⟩
theorem BillL.same {H H' : Hp} {rs : List Addr} {rows : List (List (Int × Int))} (h : BillL H rs rows) (s : Same H H') : BillL H' rs rows := Paired.mapP h fun _ _ q => q.same s
theorem BillL.len {H : Hp} {rs : List Addr} {rows : List (List (Int × Int))} (h : BillL H rs rows) : rs.length = rows.length := Paired.length h
theorem BillL.at {H : Hp} {rs : List Addr} {rows : List (List (Int × Int))} (h : BillL H rs rows) {i : Nat} {row : List (Int × Int)} (e : rows[i]? = some row) : ∃ r, rs[i]? = some r ∧ RowAt H r row := pair_get h e
theorem BillL.get {H : Hp} {rs : List Addr} {rows : List (List (Int × Int))} (h : BillL H rs rows) {i : Nat} {r : Addr} (e : rs[i]? = some r) : ∃ row, rows[i]? = some row ∧ RowAt H r row := pair_at h e
theorem comp_pairs {K : PySem.W.Frag} {H1 : Hp} {js : List (Option Nat)} {σ : L2.St} {tc : TT} {te : TE} {Q : VK} {r : Addr} {ps : List Addr} {row : List (Int × Int)} (p : Nat → Bool) (P : Addr → Nat → V → Hp → Prop)
    (hr : SqL K H1 r (ps.map V.ref)) (ht : TupsL H1 ps row) (hn : row.length < 100000)
    (mono : ∀ acc i v H H', P acc i v H → SameBut acc H H' → P acc i v H')
    (hc : ∀ (i : Nat) x, row[i]? = some x → ∀ H2 R, Same H1 H2 → (∀ H3, Same H2 H3 → R (p i) H3) → tc (some (.int x.1) :: some (.int x.2) :: pick σ js) H2 R)
    (he : ∀ acc (i : Nat) x, row[i]? = some x → p i = true → ∀ H2 R, Same H1 H2 → H1 acc = none → H2 acc ≠ none → (∀ v H3, Same H2 H3 → P acc i v H3 → R v H3) → te (some (.int x.1) :: some (.int x.2) :: pick σ js) H2 R)
    (hQ : ∀ acc vs H', Same H1 H' → H1 acc = none → H' acc = some (.lst vs) → Paired (fun i v => P acc i v H') ((List.range row.length).filter p) vs → Q (.ref acc) H') :
    CompB (Itl K r) H1 (none :: none :: js) (gTup K 2 (gCons (gName 0) (gCons (gName 1) gNil))) tc te σ Q := by
  have hl := ht.len
  intro acc hacc
  refine ⟨fun i m ys H => m = row.length - i ∧ i ≤ row.length ∧ Same H1 H ∧ H acc = some (.lst ys) ∧ Paired (fun k v => P acc k v H) ((List.range i).filter p) ys, ⟨row.length, by simp, Nat.zero_le _, Same.new hacc, upd_same, .nil⟩, ?_⟩
  rintro i m ys H ⟨rfl, hi, s1, ha, hp⟩
  by_cases hlt : i < row.length
  · have hps : i < ps.length := by omega
    have ex : row[i]? = some row[i] := List.getElem?_eq_getElem hlt
    refine .inr ⟨⟨_, .ref ps[i], s1.seq hr, by simp [hps]⟩, fun ys' H' => i < row.length ∧ Same H1 H' ∧ H' acc = some (.lst ys') ∧ Paired (fun k v => P acc k v H') ((List.range (i + 1)).filter p) ys', fun ys' H' ⟨z, a, b, c⟩ => ⟨row.length - (i + 1), by omega, rfl, hlt, a, b, c⟩, fun x H' y => ?_⟩
    obtain ⟨rfl, y⟩ := y
    have y := y _ (s1.seq hr)
    rw [List.getElem?_map] at y
    obtain ⟨a, ea, rfl⟩ := Option.map_eq_some_iff.mp y
    obtain ⟨x', ex', ft⟩ := pair_at ht ea
    rw [ex] at ex'
    cases ex'
    refine ⟨a, _, rfl, SqT.of (s1 _ _ ft), rfl, _, _, rfl, _, _, rfl, rfl, kept2, hc i _ ex _ _ s1 fun H2 s2 => ⟨fun hb => ?_, fun hb => ?_⟩⟩
    · have ha2 := s2 _ _ ha
      refine he acc i _ ex hb _ _ (s1.trans s2) hacc (by rw [ha2]; simp) fun v H3 s3 pv => ?_
      have hlen : ys.length ≤ i := by
        rw [← Paired.length hp]
        exact Nat.le_trans (List.length_filter_le _ _) (by simp)
      refine ⟨s3 _ _ ha2, szn (by omega), hlt, ((s1.trans s2).trans s3).put hacc, upd_same, ?_⟩
      rw [List.range_succ, List.filter_append]
      have e : List.filter p [i] = [i] := by simp [hb]
      rw [e]
      refine Paired.snoc (Paired.mapP hp fun k v q => ?_) ?_
      · exact mono acc k v _ _ (mono acc k v _ _ q (s2.trans s3).but) SameBut.upd
      · exact mono acc i v _ _ pv SameBut.upd
    · refine ⟨hlt, s1.trans s2, s2 _ _ ha, ?_⟩
      rw [List.range_succ, List.filter_append]
      have e : List.filter p [i] = [] := by simp [hb]
      rw [e, List.append_nil]
      exact Paired.mapP hp fun k v q => mono acc k v _ _ q s2.but
  · have e : i = row.length := by omega
    subst e
    exact .inl ⟨⟨_, s1.seq hr, by rw [List.length_map]; omega⟩, hQ acc ys H s1 hacc ha hp⟩
noncomputable def look (row : List (Int × Int)) (b : Int) : Option Int := (row.find? fun x => x.1 == b).map (·.2)
theorem look_some {row : List (Int × Int)} {b c : Int} (h : look row b = some c) : (b, c) ∈ row := by
  unfold look at h
  obtain ⟨x, hx, e⟩ := Option.map_eq_some_iff.mp h
  have e1 := List.find?_some hx
  have e2 := List.mem_of_find?_eq_some hx
  have e3 : x.1 = b := by simpa using e1
  rw [← e3, ← e]
  exact e2
end L2
set_option Elab.async false
set_option linter.all false
set_option maxRecDepth 100000
namespace L2
open PySem PySem.Spec PyProof.Rows
theorem ixN_natE {n j : Nat} (h : j < n) : ixN n (j : Int) = some j := by
  unfold ixN
  rw [if_pos (by omega), if_pos (by omega), Int.toNat_natCast]
structure RowOk (bs : List Int) (tp : Int) (row : List (Int × Int)) : Prop where
  up : (row.map (·.1)).Pairwise (· < ·)
  inn : ∀ x ∈ row, x.1 ∈ bs ∧ 0 ≤ x.2 ∧ x.2 < tp
  len : row.length ≤ bs.length
theorem RowOk.nd {bs : List Int} {tp : Int} {row : List (Int × Int)} (h : RowOk bs tp row) : (row.map (·.1)).Nodup := lt_nd h.up
theorem TupsL.but {H : Hp} {l : Addr} {ps : List Addr} {row : List (Int × Int)} {xs : List V} {o : HO} (h : TupsL H ps row) (hl : H l = some (.lst xs)) : TupsL (upd H l o) ps row :=
  Paired.mapP h fun a x q => by
    show upd H l o a = _
    rw [upd_ne (fun z => by rw [PairT, z, hl] at q; cases q)]; exact q
theorem paired_snoc_len {α β : Type} {F : α → β → Prop} {l : List α} {r : List β} (h : Paired F l r) {a : α} {b : β} (q : F a b) : Paired F (l ++ [a]) (r ++ [b]) := Paired.snoc h q
end L2
set_option Elab.async false
set_option linter.all false
set_option maxRecDepth 100000
namespace L2
open PySem PySem.Spec PyProof.Rows
noncomputable def keysOf (row : List (Int × Int)) : List Int := row.map (·.1)
noncomputable def RowN (acc : Addr) (H : Hp) (r : Addr) (row : List (Int × Int)) : Prop := r ≠ acc ∧ ∃ ps : List Addr, H r = some (.lst (ps.map V.ref)) ∧ (∀ a ∈ ps, a ≠ acc) ∧ TupsL H ps row
theorem RowN.at {acc : Addr} {H : Hp} {r : Addr} {row : List (Int × Int)} (h : RowN acc H r row) : RowAt H r row := let ⟨_, ps, a, _, c⟩ := h; ⟨ps, a, c⟩
end L2
set_option Elab.async false
set_option linter.all false
set_option maxRecDepth 100000
namespace L2
open PySem PySem.Spec PyProof.Rows
section
variable {X : Cx}
theorem cRange1 : CallR X (.type "range") (fun xs H Q => ∃ n : Nat, xs = [.int (n : Int)] ∧ n ≤ 1000 ∧ ∀ r, H r = none → Q (.ref r) (upd H r (.rng 0 (n : Int)))) := by
  intro pins s σ H xs us Q I r h
  obtain ⟨n, e, hn, q⟩ := h
  subst e
  obtain ⟨u, e, rx⟩ := vals1 r
  subst e
  obtain ⟨t, e⟩ := rx
  subst e
  refine call_range_1 ?_
  exact ⟨.ref s.heap.objs.size, _, I.laid (fun b o e => Heap.get?_push_of_some _ e) (Nat.le_refl _) (show ObjOk X.prog X.w _ _ _ (.rng 0 (n : Int)) from ⟨_, _, _, Heap.get?_push_size _ rfl⟩), rfl, q _ (I.hok.fresh (Nat.le_refl _))⟩
theorem cListR (K : PySem.W.Frag) (hc : X.calm = true := by rfl) (hK : X.K = K := by rfl) : CallR X (.type "list") (fun xs H Q => ∃ (r : Addr) (n : Nat), xs = [.ref r] ∧ H r = some (.rng 0 (n : Int)) ∧ n ≤ 1000 ∧ ∀ l, H l = none → Q (.ref l) (upd H l (.lst ((List.range n).map fun (i : Nat) => V.int (i : Int))))) := by
  subst hK
  intro pins s σ H xs us Q I r h
  obtain ⟨a, n, e, hr, hn, q⟩ := h
  subst e
  obtain ⟨u, e, rx⟩ := vals1 r
  subst e
  cases rx
  obtain ⟨t, u, v, ho⟩ := (show ObjOk X.prog X.w H s.heap a (.rng 0 (n : Int)) from I.hok a _ hr)
  have e0 : Builtin.Range.rangeSize 0 (n : Int) 1 = n := by rw [rangeSize_one]; split <;> omega
  refine call_list_range (n := n) (I.ok.hd hc) ho (small_one (by decide) (by decide) (by omega) (by omega)) e0 (Nat.le_trans hn (by decide)) fun h' tk acc' c' kp ho' ia => ?_
  refine ⟨.ref s.heap.objs.size, _, I.laid (t' := tk) kp (Nat.le_refl _) (show ObjOk X.prog X.w _ h' _ (.lst ((List.range n).map fun (i : Nat) => V.int (i : Int))) from ⟨by rw [List.length_map, List.length_range, sizeLine_eq]; omega, acc'.toList, c', ?_, ?_⟩), rfl, q _ (I.hok.fresh (Nat.le_refl _))⟩
  · refine paired_of (by rw [List.length_map, List.length_range, Array.length_toList]; exact ia.1.symm) fun i x y ex ey => ?_
    rw [List.getElem?_map] at ex
    obtain ⟨j, ej, rfl⟩ := Option.map_eq_some_iff.mp ex
    obtain ⟨hj, ej⟩ := List.getElem?_eq_some_iff.mp ej
    rw [List.getElem_range] at ej
    subst ej
    obtain ⟨t, e⟩ := ia.2 i y (by rw [← Array.getElem?_toList]; exact ey)
    exact ⟨t, by rw [e]; simp⟩
  · rw [Array.toArray_toList]; exact ho'
end
end L2
set_option Elab.async false
set_option linter.all false
set_option maxRecDepth 100000
namespace L2
open PySem PySem.Spec PyProof.Rows
inductive GRk : Nat → GPap → Prop where
  | tie {r : Nat} {j : Int} : GRk r (.tie j)
  | short {r : Nat} {bs : List Int} : GRk r (.short bs)
  | split {r : Nat} {ps : List GPap} (h : ∀ q ∈ ps, GRk r q) : GRk (r + 1) (.split ps)
theorem GRk.up {r : Nat} {g : GPap} (h : GRk r g) : GRk (r + 1) g := by
  induction h with
  | tie => exact .tie
  | short => exact .short
  | split h ih => exact .split ih
noncomputable def hidA (lf : Addr) (H : Hp) : Hp := fun b => if b = lf then none else H b
theorem hidA_ne {lf b : Addr} {H : Hp} (h : b ≠ lf) : hidA lf H b = H b := if_neg h
noncomputable def Kept1 (lf : Addr) (H H' : Hp) : Prop := Same (hidA lf H) (hidA lf H') ∧ ∃ o, H' lf = some o
theorem Kept1.at {lf : Addr} {H H' : Hp} (k : Kept1 lf H H') {b : Addr} {o : HO} (n : b ≠ lf) (h : H b = some o) : H' b = some o := by
  have := k.1 b o (by rw [hidA_ne n]; exact h)
  rw [hidA_ne n] at this
  exact this
end L2
set_option Elab.async false
set_option linter.all false
set_option maxRecDepth 100000
namespace L2
open PySem PySem.Spec PyProof.Rows
noncomputable abbrev Rows := List (List (Int × Int))
noncomputable def du (ds : List (Int × Int)) (b : Int) : Int := (look ds b).getD 0
noncomputable def hA (hs : List (Option Int)) (j : Nat) : Option Int := hs.getD j none
noncomputable def pA (ps : List Int) (j : Nat) : Int := ps.getD j 0
theorem du_nn {ds : List (Int × Int)} (h : ∀ x ∈ ds, 0 ≤ x.2) (b : Int) : 0 ≤ du ds b := by
  unfold du
  cases e : look ds b with
  | none => exact Int.le_refl _
  | some d => exact h _ (look_some e)
end L2
set_option Elab.async false
set_option linter.all false
set_option maxRecDepth 100000
namespace L2
open PySem PySem.Spec PyProof.Rows
section
variable {X : Cx}
end
noncomputable def encP (ds : List (Int × Int)) : List (Key × V) := ds.map fun x => (Sum.inl x.1, V.int x.2)
theorem encP_val (ds : List (Int × Int)) (b : Int) : valV (encP ds) (Sum.inl b) = (look ds b).map V.int := by
  induction ds with
  | nil => rfl
  | cons x ds ih =>
    unfold valV look encP at *
    rw [List.map_cons, List.find?_cons, List.find?_cons]
    by_cases z : x.1 = b
    · have z1 : (x.1 == b) = true := by simp [z]
      have z2 : decide ((Sum.inl x.1 : Key) = Sum.inl b) = true := by simp [z]
      simp only [z1, z2]
      rfl
    · have z1 : (x.1 == b) = false := beq_false_of_ne z
      have z2 : decide ((Sum.inl x.1 : Key) = Sum.inl b) = false := by simp [z]
      simp only [z1, z2]
      exact ih
noncomputable def putD (ds : List (Int × Int)) (b d : Int) : List (Int × Int) := if b ∈ ds.map (·.1) then ds.map fun x => if x.1 = b then (b, d) else x else ds ++ [(b, d)]
end L2
set_option Elab.async false
set_option linter.all false
set_option maxRecDepth 100000
namespace L2
open PySem PySem.Spec PyProof.Rows
theorem encP_put (ds : List (Int × Int)) (b d : Int) : putK (encP ds) (Sum.inl b) (.int d) = encP (putD ds b d) := by
  unfold putK putD
  have e : ((encP ds).any fun kv => decide (kv.1 = Sum.inl b)) = decide (b ∈ ds.map (·.1)) := by
    rw [Bool.eq_iff_iff, List.any_eq_true, decide_eq_true_iff]
    unfold encP
    constructor
    · rintro ⟨x, hx, e⟩
      obtain ⟨y, hy, rfl⟩ := List.mem_map.mp hx
      have := Sum.inl.inj (of_decide_eq_true e)
      exact List.mem_map.mpr ⟨y, hy, this⟩
    · intro h
      obtain ⟨y, hy, e⟩ := List.mem_map.mp h
      exact ⟨(Sum.inl y.1, V.int y.2), List.mem_map.mpr ⟨y, hy, rfl⟩, by simp [e]⟩
  rw [e]
  by_cases z : b ∈ ds.map (·.1)
  · rw [if_pos (by simpa using z), if_pos z]
    unfold encP
    rw [List.map_map, List.map_map]
    apply List.map_congr_left
    intro x _
    show (if (Sum.inl x.1 : Key) = Sum.inl b then _ else _) = _
    by_cases y : x.1 = b
    · rw [if_pos (by rw [y])]
      show (Sum.inl x.1, V.int d) = (fun x : Int × Int => ((Sum.inl x.1 : Key), V.int x.2)) (if x.1 = b then (b, d) else x)
      rw [if_pos y, y]
    · rw [if_neg (fun h => y (Sum.inl.inj h))]
      show _ = (fun x : Int × Int => ((Sum.inl x.1 : Key), V.int x.2)) (if x.1 = b then (b, d) else x)
      rw [if_neg y]
  · rw [if_neg (by simpa using z), if_neg z]
    unfold encP
    rw [List.map_append]; rfl
theorem putD_keys {ds : List (Int × Int)} {b d : Int} (h : b ∈ ds.map (·.1)) : (putD ds b d).map (·.1) = ds.map (·.1) := by
  unfold putD
  rw [if_pos h, List.map_map]
  apply List.map_congr_left
  intro x _
  show (if x.1 = b then (b, d) else x).1 = x.1
  split
  · rename_i e; exact e.symm
  · rfl
theorem putD_look (ds : List (Int × Int)) (b d c : Int) : look (putD ds b d) c = if c = b then some d else look ds c := by
  have h := valV_put (encP ds) (Sum.inl b : Key) (Sum.inl c) (.int d)
  rw [encP_put, encP_val, encP_val] at h
  by_cases z : c = b
  · rw [if_pos (by rw [z])] at h
    rw [if_pos z]
    obtain ⟨v, e1, e2⟩ := Option.map_eq_some_iff.mp h
    cases e2
    exact e1
  · rw [if_neg (fun y => z (Sum.inl.inj y))] at h
    rw [if_neg z]
    cases e : look ds c with
    | none => rw [e] at h; exact Option.map_eq_none_iff.mp h
    | some v =>
      rw [e] at h
      obtain ⟨v', e1, e2⟩ := Option.map_eq_some_iff.mp h
      cases e2
      exact e1
theorem putD_mem {ds : List (Int × Int)} {b d : Int} {x : Int × Int} (h : x ∈ putD ds b d) : x ∈ ds ∨ x = (b, d) := by
  unfold putD at h
  split at h
  · obtain ⟨y, hy, e⟩ := List.mem_map.mp h
    split at e
    · exact .inr e.symm
    · rw [← e]; exact .inl hy
  · rcases List.mem_append.mp h with z | z
    · exact .inl z
    · exact .inr (List.mem_singleton.mp z)
structure RaD (Ks : List Int) (g : Int) (ds ds' : List (Int × Int)) : Prop where
  ky : ds'.map (·.1) = ds.map (·.1)
  nn : (∀ x ∈ ds, 0 ≤ x.2) → ∀ x ∈ ds', 0 ≤ x.2
  dr : ∀ b, du ds' b = du ds b + if b ∈ Ks then g else 0
theorem RaD.step {Ks : List Int} {g b : Int} {ds ds' : List (Int × Int)} (r : RaD Ks g ds ds') (g0 : 0 ≤ g) (hb : b ∉ Ks) (hk : b ∈ ds.map (·.1)) : RaD (Ks ++ [b]) g ds (putD ds' b (du ds' b + g)) := by
  have hk' : b ∈ ds'.map (·.1) := by rw [r.ky]; exact hk
  refine ⟨by rw [putD_keys hk', r.ky], fun h x hx => ?_, fun c => ?_⟩
  · rcases putD_mem hx with z | z
    · exact r.nn h x z
    · rw [z]
      have := du_nn (r.nn h) b
      show 0 ≤ du ds' b + g
      omega
  · have e : du (putD ds' b (du ds' b + g)) c = if c = b then du ds' b + g else du ds' c := by
      show (look (putD ds' b (du ds' b + g)) c).getD 0 = _
      rw [putD_look]
      split <;> rfl
    rw [e, r.dr c]
    by_cases z : c = b
    · subst z
      rw [if_pos rfl, r.dr, if_neg hb, if_pos (by simp)]
      omega
    · rw [if_neg z]
      have : c ∈ Ks ++ [b] ↔ c ∈ Ks := by simp [z]
      by_cases y : c ∈ Ks
      · rw [if_pos y, if_pos (this.mpr y)]
      · rw [if_neg y, if_neg fun h => y (this.mp h)]
structure RaP (R : List Nat) (g : Int) (ps ps' : List Int) : Prop where
  lp : ps'.length = ps.length
  pr : ∀ j, pA ps' j = pA ps j + if j ∈ R then g else 0
theorem pA_set {ps : List Int} {q j : Nat} {v : Int} (h : q < ps.length) : pA (ps.set q v) j = if j = q then v else pA ps j := by
  unfold pA
  rw [List.getD_eq_getElem?_getD, List.getD_eq_getElem?_getD, List.getElem?_set]
  by_cases z : q = j
  · subst z
    rw [if_pos rfl, if_pos h, if_pos rfl]; rfl
  · rw [if_neg z, if_neg fun y => z y.symm]
theorem RaP.step {R : List Nat} {g : Int} {q : Nat} {ps ps' : List Int} (r : RaP R g ps ps') (hq : q ∉ R) (hl : q < ps.length) : RaP (R ++ [q]) g ps (ps'.set q (pA ps' q + g)) := by
  refine ⟨by rw [List.length_set, r.lp], fun c => ?_⟩
  rw [pA_set (by rw [r.lp]; exact hl), r.pr c]
  by_cases z : c = q
  · subst z
    rw [if_pos rfl, r.pr, if_neg hq, if_pos (by simp)]
    omega
  · rw [if_neg z]
    have : c ∈ R ++ [q] ↔ c ∈ R := by simp [z]
    by_cases y : c ∈ R
    · rw [if_pos y, if_pos (this.mpr y)]
    · rw [if_neg y, if_neg fun h => y (this.mp h)]
theorem take_snoc {α : Type} {l : List α} {i : Nat} {x : α} (h : l[i]? = some x) : l.take (i + 1) = l.take i ++ [x] := by
  rw [List.take_add_one, h]; rfl
noncomputable def FndAt (H0 H : Hp) (f : Option (Int × Int × Nat)) (v : V) : Prop := match f with
  | none => v = .non
  | some t => ∃ p, v = .ref p ∧ H0 p = none ∧ H p = some (.tup [.int t.1, .int t.2.1, .int (t.2.2 : Int)])
theorem FndAt.same {H0 H H' : Hp} {f : Option (Int × Int × Nat)} {v : V} (h : FndAt H0 H f v) (s : Same H H') : FndAt H0 H' f v := by
  cases f with
  | none => exact h
  | some t => obtain ⟨p, e, n, hp⟩ := h; exact ⟨p, e, n, s _ _ hp⟩
end L2
set_option Elab.async false
set_option linter.all false
set_option maxRecDepth 100000
namespace L2
open PySem PySem.Spec PyProof.Rows PySem.W
end L2
set_option Elab.async false
set_option linter.all false
set_option maxRecDepth 100000
namespace L2
open PySem PySem.Spec PyProof.Rows PySem.W
section
variable {prog : Program} {w : World} {A : Around} {E : Value → Shared → Prop} {s : Shared}
end
end L2
set_option Elab.async false
set_option linter.all false
set_option maxRecDepth 100000
namespace L2
open PySem PySem.Spec PyProof.Rows PySem.W
theorem ObjOk.get {P : Program} {w : World} {H : Hp} {h : Heap} {a : Addr} {o : HO} (x : ObjOk P w H h a o) : ∃ u, h.get? a = some u := by
  cases o with
  | lst xs => obtain ⟨_, _, _, _, e⟩ := x; exact ⟨_, e⟩
  | tup xs => obtain ⟨_, _, _, o, e, _⟩ := x; exact ⟨_, e⟩
  | dK kvs => obtain ⟨_, _, _, _, o, _, _, e, _⟩ := x; exact ⟨_, e⟩
  | dT kvs => obtain ⟨_, _, _, _, o, _, _, e, _⟩ := x; exact ⟨_, e⟩
  | set S n => obtain ⟨o, _, _, _, e, _⟩ := x; exact ⟨_, e⟩
  | ins C dx fs => obtain ⟨_, _, _, e, _⟩ := x; exact ⟨_, e⟩
  | own y => obtain ⟨_, e⟩ := x; exact ⟨_, e⟩
  | xd fs => obtain ⟨_, ⟨_, _, _, e, _⟩, _⟩ := x; exact ⟨_, e⟩
  | rng lo hi => obtain ⟨_, _, _, e⟩ := x; exact ⟨_, e⟩
  | frz ob u => obtain ⟨e, _⟩ := x; exact ⟨_, e⟩
  | tbl ps => exact ⟨_, show h.get? a = some _ from x⟩
  | met f y => exact ⟨_, show h.get? a = some _ from x⟩
  | ext φ => obtain ⟨_, ⟨_, e⟩, _⟩ := x; exact ⟨_, e⟩
section
variable {X : Cx}
end
theorem rep_flat {α : Type} (x : α) (n : Nat) : (List.replicate n [x]).flatten = List.replicate n x := by
  induction n with
  | zero => rfl
  | succ n ih => rw [List.replicate_succ, List.flatten_cons, ih, List.replicate_succ]; rfl
end L2
set_option Elab.async false
set_option linter.all false
namespace L2
open PySem PySem.Spec PyProof.Rows PySem.W
noncomputable def tLRev (K : PySem.W.Frag) (ta : TA) : TE := fun σ H Q => ta σ H fun vs H1 => ∃ p xs, vs = [.ref p] ∧ SqL K H1 p xs ∧ xs.length ≤ 1000 ∧ ∀ l, H1 l = none → Q (.ref l) (upd H1 l (.lst xs.reverse))
end L2
set_option Elab.async false
set_option linter.all false
set_option maxRecDepth 100000
namespace L2
open PySem PySem.Spec PyProof.Rows PySem.W
theorem nolen_lri : typeLookup (.type "list_reverseiterator") "__len__" = pure none := by rw [typeLookup_type, builtinLookup_eq_fast]; kernel_rfl
theorem hint_lri : typeLookup (.type "list_reverseiterator") "__length_hint__" = pure (some (.builtin "list_reverseiterator.__length_hint__")) := by rw [typeLookup_type, builtinLookup_eq_fast]; kernel_rfl
section
variable {prog : Program} {w : World} {A : Around} {E : Value → Shared → Prop} {s : Shared}
theorem hint_rev {r l : Addr} {i : Int} {Q : Bool → Shared → Prop} (hit : s.heap.IsRevIter r l i) (h : Q false s) : wpAny (model prog w) A (Builtin.List.listLengthHint (.ref r)) Q E s := by
  unfold Builtin.List.listLengthHint
  refine wpAny_bind (wpAny_specialOf hit.typeIs nolen_lri ?_)
  show wpAny _ A (specialOf (Value.ref r) (Str.ofString "__length_hint__") >>= _) _ _ _
  refine wpAny_bind (wpAny_specialOf hit.typeIs hint_lri ?_)
  (generalize hid : ("list_reverseiterator.__length_hint__" : String) = id0; (fail_if_success (clear hid id0)); wp_delta; rw [show splitId id0 = some ("list_reverseiterator", "__length_hint__") from by subst hid; decide +kernel]; subst hid)
  refine wpAny_bind (wpAny_isInstance (b := true) hit.typeIs (by rw [isSubtype_type]; kernel_rfl) ?_)
  exact wpAny_pure h
theorem call_list_rev {Q : Value → Shared → Prop} {I l : Addr} {items : Array Value} (hh : A.handled = none) (hit : s.heap.IsRevIter I l ((items.size : Int) - 1)) (hl : s.heap.IsList l items) (hne : l ≠ I) (hn : items.size ≤ sizeLine)
    (hQ : ∀ h' tk acc' c', (∀ b o, b ≠ I → s.heap.get? b = some o → h'.get? b = some o) → h'.get? s.heap.objs.size = some { cls := .type "list", dict := none, data := .seq acc' c', slots := #[] } → ItemsOf (fun i v => items[items.size - 1 - i]? = some v) acc' items.size → Q (.ref s.heap.objs.size) { s with heap := h', toks := tk }) :
    wpAny (model prog w) A (call (.type "list") [.ref I]) Q E s := by
  refine callType_codes (Q₁ := fun obj s₁ => obj = .ref s.heap.objs.size ∧ s₁ = { s with heap := s.heap.push { cls := .type "list", data := .seq #[] } }) PySem.F.called_list (PySem.F.typeCall_list_1 _) PySem.F.entry_list_init
    (code_list_new _ ⟨rfl, rfl⟩) fun obj s₁ h₁ => ?_
  obtain ⟨rfl, rfl⟩ := h₁
  have hS : (s.heap.push { cls := .type "list", data := .seq #[] }).get? s.heap.objs.size = some { cls := .type "list", data := .seq #[] } := Heap.get?_push_size _ rfl
  have hIl : I < s.heap.objs.size := by obtain ⟨o, ho, _⟩ := hit; exact Heap.lt_size ho
  have hll : l < s.heap.objs.size := by obtain ⟨o, ho, _⟩ := hl; exact Heap.lt_size ho
  refine ⟨⟨_, hS, rfl⟩, PySem.F.args_list_init_2 _ _, ?_⟩
  have lt : ∀ b o, s.heap.get? b = some o → b < s.heap.objs.size := fun b o e => Heap.lt_size e
  generalize s.heap.objs.size = S at *
  show wpAny _ _ (do let old ← Builtin.List.listItems (.ref S); Builtin.List.listUpdate (.ref S) (fun _ => #[]); letGo old.toList.reverse; Builtin.List.listExtendWith (.ref S) (.ref I) .none) _ _ _
  refine wpAny_bind ?_
  unfold Builtin.List.listItems
  refine wpAny_bind (wpAny_seqItems hS rfl (wpAny_pure ?_))
  show wpAny _ _ (updateSeq S (fun _ => #[]) >>= fun _ => letGo (#[] : Array Value).toList.reverse >>= fun _ => Builtin.List.listExtendWith (.ref S) (.ref I) .none) _ _ _
  refine wpAny_bind (wpAny_updateSeq hS rfl ?_)
  have hS₂ := Heap.get?_update_self (Obj.mapSeq (fun _ => (#[] : Array Value))) hS rfl
  have oth : ∀ b o, s.heap.get? b = some o → ((s.heap.push { cls := .type "list", data := .seq #[] }).update S (Obj.mapSeq (fun _ => (#[] : Array Value)))).get? b = some o :=
    fun b o e => (Heap.get?_update_other _ _ (Nat.ne_of_gt (lt b o e))).trans (Heap.get?_push_of_some _ e)
  refine wpAny_bind (wpAny_letGo ?_)
  have hit2 := hit.at (oth I)
  have hl2 := hl.at (oth l)
  unfold Builtin.List.listExtendWith
  refine wpAny_bind (wpAny_typeOf (T := "list_reverseiterator") hit2.typeIs ?_)
  have h1 : Builtin.List.listSameRef (.ref S) (.ref I) = false := by simp [Builtin.List.listSameRef, Nat.ne_of_gt hIl]
  rw [if_neg (by rw [h1]; decide)]
  refine wpAny_bind (wpAny_pyIter_revIter hit2 ?_)
  refine wpAny_bind (wpAny_holding (hint_rev hit2 ?_))
  rw [if_neg (by decide)]
  have hSf : S ∉ [I, l] := by
    simp only [List.mem_cons, List.not_mem_nil, or_false, not_or]
    exact ⟨Nat.ne_of_gt hIl, Nat.ne_of_gt hll⟩
  refine wpAny_pure ⟨plainId_quiet PySem.F.plain_extend_loop _, codeAny_extend_loopS (Walks.listRev (A := A.in1.in1) hh I l hne items).toS hn S hSf .none items.size 0 _ #[] _ rfl (Nat.zero_le _) ⟨Nat.zero_le _, by simpa using hit2, hl2⟩ hS₂ (ItemsOf.nil _) fun s' acc' c' hm hS' hacc => ?_⟩
  rw [Moved.eq_heap hm]
  refine ⟨rfl, hQ s'.heap s'.toks acc' c' (fun b o hb e => hm.heap b o (fun hmem => ?_) (oth b o e)) hS' hacc⟩
  rcases List.mem_cons.mp hmem with e' | hmem
  · exact Nat.ne_of_lt (lt b o e) e'
  · exact hb (List.mem_singleton.mp hmem)
end
section
variable {X : Cx}
theorem pe_lrev {a : Expr} {ta : TA} {p1 p2 pos1 pos2 : Pos} (K : PySem.W.Frag) (hg : Gl X "list") (hm : X.mg "list" = none) (hg2 : Gl X "reversed") (hm2 : X.mg "reversed" = none) (ha : PA X [a] ta) (hK : X.K = K := by rfl) (hc : X.calm = true := by rfl) (hs : starEach [a] X.env = [(false, eval a X.env)] := by rfl) :
    PE X (.Call (.Name "list" p1) [.Call (.Name "reversed" p2) [a] [] pos2] [] pos1) (tLRev K ta) := by
  subst hK
  intro pins s σ H Q I h
  refine Call_ (ld_blt I hg hm boot_list (PyProof.Rows.callWith_type1 ?_ (by rfl) (by rfl)))
  show wpAny _ _ (spliced [(false, eval (.Call (.Name "reversed" p2) [a] [] pos2) X.env)]) _ _ s
  refine Calls.spliced_cons ?_
  refine Call_ (ld_blt I hg2 hm2 boot_reversed (PyProof.Rows.callWith_type1 (thn (ha pos2 pins s σ H _ I h) fun us s1 ⟨vs, H1, I1, r1, q1⟩ => ?_) (by rw [hs]; rfl) (by rfl)))
  obtain ⟨l1, xs, e, hq1, hn1, q⟩ := q1
  subst e
  cases r1 with
  | cons r rr =>
    cases rr
    cases r
    obtain ⟨its1, rv1, p1, hz⟩ := I1.list hq1
    have hl := rv1.length
    refine call_reversed_list p1.isList ?_
    refine Calls.spliced_nil ?_
    have hl1 : l1 < s1.heap.objs.size := by obtain ⟨o, ho, _⟩ := p1.isList; exact Heap.lt_size ho
    have hit : (s1.heap.push (revObj l1 ((its1.toArray.size : Int) - 1))).IsRevIter s1.heap.objs.size l1 ((its1.toArray.size : Int) - 1) := ⟨_, Heap.get?_push_size _ rfl, rfl, rfl⟩
    refine call_list_rev (I1.ok.hd hc) hit (p1.isList.at fun o e => Heap.get?_push_of_some _ e) (Nat.ne_of_lt hl1) (by rw [List.size_toArray, ← hl]; exact hz) fun h' tk acc' c' kp ho' ia => ?_
    refine ⟨.ref _, _, I1.laid (t' := tk) (fun b o e => kp b o (Nat.ne_of_lt (Heap.lt_size e)) (Heap.get?_push_of_some _ e)) (by show _ ≤ (s1.heap.push _).objs.size; rw [Heap.size_push]; omega) (show ObjOk X.prog X.w _ h' _ (.lst xs.reverse) from ⟨by rw [List.length_reverse]; exact hz, acc'.toList, c', ?_, ?_⟩), rfl, q _ (I1.hok.fresh (by show _ ≤ (s1.heap.push _).objs.size; rw [Heap.size_push]; omega))⟩
    · refine paired_of (by have h3 := ia.1; simp at h3 ⊢; omega) fun i x y ex ey => ?_
      have hi := (List.getElem?_eq_some_iff.mp ex).1
      rw [List.length_reverse] at hi
      rw [List.getElem?_reverse hi] at ex
      have e2 := ia.2 i y (by rw [← Array.getElem?_toList]; exact ey)
      rw [List.size_toArray, ← hl] at e2
      obtain ⟨u, hu, ru⟩ := rv1.get ex
      have : y = u := by
        have e3 : its1[xs.length - 1 - i]? = some y := by simpa using e2
        rw [e3] at hu; exact Option.some.inj hu
      subst this
      exact ru
    · rw [Array.toArray_toList]; exact ho'
end
end L2
set_option Elab.async false
set_option linter.all false
set_option maxRecDepth 100000
namespace L2
open PySem PySem.Spec PyProof.Rows PySem.W
noncomputable def cstR : Rows → List Int → Int
  | r :: rs, h :: hs => (look r h).getD 0 + cstR rs hs
  | _, _ => 0
inductive DP : Rows → List Int → Prop
  | nil : DP [] []
  | cons {r : List (Int × Int)} {h : Int} {rs : Rows} {hs : List Int} : h ∈ keysOf r → DP rs hs → DP (r :: rs) (h :: hs)
theorem DP.len {rows : Rows} {hs : List Int} (h : DP rows hs) : hs.length = rows.length := by
  induction h with
  | nil => rfl
  | cons _ _ ih => rw [List.length_cons, List.length_cons, ih]
theorem DP.split {A B : Rows} : ∀ {hs : List Int}, DP (A ++ B) hs → ∃ ha hb, hs = ha ++ hb ∧ DP A ha ∧ DP B hb := by
  induction A with
  | nil => intro hs h; exact ⟨[], hs, rfl, .nil, h⟩
  | cons r A ih =>
    intro hs h
    rw [List.cons_append] at h
    cases h with
    | cons hm t =>
      obtain ⟨ha, hb, rfl, h1, h2⟩ := ih t
      exact ⟨_ :: ha, hb, rfl, .cons hm h1, h2⟩
noncomputable def Best (rows : Rows) : Option Int → Prop
  | none => ∀ hs, DP rows hs → ¬ hs.Nodup
  | some t => (∃ hs, DP rows hs ∧ hs.Nodup ∧ cstR rows hs = t) ∧ ∀ hs, DP rows hs → hs.Nodup → t ≤ cstR rows hs
theorem Best.uniq {rows : Rows} {o o' : Option Int} (h : Best rows o) (h' : Best rows o') : o = o' := by
  cases o with
  | none =>
    cases o' with
    | none => rfl
    | some t => obtain ⟨⟨hs, d, nd, _⟩, _⟩ := h'; exact absurd nd (h hs d)
  | some t =>
    cases o' with
    | none => obtain ⟨⟨hs, d, nd, _⟩, _⟩ := h; exact absurd nd (h' hs d)
    | some t' =>
      obtain ⟨⟨hs, d, nd, e⟩, l⟩ := h
      obtain ⟨⟨hs', d', nd', e'⟩, l'⟩ := h'
      have := l hs' d' nd'
      have := l' hs d nd
      congr 1; omega
theorem cst_nn {rows : Rows} {hs : List Int} (ok : ∀ row ∈ rows, ∀ x ∈ row, 0 ≤ x.2) : 0 ≤ cstR rows hs := by
  induction rows generalizing hs with
  | nil => exact Int.le_refl _
  | cons r rs ih =>
    cases hs with
    | nil => exact Int.le_refl _
    | cons h hs =>
      show 0 ≤ _ + _
      have h1 := ih (hs := hs) fun row hr => ok row (List.mem_cons_of_mem _ hr)
      cases e : look r h with
      | none => show 0 ≤ 0 + _; omega
      | some c => have := ok r List.mem_cons_self _ (look_some e); show 0 ≤ c + _; simp only at this; omega
theorem Best.nn {rows : Rows} {t : Int} (ok : ∀ row ∈ rows, ∀ x ∈ row, 0 ≤ x.2) (h : Best rows (some t)) : 0 ≤ t := by
  obtain ⟨⟨hs, _, _, e⟩, _⟩ := h
  have := cst_nn (hs := hs) ok
  omega
theorem Best.nil {o : Option Int} (h : Best [] o) : o = some 0 := h.uniq ⟨⟨[], .nil, List.nodup_nil, rfl⟩, fun hs _ _ => by cases hs <;> exact Int.le_refl _⟩
end L2
set_option Elab.async false
set_option linter.all false
set_option maxRecDepth 100000
namespace L2
open PySem PySem.Spec PyProof.Rows PySem.W
theorem filter_at {α : Type} (row : List (Int × Int)) (d : Int × Int) (p : Int × Int → Bool) (f : Int × Int → α) : ((List.range row.length).filter fun i => p (row.getD i d)).map (fun i => f (row.getD i d)) = (row.filter p).map f := by
  have e : (List.range row.length).map (fun i => row.getD i d) = row := by
    apply List.ext_getElem
    · rw [List.length_map, List.length_range]
    · intro i h1 h2
      rw [List.getElem_map, List.getElem_range, List.getD_eq_getElem?_getD, List.getElem?_eq_getElem h2]
      rfl
  have := congrArg (fun l => (l.filter p).map f) e
  simp only [List.filter_map, List.map_map] at this
  exact this
noncomputable def ahd (es : List (Int × Int)) (s : Int) : List Int := (es.filter fun x => decide (x.2 = s)).map (·.1)
noncomputable def frB (es : List (Int × Int)) (ts : List Int) (s : Int) : Bool := !decide (s ∈ ts) && (ahd es s).all fun a => decide (a ∈ ts)
noncomputable def dnS (dn : List (Option Int)) : List Int := ((List.range dn.length).filter fun i => (dn.getD i none).isSome).map fun (i : Nat) => (i : Int)
theorem mem_dnS {dn : List (Option Int)} {s : Int} : s ∈ dnS dn ↔ ∃ i : Nat, s = (i : Int) ∧ i < dn.length ∧ (dn.getD i none).isSome = true := by
  unfold dnS
  rw [List.mem_map]
  constructor
  · rintro ⟨i, hi, rfl⟩
    rw [List.mem_filter, List.mem_range] at hi
    exact ⟨i, rfl, hi.1, hi.2⟩
  · rintro ⟨i, rfl, h1, h2⟩
    exact ⟨i, by rw [List.mem_filter, List.mem_range]; exact ⟨h1, h2⟩, rfl⟩
theorem decV {a b : Int} : decide (V.int a = V.int b) = decide (a = b) := by simp
theorem comp_pairsF {K : PySem.W.Frag} {H1 : Hp} {js : List (Option Nat)} {σ : L2.St} {tc : TT} {te : TE} {Q : VK} {r : Addr} {row : List (Int × Int)} (p : Int × Int → Bool) (f : Int × Int → V)
    (hr : RowAt H1 r row) (hn : row.length < 100000)
    (hc : ∀ (i : Nat) x, row[i]? = some x → ∀ H2 R, Same H1 H2 → (∀ H3, Same H2 H3 → R (p x) H3) → tc (some (.int x.1) :: some (.int x.2) :: pick σ js) H2 R)
    (he : ∀ (i : Nat) x, row[i]? = some x → ∀ H2 R, Same H1 H2 → (∀ H3, Same H2 H3 → R (f x) H3) → te (some (.int x.1) :: some (.int x.2) :: pick σ js) H2 R)
    (hQ : ∀ acc H', Same H1 H' → H1 acc = none → H' acc = some (.lst ((row.filter p).map f)) → Q (.ref acc) H') :
    CompB (Itl K r) H1 (none :: none :: js) (gTup K 2 (gCons (gName 0) (gCons (gName 1) gNil))) tc te σ Q := by
  obtain ⟨ps, h1, h2⟩ := hr
  refine comp_pairs (ps := ps) (row := row) (fun i => p (row.getD i (0, 0))) (fun _ i v _ => v = f (row.getD i (0, 0))) (SqL.of h1) h2 hn (fun _ _ _ _ _ h _ => h) (fun i x ex H2 R s k => hc i x ex H2 R s fun H3 s3 => ?_) (fun acc i x ex _ H2 R s _ _ k => he i x ex H2 R s fun H3 s3 => k _ H3 s3 ?_) fun acc vs H' s n e pp => ?_
  · have := k H3 s3
    rw [List.getD_eq_getElem?_getD, ex] at this
    exact this
  · rw [List.getD_eq_getElem?_getD, ex]; rfl
  · exact hQ acc H' s n (by rw [e, paired_map pp, filter_at row (0, 0) p f])
theorem map_atI {α : Type} (L : List Int) (g : Int → α) : ((List.range L.length).filter (fun _ => true)).map (fun i => g (L.getD i 0)) = L.map g := by
  rw [List.filter_eq_self.mpr (fun _ _ => rfl)]
  apply List.ext_getElem
  · simp
  · intro i h1 h2
    rw [List.length_map] at h2
    rw [List.getElem_map, List.getElem_map, List.getElem_range, List.getD_eq_getElem?_getD, List.getElem?_eq_getElem h2]
    rfl
theorem RowAt.put {Hx : Hp} {o t : Addr} {ps : List Addr} {row : List (Int × Int)} {x : Int × Int} (hp : Hx o = some (.lst (ps.map V.ref))) (tx : TupsL Hx ps row) (nt : Hx t = none) : RowAt (upd (upd Hx t (.tup [.int x.1, .int x.2])) o (.lst (ps.map V.ref ++ [.ref t]))) o (row ++ [x]) := by
  have stx := Same.new (o := .tup [.int x.1, .int x.2]) nt
  have hp' := stx _ _ hp
  refine ⟨ps ++ [t], by rw [upd_same, List.map_append]; rfl, TupsL.but (paired_snoc_len (tx.same stx) (show PairT _ t x from upd_same)) hp'⟩
end L2
set_option Elab.async false
set_option linter.all false
set_option maxRecDepth 100000
namespace L2
open PySem PySem.Spec PyProof.Rows PySem.W
theorem vals_refs : ∀ {as : List Addr} {us : List Value}, Vals (as.map V.ref) us → us = as.map Value.ref
  | [], _, h => by cases h; rfl
  | a :: as, _, h => by
    cases h with
    | cons r t => cases r; rw [vals_refs t]; rfl
noncomputable def rInR (K : PySem.W.Frag) (neg : Bool) : R2 := fun x y H Q => ∃ (p : Addr) (as : List Addr) (d : Nat) (f : Addr → Bool), y = .ref p ∧ SqL K H p (as.map V.ref) ∧ d < 60 ∧ (∀ a ∈ as, DEq K H d (.ref a) x (f a)) ∧ Q (.bl (if neg then !as.any f else as.any f)) H
noncomputable def refB (f : Addr → Bool) : Value → Bool
  | .ref a => f a
  | _ => false
section
variable {X : Cx}
theorem any_refB (as : List Addr) (f : Addr → Bool) : (as.map Value.ref).toArray.any (refB f) = as.any f := by
  rw [List.any_toArray, List.any_map]; rfl
theorem inR (K : PySem.W.Frag) (hu : X.A.units + 64 < cLine) (hK : X.K = K := by rfl) : OpR X (compareOp .In) (rInR K false) := by
  subst hK
  intro pins s σ H x y v u Q I rx ry h
  obtain ⟨p, as, d, f, rfl, hq, hd, he, q⟩ := h
  cases ry
  obtain ⟨its, r, pl, hz⟩ := I.list hq
  have e1 := vals_refs r
  subst e1
  refine SeqAt.in_listAt (refB f) pl.isList (fun w hw => ?_) ⟨.bl _, H, I, rfl, ?_⟩
  · obtain ⟨a, ha, rfl⟩ : ∃ a ∈ as, Value.ref a = w := by simpa using hw
    exact (he a ha).at I (by show X.A.units + 1 + d < cLine; omega) rfl rx
  · rw [any_refB]; exact q
theorem ninR (K : PySem.W.Frag) (hu : X.A.units + 64 < cLine) (hK : X.K = K := by rfl) : OpR X (compareOp .NotIn) (rInR K true) := by
  subst hK
  intro pins s σ H x y v u Q I rx ry h
  obtain ⟨p, as, d, f, rfl, hq, hd, he, q⟩ := h
  cases ry
  obtain ⟨its, r, pl, hz⟩ := I.list hq
  have e1 := vals_refs r
  subst e1
  refine SeqAt.notIn_listAt (refB f) pl.isList (fun w hw => ?_) ⟨.bl _, H, I, rfl, ?_⟩
  · obtain ⟨a, ha, rfl⟩ : ∃ a ∈ as, Value.ref a = w := by simpa using hw
    exact (he a ha).at I (by show X.A.units + 1 + d < cLine; omega) rfl rx
  · rw [any_refB]; exact q
end
end L2
set_option Elab.async false
set_option linter.all false
set_option maxRecDepth 100000
namespace L2
open PySem PySem.Spec PyProof.Rows PySem.W
section
variable {α : Type} [DecidableEq α]
inductive Wk (ls : List (α × α)) (h : α) : Nat → α → Prop
  | zero : Wk ls h 0 h
  | succ {n : Nat} {a b : α} : Wk ls h n a → (a, b) ∈ ls → Wk ls h (n + 1) b
noncomputable def Sh (ls : List (α × α)) (h : α) (n : Nat) (x : α) : Prop := Wk ls h n x ∧ ∀ m, m < n → ¬ Wk ls h m x
theorem Wk.sh {ls : List (α × α)} {h x : α} : ∀ {n : Nat}, Wk ls h n x → ∃ m, m ≤ n ∧ Sh ls h m x := by
  intro n
  induction n using Nat.strongRecOn with
  | ind n ih =>
    intro w
    by_cases e : ∃ m, m < n ∧ Wk ls h m x
    · obtain ⟨m, hm, wm⟩ := e
      obtain ⟨k, hk, s⟩ := ih m hm wm
      exact ⟨k, by omega, s⟩
    · exact ⟨n, Nat.le_refl _, w, fun m hm wm => e ⟨m, hm, wm⟩⟩
theorem Sh.uniq {ls : List (α × α)} {h x : α} {n m : Nat} (a : Sh ls h n x) (b : Sh ls h m x) : n = m := by
  rcases Nat.lt_trichotomy n m with z | z | z
  · exact absurd a.1 (b.2 n z)
  · exact z
  · exact absurd b.1 (a.2 m z)
theorem Sh.pre {ls : List (α × α)} {h b : α} {n : Nat} (s : Sh ls h (n + 1) b) : ∃ a, Sh ls h n a ∧ (a, b) ∈ ls := by
  obtain ⟨w, no⟩ := s
  cases w with
  | @succ _ a _ wa hm => exact ⟨a, ⟨wa, fun m hm' wm => no (m + 1) (by omega) (.succ wm hm)⟩, hm⟩
theorem Sh.few {ls : List (α × α)} {h : α} {P : List α} (hp : ∀ x ∈ ls, x.2 ∈ P) : ∀ {n : Nat} {x : α}, Sh ls h n x → n ≤ P.length := by
  have key : ∀ (n : Nat) (x : α), Sh ls h n x → ∃ l : List α, l.length = n ∧ l.Nodup ∧ (∀ y ∈ l, y ∈ P ∧ ∃ m, m ≤ n ∧ Sh ls h m y) := by
    intro n
    induction n with
    | zero => intro x _; exact ⟨[], rfl, .nil, fun _ z => by cases z⟩
    | succ n ih =>
      intro b s
      obtain ⟨a, sa, hm⟩ := s.pre
      obtain ⟨l, ll, nd, al⟩ := ih a sa
      refine ⟨b :: l, by rw [List.length_cons, ll], List.nodup_cons.mpr ⟨fun z => ?_, nd⟩, fun y hy => ?_⟩
      · obtain ⟨_, m, hm', sm⟩ := al b z
        have := sm.uniq s
        omega
      · rcases List.mem_cons.mp hy with z | z
        · subst z; exact ⟨hp _ hm, n + 1, Nat.le_refl _, s⟩
        · obtain ⟨h1, m, h2, h3⟩ := al y z
          exact ⟨h1, m, by omega, h3⟩
  intro n x s
  obtain ⟨l, ll, nd, al⟩ := key n x s
  rw [← ll]
  exact nd.length_le_of_subset fun y hy => (al y hy).1
structure IsRoad (ls : List (α × α)) (h : α) (p : List α) (x : α) : Prop where
  fst : p[0]? = some h
  lst : p.getLast? = some x
  via : ∀ k a b, p[k]? = some a → p[k + 1]? = some b → (a, b) ∈ ls
theorem IsRoad.next {ls : List (α × α)} {h x y : α} {p : List α} (r : IsRoad ls h p x) (hm : (x, y) ∈ ls) : IsRoad ls h (p ++ [y]) y := by
  have pne : p ≠ [] := fun z => by have := r.fst; rw [z] at this; cases this
  have lp : 0 < p.length := List.length_pos_iff.mpr pne
  refine ⟨?_, by simp, fun k a b h1 h2 => ?_⟩
  · rw [List.getElem?_append_left lp]; exact r.fst
  · by_cases z : k + 1 < p.length
    · rw [List.getElem?_append_left (by omega)] at h1
      rw [List.getElem?_append_left z] at h2
      exact r.via k a b h1 h2
    · by_cases z2 : k + 1 = p.length
      · rw [List.getElem?_append_left (by omega)] at h1
        rw [List.getElem?_append_right (by omega), z2, Nat.sub_self] at h2
        have e2 : y = b := Option.some.inj h2
        have e1 := r.lst
        rw [List.getLast?_eq_getElem?] at e1
        rw [show p.length - 1 = k by omega, h1] at e1
        have e1 : a = x := Option.some.inj e1
        rw [e1, ← e2]
        exact hm
      · have hz : (p ++ [y])[k + 1]? = none := List.getElem?_eq_none (by rw [List.length_append, List.length_singleton]; omega)
        rw [hz] at h2
        cases h2
noncomputable def grow0 (p : List α) (st : List α × List (List α)) (x : α × α) : List α × List (List α) := if p.getLast? = some x.1 ∧ x.2 ∉ st.1 then (st.1 ++ [x.2], st.2 ++ [p ++ [x.2]]) else st
structure Lev (ls : List (α × α)) (h : α) (n : Nat) (S : List α) (ps : List (List α)) : Prop where
  seen : ∀ x, x ∈ S ↔ ∃ m, m ≤ n ∧ Sh ls h m x
  road : ∀ p ∈ ps, ∃ x, IsRoad ls h p x ∧ Sh ls h n x ∧ p.length = n + 1
  all : ∀ x, Sh ls h n x → ∃ p ∈ ps, p.getLast? = some x
structure Mid (ls : List (α × α)) (h : α) (n : Nat) (C : α → α → Prop) (st : List α × List (List α)) : Prop where
  old : ∀ x m, m ≤ n → Sh ls h m x → x ∈ st.1
  new : ∀ x ∈ st.1, ∃ m, m ≤ n + 1 ∧ Sh ls h m x
  road : ∀ p ∈ st.2, ∃ x, IsRoad ls h p x ∧ Sh ls h (n + 1) x ∧ p.length = n + 2
  all : ∀ x ∈ st.1, Sh ls h (n + 1) x → ∃ p ∈ st.2, p.getLast? = some x
  got : ∀ a b, C a b → (a, b) ∈ ls → Sh ls h n a → b ∈ st.1
theorem Mid.step {ls : List (α × α)} {h : α} {n : Nat} {C : α → α → Prop} {st : List α × List (List α)} {p : List α} {a : α} {x : α × α} (m : Mid ls h n C st) (rp : IsRoad ls h p a) (sa : Sh ls h n a) (lp : p.length = n + 1) (hx : x ∈ ls) : Mid ls h n (fun u v => C u v ∨ (u = a ∧ (u, v) = x)) (grow0 p st x) := by
  unfold grow0
  by_cases c : p.getLast? = some x.1 ∧ x.2 ∉ st.1
  · rw [if_pos c]
    have ea : x.1 = a := by have := rp.lst; rw [c.1] at this; exact Option.some.inj this
    have hx' : (a, x.2) ∈ ls := by rw [← ea]; exact hx
    have sx : Sh ls h (n + 1) x.2 := ⟨.succ sa.1 hx', fun k hk w => by
      obtain ⟨k', hk', s'⟩ := w.sh
      exact c.2 (m.old x.2 k' (by omega) s')⟩
    refine ⟨fun y k hk s => List.mem_append_left _ (m.old y k hk s), fun y hy => ?_, fun q hq => ?_, fun y hy s => ?_, fun u v cv huv su => ?_⟩
    · rcases List.mem_append.mp hy with z | z
      · exact m.new y z
      · rw [List.mem_singleton.mp z]; exact ⟨n + 1, Nat.le_refl _, sx⟩
    · rcases List.mem_append.mp hq with z | z
      · exact m.road q z
      · rw [List.mem_singleton.mp z]
        exact ⟨x.2, rp.next hx', sx, by rw [List.length_append, List.length_singleton, lp]⟩
    · rcases List.mem_append.mp hy with z | z
      · obtain ⟨q, hq, e⟩ := m.all y z s
        exact ⟨q, List.mem_append_left _ hq, e⟩
      · rw [List.mem_singleton.mp z]
        exact ⟨p ++ [x.2], List.mem_append_right _ (by simp), by simp⟩
    · rcases cv with z | ⟨_, z⟩
      · exact List.mem_append_left _ (m.got u v z huv su)
      · rw [← z]; exact List.mem_append_right _ (by simp)
  · rw [if_neg c]
    refine ⟨m.old, m.new, m.road, m.all, fun u v cv huv su => ?_⟩
    rcases cv with z | ⟨z1, z2⟩
    · exact m.got u v z huv su
    · subst z2
      refine Classical.byContradiction fun n => c ⟨?_, n⟩
      rw [rp.lst, z1]
noncomputable def Road (ls : List (α × α)) (h t : α) (p : List α) : Prop := (p = [] ∧ ∀ n, ¬ Wk ls h n t) ∨ ∃ n, Sh ls h n t ∧ IsRoad ls h p t ∧ p.length = n + 1
theorem Lev.few {ls : List (α × α)} {h : α} {n : Nat} {S : List α} {ps : List (List α)} {P : List α} (l : Lev ls h n S ps) (hp : ∀ x ∈ ls, x.2 ∈ P) (ne : ps ≠ []) : n ≤ P.length := by
  obtain ⟨p, r, e⟩ := List.exists_cons_of_ne_nil ne
  obtain ⟨x, _, s, _⟩ := l.road p (by rw [e]; simp)
  exact s.few hp
structure Far (ls : List (α × α)) (h : α) (n : Nat) (C : α → α → Prop) (d : α → Option Nat) : Prop where
  yes : ∀ x v, d x = some v → ∃ m, v = m + 1 ∧ m ≤ n + 1 ∧ Sh ls h m x
  old : ∀ x m, m ≤ n → Sh ls h m x → d x = some (m + 1)
  got : ∀ a b, C a b → (a, b) ∈ ls → Sh ls h n a → d b ≠ none
noncomputable def put1 (d : α → Option Nat) (k : α) (v : Nat) : α → Option Nat := fun x => if x = k then some v else d x
theorem Far.step {ls : List (α × α)} {h : α} {n : Nat} {C : α → α → Prop} {d : α → Option Nat} {x : α × α} (f : Far ls h n C d) (hx : x ∈ ls) :
    (d x.1 = some (n + 1) ∧ d x.2 = none → Far ls h n (fun u v => C u v ∨ (u, v) = x) (put1 d x.2 (n + 2))) ∧ (¬ (d x.1 = some (n + 1) ∧ d x.2 = none) → Far ls h n (fun u v => C u v ∨ (u, v) = x) d) := by
  constructor
  · rintro ⟨h1, h2⟩
    obtain ⟨m, e, _, s⟩ := f.yes _ _ h1
    have : m = n := by omega
    subst this
    have sx : Sh ls h (m + 1) x.2 := ⟨.succ s.1 hx, fun k hk w => by
      obtain ⟨k', hk', s'⟩ := w.sh
      have := f.old _ k' (by omega) s'
      rw [h2] at this
      cases this⟩
    refine ⟨fun y v ey => ?_, fun y k hk s' => ?_, fun u v c huv su => ?_⟩
    · unfold put1 at ey
      by_cases z : y = x.2
      · rw [if_pos z] at ey
        cases ey
        exact ⟨m + 1, rfl, Nat.le_refl _, by rw [z]; exact sx⟩
      · rw [if_neg z] at ey; exact f.yes y v ey
    · unfold put1
      by_cases z : y = x.2
      · have := f.old y k hk s'
        rw [z, h2] at this
        cases this
      · rw [if_neg z]; exact f.old y k hk s'
    · unfold put1
      by_cases z : v = x.2
      · rw [if_pos z]; exact fun z => by cases z
      · rw [if_neg z]
        rcases c with c | c
        · exact f.got u v c huv su
        · exact absurd (by rw [← c]) z
  · intro no
    refine ⟨f.yes, f.old, fun u v c huv su => ?_⟩
    rcases c with c | c
    · exact f.got u v c huv su
    · subst c
      intro z
      exact no ⟨f.old _ n (Nat.le_refl _) su, z⟩
theorem Far.next {ls : List (α × α)} {h : α} {n : Nat} {d : α → Option Nat} (f : Far ls h n (fun u v => (u, v) ∈ ls) d) : Far ls h (n + 1) (fun _ _ => False) d := by
  refine ⟨fun x v e => ?_, fun x m hm s => ?_, fun _ _ z => z.elim⟩
  · obtain ⟨m, e1, hm, s⟩ := f.yes x v e
    exact ⟨m, e1, by omega, s⟩
  · by_cases z : m ≤ n
    · exact f.old x m z s
    · have : m = n + 1 := by omega
      subst this
      obtain ⟨a, sa, hm'⟩ := s.pre
      have nn := f.got a x hm' hm' sa
      cases e : d x with
      | none => exact absurd e nn
      | some v =>
        obtain ⟨k, rfl, _, sk⟩ := f.yes x v e
        rw [sk.uniq s]
theorem Far.road {ls : List (α × α)} {h t : α} {n : Nat} {d : α → Option Nat} {P p : List α} (f : Far ls h n (fun _ _ => False) d) (hp : ∀ x ∈ ls, x.2 ∈ P) (hn : P.length ≤ n) (r : Road ls h t p) : p.length = (d t).getD 0 ∧ (p ≠ [] → IsRoad ls h p t) := by
  rcases r with ⟨rfl, no⟩ | ⟨m, s, ir, lp⟩
  · refine ⟨?_, fun z => absurd rfl z⟩
    cases e : d t with
    | none => rfl
    | some v =>
      obtain ⟨k, _, _, sk⟩ := f.yes t v e
      exact absurd sk.1 (no k)
  · have := s.few hp
    rw [f.old t m (by omega) s]
    exact ⟨lp, fun _ => ir⟩
end
section
variable {α : Type} [DecidableEq α]
structure GB (S : List α) (st : List α × List (List α)) : Prop where
  nd : st.1.Nodup
  ln : st.2.length + S.length = st.1.length
theorem GB.step {S : List α} {st : List α × List (List α)} {p : List α} {x : α × α} (g : GB S st) : GB S (grow0 p st x) := by
  unfold grow0
  by_cases c : p.getLast? = some x.1 ∧ x.2 ∉ st.1
  · rw [if_pos c]
    refine ⟨?_, ?_⟩
    · rw [List.nodup_append]
      refine ⟨g.nd, by simp, fun a ha b hb => ?_⟩
      rw [List.mem_singleton.mp hb]
      exact fun z => c.2 (z ▸ ha)
    · have := g.ln
      simp only [List.length_append, List.length_singleton]
      omega
  · rw [if_neg c]; exact g
theorem Lev.sub {ls : List (α × α)} {h : α} {n : Nat} {S : List α} {ps : List (List α)} {P : List α} (l : Lev ls h n S ps) (hp : ∀ x ∈ ls, x.2 ∈ P) (nd : S.Nodup) : S.length ≤ P.length + 1 := by
  have : S.length ≤ (h :: P).length := nd.length_le_of_subset fun x hx => by
    obtain ⟨m, _, s⟩ := (l.seen x).mp hx
    cases m with
    | zero => cases s.1; exact List.mem_cons_self
    | succ m =>
      obtain ⟨a, _, hm⟩ := s.pre
      exact List.mem_cons_of_mem _ (hp _ hm)
  rw [List.length_cons] at this
  exact this
end
noncomputable def PairK (H : Hp) (p : Addr) (x : Key × Key) : Prop := H p = some (.tup [kV x.1, kV x.2])
structure LnkAt (H : Hp) (l : Addr) (ps : List Addr) (ls : List (Key × Key)) : Prop where
  hl : H l = some (.lst (ps.map V.ref))
  pr : Paired (PairK H) ps ls
theorem LnkAt.same {H H' : Hp} {l : Addr} {ps : List Addr} {ls : List (Key × Key)} (h : LnkAt H l ps ls) (s : Same H H') : LnkAt H' l ps ls := ⟨s _ _ h.hl, Paired.mapP h.pr fun _ _ z => s _ _ z⟩
theorem atI_lst {xs : List V} {v : V} (h : xs.getLast? = some v) : atI xs (-1) = some v := by
  obtain ⟨ys, e⟩ := List.getLast?_eq_some_iff.mp h
  rw [e]
  exact atI_last ys v
end L2
set_option Elab.async false
set_option linter.all false
set_option maxRecDepth 100000
namespace L2
open PySem PySem.Spec PyProof.Rows PySem.W
section
variable {α : Type}
inductive Rc (ls : List (α × α)) (h : α) : α → Prop
  | base {b : α} : (h, b) ∈ ls → Rc ls h b
  | step {a b : α} : Rc ls h a → (a, b) ∈ ls → Rc ls h b
theorem Rc.closed {ls : List (α × α)} {h x : α} {R : List α} (c : ∀ y, (y = h ∨ y ∈ R) → ∀ b, (y, b) ∈ ls → b ∈ R) (r : Rc ls h x) : x ∈ R := by
  induction r with
  | base m => exact c h (.inl rfl) _ m
  | step _ m ih => exact c _ (.inr ih) _ m
theorem Rc.trans {ls : List (α × α)} {x y z : α} (a : Rc ls x y) (b : Rc ls y z) : Rc ls x z := by
  induction b with
  | base m => exact .step a m
  | step _ m ih => exact .step ih m
theorem Rc.split {ls : List (α × α)} {a b x y : α} (r : Rc (ls ++ [(a, b)]) x y) : Rc ls x y ∨ ((x = a ∨ Rc ls x a) ∧ (b = y ∨ Rc ls b y)) := by
  induction r with
  | base m =>
    rcases List.mem_append.mp m with z | z
    · exact .inl (.base z)
    · cases List.mem_singleton.mp z; exact .inr ⟨.inl rfl, .inl rfl⟩
  | step _ m ih =>
    rcases List.mem_append.mp m with z | z
    · rcases ih with i | ⟨i1, i2⟩
      · exact .inl (.step i z)
      · refine .inr ⟨i1, .inr ?_⟩
        rcases i2 with i2 | i2
        · rw [← i2] at z; exact .base z
        · exact .step i2 z
    · cases List.mem_singleton.mp z
      rcases ih with i | ⟨i1, i2⟩
      · exact .inr ⟨.inr i, .inl rfl⟩
      · exact .inr ⟨i1, .inl rfl⟩
noncomputable def Acy (ls : List (α × α)) : Prop := ∀ x, ¬ Rc ls x x
theorem Acy.nil : Acy ([] : List (α × α)) := fun x r => by
  cases r with
  | base m => cases m
  | step _ m => cases m
structure AbI (ls : List (α × α)) (h : α) (R W : List α) : Prop where
  nd : R.Nodup
  rc : ∀ x ∈ R, Rc ls h x
  cl : ∀ y, (y = h ∨ y ∈ R) → y ∉ W → ∀ b, (y, b) ∈ ls → b ∈ R
  wt : ∀ y ∈ W, y = h ∨ y ∈ R
theorem AbI.all {ls : List (α × α)} {h x : α} {R : List α} (i : AbI ls h R []) : x ∈ R ↔ Rc ls h x := ⟨i.rc x, fun r => r.closed fun y hy b hb => i.cl y hy (by simp) b hb⟩
structure OvJ (ls : List (α × α)) (h : α) (l : List (α × α)) (T : List α) (more : Bool) : Prop where
  nd : T.Nodup
  rc : ∀ x ∈ T, Rc ls h x
  cl : more = false → ∀ y b, (y, b) ∈ l → (y = h ∨ y ∈ T) → b ∈ T
theorem OvJ.all {ls : List (α × α)} {h x : α} {T : List α} (i : OvJ ls h ls T false) : x ∈ T ↔ Rc ls h x := ⟨i.rc x, fun r => r.closed fun y hy b hb => i.cl rfl y b hb hy⟩
end
section
variable {prog : Program} {w : World} {A : Around} {E : Value → Shared → Prop} {s : Shared} {T : String} {r d : Addr} {n : Nat} {P : Nat → Value → Prop} {OK : Heap → Prop}
end
section
variable {X : Cx}
end
noncomputable def tupB (H : Hp) (x y : V) (a : Addr) : Bool := match H a with
  | some (.tup [u, v]) => (List.range (min [u, v].length [x, y].length)).all (fun j => if j = 0 then eqV u x else eqV v y) && ([u, v].length == [x, y].length)
  | _ => false
theorem deq_tup2 {K : PySem.W.Frag} {H : Hp} {a b : Addr} {u v x y : V} (h1 : H a = some (.tup [u, v])) (h2 : SqT K H b [x, y]) (fu : flatV u = true) (fv : flatV v = true) (fx : flatV x = true) (fy : flatV y = true) : DEq K H 1 (.ref a) (.ref b) (tupB H x y a) := by
  unfold tupB
  rw [h1]
  refine DEq.tup (d := 0) (SqT.of h1) h2 fun j p q hp hq => ?_
  rcases j with _ | _ | j
  · cases hp; cases hq; exact .flat fu fx
  · cases hp; cases hq; exact .flat fv fy
  · cases hp
theorem tupB_yes {H : Hp} {a : Addr} {x y : V} (h : H a = some (.tup [x, y])) (fx : flatV x = true) (fy : flatV y = true) : tupB H x y a = true := by
  unfold tupB
  rw [h]
  show ((eqV x x && (eqV y y && true)) && true) = true
  rw [eqV_refl fx, eqV_refl fy]
  rfl
end L2
set_option Elab.async false
set_option linter.all false
set_option maxRecDepth 100000
namespace L2
open PySem PySem.Spec PyProof.Rows PySem.W
end L2
set_option Elab.async false
set_option linter.all false
set_option maxRecDepth 100000
namespace L2
open PySem PySem.Spec PyProof.Rows
theorem ObjOk.has {P : Program} {w : World} {H : Hp} {h : Heap} {a : Addr} : ∀ {o : HO}, ObjOk P w H h a o → ∃ ob, h.get? a = some ob := by
  intro o x
  cases o with
  | lst xs => obtain ⟨_, _, _, _, e⟩ := x; exact ⟨_, e⟩
  | tup xs => obtain ⟨_, _, _, ob, e, _⟩ := x; exact ⟨_, e⟩
  | dK kvs => obtain ⟨_, _, _, _, ob, _, _, e, _⟩ := x; exact ⟨_, e⟩
  | dT kvs => obtain ⟨_, _, _, _, ob, _, _, e, _⟩ := x; exact ⟨_, e⟩
  | set S n => obtain ⟨ob, _, _, _, e, _⟩ := x; exact ⟨_, e⟩
  | ins C dx fs => obtain ⟨_, _, _, e, _⟩ := x; exact ⟨_, e⟩
  | own y => exact x
  | xd fs => obtain ⟨_, ⟨ob, _, _, e, _⟩, _⟩ := x; exact ⟨_, e⟩
  | rng lo hi => obtain ⟨_, _, _, e⟩ := x; exact ⟨_, e⟩
  | frz ob u => obtain ⟨e, _⟩ := x; exact ⟨_, e⟩
  | tbl ps => exact ⟨_, x⟩
  | met f y => exact ⟨_, x⟩
  | ext φ => exact x.2.1
theorem HOk.stays {P : Program} {w : World} {H : Hp} {h h' : Heap} (ok : HOk P w H h) (k : ∀ b u, (H b).isSome = true → h.get? b = some u → h'.get? b = some u) : HOk P w H h' := fun a o q =>
  (ok a o q).stay (fun b u hb e => k b u (by rcases hb with rfl | hb; · rw [q]; rfl
                                             · rw [hb]; rfl) e) (fun _ z => z) fun _ _ z => z
structure Flies (P : Program) (w : World) (outer : List Env) (H H' : Hp) (s : Shared) (ea C : Addr) (a0 : Value) (B : Heap) (s' : Shared) : Prop where
  os : s'.os = s.os
  bare : AllBare s'.gens
  un : Un (frs outer) [] H H' s.heap s'.heap
  hok : HOk P w H' s'.heap
  fl : Heap.FlyingW B outer ea (.ref C) a0 s'.heap
  new : s.heap.get? ea = none
  free : H' ea = none
  cov : ∀ b o, s'.heap.get? b = some o → b ∉ frs outer → ((s.heap.get? b).isSome = true ∨ (H' b).isSome = true) → B.get? b = some o
noncomputable def CXR (P : Program) (w : World) : CXT := fun outer H s E e s' => ∃ (ea C : Addr) (a0 : Value) (B : Heap) (H' : Hp), e = .ref ea ∧ E (.ref C) none H' ∧ Flies P w outer H H' s ea C a0 B s'
theorem passR {X : Cx} : Passes (CXR X.prog X.w) X E0 := fun _ _ _ _ _ _ _ h => by obtain ⟨_, _, _, _, _, _, z, _⟩ := h; exact z.elim
section
variable {P : Program} {w : World} {K : PySem.W.Frag} {mg : Str → Option Value} {base : Heap}
theorem Fun.okR {x qual : Str} {st : Stmt} {f : Addr} {fd : FuncData} {N ps : List Str} {k : Nat} {sp : Sp} (F : Fun K x qual st f fd) (S : FnScope N ps (defScope st)) (len : ∀ vs H Q E, sp vs H Q E → vs.length = ps.length)
    (hb : ∀ (cdv : Value) (A : Around) (outer : List Env) (s : Shared) (H : Hp) (vs : List V) (Q : VK) (E : XK), Room k (A.deeper (envOfC qual (defScope st) s.heap.objs.size f cdv)) → sp vs H Q E →
      ∃ t, PSs (cxOf (CXR P w) P w K mg base N qual (defScope st) f cdv A outer s H E) (defBody st) t ∧ t { nx := fun _ H' => Q .non H', rt := Q } (start N vs) H) : FnOk P w K mg base (CXR P w) (k + 1) f fd ps sp := by
  obtain ⟨_, _, _, _, _, _, cdv, _, _, rfl, lk, hcd⟩ := F.ex
  exact fn_of lk hcd S len fun A outer s H vs Q E hr hsp => hb cdv A outer s H vs Q E hr hsp
structure ExC (K : PySem.W.Frag) (mg : Str → Option Value) (x : Str) (C : Addr) : Prop where
  at' : mg x = some (.ref C)
  ok : PySem.W.excIn K C [.type "ValueError", .type "Exception", .type "BaseException", .type "object"] "ValueError.__new__" = true
theorem ExC.obj {x : Str} {C : Addr} {h : Heap} (O : ExC K mg x C) (X : K.In h) : ∃ bm N nm q bs hdct sn sub ab col dd k0 k1 k2 k3 k5 mN,
    h.get? C = some (excClassObj nm q C N bs bm hdct sn sub ab col dd k0 k1 k2 k3 k5 "ValueError.__new__") ∧ h.Ns N mN ∧ mN "__init__" = none ∧ OwnTail h [.type "ValueError", .type "Exception", .type "BaseException", .type "object"] bm := by
  have z := O.ok
  unfold PySem.W.excIn at z
  cases hl : K.lookup C with
  | none => rw [hl] at z; cases z
  | some o =>
    rw [hl] at z
    have hC := X _ _ hl
    clear hl
    split at z
    · rename_i dd c sl e
      cases e
      split at z
      · rename_i C' bm k0 k1 k2 k3 n k5 e1 e2
        simp only [Bool.and_eq_true, beq_iff_eq, Bool.not_eq_true'] at z
        obtain ⟨⟨⟨⟨⟨a1, a2⟩, a3⟩, a4⟩, a5⟩, a6⟩ := z
        subst a1
        subst a2
        cases c
        cases sl
        dsimp only at e1 e2 a3 a4 a5 a6
        subst e1
        subst e2
        subst a3
        exact ⟨bm, _, _, _, _, _, _, _, _, _, _, k0, k1, k2, k3, k5, _, hC, .of_isNs (PySem.W.isNs_of_in X a5), PySem.W.nsMap_none_of_in X a5 a6, PySem.W.tail_of_in X a4⟩
      · cases z
    · cases z
end
section
variable {P : Program} {w : World} {K : PySem.W.Frag} {mg : Str → Option Value} {base : Heap} {N : List Str} {qual : Str} {scope : Scope} {f : Addr} {cd : Value} {A : Around} {outer : List Env} {s₀ : Shared} {H₀ : Hp} {E : XK}
theorem leaves {pins : List (Addr × Obj)} {σ : St} {H : Hp} {s : Shared} {h' : Heap} {e C : Addr} {vs : List Value} (I : Inv (cxOf (CXR P w) P w K mg base N qual scope f cd A outer s₀ H₀ E) pins σ H s) (hx : Heap.MadeExcOf s.heap h' e (.ref C) vs)
    (h : E (.ref C) none H) : (cxOf (CXR P w) P w K mg base N qual scope f cd A outer s₀ H₀ E).xe (.ref e) { s with heap := h' } := by
  have st : frs (envOfC qual scope s₀.heap.objs.size f cd :: outer) = s₀.heap.objs.size :: frs outer := rfl
  have hin : ∀ env ∈ (envOfC qual scope s₀.heap.objs.size f cd :: outer), ∀ a, env.frame = some a → a ∈ frs (envOfC qual scope s₀.heap.objs.size f cd :: outer) := fun env he a ha => List.mem_filterMap.mpr ⟨env, he, ha⟩
  have fr : s.heap.FunFrames base (envOfC qual scope s₀.heap.objs.size f cd :: outer) := I.stack
  have fr' := PySem.W.funFrames_hide fr hin
  refine wpAny_leaves_madeW (s := { s with heap := h' }) I.ok.frames rfl (fun b o q => PySem.W.of_hideAll _ q) fr' hx fun h2 t fl tu bt up => ?_
  have up2 : s.heap.UpToSlots h2 := (Heap.UpToSlots.of_keeps hx.keeps).trans up
  have kB : ∀ b o, s.heap.get? b = some o → b ∉ frs (envOfC qual scope s₀.heap.objs.size f cd :: outer) → (PySem.W.hideAll s.heap (frs (envOfC qual scope s₀.heap.objs.size f cd :: outer))).get? b = some o := fun b o q n => PySem.W.hideAll_get _ q n
  have kp : ∀ b o, s.heap.get? b = some o → b ∉ frs (envOfC qual scope s₀.heap.objs.size f cd :: outer) → h2.get? b = some o := fun b o q n => fl.1 b o (kB b o q n)
  have old : ∀ b o, s₀.heap.get? b = some o → b ∉ frs outer → b ∉ frs (envOfC qual scope s₀.heap.objs.size f cd :: outer) := fun b o q n z => by
    rw [st] at z
    rcases List.mem_cons.mp z with z | z
    · rw [z] at q; exact Nat.lt_irrefl _ (Heap.lt_size q)
    · exact n z
  have tr : ∀ b, (H b).isSome = true → b ∉ frs (envOfC qual scope s₀.heap.objs.size f cd :: outer) := fun b q z => by rw [I.stkFree b z] at q; cases q
  have un0 : Un (frs outer) [] H₀ H s₀.heap s.heap := I.base
  have slots : ∀ b o, s.heap.get? b = some o → b ∈ frs outer → ∃ sl, h2.get? b = some { o with slots := sl } := fun b o q m => by
    obtain ⟨_, o', q', nf⟩ := fr.mem (show b ∈ frs (envOfC qual scope s₀.heap.objs.size f cd :: outer) by rw [st]; exact List.mem_cons_of_mem _ m)
    rw [q] at q'; cases q'
    exact up2 b o q nf
  refine ⟨e, C, .ref t, _, H, rfl, h, I.os, I.bare, ⟨fun b o q n nf _ => kp b o (un0.keep b o q n nf (by simp)) (old b o q nf), fun b o q n m _ => ?_, fun b o q n _ => un0.free b o q n (by simp), fun b o q _ => ?_, un0.tups, un0.frzs, un0.tbls⟩,
    I.hok.stays fun b u q e => kp b u e (tr b q), fl, ?_, ?_, fun b o q n z => ?_⟩
  · obtain ⟨sl, q1⟩ := un0.slot b o q n m (by simp)
    obtain ⟨sl2, q2⟩ := slots b _ q1 m
    exact ⟨sl2, q2⟩
  · obtain ⟨o1, q1⟩ := un0.there b o q (by simp)
    by_cases m : b ∈ frs outer
    · obtain ⟨sl, q2⟩ := slots b _ q1 m
      exact ⟨_, q2⟩
    · exact ⟨o1, kp b o1 q1 (old b o q m)⟩
  · cases q : s₀.heap.get? e with
    | none => rfl
    | some o =>
      obtain ⟨o1, q1⟩ := un0.there e o q (by simp)
      rw [hx.new] at q1; cases q1
  · cases q : H e with
    | none => rfl
    | some o =>
      obtain ⟨o1, q1⟩ := (I.hok e o q).has
      rw [hx.new] at q1; cases q1
  · have nb : b ∉ frs (envOfC qual scope s₀.heap.objs.size f cd :: outer) ∧ ∃ o1, s.heap.get? b = some o1 := by
      rcases z with z | z
      · obtain ⟨o0, q0⟩ := Option.isSome_iff_exists.mp z
        obtain ⟨o1, q1⟩ := un0.there b o0 q0 (by simp)
        exact ⟨old b o0 q0 n, o1, q1⟩
      · obtain ⟨o0, q0⟩ := Option.isSome_iff_exists.mp z
        obtain ⟨o1, q1⟩ := (I.hok b o0 q0).has
        exact ⟨tr b z, o1, q1⟩
    obtain ⟨n1, o1, q1⟩ := nb
    have q2 := kp b o1 q1 n1
    have q : h2.get? b = some o := q
    rw [q] at q2; cases q2
    exact kB b _ q1 n1
noncomputable def tRaise (E : XK) (C : Addr) (t : TA) : TS := fun _ σ H => t σ H fun vs H1 => vs.length ≤ sizeLine ∧ E (.ref C) none H1
theorem ps_raise {x : Str} {C : Addr} {np cpos pos : Pos} {e : Expr} {es : List Expr} {t : TA} (O : ExC K mg x C) (ha : PA (cxOf (CXR P w) P w K mg base N qual scope f cd A outer s₀ H₀ E) (e :: es) t)
    (hg : Gl (cxOf (CXR P w) P w K mg base N qual scope f cd A outer s₀ H₀ E) x := by rfl) (hd : (x == ("__debug__" : Str)) = false := by decide)
    (he : starEach (e :: es) (envOfC qual scope s₀.heap.objs.size f cd) = (false, eval e (envOfC qual scope s₀.heap.objs.size f cd)) :: starEach es (envOfC qual scope s₀.heap.objs.size f cd) := by rfl)
    (hpl : (backTo cpos (starEach es (envOfC qual scope s₀.heap.objs.size f cd))).any (·.1) = false := by rfl) :
    PS (cxOf (CXR P w) P w K mg base N qual scope f cd A outer s₀ H₀ E) (.Raise (some (.Call (.Name x np) (e :: es) [] cpos)) none pos) (tRaise E C t) := by
  intro pins s σ H D I h
  obtain ⟨bm, Nn, nm, q, bs, hdct, sn, sub, ab, col, dd, k0, k1, k2, k3, k5, mN, hC, hN, hni, T⟩ := O.obj I.mod.kin
  have he' : starEach (e :: es) (cxOf (CXR P w) P w K mg base N qual scope f cd A outer s₀ H₀ E).env = (false, eval e (cxOf (CXR P w) P w K mg base N qual scope f cd A outer s₀ H₀ E).env) :: starEach es (cxOf (CXR P w) P w K mg base N qual scope f cd A outer s₀ H₀ E).env := he
  have hpl' : (backTo cpos (starEach es (cxOf (CXR P w) P w K mg base N qual scope f cd A outer s₀ H₀ E).env)).any (·.1) = false := hpl
  refine wpAny_Raise_call_subT (nm := nm) (q := q) (C := C) (N := Nn) (bm := bm) (bs := bs) (hdct := hdct) (sn := sn) (sub := sub) (ab := ab) (col := col) (dd := dd) (k0 := k0) (k1 := k1) (k2 := k2) (k3 := k3) (k5 := k5) PySem.F.excBase_ValueError (mN := mN) (T.hasType PySem.F.excBase_ValueError.hasBase) (I.ok.hd rfl) (by rw [he']; exact (Bool.false_or _).trans hpl') hni (ld_glob I hg O.at' ⟨rfl, ?_⟩ hd)
  have ha' := thn (ha cpos pins s σ H _ I h) fun us s1 ⟨vs, H1, I1, r, z, q⟩ => (show us.length ≤ sizeLine ∧ ∃ vs H1, Inv _ pins σ H1 s1 ∧ Vals vs us ∧ E (.ref C) none H1 from ⟨by rw [← r.length]; exact z, vs, H1, I1, r, q⟩)
  rw [he'] at ha' ⊢
  refine Calls.evalArgs_plain (wpAny_mono ha' (fun us s1 ⟨z, vs, H1, I1, r, q⟩ => ⟨rfl, z, I1.bk _ _ hC, hN.keeps I1.bk, T.keeps I1.bk, fun h' e hx => ?_⟩) fun _ _ y => y)
  exact leaves I1 hx q
end
end L2
set_option Elab.async false
set_option linter.all false
set_option maxRecDepth 100000
namespace L2
open PySem PySem.Spec PyProof.Rows
noncomputable def XO (a C : Addr) : HO := .ext fun h => ∃ o, h.get? a = some o ∧ o.cls = .ref C
section
variable {X : Cx} {pins : List (Addr × Obj)} {σ : St} {H H' : Hp} {s s' : Shared} {ea C : Addr} {a0 : Value} {B h2 : Heap}
theorem Flies.inv (F : Flies X.prog X.w X.stack H H' s ea C a0 B s') (I : Inv X pins σ H s) (st : B.StaysIn h2) (up : s'.heap.UpToSlots h2) (oe : ∃ o, h2.get? ea = some o ∧ o.cls = .ref C) (tk : Nat) :
    Inv X pins σ (upd H' ea (XO ea C)) { s' with heap := h2, toks := tk } := by
  have fr := I.stack
  have neE : ∀ b o, s.heap.get? b = some o → b ≠ ea := fun b o q z => by rw [z, F.new] at q; cases q
  have neT : ∀ b u, H' b = some u → b ≠ ea := fun b u q z => by rw [z, F.free] at q; cases q
  have tr : ∀ b u, H' b = some u → b ∉ frs X.stack := fun b u q z => by
    obtain ⟨_, o, ho, _⟩ := fr.mem z
    have := F.un.free b o ho (I.stkFree b z) (by simp)
    rw [q] at this; cases this
  have keep : ∀ b o o', s.heap.get? b = some o → b ∉ frs X.stack → s'.heap.get? b = some o' → h2.get? b = some o' := fun b o o' q n q' => st b o' (F.cov b o' q' n (.inl (by rw [q]; rfl)))
  have slots : ∀ b o, s'.heap.get? b = some o → b ∈ frs X.stack → ∃ sl, h2.get? b = some { o with slots := sl } := fun b o q m => by
    obtain ⟨_, o1, q1, nf⟩ := fr.mem m
    obtain ⟨sl, q2⟩ := F.un.slot b o1 q1 (I.stkFree b m) m (by simp)
    rw [q] at q2; cases q2
    exact up b _ q nf
  refine Inv.call' (s' := { s' with heap := h2, toks := tk }) (ch := []) I F.os ⟨fun b o q n nf _ => keep b o o q nf (F.un.keep b o q n nf (by simp)), fun b o q n m _ => ?_, fun b o q n _ => ?_, fun b o q _ => ?_, fun b xs q => ?_, fun b o u q => ?_, fun b ps q => ?_⟩ ?_ F.bare (fun b z => by cases z)
  · obtain ⟨sl, q1⟩ := F.un.slot b o q n m (by simp)
    obtain ⟨sl2, q2⟩ := slots b _ q1 m
    exact ⟨sl2, q2⟩
  · rw [upd_ne (neE b o q)]; exact F.un.free b o q n (by simp)
  · obtain ⟨o1, q1⟩ := F.un.there b o q (by simp)
    by_cases m : b ∈ frs X.stack
    · obtain ⟨sl, q2⟩ := slots b _ q1 m
      exact ⟨_, q2⟩
    · exact ⟨o1, keep b o o1 q m q1⟩
  · have := F.un.tups b xs q
    rw [upd_ne (neT b _ this)]; exact this
  · have := F.un.frzs b o u q
    rw [upd_ne (neT b _ this)]; exact this
  · obtain ⟨more, this⟩ := F.un.tbls b ps q
    exact ⟨more, by rw [upd_ne (neT b _ this)]; exact this⟩
  · have ok : HOk X.prog X.w H' h2 := F.hok.stays fun b u q e => by
      obtain ⟨ob, q⟩ := Option.isSome_iff_exists.mp q
      exact st b u (F.cov b u e (tr b ob q) (.inr (by rw [q]; rfl)))
    intro b u q
    by_cases hb : b = ea
    · subst hb
      rw [upd_same] at q
      cases q
      obtain ⟨o, ho, hc⟩ := oe
      exact ⟨⟨o, ho, hc⟩, ⟨o, ho⟩, fun h1 h3 ⟨o1, z1, z2⟩ k => ⟨o1, k o1 z1, z2⟩⟩
    · rw [upd_ne hb] at q
      exact (ok b u q).stay (fun _ _ _ z => z) (fun c z => by rw [upd_ne (neT c _ z)]; exact z) fun c xs z => by rw [upd_ne (neT c _ z)]; exact z
noncomputable abbrev Cx.caught (X : Cx) (ea : Addr) : Cx := { X with A := X.A.mark (some (.ref ea)), calm := false, xe := fun _ _ => False }
theorem Inv.caught (I : Inv X pins σ H s) (ea : Addr) : Inv (X.caught ea) pins σ H s :=
  ⟨⟨I.ok.mod, I.ok.kind, I.ok.glob, I.ok.blt, I.ok.above, I.ok.inj, I.ok.has, I.ok.cab, (fun z => by cases z), I.ok.frames, I.ok.stk, I.ok.exf, I.ok.bs, I.ok.bsz, I.ok.noex, I.ok.exfs, I.ok.funs, I.ok.frf⟩, I.os, I.bare, I.base, I.loc, I.cell, I.free, I.freeC, I.pin, I.hok, I.len⟩
theorem Inv.uncaught (I : Inv (X.caught ea) pins σ H s) (ok : X.Ok) : Inv X pins σ H s := ⟨ok, I.os, I.bare, I.base, I.loc, I.cell, I.free, I.freeC, I.pin, I.hok, I.len⟩
end
section
variable {X : Cx} {k : Nat} {f C : Addr} {fd : FuncData} {ps : List Str} {sp : Sp} {x y : Str} {st : Stmt} {p cpos epos np hpos pos : Pos} {e : Expr} {es : List Expr} {t : TA} {b₀ : Stmt} {suite : List Stmt}
theorem try_call {h₀ : ExceptHandler} {pins : List (Addr × Obj)} {σ : St} {H : Hp} {s : Shared} {Dn : Ends} {E : XK} (De : Def X.K X.mg x st ps f fd) (F : FnOk X.prog X.w X.K X.mg X.base (CXR X.prog X.w) k f fd ps sp) (hr : Room k X.A) (ha : PA X (e :: es) t) (hxf : ∀ v s', ¬ X.xe v s')
    (hg : Gl X x) (hdb : (x == ("__debug__" : Str)) = false) (he : starEach (e :: es) X.env = (false, eval e X.env) :: starEach es X.env) (hpl : (backTo cpos (starEach es X.env)).any (·.1) = false)
    (hs : swapsWith (.Call (.Name x p) (e :: es) [] cpos) none epos.line X.env = pure false)
    (hst : X.stack = X.env :: X.outer) (hfm : X.env.frame = some X.env.locals)
    (I : Inv X pins σ H s) (h : t σ H fun vs H1 => sp vs H1 (fun _ H2 => Dn.nx σ H2) E)
    (hE : ∀ (ea C : Addr) (a0 : Value) (B : Heap) (H1 H2 : Hp) (s1 s2 : Shared) (h5 : Heap), Inv X pins σ H1 s1 → Flies X.prog X.w X.stack H1 H2 s1 ea C a0 B s2 → E (.ref C) none H2 → Heap.FlyingW B X.stack ea (.ref C) a0 h5 → s2.heap.UpToSlots h5 →
      wpAny (model X.prog X.w) X.A (handleBy (.ref ea) X.env [h₀]) (SP X pins Dn) X.xe { s2 with heap := h5 }) :
    wpAny (model X.prog X.w) X.A (exec (.Try [.Expr (.Call (.Name x p) (e :: es) [] cpos) epos] [h₀] [] [] pos) X.env) (SP X pins Dn) X.xe s := by
  refine wpAny_Try_except (wpAny_execs_cons (wpAny_Expr_any ?_ I.quiet hs))
  refine wpAny_Call_Name_kw (ld_glob I hg De.at' ?_ hdb)
  refine PySem.W.callWith_K (h₀ := X.base) I.ok.mod.kin De.fn.kp (wpAny_mono (ha cpos pins s σ H _ I h) (fun us s1 ⟨vs, H1, I1, r, q⟩ => ⟨I1.kIn, ?_⟩) fun v s' z => (hxf v s' z).elim) he hpl
  have hl : us.length = ps.length := by rw [← r.length]; exact F.len _ _ _ _ q
  have bd := De.bd s1 us I1.kIn (by rw [List.append_nil]; exact hl)
  rw [List.append_nil] at bd
  refine wpAny_call (codeAny_mono (F.run X.A X.stack s1 H1 ⟨us, []⟩ us vs _ E hr I1.env0 bd r q) fun r s2 hq => ?_)
  cases r with
  | ok fl =>
    cases fl with
    | ret u =>
      obtain ⟨v, H2, I2, _, q2⟩ := I1.after hq
      exact wpAny_execs_nil (wpAny_execs_nil ⟨σ, H2, I2, q2⟩)
    | next => exact False.elim hq
    | brk => exact False.elim hq
    | cont => exact False.elim hq
  | error v =>
    obtain ⟨ea, C, a0, B, H2, rfl, hz, Fl⟩ := hq
    have fl := Fl.fl
    rw [hst] at fl
    refine wpAny_looks_onW (I1.ok.frames.trans (by rw [hst])) hfm fl fun h4 held up4 => ?_
    refine wpAny_landsW held fun h5 fl5 up5 => ?_
    exact hE ea C a0 B H1 H2 s1 s2 h5 I1 Fl hz (by rw [hst]; exact fl5) (up4.trans up5)
theorem takes_it {ea : Addr} {a0 : Value} {B h5 : Heap} {H1 H2 : Hp} {pins : List (Addr × Obj)} {σ : St} {s1 s2 : Shared} {c : Value} {Q : Flow → Shared → Prop} {nm : Option Str} (I1 : Inv X pins σ H1 s1) (Fl : Flies X.prog X.w X.stack H1 H2 s1 ea C a0 B s2)
    (f5 : Heap.FlyingW B X.stack ea (.ref C) a0 h5) (up : s2.heap.UpToSlots h5) (hc : X.mg y = some c) (hx : PySem.W.exmOne X.K (.ref C) c = some true) (hgy : Gl X y) (hdy : (y == ("__debug__" : Str)) = false)
    (h : codeAny (model X.prog X.w) (X.A.mark (some (.ref ea))) (.handlers (.ref ea) [.ExceptHandler none nm (b₀ :: suite) hpos] X.env) (fun r s₂ => match r with
          | .ok f => (match nm with
            | none => Q f s₂
            | some n => wpAny (model X.prog X.w) X.A (do bindName X.env n .none; unbindBehindTheSuite X.env n hpos) (fun _ s₃ => Q f s₃) X.xe s₂)
          | .error x => cameBackBy (model X.prog X.w) X.A X.env X.xe x s₂) { s2 with heap := h5 }) :
    wpAny (model X.prog X.w) X.A (handleBy (.ref ea) X.env [.ExceptHandler (some (.Name y np)) nm (b₀ :: suite) hpos]) Q X.xe { s2 with heap := h5 } := by
  have I5 : Inv X pins σ _ { s2 with heap := h5 } := Fl.inv I1 f5.1 up f5.there s2.toks
  refine wpAny_handleBy_cons (codeAny_handlers_test ?_) (by intro q; cases q)
  refine Calls.Name_function_global I5.ok.kind hgy (Calls.loadGlobal_global (by rw [I5.ok.glob]; exact I5.mod.glob.keeps I5.bk) hc ?_) hdy
  obtain ⟨ob, hob, hcl⟩ := f5.there
  have LT : PySem.W.Looks (model X.prog X.w) h5 (typeOf (.ref ea)) (.ref C) := hcl ▸ (PySem.W.Looks.ld hob).andThen .now
  exact (PySem.W.exm_one I5.kIn LT hx).here h
end
end L2
set_option Elab.async false
set_option linter.all false
set_option maxRecDepth 100000
namespace L2
open PySem PySem.Spec PyProof.Rows
section
variable {X : Cx} {k i : Nat} {f C : Addr} {fd : FuncData} {ps : List Str} {sp : Sp} {x y n : Str} {st : Stmt} {p cpos epos np hpos pos : Pos} {e : Expr} {es : List Expr} {t : TA} {b₀ : Stmt} {suite : List Stmt} {ts : TS} {c : Value}
noncomputable def tTry0 (sp : Sp) (C : Addr) (t : TA) (ts : TS) : TS := fun D σ H => t σ H fun vs H1 => sp vs H1 (fun _ H2 => D.nx σ H2) fun cls _ H2 => cls = .ref C ∧ ∀ ea, H2 ea = none →
  ts { nx := D.nx, rt := fun _ _ => False } σ (upd H2 ea (XO ea C))
theorem ps_try0 (De : Def X.K X.mg x st ps f fd) (F : FnOk X.prog X.w X.K X.mg X.base (CXR X.prog X.w) k f fd ps sp) (hr : Room k X.A) (hc : X.mg y = some c) (hx : PySem.W.exmOne X.K (.ref C) c = some true) (ha : PA X (e :: es) t) (hsu : ∀ ea, PSs (X.caught ea) (b₀ :: suite) ts)
    (hxf : ∀ v s', ¬ X.xe v s' := by exact fun _ _ z => z) (hg : Gl X x := by rfl) (hdb : (x == ("__debug__" : Str)) = false := by decide) (hgy : Gl X y := by rfl) (hdy : (y == ("__debug__" : Str)) = false := by decide)
    (he : starEach (e :: es) X.env = (false, eval e X.env) :: starEach es X.env := by rfl) (hpl : (backTo cpos (starEach es X.env)).any (·.1) = false := by rfl)
    (hs : swapsWith (.Call (.Name x p) (e :: es) [] cpos) none epos.line X.env = pure false := by rfl) (hst : X.stack = X.env :: X.outer := by rfl) (hfm : X.env.frame = some X.env.locals := by rfl) :
    PS X (.Try [.Expr (.Call (.Name x p) (e :: es) [] cpos) epos] [.ExceptHandler (some (.Name y np)) none (b₀ :: suite) hpos] [] [] pos) (tTry0 sp C t ts) := by
  intro pins s σ H D I h
  refine try_call De F hr ha hxf hg hdb he hpl hs hst hfm I h fun ea C' a0 B H1 H2 s1 s2 h5 I1 Fl hz f5 up => ?_
  obtain ⟨eC, hz⟩ := hz
  cases eC
  refine takes_it I1 Fl f5 up hc hx hgy hdy (codeAny_handlers_suite ?_)
  refine lands_againW f5 fun h6 f6 up6 => ?_
  have I6 : Inv X pins σ _ { s2 with heap := h6 } := Fl.inv I1 f6.1 (up.trans up6) f6.there s2.toks
  refine wpAny_mono (hsu ea pins _ _ _ _ (I6.caught ea) (hz ea Fl.free)) (fun fl s8 q => ?_) fun v s8 z => False.elim z
  cases fl with
  | next =>
    obtain ⟨σ', H', I8, q⟩ := q
    exact ⟨_, _, I8.uncaught I.ok, q⟩
  | ret u => obtain ⟨_, _, _, _, _, z⟩ := q; exact z.elim
  | brk => obtain ⟨_, _, _, z⟩ := q; exact z.elim
  | cont => obtain ⟨_, _, _, z⟩ := q; exact z.elim
end
section
open PySem.W PySem.Builtin.ObjectAttr PySem.Builtin PySem.Builtin.Getset_descriptor
variable {K : Frag} {x D : Addr}
structure XCls (K : Frag) (D : Addr) : Prop where
  cl : hasDictIn K D = true
  ga : findIn K (.ref D) "__getattribute__" = some (some (.builtin "BaseException.__getattribute__"))
  hk : findIn K (.ref D) "__getattr__" = some none
  sb : subIn K (.ref D) (.type "BaseException") = some true
  fi : findIn K (.ref D) "__class__" = some (some (.builtin "object.__class__"))
  sp : specialIn K (.builtin "object.__class__") "__get__" = some (some (.builtin "getset_descriptor.__get__"))
  tk : takesIn K (.builtin "object.__class__") = some true
  mo : mroIn K D (.type "object") = some true
theorem XCls.find {M : Model} {h : Heap} (c : XCls K D) (X : K.In h) : Looks M h (Builtin.ObjectAttr.find (.ref x) (.ref D) "__class__") (Builtin.ObjectAttr.Found.bind (.builtin "getset_descriptor.__get__") (.builtin "object.__class__")) := by
  have a1 := looks_findIn (M := M) X c.fi
  have a2 : Looks M h (getOf (some (.builtin "object.__class__"))) (some (.builtin "getset_descriptor.__get__")) := looks_specialIn X c.sp
  have a3 := looks_takesIn (M := M) X c.tk
  have a4 : Looks M h (dataDescriptor? (some (.builtin "object.__class__")) (some (.builtin "getset_descriptor.__get__"))) (some (.builtin "getset_descriptor.__get__", .builtin "object.__class__")) := a3.andThen .now
  exact a1.andThen (a2.andThen (a4.andThen (Looks.tag .now)))
variable {prog : Program} {w : World} {A : Around} {s : Shared} {E : Value → Shared → Prop}
end
theorem exm_of {K : PySem.W.Frag} {t : Value} {c : Addr} (h1 : PySem.W.subIn K (.ref c) (.type "BaseException") = some true) (h2 : PySem.W.hasDictIn K c = true) (h3 : PySem.W.typeIn K (.ref c) = some (.type "type")) (h4 : PySem.W.subIn K t (.ref c) = some true) :
    PySem.W.exmOne K t (.ref c) = some true := by
  obtain ⟨cd, z, _⟩ := PySem.W.any_some h2
  unfold PySem.W.exmOne PySem.W.kitCls
  rw [h1, if_pos (by decide)]
  dsimp only
  have e : (some (Value.type "type") == some (Value.type "type")) = true := by decide
  rw [z, h3, e, Bool.and_true, Option.isSome_some, if_pos rfl]
  exact h4
section
variable {X : Cx} {k : Nat} {f : Addr} {fd : FuncData} {ps : List Str} {sp : Sp} {x : Str} {p pos : Pos} {e : Expr} {es : List Expr} {t : TA} {st : Stmt}
theorem pcR (De : Def X.K X.mg x st ps f fd) (F : FnOk X.prog X.w X.K X.mg X.base (CXR X.prog X.w) k f fd ps sp) (hr : Room k X.A) (ha : PA X (e :: es) t) (hg : Gl X x := by rfl) (hdb : (x == ("__debug__" : Str)) = false := by decide)
    (he : starEach (e :: es) X.env = (false, eval e X.env) :: starEach es X.env := by rfl) (hpl : (backTo pos (starEach es X.env)).any (·.1) = false := by rfl) : PE X (.Call (.Name x p) (e :: es) [] pos) (tCall sp [] E0 t) :=
  pe_call F hr hg De.at' De.fn.kp De.bd .nil passR ha hdb he hpl
end
end L2
set_option Elab.async false
set_option linter.all false
set_option maxRecDepth 100000
namespace L2
open PySem PySem.Spec PyProof.Rows
noncomputable abbrev Ord := List (Int × Int)
noncomputable def frL (es : Ord) (cn : Nat) (row : List Int) : List Nat := (List.range cn).filter fun (i : Nat) => frB es row (i : Int)
noncomputable def lnK (es : Ord) (cn : Nat) : Nat → List Int
  | 0 => []
  | k + 1 => lnK es cn k ++ ((frL es cn (lnK es cn k)).take 1).map fun (i : Nat) => (i : Int)
noncomputable abbrev lnL (es : Ord) (cn : Nat) : List Int := lnK es cn cn
noncomputable def lfL (es : Ord) (cn : Nat) : List Nat := (List.range cn).filter fun (i : Nat) => !decide ((i : Int) ∈ lnL es cn)
section
variable {es : Ord} {cn k : Nat} {row : List Int}
theorem lnK_stop (h : frL es cn (lnK es cn k) = []) (j : Nat) : lnK es cn (k + j) = lnK es cn k := by
  induction j with
  | zero => rfl
  | succ j ih =>
    show lnK es cn (k + j) ++ ((frL es cn (lnK es cn (k + j))).take 1).map (fun (i : Nat) => (i : Int)) = _
    rw [ih, h]
    simp
theorem lnK_go {i : Nat} {r : List Nat} (h : frL es cn (lnK es cn k) = i :: r) : lnK es cn (k + 1) = lnK es cn k ++ [(i : Int)] := by
  show lnK es cn k ++ ((frL es cn (lnK es cn k)).take 1).map (fun (i : Nat) => (i : Int)) = _
  rw [h]
  rfl
noncomputable def Ln (es : Ord) (cn : Nat) (row : List Int) : Prop := ∀ (j : Nat) (x : Int), row[j]? = some x → ∃ (i : Nat) (r : List Nat), frL es cn (row.take j) = i :: r ∧ x = (i : Int)
theorem ln_k (k : Nat) : Ln es cn (lnK es cn k) := by
  induction k with
  | zero => intro j x h; cases h
  | succ k ih =>
    cases hf : frL es cn (lnK es cn k) with
    | nil => rw [lnK_stop hf 1]; exact ih
    | cons i r =>
      rw [lnK_go hf]
      intro j x h
      by_cases hj : j < (lnK es cn k).length
      · rw [List.getElem?_append_left hj] at h
        rw [List.take_append_of_le_length (Nat.le_of_lt hj)]
        exact ih j x h
      · have hl := (List.getElem?_eq_some_iff.mp h).1
        rw [List.length_append, List.length_singleton] at hl
        have e : j = (lnK es cn k).length := by omega
        subst e
        rw [List.getElem?_append_right (Nat.le_refl _), Nat.sub_self] at h
        cases h
        exact ⟨i, r, by rw [List.take_left]; exact hf, rfl⟩
theorem len_k (k : Nat) : (lnK es cn k).length ≤ k ∧ ((lnK es cn k).length < k → frL es cn (lnK es cn k) = []) := by
  induction k with
  | zero => exact ⟨Nat.le_refl _, fun h => by cases h⟩
  | succ k ih =>
    cases hf : frL es cn (lnK es cn k) with
    | nil => rw [lnK_stop hf 1]; exact ⟨by omega, fun _ => hf⟩
    | cons i r =>
      have e : (lnK es cn k).length = k := by
        rcases Nat.lt_or_ge (lnK es cn k).length k with h | h
        · rw [ih.2 h] at hf; cases hf
        · omega
      rw [lnK_go hf, List.length_append, List.length_singleton]
      exact ⟨by omega, fun h => by omega⟩
theorem mem_frL {i : Nat} : i ∈ frL es cn row ↔ i < cn ∧ frB es row (i : Int) = true := by
  unfold frL
  rw [List.mem_filter, List.mem_range]
theorem Ln.free (h : Ln es cn row) {j : Nat} {x : Int} (e : row[j]? = some x) : ∃ i : Nat, x = (i : Int) ∧ i < cn ∧ frB es (row.take j) x = true := by
  obtain ⟨i, r, hf, rfl⟩ := h j x e
  have m : i ∈ frL es cn (row.take j) := by rw [hf]; exact List.mem_cons_self
  exact ⟨i, rfl, (mem_frL.mp m).1, (mem_frL.mp m).2⟩
theorem fr_not {s : Int} (h : frB es row s = true) : s ∉ row := by
  unfold frB at h
  rw [Bool.and_eq_true, Bool.not_eq_true'] at h
  exact of_decide_eq_false h.1
theorem mem_ahd {s a : Int} : a ∈ ahd es s ↔ (a, s) ∈ es := by
  unfold ahd
  rw [List.mem_map]
  constructor
  · rintro ⟨x, hx, rfl⟩
    rw [List.mem_filter] at hx
    have e : x.2 = s := of_decide_eq_true hx.2
    rw [← e]
    exact hx.1
  · intro h
    exact ⟨(a, s), by rw [List.mem_filter]; exact ⟨h, decide_eq_true rfl⟩, rfl⟩
theorem fr_ahead {s a : Int} (h : frB es row s = true) (m : (a, s) ∈ es) : a ∈ row := by
  unfold frB at h
  rw [Bool.and_eq_true, List.all_eq_true] at h
  exact of_decide_eq_true (h.2 a (mem_ahd.mpr m))
theorem fr_no {s : Int} (h : frB es row s = false) (n : s ∉ row) : ∃ a, (a, s) ∈ es ∧ a ∉ row := by
  unfold frB at h
  rw [decide_eq_false n] at h
  have h2 : ((ahd es s).all fun a => decide (a ∈ row)) = false := h
  rw [List.all_eq_false] at h2
  obtain ⟨a, ha, q⟩ := h2
  exact ⟨a, mem_ahd.mp ha, fun z => q (decide_eq_true z)⟩
theorem Ln.nd (h : Ln es cn row) : row.Nodup := by
  refine List.pairwise_iff_getElem.mpr fun i j hi hj hij e => ?_
  obtain ⟨_, _, _, f⟩ := h.free (List.getElem?_eq_getElem hj)
  refine fr_not f ?_
  rw [← e, List.mem_take_iff_getElem]
  exact ⟨i, by omega, rfl⟩
theorem Ln.rng (h : Ln es cn row) {x : Int} (m : x ∈ row) : ∃ i : Nat, x = (i : Int) ∧ i < cn := by
  obtain ⟨j, hj, rfl⟩ := List.mem_iff_getElem.mp m
  obtain ⟨i, e, l, _⟩ := h.free (List.getElem?_eq_getElem hj)
  exact ⟨i, e, l⟩
theorem rng_nd (cn : Nat) : ((List.range cn).map fun (i : Nat) => (i : Int)).Nodup := by
  refine List.pairwise_map.mpr (List.Pairwise.imp (fun h e => h (by omega)) List.nodup_range)
theorem mem_rng {x : Int} : x ∈ (List.range cn).map (fun (i : Nat) => (i : Int)) ↔ ∃ i : Nat, x = (i : Int) ∧ i < cn := by
  rw [List.mem_map]
  exact ⟨fun ⟨i, hi, e⟩ => ⟨i, e.symm, List.mem_range.mp hi⟩, fun ⟨i, e, hi⟩ => ⟨i, List.mem_range.mpr hi, e.symm⟩⟩
theorem full_mem (e : (lnL es cn).length = cn) {i : Nat} (hi : i < cn) : (i : Int) ∈ lnL es cn := by
  refine Decidable.byContradiction fun n => ?_
  have nd : ((i : Int) :: lnL es cn).Nodup := List.nodup_cons.mpr ⟨n, (ln_k cn).nd⟩
  have := nd.length_le_of_subset (l₂ := (List.range cn).map fun (i : Nat) => (i : Int)) fun x hx => by
    rcases List.mem_cons.mp hx with rfl | hx
    · exact mem_rng.mpr ⟨i, rfl, hi⟩
    · exact mem_rng.mpr ((ln_k cn).rng hx)
  rw [List.length_cons, e, List.length_map, List.length_range] at this
  omega
theorem mem_lf {i : Nat} : i ∈ lfL es cn ↔ i < cn ∧ (i : Int) ∉ lnL es cn := by
  unfold lfL
  rw [List.mem_filter, List.mem_range, Bool.not_eq_true', decide_eq_false_iff_not]
theorem lf_nil (e : (lnL es cn).length = cn) : lfL es cn = [] := List.eq_nil_iff_forall_not_mem.mpr fun i m => (mem_lf.mp m).2 (full_mem e (mem_lf.mp m).1)
theorem full_lf (h : lfL es cn = []) : (lnL es cn).length = cn := by
  have a := (len_k (es := es) (cn := cn) cn).1
  have := (rng_nd cn).length_le_of_subset (l₂ := lnL es cn) fun x hx => by
    obtain ⟨i, rfl, hi⟩ := mem_rng.mp hx
    refine Decidable.byContradiction fun n => ?_
    have : i ∈ lfL es cn := mem_lf.mpr ⟨hi, n⟩
    rw [h] at this
    cases this
  rw [List.length_map, List.length_range] at this
  exact Nat.le_antisymm a this
theorem lf_len : (lfL es cn).length ≤ cn := by
  have := List.length_filter_le (fun (i : Nat) => !decide ((i : Int) ∈ lnL es cn)) (List.range cn)
  rw [List.length_range] at this
  exact this
theorem further (h : (lnL es cn).length < cn) (ok : ∀ x ∈ es, 0 ≤ x.1 ∧ x.1 < (cn : Int)) {i : Nat} (hi : i ∈ lfL es cn) : ∃ a : Nat, ((a : Int), (i : Int)) ∈ es ∧ a ∈ lfL es cn := by
  obtain ⟨h1, h2⟩ := mem_lf.mp hi
  have nf : frB es (lnL es cn) (i : Int) = false := by
    cases q : frB es (lnL es cn) (i : Int) with
    | false => rfl
    | true =>
      have := mem_frL.mpr ⟨h1, q⟩
      rw [(len_k cn).2 h] at this
      cases this
  obtain ⟨a, ha, na⟩ := fr_no nf h2
  obtain ⟨a0, a1⟩ := ok _ ha
  have e : a = ((a.toNat : Nat) : Int) := by omega
  have l : a.toNat < cn := by omega
  exact ⟨a.toNat, by rw [← e]; exact ha, mem_lf.mpr ⟨l, by rw [← e]; exact na⟩⟩
theorem ranked (ok : ∀ x ∈ es, 0 ≤ x.1 ∧ x.1 < (cn : Int)) (rk : Int → Nat) (hr : ∀ x ∈ es, rk x.1 < rk x.2) : (lnL es cn).length = cn := by
  rcases Nat.lt_or_ge (lnL es cn).length cn with h | h
  · have no : ∀ n (i : Nat), rk (i : Int) < n → i ∉ lfL es cn := by
      intro n
      induction n with
      | zero => intro i z; omega
      | succ n ih =>
        intro i z m
        obtain ⟨a, ha, hm⟩ := further h ok m
        have : rk (a : Int) < rk (i : Int) := hr _ ha
        exact ih a (by omega) hm
    exact full_lf (List.eq_nil_iff_forall_not_mem.mpr fun i => no _ i (Nat.lt_succ_self _))
  · exact Nat.le_antisymm (len_k cn).1 h
theorem Ln.ahead (h : Ln es cn row) {j : Nat} {a b : Int} (m : (a, b) ∈ es) (hb : row[j]? = some b) : ∃ i, i < j ∧ row[i]? = some a := by
  obtain ⟨_, _, _, f⟩ := h.free hb
  have z := fr_ahead f m
  rw [List.mem_take_iff_getElem] at z
  obtain ⟨i, hi, e⟩ := z
  exact ⟨i, by omega, by rw [← e]; exact List.getElem?_eq_getElem _⟩
theorem Ln.idx (h : Ln es cn row) {a b : Int} (m : (a, b) ∈ es) (hb : b ∈ row) : row.idxOf a < row.idxOf b := by
  have hl := List.idxOf_lt_length_iff.mpr hb
  have e : row[row.idxOf b]? = some b := by rw [List.getElem?_eq_getElem hl]; exact congrArg some (List.getElem_idxOf hl)
  obtain ⟨i, hi, ea⟩ := h.ahead m e
  refine Nat.lt_of_le_of_lt ?_ hi
  obtain ⟨hil, ei⟩ := List.getElem?_eq_some_iff.mp ea
  rcases Nat.lt_or_ge i (row.idxOf a) with z | z
  · have q := List.not_of_lt_findIdx (show i < row.findIdx (· == a) from z)
    rw [ei] at q
    simp at q
  · exact z
theorem frB_set {ts ts' : List Int} {s : Int} (h : ∀ a, a ∈ ts ↔ a ∈ ts') : frB es ts s = frB es ts' s := by
  have e : ∀ a, decide (a ∈ ts) = decide (a ∈ ts') := fun a => by
    by_cases z : a ∈ ts
    · rw [decide_eq_true z, decide_eq_true ((h a).mp z)]
    · rw [decide_eq_false z, decide_eq_false fun y => z ((h a).mpr y)]
  unfold frB
  rw [e s]
  congr 1
  exact List.all_congr rfl e
theorem frB_rev {ts : List Int} {s : Int} : frB es.reverse ts s = frB es ts s := by
  unfold frB ahd
  rw [List.filter_reverse, List.map_reverse, List.all_reverse]
theorem lnK_rev (k : Nat) : lnK es.reverse cn k = lnK es cn k := by
  have e : ∀ row, frL es.reverse cn row = frL es cn row := fun row => by
    unfold frL
    exact List.filter_congr fun i _ => frB_rev
  induction k with
  | zero => rfl
  | succ k ih =>
    show lnK es.reverse cn k ++ ((frL es.reverse cn (lnK es.reverse cn k)).take 1).map (fun (i : Nat) => (i : Int)) = lnK es cn k ++ ((frL es cn (lnK es cn k)).take 1).map fun (i : Nat) => (i : Int)
    rw [ih, e]
structure IsRing (es : Ord) (r : List Int) : Prop where
  ne : r ≠ []
  nd : r.Nodup
  ch : ∀ (k : Nat) (x y : Int), r[k]? = some x → r[k + 1]? = some y → (x, y) ∈ es
  cl : ∀ x y : Int, r[r.length - 1]? = some x → r[0]? = some y → (x, y) ∈ es
structure IsWalk (es : Ord) (w : List Int) : Prop where
  ne : w ≠ []
  nd : w.Nodup
  ch : ∀ (k : Nat) (x y : Int), w[k]? = some x → w[k + 1]? = some y → (y, x) ∈ es
theorem IsWalk.more {w : List Int} {f x : Int} (h : IsWalk es w) (hx : w[w.length - 1]? = some x) (hf : (f, x) ∈ es) (n : f ∉ w) : IsWalk es (w ++ [f]) := by
  refine ⟨by simp, ?_, fun k a b ha hb => ?_⟩
  · exact List.nodup_append.mpr ⟨h.nd, by simp, fun a ha b hb e => n (by rw [List.mem_singleton] at hb; subst hb; rw [← e]; exact ha)⟩
  · have hl := (List.getElem?_eq_some_iff.mp hb).1
    rw [List.length_append, List.length_singleton] at hl
    rw [List.getElem?_append_left (by omega)] at ha
    by_cases z : k + 1 < w.length
    · rw [List.getElem?_append_left z] at hb
      exact h.ch k a b ha hb
    · have e : k + 1 = w.length := by omega
      rw [List.getElem?_append_right (by omega), e, Nat.sub_self] at hb
      cases hb
      have e2 : w.length - 1 = k := by omega
      rw [e2, ha] at hx
      cases hx
      exact hf
theorem IsWalk.ring {w : List Int} {f x : Int} {j : Nat} (h : IsWalk es w) (hx : w[w.length - 1]? = some x) (hf : (f, x) ∈ es) (hj : w[j]? = some f) : IsRing es (w.drop j).reverse := by
  have hl := (List.getElem?_eq_some_iff.mp hj).1
  have ld : (w.drop j).length = w.length - j := List.length_drop
  refine ⟨fun z => ?_, ?_, fun k a b ha hb => ?_, fun a b ha hb => ?_⟩
  · have := congrArg List.length z
    rw [List.length_reverse, ld, List.length_nil] at this
    omega
  · exact List.pairwise_reverse.mpr ((List.Pairwise.imp (fun n => Ne.symm n) (h.nd.sublist (List.drop_sublist _ _))))
  · have l2 := (List.getElem?_eq_some_iff.mp hb).1
    rw [List.length_reverse, ld] at l2
    rw [List.getElem?_reverse (by rw [ld]; omega), ld, List.getElem?_drop] at ha hb
    have e : j + (w.length - j - 1 - k) = j + (w.length - j - 1 - (k + 1)) + 1 := by omega
    rw [e] at ha
    exact h.ch _ b a hb ha
  · have lr : (w.drop j).reverse.length = w.length - j := by rw [List.length_reverse, ld]
    rw [lr, List.getElem?_reverse (by rw [ld]; omega), ld, List.getElem?_drop] at ha
    rw [List.getElem?_reverse (by rw [ld]; omega), ld, List.getElem?_drop] at hb
    have e1 : j + (w.length - j - 1 - (w.length - j - 1)) = j := by omega
    have e2 : j + (w.length - j - 1 - 0) = w.length - 1 := by omega
    rw [e1, hj] at ha
    rw [e2, hx] at hb
    cases ha
    cases hb
    exact hf
end
end L2
set_option Elab.async false
set_option linter.all false
set_option maxRecDepth 100000
namespace L2
open PySem PySem.Spec PyProof.Rows
theorem filter_atI {α : Type} (ns : List Int) (p : Int → Bool) (f : Int → α) : ((List.range ns.length).filter fun i => p (ns.getD i 0)).map (fun i => f (ns.getD i 0)) = (ns.filter p).map f := by
  have e : (List.range ns.length).map (fun i => ns.getD i 0) = ns := by
    apply List.ext_getElem
    · rw [List.length_map, List.length_range]
    · intro i h1 h2
      rw [List.getElem_map, List.getElem_range, List.getD_eq_getElem?_getD, List.getElem?_eq_getElem h2]
      rfl
  have := congrArg (fun l => (l.filter p).map f) e
  simp only [List.filter_map, List.map_map] at this
  exact this
theorem comp_intsF {K : PySem.W.Frag} {H1 : Hp} {js : List (Option Nat)} {σ : L2.St} {tc : TT} {te : TE} {Q : VK} {a : Addr} {ns : List Int} (p : Int → Bool) (hl : SqL K H1 a (ns.map V.int)) (hn : ns.length < 100000)
    (hc : ∀ x ∈ ns, ∀ H2 R, Same H1 H2 → (∀ H3, Same H2 H3 → R (p x) H3) → tc (some (.int x) :: pick σ js) H2 R)
    (he : ∀ x ∈ ns, ∀ H2 R, Same H1 H2 → (∀ H3, Same H2 H3 → R (.int x) H3) → te (some (.int x) :: pick σ js) H2 R)
    (hQ : ∀ acc H', Same H1 H' → H1 acc = none → H' acc = some (.lst ((ns.filter p).map V.int)) → Q (.ref acc) H') : CompB (Itl K a) H1 (none :: js) (gName 0) tc te σ Q := by
  refine comp_list2 (xs := ns.map V.int) (fun i => p (ns.getD i 0)) (fun i => V.int (ns.getD i 0)) hl (by rw [List.length_map]; exact hn) (fun i x hx H2 R s k => ?_) (fun i x hx _ H2 R s k => ?_) fun acc H' s n e => hQ acc H' s n (by rw [e, List.length_map]; exact congrArg (fun l => some (HO.lst l)) (filter_atI ns p V.int))
  · rw [List.getElem?_map] at hx
    obtain ⟨b, hb, rfl⟩ := Option.map_eq_some_iff.mp hx
    rw [List.getD_eq_getElem?_getD, hb] at k
    exact hc b (List.mem_of_getElem? hb) H2 R s k
  · rw [List.getElem?_map] at hx
    obtain ⟨b, hb, rfl⟩ := Option.map_eq_some_iff.mp hx
    rw [List.getD_eq_getElem?_getD, hb] at k
    exact he b (List.mem_of_getElem? hb) H2 R s k
theorem last_walk {w : List Int} {x : Int} (h : w[w.length - 1]? = some x) : atI (w.map V.int) (-1) = some (.int x) := by
  refine atI_lst ?_
  rw [List.getLast?_eq_getElem?, List.length_map, List.getElem?_map, h]
  rfl
theorem last_some {w : List Int} (h : w ≠ []) : ∃ x, w[w.length - 1]? = some x := by
  have := List.length_pos_iff.mpr h
  exact ⟨_, List.getElem?_eq_getElem (by omega)⟩
theorem first_at {w : List Int} {f : Int} (h : f ∈ w) : ∃ j : Nat, w[j]? = some f ∧ ∀ m, m < j → w[m]? ≠ some f := by
  have hl := List.idxOf_lt_length_iff.mpr h
  refine ⟨w.idxOf f, by rw [List.getElem?_eq_getElem hl]; exact congrArg some (List.getElem_idxOf hl), fun m hm e => ?_⟩
  obtain ⟨hml, em⟩ := List.getElem?_eq_some_iff.mp e
  have q := List.not_of_lt_findIdx (show m < w.findIdx (· == f) from hm)
  rw [em] at q
  simp at q
theorem ahd_left {es : Ord} {L : List Int} {x : Int} (h : ∃ a, (a, x) ∈ es ∧ a ∈ L) : ∃ f r, (ahd es x).filter (fun a => decide (a ∈ L)) = f :: r ∧ (f, x) ∈ es ∧ f ∈ L := by
  obtain ⟨a, h1, h2⟩ := h
  cases e : (ahd es x).filter (fun a => decide (a ∈ L)) with
  | nil =>
    have m : a ∈ (ahd es x).filter (fun a => decide (a ∈ L)) := List.mem_filter.mpr ⟨mem_ahd.mpr h1, decide_eq_true h2⟩
    rw [e] at m
    cases m
  | cons f r =>
    have m : f ∈ (ahd es x).filter (fun a => decide (a ∈ L)) := by rw [e]; exact List.mem_cons_self
    obtain ⟨m1, m2⟩ := List.mem_filter.mp m
    exact ⟨f, r, rfl, mem_ahd.mp m1, of_decide_eq_true m2⟩
theorem ahd_len {es : Ord} {x : Int} : (ahd es x).length ≤ es.length := by unfold ahd; rw [List.length_map]; exact List.length_filter_le _ _
theorem lf_map {es : Ord} {cn : Nat} : (lfL es cn).map (fun (i : Nat) => V.int (i : Int)) = ((lfL es cn).map fun (i : Nat) => (i : Int)).map V.int := by rw [List.map_map]; rfl
theorem atI_hd {α : Type} {x : α} {r : List α} : atI (x :: r) 0 = some x := atI_nat (j := 0) rfl
end L2
set_option Elab.async false
set_option linter.all false
set_option maxRecDepth 100000
namespace L2
open PySem PySem.Spec PyProof.Rows
theorem row_in {K : PySem.W.Frag} {H : Hp} {t : Addr} {ps : List Addr} {es : Ord} {u v : Int} (tp : TupsL H ps es) (ht : H t = some (.tup [.int u, .int v])) (m : (u, v) ∈ es) : (∀ a ∈ ps, DEq K H 1 (.ref a) (.ref t) (tupB H (.int u) (.int v) a)) ∧ ps.any (tupB H (.int u) (.int v)) = true := by
  refine ⟨fun a ha => ?_, ?_⟩
  · obtain ⟨i, hi⟩ := List.mem_iff_getElem?.mp ha
    obtain ⟨x, _, px⟩ := pair_at tp hi
    exact deq_tup2 px (SqT.of ht) rfl rfl rfl rfl
  · obtain ⟨i, hi⟩ := List.mem_iff_getElem?.mp m
    obtain ⟨a, ea, pa⟩ := pair_get tp hi
    exact List.any_eq_true.mpr ⟨a, List.mem_of_getElem? ea, tupB_yes pa rfl rfl⟩
noncomputable def rngI (n : Nat) : List Int := (List.range n).map fun (i : Nat) => (i : Int)
theorem row_ins {r : List Int} {i : Nat} (j : Nat) (h : r.Perm (rngI i)) : (r.take j ++ (i : Int) :: r.drop j).Perm (rngI (i + 1)) := by
  have e : rngI (i + 1) = rngI i ++ [(i : Int)] := by unfold rngI; rw [List.range_succ, List.map_append]; rfl
  rw [e]
  refine List.perm_middle.trans ?_
  rw [List.take_append_drop]
  exact (List.Perm.cons _ h).trans (List.perm_append_singleton _ _).symm
theorem perm_rng {r : List Int} {cn : Nat} (h : r.Perm (rngI cn)) : r.length = cn ∧ r.Nodup ∧ ∀ x, x ∈ r ↔ 0 ≤ x ∧ x < (cn : Int) := by
  refine ⟨by rw [h.length_eq]; unfold rngI; rw [List.length_map, List.length_range], h.nodup_iff.mpr (rng_nd cn), fun x => ?_⟩
  rw [h.mem_iff]
  unfold rngI
  rw [mem_rng]
  constructor
  · rintro ⟨i, rfl, hi⟩; exact ⟨by omega, by omega⟩
  · rintro ⟨h0, h1⟩; exact ⟨x.toNat, by omega, by omega⟩
theorem IsRing.at {es : Ord} {r : List Int} (h : IsRing es r) {i : Nat} {b : Int} (hb : r[i]? = some b) : ∃ a, atI (r.map V.int) ((i : Int) - 1) = some (.int a) ∧ (a, b) ∈ es := by
  cases i with
  | zero =>
    obtain ⟨x, hx⟩ := last_some h.ne
    exact ⟨x, last_walk hx, h.cl x b hx hb⟩
  | succ i =>
    have hl := (List.getElem?_eq_some_iff.mp hb).1
    have ha : r[i]? = some r[i] := List.getElem?_eq_getElem (by omega)
    have e : (((i + 1 : Nat) : Int)) - 1 = ((i : Nat) : Int) := by omega
    exact ⟨_, by rw [e]; exact atI_nat (by rw [List.getElem?_map, ha]; rfl), h.ch i _ b ha hb⟩
theorem nd_at {r : List Int} (h : r.Nodup) {i : Nat} {b : Int} (hb : r[i]? = some b) : b ∉ r.take i := by
  obtain ⟨hi, e⟩ := List.getElem?_eq_some_iff.mp hb
  intro m
  obtain ⟨j, hj, e2⟩ := List.mem_take_iff_getElem.mp m
  have := List.pairwise_iff_getElem.mp h j i (by omega) hi (by omega)
  exact this (e2.trans e.symm)
section
variable {es : Ord} {cn : Nat} {S : List Int}
theorem at_getD {j : Nat} {x : Int × Int} (h : es[j]? = some x) : es.getD j (0, 0) = x := by rw [List.getD_eq_getElem?_getD, h]; rfl
end
theorem ifNotD {c : Prop} [Decidable c] {A B : Prop} (h : c) (hB : B) : if (!decide c) = true then A else B := by rw [decide_eq_true h]; exact hB
theorem ifNo {c : Prop} [Decidable c] {A B : Prop} (h : ¬ c) (hB : B) : if decide c = true then A else B := by rw [decide_eq_false h]; exact iteF hB
theorem mnmx {a b : Nat} (h : (a : Int) ≠ (b : Int)) : ∃ i j : Nat, i < j ∧ (if (b : Int) < (a : Int) then (b : Int) else (a : Int)) = (i : Int) ∧ (if (b : Int) > (a : Int) then (b : Int) else (a : Int)) = (j : Int) ∧ (i = a ∧ j = b ∨ i = b ∧ j = a) := by
  by_cases z : (b : Int) < (a : Int)
  · exact ⟨b, a, by omega, if_pos z, if_neg (by omega), .inr ⟨rfl, rfl⟩⟩
  · exact ⟨a, b, by omega, if_neg z, if_pos (by omega), .inl ⟨rfl, rfl⟩⟩
theorem getD_some {r : List Int} {i : Nat} (h : i < r.length) : r[i]? = some (r.getD i 0) := by rw [List.getD_eq_getElem?_getD, List.getElem?_eq_getElem h]; rfl
end L2
set_option Elab.async false
set_option linter.all false
set_option maxRecDepth 100000
namespace L2
open PySem PySem.Spec PyProof.Rows
theorem idx_at {w : List Int} {f : Int} (h : f ∈ w) : w[w.idxOf f]? = some f ∧ ∀ m, m < w.idxOf f → w[m]? ≠ some f := by
  have hl := List.idxOf_lt_length_iff.mpr h
  refine ⟨by rw [List.getElem?_eq_getElem hl]; exact congrArg some (List.getElem_idxOf hl), fun m hm e => ?_⟩
  obtain ⟨hml, em⟩ := List.getElem?_eq_some_iff.mp e
  have q := List.not_of_lt_findIdx (show m < w.findIdx (· == f) from hm)
  rw [em] at q
  simp at q
theorem nd_two {r : List Int} (nd : r.Nodup) {a b : Nat} {x : Int} (ha : r[a]? = some x) (hb : r[b]? = some x) (l : a < b) : False := by
  obtain ⟨h1, e1⟩ := List.getElem?_eq_some_iff.mp ha
  obtain ⟨h2, e2⟩ := List.getElem?_eq_some_iff.mp hb
  exact List.pairwise_iff_getElem.mp nd a b h1 h2 l (e1.trans e2.symm)
theorem idx_nd {r : List Int} (nd : r.Nodup) {i : Nat} {x : Int} (h : r[i]? = some x) : r.idxOf x = i := by
  obtain ⟨h1, h2⟩ := idx_at (List.mem_of_getElem? h)
  rcases Nat.lt_trichotomy (r.idxOf x) i with z | z | z
  · exact (nd_two nd h1 h z).elim
  · exact z
  · exact (h2 i z h).elim
section
variable {es : Ord} {cn : Nat} {r : List Int}
theorem rng_along (pr : r.Perm (rngI cn)) (ok : ∀ x ∈ es, ∃ i j : Nat, i < j ∧ r[i]? = some x.1 ∧ r[j]? = some x.2) : ∀ x ∈ es, (0 ≤ x.1 ∧ x.1 < (cn : Int)) ∧ 0 ≤ x.2 ∧ x.2 < (cn : Int) := fun x hx => by
  obtain ⟨i, j, _, h1, h2⟩ := ok x hx
  exact ⟨((perm_rng pr).2.2 _).mp (List.mem_of_getElem? h1), ((perm_rng pr).2.2 _).mp (List.mem_of_getElem? h2)⟩
theorem along (pr : r.Perm (rngI cn)) (ok : ∀ x ∈ es, ∃ i j : Nat, i < j ∧ r[i]? = some x.1 ∧ r[j]? = some x.2) : (lnL es cn).length = cn := by
  refine ranked (fun x hx => (rng_along pr ok x hx).1) (fun x => r.idxOf x) fun x hx => ?_
  obtain ⟨i, j, l, h1, h2⟩ := ok x hx
  have nd := (perm_rng pr).2.1
  show r.idxOf x.1 < r.idxOf x.2
  rw [idx_nd nd h1, idx_nd nd h2]
  exact l
theorem line_mem (e : (lnL es cn).length = cn) {x : Int} : x ∈ lnL es cn ↔ 0 ≤ x ∧ x < (cn : Int) := by
  constructor
  · intro h
    obtain ⟨i, rfl, hi⟩ := (ln_k cn).rng h
    exact ⟨by omega, by omega⟩
  · rintro ⟨h0, h1⟩
    have z := full_mem e (i := x.toNat) (by omega)
    rw [show ((x.toNat : Nat) : Int) = x by omega] at z
    exact z
theorem line_perm (e : (lnL es cn).length = cn) : (lnL es cn).Perm (rngI cn) := by
  refine (List.perm_ext_iff_of_nodup (ln_k cn).nd (rng_nd cn)).mpr fun x => ?_
  rw [line_mem e]
  exact ((perm_rng (List.Perm.refl (rngI cn))).2.2 x).symm
theorem rng_up : (rngI cn).Pairwise (· ≤ ·) := by
  unfold rngI
  exact List.pairwise_map.mpr (List.Pairwise.imp (fun h => by omega) List.pairwise_lt_range)
structure Dn (cn : Nat) (S : List Int) (dn : List (Option Int)) : Prop where
  len : dn.length = cn
  mem : ∀ i, i < cn → ((dn.getD i none).isSome = true ↔ (i : Int) ∈ S)
theorem Dn.nil : Dn cn [] (List.replicate cn none) := ⟨List.length_replicate, fun i hi => by
  rw [List.getD_eq_getElem?_getD, List.getElem?_replicate, if_pos hi]; simp⟩
theorem Dn.set {S : List Int} {dn : List (Option Int)} (h : Dn cn S dn) {st : Nat} (hs : st < cn) (v : Int) : Dn cn (S ++ [(st : Int)]) (dn.set st (some v)) := by
  refine ⟨by rw [List.length_set]; exact h.len, fun i hi => ?_⟩
  rw [List.mem_append, List.mem_singleton, List.getD_eq_getElem?_getD]
  by_cases z : st = i
  · subst z
    rw [List.getElem?_set_self (by rw [h.len]; exact hs)]
    exact ⟨fun _ => .inr rfl, fun _ => rfl⟩
  · rw [List.getElem?_set_ne z, ← List.getD_eq_getElem?_getD, h.mem i hi]
    exact ⟨.inl, fun q => q.resolve_right fun e => z (by omega)⟩
theorem Dn.dn {S : List Int} {dn : List (Option Int)} (h : Dn cn S dn) (rg : ∀ x ∈ S, ∃ i : Nat, x = (i : Int) ∧ i < cn) (a : Int) : a ∈ dnS dn ↔ a ∈ S := by
  rw [mem_dnS]
  constructor
  · rintro ⟨i, rfl, h1, h2⟩
    exact (h.mem i (by rw [← h.len]; exact h1)).mp h2
  · intro m
    obtain ⟨i, rfl, hi⟩ := rg a m
    exact ⟨i, rfl, by rw [h.len]; exact hi, (h.mem i hi).mpr m⟩
theorem ready_in {j : Nat} {x : Int} {dn : List (Option Int)} (h : Dn cn ((lnL es cn).take j) dn) (hx : (lnL es cn)[j]? = some x) : ∃ i : Nat, x = (i : Int) ∧ i < cn ∧ i ∈ (List.range dn.length).filter fun (i : Nat) => frB es (dnS dn) (i : Int) := by
  obtain ⟨i, rfl, hi, f⟩ := (ln_k cn).free hx
  refine ⟨i, rfl, hi, List.mem_filter.mpr ⟨List.mem_range.mpr (by rw [h.len]; exact hi), ?_⟩⟩
  rw [frB_set (h.dn fun y hy => (ln_k cn).rng (List.mem_of_mem_take hy))]
  exact f
theorem ready_nil {dn : List (Option Int)} (e : (lnL es cn).length = cn) (h : Dn cn (lnL es cn) dn) : ((List.range dn.length).filter fun (i : Nat) => frB es (dnS dn) (i : Int)) = [] := by
  refine List.filter_eq_nil_iff.mpr fun i hi z => ?_
  have hi := List.mem_range.mp hi
  rw [h.len] at hi
  exact fr_not z ((h.dn (fun y hy => (ln_k cn).rng hy) _).mpr (full_mem e hi))
structure Way (es : Ord) (w : List Int) : Prop where
  ne : w ≠ []
  ch : ∀ (k : Nat) (x y : Int), w[k]? = some x → w[k + 1]? = some y → (x, y) ∈ es
theorem Way.one (x : Int) : Way es [x] := ⟨by simp, fun k a b h1 h2 => by cases h2⟩
theorem Way.more {w : List Int} {f x : Int} (h : Way es w) (hx : w[w.length - 1]? = some x) (hf : (x, f) ∈ es) : Way es (w ++ [f]) := by
  refine ⟨by simp, fun k a b ha hb => ?_⟩
  have hl := (List.getElem?_eq_some_iff.mp hb).1
  rw [List.length_append, List.length_singleton] at hl
  rw [List.getElem?_append_left (by omega)] at ha
  by_cases z : k + 1 < w.length
  · rw [List.getElem?_append_left z] at hb
    exact h.ch k a b ha hb
  · have e : k + 1 = w.length := by omega
    rw [List.getElem?_append_right (by omega), e, Nat.sub_self] at hb
    cases hb
    have e2 : w.length - 1 = k := by omega
    rw [e2, ha] at hx
    cases hx
    exact hf
theorem Way.le {w : List Int} (h : Way es w) {row : List Int} {es' : Ord} (hr : Ln es' cn row) (sub : ∀ x ∈ es, x ∈ es') (all : ∀ x ∈ w, x ∈ row) {a : Int} (ha : w[0]? = some a) : ∀ (k : Nat) (b : Int), w[k]? = some b → row.idxOf a ≤ row.idxOf b := by
  intro k
  induction k with
  | zero => intro b hb; rw [ha] at hb; cases hb; exact Nat.le_refl _
  | succ k ih =>
    intro b hb
    have hl := (List.getElem?_eq_some_iff.mp hb).1
    have hc : w[k]? = some w[k] := List.getElem?_eq_getElem (by omega)
    exact Nat.le_trans (ih _ hc) (Nat.le_of_lt (hr.idx (sub _ (h.ch k _ b hc hb)) (all b (List.mem_of_getElem? hb))))
theorem Way.closed {w : List Int} (h : Way es w) (rg : ∀ x ∈ w, 0 ≤ x ∧ x < (cn : Int)) {a b : Int} (ha : w[0]? = some a) (hb : w[w.length - 1]? = some b) : (lnL (es ++ [(b, a)]) cn).length < cn := by
  rcases Nat.lt_or_ge (lnL (es ++ [(b, a)]) cn).length cn with z | z
  · exact z
  · have e := Nat.le_antisymm (len_k (es := es ++ [(b, a)]) (cn := cn) cn).1 z
    have hr : Ln (es ++ [(b, a)]) cn (lnL (es ++ [(b, a)]) cn) := ln_k cn
    have all : ∀ x ∈ w, x ∈ lnL (es ++ [(b, a)]) cn := fun x hx => (line_mem e).mpr (rg x hx)
    have l1 := h.le hr (fun x hx => List.mem_append_left _ hx) all ha _ b hb
    have l2 := hr.idx (List.mem_append_right es (List.mem_singleton.mpr rfl)) (all a (List.mem_of_getElem? ha))
    omega
end
theorem TupsL.rev {H : Hp} {ps : List Addr} {row : List (Int × Int)} (h : TupsL H ps row) : TupsL H ps.reverse row.reverse := by
  unfold TupsL at *
  induction h with
  | nil => exact .nil
  | cons r t ih =>
    rw [List.reverse_cons, List.reverse_cons]
    exact paired_snoc_len ih r
noncomputable def SomeAt (H : Hp) (s : Addr) (es : Ord) (a : Int) : Prop := ∃ qs : List Addr, H s = some (.lst (qs.map V.ref)) ∧ qs.length ≤ es.length ∧ ∀ q ∈ qs, ∃ b, (a, b) ∈ es ∧ H q = some (.tup [.int a, .int b])
theorem SomeAt.same {H H' : Hp} {s : Addr} {es : Ord} {a : Int} (h : SomeAt H s es a) (e : Same H H') : SomeAt H' s es a := by
  obtain ⟨qs, h1, h2, h3⟩ := h
  exact ⟨qs, e _ _ h1, h2, fun q hq => by obtain ⟨b, m, t⟩ := h3 q hq; exact ⟨b, m, e _ _ t⟩⟩
theorem some_at {H : Hp} {s : Addr} {es : Ord} {a : Int} {ps : List Addr} (tp : TupsL H ps es) (h : H s = some (.lst (((List.range es.length).filter fun i => decide ((es.getD i (0, 0)).1 = a)).map fun i => V.ref (ps.getD i 0)))) : SomeAt H s es a := by
  refine ⟨((List.range es.length).filter fun i => decide ((es.getD i (0, 0)).1 = a)).map fun i => ps.getD i 0, by rw [h, List.map_map]; rfl, ?_, fun q hq => ?_⟩
  · rw [List.length_map]
    have z := List.length_filter_le (fun i => decide ((es.getD i (0, 0)).1 = a)) (List.range es.length)
    rw [List.length_range] at z
    exact z
  · obtain ⟨i, hi, rfl⟩ := List.mem_map.mp hq
    obtain ⟨h1, h2⟩ := List.mem_filter.mp hi
    obtain ⟨x, ex⟩ : ∃ x, es[i]? = some x := ⟨_, List.getElem?_eq_getElem (List.mem_range.mp h1)⟩
    obtain ⟨p, ep, px⟩ := pair_get tp ex
    rw [at_getD ex] at h2
    have e := of_decide_eq_true h2
    refine ⟨x.2, by rw [← e]; exact List.mem_of_getElem? ex, ?_⟩
    rw [List.getD_eq_getElem?_getD, ep, ← e]
    exact px
end L2
set_option Elab.async false
set_option linter.all false
set_option maxRecDepth 100000
set_option maxHeartbeats 4000000
namespace My
seal L2.PE L2.PA L2.PS L2.PSs L2.PT L2.PW L2.PI L2.PG L2.PGs L2.PIf L2.PO L2.OpR L2.CallR L2.IxR L2.SlR L2.UnR
open PySem L2 PyProof.Rows
local macro_rules | `(tactic| walk_at "go") => `(tactic| repeat (first | refine ⟨_, rfl, ?_⟩ | refine ⟨_, _, rfl, rfl, (show (0 : Int) < _ by decide), ?_⟩ | refine ⟨_, _, rfl, rfl, (show CDiv _ _ from ⟨by decide, by decide⟩), ?_⟩ | refine ⟨_, _, rfl, rfl, (show CPow _ _ from ⟨by decide, by decide, by decide⟩), ?_⟩ | refine ⟨_, _, rfl, rfl, (show CMul _ _ from .inl ⟨by decide, by decide⟩), ?_⟩ | refine ⟨_, _, rfl, rfl, (show CMul _ _ from .inr ⟨by decide, by decide⟩), ?_⟩ | refine ⟨_, _, rfl, rfl, ?_⟩ | refine ⟨rfl, ?_⟩))
noncomputable def top (i : Nat) : Stmt := PySem.Challenge.pw_deskround_k47_whole_lines.main.body.getD i (.Pass ⟨0, 0, 0, 0⟩)
noncomputable abbrev s_ring : Stmt := top 4
noncomputable abbrev s_ring_among : Stmt := top 5
noncomputable abbrev s_line : Stmt := top 6
noncomputable abbrev s_lined : Stmt := top 7
noncomputable abbrev s_ready : Stmt := top 8
noncomputable abbrev s_free : Stmt := top 9
noncomputable abbrev s_is_free : Stmt := top 10
noncomputable abbrev s_ahead_of : Stmt := top 11
noncomputable abbrev s_law_cell : Stmt := top 13
noncomputable abbrev s_law_whole : Stmt := top 14
noncomputable abbrev s_law_row : Stmt := top 15
noncomputable abbrev s_law_order : Stmt := top 16
noncomputable abbrev s_law_placed : Stmt := top 17
noncomputable abbrev s_law_way : Stmt := top 18
noncomputable abbrev s_law_refused : Stmt := top 19
noncomputable abbrev s_law_closed : Stmt := top 20
noncomputable abbrev s_law : Stmt := top 21
structure Txt (mg : Str → Option Value) : Prop where
  z_all : mg "all" = none
  z_bool : mg "bool" = none
  z_int : mg "int" = none
  z_isinstance : mg "isinstance" = none
  z_len : mg "len" = none
  z_list : mg "list" = none
  z_max : mg "max" = none
  z_min : mg "min" = none
  z_range : mg "range" = none
  z_reversed : mg "reversed" = none
  z_sorted : mg "sorted" = none
structure Dfs (K : PySem.W.Frag) (mg : Str → Option Value) (aF : Nat → Addr) (dF : Nat → FuncData) : Prop where
  ring : Def K mg "ring" s_ring ["count", "order"] (aF 0) (dF 0)
  ring_among : Def K mg "ring_among" s_ring_among ["left", "order"] (aF 1) (dF 1)
  line : Def K mg "line" s_line ["count", "order"] (aF 2) (dF 2)
  lined : Def K mg "lined" s_lined ["count", "order"] (aF 3) (dF 3)
  ready : Def K mg "ready" s_ready ["order", "done"] (aF 4) (dF 4)
  free : Def K mg "free" s_free ["count", "order", "there"] (aF 5) (dF 5)
  is_free : Def K mg "is_free" s_is_free ["step", "order", "there"] (aF 6) (dF 6)
  ahead_of : Def K mg "ahead_of" s_ahead_of ["step", "order"] (aF 7) (dF 7)
  law_cell : Def K mg "_law_cell" s_law_cell ["script", "k"] (aF 8) (dF 8)
  law_whole : Def K mg "_law_whole" s_law_whole ["found"] (aF 9) (dF 9)
  law_row : Def K mg "_law_row" s_law_row ["count", "cell"] (aF 10) (dF 10)
  law_order : Def K mg "_law_order" s_law_order ["cells", "row"] (aF 11) (dF 11)
  law_placed : Def K mg "_law_placed" s_law_placed ["found", "count", "order"] (aF 12) (dF 12)
  law_way : Def K mg "_law_way" s_law_way ["order", "cell"] (aF 13) (dF 13)
  law_refused : Def K mg "_law_refused" s_law_refused ["count", "order"] (aF 14) (dF 14)
  law_closed : Def K mg "_law_closed" s_law_closed ["count", "order"] (aF 15) (dF 15)
  law : Def K mg "law" s_law ["script"] (aF 16) (dF 16)
  n_Ring : PySem.W.nsIn K mainGlobals "Ring" = some (some (.ref (aF 17)))
  g_Ring : mg "Ring" = some (.ref (aF 17))
  n_DeskError : PySem.W.nsIn K mainGlobals "DeskError" = some (some (.ref (aF 18)))
  g_DeskError : mg "DeskError" = some (.ref (aF 18))
  e_Ring : PySem.W.excIn K (aF 17) [.type "ValueError", .type "Exception", .type "BaseException", .type "object"] "ValueError.__new__" = true
  b_Ring : PySem.W.subIn K (.ref (aF 17)) (.type "BaseException") = some true
  h_Ring : PySem.W.hasDictIn K (aF 17) = true
  t_Ring : PySem.W.typeIn K (.ref (aF 17)) = some (.type "type")
  s_Ring : PySem.W.subIn K (.ref (aF 17)) (.ref (aF 17)) = some true
section
variable {P : Program} {w : World} {K : PySem.W.Frag} {mg : Str → Option Value} {base : Heap} {aF : Nat → Addr} {dF : Nat → FuncData}
noncomputable def sp_ahead_of (K : PySem.W.Frag) : Sp := fun vs H Q _ => ∃ (s : Int) (o : Addr) (es : List (Int × Int)), vs = [.int s, .ref o] ∧ RowAt H o es ∧ es.length ≤ 100 ∧ ∀ l H', Same H H' → H l = none → H' l = some (.lst ((ahd es s).map V.int)) → Q (.ref l) H'
theorem sc_ahead_of : FnScope ["step", "order"] ["step", "order"] (defScope s_ahead_of) := ⟨rfl, rfl, rfl, by decide +kernel, rfl, by decide +kernel, by decide +kernel⟩
theorem ok_ahead_of (D : Dfs K mg aF dF) (T : Txt mg) : FnOk P w K mg base CX0 1 (aF 7) (dF 7) ["step", "order"] (sp_ahead_of K) := by
  refine D.ahead_of.fn.ok sc_ahead_of (fun vs H Q E h => ?_) (fun cdv A outer s H vs Q E hr h => ?_)
  · obtain ⟨s, o, es, rfl, _⟩ := h; rfl
  · have hu := hu_of hr
    obtain ⟨s, o, es, rfl, ho, e1, q⟩ := h
    refine ⟨_, (pss_one (ps_ret (pe_lcomp ["ahead", "behind", "step"] [none, none, some 0] rfl (piL K (pv 1)) (fun _ => pgT K (n := 2) rfl (pgs_cons (pg_name (i := 0) (nodupN (N := ["ahead", "behind", "step"]) (by decide +kernel)) rfl (Or.inl rfl)) (pgs_cons (pg_name (i := 1) (nodupN (N := ["ahead", "behind", "step"]) (by decide +kernel)) rfl (Or.inl rfl)) pgs_nil))) (fun _ => pif_one (pt_cmpR op_eq (pv 1) (pv 2) (nomark _))) (fun _ => (pv 0)) ((.cons (fun _ e => by cases e) (.cons (fun _ e => by cases e) (.cons (fun _ e => by cases e; exact ⟨rfl, rfl⟩) .nil))))))), ?_⟩
    refine ⟨_, rfl, o, rfl, ⟨_, SqL.of ho.choose_spec.1⟩, ?_⟩
    refine comp_pairsF (fun x => decide (x.2 = s)) (fun x => V.int x.1) ho (by omega) (fun i x hx H2 R s2 k => ⟨_, rfl, _, rfl, rfl, _, rfl, by have := k H2 (Same.refl _); rw [← decV] at this; exact this⟩) (fun i x hx H2 R s2 k => ⟨_, rfl, k H2 (Same.refl _)⟩) fun acc H2 s2 na ha => q acc H2 s2 na ?_
    rw [ha]; unfold ahd; rw [List.map_map]; rfl
noncomputable def sp_ring_among (K : PySem.W.Frag) : Sp := fun vs H Q _ => ∃ (l o : Addr) (L : List Int) (es : Ord), vs = [.ref l, .ref o] ∧ SqL K H l (L.map V.int) ∧ L ≠ [] ∧ L.length ≤ 6 ∧ RowAt H o es ∧ es.length ≤ 100 ∧ (∀ x ∈ L, ∃ a, (a, x) ∈ es ∧ a ∈ L) ∧ ∀ nl r H', Same H H' → H nl = none → H' nl = some (.lst (r.map V.int)) → IsRing es r → (∀ x ∈ r, x ∈ L) → Q (.ref nl) H'
theorem sc_ring_among : FnScope ["left", "order", "walk", "further"] ["left", "order"] (defScope s_ring_among) := ⟨rfl, rfl, rfl, by decide +kernel, rfl, by decide +kernel, by decide +kernel⟩
theorem ok_ring_among (D : Dfs K mg aF dF) (T : Txt mg) : FnOk P w K mg base CX0 2 (aF 1) (dF 1) ["left", "order"] (sp_ring_among K) := by
  have Gahead_of : FnOk P w K mg base CX0 1 (aF 7) (dF 7) ["step", "order"] (sp_ahead_of K) := ok_ahead_of D T
  refine D.ring_among.fn.ok sc_ring_among (fun vs H Q E h => ?_) (fun cdv A outer s H vs Q E hr h => ?_)
  · obtain ⟨l, o, L, es, rfl, _⟩ := h; rfl
  · have hu := hu_of hr
    obtain ⟨l, o, L, es, rfl, hl, l0, l6, ho, e1, cl, q⟩ := h
    refine ⟨_, (pss_cons (ps_set (i := 2) sc_ring_among.nd rfl (Or.inl rfl) (pe_lst (pa_cons (pe_ix (ixL K) (pv 0) pe_int (fun _ _ => rfl)) pa_nil)))
      (pss_one (ps_while PassesOwn.never (pt_val pe_bl)
        (pss_cons (ps_set (i := 3) sc_ring_among.nd rfl (Or.inl rfl) (pe_ix (ixL K) (pe_lcomp ["step", "left"] [none, some 0] rfl (piL K (pc D.ahead_of Gahead_of (hr.mono (by decide)) (pa_cons (pe_ix (ixL K) (pv 2) (pe_un un_neg pe_int) (fun _ _ => rfl)) (pa_cons (pv 1) pa_nil)))) (fun _ => pg_name (i := 0) (nodupN (N := ["step", "left"]) (by decide +kernel)) rfl (Or.inl rfl)) (fun _ => pif_one (pt_cmpR (inS K) (pv 0) (pv 1) (by with_unfolding_all rfl))) (fun _ => (pv 0)) ((.cons (fun _ e => by cases e) (.cons (fun _ e => by cases e; exact ⟨rfl, rfl⟩) .nil)))) pe_int (fun _ _ => rfl)))
        (pss_cons (ps_if (pt_cmpR (inS K) (pv 3) (pv 2) (by with_unfolding_all rfl))
          (pss_one (ps_ret (pe_lrev K rfl T.z_list rfl T.z_reversed (pa_cons (pe_slice (slL K) (pv 2) (po_some (pe_bm PySem.F.plainAttrs_list PySem.F.slot_list_index PySem.F.type_list_index mt_index (pv 2) (pa_cons (pv 3) pa_nil))) po_none) pa_nil))))
          pss_nil)
        (pss_one (ps_expr (pe_bm PySem.F.plainAttrs_list PySem.F.slot_list_append PySem.F.type_list_append mt_append (pv 2) (pa_cons (pv 3) pa_nil))))))))), ?_⟩
    obtain ⟨x0, r0, rfl⟩ := List.exists_cons_of_ne_nil l0
    refine ⟨_, rfl, l, _, _, _, rfl, rfl, hl, atI_hd, szr, fun wk nw => ?_⟩
    refine while_by (fun σ Hx => ∃ (w : List Int) (y : Option V), σ = [some (.ref l), some (.ref o), some (.ref wk), y] ∧ Same H Hx ∧ Hx wk = some (.lst (w.map V.int)) ∧ IsWalk es w ∧ ∀ x ∈ w, x ∈ x0 :: r0) (fun _ Hx => match Hx wk with | some (.lst xs) => 7 - xs.length | _ => 0) ⟨[x0], none, rfl, Same.new nw, upd_same, ⟨by simp, by simp, fun k a b h1 h2 => by cases h2⟩, fun x hx => by rw [List.mem_singleton.mp hx]; exact List.mem_cons_self⟩ ?_ ?_
    · rintro σ Hx ⟨w, y, rfl, sx, hw, iw, wl⟩
      obtain ⟨x, hx⟩ := last_some iw.ne
      refine ⟨_, rfl, iteT ?_⟩
      refine ⟨_, rfl, _, rfl, wk, _, _, _, rfl, rfl, SqL.of hw, last_walk hx, _, rfl, x, o, es, rfl, ho.same sx, e1, fun a1 H1 s1 n1 h1 => ?_⟩
      refine ⟨a1, rfl, ⟨_, SqL.of h1⟩, ?_⟩
      have al := ahd_len (es := es) (x := x)
      refine comp_intsF (fun a => decide (a ∈ x0 :: r0)) (SqL.of h1) (by omega) (fun a _ H2 R s2 k => ?_) (fun a _ H2 R s2 k => ⟨_, rfl, k H2 (Same.refl _)⟩) fun ac H2 s2 na hac => ?_
      · refine ⟨_, rfl, _, rfl, l, _, rfl, .inl (((sx.trans s1).trans s2).seq hl), rfl, flat_all _, ?_⟩
        rw [if_neg Bool.false_ne_true, inV_int]
        exact ⟨_, rfl, k H2 (Same.refl _)⟩
      obtain ⟨f, r, ef, hf, fl⟩ := ahd_left (cl x (wl x (List.mem_of_getElem? hx)))
      rw [ef] at hac
      have s02 := (sx.trans s1).trans s2
      have hw2 := (s1.trans s2) _ _ hw
      have wlen : w.length ≤ 6 := Nat.le_trans (iw.nd.length_le_of_subset wl) l6
      refine ⟨ac, _, _, _, rfl, rfl, SqL.of hac, atI_hd, ?_⟩
      refine ⟨_, rfl, _, rfl, wk, _, rfl, .inl (SqL.of hw2), rfl, flat_all _, ?_⟩
      rw [if_neg Bool.false_ne_true, inV_int]
      refine ⟨_, rfl, ifD (fun hm => ?_) fun hm => ?_⟩
      · obtain ⟨j, hj, hmin⟩ := first_at hm
        refine ⟨_, rfl, _, rfl, .inl ⟨rfl, _, SqL.of hw2⟩, _, rfl, wk, w, f, j, rfl, rfl, hw2, hj, hmin, by omega, ?_⟩
        refine ⟨_, rfl, wk, _, rfl, SqL.of hw2, fun p1 np1 => ?_⟩
        rw [cut_from, ← List.map_drop]
        have s3 := Same.new (o := .lst ((w.drop j).map V.int)) np1
        refine ⟨p1, _, rfl, SqL.of upd_same, by rw [List.length_map, List.length_drop]; omega, fun p2 np2 => ?_⟩
        rw [← List.map_reverse]
        exact q p2 _ _ ((s02.trans s3).to np2) ((s02.trans s3).free np2) upd_same (iw.ring hx hf hj) fun z hz => wl z (List.mem_of_mem_drop (List.mem_reverse.mp hz))
      · refine ⟨_, rfl, .inl ⟨rfl, _, SqL.of hw2⟩, _, rfl, wk, _, _, rfl, rfl, hw2, szn (by rw [List.length_map]; omega), ?_⟩
        refine ⟨⟨w ++ [f], _, rfl, s02.put nw, by rw [upd_same, List.map_append]; rfl, iw.more hx hf hm, fun z hz => ?_⟩, ?_⟩
        · rcases List.mem_append.mp hz with hz | hz
          · exact wl z hz
          · rw [List.mem_singleton.mp hz]; exact fl
        · rw [hw, upd_same]
          simp only [List.length_append, List.length_map, List.length_singleton]
          omega
    · rintro σ Hx Q Q' hq ⟨c, e, z⟩
      exact ⟨c, e, hq _ _ z⟩
noncomputable def sp_is_free (K : PySem.W.Frag) : Sp := fun vs H Q _ => ∃ (s : Int) (o t : Addr) (es : List (Int × Int)) (ts : List Int), vs = [.int s, .ref o, .ref t] ∧ RowAt H o es ∧ es.length ≤ 100 ∧ SqL K H t (ts.map V.int) ∧ ∀ H', Same H H' → Q (.bl (frB es ts s)) H'
theorem sc_is_free : FnScope ["step", "order", "there"] ["step", "order", "there"] (defScope s_is_free) := ⟨rfl, rfl, rfl, by decide +kernel, rfl, by decide +kernel, by decide +kernel⟩
theorem ok_is_free (D : Dfs K mg aF dF) (T : Txt mg) : FnOk P w K mg base CX0 2 (aF 6) (dF 6) ["step", "order", "there"] (sp_is_free K) := by
  have Gahead_of : FnOk P w K mg base CX0 1 (aF 7) (dF 7) ["step", "order"] (sp_ahead_of K) := ok_ahead_of D T
  refine D.is_free.fn.ok sc_is_free (fun vs H Q E h => ?_) (fun cdv A outer s H vs Q E hr h => ?_)
  · obtain ⟨s, o, t, es, ts, rfl, _⟩ := h; rfl
  · have hu := hu_of hr
    obtain ⟨s, o, t, es, ts, rfl, ho, e1, ht, q⟩ := h
    refine ⟨_, (pss_one (ps_ret (pe_and (pe_cmpR (ninS K) (pv 0) (pv 2) (by with_unfolding_all rfl)) (pe_one (pe_callB (cAll K) (by rfl) T.z_all boot_all (pa_cons (pe_lcomp ["one", "there"] [none, some 2] rfl (piL K (pc D.ahead_of Gahead_of (hr.mono (by decide)) (pa_cons (pv 0) (pa_cons (pv 1) pa_nil)))) (fun _ => pg_name (i := 0) (nodupN (N := ["one", "there"]) (by decide +kernel)) rfl (Or.inl rfl)) (fun _ => pif_nil) (fun _ => (pe_cmpR (inS K) (pv 0) (pv 1) (by with_unfolding_all rfl))) ((.cons (fun _ e => by cases e) (.cons (fun _ e => by cases e; exact ⟨rfl, rfl⟩) .nil)))) pa_nil)))))), ?_⟩
    refine ⟨_, rfl, _, rfl, t, _, rfl, .inl ht, rfl, flat_all _, _, rfl, ?_⟩
    rw [if_pos rfl, inV_int]
    by_cases hm : s ∈ ts
    · rw [decide_eq_true hm]
      refine iteF ?_
      have e : frB es ts s = false := by unfold frB; rw [decide_eq_true hm]; rfl
      rw [← e]
      exact q H (Same.refl _)
    rw [decide_eq_false hm]
    refine iteT ?_
    have al : (ahd es s).length ≤ 100 := by unfold ahd; rw [List.length_map]; exact Nat.le_trans (List.length_filter_le _ _) e1
    refine ⟨_, rfl, _, rfl, s, o, es, rfl, ho, e1, fun l H1 s1 nl hl => ?_⟩
    refine ⟨l, rfl, ⟨_, SqL.of hl⟩, ?_⟩
    refine comp_list2 (xs := (ahd es s).map V.int) (fun _ => true) (fun i => .bl (decide ((ahd es s).getD i 0 ∈ ts))) (SqL.of hl) (by rw [List.length_map]; omega) (fun _ _ _ _ _ _ k => k _ (Same.refl _)) (fun j x hx _ H2 R s2 kk => ?_) fun nw H2 s2 nnw hnw => ?_
    · rw [List.getElem?_map] at hx
      obtain ⟨b, hb, rfl⟩ := Option.map_eq_some_iff.mp hx
      refine ⟨_, rfl, _, rfl, t, _, rfl, .inl ((s1.trans s2).seq ht), rfl, flat_all _, ?_⟩
      rw [if_neg Bool.false_ne_true, inV_int]
      have := kk H2 (Same.refl _)
      rw [List.getD_eq_getElem?_getD, hb] at this
      exact this
    · rw [List.length_map, map_atI (ahd es s) (fun a => V.bl (decide (a ∈ ts)))] at hnw
      refine ⟨nw, (ahd es s).map fun a => decide (a ∈ ts), rfl, SqL.of (by rw [hnw, List.map_map]; rfl), ?_⟩
      have e : ((ahd es s).map fun a => decide (a ∈ ts)).all id = frB es ts s := by
        unfold frB
        rw [decide_eq_false hm, List.all_map]
        rfl
      rw [e]
      exact q H2 (s1.trans s2)
noncomputable def sp_free (K : PySem.W.Frag) : Sp := fun vs H Q _ => ∃ (cn : Nat) (o t : Addr) (es : List (Int × Int)) (ts : List Int), vs = [.int (cn : Int), .ref o, .ref t] ∧ cn ≤ 100 ∧ RowAt H o es ∧ es.length ≤ 100 ∧ SqL K H t (ts.map V.int) ∧ ∀ l H', Same H H' → H l = none → H' l = some (.lst (((List.range cn).filter fun (i : Nat) => frB es ts (i : Int)).map fun (i : Nat) => V.int (i : Int))) → Q (.ref l) H'
theorem sc_free : FnScope ["count", "order", "there"] ["count", "order", "there"] (defScope s_free) := ⟨rfl, rfl, rfl, by decide +kernel, rfl, by decide +kernel, by decide +kernel⟩
theorem ok_free (D : Dfs K mg aF dF) (T : Txt mg) : FnOk P w K mg base CX0 3 (aF 5) (dF 5) ["count", "order", "there"] (sp_free K) := by
  have Gis_free : FnOk P w K mg base CX0 2 (aF 6) (dF 6) ["step", "order", "there"] (sp_is_free K) := ok_is_free D T
  refine D.free.fn.ok sc_free (fun vs H Q E h => ?_) (fun cdv A outer s H vs Q E hr h => ?_)
  · obtain ⟨cn, o, t, es, ts, rfl, _⟩ := h; rfl
  · have hu := hu_of hr
    obtain ⟨cn, o, t, es, ts, rfl, c6, ho, e1, ht, q⟩ := h
    refine ⟨_, (pss_one (ps_ret (pe_lcomp ["step", "order", "there"] [none, some 1, some 2] rfl (pi_range1 rfl T.z_range (pa_cons (pv 0) pa_nil)) (fun _ => pg_name (i := 0) (nodupN (N := ["step", "order", "there"]) (by decide +kernel)) rfl (Or.inl rfl)) (fun _ => pif_one (pt_val (pc D.is_free Gis_free (hr.mono (by decide)) (pa_cons (pv 0) (pa_cons (pv 1) (pa_cons (pv 2) pa_nil)))))) (fun _ => (pv 0)) ((.cons (fun _ e => by cases e) (.cons (fun _ e => by cases e; exact ⟨rfl, rfl⟩) (.cons (fun _ e => by cases e; exact ⟨rfl, rfl⟩) .nil))))))), ?_⟩
    refine ⟨_, rfl, _, rfl, lo62 _, by omega, ?_⟩
    rw [Int.toNat_natCast]
    refine comp_some (n := cn) (fun (i : Nat) => frB es ts (i : Int)) (by omega) (fun i hi H2 R s2 k => ?_) (fun i hi H2 R k => ?_) fun acc H2 s2 na ha => q acc H2 s2 na ha
    · have ei : (0 : Int) + (i : Int) = ((i : Nat) : Int) := by omega
      rw [ei]
      refine ⟨_, rfl, _, rfl, _, rfl, (i : Int), o, t, es, ts, rfl, ho.same s2, e1, s2.seq ht, fun H3 s3 => ⟨_, rfl, k H3 s3⟩⟩
    · have ei : (0 : Int) + (i : Int) = ((i : Nat) : Int) := by omega
      rw [ei]
      exact ⟨_, rfl, k⟩
noncomputable def sp_lined (K : PySem.W.Frag) : Sp := fun vs H Q _ => ∃ (cn : Nat) (o : Addr) (es : Ord), vs = [.int (cn : Int), .ref o] ∧ cn ≤ 6 ∧ RowAt H o es ∧ es.length ≤ 100 ∧ ∀ l H', Same H H' → H l = none → H' l = some (.lst ((lnL es cn).map V.int)) → Q (.ref l) H'
theorem sc_lined : FnScope ["count", "order", "row", "place", "found"] ["count", "order"] (defScope s_lined) := ⟨rfl, rfl, rfl, by decide +kernel, rfl, by decide +kernel, by decide +kernel⟩
theorem ok_lined (D : Dfs K mg aF dF) (T : Txt mg) : FnOk P w K mg base CX0 4 (aF 3) (dF 3) ["count", "order"] (sp_lined K) := by
  have Gfree : FnOk P w K mg base CX0 3 (aF 5) (dF 5) ["count", "order", "there"] (sp_free K) := ok_free D T
  refine D.lined.fn.ok sc_lined (fun vs H Q E h => ?_) (fun cdv A outer s H vs Q E hr h => ?_)
  · obtain ⟨cn, o, es, rfl, _⟩ := h; rfl
  · have hu := hu_of hr
    obtain ⟨cn, o, es, rfl, c6, ho, e1, q⟩ := h
    refine ⟨_, (pss_cons (ps_set (i := 2) sc_lined.nd rfl (Or.inl rfl) (pe_lst pa_nil))
      (pss_cons (ps_for PassesOwn.never rfl (pi_range1 rfl T.z_range (pa_cons (pv 0) pa_nil)) (pg_name (i := 3) sc_lined.nd rfl (Or.inl rfl))
        (pss_cons (ps_set (i := 4) sc_lined.nd rfl (Or.inl rfl) (pc D.free Gfree (hr.mono (by decide)) (pa_cons (pv 0) (pa_cons (pv 1) (pa_cons (pv 2) pa_nil)))))
        (pss_cons (ps_if (pt_cmpR (eqD K hr.units) (pv 4) (pe_lst pa_nil) (nomark _))
          (pss_one (ps_ret (pv 2)))
          pss_nil)
        (pss_one (ps_expr (pe_bm PySem.F.plainAttrs_list PySem.F.slot_list_append PySem.F.type_list_append mt_append (pv 2) (pa_cons (pe_ix (ixL K) (pv 4) pe_int (fun _ _ => rfl)) pa_nil)))))))
      (pss_one (ps_ret (pv 2))))), ?_⟩
    refine ⟨szr, fun l nl => ?_⟩
    refine ⟨_, rfl, _, rfl, lo62 _, by omega, ?_⟩
    rw [Int.toNat_natCast]
    refine for_range (n := cn) (fun i σ Hx => ∃ x y, σ = [some (.int (cn : Int)), some (.ref o), some (.ref l), x, y] ∧ Same H Hx ∧ Hx l = some (.lst ((lnK es cn i).map V.int)) ∧ (lnK es cn i).length = i) ⟨none, none, rfl, Same.new nl, upd_same, rfl⟩ ?_ ?_
    · rintro i σ Hx hi ⟨x, y, rfl, sx, hl, ll⟩
      refine ⟨_, rfl, _, rfl, _, rfl, cn, o, l, es, lnK es cn i, rfl, by omega, ho.same sx, e1, SqL.of hl, fun f H2 s2 nf hf => ?_⟩
      have hf : H2 f = some (.lst ((frL es cn (lnK es cn i)).map fun (i : Nat) => V.int (i : Int))) := hf
      have hl2 := s2 _ _ hl
      refine ⟨_, rfl, szr, fun p np => ?_⟩
      have s3 := Same.new (o := .lst []) np
      have sx3 := (sx.trans s2).trans s3
      cases hfr : frL es cn (lnK es cn i) with
      | nil =>
        rw [hfr] at hf
        refine ⟨1, true, deq_nil (SqL.of (s3 _ _ hf)) (SqL.of upd_same), by decide, rfl, _, rfl, iteT ⟨_, rfl, ?_⟩⟩
        have e := lnK_stop hfr (cn - i)
        have e2 : i + (cn - i) = cn := by omega
        rw [e2] at e
        exact q l _ sx3 nl (by rw [show lnL es cn = lnK es cn i from e]; exact s3 _ _ hl2)
      | cons j r =>
        rw [hfr] at hf
        refine ⟨1, false, deq_nil (SqL.of (s3 _ _ hf)) (SqL.of upd_same), by decide, rfl, _, rfl, iteF ?_⟩
        refine ⟨_, rfl, .inl ⟨rfl, _, SqL.of (s3 _ _ hl2)⟩, _, rfl, f, _, _, _, rfl, rfl, SqL.of (s3 _ _ hf), atI_hd, l, _, _, rfl, rfl, s3 _ _ hl2, szn (by rw [List.length_map]; omega), ?_⟩
        refine ⟨_, _, rfl, sx3.put nl, ?_, ?_⟩
        · rw [upd_same, lnK_go hfr, List.map_append]; rfl
        · rw [lnK_go hfr, List.length_append, ll]; rfl
    · rintro σ Hx ⟨x, y, rfl, sx, hl, _⟩
      exact ⟨_, rfl, q l Hx sx nl hl⟩
noncomputable def sp_ring (K : PySem.W.Frag) : Sp := fun vs H Q _ => ∃ (cn : Nat) (o : Addr) (es : Ord), vs = [.int (cn : Int), .ref o] ∧ cn ≤ 6 ∧ RowAt H o es ∧ es.length ≤ 100 ∧ (∀ x ∈ es, 0 ≤ x.1 ∧ x.1 < (cn : Int)) ∧ ∀ l r H', Same H H' → H l = none → H' l = some (.lst (r.map V.int)) → ((lnL es cn).length = cn ∧ r = [] ∨ (lnL es cn).length < cn ∧ IsRing es r ∧ ∀ x ∈ r, 0 ≤ x ∧ x < (cn : Int)) → Q (.ref l) H'
theorem sc_ring : FnScope ["count", "order", "row", "left"] ["count", "order"] (defScope s_ring) := ⟨rfl, rfl, rfl, by decide +kernel, rfl, by decide +kernel, by decide +kernel⟩
theorem ok_ring (D : Dfs K mg aF dF) (T : Txt mg) : FnOk P w K mg base CX0 5 (aF 0) (dF 0) ["count", "order"] (sp_ring K) := by
  have Gring_among : FnOk P w K mg base CX0 2 (aF 1) (dF 1) ["left", "order"] (sp_ring_among K) := ok_ring_among D T
  have Glined : FnOk P w K mg base CX0 4 (aF 3) (dF 3) ["count", "order"] (sp_lined K) := ok_lined D T
  refine D.ring.fn.ok sc_ring (fun vs H Q E h => ?_) (fun cdv A outer s H vs Q E hr h => ?_)
  · obtain ⟨cn, o, es, rfl, _⟩ := h; rfl
  · have hu := hu_of hr
    obtain ⟨cn, o, es, rfl, c6, ho, e1, ok, q⟩ := h
    refine ⟨_, (pss_cons (ps_set (i := 2) sc_ring.nd rfl (Or.inr rfl) (pc D.lined Glined (hr.mono (by decide)) (pa_cons (pv 0) (pa_cons (pv 1) pa_nil))))
      (pss_cons (ps_setC (i₀ := 3) sc_ring.nd rfl (Or.inl rfl) ["step", "row"] [none, some 2] rfl (pi_range1 rfl T.z_range (pa_cons (pv 0) pa_nil)) (fun _ => pg_name (i := 0) (nodupN (N := ["step", "row"]) (by decide +kernel)) rfl (Or.inl rfl)) (fun _ => pif_one (pt_cmpR (ninS K) (pv 0) (pv 1) (by with_unfolding_all rfl))) (fun _ => (pv 0)) ((.cons (fun _ e => by cases e) (.cons (fun _ e => by cases e; exact ⟨rfl, rfl⟩) .nil))))
      (pss_cons (ps_if (pt_cmpR (eqD K hr.units) (pv 3) (pe_lst pa_nil) (nomark _))
        (pss_one (ps_ret (pe_lst pa_nil)))
        pss_nil)
      (pss_one (ps_ret (pc D.ring_among Gring_among (hr.mono (by decide)) (pa_cons (pv 3) (pa_cons (pv 1) pa_nil)))))))), ?_⟩
    refine ⟨_, rfl, _, rfl, cn, o, es, rfl, c6, ho, e1, fun l H1 s1 nl hl => ?_⟩
    refine ⟨_, rfl, _, rfl, lo62 _, by omega, ?_⟩
    rw [Int.toNat_natCast]
    refine comp_some (n := cn) (fun (i : Nat) => !decide ((i : Int) ∈ lnL es cn)) (by omega) (fun i hi H2 R s2 k => ?_) (fun i hi H2 R k => ?_) fun acc H2 s2 na ha => ?_
    · have ei : (0 : Int) + (i : Int) = ((i : Nat) : Int) := by omega
      rw [ei]
      refine ⟨_, rfl, _, rfl, l, _, rfl, .inl (s2.seq (SqL.of hl)), rfl, flat_all _, ?_⟩
      rw [if_pos rfl, inV_int]
      exact ⟨_, rfl, k H2 (Same.refl _)⟩
    · have ei : (0 : Int) + (i : Int) = ((i : Nat) : Int) := by omega
      rw [ei]
      exact ⟨_, rfl, k⟩
    · have ha : H2 acc = some (.lst (((lfL es cn).map fun (i : Nat) => (i : Int)).map V.int)) := by rw [ha, ← lf_map]; rfl
      have s02 := s1.trans s2
      refine ⟨_, rfl, szr, fun p np => ?_⟩
      have s3 := Same.new (o := .lst []) np
      cases hlf : lfL es cn with
      | nil =>
        rw [hlf] at ha
        refine ⟨1, true, deq_nil (SqL.of (s3 _ _ ha)) (SqL.of upd_same), by decide, rfl, _, rfl, iteT ⟨szr, fun p2 np2 => ?_⟩⟩
        exact q p2 [] _ ((s02.trans s3).to np2) ((s02.trans s3).free np2) upd_same (.inl ⟨full_lf hlf, rfl⟩)
      | cons i0 r0 =>
        have hlt : (lnL es cn).length < cn := by
          rcases Nat.lt_or_ge (lnL es cn).length cn with z | z
          · exact z
          · rw [lf_nil (Nat.le_antisymm (len_k cn).1 z)] at hlf; cases hlf
        have lfl := lf_len (es := es) (cn := cn)
        refine ⟨1, false, deq_nil (by rw [hlf] at ha; exact SqL.of (s3 _ _ ha)) (SqL.of upd_same), by decide, rfl, _, rfl, iteF ?_⟩
        have ho3 := ho.same (s02.trans s3)
        refine ⟨_, rfl, _, rfl, acc, o, (lfL es cn).map (fun (i : Nat) => (i : Int)), es, rfl, SqL.of (s3 _ _ ha), by rw [hlf]; simp, by rw [List.length_map]; omega, ho3, e1, fun x hx => ?_, fun nl r H4 s4 n4 h4 ir sub => ?_⟩
        · obtain ⟨i, hi, rfl⟩ := List.mem_map.mp hx
          obtain ⟨a, h1, h2⟩ := further hlt ok hi
          exact ⟨a, h1, List.mem_map.mpr ⟨a, h2, rfl⟩⟩
        · refine q nl r H4 ((s02.trans s3).trans s4) ((s02.trans s3).free n4) h4 (.inr ⟨hlt, ir, fun x hx => ?_⟩)
          obtain ⟨i, hi, rfl⟩ := List.mem_map.mp (sub x hx)
          have := (mem_lf.mp hi).1
          exact ⟨by omega, by omega⟩
noncomputable def sp_line (K : PySem.W.Frag) : Sp := fun vs H Q E => ∃ (cn : Nat) (o : Addr) (es : Ord), vs = [.int (cn : Int), .ref o] ∧ cn ≤ 6 ∧ RowAt H o es ∧ es.length ≤ 100 ∧ ((lnL es cn).length = cn → ∀ l H', Same H H' → H l = none → H' l = some (.lst ((lnL es cn).map V.int)) → Q (.ref l) H') ∧ ((lnL es cn).length < cn → ∀ C H', Same H H' → PySem.W.nsIn K mainGlobals "Ring" = some (some (.ref C)) → E (.ref C) none H')
theorem sc_line : FnScope ["count", "order", "row"] ["count", "order"] (defScope s_line) := ⟨rfl, rfl, rfl, by decide +kernel, rfl, by decide +kernel, by decide +kernel⟩
theorem ok_line (D : Dfs K mg aF dF) (T : Txt mg) : FnOk P w K mg base (CXR P w) 5 (aF 2) (dF 2) ["count", "order"] (sp_line K) := by
  have Glined : FnOk P w K mg base CX0 4 (aF 3) (dF 3) ["count", "order"] (sp_lined K) := ok_lined D T
  refine D.line.fn.okR sc_line (fun vs H Q E h => ?_) (fun cdv A outer s H vs Q E hr h => ?_)
  · obtain ⟨cn, o, es, rfl, _⟩ := h; rfl
  · have hu := hu_of hr
    obtain ⟨cn, o, es, rfl, c6, ho, e1, q1, q2⟩ := h
    refine ⟨_, (pss_cons (ps_set (i := 2) sc_line.nd rfl (Or.inl rfl) (pc D.lined Glined (hr.mono (by decide)) (pa_cons (pv 0) (pa_cons (pv 1) pa_nil))))
      (pss_cons (ps_if (pt_cmpR op_lt (pe_callB (cLen K) (by rfl) T.z_len boot_len (pa_cons (pv 2) pa_nil)) (pv 0) (nomark _))
        (pss_one (ps_raise ⟨D.g_Ring, D.e_Ring⟩ (pa_cons pe_str pa_nil)))
        pss_nil)
      (pss_one (ps_ret (pv 2))))), ?_⟩
    refine ⟨_, rfl, _, rfl, cn, o, es, rfl, c6, ho, e1, fun l H1 s1 nl hl => ?_⟩
    refine ⟨_, rfl, _, _, rfl, .inl ⟨_, SqL.of hl, rfl⟩, _, rfl, _, _, rfl, rfl, _, rfl, ifD (fun h => ?_) fun h => ?_⟩
    · rw [List.length_map] at h
      exact ⟨by decide, q2 (by omega) _ H1 s1 D.n_Ring⟩
    · rw [List.length_map] at h
      exact ⟨_, rfl, q1 (Nat.le_antisymm (len_k cn).1 (by omega)) l H1 s1 nl hl⟩
noncomputable def sp_ready (K : PySem.W.Frag) : Sp := fun vs H Q _ => ∃ (o d : Addr) (es : List (Int × Int)) (dn : List (Option Int)), vs = [.ref o, .ref d] ∧ RowAt H o es ∧ es.length ≤ 100 ∧ SqL K H d (dn.map hV) ∧ dn.length ≤ 6 ∧ ∀ l H', Same H H' → H l = none → H' l = some (.lst (((List.range dn.length).filter fun (i : Nat) => frB es (dnS dn) (i : Int)).map fun (i : Nat) => V.int (i : Int))) → Q (.ref l) H'
theorem sc_ready : FnScope ["order", "done"] ["order", "done"] (defScope s_ready) := ⟨rfl, rfl, rfl, by decide +kernel, rfl, by decide +kernel, by decide +kernel⟩
theorem ok_ready (D : Dfs K mg aF dF) (T : Txt mg) : FnOk P w K mg base CX0 4 (aF 4) (dF 4) ["order", "done"] (sp_ready K) := by
  have Gfree : FnOk P w K mg base CX0 3 (aF 5) (dF 5) ["count", "order", "there"] (sp_free K) := ok_free D T
  refine D.ready.fn.ok sc_ready (fun vs H Q E h => ?_) (fun cdv A outer s H vs Q E hr h => ?_)
  · obtain ⟨o, d, es, dn, rfl, _⟩ := h; rfl
  · have hu := hu_of hr
    obtain ⟨o, d, es, dn, rfl, ho, e1, hd, d6, q⟩ := h
    refine ⟨_, (pss_one (ps_ret (pc D.free Gfree (hr.mono (by decide)) (pa_cons (pe_callB (cLen K) (by rfl) T.z_len boot_len (pa_cons (pv 1) pa_nil)) (pa_cons (pv 0) (pa_cons (pe_lcomp ["step", "done"] [none, some 1] rfl (pi_range1 rfl T.z_range (pa_cons (pe_callB (cLen K) (by rfl) T.z_len boot_len (pa_cons (pv 1) pa_nil)) pa_nil)) (fun _ => pg_name (i := 0) (nodupN (N := ["step", "done"]) (by decide +kernel)) rfl (Or.inl rfl)) (fun _ => pif_one (pt_cmpR op_notN (pe_ix (ixL K) (pv 1) (pv 0) (fun _ _ => rfl)) pe_non (nomark _))) (fun _ => (pv 0)) ((.cons (fun _ e => by cases e) (.cons (fun _ e => by cases e; exact ⟨rfl, rfl⟩) .nil)))) pa_nil)))))), ?_⟩
    refine ⟨_, rfl, _, _, rfl, .inl ⟨_, hd, rfl⟩, _, rfl, ?_⟩
    refine ⟨_, rfl, _, _, rfl, .inl ⟨_, hd, rfl⟩, _, rfl, lo62 _, by rw [List.length_map]; omega, ?_⟩
    have e0 : (((dn.map hV).length : Nat) : Int).toNat = dn.length := by rw [List.length_map]; omega
    rw [e0]
    refine comp_some (n := dn.length) (fun (i : Nat) => (dn.getD i none).isSome) (by omega) (fun i hi H2 R s2 k => ?_) (fun i hi H2 R k => ?_) fun acc H2 s2 na ha => ?_
    · have ei : (0 : Int) + (i : Int) = ((i : Nat) : Int) := by omega
      rw [ei]
      refine ⟨_, rfl, _, rfl, d, _, _, _, rfl, rfl, s2.seq hd, atI_hV hi, rfl, ?_⟩
      have e : (!decide (hV (dn.getD i none) = V.non)) = (dn.getD i none).isSome := by rw [dec_hV]; cases dn.getD i none <;> rfl
      rw [e]
      exact ⟨_, rfl, k H2 (Same.refl _)⟩
    · have ei : (0 : Int) + (i : Int) = ((i : Nat) : Int) := by omega
      rw [ei]
      exact ⟨_, rfl, k⟩
    · refine ⟨dn.length, o, acc, es, dnS dn, by rw [List.length_map]; rfl, by omega, ho.same s2, e1, SqL.of (by rw [ha]; unfold dnS; rw [List.map_map]; rfl), fun l H3 s3 nl hl => q l H3 (s2.trans s3) (s2.free nl) hl⟩
noncomputable def cv (ns : List Int) (k : Nat) : Int := if k < ns.length then ns.getD k 0 else if ns = [] then (k : Int) * k * 7919 + 13 * k else (ns.getD (k % ns.length) 0 + k * k * 7919 + 1) * 48271 % 2147483647
noncomputable def sp_law_cell (K : PySem.W.Frag) : Sp := fun vs H Q _ => ∃ (a : Addr) (ns : List Int) (k : Nat), vs = [.ref a, .int ((k : Nat) : Int)] ∧ SqL K H a (ns.map V.int) ∧ ns.length ≤ 200 ∧ k ≤ 1000 ∧ ∀ H', Same H H' → Q (.int (cv ns k)) H'
theorem sc_law_cell : FnScope ["script", "k"] ["script", "k"] (defScope s_law_cell) := ⟨rfl, rfl, rfl, by decide +kernel, rfl, by decide +kernel, by decide +kernel⟩
theorem ok_law_cell (D : Dfs K mg aF dF) (T : Txt mg) : FnOk P w K mg base CX0 1 (aF 8) (dF 8) ["script", "k"] (sp_law_cell K) := by
  refine D.law_cell.fn.ok sc_law_cell (fun vs H Q E h => ?_) (fun cdv A outer s H vs Q E hr h => ?_)
  · obtain ⟨a, ns, k, rfl, _⟩ := h; rfl
  · have hu := hu_of hr
    obtain ⟨a, ns, k, rfl, hS, hl, hk, q⟩ := h
    refine ⟨_, (pss_cons (ps_if (pt_cmpR op_lt (pv 1) (pe_callB (cLen K) (by rfl) T.z_len boot_len (pa_cons (pv 0) pa_nil)) (nomark _))
        (pss_one (ps_ret (pe_ix (ixL K) (pv 0) (pv 1) (fun _ _ => rfl))))
        pss_nil)
      (pss_cons (ps_if (pt_cmpR (eqD K hr.units) (pv 0) (pe_lst pa_nil) (nomark _))
        (pss_one (ps_ret (pe_op op_add (pe_op op_mul (pe_op op_mul (pv 1) (pv 1)) pe_int) (pe_op op_mul pe_int (pv 1)))))
        pss_nil)
      (pss_one (ps_ret (pe_op op_mod (pe_op op_mul (pe_op op_add (pe_op op_add (pe_ix (ixL K) (pv 0) (pe_op op_mod (pv 1) (pe_callB (cLen K) (by rfl) T.z_len boot_len (pa_cons (pv 0) pa_nil))) (fun _ _ => rfl)) (pe_op op_mul (pe_op op_mul (pv 1) (pv 1)) pe_int)) pe_int) pe_int) pe_int))))), ?_⟩
    refine ⟨_, rfl, _, rfl, _, _, rfl, .inl ⟨_, hS, rfl⟩, _, _, rfl, rfl, _, rfl, ifD (fun h => ?_) fun h => ?_⟩
    · rw [List.length_map] at h
      have h' : k < ns.length := by omega
      refine ⟨_, rfl, _, rfl, a, _, _, _, rfl, rfl, hS, atI_int h', ?_⟩
      have e : cv ns k = ns.getD k 0 := if_pos h'
      rw [← e]
      exact q H (Same.refl _)
    · rw [List.length_map] at h
      have h' : ¬ k < ns.length := by omega
      refine ⟨_, rfl, szr, fun p np => ⟨1, _, deq_nil ((Same.new np).seq hS) (SqL.of upd_same), by decide, rfl, _, rfl, ifB (fun h => ?_) fun h => ?_⟩⟩
      · have e0 : ns = [] := by
          cases ns with
          | nil => rfl
          | cons x r => cases h
        have e : cv ns k = (k : Int) * k * 7919 + 13 * k := by unfold cv; rw [if_neg h', if_pos e0]
        have q' := q _ (Same.new (o := .lst []) np)
        rw [e] at q'
        refine ⟨_, rfl, _, rfl, _, _, rfl, rfl, .inl ⟨by omega, by omega⟩, ?_⟩
        walk_at "go"
        exact q'
      · have e0 : ns ≠ [] := by rintro rfl; cases h
        have hpos : 0 < ns.length := List.length_pos_iff.mpr e0
        have e : cv ns k = (ns.getD (k % ns.length) 0 + k * k * 7919 + 1) * 48271 % 2147483647 := by unfold cv; rw [if_neg h', if_neg e0]
        have q' := q _ (Same.new (o := .lst []) np)
        rw [e] at q'
        have hlen : ((ns.map V.int).length : Int) = (ns.length : Int) := by rw [List.length_map]
        refine ⟨_, rfl, _, rfl, _, rfl, _, _, rfl, .inl ⟨_, (Same.new np).seq hS, rfl⟩, _, _, rfl, rfl, ?_, ?_⟩
        · show (0 : Int) < ((ns.map V.int).length : Int)
          rw [hlen]; omega
        · refine ⟨a, _, _, _, rfl, rfl, (Same.new np).seq hS, (?_ : atI (ns.map V.int) ((k : Int) % ((ns.map V.int).length : Int)) = some (.int (ns.getD (k % ns.length) 0))), ?_⟩
          · rw [hlen]
            have e1 : (k : Int) % (ns.length : Int) = ((k % ns.length : Nat) : Int) := by simp
            rw [e1]
            exact atI_int (Nat.mod_lt _ hpos)
          · refine ⟨_, rfl, _, rfl, _, _, rfl, rfl, .inl ⟨by omega, by omega⟩, ?_⟩
            walk_at "go"
            exact q'
noncomputable def sp_law_whole (K : PySem.W.Frag) : Sp := fun vs H Q _ => ∃ (i : Int), vs = [.int i] ∧ Q (.bl true) H
theorem sc_law_whole : FnScope ["found"] ["found"] (defScope s_law_whole) := ⟨rfl, rfl, rfl, by decide +kernel, rfl, by decide +kernel, by decide +kernel⟩
theorem ok_law_whole (D : Dfs K mg aF dF) (T : Txt mg) : FnOk P w K mg base CX0 1 (aF 9) (dF 9) ["found"] (sp_law_whole K) := by
  refine D.law_whole.fn.ok sc_law_whole (fun vs H Q E h => ?_) (fun cdv A outer s H vs Q E hr h => ?_)
  · obtain ⟨i, rfl, _⟩ := h; rfl
  · have hu := hu_of hr
    obtain ⟨i, rfl, q⟩ := h
    refine ⟨_, (pss_one (ps_ret (pe_and (pe_callB (cIsi K) (by rfl) T.z_isinstance boot_isinstance (pa_cons (pv 0) (pa_cons (ty_int T.z_int) pa_nil))) (pe_one (pe_not (pe_callB (cIsi K) (by rfl) T.z_isinstance boot_isinstance (pa_cons (pv 0) (pa_cons (ty_bool T.z_bool) pa_nil)))))))), ?_⟩
    exact ⟨_, rfl, _, _, _, true, rfl, .int _, rfl, _, rfl, iteT ⟨_, rfl, _, _, _, false, rfl, .int _, rfl, _, rfl, q⟩⟩
noncomputable def sp_law_row (K : PySem.W.Frag) : Sp := fun vs H Q _ => ∃ (cn : Nat) (c : Int), vs = [.int (cn : Int), .int c] ∧ cn ≤ 6 ∧ ∀ (l : Addr) (r : List Int) (H' : Hp), Same H H' → H l = none → H' l = some (.lst (r.map V.int)) → r.Perm (rngI cn) → Q (.ref l) H'
theorem sc_law_row : FnScope ["count", "cell", "row", "rest", "k"] ["count", "cell"] (defScope s_law_row) := ⟨rfl, rfl, rfl, by decide +kernel, rfl, by decide +kernel, by decide +kernel⟩
theorem ok_law_row (D : Dfs K mg aF dF) (T : Txt mg) : FnOk P w K mg base CX0 1 (aF 10) (dF 10) ["count", "cell"] (sp_law_row K) := by
  refine D.law_row.fn.ok sc_law_row (fun vs H Q E h => ?_) (fun cdv A outer s H vs Q E hr h => ?_)
  · obtain ⟨cn, c, rfl, _⟩ := h; rfl
  · have hu := hu_of hr
    obtain ⟨cn, c, rfl, c6, q⟩ := h
    refine ⟨_, (pss_cons (ps_set (i := 2) sc_law_row.nd rfl (Or.inl rfl) (pe_lst pa_nil))
      (pss_cons (ps_set (i := 3) sc_law_row.nd rfl (Or.inl rfl) (pe_op op_mod (pv 1) (pe_op op_pow pe_int pe_int)))
      (pss_cons (ps_for PassesOwn.never rfl (pi_range1 rfl T.z_range (pa_cons (pv 0) pa_nil)) (pg_name (i := 4) sc_law_row.nd rfl (Or.inl rfl))
        (pss_cons (ps_expr (pe_bm PySem.F.plainAttrs_list PySem.F.slot_list_insert PySem.F.type_list_insert mt_insert (pv 2) (pa_cons (pe_op op_mod (pv 3) (pe_op op_add (pv 4) pe_int)) (pa_cons (pv 4) pa_nil))))
        (pss_one (ps_set (i := 3) sc_law_row.nd rfl (Or.inl rfl) (pe_op op_fdiv (pv 3) pe_int)))))
      (pss_one (ps_ret (pv 2)))))), ?_⟩
    refine ⟨szr, fun l nl => ?_⟩
    refine ⟨_, rfl, _, _, rfl, rfl, ⟨by decide, by decide, by decide⟩, _, _, rfl, rfl, (show (0 : Int) < 10 ^ (9 : Int).toNat by decide), ?_⟩
    refine ⟨_, rfl, _, rfl, lo62 _, by omega, ?_⟩
    rw [Int.toNat_natCast]
    refine for_range (n := cn) (fun i σ Hx => ∃ (r : List Int) (x : Int) (y : Option V), σ = [some (.int (cn : Int)), some (.int c), some (.ref l), some (.int x), y] ∧ Same H Hx ∧ Hx l = some (.lst (r.map V.int)) ∧ r.Perm (rngI i)) ⟨[], _, none, rfl, Same.new nl, upd_same, .nil⟩ ?_ ?_
    · rintro i σ Hx hi ⟨r, x, y, rfl, sx, hl, pr⟩
      have ei : (0 : Int) + (i : Int) = ((i : Nat) : Int) := by omega
      rw [ei]
      have lr := (perm_rng pr).1
      have w0 := Int.emod_nonneg x (show (i : Int) + 1 ≠ 0 by omega)
      have w1 := Int.emod_lt_of_pos x (show (0 : Int) < (i : Int) + 1 by omega)
      refine ⟨_, rfl, .inl ⟨rfl, _, SqL.of hl⟩, _, rfl, _, rfl, _, _, rfl, rfl, _, _, rfl, rfl, (show (0 : Int) < (i : Int) + 1 by omega), _, rfl, l, _, _, _, rfl, rfl, hl, szn (by rw [List.length_map]; omega), w0, (by omega), ?_⟩
      refine ⟨_, rfl, _, _, rfl, rfl, (show CDiv _ 7 from ⟨by decide, by decide⟩), ?_⟩
      exact ⟨_, _, _, rfl, sx.put nl, (by rw [upd_same, ← List.map_take, ← List.map_drop]; exact congrArg (fun z => some (HO.lst z)) (List.map_append (f := V.int) (l₁ := r.take (x % ((i : Int) + 1)).toNat) (l₂ := (i : Int) :: r.drop (x % ((i : Int) + 1)).toNat)).symm), row_ins _ pr⟩
    · rintro σ Hx ⟨r, x, y, rfl, sx, hl, pr⟩
      exact ⟨_, rfl, q l r Hx sx nl hl pr⟩
noncomputable def sp_law_order (K : PySem.W.Frag) : Sp := fun vs H Q _ => ∃ (c rw' : Addr) (cs r : List Int), vs = [.ref c, .ref rw'] ∧ SqL K H c (cs.map V.int) ∧ cs.length ≤ 100 ∧ H rw' = some (.lst (r.map V.int)) ∧ 0 < r.length ∧ r.length ≤ 6 ∧ ∀ l es H', Same H H' → H l = none → RowAt H' l es → es.length ≤ cs.length → (∀ x ∈ es, ∃ i j : Nat, i < j ∧ r[i]? = some x.1 ∧ r[j]? = some x.2) → Q (.ref l) H'
theorem sc_law_order : FnScope ["cells", "row", "order", "number", "cell", "one", "other"] ["cells", "row"] (defScope s_law_order) := ⟨rfl, rfl, rfl, by decide +kernel, rfl, by decide +kernel, by decide +kernel⟩
theorem ok_law_order (D : Dfs K mg aF dF) (T : Txt mg) : FnOk P w K mg base CX0 1 (aF 11) (dF 11) ["cells", "row"] (sp_law_order K) := by
  refine D.law_order.fn.ok sc_law_order (fun vs H Q E h => ?_) (fun cdv A outer s H vs Q E hr h => ?_)
  · obtain ⟨c, rw', cs, r, rfl, _⟩ := h; rfl
  · have hu := hu_of hr
    obtain ⟨c, rw', cs, r, rfl, hc, c1, hw, r0, r6, q⟩ := h
    refine ⟨_, (pss_cons (ps_set (i := 2) sc_law_order.nd rfl (Or.inl rfl) (pe_lst pa_nil))
      (pss_cons (ps_for PassesOwn.never rfl (piL K (pv 0)) (pg_name (i := 3) sc_law_order.nd rfl (Or.inl rfl))
        (pss_cons (ps_set (i := 4) sc_law_order.nd rfl (Or.inl rfl) (pe_op op_mod (pe_op op_mul (pv 3) pe_int) pe_int))
        (pss_cons (ps_set (i := 5) sc_law_order.nd rfl (Or.inl rfl) (pe_op op_mod (pv 4) (pe_callB (cLen K) (by rfl) T.z_len boot_len (pa_cons (pv 1) pa_nil))))
        (pss_cons (ps_set (i := 6) sc_law_order.nd rfl (Or.inl rfl) (pe_op op_mod (pe_op op_fdiv (pv 4) pe_int) (pe_callB (cLen K) (by rfl) T.z_len boot_len (pa_cons (pv 1) pa_nil))))
        (pss_one (ps_if (pt_cmpR op_ne (pv 5) (pv 6) (nomark _))
          (pss_one (ps_expr (pe_bm PySem.F.plainAttrs_list PySem.F.slot_list_append PySem.F.type_list_append mt_append (pv 2) (pa_cons (pe_tup (pa_cons (pe_ix (ixL K) (pv 1) (pe_callB (call_min2 rfl) (by rfl) T.z_min boot_min (pa_cons (pv 5) (pa_cons (pv 6) pa_nil))) (fun _ _ => rfl)) (pa_cons (pe_ix (ixL K) (pv 1) (pe_callB (call_max2 rfl) (by rfl) T.z_max boot_max (pa_cons (pv 5) (pa_cons (pv 6) pa_nil))) (fun _ _ => rfl)) pa_nil))) pa_nil))))
          pss_nil))))))
      (pss_one (ps_ret (pv 2))))), ?_⟩
    refine ⟨szr, fun l nl => ?_⟩
    refine ⟨_, rfl, c, rfl, ⟨_, (Same.new nl).seq hc⟩, ?_⟩
    refine for_list (K := K) (a := c) (xs := cs.map V.int) (fun i σ Hx => ∃ (x y z u : Option V) (es : List (Int × Int)), σ = [some (.ref c), some (.ref rw'), some (.ref l), x, y, z, u] ∧ Same H Hx ∧ RowAt Hx l es ∧ es.length ≤ i ∧ ∀ x ∈ es, ∃ i j : Nat, i < j ∧ r[i]? = some x.1 ∧ r[j]? = some x.2) ⟨none, none, none, none, [], rfl, Same.new nl, ⟨[], upd_same, .nil⟩, Nat.zero_le _, fun _ z => by cases z⟩ (fun i σ Hx _ hq__ => by obtain ⟨_, _, _, _, _, _, s, _⟩ := hq__; exact s.seq hc) ?_ ?_
    · rintro i y σ Hx hix ⟨x, y', z, u, es, rfl, sx, ⟨ps, hp, tx⟩, le, ok⟩
      obtain ⟨d, hd, rfl, ed⟩ := at_int hix
      have hi' := (List.getElem?_eq_some_iff.mp hd).1
      have hw2 := sx _ _ hw
      refine ⟨_, rfl, _, _, rfl, rfl, (show CMul _ _ from .inr ⟨by decide, by decide⟩), _, _, rfl, rfl, (show (0 : Int) < 2147483647 by decide), ?_⟩
      have rp : (0 : Int) < (r.length : Int) := by omega
      refine ⟨_, rfl, _, rfl, _, r.length, rfl, .inl ⟨_, SqL.of hw2, by rw [List.length_map]⟩, _, _, rfl, rfl, rp, ?_⟩
      refine ⟨_, rfl, _, _, rfl, rfl, (show CDiv _ 6 from ⟨by decide, by decide⟩), _, rfl, _, r.length, rfl, .inl ⟨_, SqL.of hw2, by rw [List.length_map]⟩, _, _, rfl, rfl, rp, ?_⟩
      dsimp only
      generalize d * 48271 % 2147483647 = ce
      obtain ⟨a, ha, ea⟩ := modN ce r0
      obtain ⟨b, hb, eb⟩ := modN (ce / 6) r0
      rw [ea, eb]
      refine ⟨_, rfl, _, rfl, rfl, _, rfl, ifNe (fun ne => ?_) fun _ => ⟨_, _, _, _, es, rfl, sx, ⟨ps, hp, tx⟩, by omega, ok⟩⟩
      obtain ⟨i1, j1, hij, e1, e2, hb'⟩ := mnmx ne
      have hi1 : i1 < r.length := by omega
      have hj1 : j1 < r.length := by omega
      have psl := tx.len
      refine ⟨_, rfl, .inl ⟨rfl, _, SqL.of hp⟩, _, rfl, _, rfl, _, rfl, _, _, rfl, rw', _, _, _, rfl, rfl, SqL.of hw2, (by rw [e1]; exact atI_int hi1), _, rfl, _, rfl, _, rfl, _, _, rfl, rw', _, _, _, rfl, rfl, SqL.of hw2, (by rw [e2]; exact atI_int hj1), szr, fun t nt => ?_⟩
      refine ⟨l, _, _, rfl, rfl, (Same.new nt) _ _ hp, szn (by rw [List.length_map]; omega), ?_⟩
      refine ⟨_, _, _, _, es ++ [(r.getD i1 0, r.getD j1 0)], rfl, (sx.to nt).put nl, RowAt.put (x := (r.getD i1 0, r.getD j1 0)) hp tx nt, by rw [List.length_append, List.length_singleton]; omega, fun x hx => ?_⟩
      rcases List.mem_append.mp hx with z | z
      · exact ok x z
      · rw [List.mem_singleton.mp z]; exact ⟨i1, j1, hij, getD_some hi1, getD_some hj1⟩
    · rintro σ Hx ⟨x, y, z, u, es, rfl, sx, ra, le, ok⟩
      rw [List.length_map] at le
      exact ⟨_, rfl, q l es Hx sx nl ra le ok⟩
noncomputable def sp_law_placed (K : PySem.W.Frag) : Sp := fun vs H Q _ => ∃ (f o : Addr) (cn : Nat) (es : Ord), vs = [.ref f, .int (cn : Int), .ref o] ∧ cn ≤ 6 ∧ H f = some (.lst ((lnL es cn).map V.int)) ∧ (lnL es cn).length = cn ∧ RowAt H o es ∧ (∀ x ∈ es, (0 ≤ x.1 ∧ x.1 < (cn : Int)) ∧ 0 ≤ x.2 ∧ x.2 < (cn : Int)) ∧ ∀ H', Same H H' → Q (.bl true) H'
theorem sc_law_placed : FnScope ["found", "count", "order", "step", "first", "second"] ["found", "count", "order"] (defScope s_law_placed) := ⟨rfl, rfl, rfl, by decide +kernel, rfl, by decide +kernel, by decide +kernel⟩
theorem ok_law_placed (D : Dfs K mg aF dF) (T : Txt mg) : FnOk P w K mg base CX0 2 (aF 12) (dF 12) ["found", "count", "order"] (sp_law_placed K) := by
  have Glaw_whole : FnOk P w K mg base CX0 1 (aF 9) (dF 9) ["found"] (sp_law_whole K) := ok_law_whole D T
  refine D.law_placed.fn.ok sc_law_placed (fun vs H Q E h => ?_) (fun cdv A outer s H vs Q E hr h => ?_)
  · obtain ⟨f, o, cn, es, rfl, _⟩ := h; rfl
  · have hu := hu_of hr
    obtain ⟨f, o, cn, es, rfl, c6, hf, fl, ho, rg, q⟩ := h
    refine ⟨_, (pss_cons (ps_if (PW.pt (pw_or (pt_not (pt_val (pe_callB (cIsi K) (by rfl) T.z_isinstance boot_isinstance (pa_cons (pv 0) (pa_cons (ty_list T.z_list) pa_nil))))) (pw_or1 (pt_cmpR (neD K hr.units) (pe_callB (cSorted K) (by rfl) T.z_sorted boot_sorted (pa_cons (pv 0) pa_nil)) (pe_callTy (cListR K) (by rfl) T.z_list boot_list (pa_cons (pe_callTy cRange1 (by rfl) T.z_range boot_range (pa_cons (pv 1) pa_nil)) pa_nil)) (nomark _)))))
        (pss_one (ps_ret pe_bl))
        pss_nil)
      (pss_cons (ps_for PassesOwn.never rfl (piL K (pv 0)) (pg_name (i := 3) sc_law_placed.nd rfl (Or.inl rfl))
        (pss_one (ps_if (pt_not (pt_val (pc D.law_whole Glaw_whole (hr.mono (by decide)) (pa_cons (pv 3) pa_nil))))
          (pss_one (ps_ret pe_bl))
          pss_nil)))
      (pss_cons (ps_for PassesOwn.never rfl (piL K (pv 2)) (pgT K rfl (pgs_cons (pg_name (i := 4) sc_law_placed.nd rfl (Or.inl rfl)) (pgs_cons (pg_name (i := 5) sc_law_placed.nd rfl (Or.inl rfl)) pgs_nil)))
        (pss_one (ps_if (pt_cmpR op_ge (pe_bm PySem.F.plainAttrs_list PySem.F.slot_list_index PySem.F.type_list_index mt_index (pv 0) (pa_cons (pv 4) pa_nil)) (pe_bm PySem.F.plainAttrs_list PySem.F.slot_list_index PySem.F.type_list_index mt_index (pv 0) (pa_cons (pv 5) pa_nil)) (nomark _))
          (pss_one (ps_ret pe_bl))
          pss_nil)))
      (pss_one (ps_ret pe_bl))))), ?_⟩
    refine ⟨_, rfl, _, _, _, true, rfl, .lst hf, rfl, _, rfl, iteF ?_⟩
    refine ⟨_, rfl, f, _, rfl, SqL.of hf, by omega, fun sl ms nsl pm up => ?_⟩
    have ems : ms = rngI cn := sorted_same (pm.trans (line_perm fl)) rng_up up
    subst ems
    refine ⟨_, rfl, cn, rfl, by omega, fun r nr => ⟨r, cn, rfl, upd_same, by omega, fun ev nev => ?_⟩⟩
    have sA := Same.new (o := .lst ((rngI cn).map V.int)) nsl
    have sB := (Same.new (o := .rng 0 (cn : Int)) nr).to (o := .lst ((List.range cn).map fun (i : Nat) => V.int (i : Int))) nev
    refine ⟨1, true, deq_flat (xs := (rngI cn).map V.int) (SqL.of (sB _ _ upd_same)) (SqL.of (by rw [upd_same]; unfold rngI; rw [List.map_map]; rfl)) (fun x hx => by obtain ⟨k, _, rfl⟩ := List.mem_map.mp hx; rfl), by decide, rfl, _, rfl, iteF ?_⟩
    have s1 := sA.trans sB
    refine ⟨_, rfl, f, rfl, ⟨_, SqL.of (s1 _ _ hf)⟩, ?_⟩
    refine for_list (K := K) (a := f) (xs := (lnL es cn).map V.int) (fun i σ Hx => ∃ x : Option V, σ = [some (.ref f), some (.int (cn : Int)), some (.ref o), x, none, none] ∧ Same H Hx) ⟨none, rfl, s1⟩ (fun i σ Hx _ hq__ => by obtain ⟨_, _, s⟩ := hq__; exact s.seq (SqL.of hf)) ?_ ?_
    · rintro i v σ Hx hi ⟨x, rfl, sx⟩
      obtain ⟨d, hd, rfl, ed⟩ := at_int hi
      exact ⟨_, rfl, d, rfl, _, rfl, iteF ⟨_, rfl, sx⟩⟩
    · rintro σ Hx ⟨x, rfl, sx⟩
      obtain ⟨ps, hp, tps⟩ := ho.same sx
      refine ⟨_, rfl, o, rfl, ⟨_, SqL.of hp⟩, ?_⟩
      refine for_list (K := K) (a := o) (xs := ps.map V.ref) (fun j σ Hy => ∃ y z : Option V, σ = [some (.ref f), some (.int (cn : Int)), some (.ref o), x, y, z] ∧ Same Hx Hy) ⟨none, none, rfl, Same.refl _⟩ (fun j σ Hy _ hq__ => by obtain ⟨_, _, _, s⟩ := hq__; exact s.seq (SqL.of hp)) ?_ ?_
      · rintro j v σ Hy hj ⟨y, z, rfl, sy⟩
        rw [List.getElem?_map] at hj
        obtain ⟨t, ht, rfl⟩ := Option.map_eq_some_iff.mp hj
        obtain ⟨e, he, px⟩ := pair_at tps ht
        have me := List.mem_of_getElem? he
        have hfy := (sx.trans sy) _ _ hf
        have m1 : e.1 ∈ lnL es cn := (line_mem fl).mpr (rg e me).1
        have m2 : e.2 ∈ lnL es cn := (line_mem fl).mpr (rg e me).2
        have li : (lnL es cn).idxOf e.1 < (lnL es cn).idxOf e.2 := (ln_k (es := es) (cn := cn) cn).idx (a := e.1) (b := e.2) me m2
        refine ⟨t, _, rfl, SqT.of (sy _ _ px), rfl, _, _, rfl, _, _, rfl, rfl, ?_⟩
        refine ⟨_, rfl, .inl ⟨rfl, _, SqL.of hfy⟩, _, rfl, f, lnL es cn, e.1, _, rfl, rfl, hfy, (idx_at m1).1, (idx_at m1).2, by omega, ?_⟩
        refine ⟨_, rfl, .inl ⟨rfl, _, SqL.of hfy⟩, _, rfl, f, lnL es cn, e.2, _, rfl, rfl, hfy, (idx_at m2).1, (idx_at m2).2, by omega, ?_⟩
        exact ⟨_, _, rfl, rfl, _, rfl, ifNo (by omega) ⟨_, _, rfl, sy⟩⟩
      · rintro σ Hy ⟨y, z, rfl, sy⟩
        exact q Hy (sx.trans sy)
noncomputable def sp_law_way (K : PySem.W.Frag) : Sp := fun vs H Q _ => ∃ (o : Addr) (es : Ord) (c : Int), vs = [.ref o, .int c] ∧ RowAt H o es ∧ 0 < es.length ∧ es.length ≤ 100 ∧ ∀ (l : Addr) (w : List Int) (H' : Hp), Same H H' → H l = none → H' l = some (.lst (w.map V.int)) → w.length ≤ 9 → Way es w → (∀ y ∈ w, ∃ e ∈ es, y = e.1 ∨ y = e.2) → Q (.ref l) H'
theorem sc_law_way : FnScope ["order", "cell", "way", "rest", "some"] ["order", "cell"] (defScope s_law_way) := ⟨rfl, rfl, rfl, by decide +kernel, rfl, by decide +kernel, by decide +kernel⟩
theorem ok_law_way (D : Dfs K mg aF dF) (T : Txt mg) : FnOk P w K mg base CX0 1 (aF 13) (dF 13) ["order", "cell"] (sp_law_way K) := by
  refine D.law_way.fn.ok sc_law_way (fun vs H Q E h => ?_) (fun cdv A outer s H vs Q E hr h => ?_)
  · obtain ⟨o, es, c, rfl, _⟩ := h; rfl
  · have hu := hu_of hr
    obtain ⟨o, es, c, rfl, ho, e0, e1, q⟩ := h
    refine ⟨_, (pss_cons (ps_set (i := 2) sc_law_way.nd rfl (Or.inr rfl) (pe_lst (pa_cons (pe_ix (ixT K) (pe_ix (ixL K) (pv 0) (pe_op op_mod (pv 1) (pe_callB (cLen K) (by rfl) T.z_len boot_len (pa_cons (pv 0) pa_nil))) (fun _ _ => rfl)) pe_int (fun _ _ => rfl)) pa_nil)))
      (pss_cons (ps_set (i := 3) sc_law_way.nd rfl (Or.inl rfl) (pe_op op_mod (pe_op op_fdiv (pv 1) pe_int) (pe_op op_pow pe_int pe_int)))
      (pss_cons (ps_setC (i₀ := 4) sc_law_way.nd rfl (Or.inl rfl) ["pair", "way"] [none, some 2] rfl (piL K (pv 0)) (fun _ => pg_name (i := 0) (nodupN (N := ["pair", "way"]) (by decide +kernel)) rfl (Or.inl rfl)) (fun _ => pif_one (pt_cmpR op_eq (pe_ix (ixT K) (pv 0) pe_int (fun _ _ => rfl)) (pe_ix (ixL K) (pv 1) pe_int (fun _ _ => rfl)) (nomark _))) (fun _ => (pv 0)) ((.cons (fun _ e => by cases e) (.cons (fun _ e => by cases e; exact ⟨rfl, rfl⟩) .nil))))
      (pss_cons (ps_while PassesOwn.never (PW.pt (pw_and (pt_cmpR (neD K hr.units) (pv 4) (pe_lst pa_nil) (nomark _)) (pw_and1 (pt_cmpR op_lt (pe_callB (cLen K) (by rfl) T.z_len boot_len (pa_cons (pv 2) pa_nil)) pe_int (nomark _)))))
        (pss_cons (ps_expr (pe_bm PySem.F.plainAttrs_list PySem.F.slot_list_append PySem.F.type_list_append mt_append (pv 2) (pa_cons (pe_ix (ixT K) (pe_ix (ixL K) (pv 4) (pe_op op_mod (pv 3) (pe_callB (cLen K) (by rfl) T.z_len boot_len (pa_cons (pv 4) pa_nil))) (fun _ _ => rfl)) pe_int (fun _ _ => rfl)) pa_nil)))
        (pss_cons (ps_set (i := 3) sc_law_way.nd rfl (Or.inl rfl) (pe_op op_fdiv (pv 3) pe_int))
        (pss_one (ps_setC (i₀ := 4) sc_law_way.nd rfl (Or.inl rfl) ["pair", "way"] [none, some 2] rfl (piL K (pv 0)) (fun _ => pg_name (i := 0) (nodupN (N := ["pair", "way"]) (by decide +kernel)) rfl (Or.inl rfl)) (fun _ => pif_one (pt_cmpR op_eq (pe_ix (ixT K) (pv 0) pe_int (fun _ _ => rfl)) (pe_ix (ixL K) (pv 1) (pe_op op_sub (pe_callB (cLen K) (by rfl) T.z_len boot_len (pa_cons (pv 1) pa_nil)) pe_int) (fun _ _ => rfl)) (nomark _))) (fun _ => (pv 0)) ((.cons (fun _ e => by cases e) (.cons (fun _ e => by cases e; exact ⟨rfl, rfl⟩) .nil))))))))
      (pss_one (ps_ret (pv 2))))))), ?_⟩
    obtain ⟨ps, hp, tps⟩ := ho
    have psl := tps.len
    obtain ⟨m, hm, em⟩ := modN c (n := es.length) e0
    obtain ⟨x, hx⟩ : ∃ x, es[m]? = some x := ⟨_, List.getElem?_eq_getElem hm⟩
    obtain ⟨t, ht, px⟩ := pair_get tps hx
    refine ⟨_, rfl, _, rfl, _, rfl, _, es.length, rfl, .inl ⟨_, SqL.of hp, by rw [List.length_map, psl]⟩, _, _, rfl, rfl, (show (0 : Int) < (es.length : Int) by omega), o, _, _, _, rfl, rfl, SqL.of hp, (by rw [em]; exact atI_nat (by rw [List.getElem?_map, ht]; rfl)), t, _, _, _, rfl, rfl, SqT.of px, rfl, szr, fun l nl => ?_⟩
    refine ⟨_, rfl, _, _, rfl, rfl, (show CDiv _ 40 from ⟨by decide, by decide⟩), _, _, rfl, rfl, ⟨by decide, by decide, by decide⟩, _, _, rfl, rfl, (show (0 : Int) < 10 ^ (9 : Int).toNat by decide), ?_⟩
    have s1 := Same.new (o := .lst [.int x.1]) nl
    have hl1 : upd H l (.lst [.int x.1]) l = some (.lst ([x.1].map V.int)) := upd_same
    generalize upd H l (.lst [.int x.1]) = H1 at s1 hl1
    have hp1 := s1 _ _ hp
    have tps1 := tps.same s1
    refine ⟨_, rfl, o, rfl, ⟨_, SqL.of hp1⟩, ?_⟩
    refine comp_list2 (xs := ps.map V.ref) (fun i => decide ((es.getD i (0, 0)).1 = x.1)) (fun i => V.ref (ps.getD i 0)) (SqL.of hp1) (by rw [List.length_map, psl]; omega) (fun i y hy H2 R s2 kk => ?_) (fun i y hy _ H2 R s2 kk => ?_) fun sm H2 s2 nsm hsm => ?_
    · rw [List.getElem?_map] at hy
      obtain ⟨t2, ht2, rfl⟩ := Option.map_eq_some_iff.mp hy
      obtain ⟨e, he, pe⟩ := pair_at tps1 ht2
      have z : R (decide ((es.getD i (0, 0)).1 = x.1)) H2 := kk H2 (Same.refl _)
      rw [at_getD he, ← decV] at z
      exact ⟨_, rfl, t2, _, _, _, rfl, rfl, SqT.of (s2 _ _ pe), rfl, _, rfl, l, _, _, _, rfl, rfl, SqL.of (s2 _ _ hl1), atI_hd, rfl, _, rfl, z⟩
    · rw [List.getElem?_map] at hy
      obtain ⟨t2, ht2, rfl⟩ := Option.map_eq_some_iff.mp hy
      have z : R (V.ref (ps.getD i 0)) H2 := kk H2 (Same.refl _)
      rw [List.getD_eq_getElem?_getD, ht2] at z
      exact ⟨_, rfl, z⟩
    rw [List.length_map, psl] at hsm
    have S2 : SomeAt H2 sm es x.1 := some_at (tps1.same s2) hsm
    refine while_by (fun σ Hx => ∃ (w : List Int) (rs : Int) (sm : Addr) (b : Int), σ = [some (.ref o), some (.int c), some (.ref l), some (.int rs), some (.ref sm)] ∧ Same H Hx ∧ Hx l = some (.lst (w.map V.int)) ∧ Way es w ∧ (∀ y ∈ w, ∃ e ∈ es, y = e.1 ∨ y = e.2) ∧ w.length ≤ 9 ∧ w[w.length - 1]? = some b ∧ SomeAt Hx sm es b) (fun _ Hx => match Hx l with | some (.lst xs) => 10 - xs.length | _ => 0) ⟨[x.1], _, sm, x.1, rfl, s1.trans s2, s2 _ _ hl1, Way.one _, fun y hy => ⟨x, List.mem_of_getElem? hx, .inl (List.mem_singleton.mp hy)⟩, by simp, rfl, S2⟩ ?_ ?_
    · rintro σ Hx ⟨w, rs, sm, b, rfl, sx, hw, wy, rg, w9, hb, qs, hq, ql, hqs⟩
      refine ⟨_, rfl, szr, fun p np => ?_⟩
      have sp := Same.new (o := .lst []) np
      have hwp := sp _ _ hw
      have hqp := sp _ _ hq
      cases qs with
      | nil => exact ⟨1, true, deq_nil (SqL.of hqp) (SqL.of upd_same), by decide, rfl, _, rfl, iteF (iteF ⟨_, rfl, q l w _ (sx.trans sp) nl hwp w9 wy rg⟩)⟩
      | cons q0 qr =>
        refine ⟨1, false, deq_nil (SqL.of hqp) (SqL.of upd_same), by decide, rfl, _, rfl, iteT ?_⟩
        refine ⟨_, rfl, _, w.length, rfl, .inl ⟨_, SqL.of hwp, by rw [List.length_map]⟩, _, _, rfl, rfl, _, rfl, ifD (fun h9 => ?_) fun _ => ⟨_, rfl, q l w _ (sx.trans sp) nl hwp w9 wy rg⟩⟩
        obtain ⟨m, hm, em⟩ := modN rs (n := (q0 :: qr).length) (by simp)
        obtain ⟨qm, hqm⟩ : ∃ q, (q0 :: qr)[m]? = some q := ⟨_, List.getElem?_eq_getElem hm⟩
        obtain ⟨f, mf, tf⟩ := hqs qm (List.mem_of_getElem? hqm)
        refine ⟨_, rfl, .inl ⟨rfl, _, SqL.of hwp⟩, _, rfl, _, rfl, _, rfl, _, (q0 :: qr).length, rfl, .inl ⟨_, SqL.of hqp, by rw [List.length_map]⟩, _, _, rfl, rfl, (show (0 : Int) < (((q0 :: qr).length : Nat) : Int) by rw [List.length_cons]; omega), sm, _, _, _, rfl, rfl, SqL.of hqp, (by rw [em]; exact atI_nat (by rw [List.getElem?_map, hqm]; rfl)), qm, _, _, _, rfl, rfl, SqT.of (sp _ _ tf), rfl, l, _, _, rfl, rfl, hwp, szn (by rw [List.length_map]; omega), ?_⟩
        refine ⟨_, rfl, _, _, rfl, rfl, (show CDiv _ 3 from ⟨by decide, by decide⟩), ?_⟩
        have sy := (sx.trans sp).put (o := .lst (w.map V.int ++ [.int f])) nl
        have hly : upd (upd Hx p (.lst [])) l (.lst (w.map V.int ++ [.int f])) l = some (.lst ((w ++ [f]).map V.int)) := by rw [upd_same, List.map_append]; rfl
        generalize upd (upd Hx p (.lst [])) l (.lst (w.map V.int ++ [.int f])) = Hy at sy hly
        have hpy := sy _ _ hp
        have tpsy := tps.same sy
        have hat2 : atI ((w ++ [f]).map V.int) (((w.length + 1 : Nat) : Int) - 1) = some (.int f) := by
          rw [show ((w.length + 1 : Nat) : Int) - 1 = ((w.length : Nat) : Int) by omega]
          exact atI_nat (by rw [List.getElem?_map, List.getElem?_append_right (Nat.le_refl _), Nat.sub_self]; rfl)
        refine ⟨_, rfl, o, rfl, ⟨_, SqL.of hpy⟩, ?_⟩
        refine comp_list2 (xs := ps.map V.ref) (fun i => decide ((es.getD i (0, 0)).1 = f)) (fun i => V.ref (ps.getD i 0)) (SqL.of hpy) (by rw [List.length_map, psl]; omega) (fun i y hy H2 R s2 kk => ?_) (fun i y hy _ H2 R s2 kk => ?_) fun sm2 H2 s2 nsm hsm => ?_
        · rw [List.getElem?_map] at hy
          obtain ⟨t2, ht2, rfl⟩ := Option.map_eq_some_iff.mp hy
          obtain ⟨e, he, pe⟩ := pair_at tpsy ht2
          have z : R (decide ((es.getD i (0, 0)).1 = f)) H2 := kk H2 (Same.refl _)
          rw [at_getD he, ← decV] at z
          exact ⟨_, rfl, t2, _, _, _, rfl, rfl, SqT.of (s2 _ _ pe), rfl, _, rfl, _, rfl, _, w.length + 1, rfl, .inl ⟨_, SqL.of (s2 _ _ hly), by rw [List.length_map, List.length_append]; rfl⟩, _, _, rfl, rfl, l, _, _, _, rfl, rfl, SqL.of (s2 _ _ hly), hat2, rfl, _, rfl, z⟩
        · rw [List.getElem?_map] at hy
          obtain ⟨t2, ht2, rfl⟩ := Option.map_eq_some_iff.mp hy
          have z : R (V.ref (ps.getD i 0)) H2 := kk H2 (Same.refl _)
          rw [List.getD_eq_getElem?_getD, ht2] at z
          exact ⟨_, rfl, z⟩
        rw [List.length_map, psl] at hsm
        have S3 : SomeAt H2 sm2 es f := some_at (tpsy.same s2) hsm
        have hl2 := s2 _ _ hly
        refine ⟨⟨w ++ [f], _, sm2, f, rfl, sy.trans s2, hl2, wy.more hb mf, fun y hy => ?_, by rw [List.length_append, List.length_singleton]; omega, by rw [List.length_append, List.length_singleton, Nat.add_sub_cancel, List.getElem?_append_right (Nat.le_refl _), Nat.sub_self]; rfl, S3⟩, ?_⟩
        · rcases List.mem_append.mp hy with z | z
          · exact rg y z
          · rw [List.mem_singleton.mp z]; exact ⟨_, mf, .inr rfl⟩
        · rw [hw, hl2]
          simp only [List.length_append, List.length_map, List.length_singleton]
          omega
    · rintro σ Hx Q Q' hq ⟨v, e, z, y⟩
      refine ⟨v, e, z, fun p np => ?_⟩
      obtain ⟨d, b, h1, h2, h3, k, hk, h4⟩ := y p np
      refine ⟨d, b, h1, h2, h3, k, hk, ?_⟩
      cases k with
      | false => exact iteF (hq _ _ h4)
      | true =>
        obtain ⟨v1, a1, v2, n2, a2, lv, i, j, a3, a4, k1, a5, z1⟩ := h4
        exact iteT ⟨v1, a1, v2, n2, a2, lv, i, j, a3, a4, k1, a5, hq _ _ z1⟩
noncomputable def sp_law_refused (K : PySem.W.Frag) : Sp := fun vs H Q _ => ∃ (cn : Nat) (o : Addr) (es : Ord), vs = [.int (cn : Int), .ref o] ∧ cn ≤ 6 ∧ RowAt H o es ∧ es.length ≤ 100 ∧ (lnL es cn).length < cn ∧ ∀ H', Same H H' → Q (.bl true) H'
theorem sc_law_refused : FnScope ["count", "order", "refused"] ["count", "order"] (defScope s_law_refused) := ⟨rfl, rfl, rfl, by decide +kernel, rfl, by decide +kernel, by decide +kernel⟩
theorem ok_law_refused (D : Dfs K mg aF dF) (T : Txt mg) : FnOk P w K mg base CX0 6 (aF 14) (dF 14) ["count", "order"] (sp_law_refused K) := by
  have Gline : FnOk P w K mg base (CXR P w) 5 (aF 2) (dF 2) ["count", "order"] (sp_line K) := ok_line D T
  refine D.law_refused.fn.ok sc_law_refused (fun vs H Q E h => ?_) (fun cdv A outer s H vs Q E hr h => ?_)
  · obtain ⟨cn, o, es, rfl, _⟩ := h; rfl
  · have hu := hu_of hr
    obtain ⟨cn, o, es, rfl, c6, ho, e1, lt, q⟩ := h
    refine ⟨_, (pss_cons (ps_set (i := 2) sc_law_refused.nd rfl (Or.inl rfl) pe_bl)
      (pss_cons (ps_try0 (C := (aF 17)) D.line Gline (hr.mono (by decide)) D.g_Ring (exm_of D.b_Ring D.h_Ring D.t_Ring D.s_Ring) (pa_cons (pv 0) (pa_cons (pv 1) pa_nil))
        (fun _ => (pss_one (ps_set (i := 2) sc_law_refused.nd rfl (Or.inl rfl) pe_bl))))
      (pss_one (ps_ret (pv 2))))), ?_⟩
    refine ⟨_, rfl, _, rfl, cn, o, es, rfl, c6, ho, e1, fun z => absurd z (by omega), fun _ C H' s hC => ?_⟩
    have e : (aF 17) = C := by
      have z := D.n_Ring.symm.trans hC
      injection z with z
      injection z with z
      injection z
    subst e
    exact ⟨rfl, fun ea nea => ⟨_, rfl, q _ (s.to nea)⟩⟩
noncomputable def sp_law_closed (K : PySem.W.Frag) : Sp := fun vs H Q _ => ∃ (cn : Nat) (o : Addr) (es : Ord), vs = [.int (cn : Int), .ref o] ∧ cn ≤ 6 ∧ RowAt H o es ∧ es.length ≤ 100 ∧ (∀ x ∈ es, 0 ≤ x.1 ∧ x.1 < (cn : Int)) ∧ (lnL es cn).length < cn ∧ ∀ H', Same H H' → Q (.bl true) H'
theorem sc_law_closed : FnScope ["count", "order", "found", "k"] ["count", "order"] (defScope s_law_closed) := ⟨rfl, rfl, rfl, by decide +kernel, rfl, by decide +kernel, by decide +kernel⟩
theorem ok_law_closed (D : Dfs K mg aF dF) (T : Txt mg) : FnOk P w K mg base CX0 7 (aF 15) (dF 15) ["count", "order"] (sp_law_closed K) := by
  have Gring : FnOk P w K mg base CX0 5 (aF 0) (dF 0) ["count", "order"] (sp_ring K) := ok_ring D T
  have Glaw_refused : FnOk P w K mg base CX0 6 (aF 14) (dF 14) ["count", "order"] (sp_law_refused K) := ok_law_refused D T
  refine D.law_closed.fn.ok sc_law_closed (fun vs H Q E h => ?_) (fun cdv A outer s H vs Q E hr h => ?_)
  · obtain ⟨cn, o, es, rfl, _⟩ := h; rfl
  · have hu := hu_of hr
    obtain ⟨cn, o, es, rfl, c6, ho, e1, ok, lt, q⟩ := h
    refine ⟨_, (pss_cons (ps_set (i := 2) sc_law_closed.nd rfl (Or.inl rfl) (pc D.ring Gring (hr.mono (by decide)) (pa_cons (pv 0) (pa_cons (pv 1) pa_nil))))
      (pss_cons (ps_if (PW.pt (pw_or (pt_not (pt_val (pe_callB (cIsi K) (by rfl) T.z_isinstance boot_isinstance (pa_cons (pv 2) (pa_cons (ty_list T.z_list) pa_nil))))) (pw_or1 (pt_cmpR (eqD K hr.units) (pv 2) (pe_lst pa_nil) (nomark _)))))
        (pss_one (ps_ret pe_bl))
        pss_nil)
      (pss_cons (ps_for PassesOwn.never rfl (pi_range1 rfl T.z_range (pa_cons (pe_callB (cLen K) (by rfl) T.z_len boot_len (pa_cons (pv 2) pa_nil)) pa_nil)) (pg_name (i := 3) sc_law_closed.nd rfl (Or.inl rfl))
        (pss_one (ps_if (PW.pt (pw_or (pt_cmpR (inS K) (pe_ix (ixL K) (pv 2) (pv 3) (fun _ _ => rfl)) (pe_slice (slL K) (pv 2) po_none (po_some (pv 3))) (by with_unfolding_all rfl)) (pw_or1 (pt_cmpR (ninR K hr.units) (pe_tup (pa_cons (pe_ix (ixL K) (pv 2) (pe_op op_sub (pv 3) pe_int) (fun _ _ => rfl)) (pa_cons (pe_ix (ixL K) (pv 2) (pv 3) (fun _ _ => rfl)) pa_nil))) (pv 1) (by with_unfolding_all rfl)))))
          (pss_one (ps_ret pe_bl))
          pss_nil)))
      (pss_one (ps_ret (pc D.law_refused Glaw_refused (hr.mono (by decide)) (pa_cons (pv 0) (pa_cons (pv 1) pa_nil)))))))), ?_⟩
    refine ⟨_, rfl, _, rfl, cn, o, es, rfl, c6, ho, e1, ok, fun f r H1 s1 nf hf hr' => ?_⟩
    rcases hr' with ⟨full, _⟩ | ⟨_, ir, rg⟩
    · omega
    obtain ⟨x0, r0, er⟩ := List.exists_cons_of_ne_nil ir.ne
    refine ⟨_, rfl, _, _, _, true, rfl, .lst hf, rfl, _, rfl, iteF ?_⟩
    refine ⟨_, rfl, szr, fun p np => ⟨1, false, deq_nil (xs := (x0 :: r0).map V.int) (by rw [er] at hf; exact SqL.of ((Same.new np) _ _ hf)) (SqL.of upd_same), by decide, rfl, _, rfl, iteF ?_⟩⟩
    have s2 := s1.to (o := .lst []) np
    have hf2 := (Same.new (o := .lst []) np) _ _ hf
    generalize upd H1 p (.lst []) = H2 at s2 hf2
    have r6 : r.length ≤ cn := by
      have z := ir.nd.length_le_of_subset (l₂ := rngI cn) fun x hx => ((perm_rng (List.Perm.refl (rngI cn))).2.2 x).mpr (rg x hx)
      rw [(perm_rng (List.Perm.refl (rngI cn))).1] at z
      exact z
    refine ⟨_, rfl, _, _, rfl, .inl ⟨_, SqL.of hf2, rfl⟩, _, rfl, lo62 _, by rw [List.length_map]; omega, ?_⟩
    have e0 : (((r.map V.int).length : Nat) : Int).toNat = r.length := by rw [List.length_map]; omega
    rw [e0]
    refine for_range (n := r.length) (fun i σ Hx => ∃ x : Option V, σ = [some (.int (cn : Int)), some (.ref o), some (.ref f), x] ∧ Same H2 Hx) ⟨none, rfl, Same.refl _⟩ ?_ ?_
    · rintro i σ Hx hi ⟨x, rfl, sx⟩
      have ei : (0 : Int) + (i : Int) = ((i : Nat) : Int) := by omega
      rw [ei]
      have hb := getD_some hi
      have hat := atI_int hi
      generalize r.getD i 0 = b at hb hat
      have hfx := sx.seq (K := K) (SqL.of hf2)
      refine ⟨_, rfl, _, rfl, f, _, _, _, rfl, rfl, hfx, hat, _, rfl, _, rfl, _, rfl, f, _, rfl, hfx, fun p np => ?_⟩
      rw [cut_to, ← List.map_take]
      have s3 := Same.new (o := .lst ((r.take i).map V.int)) np
      refine ⟨p, _, rfl, .inl (SqL.of upd_same), rfl, flat_all _, ?_⟩
      rw [if_neg Bool.false_ne_true, inV_int]
      refine ⟨_, rfl, ifNo (nd_at ir.nd hb) ?_⟩
      obtain ⟨a, ha, m⟩ := ir.at hb
      refine ⟨_, rfl, _, rfl, _, _, rfl, rfl, f, _, _, _, rfl, rfl, s3.seq hfx, ha, _, rfl, _, rfl, f, _, _, _, rfl, rfl, s3.seq hfx, hat, szr, fun t nt => ?_⟩
      have s4 := Same.new (o := .tup [.int a, .int b]) nt
      obtain ⟨ps, hp, tp⟩ := ((ho.same (s2.trans sx)).same s3).same s4
      obtain ⟨d1, d2⟩ := row_in (K := K) tp upd_same m
      refine ⟨_, rfl, o, ps, 1, _, rfl, SqL.of hp, by decide, d1, ?_⟩
      rw [d2]
      exact ⟨_, rfl, iteF ⟨_, rfl, (sx.trans s3).trans s4⟩⟩
    · rintro σ Hx ⟨x, rfl, sx⟩
      exact ⟨_, rfl, _, rfl, cn, o, es, rfl, c6, ho.same (s2.trans sx), e1, lt, fun H' s' => q H' ((s2.trans sx).trans s')⟩
noncomputable def sp_law (K : PySem.W.Frag) : Sp := fun vs H Q _ => ∃ (a : Addr) (ns : List Int), vs = [.ref a] ∧ SqL K H a (ns.map V.int) ∧ ns.length ≤ 63 ∧ ∀ H', Q (.bl true) H'
theorem sc_law : FnScope ["script", "count", "order", "found", "done", "step", "way"] ["script"] (defScope s_law) := ⟨rfl, rfl, rfl, by decide +kernel, rfl, by decide +kernel, by decide +kernel⟩
theorem ok_law (D : Dfs K mg aF dF) (T : Txt mg) : FnOk P w K mg base CX0 8 (aF 16) (dF 16) ["script"] (sp_law K) := by
  have Gring : FnOk P w K mg base CX0 5 (aF 0) (dF 0) ["count", "order"] (sp_ring K) := ok_ring D T
  have Gline : FnOk P w K mg base (CXR P w) 5 (aF 2) (dF 2) ["count", "order"] (sp_line K) := ok_line D T
  have Gready : FnOk P w K mg base CX0 4 (aF 4) (dF 4) ["order", "done"] (sp_ready K) := ok_ready D T
  have Glaw_cell : FnOk P w K mg base CX0 1 (aF 8) (dF 8) ["script", "k"] (sp_law_cell K) := ok_law_cell D T
  have Glaw_row : FnOk P w K mg base CX0 1 (aF 10) (dF 10) ["count", "cell"] (sp_law_row K) := ok_law_row D T
  have Glaw_order : FnOk P w K mg base CX0 1 (aF 11) (dF 11) ["cells", "row"] (sp_law_order K) := ok_law_order D T
  have Glaw_placed : FnOk P w K mg base CX0 2 (aF 12) (dF 12) ["found", "count", "order"] (sp_law_placed K) := ok_law_placed D T
  have Glaw_way : FnOk P w K mg base CX0 1 (aF 13) (dF 13) ["order", "cell"] (sp_law_way K) := ok_law_way D T
  have Glaw_closed : FnOk P w K mg base CX0 7 (aF 15) (dF 15) ["count", "order"] (sp_law_closed K) := ok_law_closed D T
  refine D.law.fn.ok sc_law (fun vs H Q E h => ?_) (fun cdv A outer s H vs Q E hr h => ?_)
  · obtain ⟨a, ns, rfl, _⟩ := h; rfl
  · have hu := hu_of hr
    obtain ⟨a, ns, rfl, hS, hl, q⟩ := h
    refine ⟨_, (pss_cons (ps_set (i := 1) sc_law.nd rfl (Or.inl rfl) (pe_op op_add pe_int (pe_op op_mod (pc D.law_cell Glaw_cell (hr.mono (by decide)) (pa_cons (pv 0) (pa_cons pe_int pa_nil))) pe_int)))
      (pss_cons (ps_set (i := 2) sc_law.nd rfl (Or.inl rfl) (pc D.law_order Glaw_order (hr.mono (by decide)) (pa_cons (pe_slice (slL K) (pv 0) (po_some pe_int) (po_some pe_int)) (pa_cons (pc D.law_row Glaw_row (hr.mono (by decide)) (pa_cons (pv 1) (pa_cons (pc D.law_cell Glaw_cell (hr.mono (by decide)) (pa_cons (pv 0) (pa_cons pe_int pa_nil))) pa_nil))) pa_nil))))
      (pss_cons (ps_if (pt_cmpR (neD K hr.units) (pc D.ring Gring (hr.mono (by decide)) (pa_cons (pv 1) (pa_cons (pe_callTy (cList K) (by rfl) T.z_list boot_list (pa_cons (pv 2) pa_nil)) pa_nil))) (pe_lst pa_nil) (nomark _))
        (pss_one (ps_ret pe_bl))
        pss_nil)
      (pss_cons (ps_set (i := 3) sc_law.nd rfl (Or.inl rfl) (pcR D.line Gline (hr.mono (by decide)) (pa_cons (pv 1) (pa_cons (pe_callTy (cList K) (by rfl) T.z_list boot_list (pa_cons (pv 2) pa_nil)) pa_nil))))
      (pss_cons (ps_if (PW.pt (pw_or (pt_not (pt_val (pc D.law_placed Glaw_placed (hr.mono (by decide)) (pa_cons (pv 3) (pa_cons (pv 1) (pa_cons (pv 2) pa_nil)))))) (pw_or1 (pt_cmpR (neD K hr.units) (pcR D.line Gline (hr.mono (by decide)) (pa_cons (pv 1) (pa_cons (pe_lrev K rfl T.z_list rfl T.z_reversed (pa_cons (pv 2) pa_nil)) pa_nil))) (pv 3) (nomark _)))))
        (pss_one (ps_ret pe_bl))
        pss_nil)
      (pss_cons (ps_set (i := 4) sc_law.nd rfl (Or.inl rfl) (pe_op op_rep (pe_lst (pa_cons pe_non pa_nil)) (pv 1)))
      (pss_cons (ps_for PassesOwn.never rfl (piL K (pv 3)) (pg_name (i := 5) sc_law.nd rfl (Or.inl rfl))
        (pss_cons (ps_if (pt_cmpR (ninS K) (pv 5) (pc D.ready Gready (hr.mono (by decide)) (pa_cons (pe_callTy (cList K) (by rfl) T.z_list boot_list (pa_cons (pv 2) pa_nil)) (pa_cons (pe_callTy (cList K) (by rfl) T.z_list boot_list (pa_cons (pv 4) pa_nil)) pa_nil))) (by with_unfolding_all rfl))
          (pss_one (ps_ret pe_bl))
          pss_nil)
        (pss_one (ps_asg (pe_op op_add pe_int (pe_op op_mod (pc D.law_cell Glaw_cell (hr.mono (by decide)) (pa_cons (pv 0) (pa_cons pe_int pa_nil))) (pe_op op_pow pe_int pe_int))) (pg_sub (pv 4) (pv 5) set_list)))))
      (pss_cons (ps_if (pt_cmpR (neD K hr.units) (pc D.ready Gready (hr.mono (by decide)) (pa_cons (pe_callTy (cList K) (by rfl) T.z_list boot_list (pa_cons (pv 2) pa_nil)) (pa_cons (pv 4) pa_nil))) (pe_lst pa_nil) (nomark _))
        (pss_one (ps_ret pe_bl))
        pss_nil)
      (pss_cons (ps_if (pt_cmpR (eqD K hr.units) (pv 2) (pe_lst pa_nil) (nomark _))
        (pss_one (ps_ret (pc D.law_closed Glaw_closed (hr.mono (by decide)) (pa_cons (pv 1) (pa_cons (pe_lst (pa_cons (pe_tup (pa_cons (pe_op op_sub (pv 1) pe_int) (pa_cons (pe_op op_sub (pv 1) pe_int) pa_nil))) pa_nil)) pa_nil)))))
        pss_nil)
      (pss_cons (ps_set (i := 6) sc_law.nd rfl (Or.inl rfl) (pc D.law_way Glaw_way (hr.mono (by decide)) (pa_cons (pv 2) (pa_cons (pc D.law_cell Glaw_cell (hr.mono (by decide)) (pa_cons (pv 0) (pa_cons pe_int pa_nil))) pa_nil))))
      (pss_one (ps_ret (pc D.law_closed Glaw_closed (hr.mono (by decide)) (pa_cons (pv 1) (pa_cons (pe_op op_cat (pv 2) (pe_lst (pa_cons (pe_tup (pa_cons (pe_ix (ixL K) (pv 6) (pe_op op_sub (pe_callB (cLen K) (by rfl) T.z_len boot_len (pa_cons (pv 6) pa_nil)) pe_int) (fun _ _ => rfl)) (pa_cons (pe_ix (ixL K) (pv 6) pe_int (fun _ _ => rfl)) pa_nil))) pa_nil))) pa_nil))))))))))))))), ?_⟩
    refine ⟨_, rfl, a, ns, 0, rfl, hS, by omega, by decide, fun H1 s1 => ⟨_, _, rfl, rfl, (show (0 : Int) < 6 by decide), _, _, rfl, rfl, ?_⟩⟩
    obtain ⟨m, m6, em⟩ := modN (cv ns 0) (n := 6) (by decide)
    have ec : 1 + cv ns 0 % 6 = ((1 + m : Nat) : Int) := by
      have em : cv ns 0 % 6 = (m : Int) := em
      omega
    dsimp only
    rw [ec]
    obtain ⟨cn, ecn⟩ : ∃ cn, cn = 1 + m := ⟨_, rfl⟩
    rw [← ecn]
    refine ⟨_, rfl, _, rfl, _, rfl, a, _, rfl, s1.seq hS, fun c5 nc5 => ?_⟩
    have ecut : cutV (ns.map V.int) (some 3) (some 41) = ((ns.drop 3).take 38).map V.int := (cut_mid (ns.map V.int) 3 41).trans (by rw [List.map_take, List.map_drop])
    rw [ecut]
    have s2 := s1.to (o := .lst (((ns.drop 3).take 38).map V.int)) nc5
    have h5 : upd H1 c5 (.lst (((ns.drop 3).take 38).map V.int)) c5 = some (.lst (((ns.drop 3).take 38).map V.int)) := upd_same
    have l38 : ((ns.drop 3).take 38).length ≤ 38 := by rw [List.length_take]; omega
    generalize upd H1 c5 (.lst (((ns.drop 3).take 38).map V.int)) = H2 at s2 h5
    refine ⟨_, rfl, _, rfl, a, ns, 1, rfl, s2.seq hS, by omega, by decide, fun H3 s3 => ⟨cn, _, rfl, by omega, fun rw' r H4 s4 nrw hrw pr => ?_⟩⟩
    have rl := (perm_rng pr).1
    refine ⟨c5, rw', (ns.drop 3).take 38, r, rfl, SqL.of ((s3.trans s4) _ _ h5), by omega, hrw, by omega, by omega, fun l es H5 s5 nl ra le ok => ?_⟩
    have rg := rng_along pr ok
    have full := along pr ok
    have ok1 : ∀ x ∈ es, 0 ≤ x.1 ∧ x.1 < (cn : Int) := fun x hx => (rg x hx).1
    have s05 : Same H H5 := ((s2.trans s3).trans s4).trans s5
    obtain ⟨ps, hp, tp⟩ := ra
    have psl := tp.len
    refine ⟨_, rfl, _, rfl, l, _, rfl, .inl (SqL.of hp), fun h1 nh1 => ?_⟩
    have s6 := Same.new (o := .lst (ps.map V.ref)) nh1
    have hh1 : upd H5 h1 (.lst (ps.map V.ref)) h1 = some (.lst (ps.map V.ref)) := upd_same
    generalize upd H5 h1 (.lst (ps.map V.ref)) = H6 at s6 hh1
    refine ⟨cn, h1, es, rfl, by omega, ⟨ps, hh1, tp.same s6⟩, by omega, ok1, fun fd rr H7 s7 nf hfd hr' => ?_⟩
    rcases hr' with ⟨_, rfl⟩ | ⟨lt, _⟩
    · refine ⟨szr, fun p np => ⟨1, true, deq_nil (SqL.of ((Same.new np) _ _ hfd)) (SqL.of upd_same), by decide, rfl, _, rfl, iteF ?_⟩⟩
      have s8 := (s6.trans s7).to (o := .lst []) np
      generalize upd H7 p (.lst []) = H8 at s8
      refine ⟨_, rfl, _, rfl, l, _, rfl, .inl (SqL.of (s8 _ _ hp)), fun h2 nh2 => ?_⟩
      have s9 := s8.to (o := .lst (ps.map V.ref)) nh2
      have hh2 : upd H8 h2 (.lst (ps.map V.ref)) h2 = some (.lst (ps.map V.ref)) := upd_same
      generalize upd H8 h2 (.lst (ps.map V.ref)) = H9 at s9 hh2
      refine ⟨cn, h2, es, rfl, by omega, ⟨ps, hh2, tp.same s9⟩, by omega, fun _ f H10 s10 nf2 hf => ?_, fun z => absurd z (by omega)⟩
      have s11 := s9.trans s10
      refine ⟨_, rfl, _, rfl, _, rfl, f, l, cn, es, rfl, by omega, hf, full, ⟨ps, s11 _ _ hp, tp.same s11⟩, rg, fun H11 s12 => ⟨_, rfl, iteF ?_⟩⟩
      have s13 := s11.trans s12
      refine ⟨_, rfl, _, rfl, l, _, rfl, SqL.of (s13 _ _ hp), by rw [List.length_map]; omega, fun h3 nh3 => ?_⟩
      rw [← List.map_reverse]
      have s14 := s12.to (o := .lst (ps.reverse.map V.ref)) nh3
      have s15 := s13.to (o := .lst (ps.reverse.map V.ref)) nh3
      have hh3 : upd H11 h3 (.lst (ps.reverse.map V.ref)) h3 = some (.lst (ps.reverse.map V.ref)) := upd_same
      generalize upd H11 h3 (.lst (ps.reverse.map V.ref)) = H12 at s14 s15 hh3
      have er : lnL es.reverse cn = lnL es cn := lnK_rev cn
      refine ⟨cn, h3, es.reverse, rfl, by omega, ⟨ps.reverse, hh3, TupsL.rev (tp.same s15)⟩, by rw [List.length_reverse]; omega, fun _ f3 H13 s16 nf3 hf3 => ?_, fun z => absurd z (by rw [er]; omega)⟩
      rw [er] at hf3
      have s17 := s15.trans s16
      have hf13 := (s14.trans s16) _ _ hf
      refine ⟨_, rfl, 1, true, deq_flat (SqL.of hf3) (SqL.of hf13) (fun x hx => by obtain ⟨k, _, rfl⟩ := List.mem_map.mp hx; rfl), by decide, rfl, _, rfl, iteF ?_⟩
      refine ⟨szr, fun l0 n0 => ⟨_, rfl, l0, _, _, rfl, rfl, upd_same, by omega, by omega, by show 1 * _ ≤ _; exact szl (by omega), fun dl ndl => ?_⟩⟩
      rw [Int.toNat_natCast, rep_flat]
      have sB := s17.to (o := .lst [.non]) n0
      have hfB := (Same.new (o := .lst [.non]) n0) _ _ hf13
      generalize upd H13 l0 (.lst [.non]) = HB at sB hfB ndl
      have s18 := Same.new (o := .lst (List.replicate cn .non)) ndl
      have hdl : upd HB dl (.lst (List.replicate cn .non)) dl = some (.lst ((List.replicate cn none).map hV)) := by rw [upd_same, List.map_replicate]; rfl
      generalize upd HB dl (.lst (List.replicate cn .non)) = H14 at s18 hdl
      refine ⟨_, rfl, f, rfl, ⟨_, SqL.of (s18 _ _ hfB)⟩, ?_⟩
      refine for_list (K := K) (a := f) (xs := (lnL es cn).map V.int) (fun j σ Hx => ∃ (x : Option V) (dn : List (Option Int)), σ = [some (.ref a), some (.int (cn : Int)), some (.ref l), some (.ref f), some (.ref dl), x, none] ∧ Same HB Hx ∧ Hx dl = some (.lst (dn.map hV)) ∧ Dn cn ((lnL es cn).take j) dn) ⟨none, _, rfl, s18, hdl, Dn.nil⟩ (fun j σ Hx _ hq__ => by obtain ⟨_, _, _, s, _⟩ := hq__; exact s.seq (SqL.of hfB)) ?_ ?_
      · rintro j v σ Hx hj ⟨x, dn, rfl, sx, hd, dj⟩
        obtain ⟨d, hd', rfl, ed⟩ := at_int hj
        obtain ⟨st, rfl, hst, mst⟩ := ready_in dj hd'
        have s5x := sB.trans sx
        refine ⟨_, rfl, _, rfl, l, _, rfl, .inl (SqL.of (s5x _ _ hp)), fun h4 nh4 => ?_⟩
        have s20 := Same.new (o := .lst (ps.map V.ref)) nh4
        have hh4 : upd Hx h4 (.lst (ps.map V.ref)) h4 = some (.lst (ps.map V.ref)) := upd_same
        generalize upd Hx h4 (.lst (ps.map V.ref)) = H15 at s20 hh4
        refine ⟨_, rfl, dl, _, rfl, .inl (SqL.of (s20 _ _ hd)), fun h5 nh5 => ?_⟩
        have s21 := Same.new (o := .lst (dn.map hV)) nh5
        have hh5 : upd H15 h5 (.lst (dn.map hV)) h5 = some (.lst (dn.map hV)) := upd_same
        generalize upd H15 h5 (.lst (dn.map hV)) = H16 at s21 hh5
        have s22 := s20.trans s21
        refine ⟨h4, h5, es, dn, rfl, ⟨ps, s21 _ _ hh4, tp.same (s5x.trans s22)⟩, by omega, SqL.of hh5, by rw [dj.len]; omega, fun rd H17 s23 nrd hrd => ?_⟩
        have hrd : H17 rd = some (.lst ((((List.range dn.length).filter fun (i : Nat) => frB es (dnS dn) (i : Int)).map fun (i : Nat) => (i : Int)).map V.int)) := by rw [hrd, List.map_map]; rfl
        refine ⟨rd, _, rfl, .inl (SqL.of hrd), rfl, flat_all _, ?_⟩
        rw [if_pos rfl, inV_int]
        refine ⟨_, rfl, ifNotD (List.mem_map.mpr ⟨st, mst, rfl⟩) ?_⟩
        have s24 := s22.trans s23
        refine ⟨_, rfl, a, ns, 2, rfl, (s05.trans (s5x.trans s24)).seq hS, by omega, by decide, fun H18 s25 => ?_⟩
        have s26 := s24.trans s25
        refine ⟨_, _, rfl, rfl, ⟨by decide, by decide, by decide⟩, _, _, rfl, rfl, (show (0 : Int) < 10 ^ (18 : Int).toNat by decide), _, _, rfl, rfl, _, rfl, _, rfl, dl, _, _, st, rfl, rfl, s26 _ _ hd, ixN_natE (by rw [List.length_map, dj.len]; exact hst), ?_⟩
        refine ⟨_, dn.set st (some (1 + cv ns 2 % 10 ^ (18 : Int).toNat)), rfl, (sx.trans s26).put ndl, by rw [upd_same, List.map_set]; rfl, ?_⟩
        rw [take_snoc hd']
        exact dj.set hst _
      · rintro σ Hx ⟨x, dn, rfl, sx, hd, dj⟩
        rw [List.length_map, List.take_length] at dj
        have s5x := sB.trans sx
        refine ⟨_, rfl, l, _, rfl, .inl (SqL.of (s5x _ _ hp)), fun h4 nh4 => ?_⟩
        have s20 := Same.new (o := .lst (ps.map V.ref)) nh4
        have hh4 : upd Hx h4 (.lst (ps.map V.ref)) h4 = some (.lst (ps.map V.ref)) := upd_same
        generalize upd Hx h4 (.lst (ps.map V.ref)) = H15 at s20 hh4
        refine ⟨_, rfl, h4, dl, es, dn, rfl, ⟨ps, hh4, tp.same (s5x.trans s20)⟩, by omega, SqL.of (s20 _ _ hd), by rw [dj.len]; omega, fun rd H17 s23 nrd hrd => ?_⟩
        rw [ready_nil full dj] at hrd
        refine ⟨szr, fun p np => ⟨1, true, deq_nil (SqL.of ((Same.new np) _ _ hrd)) (SqL.of upd_same), by decide, rfl, _, rfl, iteF ?_⟩⟩
        have s27 := (s20.trans s23).to (o := .lst []) np
        generalize upd H17 p (.lst []) = H18 at s27
        have s28 := s5x.trans s27
        have hp18 := s28 _ _ hp
        have cnp : 0 < cn := by omega
        refine ⟨_, rfl, szr, fun p np => ?_⟩
        have s29 := s28.to (o := .lst []) np
        rcases Nat.eq_zero_or_pos es.length with ez | ep
        · obtain rfl := List.eq_nil_of_length_eq_zero ez
          obtain rfl := List.eq_nil_of_length_eq_zero (psl.trans ez)
          refine ⟨1, true, deq_nil (SqL.of ((Same.new np) _ _ hp18)) (SqL.of upd_same), by decide, rfl, _, rfl, iteT ?_⟩
          refine ⟨_, rfl, _, rfl, _, _, rfl, rfl, _, rfl, _, _, rfl, rfl, szr, fun t nt => ⟨szr, fun l9 nl9 => ?_⟩⟩
          refine ⟨cn, l9, [((cn : Int) - 1, (cn : Int) - 1)], rfl, by omega, ⟨[t], upd_same, .cons ((Same.new nl9) _ _ upd_same) .nil⟩, by simp, fun x hx => ?_, ?_, fun H' _ => q H'⟩
          · rw [List.mem_singleton.mp hx]; exact ⟨by show (0 : Int) ≤ (cn : Int) - 1; omega, by show (cn : Int) - 1 < (cn : Int); omega⟩
          · exact Way.closed (es := []) (w := [(cn : Int) - 1]) (Way.one _) (fun x hx => by rw [List.mem_singleton.mp hx]; exact ⟨by omega, by omega⟩) rfl rfl
        · obtain ⟨p0, pr0, epp⟩ := List.exists_cons_of_ne_nil (show ps ≠ [] by intro z; rw [z] at psl; simp at psl; omega)
          refine ⟨1, false, deq_nil (xs := (p0 :: pr0).map V.ref) (by rw [← epp]; exact SqL.of ((Same.new np) _ _ hp18)) (SqL.of upd_same), by decide, rfl, _, rfl, iteF ?_⟩
          generalize upd H18 p (.lst []) = H19 at s29
          refine ⟨_, rfl, _, rfl, a, ns, 2, rfl, (s05.trans s29).seq hS, by omega, by decide, fun H20 s30 => ?_⟩
          have s31 := s29.trans s30
          refine ⟨l, es, _, rfl, ⟨ps, s31 _ _ hp, tp.same s31⟩, ep, by omega, fun wl w H21 s32 nwl hwl w9 wy rg2 => ?_⟩
          have s33 := s31.trans s32
          obtain ⟨w0, wr, ew⟩ := List.exists_cons_of_ne_nil wy.ne
          have hw0 : w[0]? = some w0 := by rw [ew]; rfl
          obtain ⟨b, hb⟩ := last_some wy.ne
          have wpos := List.length_pos_iff.mpr wy.ne
          have rgw : ∀ x ∈ w, 0 ≤ x ∧ x < (cn : Int) := fun x hx => by
            obtain ⟨e, me, z⟩ := rg2 x hx
            rcases z with rfl | rfl
            · exact (rg e me).1
            · exact (rg e me).2
          have hatb : atI (w.map V.int) ((w.length : Int) - 1) = some (.int b) := by
            rw [show (w.length : Int) - 1 = ((w.length - 1 : Nat) : Int) by omega]
            exact atI_nat (by rw [List.getElem?_map, hb]; rfl)
          have hat0 : atI (w.map V.int) 0 = some (.int w0) := by rw [ew]; exact atI_hd
          refine ⟨_, rfl, _, rfl, _, rfl, _, rfl, _, w.length, rfl, .inl ⟨_, SqL.of hwl, by rw [List.length_map]⟩, _, _, rfl, rfl, wl, _, _, _, rfl, rfl, SqL.of hwl, hatb, _, rfl, wl, _, _, _, rfl, rfl, SqL.of hwl, hat0, szr, fun t nt => ⟨szr, fun l8 nl8 => ?_⟩⟩
          have s34 := (Same.new (o := .tup [.int b, .int w0]) nt).to (o := .lst [.ref t]) nl8
          have ht8 := (Same.new (o := .lst [.ref t]) nl8) _ _ (upd_same (H := H21) (a := t) (o := .tup [.int b, .int w0]))
          have s35 := s33.trans s34
          refine ⟨l, l8, _, _, rfl, rfl, s35 _ _ hp, upd_same, szl (by rw [List.length_map]; simp; omega), fun l9 nl9 => ?_⟩
          have s36 := Same.new (o := .lst (ps.map V.ref ++ [.ref t])) nl9
          refine ⟨cn, l9, es ++ [(b, w0)], rfl, by omega, ⟨ps ++ [t], by rw [upd_same, List.map_append]; rfl, paired_snoc_len (tp.same (s35.trans s36)) (show PairT _ t (b, w0) from s36 _ _ ht8)⟩, by rw [List.length_append, List.length_singleton]; omega, fun x hx => ?_, wy.closed rgw hw0 hb, fun H' _ => q H'⟩
          rcases List.mem_append.mp hx with z | z
          · exact ok1 x z
          · rw [List.mem_singleton.mp z]; exact rgw b (List.mem_of_getElem? hb)
    · omega
end
theorem all_mk {l : PySem.W.OpenLaw} {w : World} {K : PySem.W.Frag} {h : Heap} {mg : Str → Option Value} {fa f_ring f_ring_among f_line f_lined f_ready f_free f_is_free f_ahead_of f_law_cell f_law_whole f_law_row f_law_order f_law_placed f_law_way f_law_refused f_law_closed f_law f_Ring f_DeskError : Addr} (X : K.In h) (G : h.Ns mainGlobals mg) (hfa : mg "law" = some (.ref fa))
    {od_ring an_ring : Option Addr} {sl_ring : Array (Option Value)} {oc_ring kV_ring dc_ring pm_ring cd_ring ct_ring : Value}
    {od_ring_among an_ring_among : Option Addr} {sl_ring_among : Array (Option Value)} {oc_ring_among kV_ring_among dc_ring_among pm_ring_among cd_ring_among ct_ring_among : Value}
    {od_line an_line : Option Addr} {sl_line : Array (Option Value)} {oc_line kV_line dc_line pm_line cd_line ct_line : Value}
    {od_lined an_lined : Option Addr} {sl_lined : Array (Option Value)} {oc_lined kV_lined dc_lined pm_lined cd_lined ct_lined : Value}
    {od_ready an_ready : Option Addr} {sl_ready : Array (Option Value)} {oc_ready kV_ready dc_ready pm_ready cd_ready ct_ready : Value}
    {od_free an_free : Option Addr} {sl_free : Array (Option Value)} {oc_free kV_free dc_free pm_free cd_free ct_free : Value}
    {od_is_free an_is_free : Option Addr} {sl_is_free : Array (Option Value)} {oc_is_free kV_is_free dc_is_free pm_is_free cd_is_free ct_is_free : Value}
    {od_ahead_of an_ahead_of : Option Addr} {sl_ahead_of : Array (Option Value)} {oc_ahead_of kV_ahead_of dc_ahead_of pm_ahead_of cd_ahead_of ct_ahead_of : Value}
    {od_law_cell an_law_cell : Option Addr} {sl_law_cell : Array (Option Value)} {oc_law_cell kV_law_cell dc_law_cell pm_law_cell cd_law_cell ct_law_cell : Value}
    {od_law_whole an_law_whole : Option Addr} {sl_law_whole : Array (Option Value)} {oc_law_whole kV_law_whole dc_law_whole pm_law_whole cd_law_whole ct_law_whole : Value}
    {od_law_row an_law_row : Option Addr} {sl_law_row : Array (Option Value)} {oc_law_row kV_law_row dc_law_row pm_law_row cd_law_row ct_law_row : Value}
    {od_law_order an_law_order : Option Addr} {sl_law_order : Array (Option Value)} {oc_law_order kV_law_order dc_law_order pm_law_order cd_law_order ct_law_order : Value}
    {od_law_placed an_law_placed : Option Addr} {sl_law_placed : Array (Option Value)} {oc_law_placed kV_law_placed dc_law_placed pm_law_placed cd_law_placed ct_law_placed : Value}
    {od_law_way an_law_way : Option Addr} {sl_law_way : Array (Option Value)} {oc_law_way kV_law_way dc_law_way pm_law_way cd_law_way ct_law_way : Value}
    {od_law_refused an_law_refused : Option Addr} {sl_law_refused : Array (Option Value)} {oc_law_refused kV_law_refused dc_law_refused pm_law_refused cd_law_refused ct_law_refused : Value}
    {od_law_closed an_law_closed : Option Addr} {sl_law_closed : Array (Option Value)} {oc_law_closed kV_law_closed dc_law_closed pm_law_closed cd_law_closed ct_law_closed : Value}
    {od_law an_law : Option Addr} {sl_law : Array (Option Value)} {oc_law kV_law dc_law pm_law cd_law ct_law : Value}
    (a_ring : PySem.W.nsIn K mainGlobals "ring" = some (some (.ref f_ring))) (l_ring : K.lookup f_ring = some ⟨oc_ring, od_ring, .func (PySem.W.fnOf "ring" "ring" (defArgs s_ring) (defBody s_ring) (defScope s_ring) .none kV_ring dc_ring pm_ring an_ring cd_ring ct_ring), sl_ring⟩) (c_ring : PySem.W.codeIn K cd_ring "ring" = true) (k_ring : PySem.W.keepIn K (.ref f_ring) = true)
    (a_ring_among : PySem.W.nsIn K mainGlobals "ring_among" = some (some (.ref f_ring_among))) (l_ring_among : K.lookup f_ring_among = some ⟨oc_ring_among, od_ring_among, .func (PySem.W.fnOf "ring_among" "ring_among" (defArgs s_ring_among) (defBody s_ring_among) (defScope s_ring_among) .none kV_ring_among dc_ring_among pm_ring_among an_ring_among cd_ring_among ct_ring_among), sl_ring_among⟩) (c_ring_among : PySem.W.codeIn K cd_ring_among "ring_among" = true) (k_ring_among : PySem.W.keepIn K (.ref f_ring_among) = true)
    (a_line : PySem.W.nsIn K mainGlobals "line" = some (some (.ref f_line))) (l_line : K.lookup f_line = some ⟨oc_line, od_line, .func (PySem.W.fnOf "line" "line" (defArgs s_line) (defBody s_line) (defScope s_line) .none kV_line dc_line pm_line an_line cd_line ct_line), sl_line⟩) (c_line : PySem.W.codeIn K cd_line "line" = true) (k_line : PySem.W.keepIn K (.ref f_line) = true)
    (a_lined : PySem.W.nsIn K mainGlobals "lined" = some (some (.ref f_lined))) (l_lined : K.lookup f_lined = some ⟨oc_lined, od_lined, .func (PySem.W.fnOf "lined" "lined" (defArgs s_lined) (defBody s_lined) (defScope s_lined) .none kV_lined dc_lined pm_lined an_lined cd_lined ct_lined), sl_lined⟩) (c_lined : PySem.W.codeIn K cd_lined "lined" = true) (k_lined : PySem.W.keepIn K (.ref f_lined) = true)
    (a_ready : PySem.W.nsIn K mainGlobals "ready" = some (some (.ref f_ready))) (l_ready : K.lookup f_ready = some ⟨oc_ready, od_ready, .func (PySem.W.fnOf "ready" "ready" (defArgs s_ready) (defBody s_ready) (defScope s_ready) .none kV_ready dc_ready pm_ready an_ready cd_ready ct_ready), sl_ready⟩) (c_ready : PySem.W.codeIn K cd_ready "ready" = true) (k_ready : PySem.W.keepIn K (.ref f_ready) = true)
    (a_free : PySem.W.nsIn K mainGlobals "free" = some (some (.ref f_free))) (l_free : K.lookup f_free = some ⟨oc_free, od_free, .func (PySem.W.fnOf "free" "free" (defArgs s_free) (defBody s_free) (defScope s_free) .none kV_free dc_free pm_free an_free cd_free ct_free), sl_free⟩) (c_free : PySem.W.codeIn K cd_free "free" = true) (k_free : PySem.W.keepIn K (.ref f_free) = true)
    (a_is_free : PySem.W.nsIn K mainGlobals "is_free" = some (some (.ref f_is_free))) (l_is_free : K.lookup f_is_free = some ⟨oc_is_free, od_is_free, .func (PySem.W.fnOf "is_free" "is_free" (defArgs s_is_free) (defBody s_is_free) (defScope s_is_free) .none kV_is_free dc_is_free pm_is_free an_is_free cd_is_free ct_is_free), sl_is_free⟩) (c_is_free : PySem.W.codeIn K cd_is_free "is_free" = true) (k_is_free : PySem.W.keepIn K (.ref f_is_free) = true)
    (a_ahead_of : PySem.W.nsIn K mainGlobals "ahead_of" = some (some (.ref f_ahead_of))) (l_ahead_of : K.lookup f_ahead_of = some ⟨oc_ahead_of, od_ahead_of, .func (PySem.W.fnOf "ahead_of" "ahead_of" (defArgs s_ahead_of) (defBody s_ahead_of) (defScope s_ahead_of) .none kV_ahead_of dc_ahead_of pm_ahead_of an_ahead_of cd_ahead_of ct_ahead_of), sl_ahead_of⟩) (c_ahead_of : PySem.W.codeIn K cd_ahead_of "ahead_of" = true) (k_ahead_of : PySem.W.keepIn K (.ref f_ahead_of) = true)
    (a_law_cell : PySem.W.nsIn K mainGlobals "_law_cell" = some (some (.ref f_law_cell))) (l_law_cell : K.lookup f_law_cell = some ⟨oc_law_cell, od_law_cell, .func (PySem.W.fnOf "_law_cell" "_law_cell" (defArgs s_law_cell) (defBody s_law_cell) (defScope s_law_cell) .none kV_law_cell dc_law_cell pm_law_cell an_law_cell cd_law_cell ct_law_cell), sl_law_cell⟩) (c_law_cell : PySem.W.codeIn K cd_law_cell "_law_cell" = true) (k_law_cell : PySem.W.keepIn K (.ref f_law_cell) = true)
    (a_law_whole : PySem.W.nsIn K mainGlobals "_law_whole" = some (some (.ref f_law_whole))) (l_law_whole : K.lookup f_law_whole = some ⟨oc_law_whole, od_law_whole, .func (PySem.W.fnOf "_law_whole" "_law_whole" (defArgs s_law_whole) (defBody s_law_whole) (defScope s_law_whole) .none kV_law_whole dc_law_whole pm_law_whole an_law_whole cd_law_whole ct_law_whole), sl_law_whole⟩) (c_law_whole : PySem.W.codeIn K cd_law_whole "_law_whole" = true) (k_law_whole : PySem.W.keepIn K (.ref f_law_whole) = true)
    (a_law_row : PySem.W.nsIn K mainGlobals "_law_row" = some (some (.ref f_law_row))) (l_law_row : K.lookup f_law_row = some ⟨oc_law_row, od_law_row, .func (PySem.W.fnOf "_law_row" "_law_row" (defArgs s_law_row) (defBody s_law_row) (defScope s_law_row) .none kV_law_row dc_law_row pm_law_row an_law_row cd_law_row ct_law_row), sl_law_row⟩) (c_law_row : PySem.W.codeIn K cd_law_row "_law_row" = true) (k_law_row : PySem.W.keepIn K (.ref f_law_row) = true)
    (a_law_order : PySem.W.nsIn K mainGlobals "_law_order" = some (some (.ref f_law_order))) (l_law_order : K.lookup f_law_order = some ⟨oc_law_order, od_law_order, .func (PySem.W.fnOf "_law_order" "_law_order" (defArgs s_law_order) (defBody s_law_order) (defScope s_law_order) .none kV_law_order dc_law_order pm_law_order an_law_order cd_law_order ct_law_order), sl_law_order⟩) (c_law_order : PySem.W.codeIn K cd_law_order "_law_order" = true) (k_law_order : PySem.W.keepIn K (.ref f_law_order) = true)
    (a_law_placed : PySem.W.nsIn K mainGlobals "_law_placed" = some (some (.ref f_law_placed))) (l_law_placed : K.lookup f_law_placed = some ⟨oc_law_placed, od_law_placed, .func (PySem.W.fnOf "_law_placed" "_law_placed" (defArgs s_law_placed) (defBody s_law_placed) (defScope s_law_placed) .none kV_law_placed dc_law_placed pm_law_placed an_law_placed cd_law_placed ct_law_placed), sl_law_placed⟩) (c_law_placed : PySem.W.codeIn K cd_law_placed "_law_placed" = true) (k_law_placed : PySem.W.keepIn K (.ref f_law_placed) = true)
    (a_law_way : PySem.W.nsIn K mainGlobals "_law_way" = some (some (.ref f_law_way))) (l_law_way : K.lookup f_law_way = some ⟨oc_law_way, od_law_way, .func (PySem.W.fnOf "_law_way" "_law_way" (defArgs s_law_way) (defBody s_law_way) (defScope s_law_way) .none kV_law_way dc_law_way pm_law_way an_law_way cd_law_way ct_law_way), sl_law_way⟩) (c_law_way : PySem.W.codeIn K cd_law_way "_law_way" = true) (k_law_way : PySem.W.keepIn K (.ref f_law_way) = true)
    (a_law_refused : PySem.W.nsIn K mainGlobals "_law_refused" = some (some (.ref f_law_refused))) (l_law_refused : K.lookup f_law_refused = some ⟨oc_law_refused, od_law_refused, .func (PySem.W.fnOf "_law_refused" "_law_refused" (defArgs s_law_refused) (defBody s_law_refused) (defScope s_law_refused) .none kV_law_refused dc_law_refused pm_law_refused an_law_refused cd_law_refused ct_law_refused), sl_law_refused⟩) (c_law_refused : PySem.W.codeIn K cd_law_refused "_law_refused" = true) (k_law_refused : PySem.W.keepIn K (.ref f_law_refused) = true)
    (a_law_closed : PySem.W.nsIn K mainGlobals "_law_closed" = some (some (.ref f_law_closed))) (l_law_closed : K.lookup f_law_closed = some ⟨oc_law_closed, od_law_closed, .func (PySem.W.fnOf "_law_closed" "_law_closed" (defArgs s_law_closed) (defBody s_law_closed) (defScope s_law_closed) .none kV_law_closed dc_law_closed pm_law_closed an_law_closed cd_law_closed ct_law_closed), sl_law_closed⟩) (c_law_closed : PySem.W.codeIn K cd_law_closed "_law_closed" = true) (k_law_closed : PySem.W.keepIn K (.ref f_law_closed) = true)
    (a_law : PySem.W.nsIn K mainGlobals "law" = some (some (.ref f_law))) (l_law : K.lookup f_law = some ⟨oc_law, od_law, .func (PySem.W.fnOf "law" "law" (defArgs s_law) (defBody s_law) (defScope s_law) .none kV_law dc_law pm_law an_law cd_law ct_law), sl_law⟩) (c_law : PySem.W.codeIn K cd_law "law" = true) (k_law : PySem.W.keepIn K (.ref f_law) = true)
    (z_all : PySem.W.nsIn K mainGlobals "all" = some none)
    (z_bool : PySem.W.nsIn K mainGlobals "bool" = some none)
    (z_int : PySem.W.nsIn K mainGlobals "int" = some none)
    (z_isinstance : PySem.W.nsIn K mainGlobals "isinstance" = some none)
    (z_len : PySem.W.nsIn K mainGlobals "len" = some none)
    (z_list : PySem.W.nsIn K mainGlobals "list" = some none)
    (z_max : PySem.W.nsIn K mainGlobals "max" = some none)
    (z_min : PySem.W.nsIn K mainGlobals "min" = some none)
    (z_range : PySem.W.nsIn K mainGlobals "range" = some none)
    (z_reversed : PySem.W.nsIn K mainGlobals "reversed" = some none)
    (z_sorted : PySem.W.nsIn K mainGlobals "sorted" = some none)
    (n_Ring : PySem.W.nsIn K mainGlobals "Ring" = some (some (.ref f_Ring)))
    (n_DeskError : PySem.W.nsIn K mainGlobals "DeskError" = some (some (.ref f_DeskError)))
    (e_Ring : PySem.W.excIn K f_Ring [.type "ValueError", .type "Exception", .type "BaseException", .type "object"] "ValueError.__new__" = true)
    (b_Ring : PySem.W.subIn K (.ref f_Ring) (.type "BaseException") = some true)
    (h_Ring : PySem.W.hasDictIn K f_Ring = true)
    (t_Ring : PySem.W.typeIn K (.ref f_Ring) = some (.type "type"))
    (s_Ring : PySem.W.subIn K (.ref f_Ring) (.ref f_Ring) = some true)
    : ∃ fd : FuncData, (∀ (s : Shared) (v : Value), BindsTo s fd ⟨[v], []⟩ [("script", v)]) ∧ ∀ base : Heap, K.In base → base.Ns mainGlobals mg → FnOk l.prog w K mg base CX0 8 fa fd ["script"] (sp_law K) := by
  have e := hfa.symm.trans (PySem.W.mg_of X G a_law)
  cases e
  have T : Txt mg := ⟨PySem.W.mg_none_of X G z_all, PySem.W.mg_none_of X G z_bool, PySem.W.mg_none_of X G z_int, PySem.W.mg_none_of X G z_isinstance, PySem.W.mg_none_of X G z_len, PySem.W.mg_none_of X G z_list, PySem.W.mg_none_of X G z_max, PySem.W.mg_none_of X G z_min, PySem.W.mg_none_of X G z_range, PySem.W.mg_none_of X G z_reversed, PySem.W.mg_none_of X G z_sorted⟩
  have F_ring := fun_mk (st := s_ring) l_ring c_ring k_ring
  have F_ring_among := fun_mk (st := s_ring_among) l_ring_among c_ring_among k_ring_among
  have F_line := fun_mk (st := s_line) l_line c_line k_line
  have F_lined := fun_mk (st := s_lined) l_lined c_lined k_lined
  have F_ready := fun_mk (st := s_ready) l_ready c_ready k_ready
  have F_free := fun_mk (st := s_free) l_free c_free k_free
  have F_is_free := fun_mk (st := s_is_free) l_is_free c_is_free k_is_free
  have F_ahead_of := fun_mk (st := s_ahead_of) l_ahead_of c_ahead_of k_ahead_of
  have F_law_cell := fun_mk (st := s_law_cell) l_law_cell c_law_cell k_law_cell
  have F_law_whole := fun_mk (st := s_law_whole) l_law_whole c_law_whole k_law_whole
  have F_law_row := fun_mk (st := s_law_row) l_law_row c_law_row k_law_row
  have F_law_order := fun_mk (st := s_law_order) l_law_order c_law_order k_law_order
  have F_law_placed := fun_mk (st := s_law_placed) l_law_placed c_law_placed k_law_placed
  have F_law_way := fun_mk (st := s_law_way) l_law_way c_law_way k_law_way
  have F_law_refused := fun_mk (st := s_law_refused) l_law_refused c_law_refused k_law_refused
  have F_law_closed := fun_mk (st := s_law_closed) l_law_closed c_law_closed k_law_closed
  have F_law := fun_mk (st := s_law) l_law c_law k_law
  have b_ring := F_ring.binds (ps := ["count", "order"]) fun _ _ _ _ _ _ us hl => by obtain ⟨_, _, rfl⟩ := ex2 hl; rfl
  have b_ring_among := F_ring_among.binds (ps := ["left", "order"]) fun _ _ _ _ _ _ us hl => by obtain ⟨_, _, rfl⟩ := ex2 hl; rfl
  have b_line := F_line.binds (ps := ["count", "order"]) fun _ _ _ _ _ _ us hl => by obtain ⟨_, _, rfl⟩ := ex2 hl; rfl
  have b_lined := F_lined.binds (ps := ["count", "order"]) fun _ _ _ _ _ _ us hl => by obtain ⟨_, _, rfl⟩ := ex2 hl; rfl
  have b_ready := F_ready.binds (ps := ["order", "done"]) fun _ _ _ _ _ _ us hl => by obtain ⟨_, _, rfl⟩ := ex2 hl; rfl
  have b_free := F_free.binds (ps := ["count", "order", "there"]) fun _ _ _ _ _ _ us hl => by obtain ⟨_, _, _, rfl⟩ := ex3 hl; rfl
  have b_is_free := F_is_free.binds (ps := ["step", "order", "there"]) fun _ _ _ _ _ _ us hl => by obtain ⟨_, _, _, rfl⟩ := ex3 hl; rfl
  have b_ahead_of := F_ahead_of.binds (ps := ["step", "order"]) fun _ _ _ _ _ _ us hl => by obtain ⟨_, _, rfl⟩ := ex2 hl; rfl
  have b_law_cell := F_law_cell.binds (ps := ["script", "k"]) fun _ _ _ _ _ _ us hl => by obtain ⟨_, _, rfl⟩ := ex2 hl; rfl
  have b_law_whole := F_law_whole.binds (ps := ["found"]) fun _ _ _ _ _ _ us hl => by obtain ⟨_, rfl⟩ := ex1 hl; rfl
  have b_law_row := F_law_row.binds (ps := ["count", "cell"]) fun _ _ _ _ _ _ us hl => by obtain ⟨_, _, rfl⟩ := ex2 hl; rfl
  have b_law_order := F_law_order.binds (ps := ["cells", "row"]) fun _ _ _ _ _ _ us hl => by obtain ⟨_, _, rfl⟩ := ex2 hl; rfl
  have b_law_placed := F_law_placed.binds (ps := ["found", "count", "order"]) fun _ _ _ _ _ _ us hl => by obtain ⟨_, _, _, rfl⟩ := ex3 hl; rfl
  have b_law_way := F_law_way.binds (ps := ["order", "cell"]) fun _ _ _ _ _ _ us hl => by obtain ⟨_, _, rfl⟩ := ex2 hl; rfl
  have b_law_refused := F_law_refused.binds (ps := ["count", "order"]) fun _ _ _ _ _ _ us hl => by obtain ⟨_, _, rfl⟩ := ex2 hl; rfl
  have b_law_closed := F_law_closed.binds (ps := ["count", "order"]) fun _ _ _ _ _ _ us hl => by obtain ⟨_, _, rfl⟩ := ex2 hl; rfl
  have b_law := F_law.binds (ps := ["script"]) fun _ _ _ _ _ _ us hl => by obtain ⟨_, rfl⟩ := ex1 hl; rfl
  exact ⟨PySem.W.fnOf "law" "law" (defArgs s_law) (defBody s_law) (defScope s_law) .none kV_law dc_law pm_law an_law cd_law ct_law, fun s v => .of_eq rfl, fun base _ _ => ok_law (aF := fun i => List.getD [f_ring, f_ring_among, f_line, f_lined, f_ready, f_free, f_is_free, f_ahead_of, f_law_cell, f_law_whole, f_law_row, f_law_order, f_law_placed, f_law_way, f_law_refused, f_law_closed, fa, f_Ring, f_DeskError] i fa) (dF := fun i => List.getD [PySem.W.fnOf "ring" "ring" (defArgs s_ring) (defBody s_ring) (defScope s_ring) .none kV_ring dc_ring pm_ring an_ring cd_ring ct_ring, PySem.W.fnOf "ring_among" "ring_among" (defArgs s_ring_among) (defBody s_ring_among) (defScope s_ring_among) .none kV_ring_among dc_ring_among pm_ring_among an_ring_among cd_ring_among ct_ring_among, PySem.W.fnOf "line" "line" (defArgs s_line) (defBody s_line) (defScope s_line) .none kV_line dc_line pm_line an_line cd_line ct_line, PySem.W.fnOf "lined" "lined" (defArgs s_lined) (defBody s_lined) (defScope s_lined) .none kV_lined dc_lined pm_lined an_lined cd_lined ct_lined, PySem.W.fnOf "ready" "ready" (defArgs s_ready) (defBody s_ready) (defScope s_ready) .none kV_ready dc_ready pm_ready an_ready cd_ready ct_ready, PySem.W.fnOf "free" "free" (defArgs s_free) (defBody s_free) (defScope s_free) .none kV_free dc_free pm_free an_free cd_free ct_free, PySem.W.fnOf "is_free" "is_free" (defArgs s_is_free) (defBody s_is_free) (defScope s_is_free) .none kV_is_free dc_is_free pm_is_free an_is_free cd_is_free ct_is_free, PySem.W.fnOf "ahead_of" "ahead_of" (defArgs s_ahead_of) (defBody s_ahead_of) (defScope s_ahead_of) .none kV_ahead_of dc_ahead_of pm_ahead_of an_ahead_of cd_ahead_of ct_ahead_of, PySem.W.fnOf "_law_cell" "_law_cell" (defArgs s_law_cell) (defBody s_law_cell) (defScope s_law_cell) .none kV_law_cell dc_law_cell pm_law_cell an_law_cell cd_law_cell ct_law_cell, PySem.W.fnOf "_law_whole" "_law_whole" (defArgs s_law_whole) (defBody s_law_whole) (defScope s_law_whole) .none kV_law_whole dc_law_whole pm_law_whole an_law_whole cd_law_whole ct_law_whole, PySem.W.fnOf "_law_row" "_law_row" (defArgs s_law_row) (defBody s_law_row) (defScope s_law_row) .none kV_law_row dc_law_row pm_law_row an_law_row cd_law_row ct_law_row, PySem.W.fnOf "_law_order" "_law_order" (defArgs s_law_order) (defBody s_law_order) (defScope s_law_order) .none kV_law_order dc_law_order pm_law_order an_law_order cd_law_order ct_law_order, PySem.W.fnOf "_law_placed" "_law_placed" (defArgs s_law_placed) (defBody s_law_placed) (defScope s_law_placed) .none kV_law_placed dc_law_placed pm_law_placed an_law_placed cd_law_placed ct_law_placed, PySem.W.fnOf "_law_way" "_law_way" (defArgs s_law_way) (defBody s_law_way) (defScope s_law_way) .none kV_law_way dc_law_way pm_law_way an_law_way cd_law_way ct_law_way, PySem.W.fnOf "_law_refused" "_law_refused" (defArgs s_law_refused) (defBody s_law_refused) (defScope s_law_refused) .none kV_law_refused dc_law_refused pm_law_refused an_law_refused cd_law_refused ct_law_refused, PySem.W.fnOf "_law_closed" "_law_closed" (defArgs s_law_closed) (defBody s_law_closed) (defScope s_law_closed) .none kV_law_closed dc_law_closed pm_law_closed an_law_closed cd_law_closed ct_law_closed, PySem.W.fnOf "law" "law" (defArgs s_law) (defBody s_law) (defScope s_law) .none kV_law dc_law pm_law an_law cd_law ct_law] i (PySem.W.fnOf "law" "law" (defArgs s_law) (defBody s_law) (defScope s_law) .none kV_law dc_law pm_law an_law cd_law ct_law)) (⟨⟨F_ring, b_ring, PySem.W.mg_of X G a_ring⟩, ⟨F_ring_among, b_ring_among, PySem.W.mg_of X G a_ring_among⟩, ⟨F_line, b_line, PySem.W.mg_of X G a_line⟩, ⟨F_lined, b_lined, PySem.W.mg_of X G a_lined⟩, ⟨F_ready, b_ready, PySem.W.mg_of X G a_ready⟩, ⟨F_free, b_free, PySem.W.mg_of X G a_free⟩, ⟨F_is_free, b_is_free, PySem.W.mg_of X G a_is_free⟩, ⟨F_ahead_of, b_ahead_of, PySem.W.mg_of X G a_ahead_of⟩, ⟨F_law_cell, b_law_cell, PySem.W.mg_of X G a_law_cell⟩, ⟨F_law_whole, b_law_whole, PySem.W.mg_of X G a_law_whole⟩, ⟨F_law_row, b_law_row, PySem.W.mg_of X G a_law_row⟩, ⟨F_law_order, b_law_order, PySem.W.mg_of X G a_law_order⟩, ⟨F_law_placed, b_law_placed, PySem.W.mg_of X G a_law_placed⟩, ⟨F_law_way, b_law_way, PySem.W.mg_of X G a_law_way⟩, ⟨F_law_refused, b_law_refused, PySem.W.mg_of X G a_law_refused⟩, ⟨F_law_closed, b_law_closed, PySem.W.mg_of X G a_law_closed⟩, ⟨F_law, b_law, PySem.W.mg_of X G a_law⟩, n_Ring, PySem.W.mg_of X G n_Ring, n_DeskError, PySem.W.mg_of X G n_DeskError, e_Ring, b_Ring, h_Ring, t_Ring, s_Ring⟩) T⟩
theorem walk {l : PySem.W.OpenLaw} {q : Program} {loose : List Str} {XP : (Str → Option Value) → Heap → Prop} {YP : World → Heap → Prop} {d : DefRec} {K : Params → PySem.W.Frag} (hn : l.most = some 63) (hdf : d.params.defaults = [])
    (hY : ∀ (w : World) (h : Heap), YP w h → (K w.params).In h)
    (F : ∀ (w : World) (mg : Str → Option Value) (fa : Addr) (h : Heap), (K w.params).In h → h.Ns mainGlobals mg → mg d.name = some (.ref fa) →
      ∃ fd : FuncData, (∀ (s : Shared) (u : Value), BindsTo s fd ⟨[u], []⟩ [("script", u)]) ∧ ∀ base : Heap, (K w.params).In base → base.Ns mainGlobals mg → FnOk l.prog w (K w.params) mg base CX0 8 fa fd ["script"] (sp_law (K w.params))) :
    PySem.W.WalkO q loose XP YP l.row.toRowW d [] (fun f vs => PySem.call f vs) :=
  L2.walk_of (n := 63) (k := 8) (x := "script") (CX := fun _ => CX0) (sp := fun w => sp_law (K w.params)) hn (by decide) hdf ⟨rfl, by decide, by decide⟩ hY F (fun _ _ a ns hl _ hS => ⟨a, ns, rfl, hS, hl, fun _ => rfl⟩) fun _ _ _ _ _ z => z
end My
open PySem PySem.W PyProof.Rows
set_option maxRecDepth 100000 in
set_option maxHeartbeats 0 in
theorem PySem.Challenge.cw_deskround_k47_whole_lines_holds : PySem.Challenge.rw_deskround_k47_whole_lines.Holds := by
  w_on; o_law; k_head; (case hw => w_witness2)
  k_fill
  refine My.walk (l := PySem.Challenge.rw_deskround_k47_whole_lines) rfl rfl (fun w h Y => PySem.W.kIn_of Y) ?F
  case F =>
    intro w mg fa h KX G hmg
    refine' My.all_mk KX G hmg ?a_ring ?l_ring ?c_ring ?k_ring ?a_ring_among ?l_ring_among ?c_ring_among ?k_ring_among ?a_line ?l_line ?c_line ?k_line ?a_lined ?l_lined ?c_lined ?k_lined ?a_ready ?l_ready ?c_ready ?k_ready ?a_free ?l_free ?c_free ?k_free ?a_is_free ?l_is_free ?c_is_free ?k_is_free ?a_ahead_of ?l_ahead_of ?c_ahead_of ?k_ahead_of ?a_law_cell ?l_law_cell ?c_law_cell ?k_law_cell ?a_law_whole ?l_law_whole ?c_law_whole ?k_law_whole ?a_law_row ?l_law_row ?c_law_row ?k_law_row ?a_law_order ?l_law_order ?c_law_order ?k_law_order ?a_law_placed ?l_law_placed ?c_law_placed ?k_law_placed ?a_law_way ?l_law_way ?c_law_way ?k_law_way ?a_law_refused ?l_law_refused ?c_law_refused ?k_law_refused ?a_law_closed ?l_law_closed ?c_law_closed ?k_law_closed ?a_law ?l_law ?c_law ?k_law ?z_all ?z_bool ?z_int ?z_isinstance ?z_len ?z_list ?z_max ?z_min ?z_range ?z_reversed ?z_sorted ?n_Ring ?n_DeskError ?e_Ring ?b_Ring ?h_Ring ?t_Ring ?s_Ring
    (case a_ring => k_is); (case l_ring => k_is); (case c_ring => k_is); (case k_ring => k_is)
    (case a_ring_among => k_is); (case l_ring_among => k_is); (case c_ring_among => k_is); (case k_ring_among => k_is)
    (case a_line => k_is); (case l_line => k_is); (case c_line => k_is); (case k_line => k_is)
    (case a_lined => k_is); (case l_lined => k_is); (case c_lined => k_is); (case k_lined => k_is)
    (case a_ready => k_is); (case l_ready => k_is); (case c_ready => k_is); (case k_ready => k_is)
    (case a_free => k_is); (case l_free => k_is); (case c_free => k_is); (case k_free => k_is)
    (case a_is_free => k_is); (case l_is_free => k_is); (case c_is_free => k_is); (case k_is_free => k_is)
    (case a_ahead_of => k_is); (case l_ahead_of => k_is); (case c_ahead_of => k_is); (case k_ahead_of => k_is)
    (case a_law_cell => k_is); (case l_law_cell => k_is); (case c_law_cell => k_is); (case k_law_cell => k_is)
    (case a_law_whole => k_is); (case l_law_whole => k_is); (case c_law_whole => k_is); (case k_law_whole => k_is)
    (case a_law_row => k_is); (case l_law_row => k_is); (case c_law_row => k_is); (case k_law_row => k_is)
    (case a_law_order => k_is); (case l_law_order => k_is); (case c_law_order => k_is); (case k_law_order => k_is)
    (case a_law_placed => k_is); (case l_law_placed => k_is); (case c_law_placed => k_is); (case k_law_placed => k_is)
    (case a_law_way => k_is); (case l_law_way => k_is); (case c_law_way => k_is); (case k_law_way => k_is)
    (case a_law_refused => k_is); (case l_law_refused => k_is); (case c_law_refused => k_is); (case k_law_refused => k_is)
    (case a_law_closed => k_is); (case l_law_closed => k_is); (case c_law_closed => k_is); (case k_law_closed => k_is)
    (case a_law => k_is); (case l_law => k_is); (case c_law => k_is); (case k_law => k_is)
    (case z_all => k_is)
    (case z_bool => k_is)
    (case z_int => k_is)
    (case z_isinstance => k_is)
    (case z_len => k_is)
    (case z_list => k_is)
    (case z_max => k_is)
    (case z_min => k_is)
    (case z_range => k_is)
    (case z_reversed => k_is)
    (case z_sorted => k_is)
    (case n_Ring => k_is)
    (case n_DeskError => k_is)
    (case e_Ring => k_exc)
    (case b_Ring => k_is)
    (case h_Ring => k_is)
    (case t_Ring => k_is)
    (case s_Ring => k_is)
