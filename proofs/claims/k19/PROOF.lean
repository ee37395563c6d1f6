import PyProof.Rows.All
import Wide.All
import OpenK.AllK
import Wide.FinOn
import Lean
import PyProof.EqAt
import PyProof.EqKinds
import PyProof.TupleCall
import PyProof.NeKinds
import PyProof.DictWalks
import PyProof.DictItems
import PyProof.CollectWalk
import KE.KDictList
import PyProof.AutoSeq1
import PyProof.Rows.Range3
import KE.KUnpack
import PyProof.MeetsSeq2
import PyProof.ZipIter
import KE.KRevSl
import PyProof.MeetsSeq
import PyProof.EnumMake
import PyProof.EnumFor
import PyProof.EnumStmt
import PyProof.MinMaxWalk
import PyProof.WalkInts
import PySem.Challenge.RW_deskround_k19_whole_down_the_tree
set_option Elab.async false
set_option linter.all false
set_option maxRecDepth 100000
/-! THE HAND LAYER, for ints, bools, texts, own classes, LISTS and tuples (index, slices, in, append, pop ..), calls, loops. Paste it whole ahead of your own text; what your proof does not reach may be deleted. -/
namespace L2
open PySem PySem.Spec PyProof.Rows

/-- a key: an int or a str -/
abbrev Key := Sum Int Str
def keyIs : Key → Value → Bool
  | .inl k, v => Value.isInt k v
  | .inr x, v => Value.isStrOf x v
def keyH (w : World) : Key → Int
  | .inl k => hashInt k
  | .inr x => hashStr w x
theorem keyIs_shape : ∀ {k : Key} {v : Value}, keyIs k v = true → (∃ i t, k = Sum.inl i ∧ v = Value.int i t) ∨ (∃ x t, k = Sum.inr x ∧ v = Value.str x t)
  | .inl i, v, h => by
    obtain ⟨t, e⟩ := Value.isInt_shape (k := i) (v := v) h
    exact .inl ⟨i, t, rfl, e⟩
  | .inr x, v, h => by
    obtain ⟨t, e⟩ := Value.isStrOf_shape (x := x) (v := v) h
    exact .inr ⟨x, t, rfl, e⟩
theorem keyIs_int (i : Int) (t : Tok) : keyIs (.inl i) (.int i t) = true := by simp [keyIs, Value.isInt]
theorem keyIs_str (x : Str) (t : Tok) : keyIs (.inr x) (.str x t) = true := by simp [keyIs, Value.isStrOf]
theorem key_ll (a b : Int) : decide ((Sum.inl a : Key) = Sum.inl b) = (a == b) := by
  by_cases e : a = b
  · subst e; simp
  · have h : ¬ (Sum.inl a : Key) = Sum.inl b := fun q => e (Sum.inl.inj q)
    rw [decide_eq_false h]
    exact (beq_eq_false_iff_ne.mpr e).symm
theorem key_rr (a b : Str) : decide ((Sum.inr a : Key) = Sum.inr b) = decide (a = b) := by
  by_cases e : a = b
  · subst e; simp
  · have h : ¬ (Sum.inr a : Key) = Sum.inr b := fun q => e (Sum.inr.inj q)
    rw [decide_eq_false h, decide_eq_false e]
theorem key_lr (a : Int) (b : Str) : decide ((Sum.inl a : Key) = Sum.inr b) = false := decide_eq_false (fun q => nomatch q)
theorem key_rl (a : Str) (b : Int) : decide ((Sum.inr a : Key) = Sum.inl b) = false := decide_eq_false (fun q => nomatch q)

def mixKind (prog : Program) (w : World) : PySem.KeyKind prog w Key where
  is := keyIs
  hash := keyH w
  inj := fun v a b ha hb => by
    rcases keyIs_shape ha with ⟨i, t, rfl, rfl⟩ | ⟨x, t, rfl, rfl⟩
    · rcases keyIs_shape hb with ⟨j, u, rfl, e⟩ | ⟨y, u, rfl, e⟩
      · injection e with e1 _; rw [e1]
      · exact nomatch e
    · rcases keyIs_shape hb with ⟨j, u, rfl, e⟩ | ⟨y, u, rfl, e⟩
      · exact nomatch e
      · injection e with e1 _; rw [e1]
  byValue := fun k v h => by
    rcases keyIs_shape h with ⟨i, t, rfl, rfl⟩ | ⟨x, t, rfl, rfl⟩ <;> rfl
  pyHash := fun hv h => by
    rcases keyIs_shape hv with ⟨i, t, rfl, rfl⟩ | ⟨x, t, rfl, rfl⟩
    · exact wpAny_pyHash_int h
    · exact wpAny_pyHash_str h
  eqBool := fun hu hv h => by
    rcases keyIs_shape hu with ⟨i, t, rfl, rfl⟩ | ⟨x, t, rfl, rfl⟩
    · rcases keyIs_shape hv with ⟨j, u, rfl, rfl⟩ | ⟨y, u, rfl, rfl⟩
      · rw [key_ll] at h; exact wpAny_eqBool_int h
      · rw [key_lr] at h; exact SeqAt.EqAt.int_str i t y u _ _ _ _ h
    · rcases keyIs_shape hv with ⟨j, u, rfl, rfl⟩ | ⟨y, u, rfl, rfl⟩
      · rw [key_rl] at h; exact SeqAt.EqAt.str_int x t j u _ _ _ _ h
      · rw [key_rr] at h; exact wpAny_eqBool_str h
  «strs» := fun k x t v h => by
    rcases keyIs_shape h with ⟨i, u, rfl, e⟩ | ⟨y, u, rfl, e⟩
    · exact nomatch e
    · injection e with e1 _
      subst e1
      cases v <;> rfl

theorem mixKind_int (prog : Program) (w : World) (i : Int) (t : Tok) : (mixKind prog w).is (.inl i) (.int i t) = true := keyIs_int i t
theorem mixKind_str (prog : Program) (w : World) (x : Str) (t : Tok) : (mixKind prog w).is (.inr x) (.str x t) = true := keyIs_str x t
end L2

namespace L2
open PySem PySem.Spec PyProof.Rows

/-- a value, without the heap -/
inductive V where
  | non | bl (b : Bool) | int (i : Int) | str (x : Str) | byt (b : Array UInt8) | flt (b : UInt64) | ref (a : Addr) | ty (n : String)
  deriving DecidableEq

def RelV : V → Value → Prop
  | .non, u => u = Value.none
  | .bl b, u => u = Value.bool b
  | .int i, u => ∃ t, u = Value.int i t
  | .str x, u => ∃ t, u = Value.str x t
  | .byt b, u => ∃ t, u = Value.bytes b t
  | .flt b, u => ∃ t, u = Value.float b t
  | .ref a, u => u = Value.ref a
  | .ty n, u => u = Value.type n

abbrev Vals : List V → List Value → Prop := Paired RelV
theorem Vals.length {xs : List V} {us : List Value} (r : Vals xs us) : xs.length = us.length := Paired.length r
theorem Vals.get : ∀ {xs : List V} {us : List Value} {i : Nat} {x : V}, Vals xs us → xs[i]? = some x → ∃ u, us[i]? = some u ∧ RelV x u
  | _, _, _, _, .nil, e => by simp at e
  | _, _, 0, _, .cons r _, e => by simp at e; subst e; exact ⟨_, rfl, r⟩
  | _, _, i + 1, x, .cons _ t, e => by
    obtain ⟨u, h1, h2⟩ := Vals.get (i := i) (x := x) t (by simpa using e)
    exact ⟨u, by simpa using h1, h2⟩
theorem Vals.append : ∀ {xs ys : List V} {us ws : List Value}, Vals xs us → Vals ys ws → Vals (xs ++ ys) (us ++ ws)
  | _, _, _, _, .nil, s => s
  | _, _, _, _, .cons r t, s => .cons r (Vals.append t s)
theorem Vals.take : ∀ {xs : List V} {us : List Value} (n : Nat), Vals xs us → Vals (xs.take n) (us.take n)
  | _, _, 0, _ => .nil
  | _, _, _ + 1, .nil => .nil
  | _, _, n + 1, .cons r t => .cons r (Vals.take n t)
theorem Vals.drop : ∀ {xs : List V} {us : List Value} (n : Nat), Vals xs us → Vals (xs.drop n) (us.drop n)
  | _, _, 0, r => r
  | _, _, _ + 1, .nil => .nil
  | _, _, n + 1, .cons _ t => Vals.drop n t
def RelO : Option V → Option Value → Prop
  | some v, some u => RelV v u
  | none, none => True
  | _, _ => False
def KV {κ : Type} : List (κ × V) → List (κ × Value) → Prop := Paired fun (p : κ × V) (q : κ × Value) => p.1 = q.1 ∧ RelV p.2 q.2

/-- a key of a dict (00_mix): an int or a text -/
def kV : Key → V
  | .inl i => .int i
  | .inr x => .str x

/-- what stands at a tracked address -/
inductive HO where
  /-- a list -/
  | lst (xs : List V)
  /-- a tuple (never changes) -/
  | tup (xs : List V)
  /-- a dict whose keys are ints and texts; one whose keys are tuples of ints and texts (the empty one is both) -/
  | dK (kvs : List (Key × V)) | dT (kvs : List (List Key × V))
  /-- a set of ints: its members, its size -/
  | set (S : Int → Bool) (n : Nat)
  /-- an instance of the class at C, its dict at dx, its attributes -/
  | ins (C dx : Addr) (fs : List (Str × V))
  /-- the dict of the instance at x -/
  | own (x : Addr)
  /-- the dict of an exception -/
  | xd (fs : List (Str × V))
  /-- a bound method, f of x -/
  | met (f x : Addr)
  /-- a range object lo, lo + 1, .. below hi -/
  | rng (lo hi : Int)
  /-- a thing that is known to the object (the script; a dict while a loop walks it): read, never written while it is so -/
  | frz (o : Obj) (u : HO)
  /-- a code object's table -/
  | tbl (ps : Array Value)
  /-- any other thing, by what is true of its one object (a def of one's own: SetO a S n := HO.ext fun h => ..) -/
  | ext (φ : Heap → Prop)

abbrev Hp := Addr → Option HO
def upd (H : Hp) (a : Addr) (o : HO) : Hp := fun b => if b = a then some o else H b
theorem upd_same {H : Hp} {a : Addr} {o : HO} : upd H a o a = some o := by unfold upd; rw [if_pos rfl]
theorem upd_ne {H : Hp} {a b : Addr} {o : HO} (h : b ≠ a) : upd H a o b = H b := by unfold upd; rw [if_neg h]
/-- two objects of different content stand apart -/
theorem ne_of {H : Hp} {a b : Addr} {o u : HO} (h : H a = some o) (h' : H b = some u) (d : o ≠ u) : a ≠ b := by
  intro e; subst e; rw [h] at h'; exact d (Option.some.inj h')
theorem ne_of_none {H : Hp} {a b : Addr} {o : HO} (h : H a = some o) (h' : H b = none) : a ≠ b := by
  intro e; subst e; rw [h] at h'; cases h'

section
variable (P : Program) (w : World)
def ObjOk (H : Hp) (h : Heap) (a : Addr) : HO → Prop
  | .lst xs => xs.length ≤ sizeLine ∧ ∃ (its : List Value) (n : Nat), Vals xs its ∧ h.get? a = some { cls := .type "list", data := .seq its.toArray n }
  | .tup xs => xs.length ≤ sizeLine ∧ ∃ its : List Value, Vals xs its ∧ IsTup h a its.toArray
  | .dK kvs => kvs.length ≤ sizeLine ∧ (a == sysModules) = false ∧ ∃ vs, KV kvs vs ∧ h.DictOf (mixKind P w) a vs
  | .dT kvs => kvs.length ≤ sizeLine ∧ (a == sysModules) = false ∧ ∃ xs : List (List Key × Addr × Value),
      Paired (fun (p : List Key × V) (q : List Key × Addr × Value) => p.1 = q.1 ∧ H q.2.1 = some (.tup (p.1.map kV)) ∧ RelV p.2 q.2.2) kvs xs ∧
      ∃ o es ep, h.get? a = some o ∧ o.ExactDict ∧ o.data = .dict es ep ∧ es.toList = xs.map (entryOfKey (tupleKind (mixKind P w))) ∧ (xs.map (·.1)).Nodup
  | .set S n => h.SetOf (intKind P w) a S n
  | .ins C dx fs => H dx = some (.own a) ∧ fs.length ≤ 1000 ∧ dx ≠ a ∧ h.get? a = some (PySem.W.instObj C dx) ∧
      ∃ mA, h.Ns1 dx mA ∧ (∀ f, RelO (fs.lookup f) (mA f)) ∧ PySem.Within mA (fs.map (·.1))
  | .own _ => ∃ o, h.get? a = some o
  | .xd fs => ∃ mA, h.Ns1 a mA ∧ ∀ f, RelO (fs.lookup f) (mA f)
  | .rng lo hi => ∃ t u v, h.get? a = some { cls := .type "range", data := .fields #[.int lo t, .int hi u, .int 1 v] }
  | .frz o u => h.get? a = some o ∧ ObjOk H h a u
  | .tbl ps => h.get? a = some { cls := .none, data := .fields ps }
  | .met f x => h.get? a = some (PySem.W.methodObj (.ref f) (.ref x))
  | .ext φ => φ h ∧ (∃ o, h.get? a = some o) ∧ ∀ h1 h2 : Heap, φ h1 → (∀ o, h1.get? a = some o → h2.get? a = some o) → φ h2
/-- the abstract heap is held -/
def HOk (H : Hp) (h : Heap) : Prop := ∀ a o, H a = some o → ObjOk P w H h a o
end

section
variable {P : Program} {w : World} {H H' : Hp} {h h' : Heap} {a : Addr} {o : HO}
theorem ObjOk.lt (x : ObjOk P w H h a o) : a < h.objs.size := by
  cases o with
  | lst xs => obtain ⟨_, _, _, _, e⟩ := x; exact Heap.lt_size e
  | tup xs => obtain ⟨_, _, _, p⟩ := x; exact p.lt
  | dK kvs => obtain ⟨_, _, _, _, o, _, _, e, _⟩ := x; exact Heap.lt_size e
  | dT kvs => obtain ⟨_, _, _, _, o, _, _, e, _⟩ := x; exact Heap.lt_size e
  | set S n => obtain ⟨o, _, _, _, e, _⟩ := x; exact Heap.lt_size e
  | ins C dx fs => obtain ⟨_, _, _, e, _⟩ := x; exact Heap.lt_size e
  | own y => obtain ⟨_, e⟩ := x; exact Heap.lt_size e
  | xd fs => obtain ⟨_, ⟨_, _, _, e, _⟩, _⟩ := x; exact Heap.lt_size e
  | rng lo hi => obtain ⟨_, _, _, e⟩ := x; exact Heap.lt_size e
  | frz ob u => obtain ⟨e, _⟩ := x; exact Heap.lt_size e
  | tbl ps => exact Heap.lt_size (show h.get? a = some _ from x)
  | met f y => exact Heap.lt_size (show h.get? a = some _ from x)
  | ext φ => obtain ⟨_, ⟨_, e⟩, _⟩ := x; exact Heap.lt_size e
theorem Paired.mapP {α β : Type} {F G : α → β → Prop} : ∀ {l₁ : List α} {l₂ : List β}, Paired F l₁ l₂ → (∀ a b, F a b → G a b) → Paired G l₁ l₂
  | _, _, .nil, _ => .nil
  | _, _, .cons r t, f => .cons (f _ _ r) (Paired.mapP t f)
/-- what an object's description leans on: its own object, its own dict, the tuples -/
theorem ObjOk.stay (x : ObjOk P w H h a o) (k : ∀ b u, (b = a ∨ H b = some (.own a)) → h.get? b = some u → h'.get? b = some u)
    (ho : ∀ b, H b = some (.own a) → H' b = some (.own a)) (ht : ∀ b xs, H b = some (.tup xs) → H' b = some (.tup xs)) : ObjOk P w H' h' a o := by
  induction o with
  | lst xs => obtain ⟨z, its, n, r, e⟩ := x; exact ⟨z, its, n, r, k _ _ (.inl rfl) e⟩
  | tup xs => obtain ⟨z, its, r, ob, e, c⟩ := x; exact ⟨z, its, r, ob, k _ _ (.inl rfl) e, c⟩
  | dK kvs => obtain ⟨z, y, vs, r, ob, es, ep, e, c⟩ := x; exact ⟨z, y, vs, r, ob, es, ep, k _ _ (.inl rfl) e, c⟩
  | dT kvs =>
    obtain ⟨z, y, xs, r, ob, es, ep, e, c⟩ := x
    exact ⟨z, y, xs, Paired.mapP r fun p q z => ⟨z.1, ht _ _ z.2.1, z.2.2⟩, ob, es, ep, k _ _ (.inl rfl) e, c⟩
  | set S n => obtain ⟨ob, es, ep, t, e, c⟩ := x; exact ⟨ob, es, ep, t, k _ _ (.inl rfl) e, c⟩
  | ins C dx fs =>
    obtain ⟨d, z, ne, e, mA, ⟨od, es, ep, e2, c⟩, r⟩ := x
    exact ⟨ho _ d, z, ne, k _ _ (.inl rfl) e, mA, ⟨od, es, ep, k _ _ (.inr d) e2, c⟩, r⟩
  | own y => obtain ⟨ob, e⟩ := x; exact ⟨ob, k _ _ (.inl rfl) e⟩
  | xd fs => obtain ⟨mA, ⟨od, es, ep, e, c⟩, r⟩ := x; exact ⟨mA, ⟨od, es, ep, k _ _ (.inl rfl) e, c⟩, r⟩
  | rng lo hi => obtain ⟨t, u, v, e⟩ := x; exact ⟨t, u, v, k _ _ (.inl rfl) e⟩
  | frz ob u ih => obtain ⟨e, q⟩ := x; exact ⟨k _ _ (.inl rfl) e, ih q⟩
  | tbl ps =>
    have e : h.get? a = some { cls := .none, data := .fields ps } := x
    show h'.get? a = some { cls := .none, data := .fields ps }
    exact k a _ (.inl rfl) e
  | met f y =>
    have e : h.get? a = some (PySem.W.methodObj (.ref f) (.ref y)) := x
    show h'.get? a = some (PySem.W.methodObj (.ref f) (.ref y))
    exact k a _ (.inl rfl) e
  | ext φ => obtain ⟨p, ⟨o, e⟩, st⟩ := x; exact ⟨st _ _ p fun o q => k _ _ (.inl rfl) q, ⟨o, k _ _ (.inl rfl) e⟩, st⟩
theorem HOk.lt (x : HOk P w H h) (e : H a = some o) : a < h.objs.size := (x a o e).lt
theorem HOk.fresh (x : HOk P w H h) (e : h.objs.size ≤ a) : H a = none := by
  cases q : H a with
  | none => rfl
  | some u => exact absurd (Nat.lt_of_lt_of_le (x.lt q) e) (Nat.lt_irrefl _)
/-- every object of the heap is kept -/
theorem HOk.kept (x : HOk P w H h) (k : ∀ b u, h.get? b = some u → h'.get? b = some u) : HOk P w H h' := fun a o e =>
  (x a o e).stay (fun b u _ q => k b u q) (fun _ q => q) fun _ _ q => q
/-- a new object is laid and tracked -/
theorem HOk.laid (x : HOk P w H h) (k : ∀ b u, h.get? b = some u → h'.get? b = some u) (hp : h.objs.size ≤ a) (new : ObjOk P w (upd H a o) h' a o) : HOk P w (upd H a o) h' := fun b u e => by
  have hn := x.fresh hp
  by_cases hb : b = a
  · subst hb; rw [upd_same] at e; cases e; exact new
  · rw [upd_ne hb] at e
    exact (x b u e).stay (fun c v _ q => k c v q) (fun c q => by rw [upd_ne (ne_of_none q hn)]; exact q) fun c xs q => by rw [upd_ne (ne_of_none q hn)]; exact q
end

/-- what may be read as u: it is u, or a known u -/
def Rd (H : Hp) (a : Addr) (u : HO) : Prop := H a = some u ∨ ∃ o, H a = some (.frz o u)
theorem Rd.of {H : Hp} {a : Addr} {u : HO} (h : H a = some u) : Rd H a u := .inl h
theorem Rd.ok {P : Program} {w : World} {H : Hp} {h : Heap} {a : Addr} {u : HO} (r : Rd H a u) (x : HOk P w H h) : ObjOk P w H h a u := by
  rcases r with r | ⟨o, r⟩
  · exact x a u r
  · obtain ⟨_, q⟩ := x a _ r
    exact q
/-- what may be written -/
def Mut : Option HO → Prop
  | some (.lst _) => True
  | some (.dK _) => True
  | some (.dT _) => True
  | some (.set _ _) => True
  | some (.ins _ _ _) => True
  | some (.ext _) => True
  | _ => False
section
variable {P : Program} {w : World} {H : Hp} {h h' : Heap} {x e : Addr} {o' : HO}
/-- the object at e is changed: x itself, or the dict of the instance x -/
theorem HOk.write (ok : HOk P w H h) (mu : Mut (H x)) (he : e = x ∨ H e = some (.own x)) (k : ∀ b u, b ≠ e → h.get? b = some u → h'.get? b = some u) (heo : ∃ u, h'.get? e = some u)
    (new : ObjOk P w (upd H x o') h' x o') : HOk P w (upd H x o') h' := fun b u q => by
  have nown : ∀ c y, H c = some (.own y) → c ≠ x := fun c y r z => by subst z; rw [r] at mu; exact mu
  have ntup : ∀ c xs, H c = some (.tup xs) → c ≠ x := fun c xs r z => by subst z; rw [r] at mu; exact mu
  by_cases hb : b = x
  · subst hb; rw [upd_same] at q; cases q; exact new
  · rw [upd_ne hb] at q
    by_cases hbe : b = e
    · have q' : H b = some (.own x) := by
        rcases he with z | z
        · exact absurd (hbe.trans z) hb
        · rw [hbe]; exact z
      rw [q] at q'; cases q'
      obtain ⟨v, hv⟩ := heo
      exact ⟨v, by rw [hbe]; exact hv⟩
    · refine (ok b u q).stay (fun c v hc r => k c v ?_ r) (fun c r => by rw [upd_ne (nown c b r)]; exact r) fun c xs r => by rw [upd_ne (ntup c xs r)]; exact r
      rcases hc with rfl | hc
      · exact hbe
      · rintro rfl
        rcases he with z | z
        · exact nown c b hc z
        · rw [hc] at z; cases z; exact hb rfl
end

/-! ### kept unless tracked; of the frames at fs (the callers') the slots may change (an exception that passes writes there); of the records at ex (iterators) nothing is said -/
structure Un (fs ex : List Addr) (H H' : Hp) (h h' : Heap) : Prop where
  keep : ∀ b o, h.get? b = some o → H b = none → b ∉ fs → b ∉ ex → h'.get? b = some o
  slot : ∀ b o, h.get? b = some o → H b = none → b ∈ fs → b ∉ ex → ∃ sl, h'.get? b = some { o with slots := sl }
  free : ∀ b o, h.get? b = some o → H b = none → b ∉ ex → H' b = none
  there : ∀ b o, h.get? b = some o → b ∉ ex → ∃ o', h'.get? b = some o'
  tups : ∀ b xs, H b = some (.tup xs) → H' b = some (.tup xs)
  frzs : ∀ b o u, H b = some (.frz o u) → H' b = some (.frz o u)
  tbls : ∀ b ps, H b = some (.tbl ps) → ∃ more, H' b = some (.tbl (ps ++ more))
section
variable {fs fs' ex ex' : List Addr} {H H1 H2 : Hp} {h h1 h2 h' : Heap} {a x e : Addr} {o : HO}
theorem Un.any (u : Un fs ex H H1 h h1) {b : Addr} {ob : Obj} (q : h.get? b = some ob) (n : H b = none) (hx : b ∉ ex) : ∃ sl, h1.get? b = some { ob with slots := sl } := by
  by_cases hb : b ∈ fs
  · exact u.slot b ob q n hb hx
  · exact ⟨ob.slots, u.keep b ob q n hb hx⟩
theorem Un.trans (a : Un fs ex H H1 h h1) (b : Un fs ex H1 H2 h1 h2) : Un fs ex H H2 h h2 where
  keep := fun c ob q n hc hx => b.keep c ob (a.keep c ob q n hc hx) (a.free c ob q n hx) hc hx
  slot := fun c ob q n hc hx => by
    obtain ⟨sl, e1⟩ := a.slot c ob q n hc hx
    obtain ⟨sl', e2⟩ := b.slot c _ e1 (a.free c ob q n hx) hc hx
    exact ⟨sl', e2⟩
  free := fun c ob q n hx => by
    obtain ⟨o', e1⟩ := a.there c ob q hx
    exact b.free c o' e1 (a.free c ob q n hx) hx
  there := fun c ob q hx => by
    obtain ⟨o', e1⟩ := a.there c ob q hx
    exact b.there c o' e1 hx
  tups := fun c xs q => b.tups c xs (a.tups c xs q)
  frzs := fun c ob xs q => b.frzs c ob xs (a.frzs c ob xs q)
  tbls := fun c ps q => by
    obtain ⟨m1, e1⟩ := a.tbls c ps q
    obtain ⟨m2, e2⟩ := b.tbls c _ e1
    exact ⟨m1 ++ m2, by rw [e2, Array.append_assoc]⟩
theorem Un.kept (k : ∀ b u, h.get? b = some u → h'.get? b = some u) : Un fs ex H H h h' :=
  ⟨fun b ob q _ _ _ => k b ob q, fun b ob q _ _ _ => ⟨ob.slots, k b ob q⟩, fun _ _ _ n _ => n, fun b ob q _ => ⟨ob, k b ob q⟩, fun _ _ q => q, fun _ _ _ q => q, fun _ ps q => ⟨#[], by rw [q]; simp⟩⟩
theorem Un.refl : Un fs ex H H h h := Un.kept fun _ _ q => q
theorem Un.laid (k : ∀ b u, h.get? b = some u → h'.get? b = some u) (hp : h.objs.size ≤ a) (hn : H a = none) : Un fs ex H (upd H a o) h h' where
  keep := fun b u q _ _ _ => k b u q
  slot := fun b u q _ _ _ => ⟨u.slots, k b u q⟩
  free := fun b u q n _ => by rw [upd_ne (Nat.ne_of_lt (Nat.lt_of_lt_of_le (Heap.lt_size q) hp))]; exact n
  there := fun b u q _ => ⟨u, k b u q⟩
  tups := fun b xs q => by rw [upd_ne (ne_of_none q hn)]; exact q
  frzs := fun b u xs q => by rw [upd_ne (ne_of_none q hn)]; exact q
  tbls := fun b ps q => ⟨#[], by rw [upd_ne (ne_of_none q hn), q]; simp⟩
theorem Un.write (mu : Mut (H x)) (he : e = x ∨ H e = some (.own x)) (k : ∀ b u, b ≠ e → h.get? b = some u → h'.get? b = some u) (heo : ∃ u, h'.get? e = some u) : Un fs ex H (upd H x o) h h' := by
  have hx : ∀ b, H b = none → b ≠ x := fun b n z => by subst z; rw [n] at mu; exact mu
  have hb : ∀ b, H b = none → b ≠ e := fun b n z => by
    subst z
    rcases he with r | r
    · exact hx b n r
    · rw [n] at r; cases r
  have hm : ∀ b u, H b = some u → ¬ Mut (some u) → b ≠ x := fun b u q nm z => by subst z; rw [q] at mu; exact nm mu
  refine ⟨fun b u q n _ _ => k b u (hb b n) q, fun b u q n _ _ => ⟨u.slots, k b u (hb b n) q⟩, fun b u q n _ => by rw [upd_ne (hx b n)]; exact n, fun b u q _ => ?_,
    fun b xs q => by rw [upd_ne (hm b _ q fun z => z)]; exact q, fun b u xs q => by rw [upd_ne (hm b _ q fun z => z)]; exact q, fun b ps q => ⟨#[], by rw [upd_ne (hm b _ q fun z => z), q]; simp⟩⟩
  by_cases hbe : b = e
  · subst hbe; exact heo
  · exact ⟨u, k b u hbe q⟩
end

/-! ### the heap without what is tracked -/
def trk (h : Heap) (H : Hp) : List Addr := (List.range h.objs.size).filter fun a => (H a).isSome
def hidT (h : Heap) (H : Hp) : Heap := PySem.W.hideAll h (trk h H)
theorem hidT_size (h : Heap) (H : Hp) : (hidT h H).objs.size = h.objs.size := PySem.W.hideAll_size _ _
theorem hidT_get {h : Heap} {H : Hp} {b : Addr} {o : Obj} (e : h.get? b = some o) (n : H b = none) : (hidT h H).get? b = some o :=
  PySem.W.hideAll_get _ e fun hm => by
    have q : (H b).isSome = true := (List.mem_filter.mp hm).2
    rw [n] at q; simp at q
theorem of_hidT {h : Heap} {H : Hp} {b : Addr} {o : Obj} (e : (hidT h H).get? b = some o) : h.get? b = some o ∧ H b = none := by
  have e' : h.get? b = some o := PySem.W.of_hideAll (trk h H) e
  refine ⟨e', ?_⟩
  cases q : H b with
  | none => rfl
  | some x =>
    have hm : b ∈ trk h H := List.mem_filter.mpr ⟨List.mem_range.mpr (Heap.lt_size e'), by simp [q]⟩
    have z : (hidT h H).get? b = none := PySem.W.hideAll_none (trk h H) hm
    rw [z] at e; cases e

/-! ### OpenK's ledger, filled with every new object but one -/
def allNews (g h : Heap) (L : Addr) : List (Addr × Obj) := (List.range h.objs.size).filterMap fun a => if a = L ∨ (g.get? a).isSome = true then none else (h.get? a).map fun o => (a, o)
def rest (g h : Heap) (L d : Addr) : List (Addr × Obj) := (allNews g h L).filter fun p => decide (p.1 ≠ d)
end L2

namespace L2
open PySem PySem.Spec PyProof.Rows

/-- the module's facts, over the base: the heap at the law's entry without what is tracked there -/
structure Mod (K : PySem.W.Frag) (mg : Str → Option Value) (base : Heap) : Prop where
  kin : K.In base
  glob : base.Ns mainGlobals mg
  blt : ∃ mb, base.Ns builtinsNs mb ∧ ∀ x : Str, x ≠ "__name__" → mb x = bootBuiltins x
  nolimit : base.NoLimit

/-- the context: a def's body (or a comprehension's block) running. base: fixed through the whole law; s₀, H₀: the entry; outer: the frames whose slots others may change (a def's callers); stack: all frames that run;
   ex: iterators that were made ahead of the entry and are walked here (a comprehension's); fn: the names whose cells were made at the entry (a def: all; a comprehension's block: its own); calm: not within an except suite; pn: pins that every state bears; xe: what is wanted of an exception that leaves the code -/
structure Cx where
  prog : Program
  w : World
  K : PySem.W.Frag
  mg : Str → Option Value
  base : Heap
  A : Around
  N : List Str
  s₀ : Shared
  H₀ : Hp
  env : Env
  outer : List Env
  stack : List Env
  ex : List Addr
  fn : Str → Bool
  calm : Bool
  pn : List (Addr × Obj)
  xe : Value → Shared → Prop
/-- the callers' frames -/
def frs (l : List Env) : List Addr := l.filterMap (·.frame)
abbrev Cx.fs (X : Cx) : List Addr := frs X.outer

def Vis (sc : Scope) (x : Str) : Prop := sc.names.lookup x = some .local ∨ sc.names.lookup x = some .cell ∨ sc.names.lookup x = some .free
def Loc (sc : Scope) (x : Str) : Prop := sc.names.lookup x = some .local ∨ sc.names.lookup x = some .cell
def Look (env : Env) (h : Heap) (m : Str → Option Value) (x : Str) (u : Value) : Prop :=
  (env.kindOf x = some .local ∧ m x = some u) ∨ ((env.kindOf x = some .cell ∨ env.kindOf x = some .free) ∧ ∃ c, env.cells.lookup x = some c ∧ h.IsCell c (some u))

structure Cx.Ok (X : Cx) : Prop where
  mod : Mod X.K X.mg X.base
  kind : X.env.scope.kind = .function
  glob : X.env.globals = mainGlobals
  blt : X.env.builtins = builtinsNs
  above : X.s₀.heap.objs.size ≤ X.env.locals
  inj : ∀ x y c, X.env.cells.lookup x = some c → X.env.cells.lookup y = some c → x = y
  has : ∀ x, (X.env.kindOf x = some .cell ∨ X.env.kindOf x = some .free) → ∃ c, X.env.cells.lookup x = some c
  cab : ∀ x c, X.fn x = true → X.env.cells.lookup x = some c → X.s₀.heap.objs.size ≤ c
  hd : X.calm = true → X.A.handled = none
  frames : X.A.frames = some X.stack
  stk : X.stack = X.outer ∨ (X.stack = X.env :: X.outer ∧ X.env.frame = some X.env.locals)
  exf : ∀ b ∈ X.ex, b ≠ X.env.locals ∧ ∀ x c, X.env.cells.lookup x = some c → c ≠ b
  bs : ∀ b o, X.base.get? b = some o → X.s₀.heap.get? b = some o ∧ X.H₀ b = none
  bsz : X.base.objs.size ≤ X.s₀.heap.objs.size
  noex : ∀ b o, X.base.get? b = some o → b ∉ X.ex
  exfs : ∀ b ∈ X.ex, b ∉ X.fs
  funs : X.s₀.heap.FunFrames X.base X.outer
  frf : ∀ b ∈ X.fs, X.H₀ b = none

structure Inv (X : Cx) (pins : List (Addr × Obj)) (σ : List (Option V)) (H : Hp) (s : Shared) : Prop where
  ok : X.Ok
  os : s.os = X.s₀.os
  bare : AllBare s.gens
  base : Un X.fs X.ex X.H₀ H X.s₀.heap s.heap
  loc : ∃ m, s.heap.Ns X.env.locals m ∧ ∀ (i : Nat) (x : Str) (v : V), X.N[i]? = some x → σ[i]? = some (some v) → Vis X.env.scope x → ∃ u, RelV v u ∧ Look X.env s.heap m x u
  cell : ∀ x c, X.env.cells.lookup x = some c → ∃ v, s.heap.IsCell c v
  free : H X.env.locals = none
  freeC : ∀ x c, X.env.cells.lookup x = some c → H c = none
  pin : ∀ p ∈ X.pn ++ pins, s.heap.get? p.1 = some p.2 ∧ H p.1 = none ∧ p.1 ≠ X.env.locals ∧ p.1 ∉ X.fs ∧ ∀ v, p.2.data ≠ .cell v
  hok : HOk X.prog X.w H s.heap
  len : σ.length = X.N.length

section
variable {X : Cx} {pins : List (Addr × Obj)} {σ : List (Option V)} {H H' : Hp} {s : Shared} {h' : Heap}

theorem Cx.Ok.nofr (ok : X.Ok) {b : Addr} {o : Obj} (e : X.base.get? b = some o) : b ∉ X.fs := fun hb => by
  have := (ok.funs.mem hb).1
  rw [e] at this; cases this
theorem Inv.bs (I : Inv X pins σ H s) : ∀ b o, X.base.get? b = some o → s.heap.get? b = some o ∧ H b = none := fun b o e =>
  ⟨I.base.keep b o (I.ok.bs b o e).1 (I.ok.bs b o e).2 (I.ok.nofr e) (I.ok.noex b o e), I.base.free b o (I.ok.bs b o e).1 (I.ok.bs b o e).2 (I.ok.noex b o e)⟩
theorem Inv.bk (I : Inv X pins σ H s) : ∀ b o, X.base.get? b = some o → s.heap.get? b = some o := fun b o e => (I.bs b o e).1
theorem Inv.mod (I : Inv X pins σ H s) : Mod X.K X.mg X.base := I.ok.mod
theorem Inv.kIn (I : Inv X pins σ H s) : X.K.In s.heap := I.ok.mod.kin.keeps I.bk
/-- the frame over the base: for OpenK's rules (K.In X.base is I.mod.kin) -/
theorem Inv.fr (I : Inv X pins σ H s) : ∃ m, Fr X.base X.env.locals s.heap m :=
  let ⟨m, hn, _⟩ := I.loc
  ⟨m, hn, I.bk, Nat.le_trans I.ok.bsz I.ok.above⟩
theorem Inv.lt (I : Inv X pins σ H s) : X.env.locals < s.heap.objs.size := let ⟨_, hn, _⟩ := I.loc; hn.lt
theorem Inv.sz (I : Inv X pins σ H s) : X.s₀.heap.objs.size ≤ s.heap.objs.size := Nat.le_trans I.ok.above (Nat.le_of_lt I.lt)
theorem Inv.nofs (I : Inv X pins σ H s) {a : Addr} (h : s.heap.objs.size ≤ a) : a ∉ X.fs := fun hb => by
  obtain ⟨_, o, ho, _⟩ := I.ok.funs.mem hb
  exact absurd (Nat.lt_of_lt_of_le (Heap.lt_size ho) (Nat.le_trans I.sz h)) (Nat.lt_irrefl _)
theorem Inv.cne (I : Inv X pins σ H s) : ∀ x c, X.env.cells.lookup x = some c → c ≠ X.env.locals := fun x c e z => by
  obtain ⟨v, o, ho, hd⟩ := I.cell x c e
  obtain ⟨m, ⟨o', es, ep, ho', hd', _⟩, _⟩ := I.loc
  rw [z, ho'] at ho; cases ho; rw [hd'] at hd; cases hd
theorem Inv.funs (I : Inv X pins σ H s) : s.heap.FunFrames X.base X.outer := by
  have all : ∀ (l : List Env), (∀ b ∈ frs l, b ∈ X.fs) → X.s₀.heap.FunFrames X.base l → s.heap.FunFrames X.base l := by
    intro l
    induction l with
    | nil => intro _ _; trivial
    | cons env r ih =>
      intro hs hl
      obtain ⟨hk, ⟨L, o, hf, hn, ho, hd⟩, hr⟩ := hl
      have hL : L ∈ X.fs := hs L (by unfold frs; rw [List.filterMap_cons, hf]; exact List.mem_cons_self)
      obtain ⟨sl, e⟩ := I.base.slot L o ho (I.ok.frf L hL) hL fun z => I.ok.exfs L z hL
      exact ⟨hk, ⟨L, _, hf, hn, e, hd⟩, ih (fun b hb => hs b (by unfold frs; rw [List.filterMap_cons, hf]; exact List.mem_cons_of_mem _ hb)) hr⟩
  exact all X.outer (fun _ hb => hb) I.ok.funs

/-- the frames that run, for a call -/
theorem Inv.stack (I : Inv X pins σ H s) : s.heap.FunFrames X.base X.stack := by
  rcases I.ok.stk with e | ⟨e, hf⟩
  · rw [e]; exact I.funs
  · rw [e]
    obtain ⟨m, hn, _⟩ := I.loc
    refine .cons (by rw [I.ok.kind]; decide) hf hn ?_ I.funs
    exact Heap.get?_none_of_le (Nat.le_trans I.ok.bsz I.ok.above)
theorem Inv.stkSub (I : Inv X pins σ H s) : ∀ b ∈ frs X.stack, b ∈ X.env.locals :: X.fs := fun b hb => by
  rcases I.ok.stk with e | ⟨e, hf⟩
  · rw [e] at hb; exact List.mem_cons_of_mem _ hb
  · rw [e] at hb
    unfold frs at hb
    rw [List.filterMap_cons, hf] at hb
    exact hb
theorem Inv.stkFree (I : Inv X pins σ H s) : ∀ b ∈ frs X.stack, H b = none := fun b hb => by
  rcases List.mem_cons.mp (I.stkSub b hb) with e | hb
  · rw [e]; exact I.free
  · obtain ⟨_, o, ho, _⟩ := I.ok.funs.mem hb
    exact I.base.free b o ho (I.ok.frf b hb) fun z => I.ok.exfs b z hb

/-- THE STEP: the untracked objects but the frame and the records at ch are kept (the callers' frames up to slots), the frame's map is kept, the new abstract heap is held -/
theorem Inv.step {g' : Array GenState} {t' : Nat} {d' : Drawn} {ch : List Addr} (I : Inv X pins σ H s)
    (hch : ∀ b ∈ ch, (b ∈ X.ex ∨ X.s₀.heap.objs.size ≤ b) ∧ b ≠ X.env.locals ∧ (∀ x c, X.env.cells.lookup x = some c → c ≠ b) ∧ ∀ p ∈ X.pn ++ pins, p.1 ≠ b)
    (keep : ∀ b o, b ≠ X.env.locals → b ∉ X.fs → b ∉ ch → s.heap.get? b = some o → H b = none → h'.get? b = some o)
    (slot : ∀ b o, b ≠ X.env.locals → b ∈ X.fs → b ∉ ch → s.heap.get? b = some o → H b = none → ∃ sl, h'.get? b = some { o with slots := sl }) (free : ∀ b o, b ∉ ch → s.heap.get? b = some o → H b = none → H' b = none)
    (there : ∀ b o, b ∉ ch → s.heap.get? b = some o → ∃ o', h'.get? b = some o')
    (tups : ∀ b xs, H b = some (.tup xs) → H' b = some (.tup xs)) (frzs : ∀ b o u, H b = some (.frz o u) → H' b = some (.frz o u)) (tbls : ∀ b ps, H b = some (.tbl ps) → ∃ more, H' b = some (.tbl (ps ++ more)))
    (ns : ∀ m, s.heap.Ns X.env.locals m → h'.Ns X.env.locals m) (hok : HOk X.prog X.w H' h') (hg : AllBare g') :
    Inv X pins σ H' { s with heap := h', gens := g', drawn := d', toks := t' } := by
  have neL : ∀ b o, X.s₀.heap.get? b = some o → b ≠ X.env.locals := fun b o e => Nat.ne_of_lt (Nat.lt_of_lt_of_le (Heap.lt_size e) I.ok.above)
  have neC : ∀ b o, X.s₀.heap.get? b = some o → b ∉ X.ex → b ∉ ch := fun b o e hx hb => by
    rcases (hch b hb).1 with z | z
    · exact hx z
    · exact absurd (Nat.lt_of_lt_of_le (Heap.lt_size e) z) (Nat.lt_irrefl _)
  have cellK : ∀ x c, X.env.cells.lookup x = some c → ∀ v, s.heap.IsCell c v → h'.IsCell c v := fun x c e v ⟨o, ho, hd⟩ => by
    have nch : c ∉ ch := fun z => (hch c z).2.2.1 x c e rfl
    by_cases hc : c ∈ X.fs
    · obtain ⟨sl, q⟩ := slot c o (I.cne x c e) hc nch ho (I.freeC x c e)
      exact ⟨_, q, hd⟩
    · exact ⟨o, keep c o (I.cne x c e) hc nch ho (I.freeC x c e), hd⟩
  refine ⟨I.ok, I.os, hg, ⟨fun b o e n hb hx => ?_, fun b o e n hb hx => ?_, fun b o e n hx => ?_, fun b o e hx => ?_, fun b xs e => tups b xs (I.base.tups b xs e), fun b o xs e => frzs b o xs (I.base.frzs b o xs e), fun b ps e => ?_⟩, ?_, fun x c e => ?_, ?_, fun x c e => ?_, fun p hp => ?_, hok, I.len⟩
  · exact keep b o (neL b o e) hb (neC b o e hx) (I.base.keep b o e n hb hx) (I.base.free b o e n hx)
  · obtain ⟨sl, e1⟩ := I.base.slot b o e n hb hx
    obtain ⟨sl', e2⟩ := slot b _ (neL b o e) hb (neC b o e hx) e1 (I.base.free b o e n hx)
    exact ⟨sl', e2⟩
  · obtain ⟨o', e1⟩ := I.base.there b o e hx
    exact free b o' (neC b o e hx) e1 (I.base.free b o e n hx)
  · obtain ⟨o', e1⟩ := I.base.there b o e hx
    exact there b o' (neC b o e hx) e1
  · obtain ⟨m1, e1⟩ := I.base.tbls b ps e
    obtain ⟨m2, e2⟩ := tbls b _ e1
    exact ⟨m1 ++ m2, by rw [e2, Array.append_assoc]⟩
  · obtain ⟨m, hn, hl⟩ := I.loc
    refine ⟨m, ns m hn, fun i x v e1 e2 e3 => ?_⟩
    obtain ⟨u, r, l⟩ := hl i x v e1 e2 e3
    refine ⟨u, r, ?_⟩
    rcases l with l | ⟨k, c, e, z⟩
    · exact .inl l
    · exact .inr ⟨k, c, e, cellK x c e _ z⟩
  · obtain ⟨v, z⟩ := I.cell x c e
    exact ⟨v, cellK x c e v z⟩
  · obtain ⟨m, ⟨o, _, _, ho, _⟩, _⟩ := I.loc
    exact free _ o (fun z => (hch _ z).2.1 rfl) ho I.free
  · obtain ⟨v, o, ho, hd⟩ := I.cell x c e
    exact free c o (fun z => (hch c z).2.2.1 x c e rfl) ho (I.freeC x c e)
  · obtain ⟨e, n, ne, nf, d⟩ := I.pin p hp
    have nch : p.1 ∉ ch := fun z => (hch p.1 z).2.2.2 p hp rfl
    exact ⟨keep p.1 p.2 ne nf nch e n, free p.1 p.2 nch e n, ne, nf, d⟩
/-- .. where the frame's own object is kept too -/
theorem Inv.un {t' : Nat} (I : Inv X pins σ H s) (u : Un X.fs [] H H' s.heap h') (hok : HOk X.prog X.w H' h') : Inv X pins σ H' { s with heap := h', toks := t' } := by
  obtain ⟨m, ⟨o, es, ep, ho, r⟩, _⟩ := id I.loc
  obtain ⟨sl, hL⟩ := u.any ho I.free (by simp)
  exact I.step (g' := s.gens) (d' := s.drawn) (ch := []) (fun _ z => nomatch z) (fun b o _ hb _ e n => u.keep b o e n hb (by simp)) (fun b o _ hb _ e n => u.slot b o e n hb (by simp)) (fun b o _ e n => u.free b o e n (by simp)) (fun b o _ e => u.there b o e (by simp)) u.tups u.frzs u.tbls (fun m' hm => by
    obtain ⟨o', es', ep', ho', r'⟩ := hm
    rw [ho] at ho'; cases ho'
    exact ⟨_, es', ep', hL, r'⟩) hok I.bare
/-- behind a call (or a comprehension's block): the slots of this frame may have changed too, the records at ch may have turned -/
theorem Inv.call {g' : Array GenState} {t' : Nat} {d' : Drawn} {ch : List Addr} (I : Inv X pins σ H s) (u : Un (frs X.stack) ch H H' s.heap h') (hok : HOk X.prog X.w H' h') (hg : AllBare g')
    (hch : ∀ b ∈ ch, (b ∈ X.ex ∨ X.s₀.heap.objs.size ≤ b) ∧ b ≠ X.env.locals ∧ (∀ x c, X.env.cells.lookup x = some c → c ≠ b) ∧ ∀ p ∈ X.pn ++ pins, p.1 ≠ b) :
    Inv X pins σ H' { s with heap := h', gens := g', drawn := d', toks := t' } := by
  obtain ⟨m, ⟨o, es, ep, ho, r⟩, _⟩ := id I.loc
  obtain ⟨sl, hL⟩ := u.any ho I.free fun z => (hch _ z).2.1 rfl
  exact I.step (ch := ch) hch (fun b o hL hb hc e n => u.keep b o e n (fun z => (List.mem_cons.mp (I.stkSub b z)).elim hL hb) hc) (fun b o _ _ hc e n => u.any e n hc) (fun b o hc e n => u.free b o e n hc) (fun b o hc e => u.there b o e hc) u.tups u.frzs u.tbls (fun m' hm => by
    obtain ⟨o', es', ep', ho', r'⟩ := hm
    rw [ho] at ho'; cases ho'
    exact ⟨_, es', ep', hL, r'⟩) hok hg
/-- an untracked record of ours (an iterator) has turned -/
theorem Inv.turned {t' : Nat} {it : Addr} (I : Inv X pins σ H s) (k : ∀ b o, b ≠ it → s.heap.get? b = some o → h'.get? b = some o) (hn : H it = none) (hL : it ≠ X.env.locals)
    (h1 : it ∈ X.ex ∨ X.s₀.heap.objs.size ≤ it) (h2 : ∀ x c, X.env.cells.lookup x = some c → c ≠ it) (h3 : ∀ p ∈ X.pn ++ pins, p.1 ≠ it) : Inv X pins σ H { s with heap := h', toks := t' } := by
  have nit : ∀ b u, H b = some u → b ≠ it := fun b u e z => by rw [z, hn] at e; cases e
  refine I.step (g' := s.gens) (d' := s.drawn) (ch := [it]) (fun b hb => ?_) (fun b o _ _ hc e _ => k b o (fun z => hc (by simp [z])) e) (fun b o _ _ hc e _ => ⟨o.slots, k b o (fun z => hc (by simp [z])) e⟩) (fun _ _ _ _ n => n)
    (fun b o hc e => ⟨o, k b o (fun z => hc (by simp [z])) e⟩) (fun _ _ e => e) (fun _ _ _ e => e) (fun b ps e => ⟨#[], by rw [e]; simp⟩) (fun m hm => ?_) (fun b u e => ?_) I.bare
  · have e : b = it := by simpa using hb
    subst e
    exact ⟨h1, hL, h2, h3⟩
  · obtain ⟨o, es, ep, ho, r⟩ := hm
    exact ⟨o, es, ep, k _ o (Ne.symm hL) ho, r⟩
  · refine (I.hok b u e).stay (fun c v hc q => k c v ?_ q) (fun _ q => q) fun _ _ q => q
    rcases hc with z | z
    · rw [z]; exact nit b u e
    · exact nit c _ z
theorem Inv.tok (I : Inv X pins σ H s) (t : Nat) : Inv X pins σ H { s with toks := t } := I.un (h' := s.heap) (t' := t) Un.refl I.hok
/-- all objects kept -/
theorem Inv.kept {t' : Nat} (I : Inv X pins σ H s) (k : ∀ b u, s.heap.get? b = some u → h'.get? b = some u) : Inv X pins σ H { s with heap := h', toks := t' } := I.un (Un.kept k) (I.hok.kept k)
/-- a new object laid and tracked -/
theorem Inv.laid {a : Addr} {o : HO} {t' : Nat} (I : Inv X pins σ H s) (k : ∀ b u, s.heap.get? b = some u → h'.get? b = some u) (hp : s.heap.objs.size ≤ a) (new : ObjOk X.prog X.w (upd H a o) h' a o) :
    Inv X pins σ (upd H a o) { s with heap := h', toks := t' } := I.un (Un.laid k hp (I.hok.fresh hp)) (I.hok.laid k hp new)
/-- an object written -/
theorem Inv.write {x e : Addr} {o : HO} {t' : Nat} (I : Inv X pins σ H s) (mu : Mut (H x)) (he : e = x ∨ H e = some (.own x)) (k : ∀ b u, b ≠ e → s.heap.get? b = some u → h'.get? b = some u) (heo : ∃ u, h'.get? e = some u)
    (new : ObjOk X.prog X.w (upd H x o) h' x o) : Inv X pins σ (upd H x o) { s with heap := h', toks := t' } := I.un (Un.write mu he k heo) (I.hok.write mu he k heo new)
/-- forgetting slots, pins -/
theorem Inv.weak {σ' : List (Option V)} (I : Inv X pins σ H s) (hl : σ'.length = σ.length) (w : ∀ (i : Nat) v, σ'[i]? = some (some v) → σ[i]? = some (some v)) : Inv X pins σ' H s :=
  ⟨I.ok, I.os, I.bare, I.base, let ⟨m, hn, hl'⟩ := I.loc; ⟨m, hn, fun i x v e1 e2 e3 => hl' i x v e1 (w i v e2) e3⟩, I.cell, I.free, I.freeC, I.pin, I.hok, hl.trans I.len⟩
theorem Inv.pins_of {pins' : List (Addr × Obj)} (I : Inv X pins σ H s) (h : ∀ p ∈ pins', s.heap.get? p.1 = some p.2 ∧ H p.1 = none ∧ p.1 ≠ X.env.locals ∧ p.1 ∉ X.fs ∧ ∀ v, p.2.data ≠ .cell v) : Inv X pins' σ H s :=
  ⟨I.ok, I.os, I.bare, I.base, I.loc, I.cell, I.free, I.freeC, fun p hp => (List.mem_append.mp hp).elim (fun z => I.pin p (List.mem_append_left _ z)) (h p), I.hok, I.len⟩

theorem nodup_ix {N : List Str} (hN : N.Nodup) {i j : Nat} {x : Str} (a : N[i]? = some x) (b : N[j]? = some x) : i = j := by
  obtain ⟨h1, e1⟩ := List.getElem?_eq_some_iff.mp a
  obtain ⟨h2, e2⟩ := List.getElem?_eq_some_iff.mp b
  exact (List.getElem_inj hN).mp (e1.trans e2.symm)

/-- a name is stored; what changed -/
theorem store_ok2 {M : Model} {A : Around} {E : Value → Shared → Prop} {i : Nat} {x : Str} {v : V} {u : Value} {Q : Unit → Shared → Prop} (I : Inv X pins σ H s) (hN : X.N.Nodup) (hi : X.N[i]? = some x) (hx : Loc X.env.scope x) (r : RelV v u)
    (h : ∀ s', Inv X pins (σ.set i (some v)) H s' → (∃ a, Heap.SameBut a s.heap s'.heap ∧ (a = X.env.locals ∨ X.env.cells.lookup x = some a)) → Q () s') (hf : X.fn x = true ∨ X.env.scope.names.lookup x = some .local := by first | exact .inl rfl | exact .inr rfl | assumption) : wpAny M A (storeName X.env x u) Q E s := by
  obtain ⟨m, hn, hl⟩ := id I.loc
  have hcls : (X.env.scope.kind == .class || (X.env.scope.kind == .module && X.env.locals != X.env.globals)) = false := by rw [I.ok.kind]; rfl
  have hiσ : i < σ.length := by rw [I.len]; exact (List.getElem?_eq_some_iff.mp hi).1
  have cne := I.cne
  have tracked : ∀ {a : Addr} {h' : Heap}, (∃ o, s.heap.get? a = some o ∧ H a = none) → Heap.SameBut a s.heap h' → HOk X.prog X.w H h' := fun {a h'} ha hs b ob e => by
    obtain ⟨_, _, hfree⟩ := ha
    refine (I.hok b ob e).stay (fun c w' hc q => (hs.2 c ?_).trans q) (fun _ q => q) fun _ _ q => q
    rintro rfl
    rcases hc with rfl | hc
    · rw [hfree] at e; cases e
    · rw [hfree] at hc; cases hc
  rcases hx with hk | hk
  · refine wpAny_storeName_local hk hn (fun h' hn' hs => ?_) hcls
    obtain ⟨oL, _, _, hoL, _⟩ := id hn
    refine h _ ⟨I.ok, I.os, I.bare, ⟨fun b o e n hb hx => ?_, fun b o e n hb hx => ?_, I.base.free, fun b o e hx => ?_, I.base.tups, I.base.frzs, I.base.tbls⟩, ⟨_, hn', fun j y v' e1 e2 e3 => ?_⟩, fun y c e => ?_, I.free, I.freeC, fun p hp => ?_, tracked ⟨oL, hoL, I.free⟩ hs, by simpa using I.len⟩ ⟨_, hs, .inl rfl⟩
    · exact (hs.2 b (Nat.ne_of_lt (Nat.lt_of_lt_of_le (Heap.lt_size e) I.ok.above))).trans (I.base.keep b o e n hb hx)
    · obtain ⟨sl, e1⟩ := I.base.slot b o e n hb hx
      exact ⟨sl, (hs.2 b (Nat.ne_of_lt (Nat.lt_of_lt_of_le (Heap.lt_size e) I.ok.above))).trans e1⟩
    · obtain ⟨o', e1⟩ := I.base.there b o e hx
      exact ⟨o', (hs.2 b (Nat.ne_of_lt (Nat.lt_of_lt_of_le (Heap.lt_size e) I.ok.above))).trans e1⟩
    · by_cases hj : j = i
      · subst hj
        rw [hi] at e1; cases e1
        rw [List.getElem?_set_self hiσ] at e2
        cases e2
        exact ⟨u, r, .inl ⟨hk, by simp⟩⟩
      · rw [List.getElem?_set_ne (Ne.symm hj)] at e2
        obtain ⟨u', r', q⟩ := hl j y v' e1 e2 e3
        refine ⟨u', r', ?_⟩
        rcases q with ⟨k, e⟩ | ⟨k, c, e, z⟩
        · refine .inl ⟨k, ?_⟩
          have : y ≠ x := fun e => hj (nodup_ix hN e1 (e ▸ hi))
          simp [this, e]
        · exact .inr ⟨k, c, e, z.sameBut hs (cne y c e)⟩
    · obtain ⟨w', z⟩ := I.cell y c e
      exact ⟨w', z.sameBut hs (cne y c e)⟩
    · obtain ⟨e, n, ne, nf, d⟩ := I.pin p hp
      exact ⟨(hs.2 p.1 ne).trans e, n, ne, nf, d⟩
  · have hfn : X.fn x = true := by
      rcases hf with z | z
      · exact z
      · rw [z] at hk; cases hk
    obtain ⟨c, hc⟩ := I.ok.has x (.inl hk)
    obtain ⟨w', z⟩ := I.cell x c hc
    refine wpAny_storeName_cell I.ok.kind hk hc z (fun h' hc' hs => ?_)
    obtain ⟨oc, hoc, hocd⟩ := id z
    refine h { s with heap := h' } ⟨I.ok, I.os, I.bare, ⟨fun b o e n hb hx => ?_, fun b o e n hb hx => ?_, I.base.free, fun b o e hx => ?_, I.base.tups, I.base.frzs, I.base.tbls⟩, ⟨m, hn.sameBut hs (Ne.symm (cne x c hc)), fun j y v' e1 e2 e3 => ?_⟩, fun y c' e => ?_, I.free, I.freeC, fun p hp => ?_, tracked ⟨oc, hoc, I.freeC x c hc⟩ hs, by simpa using I.len⟩ ⟨c, hs, .inr hc⟩
    · exact (hs.2 b (Nat.ne_of_lt (Nat.lt_of_lt_of_le (Heap.lt_size e) (I.ok.cab x c hfn hc)))).trans (I.base.keep b o e n hb hx)
    · obtain ⟨sl, e1⟩ := I.base.slot b o e n hb hx
      exact ⟨sl, (hs.2 b (Nat.ne_of_lt (Nat.lt_of_lt_of_le (Heap.lt_size e) (I.ok.cab x c hfn hc)))).trans e1⟩
    · obtain ⟨o', e1⟩ := I.base.there b o e hx
      exact ⟨o', (hs.2 b (Nat.ne_of_lt (Nat.lt_of_lt_of_le (Heap.lt_size e) (I.ok.cab x c hfn hc)))).trans e1⟩
    · by_cases hj : j = i
      · subst hj
        rw [hi] at e1; cases e1
        rw [List.getElem?_set_self hiσ] at e2
        cases e2
        exact ⟨u, r, .inr ⟨.inl hk, c, hc, hc'⟩⟩
      · rw [List.getElem?_set_ne (Ne.symm hj)] at e2
        obtain ⟨u', r', q⟩ := hl j y v' e1 e2 e3
        refine ⟨u', r', ?_⟩
        rcases q with q | ⟨k, c', e, z'⟩
        · exact .inl q
        · refine .inr ⟨k, c', e, z'.sameBut hs ?_⟩
          rintro rfl
          exact hj (nodup_ix hN e1 (I.ok.inj _ _ _ e hc ▸ hi))
    · by_cases hcc : c' = c
      · subst hcc; exact ⟨_, hc'⟩
      · obtain ⟨w2, z2⟩ := I.cell y c' e
        exact ⟨w2, z2.sameBut hs hcc⟩
    · obtain ⟨e, n, ne, nf, d⟩ := I.pin p hp
      refine ⟨(hs.2 p.1 ?_).trans e, n, ne, nf, d⟩
      intro q
      rw [q, hoc] at e
      have q' : oc = p.2 := Option.some.inj e
      exact d w' (by rw [← q']; exact hocd)
theorem store_ok {M : Model} {A : Around} {E : Value → Shared → Prop} {i : Nat} {x : Str} {v : V} {u : Value} {Q : Unit → Shared → Prop} (I : Inv X pins σ H s) (hN : X.N.Nodup) (hi : X.N[i]? = some x) (hx : Loc X.env.scope x) (r : RelV v u)
    (h : ∀ s', Inv X pins (σ.set i (some v)) H s' → Q () s') (hf : X.fn x = true ∨ X.env.scope.names.lookup x = some .local := by first | exact .inl rfl | exact .inr rfl | assumption) : wpAny M A (storeName X.env x u) Q E s :=
  store_ok2 I hN hi hx r (fun s' I' _ => h s' I') hf
/-- behind a call or a block, the state as it is -/
theorem Inv.call' {s' : Shared} {ch : List Addr} (I : Inv X pins σ H s) (ho : s'.os = s.os) (u : Un (frs X.stack) ch H H' s.heap s'.heap) (hok : HOk X.prog X.w H' s'.heap) (hg : AllBare s'.gens)
    (hch : ∀ b ∈ ch, (b ∈ X.ex ∨ X.s₀.heap.objs.size ≤ b) ∧ b ≠ X.env.locals ∧ (∀ x c, X.env.cells.lookup x = some c → c ≠ b) ∧ ∀ p ∈ X.pn ++ pins, p.1 ≠ b) : Inv X pins σ H' s' := by
  obtain ⟨h', g', d', t', o'⟩ := s'
  have e : o' = s.os := ho
  subst e
  exact I.call (g' := g') (t' := t') (d' := d') u hok hg hch
end

/-! ### the judgements -/
/-- an exception: its class, its own dict's address (where it has one), the abstract heap behind it -/
abbrev XK := Value → Option Addr → Hp → Prop
abbrev St := List (Option V)
abbrev VK := V → Hp → Prop
/-- an expression's reading; a test's; an argument list's -/
abbrev TE := St → Hp → VK → Prop
abbrev TT := St → Hp → (Bool → Hp → Prop) → Prop
abbrev TA := St → Hp → (List V → Hp → Prop) → Prop
/-- what is wanted behind a statement -/
structure Ends where
  nx : St → Hp → Prop
  rt : VK
  bk : St → Hp → Prop := fun _ _ => False
  ct : St → Hp → Prop := fun _ _ => False
abbrev TS := Ends → St → Hp → Prop

def EP (X : Cx) (pins : List (Addr × Obj)) (σ : St) (Q : VK) (u : Value) (s' : Shared) : Prop := ∃ v H', Inv X pins σ H' s' ∧ RelV v u ∧ Q v H'
def TP (X : Cx) (pins : List (Addr × Obj)) (σ : St) (Q : Bool → Hp → Prop) (b : Bool) (s' : Shared) : Prop := ∃ H', Inv X pins σ H' s' ∧ Q b H'
def AP (X : Cx) (pins : List (Addr × Obj)) (σ : St) (Q : List V → Hp → Prop) (us : List Value) (s' : Shared) : Prop := ∃ vs H', Inv X pins σ H' s' ∧ Vals vs us ∧ Q vs H'
def SP (X : Cx) (pins : List (Addr × Obj)) (D : Ends) (f : Flow) (s' : Shared) : Prop :=
  match f with
  | .next => ∃ σ' H', Inv X pins σ' H' s' ∧ D.nx σ' H'
  | .brk => ∃ σ' H', Inv X pins σ' H' s' ∧ D.bk σ' H'
  | .cont => ∃ σ' H', Inv X pins σ' H' s' ∧ D.ct σ' H'
  | .ret u => ∃ v σ' H', Inv X pins σ' H' s' ∧ RelV v u ∧ D.rt v H'

def PE (X : Cx) (e : Expr) (t : TE) : Prop :=
  ∀ (pins : List (Addr × Obj)) (s : Shared) (σ : St) (H : Hp) (Q : VK), Inv X pins σ H s → t σ H Q → wpAny (model X.prog X.w) X.A (eval e X.env) (EP X pins σ Q) X.xe s
def PT (X : Cx) (e : Expr) (t : TT) : Prop :=
  ∀ (pins : List (Addr × Obj)) (s : Shared) (σ : St) (H : Hp) (Q : Bool → Hp → Prop), Inv X pins σ H s → t σ H Q → wpAny (model X.prog X.w) X.A (isTrue e X.env (eval e X.env)) (TP X pins σ Q) X.xe s
/-- a test whatever its 'whole' is (and, or) -/
def PW (X : Cx) (e : Expr) (t : TT) : Prop :=
  ∀ (whole : Sem Value) (pins : List (Addr × Obj)) (s : Shared) (σ : St) (H : Hp) (Q : Bool → Hp → Prop), Inv X pins σ H s → t σ H Q → wpAny (model X.prog X.w) X.A (isTrue e X.env whole) (TP X pins σ Q) X.xe s
theorem PW.pt {X : Cx} {e : Expr} {t : TT} (h : PW X e t) : PT X e t := h _
/-- an argument list (no star), from the left -/
def PA (X : Cx) (es : List Expr) (t : TA) : Prop :=
  ∀ (pos : Pos) (pins : List (Addr × Obj)) (s : Shared) (σ : St) (H : Hp) (Q : List V → Hp → Prop), Inv X pins σ H s → t σ H Q → wpAny (model X.prog X.w) X.A (spliced (backTo pos (starEach es X.env))) (AP X pins σ Q) X.xe s
def PS (X : Cx) (st : Stmt) (t : TS) : Prop :=
  ∀ (pins : List (Addr × Obj)) (s : Shared) (σ : St) (H : Hp) (D : Ends), Inv X pins σ H s → t D σ H → wpAny (model X.prog X.w) X.A (exec st X.env) (SP X pins D) X.xe s
def PSs (X : Cx) (st : List Stmt) (t : TS) : Prop :=
  ∀ (pins : List (Addr × Obj)) (s : Shared) (σ : St) (H : Hp) (D : Ends), Inv X pins σ H s → t D σ H → wpAny (model X.prog X.w) X.A (execs st X.env) (SP X pins D) X.xe s
/-- weaken the end -/
theorem thn {α : Type} {t : Sem α} {Q Q' : α → Shared → Prop} {M : Model} {A : Around} {E : Value → Shared → Prop} {s : Shared} (h : wpAny M A t Q E s) (hQ : ∀ a s, Q a s → Q' a s) : wpAny M A t Q' E s := wpAny_mono h hQ fun _ _ x => x
end L2

namespace L2
open PySem PySem.Spec PyProof.Rows
section
variable {X : Cx}

/-- two expressions in a row -/
theorem bin {a b : Expr} {ta tb : TE} (ha : PE X a ta) (hb : PE X b tb) {pins : List (Addr × Obj)} {s : Shared} {σ : St} {H : Hp} {R : V → V → Hp → Prop} (I : Inv X pins σ H s) (h : ta σ H fun x H1 => tb σ H1 fun y H2 => R x y H2)
    {α : Type} {Q : α → Shared → Prop} {f : Value → Value → Sem α}
    (hf : ∀ v u s2 x y H2, Inv X pins σ H2 s2 → RelV x v → RelV y u → R x y H2 → wpAny (model X.prog X.w) X.A (f v u) Q X.xe s2) :
    wpAny (model X.prog X.w) X.A (eval a X.env) (fun v s₁ => wpAny (model X.prog X.w) X.A (eval b X.env) (fun u s₂ => wpAny (model X.prog X.w) X.A (f v u) Q X.xe s₂) X.xe s₁) X.xe s := by
  refine thn (ha pins s σ H _ I h) fun v s1 ⟨x, H1, I1, r1, q1⟩ => ?_
  refine thn (hb pins s1 σ H1 _ I1 q1) fun u s2 ⟨y, H2, I2, r2, q2⟩ => ?_
  exact hf v u s2 x y H2 I2 r1 r2 q2

/-! ### names and constants -/
def tVar (i : Nat) : TE := fun σ H Q => ∃ v, σ[i]? = some (some v) ∧ Q v H
def tC (v : V) : TE := fun _ H Q => Q v H
theorem pe_var {i : Nat} {x : Str} {pos : Pos} (hN : X.N[i]? = some x) (hv : Vis X.env.scope x) (hd : (x == ("__debug__" : Str)) = false := by decide) (hcd : (x == ("__classdict__" : Str)) = false := by decide) : PE X (.Name x pos) (tVar i) := by
  intro pins s σ H Q I h
  obtain ⟨v, e, h⟩ := h
  obtain ⟨m, hn, hl⟩ := I.loc
  obtain ⟨u, r, l⟩ := hl i x v hN e hv
  have fin : EP X pins σ Q u s := ⟨v, H, I, r, h⟩
  rcases l with ⟨hk, hm⟩ | ⟨hk, c, hc, hcell⟩
  · exact wpAny_Name (wpAny_loadName_local I.ok.kind hk hn hm fin) hd
  · rcases hk with hk | hk
    · exact wpAny_Name (wpAny_loadName_cell I.ok.kind hk hc hcell fin) hd
    · exact wpAny_Name (wpAny_loadName_free I.ok.kind hk hc hcell fin hcd) hd
theorem pe_int {i j pos} : PE X (.Constant (.int i) j pos) (tC (.int i)) := fun _ _ _ H _ I h => wpAny_Constant_int ⟨.int i, H, I.tok _, ⟨_, rfl⟩, h⟩
theorem pe_bl {b j pos} : PE X (.Constant (.bool b) j pos) (tC (.bl b)) := fun _ _ _ H _ I h => Constant_bool ⟨.bl b, H, I, rfl, h⟩
theorem pe_str {x j pos} : PE X (.Constant (.str x) j pos) (tC (.str x)) := fun _ _ _ H _ I h => Calls.Constant_str ⟨.str x, H, I.tok _, ⟨_, rfl⟩, h⟩

/-- a global name of the def -/
def Gl (X : Cx) (x : Str) : Prop := X.env.kindOf x = some .globalImplicit
theorem ld_glob {E : Value → Shared → Prop} {pins : List (Addr × Obj)} {s : Shared} {σ : St} {H : Hp} {x : Str} {u : Value} {pos : Pos} {Q : Value → Shared → Prop} (I : Inv X pins σ H s) (hg : Gl X x) (hm : X.mg x = some u) (h : Q u s)
    (hd : (x == ("__debug__" : Str)) = false := by decide) : wpAny (model X.prog X.w) X.A (eval (.Name x pos) X.env) Q E s :=
  Calls.Name_function_global I.ok.kind hg (Calls.loadGlobal_global (by rw [I.ok.glob]; exact I.mod.glob.keeps I.bk) hm h) hd
theorem ld_blt {E : Value → Shared → Prop} {pins : List (Addr × Obj)} {s : Shared} {σ : St} {H : Hp} {x : Str} {u : Value} {pos : Pos} {Q : Value → Shared → Prop} (I : Inv X pins σ H s) (hg : Gl X x) (hm : X.mg x = none) (hv : bootBuiltins x = some u) (h : Q u s)
    (hn : x ≠ "__name__" := by decide) (hd : (x == ("__debug__" : Str)) = false := by decide) : wpAny (model X.prog X.w) X.A (eval (.Name x pos) X.env) Q E s := by
  obtain ⟨mb, h1, h2⟩ := I.mod.blt
  exact Calls.Name_function_global I.ok.kind hg (Calls.loadGlobal_builtin (by rw [I.ok.glob]; exact I.mod.glob.keeps I.bk) hm (by rw [I.ok.blt]; exact h1.keeps I.bk) ((h2 x hn).trans hv) h) hd
variable {a b : Expr} {ta tb : TE} {pos : Pos}
/-! ### comparisons -/
def PC (X : Cx) (op : CmpOp) (a b : Expr) (t : TE) : Prop :=
  ∀ (pins : List (Addr × Obj)) (s : Shared) (σ : St) (H : Hp) (Q : VK), Inv X pins σ H s → t σ H Q →
    wpAny (model X.prog X.w) X.A (eval a X.env) (fun v s₁ => wpAny (model X.prog X.w) X.A (eval b X.env) (fun u s₂ => wpAny (model X.prog X.w) X.A (compareOp op v u) (EP X pins σ Q) X.xe s₂) X.xe s₁) X.xe s
theorem nobehind (b : Expr) {op : CmpOp} (h : op ≠ .In) (h2 : op ≠ .NotIn) : behindInMarks op b = false := by
  have e1 : (op == CmpOp.In) = false := by cases op <;> first | rfl | exact absurd rfl h
  have e2 : (op == CmpOp.NotIn) = false := by cases op <;> first | rfl | exact absurd rfl h2
  cases b <;> simp [behindInMarks, e1, e2]
/-- a comparison as a value, as a test -/
def tB (t : TE) : TT := fun σ H Q => t σ H fun x H1 => ∃ c, x = .bl c ∧ Q c H1
theorem pt_cmp {op : CmpOp} {t : TE} (h : PC X op a b t) (h1 : behindInMarks op b = false := by first | exact nobehind _ (by decide) (by decide) | rfl) : PT X (.Compare a [op] [b] pos) (tB t) := by
  intro pins s σ H Q I hw
  refine wpAny_isTrue_Compare1 (thn (h pins s σ H _ I hw) fun v s1 h1 => thn h1 fun u s2 h2 => thn h2 fun c s3 ⟨x, H1, I1, r1, q1⟩ => ?_) h1
  obtain ⟨d, rfl, q⟩ := q1
  cases r1
  exact wpAny_truthy_bool ⟨H1, I1, q⟩
/-- an expression whose value is a bool, as a test -/
theorem pt_val {e : Expr} {t : TE} (h : PE X e t) (he : ∀ whole, isTrue e X.env whole = (do let v ← whole; standAt e.pos; holding [v] (truthy v)) := by intro _; rfl) : PT X e (tB t) := by
  intro pins s σ H Q I hw
  refine isTrue_plain (thn (h pins s σ H _ I hw) fun v s1 ⟨x, H1, I1, r1, q1⟩ => ?_) (he _)
  obtain ⟨d, rfl, q⟩ := q1
  cases r1
  exact wpAny_truthy_bool ⟨H1, I1, q⟩

/-! ### and, or, not -/
variable {tA tB' : TT} {rest : List Expr}
def tOr (t u : TT) : TT := fun σ H Q => t σ H fun c H1 => if c = true then Q true H1 else u σ H1 Q
def tNot (t : TT) : TT := fun σ H Q => t σ H fun c H1 => Q (!c) H1
theorem pw_or1 (ha : PT X a tA) : PW X (.BoolOp .Or [a] pos) tA := by
  intro wh pins s σ H Q I h
  refine isTrue_or (thn (ha pins s σ H Q I h) fun c s1 e => ?_)
  cases c with
  | false => exact isTrue_or_nil e
  | true => exact e
theorem pw_or (ha : PT X a tA) (hb : PW X (.BoolOp .Or (b :: rest) pos) tB') : PW X (.BoolOp .Or (a :: b :: rest) pos) (tOr tA tB') := by
  intro wh pins s σ H Q I h
  refine isTrue_or (thn (ha pins s σ H _ I h) fun c s1 ⟨H1, I1, q1⟩ => ?_)
  cases c with
  | true => exact ⟨H1, I1, q1⟩
  | false => exact hb wh pins s1 σ H1 Q I1 q1
theorem pt_not (ha : PT X a tA) : PT X (.UnaryOp .Not a pos) (tNot tA) := by
  intro pins s σ H Q I h
  exact isTrue_not (ha pins s σ H (fun c H1 => Q (!c) H1) I h)
/-- .. as values (bools) -/
def tAndV (ta tb : TE) : TE := fun σ H Q => ta σ H fun x H1 => ∃ c, x = .bl c ∧ if c = true then tb σ H1 Q else Q (.bl false) H1
theorem pe_one {op} {t : TE} (h : PE X a t) : PE X (.BoolOp op [a] pos) t := fun pins s σ H Q I hw => BoolOp_one (h pins s σ H Q I hw)
theorem pe_and (ha : PE X a ta) (hb : PE X (.BoolOp .And (b :: rest) pos) tb) : PE X (.BoolOp .And (a :: b :: rest) pos) (tAndV ta tb) := by
  intro pins s σ H Q I h
  refine BoolOp_and (thn (ha pins s σ H _ I h) fun v s1 ⟨x, H1, I1, r1, q1⟩ => ?_)
  obtain ⟨c, rfl, q1⟩ := q1
  cases r1
  refine wpAny_truthy_bool ?_
  cases c with
  | true => exact hb pins s1 σ H1 Q I1 q1
  | false => exact ⟨.bl false, H1, I1, rfl, q1⟩
end
end L2

namespace L2
open PySem PySem.Spec PyProof.Rows

/-! ### a list, a tuple that is read: tracked, frozen, or an object of the module -/
def SqL (K : PySem.W.Frag) (H : Hp) (a : Addr) (xs : List V) : Prop :=
  Rd H a (.lst xs) ∨
    ∃ (o : Obj) (its : Array Value) (n : Nat), K.lookup a = some o ∧ o.cls = .type "list" ∧ o.dict = none ∧ o.data = .seq its n ∧ its.size ≤ sizeLine ∧ Vals xs its.toList
def SqT (K : PySem.W.Frag) (H : Hp) (a : Addr) (xs : List V) : Prop :=
  Rd H a (.tup xs) ∨
    ∃ (o : Obj) (its : Array Value) (n : Nat), K.lookup a = some o ∧ o.cls = .type "tuple" ∧ o.data = .seq its n ∧ its.size ≤ sizeLine ∧ Vals xs its.toList
def absV : Value → Option V
  | .none => some .non
  | .bool b => some (.bl b)
  | .int i _ => some (.int i)
  | .str x _ => some (.str x)
  | .bytes b _ => some (.byt b)
  | .float b _ => some (.flt b)
  | .ref a => some (.ref a)
  | .type n => some (.ty n)
  | _ => none
theorem RelV.abs {x : V} {u : Value} (r : RelV x u) : absV u = some x := by
  cases x with
  | non => cases r; rfl
  | bl _ => cases r; rfl
  | int _ => obtain ⟨t, rfl⟩ := r; rfl
  | str _ => obtain ⟨t, rfl⟩ := r; rfl
  | byt _ => obtain ⟨t, rfl⟩ := r; rfl
  | flt _ => obtain ⟨t, rfl⟩ := r; rfl
  | ref _ => cases r; rfl
  | ty _ => cases r; rfl
theorem RelV.inj {x y : V} {u : Value} (r : RelV x u) (q : RelV y u) : x = y := Option.some.inj (r.abs.symm.trans q.abs)
theorem Vals.inj : ∀ {xs ys : List V} {us : List Value}, Vals xs us → Vals ys us → xs = ys
  | _, _, _, .nil, .nil => rfl
  | _, _, _, .cons r t, .cons r' t' => by rw [r.inj r', Vals.inj t t']
section
variable {X : Cx} {pins : List (Addr × Obj)} {σ : St} {H : Hp} {s : Shared} {a : Addr} {xs ys : List V}
theorem SqL.of {K : PySem.W.Frag} (h : H a = some (.lst xs)) : SqL K H a xs := .inl (.inl h)
theorem SqT.of {K : PySem.W.Frag} (h : H a = some (.tup xs)) : SqT K H a xs := .inl (.inl h)
theorem Inv.list (I : Inv X pins σ H s) (h : SqL X.K H a xs) : ∃ its : List Value, Vals xs its ∧ PlainL s.heap a its.toArray ∧ xs.length ≤ sizeLine := by
  rcases h with h | ⟨o, its, n, hk, hc, hd, hs, hz, r⟩
  · obtain ⟨z, its, n, r, e⟩ := h.ok I.hok
    exact ⟨its, r, ⟨_, n, e, rfl, rfl, rfl⟩, z⟩
  · refine ⟨its.toList, r, ⟨o, n, I.kIn a o hk, hc, hd, by simpa using hs⟩, ?_⟩
    have e := r.length
    simp only [Array.length_toList] at e
    omega
theorem Inv.tuple (I : Inv X pins σ H s) (h : SqT X.K H a xs) : ∃ its : List Value, Vals xs its ∧ IsTup s.heap a its.toArray ∧ xs.length ≤ sizeLine := by
  rcases h with h | ⟨o, its, n, hk, hc, hs, hz, r⟩
  · obtain ⟨z, its, r, p⟩ := h.ok I.hok
    exact ⟨its, r, p, z⟩
  · refine ⟨its.toList, r, ⟨o, I.kIn a o hk, hc, n, by simpa using hs⟩, ?_⟩
    have e := r.length
    simp only [Array.length_toList] at e
    omega
theorem Inv.list_inj (I : Inv X pins σ H s) (h : SqL X.K H a xs) (h' : SqL X.K H a ys) : xs = ys := by
  obtain ⟨its, r, ⟨o, n, e, _, _, d⟩, _⟩ := I.list h
  obtain ⟨its', r', ⟨o', n', e', _, _, d'⟩, _⟩ := I.list h'
  rw [e] at e'; cases e'
  rw [d] at d'
  injection d' with d1 _
  have : its = its' := by simpa using congrArg Array.toList d1
  subst this
  exact r.inj r'
theorem Inv.tuple_inj (I : Inv X pins σ H s) (h : SqT X.K H a xs) (h' : SqT X.K H a ys) : xs = ys := by
  obtain ⟨its, r, ⟨o, e, _, n, d⟩, _⟩ := I.tuple h
  obtain ⟨its', r', ⟨o', e', _, n', d'⟩, _⟩ := I.tuple h'
  rw [e] at e'; cases e'
  rw [d] at d'
  injection d' with d1 _
  have : its = its' := by simpa using congrArg Array.toList d1
  subst this
  exact r.inj r'
end

/-! ### another wish about exceptions -/
abbrev Cx.wish (X : Cx) (E : Value → Shared → Prop) : Cx := { X with xe := E }
/-- no exception leaves -/
abbrev Cx.nox (X : Cx) : Cx := X.wish fun _ _ => False
theorem Cx.Ok.wish {X : Cx} (ok : X.Ok) (E : Value → Shared → Prop) : (X.wish E).Ok :=
  ⟨ok.mod, ok.kind, ok.glob, ok.blt, ok.above, ok.inj, ok.has, ok.cab, ok.hd, ok.frames, ok.stk, ok.exf, ok.bs, ok.bsz, ok.noex, ok.exfs, ok.funs, ok.frf⟩
theorem Cx.Ok.unwish {X : Cx} {E : Value → Shared → Prop} (ok : (X.wish E).Ok) : X.Ok :=
  ⟨ok.mod, ok.kind, ok.glob, ok.blt, ok.above, ok.inj, ok.has, ok.cab, ok.hd, ok.frames, ok.stk, ok.exf, ok.bs, ok.bsz, ok.noex, ok.exfs, ok.funs, ok.frf⟩
section
variable {X : Cx} {pins : List (Addr × Obj)} {σ : St} {H : Hp} {s : Shared} {E : Value → Shared → Prop}
theorem Inv.wish (I : Inv X pins σ H s) (E : Value → Shared → Prop) : Inv (X.wish E) pins σ H s := ⟨I.ok.wish E, I.os, I.bare, I.base, I.loc, I.cell, I.free, I.freeC, I.pin, I.hok, I.len⟩
theorem Inv.unwish (I : Inv (X.wish E) pins σ H s) : Inv X pins σ H s := ⟨I.ok.unwish, I.os, I.bare, I.base, I.loc, I.cell, I.free, I.freeC, I.pin, I.hok, I.len⟩
theorem SP.unwish {D : Ends} {f : Flow} {s' : Shared} (h : SP (X.wish E) pins D f s') : SP X pins D f s' := by
  cases f with
  | next => obtain ⟨σ', H', I, q⟩ := h; exact ⟨σ', H', I.unwish, q⟩
  | brk => obtain ⟨σ', H', I, q⟩ := h; exact ⟨σ', H', I.unwish, q⟩
  | cont => obtain ⟨σ', H', I, q⟩ := h; exact ⟨σ', H', I.unwish, q⟩
  | ret u => obtain ⟨v, σ', H', I, r, q⟩ := h; exact ⟨v, σ', H', I.unwish, r, q⟩
theorem PSs.nox {st : List Stmt} {t : TS} (h : PSs X.nox st t) : PSs X st t := fun pins s σ H D I hw =>
  wpAny_mono (h pins s σ H D (I.wish _) hw) (fun _ _ q => q.unwish) fun _ _ z => False.elim z
end

/-! ### blocks and small statements -/
section
variable {X : Cx} {st : Stmt} {rest : List Stmt} {t u : TS} {e : Expr} {te : TE} {pos : Pos}
def tNext : TS := fun D σ H => D.nx σ H
def tSeq (t u : TS) : TS := fun D σ H => t { D with nx := u D } σ H
theorem pss_nil : PSs X [] tNext := fun _ _ σ H _ I h => wpAny_execs_nil ⟨σ, H, I, h⟩
theorem pss_cons (h1 : PS X st t) (h2 : PSs X rest u) : PSs X (st :: rest) (tSeq t u) := by
  intro pins s σ H D I h
  refine wpAny_execs_cons (thn (h1 pins s σ H { D with nx := u D } I h) fun f s1 q => ?_)
  cases f with
  | next =>
    obtain ⟨σ', H', I', q⟩ := q
    exact h2 pins s1 σ' H' D I' q
  | ret v => exact q
  | brk => exact q
  | cont => exact q
theorem pss_one (h1 : PS X st t) : PSs X [st] t := by
  intro pins s σ H D I h
  refine wpAny_execs_cons (thn (h1 pins s σ H D I h) fun f s1 q => ?_)
  cases f with
  | next => exact wpAny_execs_nil q
  | ret v => exact q
  | brk => exact q
  | cont => exact q
/-- in a def's body nothing is shown -/
theorem Inv.quiet {pins : List (Addr × Obj)} {σ : St} {H : Hp} {s : Shared} (I : Inv X pins σ H s) : interactive X.env = false := by simp [interactive, I.ok.kind]
/-- an expression whose value is dropped -/
def tDrop (te : TE) : TS := fun D σ H => te σ H fun _ H1 => D.nx σ H1
theorem ps_expr (he : PE X e te) (hs : swapsWith e none pos.line X.env = pure false := by rfl) : PS X (.Expr e pos) (tDrop te) := by
  intro pins s σ H D I h
  exact wpAny_Expr_any (thn (he pins s σ H _ I h) fun v s1 ⟨x, H1, I1, r1, q1⟩ => ⟨σ, H1, I1, q1⟩) I.quiet hs
def tRet (te : TE) : TS := fun D σ H => te σ H D.rt
theorem ps_ret (he : PE X e te) : PS X (.Return (some e) pos) (tRet te) := by
  intro pins s σ H D I h
  exact wpAny_Return_some (thn (he pins s σ H _ I h) fun v s1 ⟨x, H1, I1, r1, q1⟩ => ⟨x, σ, H1, I1, r1, q1⟩)
def tIfS (c : TT) (t u : TS) : TS := fun D σ H => c σ H fun b H1 => if b = true then t D σ H1 else u D σ H1
theorem ps_if {c : Expr} {a b : List Stmt} {tc : TT} (hc : PT X c tc) (ha : PSs X a t) (hb : PSs X b u) : PS X (.If c a b pos) (tIfS tc t u) := by
  intro pins s σ H D I h
  refine wpAny_If (thn (hc pins s σ H _ I h) fun d s1 ⟨H1, I1, q1⟩ => ?_)
  cases d with
  | true => exact ha pins s1 σ H1 D I1 q1
  | false => exact hb pins s1 σ H1 D I1 q1
end

/-! ### targets -/
abbrev TG := V → St → Hp → (St → Hp → Prop) → Prop
abbrev TGs := List V → St → Hp → (St → Hp → Prop) → Prop
def PG (X : Cx) (target : Expr) (t : TG) : Prop :=
  ∀ (pins : List (Addr × Obj)) (s : Shared) (σ : St) (H : Hp) (v : V) (u : Value) (Q : St → Hp → Prop), Inv X pins σ H s → RelV v u → t v σ H Q →
    wpAny (model X.prog X.w) X.A (assign target X.env u) (fun _ s' => ∃ σ' H', Inv X pins σ' H' s' ∧ Q σ' H') X.xe s
/-- several targets, one after another -/
def PGs (X : Cx) (ts : List Expr) (t : TGs) : Prop :=
  ∀ (pins : List (Addr × Obj)) (s : Shared) (σ : St) (H : Hp) (vs : List V) (us : List Value) (Q : St → Hp → Prop), Inv X pins σ H s → Vals vs us → t vs σ H Q →
    wpAny (model X.prog X.w) X.A (assignInOrder ((assignEach ts X.env).map (·.2)) us) (fun _ s' => ∃ σ' H', Inv X pins σ' H' s' ∧ Q σ' H') X.xe s
section
variable {X : Cx} {pos : Pos}
def gName (i : Nat) : TG := fun v σ H Q => Q (σ.set i (some v)) H
theorem pg_name {i : Nat} {x : Str} (hN : X.N.Nodup) (hi : X.N[i]? = some x) (hx : Loc X.env.scope x) (hf : X.fn x = true ∨ X.env.scope.names.lookup x = some .local := by first | exact .inl rfl | exact .inr rfl | assumption) : PG X (.Name x pos) (gName i) := by
  intro pins s σ H v u Q I r h
  exact wpAny_assign_Name (store_ok I hN hi hx r (fun s' I' => ⟨_, H, I', h⟩) hf)
/-- target = value -/
def tAsg (te : TE) (g : TG) : TS := fun D σ H => te σ H fun x H1 => g x σ H1 D.nx
/-- name = value -/
theorem ps_set {i : Nat} {x : Str} {e : Expr} {te : TE} {pos' : Pos} (hN : X.N.Nodup) (hi : X.N[i]? = some x) (hx : Loc X.env.scope x) (he : PE X e te) (hs : swapsWith e (some (.Name x pos')) pos.line X.env = pure false := by rfl) (hf : X.fn x = true ∨ X.env.scope.names.lookup x = some .local := by first | exact .inl rfl | exact .inr rfl | assumption) :
    PS X (.Assign [.Name x pos'] e pos) (tAsg te (gName i)) := by
  intro pins s σ H D I h
  refine wpAny_Assign_Name (thn (he pins s σ H _ I h) fun v s1 ⟨y, H1, I1, r1, q1⟩ => ?_) hs
  exact store_ok I1 hN hi hx r1 (fun s2 I2 => ⟨_, H1, I2, q1⟩) hf
end

/-! ### while -/
section
variable {X : Cx} {pos : Pos}
/-- the invariant W with its measure -/
def tWhile (c : TT) (tb : TS) : TS := fun D σ H => ∃ W : Nat → St → Hp → Prop, (∃ m, W m σ H) ∧ ∀ m σ H, W m σ H →
  c σ H fun b H1 => if b = true then ∃ N : St → Hp → Prop, (∀ σ' H', N σ' H' → ∃ m', m' < m ∧ W m' σ' H') ∧ tb { D with nx := N, ct := N, bk := D.nx } σ H1 else D.nx σ H1
theorem ps_while {c : Expr} {body : List Stmt} {tc : TT} {tb : TS} (hp : PassesOwn (model X.prog X.w) X.A X.env X.xe) (hc : PT X c tc) (hb : PSs X body tb) : PS X (.While c body [] pos) (tWhile tc tb) := by
  intro pins s σ H D I h
  obtain ⟨W, ⟨m0, w0⟩, turn⟩ := h
  refine wpAny_While (codeAny_whileLoop (fun n s' => ∃ σ' H', Inv X pins σ' H' s' ∧ W n σ' H') ?_ m0 ⟨σ, H, I, w0⟩)
  rintro n s1 ⟨σ1, H1, I1, w1⟩
  refine wpAny_passesOwn hp (thn (hc pins s1 σ1 H1 _ I1 (turn n σ1 H1 w1)) fun b s2 ⟨H2, I2, q2⟩ => ?_)
  cases b with
  | true =>
    obtain ⟨N, hN, q2⟩ := q2
    rw [if_pos rfl]
    refine wpAny_passesOwn hp (thn (hb pins s2 σ1 H2 _ I2 q2) fun f s3 q3 => ?_)
    cases f with
    | next =>
      obtain ⟨σ3, H3, I3, n3⟩ := q3
      obtain ⟨m', hm, w3⟩ := hN σ3 H3 n3
      exact ⟨m', hm, σ3, H3, I3, w3⟩
    | cont =>
      obtain ⟨σ3, H3, I3, n3⟩ := q3
      obtain ⟨m', hm, w3⟩ := hN σ3 H3 n3
      exact ⟨m', hm, σ3, H3, I3, w3⟩
    | brk => exact q3
    | ret v => exact q3
  | false =>
    rw [if_neg Bool.false_ne_true]
    exact wpAny_execs_nil ⟨σ1, H2, I2, q2⟩
end

/-! ### what a loop or a comprehension walks -/
/-- at turn i: it yields x (the heap may grow), or it stops -/
structure It where
  go : Nat → Hp → Prop
  yld : Nat → Hp → V → Hp → Prop
  stop : Nat → Hp → Prop
/-- the iterator's own objects may turn: they are not the frame's, not pinned, younger than the entry (or a comprehension's own) -/
def FpOk (X : Cx) (pins : List (Addr × Obj)) (H : Hp) (b : Addr) : Prop :=
  H b = none ∧ b ≠ X.env.locals ∧ b ∉ X.fs ∧ (b ∈ X.ex ∨ X.s₀.heap.objs.size ≤ b) ∧ (∀ x c, X.env.cells.lookup x = some c → c ≠ b) ∧ ∀ p ∈ X.pn ++ pins, p.1 ≠ b
theorem Inv.fpOk {X : Cx} {pins : List (Addr × Obj)} {σ : St} {H H' : Hp} {s : Shared} {b : Addr} (I : Inv X pins σ H s) (hb : s.heap.objs.size ≤ b) (hn : H' b = none) : FpOk X pins H' b := by
  refine ⟨hn, Nat.ne_of_gt (Nat.lt_of_lt_of_le I.lt hb), I.nofs hb, .inr (Nat.le_trans I.sz hb), fun x c e z => ?_, fun p hp z => ?_⟩
  · obtain ⟨v, q⟩ := I.cell x c e
    exact absurd (Nat.lt_of_lt_of_le q.lt (by rw [z]; exact hb)) (Nat.lt_irrefl _)
  · exact absurd (Nat.lt_of_lt_of_le (Heap.lt_size (I.pin p hp).1) (by rw [z]; exact hb)) (Nat.lt_irrefl _)
structure Turn (P : Program) (w : World) (K : PySem.W.Frag) (tg : Expr) (J : It) (fp : List Addr) (it : Addr) (tn : Nat → Heap → Prop) : Prop where
  mem : it ∈ fp
  obj : ∀ i h, tn i h → ∀ b ∈ fp, ∃ o, h.get? b = some o ∧ ∀ v, o.data ≠ .cell v
  keep : ∀ i h h', tn i h → (∀ b ∈ fp, ∀ o, h.get? b = some o → h'.get? b = some o) → tn i h'
  item : ∀ (X : Cx), X.prog = P → X.w = w → X.K = K → X.calm = true → ∀ (i : Nat) (pins : List (Addr × Obj)) (s : Shared) (σ : St) (H : Hp) (E : Value → Shared → Prop), Inv X pins σ H s → (∀ b ∈ fp, FpOk X pins H b) → tn i s.heap → J.go i H →
    wpAny (model P w) X.A (pyNext (.ref it)) (fun r s1 => ∃ u, r = some u ∧
      wpAny (model P w) X.A (letOwnedTupleGo tg (.ref it) u) (fun _ s2 => ∃ x H', Inv X pins σ H' s2 ∧ RelV x u ∧ J.yld i H x H' ∧ tn (i + 1) s2.heap ∧ ∀ b ∈ fp, H' b = none) E s1) E s
  done : ∀ (X : Cx), X.prog = P → X.w = w → X.K = K → X.calm = true → ∀ (i : Nat) (pins : List (Addr × Obj)) (s : Shared) (σ : St) (H : Hp) (E : Value → Shared → Prop), Inv X pins σ H s → (∀ b ∈ fp, FpOk X pins H b) → tn i s.heap → J.stop i H →
    wpAny (model P w) X.A (pyNext (.ref it)) (fun r s1 => r = none ∧ Inv X pins σ H s1) E s
  self : ∀ (A : Around) (i : Nat) (s : Shared) (Q : Value → Shared → Prop) (E : Value → Shared → Prop), tn i s.heap → Q (.ref it) s → wpAny (model P w) A (pyIter (.ref it)) Q E s
abbrev TI := St → Hp → (It → Hp → Prop) → Prop
/-- an iterator has come -/
def PIE (X : Cx) (pins : List (Addr × Obj)) (σ : St) (tg : Expr) (R : It → Hp → Prop) (itv : Value) (s2 : Shared) : Prop :=
  ∃ (it : Addr) (fp : List Addr) (tn : Nat → Heap → Prop) (J : It) (H' : Hp), itv = .ref it ∧ Inv X pins σ H' s2 ∧ Turn X.prog X.w X.K tg J fp it tn ∧ tn 0 s2.heap ∧ (∀ b ∈ fp, FpOk X pins H' b) ∧ R J H'
def PI (X : Cx) (tg iter : Expr) (wi : TI) : Prop :=
  ∀ (pins : List (Addr × Obj)) (s : Shared) (σ : St) (H : Hp) (R : It → Hp → Prop), Inv X pins σ H s → wi σ H R →
    wpAny (model X.prog X.w) X.A (eval iter X.env) (fun v s1 => wpAny (model X.prog X.w) X.A (pyIter v) (PIE X pins σ tg R) X.xe s1) X.xe s

/-- the step ahead of the store is nothing for an iterator that keeps no tuple -/
theorem go_of {M : Model} {A : Around} {E : Value → Shared → Prop} {s : Shared} {tg : Expr} {it : Addr} {u : Value} {o : Obj} {n : String} {vs : Array Value} {Q : Unit → Shared → Prop} (ho : s.heap.get? it = some o) (hc : o.cls = .type n) (hd : o.data = .fields vs)
    (hn : ["enumerate", "zip", "dict_itemiterator", "dict_reverseitemiterator", "odict_iterator", "itertools.zip_longest", "itertools.pairwise"].contains n = false) (hQ : Q () s) : wpAny M A (letOwnedTupleGo tg (.ref it) u) Q E s := by
  unfold letOwnedTupleGo
  cases tg <;> first
    | exact wpAny_pure hQ
    | (cases u <;> first
        | exact wpAny_pure hQ
        | (refine wpAny_bind (wpAny_load ho ?_)
           rw [hc, hd]
           show wpAny M A (if (["enumerate", "zip", "dict_itemiterator", "dict_reverseitemiterator", "odict_iterator", "itertools.zip_longest", "itertools.pairwise"].contains n && vs[0]? == some (rawInt _)) = true then _ else _) Q E s
           rw [if_neg (by intro h; rw [hn, Bool.false_and] at h; cases h)]
           exact wpAny_pure hQ))

/-- the list at a, as it stands at each turn (a loop may append to it) -/
def Itl (K : PySem.W.Frag) (a : Addr) : It :=
  ⟨fun i H => ∃ xs x, SqL K H a xs ∧ xs[i]? = some x, fun i H x H' => H' = H ∧ ∀ xs, SqL K H a xs → xs[i]? = some x, fun i H => ∃ xs, SqL K H a xs ∧ xs.length ≤ i⟩
def Itt (K : PySem.W.Frag) (a : Addr) : It :=
  ⟨fun i H => ∃ xs x, SqT K H a xs ∧ xs[i]? = some x, fun i H x H' => H' = H ∧ ∀ xs, SqT K H a xs → xs[i]? = some x, fun i H => ∃ xs, SqT K H a xs ∧ xs.length ≤ i⟩
/-- lo, lo + 1, .. (n of them) -/
def Itr (lo : Int) (n : Nat) : It := ⟨fun i _ => i < n, fun i H x H' => H' = H ∧ x = .int (lo + i), fun i _ => n ≤ i⟩
theorem turn_list {P : Program} {w : World} {K : PySem.W.Frag} {tg : Expr} (a it : Addr) : Turn P w K tg (Itl K a) [it] it (fun i h => h.IsListIter it a i) where
  mem := by simp
  obj := fun i h st b hb => by
    have e : b = it := by simpa using hb
    subst e
    obtain ⟨o, e, c, d⟩ := st
    exact ⟨o, e, fun v z => by rw [d] at z; cases z⟩
  keep := fun i h h' st k => st.at fun o e => k it (by simp) o e
  item := by
    intro X hP hw hK hc i pins s σ H E I hf st hg
    subst hP hw hK
    obtain ⟨xs, x, hq, hx⟩ := hg
    obtain ⟨its, rv, p, hz⟩ := I.list hq
    obtain ⟨u, hu, ru⟩ := rv.get hx
    obtain ⟨f0, f1, f2, f3, f4, f5⟩ := hf it (by simp)
    refine wpAny_pyNext_list_item st p.isList (x := u) (by simpa using hu) fun h' st' sb => ?_
    have I1 : Inv X pins σ H { s with heap := h' } := I.turned (t' := s.toks) (fun b o hb e => (sb.2 b hb).trans e) f0 f1 f3 f4 f5
    obtain ⟨o, e, c, d⟩ := id st'
    exact ⟨u, rfl, go_of (s := { s with heap := h' }) e c d (by decide) ⟨x, H, I1, ru, ⟨rfl, fun ys hy => by rw [I.list_inj hy hq]; exact hx⟩, st', fun b hb => (hf b hb).1⟩⟩
  done := by
    intro X hP hw hK hc i pins s σ H E I hf st hg
    subst hP hw hK
    obtain ⟨xs, hq, hx⟩ := hg
    obtain ⟨its, rv, p, hz⟩ := I.list hq
    obtain ⟨f0, f1, f2, f3, f4, f5⟩ := hf it (by simp)
    have hl := rv.length
    exact wpAny_pyNext_list_end (I.ok.hd hc) st p.isList (by simp; omega) fun h' eb => ⟨rfl, I.turned (t' := s.toks) (fun b o hb e => eb b o hb e) f0 f1 f3 f4 f5⟩
  self := fun _ _ _ _ _ st h => wpAny_pyIter_listiter st h
theorem turn_tuple {P : Program} {w : World} {K : PySem.W.Frag} {tg : Expr} (a it : Addr) : Turn P w K tg (Itt K a) [it] it (fun i h => h.IsTupleIter it a i) where
  mem := by simp
  obj := fun i h st b hb => by
    have e : b = it := by simpa using hb
    subst e
    obtain ⟨o, e, c, d⟩ := st
    exact ⟨o, e, fun v z => by rw [d] at z; cases z⟩
  keep := fun i h h' st k => st.at fun o e => k it (by simp) o e
  item := by
    intro X hP hw hK hc i pins s σ H E I hf st hg
    subst hP hw hK
    obtain ⟨xs, x, hq, hx⟩ := hg
    obtain ⟨its, rv, p, hz⟩ := I.tuple hq
    obtain ⟨u, hu, ru⟩ := rv.get hx
    obtain ⟨f0, f1, f2, f3, f4, f5⟩ := hf it (by simp)
    refine wpAny_pyNext_tuple_item st (show s.heap.IsTuple a its.toArray from p) (x := u) (by simpa using hu) fun h' st' sb => ?_
    have I1 : Inv X pins σ H { s with heap := h' } := I.turned (t' := s.toks) (fun b o hb e => (sb.2 b hb).trans e) f0 f1 f3 f4 f5
    obtain ⟨o, e, c, d⟩ := id st'
    exact ⟨u, rfl, go_of (s := { s with heap := h' }) e c d (by decide) ⟨x, H, I1, ru, ⟨rfl, fun ys hy => by rw [I.tuple_inj hy hq]; exact hx⟩, st', fun b hb => (hf b hb).1⟩⟩
  done := by
    intro X hP hw hK hc i pins s σ H E I hf st hg
    subst hP hw hK
    obtain ⟨xs, hq, hx⟩ := hg
    obtain ⟨its, rv, p, hz⟩ := I.tuple hq
    obtain ⟨f0, f1, f2, f3, f4, f5⟩ := hf it (by simp)
    have hl := rv.length
    exact wpAny_pyNext_tuple_end (I.ok.hd hc) st (show s.heap.IsTuple a its.toArray from p) (by simp; omega) fun h' eb => ⟨rfl, I.turned (t' := s.toks) (fun b o hb e => eb b o hb e) f0 f1 f3 f4 f5⟩
  self := fun _ _ _ _ _ st h => wpAny_pyIter_tupleiter st h
theorem turn_range {P : Program} {w : World} {K : PySem.W.Frag} {tg : Expr} (it : Addr) (lo : Int) (n : Nat) : Turn P w K tg (Itr lo n) [it] it (fun i h => IsRangeIter h it (lo + (i : Nat) * 1) ((n : Int) - (i : Nat)) 1) where
  mem := by simp
  obj := fun i h st b hb => by
    have e : b = it := by simpa using hb
    subst e
    exact ⟨_, st, fun v z => by
      have z' : Data.fields _ = Data.cell v := z
      cases z'⟩
  keep := fun i h h' st k => k it (by simp) _ st
  item := by
    intro X hP hw hK hc i pins s σ H E I hf st hg
    subst hP hw hK
    obtain ⟨f0, f1, f2, f3, f4, f5⟩ := hf it (by simp)
    have W := Walks.range (prog := X.prog) (w := X.w) (I.ok.hd hc) it lo 1 n
    refine W.item i s _ _ hg st fun v h' tk hv st' kk => ?_
    obtain ⟨t, rfl⟩ := hv
    have I1 : Inv X pins σ H { s with heap := h', toks := tk } := I.turned (fun b o hb e => kk b o (by simpa using hb) e) f0 f1 f3 f4 f5
    refine ⟨_, rfl, go_of (s := { s with heap := h', toks := tk }) (n := "range_iterator") st' rfl rfl (by decide) ⟨.int (lo + i), H, I1, ⟨t, ?_⟩, ⟨rfl, rfl⟩, st', fun b hb => (hf b hb).1⟩⟩
    rw [Int.mul_one]
  done := by
    intro X hP hw hK hc i pins s σ H E I hf st hg
    subst hP hw hK
    obtain ⟨f0, f1, f2, f3, f4, f5⟩ := hf it (by simp)
    exact wpAny_pyNext_range_end (I.ok.hd hc) st (by have : n ≤ i := hg; omega) fun h' eb => ⟨rfl, I.turned (t' := s.toks) (fun b o hb e => eb b o hb e) f0 f1 f3 f4 f5⟩
  self := fun _ _ _ _ _ st h => wpAny_pyIter_rangeiter st h
end L2

namespace L2
open PySem PySem.Spec PyProof.Rows
section
variable {X : Cx} {tg : Expr}
def iList (K : PySem.W.Frag) (tl : TE) : TI := fun σ H R => tl σ H fun x H1 => ∃ a, x = .ref a ∧ (∃ xs, SqL K H1 a xs) ∧ R (Itl K a) H1
def iTup (K : PySem.W.Frag) (tl : TE) : TI := fun σ H R => tl σ H fun x H1 => ∃ a, x = .ref a ∧ (∃ xs, SqT K H1 a xs) ∧ R (Itt K a) H1
theorem pi_list {l : Expr} {tl : TE} (hl : PE X l tl) : PI X tg l (iList X.K tl) := by
  intro pins s σ H R I h
  refine thn (hl pins s σ H _ I h) fun v s1 ⟨x, H1, I1, r1, q1⟩ => ?_
  obtain ⟨a, e, ⟨xs, hq⟩, q⟩ := q1
  subst e
  cases r1
  obtain ⟨its, rv, p, hz⟩ := I1.list hq
  refine wpAny_pyIter_list p.isList ?_
  refine ⟨s1.heap.objs.size, [s1.heap.objs.size], _, _, H1, rfl, I1.kept (t' := s1.toks) fun b o e => Heap.get?_push_of_some _ e, turn_list a _, ⟨_, Heap.get?_push_size _ rfl, rfl, rfl⟩, fun b hb => ?_, q⟩
  have e : b = s1.heap.objs.size := by simpa using hb
  subst e
  exact I1.fpOk (Nat.le_refl _) (I1.hok.fresh (Nat.le_refl _))
theorem pi_tup {l : Expr} {tl : TE} (hl : PE X l tl) : PI X tg l (iTup X.K tl) := by
  intro pins s σ H R I h
  refine thn (hl pins s σ H _ I h) fun v s1 ⟨x, H1, I1, r1, q1⟩ => ?_
  obtain ⟨a, e, ⟨xs, hq⟩, q⟩ := q1
  subst e
  cases r1
  obtain ⟨its, rv, p, hz⟩ := I1.tuple hq
  refine wpAny_pyIter_tuple (show s1.heap.IsTuple a its.toArray from p) ?_
  refine ⟨s1.heap.objs.size, [s1.heap.objs.size], _, _, H1, rfl, I1.kept (t' := s1.toks) fun b o e => Heap.get?_push_of_some _ e, turn_tuple a _, ⟨_, Heap.get?_push_size _ rfl, rfl, rfl⟩, fun b hb => ?_, q⟩
  have e : b = s1.heap.objs.size := by simpa using hb
  subst e
  exact I1.fpOk (Nat.le_refl _) (I1.hok.fresh (Nat.le_refl _))
/-- a range object just made, walked -/
theorem range_it {pins : List (Addr × Obj)} {σ : St} {H : Hp} {s : Shared} {R : It → Hp → Prop} {E : Value → Shared → Prop} {lo hi : Int} {t u v : Tok} {tk : Nat} (I : Inv X pins σ H s) (h1 : -(2 ^ 62) ≤ lo) (h2 : lo < 2 ^ 62) (h3 : -(2 ^ 62) ≤ hi) (h4 : hi < 2 ^ 62)
    (q : R (Itr lo (hi - lo).toNat) H) : wpAny (model X.prog X.w) X.A (pyIter (.ref s.heap.objs.size)) (PIE X pins σ tg R) E { s with heap := s.heap.push { cls := .type "range", data := .fields #[.int lo t, .int hi u, .int 1 v] }, toks := tk } := by
  refine wpAny_pyIter_range (IsRange.new ..) (small_one h1 h2 h3 h4) ?_
  have I1 : Inv X pins σ H { s with heap := s.heap.push { cls := .type "range", data := .fields #[.int lo t, .int hi u, .int 1 v] }, toks := tk } := I.kept fun b o e => Heap.get?_push_of_some _ e
  refine ⟨(s.heap.push { cls := .type "range", data := .fields #[.int lo t, .int hi u, .int 1 v] }).objs.size, [(s.heap.push { cls := .type "range", data := .fields #[.int lo t, .int hi u, .int 1 v] }).objs.size], _, _, H, rfl,
    I1.kept (t' := tk) fun b o e => Heap.get?_push_of_some _ e, turn_range _ lo (hi - lo).toNat, ?_, fun b hb => ?_, q⟩
  · have e1 : lo + ((0 : Nat) : Int) * 1 = lo := by simp
    have e2 : (((hi - lo).toNat : Nat) : Int) - ((0 : Nat) : Int) = Builtin.Range.rangeSize lo hi 1 := by rw [rangeSize_one]; split <;> omega
    show IsRangeIter _ _ (lo + ((0 : Nat) : Int) * 1) ((((hi - lo).toNat : Nat) : Int) - ((0 : Nat) : Int)) 1
    rw [e1, e2]
    exact Heap.get?_push_size _ rfl
  · have e : b = (s.heap.push { cls := .type "range", data := .fields #[.int lo t, .int hi u, .int 1 v] }).objs.size := by simpa using hb
    subst e
    exact I1.fpOk (Nat.le_refl _) (I1.hok.fresh (Nat.le_refl _))
def iRng1 (ta : TA) : TI := fun σ H R => ta σ H fun vs H1 => ∃ j : Int, vs = [.int j] ∧ -(2 ^ 62) ≤ j ∧ j < 2 ^ 62 ∧ R (Itr 0 j.toNat) H1
theorem pi_range1 {a : Expr} {ta : TA} {p pos : Pos} (hg : Gl X "range") (hm : X.mg "range" = none) (ha : PA X [a] ta) (hs : starEach [a] X.env = [(false, eval a X.env)] := by rfl) : PI X tg (.Call (.Name "range" p) [a] [] pos) (iRng1 ta) := by
  intro pins s σ H R I h
  refine Call_ (ld_blt I hg hm boot_range (PyProof.Rows.callWith_type1 (thn (ha pos pins s σ H _ I h) fun us s1 ⟨vs, H1, I1, r1, q1⟩ => ?_) hs rfl))
  obtain ⟨j, e, q1, q2, q⟩ := q1
  subst e
  cases r1 with
  | cons r rr =>
    cases rr
    obtain ⟨t, rfl⟩ := r
    exact call_range_1 (range_it I1 (by omega) (by omega) q1 q2 (by simpa using q))
/-! ### for -/
/-- W: the invariant by the turn and a measure; N: what the body is to reach -/
def tFor (wi : TI) (g : TG) (tb : TS) : TS := fun D σ H => wi σ H fun J H1 => ∃ W : Nat → Nat → St → Hp → Prop, (∃ m, W 0 m σ H1) ∧ ∀ i m σ H, W i m σ H →
  (J.stop i H ∧ D.nx σ H) ∨ (J.go i H ∧ ∃ N : St → Hp → Prop, (∀ σ' H', N σ' H' → ∃ m', m' < m ∧ W (i + 1) m' σ' H') ∧ ∀ x H', J.yld i H x H' → g x σ H' fun σ2 H2 => tb { D with nx := N, ct := N, bk := D.nx } σ2 H2)
/-- the records at fp as they stand -/
def pinsAt (fp : List Addr) (h : Heap) : List (Addr × Obj) := fp.filterMap fun b => (h.get? b).map fun o => (b, o)
theorem mem_pinsAt {fp : List Addr} {h : Heap} {b : Addr} {o : Obj} (hb : b ∈ fp) (e : h.get? b = some o) : (b, o) ∈ pinsAt fp h := List.mem_filterMap.mpr ⟨b, hb, by rw [e]; rfl⟩
theorem of_pinsAt {fp : List Addr} {h : Heap} {p : Addr × Obj} (hp : p ∈ pinsAt fp h) : p.1 ∈ fp ∧ h.get? p.1 = some p.2 := by
  obtain ⟨b, hb, e⟩ := List.mem_filterMap.mp hp
  cases q : h.get? b with
  | none => rw [q] at e; cases e
  | some o =>
    rw [q] at e
    have e' : (b, o) = p := Option.some.inj e
    subst e'
    exact ⟨hb, q⟩
theorem Inv.pinned {pins : List (Addr × Obj)} {σ : St} {H : Hp} {s : Shared} {fp : List Addr} (I : Inv X pins σ H s) (hf : ∀ b ∈ fp, FpOk X pins H b) (ho : ∀ b ∈ fp, ∃ o, s.heap.get? b = some o ∧ ∀ v, o.data ≠ .cell v) : Inv X (pins ++ pinsAt fp s.heap) σ H s :=
  I.pins_of fun p hp => (List.mem_append.mp hp).elim (fun z => I.pin p (List.mem_append_right _ z)) fun z => by
    obtain ⟨hb, e⟩ := of_pinsAt z
    obtain ⟨f0, f1, f2, _⟩ := hf p.1 hb
    obtain ⟨o, e', d⟩ := ho p.1 hb
    rw [e] at e'; cases e'
    exact ⟨e, f0, f1, f2, d⟩
theorem Inv.unpinned {pins pl : List (Addr × Obj)} {σ : St} {H : Hp} {s : Shared} (I : Inv X (pins ++ pl) σ H s) : Inv X pins σ H s := I.pins_of fun p hp => I.pin p (List.mem_append_right _ (List.mem_append_left _ hp))
theorem ps_for {iter : Expr} {body : List Stmt} {wi : TI} {g : TG} {tb : TS} {pos : Pos} (hp : PassesOwn (model X.prog X.w) X.A X.env X.xe) (hc : X.calm = true) (hi : PI X tg iter wi) (hg : PG X tg g) (hb : PSs X body tb)
    (hs : ∀ x, foldedSetIterable iter X.env x = pure x := by intro _; rfl) : PS X (.For tg iter body [] pos) (tFor wi g tb) := by
  intro pins s σ H D I h
  refine wpAny_For (thn (hi pins s σ H _ I h) fun v s1 h1 => thn h1 fun itv s2 h2 => ?_) hs
  obtain ⟨it, fp, tn, J, H2, e, I2, T, st2, f2, W, ⟨m0, w0⟩, turn⟩ := h2
  subst e
  -- what stays true of the iterator's objects through the loop
  have stat : ∀ {H' : Hp}, (∀ b ∈ fp, H' b = none) → ∀ b ∈ fp, FpOk X pins H' b := fun hn b hb => ⟨hn b hb, (f2 b hb).2⟩
  refine codeAny_forLoop_any (fun n s' => ∃ i σ' H', Inv X pins σ' H' s' ∧ tn i s'.heap ∧ (∀ b ∈ fp, H' b = none) ∧ W i n σ' H') ?_ m0 ⟨0, σ, H2, I2, st2, fun b hb => (f2 b hb).1, w0⟩
  rintro n s3 ⟨i, σ3, H3, I3, st3, fr3, w3⟩
  rcases turn i n σ3 H3 w3 with ⟨stop, qn⟩ | ⟨go, N, hN, step⟩
  · refine wpAny_passesOwn hp (thn (T.done X rfl rfl rfl hc i pins s3 σ3 H3 X.xe I3 (stat fr3) st3 stop) fun r s4 ⟨hr, I4⟩ => ?_)
    subst hr
    exact wpAny_execs_nil ⟨σ3, H3, I4, qn⟩
  · refine wpAny_passesOwn hp (thn (T.item X rfl rfl rfl hc i pins s3 σ3 H3 X.xe I3 (stat fr3) st3 go) fun r s4 ⟨u, hr, h4⟩ => ?_)
    subst hr
    refine wpAny_passesOwn hp (thn h4 fun _ s5 ⟨x, H5, I5, r5, y5, st5, fr5⟩ => ?_)
    have I5' := I5.pinned (stat fr5) (T.obj _ _ st5)
    refine wpAny_passesOwn hp (thn (hg _ s5 σ3 H5 x u _ I5' r5 (step x H5 y5)) fun _ s6 ⟨σ6, H6, I6, q6⟩ => ?_)
    refine wpAny_passesOwn hp (thn (hb _ s6 σ6 H6 _ I6 q6) fun f s7 q7 => ?_)
    have again : ∀ {σ7 : St} {H7 : Hp}, Inv X (pins ++ pinsAt fp s5.heap) σ7 H7 s7 → N σ7 H7 → ∃ m, m < n ∧ ∃ i σ' H', Inv X pins σ' H' s7 ∧ tn i s7.heap ∧ (∀ b ∈ fp, H' b = none) ∧ W i m σ' H' := fun {σ7 H7} I7 n7 => by
      obtain ⟨m', hm, w7⟩ := hN σ7 H7 n7
      refine ⟨m', hm, i + 1, σ7, H7, I7.unpinned, T.keep _ _ _ st5 fun b hb o e => (I7.pin (b, o) (List.mem_append_right _ (List.mem_append_right _ (mem_pinsAt hb e)))).1, fun b hb => ?_, w7⟩
      obtain ⟨o, e, d⟩ := T.obj _ _ st5 b hb
      exact (I7.pin (b, o) (List.mem_append_right _ (List.mem_append_right _ (mem_pinsAt hb e)))).2.1
    cases f with
    | next => obtain ⟨σ7, H7, I7, n7⟩ := q7; exact again I7 n7
    | cont => obtain ⟨σ7, H7, I7, n7⟩ := q7; exact again I7 n7
    | brk => obtain ⟨σ7, H7, I7, q7⟩ := q7; exact ⟨σ7, H7, I7.unpinned, q7⟩
    | ret v => obtain ⟨x7, σ7, H7, I7, r7, q7⟩ := q7; exact ⟨x7, σ7, H7, I7.unpinned, r7, q7⟩
end

/-! ### the forms one uses -/
/-- over a list that the body leaves as it is -/
theorem for_list {K : PySem.W.Frag} {a : Addr} {xs : List V} {g : TG} {tb : TS} {D : Ends} {σ : St} {H : Hp} (Pv : Nat → St → Hp → Prop) (h0 : Pv 0 σ H) (hl : ∀ i σ H, i ≤ xs.length → Pv i σ H → SqL K H a xs)
    (hs : ∀ i x σ H, xs[i]? = some x → Pv i σ H → g x σ H fun σ2 H2 => tb { D with nx := Pv (i + 1), ct := Pv (i + 1), bk := D.nx } σ2 H2) (hd : ∀ σ H, Pv xs.length σ H → D.nx σ H) :
    ∃ W : Nat → Nat → St → Hp → Prop, (∃ m, W 0 m σ H) ∧ ∀ i m σ H, W i m σ H →
      ((Itl K a).stop i H ∧ D.nx σ H) ∨ ((Itl K a).go i H ∧ ∃ N : St → Hp → Prop, (∀ σ' H', N σ' H' → ∃ m', m' < m ∧ W (i + 1) m' σ' H') ∧ ∀ x H', (Itl K a).yld i H x H' → g x σ H' fun σ2 H2 => tb { D with nx := N, ct := N, bk := D.nx } σ2 H2) := by
  refine ⟨fun i m σ H => m = xs.length - i ∧ i ≤ xs.length ∧ Pv i σ H, ⟨xs.length, by simp, Nat.zero_le _, h0⟩, ?_⟩
  rintro i m σ H ⟨rfl, hi, p⟩
  have q := hl i σ H hi p
  by_cases hlt : i < xs.length
  · refine .inr ⟨⟨xs, xs[i], q, by simp [hlt]⟩, Pv (i + 1), fun σ' H' p' => ⟨xs.length - (i + 1), by omega, rfl, hlt, p'⟩, fun x H' y => ?_⟩
    obtain ⟨e, y⟩ := y
    subst e
    exact hs i x σ _ (y xs q) p
  · have e : i = xs.length := by omega
    subst e
    exact .inl ⟨⟨xs, q, Nat.le_refl _⟩, hd σ H p⟩
/-- while, by a word and a measure of the state -/
theorem while_by {c : TT} {tb : TS} {D : Ends} {σ : St} {H : Hp} (Pv : St → Hp → Prop) (μ : St → Hp → Nat) (h0 : Pv σ H)
    (hs : ∀ σ H, Pv σ H → c σ H fun b H1 => if b = true then tb { D with nx := fun σ' H' => Pv σ' H' ∧ μ σ' H' < μ σ H, ct := fun σ' H' => Pv σ' H' ∧ μ σ' H' < μ σ H, bk := D.nx } σ H1 else D.nx σ H1)
    (mono : ∀ σ H Q Q', (∀ b H1, Q b H1 → Q' b H1) → c σ H Q → c σ H Q') : tWhile c tb D σ H := by
  refine ⟨fun m σ H => m = μ σ H ∧ Pv σ H, ⟨_, rfl, h0⟩, ?_⟩
  rintro m σ H ⟨rfl, p⟩
  refine mono σ H _ _ (fun b H1 q => ?_) (hs σ H p)
  cases b with
  | true => exact ⟨_, fun σ' H' ⟨p', l⟩ => ⟨_, l, rfl, p'⟩, q⟩
  | false => exact q
end L2

namespace L2
open PySem PySem.Spec PyProof.Rows

abbrev R2 := V → V → Hp → VK → Prop
/-- a two-place operation on values: f is binaryOp op, inplaceOp op or compareOp op -/
def OpR (X : Cx) (f : Value → Value → Sem Value) (r : R2) : Prop :=
  ∀ (pins : List (Addr × Obj)) (s : Shared) (σ : St) (H : Hp) (x y : V) (v u : Value) (Q : VK), Inv X pins σ H s → RelV x v → RelV y u → r x y H Q →
    wpAny (model X.prog X.w) X.A (f v u) (EP X pins σ Q) X.xe s
/-- a one-place operation -/
def UnR (X : Cx) (f : Value → Sem Value) (r : V → Hp → VK → Prop) : Prop :=
  ∀ (pins : List (Addr × Obj)) (s : Shared) (σ : St) (H : Hp) (x : V) (v : Value) (Q : VK), Inv X pins σ H s → RelV x v → r x H Q →
    wpAny (model X.prog X.w) X.A (f v) (EP X pins σ Q) X.xe s
/-- a call of a value that is known (a builtin, a type) with values -/
def CallR (X : Cx) (f : Value) (r : List V → Hp → VK → Prop) : Prop :=
  ∀ (pins : List (Addr × Obj)) (s : Shared) (σ : St) (H : Hp) (xs : List V) (us : List Value) (Q : VK), Inv X pins σ H s → Vals xs us → r xs H Q →
    wpAny (model X.prog X.w) X.A (call f us) (EP X pins σ Q) X.xe s
/-- a value's truth -/
def TruR (X : Cx) (r : V → Hp → (Bool → Hp → Prop) → Prop) : Prop :=
  ∀ (pins : List (Addr × Obj)) (s : Shared) (σ : St) (H : Hp) (x : V) (v : Value) (Q : Bool → Hp → Prop), Inv X pins σ H s → RelV x v → r x H Q →
    wpAny (model X.prog X.w) X.A (truthy v) (TP X pins σ Q) X.xe s

def tOp (r : R2) (ta tb : TE) : TE := fun σ H Q => ta σ H fun x H1 => tb σ H1 fun y H2 => r x y H2 Q
/-- ints in, under C, and a value out -/
def rI (C : Int → Int → Prop) (g : Int → Int → V) : R2 := fun x y H Q => ∃ i j, x = .int i ∧ y = .int j ∧ C i j ∧ Q (g i j) H
def rI0 (g : Int → Int → V) : R2 := fun x y H Q => ∃ i j, x = .int i ∧ y = .int j ∧ Q (g i j) H
section
variable {X : Cx} {a b c : Expr} {ta tb tc : TE} {pos : Pos}

theorem binT (ha : PE X a ta) (hb : PE X b tb) {pins : List (Addr × Obj)} {s : Shared} {σ : St} {H : Hp} {R : V → V → Hp → Prop} (I : Inv X pins σ H s)
    (h : ta σ H fun x H1 => tb σ H1 fun y H2 => R x y H2) {Q : Value → Shared → Prop} {f : Value → Value → Sem Value}
    (hf : ∀ v u s2 x y H2, Inv X pins σ H2 s2 → RelV x v → RelV y u → R x y H2 → wpAny (model X.prog X.w) X.A (f v u) Q X.xe s2) :
    wpAny (model X.prog X.w) X.A (eval a X.env) (fun v s₁ => wpAny (model X.prog X.w) X.A (eval b X.env) (fun u s₂ => wpAny (model X.prog X.w) X.A (f v u) Q X.xe s₂) X.xe s₁) X.xe s := by
  refine thn (ha pins s σ H _ I h) fun v s1 ⟨x, H1, I1, r1, q1⟩ => ?_
  refine thn (hb pins s1 σ H1 _ I1 q1) fun u s2 ⟨y, H2, I2, r2, q2⟩ => ?_
  exact hf v u s2 x y H2 I2 r1 r2 q2

theorem pe_op {op : Operator} {r : R2} (ho : OpR X (binaryOp op) r) (ha : PE X a ta) (hb : PE X b tb) : PE X (.BinOp a op b pos) (tOp r ta tb) := by
  intro pins s σ H Q I h
  exact wpAny_BinOp (binT ha hb I h fun v u s2 x y H2 I2 rx ry q => ho pins s2 σ H2 x y v u Q I2 rx ry q)
/-! ### ints -/
theorem opI {f : Value → Value → Sem Value} {C : Int → Int → Prop} {g : Int → Int → Int}
    (rule : ∀ (i j : Int) (t u : Tok) (s : Shared) (Q : Value → Shared → Prop) (E : Value → Shared → Prop), C i j → Q (.int (g i j) s.toks) { s with toks := s.toks + 1 } → wpAny (model X.prog X.w) X.A (f (.int i t) (.int j u)) Q E s) :
    OpR X f (rI C fun i j => .int (g i j)) := by
  intro pins s σ H x y v u Q I rx ry h
  obtain ⟨i, j, rfl, rfl, hc, q⟩ := h
  obtain ⟨t, rfl⟩ := rx
  obtain ⟨t', rfl⟩ := ry
  exact rule i j t t' s _ _ hc ⟨.int (g i j), H, I.tok _, ⟨_, rfl⟩, q⟩
theorem opI0 {f : Value → Value → Sem Value} {g : Int → Int → Int}
    (rule : ∀ (i j : Int) (t u : Tok) (s : Shared) (Q : Value → Shared → Prop) (E : Value → Shared → Prop), Q (.int (g i j) s.toks) { s with toks := s.toks + 1 } → wpAny (model X.prog X.w) X.A (f (.int i t) (.int j u)) Q E s) :
    OpR X f (rI0 fun i j => .int (g i j)) := by
  intro pins s σ H x y v u Q I rx ry h
  obtain ⟨i, j, rfl, rfl, q⟩ := h
  obtain ⟨t, rfl⟩ := rx
  obtain ⟨t', rfl⟩ := ry
  exact rule i j t t' s _ _ ⟨.int (g i j), H, I.tok _, ⟨_, rfl⟩, q⟩
theorem opB0 {f : Value → Value → Sem Value} {g : Int → Int → Bool}
    (rule : ∀ (i j : Int) (t u : Tok) (s : Shared) (Q : Value → Shared → Prop) (E : Value → Shared → Prop), Q (.bool (g i j)) s → wpAny (model X.prog X.w) X.A (f (.int i t) (.int j u)) Q E s) :
    OpR X f (rI0 fun i j => .bl (g i j)) := by
  intro pins s σ H x y v u Q I rx ry h
  obtain ⟨i, j, rfl, rfl, q⟩ := h
  obtain ⟨t, rfl⟩ := rx
  obtain ⟨t', rfl⟩ := ry
  exact rule i j t t' s _ _ ⟨.bl (g i j), H, I, rfl, q⟩

def CDiv (i j : Int) : Prop := 0 < j ∧ j < 1073741824
def CPow (i j : Int) : Prop := 0 ≤ j ∧ j ≤ 1000000 ∧ i.natAbs < 2 ^ 64
def CMul (i j : Int) : Prop := (-(2 ^ 64) < i ∧ i < 2 ^ 64) ∨ (-(2 ^ 64) < j ∧ j < 2 ^ 64)
theorem CMul.ok {i j : Int} (h : CMul i j) : IntMulOk i j := by
  rcases h with ⟨h1, h2⟩ | ⟨h1, h2⟩
  · exact .of_left (intBits_le_64 h1 h2)
  · exact .of_right (intBits_le_64 h1 h2)
theorem op_add : OpR X (binaryOp .Add) (rI0 fun i j => .int (i + j)) := opI0 fun _ _ _ _ _ _ _ q => add_int q
theorem op_sub : OpR X (binaryOp .Sub) (rI0 fun i j => .int (i - j)) := opI0 fun _ _ _ _ _ _ _ q => sub_int q
/-- // by a positive divisor -/
theorem op_fdiv : OpR X (binaryOp .FloorDiv) (rI CDiv fun i j => .int (i / j)) := opI fun i j _ _ _ _ _ hc q => by
  have h1 : (0 : Int) < j := hc.1
  have h2 : j < 1073741824 := hc.2
  exact floordiv_int (by omega) (by rw [Int.fdiv_eq_ediv_of_nonneg i (by omega)]; exact q) (.inl (PyProof.noPylong_small (by omega)))
/-- % by a positive divisor of any size -/
theorem op_mod : OpR X (binaryOp .Mod) (rI (fun _ j => 0 < j) fun i j => .int (i % j)) := opI fun i j _ _ _ _ _ hc q => by
  have h1 : (0 : Int) < j := hc
  exact mod_int' (by omega) (by rw [Int.fmod_eq_emod_of_nonneg i (by omega)]; exact q)
end

/-! ### comparisons -/
/-- the scalars that == tells apart as data does -/
def scal : V → V → Bool
  | .non, .non => true | .non, .int _ => true | .int _, .non => true | .non, .bl _ => true | .bl _, .non => true | .non, .str _ => true | .str _, .non => true
  | .int _, .int _ => true | .bl _, .bl _ => true | .str _, .str _ => true | .byt _, .byt _ => true
  | .int _, .str _ => true | .str _, .int _ => true | .bl _, .str _ => true | .str _, .bl _ => true
  | _, _ => false
def rEq : R2 := fun x y H Q => scal x y = true ∧ Q (.bl (decide (x = y))) H
def rNe : R2 := fun x y H Q => scal x y = true ∧ Q (.bl (!decide (x = y))) H

theorem dec_int {i j : Int} : decide (V.int i = V.int j) = (i == j) := by
  rw [Bool.eq_iff_iff]
  simp
theorem dec_bl {i j : Bool} : decide (V.bl i = V.bl j) = (i == j) := by
  rw [Bool.eq_iff_iff]
  simp
theorem dec_str {i j : Str} : decide (V.str i = V.str j) = (i == j) := by
  rw [Bool.eq_iff_iff]
  simp
theorem dec_byt {i j : Array UInt8} : decide (V.byt i = V.byt j) = (i.toList == j.toList) := by
  rw [Bool.eq_iff_iff]
  cases i
  cases j
  simp

section
variable {X : Cx} {a b c : Expr} {ta tb tc : TE} {pos : Pos}
theorem fin_bl {pins : List (Addr × Obj)} {σ : St} {H : Hp} {s : Shared} {Q : VK} {k k' : Bool} (I : Inv X pins σ H s) (q : Q (.bl k) H) (e : k = k') : EP X pins σ Q (.bool k') s := by
  subst e
  exact ⟨.bl k, H, I, rfl, q⟩
theorem op_eq : OpR X (compareOp .Eq) rEq := by
  intro pins s σ H x y v u Q I rx ry h
  obtain ⟨hs, q⟩ := h
  cases x with
  | non =>
    cases rx
    cases y with
    | non => cases ry; exact PySem.EqNone.eq_none_none (fin_bl I q (by simp))
    | bl j => cases ry; exact PySem.EqNone.eq_none_bool (fin_bl I q (by simp))
    | int j => obtain ⟨t', rfl⟩ := ry; exact PySem.EqNone.eq_none_int (fin_bl I q (by simp))
    | str j => obtain ⟨t', rfl⟩ := ry; exact PySem.EqNone.eq_none_str (fin_bl I q (by simp))
    | _ => exact absurd (show false = true from hs) Bool.false_ne_true
  | bl i =>
    cases rx
    cases y with
    | non => cases ry; exact PySem.EqNone.eq_bool_none (fin_bl I q (by simp))
    | bl j => cases ry; exact eq_bool (fin_bl I q dec_bl)
    | str j => obtain ⟨t', rfl⟩ := ry; exact PySem.EqMixed.eq_bool_str (fin_bl I q (by simp))
    | _ => exact absurd (show false = true from hs) Bool.false_ne_true
  | int i =>
    obtain ⟨t, rfl⟩ := rx
    cases y with
    | non => cases ry; exact PySem.EqNone.eq_int_none (fin_bl I q (by simp))
    | int j => obtain ⟨t', rfl⟩ := ry; exact eq_int (fin_bl I q dec_int)
    | str j => obtain ⟨t', rfl⟩ := ry; exact PySem.EqMixed.eq_int_str (fin_bl I q (by simp))
    | _ => exact absurd (show false = true from hs) Bool.false_ne_true
  | str i =>
    obtain ⟨t, rfl⟩ := rx
    cases y with
    | non => cases ry; exact PySem.EqNone.eq_str_none (fin_bl I q (by simp))
    | bl j => cases ry; exact PySem.EqMixed.eq_str_bool (fin_bl I q (by simp))
    | int j => obtain ⟨t', rfl⟩ := ry; exact PySem.EqMixed.eq_str_int (fin_bl I q (by simp))
    | str j => obtain ⟨t', rfl⟩ := ry; exact eq_str (fin_bl I q dec_str)
    | _ => exact absurd (show false = true from hs) Bool.false_ne_true
  | byt i =>
    obtain ⟨t, rfl⟩ := rx
    cases y with
    | byt j => obtain ⟨t', rfl⟩ := ry; exact PySem.W.eq_bytes (fin_bl I q dec_byt)
    | _ => exact absurd (show false = true from hs) Bool.false_ne_true
  | _ => cases y <;> exact absurd (show false = true from hs) Bool.false_ne_true
theorem op_ne : OpR X (compareOp .NotEq) rNe := by
  intro pins s σ H x y v u Q I rx ry h
  obtain ⟨hs, q⟩ := h
  cases x with
  | non =>
    cases rx
    cases y with
    | non => cases ry; exact PySem.EqNone.ne_none_none (fin_bl I q (by simp))
    | bl j => cases ry; exact PySem.EqNone.ne_none_bool (fin_bl I q (by simp))
    | int j => obtain ⟨t', rfl⟩ := ry; exact PySem.EqNone.ne_none_int (fin_bl I q (by simp))
    | str j => obtain ⟨t', rfl⟩ := ry; exact PySem.EqNone.ne_none_str (fin_bl I q (by simp))
    | _ => exact absurd (show false = true from hs) Bool.false_ne_true
  | bl i =>
    cases rx
    cases y with
    | non => cases ry; exact PySem.EqNone.ne_bool_none (fin_bl I q (by simp))
    | bl j => cases ry; exact ne_bool (fin_bl I q (congrArg not dec_bl))
    | str j => obtain ⟨t', rfl⟩ := ry; exact PySem.EqMixed.ne_bool_str (fin_bl I q (by simp))
    | _ => exact absurd (show false = true from hs) Bool.false_ne_true
  | int i =>
    obtain ⟨t, rfl⟩ := rx
    cases y with
    | non => cases ry; exact PySem.EqNone.ne_int_none (fin_bl I q (by simp))
    | int j => obtain ⟨t', rfl⟩ := ry; exact ne_int (fin_bl I q (congrArg not dec_int))
    | str j => obtain ⟨t', rfl⟩ := ry; exact PySem.EqMixed.ne_int_str (fin_bl I q (by simp))
    | _ => exact absurd (show false = true from hs) Bool.false_ne_true
  | str i =>
    obtain ⟨t, rfl⟩ := rx
    cases y with
    | non => cases ry; exact PySem.EqNone.ne_str_none (fin_bl I q (by simp))
    | bl j => cases ry; exact PySem.EqMixed.ne_str_bool (fin_bl I q (by simp))
    | int j => obtain ⟨t', rfl⟩ := ry; exact PySem.EqMixed.ne_str_int (fin_bl I q (by simp))
    | str j => obtain ⟨t', rfl⟩ := ry; exact ne_str (fin_bl I q (congrArg not dec_str))
    | _ => exact absurd (show false = true from hs) Bool.false_ne_true
  | byt i =>
    obtain ⟨t, rfl⟩ := rx
    cases y with
    | byt j => obtain ⟨t', rfl⟩ := ry; exact PySem.W.ne_bytes (fin_bl I q (congrArg not dec_byt))
    | _ => exact absurd (show false = true from hs) Bool.false_ne_true
  | _ => cases y <;> exact absurd (show false = true from hs) Bool.false_ne_true

theorem op_lt : OpR X (compareOp .Lt) (rI0 fun i j => .bl (decide (i < j))) := opB0 fun _ _ _ _ _ _ _ q => lt_int q
theorem op_le : OpR X (compareOp .LtE) (rI0 fun i j => .bl (decide (i ≤ j))) := opB0 fun _ _ _ _ _ _ _ q => le_int q
theorem op_gt : OpR X (compareOp .Gt) (rI0 fun i j => .bl (decide (j < i))) := opB0 fun _ _ _ _ _ _ _ q => gt_int q
theorem op_ge : OpR X (compareOp .GtE) (rI0 fun i j => .bl (decide (j ≤ i))) := opB0 fun _ _ _ _ _ _ _ q => ge_int q
theorem nomark (b : Expr) {op : CmpOp} (h : op ≠ .In := by decide) (h2 : op ≠ .NotIn := by decide) : behindInMarks op b = false := by
  have e1 : (op == CmpOp.In) = false := by cases op <;> first | rfl | exact absurd rfl h
  have e2 : (op == CmpOp.NotIn) = false := by cases op <;> first | rfl | exact absurd rfl h2
  cases b <;> simp [behindInMarks, e1, e2]
/-- a comparison as a value; hm: nomark b, or (for in, not in) by with_unfolding_all rfl -/
theorem pe_cmpR {op : CmpOp} {r : R2} (ho : OpR X (compareOp op) r) (ha : PE X a ta) (hb : PE X b tb) (hm : behindInMarks op b = false) : PE X (.Compare a [op] [b] pos) (tOp r ta tb) := by
  intro pins s σ H Q I h
  exact wpAny_Compare1 (binT ha hb I h fun v u s2 x y H2 I2 rx ry q => ho pins s2 σ H2 x y v u Q I2 rx ry q) hm
/-- a reading of a value as a test -/
def tTest (t : TE) : TT := fun σ H Q => t σ H fun x H' => ∃ k, x = .bl k ∧ Q k H'
theorem pt_cmpR {op : CmpOp} {r : R2} (ho : OpR X (compareOp op) r) (ha : PE X a ta) (hb : PE X b tb) (hm : behindInMarks op b = false) : PT X (.Compare a [op] [b] pos) (tTest (tOp r ta tb)) := by
  intro pins s σ H Q I h
  refine wpAny_isTrue_Compare1 (thn (ha pins s σ H _ I h) fun v s1 ⟨x, H1, I1, r1, q1⟩ => thn (hb pins s1 σ H1 _ I1 q1) fun u s2 ⟨y, H2, I2, r2, q2⟩ =>
    thn (ho pins s2 σ H2 x y v u _ I2 r1 r2 q2) fun c s3 ⟨z, H3, I3, r3, k, e, q3⟩ => ?_) hm
  subst e
  cases r3
  exact wpAny_truthy_bool ⟨H3, I3, q3⟩
/-! ### truth -/
/-- a value's truth by the abstract heap -/
def TruV (K : PySem.W.Frag) (x : V) (H : Hp) (k : Bool) : Prop :=
  match x with
  | .non => k = false
  | .bl b => k = b
  | .int i => k = (i != 0)
  | .str y => y.length ≤ sizeLine ∧ k = ((y.length : Int) != 0)
  | .byt y => y.size ≤ sizeLine ∧ k = ((y.size : Int) != 0)
  | .ref p => (∃ xs, SqL K H p xs ∧ k = !xs.isEmpty) ∨ (∃ xs, SqT K H p xs ∧ k = !xs.isEmpty) ∨ ∃ kvs, H p = some (.dK kvs) ∧ k = !kvs.isEmpty
  | _ => False
theorem isEmpty_kv {κ : Type} {kvs : List (κ × V)} {vs : List (κ × Value)} (r : KV kvs vs) : (!vs.isEmpty) = !kvs.isEmpty := by
  cases r <;> rfl
theorem isEmpty_of {xs : List V} {its : List Value} (r : Vals xs its) : (!its.toArray.isEmpty) = !xs.isEmpty := by
  cases r <;> simp
theorem line63 : (sizeLine : Nat) < 2 ^ 63 := by rw [sizeLine_eq]; decide
theorem tru_ok : TruR X (fun x H Q => ∃ k, TruV X.K x H k ∧ Q k H) := by
  intro pins s σ H x v Q I rx h
  obtain ⟨k, e, q⟩ := h
  have hl := line63
  have hs : sizeLine = 16777216 := sizeLine_eq
  cases x with
  | non =>
    cases rx
    have e' : k = false := e
    subst e'
    exact truthy_none ⟨H, I, q⟩
  | bl b =>
    cases rx
    have e' : k = b := e
    subst e'
    exact wpAny_truthy_bool ⟨H, I, q⟩
  | int i =>
    obtain ⟨t, rfl⟩ := rx
    have e' : k = (i != 0) := e
    subst e'
    exact PySem.P.truthy_int ⟨H, I, q⟩
  | str y =>
    obtain ⟨t, rfl⟩ := rx
    obtain ⟨hy, e'⟩ : y.length ≤ sizeLine ∧ k = ((y.length : Int) != 0) := e
    subst e'
    exact PySem.P.truthy_str (by omega) ⟨H, I.tok _, q⟩
  | byt y =>
    obtain ⟨t, rfl⟩ := rx
    obtain ⟨hy, e'⟩ : y.size ≤ sizeLine ∧ k = ((y.size : Int) != 0) := e
    subst e'
    exact PySem.W.truthy_bytes (by omega) ⟨H, I.tok _, q⟩
  | ref p =>
    cases rx
    have e' : (∃ xs, SqL X.K H p xs ∧ k = !xs.isEmpty) ∨ (∃ xs, SqT X.K H p xs ∧ k = !xs.isEmpty) ∨ ∃ kvs, H p = some (.dK kvs) ∧ k = !kvs.isEmpty := e
    rcases e' with ⟨xs, hx, e'⟩ | ⟨xs, hx, e'⟩ | ⟨kvs, hx, e'⟩
    · subst e'
      obtain ⟨its, r, pl, hz⟩ := I.list hx
      have hlen := r.length
      exact wpAny_truthy_list pl.isList (by simp only [List.size_toArray]; omega) ⟨H, I.tok _, by rw [isEmpty_of r]; exact q⟩
    · subst e'
      obtain ⟨its, r, pl, hz⟩ := I.tuple hx
      have hlen := r.length
      exact truthy_tuple pl (by simp only [List.size_toArray]; omega) ⟨H, I.tok _, by rw [isEmpty_of r]; exact q⟩
    · subst e'
      obtain ⟨hz, hS, vs, r, m⟩ : kvs.length ≤ sizeLine ∧ (p == sysModules) = false ∧ ∃ vs, KV kvs vs ∧ s.heap.DictOf (mixKind X.prog X.w) p vs := I.hok p _ hx
      have hlen : kvs.length = vs.length := Paired.length r
      exact wpAny_truthy_dict hS m (by omega) ⟨H, I.tok _, by rw [isEmpty_kv r]; exact q⟩
  | _ => exact (show False from e).elim
/-! ### scalar builtins, by CallR -/
theorem vals1 {x : V} {us : List Value} (r : Vals [x] us) : ∃ u, us = [u] ∧ RelV x u := by
  cases r with
  | cons r1 r2 => cases r2; exact ⟨_, rfl, r1⟩
/-- len of a str, a bytes, a list, a tuple -/
def LenV (K : PySem.W.Frag) (x : V) (H : Hp) (n : Nat) : Prop :=
  match x with
  | .str y => y.length ≤ sizeLine ∧ n = y.length
  | .byt y => y.size ≤ sizeLine ∧ n = y.size
  | .ref p => (∃ xs, SqL K H p xs ∧ n = xs.length) ∨ ∃ xs, SqT K H p xs ∧ n = xs.length
  | _ => False
theorem call_len : CallR X (.builtin "len") (fun xs H Q => ∃ x n, xs = [x] ∧ LenV X.K x H n ∧ Q (.int n) H) := by
  intro pins s σ H xs us Q I r h
  obtain ⟨x, n, rfl, e, q⟩ := h
  obtain ⟨u, rfl, rx⟩ := vals1 r
  have hl := line63
  have hs : sizeLine = 16777216 := sizeLine_eq
  cases x with
  | str y =>
    obtain ⟨t, rfl⟩ := rx
    obtain ⟨hy, e'⟩ : y.length ≤ sizeLine ∧ n = y.length := e
    subst e'
    exact len_str (by omega) ⟨.int _, H, I.tok _, ⟨_, rfl⟩, q⟩
  | byt y =>
    obtain ⟨t, rfl⟩ := rx
    obtain ⟨hy, e'⟩ : y.size ≤ sizeLine ∧ n = y.size := e
    subst e'
    exact PySem.W.len_bytes (by omega) ⟨.int _, H, I.tok _, ⟨_, rfl⟩, q⟩
  | ref p =>
    cases rx
    have e' : (∃ xs, SqL X.K H p xs ∧ n = xs.length) ∨ ∃ xs, SqT X.K H p xs ∧ n = xs.length := e
    rcases e' with ⟨xs, hx, e'⟩ | ⟨xs, hx, e'⟩
    · subst e'
      obtain ⟨its, r', pl, hz⟩ := I.list hx
      have hlen := r'.length
      exact Calls.call_len_list pl.isList (by simp only [List.size_toArray]; omega) ⟨.int xs.length, H, I.tok _, ⟨_, by simp only [List.size_toArray]; rw [hlen]⟩, q⟩
    · subst e'
      obtain ⟨its, r', pl, hz⟩ := I.tuple hx
      have hlen := r'.length
      exact len_tuple pl (by simp only [List.size_toArray]; omega) ⟨.int xs.length, H, I.tok _, ⟨_, by simp only [List.size_toArray]; rw [hlen]⟩, q⟩
  | _ => exact (show False from e).elim
end
end L2

namespace L2
open PySem PySem.Spec PyProof.Rows

section
variable {prog : Program} {w : World} {A : Around} {E : Value → Shared → Prop} {s : Shared} {K : PySem.W.Frag} {x dx C f : Addr} {mA : Str → Option Value} {name : Str} {v : Value}

end

theorem RelO.some_of {v : V} {o : Option Value} (r : RelO (some v) o) : ∃ u, o = some u ∧ RelV v u := by
  cases o with
  | none => exact (show False from r).elim
  | some u => exact ⟨u, rfl, r⟩
section
variable {P : Program} {w : World} {H H' : Hp} {h h' : Heap} {a C dx : Addr} {fs fs' : List (Str × V)}
end

section
variable {X : Cx} {pins : List (Addr × Obj)} {σ : St} {H : Hp} {s : Shared} {a C dx : Addr} {fs : List (Str × V)} {f : Str} {v : V} {A : Around} {E : Value → Shared → Prop}

end

section
variable {X : Cx} {o e value : Expr} {f : Str} {pos pos' tpos : Pos} {ta tv : TE}
end

/-! ### isinstance -/
section
variable {X : Cx} {pins : List (Addr × Obj)} {σ : St} {H : Hp} {s : Shared} {A : Around} {E : Value → Shared → Prop} {Q : Value → Shared → Prop} {c : Value} {b : Bool}
end
end L2

namespace L2
open PySem PySem.Spec PyProof.Rows

/-! ### room -/
structure Room (k : Nat) (A : Around) : Prop where
  hd : A.handled = none
  dp : A.depth + 3 * k + 5 < recursionLimit
  un : A.units + 16 * k + 200 < cLine
theorem Room.mono {j k : Nat} {A : Around} (r : Room k A) (h : j ≤ k) : Room j A := ⟨r.hd, by have := r.dp; omega, by have := r.un; omega⟩
theorem Room.deeper {k : Nat} {A : Around} (r : Room (k + 1) A) (env : Env) : Room k (A.deeper env) :=
  ⟨r.hd, by have := r.dp; show A.depth + 1 + 3 * k + 5 < _; omega, by have := r.un; show A.units + 3 + 16 * k + 200 < _; omega⟩
theorem Room.depth {k : Nat} {A : Around} (r : Room k A) : A.depth < recursionLimit := by have := r.dp; omega
theorem Room.units {k : Nat} {A : Around} (r : Room k A) : A.units + 64 < cLine := by have := r.un; omega
/-! ### argument lists and displays -/
def tNil : TA := fun _ H Q => Q [] H
def tCons (ta : TE) (tr : TA) : TA := fun σ H Q => ta σ H fun x H1 => tr σ H1 fun xs H2 => Q (x :: xs) H2
section
variable {X : Cx} {e : Expr} {es : List Expr} {te : TE} {t : TA} {pos : Pos}
theorem pa_nil : PA X [] tNil := fun _ _ _ _ H Q I h => Calls.spliced_nil ⟨[], H, I, .nil, h⟩
theorem pa_cons (ha : PE X e te) (hr : PA X es t) (hs : starEach (e :: es) X.env = (false, eval e X.env) :: starEach es X.env := by rfl) : PA X (e :: es) (tCons te t) := by
  intro pos pins s σ H Q I h
  rw [hs]
  show wpAny _ _ (spliced ((false, eval e X.env) :: backTo pos (starEach es X.env))) _ _ s
  refine Calls.spliced_cons (thn (ha pins s σ H _ I h) fun u s1 ⟨x, H1, I1, r1, q1⟩ => ?_)
  exact thn (hr pos pins s1 σ H1 _ I1 q1) fun us s2 ⟨xs, H2, I2, r2, q2⟩ => ⟨x :: xs, H2, I2, .cons r1 r2, q2⟩

/-- a tuple, a list of written items -/
def tTup (t : TA) : TE := fun σ H Q => t σ H fun xs H1 => xs.length ≤ sizeLine ∧ ∀ p, H1 p = none → Q (.ref p) (upd H1 p (.tup xs))
def tLst (t : TA) : TE := fun σ H Q => t σ H fun xs H1 => xs.length ≤ sizeLine ∧ ∀ p, H1 p = none → Q (.ref p) (upd H1 p (.lst xs))
theorem pe_tup {x1} (h : PA X es t) : PE X (.Tuple es x1 pos) (tTup t) := by
  intro pins s σ H Q I hq
  refine wpAny_Tuple_spliced (thn (h pos pins s σ H _ I hq) fun us s1 ⟨xs, H1, I1, r, z, q⟩ => ⟨by rw [← r.length]; exact z, ?_⟩)
  have hf : H1 s1.heap.objs.size = none := I1.hok.fresh (Nat.le_refl _)
  refine ⟨.ref s1.heap.objs.size, upd H1 s1.heap.objs.size (.tup xs), I1.laid (t' := s1.toks) (fun b u e => Heap.get?_push_of_some _ e) (Nat.le_refl _) ?_, rfl, q _ hf⟩
  exact ⟨z, us, r, ⟨_, Heap.get?_push_size _ rfl, rfl, _, rfl⟩⟩
theorem pe_lst (h : PA X es t) : PE X (.List es pos) (tLst t) := by
  intro pins s σ H Q I hq
  refine wpAny_List_spliced (thn (h pos pins s σ H _ I hq) fun us s1 ⟨xs, H1, I1, r, z, q⟩ => ⟨by rw [← r.length]; exact z, ?_⟩)
  have hf : H1 s1.heap.objs.size = none := I1.hok.fresh (Nat.le_refl _)
  refine ⟨.ref s1.heap.objs.size, upd H1 s1.heap.objs.size (.lst xs), I1.laid (t' := s1.toks) (fun b u e => Heap.get?_push_of_some _ e) (Nat.le_refl _) ?_, rfl, q _ hf⟩
  exact ⟨z, us, 0, r, Heap.get?_push_size _ rfl⟩
end

/-! ### what a def promises -/
/-- a def's promise: the bound arguments in the parameters' order, the heap, the wanted end, the wanted exception -/
abbrev Sp := List V → Hp → VK → XK → Prop
/-- how an exception lies behind a call (file 08 gives it): the callers' frames, abstract heap and state ahead of the call, the wish, the exception, the state -/
abbrev CXT := List Env → Hp → Shared → XK → Value → Shared → Prop

/-- the state at a call -/
structure Env0 (P : Program) (w : World) (K : PySem.W.Frag) (mg : Str → Option Value) (base : Heap) (A : Around) (outer : List Env) (s : Shared) (H : Hp) : Prop where
  frames : A.frames = some outer
  mod : Mod K mg base
  bs : ∀ b o, base.get? b = some o → s.heap.get? b = some o ∧ H b = none
  bsz : base.objs.size ≤ s.heap.objs.size
  funs : s.heap.FunFrames base outer
  frf : ∀ b ∈ frs outer, H b = none
  hok : HOk P w H s.heap
  bare : AllBare s.gens
/-- a call's end -/
def CE (outer : List Env) (P : Program) (w : World) (H : Hp) (s : Shared) (Q : VK) (u : Value) (s' : Shared) : Prop :=
  ∃ v H', s'.os = s.os ∧ AllBare s'.gens ∧ Un (frs outer) [] H H' s.heap s'.heap ∧ HOk P w H' s'.heap ∧ RelV v u ∧ Q v H'
def CR (CX : CXT) (outer : List Env) (P : Program) (w : World) (H : Hp) (s : Shared) (Q : VK) (E : XK) (r : Result) (s' : Shared) : Prop :=
  match r with
  | .ok (.ret u) => CE outer P w H s Q u s'
  | .ok _ => False
  | .error e => CX outer H s E e s'
structure FnOk (P : Program) (w : World) (K : PySem.W.Frag) (mg : Str → Option Value) (base : Heap) (CX : CXT) (k : Nat) (f : Addr) (fd : FuncData) (ps : List Str) (sp : Sp) : Prop where
  len : ∀ vs H Q E, sp vs H Q E → vs.length = ps.length
  run : ∀ (A : Around) (outer : List Env) (s : Shared) (H : Hp) (args : Args) (us : List Value) (vs : List V) (Q : VK) (E : XK), Room k A → Env0 P w K mg base A outer s H → BindsTo s fd args (ps.zip us) → Vals vs us → sp vs H Q E →
    codeAny (model P w) A (.call (.ref f) args) (CR CX outer P w H s Q E) s
/-- a weaker promise -/
theorem FnOk.imp {P : Program} {w : World} {K : PySem.W.Frag} {mg : Str → Option Value} {base : Heap} {CX : CXT} {k : Nat} {f : Addr} {fd : FuncData} {ps : List Str} {sp sp' : Sp} (F : FnOk P w K mg base CX k f fd ps sp)
    (h : ∀ vs H Q E, sp' vs H Q E → sp vs H Q E) : FnOk P w K mg base CX k f fd ps sp' :=
  ⟨fun vs H Q E q => F.len vs H Q E (h _ _ _ _ q), fun A outer s H args us vs Q E hr he hb hv hs => F.run A outer s H args us vs Q E hr he hb hv (h _ _ _ _ hs)⟩

section
variable {X : Cx} {pins : List (Addr × Obj)} {σ : St} {H : Hp} {s s' : Shared}
/-- from a body: what a callee wants -/
theorem Inv.env0 (I : Inv X pins σ H s) : Env0 X.prog X.w X.K X.mg X.base X.A X.stack s H :=
  ⟨I.ok.frames, I.ok.mod, I.bs, Nat.le_trans I.ok.bsz I.sz, I.stack, I.stkFree, I.hok, I.bare⟩
/-- behind a call -/
theorem Inv.after {Q : VK} {u : Value} (I : Inv X pins σ H s) (h : CE X.stack X.prog X.w H s Q u s') : EP X pins σ Q u s' := by
  obtain ⟨v, H', os, bare, un, hok, r, q⟩ := h
  obtain ⟨hh, g, d, t, os'⟩ := s'
  obtain rfl : os' = s.os := os
  exact ⟨v, H', I.call (h' := hh) (g' := g) (d' := d) (t' := t) (ch := []) un hok bare (fun b z => absurd z (by simp)), r, q⟩
end

/-! ### calls -/
/-- f(..): the written arguments, then the defaults dvs; E: what is wanted of an exception -/
def tCall (sp : Sp) (dvs : List V) (E : XK) (t : TA) : TE := fun σ H Q => t σ H fun vs H1 => sp (vs ++ dvs) H1 Q E
/-- how the parameters are bound: us the positional arguments, kw the keywords' values by name, ds the defaults that fill up -/
def Binds (K : PySem.W.Frag) (fd : FuncData) (ps : List Str) (ds : List Value) : Prop :=
  ∀ (s : Shared) (us : List Value), K.In s.heap → (us ++ ds).length = ps.length → BindsTo s fd ⟨us, []⟩ (ps.zip (us ++ ds))
/-- every parameter is given -/
theorem Binds.all {K : PySem.W.Frag} {fd : FuncData} {ps : List Str} (h : ∀ us : List Value, us.length = ps.length → bindArgs fd ⟨us, []⟩ = pure (ps.zip us)) : Binds K fd ps [] := fun s us _ hl => by
  rw [List.append_nil] at hl ⊢
  exact .of_eq (h us hl)

/-- an exception of a callee reaches what this body wants of exceptions -/
def Passes (CX : CXT) (X : Cx) (E : XK) : Prop := ∀ (pins : List (Addr × Obj)) (σ : St) (H : Hp) (s : Shared) (e : Value) (s' : Shared), Inv X pins σ H s → CX X.stack H s E e s' → X.xe e s'

section
variable {X : Cx} {CX : CXT} {k : Nat} {f C : Addr} {fd : FuncData} {ps : List Str} {sp : Sp} {dvs : List V} {ds : List Value} {E : XK} {x m : Str} {p pos apos : Pos} {e o : Expr} {es : List Expr} {ta : TE} {t : TA}

/-- the callee runs -/
theorem run_fn {pins : List (Addr × Obj)} {σ : St} {H : Hp} {s : Shared} {Q : VK} {us : List Value} {vs : List V} (F : FnOk X.prog X.w X.K X.mg X.base CX k f fd ps sp) (hr : Room k X.A) (hb : Binds X.K fd ps ds) (hd : Vals dvs ds) (hx : Passes CX X E)
    (I : Inv X pins σ H s) (r : Vals vs us) (h : sp (vs ++ dvs) H Q E) : wpAny (model X.prog X.w) X.A (call (.ref f) us) (EP X pins σ Q) X.xe s := by
  have r2 : Vals (vs ++ dvs) (us ++ ds) := r.append hd
  have hl : (us ++ ds).length = ps.length := by rw [← r2.length]; exact F.len _ _ _ _ h
  refine wpAny_call (codeAny_mono (F.run X.A X.stack s H ⟨us, []⟩ (us ++ ds) (vs ++ dvs) Q E hr I.env0 (hb s us I.kIn hl) r2 h) fun r s' hq => ?_)
  cases r with
  | error e => exact hx pins σ H s e s' I hq
  | ok fl =>
    cases fl with
    | ret u => exact I.after hq
    | next => exact False.elim hq
    | brk => exact False.elim hq
    | cont => exact False.elim hq

theorem pe_call (F : FnOk X.prog X.w X.K X.mg X.base CX k f fd ps sp) (hr : Room k X.A) (hg : Gl X x) (hm : X.mg x = some (.ref f)) (hk : PySem.W.keepIn X.K (.ref f) = true) (hb : Binds X.K fd ps ds) (hd : Vals dvs ds) (hx : Passes CX X E)
    (ha : PA X (e :: es) t) (hdb : (x == ("__debug__" : Str)) = false := by decide) (he : starEach (e :: es) X.env = (false, eval e X.env) :: starEach es X.env := by rfl) (hpl : (backTo pos (starEach es X.env)).any (·.1) = false := by rfl) :
    PE X (.Call (.Name x p) (e :: es) [] pos) (tCall sp dvs E t) := by
  intro pins s σ H Q I h
  refine wpAny_Call_Name_kw (ld_glob I hg hm ?_ hdb)
  refine PySem.W.callWith_K (h₀ := X.base) I.ok.mod.kin hk (thn (ha pos pins s σ H _ I h) fun us s1 ⟨vs, H1, I1, r, q⟩ => ⟨I1.kIn, ?_⟩) he hpl
  exact run_fn F hr hb hd hx I1 r q
end

section
variable {X : Cx} {CX : CXT} {k : Nat} {f C : Addr} {fd : FuncData} {ps ks : List Str} {sp : Sp} {E : XK} {x m : Str} {p pos apos kpos : Pos} {e o : Expr} {es : List Expr} {kws : List Keyword} {te ta : TE} {t tk : TA} {nm : Option Str}
variable {g : List Value → List Value → List Value} {gV : List V → List V → List V}
end

/-! ### a def's body keeps its promise -/
/-- names: the parameters first -/
structure FnScope (N P : List Str) (sc : Scope) : Prop where
  kind : sc.kind = .function
  co : sc.isCoroutine = false
  gen : sc.isGenerator = false
  nd : N.Nodup
  pre : N.take P.length = P
  par : ∀ x ∈ P, sc.names.lookup x = some .local ∨ sc.names.lookup x = some .cell
  nofree : ∀ y ∈ sc.names, y.2 ≠ .free

theorem bindL_out {kindOf : Str → Option NameKind} {x : Str} : ∀ {binds : List (Str × Value)} {m : Str → Option Value}, (∀ v, (x, v) ∉ binds) → bindL kindOf binds m x = m x
  | [], _, _ => rfl
  | (n, v) :: r, m, h => by
    unfold bindL
    rw [bindL_out fun w hw => h w (List.mem_cons_of_mem _ hw)]
    split
    · have : x ≠ n := by rintro rfl; exact h v List.mem_cons_self
      simp [this]
    · rfl
theorem bindC_out {kindOf : Str → Option NameKind} {x : Str} : ∀ {binds : List (Str × Value)} {m : Str → Option Value}, (∀ v, (x, v) ∉ binds) → bindC kindOf binds m x = m x
  | [], _, _ => rfl
  | (n, v) :: r, m, h => by
    unfold bindC
    rw [bindC_out fun w hw => h w (List.mem_cons_of_mem _ hw)]
    split
    · rfl
    · have : x ≠ n := by rintro rfl; exact h v List.mem_cons_self
      simp [this]
theorem bindL_get {kindOf : Str → Option NameKind} {x : Str} {v : Value} : ∀ {P : List Str} {vs : List Value} {i : Nat} {m : Str → Option Value}, P.Nodup → P[i]? = some x → vs[i]? = some v → kindOf x = some .local →
    bindL kindOf (P.zip vs) m x = some v
  | [], _, _, _, _, h, _, _ => by simp at h
  | _ :: _, [], _, _, _, _, h, _ => by simp at h
  | p :: P, w :: vs, 0, m, nd, h1, h2, hk => by
    simp at h1 h2; subst h1; subst h2
    show bindL kindOf ((p, w) :: P.zip vs) m p = _
    unfold bindL
    rw [bindL_out fun v hv => (List.nodup_cons.mp nd).1 (List.of_mem_zip hv).1, if_pos hk]
    simp
  | p :: P, w :: vs, i + 1, m, nd, h1, h2, hk => by
    show bindL kindOf ((p, w) :: P.zip vs) m x = _
    unfold bindL
    exact bindL_get (i := i) (List.nodup_cons.mp nd).2 (by simpa using h1) (by simpa using h2) hk
theorem bindC_get {kindOf : Str → Option NameKind} {x : Str} {v : Value} : ∀ {P : List Str} {vs : List Value} {i : Nat} {m : Str → Option Value}, P.Nodup → P[i]? = some x → vs[i]? = some v → kindOf x ≠ some .local →
    bindC kindOf (P.zip vs) m x = some v
  | [], _, _, _, _, h, _, _ => by simp at h
  | _ :: _, [], _, _, _, _, h, _ => by simp at h
  | p :: P, w :: vs, 0, m, nd, h1, h2, hk => by
    simp at h1 h2; subst h1; subst h2
    show bindC kindOf ((p, w) :: P.zip vs) m p = _
    unfold bindC
    rw [bindC_out fun v hv => (List.nodup_cons.mp nd).1 (List.of_mem_zip hv).1, if_neg hk]
    simp
  | p :: P, w :: vs, i + 1, m, nd, h1, h2, hk => by
    show bindC kindOf ((p, w) :: P.zip vs) m x = _
    unfold bindC
    exact bindC_get (i := i) (List.nodup_cons.mp nd).2 (by simpa using h1) (by simpa using h2) hk

/-- the names' values at the entry -/
def start (N : List Str) (vs : List V) : St := vs.map some ++ List.replicate (N.length - vs.length) none

/-- the context of a def's body, at its entry; an exception leaves the frame, then lies as CX says -/
def cxOf (CX : CXT) (P : Program) (w : World) (K : PySem.W.Frag) (mg : Str → Option Value) (base : Heap) (N : List Str) (qual : Str) (scope : Scope) (f : Addr) (cd : Value) (A : Around) (outer : List Env) (s : Shared) (H : Hp) (E : XK) : Cx where
  prog := P
  w := w
  K := K
  mg := mg
  base := base
  A := A.deeper (envOfC qual scope s.heap.objs.size f cd)
  N := N
  s₀ := s
  H₀ := H
  env := envOfC qual scope s.heap.objs.size f cd
  outer := outer
  stack := envOfC qual scope s.heap.objs.size f cd :: outer
  ex := []
  calm := true
  fn := fun _ => true
  pn := []
  xe := fun e s' => wpAny (model P w) (A.deeper (envOfC qual scope s.heap.objs.size f cd)) (leaving (envOfC qual scope s.heap.objs.size f cd) e) (fun _ s'' => CX outer H s E e s'') (fun e' s'' => CX outer H s E e' s'') s'

theorem cell_has {sc : Scope} {n : Nat} {x : Str} (h : sc.names.lookup x = some .cell) : ∃ c, (cellsFrom n sc.names []).lookup x = some c := by
  have q := PySem.W.cellsFrom_some sc.names n [] (.inl h)
  exact Option.isSome_iff_exists.mp q

theorem inv_start {CX : CXT} {P : Program} {w : World} {K : PySem.W.Frag} {mg : Str → Option Value} {base : Heap} {N ps : List Str} {qual : Str} {scope : Scope} {f : Addr} {cd : Value} {A : Around} {outer : List Env} {s s1 : Shared} {H : Hp} {E : XK} {us : List Value} {vs : List V}
    (S : FnScope N ps scope) (hd : A.handled = none) (e0 : Env0 P w K mg base A outer s H) (hl : vs.length = ps.length) (r : Vals vs us)
    (x : InCallC s s.heap.objs.size (bindL (envOfC qual scope s.heap.objs.size f cd).kindOf (ps.zip us) fun _ => none) (cellsFrom (s.heap.objs.size + 1) scope.names []) (bindC (envOfC qual scope s.heap.objs.size f cd).kindOf (ps.zip us) fun _ => none) s1) :
    Inv (cxOf CX P w K mg base N qual scope f cd A outer s H E) [] (start N vs) H s1 := by
  have hpl : ps.length ≤ N.length := by have := congrArg List.length S.pre; rw [List.length_take] at this; omega
  obtain ⟨h1, tk, rfl, hk⟩ := x.done
  have noA : ∀ b : Addr, b ∉ (cxOf CX P w K mg base N qual scope f cd A outer s H E).ex := fun b z => absurd (show b ∈ ([] : List Addr) from z) (by simp)
  refine ⟨⟨e0.mod, S.kind, rfl, rfl, Nat.le_refl _, fun y z c h1 h2 => ?_, fun y hy => ?_, fun y c _ h => ?_, fun _ => hd, Around.frames_deeper e0.frames, .inr ⟨rfl, rfl⟩, fun b z => absurd z (noA b), e0.bs, e0.bsz, fun b _ _ => noA b, fun b z => absurd z (noA b), e0.funs, e0.frf⟩,
    rfl, e0.bare, Un.kept hk, ⟨_, x.toInCall.ns, fun i y v h1 h2 h3 => ?_⟩, fun y c h => ⟨_, x.cell y c h⟩, e0.hok.fresh (Nat.le_refl _), fun y c h => ?_, fun p hp => absurd (show p ∈ ([] : List (Addr × Obj)) from hp) (by simp), e0.hok.kept hk, ?_⟩
  · exact name_of_addr x.apart (PySem.mem_of_lookup h1) (PySem.mem_of_lookup h2)
  · have hy : scope.names.lookup y = some .cell ∨ scope.names.lookup y = some .free := hy
    rcases hy with hy | hy
    · exact cell_has hy
    · exact absurd rfl (S.nofree _ (PySem.mem_of_lookup hy))
  · exact Nat.le_of_lt (x.above y c (PySem.mem_of_lookup h))
  · have hi : i < vs.length := by
      unfold start at h2
      by_cases hi : i < vs.length
      · exact hi
      · rw [List.getElem?_append_right (by simpa using hi)] at h2
        rw [List.getElem?_replicate] at h2
        split at h2 <;> cases h2
    have ha : vs[i]? = some v := by
      unfold start at h2
      rw [List.getElem?_append_left (by simpa using hi), List.getElem?_map] at h2
      cases e : vs[i]? with
      | none => rw [e] at h2; cases h2
      | some a => rw [e] at h2; cases h2; rfl
    obtain ⟨u, hu, rv⟩ := r.get ha
    have hp : ps[i]? = some y := by
      rw [← S.pre, List.getElem?_take_of_lt (by omega)]; exact h1
    have ndP : ps.Nodup := by rw [← S.pre]; exact S.nd.sublist (List.take_sublist _ _)
    refine ⟨u, rv, ?_⟩
    rcases S.par y (List.mem_of_getElem? hp) with k | k
    · exact .inl ⟨k, bindL_get ndP hp hu k⟩
    · obtain ⟨c, e⟩ := cell_has (n := s.heap.objs.size + 1) k
      refine .inr ⟨.inl k, c, e, ?_⟩
      have q := x.cell y c e
      rw [bindC_get ndP hp hu (by show scope.names.lookup y ≠ _; rw [k]; decide)] at q
      exact q
  · exact e0.hok.fresh (Nat.le_of_lt (x.above y c (PySem.mem_of_lookup h)))
  · unfold start
    show _ = N.length
    rw [List.length_append, List.length_map, List.length_replicate]
    omega

/-- THE RULE: a def (or a method) of the text, by its body. The body's reading t is chosen for each entry; it is run at the parameters' values -/
theorem fn_of {CX : CXT} {P : Program} {w : World} {K : PySem.W.Frag} {mg : Str → Option Value} {base : Heap} {k : Nat} {f : Addr} {name qual : Str} {params : Arguments} {body : List Stmt} {scope : Scope} {dV kV doc pm cdv ct oc : Value} {an od : Option Addr}
    {osl : Array (Option Value)} {N ps : List Str} {sp : Sp} (lk : K.lookup f = some ⟨oc, od, .func (PySem.W.fnOf name qual params body scope dV kV doc pm an cdv ct), osl⟩) (hcd : PySem.W.codeIn K cdv qual = true) (S : FnScope N ps scope)
    (len : ∀ vs H Q E, sp vs H Q E → vs.length = ps.length)
    (hbody : ∀ (A : Around) (outer : List Env) (s : Shared) (H : Hp) (vs : List V) (Q : VK) (E : XK), Room k (A.deeper (envOfC qual scope s.heap.objs.size f cdv)) → sp vs H Q E →
      ∃ t, PSs (cxOf CX P w K mg base N qual scope f cdv A outer s H E) body t ∧ t { nx := fun _ H' => Q .non H', rt := Q } (start N vs) H) :
    FnOk P w K mg base CX (k + 1) f (PySem.W.fnOf name qual params body scope dV kV doc pm an cdv ct) ps sp := by
  refine ⟨len, fun A outer s H args us vs Q E hr e0 hb r hsp => ?_⟩
  have hl := len _ _ _ _ hsp
  have KX : K.In s.heap := e0.mod.kin.keeps fun b o e => (e0.bs b o e).1
  have lim : s.heap.NoLimit := e0.mod.nolimit.keeps fun b o e => (e0.bs b o e).1
  have hkind : ∀ y ∈ ps.zip us, scope.names.lookup y.1 = some .local ∨ (scope.names.lookup y.1 = some .cell ∧ ((cellsFrom (s.heap.objs.size + 1) scope.names []).lookup y.1).isSome = true) := fun ⟨n, v⟩ hy => by
    rcases S.par n (List.of_mem_zip hy).1 with q | q
    · exact .inl q
    · exact .inr ⟨q, PySem.W.cellsFrom_some _ _ _ (.inl q)⟩
  refine codeAny_call_function hr.depth (KX _ _ lk) rfl S.co S.gen rfl (PySem.W.codeRec_of KX hcd) (hb _ _ _ _ ?_)
  refine wpAny_newFunctionEnv_cells S.kind hkind fun env he s1 x => ?_
  subst he
  refine ⟨lim.keeps x.toInCall.keep, codeAny_func ?_⟩
  obtain ⟨t, ht, hq⟩ := hbody A outer s H vs Q E (hr.deeper _) hsp
  have I : Inv (cxOf CX P w K mg base N qual scope f cdv A outer s H E) [] (start N vs) H s1 := inv_start S hr.hd e0 hl r x
  refine wpAny_mono (ht [] s1 (start N vs) H _ I hq) (fun fl s' hs => ?_) fun e s' hs => hs
  have fin : ∀ {σ' : St} {H' : Hp} {v : V} {u : Value}, Inv (cxOf CX P w K mg base N qual scope f cdv A outer s H E) [] σ' H' s' → RelV v u → Q v H' → CE outer P w H s Q u s' :=
    fun {σ' H' v u} J rv q => ⟨v, H', J.os, J.bare, J.base, J.hok, rv, q⟩
  cases fl with
  | ret u =>
    obtain ⟨v, σ', H', J, rv, q⟩ := hs
    exact fin J rv q
  | next =>
    obtain ⟨σ', H', J, q⟩ := hs
    exact fin (v := V.non) (u := Value.none) J rfl q
  | brk =>
    obtain ⟨_, _, _, q⟩ := hs
    exact False.elim q
  | cont =>
    obtain ⟨_, _, _, q⟩ := hs
    exact False.elim q
end L2

namespace L2
open PySem PySem.Spec PyProof.Rows
section
variable {X : Cx} {x : Str} {p pos : Pos} {e : Expr} {es : List Expr} {t : TA} {id T : String} {r : List V → Hp → VK → Prop}

def tCB (r : List V → Hp → VK → Prop) (t : TA) : TE := fun σ H Q => t σ H fun vs H1 => r vs H1 Q
/-- f(e, ..), f a built-in function -/
theorem pe_callB (hc : CallR X (.builtin id) r) (hg : Gl X x) (hm : X.mg x = none) (hv : bootBuiltins x = some (.builtin id)) (ha : PA X (e :: es) t) (hn : x ≠ "__name__" := by decide) (hdb : (x == ("__debug__" : Str)) = false := by decide)
    (he : starEach (e :: es) X.env = (false, eval e X.env) :: starEach es X.env := by rfl) (hpl : (backTo pos (starEach es X.env)).any (·.1) = false := by rfl) : PE X (.Call (.Name x p) (e :: es) [] pos) (tCB r t) := by
  intro pins s σ H Q I h
  refine wpAny_Call_Name_kw (ld_blt I hg hm hv ?_ hn hdb)
  exact PyProof.Rows.callWith_builtin1 (thn (ha pos pins s σ H _ I h) fun us s1 ⟨vs, H1, I1, r1, q1⟩ => hc pins s1 σ H1 vs us Q I1 r1 q1) he hpl
/-- T(e, ..), T a built-in type -/
theorem pe_callTy (hc : CallR X (.type T) r) (hg : Gl X x) (hm : X.mg x = none) (hv : bootBuiltins x = some (.type T)) (ha : PA X (e :: es) t) (hn : x ≠ "__name__" := by decide) (hdb : (x == ("__debug__" : Str)) = false := by decide)
    (he : starEach (e :: es) X.env = (false, eval e X.env) :: starEach es X.env := by rfl) (hpl : (backTo pos (starEach es X.env)).any (·.1) = false := by rfl) : PE X (.Call (.Name x p) (e :: es) [] pos) (tCB r t) := by
  intro pins s σ H Q I h
  refine wpAny_Call_Name_kw (ld_blt I hg hm hv ?_ hn hdb)
  exact PyProof.Rows.callWith_type1 (thn (ha pos pins s σ H _ I h) fun us s1 ⟨vs, H1, I1, r1, q1⟩ => hc pins s1 σ H1 vs us Q I1 r1 q1) he hpl
end
end L2

namespace HT
open PySem PyProof.Rows

section
open PySem.SeqAt
open PySem.AutoSeq1 (wpAny_loadPart')
open PySem.MeetsSeq PySem.MeetsSeq2 PySem.MeetsSeq3

end

section
variable {prog : Program} {w : World} {A : Around} {E : Value → Shared → Prop} {s : Shared}

/-! ### t[a:b], not the whole -/
/-- a slice's bound as a place among n (d where it is left out) -/
def sIx (n d : Nat) : Option Int → Nat
  | none => d
  | some v => if v < 0 then (v + (n : Int)).toNat else min v.toNat n
end
end HT

namespace L2
open PySem PySem.Spec PyProof.Rows

/-! ### the parts of a slice -/
abbrev TO := St → Hp → (Option Int → Hp → Prop) → Prop
/-- a slice's part (left out, or an int) -/
def PO (X : Cx) (e : Option Expr) (t : TO) : Prop :=
  ∀ (pins : List (Addr × Obj)) (s : Shared) (σ : St) (H : Hp) (Q : Option Int → Hp → Prop), Inv X pins σ H s → t σ H Q →
    wpAny (model X.prog X.w) X.A (evalPart e X.env) (fun u s' => ∃ o H', Inv X pins σ H' s' ∧ IsPart u o ∧ Q o H') X.xe s
theorem intsAre_of {ns : List Int} : ∀ {us : List Value}, Vals (ns.map V.int) us → IntsAre us ns := by
  induction ns with
  | nil => intro us r; rw [List.map_nil] at r; cases r; exact .nil
  | cons n ns ih =>
    intro us r
    rw [List.map_cons] at r
    cases r with
    | cons r1 r2 =>
      obtain ⟨t, e⟩ := r1
      subst e
      exact .cons n t (ih r2)

section
variable {X : Cx} {e : Expr} {te : TE} {lo hi : Option Expr} {tl th : TO} {pos p2 : Pos}

/-- what a slice of a value is, by values: the slice object stands at sl -/
def SlR (X : Cx) (r : V → Option Int → Option Int → Hp → VK → Prop) : Prop :=
  ∀ (pins : List (Addr × Obj)) (s : Shared) (σ : St) (H : Hp) (x : V) (v vl vu : Value) (lo hi : Option Int) (sl : Addr) (Q : VK), Inv X pins σ H s → RelV x v → s.heap.IsSliceOf sl vl vu .none → IsPart vl lo → IsPart vu hi → r x lo hi H Q →
    ∃ T id, typeLookup (.type T) "__getitem__" = pure (some (.builtin id)) ∧ s.TypeIs v T ∧ wpAny (model X.prog X.w) X.A (getItem v (.ref sl)) (EP X pins σ Q) X.xe s
/-- the items of xs[lo:hi] -/
def cutV (xs : List V) (lo hi : Option Int) : List V := (xs.drop (HT.sIx xs.length 0 lo)).take (HT.sIx xs.length xs.length hi - HT.sIx xs.length 0 lo)
theorem cutV_length (xs : List V) (lo hi : Option Int) : (cutV xs lo hi).length ≤ xs.length := by
  unfold cutV
  rw [List.length_take, List.length_drop]
  omega
end
end L2

namespace L2
open PySem PySem.Spec PyProof.Rows

/-! ### places -/
/-- the place that an index of any sign means -/
def ixN (n : Nat) (i : Int) : Option Nat := if 0 ≤ i then (if i < n then some i.toNat else none) else if -(n : Int) ≤ i then some (i + n).toNat else none
def atI {α : Type} (xs : List α) (i : Int) : Option α := (ixN xs.length i).bind fun j => xs[j]?
theorem ixN_seq {n : Nat} {i : Int} {j : Nat} (h : ixN n i = some j) : seqIndex? i n = some j ∧ j < n ∧ -(n : Int) ≤ i ∧ i < n := by
  unfold ixN at h
  by_cases h0 : 0 ≤ i
  · rw [if_pos h0] at h
    by_cases h1 : i < n
    · rw [if_pos h1] at h
      have e : i.toNat = j := Option.some.inj h
      exact ⟨by rw [seqIndex_of h0 h1, e], by omega, by omega, h1⟩
    · rw [if_neg h1] at h; cases h
  · rw [if_neg h0] at h
    by_cases h1 : -(n : Int) ≤ i
    · rw [if_pos h1] at h
      have e : (i + n).toNat = j := Option.some.inj h
      exact ⟨by rw [seqIndex_neg (by omega) h1, e], by omega, h1, by omega⟩
    · rw [if_neg h1] at h; cases h
theorem atI_get {α : Type} {xs : List α} {i : Int} {v : α} (h : atI xs i = some v) : ∃ j, seqIndex? i xs.length = some j ∧ xs[j]? = some v ∧ j < xs.length ∧ -(xs.length : Int) ≤ i ∧ i < xs.length := by
  unfold atI at h
  cases e : ixN xs.length i with
  | none => rw [e] at h; cases h
  | some j =>
    rw [e] at h
    obtain ⟨h1, h2, h3, h4⟩ := ixN_seq e
    exact ⟨j, h1, h, h2, h3, h4⟩
theorem atI_nat {α : Type} {xs : List α} {j : Nat} {v : α} (h : xs[j]? = some v) : atI xs (j : Int) = some v := by
  have hj : j < xs.length := (List.getElem?_eq_some_iff.mp h).1
  have e : ixN xs.length (j : Int) = some j := by
    unfold ixN
    rw [if_pos (by omega), if_pos (by omega)]; simp
  unfold atI; rw [e]; exact h
/-! ### what may be subscripted -/
/-- what stands as an index of a plain subscript -/
def PlainIx (b : Expr) : Prop := ∀ o i, subscripted b false o i = operate [o, i] (getItem o i)
/-- a subscript by values -/
def IxR (X : Cx) (r : R2) : Prop :=
  ∀ (value slice : Expr) (pins : List (Addr × Obj)) (s : Shared) (σ : St) (H : Hp) (x y : V) (v u : Value) (Q : VK), Inv X pins σ H s → RelV x v → RelV y u → r x y H Q →
    subscripted slice false v u = operate [v, u] (getItem v u) → wpAny (model X.prog X.w) X.A (subscriptTail value slice v u) (EP X pins σ Q) X.xe s
/-- a call of a builtin's method by values: the receiver, the arguments -/
def MtR (X : Cx) (id : String) (r : V → List V → Hp → VK → Prop) : Prop :=
  ∀ (pins : List (Addr × Obj)) (s : Shared) (σ : St) (H : Hp) (x : V) (xs : List V) (v : Value) (us : List Value) (Q : VK), Inv X pins σ H s → RelV x v → Vals xs us → r x xs H Q →
    wpAny (model X.prog X.w) X.A (call (.builtin id) (v :: us)) (EP X pins σ Q) X.xe s
section
variable {X : Cx} {a b : Expr} {ta tb : TE} {pos : Pos}
/-- a[b] -/
theorem pe_ix {r : R2} (hr : IxR X r) (ha : PE X a ta) (hb : PE X b tb) (hs : PlainIx b) : PE X (.Subscript a b pos) (tOp r ta tb) := by
  intro pins s σ H Q I h
  exact Subscript_ (binT ha hb I h fun v u s2 x y H2 I2 rx ry q => hr a b pins s2 σ H2 x y v u Q I2 rx ry q (hs _ _))

def rIxL (K : PySem.W.Frag) : R2 := fun x y H Q => ∃ p xs i v, x = .ref p ∧ y = .int i ∧ SqL K H p xs ∧ atI xs i = some v ∧ Q v H
def rIxT (K : PySem.W.Frag) : R2 := fun x y H Q => ∃ p xs i v, x = .ref p ∧ y = .int i ∧ SqT K H p xs ∧ atI xs i = some v ∧ Q v H
theorem ix_list : IxR X (rIxL X.K) := by
  intro value slice pins s σ H x y v u Q I rx ry h hs
  obtain ⟨p, xs, i, z, rfl, rfl, hq, he, q⟩ := h
  cases rx
  obtain ⟨t, rfl⟩ := ry
  obtain ⟨its, r, pl, hz⟩ := I.list hq
  obtain ⟨j, h1, h2, h3, h4, h5⟩ := atI_get he
  obtain ⟨w, ew, rw'⟩ := r.get h2
  have hl := r.length
  have hn := line63
  have fin : EP X pins σ Q w s := ⟨z, H, I, rw', q⟩
  by_cases h0 : 0 ≤ i
  · have hj : i.toNat = j := by
      rw [seqIndex_of h0 h5] at h1
      exact Option.some.inj h1
    exact item_listR pl.isList h0 (by omega) (by rw [hj]; simpa using ew) fin hs
  · have hj : (i + (its.toArray.size : Int)).toNat = j := by
      rw [seqIndex_neg (by omega) h4] at h1
      rw [List.size_toArray, ← hl]
      exact Option.some.inj h1
    exact subscriptTail_builtinR (x := w) pl.isList.typeIs slot_list_getitem.lookup
      (wpAny_getItem_list_neg (Q := fun r s' => r = w ∧ EP X pins σ Q r s') pl.isList (by omega) (by rw [List.size_toArray] <;> omega) (by omega) (by rw [hj]; simpa using ew) ⟨rfl, fin⟩) hs
theorem ix_tup : IxR X (rIxT X.K) := by
  intro value slice pins s σ H x y v u Q I rx ry h hs
  obtain ⟨p, xs, i, z, rfl, rfl, hq, he, q⟩ := h
  cases rx
  obtain ⟨t, rfl⟩ := ry
  obtain ⟨its, r, pl, hz⟩ := I.tuple hq
  obtain ⟨j, h1, h2, h3, h4, h5⟩ := atI_get he
  obtain ⟨w, ew, rw'⟩ := r.get h2
  have hl := r.length
  have hn := line63
  have fin : EP X pins σ Q w s := ⟨z, H, I, rw', q⟩
  exact subscriptTail_builtinR (x := w) pl.typeIs slot_tuple_getitem.lookup
    (getItem_tuple (j := j) (Q := fun r s' => r = w ∧ EP X pins σ Q r s') pl (by omega) (by omega) (by rw [List.size_toArray, ← hl]; exact h1) (by simpa using ew) ⟨rfl, fin⟩) hs
theorem Inv.lst {pins : List (Addr × Obj)} {σ : St} {H : Hp} {s : Shared} {p : Addr} {xs : List V} (I : Inv X pins σ H s) (h : H p = some (.lst xs)) :
    ∃ (its : List Value) (n : Nat), Vals xs its ∧ s.heap.get? p = some { cls := .type "list", data := .seq its.toArray n } ∧ xs.length ≤ sizeLine := by
  obtain ⟨z, its, n, r, e⟩ := I.hok p _ h
  exact ⟨its, n, r, e, z⟩
/-! ### slices -/
theorem slice_bounds (lo hi : Option Int) (n : Nat) : (sliceBounds lo hi none n).1 = ((HT.sIx n 0 lo : Nat) : Int) ∧ (sliceBounds lo hi none n).2.1 = ((HT.sIx n n hi : Nat) : Int) ∧ (sliceBounds lo hi none n).2.2 = 1 := by
  refine ⟨?_, ?_, rfl⟩
  · cases lo with
    | none => simp [sliceBounds, HT.sIx]
    | some i =>
      simp only [sliceBounds, HT.sIx, Option.getD_none, show (1 : Int) > 0 by decide, if_true]
      by_cases h : i < 0
      · simp only [h, if_true] <;> omega
      · simp only [h, if_false] <;> omega
  · cases hi with
    | none => simp [sliceBounds, HT.sIx]
    | some i =>
      simp only [sliceBounds, HT.sIx, Option.getD_none, show (1 : Int) > 0 by decide, if_true]
      by_cases h : i < 0
      · simp only [h, if_true] <;> omega
      · simp only [h, if_false] <;> omega
theorem slicePick_cut (its : List Value) (lo hi : Option Int) : slicePick its.toArray lo hi none = ((its.drop (HT.sIx its.length 0 lo)).take (HT.sIx its.length its.length hi - HT.sIx its.length 0 lo)).toArray := by
  obtain ⟨h1, h2, h3⟩ := slice_bounds lo hi its.toArray.size
  unfold slicePick
  rw [h1, h2, h3]
  simp only [sliceRange_one, pick_run, List.size_toArray] <;> rfl
/-- xs[lo:hi] of a list: a new list -/
def rSlL (K : PySem.W.Frag) : V → Option Int → Option Int → Hp → VK → Prop := fun x lo hi H Q => ∃ a xs, x = .ref a ∧ SqL K H a xs ∧ ∀ p, H p = none → Q (.ref p) (upd H p (.lst (cutV xs lo hi)))
theorem sl_list : SlR X (rSlL X.K) := by
  intro pins s σ H x v vl vu lo hi sl Q I rx hs pl pu h
  obtain ⟨a, xs, rfl, hx, q⟩ := h
  cases rx
  obtain ⟨its, r, ht, hz⟩ := I.list hx
  have hlen := r.length
  refine ⟨"list", _, slot_list_getitem.lookup, ht.isList.typeIs, ?_⟩
  refine wpAny_getItem_list_slice ht.isList hs pl pu .none (by simp) ?_ (by rw [List.size_toArray] <;> omega)
  rw [slicePick_cut, ← hlen]
  refine ⟨.ref s.heap.objs.size, _, I.laid (t' := s.toks) (o := .lst (cutV xs lo hi)) (fun b ob q => Heap.get?_push_of_some _ q) (Nat.le_refl _) ?_, rfl, q _ (I.hok.fresh (Nat.le_refl _))⟩
  exact ⟨Nat.le_trans (cutV_length xs lo hi) hz, _, 0, (r.drop (HT.sIx xs.length 0 lo)).take (HT.sIx xs.length xs.length hi - HT.sIx xs.length 0 lo), Heap.get?_push_size _ rfl⟩

/-! ### in, not in: flat items -/
def flatV : V → Bool
  | .non => true
  | .bl _ => true
  | .int _ => true
  | .str _ => true
  | _ => false
/-- == of flat values -/
def eqV : V → V → Bool
  | .non, .non => true
  | .bl a, .bl b => a == b
  | .bl a, .int b => (if a then 1 else 0) == b
  | .int a, .bl b => a == (if b then 1 else 0)
  | .int a, .int b => a == b
  | .str a, .str b => a == b
  | _, _ => false
theorem eqAt_V {A : Around} {s : Shared} {y x : V} {u v : Value} (ry : RelV y u) (rx : RelV x v) (fy : flatV y = true) (fx : flatV x = true) : SeqAt.EqAt A s u v (eqV y x) := by
  cases y with
  | non =>
    cases ry
    cases x with
    | non => cases rx; exact SeqAt.EqAt.same _
    | bl b => cases rx; exact SeqAt.EqAt.none_bool b
    | int b => obtain ⟨t, rfl⟩ := rx; exact SeqAt.EqAt.none_int b t
    | str b => obtain ⟨t, rfl⟩ := rx; exact SeqAt.EqAt.none_str b t
    | _ => exact absurd (show false = true from fx) Bool.false_ne_true
  | bl a =>
    cases ry
    cases x with
    | non => cases rx; exact SeqAt.EqAt.bool_none a
    | bl b => cases rx; exact SeqAt.EqAt.bool_bool a b
    | int b => obtain ⟨t, rfl⟩ := rx; exact SeqAt.EqAt.bool_int a b t
    | str b => obtain ⟨t, rfl⟩ := rx; exact SeqAt.EqAt.bool_str a b t
    | _ => exact absurd (show false = true from fx) Bool.false_ne_true
  | int a =>
    obtain ⟨t', rfl⟩ := ry
    cases x with
    | non => cases rx; exact SeqAt.EqAt.int_none a t'
    | bl b => cases rx; exact SeqAt.EqAt.int_bool a t' b
    | int b => obtain ⟨t, rfl⟩ := rx; exact SeqAt.EqAt.int_int a t' b t
    | str b => obtain ⟨t, rfl⟩ := rx; exact SeqAt.EqAt.int_str a t' b t
    | _ => exact absurd (show false = true from fx) Bool.false_ne_true
  | str a =>
    obtain ⟨t', rfl⟩ := ry
    cases x with
    | non => cases rx; exact SeqAt.EqAt.str_none a t'
    | bl b => cases rx; exact SeqAt.EqAt.str_bool a t' b
    | int b => obtain ⟨t, rfl⟩ := rx; exact SeqAt.EqAt.str_int a t' b t
    | str b => obtain ⟨t, rfl⟩ := rx; exact SeqAt.EqAt.str_str a t' b t
    | _ => exact absurd (show false = true from fx) Bool.false_ne_true
  | _ => exact absurd (show false = true from fy) Bool.false_ne_true
/-- the items' answers, read off the values (a value's own answer does not lean on its token) -/
def eqU (x : V) (u : Value) : Bool := match u with
  | .none => eqV .non x
  | .bool b => eqV (.bl b) x
  | .int i _ => eqV (.int i) x
  | .str z _ => eqV (.str z) x
  | _ => false
theorem eqU_of {x y : V} {u : Value} (r : RelV y u) (f : flatV y = true) : eqU x u = eqV y x := by
  cases y with
  | non => cases r; rfl
  | bl b => cases r; rfl
  | int i => obtain ⟨t, rfl⟩ := r; rfl
  | str z => obtain ⟨t, rfl⟩ := r; rfl
  | _ => exact absurd (show false = true from f) Bool.false_ne_true
theorem any_eqU {x : V} : ∀ {xs : List V} {us : List Value}, Vals xs us → xs.all flatV = true → us.any (eqU x) = xs.any fun y => eqV y x
  | _, _, .nil, _ => rfl
  | y :: xs, u :: us, .cons r t, f => by
    rw [List.all_cons, Bool.and_eq_true] at f
    rw [List.any_cons, List.any_cons, eqU_of r f.1, any_eqU t f.2]
theorem mem_eqAt {A : Around} {s : Shared} {x : V} {v : Value} (rx : RelV x v) (fx : flatV x = true) : ∀ {xs : List V} {us : List Value}, Vals xs us → xs.all flatV = true → ∀ u ∈ us, SeqAt.EqAt A s u v (eqU x u)
  | _, _, .nil, _ => fun u hu => by cases hu
  | y :: xs, u :: us, .cons r t, f => fun u' hu => by
    rw [List.all_cons, Bool.and_eq_true] at f
    rcases List.mem_cons.mp hu with rfl | hu
    · rw [eqU_of r f.1]; exact eqAt_V r rx f.1 fx
    · exact mem_eqAt rx fx t f.2 u' hu
def inV (x : V) (xs : List V) : Bool := xs.any fun y => eqV y x
/-- x in a list or tuple of flat items -/
def rIn (K : PySem.W.Frag) (neg : Bool) : R2 := fun x y H Q => ∃ p xs, y = .ref p ∧ (SqL K H p xs ∨ SqT K H p xs) ∧ flatV x = true ∧ xs.all flatV = true ∧ Q (.bl (if neg then !inV x xs else inV x xs)) H
theorem op_notIn_seq : OpR X (compareOp .NotIn) (rIn X.K true) := by
  intro pins s σ H x y v u Q I rx ry h
  obtain ⟨p, xs, rfl, hq, fx, fs, q⟩ := h
  cases ry
  rcases hq with hq | hq
  · obtain ⟨its, r, pl, hz⟩ := I.list hq
    refine SeqAt.notIn_listAt (eqU x) pl.isList (fun w hw => mem_eqAt rx fx r fs w (by simpa using hw)) ⟨.bl _, H, I, rfl, ?_⟩
    rw [show its.toArray.any (eqU x) = its.any (eqU x) by simp, any_eqU r fs]
    exact q
  · obtain ⟨its, r, pl, hz⟩ := I.tuple hq
    refine SeqAt.notIn_tupleAt (eqU x) pl (fun w hw => mem_eqAt rx fx r fs w (by simpa using hw)) ⟨.bl _, H, I, rfl, ?_⟩
    rw [show its.toArray.any (eqU x) = its.any (eqU x) by simp, any_eqU r fs]
    exact q
theorem call_list_of : CallR X (.type "list") (fun xs H Q => ∃ p ys, xs = [.ref p] ∧ (SqL X.K H p ys ∨ SqT X.K H p ys) ∧ ∀ l, H l = none → Q (.ref l) (upd H l (.lst ys))) := by
  intro pins s σ H xs us Q I r h
  obtain ⟨p, ys, rfl, hq, q⟩ := h
  obtain ⟨u, rfl, rx⟩ := vals1 r
  cases rx
  have fin : ∀ (its : List Value), Vals ys its → ys.length ≤ sizeLine → ∀ (h' : Heap) (c' : Nat), (∀ b o', s.heap.get? b = some o' → h'.get? b = some o') →
      h'.get? s.heap.objs.size = some { cls := .type "list", dict := none, data := .seq its.toArray c', slots := #[] } → EP X pins σ Q (.ref s.heap.objs.size) { s with heap := h' } := fun its r' hz h' c' kp e =>
    ⟨.ref s.heap.objs.size, _, I.laid (t' := s.toks) kp (Nat.le_refl _) (show ObjOk X.prog X.w _ h' _ (.lst ys) from ⟨hz, its, c', r', e⟩), rfl, q _ (I.hok.fresh (Nat.le_refl _))⟩
  rcases hq with hq | hq
  · obtain ⟨its, r', pl, hz⟩ := I.list hq
    have hlen := r'.length
    obtain ⟨o, ho, hc, n, hd⟩ := pl.isList
    exact call_list_seq p (.inl rfl) ho hc hd (fun h' c' kp e => fin its r' hz h' c' kp e) (by simp only [List.size_toArray] <;> omega)
  · obtain ⟨its, r', pl, hz⟩ := I.tuple hq
    have hlen := r'.length
    obtain ⟨o, ho, hc, n, hd⟩ := pl
    exact call_list_seq p (.inr rfl) ho hc hd (fun h' c' kp e => fin its r' hz h' c' kp e) (by simp only [List.size_toArray] <;> omega)
theorem call_tuple_of : CallR X (.type "tuple") (fun xs H Q => ∃ p ys, xs = [.ref p] ∧ ((SqL X.K H p ys ∧ ∀ l, H l = none → Q (.ref l) (upd H l (.tup ys))) ∨ (SqT X.K H p ys ∧ Q (.ref p) H))) := by
  intro pins s σ H xs us Q I r h
  obtain ⟨p, ys, rfl, h⟩ := h
  obtain ⟨u, rfl, rx⟩ := vals1 r
  cases rx
  rcases h with ⟨hq, q⟩ | ⟨hq, q⟩
  · obtain ⟨its, r', pl, hz⟩ := I.list hq
    have hlen := r'.length
    refine call_tuple_list pl.isList (fun h' kp => ?_) (by simp only [List.size_toArray] <;> omega)
    have I1 : Inv X pins σ H { s with heap := h' } := I.kept (t' := s.toks) kp
    have I2 : Inv X pins σ (upd H h'.objs.size (.tup ys)) { s with heap := h'.push { cls := .type "tuple", data := .seq its.toArray } } :=
      I1.laid (t' := s.toks) (fun b o e => Heap.get?_push_of_some _ e) (Nat.le_refl _) (show ObjOk X.prog X.w _ _ _ (.tup ys) from ⟨hz, its, r', IsTup.new _ _⟩)
    exact ⟨.ref h'.objs.size, _, I2, rfl, q _ (I1.hok.fresh (Nat.le_refl _))⟩
  · obtain ⟨its, r', pl, hz⟩ := I.tuple hq
    exact call_tuple_same pl ⟨.ref p, H, I, rfl, q⟩

/-! ### the call of a builtin's method: o.m(..) -/
/-- the value is of that builtin type -/
def tyV (K : PySem.W.Frag) (T : String) (x : V) (H : Hp) : Prop := match x with
  | .str _ => T = "str"
  | .int _ => T = "int"
  | .ref p => (T = "list" ∧ ∃ xs, SqL K H p xs) ∨ (T = "tuple" ∧ ∃ o, K.lookup p = some o ∧ o.cls = .type "tuple" ∧ o.dict = none) ∨
      (T = "dict" ∧ ((∃ kvs, H p = some (.dK kvs)) ∨ ∃ kvs, H p = some (.dT kvs))) ∨ (T = "set" ∧ ∃ S n, H p = some (.set S n))
  | _ => False
theorem tyV_is {pins : List (Addr × Obj)} {σ : St} {H : Hp} {s : Shared} {T : String} {x : V} {v : Value} (I : Inv X pins σ H s) (r : RelV x v) (ty : tyV X.K T x H) :
    s.TypeIs v T ∧ ∀ a, v = .ref a → ∃ ob, s.heap.get? a = some ob ∧ ob.dict = none := by
  cases x with
  | str z =>
    obtain ⟨t, rfl⟩ := r
    cases (show T = "str" from ty)
    exact ⟨typeIs_str s z t, fun _ e => nomatch e⟩
  | int i =>
    obtain ⟨t, rfl⟩ := r
    cases (show T = "int" from ty)
    exact ⟨typeIs_int s i t, fun _ e => nomatch e⟩
  | ref p =>
    cases r
    rcases ty with ⟨rfl, xs, hq⟩ | ⟨rfl, o, hk, hc, hd⟩ | ⟨rfl, hk⟩ | ⟨rfl, S, n, hk⟩
    · obtain ⟨its, _, pl, _⟩ := I.list hq
      refine ⟨pl.isList.typeIs, fun a e => ?_⟩
      cases e
      obtain ⟨o, n, e, c, hd, _⟩ := pl
      exact ⟨o, e, hd⟩
    · refine ⟨⟨o, I.kIn p o hk, hc⟩, fun a e => ?_⟩
      cases e
      exact ⟨o, I.kIn _ o hk, hd⟩
    · have z : ∃ o, s.heap.get? p = some o ∧ o.ExactDict := by
        rcases hk with ⟨kvs, hk⟩ | ⟨kvs, hk⟩
        · obtain ⟨_, _, _, _, o, _, _, e, ex, _⟩ := I.hok p _ hk
          exact ⟨o, e, ex⟩
        · obtain ⟨_, _, _, _, o, _, _, e, ex, _⟩ := I.hok p _ hk
          exact ⟨o, e, ex⟩
      obtain ⟨o, e, ex⟩ := z
      refine ⟨⟨o, e, ex.1⟩, fun a e2 => ?_⟩
      cases e2
      exact ⟨o, e, ex.2.1⟩
    · obtain ⟨o, _, _, _, e, ex, _⟩ := I.hok p _ hk
      refine ⟨⟨o, e, ex.1⟩, fun a e2 => ?_⟩
      cases e2
      exact ⟨o, e, ex.2.1⟩
  | _ => exact False.elim ty
def tBM (K : PySem.W.Frag) (T : String) (r : V → List V → Hp → VK → Prop) (to : TE) (t : TA) : TE := fun σ H Q => to σ H fun x H1 => tyV K T x H1 ∧ t σ H1 fun xs H2 => r x xs H2 Q
variable {o e : Expr} {es : List Expr} {to : TE} {t : TA} {name : Str} {apos cpos : Pos} {T id : String} {r : V → List V → Hp → VK → Prop}
theorem pe_bm (pa : PlainAttrs T) (slot : Slot T name id) (hty : typeOf (.builtin id) = pure (.type "method_descriptor")) (hm : MtR X id r) (ho : PE X o to) (ha : PA X (e :: es) t)
    (hbase : attributeBase o name X.env (eval o X.env) = eval o X.env := by rfl)
    (hfew : ((backTo cpos (starEach (e :: es) X.env)).all (fun x => !x.1) && (backToKw cpos (keywordEach [] X.env)).all (fun x => x.1.isSome)
      && decide ((e :: es).length + ([] : List Keyword).length + (if ([] : List Keyword).isEmpty then 0 else 1) < 30)) = true := by rfl)
    (hline : (apos.endLine == cpos.line) = true := by rfl) (hs : starEach (e :: es) X.env = (false, eval e X.env) :: starEach es X.env := by rfl) (hplain : (backTo cpos (starEach es X.env)).any (·.1) = false := by rfl) :
    PE X (.Call (.Attribute o name apos) (e :: es) [] cpos) (tBM X.K T r to t) := by
  intro pins s σ H Q I h
  refine wpAny_Call_method_late hbase hfew hline rfl (thn (ho pins s σ H _ I h) fun v s1 ⟨x, H1, I1, r1, ty, q1⟩ => ?_)
  obtain ⟨h1, h2⟩ := tyV_is I1 r1 ty
  refine ⟨T, id, pa, slot, hty, h1, h2, ?_⟩
  have hA := ha cpos pins s1 σ H1 _ I1 q1
  rw [hs] at hA ⊢
  refine Calls.callWith_builtin (by show (false || (backTo cpos (starEach es X.env)).any (·.1)) = false; rw [hplain] <;> rfl) (Calls.evalArgs_plain ?_)
  exact thn hA fun us s2 ⟨vs, H2, I2, r2, q2⟩ => hm pins s2 σ H2 x vs v us Q I2 r1 r2 q2
/- xs.append(e), list.index on a module's tuple .. are MtR facts of 06m -/
end
end L2

namespace L2
open PySem PySem.Spec PyProof.Rows

def MtM (X : Cx) (id : String) (r : V → List V → Hp → VK → Prop) : Prop :=
  ∀ (pins : List (Addr × Obj)) (s : Shared) (σ : St) (H : Hp) (x : V) (xs : List V) (v : Value) (us : List Value) (Q : VK), Inv X pins σ H s → RelV x v → Vals xs us → r x xs H Q →
    wpAny (model X.prog X.w) X.A (call (.builtin id) (v :: us)) (EP X pins σ Q) X.xe s

/-! ### lists of values -/
theorem Vals.one : ∀ {x : V} {us : List Value}, Vals [x] us → ∃ u, us = [u] ∧ RelV x u
  | _, _, .cons r .nil => ⟨_, rfl, r⟩
theorem Vals.eraseIdx : ∀ {xs : List V} {us : List Value} (i : Nat), Vals xs us → Vals (xs.eraseIdx i) (us.eraseIdx i)
  | _, _, _, .nil => .nil
  | _, _, 0, .cons _ t => t
  | _, _, i + 1, .cons r t => .cons r (Vals.eraseIdx i t)
theorem Vals.rep {xs : List V} {us : List Value} (h : Vals xs us) : ∀ k : Nat, Vals (List.replicate k xs).flatten (List.replicate k us).flatten
  | 0 => .nil
  | k + 1 => by
    rw [List.replicate_succ, List.replicate_succ, List.flatten_cons, List.flatten_cons]
    exact Vals.append h (Vals.rep h k)
theorem foldl_rep (its : List Value) : ∀ (k : Nat) (acc : List Value),
    List.foldl (fun x1 x2 => x1 ++ x2) acc.toArray (List.replicate k its.toArray) = (acc ++ (List.replicate k its).flatten).toArray
  | 0, acc => by simp
  | k + 1, acc => by
    have e : acc.toArray ++ its.toArray = (acc ++ its).toArray := by simp
    have e2 : (acc ++ its) ++ (List.replicate k its).flatten = acc ++ (List.replicate (k + 1) its).flatten := by
      rw [List.replicate_succ, List.flatten_cons, List.append_assoc]
    rw [← e2, ← foldl_rep its k (acc ++ its), ← e, List.replicate_succ, List.foldl_cons]

section
variable {X : Cx} {pins : List (Addr × Obj)} {σ : St} {H : Hp} {s : Shared} {l b : Addr} {xs ys zs : List V}

/-! ### the two steps: a tracked list is rewritten, a new list is laid -/
theorem Inv.lset {its its' : List Value} {n : Nat} {f : Array Value → Array Value} {t' : Nat} (I : Inv X pins σ H s) (hH : H l = some (.lst xs))
    (e : s.heap.get? l = some { cls := .type "list", data := .seq its.toArray n }) (hf : f its.toArray = its'.toArray) (hv : Vals ys its') (hz : ys.length ≤ sizeLine) :
    Inv X pins σ (upd H l (.lst ys)) { s with heap := s.heap.update l (Obj.mapSeq f), toks := t' } := by
  have q := PySem.IsL.update e f
  rw [hf] at q
  refine I.write (x := l) (e := l) (by rw [hH]; exact trivial) (.inl rfl) (fun b' u hb hu => (Heap.get?_update_other s.heap (Obj.mapSeq f) (Ne.symm hb)).trans hu) ⟨_, q⟩ ?_
  exact ⟨hz, its', _, hv, q⟩
theorem Inv.lnew {its : List Value} {t' : Nat} (I : Inv X pins σ H s) (hv : Vals ys its) (hz : ys.length ≤ sizeLine) :
    Inv X pins σ (upd H s.heap.objs.size (.lst ys)) { s with heap := s.heap.push { cls := .type "list", data := .seq its.toArray }, toks := t' } :=
  I.laid (fun _ _ q => Heap.get?_push_of_some _ q) (Nat.le_refl _) ⟨hz, its, 0, hv, Heap.get?_push_size _ rfl⟩
theorem Inv.fresh (I : Inv X pins σ H s) : H s.heap.objs.size = none := I.hok.fresh (Nat.le_refl _)
theorem Inv.lstM (I : Inv X pins σ H s) (hH : H l = some (.lst xs)) : xs.length ≤ sizeLine ∧ ∃ (its : List Value) (n : Nat), Vals xs its ∧ xs.length = its.length ∧ s.heap.get? l = some { cls := .type "list", data := .seq its.toArray n } := by
  obtain ⟨z, its, n, r, e⟩ := I.hok l _ hH
  exact ⟨z, its, n, r, r.length, e⟩

theorem notLongL {n : Nat} (h : n ≤ sizeLine) : Builtin.List.listTooLong n = false := by
  unfold Builtin.List.listTooLong
  exact decide_eq_false (by omega)
end

section
variable {X : Cx}

/-! ### methods -/
def rAppend : V → List V → Hp → VK → Prop := fun x vs H Q => ∃ l xs y, x = .ref l ∧ vs = [y] ∧ H l = some (.lst xs) ∧ xs.length < sizeLine ∧ Q .non (upd H l (.lst (xs ++ [y])))
theorem mt_append : MtM X "list.append" rAppend := by
  intro pins s σ H x vs v us Q I rx rv h
  obtain ⟨l, xs, y, rfl, rfl, hH, hz, q⟩ := h
  cases rx
  obtain ⟨u, rfl, ru⟩ := rv.one
  obtain ⟨z, its, n, r, hl, e⟩ := I.lstM hH
  refine call_meets F.slot_list_append ⟨_, e, rfl⟩ F.entry_list_append (F.args_list_append_2 _ _) (PySem.list_append l its.toArray n u (by rw [List.size_toArray]; omega)) ⟨e, ?_⟩
  refine ⟨.non, _, I.lset (its' := its ++ [u]) hH e (by simp) (r.append (.cons ru .nil)) ?_, rfl, q⟩
  rw [List.length_append, List.length_singleton]
  omega

def rExtend : V → List V → Hp → VK → Prop := fun x vs H Q => ∃ l b xs zs, x = .ref l ∧ vs = [.ref b] ∧ H l = some (.lst xs) ∧ H b = some (.lst zs) ∧ xs.length + zs.length ≤ sizeLine ∧ Q .non (upd H l (.lst (xs ++ zs)))
theorem mt_extend : MtM X "list.extend" rExtend := by
  intro pins s σ H x vs v us Q I rx rv h
  obtain ⟨l, b, xs, zs, rfl, rfl, hH, hB, hz, q⟩ := h
  cases rx
  obtain ⟨u, rfl, ru⟩ := rv.one
  cases ru
  obtain ⟨z, its, n, r, hl, e⟩ := I.lstM hH
  obtain ⟨z2, its2, n2, r2, hl2, e2⟩ := I.lstM hB
  have hsz : its.toArray.size + its2.toArray.size ≤ sizeLine := by rw [List.size_toArray, List.size_toArray]; omega
  have hlong : ¬ (!its.toArray.isEmpty && Builtin.List.listTooLong (its.toArray.size + its2.toArray.size)) = true := by
    rw [notLongL hsz, Bool.and_false]
    exact Bool.false_ne_true
  refine call_meets F.slot_list_extend ⟨_, e, rfl⟩ F.entry_list_extend (F.args_list_extend_2 _ _)
    (AutoSeq1.list_extend_list_list_0 l its.toArray n b its2.toArray n2 hlong (by rw [List.size_toArray]; omega) (by omega)) ⟨e, e2, ?_⟩
  refine ⟨.non, _, I.lset (its' := its ++ its2) hH e (by simp) (r.append r2) ?_, rfl, q⟩
  rw [List.length_append]
  omega

/-! ### list + list, list += list, list * int -/
def rCat : R2 := fun x y H Q => ∃ l b xs zs, x = .ref l ∧ y = .ref b ∧ H l = some (.lst xs) ∧ H b = some (.lst zs) ∧ xs.length + zs.length ≤ sizeLine ∧ ∀ p, H p = none → Q (.ref p) (upd H p (.lst (xs ++ zs)))
theorem op_cat : OpR X (binaryOp .Add) rCat := by
  intro pins s σ H x y v u Q I rx ry h
  obtain ⟨l, b, xs, zs, rfl, rfl, hH, hB, hz, q⟩ := h
  cases rx
  cases ry
  obtain ⟨z, its, n, r, hl, e⟩ := I.lstM hH
  obtain ⟨z2, its2, n2, r2, hl2, e2⟩ := I.lstM hB
  refine PySem.P.add_list e e2 ?_ (by rw [List.size_toArray, List.size_toArray]; omega)
  have ea : its.toArray ++ its2.toArray = (its ++ its2).toArray := by simp
  rw [ea]
  exact ⟨.ref _, _, I.lnew (t' := s.toks) (r.append r2) (by rw [List.length_append]; omega), rfl, q _ I.fresh⟩
/-- a list times an int (a negative one is nothing) -/
def rRep : R2 := fun x y H Q => ∃ l k xs, x = .ref l ∧ y = .int k ∧ H l = some (.lst xs) ∧ -(2 ^ 63) ≤ k ∧ k < 2 ^ 63 ∧ xs.length * k.toNat ≤ sizeLine ∧
  ∀ p, H p = none → Q (.ref p) (upd H p (.lst (List.replicate k.toNat xs).flatten))
theorem len_rep {α : Type} (xs : List α) (k : Nat) : (List.replicate k xs).flatten.length = k * xs.length := by
  induction k with
  | zero => simp
  | succ k ih => rw [List.replicate_succ, List.flatten_cons, List.length_append, ih, Nat.succ_mul, Nat.add_comm]
theorem op_rep : OpR X (binaryOp .Mult) rRep := by
  intro pins s σ H x y v u Q I rx ry h
  obtain ⟨l, k, xs, rfl, rfl, hH, h1, h2, hz, q⟩ := h
  cases rx
  obtain ⟨t, rfl⟩ := ry
  obtain ⟨z, its, n, r, hl, e⟩ := I.lstM hH
  have hlen : its.toArray.size * k.toNat ≤ sizeLine := by rw [List.size_toArray, ← hl]; exact hz
  have hcap : ¬ its.toArray.size * k.toNat > (2 ^ 63 - 1) / 8 := by
    have : (sizeLine : Nat) ≤ (2 ^ 63 - 1) / 8 := by decide
    omega
  have hfit : ¬ (!Builtin.List.listFitsIndex k) = true := by
    rw [fitsIndex_both h1 h2]
    exact Bool.false_ne_true
  have hlong : ¬ Builtin.List.listTooLong (its.toArray.size * k.toNat) = true := by
    rw [notLongL hlen]
    exact Bool.false_ne_true
  have hnew : List.foldl (fun x1 x2 => x1 ++ x2) #[] (List.replicate (if its.toArray.isEmpty = true then 0 else k.toNat) its.toArray) = (List.replicate k.toNat its).flatten.toArray := by
    have f0 : ∀ m : Nat, List.foldl (fun x1 x2 => x1 ++ x2) #[] (List.replicate m its.toArray) = (List.replicate m its).flatten.toArray := fun m => by
      have := foldl_rep its m []
      rw [List.nil_append] at this
      exact this
    rw [f0]
    cases its with
    | nil => simp
    | cons a r' => rw [if_neg (by simp)]
  refine wpAny_binaryOp_repeat_ref (T := "list") (U := "int") (by decide) ⟨_, e, rfl⟩ (fun s' => typeIs_int s' k t) noFill_list_mul F.fills_int_mul F.slot_int_rmul repeat_list F.slot_int_index.lookup
    (call_meets F.slot_int_rmul (typeIs_int s k t) F.entry_int_rmul (F.args_int_rmul_2 _ _) (int___rmul___int_list k t l its.toArray n)
      ⟨e, rfl, ⟨_, e, rfl⟩, call_meets F.slot_list_mul ⟨_, e, rfl⟩ F.entry_list_mul (F.args_list_mul_2 _ _) (AutoListH.list___mul___list_int_3 l its.toArray n k t hfit hcap hlong) ⟨e, ?_⟩⟩)
  rw [hnew]
  exact ⟨.ref _, _, I.lnew (t' := s.toks) (r.rep k.toNat) (by rw [len_rep, Nat.mul_comm]; exact hz), rfl, q _ I.fresh⟩

end

/-! ### xs[a:b] = ys -/
section
variable {prog : Program} {w : World} {A : Around} {E : Value → Shared → Prop} {s : Shared}
end

section
variable {X : Cx}
end
end L2

namespace L2
open PySem PySem.Spec PyProof.Rows

/-! ### lists of pairs as tables -/
section
variable {κ : Type} [DecidableEq κ]
def valV (kvs : List (κ × V)) (k : κ) : Option V := (kvs.find? fun kv => decide (kv.1 = k)).map (·.2)
/-- in its place, or at the end -/
def putK (kvs : List (κ × V)) (k : κ) (v : V) : List (κ × V) :=
  if (kvs.any fun kv => decide (kv.1 = k)) = true then kvs.map (fun kv => if kv.1 = k then (kv.1, v) else kv) else kvs ++ [(k, v)]
def dropK (kvs : List (κ × V)) (k : κ) : List (κ × V) := kvs.filter fun kv => decide (kv.1 ≠ k)

theorem valV_pos {p : κ × V} {r : List (κ × V)} {k : κ} (e : p.1 = k) : valV (p :: r) k = some p.2 := by simp [valV, List.find?_cons, e]
theorem valV_neg {p : κ × V} {r : List (κ × V)} {k : κ} (e : ¬ p.1 = k) : valV (p :: r) k = valV r k := by simp [valV, List.find?_cons, e]
theorem valV_any (k : κ) : ∀ kvs : List (κ × V), (kvs.any fun kv => decide (kv.1 = k)) = (valV kvs k).isSome
  | [] => rfl
  | p :: r => by
    rw [List.any_cons]
    by_cases e : p.1 = k
    · simp only [valV_pos e, decide_eq_true e, Bool.true_or, Option.isSome_some]
    · rw [valV_neg e, decide_eq_false e, Bool.false_or]; exact valV_any k r
theorem length_putK (kvs : List (κ × V)) (k : κ) (v : V) : (putK kvs k v).length ≤ kvs.length + 1 := by
  unfold putK
  split
  · rw [List.length_map]; omega
  · rw [List.length_append, List.length_cons, List.length_nil]; omega
theorem RelO.isSome_eq {o : Option V} {u : Option Value} (r : RelO o u) : o.isSome = u.isSome := by
  cases o with
  | none => cases u with
    | none => rfl
    | some _ => exact (show False from r).elim
  | some _ => cases u with
    | none => exact (show False from r).elim
    | some _ => rfl
theorem RelO.getD {o : Option V} {u : Option Value} {d : V} {d' : Value} (r : RelO o u) (rd : RelV d d') : RelV (o.getD d) (u.getD d') := by
  cases o with
  | none => cases u with
    | none => exact rd
    | some _ => exact (show False from r).elim
  | some _ => cases u with
    | none => exact (show False from r).elim
    | some _ => exact r

/-- raw tables of the same keys -/
theorem KV.val {kvs : List (κ × V)} {vs : List (κ × Value)} (r : KV kvs vs) (k : κ) : RelO (valV kvs k) (valueAt vs k) := by
  unfold KV at r
  induction r with
  | nil => exact True.intro
  | @cons p q ps qs h t ih =>
    obtain ⟨h1, h2⟩ := h
    by_cases e : p.1 = k
    · have e' : q.1 = k := h1.symm.trans e
      have b : valueAt (q :: qs) k = some q.2 := by simp [valueAt, List.find?_cons, e']
      rw [valV_pos e, b]; exact h2
    · have e' : ¬ q.1 = k := fun z => e (h1.trans z)
      have b : valueAt (q :: qs) k = valueAt qs k := by simp [valueAt, List.find?_cons, e']
      rw [valV_neg e, b]; exact ih
theorem KV.any {kvs : List (κ × V)} {vs : List (κ × Value)} (r : KV kvs vs) (k : κ) : (kvs.any fun kv => decide (kv.1 = k)) = vs.any fun kv => decide (kv.1 = k) := by
  unfold KV at r
  induction r with
  | nil => rfl
  | cons h t ih => rw [List.any_cons, List.any_cons, ih, h.1]
theorem KV.repl {kvs : List (κ × V)} {vs : List (κ × Value)} (r : KV kvs vs) (k : κ) {y : V} {u : Value} (ry : RelV y u) :
    KV (kvs.map fun kv => if kv.1 = k then (kv.1, y) else kv) (vs.map fun kv => if kv.1 = k then (kv.1, u) else kv) := by
  unfold KV at r ⊢
  induction r with
  | nil => exact .nil
  | @cons p q ps qs h t ih =>
    rw [List.map_cons, List.map_cons]
    refine .cons ?_ ih
    obtain ⟨h1, h2⟩ := h
    by_cases e : p.1 = k
    · rw [if_pos e, if_pos (h1.symm.trans e)]; exact ⟨h1, ry⟩
    · rw [if_neg e, if_neg (fun z => e (h1.trans z))]; exact ⟨h1, h2⟩
theorem KV.put {kvs : List (κ × V)} {vs : List (κ × Value)} (r : KV kvs vs) (k : κ) {y : V} {u : Value} (ry : RelV y u) : KV (putK kvs k y) (stored vs k u) := by
  unfold putK stored
  rw [r.any k]
  by_cases e : (vs.any fun kv => decide (kv.1 = k)) = true
  · rw [if_pos e, if_pos e]; exact r.repl k ry
  · rw [if_neg e, if_neg e]; exact Paired.snoc r ⟨rfl, ry⟩
theorem KV.drop {kvs : List (κ × V)} {vs : List (κ × Value)} (r : KV kvs vs) (k : κ) : KV (dropK kvs k) (without vs k) := by
  unfold KV at r ⊢
  unfold dropK without
  induction r with
  | nil => exact .nil
  | @cons p q ps qs h t ih =>
    obtain ⟨h1, h2⟩ := h
    rw [List.filter_cons, List.filter_cons]
    by_cases e : p.1 = k
    · have a : ¬ decide (p.1 ≠ k) = true := by simp [e]
      have b : ¬ decide (q.1 ≠ k) = true := by simp [h1.symm.trans e]
      rw [if_neg a, if_neg b]; exact ih
    · have e' : ¬ q.1 = k := fun z => e (h1.trans z)
      have a : decide (p.1 ≠ k) = true := by simp [e]
      have b : decide (q.1 ≠ k) = true := by simp [e']
      rw [if_pos a, if_pos b]; exact .cons ⟨h1, h2⟩ ih
theorem KV.length {kvs : List (κ × V)} {vs : List (κ × Value)} (r : KV kvs vs) : kvs.length = vs.length := Paired.length r
end


/-! ### a tracked dict, its keys ints and texts or tuples of these -/
theorem kV_is {P : Program} {w : World} {k : Key} {u : Value} (r : RelV (kV k) u) : (mixKind P w).is k u = true := by
  cases k with
  | inl i => obtain ⟨t, e⟩ := (show ∃ t, u = Value.int i t from r); subst e; exact mixKind_int P w i t
  | inr x => obtain ⟨t, e⟩ := (show ∃ t, u = Value.str x t from r); subst e; exact mixKind_str P w x t
theorem items_are {P : Program} {w : World} : ∀ {ks : List Key} {us : List Value}, Vals (ks.map kV) us → ItemsAre (mixKind P w) ks us
  | [], _, r => by rw [List.map_nil] at r; cases r; exact .nil
  | k :: ks, _, r => by
    rw [List.map_cons] at r
    cases r with
    | cons h t => exact .cons (kV_is h) (items_are t)

/-- raw entries of a dict with tuple keys -/
abbrev KT (H : Hp) : List (List Key × V) → List (List Key × Addr × Value) → Prop := Paired fun p q => p.1 = q.1 ∧ H q.2.1 = some (.tup (p.1.map kV)) ∧ RelV p.2 q.2.2
theorem KT.val {H : Hp} {kvs : List (List Key × V)} {xs : List (List Key × Addr × Value)} (r : KT H kvs xs) (k : List Key) : RelO (valV kvs k) ((atKey xs k).map (·.2)) := by
  induction r with
  | nil => exact True.intro
  | @cons p q ps qs h t ih =>
    obtain ⟨h1, _, h2⟩ := h
    by_cases e : p.1 = k
    · have e' : q.1 = k := h1.symm.trans e
      have b : atKey (q :: qs) k = some q.2 := by simp [atKey, List.find?_cons, e']
      rw [valV_pos e, b]; exact h2
    · have e' : ¬ q.1 = k := fun z => e (h1.trans z)
      have b : atKey (q :: qs) k = atKey qs k := by simp [atKey, List.find?_cons, e']
      rw [valV_neg e, b]; exact ih
theorem KT.repl {H : Hp} {kvs : List (List Key × V)} {xs : List (List Key × Addr × Value)} (r : KT H kvs xs) (k : List Key) {y : V} {u : Value} (ry : RelV y u) :
    KT H (kvs.map fun kv => if kv.1 = k then (kv.1, y) else kv) (xs.map (putAt k u)) := by
  induction r with
  | nil => exact .nil
  | @cons p q ps qs h t ih =>
    rw [List.map_cons, List.map_cons]
    refine .cons ?_ ih
    obtain ⟨h1, h2, h3⟩ := h
    unfold putAt
    by_cases e : p.1 = k
    · rw [if_pos e, if_pos (h1.symm.trans e)]; exact ⟨h1, h2, ry⟩
    · rw [if_neg e, if_neg (fun z => e (h1.trans z))]; exact ⟨h1, h2, h3⟩
theorem KT.put {H : Hp} {kvs : List (List Key × V)} {xs : List (List Key × Addr × Value)} (r : KT H kvs xs) (k : List Key) {b : Addr} {y : V} {u : Value} (hb : H b = some (.tup (k.map kV))) (ry : RelV y u) :
    KT H (putK kvs k y) (storedH xs k b u) := by
  have e : (kvs.any fun kv => decide (kv.1 = k)) = (atKey xs k).isSome := by
    rw [valV_any, (r.val k).isSome_eq, Option.isSome_map]
  unfold putK storedH
  rw [e]
  by_cases q : (atKey xs k).isSome = true
  · rw [if_pos q, if_pos q]; exact r.repl k ry
  · rw [if_neg q, if_neg q]; exact Paired.snoc r ⟨rfl, hb, ry⟩
theorem KT.keeps {H H' : Hp} {kvs : List (List Key × V)} {xs : List (List Key × Addr × Value)} (r : KT H kvs xs) (ht : ∀ b ys, H b = some (.tup ys) → H' b = some (.tup ys)) : KT H' kvs xs :=
  Paired.mapP r fun _ _ z => ⟨z.1, ht _ _ z.2.1, z.2.2⟩

section
variable {P : Program} {w : World} {H : Hp} {h : Heap} {a : Addr}
theorem rd_of {u : HO} (ok : HOk P w H h) (e : Rd H a u) : ObjOk P w H h a u := e.ok ok
theorem dk_rd {kvs : List (Key × V)} (ok : HOk P w H h) (e : Rd H a (.dK kvs)) : kvs.length ≤ sizeLine ∧ (a == sysModules) = false ∧ ∃ vs, KV kvs vs ∧ h.DictOf (mixKind P w) a vs :=
  show ObjOk P w H h a (.dK kvs) from rd_of ok e
theorem dk_of {kvs : List (Key × V)} (ok : HOk P w H h) (e : H a = some (.dK kvs)) : kvs.length ≤ sizeLine ∧ (a == sysModules) = false ∧ ∃ vs, KV kvs vs ∧ h.DictOf (mixKind P w) a vs := dk_rd ok (.inl e)
/-- a tracked tuple of ints and texts is a key -/
theorem key_of {ks : List Key} (ok : HOk P w H h) (e : H a = some (.tup (ks.map kV))) : (tupleKind (mixKind P w)).is h ks a := by
  obtain ⟨_, its, r, o, h1, h2, n, h3⟩ := (show ObjOk P w H h a (.tup (ks.map kV)) from ok a _ e)
  exact ⟨o, its.toArray, n, h1, h2, h3, by simpa using items_are r⟩
theorem dt_rd {kvs : List (List Key × V)} (ok : HOk P w H h) (e : Rd H a (.dT kvs)) : kvs.length ≤ sizeLine ∧ (a == sysModules) = false ∧
    ∃ xs, KT H kvs xs ∧ h.DictOfH (tupleKind (mixKind P w)) a xs := by
  obtain ⟨z, y, xs, r, o, es, ep, h1, h2, h3, h4, h5⟩ := (show ObjOk P w H h a (.dT kvs) from rd_of ok e)
  refine ⟨z, y, xs, r, o, es, ep, h1, h2, h3, h4, fun x hx => ?_, h5⟩
  have all : ∀ {l : List (List Key × V)} {m : List (List Key × Addr × Value)}, KT H l m → ∀ x ∈ m, (tupleKind (mixKind P w)).is h x.1 x.2.1 := by
    intro l m q
    induction q with
    | nil => intro x hx; exact nomatch hx
    | @cons p q ps qs hq t ih =>
      intro x hx
      rcases List.mem_cons.mp hx with e | hx
      · subst e
        exact key_of ok (by rw [← hq.1]; exact hq.2.1)
      · exact ih x hx
  exact all r x hx
theorem dt_of {kvs : List (List Key × V)} (ok : HOk P w H h) (e : H a = some (.dT kvs)) : kvs.length ≤ sizeLine ∧ (a == sysModules) = false ∧
    ∃ xs, KT H kvs xs ∧ h.DictOfH (tupleKind (mixKind P w)) a xs := dt_rd ok (.inl e)
end

/-- what the dict at a holds at the key y -/
def DGet (H : Hp) (a : Addr) (y : V) (r : Option V) : Prop :=
  (∃ kvs k, Rd H a (.dK kvs) ∧ y = kV k ∧ r = valV kvs k) ∨ ∃ kvs k b, Rd H a (.dT kvs) ∧ y = .ref b ∧ H b = some (.tup (k.map kV)) ∧ r = valV kvs k
/-- the heap behind a[y] = v -/
def DPut (H : Hp) (a : Addr) (y v : V) (H' : Hp) : Prop :=
  (∃ kvs k, H a = some (.dK kvs) ∧ y = kV k ∧ kvs.length < sizeLine ∧ H' = upd H a (.dK (putK kvs k v))) ∨
  ∃ kvs k b, H a = some (.dT kvs) ∧ y = .ref b ∧ H b = some (.tup (k.map kV)) ∧ kvs.length < sizeLine ∧ H' = upd H a (.dT (putK kvs k v))
theorem DGet.k {H : Hp} {a : Addr} {kvs : List (Key × V)} {k : Key} (e : H a = some (.dK kvs)) : DGet H a (kV k) (valV kvs k) := .inl ⟨kvs, k, .inl e, rfl, rfl⟩
theorem DPut.k {H : Hp} {a : Addr} {kvs : List (Key × V)} {k : Key} {v : V} (e : H a = some (.dK kvs)) (hl : kvs.length < sizeLine) : DPut H a (kV k) v (upd H a (.dK (putK kvs k v))) := .inl ⟨kvs, k, e, rfl, hl, rfl⟩
section
variable {X : Cx} {pins : List (Addr × Obj)} {σ : St} {H : Hp} {s : Shared} {a : Addr} {y v : V} {u r : Value} {o : Option V} {A : Around} {E : Value → Shared → Prop}

theorem Inv.big (I : Inv X pins σ H s) : sysModules < s.heap.objs.size := by
  have h : mainGlobals < s.heap.objs.size := (I.mod.glob.keeps I.bk).lt
  exact Nat.lt_trans (by decide) h

/-- d[y], there -/
theorem d_getItem {Q : Value → Shared → Prop} (hu : A.units + 1 < cLine) (I : Inv X pins σ H s) (g : DGet H a y (some v)) (ry : RelV y u) (h : ∀ w' s', Inv X pins σ H s' → RelV v w' → Q w' s') :
    wpAny (model X.prog X.w) A (getItem (.ref a) u) Q E s := by
  rcases g with ⟨kvs, k, e, ey, l⟩ | ⟨kvs, k, b, e, ey, eb, l⟩
  · subst ey
    obtain ⟨z, hd, vs, rel, dd⟩ := dk_rd I.hok e
    obtain ⟨w', hw, rw'⟩ := RelO.some_of (v := v) (o := valueAt vs k) (by rw [l]; exact rel.val k)
    exact wpAny_getItem_of (kV_is ry) dd.mapOf hw (h w' _ (I.tok _) rw')
  · subst ey
    cases (show u = Value.ref b from ry)
    obtain ⟨z, hd, xs, rel, dd⟩ := dt_rd I.hok e
    obtain ⟨w', hw, rw'⟩ := RelO.some_of (v := v) (o := (atKey xs k).map (·.2)) (by rw [l]; exact rel.val k)
    obtain ⟨p, hp, hp2⟩ := Option.map_eq_some_iff.mp hw
    refine wpAny_getItem_heap (tupleKind_room_in1 hu) (key_of I.hok eb) dd hp ?_
    rw [hp2]
    exact h w' _ (I.tok _) rw'
theorem d_notIn {Q : Value → Shared → Prop} (hu : A.units + 1 < cLine) (I : Inv X pins σ H s) (g : DGet H a y o) (ry : RelV y u) (h : ∀ s', Inv X pins σ H s' → Q (.bool (!o.isSome)) s') :
    wpAny (model X.prog X.w) A (compareOp .NotIn u (.ref a)) Q E s := by
  rcases g with ⟨kvs, k, e, ey, l⟩ | ⟨kvs, k, b, e, ey, eb, l⟩
  · subst ey
    obtain ⟨z, hd, vs, rel, dd⟩ := dk_rd I.hok e
    refine wpAny_notIn_of (kV_is ry) hd dd.mapOf ?_
    rw [← (rel.val k).isSome_eq, ← l]
    exact h _ (I.tok _)
  · subst ey
    cases (show u = Value.ref b from ry)
    obtain ⟨z, hd, xs, rel, dd⟩ := dt_rd I.hok e
    refine wpAny_notIn_heap (tupleKind_room_in1 hu) (key_of I.hok eb) hd dd ?_
    have q := (rel.val k).isSome_eq
    rw [Option.isSome_map] at q
    rw [← q, ← l]
    exact h _ (I.tok _)
/-- a dict's object is replaced -/
theorem d_write {h' : Heap} {t' : Nat} {ob : HO} (I : Inv X pins σ H s) (mu : Mut (H a)) (hs : Heap.SameBut a s.heap h') (he : ∃ q, h'.get? a = some q) (new : ObjOk X.prog X.w (upd H a ob) h' a ob) :
    Inv X pins σ (upd H a ob) { s with heap := h', toks := t' } :=
  I.write (x := a) (e := a) mu (.inl rfl) (fun b q hb z => (hs.2 b hb).trans z) he new
theorem dk_new {P : Program} {w : World} {H' : Hp} {h' : Heap} {kvs : List (Key × V)} {vs : List (Key × Value)} (z : kvs.length ≤ sizeLine) (hd : (a == sysModules) = false) (rel : KV kvs vs) (dd : h'.DictOf (mixKind P w) a vs) :
    ObjOk P w H' h' a (.dK kvs) := ⟨z, hd, vs, rel, dd⟩
/-- d[y] = v -/
theorem d_setItem {H' : Hp} {Q : Unit → Shared → Prop} (hu : A.units + 1 < cLine) (I : Inv X pins σ H s) (g : DPut H a y v H') (ry : RelV y u) (rv : RelV v r) (h : ∀ s', Inv X pins σ H' s' → Q () s') :
    wpAny (model X.prog X.w) A (setItem (.ref a) u r) Q E s := by
  rcases g with ⟨kvs, k, e, ey, l, eH⟩ | ⟨kvs, k, b, e, ey, eb, l, eH⟩
  · subst ey eH
    obtain ⟨z, hd, vs, rel, dd⟩ := dk_of I.hok e
    have hz : vs.length ≤ sizeLine := by rw [← rel.length]; exact z
    have hl : (putK kvs k v).length ≤ sizeLine := by have := length_putK kvs k v; omega
    refine wpAny_setItem_pairs (hsz := hz) (kV_is ry) dd fun h' dd' hs => h _ ?_
    have he : ∃ q, h'.get? a = some q := let ⟨q, _, _, hq, _⟩ := dd'; ⟨q, hq⟩
    exact d_write I (by rw [e]; exact True.intro) hs he (dk_new hl hd (rel.put k rv) dd')
  · subst ey eH
    cases (show u = Value.ref b from ry)
    obtain ⟨z, hd, xs, rel, dd⟩ := dt_of I.hok e
    have hz : xs.length ≤ sizeLine := by rw [← Paired.length rel]; exact z
    have hl : (putK kvs k v).length ≤ sizeLine := by have := length_putK kvs k v; omega
    refine wpAny_setItem_heap (hsz := hz) (tupleKind_room_in1 hu) (key_of I.hok eb) dd fun h' dd' hs => h _ ?_
    obtain ⟨q, es, ep, hq, h2, h3, h4, _, h5⟩ := dd'
    refine d_write I (by rw [e]; exact True.intro) hs ⟨q, hq⟩ ⟨hl, hd, _, (rel.put k eb rv).keeps fun c ys ec => ?_, q, es, ep, hq, h2, h3, h4, h5⟩
    rw [upd_ne (ne_of ec e (fun z => nomatch z))]
    exact ec
end

section
variable {X : Cx} {pins : List (Addr × Obj)} {σ : St} {H : Hp} {s : Shared} {a : Addr} {kvs : List (Key × V)} {k : Key} {u : Value} {A : Around} {E : Value → Shared → Prop}
/-- len(d) -/
theorem d_len {Q : Value → Shared → Prop} (I : Inv X pins σ H s) (e : Rd H a (.dK kvs)) (h : ∀ t s', Inv X pins σ H s' → Q (.int kvs.length t) s') : wpAny (model X.prog X.w) A (call (.builtin "len") [.ref a]) Q E s := by
  obtain ⟨z, hd, vs, rel, dd⟩ := dk_rd I.hok e
  refine call_len_dict hd dd (by rw [← rel.length]; rw [sizeLine_eq] at z; omega) ?_
  rw [← rel.length]
  exact h _ _ (I.tok _)
end


/-! ### readings and rules -/
/-- the element of a subscription, not a slice -/
def NoSl (i : Expr) : Prop := ∀ ov iv, subscripted i false ov iv = operate [ov, iv] (getItem ov iv)
theorem subD_of {prog : Program} {w : World} {A : Around} {E : Value → Shared → Prop} {s : Shared} {env : Env} {value slice : Expr} {pos : Pos} {T id : String} {Q : Value → Shared → Prop}
    (hl : typeLookup (.type T) "__getitem__" = pure (some (.builtin id))) (hs : NoSl slice)
    (h : wpAny (model prog w) A (eval value env) (fun o s₁ => wpAny (model prog w) A (eval slice env) (fun i s₂ => s₂.TypeIs o T ∧ wpAny (model prog w) A (getItem o i) Q E s₂) E s₁) E s) :
    wpAny (model prog w) A (eval (.Subscript value slice pos) env) Q E s := by
  refine Subscript_ (wpAny_mono h (fun o s₁ h₁ => wpAny_mono h₁ (fun i s₂ h₂ => ?_) fun _ _ x => x) fun _ _ x => x)
  obtain ⟨hT, h₂⟩ := h₂
  unfold subscriptTail
  refine wpAny_bind ?_
  rw [getitemInPython_of_ne hT.not_modules]
  refine wpAny_bind (wpAny_specialOf hT hl ?_)
  have fin : wpAny (model prog w) A (subscripted slice false o i) (fun r s₃ => wpAny (model prog w) A (letTemporaryGo value o r >>= fun _ => pure r) Q E s₃) E s₂ := by
    rw [hs o i]
    exact wpAny_operating (wpAny_mono h₂ (fun r s₃ h₃ => wpAny_bind (wpAny_letTemporaryGo (wpAny_pure h₃))) fun _ _ x => x)
  first
    | exact wpAny_pure (wpAny_bind fin)
    | exact wpAny_bind (wpAny_pure (wpAny_bind fin))
    | exact wpAny_bind fin

theorem dict_typeIs {X : Cx} {pins : List (Addr × Obj)} {σ : St} {H : Hp} {s : Shared} {a : Addr} {y : V} {o : Option V} (I : Inv X pins σ H s) (g : DGet H a y o) : s.TypeIs (.ref a) "dict" := by
  rcases g with ⟨kvs, k, e, _, _⟩ | ⟨kvs, k, b, e, _, _, _⟩
  · obtain ⟨_, _, vs, _, dd⟩ := dk_rd I.hok e
    exact dd.typeIs
  · obtain ⟨_, _, xs, _, dd⟩ := dt_rd I.hok e
    exact dd.typeIs
/-- d[y] -/
def tDGet (td ty : TE) : TE := fun σ H Q => td σ H fun x H1 => ty σ H1 fun y H2 => ∃ a v, x = .ref a ∧ DGet H2 a y (some v) ∧ Q v H2
def tDNotIn (ty td : TE) : TE := fun σ H Q => ty σ H fun y H1 => td σ H1 fun x H2 => ∃ a o, x = .ref a ∧ DGet H2 a y o ∧ Q (.bl (!o.isSome)) H2
/-- d[y] = v -/
def sDPut (td ty tv : TE) : TS := fun D σ H => tv σ H fun v H1 => td σ H1 fun x H2 => ty σ H2 fun y H3 => ∃ a H4, x = .ref a ∧ DPut H3 a y v H4 ∧ D.nx σ H4
section
variable {X : Cx} {o i e value : Expr} {pos pos' tpos : Pos} {td ty tv : TE}
theorem pe_dget (hu : X.A.units + 1 < cLine) (ho : PE X o td) (hi : PE X i ty) (hs : NoSl i) : PE X (.Subscript o i pos) (tDGet td ty) := by
  intro pins s σ H Q I h
  refine subD_of PySem.F.slot_dict_getitem.lookup hs (thn (ho pins s σ H _ I h) fun u s1 ⟨x, H1, I1, rx, q1⟩ => thn (hi pins s1 σ H1 _ I1 q1) fun iv s2 ⟨y, H2, I2, ry, a, v, ex, g, q2⟩ => ?_)
  subst ex
  obtain rfl : u = Value.ref a := rx
  exact ⟨dict_typeIs I2 g, d_getItem hu I2 g ry fun w' s3 I3 rw' => ⟨v, H2, I3, rw', q2⟩⟩
theorem pc_dnotin (hu : X.A.units + 1 < cLine) (hi : PE X i ty) (ho : PE X o td) : PC X .NotIn i o (tDNotIn ty td) := by
  intro pins s σ H Q I h
  refine thn (hi pins s σ H _ I h) fun iv s1 ⟨y, H1, I1, ry, q1⟩ => thn (ho pins s1 σ H1 _ I1 q1) fun u s2 ⟨x, H2, I2, rx, a, ov, ex, g, q2⟩ => ?_
  subst ex
  obtain rfl : u = Value.ref a := rx
  exact d_notIn hu I2 g ry fun s3 I3 => ⟨.bl (!ov.isSome), H2, I3, rfl, q2⟩
theorem ps_dput (hu : X.A.units + 1 < cLine) (ho : PE X o td) (hi : PE X i ty) (hv : PE X value tv) (hs : swapsWith value (some (.Subscript o i pos')) pos.line X.env = pure false) :
    PS X (.Assign [.Subscript o i pos'] value pos) (sDPut td ty tv) := by
  intro pins s σ H D I h
  refine wpAny_Assign_Subscript (thn (hv pins s σ H _ I h) fun r s1 ⟨v, H1, I1, rv, q1⟩ => thn (ho pins s1 σ H1 _ I1 q1) fun u s2 ⟨x, H2, I2, rx, q2⟩ => thn (hi pins s2 σ H2 _ I2 q2) fun iv s3 ⟨y, H3, I3, ry, a, H4, ex, g, q3⟩ => ?_) hs
  subst ex
  obtain rfl : u = Value.ref a := rx
  exact d_setItem hu I3 g ry rv fun s4 I4 => ⟨σ, H4, I4, q3⟩
end


/-! ### displays -/
theorem dk_empty {P : Program} {w : World} {H : Hp} (h : Heap) (hb : sysModules < h.objs.size) : ObjOk P w H (h.push { cls := .type "dict", data := .dict #[] }) h.objs.size (.dK []) :=
  ⟨Nat.zero_le _, beq_eq_false_iff_ne.mpr (Ne.symm (Nat.ne_of_lt hb)), [], .nil, Heap.DictOf.new h⟩
/-- {}, to be a dict of the kind that is wanted -/
def tDNewK : TE := fun _ H Q => ∀ p, H p = none → Q (.ref p) (upd H p (.dK []))
section
variable {X : Cx} {pos : Pos}
theorem pe_dnewK : PE X (.Dict [] [] pos) tDNewK := fun pins s σ H Q I h =>
  wpAny_Dict_empty ⟨.ref s.heap.objs.size, _, I.laid (a := s.heap.objs.size) (o := .dK []) (t' := s.toks) (fun _ _ q => Heap.get?_push_of_some _ q) (Nat.le_refl _) (dk_empty s.heap I.big), rfl, h _ (I.hok.fresh (Nat.le_refl _))⟩
end

section
variable {X : Cx} {pins : List (Addr × Obj)} {σ : St} {H : Hp} {s : Shared} {a : Addr} {y d : V} {u r : Value} {o : Option V} {A : Around} {E : Value → Shared → Prop}
end

section
variable {X : Cx} {o e f : Expr} {apos cpos : Pos} {td ty tx : TE}
end

/-! ### dict(d): a copy -/
section
variable {X : Cx} {pins : List (Addr × Obj)} {σ : St} {H : Hp} {s : Shared} {a : Addr} {kvs : List (Key × V)} {A : Around} {E : Value → Shared → Prop}
end


section
variable {X : Cx} {pins : List (Addr × Obj)} {σ : St} {H : Hp} {s : Shared} {a : Addr} {y : V} {u : Value} {A : Around} {E : Value → Shared → Prop}
end
end L2

namespace Att
open PySem PySem.W PySem.Calls PyProof.Rows

/-! ### the script -/
theorem ints_of_wellAll {P : Params} {h : Heap} : ∀ (ns : List Int) (vs : List Value), WellAll P h vs (ns.map WData.int) → IntsAre vs ns := by
  intro ns
  induction ns with
  | nil =>
    intro vs w
    rw [List.map_nil] at w
    cases w
    exact .nil
  | cons n ns ih =>
    intro vs w
    rw [List.map_cons] at w
    cases w with
    | cons a b =>
      cases a
      exact .cons _ _ (ih _ b)

theorem script_of {l : OpenLaw} {n : Nat} (hn : l.most = some n) {P : Params} {h : Heap} {args : List WData} {vals : List Value}
    (hpre : l.row.toRowW.claim.pre args = true) (hwl : WellAll P h vals args) :
    ∃ a vs ns, vals = [Value.ref a] ∧ args = [WData.list (ns.map WData.int)] ∧ h.get? a = some { cls := .type "list", data := .seq vs.toArray } ∧ IntsAre vs ns ∧ ns.length ≤ n := by
  have hsh : WShape.hasAll [] args [.list .int] = true := (pre_splitW hpre).1
  have hc : l.pre.holds [] { args := args } = true := (pre_splitW hpre).2
  obtain ⟨d, r, rfl, h1, h2⟩ := hasAllW_cons hsh
  obtain rfl := hasAllW_nil h2
  obtain ⟨xs, rfl, h3⟩ := hasW_list h1
  obtain ⟨ns, rfl⟩ := items_int h3
  have hlen : ns.length ≤ n := by
    unfold OpenLaw.pre at hc
    have h4 : (WTm.not (.lt (.lit (.int (n : Int))) (.len (.arg 0)))).holds [] { args := [.list (ns.map .int)] } = true := by
      have h4 := (holds_andW hc).1
      rw [hn] at h4
      exact h4
    have h5 := condW_of h4 (w_not (w_lt w_lit (w_len_list (w_arg rfl))))
    rw [List.length_map] at h5
    refine Nat.le_of_not_lt fun q => ?_
    have q' : (n : Int) < ((ns.length : Nat) : Int) := by omega
    first
      | (rw [decide_eq_true q'] at h5; exact absurd h5 (by decide))
      | (simp at h5; omega)
  cases hwl with
  | cons w1 w2 =>
    cases w2
    cases w1 with
    | list ho hall => exact ⟨_, _, ns, rfl, rfl, ho, ints_of_wellAll ns _ hall, hlen⟩

theorem post_true (l : OpenLaw) (args : List WData) : l.row.toRowW.claim.post args (.bool true) args = true :=
  postW_of (r := l.row.toRowW) (X := (true == true))
    (show WShape.has [] (.bool true) .bool = true by first | rfl | decide | simp [WShape.has, WShape.arms, WShape.armsAll])
    (show (WTm.eq .res (.lit (.bool true))).value [] { args := args, res := some (.bool true), after := args } = some (.bool (true == true)) from w_eq_bool (w_res rfl) w_lit) rfl

/-- the same from a codeAny of the CALL (for a layer whose function contracts speak of calls) -/
theorem attach_call {l : OpenLaw} {n : Nat} {q : Program} {loose : List Str} {XP : (Str → Option Value) → Heap → Prop} {YP : World → Heap → Prop} {d : DefRec}
    (hn : l.most = some n) (hdf : d.params.defaults = [])
    (call : ∀ (w : World) (s₀ s₁ : Shared) (mg mb : Str → Option Value) (fa : Addr) (o : Obj) (pm cd doc : Value) (a : Addr) (vs : List Value) (ns : List Int),
      Ground q loose [] XP w s₀ mg mb s₁.heap → YP w s₁.heap →
      s₁.heap.get? fa = some o → o.data = .func (docDef d.name d.params d.body d.scope pm cd doc) → s₁.heap.CodeRec cd d.name → mg d.name = some (.ref fa) →
      s₁.heap.get? a = some { cls := .type "list", data := .seq vs.toArray } → IntsAre vs ns → ns.length ≤ n → s₁.gens = #[] →
      codeAny (model l.prog w) callerA (.call (.ref fa) ⟨[.ref a], []⟩) (fun r s' => r = .ok (.ret (.bool true)) ∧ OldK s₁.heap s'.heap ∧ s'.os = s₁.os ∧ AllBare s'.gens) s₁) :
    WalkO q loose XP YP l.row.toRowW d [] (fun f vs => PySem.call f vs) := by
  intro w s₀ s₁ mg mb G Y fa o pm cd doc dV kV ho hd hcd hD hmg hg args vals as hpre hlay hrd hwl hlo
  obtain rfl : dV = .none := Dflts.none hD hdf
  obtain rfl : kV = .none := Dflts.noKw hD
  obtain ⟨a, vs, ns, rfl, rfl, hobj, hints, hlen⟩ := script_of hn hpre hwl
  refine enter_call (codeAny_mono (call w s₀ s₁ mg mb fa o pm cd doc a vs ns G Y ho (fd_plain hd) hcd hmg hobj hints hlen hg) fun r s' hq => ?_)
  obtain ⟨rfl, h2, h3, h4⟩ := hq
  exact ⟨.inl ⟨.bool true, .bool true, [], rfl, fun _ => rfl, .bool true, post_true l _, fun _ => ⟨List.Pairwise.nil, fun _ hm => (nomatch hm)⟩⟩, h2, h3, h4⟩

/-! ### rules over ANY heap (no ledger) from facts about the written part K: the library's own take a ledger (News) for what they write -/
section
variable {prog : Program} {w : World} {A : Around} {E : Value → Shared → Prop} {s : Shared} {K : Frag}

def ledger (h : Heap) (L d : Addr) : List (Addr × Obj) := (List.range h.objs.size).filterMap fun a => if a = L ∨ a = d then none else (h.get? a).map fun o => (a, o)
end
end Att

namespace L2
open PySem PySem.Spec PyProof.Rows

theorem vals_ints : ∀ {vs : List Value} {ns : List Int}, IntsAre vs ns → Vals (ns.map V.int) vs
  | _, _, .nil => .nil
  | _, _, .cons n t h => .cons ⟨t, rfl⟩ (vals_ints h)

/-- nothing is tracked but the script, known to the object (or it is an object of the module) -/
def Only (H : Hp) : Prop := ∀ b, H b = none ∨ ∃ o xs, H b = some (.frz o (.lst xs))

/-- THE HEAD: the law's promise, at the heap behind the top. F, the promise of the law's def, may use that base is part of the heap (so K.In base, base.Ns mainGlobals mg stand in Mod) -/
theorem law_call {P : Program} {w : World} {K : PySem.W.Frag} {mg mb : Str → Option Value} {CX : CXT} {k : Nat} {fa a : Addr} {fd : FuncData} {x : Str} {sp : Sp} {s₁ : Shared} {vs : List Value} {ns : List Int}
    (KX : K.In s₁.heap) (hns : s₁.heap.Ns mainGlobals mg) (hb : s₁.heap.Ns builtinsNs mb) (hbb : ∀ x : Str, x ≠ "__name__" → mb x = bootBuiltins x) (hlim : s₁.heap.NoLimit) (hg : s₁.gens = #[])
    (ha : s₁.heap.get? a = some { cls := .type "list", data := .seq vs.toArray }) (hi : IntsAre vs ns) (hl : ns.length ≤ sizeLine) (hr : Room k callerA)
    (F : ∀ base : Heap, K.In base → base.Ns mainGlobals mg → FnOk P w K mg base CX k fa fd [x] sp) (hbind : ∀ (s : Shared) (u : Value), BindsTo s fd ⟨[u], []⟩ [(x, u)])
    (hsp : ∀ H : Hp, Only H → SqL K H a (ns.map V.int) → sp [.ref a] H (fun v _ => v = .bl true) fun _ _ _ => False)
    (hCX : ∀ H e s', CX [] H s₁ (fun _ _ _ => False) e s' → False) :
    codeAny (model P w) callerA (.call (.ref fa) ⟨[.ref a], []⟩) (fun r s' => r = .ok (.ret (.bool true)) ∧ OldK s₁.heap s'.heap ∧ s'.os = s₁.os ∧ AllBare s'.gens) s₁ := by
  have rv := vals_ints hi
  have lenV := hi.length
  -- from an abstract heap in which nothing but the script may be tracked
  have core : ∀ H : Hp, Only H → SqL K H a (ns.map V.int) → HOk P w H s₁.heap → (∀ b, H b ≠ none → b = a) → (H a ≠ none → K.lookup a = none) →
      codeAny (model P w) callerA (.call (.ref fa) ⟨[.ref a], []⟩) (fun r s' => r = .ok (.ret (.bool true)) ∧ OldK s₁.heap s'.heap ∧ s'.os = s₁.os ∧ AllBare s'.gens) s₁ := by
    intro H hO hS hok hA hK
    have base_of : ∀ {b : Addr} {o : Obj}, s₁.heap.get? b = some o → H b = none → (hidT s₁.heap H).get? b = some o := fun e n => hidT_get e n
    have noA : ∀ {b : Addr} {o : Obj} {es : Array DictEntry} {ep : Nat}, s₁.heap.get? b = some o → o.data = .dict es ep → H b = none := fun {b o es ep} e d => by
      cases q : H b with
      | none => rfl
      | some u =>
        have e' : b = a := hA b (by rw [q]; simp)
        subst e'
        rw [ha] at e; cases e
        have d' : Data.seq vs.toArray _ = Data.dict es ep := d
        cases d'
    have nsK : ∀ {b : Addr} {m : Str → Option Value}, s₁.heap.Ns b m → (hidT s₁.heap H).Ns b m := fun {b m} ⟨o, es, ep, e, d, r⟩ => ⟨o, es, ep, base_of e (noA e d), d, r⟩
    have hKb : K.In (hidT s₁.heap H) := fun b o e => base_of (KX b o e) (by
      cases q : H b with
      | none => rfl
      | some u =>
        have e' : b = a := hA b (by rw [q]; simp)
        subst e'
        rw [hK (by rw [q]; simp)] at e; cases e)
    have hM : Mod K mg (hidT s₁.heap H) := ⟨hKb, nsK hns, ⟨mb, nsK hb, hbb⟩, let ⟨mc, h1, h2⟩ := hlim; ⟨mc, nsK h1, h2⟩⟩
    have e0 : Env0 P w K mg (hidT s₁.heap H) callerA [] s₁ H := ⟨rfl, hM, fun b o e => of_hidT e, Nat.le_of_eq (hidT_size _ _), trivial, fun b hb => absurd (show b ∈ ([] : List Addr) from hb) (by simp), hok, .of_eq hg⟩
    refine codeAny_mono ((F _ hKb (nsK hns)).run callerA [] s₁ H ⟨[.ref a], []⟩ [.ref a] [.ref a] _ _ hr e0 (hbind s₁ (.ref a)) (.cons rfl .nil) (hsp H hO hS)) fun r s' h => ?_
    cases r with
    | error e => exact (hCX H e s' h).elim
    | ok fl =>
      cases fl with
      | next => exact False.elim h
      | brk => exact False.elim h
      | cont => exact False.elim h
      | ret u =>
        obtain ⟨v, H', os, bare, un, hok', r', q⟩ := h
        have q' : v = .bl true := q
        subst q'
        obtain rfl : u = Value.bool true := r'
        refine ⟨rfl, OldK.of_keep fun b o e => ?_, os, bare⟩
        cases q : H b with
        | none => exact un.keep b o e q (by intro z; exact absurd (show b ∈ ([] : List Addr) from z) (by simp)) (by simp)
        | some u =>
          rcases hO b with z | ⟨ob, xs, z⟩
          · rw [q] at z; cases z
          · have z2 := un.frzs b ob _ z
            obtain ⟨e1, _⟩ := hok b _ z
            obtain ⟨e2, _⟩ := hok' b _ z2
            rw [e] at e1; cases e1
            exact e2
  cases hk : K.lookup a with
  | some o =>
    -- the script is one of the module's own objects
    have e := KX a o hk
    rw [ha] at e
    cases e
    refine core (fun _ => none) (fun _ => .inl rfl) (.inr ⟨_, vs.toArray, _, hk, rfl, rfl, rfl, by rw [List.size_toArray, lenV]; exact hl, by simpa using rv⟩) (fun b u z => by have z' : (none : Option HO) = some u := z; cases z') (fun b z => absurd rfl z) fun z => absurd rfl z
  | none =>
    refine core (fun b => if b = a then some (.frz { cls := .type "list", data := .seq vs.toArray } (.lst (ns.map V.int))) else none) (fun b => ?_) (.inl (.inr ⟨{ cls := .type "list", data := .seq vs.toArray }, if_pos rfl⟩)) (fun b u z => ?_) (fun b z => ?_) fun _ => hk
    · by_cases hb : b = a
      · exact .inr ⟨_, _, if_pos hb⟩
      · exact .inl (if_neg hb)
    · by_cases hb : b = a
      · have z' := (if_pos hb).symm.trans z
        cases z'
        subst hb
        exact ⟨ha, by rw [List.length_map]; exact hl, vs, _, rv, ha⟩
      · have z' := (if_neg hb).symm.trans z
        cases z'
    · by_cases hb : b = a
      · exact hb
      · exact absurd (if_neg hb) z
end L2

namespace L2
open PySem PySem.Spec PyProof.Rows

abbrev KOf {K : PySem.W.Frag} {h : Heap} (_ : K.In h) : PySem.W.Frag := K

/-- the goal that k_head leaves (case hc), from the law's promise. F gives the function object fd (K's own) once, then the promise over every base -/
theorem walk_of {l : PySem.W.OpenLaw} {n k : Nat} {q : Program} {loose : List Str} {XP : (Str → Option Value) → Heap → Prop} {YP : World → Heap → Prop} {d : DefRec} {K : Params → PySem.W.Frag} {CX : World → CXT} {sp : World → Sp} {x : Str}
    (hn : l.most = some n) (hn2 : n ≤ sizeLine) (hdf : d.params.defaults = []) (hr : Room k callerA)
    (hY : ∀ (w : World) (h : Heap), YP w h → (K w.params).In h)
    (F : ∀ (w : World) (mg : Str → Option Value) (fa : Addr) (h : Heap), (K w.params).In h → h.Ns mainGlobals mg → mg d.name = some (.ref fa) →
      ∃ fd : FuncData, (∀ (s : Shared) (u : Value), BindsTo s fd ⟨[u], []⟩ [(x, u)]) ∧
        ∀ base : Heap, (K w.params).In base → base.Ns mainGlobals mg → FnOk l.prog w (K w.params) mg base (CX w) k fa fd [x] (sp w))
    (hsp : ∀ (w : World) (H : Hp) (a : Addr) (ns : List Int), ns.length ≤ n → Only H → SqL (K w.params) H a (ns.map V.int) → sp w [.ref a] H (fun v _ => v = .bl true) fun _ _ _ => False)
    (hCX : ∀ (w : World) (H : Hp) (s : Shared) (e : Value) (s' : Shared), CX w [] H s (fun _ _ _ => False) e s' → False) :
    PySem.W.WalkO q loose XP YP l.row.toRowW d [] (fun f vs => PySem.call f vs) := by
  refine Att.attach_call hn hdf fun w s₀ s₁ mg mb fa o pm cd doc a vs ns G Y ho hd hcd hmg hobj hints hlen hg => ?_
  have KX := hY w _ Y
  obtain ⟨fd, hb, hF⟩ := F w mg fa _ KX G.T.g hmg
  exact law_call KX G.T.g G.T.b G.T.builtins G.T.nolimit hg hobj hints (Nat.le_trans hlen hn2) hr hF hb (fun H hO hS => hsp w H a ns hlen hO hS) fun H e s' => hCX w H s₁ e s'
end L2

/- THE LAST THEOREM (shape; LID, My.* are yours):
   My.Adr: a structure of the addresses that your layer names (classes, functions); My.Txt K t: a structure (Prop) of the equations over K;
   My.txt_mk : {K} {implicit addresses ..} (e1 : nsIn K mainGlobals "law" = some (some (.ref f))) (e2 : K.lookup f = some ⟨oc, od, .func (fnOf "law" "law" params body scope dV kV doc pm an cdv ct), sl⟩) (e3 : codeIn K cdv "law" = true) .. : ∃ t, My.Txt K t

set_option maxRecDepth 100000 in
set_option maxHeartbeats 0 in
theorem PySem.Challenge.cw_LID_holds : PySem.Challenge.rw_LID.Holds := by
  w_on; o_law; k_head; (case hw => w_witness2)
  k_fill
  refine L2.walk_of (l := PySem.Challenge.rw_LID) (n := 63) (k := 40) (x := "script") (CX := fun w => ..) (sp := fun _ => My.sp_law) rfl (by decide) rfl ⟨rfl, by decide, by decide⟩ (fun w h Y => PySem.W.kIn_of Y) ?F ?S ?C
  case F =>
    intro w mg fa h KX G hmg
    have T : ∃ t, My.Txt (L2.KOf KX) t := by
      dsimp only [L2.KOf]                          -- K must stand as «<heap const> w.params» for k_is
      refine' My.txt_mk ?e1 ?e2 ?e3 ..
      (case e1 => PySem.W.k_is)                    -- in the order: a name -> its address -> its object -> its parts
      (case e2 => PySem.W.k_is)
      ..
    obtain ⟨t, T⟩ := T
    have e0 := hmg.symm.trans (PySem.W.mg_of KX G T.law)
    cases e0                                       -- fa is the law's own address
    exact ⟨_, fun s u => .of_eq rfl, fun base kb nb => My.law_fn T kb nb⟩     -- if «.of_eq rfl» comes too early: refine' ⟨_, ?b, fun base kb nb => My.law_fn T kb nb⟩; exact fun s u => .of_eq rfl
  case S => exact fun w H a ns hl hO hS => ..
  case C => exact ..
(the tactic k_is has no namespace: write k_is) -/

/-! SHORT WORDS over the layer: a def of the text, its body, what a loop and a test want. -/
namespace L2
open PySem PySem.Spec PyProof.Rows

def defArgs (s : Stmt) : Arguments := match s with
  | .FunctionDef _ a _ _ _ _ _ _ _ _ => a
  | _ => { posonlyargs := [], args := [], vararg := none, kwonlyargs := [], kw_defaults := [], kwarg := none, defaults := [] }
def defBody (s : Stmt) : List Stmt := match s with
  | .FunctionDef _ _ b _ _ _ _ _ _ _ => b
  | _ => []
def defScope (s : Stmt) : Scope := match s with
  | .FunctionDef _ _ _ _ _ _ sc _ _ _ => sc
  | _ => { kind := .function, names := [], isGenerator := false, isCoroutine := false }

/-! ### no exception leaves a def -/
abbrev CX0 : CXT := fun _ _ _ _ _ _ => False
abbrev E0 : XK := fun _ _ _ => False
theorem pass0 {X : Cx} : Passes CX0 X E0 := fun _ _ _ _ _ _ _ h => h.elim

/-! ### a def (or method) of the text as it stands behind the top -/
structure Fun (K : PySem.W.Frag) (x qual : Str) (st : Stmt) (f : Addr) (fd : FuncData) : Prop where
  ex : ∃ (oc : Value) (od : Option Addr) (kV doc pm : Value) (an : Option Addr) (cdv ct : Value) (osl : Array (Option Value)),
    fd = PySem.W.fnOf x qual (defArgs st) (defBody st) (defScope st) .none kV doc pm an cdv ct ∧ K.lookup f = some ⟨oc, od, .func fd, osl⟩ ∧ PySem.W.codeIn K cdv qual = true
  kp : PySem.W.keepIn K (.ref f) = true
section
variable {P : Program} {w : World} {K : PySem.W.Frag} {mg : Str → Option Value} {base : Heap}
/-- THE RULE for a def: its body as a term of rules, and the reading of that term -/
theorem Fun.ok {x qual : Str} {st : Stmt} {f : Addr} {fd : FuncData} {N ps : List Str} {k : Nat} {sp : Sp} (F : Fun K x qual st f fd) (S : FnScope N ps (defScope st)) (len : ∀ vs H Q E, sp vs H Q E → vs.length = ps.length)
    (hbody : ∀ (cdv : Value) (A : Around) (outer : List Env) (s : Shared) (H : Hp) (vs : List V) (Q : VK) (E : XK), Room k (A.deeper (envOfC qual (defScope st) s.heap.objs.size f cdv)) → sp vs H Q E →
      ∃ t, PSs (cxOf CX0 P w K mg base N qual (defScope st) f cdv A outer s H E).nox (defBody st) t ∧ t { nx := fun _ H' => Q .non H', rt := Q } (start N vs) H) : FnOk P w K mg base CX0 (k + 1) f fd ps sp := by
  obtain ⟨oc, od, kV, doc, pm, an, cdv, ct, osl, rfl, lk, hcd⟩ := F.ex
  refine fn_of lk hcd S len fun A outer s H vs Q E hr hsp => ?_
  obtain ⟨t, h, q⟩ := hbody cdv A outer s H vs Q E hr hsp
  exact ⟨t, h.nox, q⟩
/-- how its arguments bind (no defaults): h is «fun _ _ _ _ _ _ us hl => match us, hl with | [_, _], _ => rfl», one _ a parameter -/
theorem Fun.binds {x qual : Str} {st : Stmt} {f : Addr} {fd : FuncData} {ps : List Str} (F : Fun K x qual st f fd)
    (h : ∀ (kV doc pm : Value) (an : Option Addr) (cdv ct : Value) (us : List Value), us.length = ps.length → bindArgs (PySem.W.fnOf x qual (defArgs st) (defBody st) (defScope st) .none kV doc pm an cdv ct) ⟨us, []⟩ = pure (ps.zip us)) : Binds K fd ps [] := by
  obtain ⟨oc, od, kV, doc, pm, an, cdv, ct, osl, rfl, lk, hcd⟩ := F.ex
  exact .all (h kV doc pm an cdv ct)
theorem fun_mk {x qual : Str} {st : Stmt} {f : Addr} {oc : Value} {od an : Option Addr} {osl : Array (Option Value)} {kV doc pm cdv ct : Value} (l : K.lookup f = some ⟨oc, od, .func (PySem.W.fnOf x qual (defArgs st) (defBody st) (defScope st) .none kV doc pm an cdv ct), osl⟩)
    (c : PySem.W.codeIn K cdv qual = true) (k : PySem.W.keepIn K (.ref f) = true) : Fun K x qual st f (PySem.W.fnOf x qual (defArgs st) (defBody st) (defScope st) .none kV doc pm an cdv ct) := ⟨⟨oc, od, kV, doc, pm, an, cdv, ct, osl, rfl, l, c⟩, k⟩
end
theorem hu_of {A : Around} {k : Nat} (hr : Room k A) : A.units + 1 < cLine := Nat.lt_of_le_of_lt (Nat.add_le_add_left (by decide : 1 ≤ 64) _) hr.units
theorem small1000 {n : Nat} (h : n ≤ 1000) : n < sizeLine := Nat.lt_of_le_of_lt h (by decide)

/-! ### expressions in short: the name that stands in the i-th slot -/
section
variable {X : Cx}
theorem pv (i : Nat) {x : Str} {pos : Pos} (hN : X.N[i]? = some x := by rfl) (hv : Vis X.env.scope x := by first | exact Or.inl rfl | exact Or.inr (Or.inl rfl) | exact Or.inr (Or.inr rfl)) (hd : (x == ("__debug__" : Str)) = false := by decide)
    (hcd : (x == ("__classdict__" : Str)) = false := by decide) : PE X (.Name x pos) (tVar i) := pe_var hN hv hd hcd
/-- len of a dict -/
theorem call_lenD : CallR X (.builtin "len") (fun xs H Q => ∃ a kvs, xs = [V.ref a] ∧ H a = some (.dK kvs) ∧ Q (.int kvs.length) H) := by
  intro pins s σ H xs us Q I r h
  obtain ⟨a, kvs, rfl, ha, q⟩ := h
  obtain ⟨u, rfl, ru⟩ := vals1 r
  cases ru
  exact d_len I (.inl ha) fun t s' I' => ⟨.int kvs.length, H, I', ⟨t, rfl⟩, q⟩
end

/-! ### tests -/
theorem iteF {A B : Prop} (h : B) : if false = true then A else B := by
  rw [if_neg Bool.false_ne_true]
  exact h
theorem iteT {A B : Prop} (h : A) : if true = true then A else B := by
  rw [if_pos rfl]
  exact h
/-! ### heaps -/
/-- all that was tracked is as it was -/
def Same (H H' : Hp) : Prop := ∀ b o, H b = some o → H' b = some o
theorem Same.refl (H : Hp) : Same H H := fun _ _ h => h
theorem Same.trans {H H1 H2 : Hp} (a : Same H H1) (b : Same H1 H2) : Same H H2 := fun c o h => b c o (a c o h)
theorem Same.free {H H' : Hp} (e : Same H H') {l : Addr} (h : H' l = Option.none) : H l = Option.none := by
  cases q : H l with
  | none => rfl
  | some o =>
    rw [e l o q] at h
    cases h
theorem Same.seq {K : PySem.W.Frag} {H H' : Hp} {a : Addr} {xs : List V} (e : Same H H') (h : SqL K H a xs) : SqL K H' a xs := by
  rcases h with (h | ⟨o, h⟩) | h
  · exact .inl (.inl (e _ _ h))
  · exact .inl (.inr ⟨o, e _ _ h⟩)
  · exact .inr h

/-! ### a dict's pairs: keys that differ -/
section
variable {κ : Type} [DecidableEq κ]
theorem nd_snoc : ∀ {l : List κ} {k : κ}, l.Nodup → ¬ k ∈ l → (l ++ [k]).Nodup
  | [], k, _, _ => by simp
  | a :: r, k, h, hk => by
    obtain ⟨h1, h2⟩ := List.nodup_cons.mp h
    show (a :: (r ++ [k])).Nodup
    refine List.nodup_cons.mpr ⟨fun m => ?_, nd_snoc h2 fun m => hk (List.mem_cons.mpr (Or.inr m))⟩
    rcases List.mem_append.mp m with q | q
    · exact h1 q
    · exact hk (List.mem_cons.mpr (Or.inl (List.mem_singleton.mp q).symm))
end
end L2



set_option Elab.async false
set_option linter.all false
set_option maxRecDepth 100000
namespace L2
open PySem PySem.Spec PyProof.Rows

/-! ### list comprehensions: the block that runs in its own names -/
structure BA where
  cl : List (Str × Addr)
  C : Addr
  s₀ : Shared
  H₀ : Hp
  ex : List Addr
abbrev blk (X : Cx) (sc : Scope) (N : List Str) (b : BA) : Cx :=
  { prog := X.prog, w := X.w, K := X.K, mg := X.mg, base := X.base, A := X.A, N := N, s₀ := b.s₀, H₀ := b.H₀, env := compEnvC sc b.cl b.C X.env, outer := X.stack, stack := X.stack, ex := b.ex, fn := fun _ => false, calm := X.calm, pn := [], xe := fun _ _ => False }

def closFrom (env : Env) : List (Str × Addr) → List (Str × NameKind) → List (Str × Addr)
  | acc, [] => acc
  | acc, (n, k) :: r => closFrom env (if k == .free then (match env.cells.lookup n with | some c => (n, c) :: acc | none => acc) else acc) r
theorem clos_run (env : Env) : ∀ (l : List (Str × NameKind)) (acc : List (Str × Addr)), (∀ y ∈ l, y.2 = .free → ∃ c, env.cells.lookup y.1 = some c) →
    (forIn l acc (fun (x : Str × NameKind) (cs : List (Str × Addr)) => (match x with
      | (name, kind) => if (kind == .free) = true then (do let a ← cellOf env name; pure (ForInStep.yield ((name, a) :: cs))) else pure (ForInStep.yield cs) : Sem (ForInStep (List (Str × Addr)))))) = (pure (closFrom env acc l) : Sem (List (Str × Addr)))
  | [], acc, _ => rfl
  | (n, k) :: r, acc, h => by
    have hr : ∀ y ∈ r, y.2 = .free → ∃ c, env.cells.lookup y.1 = some c := fun y hy => h y (List.mem_cons_of_mem _ hy)
    rw [List.forIn_cons]
    by_cases hk : k = .free
    · subst hk
      obtain ⟨c, hc⟩ := h (n, .free) List.mem_cons_self rfl
      have hc' : env.cells.lookup n = some c := hc
      simp only [beq_self_eq_true, if_true, closFrom, hc']
      have e : cellOf env n = pure c := by unfold cellOf; rw [hc']
      rw [e, pure_bind, pure_bind]
      exact clos_run env r _ hr
    · have hb : (k == NameKind.free) = false := by simpa using hk
      simp only [hb, Bool.false_eq_true, if_false, closFrom]
      rw [pure_bind]
      exact clos_run env r _ hr
theorem clos_eq {env : Env} {sc : Scope} (h : ∀ y ∈ sc.names, y.2 = .free → ∃ c, env.cells.lookup y.1 = some c) : closureFor sc env = pure (closFrom env [] sc.names) := by
  unfold closureFor
  exact (congrArg (fun m => m >>= fun cs => pure cs) (clos_run env sc.names [] h)).trans (pure_bind _ _)
theorem clos_sound {env : Env} : ∀ (l : List (Str × NameKind)) (acc : List (Str × Addr)), (∀ x c, acc.lookup x = some c → env.cells.lookup x = some c) →
    ∀ x c, (closFrom env acc l).lookup x = some c → env.cells.lookup x = some c
  | [], acc, h, x, c, e => h x c e
  | (n, k) :: r, acc, h, x, c, e => by
    refine clos_sound r _ (fun y d q => ?_) x c e
    by_cases hk : (k == NameKind.free) = true
    · rw [if_pos hk] at q
      cases hl : env.cells.lookup n with
      | none => rw [hl] at q; exact h y d q
      | some a =>
        rw [hl] at q
        simp only [List.lookup_cons] at q
        by_cases hy : (y == n) = true
        · rw [hy] at q
          have e1 : y = n := by simpa using hy
          subst e1
          cases q
          exact hl
        · rw [Bool.not_eq_true] at hy
          rw [hy] at q
          exact h y d q
    · rw [if_neg hk] at q
      exact h y d q
theorem clos_grow {env : Env} : ∀ (l : List (Str × NameKind)) (acc : List (Str × Addr)) (x : Str), (acc.lookup x).isSome = true → ((closFrom env acc l).lookup x).isSome = true
  | [], acc, x, h => h
  | (n, k) :: r, acc, x, h => by
    refine clos_grow r _ x ?_
    by_cases hk : (k == NameKind.free) = true
    · rw [if_pos hk]
      cases env.cells.lookup n with
      | none => exact h
      | some a =>
        show (List.lookup x ((n, a) :: acc)).isSome = true
        rw [List.lookup_cons]
        by_cases hy : (x == n) = true
        · rw [hy]; rfl
        · rw [Bool.not_eq_true] at hy
          rw [hy]; exact h
    · rw [if_neg hk]; exact h
theorem clos_some {env : Env} : ∀ (l : List (Str × NameKind)) (acc : List (Str × Addr)) (x : Str), (x, NameKind.free) ∈ l → (∃ c, env.cells.lookup x = some c) → ((closFrom env acc l).lookup x).isSome = true
  | [], _, _, h, _ => by cases h
  | (n, k) :: r, acc, x, h, ⟨c, hc⟩ => by
    rcases List.mem_cons.mp h with e | h
    · obtain ⟨rfl, rfl⟩ := Prod.mk.inj e
      refine clos_grow r _ x ?_
      rw [if_pos (beq_self_eq_true _), hc]
      show (List.lookup x ((x, c) :: acc)).isSome = true
      rw [List.lookup_cons, beq_self_eq_true]; rfl
    · exact clos_some r _ x h ⟨c, hc⟩
theorem relab_free {env : Env} : ∀ (l : List (Str × NameKind)) (x : Str) (k : NameKind), (∀ y ∈ l, y.2 ≠ .cell) → k = .cell ∨ k = .free →
    (l.map fun (n, k) => if (k == NameKind.free && env.scope.kind == .function && env.kindOf n == some .cell) then (n, NameKind.cell) else (n, k)).lookup x = some k → (x, NameKind.free) ∈ l
  | [], _, _, _, _, h => by simp at h
  | (n, k') :: r, x, k, hc, hk, h => by
    rw [List.map_cons] at h
    by_cases hx : (x == n) = true
    · have e1 : x = n := by simpa using hx
      subst e1
      by_cases hf : k' = .free
      · subst hf; exact List.mem_cons_self
      · exfalso
        have hb : (k' == NameKind.free) = false := by simpa using hf
        simp only [hb, Bool.false_and, Bool.false_eq_true, if_false, List.lookup_cons, beq_self_eq_true] at h
        have e2 : k' = k := Option.some.inj h
        rcases hk with z | z
        · exact hc (x, k') List.mem_cons_self (e2.trans z)
        · exact hf (e2.trans z)
    · rw [Bool.not_eq_true] at hx
      refine List.mem_cons_of_mem _ (relab_free (env := env) r x k (fun y hy => hc y (List.mem_cons_of_mem _ hy)) hk ?_)
      by_cases hq : (k' == NameKind.free && env.scope.kind == .function && env.kindOf n == some .cell) = true
      · simp only [hq, if_true, List.lookup_cons, hx] at h; exact h
      · rw [Bool.not_eq_true] at hq
        simp only [hq, Bool.false_eq_true, if_false, List.lookup_cons, hx] at h; exact h
theorem relab_of_free {env : Env} : ∀ (l : List (Str × NameKind)) (x : Str), l.lookup x = some .free →
    ∃ k, (k = NameKind.cell ∨ k = NameKind.free) ∧ (l.map fun (n, k) => if (k == NameKind.free && env.scope.kind == .function && env.kindOf n == some .cell) then (n, NameKind.cell) else (n, k)).lookup x = some k
  | [], _, h => by simp at h
  | (n, k') :: r, x, h => by
    rw [List.map_cons]
    by_cases hx : (x == n) = true
    · simp only [List.lookup_cons, hx] at h
      have e2 : k' = .free := Option.some.inj h
      subst e2
      by_cases hq : (NameKind.free == NameKind.free && env.scope.kind == .function && env.kindOf n == some .cell) = true
      · exact ⟨.cell, .inl rfl, by simp only [hq, if_true, List.lookup_cons, hx]⟩
      · rw [Bool.not_eq_true] at hq
        exact ⟨.free, .inr rfl, by simp only [hq, Bool.false_eq_true, if_false, List.lookup_cons, hx]⟩
    · rw [Bool.not_eq_true] at hx
      simp only [List.lookup_cons, hx] at h
      obtain ⟨k, hk, e⟩ := relab_of_free (env := env) r x h
      refine ⟨k, hk, ?_⟩
      by_cases hq : (k' == NameKind.free && env.scope.kind == .function && env.kindOf n == some .cell) = true
      · simp only [hq, if_true, List.lookup_cons, hx]; exact e
      · rw [Bool.not_eq_true] at hq
        simp only [hq, Bool.false_eq_true, if_false, List.lookup_cons, hx]; exact e
theorem mem_of_look {l : List (Str × NameKind)} {x : Str} {k : NameKind} : l.lookup x = some k → (x, k) ∈ l := by
  induction l with
  | nil => intro h; simp at h
  | cons p r ih =>
    intro h
    obtain ⟨n, k'⟩ := p
    by_cases hx : (x == n) = true
    · simp only [List.lookup_cons, hx] at h
      have e1 : x = n := by simpa using hx
      subst e1
      cases h
      exact List.mem_cons_self
    · rw [Bool.not_eq_true] at hx
      simp only [List.lookup_cons, hx] at h
      exact List.mem_cons_of_mem _ (ih h)

/-! ### the turn of a list comprehension's loop -/
section
variable {prog : Program} {w : World} {A : Around} {E : Value → Shared → Prop} {R : Result → Shared → Prop} {s : Shared}
abbrev NoX : Value → Shared → Prop := fun _ _ => False
theorem comp_turns {elt target iter : Expr} {ifs : List Expr} {scope : Scope} {pos : Pos} {it acc : Value} {env : Env} (J : Nat → Shared → Prop)
    (turn : ∀ n s, J n s → wpAny (model prog w) A (pyNext it) (fun r s₁ => (r = none ∧ R (.ok .next) s₁) ∨ ∃ v, r = some v ∧
      wpAny (model prog w) A (letOwnedTupleGo target it v) (fun _ s₁' => wpAny (model prog w) A (assign target env v) (fun _ s₂ =>
        wpAny (model prog w) A (forIn ifs true fun c r => if r = true then do let ok ← isTrue c env (eval c env); pure (ForInStep.yield ok) else pure (ForInStep.yield r)) (fun ok s₃ =>
          (ok = true → wpAny (model prog w) A (eval elt env) (fun x s₄ => wpAny (model prog w) A (call (.builtin "list.append") [acc, x]) (fun _ s₅ => ∃ m, m < n ∧ J m s₅) NoX s₄) NoX s₃) ∧
          (ok = false → ∃ m, m < n ∧ J m s₃)) NoX s₂) NoX s₁') NoX s₁) NoX s)
    (n : Nat) (h : J n s) : codeAny (model prog w) A (.compLoop (.ListComp elt [⟨target, iter, ifs, 0⟩] scope pos) 0 it acc env) R s := by
  refine codeAny_loop (M := model prog w) (A := A) rfl J (fun n s hJ => ?_) n h
  refine wpAny_noted (m := compTurn (.ListComp elt [⟨target, iter, ifs, 0⟩] scope pos) 0 it acc env) ?_
  rw [compTurn_list]
  refine wpAny_bind (wpAny_standAt (wpAny_bind (wpAny_mono (turn n s hJ) (fun r s₁ q => ?_) fun _ _ z => z.elim)))
  rcases q with ⟨e, q⟩ | ⟨v, e, q⟩
  · subst e
    exact wpAny_pure q
  · subst e
    refine wpAny_bind (wpAny_mono q (fun _ s₂ q => ?_) fun _ _ z => z.elim)
    refine wpAny_bind (wpAny_mono q (fun _ s₃ q => ?_) fun _ _ z => z.elim)
    refine wpAny_bind (wpAny_mono q (fun ok s₄ q => ?_) fun _ _ z => z.elim)
    cases ok with
    | false => exact wpAny_pure ⟨rfl, q.2 rfl⟩
    | true =>
      refine wpAny_bind (wpAny_bind (wpAny_mono (q.1 rfl) (fun x s₅ q => ?_) fun _ _ z => z.elim))
      exact wpAny_bind (wpAny_mono q (fun _ s₆ q => wpAny_pure (wpAny_pure ⟨rfl, q⟩)) fun _ _ z => z.elim)
end

/-- the tests of a clause -/
def PIf (X : Cx) (ifs : List Expr) (t : TT) : Prop :=
  ∀ (pins : List (Addr × Obj)) (s : Shared) (σ : St) (H : Hp) (Q : Bool → Hp → Prop), Inv X pins σ H s → t σ H Q →
    wpAny (model X.prog X.w) X.A (forIn ifs true fun c r => if r = true then do let ok ← isTrue c X.env (eval c X.env); pure (ForInStep.yield ok) else pure (ForInStep.yield r)) (TP X pins σ Q) X.xe s
def tYes : TT := fun _ H Q => Q true H
theorem pif_nil {X : Cx} : PIf X [] tYes := fun _ _ _ H _ I h => wpAny_tests_nil ⟨H, I, h⟩
theorem pif_one {X : Cx} {c : Expr} {t : TT} (h : PT X c t) : PIf X [c] t := fun pins s σ H Q I hw => wpAny_tests_one (h pins s σ H Q I hw)

/-- the names of the block that stand in the def's own slots -/
def pick (σ : St) (js : List (Option Nat)) : St := js.map fun j => j.bind fun i => (σ[i]?).join
/-- nothing that was known is lost -/
def Kept (σ σ' : St) : Prop := σ'.length = σ.length ∧ ∀ (i : Nat) v, σ[i]? = some (some v) → σ'[i]? = some (some v)
/-- W: by the turn, a measure, the items so far -/
def CompB (J : It) (H1 : Hp) (js : List (Option Nat)) (g : TG) (tc : TT) (te : TE) (σ : St) (Q : VK) : Prop := ∀ acc, H1 acc = none →
  ∃ W : Nat → Nat → List V → Hp → Prop, (∃ m, W 0 m [] (upd H1 acc (.lst []))) ∧ ∀ i m ys H, W i m ys H →
    (J.stop i H ∧ Q (.ref acc) H) ∨ (J.go i H ∧ ∃ N : List V → Hp → Prop, (∀ ys' H', N ys' H' → ∃ m', m' < m ∧ W (i + 1) m' ys' H') ∧
      ∀ x H', J.yld i H x H' → g x (pick σ js) H' fun σ2 H2 => Kept (pick σ js) σ2 ∧ tc σ2 H2 fun b H3 =>
        (b = true → te σ2 H3 fun y H4 => H4 acc = some (.lst ys) ∧ ys.length < sizeLine ∧ N (ys ++ [y]) (upd H4 acc (.lst (ys ++ [y])))) ∧ (b = false → N ys H3))
def tComp (wi : TI) (js : List (Option Nat)) (g : TG) (tc : TT) (te : TE) : TE := fun σ H Q => wi σ H fun J H1 => CompB J H1 js g tc te σ Q
theorem Un.but {fs ex : List Addr} {H H1 : Hp} {h h1 h2 : Heap} (u : Un fs ex H H1 h h1) (k : ∀ b o, h.get? b = some o → ∀ o', h1.get? b = some o' → h2.get? b = some o') : Un fs ex H H1 h h2 where
  keep := fun b o e n h1 h2 => k b o e _ (u.keep b o e n h1 h2)
  slot := fun b o e n h1 h2 => let ⟨sl, q⟩ := u.slot b o e n h1 h2; ⟨sl, k b o e _ q⟩
  free := u.free
  there := fun b o e hx => let ⟨o', q⟩ := u.there b o e hx; ⟨o', k b o e _ q⟩
  tups := u.tups
  frzs := u.frzs
  tbls := u.tbls
theorem stays_but {P : Program} {w : World} {H : Hp} {h h' : Heap} {C : Addr} (ok : HOk P w H h) (hn : H C = none) (k : ∀ b o, b ≠ C → h.get? b = some o → h'.get? b = some o) : HOk P w H h' := fun b o e => by
  refine (ok b o e).stay (fun c u hc q => k c u ?_ q) (fun _ q => q) fun _ _ q => q
  rintro rfl
  rcases hc with z | z
  · rw [z] at hn; rw [hn] at e; cases e
  · rw [hn] at z; cases z
theorem pair_get {α β : Type} {F : α → β → Prop} : ∀ {l : List α} {r : List β} {i : Nat} {b : β}, Paired F l r → r[i]? = some b → ∃ a, l[i]? = some a ∧ F a b
  | _, _, _, _, .nil, e => by simp at e
  | _, _, 0, _, .cons h _, e => by simp at e; subst e; exact ⟨_, rfl, h⟩
  | _, _, i + 1, b, .cons _ t, e => by
    obtain ⟨a, h1, h2⟩ := pair_get (i := i) (b := b) t (by simpa using e)
    exact ⟨a, by simpa using h1, h2⟩

theorem blk_ok {X : Cx} {pins : List (Addr × Obj)} {σ : St} {H : Hp} {s : Shared} {sc : Scope} {N : List Str} {fp : List Addr} (I : Inv X pins σ H s) (hk : sc.kind = .function)
    (hcell : ∀ y ∈ sc.names, y.2 ≠ .cell) (hcl : ∀ y ∈ sc.names, y.2 = .free → ∃ c, X.env.cells.lookup y.1 = some c) (f : ∀ b ∈ fp, FpOk X pins H b) (fl : ∀ b ∈ fp, b < s.heap.objs.size) :
    (blk X sc N ⟨closFrom X.env [] sc.names, s.heap.objs.size, s, H, fp⟩).Ok where
  mod := I.ok.mod
  kind := hk
  glob := I.ok.glob
  blt := I.ok.blt
  above := Nat.le_refl _
  inj := fun x y c e1 e2 => I.ok.inj x y c (clos_sound _ [] (fun _ _ z => by simp at z) x c e1) (clos_sound _ [] (fun _ _ z => by simp at z) y c e2)
  has := fun x hx => by
    have m : (x, NameKind.free) ∈ sc.names := by
      rcases hx with z | z
      · exact relab_free (env := X.env) sc.names x _ hcell (.inl rfl) z
      · exact relab_free (env := X.env) sc.names x _ hcell (.inr rfl) z
    exact Option.isSome_iff_exists.mp (clos_some sc.names [] x m (hcl _ m rfl))
  cab := fun _ _ z => by cases z
  hd := I.ok.hd
  frames := I.ok.frames
  stk := .inl rfl
  exf := fun b hb => ⟨Nat.ne_of_lt (fl b hb), fun x c e => (f b hb).2.2.2.2.1 x c (clos_sound _ [] (fun _ _ z => by simp at z) x c e)⟩
  bs := I.bs
  bsz := Nat.le_trans I.ok.bsz I.sz
  noex := fun b o e hb => by
    rcases (f b hb).2.2.2.1 with z | z
    · exact I.ok.noex b o e z
    · exact absurd (Nat.lt_of_lt_of_le (Heap.lt_size (I.ok.bs b o e).1) z) (Nat.lt_irrefl _)
  exfs := fun b hb hs => by
    rcases List.mem_cons.mp (I.stkSub b hs) with z | z
    · exact (f b hb).2.1 z
    · exact (f b hb).2.2.1 z
  funs := I.stack
  frf := I.stkFree
theorem blk_inv {X : Cx} {pins : List (Addr × Obj)} {σ : St} {H : Hp} {s s4 : Shared} {sc : Scope} {N : List Str} {js : List (Option Nat)} {fp : List Addr} {m : Str → Option Value} (I : Inv X pins σ H s)
    (ok : (blk X sc N ⟨closFrom X.env [] sc.names, s.heap.objs.size, s, H, fp⟩).Ok) (hfree : ∀ y ∈ sc.names, y.2 = .free → X.env.kindOf y.1 = some .cell ∨ X.env.kindOf y.1 = some .free)
    (hN : Paired (fun (j : Option Nat) n => ∀ i, j = some i → X.N[i]? = some n ∧ sc.names.lookup n = some .free) js N)
    (ho : s4.os = s.os) (hg : s4.gens = s.gens) (ns : s4.heap.Ns s.heap.objs.size m) (kp : ∀ b u, s.heap.get? b = some u → s4.heap.get? b = some u) :
    Inv (blk X sc N ⟨closFrom X.env [] sc.names, s.heap.objs.size, s, H, fp⟩) [] (pick σ js) H s4 where
  ok := ok
  os := ho
  bare := by rw [hg]; exact I.bare
  base := Un.kept kp
  loc := by
    refine ⟨m, ns, fun i x v e1 e2 e3 => ?_⟩
    have e1' : N[i]? = some x := e1
    obtain ⟨j, ej, fj⟩ := pair_get hN e1'
    unfold pick at e2
    rw [List.getElem?_map, ej] at e2
    cases j with
    | none => cases e2
    | some k =>
      obtain ⟨a1, a2⟩ := fj k rfl
      have e2' : (σ[k]?).join = some v := Option.some.inj e2
      have e4 : σ[k]? = some (some v) := by
        cases z : σ[k]? with
        | none => rw [z] at e2'; cases e2'
        | some y => rw [z] at e2'; exact congrArg some e2'
      have mem := mem_of_look a2
      have kn := hfree _ mem rfl
      have vis : Vis X.env.scope x := .inr kn
      obtain ⟨m', hn', hl'⟩ := I.loc
      obtain ⟨u, ru, lk⟩ := hl' k x v a1 e4 vis
      refine ⟨u, ru, .inr ⟨?_, ?_⟩⟩
      · obtain ⟨k', hk', e⟩ := relab_of_free (env := X.env) sc.names x a2
        rcases hk' with z | z
        · subst z; exact .inl e
        · subst z; exact .inr e
      · rcases lk with ⟨z, _⟩ | ⟨_, c, hc, hcl⟩
        · rcases kn with q | q
          · have q' : X.env.kindOf x = some .cell := q
            rw [z] at q'; cases q'
          · have q' : X.env.kindOf x = some .free := q
            rw [z] at q'; cases q'
        · obtain ⟨c', e'⟩ := Option.isSome_iff_exists.mp (clos_some (env := X.env) sc.names [] x mem ⟨c, hc⟩)
          have e2 := clos_sound sc.names [] (fun _ _ z => by simp at z) x c' e'
          rw [hc] at e2
          cases e2
          obtain ⟨o, h1, h2⟩ := hcl
          exact ⟨c, e', o, kp c o h1, h2⟩
  cell := fun x c e => by
    obtain ⟨v, o, h1, h2⟩ := I.cell x c (clos_sound _ [] (fun _ _ z => by simp at z) x c e)
    exact ⟨v, o, kp c o h1, h2⟩
  free := I.hok.fresh (Nat.le_refl _)
  freeC := fun x c e => I.freeC x c (clos_sound _ [] (fun _ _ z => by simp at z) x c e)
  pin := fun p hp => by cases hp
  hok := I.hok.kept kp
  len := by
    unfold pick
    rw [List.length_map]
    exact Paired.length hN

set_option maxHeartbeats 4000000 in
theorem pe_lcomp {X : Cx} {elt iter tg : Expr} {ifs : List Expr} {sc : Scope} {pos : Pos} {wi : TI} {g : TG} {tc : TT} {te : TE} (N : List Str) (js : List (Option Nat))
    (hcalm : X.calm = true) (hi : PI X tg iter wi) (hg : ∀ b, PG (blk X sc N b) tg g) (hc : ∀ b, PIf (blk X sc N b) ifs tc) (he : ∀ b, PE (blk X sc N b) elt te)
    (hN : Paired (fun (j : Option Nat) n => ∀ i, j = some i → X.N[i]? = some n ∧ sc.names.lookup n = some .free) js N)
    (hk : sc.kind = .function := by rfl)
    (hcell : (sc.names.all fun y => y.2 != .cell) = true := by rfl)
    (hfree : (sc.names.all fun y => y.2 != .free || (X.env.scope.names.lookup y.1 == some .cell || X.env.scope.names.lookup y.1 == some .free)) = true := by rfl)
    (hnames : (sc.names.all fun y => y.2 != .local || sc.names.lookup y.1 == some .local) = true := by rfl)
    (hs : ∀ x, foldedSetIterable iter X.env x = pure x := by intro _; rfl) : PE X (.ListComp elt [⟨tg, iter, ifs, 0⟩] sc pos) (tComp wi js g tc te) := by
  intro pins s σ H Q I h
  have hcell' : ∀ y ∈ sc.names, y.2 ≠ .cell := fun y hy => by simpa using List.all_eq_true.mp hcell y hy
  have hfree' : ∀ y ∈ sc.names, y.2 = .free → X.env.kindOf y.1 = some .cell ∨ X.env.kindOf y.1 = some .free := fun y hy e => by
    have q := List.all_eq_true.mp hfree y hy
    rw [e] at q
    have q' : X.env.scope.names.lookup y.1 = some .cell ∨ X.env.scope.names.lookup y.1 = some .free := by simpa using q
    exact q'
  have hnames' : ∀ y ∈ sc.names, y.2 = .local → sc.names.lookup y.1 = some .local := fun y hy e => by
    have q := List.all_eq_true.mp hnames y hy
    rw [e] at q
    simpa using q
  have hcl : ∀ y ∈ sc.names, y.2 = .free → ∃ c, X.env.cells.lookup y.1 = some c := fun y hy e => I.ok.has y.1 (hfree' y hy e)
  rw [eval_ListComp]
  refine wpAny_comprehension_free (use := none) (g := ⟨tg, iter, ifs, 0⟩) (gs := []) rfl hs (clos_eq hcl) hk hnames' ?_
  refine thn (hi pins s σ H _ I h) fun v s1 h1 => thn h1 fun itv s2 h2 => ?_
  obtain ⟨it, fp, tn, J, H2, e, I2, T, st2, f2, q⟩ := h2
  subst e
  obtain ⟨W, ⟨m0, w0⟩, step⟩ := q _ I2.fresh
  refine wpAny_newObj_type (wpAny_newFunctionEnv hcell' (by intro y hy; simp at hy) (fun h₁ hns hsb => ?_) hk)
  dsimp only at hns hsb ⊢
  have I3 : Inv X pins σ (upd H2 s2.heap.objs.size (.lst [])) { s2 with heap := s2.heap.push { cls := .type "list", data := .seq ([] : List Value).toArray }, toks := s2.toks } := I2.lnew .nil (Nat.zero_le _)
  generalize hs3 : ({ s2 with heap := s2.heap.push { cls := .type "list", data := .seq ([] : List Value).toArray }, toks := s2.toks } : Shared) = s3 at I3
  generalize hH3 : upd H2 s2.heap.objs.size (.lst []) = H3 at I3 w0
  have es3 : s3.heap = s2.heap.push { cls := .type "list", data := .seq ([] : List Value).toArray } := by rw [← hs3]
  have hC : (s2.heap.push { cls := .type "list", data := .seq ([] : List Value).toArray }).objs.size = s3.heap.objs.size := by rw [es3]
  have f3 : ∀ b ∈ fp, FpOk X pins H3 b := fun b hb => ⟨by rw [← hH3, upd_ne (Nat.ne_of_lt (by obtain ⟨o, e, _⟩ := T.obj _ _ st2 b hb; exact Heap.lt_size e))]; exact (f2 b hb).1, (f2 b hb).2⟩
  have fl3 : ∀ b ∈ fp, b < s3.heap.objs.size := fun b hb => by
    obtain ⟨o, e, _⟩ := T.obj _ _ st2 b hb
    rw [es3, Heap.size_push]
    exact Nat.lt_succ_of_lt (Heap.lt_size e)
  have ok := blk_ok (N := N) (sc := sc) (fp := fp) I3 hk hcell' hcl f3 fl3
  have k23 : ∀ b u, s2.heap.get? b = some u → s3.heap.get? b = some u := fun b u e => by rw [es3]; exact Heap.get?_push_of_some _ e
  have k34 : ∀ b u, s3.heap.get? b = some u → h₁.get? b = some u := fun b u e => by
    rw [hC] at hsb
    refine (hsb.2 b (Nat.ne_of_lt (Heap.lt_size e))).trans (Heap.get?_push_of_some _ ?_)
    rw [← es3]; exact e
  have I4 := blk_inv (s4 := { s2 with heap := h₁, toks := s2.toks + ([] : List (Str × Value)).length }) (js := js) I3 ok hfree' hN (by rw [← hs3]) (by rw [← hs3]) (by rw [← hC]; exact hns) k34
  have st4 : tn 0 h₁ := T.keep _ _ _ st2 fun b _ o e => k34 b o (k23 b o e)
  generalize hs4 : ({ s2 with heap := h₁, toks := s2.toks + ([] : List (Str × Value)).length } : Shared) = s4 at I4
  have eh4 : s4.heap = h₁ := by rw [← hs4]
  rw [hC]
  generalize hB : (⟨closFrom X.env [] sc.names, s3.heap.objs.size, s3, H3, fp⟩ : BA) = B at ok I4
  have eC : B.C = s3.heap.objs.size := by rw [← hB]
  have stat : ∀ {H' : Hp}, (∀ b ∈ fp, H' b = none) → ∀ b ∈ fp, FpOk (blk X sc N B) [] H' b := fun hn b hb => by
    refine ⟨hn b hb, ?_, fun z => ?_, .inl (by rw [← hB]; exact hb), fun x c e => (ok.exf b (by rw [← hB]; exact hb)).2 x c e, fun p hp => by cases hp⟩
    · exact (ok.exf b (by rw [← hB]; exact hb)).1
    · exact ok.exfs b (by rw [← hB]; exact hb) z
  have fin : ∀ {s' : Shared} {H' : Hp} {σ' : St}, Inv (blk X sc N B) [] σ' H' s' → Q (.ref s2.heap.objs.size) H' →
      compPost (model X.prog X.w) X.A X.xe none (EP X pins σ Q) (.ref s2.heap.objs.size) s3.heap.objs.size (.ok .next) s' := fun {s' H' σ'} I' q' => by
    obtain ⟨m, hm, _⟩ := id I'.loc
    have hm' : s'.heap.Ns s3.heap.objs.size m := by rw [← eC]; exact hm
    refine ⟨m, hm', fun h' hsb' => ⟨.ref s2.heap.objs.size, H', ?_, rfl, q'⟩⟩
    have u1 : Un (frs X.stack) fp H2 H3 s2.heap s3.heap := by rw [← hH3]; exact Un.laid k23 (Nat.le_refl _) I2.fresh
    have u2 : Un (frs X.stack) fp H3 H' s3.heap s'.heap := by
      have z := I'.base
      rw [← hB] at z
      exact z
    have u3 : Un (frs X.stack) fp H2 H' s2.heap h' := (u1.trans u2).but fun b o e o' e' => (hsb'.2 b (by
      have z := Heap.lt_size e
      intro w
      rw [w, es3, Heap.size_push] at z
      exact Nat.lt_irrefl _ (Nat.lt_of_succ_lt z))).trans e'
    have fr' : H' s3.heap.objs.size = none := by rw [← eC]; exact I'.free
    have hok' : HOk X.prog X.w H' h' := stays_but I'.hok fr' fun b o hb e => (hsb'.2 b hb).trans e
    have os' : s'.os = s2.os := by
      have z := I'.os
      rw [← hB] at z
      rw [z, ← hs3]
    exact I2.call' (s' := { s' with heap := h' }) (ch := fp) os' u3 hok' I'.bare fun b hb => ⟨(f2 b hb).2.2.2.1, (f2 b hb).2.1, (f2 b hb).2.2.2.2.1, (f2 b hb).2.2.2.2.2⟩
  have loop : codeAny (model X.prog X.w) X.A (.compLoop (.ListComp elt [⟨tg, iter, ifs, 0⟩] sc pos) 0 (.ref it) (.ref s2.heap.objs.size) (blk X sc N B).env)
      (compPost (model X.prog X.w) X.A X.xe none (EP X pins σ Q) (.ref s2.heap.objs.size) s3.heap.objs.size) s4 := by
    refine comp_turns (fun n s' => ∃ i ys σ' H', Inv (blk X sc N B) [] σ' H' s' ∧ Kept (pick σ js) σ' ∧ tn i s'.heap ∧ (∀ b ∈ fp, H' b = none) ∧ W i n ys H') ?_ m0
      ⟨0, [], pick σ js, H3, I4, ⟨rfl, fun _ _ z => z⟩, by rw [eh4]; exact st4, fun b hb => (f3 b hb).1, w0⟩
    rintro n s5 ⟨i, ys, σ5, H5, I5', kp5, st5, fr5, w5⟩
    have I5 : Inv (blk X sc N B) [] (pick σ js) H5 s5 := I5'.weak kp5.1.symm kp5.2
    rcases step i n ys H5 w5 with ⟨stop, qn⟩ | ⟨go, N', hN', turn⟩
    · refine thn (T.done (blk X sc N B) rfl rfl rfl hcalm i [] s5 _ H5 NoX I5 (stat fr5) st5 stop) fun r s6 ⟨hr, I6⟩ => .inl ⟨hr, fin I6 qn⟩
    · refine thn (T.item (blk X sc N B) rfl rfl rfl hcalm i [] s5 _ H5 NoX I5 (stat fr5) st5 go) fun r s6 ⟨u, hr, h6⟩ => .inr ⟨u, hr, ?_⟩
      refine thn h6 fun _ s7 ⟨x, H7, I7, r7, y7, st7, fr7⟩ => ?_
      have I7' := I7.pinned (stat fr7) (T.obj _ _ st7)
      have back : ∀ {σ8 : St} {H8 : Hp} {s8 : Shared}, Inv (blk X sc N B) ([] ++ pinsAt fp s7.heap) σ8 H8 s8 → tn (i + 1) s8.heap ∧ ∀ b ∈ fp, H8 b = none := fun {σ8 H8 s8} I8 => by
        refine ⟨T.keep _ _ _ st7 fun b hb o e => (I8.pin (b, o) (List.mem_append_right _ (List.mem_append_right _ (mem_pinsAt hb e)))).1, fun b hb => ?_⟩
        obtain ⟨o, e, d⟩ := T.obj _ _ st7 b hb
        exact (I8.pin (b, o) (List.mem_append_right _ (List.mem_append_right _ (mem_pinsAt hb e)))).2.1
      refine thn (hg B _ s7 _ H7 x u _ I7' r7 (turn x H7 y7)) fun _ s8 ⟨σ8, H8, I8, kp8, q8⟩ => ?_
      refine thn (hc B _ s8 σ8 H8 _ I8 q8) fun ok s9 ⟨H9, I9, q9⟩ => ⟨fun e => ?_, fun e => ?_⟩
      · refine thn (he B _ s9 σ8 H9 _ I9 (q9.1 e)) fun yv s10 ⟨y, H10, I10, r10, q10⟩ => ?_
        obtain ⟨e10, l10, n10⟩ := q10
        refine thn (mt_append _ s10 σ8 H10 (.ref s2.heap.objs.size) [y] _ _ (fun _ H' => N' (ys ++ [y]) H') I10 rfl (.cons r10 .nil) ⟨_, ys, y, rfl, rfl, e10, l10, n10⟩) fun _ s11 ⟨_, H11, I11, _, q11⟩ => ?_
        obtain ⟨m', hm, w11⟩ := hN' _ _ q11
        obtain ⟨st11, fr11⟩ := back I11
        exact ⟨m', hm, i + 1, ys ++ [y], σ8, H11, I11.unpinned, kp8, st11, fr11, w11⟩
      · obtain ⟨m', hm, w11⟩ := hN' _ _ (q9.2 e)
        obtain ⟨st11, fr11⟩ := back I9
        exact ⟨m', hm, i + 1, ys, σ8, H9, I9.unpinned, kp8, st11, fr11, w11⟩
  have env_eq : (blk X sc N B).env = compEnvC sc (closFrom X.env [] sc.names) s3.heap.objs.size X.env := by rw [← hB]
  rw [env_eq] at loop
  have st4' : tn 0 s4.heap := by rw [eh4]; exact st4
  exact codeAny_compStart_list loop (T.self X.A 0 _ _ _ st4' loop)
end L2

set_option Elab.async false
set_option linter.all false
set_option maxRecDepth 100000
namespace L2
open PySem PySem.Spec PyProof.Rows
/-! ### name = [.. for ..]: the name is stored ahead of the block's own names' end -/
set_option maxHeartbeats 4000000 in
theorem ps_setC {X : Cx} {i₀ : Nat} {y₀ : Str} {py spos : Pos} {elt iter tg : Expr} {ifs : List Expr} {sc : Scope} {pos : Pos} {wi : TI} {g : TG} {tc : TT} {te : TE} (hN₀ : X.N.Nodup) (hi₀ : X.N[i₀]? = some y₀) (hx₀ : Loc X.env.scope y₀) (N : List Str) (js : List (Option Nat))
    (hcalm : X.calm = true) (hi : PI X tg iter wi) (hg : ∀ b, PG (blk X sc N b) tg g) (hc : ∀ b, PIf (blk X sc N b) ifs tc) (he : ∀ b, PE (blk X sc N b) elt te)
    (hN : Paired (fun (j : Option Nat) n => ∀ i, j = some i → X.N[i]? = some n ∧ sc.names.lookup n = some .free) js N)
    (hk : sc.kind = .function := by rfl)
    (hcell : (sc.names.all fun y => y.2 != .cell) = true := by rfl)
    (hfree : (sc.names.all fun y => y.2 != .free || (X.env.scope.names.lookup y.1 == some .cell || X.env.scope.names.lookup y.1 == some .free)) = true := by rfl)
    (hnames : (sc.names.all fun y => y.2 != .local || sc.names.lookup y.1 == some .local) = true := by rfl)
    (hs : ∀ x, foldedSetIterable iter X.env x = pure x := by intro _; rfl) (hsw : swapsWith (.ListComp elt [⟨tg, iter, ifs, 0⟩] sc pos) (some (.Name y₀ py)) spos.line X.env = pure true := by rfl)
    (hf₀ : X.fn y₀ = true ∨ X.env.scope.names.lookup y₀ = some .local := by first | exact .inl rfl | exact .inr rfl | assumption) : PS X (.Assign [.Name y₀ py] (.ListComp elt [⟨tg, iter, ifs, 0⟩] sc pos) spos) (tAsg (tComp wi js g tc te) (gName i₀)) := by
  intro pins s σ H D I h
  have hcell' : ∀ y ∈ sc.names, y.2 ≠ .cell := fun y hy => by simpa using List.all_eq_true.mp hcell y hy
  have hfree' : ∀ y ∈ sc.names, y.2 = .free → X.env.kindOf y.1 = some .cell ∨ X.env.kindOf y.1 = some .free := fun y hy e => by
    have q := List.all_eq_true.mp hfree y hy
    rw [e] at q
    have q' : X.env.scope.names.lookup y.1 = some .cell ∨ X.env.scope.names.lookup y.1 = some .free := by simpa using q
    exact q'
  have hnames' : ∀ y ∈ sc.names, y.2 = .local → sc.names.lookup y.1 = some .local := fun y hy e => by
    have q := List.all_eq_true.mp hnames y hy
    rw [e] at q
    simpa using q
  have hcl : ∀ y ∈ sc.names, y.2 = .free → ∃ c, X.env.cells.lookup y.1 = some c := fun y hy e => I.ok.has y.1 (hfree' y hy e)
  rw [exec_Assign_Name_used _ _ _ _ hsw]
  refine wpAny_bind (wpAny_standAt (wpAny_bind ?_))
  show wpAny _ X.A (do let _ ← comprehension (.ListComp elt [⟨tg, iter, ifs, 0⟩] sc pos) sc X.env _ (newList []) false (eval iter X.env) (some (assign (.Name y₀ py) X.env))) _ _ s
  refine wpAny_bind (wpAny_mono (wpAny_comprehension_free (use := some (assign (.Name y₀ py) X.env)) (Q := fun _ s' => SP X pins D .next s') (g := ⟨tg, iter, ifs, 0⟩) (gs := []) rfl hs (clos_eq hcl) hk hnames' ?_) (fun _ s' hq => wpAny_pure (wpAny_pure hq)) fun _ _ e => e)
  refine thn (hi pins s σ H _ I h) fun v s1 h1 => thn h1 fun itv s2 h2 => ?_
  obtain ⟨it, fp, tn, J, H2, e, I2, T, st2, f2, q⟩ := h2
  subst e
  obtain ⟨W, ⟨m0, w0⟩, step⟩ := q _ I2.fresh
  refine wpAny_newObj_type (wpAny_newFunctionEnv hcell' (by intro y hy; simp at hy) (fun h₁ hns hsb => ?_) hk)
  dsimp only at hns hsb ⊢
  have I3 : Inv X pins σ (upd H2 s2.heap.objs.size (.lst [])) { s2 with heap := s2.heap.push { cls := .type "list", data := .seq ([] : List Value).toArray }, toks := s2.toks } := I2.lnew .nil (Nat.zero_le _)
  generalize hs3 : ({ s2 with heap := s2.heap.push { cls := .type "list", data := .seq ([] : List Value).toArray }, toks := s2.toks } : Shared) = s3 at I3
  generalize hH3 : upd H2 s2.heap.objs.size (.lst []) = H3 at I3 w0
  have es3 : s3.heap = s2.heap.push { cls := .type "list", data := .seq ([] : List Value).toArray } := by rw [← hs3]
  have hC : (s2.heap.push { cls := .type "list", data := .seq ([] : List Value).toArray }).objs.size = s3.heap.objs.size := by rw [es3]
  have f3 : ∀ b ∈ fp, FpOk X pins H3 b := fun b hb => ⟨by rw [← hH3, upd_ne (Nat.ne_of_lt (by obtain ⟨o, e, _⟩ := T.obj _ _ st2 b hb; exact Heap.lt_size e))]; exact (f2 b hb).1, (f2 b hb).2⟩
  have fl3 : ∀ b ∈ fp, b < s3.heap.objs.size := fun b hb => by
    obtain ⟨o, e, _⟩ := T.obj _ _ st2 b hb
    rw [es3, Heap.size_push]
    exact Nat.lt_succ_of_lt (Heap.lt_size e)
  have ok := blk_ok (N := N) (sc := sc) (fp := fp) I3 hk hcell' hcl f3 fl3
  have k23 : ∀ b u, s2.heap.get? b = some u → s3.heap.get? b = some u := fun b u e => by rw [es3]; exact Heap.get?_push_of_some _ e
  have k34 : ∀ b u, s3.heap.get? b = some u → h₁.get? b = some u := fun b u e => by
    rw [hC] at hsb
    refine (hsb.2 b (Nat.ne_of_lt (Heap.lt_size e))).trans (Heap.get?_push_of_some _ ?_)
    rw [← es3]; exact e
  have I4 := blk_inv (s4 := { s2 with heap := h₁, toks := s2.toks + ([] : List (Str × Value)).length }) (js := js) I3 ok hfree' hN (by rw [← hs3]) (by rw [← hs3]) (by rw [← hC]; exact hns) k34
  have st4 : tn 0 h₁ := T.keep _ _ _ st2 fun b _ o e => k34 b o (k23 b o e)
  generalize hs4 : ({ s2 with heap := h₁, toks := s2.toks + ([] : List (Str × Value)).length } : Shared) = s4 at I4
  have eh4 : s4.heap = h₁ := by rw [← hs4]
  rw [hC]
  generalize hB : (⟨closFrom X.env [] sc.names, s3.heap.objs.size, s3, H3, fp⟩ : BA) = B at ok I4
  have eC : B.C = s3.heap.objs.size := by rw [← hB]
  have stat : ∀ {H' : Hp}, (∀ b ∈ fp, H' b = none) → ∀ b ∈ fp, FpOk (blk X sc N B) [] H' b := fun hn b hb => by
    refine ⟨hn b hb, ?_, fun z => ?_, .inl (by rw [← hB]; exact hb), fun x c e => (ok.exf b (by rw [← hB]; exact hb)).2 x c e, fun p hp => by cases hp⟩
    · exact (ok.exf b (by rw [← hB]; exact hb)).1
    · exact ok.exfs b (by rw [← hB]; exact hb) z
  have fin : ∀ {s' : Shared} {H' : Hp} {σ' : St}, Inv (blk X sc N B) [] σ' H' s' → D.nx (σ.set i₀ (some (.ref s2.heap.objs.size))) H' →
      compPost (model X.prog X.w) X.A X.xe (some (assign (.Name y₀ py) X.env)) (fun _ s' => SP X pins D .next s') (.ref s2.heap.objs.size) s3.heap.objs.size (.ok .next) s' := fun {s' H' σ'} I' q' => by
    obtain ⟨m, hm, _⟩ := id I'.loc
    have hm' : s'.heap.Ns s3.heap.objs.size m := by rw [← eC]; exact hm
    have u1 : Un (frs X.stack) fp H2 H3 s2.heap s3.heap := by rw [← hH3]; exact Un.laid k23 (Nat.le_refl _) I2.fresh
    have u2 : Un (frs X.stack) fp H3 H' s3.heap s'.heap := by
      have z := I'.base
      rw [← hB] at z
      exact z
    have fr' : H' s3.heap.objs.size = none := by rw [← eC]; exact I'.free
    have os' : s'.os = s2.os := by
      have z := I'.os
      rw [← hB] at z
      rw [z, ← hs3]
    have Io : Inv X pins σ H' s' := I2.call' (s' := s') (ch := fp) os' (u1.trans u2) I'.hok I'.bare fun b hb => ⟨(f2 b hb).2.2.2.1, (f2 b hb).2.1, (f2 b hb).2.2.2.2.1, (f2 b hb).2.2.2.2.2⟩
    have ltC : s2.heap.objs.size < s3.heap.objs.size := by rw [es3, Heap.size_push]; exact Nat.lt_succ_self _
    have cC : ∀ x c, X.env.cells.lookup x = some c → c ≠ s3.heap.objs.size := fun x c e z => by
      obtain ⟨v, q⟩ := I2.cell x c e
      exact absurd q.lt (by rw [z]; exact Nat.not_lt.mpr (Nat.le_of_lt ltC))
    have lC : X.env.locals ≠ s3.heap.objs.size := Nat.ne_of_lt (Nat.lt_trans I2.lt ltC)
    show wpAny (model X.prog X.w) X.A (assign (.Name y₀ py) X.env (.ref s2.heap.objs.size)) _ X.xe s'
    refine wpAny_assign_Name (store_ok2 Io hN₀ hi₀ hx₀ (v := .ref s2.heap.objs.size) rfl (fun s'' I'' ⟨a, sb, ha⟩ => ?_) hf₀)
    have haC : s3.heap.objs.size ≠ a := by
      rcases ha with z | z
      · rw [z]; exact lC.symm
      · exact (cC _ _ z).symm
    refine ⟨m, hm'.sameBut sb haC, fun h' sb' => ⟨_, H', I''.turned (t' := s''.toks) (it := s3.heap.objs.size) (fun b o hb e => (sb'.2 b hb).trans e) fr' lC.symm (.inr (Nat.le_trans I2.sz (Nat.le_of_lt ltC))) cC fun p hp z => ?_, q'⟩⟩
    exact absurd (Heap.lt_size (I2.pin p hp).1) (by rw [z]; exact Nat.not_lt.mpr (Nat.le_of_lt ltC))
  have loop : codeAny (model X.prog X.w) X.A (.compLoop (.ListComp elt [⟨tg, iter, ifs, 0⟩] sc pos) 0 (.ref it) (.ref s2.heap.objs.size) (blk X sc N B).env)
      (compPost (model X.prog X.w) X.A X.xe (some (assign (.Name y₀ py) X.env)) (fun _ s' => SP X pins D .next s') (.ref s2.heap.objs.size) s3.heap.objs.size) s4 := by
    refine comp_turns (fun n s' => ∃ i ys σ' H', Inv (blk X sc N B) [] σ' H' s' ∧ Kept (pick σ js) σ' ∧ tn i s'.heap ∧ (∀ b ∈ fp, H' b = none) ∧ W i n ys H') ?_ m0
      ⟨0, [], pick σ js, H3, I4, ⟨rfl, fun _ _ z => z⟩, by rw [eh4]; exact st4, fun b hb => (f3 b hb).1, w0⟩
    rintro n s5 ⟨i, ys, σ5, H5, I5', kp5, st5, fr5, w5⟩
    have I5 : Inv (blk X sc N B) [] (pick σ js) H5 s5 := I5'.weak kp5.1.symm kp5.2
    rcases step i n ys H5 w5 with ⟨stop, qn⟩ | ⟨go, N', hN', turn⟩
    · refine thn (T.done (blk X sc N B) rfl rfl rfl hcalm i [] s5 _ H5 NoX I5 (stat fr5) st5 stop) fun r s6 ⟨hr, I6⟩ => .inl ⟨hr, fin I6 qn⟩
    · refine thn (T.item (blk X sc N B) rfl rfl rfl hcalm i [] s5 _ H5 NoX I5 (stat fr5) st5 go) fun r s6 ⟨u, hr, h6⟩ => .inr ⟨u, hr, ?_⟩
      refine thn h6 fun _ s7 ⟨x, H7, I7, r7, y7, st7, fr7⟩ => ?_
      have I7' := I7.pinned (stat fr7) (T.obj _ _ st7)
      have back : ∀ {σ8 : St} {H8 : Hp} {s8 : Shared}, Inv (blk X sc N B) ([] ++ pinsAt fp s7.heap) σ8 H8 s8 → tn (i + 1) s8.heap ∧ ∀ b ∈ fp, H8 b = none := fun {σ8 H8 s8} I8 => by
        refine ⟨T.keep _ _ _ st7 fun b hb o e => (I8.pin (b, o) (List.mem_append_right _ (List.mem_append_right _ (mem_pinsAt hb e)))).1, fun b hb => ?_⟩
        obtain ⟨o, e, d⟩ := T.obj _ _ st7 b hb
        exact (I8.pin (b, o) (List.mem_append_right _ (List.mem_append_right _ (mem_pinsAt hb e)))).2.1
      refine thn (hg B _ s7 _ H7 x u _ I7' r7 (turn x H7 y7)) fun _ s8 ⟨σ8, H8, I8, kp8, q8⟩ => ?_
      refine thn (hc B _ s8 σ8 H8 _ I8 q8) fun ok s9 ⟨H9, I9, q9⟩ => ⟨fun e => ?_, fun e => ?_⟩
      · refine thn (he B _ s9 σ8 H9 _ I9 (q9.1 e)) fun yv s10 ⟨y, H10, I10, r10, q10⟩ => ?_
        obtain ⟨e10, l10, n10⟩ := q10
        refine thn (mt_append _ s10 σ8 H10 (.ref s2.heap.objs.size) [y] _ _ (fun _ H' => N' (ys ++ [y]) H') I10 rfl (.cons r10 .nil) ⟨_, ys, y, rfl, rfl, e10, l10, n10⟩) fun _ s11 ⟨_, H11, I11, _, q11⟩ => ?_
        obtain ⟨m', hm, w11⟩ := hN' _ _ q11
        obtain ⟨st11, fr11⟩ := back I11
        exact ⟨m', hm, i + 1, ys ++ [y], σ8, H11, I11.unpinned, kp8, st11, fr11, w11⟩
      · obtain ⟨m', hm, w11⟩ := hN' _ _ (q9.2 e)
        obtain ⟨st11, fr11⟩ := back I9
        exact ⟨m', hm, i + 1, ys, σ8, H9, I9.unpinned, kp8, st11, fr11, w11⟩
  have env_eq : (blk X sc N B).env = compEnvC sc (closFrom X.env [] sc.names) s3.heap.objs.size X.env := by rw [← hB]
  rw [env_eq] at loop
  have st4' : tn 0 s4.heap := by rw [eh4]; exact st4
  exact codeAny_compStart_list loop (T.self X.A 0 _ _ _ st4' loop)
end L2

set_option Elab.async false
set_option linter.all false
set_option maxRecDepth 100000
namespace L2
open PySem PySem.Spec PyProof.Rows

/-! ### built-in types as values, isinstance -/
section
variable {X : Cx} {p : Pos}
end
/-! ### a def of the text, called by its name -/
structure Def (K : PySem.W.Frag) (mg : Str → Option Value) (x : Str) (st : Stmt) (ps : List Str) (f : Addr) (fd : FuncData) : Prop where
  fn : Fun K x x st f fd
  bd : Binds K fd ps []
  at' : mg x = some (.ref f)
section
variable {X : Cx} {k : Nat} {x : Str} {st : Stmt} {ps : List Str} {f : Addr} {fd : FuncData} {sp : Sp} {e : Expr} {es : List Expr} {t : TA} {p pos : Pos}
theorem pc (D : Def X.K X.mg x st ps f fd) (F : FnOk X.prog X.w X.K X.mg X.base CX0 k f fd ps sp) (hr : Room k X.A) (ha : PA X (e :: es) t) (hg : Gl X x := by rfl) (hdb : (x == ("__debug__" : Str)) = false := by decide)
    (he : starEach (e :: es) X.env = (false, eval e X.env) :: starEach es X.env := by rfl) (hpl : (backTo pos (starEach es X.env)).any (·.1) = false := by rfl) : PE X (.Call (.Name x p) (e :: es) [] pos) (tCall sp [] E0 t) :=
  pe_call F hr hg D.at' D.fn.kp D.bd .nil pass0 ha hdb he hpl
end
/-- a new object beside what is there -/
theorem Same.new {H : Hp} {a : Addr} {o : HO} (h : H a = none) : Same H (upd H a o) := fun b u e => by rw [upd_ne (ne_of_none e h)]; exact e
theorem Same.put {H H' : Hp} {a : Addr} {o : HO} (s : Same H H') (h : H a = none) : Same H (upd H' a o) := fun b u e => by rw [upd_ne (ne_of_none e h)]; exact s b u e
theorem Same.to {H H' : Hp} {a : Addr} {o : HO} (s : Same H H') (h : H' a = none) : Same H (upd H' a o) := s.trans (Same.new h)
end L2

set_option Elab.async false
set_option linter.all false
set_option maxRecDepth 100000
namespace L2
open PySem PySem.Spec PyProof.Rows

/-! ### == of lists and tuples, at any depth -/
inductive DEq (K : PySem.W.Frag) (H : Hp) : Nat → V → V → Bool → Prop
  | flat {d : Nat} {x y : V} (fx : flatV x = true) (fy : flatV y = true) : DEq K H d x y (eqV x y)
  | lst {d : Nat} {a b : Addr} {xs ys : List V} {e : Nat → Bool} (h1 : SqL K H a xs) (h2 : SqL K H b ys) (hl : xs.length = ys.length)
      (he : ∀ (j : Nat) x y, xs[j]? = some x → ys[j]? = some y → DEq K H d x y (e j)) : DEq K H (d + 1) (.ref a) (.ref b) ((List.range xs.length).all e)
  | len {d : Nat} {a b : Addr} {xs ys : List V} (h1 : SqL K H a xs) (h2 : SqL K H b ys) (hl : xs.length ≠ ys.length) : DEq K H (d + 1) (.ref a) (.ref b) false
  | tup {d : Nat} {a b : Addr} {xs ys : List V} {e : Nat → Bool} (h1 : SqT K H a xs) (h2 : SqT K H b ys)
      (he : ∀ (j : Nat) x y, xs[j]? = some x → ys[j]? = some y → DEq K H d x y (e j)) : DEq K H (d + 1) (.ref a) (.ref b) ((List.range (min xs.length ys.length)).all e && xs.length == ys.length)
theorem eqV_refl : ∀ {x : V}, flatV x = true → eqV x x = true
  | .non, _ => rfl
  | .bl b, _ => by cases b <;> rfl
  | .int i, _ => by simp [eqV]
  | .str y, _ => by simp [eqV]
theorem DEq.self {X : Cx} {pins : List (Addr × Obj)} {σ : St} {H : Hp} {s : Shared} (I : Inv X pins σ H s) {d : Nat} {x y : V} {b : Bool} (h : DEq X.K H d x y b) : x = y → b = true := by
  induction h with
  | flat fx fy => intro e; subst e; exact eqV_refl fx
  | @lst d a b xs ys e h1 h2 hl he ih =>
    intro z
    cases z
    have q := I.list_inj h1 h2
    subst q
    rw [List.all_eq_true]
    intro j hj
    have hj' : j < xs.length := List.mem_range.mp hj
    exact ih j _ _ (List.getElem?_eq_getElem hj') (List.getElem?_eq_getElem hj') rfl
  | len h1 h2 hl =>
    intro z
    cases z
    have q := I.list_inj h1 h2
    exact absurd (congrArg List.length q) hl
  | @tup d a b xs ys e h1 h2 he ih =>
    intro z
    cases z
    have q := I.tuple_inj h1 h2
    subst q
    rw [Bool.and_eq_true, List.all_eq_true]
    refine ⟨fun j hj => ?_, by simp⟩
    have hj' : j < xs.length := by have := List.mem_range.mp hj; omega
    exact ih j _ _ (List.getElem?_eq_getElem hj') (List.getElem?_eq_getElem hj') rfl
theorem Vals.at {xs : List V} {us : List Value} (r : Vals xs us) {j : Nat} (h : j < us.toArray.size) : ∃ x, xs[j]? = some x ∧ RelV x us.toArray[j] := by
  have hl := r.length
  have h' : j < xs.length := by simpa [hl] using h
  obtain ⟨u, e, ru⟩ := r.get (List.getElem?_eq_getElem h')
  refine ⟨_, List.getElem?_eq_getElem h', ?_⟩
  have h2 : j < us.length := by simpa using h
  rw [List.getElem?_eq_getElem h2] at e
  have e2 : us[j] = u := Option.some.inj e
  simpa [e2] using ru
theorem DEq.at {X : Cx} {pins : List (Addr × Obj)} {σ : St} {H : Hp} {s : Shared} (I : Inv X pins σ H s) {d : Nat} {x y : V} {b : Bool} (h : DEq X.K H d x y b) :
    ∀ {A : Around} {u v : Value}, A.units + d < cLine → RelV x u → RelV y v → SeqAt.EqAt A s u v b := by
  induction h with
  | flat fx fy => intro A u v hu rx ry; exact eqAt_V rx ry fx fy
  | @lst d a b xs ys e h1 h2 hl he ih =>
    intro A u v hu rx ry
    cases rx; cases ry
    by_cases hab : a = b
    · have z : (List.range xs.length).all e = true := (DEq.lst h1 h2 hl he).self I (by rw [hab])
      rw [z, hab]
      exact SeqAt.EqAt.same _
    · obtain ⟨its, r, pl, _⟩ := I.list h1
      obtain ⟨its2, r2, pl2, _⟩ := I.list h2
      have l1 := r.length
      have l2 := r2.length
      have q := SeqAt.RcAt.lists (A := A) (e := e) pl.isList pl2.isList (by simp; omega) (by omega) fun j j1 j2 => by
        obtain ⟨x, ex, rx⟩ := r.at j1
        obtain ⟨y, ey, ry⟩ := r2.at j2
        exact ih j x y ex ey (by show A.units + 1 + d < cLine; omega) rx ry
      refine SeqAt.EqAt.of_refs hab ?_
      simpa [l1] using q
  | @len d a b xs ys h1 h2 hl =>
    intro A u v hu rx ry
    cases rx; cases ry
    have hab : a ≠ b := by
      rintro rfl
      exact hl (congrArg List.length (I.list_inj h1 h2))
    obtain ⟨its, r, pl, _⟩ := I.list h1
    obtain ⟨its2, r2, pl2, _⟩ := I.list h2
    have l1 := r.length
    have l2 := r2.length
    exact SeqAt.EqAt.of_refs hab (SeqAt.RcAt.lists_lengths pl.isList pl2.isList (by simp; omega) (by omega))
  | @tup d a b xs ys e h1 h2 he ih =>
    intro A u v hu rx ry
    cases rx; cases ry
    by_cases hab : a = b
    · have z := (DEq.tup h1 h2 he).self I (by rw [hab])
      rw [z, hab]
      exact SeqAt.EqAt.same _
    · obtain ⟨its, r, pl, _⟩ := I.tuple h1
      obtain ⟨its2, r2, pl2, _⟩ := I.tuple h2
      have l1 := r.length
      have l2 := r2.length
      have q := SeqAt.RcAt.tuples (A := A) (e := e) (show s.heap.IsTuple a its.toArray from pl) (show s.heap.IsTuple b its2.toArray from pl2) (by omega) fun j j1 j2 => by
        obtain ⟨x, ex, rx⟩ := r.at j1
        obtain ⟨y, ey, ry⟩ := r2.at j2
        exact ih j x y ex ey (by show A.units + 1 + d < cLine; omega) rx ry
      refine SeqAt.EqAt.of_refs hab ?_
      simpa [l1, l2] using q
section
variable {X : Cx}
def rEqD (K : PySem.W.Frag) : R2 := fun x y H Q => ∃ d b, DEq K H d x y b ∧ d < 64 ∧ flatV x = false ∧ Q (.bl b) H
def rNeD (K : PySem.W.Frag) : R2 := fun x y H Q => ∃ d b, DEq K H d x y b ∧ d < 64 ∧ flatV x = false ∧ Q (.bl (!b)) H
theorem op_eqD (hu : X.A.units + 64 < cLine) : OpR X (compareOp .Eq) (rEqD X.K) := by
  intro pins s σ H x y v u Q I rx ry h
  obtain ⟨d, b, dq, hd, fl, q⟩ := h
  cases dq with
  | flat fx fy => rw [fx] at fl; cases fl
  | @lst d a b xs ys e h1 h2 hl he =>
    cases rx; cases ry
    obtain ⟨its, r, pl, _⟩ := I.list h1
    obtain ⟨its2, r2, pl2, _⟩ := I.list h2
    have l1 := r.length
    have l2 := r2.length
    refine SeqAt.eq_listAt (e := e) pl.isList pl2.isList (by simp; omega) (by omega) (fun j j1 j2 => ?_) ?_
    · obtain ⟨x, ex, rx⟩ := r.at j1
      obtain ⟨y, ey, ry⟩ := r2.at j2
      exact (he j x y ex ey).at I (by show X.A.units + 1 + d < cLine; omega) rx ry
    · refine ⟨.bl _, H, I, rfl, ?_⟩
      simpa [← l1] using q
  | @len d a b xs ys h1 h2 hl =>
    cases rx; cases ry
    obtain ⟨its, r, pl, _⟩ := I.list h1
    obtain ⟨its2, r2, pl2, _⟩ := I.list h2
    have l1 := r.length
    have l2 := r2.length
    exact SeqAt.eq_list_lengthsAt pl.isList pl2.isList (by simp; omega) (by omega) ⟨.bl _, H, I, rfl, q⟩
  | @tup d a b xs ys e h1 h2 he =>
    cases rx; cases ry
    obtain ⟨its, r, pl, _⟩ := I.tuple h1
    obtain ⟨its2, r2, pl2, _⟩ := I.tuple h2
    have l1 := r.length
    have l2 := r2.length
    refine SeqAt.eq_tupleAt (e := e) (show s.heap.IsTuple a its.toArray from pl) (show s.heap.IsTuple b its2.toArray from pl2) (by omega) (fun j j1 j2 => ?_) ?_
    · obtain ⟨x, ex, rx⟩ := r.at j1
      obtain ⟨y, ey, ry⟩ := r2.at j2
      exact (he j x y ex ey).at I (by show X.A.units + 1 + d < cLine; omega) rx ry
    · refine ⟨.bl _, H, I, rfl, ?_⟩
      simpa [← l1, ← l2] using q
theorem op_neD (hu : X.A.units + 64 < cLine) : OpR X (compareOp .NotEq) (rNeD X.K) := by
  intro pins s σ H x y v u Q I rx ry h
  obtain ⟨d, b, dq, hd, fl, q⟩ := h
  cases dq with
  | flat fx fy => rw [fx] at fl; cases fl
  | @lst d a b xs ys e h1 h2 hl he =>
    cases rx; cases ry
    obtain ⟨its, r, pl, _⟩ := I.list h1
    obtain ⟨its2, r2, pl2, _⟩ := I.list h2
    have l1 := r.length
    have l2 := r2.length
    refine SeqAt.RcNeAt.lists (e := e) pl.isList pl2.isList (by simp; omega) (by omega) (fun j j1 j2 => ?_) _ _ _ _ ?_
    · obtain ⟨x, ex, rx⟩ := r.at j1
      obtain ⟨y, ey, ry⟩ := r2.at j2
      exact (he j x y ex ey).at I (by show X.A.units + 1 + d < cLine; omega) rx ry
    · refine ⟨.bl _, H, I, rfl, ?_⟩
      simpa [← l1] using q
  | @len d a b xs ys h1 h2 hl =>
    cases rx; cases ry
    obtain ⟨its, r, pl, _⟩ := I.list h1
    obtain ⟨its2, r2, pl2, _⟩ := I.list h2
    have l1 := r.length
    have l2 := r2.length
    exact SeqAt.RcNeAt.lists_lengths pl.isList pl2.isList (by simp; omega) (by omega) _ _ _ _ ⟨.bl _, H, I, rfl, q⟩
  | @tup d a b xs ys e h1 h2 he =>
    cases rx; cases ry
    obtain ⟨its, r, pl, _⟩ := I.tuple h1
    obtain ⟨its2, r2, pl2, _⟩ := I.tuple h2
    have l1 := r.length
    have l2 := r2.length
    refine SeqAt.RcNeAt.tuples (e := e) (show s.heap.IsTuple a its.toArray from pl) (show s.heap.IsTuple b its2.toArray from pl2) (by omega) (fun j j1 j2 => ?_) _ _ _ _ ?_
    · obtain ⟨x, ex, rx⟩ := r.at j1
      obtain ⟨y, ey, ry⟩ := r2.at j2
      exact (he j x y ex ey).at I (by show X.A.units + 1 + d < cLine; omega) rx ry
    · refine ⟨.bl _, H, I, rfl, ?_⟩
      simpa [← l1, ← l2] using q

end
end L2

set_option Elab.async false
set_option linter.all false
set_option maxRecDepth 100000
namespace L2
open PySem PySem.Spec PyProof.Rows

/-- all but one address stands -/
def SameBut (acc : Addr) (H H' : Hp) : Prop := ∀ b o, b ≠ acc → H b = some o → H' b = some o
theorem Same.but {acc : Addr} {H H' : Hp} (s : Same H H') : SameBut acc H H' := fun b o _ e => s b o e
theorem SameBut.trans {acc : Addr} {H H1 H2 : Hp} (a : SameBut acc H H1) (b : SameBut acc H1 H2) : SameBut acc H H2 := fun c o n h => b c o n (a c o n h)
theorem SameBut.upd {acc : Addr} {H : Hp} {o : HO} : SameBut acc H (upd H acc o) := fun b u n e => by rw [upd_ne n]; exact e
theorem SameBut.same {acc : Addr} {H H' : Hp} (h : SameBut acc H H') (n : H acc = none) : Same H H' := fun b o e => h b o (ne_of_none e n) e
theorem szl {n : Nat} (h : n ≤ 1000) : n ≤ sizeLine := Nat.le_of_lt (small1000 h)
theorem szr {n : Nat} (h : Nat.ble n 1000 = true := by rfl) : n ≤ sizeLine := szl (Nat.le_of_ble_eq_true h)
theorem szn {n : Nat} (h : n < 100000) : n < sizeLine := by rw [sizeLine_eq]; omega

theorem kept1 {x : Option V} {σ : St} : Kept (none :: σ) (x :: σ) := ⟨rfl, fun i v e => by
  cases i with
  | zero => cases e
  | succ i => exact e⟩

/-! ### a comprehension over a walk of n known things: the tests by p, the items by a word P that leans on no acc -/
theorem comp_walk {J : It} {H1 : Hp} {js : List (Option Nat)} {σ : St} {tc : TT} {te : TE} {Q : VK} (n : Nat) (item : Nat → V) (p : Nat → Bool) (P : Addr → Nat → V → Hp → Prop) (hn : n < 100000)
    (mono : ∀ acc i v H H', P acc i v H → SameBut acc H H' → P acc i v H')
    (hgo : ∀ i H, i < n → Same H1 H → J.go i H) (hst : ∀ H, Same H1 H → J.stop n H) (hy : ∀ i H x H', i < n → Same H1 H → J.yld i H x H' → H' = H ∧ x = item i)
    (hc : ∀ i, i < n → ∀ H2 R, Same H1 H2 → R (p i) H2 → tc (some (item i) :: pick σ js) H2 R)
    (he : ∀ acc i, i < n → p i = true → ∀ H2 R, Same H1 H2 → H1 acc = none → H2 acc ≠ none → (∀ v H3, Same H2 H3 → P acc i v H3 → R v H3) → te (some (item i) :: pick σ js) H2 R)
    (hQ : ∀ acc vs H', Same H1 H' → H1 acc = none → H' acc = some (.lst vs) → Paired (fun i v => P acc i v H') ((List.range n).filter p) vs → Q (.ref acc) H') :
    CompB J H1 (none :: js) (gName 0) tc te σ Q := by
  intro acc hacc
  refine ⟨fun i m ys H => m = n - i ∧ i ≤ n ∧ Same H1 H ∧ H acc = some (.lst ys) ∧ Paired (fun k v => P acc k v H) ((List.range i).filter p) ys, ⟨n, by simp, Nat.zero_le _, Same.new hacc, upd_same, .nil⟩, ?_⟩
  rintro i m ys H ⟨rfl, hi, s1, ha, hp⟩
  by_cases hlt : i < n
  · refine .inr ⟨hgo i H hlt s1, fun ys' H' => i < n ∧ Same H1 H' ∧ H' acc = some (.lst ys') ∧ Paired (fun k v => P acc k v H') ((List.range (i + 1)).filter p) ys', fun ys' H' ⟨z, a, b, c⟩ => ⟨n - (i + 1), by omega, rfl, hlt, a, b, c⟩, fun x H' y => ?_⟩
    obtain ⟨rfl, rfl⟩ := hy i H x H' hlt s1 y
    refine ⟨kept1, hc i hlt _ _ s1 ⟨fun hb => ?_, fun hb => ?_⟩⟩
    · refine he acc i hlt hb _ _ s1 hacc (by rw [ha]; simp) fun v H3 s3 pv => ?_
      have hlen : ys.length ≤ i := by
        rw [← Paired.length hp]
        exact Nat.le_trans (List.length_filter_le _ _) (by simp)
      refine ⟨s3 _ _ ha, szn (by omega), hlt, (s1.trans s3).put hacc, upd_same, ?_⟩
      rw [List.range_succ, List.filter_append]
      have e : List.filter p [i] = [i] := by simp [hb]
      rw [e]
      refine Paired.snoc (Paired.mapP hp fun k v q => ?_) ?_
      · exact mono acc k v _ _ (mono acc k v _ _ q s3.but) SameBut.upd
      · exact mono acc i v _ _ pv SameBut.upd
    · refine ⟨hlt, s1, ha, ?_⟩
      rw [List.range_succ, List.filter_append]
      have e : List.filter p [i] = [] := by simp [hb]
      rw [e, List.append_nil]
      exact hp
  · have e : i = n := by omega
    subst e
    exact .inl ⟨hst H s1, hQ acc ys H s1 hacc ha hp⟩
theorem paired_map {α β : Type} {f : α → β} : ∀ {l : List α} {r : List β}, Paired (fun a b => b = f a) l r → r = l.map f
  | _, _, .nil => rfl
  | _, _, .cons h t => by rw [h, paired_map t]; rfl
section
variable {K : PySem.W.Frag} {H1 : Hp} {js : List (Option Nat)} {σ : St} {tc : TT} {te : TE} {Q : VK}
/-- over a range, every item kept: a value each -/
theorem comp_range {lo : Int} {n : Nat} (f : Nat → V) (hn : n < 100000)
    (he : ∀ i : Nat, i < n → ∀ H2 R, Same H1 H2 → (∀ H3, Same H2 H3 → R (f i) H3) → te (some (.int (lo + i)) :: pick σ js) H2 R)
    (hQ : ∀ acc H', Same H1 H' → H1 acc = none → H' acc = some (.lst ((List.range n).map f)) → Q (.ref acc) H') : CompB (Itr lo n) H1 (none :: js) (gName 0) tYes te σ Q :=
  comp_walk (J := Itr lo n) (H1 := H1) (js := js) (σ := σ) (tc := tYes) (te := te) (Q := Q) n (fun i => .int (lo + i)) (fun _ => true) (fun _ i v _ => v = f i) hn (fun _ _ _ _ _ h _ => h)
    (fun _ _ h _ => h) (fun _ _ => Nat.le_refl _) (fun _ _ _ _ _ _ y => y) (fun _ _ _ _ _ h => h) (fun _ i hi _ H2 R s _ _ k => he i hi H2 R s fun H3 s3 => k _ H3 s3 rfl)
    fun acc vs H' s n' e p => hQ acc H' s n' (by rw [e, paired_map p, List.filter_eq_self.mpr (fun _ _ => rfl)])
/-- over a list that stays, with a test -/
theorem comp_list {a : Addr} {xs : List V} (p : Nat → Bool) (P : Addr → Nat → V → Hp → Prop) (hl : SqL K H1 a xs) (hn : xs.length < 100000)
    (mono : ∀ acc i v H H', P acc i v H → SameBut acc H H' → P acc i v H')
    (hc : ∀ (i : Nat) x, xs[i]? = some x → ∀ H2 R, Same H1 H2 → R (p i) H2 → tc (some x :: pick σ js) H2 R)
    (he : ∀ acc (i : Nat) x, xs[i]? = some x → p i = true → ∀ H2 R, Same H1 H2 → H1 acc = none → H2 acc ≠ none → (∀ v H3, Same H2 H3 → P acc i v H3 → R v H3) → te (some x :: pick σ js) H2 R)
    (hQ : ∀ acc vs H', Same H1 H' → H1 acc = none → H' acc = some (.lst vs) → Paired (fun i v => P acc i v H') ((List.range xs.length).filter p) vs → Q (.ref acc) H') : CompB (Itl K a) H1 (none :: js) (gName 0) tc te σ Q :=
  comp_walk (J := Itl K a) (H1 := H1) (js := js) (σ := σ) (tc := tc) (te := te) (Q := Q) xs.length (fun i => xs.getD i .non) p P hn mono
    (fun i H h s => ⟨xs, xs[i], s.seq hl, by simp [h]⟩) (fun H s => ⟨xs, s.seq hl, Nat.le_refl _⟩)
    (fun i H x H' h s y => ⟨y.1, by have e := y.2 xs (s.seq hl); simp [e]⟩)
    (fun i h H2 R s k => hc i _ (by simp [h]) H2 R s k) (fun acc i h hp H2 R s n1 n2 k => he acc i _ (by simp [h]) hp H2 R s n1 n2 k) hQ
end
end L2

set_option Elab.async false
set_option linter.all false
set_option maxRecDepth 100000
namespace L2
open PySem PySem.Spec PyProof.Rows
/-! ### the rules that lean on the written part, by its own name (a block's reading may not name the block) -/
section
variable {X : Cx} {tg l : Expr} {tl : TE} {es : List Expr} {k n : Nat} {t : TGs} {pos : Pos} {a : Expr} {ta : TE}
theorem ixL (K : PySem.W.Frag) (h : X.K = K := by rfl) : IxR X (rIxL K) := by subst h; exact ix_list
theorem ixT (K : PySem.W.Frag) (h : X.K = K := by rfl) : IxR X (rIxT K) := by subst h; exact ix_tup
theorem ninS (K : PySem.W.Frag) (h : X.K = K := by rfl) : OpR X (compareOp .NotIn) (rIn K true) := by subst h; exact op_notIn_seq
theorem eqD (K : PySem.W.Frag) (hu : X.A.units + 64 < cLine) (h : X.K = K := by rfl) : OpR X (compareOp .Eq) (rEqD K) := by subst h; exact op_eqD hu
theorem neD (K : PySem.W.Frag) (hu : X.A.units + 64 < cLine) (h : X.K = K := by rfl) : OpR X (compareOp .NotEq) (rNeD K) := by subst h; exact op_neD hu
theorem cLen (K : PySem.W.Frag) (h : X.K = K := by rfl) : CallR X (.builtin "len") (fun xs H Q => ∃ x n, xs = [x] ∧ LenV K x H n ∧ Q (.int n) H) := by subst h; exact call_len
theorem cList (K : PySem.W.Frag) (h : X.K = K := by rfl) : CallR X (.type "list") (fun xs H Q => ∃ p ys, xs = [.ref p] ∧ (SqL K H p ys ∨ SqT K H p ys) ∧ ∀ l, H l = none → Q (.ref l) (upd H l (.lst ys))) := by subst h; exact call_list_of
theorem piL (K : PySem.W.Frag) (hl : PE X l tl) (h : X.K = K := by rfl) : PI X tg l (iList K tl) := by subst h; exact pi_list hl
theorem piT (K : PySem.W.Frag) (hl : PE X l tl) (h : X.K = K := by rfl) : PI X tg l (iTup K tl) := by subst h; exact pi_tup hl
end
theorem nodupN {X : Cx} {N : List Str} (h : N.Nodup) (e : X.N = N := by rfl) : X.N.Nodup := by rw [e]; exact h

/-! ### equalities of lists that one meets -/
section
variable {K : PySem.W.Frag} {H : Hp} {a b : Addr}
theorem deq_flat {xs : List V} (h1 : SqL K H a xs) (h2 : SqL K H b xs) (hf : ∀ x ∈ xs, flatV x = true) : DEq K H 1 (.ref a) (.ref b) true := by
  have q := DEq.lst (d := 0) (e := fun _ => true) h1 h2 rfl fun j x y ex ey => by
    rw [ex] at ey
    cases ey
    have f := hf x (List.mem_of_getElem? ex)
    have e := DEq.flat (K := K) (H := H) (d := 0) f f
    rw [eqV_refl f] at e
    exact e
  have e : ((List.range xs.length).all fun _ => true) = true := List.all_eq_true.mpr fun _ _ => rfl
  rw [e] at q
  exact q
theorem flat_ints {ns : List Int} : ∀ x ∈ ns.map V.int, flatV x = true := fun x hx => by
  obtain ⟨i, _, rfl⟩ := List.mem_map.mp hx
  rfl
end
theorem ifB {b : Bool} {A B : Prop} (h1 : b = true → A) (h2 : b = false → B) : if b = true then A else B := by
  cases b with
  | true => exact iteT (h1 rfl)
  | false => exact iteF (h2 rfl)
theorem ifEq {i j : Int} {A B : Prop} (h1 : i = j → A) (h2 : i ≠ j → B) : if decide (V.int i = V.int j) = true then A else B := by
  by_cases h : i = j
  · rw [if_pos (by simp [h])]; exact h1 h
  · rw [if_neg (by simp [h])]; exact h2 h
theorem ifD {c : Prop} [Decidable c] {A B : Prop} (h1 : c → A) (h2 : ¬ c → B) : if decide c = true then A else B := by
  by_cases h : c
  · rw [if_pos (decide_eq_true h)]; exact h1 h
  · rw [if_neg (by simp [h])]; exact h2 h

/-! ### a block with a word between its first statement and the rest -/
def tCut (t u : TS) : TS := fun D σ H => ∃ P : L2.St → Hp → Prop, t { D with nx := P } σ H ∧ ∀ σ' H', P σ' H' → u D σ' H'
theorem pss_cut {X : Cx} {st : Stmt} {rest : List Stmt} {t u : TS} (h1 : PS X st t) (h2 : PSs X rest u) : PSs X (st :: rest) (tCut t u) := by
  intro pins s σ H D I h
  obtain ⟨P, ht, hu⟩ := h
  refine wpAny_execs_cons (thn (h1 pins s σ H { D with nx := P } I ht) fun f s1 q => ?_)
  cases f with
  | next =>
    obtain ⟨σ', H', I', q⟩ := q
    exact h2 pins s1 σ' H' D I' (hu σ' H' q)
  | ret v => exact q
  | brk => exact q
  | cont => exact q
end L2

set_option Elab.async false
set_option linter.all false
set_option maxRecDepth 100000
namespace L2
open PySem PySem.Spec PyProof.Rows
section
variable {X : Cx} {tg l : Expr} {tl : TE}
end

end L2

set_option Elab.async false
set_option linter.all false
set_option maxRecDepth 100000
namespace L2
open PySem PySem.Spec PyProof.Rows
section
variable {X : Cx} {es : List Expr} {t : TA}
end
end L2

set_option Elab.async false
set_option linter.all false
set_option maxRecDepth 100000
namespace L2
open PySem PySem.Spec PyProof.Rows
/-! ### a dict while it is walked -/
def DW (P : Program) (w : World) (d : Addr) (vs : List (Key × Value)) (ep : Nat) : Heap → Prop := fun h => h.DictAt (mixKind P w) d vs ep
theorem DW.ok {P : Program} {w : World} {H : Hp} {h : Heap} {d : Addr} {vs : List (Key × Value)} {ep : Nat} (x : h.DictAt (mixKind P w) d vs ep) : ObjOk P w H h d (.ext (DW P w d vs ep)) :=
  ⟨x, by obtain ⟨o, _, e, _⟩ := x; exact ⟨o, e⟩, fun _ _ y k => y.at' k⟩
section
variable {X : Cx} {tg l : Expr} {tl : TE}
end
end L2

set_option Elab.async false
set_option linter.all false
set_option maxRecDepth 100000
namespace L2
/-! ### deals: who holds a badge (kvs), what was asked (as), the pools (ps) -/
abbrev HK := List (Key × V)
def cnt (kvs : HK) (q : Nat) : Nat := (kvs.map (·.2)).count (V.int q)
def bit (p : Prop) [Decidable p] : Nat := if p then 1 else 0
theorem valV_mem {kvs : HK} {k : Key} {v : V} (h : valV kvs k = some v) : (k, v) ∈ kvs := by
  unfold valV at h
  obtain ⟨x, hx, e⟩ := Option.map_eq_some_iff.mp h
  have := List.find?_some hx
  have e1 : x.1 = k := of_decide_eq_true this
  have := List.mem_of_find?_eq_some hx
  rw [← e1, ← e]; exact this
/-- each entry is a badge of the pool of a place -/
def Good (ps : List (List Int)) (kvs : HK) : Prop := ∀ e ∈ kvs, ∃ (b : Int) (q : Nat) (p : List Int), e = (Sum.inl b, V.int q) ∧ ps[q]? = some p ∧ b ∈ p
/-- all that were asked since as are held, and the pools of their holders were asked whole -/
def Clo (ps : List (List Int)) (kvs : HK) (as as' : List Int) : Prop := ∀ b ∈ as', b ∉ as → ∃ (q : Nat) (p : List Int), valV kvs (Sum.inl b) = some (.int q) ∧ ps[q]? = some p ∧ ∀ c ∈ p, c ∈ as'
/-- what a search promises -/
structure Sett (ps : List (List Int)) (U : List Int) (pl : Nat) (kvs : HK) (as : List Int) (ok : Bool) (kvs' : HK) (as' : List Int) : Prop where
  grow : ∀ b ∈ as, b ∈ as'
  nd : as'.Nodup
  sub : ∀ b ∈ as', b ∈ U
  no : ok = false → kvs' = kvs ∧ (∀ p, ps[pl]? = some p → ∀ b ∈ p, b ∈ as') ∧ Clo ps kvs as as'
  yes : ok = true → (kvs'.map (·.1)).Nodup ∧ Good ps kvs' ∧ (∀ q, cnt kvs' q = cnt kvs q + bit (q = pl)) ∧ (∀ b ∈ as, valV kvs' (Sum.inl b) = valV kvs (Sum.inl b)) ∧ kvs'.length ≤ kvs.length + U.length
/-! ### the whole -/
structure Deal (ps : List (List Int)) (hs : List Int) : Prop where
  len : hs.length = ps.length
  of : ∀ k (h1 : k < hs.length) (h2 : k < ps.length), hs[k] ∈ ps[k]
  nd : hs.Nodup
structure Short (ps : List (List Int)) (ms : List Nat) : Prop where
  up : ms.Pairwise (· < ·)
  few : ∃ X : List Int, X.length < ms.length ∧ ∀ q ∈ ms, ∃ p, ps[q]? = some p ∧ ∀ c ∈ p, c ∈ X
structure Held (ps : List (List Int)) (kvs : HK) (n : Nat) : Prop where
  nd : (kvs.map (·.1)).Nodup
  good : Good ps kvs
  one : ∀ q, cnt kvs q = bit (q < n)
theorem Held.next {ps : List (List Int)} {U : List Int} {kvs kvs' : HK} {n : Nat} {as' : List Int} (h : Held ps kvs n) (r : Sett ps U n kvs [] true kvs' as') : Held ps kvs' (n + 1) := by
  obtain ⟨a, b, c, _⟩ := r.yes rfl
  refine ⟨a, b, fun q => ?_⟩
  rw [c q, h.one q]
  unfold bit
  by_cases h1 : q < n
  · rw [if_pos h1, if_neg (by omega), if_pos (by omega)]
  · by_cases h2 : q = n
    · rw [if_neg h1, if_pos h2, if_pos (by omega)]
    · rw [if_neg h1, if_neg h2, if_neg (by omega)]
theorem nodup_of_count {α : Type} [DecidableEq α] : ∀ {l : List α}, (∀ a, l.count a ≤ 1) → l.Nodup
  | [], _ => List.nodup_nil
  | x :: r, h => by
    refine List.nodup_cons.mpr ⟨fun m => ?_, nodup_of_count fun a => ?_⟩
    · have := h x
      have h2 := List.count_pos_iff.mpr m
      rw [List.count_cons_self] at this
      omega
    · have := h a
      rw [List.count_cons] at this
      omega
theorem Held.vals {ps : List (List Int)} {kvs : HK} {n : Nat} (h : Held ps kvs n) : (kvs.map (·.2)).Nodup := nodup_of_count fun a => by
  by_cases m : a ∈ kvs.map (·.2)
  · obtain ⟨e, he, ea⟩ := List.mem_map.mp m
    obtain ⟨b, q, p, e1, _⟩ := h.good e he
    have ea' : a = V.int q := by rw [← ea, e1]
    have := h.one q
    unfold cnt bit at this
    rw [ea', this]
    split <;> omega
  · rw [List.count_eq_zero_of_not_mem m]; omega
theorem Held.lt {ps : List (List Int)} {kvs : HK} {n : Nat} (h : Held ps kvs n) {k : Key} {q : Nat} (m : (k, V.int q) ∈ kvs) : q < n := by
  have h1 : V.int (q : Int) ∈ kvs.map (·.2) := List.mem_map.mpr ⟨_, m, rfl⟩
  have h2 := List.count_pos_iff.mpr h1
  have := h.one q
  unfold cnt bit at this
  rw [this] at h2
  split at h2
  · assumption
  · omega
theorem Held.inj {ps : List (List Int)} {kvs : HK} {n q : Nat} {k k' : Key} (h : Held ps kvs n) (h1 : (k, V.int q) ∈ kvs) (h2 : (k', V.int q) ∈ kvs) : k = k' := by
  obtain ⟨i, hi, ei⟩ := List.mem_iff_getElem.mp h1
  obtain ⟨j, hj, ej⟩ := List.mem_iff_getElem.mp h2
  have nd := h.vals
  have e : (kvs.map (·.2))[i]'(by simpa using hi) = (kvs.map (·.2))[j]'(by simpa using hj) := by simp [ei, ej]
  have := (List.getElem_inj nd).mp e
  subst this
  rw [ei] at ej
  exact congrArg Prod.fst ej
/-- the holder of a badge -/
def hold (kvs : HK) (b : Int) : Int := match valV kvs (Sum.inl b) with
  | some (.int i) => i
  | _ => 0
theorem hold_of {kvs : HK} {b i : Int} (h : valV kvs (Sum.inl b) = some (.int i)) : hold kvs b = i := by unfold hold; rw [h]
theorem Held.short {ps : List (List Int)} {U : List Int} {kvs kvs' : HK} {n : Nat} {as' : List Int} {ms : List Int} (h : Held ps kvs n) (hn : n < ps.length) (r : Sett ps U n kvs [] false kvs' as') (hp : ms.Perm ((n : Int) :: as'.map (hold kvs))) (hs : ms.Pairwise (· ≤ ·)) :
    ∃ qs : List Nat, ms = qs.map Int.ofNat ∧ Short ps qs := by
  obtain ⟨_, h1, h2⟩ := r.no rfl
  have hv : ∀ b ∈ as', ∃ (q : Nat) (p : List Int), valV kvs (Sum.inl b) = some (.int q) ∧ ps[q]? = some p ∧ ∀ c ∈ p, c ∈ as' := fun b hb => h2 b hb (by simp)
  have nd0 : ((n : Int) :: as'.map (hold kvs)).Nodup := by
    refine List.nodup_cons.mpr ⟨fun m => ?_, ?_⟩
    · obtain ⟨b, hb, e⟩ := List.mem_map.mp m
      obtain ⟨q, p, a1, _⟩ := hv b hb
      rw [hold_of a1] at e
      have := h.lt (valV_mem a1)
      omega
    · rw [List.nodup_iff_pairwise_ne, List.pairwise_map]
      refine List.Pairwise.imp_of_mem (R := (· ≠ ·)) ?_ (List.nodup_iff_pairwise_ne.mp r.nd)
      intro b c hb hc hne z
      obtain ⟨q, p, a1, _⟩ := hv b hb
      obtain ⟨q', p', a2, _⟩ := hv c hc
      rw [hold_of a1, hold_of a2] at z
      have : q = q' := by omega
      subst this
      have := h.inj (valV_mem a1) (valV_mem a2)
      exact hne (Sum.inl.inj this)
  have ndm : ms.Nodup := hp.nodup_iff.mpr nd0
  have nn : ∀ m ∈ ms, ∃ q : Nat, m = Int.ofNat q ∧ ∃ p, ps[q]? = some p ∧ ∀ c ∈ p, c ∈ as' := fun m hm => by
    rcases List.mem_cons.mp (hp.mem_iff.mp hm) with e | e
    · exact ⟨n, e, ps[n], List.getElem?_eq_getElem hn, h1 _ (List.getElem?_eq_getElem hn)⟩
    · obtain ⟨b, hb, e⟩ := List.mem_map.mp e
      obtain ⟨q, p, a1, a2, a3⟩ := hv b hb
      rw [hold_of a1] at e
      exact ⟨q, e.symm, p, a2, a3⟩
  refine ⟨ms.map Int.toNat, ?_, ?_, as', ?_, fun q hq => ?_⟩
  · rw [List.map_map]
    have : ∀ m ∈ ms, (Int.ofNat ∘ Int.toNat) m = m := fun m hm => by
      obtain ⟨q, e, _⟩ := nn m hm
      rw [e]; rfl
    exact ((List.map_congr_left this).trans (List.map_id _)).symm
  · rw [List.pairwise_map]
    have both : ms.Pairwise fun a b => a ≤ b ∧ a ≠ b := hs.and (List.nodup_iff_pairwise_ne.mp ndm)
    refine List.Pairwise.imp_of_mem ?_ both
    intro a b ha hb ⟨h1, h2⟩
    obtain ⟨q, e, _⟩ := nn a ha
    obtain ⟨q', e', _⟩ := nn b hb
    subst e e'
    have : (q : Int) ≤ q' := h1
    have h3 : (q : Int) ≠ q' := h2
    show q < q'
    omega
  · rw [List.length_map, hp.length_eq, List.length_cons, List.length_map]; omega
  · obtain ⟨m, hm, e⟩ := List.mem_map.mp hq
    obtain ⟨q', e', z⟩ := nn m hm
    subst e'
    have : q = q' := by rw [← e]; rfl
    subst this
    exact z
end L2

set_option Elab.async false
set_option linter.all false
set_option maxRecDepth 100000
namespace L2
open PySem PySem.Spec PyProof.Rows
/-! ### pools on the heap -/
def SameX (ex : List Addr) (H H' : Hp) : Prop := ∀ b o, b ∉ ex → H b = some o → H' b = some o
theorem SameX.refl {ex : List Addr} {H : Hp} : SameX ex H H := fun _ _ _ h => h
theorem SameX.trans {ex : List Addr} {H H1 H2 : Hp} (a : SameX ex H H1) (b : SameX ex H1 H2) : SameX ex H H2 := fun c o n h => b c o n (a c o n h)
def IsDk (H : Hp) (a : Addr) : Prop := ∃ kvs, H a = some (.dK kvs)
theorem SameX.seq {K : PySem.W.Frag} {ex : List Addr} {H H' : Hp} {a : Addr} {xs : List V} (s : SameX ex H H') (hx : ∀ x ∈ ex, IsDk H x) (h : SqL K H a xs) : SqL K H' a xs := by
  have ne : ∀ u, H a = some u → (∀ kvs, u ≠ .dK kvs) → a ∉ ex := fun u e n m => by
    obtain ⟨kvs, q⟩ := hx a m
    rw [e] at q
    exact n kvs (Option.some.inj q)
  rcases h with (h | ⟨o, h⟩) | h
  · exact .inl (.inl (s _ _ (ne _ h (fun _ z => by cases z)) h))
  · exact .inl (.inr ⟨o, s _ _ (ne _ h (fun _ z => by cases z)) h⟩)
  · exact .inr h
def PoolsL (K : PySem.W.Frag) (H : Hp) (rs : List Addr) (ps : List (List Int)) : Prop := Paired (fun r p => SqL K H r (p.map V.int)) rs ps
theorem PoolsL.same {K : PySem.W.Frag} {H H' : Hp} {rs : List Addr} {ps : List (List Int)} (h : PoolsL K H rs ps) (s : Same H H') : PoolsL K H' rs ps := Paired.mapP h fun _ _ q => s.seq q
theorem PoolsL.at {K : PySem.W.Frag} {H : Hp} {rs : List Addr} {ps : List (List Int)} (h : PoolsL K H rs ps) {i : Nat} {p : List Int} (e : ps[i]? = some p) : ∃ r, rs[i]? = some r ∧ SqL K H r (p.map V.int) := pair_get (F := fun (r : Addr) (p : List Int) => SqL K H r (p.map V.int)) h e
theorem PoolsL.len {K : PySem.W.Frag} {H : Hp} {rs : List Addr} {ps : List (List Int)} (h : PoolsL K H rs ps) : rs.length = ps.length := Paired.length h
theorem paired_of {α β : Type} {F : α → β → Prop} : ∀ {l : List α} {r : List β}, l.length = r.length → (∀ (i : Nat) a b, l[i]? = some a → r[i]? = some b → F a b) → Paired F l r
  | [], [], _, _ => .nil
  | [], _ :: _, h, _ => by simp at h
  | _ :: _, [], h, _ => by simp at h
  | a :: l, b :: r, h, f => .cons (f 0 a b rfl rfl) (paired_of (by simpa using h) fun i x y e1 e2 => f (i + 1) x y (by simpa using e1) (by simpa using e2))
theorem paired_refs {G : Nat → Addr → Prop} : ∀ {l : List Nat} {vs : List V}, Paired (fun i v => ∃ r, v = .ref r ∧ G i r) l vs → ∃ rs : List Addr, vs = rs.map V.ref ∧ Paired G l rs
  | _, _, .nil => ⟨[], rfl, .nil⟩
  | _, _, .cons ⟨r, e, g⟩ t => by
    obtain ⟨rs, e2, p⟩ := paired_refs t
    exact ⟨r :: rs, by rw [e, e2]; rfl, .cons g p⟩
/-- a comprehension that lays a new list for each item of a list -/
theorem comp_lists {K : PySem.W.Frag} {H1 : Hp} {js : List (Option Nat)} {σ : L2.St} {te : TE} {Q : VK} {a : Addr} {xs : List V} (f : Nat → List V) (hl : SqL K H1 a xs) (hn : xs.length < 100000)
    (he : ∀ (i : Nat) x, xs[i]? = some x → ∀ H2 R, Same H1 H2 → (∀ r H3, Same H2 H3 → H2 r = none → H3 r = some (.lst (f i)) → R (.ref r) H3) → te (some x :: pick σ js) H2 R)
    (hQ : ∀ acc (rs : List Addr) H', Same H1 H' → H1 acc = none → H' acc = some (.lst (rs.map V.ref)) → rs.length = xs.length → (∀ (i : Nat) r, rs[i]? = some r → H' r = some (.lst (f i)) ∧ H1 r = none) → (∀ r ∈ rs, r ≠ acc) → Q (.ref acc) H') :
    CompB (Itl K a) H1 (none :: js) (gName 0) tYes te σ Q :=
  comp_list (K := K) (H1 := H1) (js := js) (σ := σ) (tc := tYes) (te := te) (Q := Q) (a := a) (xs := xs) (fun _ => true) (fun acc i v H => ∃ r, v = .ref r ∧ r ≠ acc ∧ H1 r = none ∧ H r = some (.lst (f i))) hl hn
    (fun acc i v H H' ⟨r, e, n, h0, h⟩ s => ⟨r, e, n, h0, s r _ n h⟩) (fun _ _ _ _ _ _ h => h)
    (fun acc i x hx _ H2 R s n1 n2 k => he i x hx H2 R s fun r H3 s3 nr h3 => k _ H3 s3 ⟨r, rfl, fun z => n2 (by rw [← z]; exact nr), s.free nr, h3⟩)
    fun acc vs H' s n' e p => by
      rw [List.filter_eq_self.mpr (fun _ _ => rfl)] at p
      obtain ⟨rs, e2, p2⟩ := paired_refs p
      have ln : rs.length = xs.length := by rw [← Paired.length p2, List.length_range]
      have all : ∀ (i : Nat) r, rs[i]? = some r → r ≠ acc ∧ H1 r = none ∧ H' r = some (.lst (f i)) := fun i r hi => by
        obtain ⟨j, hj, g⟩ := pair_get p2 hi
        have lt : i < xs.length := by rw [← ln]; exact (List.getElem?_eq_some_iff.mp hi).1
        rw [List.getElem?_range lt] at hj
        cases hj
        exact g
      refine hQ acc rs H' s n' (by rw [e, e2]) ln (fun i r hi => ⟨(all i r hi).2.2, (all i r hi).2.1⟩) fun r hr => ?_
      obtain ⟨i, hi, ei⟩ := List.mem_iff_getElem.mp hr
      exact (all i r (by rw [List.getElem?_eq_getElem hi, ei])).1
end L2

set_option Elab.async false
set_option linter.all false
set_option maxRecDepth 100000
namespace L2
open PySem PySem.Spec PyProof.Rows
/-! ### the places of a set's table: rising, and a new one laid where it belongs -/
abbrev Rise (xs : List Nat) : Prop := xs.Pairwise (· < ·)
/-- where the search ends: all below are less, all from there on are not -/
structure CutAt (xs : Array Nat) (j p : Nat) : Prop where
  le : p ≤ xs.size
  lo : ∀ i (h : i < xs.size), i < p → xs[i] < j
  hi : ∀ i (h : i < xs.size), p ≤ i → j ≤ xs[i]
theorem rise_at {xs : Array Nat} (r : Rise xs.toList) {i k : Nat} (hi : i < xs.size) (hk : k < xs.size) (h : i < k) : xs[i] < xs[k] := by
  have := List.pairwise_iff_getElem.mp r i k (by simpa using hi) (by simpa using hk) h
  simpa using this
theorem below_go {xs : Array Nat} (r : Rise xs.toList) (j : Nat) : ∀ (f lo hi : Nat), hi - lo ≤ f → lo ≤ hi → hi ≤ xs.size → (∀ i (h : i < xs.size), i < lo → xs[i] < j) → (∀ i (h : i < xs.size), hi ≤ i → j ≤ xs[i]) → CutAt xs j (SetTable.below.go xs j f lo hi)
  | 0, lo, hi, hf, hl, hs, h1, h2 => by
    have e : hi = lo := by omega
    subst e
    exact ⟨hs, h1, h2⟩
  | f + 1, lo, hi, hf, hl, hs, h1, h2 => by
    unfold SetTable.below.go
    by_cases hlt : lo < hi
    · rw [if_pos hlt]
      have hm : (lo + hi) / 2 < xs.size := by omega
      have eg : xs.getD ((lo + hi) / 2) j = xs[(lo + hi) / 2] := by simp [hm]
      dsimp only
      rw [eg]
      by_cases hc : xs[(lo + hi) / 2] < j
      · rw [if_pos hc]
        refine below_go r j f _ _ (by omega) (by omega) hs (fun i h hi' => ?_) h2
        by_cases e : i = (lo + hi) / 2
        · subst e; exact hc
        · exact Nat.lt_trans (rise_at r h hm (by omega)) hc
      · rw [if_neg hc]
        refine below_go r j f _ _ (by omega) (by omega) (by omega) h1 fun i h hi' => ?_
        by_cases e : i = (lo + hi) / 2
        · subst e; omega
        · have := rise_at r hm h (by omega)
          omega
    · rw [if_neg hlt]
      have e : hi = lo := by omega
      subst e
      exact ⟨hs, h1, h2⟩
theorem below_cut {xs : Array Nat} (r : Rise xs.toList) (j : Nat) : CutAt xs j (SetTable.below xs j) :=
  below_go r j xs.size 0 xs.size (by omega) (Nat.zero_le _) (Nat.le_refl _) (fun i _ h => by omega) fun i h h' => by omega
theorem insert_rise {xs : Array Nat} {j : Nat} (r : Rise xs.toList) (hn : xs[SetTable.below xs j]? ≠ some j) : Rise (SetTable.insertAt xs (SetTable.below xs j) j).toList := by
  have c := below_cut r j
  generalize SetTable.below xs j = p at hn c
  have e : (SetTable.insertAt xs p j).toList = xs.toList.take p ++ j :: xs.toList.drop p := by
    unfold SetTable.insertAt
    simp [Array.toList_append, Array.toList_push, List.extract_eq_take_drop]
    exact List.take_of_length_le (by simp)
  rw [e]
  refine List.pairwise_append.mpr ⟨r.sublist (List.take_sublist _ _), List.pairwise_cons.mpr ⟨fun x hx => ?_, r.sublist (List.drop_sublist _ _)⟩, fun x hx y hy => ?_⟩
  · obtain ⟨i, hi, ei⟩ := List.mem_iff_getElem.mp hx
    rw [List.length_drop, Array.length_toList] at hi
    rw [List.getElem_drop, Array.getElem_toList] at ei
    have h1 := c.hi (p + i) (by omega) (by omega)
    rw [ei] at h1
    by_cases z : x = j
    · exfalso
      have hp : p < xs.size := by omega
      have h2 := c.hi p hp (Nat.le_refl _)
      have h3 : xs[p] ≤ xs[p + i] := by
        by_cases i0 : i = 0
        · subst i0; exact Nat.le_refl _
        · exact Nat.le_of_lt (rise_at r hp (by omega) (by omega))
      have h4 : xs[p] = j := by rw [ei, z] at h3; omega
      exact hn (by rw [Array.getElem?_eq_getElem hp, h4])
    · omega
  · obtain ⟨i, hi, ei⟩ := List.mem_iff_getElem.mp hx
    rw [List.length_take, Array.length_toList] at hi
    rw [List.getElem_take, Array.getElem_toList] at ei
    have h1 := c.lo i (by omega) (by omega)
    rw [ei] at h1
    rcases List.mem_cons.mp hy with z | z
    · omega
    · obtain ⟨k, hk, ek⟩ := List.mem_iff_getElem.mp z
      rw [List.length_drop, Array.length_toList] at hk
      rw [List.getElem_drop, Array.getElem_toList] at ek
      have h2 := c.hi (p + k) (by omega) (by omega)
      omega
/-! ### a free slot is no live one -/
theorem slot_free {t : SetTable} {j : Nat} (h : t.slot j = .empty ∨ t.slot j = .dummy) : t.place[SetTable.below t.place j]? ≠ some j := by
  intro z
  have e : t.slot j = .live (SetTable.below t.place j) := by
    unfold SetTable.slot
    dsimp only
    rw [z]
    simp
  rw [e] at h
  rcases h with h | h <;> cases h
theorem probe_free {t : SetTable} {hh : Nat → Int} {h : Int} : ∀ (f : Nat) (p : SetTable.Probe) (j : Nat) (d : Option Nat), (∀ x, p.dummy = some x → t.slot x = .dummy) → SetTable.probe.go t hh h f p = some (.empty j d) → t.slot j = .empty ∧ ∀ x, d = some x → t.slot x = .dummy
  | 0, p, j, d, _, e => by unfold SetTable.probe.go at e; cases e
  | f + 1, p, j, d, hp, e => by
    unfold SetTable.probe.go at e
    have adv : ∀ q : SetTable.Probe, (t.advance q).dummy = q.dummy := fun q => by
      unfold SetTable.advance
      split <;> rfl
    cases hs : t.slot p.j with
    | empty =>
      rw [hs] at e
      cases e
      exact ⟨hs, hp⟩
    | dummy =>
      rw [hs] at e
      refine probe_free f _ j d (fun x hx => ?_) e
      rw [adv] at hx
      cases hx
      exact hs
    | live i =>
      rw [hs] at e
      dsimp only at e
      split at e
      · cases e
      · refine probe_free f _ j d (fun x hx => ?_) e
        rw [adv] at hx
        exact hp x hx
theorem freeSlot_free {t : SetTable} {h : Int} {j : Nat} {b : Bool} (e : t.freeSlot h = some (j, b)) : t.place[SetTable.below t.place j]? ≠ some j := by
  unfold SetTable.freeSlot at e
  split at e
  · rename_i j' d hm
    have := probe_free (t := t) (h := h) _ _ j' d (fun x hx => by cases hx) hm
    have e' := Option.some.inj e
    cases d with
    | none =>
      have : j' = j := by have := congrArg Prod.fst e'; simpa using this
      subst this
      exact slot_free (.inl this.1)
    | some x =>
      have hx : x = j := by have := congrArg Prod.fst e'; simpa using this
      subst hx
      exact slot_free (.inr (this.2 x rfl))
  · cases e
/-! ### what every table keeps: led as it was, rising where it is plain -/
structure TabK (led : Bool) (t : SetTable) : Prop where
  led : t.led = led
  rise : t.plain = true → Rise t.place.toList
theorem standIn_tab {led : Bool} {t : SetTable} (h : t.led = led) (n : Nat) : TabK led (t.standIn n) := ⟨h, fun z => by cases z⟩
theorem orStandIn_tab {led : Bool} {t : SetTable} (h : TabK led t) (n : Nat) : TabK led (t.orStandIn n) := by
  unfold SetTable.orStandIn
  split
  · exact h
  · exact standIn_tab h.led n
theorem layNew_tab {led : Bool} {t : SetTable} (h : TabK led t) (es : Array (Int × Value)) (hh : Int) (x : Value) : TabK led (layNew t es hh x).2.1 := by
  unfold layNew
  cases e : t.freeSlot hh with
  | none => exact standIn_tab h.led _
  | some q =>
    obtain ⟨j, b⟩ := q
    refine orStandIn_tab (t := (t.put j).1) ⟨h.led, fun z => ?_⟩ _
    exact insert_rise (h.rise z) (freeSlot_free e)
theorem laid_rise {mask finger moves : Nat} {led plain : Bool} {hs : Array Int} {t : SetTable} {o : Array Nat} (e : SetTable.laid mask finger moves led plain hs = some (t, o)) : t.led = led ∧ Rise t.place.toList := by
  unfold SetTable.laid at e
  obtain ⟨ow, _, e2⟩ := Option.bind_eq_some_iff.mp e
  have e2 := Option.some.inj e2
  have ht := congrArg Prod.fst e2
  dsimp only at ht
  rw [← ht]
  refine ⟨rfl, ?_⟩
  show List.Pairwise (fun a b => a < b) (List.map (fun x : Nat × Nat => x.1) _)
  rw [List.pairwise_map]
  refine List.pairwise_filterMap.mpr ?_
  refine List.Pairwise.imp ?_ List.pairwise_lt_range
  intro a b hab x hx y hy
  obtain ⟨u, _, eu⟩ := Option.map_eq_some_iff.mp hx
  obtain ⟨v, _, ev⟩ := Option.map_eq_some_iff.mp hy
  rw [← eu, ← ev]
  exact hab
theorem relayAll_tab {led : Bool} {t : SetTable} (h : TabK led t) (es : Array (Int × Value)) (n : Nat) : TabK led (relayAll t es n).2.1 := by
  unfold relayAll
  cases e : t.relaid (es.map (·.1)) n with
  | none => exact standIn_tab h.led _
  | some q =>
    obtain ⟨t', o⟩ := q
    dsimp only
    split
    · have := laid_rise e
      exact ⟨this.1.trans h.led, fun _ => this.2⟩
    · exact standIn_tab h.led _
end L2

set_option Elab.async false
set_option linter.all false
set_option maxRecDepth 100000
namespace L2
open PySem PySem.Spec PyProof.Rows
/-! ### a set of ints, its members told (in whatever order the table has them) -/
abbrev byText (w : World) : Bool := w.params.followText "set-order"
/-- the entries are these ints -/
def Ents (es : List (Int × Value)) (ks : List Int) : Prop := Paired (fun (e : Int × Value) (k : Int) => ∃ t, e = (hashInt k, Value.int k t)) es ks
structure SetIn (w : World) (o : Obj) (es : Array (Int × Value)) (ep : Nat) (t : SetTable) (ks : List Int) : Prop where
  ex : o.ExactSet
  da : o.data = .set es ep t
  en : Ents es.toList ks
  nd : ks.Nodup
  sz : ks.length < 4000
  ft : t.fits es.size = true
  tb : TabK (!byText w) t
def SX (w : World) (a : Addr) (ms : List Int) : Heap → Prop := fun h => ∃ o es ep t ks, h.get? a = some o ∧ SetIn w o es ep t ks ∧ ks.Perm ms
theorem SX.at {w : World} {a : Addr} {ms : List Int} {h h' : Heap} (x : SX w a ms h) (k : ∀ o, h.get? a = some o → h'.get? a = some o) : SX w a ms h' := by
  obtain ⟨o, es, ep, t, ks, e, r⟩ := x
  exact ⟨o, es, ep, t, ks, k o e, r⟩
theorem SX.lt {w : World} {a : Addr} {ms : List Int} {h : Heap} (x : SX w a ms h) : a < h.objs.size := by
  obtain ⟨o, es, ep, t, ks, e, r⟩ := x
  exact Heap.lt_size e
theorem SX.perm {w : World} {a : Addr} {ms ns : List Int} {h : Heap} (x : SX w a ms h) (p : ms.Perm ns) : SX w a ns h := by
  obtain ⟨o, es, ep, t, ks, e, r, q⟩ := x
  exact ⟨o, es, ep, t, ks, e, r, q.trans p⟩
theorem Ents.mem : ∀ {es : List (Int × Value)} {ks : List Int}, Ents es ks → ∀ {e : Int × Value}, e ∈ es → ∃ k t, k ∈ ks ∧ e = (hashInt k, Value.int k t)
  | _, _, .nil, _, h => by cases h
  | _, _, .cons ⟨t, q⟩ r, e, h => by
    rcases List.mem_cons.mp h with z | z
    · exact ⟨_, t, List.mem_cons_self, z.trans q⟩
    · obtain ⟨k, t, m, q⟩ := Ents.mem r z
      exact ⟨k, t, List.mem_cons_of_mem _ m, q⟩
theorem Ents.elems {P : Program} {w : World} {es : List (Int × Value)} {ks : List Int} (h : Ents es ks) : ElemsOf (intKind P w) es := fun e he => by
  obtain ⟨k, t, _, q⟩ := h.mem he
  subst q
  exact ⟨⟨k, intKind_is P w k t, rfl⟩, rfl⟩
theorem Ents.len {es : List (Int × Value)} {ks : List Int} (h : Ents es ks) : es.length = ks.length := Paired.length h
/-- a permutation of the entries is one of the ints -/
theorem Ents.perm {es es' : List (Int × Value)} (p : es'.Perm es) : ∀ {ks : List Int}, Ents es ks → ∃ ks', Ents es' ks' ∧ ks'.Perm ks := by
  induction p with
  | nil => intro ks h; cases h; exact ⟨[], .nil, .nil⟩
  | cons x _ ih =>
    intro ks h
    cases h with
    | cons q r =>
      obtain ⟨ks', a, b⟩ := ih r
      exact ⟨_ :: ks', .cons q a, b.cons _⟩
  | swap x y l =>
    intro ks h
    cases h with
    | cons q r =>
      cases r with
      | cons q' r => exact ⟨_ :: _ :: _, .cons q' (.cons q r), .swap _ _ _⟩
  | trans _ _ ih1 ih2 =>
    intro ks h
    obtain ⟨k2, a, b⟩ := ih2 h
    obtain ⟨k3, c, d⟩ := ih1 a
    exact ⟨k3, c, d.trans b⟩
theorem isInt_dec (k j : Int) (t : Tok) : Value.isInt k (.int j t) = decide (k = j) := by
  by_cases h : k = j
  · subst h; simp [Value.isInt]
  · simp [Value.isInt, h]
    exact fun z => h z.symm
theorem Ents.find {P : Program} {w : World} {k : Int} : ∀ {es : List (Int × Value)} {ks : List Int}, Ents es ks → (es.findIdx? (fun e => (intKind P w).is k e.2)).isSome = decide (k ∈ ks)
  | _, _, .nil => rfl
  | _ :: es, j :: ks, .cons ⟨t, q⟩ r => by
    subst q
    rw [List.findIdx?_cons]
    have e : (intKind P w).is k (hashInt j, Value.int j t).2 = decide (k = j) := isInt_dec k j t
    rw [e]
    by_cases h : k = j
    · subst h; simp
    · have ih := Ents.find (P := P) (w := w) (k := k) r
      simp [h, ih]
section
variable {P : Program} {w : World} {A : Around} {E : Value → Shared → Prop} {s : Shared} {a : Addr} {ms ks : List Int} {o : Obj} {es : Array (Int × Value)} {ep : Nat} {t : SetTable}
theorem SetIn.bound (h : SetIn w o es ep t ks) : es.size < scanBound := by
  have : es.size = ks.length := by rw [← h.en.len, Array.length_toList]
  have := h.sz
  have e : scanBound = 4096 := rfl
  omega
theorem SetIn.size (h : SetIn w o es ep t ks) : es.size = ks.length := by rw [← h.en.len, Array.length_toList]
/-- the new entries laid down -/
theorem put_SX {es' : Array (Int × Value)} {t' : SetTable} {ks' : List Int} (ho : s.heap.get? a = some o) (h : SetIn w o es ep t ks) (en : Ents es'.toList ks') (nd : ks'.Nodup) (sz : ks'.length < 4000) (ft : t'.fits es'.size = true) (tb : TabK (!byText w) t') :
    ∃ o', (s.heap.update a (Obj.putSet es' t')).get? a = some o' ∧ SetIn w o' es' (ep + 1) t' ks' := by
  have g := Heap.get?_update_self (Obj.putSet es' t') ho (by rw [putSet_of es' t' h.da]; rfl)
  rw [putSet_of es' t' h.da] at g
  exact ⟨_, g, ⟨h.ex, rfl, en, nd, sz, ft, tb⟩⟩
theorem gave_ok {g : Bool → Sem Unit} {Q : Unit → Shared → Prop} (hg : ∀ b, g b = match b with | true => rule "set.scan.the-table-gave-way" | false => pure ()) (b : Bool) {s : Shared} (h : Q () s) : wpAny (model P w) A (g b) Q E s := by
  rw [hg b]
  cases b with
  | true => exact wpAny_rule h
  | false => exact wpAny_pure h
/-- one int more -/
theorem add_SX {x : Int} {tk : Tok} {Q : Bool → Shared → Prop} (ho : s.heap.get? a = some o) (hs : SetIn w o es ep t ks) (hl : ks.length + 1 < 4000)
    (h1 : x ∈ ks → Q false s) (h2 : x ∉ ks → ∀ h', Heap.SameBut a s.heap h' → SX w a (ks ++ [x]) h' → Q true { s with heap := h' }) : wpAny (model P w) A (setAddHashed a (.int x tk) (hashInt x)) Q E s := by
  have hel := hs.en.elems (P := P) (w := w)
  have hky : (intKind P w).is x (.int x tk) = true := intKind_is P w x tk
  unfold setAddHashed setAddHashedIn
  refine wpAny_holding (wpAny_bind (wpAny_setState_of ho hs.da hs.ft ?_))
  dsimp only
  rw [byScan_of (knd := intKind P w) rfl hs.bound hel, if_pos rfl]
  refine wpAny_bind ?_
  unfold setAddByScan
  refine wpAny_bind (wpAny_rule (wpAny_bind (wpAny_setScan_of (knd := intKind P w) (k := x) hky ho hs.da hs.ft hel ?_)))
  have fd := hs.en.find (P := P) (w := w) (k := x)
  cases hr : List.findIdx? (fun e => (intKind P w).is x e.2) es.toList with
  | some j =>
    rw [hr] at fd
    exact wpAny_pure (wpAny_pure (h1 (of_decide_eq_true fd.symm)))
  | none =>
    rw [hr] at fd
    have hx : x ∉ ks := of_decide_eq_false fd.symm
    have p1 := layNew_perm t es (hashInt x) (Value.int x tk)
    have f1 := layNew_fits t es (hashInt x) (Value.int x tk)
    have t1 := layNew_tab hs.tb es (hashInt x) (Value.int x tk)
    generalize layNew t es (hashInt x) (Value.int x tk) = L at p1 f1 t1 ⊢
    obtain ⟨e1, u1, wasD, gave⟩ := L
    dsimp only at p1 f1 t1 ⊢
    rw [Array.toList_push] at p1
    obtain ⟨k1, n1, q1⟩ := Ents.perm p1 (ks := ks ++ [x]) (Paired.snoc hs.en ⟨tk, rfl⟩)
    have nd1 : k1.Nodup := q1.nodup_iff.mpr (nd_snoc hs.nd hx)
    have l1 : k1.length < 4000 := by rw [q1.length_eq, List.length_append, List.length_singleton]; exact hl
    have b1 : e1.size ≤ sizeLine := by
      have : e1.size = k1.length := by rw [← n1.len, Array.length_toList]
      exact Nat.le_trans (by omega) (Nat.le_of_lt (szn (n := 99999) (by omega)))
    refine wpAny_bind (gave_ok (fun b => by cases b <;> rfl) gave ?_)
    have tail : ∀ u2 : SetTable, u2.fits e1.size = true → TabK (!byText w) u2 → ∀ R : Option Bool → Shared → Prop, (∀ h', Heap.SameBut a s.heap h' → SX w a (ks ++ [x]) h' → R (some true) { s with heap := h' }) → ∀ g : Bool → Sem Unit, (∀ b, g b = match b with | true => rule "set.scan.the-table-gave-way" | false => pure ()) →
        wpAny (model P w) A (do
          storeSet a e1 u2
          if (!wasD && u2.tooFull) = true then
            let (es, t, gave) := relayAll u2 e1 (SetTable.grown e1.size)
            g gave
            storeSet a es t
          return some true) R E s := by
      intro u2 f2 t2 R hR g hg
      refine wpAny_bind (wpAny_storeSet_of ho hs.da ?_ b1)
      obtain ⟨o', ho', hs'⟩ := put_SX (s := s) ho hs n1 nd1 l1 f2 t2
      have sb1 := Heap.SameBut.update s.heap a (Obj.putSet e1 u2)
      by_cases hc : (!wasD && u2.tooFull) = true
      · rw [if_pos hc]
        have p3 := relayAll_perm u2 e1 (SetTable.grown e1.size)
        have f3 := relayAll_fits u2 e1 (SetTable.grown e1.size)
        have t3 := relayAll_tab t2 e1 (SetTable.grown e1.size)
        generalize relayAll u2 e1 (SetTable.grown e1.size) = L at p3 f3 t3 ⊢
        obtain ⟨e3, u3, gave3⟩ := L
        dsimp only at p3 f3 t3 ⊢
        obtain ⟨k3, n3, q3⟩ := Ents.perm p3 n1
        have z3 : e3.size = e1.size := by rw [← Array.length_toList, p3.length_eq, Array.length_toList]
        refine wpAny_bind (gave_ok hg gave3 ?_)
        refine wpAny_bind (wpAny_storeSet_of ho' hs'.da ?_ (by rw [z3]; exact b1))
        obtain ⟨o3, ho3, hs3⟩ := put_SX (s := { s with heap := s.heap.update a (Obj.putSet e1 u2) }) ho' hs' n3 (q3.nodup_iff.mpr nd1) (by rw [q3.length_eq]; exact l1) f3 t3
        exact wpAny_pure (hR _ (sb1.trans (Heap.SameBut.update _ a _)) ⟨o3, e3, _, u3, k3, ho3, hs3, q3.trans q1⟩)
      · rw [if_neg hc]
        exact wpAny_pure (hR _ sb1 ⟨o', e1, _, u2, k1, ho', hs', q1⟩)
    by_cases hp : u1.plain = true
    · rw [if_pos hp]
      refine wpAny_bind ?_
      rw [hashByValue_scannable 8 (x := Value.int x tk) rfl]
      refine wpAny_pure ?_
      refine tail u1 f1 t1 _ (fun h' sb sx => ?_) _ (fun b => by cases b <;> rfl)
      exact wpAny_pure (h2 hx h' sb sx)
    · rw [if_neg hp]
      refine wpAny_bind (wpAny_pure ?_)
      refine tail u1 f1 t1 _ (fun h' sb sx => ?_) _ (fun b => by cases b <;> rfl)
      exact wpAny_pure (h2 hx h' sb sx)
end
end L2

set_option Elab.async false
set_option linter.all false
set_option maxRecDepth 100000
namespace L2
open PySem PySem.Spec PyProof.Rows
end L2

set_option Elab.async false
set_option linter.all false
set_option maxRecDepth 100000
namespace L2
open PySem PySem.Spec PyProof.Rows
/-! ### orders -/
theorem erase_perm {α : Type} {l : List α} {i : Nat} {x : α} (h : l[i]? = some x) : l.Perm (x :: l.eraseIdx i) := by
  induction l generalizing i with
  | nil => simp at h
  | cons y r ih =>
    cases i with
    | zero => simp at h; subst h; simp
    | succ i =>
      simp at h
      exact ((ih h).cons y).trans (.swap _ _ _)
section
variable {M : Model} {A : Around} {E : Value → Shared → Prop} {s : Shared}
end
section
variable {P : Program} {w : World} {A : Around} {E : Value → Shared → Prop} {s : Shared} {I S : Addr} {ks : List Int} {o : Obj} {es : Array (Int × Value)} {ep i : Nat} {t : SetTable} {first : Value}
end
end L2

set_option Elab.async false
set_option linter.all false
set_option maxRecDepth 100000
namespace L2
open PySem PySem.Spec PyProof.Rows
section
variable {P : Program} {w : World} {A : Around} {E : Value → Shared → Prop} {s : Shared} {I S : Addr} {ks : List Int} {o : Obj} {es : Array (Int × Value)} {ep i : Nat} {t : SetTable}
/-- the set as it stands while it is walked -/
def SetAt (w : World) (S : Addr) (es : Array (Int × Value)) (ep : Nat) (t : SetTable) (ks : List Int) (h : Heap) : Prop := ∃ o, h.get? S = some o ∧ SetIn w o es ep t ks
theorem SetAt.at {h h' : Heap} (x : SetAt w S es ep t ks h) (k : ∀ o, h.get? S = some o → h'.get? S = some o) : SetAt w S es ep t ks h' := let ⟨o, e, r⟩ := x; ⟨o, k o e, r⟩
theorem fits_size (h : t.fits es.size = true) : t.place.size = es.size := by
  simp only [SetTable.fits, Bool.and_eq_true, beq_iff_eq, decide_eq_true_eq] at h
  exact h.1
end
end L2

set_option Elab.async false
set_option linter.all false
set_option maxRecDepth 100000
namespace L2
open PySem PySem.Spec PyProof.Rows
section
variable {P : Program} {w : World} {A : Around} {E : Value → Shared → Prop} {s : Shared} {S : Addr} {ks ms : List Int} {o : Obj} {es : Array (Int × Value)} {ep i : Nat} {t : SetTable}
end
end L2

set_option Elab.async false
set_option linter.all false
set_option maxRecDepth 100000
namespace L2
open PySem PySem.Spec PyProof.Rows
section
variable {P : Program} {w : World} {A : Around} {E : Value → Shared → Prop} {s : Shared} {S : Addr} {ks ms : List Int} {o : Obj} {es : Array (Int × Value)} {ep i : Nat} {t : SetTable}
/-- len(set) -/
theorem len_of_set {Q : Value → Shared → Prop} (hS : SetAt w S es ep t ks s.heap) (h : ∀ tk n, Q (.int ks.length tk) { s with toks := n }) : wpAny (model P w) A (call (.builtin "len") [.ref S]) Q E s := by
  obtain ⟨o, ho, hs⟩ := hS
  have zb := hs.bound
  have eb : scanBound = 4096 := rfl
  have e := hs.size
  refine call_len_set ho hs.ex hs.da hs.ft (by omega) ?_
  rw [e]
  exact h _ _
/-! ### set(list of ints) -/
def dstep (acc : List Int) (x : Int) : List Int := if x ∈ acc then acc else acc ++ [x]
def dd (ns : List Int) : List Int := ns.foldl dstep []
theorem dd_snoc (ns : List Int) (x : Int) : dd (ns ++ [x]) = dstep (dd ns) x := by unfold dd; rw [List.foldl_append]; rfl
theorem dstep_mem {acc : List Int} {x y : Int} : y ∈ dstep acc x ↔ y ∈ acc ∨ y = x := by
  unfold dstep
  split
  · rename_i h
    exact ⟨.inl, fun z => z.elim id fun e => e ▸ h⟩
  · simp
theorem fold_mem : ∀ (ns acc : List Int) (y : Int), y ∈ ns.foldl dstep acc ↔ y ∈ acc ∨ y ∈ ns
  | [], acc, y => by simp
  | x :: r, acc, y => by
    rw [List.foldl_cons, fold_mem r, dstep_mem, List.mem_cons, or_assoc]
theorem dd_mem {ns : List Int} {y : Int} : y ∈ dd ns ↔ y ∈ ns := by unfold dd; rw [fold_mem]; simp
theorem fold_nd : ∀ (ns acc : List Int), acc.Nodup → (ns.foldl dstep acc).Nodup
  | [], acc, h => h
  | x :: r, acc, h => by
    rw [List.foldl_cons]
    refine fold_nd r _ ?_
    unfold dstep
    split
    · exact h
    · rename_i hx; exact nd_snoc h hx
theorem dd_nd (ns : List Int) : (dd ns).Nodup := fold_nd ns [] List.nodup_nil
theorem dd_len (ns : List Int) : (dd ns).length ≤ ns.length := (dd_nd ns).length_le_of_subset fun _ h => dd_mem.mp h
theorem SX_add {x : Int} {tk : Tok} {Q : Bool → Shared → Prop} (hS : SX w S ms s.heap) (hl : ms.length + 1 < 4000)
    (h : ∀ b h', Heap.SameBut S s.heap h' → SX w S (dstep ms x) h' → Q b { s with heap := h' }) : wpAny (model P w) A (setAddHashed S (.int x tk) (hashInt x)) Q E s := by
  obtain ⟨o, es, ep, t, ks, ho, hs, hp⟩ := hS
  refine add_SX ho hs (by rw [hp.length_eq]; exact hl) (fun hx => ?_) fun hx h' sb sx => ?_
  · have e : dstep ms x = ms := if_pos (hp.mem_iff.mp hx)
    have := h false s.heap (Heap.SameBut.refl _ _) (by rw [e]; exact ⟨o, es, ep, t, ks, ho, hs, hp⟩)
    exact this
  · have e : dstep ms x = ms ++ [x] := if_neg fun z => hx (hp.mem_iff.mpr z)
    exact h true h' sb (by rw [e]; exact sx.perm (hp.append_right _))
theorem upd_loop {I l : Addr} {items : Array Value} {ns : List Int} {R : Result → Shared → Prop} (hh : A.handled = none) (hne : l ≠ I) (hSI : S ≠ I) (hSl : S ≠ l) (hi : IntsAre items.toList ns) (hb : ns.length + 1 < 4000) :
    ∀ (k i : Nat) (s : Shared), items.size - i = k → i ≤ items.size → s.heap.IsListIter I l i → s.heap.IsList l items → SX w S (dd (ns.take i)) s.heap →
      (∀ s', (∀ b o, b ≠ S → b ≠ I → s.heap.get? b = some o → s'.heap.get? b = some o) → s'.os = s.os → s'.gens = s.gens → s'.drawn = s.drawn → SX w S (dd ns) s'.heap → R (.ok (.ret .none)) s') →
      codeAny (model P w) A (.builtin "set.update.loop" ⟨[.ref S, .ref I], []⟩) R s := by
  have hsz : items.size = ns.length := by rw [← Array.length_toList]; exact IntsAre.length hi
  intro k
  induction k with
  | zero =>
    intro i s hk hil it hl hS hR
    have e : i = items.size := by omega
    subst e
    refine codeAny_builtin PyProof.Rows.F.entry_set_update_loop ?_
    rw [Around.under_plainId PyProof.Rows.F.plain_set_update_loop _]
    show wpAny _ A.in1 (pyNext (.ref I) >>= _) _ _ s
    refine wpAny_bind (wpAny_pyNext_list_end (show A.in1.handled = none from hh) it hl (by simp) fun h' eb => ?_)
    show wpAny _ A.in1 (ret Value.none) _ _ _
    refine wpAny_pure (hR _ (fun b o _ hb e => eb b o hb e) rfl rfl rfl ?_)
    rw [List.take_of_length_le (by omega)] at hS
    exact hS.at fun o e => eb S o hSI e
  | succ k ih =>
    intro i s hk hil it hl hS hR
    have hlt : i < items.size := by omega
    have hin : i < ns.length := by omega
    obtain ⟨tk, hv⟩ := IntsAre.int_at hi i items[i] (by simp [hlt])
    have egd : ns.getD i 0 = ns[i] := by simp [hin]
    rw [egd] at hv
    refine codeAny_builtin PyProof.Rows.F.entry_set_update_loop ?_
    rw [Around.under_plainId PyProof.Rows.F.plain_set_update_loop _]
    show wpAny _ A.in1 (pyNext (.ref I) >>= _) _ _ s
    refine wpAny_bind (wpAny_pyNext_list_item it hl (x := items[i]) (by simp [hlt]) fun h1 it1 sb1 => ?_)
    rw [hv]
    show wpAny _ A.in1 (holding [Value.int ns[i] tk] (setAdd S (.int ns[i] tk)) >>= _) _ _ _
    refine wpAny_bind (wpAny_holding ?_)
    unfold setAdd
    refine wpAny_holding (wpAny_bind ((intKind P w).pyHash (k := ns[i]) (intKind_is _ _ _ _) ?_))
    have hS1 : SX w S (dd (ns.take i)) h1 := hS.at fun o e => (sb1.2 S hSI).trans e
    have dl := dd_len (ns.take i)
    rw [List.length_take] at dl
    refine SX_add (s := { s with heap := h1, toks := s.toks + 1 }) hS1 (by omega) fun b h2 sb2 sx => ?_
    have e2 : dstep (dd (ns.take i)) ns[i] = dd (ns.take (i + 1)) := by rw [List.take_succ_eq_append_getElem hin, dd_snoc]
    rw [e2] at sx
    have hl1 : h1.IsList l items := by obtain ⟨o, e, r⟩ := hl; exact ⟨o, (sb1.2 l hne).trans e, r⟩
    refine wpAny_pure ⟨plainId_quiet PyProof.Rows.F.plain_set_update_loop _, ih (i + 1) _ (by omega) hlt ?_ ?_ sx fun s' kp os' gs' ds' sx' => ?_⟩
    · obtain ⟨o, e, r⟩ := it1
      exact ⟨o, (sb2.2 I hSI.symm).trans e, r⟩
    · obtain ⟨o, e, r⟩ := hl1
      exact ⟨o, (sb2.2 l hSl.symm).trans e, r⟩
    · exact hR s' (fun b o h1' h2' e => kp b o h1' h2' ((sb2.2 b h1').trans ((sb1.2 b h2').trans e))) os' gs' ds' sx'
end
end L2

set_option Elab.async false
set_option linter.all false
set_option maxRecDepth 100000
set_option maxHeartbeats 3000000
namespace L2
open PySem PySem.Spec PyProof.Rows
section
variable {P : Program} {w : World} {A : Around} {E : Value → Shared → Prop} {s : Shared} {S : Addr} {ks ms : List Int}
/-- a new set's table is led just where the text does not rule the order -/
def newSetObj (w : World) : Obj := { cls := .type "set", dict := none, data := .set #[] 0 (.fresh 0 0 (!byText w)) }
theorem newSet_SX {h : Heap} {a : Addr} (e : h.get? a = some (newSetObj w)) : SX w a [] h :=
  ⟨_, #[], 0, _, [], e, ⟨⟨rfl, rfl, rfl⟩, rfl, .nil, List.nodup_nil, by decide, rfl, ⟨rfl, fun _ => .nil⟩⟩, .refl _⟩
theorem set_new (a : Value) {Q : Value → Shared → Prop} (h : Q (.ref s.heap.objs.size) { s with heap := s.heap.push (newSetObj w) }) :
    codeAny (model P w) A (.call (.builtin "set.__new__") ⟨[.type "set", a], []⟩) (wants Q E) s := by
  refine codeAny_of_tree ?_
  show wpAny _ A.in1 (do checkBuiltinCall "set.__new__" ⟨[.type "set", a], []⟩; again (.builtin "set.__new__" ⟨[.type "set", a], []⟩)) _ _ s
  refine wpAny_bind (wpAny_of_eq (PySem.F.newCall_set_1 a) (wpAny_pure ⟨plainId_quiet PySem.F.plain_set_new _, codeAny_builtin PySem.F.entry_set_new ?_⟩))
  rw [Around.under_plainId PySem.F.plain_set_new _]
  unfold Builtin.«set.__new__» Builtin.Frozenset.newClass
  have hsub := sub_set_self
  obtain ⟨hp, g, d, tk, os⟩ := s
  dsimp only
  wp_walk
  refine wpAny_askSetting (wpAny_pure ?_)
  dsimp only
  simp only [newObj]
  exact wpAny_bind (wpAny_alloc (wpAny_pure (wpAny_pure h)))
/-- set.__init__ over a list of ints -/
theorem set_init {l : Addr} {items : Array Value} {ns : List Int} {R : Result → Shared → Prop} (hh : A.handled = none) (ho : s.heap.get? S = some (newSetObj w)) (hl : s.heap.IsList l items) (hne : S ≠ l) (hi : IntsAre items.toList ns) (hb : ns.length + 1 < 4000)
    (hR : ∀ s', (∀ b o, b ≠ S → s.heap.get? b = some o → s'.heap.get? b = some o) → s'.os = s.os → s'.gens = s.gens → SX w S (dd ns) s'.heap → R (.ok (.ret .none)) s') :
    wpAny (model P w) A.in1 (Builtin.«set.__init__» ⟨[.ref S, .ref l], []⟩)
      (fun fin s' => match fin with | .done f => R (.ok f) s' | .again c' => c'.quiet = true ∧ codeAny (model P w) A c' R s') (fun e s' => R (.error e) s') s := by
  obtain ⟨ol, hol, hcl, nl, hdl⟩ := id hl
  have hT : s.TypeIs (.ref S) "set" := ⟨_, ho, rfl⟩
  have hTl : s.TypeIs (.ref l) "list" := ⟨_, hol, hcl⟩
  have q1 := PySem.F.sub_list_set
  have q2 := PySem.F.sub_list_frozenset
  unfold Builtin.«set.__init__» noKeywords
  generalize hPI : Builtin.Frozenset.updateFrom = UF
  obtain ⟨hp, g, d, tk, os⟩ := s
  unfold newSetObj at ho
  wp_walk
  subst hPI
  unfold Builtin.Frozenset.updateFrom Builtin.Frozenset.isAnySet
  refine wpAny_bind ?_
  show wpAny _ _ (isInstance (.ref l) (.type "set") >>= fun b => _) _ _ _
  refine wpAny_bind (wpAny_isInstance hTl q1 ?_)
  show wpAny _ _ (isInstance (.ref l) (.type "frozenset")) _ _ _
  refine wpAny_isInstance hTl q2 ?_
  rw [if_neg Bool.false_ne_true]
  refine wpAny_bind (wpAny_typeOf hTl ?_)
  rw [if_neg (by decide)]
  refine wpAny_bind (wpAny_pyIter_list hl ?_)
  refine wpAny_bind (wpAny_runValue ?_)
  have hSh : S < hp.objs.size := Heap.lt_size ho
  have hlh : l < hp.objs.size := Heap.lt_size hol
  refine upd_loop (show A.in1.handled = none from hh) (Nat.ne_of_lt hlh) (Nat.ne_of_lt hSh) hne hi hb (items.size - 0) 0 _ rfl (Nat.zero_le _) ⟨_, Heap.get?_push_size _ rfl, rfl, rfl⟩ ?_ ?_ fun s' kp os' gs' ds' sx => ?_
  · exact ⟨ol, Heap.get?_push_of_some _ hol, hcl, nl, hdl⟩
  · rw [List.take_zero]
    exact newSet_SX (Heap.get?_push_of_some _ ho)
  · refine wpAny_pure (wpAny_pure (hR s' (fun b o hbS e => kp b o hbS (Nat.ne_of_lt (Heap.lt_size e)) (Heap.get?_push_of_some _ e)) os' gs' sx))
/-- set(list of ints) -/
theorem set_of_list {l : Addr} {items : Array Value} {ns : List Int} {Q : Value → Shared → Prop} (hh : A.handled = none) (hl : s.heap.IsList l items) (hi : IntsAre items.toList ns) (hb : ns.length + 1 < 4000)
    (h : ∀ s', SX w s.heap.objs.size (dd ns) s'.heap → (∀ b o, s.heap.get? b = some o → s'.heap.get? b = some o) → s'.os = s.os → s'.gens = s.gens → Q (.ref s.heap.objs.size) s') : wpAny (model P w) A (call (.type "set") [.ref l]) Q E s := by
  obtain ⟨c, tl, hmro⟩ := PySem.F.called_set.mro
  have hmade := PySem.F.called_set.made
  have hsub := PySem.F.called_set.sub
  have n1 := PySem.F.called_set.notType
  have n2 := PySem.F.called_set.canCreate
  have hct := PySem.F.typeCall_set_1 (.ref l)
  refine wpAny_call (codeAny_of_tree ?_)
  show wpAny _ _ (callAny (.type "set") _) _ _ _
  refine wpAny_pure ⟨Code.quiet_builtin _ (by decide +kernel), codeAny_builtin PySem.F.entry_type_call ?_⟩
  rw [Around.under_plain (weight_type_call_type "set" [.ref l] []) rfl]
  repeat (any_goals (first | assumption | wp_step))
  refine codeAny_mono (set_new (E := E) (Q := fun v s1 => v = .ref s.heap.objs.size ∧ s1 = { s with heap := s.heap.push (newSetObj w) }) (.ref l) ⟨rfl, rfl⟩) fun r s1 hr => ?_
  cases r with
  | error e => exact hr
  | ok fl =>
    cases fl with
    | ret v =>
      obtain ⟨e1, e2⟩ := hr
      subst e1 e2
      have hS : (s.heap.push (newSetObj w)).get? s.heap.objs.size = some (newSetObj w) := Heap.get?_push_size _ rfl
      have hT : Shared.TypeIs { s with heap := s.heap.push (newSetObj w) } (.ref s.heap.objs.size) "set" := ⟨_, hS, rfl⟩
      have hlu := PySem.F.called_set.init.lookup
      have hbd := PySem.F.called_set.init.bind (.ref s.heap.objs.size)
      repeat (any_goals (first | assumption | wp_step))
      refine codeAny_mono (codeAny_call_builtin (R := wants (fun r s2 => r = .none ∧ Q (.ref s.heap.objs.size) s2) E) PySem.F.called_set.init.plain PySem.F.entry_set_init (check_set_init_1 hT ?_)) fun r2 s2 hr2 => ?_
      · obtain ⟨ol, hol, hcl⟩ := id hl
        refine set_init (A := A.in1) (show A.in1.handled = none from hh) hS ⟨ol, Heap.get?_push_of_some _ hol, hcl⟩ (Nat.ne_of_gt (Heap.lt_size hol)) hi hb fun s' kp os' gs' sx => ⟨rfl, h s' sx (fun b o e => kp b o (Nat.ne_of_lt (Heap.lt_size e)) (Heap.get?_push_of_some _ e)) os' gs'⟩
      · cases r2 with
        | error e => exact hr2
        | ok fl2 =>
          cases fl2 with
          | ret v2 =>
            obtain ⟨e1, hq⟩ := hr2
            subst e1
            repeat (any_goals (first | assumption | wp_step))
          | _ => exact hr2.elim
    | _ => exact hr.elim
end
end L2

set_option Elab.async false
set_option linter.all false
set_option maxRecDepth 100000
namespace L2
open PySem PySem.Spec PyProof.Rows
/-! ### sets in the hand layer -/
theorem SX.ok {P : Program} {w : World} {H : Hp} {h : Heap} {a : Addr} {ms : List Int} (x : SX w a ms h) : ObjOk P w H h a (.ext (SX w a ms)) :=
  ⟨x, by obtain ⟨o, _, _, _, _, e, _⟩ := x; exact ⟨o, e⟩, fun _ _ y k => y.at k⟩
section
variable {X : Cx}
/-- a new object, the state behind as it is -/
theorem Inv.new' {pins : List (Addr × Obj)} {σ : L2.St} {H : Hp} {s s' : Shared} {a : Addr} {o : HO} (I : Inv X pins σ H s) (k : ∀ b u, s.heap.get? b = some u → s'.heap.get? b = some u) (hp : s.heap.objs.size ≤ a) (hos : s'.os = s.os) (hgs : s'.gens = s.gens)
    (new : ObjOk X.prog X.w (upd H a o) s'.heap a o) : Inv X pins σ (upd H a o) s' :=
  I.call' (ch := []) hos (Un.laid k hp (I.hok.fresh hp)) (I.hok.laid k hp new) (by rw [hgs]; exact I.bare) fun b hb => by cases hb
theorem SX_at {w : World} {a : Addr} {ms : List Int} {h : Heap} (x : SX w a ms h) : ∃ es ep t ks, SetAt w a es ep t ks h ∧ ks.Perm ms := by
  obtain ⟨o, es, ep, t, ks, e, r, p⟩ := x
  exact ⟨es, ep, t, ks, ⟨o, e, r⟩, p⟩
theorem cSet (w : World) (K : PySem.W.Frag) (hc : X.calm = true := by rfl) (hw : X.w = w := by rfl) (hK : X.K = K := by rfl) : CallR X (.type "set") (fun xs H Q => ∃ p ns, xs = [.ref p] ∧ SqL K H p (ns.map V.int) ∧ ns.length < 3000 ∧
    ∀ a, H a = none → Q (.ref a) (upd H a (.ext (SX w a (dd ns))))) := by
  subst hw hK
  intro pins s σ H xs us Q I r h
  obtain ⟨p, ns, e, hq, hl, q⟩ := h
  subst e
  obtain ⟨u, e, rx⟩ := vals1 r
  subst e
  cases rx
  obtain ⟨its, rv, pl, hz⟩ := I.list hq
  refine set_of_list (ns := ns) (I.ok.hd hc) pl.isList (by simpa using intsAre_of rv) (by omega) fun s' sx kp os' gs' => ?_
  exact ⟨.ref s.heap.objs.size, _, I.new' kp (Nat.le_refl _) os' gs' sx.ok, rfl, q _ I.fresh⟩
theorem cLenS (w : World) (hw : X.w = w := by rfl) : CallR X (.builtin "len") (fun xs H Q => ∃ p ms, xs = [.ref p] ∧ H p = some (.ext (SX w p ms)) ∧ Q (.int ms.length) H) := by
  subst hw
  intro pins s σ H xs us Q I r h
  obtain ⟨p, ms, e, hp, q⟩ := h
  subst e
  obtain ⟨u, e, rx⟩ := vals1 r
  subst e
  cases rx
  obtain ⟨sx, _⟩ := (show ObjOk X.prog X.w H s.heap p (.ext (SX X.w p ms)) from I.hok p _ hp)
  obtain ⟨es, ep, t, ks, sa, pm⟩ := SX_at sx
  refine len_of_set sa fun tk n => ⟨.int ms.length, H, I.tok n, ⟨tk, ?_⟩, q⟩
  rw [pm.length_eq]
end
end L2

set_option Elab.async false
set_option linter.all false
set_option maxRecDepth 100000
namespace L2
theorem Short.lt {ps : List (List Int)} {qs : List Nat} (s : Short ps qs) : ∀ q ∈ qs, q < ps.length := fun q m => by
  obtain ⟨X, hX, hq⟩ := s.few
  obtain ⟨p, e, _⟩ := hq q m
  exact (List.getElem?_eq_some_iff.mp e).1
theorem Short.len {ps : List (List Int)} {qs : List Nat} (s : Short ps qs) : qs.length ≤ ps.length := by
  have nd : qs.Nodup := s.up.imp fun h => Nat.ne_of_lt h
  have := nd.length_le_of_subset (l₂ := List.range ps.length) fun q m => List.mem_range.mpr (s.lt q m)
  rw [List.length_range] at this
  exact this
end L2

set_option Elab.async false
set_option linter.all false
set_option maxRecDepth 100000
namespace L2
open PySem PySem.Spec PyProof.Rows
section
variable {X : Cx} {tg : Expr}
end
/-- the heap without some objects -/
def less (H : Hp) (xs : List Addr) : Hp := fun b => if b ∈ xs then none else H b
end L2

set_option Elab.async false
set_option linter.all false
set_option maxRecDepth 100000
namespace L2
open PySem PySem.Spec PyProof.Rows
section
variable {X : Cx} {pos : Pos}
end

/-! ### one badge gone: a chain of places to a free badge, or too few badges -/
def thin (g : Int) (ps : List (List Int)) : List (List Int) := ps.map fun p => p.filter fun b => decide (b ≠ g)
theorem thin_len {g : Int} {ps : List (List Int)} : (thin g ps).length = ps.length := by unfold thin; rw [List.length_map]
theorem thin_mem {g : Int} {ps : List (List Int)} {k : Nat} (h : k < (thin g ps).length) {b : Int} : b ∈ (thin g ps)[k] ↔ b ∈ ps.getD k [] ∧ b ≠ g := by
  have h' : k < ps.length := by rw [thin_len] at h; exact h
  have : ps.getD k [] = ps[k] := by simp [h']
  have e : (thin g ps)[k] = ps[k].filter fun b => decide (b ≠ g) := by
    have := List.getElem_map (fun p : List Int => p.filter fun b => decide (b ≠ g)) (l := ps) (i := k) (h := by rw [List.length_map]; exact h')
    exact this
  rw [e, List.mem_filter, this]
  simp
/-- all but the place q have a badge, of their pool, not the one that is gone, and of the own ones; the places that weren't met have their own -/
structure Off (ps : List (List Int)) (own : List Int) (g : Int) (met : List Nat) (q : Nat) (hs : List Int) : Prop where
  len : hs.length = ps.length
  of : ∀ k, k < ps.length → k ≠ q → hs.getD k 0 ∈ ps.getD k [] ∧ hs.getD k 0 ≠ g ∧ hs.getD k 0 ∈ own
  ne : ∀ j k, j < ps.length → k < ps.length → j ≠ q → k ≠ q → j ≠ k → hs.getD j 0 ≠ hs.getD k 0
  keep : ∀ k, k < ps.length → k ∉ met → hs.getD k 0 = own.getD k 0
theorem getD_get {hs : List Int} {k : Nat} (h : k < hs.length) : hs.getD k 0 = hs[k] := by simp [h]
theorem getD_getL {hs : List (List Int)} {k : Nat} (h : k < hs.length) : hs.getD k [] = hs[k] := by simp [h]
structure Frr (ps : List (List Int)) (own : List Int) (g : Int) (st : Nat) (met : List Nat) : Prop where
  nd : met.Nodup
  lt : ∀ q ∈ met, q < ps.length
  st : st ∈ met
  off : ∀ q ∈ met, ∃ hs, Off ps own g met q hs
/-- the badges of this pool are gone, or the own of places that were met -/
def Sht (own : List Int) (g : Int) (met : List Nat) (b : Int) : Prop := b = g ∨ (b ∈ own ∧ ∀ p, p < own.length → own.getD p 0 = b → p ∈ met)
theorem Frr.none {ps : List (List Int)} {own : List Int} {g : Int} {st : Nat} {met : List Nat} (F : Frr ps own g st met) (hg : own.getD st 0 = g) (hc : ∀ q ∈ met, ∀ b ∈ ps.getD q [], Sht own g met b) (hs : List Int) (d : Deal (thin g ps) hs) : False := by
  have dl : hs.length = ps.length := by rw [d.len, thin_len]
  have nd2 : (met.map fun q => hs.getD q 0).Nodup := by
    rw [List.nodup_iff_pairwise_ne, List.pairwise_map]
    refine List.Pairwise.imp_of_mem ?_ (List.nodup_iff_pairwise_ne.mp F.nd)
    intro q q' h1 h2 hne z
    have l1 : q < hs.length := by rw [dl]; exact F.lt q h1
    have l2 : q' < hs.length := by rw [dl]; exact F.lt q' h2
    rw [getD_get l1, getD_get l2] at z
    exact hne ((List.getElem_inj d.nd).mp z)
  have le := nd2.length_le_of_subset (l₂ := (met.erase st).map fun q => own.getD q 0) fun c hc' => by
    obtain ⟨q, m, e⟩ := List.mem_map.mp hc'
    have l0 := F.lt q m
    have l1 : q < hs.length := by rw [dl]; exact l0
    have l2 : q < (thin g ps).length := by rw [thin_len]; exact l0
    have := d.of q l1 l2
    rw [thin_mem] at this
    rw [getD_get l1] at e
    rw [e] at this
    rcases hc q m c this.1 with h | ⟨h1, h2⟩
    · exact absurd h this.2
    · obtain ⟨p, hp, ep⟩ := List.mem_iff_getElem.mp h1
      have ep' : own.getD p 0 = c := by rw [getD_get hp]; exact ep
      refine List.mem_map.mpr ⟨p, ?_, ep'⟩
      refine (List.mem_erase_of_ne fun z => ?_).mpr (h2 p hp ep')
      subst z
      exact this.2 (by rw [← ep', hg])
  rw [List.length_map, List.length_map, List.length_erase_of_mem F.st] at le
  have : 0 < met.length := List.length_pos_of_mem F.st
  omega
end L2

set_option Elab.async false
set_option linter.all false
set_option maxRecDepth 100000
namespace L2
open PySem PySem.Spec PyProof.Rows
end L2

set_option Elab.async false
set_option linter.all false
set_option maxRecDepth 100000
namespace L2
open PySem PySem.Spec PyProof.Rows
section
variable {P : Program} {w : World} {A : Around} {E : Value → Shared → Prop} {s : Shared} {S : Addr} {ks ms : List Int} {es : Array (Int × Value)} {ep : Nat} {t : SetTable}
theorem sl_big {n : Nat} (h : n < 5000) : n ≤ sizeLine := Nat.le_of_lt (szn (by omega))
theorem SetAt.store {es' : Array (Int × Value)} {t' : SetTable} {ks' : List Int} {Q : Unit → Shared → Prop} (hS : SetAt w S es ep t ks s.heap) (en : Ents es'.toList ks') (nd : ks'.Nodup) (sz : ks'.length < 4000) (ft : t'.fits es'.size = true) (tb : TabK (!byText w) t')
    (h : ∀ h', Heap.SameBut S s.heap h' → SetAt w S es' (ep + 1) t' ks' h' → Q () { s with heap := h' }) : wpAny (model P w) A (storeSet S es' t') Q E s := by
  obtain ⟨o, ho, hs⟩ := hS
  have z : es'.size = ks'.length := by rw [← en.len, Array.length_toList]
  refine wpAny_storeSet_of ho hs.da (h _ (Heap.SameBut.update ..) ?_) (by rw [z]; exact sl_big (by omega))
  obtain ⟨o', ho', hs'⟩ := put_SX (s := s) ho hs en nd sz ft tb
  exact ⟨o', ho', hs'⟩
theorem SetAt.state {Q : Array (Int × Value) × Nat × SetTable → Shared → Prop} (hS : SetAt w S es ep t ks s.heap) (h : Q (es, ep, t) s) : wpAny (model P w) A (setState S) Q E s := by
  obtain ⟨o, ho, hs⟩ := hS
  exact wpAny_setState_of ho hs.da hs.ft h
theorem SetAt.en (hS : SetAt w S es ep t ks s.heap) : Ents es.toList ks := let ⟨_, _, hs⟩ := hS; hs.en
theorem SetAt.nd (hS : SetAt w S es ep t ks s.heap) : ks.Nodup := let ⟨_, _, hs⟩ := hS; hs.nd
theorem SetAt.ft (hS : SetAt w S es ep t ks s.heap) : t.fits es.size = true := let ⟨_, _, hs⟩ := hS; hs.ft
theorem SetAt.tb (hS : SetAt w S es ep t ks s.heap) : TabK (!byText w) t := let ⟨_, _, hs⟩ := hS; hs.tb
theorem SetAt.sz (hS : SetAt w S es ep t ks s.heap) : es.size = ks.length := let ⟨_, _, hs⟩ := hS; hs.size
theorem SetAt.lt4 (hS : SetAt w S es ep t ks s.heap) : ks.length < 4000 := let ⟨_, _, hs⟩ := hS; hs.sz
theorem SetAt.sx (hS : SetAt w S es ep t ks s.heap) (p : ks.Perm ms) : SX w S ms s.heap := let ⟨o, e, r⟩ := hS; ⟨o, es, ep, t, ks, e, r, p⟩
/-- is it in there, and where -/
theorem SetAt.find {x : Int} {tk : Tok} {Q : Option Nat → Shared → Prop} (hS : SetAt w S es ep t ks s.heap) (h1 : ∀ i, ks[i]? = some x → Q (some i) s) (h2 : x ∉ ks → Q none s) : wpAny (model P w) A (setFind S (.int x tk) (hashInt x)) Q E s := by
  obtain ⟨o, ho, hs⟩ := hS
  have hel := hs.en.elems (P := P) (w := w)
  have hky : (intKind P w).is x (.int x tk) = true := intKind_is P w x tk
  unfold setFind setFindIn
  refine wpAny_bind (wpAny_setState_of ho hs.da hs.ft ?_)
  dsimp only
  rw [byScan_of (knd := intKind P w) rfl hs.bound hel, if_pos rfl]
  refine wpAny_bind (wpAny_rule ?_)
  refine wpAny_bind (wpAny_setScan_of (knd := intKind P w) (k := x) hky ho hs.da hs.ft hel ?_)
  have fd := hs.en.find (P := P) (w := w) (k := x)
  cases hr : List.findIdx? (fun e => (intKind P w).is x e.2) es.toList with
  | some j =>
    refine wpAny_pure ?_
    rw [Nat.zero_add]
    refine h1 j ?_
    obtain ⟨hj, p1, _⟩ := List.findIdx?_eq_some_iff_getElem.mp hr
    have hjk : j < ks.length := by rw [← hs.en.len]; exact hj
    have gk := List.getElem?_eq_getElem hjk
    obtain ⟨e', g, tk', q⟩ := pair_get hs.en gk
    rw [List.getElem?_eq_getElem hj] at g
    have g := Option.some.inj g
    rw [g, q] at p1
    have : x = ks[j] := by
      have z : (intKind P w).is x (hashInt ks[j], Value.int ks[j] tk').2 = decide (x = ks[j]) := isInt_dec x ks[j] tk'
      rw [z] at p1
      exact of_decide_eq_true p1
    rw [gk, this]
  | none =>
    rw [hr] at fd
    exact wpAny_pure (h2 (of_decide_eq_false fd.symm))
end
end L2

set_option Elab.async false
set_option linter.all false
set_option maxRecDepth 100000
namespace L2
open PySem PySem.Spec PyProof.Rows
section
variable {P : Program} {w : World} {A : Around} {E : Value → Shared → Prop} {s : Shared} {S : Addr} {ks ms : List Int} {es : Array (Int × Value)} {ep : Nat} {t : SetTable}
end
end L2

set_option Elab.async false
set_option linter.all false
set_option maxRecDepth 100000
namespace L2
open PySem PySem.Spec PyProof.Rows
section
variable {P : Program} {w : World} {A : Around} {E : Value → Shared → Prop} {s : Shared} {S T : Addr} {ks ms ns : List Int} {es : Array (Int × Value)} {ep : Nat} {t : SetTable}
end
end L2

set_option Elab.async false
set_option linter.all false
set_option maxRecDepth 100000
namespace L2
open PySem PySem.Spec PyProof.Rows
section
variable {P : Program} {w : World} {A : Around} {E : Value → Shared → Prop} {s : Shared} {S T : Addr} {ks ms ns : List Int} {es : Array (Int × Value)} {ep : Nat} {t : SetTable}
end
end L2

set_option Elab.async false
set_option linter.all false
set_option maxRecDepth 100000
namespace L2
open PySem PySem.Spec PyProof.Rows
section
variable {P : Program} {w : World} {A : Around} {E : Value → Shared → Prop} {s : Shared} {S T r : Addr} {ks ms ns : List Int} {es : Array (Int × Value)} {ep : Nat} {t : SetTable}
end
end L2

set_option Elab.async false
set_option linter.all false
set_option maxRecDepth 100000
namespace L2
open PySem PySem.Spec PyProof.Rows
section
variable {P : Program} {w : World} {A : Around} {E : Value → Shared → Prop} {s : Shared} {S T r : Addr} {ks kr ms ns : List Int} {es er : Array (Int × Value)} {ep epr : Nat} {t tr : SetTable}
theorem SX.nd {h : Heap} (x : SX w S ms h) : ms.Nodup := by
  obtain ⟨o, es, ep, t, ks, e, r, p⟩ := x
  exact p.nodup_iff.mp r.nd
end
end L2

set_option Elab.async false
set_option linter.all false
set_option maxRecDepth 100000
namespace L2
open PySem PySem.Spec PyProof.Rows
theorem eraseAt_list {α : Type} (xs : Array α) (i : Nat) (h : i < xs.size) : (SetTable.eraseAt xs i).toList = xs.toList.eraseIdx i := by
  unfold SetTable.eraseAt
  rw [Array.toList_append, Array.toList_extract, Array.toList_extract, List.eraseIdx_eq_take_drop_succ]
  simp [List.extract_eq_take_drop]
  exact List.take_of_length_le (by simp)
theorem insertAt_size {α : Type} (xs : Array α) (p : Nat) (x : α) : (SetTable.insertAt xs p x).size = xs.size + 1 := by
  unfold SetTable.insertAt
  simp
  omega
section
variable {P : Program} {w : World} {A : Around} {E : Value → Shared → Prop} {s : Shared} {S T r : Addr} {ks kr ms ns : List Int} {es er : Array (Int × Value)} {ep epr : Nat} {t tr : SetTable}
/-- one out -/
theorem SetAt.drop {x : Int} {tk : Tok} {Q : Bool → Shared → Prop} (hR : SetAt w r er epr tr kr s.heap)
    (h : ∀ b h' kr', Heap.SameBut r s.heap h' → SX w r kr' h' → (∀ y, y ∈ kr' ↔ y ∈ kr ∧ y ≠ x) → kr'.length ≤ kr.length → Q b { s with heap := h' }) : wpAny (model P w) A (setDiscardHashed r (.int x tk) (hashInt x)) Q E s := by
  unfold setDiscardHashed
  refine wpAny_bind (hR.find (fun i hi => ?_) fun hn => ?_)
  · dsimp only
    refine wpAny_bind (hR.state ?_)
    dsimp only
    have hik : i < kr.length := (List.getElem?_eq_some_iff.mp hi).1
    have sz := hR.sz
    have pz := fits_size hR.ft
    have hie : i < er.size := by omega
    have hip : i < tr.place.size := by omega
    have gp := Array.getElem?_eq_getElem hip
    have p1 : er.toList.Perm (er[i] :: er.toList.eraseIdx i) := erase_perm (by simp [hie])
    obtain ⟨k1, n1, q1⟩ := Ents.perm p1.symm hR.en
    cases n1 with
    | @cons _ k _ k1' q n1' =>
      obtain ⟨t1, e1⟩ := q
      obtain ⟨a', ga, t2, e2⟩ := pair_get hR.en hi
      have ga' : er[i] = a' := by
        rw [Array.getElem?_toList, Array.getElem?_eq_getElem hie] at ga
        exact Option.some.inj ga
      rw [ga', e2] at e1
      have ekx : x = k := by
        have := congrArg Prod.snd e1
        injection this
      subst ekx
      have nd1 : (x :: k1').Nodup := q1.nodup_iff.mpr hR.nd
      rw [List.nodup_cons] at nd1
      have le : k1'.length + 1 = kr.length := by rw [← q1.length_eq]; rfl
      have el : (SetTable.eraseAt er i).toList = er.toList.eraseIdx i := eraseAt_list er i hie
      have ez : (SetTable.eraseAt er i).size = er.size - 1 := by rw [← Array.length_toList, el, List.length_eraseIdx_of_lt (by rw [Array.length_toList]; exact hie), Array.length_toList]
      have ed : tr.drop i = { tr with place := SetTable.eraseAt tr.place i, dummies := SetTable.insertAt tr.dummies (SetTable.below tr.dummies tr.place[i]) tr.place[i] } := by unfold SetTable.drop; rw [gp]
      have pl : (SetTable.eraseAt tr.place i).toList = tr.place.toList.eraseIdx i := eraseAt_list tr.place i hip
      have pe : (SetTable.eraseAt tr.place i).size = tr.place.size - 1 := by rw [← Array.length_toList, pl, List.length_eraseIdx_of_lt (by rw [Array.length_toList]; exact hip), Array.length_toList]
      have ft := hR.ft
      simp only [SetTable.fits, SetTable.fill, Bool.and_eq_true, beq_iff_eq, decide_eq_true_eq] at ft
      refine wpAny_bind (hR.store (es' := SetTable.eraseAt er i) (t' := tr.drop i) (ks' := k1') (by rw [el]; exact n1') nd1.2 (by have := hR.lt4; omega) ?_ ?_ fun h' sb st => ?_)
      · rw [ed]
        simp only [SetTable.fits, SetTable.fill, Bool.and_eq_true, beq_iff_eq, decide_eq_true_eq, pe, ez, insertAt_size]
        have f2 := of_decide_eq_true ft.2
        omega
      · rw [ed]
        refine ⟨hR.tb.led, fun z => ?_⟩
        show Rise (SetTable.eraseAt tr.place i).toList
        rw [pl]
        exact (hR.tb.rise z).sublist (List.eraseIdx_sublist ..)
      · refine wpAny_bind (wpAny_point (wpAny_pure (h true h' k1' sb (SetAt.sx (s := { s with heap := h' }) st (.refl _)) (fun y => ?_) (by omega))))
        rw [← q1.mem_iff (a := y), List.mem_cons]
        constructor
        · exact fun m => ⟨.inr m, fun z => nd1.1 (by rw [← z]; exact m)⟩
        · exact fun ⟨m, n⟩ => m.resolve_left n
  · exact wpAny_pure (h false s.heap kr (Heap.SameBut.refl _ _) (hR.sx (.refl _)) (fun y => ⟨fun m => ⟨m, fun z => hn (by rw [← z]; exact m)⟩, fun m => m.1⟩) (Nat.le_refl _))
end
end L2

set_option Elab.async false
set_option linter.all false
set_option maxRecDepth 100000
namespace L2
open PySem PySem.Spec PyProof.Rows
section
variable {P : Program} {w : World} {A : Around} {E : Value → Shared → Prop} {s : Shared} {S T r : Addr} {ks kr ms ns : List Int} {es er : Array (Int × Value)} {ep epr : Nat} {t tr : SetTable}
end
end L2

set_option Elab.async false
set_option linter.all false
set_option maxRecDepth 100000
namespace L2
open PySem PySem.Spec PyProof.Rows
section
variable {X : Cx}
end
end L2

set_option Elab.async false
set_option linter.all false
set_option maxRecDepth 100000
namespace L2
open PySem PySem.Spec PyProof.Rows
section
variable {X : Cx}
end
end L2

set_option Elab.async false
set_option linter.all false
set_option maxRecDepth 100000
namespace L2
open PySem PySem.Spec PyProof.Rows
section
variable {X : Cx}
end
end L2

set_option Elab.async false
set_option linter.all false
set_option maxRecDepth 100000
namespace L2
open PySem PySem.Spec PyProof.Rows
section
variable {X : Cx}
end
section
variable {X : Cx}
end
end L2

set_option Elab.async false
set_option linter.all false
set_option maxRecDepth 100000
namespace L2
open PySem PySem.Spec PyProof.Rows
section
variable {X : Cx}
end
end L2

set_option Elab.async false
set_option linter.all false
set_option maxRecDepth 100000
namespace L2
open PySem PySem.Spec PyProof.Rows
section
open PySem.AutoSeq1 (wpAny_loadPart')
open PySem.MeetsSeq PySem.MeetsSeq2 PySem.MeetsSeq3
end
section
variable {X : Cx}
end
end L2

set_option Elab.async false
set_option linter.all false
set_option maxRecDepth 100000
namespace L2
open PySem PySem.Spec PyProof.Rows
/-! ### comprehensions whose test makes objects of its own -/
theorem comp_walk2 {J : It} {H1 : Hp} {js : List (Option Nat)} {σ : L2.St} {tc : TT} {te : TE} {Q : VK} (n : Nat) (item : Nat → V) (p : Nat → Bool) (P : Addr → Nat → V → Hp → Prop) (hn : n < 100000)
    (mono : ∀ acc i v H H', P acc i v H → SameBut acc H H' → P acc i v H')
    (hgo : ∀ i H, i < n → Same H1 H → J.go i H) (hst : ∀ H, Same H1 H → J.stop n H) (hy : ∀ i H x H', i < n → Same H1 H → J.yld i H x H' → H' = H ∧ x = item i)
    (hc : ∀ i, i < n → ∀ H2 R, Same H1 H2 → (∀ H3, Same H2 H3 → R (p i) H3) → tc (some (item i) :: pick σ js) H2 R)
    (he : ∀ acc i, i < n → p i = true → ∀ H2 R, Same H1 H2 → H1 acc = none → H2 acc ≠ none → (∀ v H3, Same H2 H3 → P acc i v H3 → R v H3) → te (some (item i) :: pick σ js) H2 R)
    (hQ : ∀ acc vs H', Same H1 H' → H1 acc = none → H' acc = some (.lst vs) → Paired (fun i v => P acc i v H') ((List.range n).filter p) vs → Q (.ref acc) H') :
    CompB J H1 (none :: js) (gName 0) tc te σ Q := by
  intro acc hacc
  refine ⟨fun i m ys H => m = n - i ∧ i ≤ n ∧ Same H1 H ∧ H acc = some (.lst ys) ∧ Paired (fun k v => P acc k v H) ((List.range i).filter p) ys, ⟨n, by simp, Nat.zero_le _, Same.new hacc, upd_same, .nil⟩, ?_⟩
  rintro i m ys H ⟨rfl, hi, s1, ha, hp⟩
  by_cases hlt : i < n
  · refine .inr ⟨hgo i H hlt s1, fun ys' H' => i < n ∧ Same H1 H' ∧ H' acc = some (.lst ys') ∧ Paired (fun k v => P acc k v H') ((List.range (i + 1)).filter p) ys', fun ys' H' ⟨z, a, b, c⟩ => ⟨n - (i + 1), by omega, rfl, hlt, a, b, c⟩, fun x H' y => ?_⟩
    obtain ⟨rfl, rfl⟩ := hy i H x H' hlt s1 y
    refine ⟨kept1, hc i hlt _ _ s1 fun H2 s2 => ⟨fun hb => ?_, fun hb => ?_⟩⟩
    · have ha2 := s2 _ _ ha
      refine he acc i hlt hb _ _ (s1.trans s2) hacc (by rw [ha2]; simp) fun v H3 s3 pv => ?_
      have hlen : ys.length ≤ i := by
        rw [← Paired.length hp]
        exact Nat.le_trans (List.length_filter_le _ _) (by simp)
      refine ⟨s3 _ _ ha2, szn (by omega), hlt, ((s1.trans s2).trans s3).put hacc, upd_same, ?_⟩
      rw [List.range_succ, List.filter_append]
      have e : List.filter p [i] = [i] := by simp [hb]
      rw [e]
      refine Paired.snoc (Paired.mapP hp fun k v q => ?_) ?_
      · exact mono acc k v _ _ (mono acc k v _ _ q (s2.trans s3).but) SameBut.upd
      · exact mono acc i v _ _ pv SameBut.upd
    · refine ⟨hlt, s1.trans s2, s2 _ _ ha, ?_⟩
      rw [List.range_succ, List.filter_append]
      have e : List.filter p [i] = [] := by simp [hb]
      rw [e, List.append_nil]
      exact Paired.mapP hp fun k v q => mono acc k v _ _ q s2.but
  · have e : i = n := by omega
    subst e
    exact .inl ⟨hst H s1, hQ acc ys H s1 hacc ha hp⟩
/-- over range(n), those that pass -/
theorem comp_some {H1 : Hp} {js : List (Option Nat)} {σ : L2.St} {tc : TT} {te : TE} {Q : VK} {n : Nat} (p : Nat → Bool) (hn : n < 100000)
    (hc : ∀ i : Nat, i < n → ∀ H2 R, Same H1 H2 → (∀ H3, Same H2 H3 → R (p i) H3) → tc (some (.int (0 + (i : Int))) :: pick σ js) H2 R)
    (he : ∀ i : Nat, i < n → ∀ H2 R, R (.int ((i : Nat) : Int)) H2 → te (some (.int (0 + (i : Int))) :: pick σ js) H2 R)
    (hQ : ∀ acc H', Same H1 H' → H1 acc = none → H' acc = some (.lst (((List.range n).filter p).map fun (i : Nat) => V.int (i : Int))) → Q (.ref acc) H') : CompB (Itr 0 n) H1 (none :: js) (gName 0) tc te σ Q :=
  comp_walk2 (J := Itr 0 n) (H1 := H1) (js := js) (σ := σ) (tc := tc) (te := te) (Q := Q) n (fun i => .int (0 + (i : Int))) p (fun _ i v _ => v = V.int (i : Int)) hn (fun _ _ _ _ _ h _ => h)
    (fun _ _ h _ => h) (fun _ _ => Nat.le_refl _) (fun _ _ _ _ _ _ y => y) hc (fun _ i hi _ H2 R s _ _ k => he i hi H2 R (k _ H2 (Same.refl _) rfl))
    fun acc vs H' s n' e p => hQ acc H' s n' (by rw [e, paired_map p])
theorem Same.seqT {K : PySem.W.Frag} {H H' : Hp} {a : Addr} {xs : List V} (e : Same H H') (h : SqT K H a xs) : SqT K H' a xs := by
  rcases h with (h | ⟨o, h⟩) | h
  · exact .inl (.inl (e _ _ h))
  · exact .inl (.inr ⟨o, e _ _ h⟩)
  · exact .inr h
/-- over a tuple that stays, with a test: a value each -/
theorem comp_tup {K : PySem.W.Frag} {H1 : Hp} {js : List (Option Nat)} {σ : L2.St} {tc : TT} {te : TE} {Q : VK} {a : Addr} {xs : List V} (p : Nat → Bool) (f : Nat → V) (hl : SqT K H1 a xs) (hn : xs.length < 100000)
    (hc : ∀ (i : Nat) x, xs[i]? = some x → ∀ H2 R, Same H1 H2 → (∀ H3, Same H2 H3 → R (p i) H3) → tc (some x :: pick σ js) H2 R)
    (he : ∀ (i : Nat) x, xs[i]? = some x → p i = true → ∀ H2 R, Same H1 H2 → (∀ H3, Same H2 H3 → R (f i) H3) → te (some x :: pick σ js) H2 R)
    (hQ : ∀ acc H', Same H1 H' → H1 acc = none → H' acc = some (.lst (((List.range xs.length).filter p).map f)) → Q (.ref acc) H') : CompB (Itt K a) H1 (none :: js) (gName 0) tc te σ Q :=
  comp_walk2 (J := Itt K a) (H1 := H1) (js := js) (σ := σ) (tc := tc) (te := te) (Q := Q) xs.length (fun i => xs.getD i .non) p (fun _ i v _ => v = f i) hn (fun _ _ _ _ _ h _ => h)
    (fun i H h s => ⟨xs, xs[i], Same.seqT s hl, by simp [h]⟩) (fun H s => ⟨xs, Same.seqT s hl, Nat.le_refl _⟩)
    (fun i H x H' h s y => ⟨y.1, by have e := y.2 xs (Same.seqT s hl); simp [e]⟩)
    (fun i h H2 R s k => hc i _ (by simp [h]) H2 R s k) (fun acc i h hp H2 R s n1 n2 k => he i _ (by simp [h]) hp H2 R s fun H3 s3 => k _ H3 s3 rfl)
    fun acc vs H' s n' e p => hQ acc H' s n' (by rw [e, paired_map p])
/-- how many unlike ones -/
def unl (f : Nat → Int) (st : List Nat) : Nat := (dd (st.map f)).length
theorem unl_snoc (f : Nat → Int) (st : List Nat) (i : Nat) : unl f (st ++ [i]) = if f i ∈ st.map f then unl f st else unl f st + 1 := by
  unfold unl
  rw [List.map_append, List.map_cons, List.map_nil, dd_snoc]
  unfold dstep
  by_cases h : f i ∈ st.map f
  · rw [if_pos h, if_pos (dd_mem.mpr h)]
  · rw [if_neg h, if_neg fun z => h (dd_mem.mp z), List.length_append, List.length_singleton]
/-- the same over a list -/
theorem comp_list2 {K : PySem.W.Frag} {H1 : Hp} {js : List (Option Nat)} {σ : L2.St} {tc : TT} {te : TE} {Q : VK} {a : Addr} {xs : List V} (p : Nat → Bool) (f : Nat → V) (hl : SqL K H1 a xs) (hn : xs.length < 100000)
    (hc : ∀ (i : Nat) x, xs[i]? = some x → ∀ H2 R, Same H1 H2 → (∀ H3, Same H2 H3 → R (p i) H3) → tc (some x :: pick σ js) H2 R)
    (he : ∀ (i : Nat) x, xs[i]? = some x → p i = true → ∀ H2 R, Same H1 H2 → (∀ H3, Same H2 H3 → R (f i) H3) → te (some x :: pick σ js) H2 R)
    (hQ : ∀ acc H', Same H1 H' → H1 acc = none → H' acc = some (.lst (((List.range xs.length).filter p).map f)) → Q (.ref acc) H') : CompB (Itl K a) H1 (none :: js) (gName 0) tc te σ Q :=
  comp_walk2 (J := Itl K a) (H1 := H1) (js := js) (σ := σ) (tc := tc) (te := te) (Q := Q) xs.length (fun i => xs.getD i .non) p (fun _ i v _ => v = f i) hn (fun _ _ _ _ _ h _ => h)
    (fun i H h s => ⟨xs, xs[i], s.seq hl, by simp [h]⟩) (fun H s => ⟨xs, s.seq hl, Nat.le_refl _⟩)
    (fun i H x H' h s y => ⟨y.1, by have e := y.2 xs (s.seq hl); simp [e]⟩)
    (fun i h H2 R s k => hc i _ (by simp [h]) H2 R s k) (fun acc i h hp H2 R s n1 n2 k => he i _ (by simp [h]) hp H2 R s fun H3 s3 => k _ H3 s3 rfl)
    fun acc vs H' s n' e p => hQ acc H' s n' (by rw [e, paired_map p])
theorem sift {α : Type} {st : List Nat} {g : Nat → Bool} {F : Nat → α} : (((List.range st.length).filter fun j => g (st.getD j 0)).map fun j => F (st.getD j 0)) = (st.filter g).map F := by
  have e0 : st = (List.range st.length).map fun i => st.getD i 0 := by
    apply List.ext_getElem
    · simp
    · intro i h1 h2; simp [h1]
  conv => rhs; rw [e0]
  rw [List.filter_map, List.map_map]
  rfl
/-- does a pattern break a tie -/
def brk (f : Nat → Int) (n : Nat) (wd : Str) (k : Int) (st : List Nat) : Bool :=
  if wd = "most" then decide (k < ((unl f (st.filter fun i => decide (i < n)) : Nat) : Int)) else decide (((unl f (st.filter fun i => decide (i < n)) : Nat) : Int) + (st.length : Int) - ((st.filter fun i => decide (i < n)).length : Int) < k)
/-! ### shapes -/
def fx (hs : List Int) (x : Int) : Nat := hs.findIdx fun y => decide (y = x)
theorem fx_at {hs : List Int} {x : Int} (h : x ∈ hs) : hs[fx hs x]? = some x := by
  have hl : fx hs x < hs.length := List.findIdx_lt_length_of_exists ⟨x, h, by simp⟩
  have := List.findIdx_getElem (xs := hs) (p := fun y => decide (y = x)) (w := hl)
  rw [List.getElem?_eq_getElem hl]
  exact congrArg some (of_decide_eq_true this)
theorem fx_no {hs : List Int} {x : Int} {m : Nat} (h : m < fx hs x) : hs[m]? ≠ some x := fun z => by
  obtain ⟨hm, e⟩ := List.getElem?_eq_some_iff.mp z
  have := List.not_of_lt_findIdx h
  rw [e] at this
  simp at this
theorem fx_le {hs : List Int} {k : Nat} (h : k < hs.length) : fx hs (hs.getD k 0) ≤ k := by
  refine Decidable.byContradiction fun z => fx_no (by omega : k < fx hs (hs.getD k 0)) ?_
  rw [getD_get h, List.getElem?_eq_getElem h]
/-- the number at a place -/
def shN (hs : List Int) (k : Nat) : Nat := (dd (hs.take (fx hs (hs.getD k 0)))).length
def shp (hs : List Int) : List Nat := (List.range hs.length).map (shN hs)
theorem shp_len {hs : List Int} : (shp hs).length = hs.length := by unfold shp; simp
theorem shp_at {hs : List Int} {k : Nat} (h : k < hs.length) : (shp hs)[k]? = some (shN hs k) := by
  unfold shp
  rw [List.getElem?_map, List.getElem?_range h]; rfl
end L2

set_option Elab.async false
set_option linter.all false
set_option maxRecDepth 100000
namespace L2
open PySem PySem.Spec PyProof.Rows
/-- a list of new lists, over range(n) -/
theorem comp_rlists {H1 : Hp} {js : List (Option Nat)} {σ : L2.St} {te : TE} {Q : VK} {n : Nat} (f : Nat → List V) (hn : n < 100000)
    (he : ∀ i : Nat, i < n → ∀ H2 R, Same H1 H2 → (∀ r H3, Same H2 H3 → H2 r = none → H3 r = some (.lst (f i)) → R (.ref r) H3) → te (some (.int (0 + (i : Int))) :: pick σ js) H2 R)
    (hQ : ∀ acc (rs : List Addr) H', Same H1 H' → H1 acc = none → H' acc = some (.lst (rs.map V.ref)) → rs.length = n → (∀ (i : Nat) r, rs[i]? = some r → H' r = some (.lst (f i)) ∧ H1 r = none) → (∀ r ∈ rs, r ≠ acc) → Q (.ref acc) H') :
    CompB (Itr 0 n) H1 (none :: js) (gName 0) tYes te σ Q :=
  comp_walk2 (J := Itr 0 n) (H1 := H1) (js := js) (σ := σ) (tc := tYes) (te := te) (Q := Q) n (fun i => .int (0 + (i : Int))) (fun _ => true) (fun acc i v H => ∃ r, v = .ref r ∧ r ≠ acc ∧ H1 r = none ∧ H r = some (.lst (f i))) hn
    (fun acc i v H H' ⟨r, e, n, h0, h⟩ s => ⟨r, e, n, h0, s r _ n h⟩) (fun _ _ h _ => h) (fun _ _ => Nat.le_refl _) (fun _ _ _ _ _ _ y => y) (fun _ _ _ _ _ h => h _ (Same.refl _))
    (fun acc i hi _ H2 R s n1 n2 k => he i hi H2 R s fun r H3 s3 nr h3 => k _ H3 s3 ⟨r, rfl, fun z => n2 (by rw [← z]; exact nr), s.free nr, h3⟩)
    fun acc vs H' s n' e p => by
      rw [List.filter_eq_self.mpr (fun _ _ => rfl)] at p
      have hl : vs.length = n := by rw [← Paired.length p, List.length_range]
      have all : ∀ (i : Nat) v, vs[i]? = some v → ∃ r, v = .ref r ∧ r ≠ acc ∧ H1 r = none ∧ H' r = some (.lst (f i)) := fun i v hv => by
        obtain ⟨k, hk, q⟩ := pair_get p hv
        have hi : i < n := by rw [← hl]; exact (List.getElem?_eq_some_iff.mp hv).1
        rw [List.getElem?_range hi] at hk
        cases hk
        exact q
      have ex : ∃ rs : List Addr, vs = rs.map V.ref := by
        refine ⟨vs.map fun v => match v with | .ref r => r | _ => 0, ?_⟩
        rw [List.map_map]
        apply List.ext_getElem
        · simp
        · intro i h1 h2
          obtain ⟨r, er, _⟩ := all i vs[i] (List.getElem?_eq_getElem h1)
          rw [List.getElem_map]
          show vs[i] = V.ref (match vs[i] with | .ref r => r | _ => 0)
          rw [er]
      obtain ⟨rs, rfl⟩ := ex
      rw [List.length_map] at hl
      refine hQ acc rs H' s n' e hl (fun i r hr => ?_) fun r hr => ?_
      · obtain ⟨r', er, _, h1, h2⟩ := all i (.ref r) (by rw [List.getElem?_map, hr]; rfl)
        cases er
        exact ⟨h2, h1⟩
      · obtain ⟨i, hi, ei⟩ := List.mem_iff_getElem.mp hr
        obtain ⟨r', er, h0, _⟩ := all i (.ref r) (by rw [List.getElem?_map, List.getElem?_eq_getElem hi, ei]; rfl)
        cases er
        exact h0
end L2

set_option Elab.async false
set_option linter.all false
set_option maxRecDepth 100000
namespace L2
open PySem PySem.Spec PyProof.Rows
/-! ### a dict that numbers what came -/
theorem fx_app {l r : List Int} {b : Int} (h : b ∈ l) : fx (l ++ r) b = fx l b := by
  have hl : fx l b < l.length := List.findIdx_lt_length_of_exists ⟨b, h, by simp⟩
  unfold fx at *
  rw [List.findIdx_append, if_pos hl]
theorem fx_new {l : List Int} {b : Int} (h : b ∉ l) : fx (l ++ [b]) b = l.length := by
  have hl : ¬ fx l b < l.length := fun z => by
    have := List.findIdx_getElem (xs := l) (p := fun y => decide (y = b)) (w := z)
    exact h (by rw [← of_decide_eq_true this]; exact List.getElem_mem _)
  unfold fx at *
  rw [List.findIdx_append, if_neg hl]
  simp [List.findIdx_cons]
theorem fx_lt {l : List Int} {b : Int} (h : b ∈ l) : fx l b < l.length := List.findIdx_lt_length_of_exists ⟨b, h, by simp⟩
/-- snoc by snoc -/
theorem snoc_ind {P : List Int → Prop} (h0 : P []) (hs : ∀ l x, P l → P (l ++ [x])) (l : List Int) : P l := by
  have : ∀ n, ∀ l : List Int, l.length = n → P l := fun n => by
    induction n with
    | zero => intro l h; rw [List.length_eq_zero_iff.mp h]; exact h0
    | succ n ih =>
      intro l h
      have e : l = l.dropLast ++ [l.getLast (by intro z; rw [z] at h; simp at h)] := (List.dropLast_concat_getLast _).symm
      rw [e]
      exact hs _ _ (ih _ (by rw [List.length_dropLast]; omega))
  exact this _ l rfl
theorem fx_dd (b : Int) (l : List Int) : b ∈ l → fx (dd l) b = (dd (l.take (fx l b))).length := by
  refine snoc_ind (P := fun l => b ∈ l → fx (dd l) b = (dd (l.take (fx l b))).length) (fun h => by cases h) (fun l x ih hm => ?_) l
  by_cases hb : b ∈ l
  · rw [fx_app hb, dd_snoc, List.take_append_of_le_length (Nat.le_of_lt (fx_lt hb)), ← ih hb]
    unfold dstep
    split
    · rfl
    · exact fx_app (dd_mem.mpr hb)
  · have e : b = x := by
      rcases List.mem_append.mp hm with h | h
      · exact absurd h hb
      · exact List.mem_singleton.mp h
    subst e
    rw [fx_new hb, dd_snoc, List.take_append_of_le_length (Nat.le_refl _), List.take_length]
    unfold dstep
    rw [if_neg fun z => hb (dd_mem.mp z), fx_new fun z => hb (dd_mem.mp z)]
def encF (n : Nat) (ds : List Int) : HK := (ds.zipIdx n).map fun x => (Sum.inl x.1, V.int ((x.2 : Nat) : Int))
theorem encF_val (b : Int) : ∀ (ds : List Int) (n : Nat), valV (encF n ds) (Sum.inl b) = if b ∈ ds then some (V.int ((n + fx ds b : Nat) : Int)) else none
  | [], n => rfl
  | a :: r, n => by
    show valV ((Sum.inl a, V.int ((n : Nat) : Int)) :: encF (n + 1) r) _ = _
    by_cases e : a = b
    · subst e
      rw [valV_pos rfl]
      simp [fx, List.findIdx_cons]
    · rw [valV_neg (fun z => e (Sum.inl.inj z)), encF_val b r (n + 1)]
      have ne : ¬ b = a := fun z => e z.symm
      have ef : fx (a :: r) b = fx r b + 1 := by unfold fx; rw [List.findIdx_cons]; simp [e]
      rw [ef]
      by_cases hr : b ∈ r
      · rw [if_pos hr, if_pos (List.mem_cons_of_mem _ hr)]
        congr 3
        omega
      · rw [if_neg hr, if_neg (by simp [ne, hr])]
theorem encF_put {ds : List Int} {b : Int} (h : ¬ b ∈ ds) : putK (encF 0 ds) (Sum.inl b) (V.int ((ds.length : Nat) : Int)) = encF 0 (ds ++ [b]) := by
  have a : ¬ ((encF 0 ds).any fun kv => decide (kv.1 = Sum.inl b)) = true := by rw [valV_any, encF_val, if_neg h]; simp
  unfold putK
  rw [if_neg a]
  unfold encF
  rw [List.zipIdx_append, List.map_append]
  simp
theorem encF_len (ds : List Int) : (encF 0 ds).length = ds.length := by unfold encF; simp
/-- the number of what comes at a place, in the dict of what came up to there -/
theorem num_at {hs : List Int} {i : Nat} (hi : i < hs.length) : fx (dd (hs.take (i + 1))) (hs.getD i 0) = shN hs i := by
  have hm : hs.getD i 0 ∈ hs.take (i + 1) := by
    have : hs.take (i + 1) = hs.take i ++ [hs[i]] := by rw [List.take_add_one, List.getElem?_eq_getElem hi]; rfl
    rw [getD_get hi, this]; exact List.mem_append_right _ (List.mem_singleton.mpr rfl)
  have e1 : fx (hs.take (i + 1)) (hs.getD i 0) = fx hs (hs.getD i 0) := by
    have := fx_app (r := hs.drop (i + 1)) hm
    rw [List.take_append_drop] at this
    exact this.symm
  rw [fx_dd _ _ hm, e1]
  unfold shN
  rw [List.take_take, Nat.min_eq_left (by have := fx_le hi; omega)]
end L2

set_option Elab.async false
set_option linter.all false
set_option maxRecDepth 100000
namespace L2
open PySem PySem.Spec PyProof.Rows
section
variable {X : Cx}
end
end L2

set_option Elab.async false
set_option linter.all false
set_option maxRecDepth 100000
namespace L2
open PySem PySem.Spec PyProof.Rows
/-! ### shapes: one to one, and alike at the beginning -/
def num (hs : List Int) (b : Int) : Nat := (dd (hs.take (fx hs b))).length
theorem shp_map (hs : List Int) : shp hs = hs.map (num hs) := by
  apply List.ext_getElem
  · rw [shp_len, List.length_map]
  · intro i h1 h2
    rw [shp_len] at h1
    have := shp_at h1
    rw [List.getElem?_eq_getElem (by rw [shp_len]; exact h1)] at this
    rw [Option.some.inj this, List.getElem_map]
    unfold shN num
    rw [getD_get h1]
theorem num_lt {hs : List Int} {a b : Int} (ha : a ∈ hs) (h : fx hs a < fx hs b) : num hs a < num hs b := by
  have na : a ∉ hs.take (fx hs a) := fun m => by
    obtain ⟨i, hi, e⟩ := List.mem_iff_getElem.mp m
    rw [List.length_take] at hi
    rw [List.getElem_take] at e
    exact fx_no (show i < fx hs a by omega) (by rw [List.getElem?_eq_getElem (by omega), e])
  have ma : a ∈ hs.take (fx hs b) := by
    have hl := fx_lt ha
    have e := fx_at ha
    rw [List.getElem?_eq_getElem hl] at e
    rw [List.mem_iff_getElem]
    exact ⟨fx hs a, by rw [List.length_take]; omega, by rw [List.getElem_take]; exact Option.some.inj e⟩
  have nd : (dd (hs.take (fx hs a)) ++ [a]).Nodup := nd_snoc (dd_nd _) fun z => na (dd_mem.mp z)
  have := nd.length_le_of_subset (l₂ := dd (hs.take (fx hs b))) fun x hx => by
    rcases List.mem_append.mp hx with z | z
    · refine dd_mem.mpr ?_
      have hx' := dd_mem.mp z
      have : hs.take (fx hs a) = (hs.take (fx hs b)).take (fx hs a) := by rw [List.take_take, Nat.min_eq_left (by omega)]
      rw [this] at hx'
      exact List.mem_of_mem_take hx'
    · rw [List.mem_singleton.mp z]; exact dd_mem.mpr ma
  rw [List.length_append, List.length_singleton] at this
  exact this
theorem num_inj {hs : List Int} {a b : Int} (ha : a ∈ hs) (hb : b ∈ hs) (h : num hs a = num hs b) : a = b := by
  rcases Nat.lt_trichotomy (fx hs a) (fx hs b) with z | z | z
  · have := num_lt ha z; omega
  · have e1 := fx_at ha
    have e2 := fx_at hb
    rw [z, e2] at e1
    exact (Option.some.inj e1).symm
  · have := num_lt hb z; omega
theorem dd_map_len {g : Int → Int} (l : List Int) : (∀ x ∈ l, ∀ y ∈ l, g x = g y → x = y) → (dd (l.map g)).length = (dd l).length := by
  refine snoc_ind (P := fun l => (∀ x ∈ l, ∀ y ∈ l, g x = g y → x = y) → (dd (l.map g)).length = (dd l).length) (fun _ => rfl) (fun l x ih hi => ?_) l
  have ih := ih fun a ha b hb => hi a (List.mem_append_left _ ha) b (List.mem_append_left _ hb)
  rw [List.map_append, List.map_cons, List.map_nil, dd_snoc, dd_snoc]
  unfold dstep
  by_cases hx : x ∈ l
  · rw [if_pos (dd_mem.mpr (List.mem_map.mpr ⟨x, hx, rfl⟩)), if_pos (dd_mem.mpr hx), ih]
  · have hg : g x ∉ l.map g := fun m => by
      obtain ⟨y, hy, e⟩ := List.mem_map.mp m
      have := hi y (List.mem_append_left _ hy) x (by simp) e
      exact hx (by rw [← this]; exact hy)
    rw [if_neg fun z => hg (dd_mem.mp z), if_neg fun z => hx (dd_mem.mp z), List.length_append, List.length_append, ih]
    rfl
/-- as wide as there are unlike badges -/
theorem shp_wide (hs : List Int) : (dd ((shp hs).map fun (i : Nat) => (i : Int))).length = (dd hs).length := by
  have e : (shp hs).map (fun (i : Nat) => (i : Int)) = hs.map fun b => ((num hs b : Nat) : Int) := by rw [shp_map, List.map_map]; rfl
  rw [e]
  exact dd_map_len hs fun x hx y hy h => num_inj hx hy (by omega)
theorem shp_take {hs : List Int} {k : Nat} (h : k ≤ hs.length) : shp (hs.take k) = (shp hs).take k := by
  rw [shp_map, shp_map, ← List.map_take]
  apply List.map_congr_left
  intro b hb
  have e : fx (hs.take k) b = fx hs b := by
    have := fx_app (r := hs.drop k) hb
    rw [List.take_append_drop] at this
    exact this.symm
  unfold num
  rw [e, List.take_take, Nat.min_eq_left]
  have := fx_lt hb
  rw [List.length_take] at this
  omega
/-- the next number is at most the width so far -/
theorem shN_le {hs : List Int} {k : Nat} (h : k < hs.length) : shN hs k ≤ (dd (hs.take k)).length := by
  unfold shN
  refine (dd_nd _).length_le_of_subset fun x hx => dd_mem.mpr ?_
  have hx := dd_mem.mp hx
  have fl := fx_le h
  have : hs.take (fx hs (hs.getD k 0)) = (hs.take k).take (fx hs (hs.getD k 0)) := by rw [List.take_take, Nat.min_eq_left fl]
  rw [this] at hx
  exact List.mem_of_mem_take hx
end L2

set_option Elab.async false
set_option linter.all false
set_option maxRecDepth 100000
namespace L2
open PySem PySem.Spec PyProof.Rows
end L2

set_option Elab.async false
set_option linter.all false
set_option maxRecDepth 100000
namespace L2
open PySem PySem.Spec PyProof.Rows
/-! ### a walk over a list or a tuple, whichever it is -/
section
variable {X : Cx} {tg l : Expr} {tl : TE}
def iSeq (K : PySem.W.Frag) (tl : TE) : TI := fun σ H R => tl σ H fun x H1 => ∃ a, x = .ref a ∧ ((∃ xs, SqL K H1 a xs) ∧ R (Itl K a) H1 ∨ (∃ xs, SqT K H1 a xs) ∧ R (Itt K a) H1)
theorem piE (K : PySem.W.Frag) (hl : PE X l tl) (h : X.K = K := by rfl) : PI X tg l (iSeq K tl) := by
  subst h
  intro pins s σ H R I h
  refine thn (hl pins s σ H _ I h) fun v s1 ⟨x, H1, I1, r1, q1⟩ => ?_
  obtain ⟨a, e, q1⟩ := q1
  subst e
  cases r1
  rcases q1 with ⟨⟨xs, hq⟩, q⟩ | ⟨⟨xs, hq⟩, q⟩
  · obtain ⟨its, rv, p, hz⟩ := I1.list hq
    refine wpAny_pyIter_list p.isList ?_
    refine ⟨s1.heap.objs.size, [s1.heap.objs.size], _, _, H1, rfl, I1.kept (t' := s1.toks) fun b o e => Heap.get?_push_of_some _ e, turn_list a _, ⟨_, Heap.get?_push_size _ rfl, rfl, rfl⟩, fun b hb => ?_, q⟩
    have e : b = s1.heap.objs.size := by simpa using hb
    subst e
    exact I1.fpOk (Nat.le_refl _) (I1.hok.fresh (Nat.le_refl _))
  · obtain ⟨its, rv, p, hz⟩ := I1.tuple hq
    refine wpAny_pyIter_tuple (show s1.heap.IsTuple a its.toArray from p) ?_
    refine ⟨s1.heap.objs.size, [s1.heap.objs.size], _, _, H1, rfl, I1.kept (t' := s1.toks) fun b o e => Heap.get?_push_of_some _ e, turn_tuple a _, ⟨_, Heap.get?_push_size _ rfl, rfl, rfl⟩, fun b hb => ?_, q⟩
    have e : b = s1.heap.objs.size := by simpa using hb
    subst e
    exact I1.fpOk (Nat.le_refl _) (I1.hok.fresh (Nat.le_refl _))
end
theorem at_nat {st : List Nat} {j : Nat} {x : V} (hx : (st.map fun (i : Nat) => V.int (i : Int))[j]? = some x) : ∃ d : Nat, st[j]? = some d ∧ x = V.int (d : Int) ∧ st.getD j 0 = d := by
  rw [List.getElem?_map] at hx
  obtain ⟨b, h1, h2⟩ := Option.map_eq_some_iff.mp hx
  exact ⟨b, h1, h2.symm, by rw [List.getD_eq_getElem?_getD, h1]; rfl⟩
theorem dec_lt {d n : Nat} : decide (d < n) = decide ((d : Int) < (n : Int)) := by
  by_cases z : d < n
  · rw [decide_eq_true z, decide_eq_true (by omega)]
  · rw [decide_eq_false z, decide_eq_false (by omega)]
theorem all_at {hs : List Int} {st : List Nat} : ((List.range (st.map fun (i : Nat) => V.int (i : Int)).length).filter fun _ => true).map (fun j => V.int (hs.getD (st.getD j 0) 0)) = (st.map fun i => hs.getD i 0).map V.int := by
  rw [List.filter_eq_self.mpr (fun _ _ => rfl), List.length_map]
  apply List.ext_getElem
  · simp
  · intro j h1 h2
    simp only [List.length_map, List.length_range] at h1
    have : st.getD j 0 = st[j] := by simp only [List.getD_eq_getElem?_getD, List.getElem?_eq_getElem h1, Option.getD_some]
    simp only [List.getElem_map, List.getElem_range, this]
section
variable {X : Cx}
theorem op_isB : OpR X (compareOp .Is) (fun x y H Q => ∃ c d, x = .bl c ∧ y = .bl d ∧ Q (.bl (c == d)) H) := by
  intro pins s σ H x y v u Q I rx ry h
  obtain ⟨c, d, rfl, rfl, q⟩ := h
  cases rx
  cases ry
  exact is_bool (fin_bl I q rfl)
end
end L2

set_option Elab.async false
set_option linter.all false
set_option maxRecDepth 100000
namespace L2
open PySem PySem.Spec PyProof.Rows
theorem atI_int {ns : List Int} {j : Nat} (h : j < ns.length) : atI (ns.map V.int) (j : Int) = some (.int (ns.getD j 0)) := atI_nat (by simp [h])
/-! ### rows: lists of whole numbers, each at its own address -/
def RowsL (H : Hp) (rs : List Addr) (ps : List (List Int)) : Prop := Paired (fun r p => H r = some (.lst (p.map V.int))) rs ps
theorem RowsL.len {H : Hp} {rs : List Addr} {ps : List (List Int)} (h : RowsL H rs ps) : rs.length = ps.length := Paired.length h
theorem RowsL.same {H H' : Hp} {rs : List Addr} {ps : List (List Int)} (h : RowsL H rs ps) (s : Same H H') : RowsL H' rs ps := Paired.mapP h fun _ _ q => s _ _ q
theorem RowsL.at {H : Hp} {rs : List Addr} {ps : List (List Int)} (h : RowsL H rs ps) {i : Nat} {p : List Int} (e : ps[i]? = some p) : ∃ r, rs[i]? = some r ∧ H r = some (.lst (p.map V.int)) := pair_get (F := fun (r : Addr) (p : List Int) => H r = some (.lst (p.map V.int))) h e
theorem RowsL.of {H : Hp} {rs : List Addr} {ps : List (List Int)} (hl : rs.length = ps.length) (h : ∀ (i : Nat) r p, rs[i]? = some r → ps[i]? = some p → H r = some (.lst (p.map V.int))) : RowsL H rs ps := paired_of hl h
/-- one tie as it lies there -/
structure TieT (H : Hp) (x : Addr × Addr × Str × Int × List Nat) : Prop where
  tp : H x.1 = some (.tup [.str x.2.2.1, .int x.2.2.2.1, .ref x.2.1])
  ts : H x.2.1 = some (.tup (x.2.2.2.2.map fun (i : Nat) => V.int (i : Int)))
  wd : x.2.2.1 = "most" ∨ x.2.2.1 = "least"
  sl : x.2.2.2.2.length ≤ 6
theorem TieT.same {H H' : Hp} {x : Addr × Addr × Str × Int × List Nat} (h : TieT H x) (s : Same H H') : TieT H' x := ⟨s _ _ h.tp, s _ _ h.ts, h.wd, h.sl⟩
/-- what is asked of a tie of so many steps -/
structure TieG (n : Nat) (x : Addr × Addr × Str × Int × List Nat) : Prop where
  k1 : 1 ≤ x.2.2.2.1
  k6 : x.2.2.2.1 ≤ 6
  ne : x.2.2.2.2 ≠ []
  lt : ∀ i ∈ x.2.2.2.2, i < n
  up : x.2.2.2.2.Pairwise (· < ·)
/-- a menu, lists of it, ties -/
structure Drawn (H : Hp) (l m L T : Addr) (ms : List Int) (rs : List Addr) (ps : List (List Int)) (ts : List (Addr × Addr × Str × Int × List Nat)) (top : Nat) : Prop where
  hl : H l = some (.lst [.ref m, .ref L, .ref T])
  hm : H m = some (.lst (ms.map V.int))
  hL : H L = some (.lst (rs.map V.ref))
  hT : H T = some (.lst (ts.map fun x => V.ref x.1))
  rows : RowsL H rs ps
  mup : ms.Pairwise (· < ·)
  mne : ms ≠ []
  m8 : ms.length ≤ 8
  mb : ∀ b ∈ ms, 1 ≤ b ∧ b ≤ 10 ^ 18
  pup : ∀ p ∈ ps, p.Pairwise (· < ·)
  psub : ∀ p ∈ ps, ∀ b ∈ p, b ∈ ms
  p1 : 1 ≤ ps.length
  ptop : ps.length ≤ top
  p6 : ps.length ≤ 6
  tea : ∀ x ∈ ts, TieT H x
  tg : ∀ x ∈ ts, TieG ps.length x
  t12 : ts.length ≤ 12
theorem Drawn.same {H H' : Hp} {l m L T : Addr} {ms : List Int} {rs : List Addr} {ps : List (List Int)} {ts : List (Addr × Addr × Str × Int × List Nat)} {top : Nat} (d : Drawn H l m L T ms rs ps ts top) (s : Same H H') : Drawn H' l m L T ms rs ps ts top :=
  ⟨s _ _ d.hl, s _ _ d.hm, s _ _ d.hL, s _ _ d.hT, d.rows.same s, d.mup, d.mne, d.m8, d.mb, d.pup, d.psub, d.p1, d.ptop, d.p6, fun x hx => (d.tea x hx).same s, d.tg, d.t12⟩
end L2

set_option Elab.async false
set_option linter.all false
set_option maxRecDepth 100000
namespace L2
open PySem PySem.Spec PyProof.Rows
theorem dd_le {l r : List Int} (h : ∀ x ∈ l, x ∈ r) : (dd l).length ≤ (dd r).length := (dd_nd l).length_le_of_subset fun x hx => dd_mem.mpr (h x (dd_mem.mp hx))
theorem unl_sub {f : Nat → Int} {A st : List Nat} (h : ∀ i ∈ A, i ∈ st) : unl f A ≤ unl f st := dd_le fun x hx => by
  obtain ⟨i, hi, e⟩ := List.mem_map.mp hx
  exact List.mem_map.mpr ⟨i, h i hi, e⟩
theorem unl_congr {f g : Nat → Int} {A : List Nat} (h : ∀ i ∈ A, f i = g i) : unl f A = unl g A := by
  unfold unl
  rw [List.map_congr_left h]
theorem snoc_indN {P : List Nat → Prop} (h0 : P []) (hs : ∀ l x, P l → P (l ++ [x])) (l : List Nat) : P l := by
  have : ∀ n (l : List Nat), l.length = n → P l := by
    intro n
    induction n with
    | zero => intro l e; rw [List.length_eq_zero_iff.mp e]; exact h0
    | succ n ih =>
      intro l e
      have hne : l ≠ [] := fun z => by rw [z] at e; simp at e
      rw [← List.dropLast_concat_getLast hne]
      exact hs _ _ (ih _ (by rw [List.length_dropLast, e]; rfl))
  exact this _ l rfl
/-- as many unlike ones where the same ones are alike -/
theorem unl_iff {f g : Nat → Int} (A : List Nat) : (∀ i ∈ A, ∀ j ∈ A, f i = f j ↔ g i = g j) → unl f A = unl g A := by
  refine snoc_indN (P := fun A => (∀ i ∈ A, ∀ j ∈ A, f i = f j ↔ g i = g j) → unl f A = unl g A) (fun _ => rfl) (fun l x ih h => ?_) A
  have ih' := ih fun i hi j hj => h i (List.mem_append_left _ hi) j (List.mem_append_left _ hj)
  rw [unl_snoc, unl_snoc, ih']
  have e : f x ∈ l.map f ↔ g x ∈ l.map g := by
    constructor
    · intro m
      obtain ⟨i, hi, e⟩ := List.mem_map.mp m
      exact List.mem_map.mpr ⟨i, hi, (h i (List.mem_append_left _ hi) x (by simp)).mp e⟩
    · intro m
      obtain ⟨i, hi, e⟩ := List.mem_map.mp m
      exact List.mem_map.mpr ⟨i, hi, (h i (List.mem_append_left _ hi) x (by simp)).mpr e⟩
  by_cases z : f x ∈ l.map f
  · rw [if_pos z, if_pos (e.mp z)]
  · rw [if_neg z, if_neg fun y => z (e.mpr y)]
theorem filt_len {st : List Nat} {p : Nat → Bool} : (st.filter p).length + (st.filter fun i => !p i).length = st.length := by
  induction st with
  | nil => rfl
  | cons x r ih =>
    by_cases h : p x = true
    · simp [h]; omega
    · have h' : p x = false := by simpa using h
      simp [h']; omega
theorem unl_add {f : Nat → Int} {st : List Nat} {p : Nat → Bool} : unl f st + (st.filter p).length ≤ unl f (st.filter p) + st.length := by
  have := (dd_nd (st.map f)).length_le_of_subset (l₂ := dd ((st.filter p).map f) ++ (st.filter fun i => !p i).map f) fun x hx => by
    obtain ⟨i, hi, e⟩ := List.mem_map.mp (dd_mem.mp hx)
    by_cases h : p i = true
    · exact List.mem_append_left _ (dd_mem.mpr (List.mem_map.mpr ⟨i, List.mem_filter.mpr ⟨hi, h⟩, e⟩))
    · exact List.mem_append_right _ (List.mem_map.mpr ⟨i, List.mem_filter.mpr ⟨hi, by simpa using h⟩, e⟩)
  rw [List.length_append, List.length_map] at this
  have := filt_len (st := st) (p := p)
  unfold unl
  omega
theorem unl_fresh {f : Nat → Int} {st : List Nat} {p : Nat → Bool} (nd : st.Nodup) (inj : ∀ i ∈ st, ∀ j ∈ st, p i = false → f i = f j → i = j) : unl f (st.filter p) + st.length ≤ unl f st + (st.filter p).length := by
  have n2 : ((st.filter fun i => !p i).map f).Nodup := by
    rw [List.nodup_iff_pairwise_ne, List.pairwise_map]
    refine List.Pairwise.imp_of_mem ?_ (List.nodup_iff_pairwise_ne.mp (nd.filter _))
    intro i j hi hj hne e
    have h1 := List.mem_filter.mp hi
    exact hne (inj i h1.1 j (List.mem_filter.mp hj).1 (by simpa using h1.2) e)
  have nn : (dd ((st.filter p).map f) ++ (st.filter fun i => !p i).map f).Nodup := by
    refine List.nodup_append.mpr ⟨dd_nd _, n2, fun x hx y hy e => ?_⟩
    subst e
    obtain ⟨i, hi, e1⟩ := List.mem_map.mp (dd_mem.mp hx)
    obtain ⟨j, hj, e2⟩ := List.mem_map.mp hy
    have h1 := List.mem_filter.mp hi
    have h2 := List.mem_filter.mp hj
    have z := inj j h2.1 i h1.1 (by simpa using h2.2) (e2.trans e1.symm)
    subst z
    have := h1.2
    have := h2.2
    simp_all
  have := nn.length_le_of_subset (l₂ := dd (st.map f)) fun x hx => by
    refine dd_mem.mpr ?_
    rcases List.mem_append.mp hx with h | h
    · obtain ⟨i, hi, e1⟩ := List.mem_map.mp (dd_mem.mp h)
      exact List.mem_map.mpr ⟨i, (List.mem_filter.mp hi).1, e1⟩
    · obtain ⟨i, hi, e1⟩ := List.mem_map.mp h
      exact List.mem_map.mpr ⟨i, (List.mem_filter.mp hi).1, e1⟩
  rw [List.length_append, List.length_map] at this
  have := filt_len (st := st) (p := p)
  unfold unl
  omega
/-- do hands keep a tie -/
def kp (f : Nat → Int) (wd : Str) (k : Int) (st : List Nat) : Bool := if wd = "most" then decide (((unl f st : Nat) : Int) ≤ k) else decide (k ≤ ((unl f st : Nat) : Int))
theorem brk_iff {f g : Nat → Int} {n : Nat} {wd : Str} {k : Int} {st : List Nat} (h : ∀ i, i < n → ∀ j, j < n → (f i = f j ↔ g i = g j)) : brk f n wd k st = brk g n wd k st := by
  unfold brk
  have e : unl f (st.filter fun i => decide (i < n)) = unl g (st.filter fun i => decide (i < n)) := unl_iff _ fun i hi j hj => h i (of_decide_eq_true (List.mem_filter.mp hi).2) j (of_decide_eq_true (List.mem_filter.mp hj).2)
  rw [e]
theorem shpI_at {hs : List Int} {i : Nat} (h : i < hs.length) : ((shp hs).map fun (i : Nat) => (i : Int)).getD i 0 = (num hs (hs.getD i 0) : Int) := by
  rw [shp_map, List.map_map]
  simp [h, List.getD_eq_getElem?_getD]
theorem shp_same {hs : List Int} {i j : Nat} (hi : i < hs.length) (hj : j < hs.length) : ((shp hs).map fun (i : Nat) => (i : Int)).getD i 0 = ((shp hs).map fun (i : Nat) => (i : Int)).getD j 0 ↔ hs.getD i 0 = hs.getD j 0 := by
  rw [shpI_at hi, shpI_at hj]
  constructor
  · intro h
    exact num_inj (by rw [getD_get hi]; exact List.getElem_mem hi) (by rw [getD_get hj]; exact List.getElem_mem hj) (by omega)
  · intro h; rw [h]
/-- what is broken is kept by no hands that go on -/
theorem brk_no {f : Nat → Int} {n : Nat} {wd : Str} {k : Int} {st : List Nat} (h : brk f n wd k st = true) : kp f wd k st = false := by
  unfold brk at h
  unfold kp
  by_cases z : wd = "most"
  · rw [if_pos z] at h ⊢
    have h := of_decide_eq_true h
    have := unl_sub (f := f) (A := st.filter fun i => decide (i < n)) (st := st) fun i hi => (List.mem_filter.mp hi).1
    exact decide_eq_false (by omega)
  · rw [if_neg z] at h ⊢
    have h := of_decide_eq_true h
    have := unl_add (f := f) (st := st) (p := fun i => decide (i < n))
    exact decide_eq_false (by omega)
/-- a whole pattern breaks just what is not kept -/
theorem brk_whole {f : Nat → Int} {n : Nat} {wd : Str} {k : Int} {st : List Nat} (h : ∀ i ∈ st, i < n) : brk f n wd k st = !kp f wd k st := by
  have e : st.filter (fun i => decide (i < n)) = st := List.filter_eq_self.mpr fun i hi => decide_eq_true (h i hi)
  unfold brk kp
  rw [e]
  by_cases z : wd = "most"
  · rw [if_pos z, if_pos z]
    by_cases y : k < (unl f st : Int)
    · rw [decide_eq_true y, decide_eq_false (by omega)]; rfl
    · rw [decide_eq_false y, decide_eq_true (by omega)]; rfl
  · rw [if_neg z, if_neg z]
    by_cases y : k ≤ (unl f st : Int)
    · rw [decide_eq_false (by omega), decide_eq_true y]; rfl
    · rw [decide_eq_true (by omega), decide_eq_false y]; rfl
theorem kp_iff {f g : Nat → Int} {n : Nat} {wd : Str} {k : Int} {st : List Nat} (hl : ∀ i ∈ st, i < n) (h : ∀ i, i < n → ∀ j, j < n → (f i = f j ↔ g i = g j)) : kp f wd k st = kp g wd k st := by
  unfold kp
  rw [unl_iff st fun i hi j hj => h i (hl i hi) j (hl j hj)]
/-! ### shapes that are equal -/
theorem shN_iff {hs os : List Int} (hl : hs.length = os.length) (h : ∀ i, i < hs.length → ∀ j, j < hs.length → (hs.getD i 0 = hs.getD j 0 ↔ os.getD i 0 = os.getD j 0)) {k : Nat} (hk : k < hs.length) : shN hs k = shN os k := by
  have hk' : k < os.length := by omega
  have mh : hs.getD k 0 ∈ hs := by rw [getD_get hk]; exact List.getElem_mem hk
  have mo : os.getD k 0 ∈ os := by rw [getD_get hk']; exact List.getElem_mem hk'
  have ef : fx hs (hs.getD k 0) = fx os (os.getD k 0) := by
    have a1 := fx_lt mh
    have a2 := fx_lt mo
    have b1 := fx_at mh
    have b2 := fx_at mo
    have c1 : hs.getD (fx hs (hs.getD k 0)) 0 = hs.getD k 0 := by rw [List.getD_eq_getElem?_getD, b1]; rfl
    have c2 : os.getD (fx os (os.getD k 0)) 0 = os.getD k 0 := by rw [List.getD_eq_getElem?_getD, b2]; rfl
    have d1 := (h _ a1 _ hk).mp c1
    have d2 := (h _ (by omega) _ hk).mpr c2
    have g1 : ∀ m, m < fx os (os.getD k 0) → os.getD m 0 ≠ os.getD k 0 := fun m hm e => by
      have := List.not_of_lt_findIdx hm
      rw [getD_get (by omega : m < os.length)] at e
      simp at this
      exact this (by rw [e, List.getD_eq_getElem?_getD])
    have g2 : ∀ m, m < fx hs (hs.getD k 0) → hs.getD m 0 ≠ hs.getD k 0 := fun m hm e => by
      have := List.not_of_lt_findIdx hm
      rw [getD_get (by omega : m < hs.length)] at e
      simp at this
      exact this (by rw [e, List.getD_eq_getElem?_getD])
    rcases Nat.lt_trichotomy (fx hs (hs.getD k 0)) (fx os (os.getD k 0)) with y | y | y
    · exact absurd d1 (g1 _ y)
    · exact y
    · exact absurd d2 (g2 _ y)
  have el : ∀ n, n ≤ hs.length → (dd (hs.take n)).length = (dd (os.take n)).length := fun n hn => by
    have e1 : ∀ (l : List Int), n ≤ l.length → l.take n = (List.range n).map fun i => l.getD i 0 := fun l hl' => by
      apply List.ext_getElem
      · simp; omega
      · intro i h1 h2
        simp only [List.length_take] at h1
        have : i < l.length := by omega
        simp [this]
    have u := unl_iff (f := fun i => hs.getD i 0) (g := fun i => os.getD i 0) (List.range n) fun i hi j hj => h i (by have := List.mem_range.mp hi; omega) j (by have := List.mem_range.mp hj; omega)
    unfold unl at u
    rw [← e1 hs hn, ← e1 os (by omega)] at u
    exact u
  unfold shN
  rw [← ef]
  exact el _ (Nat.le_of_lt (fx_lt mh))
theorem shp_eq_iff {hs os : List Int} (hl : hs.length = os.length) : shp hs = shp os ↔ ∀ i, i < hs.length → ∀ j, j < i → (hs.getD i 0 = hs.getD j 0 ↔ os.getD i 0 = os.getD j 0) := by
  constructor
  · intro e i hi j hj
    rw [← shp_same hi (by omega), ← shp_same (hs := os) (by omega) (by omega), e]
  · intro h
    have h' : ∀ i, i < hs.length → ∀ j, j < hs.length → (hs.getD i 0 = hs.getD j 0 ↔ os.getD i 0 = os.getD j 0) := fun i hi j hj => by
      rcases Nat.lt_trichotomy i j with y | y | y
      · have := h j hj i y
        exact ⟨fun e => (this.mp e.symm).symm, fun e => (this.mpr e.symm).symm⟩
      · subst y; simp
      · exact h i hi j y
    unfold shp
    rw [← hl]
    exact List.map_congr_left fun k hk => shN_iff hl h' (List.mem_range.mp hk)
/-! ### patterns, one step more -/
theorem dd_snoc_len (l : List Int) (x : Int) : (dd (l ++ [x])).length = if x ∈ l then (dd l).length else (dd l).length + 1 := by
  rw [dd_snoc]
  unfold dstep
  by_cases h : x ∈ l
  · rw [if_pos h, if_pos (dd_mem.mpr h)]
  · rw [if_neg h, if_neg fun z => h (dd_mem.mp z), List.length_append, List.length_singleton]
/-- a list that is its own shape -/
def Canon (p : List Int) : Prop := p = (shp p).map fun (i : Nat) => (i : Int)
/-- the numbers of a pattern are just those below its width -/
theorem shp_lt {hs : List Int} {k : Nat} (h : k < hs.length) : shN hs k < (dd hs).length := by
  unfold shN
  have m : hs.getD k 0 ∈ hs := by rw [getD_get h]; exact List.getElem_mem h
  have a := fx_lt m
  have nm : hs.getD k 0 ∉ hs.take (fx hs (hs.getD k 0)) := fun z => by
    obtain ⟨i, hi, e⟩ := List.mem_iff_getElem.mp z
    rw [List.length_take] at hi
    have := List.not_of_lt_findIdx (show i < fx hs (hs.getD k 0) by omega)
    rw [List.getElem_take] at e
    simp at this
    exact this (by rw [e, List.getD_eq_getElem?_getD])
  have e := dd_snoc_len (hs.take (fx hs (hs.getD k 0))) (hs.getD k 0)
  rw [if_neg nm] at e
  have := dd_le (l := hs.take (fx hs (hs.getD k 0)) ++ [hs.getD k 0]) (r := hs) fun x hx => by
    rcases List.mem_append.mp hx with z | z
    · exact List.mem_of_mem_take z
    · rw [List.mem_singleton.mp z]; exact m
  omega
theorem shp_snoc (p : List Int) (x : Int) : shp (p ++ [x]) = shp p ++ [if x ∈ p then num p x else (dd p).length] := by
  have h1 : (shp (p ++ [x])).take p.length = shp p := by
    rw [← shp_take (by simp), List.take_left']; rfl
  have h2 : (shp (p ++ [x]))[p.length]? = some (shN (p ++ [x]) p.length) := shp_at (by simp)
  have e : shp (p ++ [x]) = (shp (p ++ [x])).take p.length ++ [shN (p ++ [x]) p.length] := by
    have hlen : (shp (p ++ [x])).length = p.length + 1 := by rw [shp_len]; simp
    conv => lhs; rw [← List.take_append_drop p.length (shp (p ++ [x]))]
    congr 1
    apply List.ext_getElem?
    intro i
    rw [List.getElem?_drop]
    cases i with
    | zero => rw [Nat.add_zero, h2]; rfl
    | succ i =>
      rw [List.getElem?_eq_none (by omega)]
      simp
  rw [e, h1]
  congr 2
  have eg : (p ++ [x]).getD p.length 0 = x := by simp [List.getD_eq_getElem?_getD]
  unfold shN
  rw [eg]
  by_cases z : x ∈ p
  · rw [if_pos z, fx_app z]
    unfold num
    rw [List.take_append_of_le_length (Nat.le_of_lt (fx_lt z))]
  · rw [if_neg z, fx_new z, List.take_left']; rfl
theorem num_canon {p : List Int} (c : Canon p) {j : Nat} (h : (j : Int) ∈ p) : num p (j : Int) = j := by
  obtain ⟨i, hi, e⟩ := List.mem_iff_getElem.mp h
  have g := shpI_at hi
  rw [← c, getD_get hi, e] at g
  omega
theorem canon_mem {p : List Int} (c : Canon p) {x : Int} (h : x ∈ p) : ∃ j : Nat, x = (j : Int) ∧ j < (dd p).length := by
  rw [c] at h
  obtain ⟨j, hj, e⟩ := List.mem_map.mp h
  obtain ⟨i, hi, e2⟩ := List.mem_iff_getElem.mp hj
  rw [shp_len] at hi
  have g := shp_at hi
  rw [List.getElem?_eq_getElem (by rw [shp_len]; exact hi), e2] at g
  have := shp_lt hi
  refine ⟨j, e.symm, ?_⟩
  have : j = shN p i := Option.some.inj g
  omega
theorem canon_has {p : List Int} (c : Canon p) {j : Nat} (h : j < (dd p).length) : (j : Int) ∈ p := by
  -- the members of dd p are unlike naturals below the width: all of them
  refine Decidable.byContradiction fun n => ?_
  have := (dd_nd p).length_le_of_subset (l₂ := ((List.range (dd p).length).filter fun i => decide (i ≠ j)).map fun (i : Nat) => (i : Int)) fun x hx => by
    have hx := dd_mem.mp hx
    obtain ⟨i, e, hi⟩ := canon_mem c hx
    refine List.mem_map.mpr ⟨i, List.mem_filter.mpr ⟨List.mem_range.mpr hi, decide_eq_true fun z => n ?_⟩, e.symm⟩
    rw [← z, ← e]; exact hx
  rw [List.length_map] at this
  have lt : ((List.range (dd p).length).filter fun i => decide (i ≠ j)).length < (List.range (dd p).length).length := by
    refine Nat.lt_of_le_of_ne (List.length_filter_le _ _) fun z => ?_
    have := List.length_filter_eq_length_iff.mp z j (List.mem_range.mpr h)
    simp at this
  rw [List.length_range] at lt
  omega
theorem canon_nil : Canon [] := rfl
theorem canon_snoc {p : List Int} (c : Canon p) {j : Nat} (h : j ≤ (dd p).length) : Canon (p ++ [(j : Int)]) := by
  unfold Canon
  rw [shp_snoc, List.map_append, ← c]
  congr 1
  by_cases z : (j : Int) ∈ p
  · rw [if_pos z, num_canon c z]; rfl
  · rw [if_neg z]
    have : ¬ j < (dd p).length := fun y => z (canon_has c y)
    have : j = (dd p).length := by omega
    rw [this]; rfl
theorem shp_inj {p : List Int} {g : Int → Int} (h : ∀ x ∈ p, ∀ y ∈ p, g x = g y → x = y) : shp (p.map g) = shp p := by
  refine ((shp_eq_iff (by simp)).mpr fun i hi j hj => ?_).symm
  have hj' : j < p.length := by omega
  have e1 : (p.map g).getD i 0 = g (p.getD i 0) := by simp [List.getD_eq_getElem?_getD, hi]
  have e2 : (p.map g).getD j 0 = g (p.getD j 0) := by simp [List.getD_eq_getElem?_getD, hj']
  rw [e1, e2]
  refine ⟨fun e => by rw [e], fun e => h _ ?_ _ ?_ e⟩
  · rw [getD_get hi]; exact List.getElem_mem hi
  · rw [getD_get hj']; exact List.getElem_mem hj'
end L2

set_option Elab.async false
set_option linter.all false
set_option maxRecDepth 100000
namespace L2
open PySem PySem.Spec PyProof.Rows
theorem getD_snoc_lt {p : List Int} {x : Int} {i : Nat} (h : i < p.length) : (p ++ [x]).getD i 0 = p.getD i 0 := by
  simp [List.getD_eq_getElem?_getD, List.getElem?_append_left h]
theorem getD_snoc_at {p : List Int} {x : Int} : (p ++ [x]).getD p.length 0 = x := by simp [List.getD_eq_getElem?_getD]
theorem filt_filt {st : List Nat} {n m : Nat} (h : n ≤ m) : (st.filter fun i => decide (i < m)).filter (fun i => decide (i < n)) = st.filter fun i => decide (i < n) := by
  rw [List.filter_filter]
  apply List.filter_congr
  intro i _
  by_cases z : i < n
  · rw [decide_eq_true z, decide_eq_true (by omega)]; rfl
  · rw [decide_eq_false z]; rfl
theorem unl_snocD {p : List Int} {x : Int} {st : List Nat} : unl (fun i => (p ++ [x]).getD i 0) (st.filter fun i => decide (i < p.length)) = unl (fun i => p.getD i 0) (st.filter fun i => decide (i < p.length)) :=
  unl_congr fun i hi => getD_snoc_lt (of_decide_eq_true (List.mem_filter.mp hi).2)
theorem brk_up {p : List Int} {x : Int} {wd : Str} {k : Int} {st : List Nat} (h : brk (fun i => p.getD i 0) p.length wd k st = true) : brk (fun i => (p ++ [x]).getD i 0) (p ++ [x]).length wd k st = true := by
  have el : (p ++ [x]).length = p.length + 1 := by simp
  rw [el]
  unfold brk at *
  have ff := filt_filt (st := st) (n := p.length) (m := p.length + 1) (by omega)
  have us := unl_snocD (p := p) (x := x) (st := st)
  by_cases z : wd = "most"
  · rw [if_pos z] at h ⊢
    have h := of_decide_eq_true h
    have := unl_sub (f := fun i => (p ++ [x]).getD i 0) (A := st.filter fun i => decide (i < p.length)) (st := st.filter fun i => decide (i < p.length + 1)) fun i hi => by rw [← ff] at hi; exact (List.mem_filter.mp hi).1
    exact decide_eq_true (by omega)
  · rw [if_neg z] at h ⊢
    have h := of_decide_eq_true h
    have := unl_add (f := fun i => (p ++ [x]).getD i 0) (st := st.filter fun i => decide (i < p.length + 1)) (p := fun i => decide (i < p.length))
    rw [ff] at this
    exact decide_eq_true (by omega)
theorem brk_leave {p : List Int} (c : Canon p) {wd : Str} {k : Int} {st : List Nat} (hw : wd = "most" ∨ wd = "least") (k1 : 1 ≤ k) (nd : st.Nodup) (h : brk (fun i => p.getD i 0) p.length wd k st = false) : ∃ j : Nat, j ≤ (dd p).length ∧ brk (fun i => (p ++ [(j : Int)]).getD i 0) (p ++ [(j : Int)]).length wd k st = false := by
  have ff := filt_filt (st := st) (n := p.length) (m := p.length + 1) (by omega)
  rcases hw with e | e
  · subst e
    by_cases z : ∃ i ∈ st, i < p.length
    · obtain ⟨i, hi, hl⟩ := z
      have mi : p.getD i 0 ∈ p := by rw [getD_get hl]; exact List.getElem_mem hl
      obtain ⟨j, ej, hj⟩ := canon_mem c mi
      refine ⟨j, Nat.le_of_lt hj, ?_⟩
      have us := unl_snocD (p := p) (x := (j : Int)) (st := st)
      have el : (p ++ [(j : Int)]).length = p.length + 1 := by simp
      rw [el]
      unfold brk at *
      rw [if_pos rfl] at h ⊢
      have h := of_decide_eq_false h
      have := dd_le (l := (st.filter fun i => decide (i < p.length + 1)).map fun i => (p ++ [(j : Int)]).getD i 0) (r := (st.filter fun i => decide (i < p.length)).map fun i => (p ++ [(j : Int)]).getD i 0) fun y hy => by
        obtain ⟨m, hm, e⟩ := List.mem_map.mp hy
        have hm' := List.mem_filter.mp hm
        by_cases q : m < p.length
        · exact List.mem_map.mpr ⟨m, List.mem_filter.mpr ⟨hm'.1, decide_eq_true q⟩, e⟩
        · have : m = p.length := by have := of_decide_eq_true hm'.2; omega
          subst this
          refine List.mem_map.mpr ⟨i, List.mem_filter.mpr ⟨hi, decide_eq_true hl⟩, ?_⟩
          rw [← e]
          show (p ++ [(j : Int)]).getD i 0 = (p ++ [(j : Int)]).getD p.length 0
          rw [getD_snoc_at, getD_snoc_lt hl, ej]
      unfold unl at *
      exact decide_eq_false (by omega)
    · refine ⟨0, Nat.zero_le _, ?_⟩
      have el : (p ++ [((0 : Nat) : Int)]).length = p.length + 1 := by simp
      rw [el]
      unfold brk
      rw [if_pos rfl]
      have := (dd_nd ((st.filter fun i => decide (i < p.length + 1)).map fun i => (p ++ [((0 : Nat) : Int)]).getD i 0)).length_le_of_subset (l₂ := [(p ++ [((0 : Nat) : Int)]).getD p.length 0]) fun y hy => by
        obtain ⟨m, hm, e⟩ := List.mem_map.mp (dd_mem.mp hy)
        have hm' := List.mem_filter.mp hm
        have : m = p.length := by
          have := of_decide_eq_true hm'.2
          have : ¬ m < p.length := fun q => z ⟨m, hm'.1, q⟩
          omega
        subst this
        rw [← e]; simp
      simp only [List.length_singleton] at this
      unfold unl
      exact decide_eq_false (by omega)
  · subst e
    refine ⟨(dd p).length, Nat.le_refl _, ?_⟩
    have us := unl_snocD (p := p) (x := (((dd p).length : Nat) : Int)) (st := st)
    have el : (p ++ [(((dd p).length : Nat) : Int)]).length = p.length + 1 := by simp
    rw [el]
    unfold brk at *
    rw [if_neg (by decide)] at h ⊢
    have h := of_decide_eq_false h
    have nw : (((dd p).length : Nat) : Int) ∉ p := fun m => by
      obtain ⟨j, e, hj⟩ := canon_mem c m
      omega
    have := unl_fresh (f := fun i => (p ++ [(((dd p).length : Nat) : Int)]).getD i 0) (st := st.filter fun i => decide (i < p.length + 1)) (p := fun i => decide (i < p.length)) (nd.filter _) fun i hi j hj hp e => by
      have hi' := of_decide_eq_true (List.mem_filter.mp hi).2
      have hj' := of_decide_eq_true (List.mem_filter.mp hj).2
      have hp' := of_decide_eq_false hp
      have : i = p.length := by omega
      subst this
      by_cases q : j < p.length
      · rw [getD_snoc_at, getD_snoc_lt q] at e
        exact absurd (by rw [e, getD_get q]; exact List.getElem_mem q) nw
      · omega
    rw [ff] at this
    exact decide_eq_false (by omega)
end L2

set_option Elab.async false
set_option linter.all false
set_option maxRecDepth 100000
namespace L2
open PySem PySem.Spec PyProof.Rows
/-! ### blocks and their pools -/
/-- the steps of a block -/
def blkS (p : List Int) (b : Nat) : List Nat := (List.range p.length).filter fun i => decide (p.getD i 0 = (b : Int))
theorem blkS_mem {p : List Int} {b i : Nat} : i ∈ blkS p b ↔ i < p.length ∧ p.getD i 0 = (b : Int) := by
  unfold blkS
  rw [List.mem_filter, List.mem_range, decide_eq_true_iff]
theorem blkS_ne {p : List Int} (c : Canon p) {b : Nat} (h : b < (dd p).length) : blkS p b ≠ [] := by
  obtain ⟨i, hi, e⟩ := List.mem_iff_getElem.mp (canon_has c h)
  intro z
  have : i ∈ blkS p b := blkS_mem.mpr ⟨hi, by rw [getD_get hi, e]⟩
  rw [z] at this
  cases this
def poolS (st : List Nat) (may : List (List Int)) : List Int := (may.getD (st.getD 0 0) []).filter fun x => st.all fun s => decide (x ∈ may.getD s [])
def poolN (may : List (List Int)) (p : List Int) (b : Nat) : List Int := poolS (blkS p b) may
def pools (may : List (List Int)) (p : List Int) : List (List Int) := (List.range (dd p).length).map (poolN may p)
theorem pools_len {may : List (List Int)} {p : List Int} : (pools may p).length = (dd p).length := by unfold pools; simp
theorem pools_at {may : List (List Int)} {p : List Int} {b : Nat} (h : b < (dd p).length) : (pools may p)[b]? = some (poolN may p b) := by
  unfold pools
  rw [List.getElem?_map, List.getElem?_range h]; rfl
theorem poolS_mem {st : List Nat} {may : List (List Int)} {x : Int} (h : st ≠ []) : x ∈ poolS st may ↔ ∀ s ∈ st, x ∈ may.getD s [] := by
  unfold poolS
  rw [List.mem_filter, List.all_eq_true]
  constructor
  · intro ⟨_, a⟩ s hs
    exact of_decide_eq_true (a s hs)
  · intro a
    refine ⟨a _ ?_, fun s hs => decide_eq_true (a s hs)⟩
    cases st with
    | nil => exact absurd rfl h
    | cons s r => simp
theorem poolN_mem {may : List (List Int)} {p : List Int} {b : Nat} {x : Int} (c : Canon p) (h : b < (dd p).length) : x ∈ poolN may p b ↔ ∀ i, i < p.length → p.getD i 0 = (b : Int) → x ∈ may.getD i [] := by
  unfold poolN
  rw [poolS_mem (blkS_ne c h)]
  exact ⟨fun a i h1 h2 => a i (blkS_mem.mpr ⟨h1, h2⟩), fun a s hs => a s (blkS_mem.mp hs).1 (blkS_mem.mp hs).2⟩
/-! ### plans -/
abbrev Tie := Str × Int × List Nat
structure IsPlan (may : List (List Int)) (ts : List Tie) (hs : List Int) : Prop where
  len : hs.length = may.length
  of : ∀ i, i < hs.length → hs.getD i 0 ∈ may.getD i []
  kp : ∀ t ∈ ts, kp (fun i => hs.getD i 0) t.1 t.2.1 t.2.2 = true
/-- hands whose shape begins with this pattern -/
def Beg (p hs : List Int) : Prop := p.length ≤ hs.length ∧ ((shp hs).map fun (i : Nat) => (i : Int)).take p.length = p
theorem Beg.at {p hs : List Int} (b : Beg p hs) {i : Nat} (h : i < p.length) : ((shp hs).map fun (i : Nat) => (i : Int)).getD i 0 = p.getD i 0 := by
  rw [← congrArg (fun l => List.getD l i 0) b.2]
  simp [List.getD_eq_getElem?_getD, List.getElem?_take, h]
theorem Beg.same {p hs : List Int} (b : Beg p hs) {i j : Nat} (hi : i < p.length) (hj : j < p.length) : p.getD i 0 = p.getD j 0 ↔ hs.getD i 0 = hs.getD j 0 := by
  rw [← b.at hi, ← b.at hj]
  exact shp_same (Nat.lt_of_lt_of_le hi b.1) (Nat.lt_of_lt_of_le hj b.1)
theorem Beg.canon {p hs : List Int} (b : Beg p hs) : Canon p := by
  have e : shp p = (shp hs).take p.length := by
    rw [← shp_take b.1]
    refine (shp_eq_iff (by rw [List.length_take]; have := b.1; omega)).mpr fun i hi j hj => ?_
    have e1 : (hs.take p.length).getD i 0 = hs.getD i 0 := by simp [List.getD_eq_getElem?_getD, List.getElem?_take, hi]
    have e2 : (hs.take p.length).getD j 0 = hs.getD j 0 := by simp [List.getD_eq_getElem?_getD, List.getElem?_take, (by omega : j < p.length)]
    rw [e1, e2]
    exact b.same hi (by omega)
  unfold Canon
  rw [e, List.map_take]
  exact b.2.symm
/-- no hands that begin so keep what is broken -/
theorem Beg.brk {p hs : List Int} (b : Beg p hs) {wd : Str} {k : Int} {st : List Nat} (h : brk (fun i => p.getD i 0) p.length wd k st = true) : L2.kp (fun i => hs.getD i 0) wd k st = false := by
  refine brk_no (n := p.length) ?_
  rw [← h]
  exact brk_iff fun i hi j hj => (b.same hi hj).symm
theorem Beg.short {may : List (List Int)} {p hs : List Int} (b : Beg p hs) (of : ∀ i, i < hs.length → hs.getD i 0 ∈ may.getD i []) {ms : List Nat} (s : Short (pools may p) ms) : False := by
  obtain ⟨X, hX, hq⟩ := s.few
  have c := b.canon
  have nd : ms.Nodup := s.up.imp fun h => Nat.ne_of_lt h
  have lt : ∀ q ∈ ms, q < (dd p).length := fun q m => by
    obtain ⟨r, e, _⟩ := hq q m
    have := (List.getElem?_eq_some_iff.mp e).1
    rw [pools_len] at this
    exact this
  have fs : ∀ q ∈ ms, ∃ i, i < p.length ∧ p.getD i 0 = (q : Int) := fun q m => by
    obtain ⟨i, hi, e⟩ := List.mem_iff_getElem.mp (canon_has c (lt q m))
    exact ⟨i, hi, by rw [getD_get hi, e]⟩
  let f : Nat → Int := fun q => hs.getD (fx p (q : Int)) 0
  have fa : ∀ q ∈ ms, fx p (q : Int) < p.length ∧ p.getD (fx p (q : Int)) 0 = (q : Int) := fun q m => by
    have := canon_has c (lt q m)
    refine ⟨fx_lt this, ?_⟩
    rw [List.getD_eq_getElem?_getD, fx_at this]; rfl
  have nd2 : (ms.map f).Nodup := by
    rw [List.nodup_iff_pairwise_ne, List.pairwise_map]
    refine List.Pairwise.imp_of_mem ?_ (List.nodup_iff_pairwise_ne.mp nd)
    intro q r hq hr hne e
    obtain ⟨a1, a2⟩ := fa q hq
    obtain ⟨b1, b2⟩ := fa r hr
    have := (b.same a1 b1).mpr e
    rw [a2, b2] at this
    omega
  have := nd2.length_le_of_subset (l₂ := X) fun x hx => by
    obtain ⟨q, m, e⟩ := List.mem_map.mp hx
    obtain ⟨r, er, hr⟩ := hq q m
    rw [pools_at (lt q m)] at er
    cases er
    refine hr x ((poolN_mem c (lt q m)).mpr fun i hi ei => ?_)
    obtain ⟨a1, a2⟩ := fa q m
    have : p.getD (fx p (q : Int)) 0 = p.getD i 0 := by rw [a2, ei]
    have := (b.same a1 hi).mp this
    have h2 := of i (Nat.lt_of_lt_of_le hi b.1)
    rw [← this] at h2
    rw [← e]
    exact h2
  rw [List.length_map] at this
  omega
theorem Beg.next {p hs : List Int} (b : Beg p hs) (h : p.length < hs.length) : ∃ j : Nat, j ≤ (dd p).length ∧ Beg (p ++ [(j : Int)]) hs := by
  have c := b.canon
  have nl := shN_le (hs := hs) (k := p.length) h
  have e : (dd (hs.take p.length)).length = (dd p).length := by
    have h2 := shp_wide (hs.take p.length)
    rw [shp_take (by omega), List.map_take, b.2] at h2
    exact h2.symm
  refine ⟨shN hs p.length, by omega, by simp; omega, ?_⟩
  rw [List.length_append, List.length_singleton, List.take_add_one, b.2]
  congr 1
  rw [List.getElem?_map, shp_at h]; rfl
theorem Beg.nil (hs : List Int) : Beg [] hs := ⟨Nat.zero_le _, rfl⟩
/-! ### papers -/
inductive Pap where
  | tie (j : Nat)
  | short (bs : List Nat)
  | split (ps : List Pap)
/-- a paper shows for a pattern -/
inductive Shows (may : List (List Int)) (ts : List Tie) : List Int → Pap → Prop where
  | tie {p : List Int} {j : Nat} {t : Tie} (h : ts[j]? = some t) (b : brk (fun i => p.getD i 0) p.length t.1 t.2.1 t.2.2 = true) : Shows may ts p (.tie j)
  | short {p : List Int} {bs : List Nat} (s : Short (pools may p) bs) : Shows may ts p (.short bs)
  | split {p : List Int} {ps : List Pap} (hl : p.length < may.length) (hn : ps.length = (dd p).length + 1) (h : ∀ (j : Nat) (q : Pap), ps[j]? = some q → Shows may ts (p ++ [(j : Int)]) q) : Shows may ts p (.split ps)
theorem Shows.none {may : List (List Int)} {ts : List Tie} {p : List Int} {q : Pap} (s : Shows may ts p q) : ∀ hs, Beg p hs → ¬ IsPlan may ts hs := by
  induction s with
  | tie h b =>
    intro hs g pl
    have := pl.kp _ (List.mem_of_getElem? h)
    rw [g.brk b] at this
    cases this
  | short s =>
    intro hs g pl
    exact g.short pl.of s
  | @split p ps hl hn h ih =>
    intro hs g pl
    obtain ⟨j, hj, g2⟩ := g.next (by rw [pl.len]; exact hl)
    have hj' : j < ps.length := by omega
    exact ih j ps[j] (List.getElem?_eq_getElem hj') hs g2 pl
end L2

set_option Elab.async false
set_option linter.all false
set_option maxRecDepth 100000
namespace L2
open PySem PySem.Spec PyProof.Rows
/-- who may do what, as it lies there -/
structure May (K : PySem.W.Frag) (H : Hp) (a : Addr) (rs : List Addr) (may : List (List Int)) (U : List Int) : Prop where
  ls : SqL K H a (rs.map V.ref)
  po : PoolsL K H rs may
  up : ∀ p ∈ may, p.Pairwise (· < ·)
  sub : ∀ p ∈ may, ∀ b ∈ p, b ∈ U
  m6 : may.length ≤ 6
  u20 : U.length ≤ 26
theorem May.same {K : PySem.W.Frag} {H H' : Hp} {a : Addr} {rs : List Addr} {may : List (List Int)} {U : List Int} (m : May K H a rs may U) (s : Same H H') : May K H' a rs may U := ⟨s.seq m.ls, m.po.same s, m.up, m.sub, m.m6, m.u20⟩
theorem May.rows {K : PySem.W.Frag} {H : Hp} {a : Addr} {rs : List Addr} {may : List (List Int)} {U : List Int} (m : May K H a rs may U) {i : Nat} (h : i < may.length) : ∃ r, rs[i]? = some r ∧ SqL K H r ((may.getD i []).map V.int) ∧ (may.getD i []).Pairwise (· < ·) ∧ ∀ b ∈ may.getD i [], b ∈ U := by
  have e : may.getD i [] = may[i] := getD_getL h
  obtain ⟨r, e1, e2⟩ := m.po.at (List.getElem?_eq_getElem h)
  rw [e]
  exact ⟨r, e1, e2, m.up _ (List.getElem_mem h), m.sub _ (List.getElem_mem h)⟩
theorem at_int {st : List Int} {j : Nat} {x : V} (hx : (st.map V.int)[j]? = some x) : ∃ d : Int, st[j]? = some d ∧ x = V.int d ∧ st.getD j 0 = d := by
  rw [List.getElem?_map] at hx
  obtain ⟨b, h1, h2⟩ := Option.map_eq_some_iff.mp hx
  exact ⟨b, h1, h2.symm, by rw [List.getD_eq_getElem?_getD, h1]; rfl⟩
end L2

set_option Elab.async false
set_option linter.all false
set_option maxRecDepth 100000
namespace L2
open PySem PySem.Spec PyProof.Rows
end L2

set_option Elab.async false
set_option linter.all false
set_option maxRecDepth 100000
namespace L2
open PySem PySem.Spec PyProof.Rows
end L2

set_option Elab.async false
set_option linter.all false
set_option maxRecDepth 100000
namespace L2
open PySem PySem.Spec PyProof.Rows
theorem DEq.up {K : PySem.W.Frag} {H : Hp} {d : Nat} {x y : V} {b : Bool} (h : DEq K H d x y b) : DEq K H (d + 1) x y b := by
  induction h with
  | flat fx fy => exact .flat fx fy
  | lst h1 h2 hl he ih => exact .lst h1 h2 hl ih
  | len h1 h2 hl => exact .len h1 h2 hl
  | tup h1 h2 he ih => exact .tup h1 h2 ih
theorem map_at {α β : Type} {ts : List α} {f : α → β} {g : Nat → β} (h : ∀ (i : Nat) x, ts[i]? = some x → g i = f x) : (List.range ts.length).map g = ts.map f := by
  apply List.ext_getElem?
  intro i
  rw [List.getElem?_map, List.getElem?_map]
  by_cases l : i < ts.length
  · rw [List.getElem?_range l, List.getElem?_eq_getElem l]
    show some (g i) = some (f ts[i])
    rw [h i _ (List.getElem?_eq_getElem l)]
  · rw [List.getElem?_eq_none (by simp; omega), List.getElem?_eq_none (by omega)]; rfl
end L2

set_option Elab.async false
set_option linter.all false
set_option maxRecDepth 100000
namespace L2
open PySem PySem.Spec PyProof.Rows
theorem neB_true {b c : Bool} (h : b ≠ c) : (!decide (V.bl b = V.bl c)) = true := by
  rw [decide_eq_false fun y => h (V.bl.inj y)]; rfl
theorem beqT (b : Bool) : (b == true) = b := by cases b <;> rfl
end L2

set_option Elab.async false
set_option linter.all false
set_option maxRecDepth 100000
namespace L2
open PySem PySem.Spec PyProof.Rows
theorem RowsL.append {H : Hp} : ∀ {rs rs' : List Addr} {ps ps' : List (List Int)}, RowsL H rs ps → RowsL H rs' ps' → RowsL H (rs ++ rs') (ps ++ ps')
  | _, _, _, _, .nil, h => h
  | _, _, _, _, .cons a t, h => .cons a (RowsL.append t h)
end L2

set_option Elab.async false
set_option linter.all false
set_option maxRecDepth 100000
namespace L2
open PySem PySem.Spec PyProof.Rows
/-! ### papers as they lie there -/
inductive PapAt (H : Hp) : V → Pap → Prop where
  | tie {t : Addr} {j : Nat} (ht : H t = some (.tup [.str "tie", .int ((j : Nat) : Int)])) : PapAt H (.ref t) (.tie j)
  | short {t l : Addr} {bs : List Nat} (ht : H t = some (.tup [.str "short", .ref l])) (hl : H l = some (.lst (bs.map fun (i : Nat) => V.int (i : Int)))) : PapAt H (.ref t) (.short bs)
  | split {t l : Addr} {vs : List V} {ps : List Pap} (ht : H t = some (.tup [.str "split", .ref l])) (hl : H l = some (.lst vs)) (hn : vs.length = ps.length) (h : ∀ (i : Nat) v q, vs[i]? = some v → ps[i]? = some q → PapAt H v q) : PapAt H (.ref t) (.split ps)
theorem PapAt.same {H H' : Hp} {v : V} {q : Pap} (p : PapAt H v q) (s : Same H H') : PapAt H' v q := by
  induction p with
  | tie ht => exact .tie (s _ _ ht)
  | short ht hl => exact .short (s _ _ ht) (s _ _ hl)
  | split ht hl hn h ih => exact .split (s _ _ ht) (s _ _ hl) hn fun i v q e1 e2 => ih i v q e1 e2
/-- what is new there -/
def nw (H H' : Hp) : Hp := fun a => match H a with
  | none => H' a
  | some _ => none
end L2

set_option Elab.async false
set_option linter.all false
set_option maxRecDepth 100000
namespace L2
open PySem PySem.Spec PyProof.Rows
theorem PoolsL.ref {K : PySem.W.Frag} {H : Hp} {rs : List Addr} {may : List (List Int)} (po : PoolsL K H rs may) {i : Nat} {x : V} (hx : (rs.map V.ref)[i]? = some x) : ∃ r, x = .ref r ∧ SqL K H r ((may.getD i []).map V.int) := by
  rw [List.getElem?_map] at hx
  obtain ⟨r, hr, rfl⟩ := Option.map_eq_some_iff.mp hx
  have hi : i < may.length := by rw [← po.len]; exact (List.getElem?_eq_some_iff.mp hr).1
  obtain ⟨r', e1, e2⟩ := po.at (List.getElem?_eq_getElem hi)
  rw [hr] at e1
  cases e1
  rw [← getD_getL hi] at e2
  exact ⟨r, rfl, e2⟩
end L2

set_option Elab.async false
set_option linter.all false
set_option maxRecDepth 100000
namespace L2
open PySem PySem.Spec PyProof.Rows
section
variable {X : Cx}
end
end L2

set_option Elab.async false
set_option linter.all false
set_option maxRecDepth 100000
set_option maxHeartbeats 4000000
namespace My
seal L2.PE L2.PA L2.PS L2.PSs L2.PT L2.PW L2.PI L2.PG L2.PGs L2.PIf L2.PO L2.OpR L2.CallR L2.IxR L2.SlR L2.UnR
open PySem L2 PyProof.Rows
local macro_rules | `(tactic| walk_at "go") => `(tactic| repeat (first | refine ⟨_, rfl, ?_⟩ | refine ⟨_, _, rfl, rfl, (show (0 : Int) < _ by decide), ?_⟩ | refine ⟨_, _, rfl, rfl, (show CDiv _ _ from ⟨by decide, by decide⟩), ?_⟩ | refine ⟨_, _, rfl, rfl, (show CPow _ _ from ⟨by decide, by decide, by decide⟩), ?_⟩ | refine ⟨_, _, rfl, rfl, (show CMul _ _ from .inl ⟨by decide, by decide⟩), ?_⟩ | refine ⟨_, _, rfl, rfl, (show CMul _ _ from .inr ⟨by decide, by decide⟩), ?_⟩ | refine ⟨_, _, rfl, rfl, ?_⟩ | refine ⟨rfl, ?_⟩))
/-! ### the text by places -/
def top (i : Nat) : Stmt := PySem.Challenge.pw_deskround_k19_whole_down_the_tree.main.body.getD i (.Pass ⟨0, 0, 0, 0⟩)
abbrev s_keeps : Stmt := top 1
abbrev s_breaks : Stmt := top 2
abbrev s_unlike : Stmt := top 3
abbrev s_shape : Stmt := top 5
abbrev s_width : Stmt := top 6
abbrev s_grown : Stmt := top 7
abbrev s_law_at : Stmt := top 9
abbrev s_law_tie : Stmt := top 10
abbrev s_law_down : Stmt := top 11
abbrev s_law : Stmt := top 12
structure Txt (mg : Str → Option Value) : Prop where
  z_len : mg "len" = none
  z_list : mg "list" = none
  z_range : mg "range" = none
  z_set : mg "set" = none
  z_tuple : mg "tuple" = none
structure Dfs (K : PySem.W.Frag) (mg : Str → Option Value) (a_keeps a_breaks a_unlike a_shape a_width a_grown a_law_at a_law_tie a_law_down a_law : Addr) (d_keeps d_breaks d_unlike d_shape d_width d_grown d_law_at d_law_tie d_law_down d_law : FuncData) : Prop where
  keeps : Def K mg "keeps" s_keeps ["hands", "tie"] a_keeps d_keeps
  breaks : Def K mg "breaks" s_breaks ["pattern", "tie"] a_breaks d_breaks
  unlike : Def K mg "unlike" s_unlike ["row", "steps"] a_unlike d_unlike
  shape : Def K mg "shape" s_shape ["hands"] a_shape d_shape
  width : Def K mg "width" s_width ["pattern"] a_width d_width
  grown : Def K mg "grown" s_grown ["pattern"] a_grown d_grown
  law_at : Def K mg "_law_at" s_law_at ["script", "k"] a_law_at d_law_at
  law_tie : Def K mg "_law_tie" s_law_tie ["cell", "many"] a_law_tie d_law_tie
  law_down : Def K mg "_law_down" s_law_down ["pattern", "tie", "cells"] a_law_down d_law_down
  law : Def K mg "law" s_law ["script"] a_law d_law
section
variable {P : Program} {w : World} {K : PySem.W.Frag} {mg : Str → Option Value} {base : Heap} {a_keeps a_breaks a_unlike a_shape a_width a_grown a_law_at a_law_tie a_law_down a_law : Addr} {d_keeps d_breaks d_unlike d_shape d_width d_grown d_law_at d_law_tie d_law_down d_law : FuncData}
/-! ### unlike -/
def sp_unlike (K : PySem.W.Frag) : Sp := fun vs H Q _ => ∃ (a t : Addr) (hs : List Int) (st : List Nat), vs = [.ref a, .ref t] ∧ SqL K H a (hs.map V.int) ∧ (SqL K H t (st.map fun (i : Nat) => V.int (i : Int)) ∨ SqT K H t (st.map fun (i : Nat) => V.int (i : Int))) ∧ (∀ i ∈ st, i < hs.length) ∧ st.length ≤ 6 ∧
  ∀ H', Same H H' → Q (.int ((unl (fun i => hs.getD i 0) st : Nat) : Int)) H'
theorem sc_unlike : FnScope ["row", "steps"] ["row", "steps"] (defScope s_unlike) := ⟨rfl, rfl, rfl, by decide +kernel, rfl, by decide +kernel, by decide +kernel⟩
theorem ok_unlike (D : Dfs K mg a_keeps a_breaks a_unlike a_shape a_width a_grown a_law_at a_law_tie a_law_down a_law d_keeps d_breaks d_unlike d_shape d_width d_grown d_law_at d_law_tie d_law_down d_law) (T : Txt mg) : FnOk P w K mg base CX0 1 a_unlike d_unlike ["row", "steps"] (sp_unlike K) := by
  refine D.unlike.fn.ok sc_unlike (fun vs H Q E h => ?_) (fun cdv A outer s H vs Q E hr h => ?_)
  · obtain ⟨a, t, hs, st, rfl, _⟩ := h; rfl
  · have hu := hu_of hr
    obtain ⟨a, t, hs, st, rfl, ha, ht, hlt, h6, q⟩ := h
    refine ⟨_, (pss_one (ps_ret (pe_callB (cLenS w) (by rfl) T.z_len boot_len (pa_cons (pe_callTy (cSet w K) (by rfl) T.z_set PyProof.Rows.boot_set (pa_cons (pe_lcomp ["step", "row"] [none, some 0] rfl (piE K (pv 1)) (fun _ => pg_name (i := 0) (nodupN (N := ["step", "row"]) (by decide +kernel)) rfl (Or.inl rfl)) (fun _ => pif_nil) (fun _ => (pe_ix (ixL K) (pv 1) (pv 0) (fun _ _ => rfl))) ((.cons (fun _ e => by cases e) (.cons (fun _ e => by cases e; exact ⟨rfl, rfl⟩) .nil)))) pa_nil)) pa_nil)))), ?_⟩
    have fin : ∀ acc H2, Same H H2 → H2 acc = some (.lst ((st.map fun i => hs.getD i 0).map V.int)) → ∀ S, H2 S = none → Q (.int ((unl (fun i => hs.getD i 0) st : Nat) : Int)) (upd H2 S (.ext (SX w S (dd (st.map fun i => hs.getD i 0))))) := fun acc H2 s2 _ S nS => q _ (s2.to nS)
    refine ⟨_, rfl, t, rfl, ?_⟩
    rcases ht with ht | ht
    · refine .inl ⟨⟨_, ht⟩, comp_list2 (xs := st.map fun (i : Nat) => V.int (i : Int)) (fun _ => true) (fun j => .int (hs.getD (st.getD j 0) 0)) ht (by rw [List.length_map]; omega) (fun _ _ _ _ _ _ k => k _ (Same.refl _)) (fun j x hx _ H2 R s2 k => ?_) fun acc H2 s2 nacc hacc => ?_⟩
      · obtain ⟨d, hd, rfl, ed⟩ := at_nat hx
        rw [ed] at k
        exact ⟨_, rfl, _, rfl, a, _, _, _, rfl, rfl, s2.seq ha, atI_int (hlt d (List.mem_of_getElem? hd)), k _ (Same.refl _)⟩
      rw [all_at] at hacc
      exact ⟨acc, st.map fun i => hs.getD i 0, rfl, SqL.of hacc, by rw [List.length_map]; omega, fun S nS => ⟨S, _, rfl, upd_same, fin acc H2 s2 hacc S nS⟩⟩
    · refine .inr ⟨⟨_, ht⟩, comp_tup (xs := st.map fun (i : Nat) => V.int (i : Int)) (fun _ => true) (fun j => .int (hs.getD (st.getD j 0) 0)) ht (by rw [List.length_map]; omega) (fun _ _ _ _ _ _ k => k _ (Same.refl _)) (fun j x hx _ H2 R s2 k => ?_) fun acc H2 s2 nacc hacc => ?_⟩
      · obtain ⟨d, hd, rfl, ed⟩ := at_nat hx
        rw [ed] at k
        exact ⟨_, rfl, _, rfl, a, _, _, _, rfl, rfl, s2.seq ha, atI_int (hlt d (List.mem_of_getElem? hd)), k _ (Same.refl _)⟩
      rw [all_at] at hacc
      exact ⟨acc, st.map fun i => hs.getD i 0, rfl, SqL.of hacc, by rw [List.length_map]; omega, fun S nS => ⟨S, _, rfl, upd_same, fin acc H2 s2 hacc S nS⟩⟩
/-! ### keeps -/
def sp_keeps (K : PySem.W.Frag) : Sp := fun vs H Q _ => ∃ (a tp t : Addr) (hs : List Int) (st : List Nat) (wd : Str) (k : Int), vs = [.ref a, .ref tp] ∧ SqL K H a (hs.map V.int) ∧ SqT K H tp [.str wd, .int k, .ref t] ∧ SqT K H t (st.map fun (i : Nat) => V.int (i : Int)) ∧ (wd = "most" ∨ wd = "least") ∧ (∀ i ∈ st, i < hs.length) ∧ st.length ≤ 6 ∧
  ∀ H', Same H H' → Q (.bl (if wd = "most" then decide (((unl (fun i => hs.getD i 0) st : Nat) : Int) ≤ k) else decide (k ≤ ((unl (fun i => hs.getD i 0) st : Nat) : Int)))) H'
theorem sc_keeps : FnScope ["hands", "tie", "hands_there"] ["hands", "tie"] (defScope s_keeps) := ⟨rfl, rfl, rfl, by decide +kernel, rfl, by decide +kernel, by decide +kernel⟩
theorem ok_keeps (D : Dfs K mg a_keeps a_breaks a_unlike a_shape a_width a_grown a_law_at a_law_tie a_law_down a_law d_keeps d_breaks d_unlike d_shape d_width d_grown d_law_at d_law_tie d_law_down d_law) (T : Txt mg) : FnOk P w K mg base CX0 2 a_keeps d_keeps ["hands", "tie"] (sp_keeps K) := by
  have Gunlike : FnOk P w K mg base CX0 1 a_unlike d_unlike ["row", "steps"] (sp_unlike K) := ok_unlike D T
  refine D.keeps.fn.ok sc_keeps (fun vs H Q E h => ?_) (fun cdv A outer s H vs Q E hr h => ?_)
  · obtain ⟨a, tp, t, hs, st, wd, k, rfl, _⟩ := h; rfl
  · have hu := hu_of hr
    obtain ⟨a, tp, t, hs, st, wd, k, rfl, ha, htp, ht, hwd, hlt, h6, q⟩ := h
    refine ⟨_, (pss_cons (ps_set (i := 2) sc_keeps.nd rfl (Or.inl rfl) (pc D.unlike Gunlike (hr.mono (by decide)) (pa_cons (pv 0) (pa_cons (pe_ix (ixT K) (pv 1) pe_int (fun _ _ => rfl)) pa_nil))))
      (pss_cons (ps_if (pt_cmpR op_eq (pe_ix (ixT K) (pv 1) pe_int (fun _ _ => rfl)) pe_str (nomark _))
        (pss_one (ps_ret (pe_cmpR op_le (pv 2) (pe_ix (ixT K) (pv 1) pe_int (fun _ _ => rfl)) (nomark _))))
        pss_nil)
      (pss_one (ps_ret (pe_cmpR op_ge (pv 2) (pe_ix (ixT K) (pv 1) pe_int (fun _ _ => rfl)) (nomark _)))))), ?_⟩
    refine ⟨_, rfl, _, rfl, tp, _, _, _, rfl, rfl, htp, rfl, a, t, hs, st, rfl, ha, .inr ht, hlt, h6, fun H3 s3 => ?_⟩
    have q3 := q H3 s3
    refine ⟨_, rfl, tp, _, _, _, rfl, rfl, Same.seqT s3 htp, rfl, rfl, _, rfl, ?_⟩
    rcases hwd with e | e <;> subst e
    · refine iteT ?_
      rw [if_pos rfl] at q3
      exact ⟨_, rfl, _, rfl, tp, _, _, _, rfl, rfl, Same.seqT s3 htp, rfl, _, _, rfl, rfl, q3⟩
    · rw [decide_eq_false (by decide)]
      refine iteF ?_
      rw [if_neg (by decide)] at q3
      exact ⟨_, rfl, _, rfl, tp, _, _, _, rfl, rfl, Same.seqT s3 htp, rfl, _, _, rfl, rfl, q3⟩
/-! ### breaks -/
def sp_breaks (K : PySem.W.Frag) : Sp := fun vs H Q _ => ∃ (a tp t : Addr) (hs : List Int) (st : List Nat) (wd : Str) (k : Int), vs = [.ref a, .ref tp] ∧ SqL K H a (hs.map V.int) ∧ SqT K H tp [.str wd, .int k, .ref t] ∧ SqT K H t (st.map fun (i : Nat) => V.int (i : Int)) ∧ (wd = "most" ∨ wd = "least") ∧ st.length ≤ 6 ∧
  ∀ H', Same H H' → Q (.bl (brk (fun i => hs.getD i 0) hs.length wd k st)) H'
theorem sc_breaks : FnScope ["pattern", "tie", "steps", "numbers_there"] ["pattern", "tie"] (defScope s_breaks) := ⟨rfl, rfl, rfl, by decide +kernel, rfl, by decide +kernel, by decide +kernel⟩
theorem ok_breaks (D : Dfs K mg a_keeps a_breaks a_unlike a_shape a_width a_grown a_law_at a_law_tie a_law_down a_law d_keeps d_breaks d_unlike d_shape d_width d_grown d_law_at d_law_tie d_law_down d_law) (T : Txt mg) : FnOk P w K mg base CX0 2 a_breaks d_breaks ["pattern", "tie"] (sp_breaks K) := by
  have Gunlike : FnOk P w K mg base CX0 1 a_unlike d_unlike ["row", "steps"] (sp_unlike K) := ok_unlike D T
  refine D.breaks.fn.ok sc_breaks (fun vs H Q E h => ?_) (fun cdv A outer s H vs Q E hr h => ?_)
  · obtain ⟨a, tp, t, hs, st, wd, k, rfl, _⟩ := h; rfl
  · have hu := hu_of hr
    obtain ⟨a, tp, t, hs, st, wd, k, rfl, ha, htp, ht, hwd, h6, q⟩ := h
    refine ⟨_, (pss_cons (ps_setC (i₀ := 2) sc_breaks.nd rfl (Or.inl rfl) ["step", "pattern"] [none, some 0] rfl (piT K (pe_ix (ixT K) (pv 1) pe_int (fun _ _ => rfl))) (fun _ => pg_name (i := 0) (nodupN (N := ["step", "pattern"]) (by decide +kernel)) rfl (Or.inl rfl)) (fun _ => pif_one (pt_cmpR op_lt (pv 0) (pe_callB (cLen K) (by rfl) T.z_len boot_len (pa_cons (pv 1) pa_nil)) (nomark _))) (fun _ => (pv 0)) ((.cons (fun _ e => by cases e) (.cons (fun _ e => by cases e; exact ⟨rfl, rfl⟩) .nil))))
      (pss_cons (ps_set (i := 3) sc_breaks.nd rfl (Or.inl rfl) (pc D.unlike Gunlike (hr.mono (by decide)) (pa_cons (pv 0) (pa_cons (pv 2) pa_nil))))
      (pss_cons (ps_if (pt_cmpR op_eq (pe_ix (ixT K) (pv 1) pe_int (fun _ _ => rfl)) pe_str (nomark _))
        (pss_one (ps_ret (pe_cmpR op_gt (pv 3) (pe_ix (ixT K) (pv 1) pe_int (fun _ _ => rfl)) (nomark _))))
        pss_nil)
      (pss_one (ps_ret (pe_cmpR op_lt (pe_op op_sub (pe_op op_add (pv 3) (pe_callB (cLen K) (by rfl) T.z_len boot_len (pa_cons (pe_ix (ixT K) (pv 1) pe_int (fun _ _ => rfl)) pa_nil))) (pe_callB (cLen K) (by rfl) T.z_len boot_len (pa_cons (pv 2) pa_nil))) (pe_ix (ixT K) (pv 1) pe_int (fun _ _ => rfl)) (nomark _))))))), ?_⟩
    refine ⟨_, rfl, tp, _, _, _, rfl, rfl, htp, rfl, t, rfl, ⟨_, ht⟩, ?_⟩
    refine comp_tup (xs := st.map fun (i : Nat) => V.int (i : Int)) (fun j => decide (st.getD j 0 < hs.length)) (fun j => .int ((st.getD j 0 : Nat) : Int)) ht (by rw [List.length_map]; omega) (fun j x hx H2 R s2 k => ?_) (fun j x hx hp H2 R s2 k => ?_) fun acc H2 s2 nacc hacc => ?_
    · obtain ⟨d, hd, rfl, ed⟩ := at_nat hx
      rw [ed] at k
      refine ⟨_, rfl, _, rfl, _, _, rfl, .inl ⟨_, s2.seq ha, rfl⟩, _, _, rfl, rfl, _, rfl, ?_⟩
      have kk := k H2 (Same.refl _)
      rw [dec_lt] at kk
      rw [List.length_map]
      exact kk
    · obtain ⟨d, hd, rfl, ed⟩ := at_nat hx
      rw [ed] at k
      exact ⟨_, rfl, k _ (Same.refl _)⟩
    rw [List.length_map, sift (g := fun i => decide (i < hs.length)) (F := fun (i : Nat) => V.int (i : Int))] at hacc
    have fl : (st.filter fun i => decide (i < hs.length)).length ≤ st.length := List.length_filter_le ..
    refine ⟨_, rfl, _, rfl, a, acc, hs, st.filter fun i => decide (i < hs.length), rfl, s2.seq ha, .inl (SqL.of hacc), (fun i hi => of_decide_eq_true (List.mem_filter.mp hi).2), by omega, fun H3 s23 => ?_⟩
    have s3 := s2.trans s23
    have hacc3 := s23 _ _ hacc
    have q3 := q H3 s3
    refine ⟨_, rfl, tp, _, _, _, rfl, rfl, Same.seqT s3 htp, rfl, rfl, _, rfl, ?_⟩
    unfold brk at q3
    rcases hwd with e | e <;> subst e
    · refine iteT ?_
      rw [if_pos rfl] at q3
      exact ⟨_, rfl, _, rfl, tp, _, _, _, rfl, rfl, Same.seqT s3 htp, rfl, _, _, rfl, rfl, q3⟩
    · rw [decide_eq_false (by decide)]
      refine iteF ?_
      rw [if_neg (by decide)] at q3
      refine ⟨_, rfl, _, rfl, tp, _, _, _, rfl, rfl, Same.seqT s3 htp, rfl, _, _, rfl, .inr ⟨_, Same.seqT s3 ht, rfl⟩, _, _, rfl, rfl, _, rfl, _, _, rfl, .inl ⟨_, SqL.of hacc3, rfl⟩, _, _, rfl, rfl, _, rfl, tp, _, _, _, rfl, rfl, Same.seqT s3 htp, rfl, _, _, rfl, rfl, ?_⟩
      rw [List.length_map, List.length_map]
      exact q3
/-! ### shape -/
def sp_shape (K : PySem.W.Frag) : Sp := fun vs H Q _ => ∃ (a : Addr) (hs : List Int), vs = [.ref a] ∧ SqL K H a (hs.map V.int) ∧ hs.length ≤ 6 ∧ ∀ l H', Same H H' → H l = none → H' l = some (.lst ((shp hs).map fun (i : Nat) => V.int (i : Int))) → Q (.ref l) H'
theorem sc_shape : FnScope ["hands", "numbers", "pattern", "badge"] ["hands"] (defScope s_shape) := ⟨rfl, rfl, rfl, by decide +kernel, rfl, by decide +kernel, by decide +kernel⟩
theorem ok_shape (D : Dfs K mg a_keeps a_breaks a_unlike a_shape a_width a_grown a_law_at a_law_tie a_law_down a_law d_keeps d_breaks d_unlike d_shape d_width d_grown d_law_at d_law_tie d_law_down d_law) (T : Txt mg) : FnOk P w K mg base CX0 1 a_shape d_shape ["hands"] (sp_shape K) := by
  refine D.shape.fn.ok sc_shape (fun vs H Q E h => ?_) (fun cdv A outer s H vs Q E hr h => ?_)
  · obtain ⟨a, hs, rfl, _⟩ := h; rfl
  · have hu := hu_of hr
    obtain ⟨a, hs, rfl, ha, h6, q⟩ := h
    refine ⟨_, (pss_cons (ps_set (i := 1) sc_shape.nd rfl (Or.inl rfl) pe_dnewK)
      (pss_cons (ps_set (i := 2) sc_shape.nd rfl (Or.inl rfl) (pe_lst pa_nil))
      (pss_cons (ps_for PassesOwn.never rfl (piL K (pv 0)) (pg_name (i := 3) sc_shape.nd rfl (Or.inl rfl))
        (pss_cut (ps_if (pt_cmp (pc_dnotin hu (pv 3) (pv 1)))
          (pss_one (ps_dput hu (pv 1) (pv 3) (pe_callB call_lenD (by rfl) T.z_len boot_len (pa_cons (pv 1) pa_nil)) rfl))
          pss_nil)
        (pss_one (ps_expr (pe_bm PySem.F.plainAttrs_list PySem.F.slot_list_append PySem.F.type_list_append mt_append (pv 2) (pa_cons (pe_dget hu (pv 1) (pv 3) (fun _ _ => rfl)) pa_nil))))))
      (pss_one (ps_ret (pv 2)))))), ?_⟩
    refine fun nu nnu => ?_
    refine ⟨szr, fun l nl => ?_⟩
    have nul : nu ≠ l := fun z => by rw [← z, upd_same] at nl; cases nl
    have s1 := (Same.new (o := .dK []) nnu).to (o := .lst []) nl
    have hnu1 : upd (upd H nu (.dK [])) l (.lst []) nu = some (.dK (encF 0 (dd (hs.take 0)))) := by rw [upd_ne nul]; exact upd_same
    have hl1 : upd (upd H nu (.dK [])) l (.lst []) l = some (.lst (((shp hs).take 0).map fun (i : Nat) => V.int (i : Int))) := upd_same
    have nl0 : H l = none := (Same.new (o := .dK []) nnu).free nl
    generalize upd (upd H nu (.dK [])) l (.lst []) = H1 at *
    refine ⟨_, rfl, a, rfl, ⟨_, s1.seq ha⟩, ?_⟩
    refine for_list (K := K) (a := a) (xs := hs.map V.int) (fun i σ H2 => ∃ x : Option V, σ = [some (.ref a), some (.ref nu), some (.ref l), x] ∧ Same H H2 ∧ H2 nu = some (.dK (encF 0 (dd (hs.take i)))) ∧ H2 l = some (.lst (((shp hs).take i).map fun (i : Nat) => V.int (i : Int))))
      ⟨none, rfl, s1, hnu1, hl1⟩ (fun i σ H2 _ ⟨_, _, s, _⟩ => s.seq ha) ?_ ?_
    · rintro i y σ H2 hi ⟨x, rfl, s2, hnu2, hl2⟩
      obtain ⟨b, hb, rfl⟩ : ∃ b, hs[i]? = some b ∧ y = V.int b := by
        rw [List.getElem?_map] at hi
        obtain ⟨b, h1, h2⟩ := Option.map_eq_some_iff.mp hi
        exact ⟨b, h1, h2.symm⟩
      have hil := (List.getElem?_eq_some_iff.mp hb).1
      have eb : hs.getD i 0 = b := by rw [List.getD_eq_getElem?_getD, hb]; rfl
      have et : hs.take (i + 1) = hs.take i ++ [b] := by rw [List.take_add_one, hb]; rfl
      have dl := dd_len (hs.take i)
      rw [List.length_take] at dl
      have tl : ((shp hs).take i).length = i := by rw [List.length_take, shp_len]; omega
      have ed : dd (hs.take (i + 1)) = if b ∈ hs.take i then dd (hs.take i) else dd (hs.take i) ++ [b] := by
        rw [et, dd_snoc]
        unfold dstep
        by_cases z : b ∈ hs.take i
        · rw [if_pos z, if_pos (dd_mem.mpr z)]
        · rw [if_neg z, if_neg fun y => z (dd_mem.mp y)]
      refine ⟨fun σ H3 => σ = [some (.ref a), some (.ref nu), some (.ref l), some (.int b)] ∧ Same H H3 ∧ H3 nu = some (.dK (encF 0 (dd (hs.take (i + 1))))) ∧ H3 l = some (.lst (((shp hs).take i).map fun (i : Nat) => V.int (i : Int))), ?_, ?_⟩
      · refine ⟨_, rfl, _, rfl, nu, _, rfl, DGet.k (k := Sum.inl b) hnu2, _, rfl, ?_⟩
        rw [encF_val]
        by_cases hbm : b ∈ hs.take i
        · rw [if_pos (dd_mem.mpr hbm)]
          refine iteF ⟨rfl, s2, ?_, hl2⟩
          rw [ed, if_pos hbm]; exact hnu2
        · rw [if_neg fun z => hbm (dd_mem.mp z)]
          refine iteT ?_
          refine ⟨_, rfl, nu, _, rfl, hnu2, _, rfl, _, rfl, nu, _, rfl, DPut.k (k := Sum.inl b) hnu2 (szn (by rw [encF_len]; omega)), ?_⟩
          rw [encF_len, encF_put (fun z => hbm (dd_mem.mp z))]
          refine ⟨rfl, s2.put nnu, ?_, by rw [upd_ne (Ne.symm nul)]; exact hl2⟩
          rw [upd_same, ed, if_neg hbm]
      rintro σ H3 ⟨rfl, s3, hnu3, hl3⟩
      have vb : valV (encF 0 (dd (hs.take (i + 1)))) (Sum.inl b) = some (.int ((shN hs i : Nat) : Int)) := by
        rw [encF_val, if_pos (dd_mem.mpr (by rw [et]; simp))]
        have := num_at hil
        rw [eb] at this
        rw [this, Nat.zero_add]
      have gb := DGet.k (k := Sum.inl b) hnu3
      rw [vb] at gb
      refine ⟨_, rfl, .inl ⟨rfl, _, SqL.of hl3⟩, _, rfl, _, rfl, nu, .int ((shN hs i : Nat) : Int), rfl, gb, l, _, _, rfl, rfl, hl3, szn (by rw [List.length_map, tl]; omega), ?_⟩
      refine ⟨_, rfl, s3.put nl0, by rw [upd_ne nul]; exact hnu3, ?_⟩
      rw [upd_same, List.take_add_one, shp_at hil, List.map_append]; rfl
    · rintro σ H2 ⟨x, rfl, s2, hnu2, hl2⟩
      rw [List.length_map, List.take_of_length_le (by rw [shp_len]; exact Nat.le_refl _)] at hl2
      exact ⟨_, rfl, q l H2 s2 nl0 hl2⟩

/-! ### width -/
def sp_width (K : PySem.W.Frag) : Sp := fun vs H Q _ => ∃ (a : Addr) (ps : List Int), vs = [.ref a] ∧ SqL K H a (ps.map V.int) ∧ ps.length ≤ 6 ∧ ∀ H', Same H H' → Q (.int (((dd ps).length : Nat) : Int)) H'
theorem sc_width : FnScope ["pattern"] ["pattern"] (defScope s_width) := ⟨rfl, rfl, rfl, by decide +kernel, rfl, by decide +kernel, by decide +kernel⟩
theorem ok_width (D : Dfs K mg a_keeps a_breaks a_unlike a_shape a_width a_grown a_law_at a_law_tie a_law_down a_law d_keeps d_breaks d_unlike d_shape d_width d_grown d_law_at d_law_tie d_law_down d_law) (T : Txt mg) : FnOk P w K mg base CX0 1 a_width d_width ["pattern"] (sp_width K) := by
  refine D.width.fn.ok sc_width (fun vs H Q E h => ?_) (fun cdv A outer s H vs Q E hr h => ?_)
  · obtain ⟨a, ps, rfl, _⟩ := h; rfl
  · have hu := hu_of hr
    obtain ⟨a, ps, rfl, ha, h6, q⟩ := h
    refine ⟨_, (pss_one (ps_ret (pe_callB (cLenS w) (by rfl) T.z_len boot_len (pa_cons (pe_callTy (cSet w K) (by rfl) T.z_set PyProof.Rows.boot_set (pa_cons (pv 0) pa_nil)) pa_nil)))), ?_⟩
    exact ⟨_, rfl, a, ps, rfl, ha, by omega, fun S nS => ⟨S, _, rfl, upd_same, q _ (Same.new nS)⟩⟩
/-! ### grown -/
/-- the grown patterns, each a new list -/
def sp_grown (K : PySem.W.Frag) : Sp := fun vs H Q _ => ∃ (a : Addr) (ps : List Int), vs = [.ref a] ∧ H a = some (.lst (ps.map V.int)) ∧ ps.length ≤ 6 ∧
  ∀ l (rs : List Addr) H', Same H H' → H l = none → H' l = some (.lst (rs.map V.ref)) → rs.length = (dd ps).length + 1 → (∀ (i : Nat) r, rs[i]? = some r → H' r = some (.lst ((ps ++ [(i : Int)]).map V.int)) ∧ H r = none) → Q (.ref l) H'
theorem sc_grown : FnScope ["pattern"] ["pattern"] (defScope s_grown) := ⟨rfl, rfl, rfl, by decide +kernel, rfl, by decide +kernel, by decide +kernel⟩
theorem ok_grown (D : Dfs K mg a_keeps a_breaks a_unlike a_shape a_width a_grown a_law_at a_law_tie a_law_down a_law d_keeps d_breaks d_unlike d_shape d_width d_grown d_law_at d_law_tie d_law_down d_law) (T : Txt mg) : FnOk P w K mg base CX0 2 a_grown d_grown ["pattern"] (sp_grown K) := by
  have Gwidth : FnOk P w K mg base CX0 1 a_width d_width ["pattern"] (sp_width K) := ok_width D T
  refine D.grown.fn.ok sc_grown (fun vs H Q E h => ?_) (fun cdv A outer s H vs Q E hr h => ?_)
  · obtain ⟨a, ps, rfl, _⟩ := h; rfl
  · have hu := hu_of hr
    obtain ⟨a, ps, rfl, ha, h6, q⟩ := h
    refine ⟨_, (pss_one (ps_ret (pe_lcomp ["number", "pattern"] [none, some 0] rfl (pi_range1 rfl T.z_range (pa_cons (pe_op op_add (pc D.width Gwidth (hr.mono (by decide)) (pa_cons (pv 0) pa_nil)) pe_int) pa_nil)) (fun _ => pg_name (i := 0) (nodupN (N := ["number", "pattern"]) (by decide +kernel)) rfl (Or.inl rfl)) (fun _ => pif_nil) (fun _ => (pe_op op_cat (pv 1) (pe_lst (pa_cons (pv 0) pa_nil)))) ((.cons (fun _ e => by cases e) (.cons (fun _ e => by cases e; exact ⟨rfl, rfl⟩) .nil)))))), ?_⟩
    refine ⟨_, rfl, a, ps, rfl, SqL.of ha, h6, fun H1 s1 => ?_⟩
    have dl := dd_len ps
    refine ⟨_, _, rfl, rfl, _, rfl, by omega, by omega, ?_⟩
    have e0 : (((dd ps).length : Int) + 1).toNat = (dd ps).length + 1 := by omega
    rw [e0]
    refine comp_rlists (n := (dd ps).length + 1) (fun i => (ps ++ [(i : Int)]).map V.int) (by omega) (fun i hi H2 R s2 k => ?_) fun acc rs H2 s2 nacc hacc hrs hall hne => ?_
    · have ei : (0 : Int) + (i : Int) = ((i : Nat) : Int) := by omega
      rw [ei]
      refine ⟨_, rfl, _, rfl, szr, fun p np => ?_⟩
      have ha2 := (s1.trans s2) _ _ ha
      refine ⟨a, p, _, _, rfl, rfl, Same.new np _ _ ha2, upd_same, by rw [List.length_map]; exact szl (by simp; omega), fun r nr => ?_⟩
      have e : ps.map V.int ++ [V.int ((i : Nat) : Int)] = (ps ++ [(i : Int)]).map V.int := by rw [List.map_append]; rfl
      rw [e]
      exact k r _ ((Same.new np).to nr) ((Same.new np).free nr) upd_same
    · exact q acc rs H2 (s1.trans s2) (s1.free nacc) hacc hrs fun i r hr => ⟨(hall i r hr).1, s1.free (hall i r hr).2⟩

/-! ### _law_at -/
def sp_law_at (K : PySem.W.Frag) : Sp := fun vs H Q _ => ∃ (a : Addr) (ns : List Int) (k : Nat), vs = [.ref a, .int ((k : Nat) : Int)] ∧ SqL K H a (ns.map V.int) ∧ Q (.int (ns.getD k 0)) H
theorem sc_law_at : FnScope ["script", "k"] ["script", "k"] (defScope s_law_at) := ⟨rfl, rfl, rfl, by decide +kernel, rfl, by decide +kernel, by decide +kernel⟩
theorem ok_law_at (D : Dfs K mg a_keeps a_breaks a_unlike a_shape a_width a_grown a_law_at a_law_tie a_law_down a_law d_keeps d_breaks d_unlike d_shape d_width d_grown d_law_at d_law_tie d_law_down d_law) (T : Txt mg) : FnOk P w K mg base CX0 1 a_law_at d_law_at ["script", "k"] (sp_law_at K) := by
  refine D.law_at.fn.ok sc_law_at (fun vs H Q E h => ?_) (fun cdv A outer s H vs Q E hr h => ?_)
  · obtain ⟨a, ns, k, rfl, _⟩ := h; rfl
  · have hu := hu_of hr
    obtain ⟨a, ns, k, rfl, hS, q⟩ := h
    refine ⟨_, (pss_cons (ps_if (pt_cmpR op_lt (pv 1) (pe_callB (cLen K) (by rfl) T.z_len boot_len (pa_cons (pv 0) pa_nil)) (nomark _))
        (pss_one (ps_ret (pe_ix (ixL K) (pv 0) (pv 1) (fun _ _ => rfl))))
        pss_nil)
      (pss_one (ps_ret pe_int))), ?_⟩
    refine ⟨_, rfl, _, rfl, _, _, rfl, .inl ⟨_, hS, rfl⟩, _, _, rfl, rfl, _, rfl, ifD (fun h => ?_) fun h => ?_⟩
    · rw [List.length_map] at h
      exact ⟨_, rfl, _, rfl, a, _, _, _, rfl, rfl, hS, atI_int (by omega), q⟩
    · rw [List.length_map] at h
      have e : ns.getD k 0 = 0 := by rw [List.getD_eq_getElem?_getD, List.getElem?_eq_none (by omega)]; rfl
      rw [e] at q
      exact q
/-! ### _law_tie -/
/-- a tie of these steps, as it lies there -/
structure TieAt (H : Hp) (tp t : Addr) (wd : Str) (k : Int) (st : List Nat) (many : Nat) : Prop where
  tp : H tp = some (.tup [.str wd, .int k, .ref t])
  ts : H t = some (.tup (st.map fun (i : Nat) => V.int (i : Int)))
  wd : wd = "most" ∨ wd = "least"
  k1 : 1 ≤ k
  k6 : k ≤ 6
  lt : ∀ i ∈ st, i < many
  up : st.Pairwise (· < ·)
theorem pickW (c : Int) : ∃ wd : Str, atI [V.str "most", V.str "least"] (c % 2) = some (.str wd) ∧ (wd = "most" ∨ wd = "least") := by
  rcases (show c % 2 = 0 ∨ c % 2 = 1 by omega) with e | e
  · rw [e]; exact ⟨"most", rfl, .inl rfl⟩
  · rw [e]; exact ⟨"least", rfl, .inr rfl⟩
theorem pickM {m : Nat} (h1 : 1 ≤ m) (h6 : m ≤ 6) : ∃ d : Int, atI [V.int 1, V.int 3, V.int 7, V.int 15, V.int 31, V.int 63] ((m : Int) - 1) = some (.int d) ∧ 0 < d := by
  rcases (show m = 1 ∨ m = 2 ∨ m = 3 ∨ m = 4 ∨ m = 5 ∨ m = 6 by omega) with e | e | e | e | e | e <;> subst e
  · exact ⟨1, rfl, by decide⟩
  · exact ⟨3, rfl, by decide⟩
  · exact ⟨7, rfl, by decide⟩
  · exact ⟨15, rfl, by decide⟩
  · exact ⟨31, rfl, by decide⟩
  · exact ⟨63, rfl, by decide⟩
def pw6 : List Int := [1, 2, 4, 8, 16, 32]
theorem pw6_at {i : Nat} (h : i < 6) : atI [V.int 1, V.int 2, V.int 4, V.int 8, V.int 16, V.int 32] (i : Int) = some (.int (pw6.getD i 0)) ∧ 0 < pw6.getD i 0 ∧ pw6.getD i 0 < 100 := by
  rcases (show i = 0 ∨ i = 1 ∨ i = 2 ∨ i = 3 ∨ i = 4 ∨ i = 5 by omega) with e | e | e | e | e | e <;> subst e <;> exact ⟨rfl, by decide, by decide⟩
theorem dec_int {i j : Int} {b : Bool} (h : b = decide (i = j)) : b = decide (V.int i = V.int j) := by
  rw [h]
  by_cases z : i = j
  · simp [z]
  · simp [z]
def sp_law_tie (K : PySem.W.Frag) : Sp := fun vs H Q _ => ∃ (c : Int) (many : Nat), vs = [.int c, .int ((many : Nat) : Int)] ∧ 1 ≤ many ∧ many ≤ 6 ∧
  ∀ tp t wd k st H', Same H H' → TieAt H' tp t wd k st many → H tp = none ∧ H t = none → Q (.ref tp) H'
theorem sc_law_tie : FnScope ["cell", "many", "word", "mask", "steps"] ["cell", "many"] (defScope s_law_tie) := ⟨rfl, rfl, rfl, by decide +kernel, rfl, by decide +kernel, by decide +kernel⟩
theorem ok_law_tie (D : Dfs K mg a_keeps a_breaks a_unlike a_shape a_width a_grown a_law_at a_law_tie a_law_down a_law d_keeps d_breaks d_unlike d_shape d_width d_grown d_law_at d_law_tie d_law_down d_law) (T : Txt mg) : FnOk P w K mg base CX0 1 a_law_tie d_law_tie ["cell", "many"] (sp_law_tie K) := by
  refine D.law_tie.fn.ok sc_law_tie (fun vs H Q E h => ?_) (fun cdv A outer s H vs Q E hr h => ?_)
  · obtain ⟨c, many, rfl, _⟩ := h; rfl
  · have hu := hu_of hr
    obtain ⟨c, many, rfl, m1, m6, q⟩ := h
    refine ⟨_, (pss_cons (ps_set (i := 2) sc_law_tie.nd rfl (Or.inl rfl) (pe_ix (ixL K) (pe_lst (pa_cons pe_str (pa_cons pe_str pa_nil))) (pe_op op_mod (pv 0) pe_int) (fun _ _ => rfl)))
      (pss_cons (ps_set (i := 3) sc_law_tie.nd rfl (Or.inr rfl) (pe_op op_add pe_int (pe_op op_mod (pe_op op_fdiv (pv 0) pe_int) (pe_ix (ixL K) (pe_lst (pa_cons pe_int (pa_cons pe_int (pa_cons pe_int (pa_cons pe_int (pa_cons pe_int (pa_cons pe_int pa_nil))))))) (pe_op op_sub (pv 1) pe_int) (fun _ _ => rfl)))))
      (pss_cons (ps_setC (i₀ := 4) sc_law_tie.nd rfl (Or.inl rfl) ["k", "mask"] [none, some 3] rfl (pi_range1 rfl T.z_range (pa_cons (pv 1) pa_nil)) (fun _ => pg_name (i := 0) (nodupN (N := ["k", "mask"]) (by decide +kernel)) rfl (Or.inl rfl)) (fun _ => pif_one (pt_cmpR op_eq (pe_op op_mod (pe_op op_fdiv (pv 1) (pe_ix (ixL K) (pe_lst (pa_cons pe_int (pa_cons pe_int (pa_cons pe_int (pa_cons pe_int (pa_cons pe_int (pa_cons pe_int pa_nil))))))) (pv 0) (fun _ _ => rfl))) pe_int) pe_int (nomark _))) (fun _ => (pv 0)) ((.cons (fun _ e => by cases e) (.cons (fun _ e => by cases e; exact ⟨rfl, rfl⟩) .nil))))
      (pss_one (ps_ret (pe_tup (pa_cons (pv 2) (pa_cons (pe_op op_add pe_int (pe_op op_mod (pe_op op_fdiv (pv 0) pe_int) pe_int)) (pa_cons (pe_callTy call_tuple_of (by rfl) T.z_tuple boot_tuple (pa_cons (pv 4) pa_nil)) pa_nil))))))))), ?_⟩
    obtain ⟨wd, hwd, hw2⟩ := pickW c
    obtain ⟨dm, hdm, hdm0⟩ := pickM m1 m6
    refine ⟨szr, fun p np => ?_⟩
    refine ⟨_, rfl, _, _, rfl, rfl, (show (0 : Int) < 2 by decide), p, _, _, _, rfl, rfl, SqL.of upd_same, hwd, ?_⟩
    have s1 := Same.new (o := .lst [.str "most", .str "least"]) np
    generalize upd H p (.lst [.str "most", .str "least"]) = H1 at s1 ⊢
    refine ⟨_, rfl, ?_⟩
    walk_at "go"
    refine ⟨szr, fun p2 np2 => ?_⟩
    refine ⟨_, rfl, _, _, rfl, rfl, p2, _, _, _, rfl, rfl, SqL.of upd_same, hdm, _, _, rfl, rfl, hdm0, _, _, rfl, rfl, ?_⟩
    generalize hH2 : upd H1 p2 _ = H2
    have s2 : Same H H2 := by rw [← hH2]; exact s1.to np2
    refine ⟨_, rfl, _, rfl, by omega, by omega, ?_⟩
    rw [Int.toNat_natCast]
    refine comp_some (n := many) (fun i => decide ((1 + c / 12 % dm) / pw6.getD i 0 % 2 = 1)) (by omega) (fun i hi H3 R s3 k => ?_) (fun i hi H3 R k => ?_) fun sl H3 s3 nsl hsl => ?_
    · have ei : (0 : Int) + (i : Int) = ((i : Nat) : Int) := by omega
      rw [ei]
      obtain ⟨g1, g2, g3⟩ := pw6_at (show i < 6 by omega)
      refine ⟨_, rfl, szr, fun l nl => ⟨_, rfl, l, _, _, _, rfl, rfl, SqL.of upd_same, g1, _, _, rfl, rfl, ⟨g2, by omega⟩, _, _, rfl, rfl, (show (0 : Int) < 2 by decide), rfl, _, rfl, ?_⟩⟩
      generalize hH4 : upd H3 l _ = H4
      have s34 : Same H3 H4 := by rw [← hH4]; exact Same.new nl
      have kk := k H4 s34
      dsimp only at kk ⊢
      rw [dec_int (i := (1 + c / 12 % dm) / pw6.getD i 0 % 2) (j := 1) rfl] at kk
      exact kk
    · have ei : (0 : Int) + (i : Int) = ((i : Nat) : Int) := by omega
      rw [ei]
      exact ⟨_, rfl, k⟩
    refine ⟨_, rfl, ?_⟩
    walk_at "go"
    refine ⟨sl, _, rfl, .inl ⟨SqL.of hsl, fun t nt => ?_⟩⟩
    refine ⟨szr, fun tp ntp => ?_⟩
    have ntt : t ≠ tp := fun z => by rw [← z, upd_same] at ntp; cases ntp
    have k1 := Int.emod_nonneg (c / 2) (show (6 : Int) ≠ 0 by decide)
    have k2 := Int.emod_lt_of_pos (c / 2) (show (0 : Int) < 6 by decide)
    refine q tp t wd (1 + c / 2 % 6) ((List.range many).filter fun i => decide ((1 + c / 12 % dm) / pw6.getD i 0 % 2 = 1)) _ (((s2.trans s3).to nt).to ntp) ⟨upd_same, by rw [upd_ne ntt]; exact upd_same, hw2, by omega, by omega, fun i hi => List.mem_range.mp (List.mem_filter.mp hi).1, List.Pairwise.filter _ List.pairwise_lt_range⟩ ⟨((s2.trans s3).to nt).free ntp, (s2.trans s3).free nt⟩
/-! ### _law_down -/
def sp_law_down (K : PySem.W.Frag) : Sp := fun vs H Q _ => ∃ (pa tp t ca : Addr) (st : List Nat) (wd : Str) (k : Int) (cs : List Int), vs = [.ref pa, .ref tp, .ref ca] ∧ H pa = some (.lst []) ∧ TieAt H tp t wd k st cs.length ∧ SqL K H ca (cs.map V.int) ∧ cs.length ≤ 6 ∧ ∀ H', Same H H' → Q (.bl true) H'
theorem int_list (P : List Nat) : (P.map fun (i : Nat) => V.int (i : Int)) = (P.map fun (i : Nat) => (i : Int)).map V.int := by rw [List.map_map]; rfl
theorem rep_bl (n : Nat) : (List.replicate n [V.bl true]).flatten = List.replicate n (V.bl true) := by
  induction n with
  | zero => rfl
  | succ n ih => rw [List.replicate_succ, List.flatten_cons, ih]; rfl
theorem in_false {n j : Nat} {B : Nat → Bool} (hj : j < n) (e : B j = false) : inV (.bl false) ((List.range n).map fun i => V.bl (B i)) = true := by
  unfold inV
  refine List.any_eq_true.mpr ⟨.bl (B j), List.mem_map.mpr ⟨j, List.mem_range.mpr hj, rfl⟩, ?_⟩
  rw [e]; rfl
theorem sc_law_down : FnScope ["pattern", "tie", "cells", "cell", "longer", "worse", "badges"] ["pattern", "tie", "cells"] (defScope s_law_down) := ⟨rfl, rfl, rfl, by decide +kernel, rfl, by decide +kernel, by decide +kernel⟩
theorem ok_law_down (D : Dfs K mg a_keeps a_breaks a_unlike a_shape a_width a_grown a_law_at a_law_tie a_law_down a_law d_keeps d_breaks d_unlike d_shape d_width d_grown d_law_at d_law_tie d_law_down d_law) (T : Txt mg) : FnOk P w K mg base CX0 3 a_law_down d_law_down ["pattern", "tie", "cells"] (sp_law_down K) := by
  have Gkeeps : FnOk P w K mg base CX0 2 a_keeps d_keeps ["hands", "tie"] (sp_keeps K) := ok_keeps D T
  have Gbreaks : FnOk P w K mg base CX0 2 a_breaks d_breaks ["pattern", "tie"] (sp_breaks K) := ok_breaks D T
  have Gshape : FnOk P w K mg base CX0 1 a_shape d_shape ["hands"] (sp_shape K) := ok_shape D T
  have Ggrown : FnOk P w K mg base CX0 2 a_grown d_grown ["pattern"] (sp_grown K) := ok_grown D T
  refine D.law_down.fn.ok sc_law_down (fun vs H Q E h => ?_) (fun cdv A outer s H vs Q E hr h => ?_)
  · obtain ⟨pa, tp, t, ca, st, wd, k, cs, rfl, _⟩ := h; rfl
  · have hu := hu_of hr
    obtain ⟨pa, tp, t, ca, st, wd, k, cs, rfl, hpa, ti, hca, h6, q⟩ := h
    refine ⟨_, (pss_cons (ps_for PassesOwn.never rfl (piL K (pv 2)) (pg_name (i := 3) sc_law_down.nd rfl (Or.inl rfl))
        (pss_cons (ps_setC (i₀ := 4) sc_law_down.nd rfl (Or.inl rfl) ["one"] [none] rfl (piL K (pc D.grown Ggrown (hr.mono (by decide)) (pa_cons (pe_callTy (cList K) (by rfl) T.z_list boot_list (pa_cons (pv 0) pa_nil)) pa_nil))) (fun _ => pg_name (i := 0) (nodupN (N := ["one"]) (by decide +kernel)) rfl (Or.inl rfl)) (fun _ => pif_nil) (fun _ => (pe_callTy (cList K) (by rfl) T.z_list boot_list (pa_cons (pv 0) pa_nil))) ((.cons (fun _ e => by cases e) .nil)))
        (pss_cons (ps_if (pt_cmpR (eqD K hr.units) (pv 4) (pe_lst pa_nil) (nomark _))
          (pss_one (ps_ret pe_bl))
          pss_nil)
        (pss_cons (ps_setC (i₀ := 5) sc_law_down.nd rfl (Or.inl rfl) ["one", "tie"] [none, some 1] rfl (piL K (pv 4)) (fun _ => pg_name (i := 0) (nodupN (N := ["one", "tie"]) (by decide +kernel)) rfl (Or.inl rfl)) (fun _ => pif_nil) (fun _ => (pc D.breaks Gbreaks (hr.mono (by decide)) (pa_cons (pe_callTy (cList K) (by rfl) T.z_list boot_list (pa_cons (pv 0) pa_nil)) (pa_cons (pv 1) pa_nil)))) ((.cons (fun _ e => by cases e) (.cons (fun _ e => by cases e; exact ⟨rfl, rfl⟩) .nil))))
        (pss_cut (ps_if (pt_cmpR op_isB (pc D.breaks Gbreaks (hr.mono (by decide)) (pa_cons (pe_callTy (cList K) (by rfl) T.z_list boot_list (pa_cons (pv 0) pa_nil)) (pa_cons (pv 1) pa_nil))) pe_bl (nomark _))
          (pss_one (ps_if (pt_cmpR (neD K hr.units) (pv 5) (pe_op op_rep (pe_lst (pa_cons pe_bl pa_nil)) (pe_callB (cLen K) (by rfl) T.z_len boot_len (pa_cons (pv 4) pa_nil))) (nomark _))
            (pss_one (ps_ret pe_bl))
            pss_nil))
          (pss_one (ps_if (pt_cmpR (ninS K) pe_bl (pv 5) (by with_unfolding_all rfl))
            (pss_one (ps_ret pe_bl))
            pss_nil)))
        (pss_one (ps_set (i := 0) sc_law_down.nd rfl (Or.inl rfl) (pe_ix (ixL K) (pv 4) (pe_op op_mod (pv 3) (pe_callB (cLen K) (by rfl) T.z_len boot_len (pa_cons (pv 4) pa_nil))) (fun _ _ => rfl)))))))))
      (pss_cons (ps_setC (i₀ := 6) sc_law_down.nd rfl (Or.inl rfl) ["number"] [none] rfl (piL K (pv 0)) (fun _ => pg_name (i := 0) (nodupN (N := ["number"]) (by decide +kernel)) rfl (Or.inl rfl)) (fun _ => pif_nil) (fun _ => (pe_op op_add (pv 0) pe_int)) ((.cons (fun _ e => by cases e) .nil)))
      (pss_one (ps_ret (pe_and (pe_cmpR op_ne (pc D.breaks Gbreaks (hr.mono (by decide)) (pa_cons (pe_callTy (cList K) (by rfl) T.z_list boot_list (pa_cons (pv 0) pa_nil)) (pa_cons (pv 1) pa_nil))) (pc D.keeps Gkeeps (hr.mono (by decide)) (pa_cons (pv 6) (pa_cons (pv 1) pa_nil))) (nomark _)) (pe_one (pe_cmpR (eqD K hr.units) (pc D.shape Gshape (hr.mono (by decide)) (pa_cons (pv 6) pa_nil)) (pv 0) (nomark _)))))))), ?_⟩
    have nd : st.Nodup := ti.up.imp fun h => Nat.ne_of_lt h
    have sl : st.length ≤ 6 := by
      have := nd.length_le_of_subset (l₂ := List.range cs.length) fun i hi => List.mem_range.mpr (ti.lt i hi)
      rw [List.length_range] at this
      omega
    have ekp : ∀ f : List Int, (if wd = "most" then decide (((unl (fun i => f.getD i 0) st : Nat) : Int) ≤ k) else decide (k ≤ ((unl (fun i => f.getD i 0) st : Nat) : Int))) = kp (fun i => f.getD i 0) wd k st := fun f => rfl
    refine ⟨_, rfl, ca, rfl, ⟨_, hca⟩, ?_⟩
    refine for_list (K := K) (a := ca) (xs := cs.map V.int) (fun i σ H1 => ∃ (pb : Addr) (p : List Int) (x y z : Option V), σ = [some (.ref pb), some (.ref tp), some (.ref ca), x, y, z, none] ∧ Same H H1 ∧ H1 pb = some (.lst (p.map V.int)) ∧ Canon p ∧ p.length = i)
      ⟨pa, [], none, none, none, rfl, Same.refl _, hpa, canon_nil, rfl⟩ (fun i σ H1 _ ⟨_, _, _, _, _, _, s, _⟩ => s.seq hca) ?_ ?_
    · rintro i y σ H1 hi ⟨pb, p, x, y', z, rfl, s1, hpb, c, pl⟩
      obtain ⟨d, hd, rfl, _⟩ := at_int hi
      have hil : i < cs.length := (List.getElem?_eq_some_iff.mp hd).1
      have dl := dd_len p
      -- the grown ones
      refine ⟨_, rfl, pb, _, rfl, .inl (SqL.of hpb), fun c1 n1 => ⟨c1, p, rfl, upd_same, by omega, fun gl rs H2 s2 ngl hgl hrs rall => ⟨gl, rfl, ⟨_, SqL.of hgl⟩, ?_⟩⟩⟩
      have s12 := (Same.new (o := .lst (p.map V.int)) n1).trans s2
      refine comp_lists (xs := rs.map V.ref) (fun i => (p ++ [(i : Int)]).map V.int) (SqL.of hgl) (by rw [List.length_map]; omega) (fun j x hx H3 R s3 k => ?_) fun lo ls H3 s3 nlo hlo hls hall hne => ?_
      · rw [List.getElem?_map] at hx
        obtain ⟨r, hr, rfl⟩ := Option.map_eq_some_iff.mp hx
        exact ⟨_, rfl, r, _, rfl, .inl (SqL.of (s3 _ _ (rall j r hr).1)), fun l nl => k l _ (Same.new nl) nl upd_same⟩
      rw [List.length_map, hrs] at hls
      have s13 := s12.trans s3
      have s03 := s1.trans s13
      -- there are some
      refine ⟨_, rfl, szr, fun e1 n1 => ⟨1, false, DEq.len (SqL.of (Same.new n1 _ _ hlo)) (SqL.of upd_same) (by rw [List.length_map, hls]; simp), by decide, rfl, _, rfl, iteF ?_⟩⟩
      have s34 := Same.new (o := .lst []) n1
      generalize upd H3 e1 (.lst []) = H4 at s34
      have s04 := s03.trans s34
      have hlo4 := s34 _ _ hlo
      -- worse
      refine ⟨_, rfl, lo, rfl, ⟨_, SqL.of hlo4⟩, ?_⟩
      refine comp_list2 (xs := ls.map V.ref) (fun _ => true) (fun (j : Nat) => .bl (brk (fun i => (p ++ [(j : Int)]).getD i 0) (p ++ [(j : Int)]).length wd k st)) (SqL.of hlo4) (by rw [List.length_map]; omega) (fun _ _ _ _ _ _ k => k _ (Same.refl _)) (fun j x hx _ H5 R s5 kk => ?_) fun wr H5 s5 nwr hwr => ?_
      · rw [List.getElem?_map] at hx
        obtain ⟨r, hr, rfl⟩ := Option.map_eq_some_iff.mp hx
        have hr5 := s5 _ _ (s34 _ _ (hall j r hr).1)
        refine ⟨_, rfl, r, _, rfl, .inl (SqL.of hr5), fun c2 n2 => ?_⟩
        have s6 := Same.new (o := .lst ((p ++ [(j : Int)]).map V.int)) n2
        have s06 := (s04.trans s5).trans s6
        exact ⟨_, rfl, c2, tp, t, p ++ [(j : Int)], st, wd, k, rfl, SqL.of upd_same, SqT.of (s06 _ _ ti.tp), SqT.of (s06 _ _ ti.ts), ti.wd, sl, fun H7 s7 => kk H7 (s6.trans s7)⟩
      rw [List.filter_eq_self.mpr (fun _ _ => rfl), List.length_map, hls] at hwr
      have s05 := s04.trans s5
      have hlo5 := s5 _ _ hlo4
      have hpb5 := s5 _ _ (s34 _ _ (s13 _ _ hpb))
      refine ⟨fun σ Hx => σ = [some (.ref pb), some (.ref tp), some (.ref ca), some (.int d), some (.ref lo), some (.ref wr), none] ∧ Same H5 Hx, ?_, ?_⟩
      · refine ⟨_, rfl, pb, _, rfl, .inl (SqL.of hpb5), fun c2 n2 => ?_⟩
        have s6 := Same.new (o := .lst (p.map V.int)) n2
        have s06 := s05.trans s6
        refine ⟨_, rfl, c2, tp, t, p, st, wd, k, rfl, SqL.of upd_same, SqT.of (s06 _ _ ti.tp), SqT.of (s06 _ _ ti.ts), ti.wd, sl, fun H7 s7 => ⟨_, _, rfl, rfl, _, rfl, ?_⟩⟩
        have s57 := s6.trans s7
        have hwr7 := s57 _ _ hwr
        rw [beqT]
        refine ifB (fun hb => ?_) fun hb => ?_
        · have ew : (List.range ((dd p).length + 1)).map (fun (j : Nat) => V.bl (brk (fun i => (p ++ [(j : Int)]).getD i 0) (p ++ [(j : Int)]).length wd k st)) = List.replicate ((dd p).length + 1) (V.bl true) := by
            rw [List.eq_replicate_iff]
            refine ⟨by simp, fun x hx => ?_⟩
            obtain ⟨j, _, e⟩ := List.mem_map.mp hx
            rw [← e, brk_up hb]
          rw [ew] at hwr7
          refine ⟨_, rfl, szr, fun p1 m1 => ⟨_, rfl, _, _, rfl, .inl ⟨_, SqL.of (Same.new m1 _ _ (s57 _ _ hlo5)), rfl⟩, p1, _, _, rfl, rfl, upd_same, by omega, by rw [List.length_map]; omega, ?_, fun p2 m2 => ?_⟩⟩
          · exact szl (by simp; omega)
          have e2 : (((ls.map V.ref).length : Nat) : Int).toNat = (dd p).length + 1 := by rw [List.length_map, hls]; omega
          rw [e2, rep_bl]
          have s9 := (Same.new (o := .lst [.bl true]) m1).to (o := .lst (List.replicate ((dd p).length + 1) (V.bl true))) m2
          refine ⟨1, true, deq_flat (SqL.of (s9 _ _ hwr7)) (SqL.of upd_same) (fun x hx => by rw [List.eq_of_mem_replicate hx]; rfl), by decide, rfl, _, rfl, iteF ?_⟩
          exact ⟨rfl, s57.trans s9⟩
        · obtain ⟨j, hj, bj⟩ := brk_leave c ti.wd ti.k1 nd hb
          refine ⟨_, rfl, wr, _, rfl, .inl (SqL.of hwr7), rfl, ?_, _, rfl, ?_⟩
          · refine List.all_eq_true.mpr fun x hx => ?_
            obtain ⟨j, _, e⟩ := List.mem_map.mp hx
            rw [← e]; rfl
          · rw [if_pos rfl, in_false (B := fun (j : Nat) => brk (fun i => (p ++ [(j : Int)]).getD i 0) (p ++ [(j : Int)]).length wd k st) (by omega : j < (dd p).length + 1) bj]
            exact iteF ⟨rfl, s57⟩
      · rintro σ Hx ⟨rfl, sx⟩
        have hlox := sx _ _ hlo5
        have ll : (0 : Int) < (((ls.map V.ref).length : Nat) : Int) := by rw [List.length_map]; omega
        have b1 := Int.emod_nonneg d (show (((ls.map V.ref).length : Nat) : Int) ≠ 0 by omega)
        have b2 := Int.emod_lt_of_pos d ll
        obtain ⟨j, hj⟩ : ∃ j : Nat, d % (((ls.map V.ref).length : Nat) : Int) = (j : Int) := ⟨(d % (((ls.map V.ref).length : Nat) : Int)).toNat, by omega⟩
        have jl : j < ls.length := by rw [List.length_map] at b2 hj; omega
        have gj : ls[j]? = some ls[j] := List.getElem?_eq_getElem jl
        refine ⟨_, rfl, _, rfl, _, rfl, _, _, rfl, .inl ⟨_, SqL.of hlox, rfl⟩, _, _, rfl, rfl, ll, lo, _, _, _, rfl, rfl, SqL.of hlox, (by (try dsimp only); rw [hj]; exact atI_nat (by rw [List.getElem?_map, gj]; rfl)), ?_⟩
        exact ⟨ls[j], p ++ [(j : Int)], _, _, _, rfl, s05.trans sx, sx _ _ (s5 _ _ (s34 _ _ (hall j _ gj).1)), canon_snoc c (by omega), by simp [pl]⟩
    · rintro σ H1 ⟨pb, p, x, y', z, rfl, s1, hpb, c, pl⟩
      rw [List.length_map] at pl
      refine ⟨_, rfl, pb, rfl, ⟨_, SqL.of hpb⟩, ?_⟩
      refine comp_list2 (xs := p.map V.int) (fun _ => true) (fun j => .int (p.getD j 0 + 1)) (SqL.of hpb) (by rw [List.length_map]; omega) (fun _ _ _ _ _ _ k => k _ (Same.refl _)) (fun j x hx _ H5 R s5 k => ?_) fun bd H2 s2 nbd hbd => ?_
      · obtain ⟨d, hd, rfl, ed⟩ := at_int hx
        rw [ed] at k
        exact ⟨_, rfl, _, _, rfl, rfl, k H5 (Same.refl _)⟩
      rw [List.filter_eq_self.mpr (fun _ _ => rfl), List.length_map] at hbd
      have e3 : (List.range p.length).map (fun j => V.int (p.getD j 0 + 1)) = (p.map fun x => x + 1).map V.int := by
        rw [List.map_map]
        exact map_at fun i x hx => by rw [List.getD_eq_getElem?_getD, hx]; rfl
      rw [e3] at hbd
      have s02 := s1.trans s2
      have lt : ∀ i ∈ st, i < p.length := fun i hi => by rw [pl]; exact ti.lt i hi
      have gm : ∀ i, i < p.length → (p.map fun x => x + 1).getD i 0 = p.getD i 0 + 1 := fun i hi => by simp [List.getD_eq_getElem?_getD, hi]
      have hpb2 := s2 _ _ hpb
      refine ⟨_, rfl, pb, _, rfl, .inl (SqL.of hpb2), fun c2 n2 => ?_⟩
      have s6 := Same.new (o := .lst (p.map V.int)) n2
      have s06 := s02.trans s6
      refine ⟨_, rfl, c2, tp, t, p, st, wd, k, rfl, SqL.of upd_same, SqT.of (s06 _ _ ti.tp), SqT.of (s06 _ _ ti.ts), ti.wd, sl, fun H7 s7 => ?_⟩
      have s27 := s6.trans s7
      have s07 := s02.trans s27
      refine ⟨_, rfl, _, rfl, bd, tp, t, p.map fun x => x + 1, st, wd, k, rfl, SqL.of (s27 _ _ hbd), SqT.of (s07 _ _ ti.tp), SqT.of (s07 _ _ ti.ts), ti.wd, (fun i hi => by rw [List.length_map]; exact lt i hi), sl, fun H8 s8 => ?_⟩
      have ek : kp (fun i => (p.map fun x => x + 1).getD i 0) wd k st = kp (fun i => p.getD i 0) wd k st := kp_iff lt fun i hi j hj => by
        show (p.map fun x => x + 1).getD i 0 = (p.map fun x => x + 1).getD j 0 ↔ p.getD i 0 = p.getD j 0
        rw [gm i hi, gm j hj]; omega
      rw [ekp, ek, brk_whole lt]
      refine ⟨rfl, _, rfl, ?_⟩
      rw [neB_true (by cases kp (fun i => p.getD i 0) wd k st <;> decide)]
      refine iteT ?_
      have s28 := s27.trans s8
      refine ⟨_, rfl, bd, p.map fun x => x + 1, rfl, SqL.of (s28 _ _ hbd), by rw [List.length_map]; omega, fun sh H9 s9 nsh hsh => ?_⟩
      rw [int_list, shp_inj (fun x _ y _ e => by omega), ← c] at hsh
      refine ⟨_, rfl, 1, true, deq_flat (SqL.of hsh) (SqL.of (s9 _ _ (s28 _ _ hpb2))) flat_ints, by decide, rfl, ?_⟩
      exact q H9 ((s02.trans s28).trans s9)
/-! ### law -/
def sp_law (K : PySem.W.Frag) : Sp := fun vs H Q _ => ∃ (a : Addr) (ns : List Int), vs = [.ref a] ∧ SqL K H a (ns.map V.int) ∧ ns.length ≤ 63 ∧ ∀ H', Q (.bl true) H'
theorem ifEq2 {i j : Int} {A B R S : Prop} (h1 : i = j → (S → R) → A) (h2 : i ≠ j → (S → R) → B) (r : S → R) : if decide (V.int i = V.int j) = true then A else B := ifEq (fun h => h1 h r) fun h => h2 h r
def mu19 (n : Nat) : L2.St → Hp → Nat := fun σ _ => match σ with
  | [_, some (.int c), _, _] => 100 + n - c.toNat
  | _ => 0
theorem sc_law : FnScope ["script", "at", "count", "tie"] ["script"] (defScope s_law) := ⟨rfl, rfl, rfl, by decide +kernel, rfl, by decide +kernel, by decide +kernel⟩
theorem ok_law (D : Dfs K mg a_keeps a_breaks a_unlike a_shape a_width a_grown a_law_at a_law_tie a_law_down a_law d_keeps d_breaks d_unlike d_shape d_width d_grown d_law_at d_law_tie d_law_down d_law) (T : Txt mg) : FnOk P w K mg base CX0 4 a_law d_law ["script"] (sp_law K) := by
  have Glaw_at : FnOk P w K mg base CX0 1 a_law_at d_law_at ["script", "k"] (sp_law_at K) := ok_law_at D T
  have Glaw_tie : FnOk P w K mg base CX0 1 a_law_tie d_law_tie ["cell", "many"] (sp_law_tie K) := ok_law_tie D T
  have Glaw_down : FnOk P w K mg base CX0 3 a_law_down d_law_down ["pattern", "tie", "cells"] (sp_law_down K) := ok_law_down D T
  refine D.law.fn.ok sc_law (fun vs H Q E h => ?_) (fun cdv A outer s H vs Q E hr h => ?_)
  · obtain ⟨a, ns, rfl, _⟩ := h; rfl
  · have hu := hu_of hr
    obtain ⟨a, ns, rfl, hS, hl, q⟩ := h
    refine ⟨_, (pss_cons (ps_set (i := 1) sc_law.nd rfl (Or.inr rfl) pe_int)
      (pss_cons (ps_while PassesOwn.never (PW.pt (pw_or (pt_cmpR op_eq (pv 1) pe_int (nomark _)) (pw_or1 (pt_cmpR op_lt (pv 1) (pe_callB (cLen K) (by rfl) T.z_len boot_len (pa_cons (pv 0) pa_nil)) (nomark _)))))
        (pss_cons (ps_set (i := 2) sc_law.nd rfl (Or.inl rfl) (pe_op op_add pe_int (pe_op op_mod (pc D.law_at Glaw_at (hr.mono (by decide)) (pa_cons (pv 0) (pa_cons (pv 1) pa_nil))) pe_int)))
        (pss_cons (ps_set (i := 3) sc_law.nd rfl (Or.inl rfl) (pc D.law_tie Glaw_tie (hr.mono (by decide)) (pa_cons (pc D.law_at Glaw_at (hr.mono (by decide)) (pa_cons (pv 0) (pa_cons (pe_op op_add (pv 1) pe_int) pa_nil))) (pa_cons (pv 2) pa_nil))))
        (pss_cons (ps_if (pt_not (pt_val (pc D.law_down Glaw_down (hr.mono (by decide)) (pa_cons (pe_lst pa_nil) (pa_cons (pv 3) (pa_cons (pe_lcomp ["k", "script", "at"] [none, some 0, some 1] rfl (pi_range1 rfl T.z_range (pa_cons (pv 2) pa_nil)) (fun _ => pg_name (i := 0) (nodupN (N := ["k", "script", "at"]) (by decide +kernel)) rfl (Or.inl rfl)) (fun _ => pif_nil) (fun _ => (pc D.law_at Glaw_at (hr.mono (by decide)) (pa_cons (pv 1) (pa_cons (pe_op op_add (pe_op op_add (pv 2) pe_int) (pv 0)) pa_nil)))) ((.cons (fun _ e => by cases e) (.cons (fun _ e => by cases e; exact ⟨rfl, rfl⟩) (.cons (fun _ e => by cases e; exact ⟨rfl, rfl⟩) .nil))))) pa_nil))))))
          (pss_one (ps_ret pe_bl))
          pss_nil)
        (pss_one (ps_set (i := 1) sc_law.nd rfl (Or.inr rfl) (pe_op op_add (pe_op op_add (pv 1) pe_int) (pv 2))))))))
      (pss_one (ps_ret pe_bl)))), ?_⟩
    refine while_by (fun σ H1 => ∃ (i : Nat) (x y : Option V), σ = [some (.ref a), some (.int ((i : Nat) : Int)), x, y] ∧ i ≤ 80 ∧ Same H H1) (mu19 ns.length)
      ⟨0, none, none, rfl, by omega, Same.refl _⟩ ?_ ?_
    · rintro σ H1 ⟨i, x, y, rfl, hi, s1⟩
      refine ⟨_, rfl, rfl, _, rfl, ifEq2 (S := i ≤ 63) (fun e k => iteT (k (by omega))) (fun n k => ?_) ?_⟩
      · refine ⟨_, rfl, _, rfl, _, _, rfl, .inl ⟨_, s1.seq hS, rfl⟩, _, _, rfl, rfl, _, rfl, ifD (fun hlt => k ?_) fun hge => q _⟩
        rw [List.length_map] at hlt
        omega
      intro hi63
      refine ⟨_, rfl, _, rfl, a, ns, i, rfl, s1.seq hS, ?_⟩
      have w1 := Int.emod_nonneg (ns.getD i 0) (show (6 : Int) ≠ 0 by decide)
      have w2 := Int.emod_lt_of_pos (ns.getD i 0) (show (0 : Int) < 6 by decide)
      refine ⟨_, _, rfl, rfl, (show (0 : Int) < 6 by decide), _, _, rfl, rfl, ?_⟩
      obtain ⟨m, hm⟩ : ∃ m : Nat, 1 + ns.getD i 0 % 6 = (m : Int) := ⟨(1 + ns.getD i 0 % 6).toNat, by omega⟩
      dsimp only
      rw [hm]
      have e1 : (i : Int) + 1 = ((i + 1 : Nat) : Int) := by omega
      refine ⟨_, rfl, _, rfl, _, _, rfl, rfl, a, ns, i + 1, (by show [V.ref a, V.int ((i : Int) + 1)] = _; rw [e1]), s1.seq hS, _, rfl, _, m, rfl, by omega, by omega, fun tp t wd kk st H2 s2 ti _ => ?_⟩
      refine ⟨szr, fun pa npa => ⟨_, rfl, _, rfl, _, rfl, by omega, by omega, ?_⟩⟩
      rw [Int.toNat_natCast]
      have s2p := Same.new (o := .lst []) npa
      have hpa : upd H2 pa (.lst []) pa = some (.lst []) := upd_same
      generalize upd H2 pa (.lst []) = H2' at s2p hpa
      refine comp_range (n := m) (fun j => .int (ns.getD (i + 2 + j) 0)) (by omega) (fun j hj H3 R s3 k => ?_) fun acc H3 s3 nacc hacc => ?_
      · have e2 : (i : Int) + 2 + (0 + (j : Int)) = ((i + 2 + j : Nat) : Int) := by omega
        exact ⟨_, rfl, _, rfl, _, _, rfl, rfl, _, rfl, _, _, rfl, rfl, a, ns, i + 2 + j, (by show [V.ref a, V.int ((i : Int) + 2 + (0 + (j : Int)))] = _; rw [e2]), (((s1.trans s2).trans s2p).trans s3).seq hS, k H3 (Same.refl _)⟩
      have eh : (List.range m).map (fun j => V.int (ns.getD (i + 2 + j) 0)) = ((List.range m).map fun j => ns.getD (i + 2 + j) 0).map V.int := by rw [List.map_map]; rfl
      rw [eh] at hacc
      have lh : ((List.range m).map fun j => ns.getD (i + 2 + j) 0).length = m := by simp
      generalize (List.range m).map (fun j => ns.getD (i + 2 + j) 0) = cs at hacc lh
      have s23 := s2p.trans s3
      have ti3 : TieAt H3 tp t wd kk st cs.length := by
        rw [lh]; exact ⟨s23 _ _ ti.tp, s23 _ _ ti.ts, ti.wd, ti.k1, ti.k6, ti.lt, ti.up⟩
      refine ⟨pa, tp, t, acc, st, wd, kk, cs, rfl, s3 _ _ hpa, ti3, SqL.of hacc, by omega, fun H4 s4 => ⟨_, rfl, iteF ?_⟩⟩
      refine ⟨_, rfl, _, _, rfl, rfl, _, rfl, _, _, rfl, rfl, ⟨i + 2 + m, some (.int ((m : Nat) : Int)), some (.ref tp), ?_, by omega, ((s1.trans s2).trans s23).trans s4⟩, ?_⟩
      · have e3 : (i : Int) + 2 + (m : Int) = ((i + 2 + m : Nat) : Int) := by omega
        rw [← e3]; rfl
      · show 100 + ns.length - ((i : Int) + 2 + (m : Int)).toNat < 100 + ns.length - ((i : Int)).toNat
        omega
    rintro σ H1 Q1 Q2 f h
    obtain ⟨v, h1, h2, c, h3, h4⟩ := h
    refine ⟨v, h1, h2, c, h3, ?_⟩
    cases c with
    | true => exact f _ _ h4
    | false =>
      obtain ⟨v, h1, v2, h2, x, n', h3, h4, i, j, h5, h6, c, h7, h8⟩ := h4
      exact ⟨v, h1, v2, h2, x, n', h3, h4, i, j, h5, h6, c, h7, f _ _ h8⟩

end
/-! ### the head -/
theorem all_mk {l : PySem.W.OpenLaw} {w : World} {K : PySem.W.Frag} {h : Heap} {mg : Str → Option Value} {fa f_keeps f_breaks f_unlike f_shape f_width f_grown f_law_at f_law_tie f_law_down f_law : Addr} (X : K.In h) (G : h.Ns mainGlobals mg) (hfa : mg "law" = some (.ref fa))
    {od_keeps an_keeps : Option Addr} {sl_keeps : Array (Option Value)} {oc_keeps kV_keeps dc_keeps pm_keeps cd_keeps ct_keeps : Value}
    {od_breaks an_breaks : Option Addr} {sl_breaks : Array (Option Value)} {oc_breaks kV_breaks dc_breaks pm_breaks cd_breaks ct_breaks : Value}
    {od_unlike an_unlike : Option Addr} {sl_unlike : Array (Option Value)} {oc_unlike kV_unlike dc_unlike pm_unlike cd_unlike ct_unlike : Value}
    {od_shape an_shape : Option Addr} {sl_shape : Array (Option Value)} {oc_shape kV_shape dc_shape pm_shape cd_shape ct_shape : Value}
    {od_width an_width : Option Addr} {sl_width : Array (Option Value)} {oc_width kV_width dc_width pm_width cd_width ct_width : Value}
    {od_grown an_grown : Option Addr} {sl_grown : Array (Option Value)} {oc_grown kV_grown dc_grown pm_grown cd_grown ct_grown : Value}
    {od_law_at an_law_at : Option Addr} {sl_law_at : Array (Option Value)} {oc_law_at kV_law_at dc_law_at pm_law_at cd_law_at ct_law_at : Value}
    {od_law_tie an_law_tie : Option Addr} {sl_law_tie : Array (Option Value)} {oc_law_tie kV_law_tie dc_law_tie pm_law_tie cd_law_tie ct_law_tie : Value}
    {od_law_down an_law_down : Option Addr} {sl_law_down : Array (Option Value)} {oc_law_down kV_law_down dc_law_down pm_law_down cd_law_down ct_law_down : Value}
    {od_law an_law : Option Addr} {sl_law : Array (Option Value)} {oc_law kV_law dc_law pm_law cd_law ct_law : Value}
    (a_keeps : PySem.W.nsIn K mainGlobals "keeps" = some (some (.ref f_keeps))) (l_keeps : K.lookup f_keeps = some ⟨oc_keeps, od_keeps, .func (PySem.W.fnOf "keeps" "keeps" (defArgs s_keeps) (defBody s_keeps) (defScope s_keeps) .none kV_keeps dc_keeps pm_keeps an_keeps cd_keeps ct_keeps), sl_keeps⟩) (c_keeps : PySem.W.codeIn K cd_keeps "keeps" = true) (k_keeps : PySem.W.keepIn K (.ref f_keeps) = true)
    (a_breaks : PySem.W.nsIn K mainGlobals "breaks" = some (some (.ref f_breaks))) (l_breaks : K.lookup f_breaks = some ⟨oc_breaks, od_breaks, .func (PySem.W.fnOf "breaks" "breaks" (defArgs s_breaks) (defBody s_breaks) (defScope s_breaks) .none kV_breaks dc_breaks pm_breaks an_breaks cd_breaks ct_breaks), sl_breaks⟩) (c_breaks : PySem.W.codeIn K cd_breaks "breaks" = true) (k_breaks : PySem.W.keepIn K (.ref f_breaks) = true)
    (a_unlike : PySem.W.nsIn K mainGlobals "unlike" = some (some (.ref f_unlike))) (l_unlike : K.lookup f_unlike = some ⟨oc_unlike, od_unlike, .func (PySem.W.fnOf "unlike" "unlike" (defArgs s_unlike) (defBody s_unlike) (defScope s_unlike) .none kV_unlike dc_unlike pm_unlike an_unlike cd_unlike ct_unlike), sl_unlike⟩) (c_unlike : PySem.W.codeIn K cd_unlike "unlike" = true) (k_unlike : PySem.W.keepIn K (.ref f_unlike) = true)
    (a_shape : PySem.W.nsIn K mainGlobals "shape" = some (some (.ref f_shape))) (l_shape : K.lookup f_shape = some ⟨oc_shape, od_shape, .func (PySem.W.fnOf "shape" "shape" (defArgs s_shape) (defBody s_shape) (defScope s_shape) .none kV_shape dc_shape pm_shape an_shape cd_shape ct_shape), sl_shape⟩) (c_shape : PySem.W.codeIn K cd_shape "shape" = true) (k_shape : PySem.W.keepIn K (.ref f_shape) = true)
    (a_width : PySem.W.nsIn K mainGlobals "width" = some (some (.ref f_width))) (l_width : K.lookup f_width = some ⟨oc_width, od_width, .func (PySem.W.fnOf "width" "width" (defArgs s_width) (defBody s_width) (defScope s_width) .none kV_width dc_width pm_width an_width cd_width ct_width), sl_width⟩) (c_width : PySem.W.codeIn K cd_width "width" = true) (k_width : PySem.W.keepIn K (.ref f_width) = true)
    (a_grown : PySem.W.nsIn K mainGlobals "grown" = some (some (.ref f_grown))) (l_grown : K.lookup f_grown = some ⟨oc_grown, od_grown, .func (PySem.W.fnOf "grown" "grown" (defArgs s_grown) (defBody s_grown) (defScope s_grown) .none kV_grown dc_grown pm_grown an_grown cd_grown ct_grown), sl_grown⟩) (c_grown : PySem.W.codeIn K cd_grown "grown" = true) (k_grown : PySem.W.keepIn K (.ref f_grown) = true)
    (a_law_at : PySem.W.nsIn K mainGlobals "_law_at" = some (some (.ref f_law_at))) (l_law_at : K.lookup f_law_at = some ⟨oc_law_at, od_law_at, .func (PySem.W.fnOf "_law_at" "_law_at" (defArgs s_law_at) (defBody s_law_at) (defScope s_law_at) .none kV_law_at dc_law_at pm_law_at an_law_at cd_law_at ct_law_at), sl_law_at⟩) (c_law_at : PySem.W.codeIn K cd_law_at "_law_at" = true) (k_law_at : PySem.W.keepIn K (.ref f_law_at) = true)
    (a_law_tie : PySem.W.nsIn K mainGlobals "_law_tie" = some (some (.ref f_law_tie))) (l_law_tie : K.lookup f_law_tie = some ⟨oc_law_tie, od_law_tie, .func (PySem.W.fnOf "_law_tie" "_law_tie" (defArgs s_law_tie) (defBody s_law_tie) (defScope s_law_tie) .none kV_law_tie dc_law_tie pm_law_tie an_law_tie cd_law_tie ct_law_tie), sl_law_tie⟩) (c_law_tie : PySem.W.codeIn K cd_law_tie "_law_tie" = true) (k_law_tie : PySem.W.keepIn K (.ref f_law_tie) = true)
    (a_law_down : PySem.W.nsIn K mainGlobals "_law_down" = some (some (.ref f_law_down))) (l_law_down : K.lookup f_law_down = some ⟨oc_law_down, od_law_down, .func (PySem.W.fnOf "_law_down" "_law_down" (defArgs s_law_down) (defBody s_law_down) (defScope s_law_down) .none kV_law_down dc_law_down pm_law_down an_law_down cd_law_down ct_law_down), sl_law_down⟩) (c_law_down : PySem.W.codeIn K cd_law_down "_law_down" = true) (k_law_down : PySem.W.keepIn K (.ref f_law_down) = true)
    (a_law : PySem.W.nsIn K mainGlobals "law" = some (some (.ref f_law))) (l_law : K.lookup f_law = some ⟨oc_law, od_law, .func (PySem.W.fnOf "law" "law" (defArgs s_law) (defBody s_law) (defScope s_law) .none kV_law dc_law pm_law an_law cd_law ct_law), sl_law⟩) (c_law : PySem.W.codeIn K cd_law "law" = true) (k_law : PySem.W.keepIn K (.ref f_law) = true)
    (z_len : PySem.W.nsIn K mainGlobals "len" = some none)
    (z_list : PySem.W.nsIn K mainGlobals "list" = some none)
    (z_range : PySem.W.nsIn K mainGlobals "range" = some none)
    (z_set : PySem.W.nsIn K mainGlobals "set" = some none)
    (z_tuple : PySem.W.nsIn K mainGlobals "tuple" = some none)
    : ∃ fd : FuncData, (∀ (s : Shared) (v : Value), BindsTo s fd ⟨[v], []⟩ [("script", v)]) ∧ ∀ base : Heap, K.In base → base.Ns mainGlobals mg → FnOk l.prog w K mg base CX0 4 fa fd ["script"] (sp_law K) := by
  have e := hfa.symm.trans (PySem.W.mg_of X G a_law)
  cases e
  have T : Txt mg := ⟨PySem.W.mg_none_of X G z_len, PySem.W.mg_none_of X G z_list, PySem.W.mg_none_of X G z_range, PySem.W.mg_none_of X G z_set, PySem.W.mg_none_of X G z_tuple⟩
  have F_keeps := fun_mk (st := s_keeps) l_keeps c_keeps k_keeps
  have F_breaks := fun_mk (st := s_breaks) l_breaks c_breaks k_breaks
  have F_unlike := fun_mk (st := s_unlike) l_unlike c_unlike k_unlike
  have F_shape := fun_mk (st := s_shape) l_shape c_shape k_shape
  have F_width := fun_mk (st := s_width) l_width c_width k_width
  have F_grown := fun_mk (st := s_grown) l_grown c_grown k_grown
  have F_law_at := fun_mk (st := s_law_at) l_law_at c_law_at k_law_at
  have F_law_tie := fun_mk (st := s_law_tie) l_law_tie c_law_tie k_law_tie
  have F_law_down := fun_mk (st := s_law_down) l_law_down c_law_down k_law_down
  have F_law := fun_mk (st := s_law) l_law c_law k_law
  have b_keeps := F_keeps.binds (ps := ["hands", "tie"]) fun _ _ _ _ _ _ us hl => match us, hl with | [_, _], _ => rfl
  have b_breaks := F_breaks.binds (ps := ["pattern", "tie"]) fun _ _ _ _ _ _ us hl => match us, hl with | [_, _], _ => rfl
  have b_unlike := F_unlike.binds (ps := ["row", "steps"]) fun _ _ _ _ _ _ us hl => match us, hl with | [_, _], _ => rfl
  have b_shape := F_shape.binds (ps := ["hands"]) fun _ _ _ _ _ _ us hl => match us, hl with | [_], _ => rfl
  have b_width := F_width.binds (ps := ["pattern"]) fun _ _ _ _ _ _ us hl => match us, hl with | [_], _ => rfl
  have b_grown := F_grown.binds (ps := ["pattern"]) fun _ _ _ _ _ _ us hl => match us, hl with | [_], _ => rfl
  have b_law_at := F_law_at.binds (ps := ["script", "k"]) fun _ _ _ _ _ _ us hl => match us, hl with | [_, _], _ => rfl
  have b_law_tie := F_law_tie.binds (ps := ["cell", "many"]) fun _ _ _ _ _ _ us hl => match us, hl with | [_, _], _ => rfl
  have b_law_down := F_law_down.binds (ps := ["pattern", "tie", "cells"]) fun _ _ _ _ _ _ us hl => match us, hl with | [_, _, _], _ => rfl
  have b_law := F_law.binds (ps := ["script"]) fun _ _ _ _ _ _ us hl => match us, hl with | [_], _ => rfl
  exact ⟨PySem.W.fnOf "law" "law" (defArgs s_law) (defBody s_law) (defScope s_law) .none kV_law dc_law pm_law an_law cd_law ct_law, fun s v => .of_eq rfl, fun base _ _ => ok_law (⟨⟨F_keeps, b_keeps, PySem.W.mg_of X G a_keeps⟩, ⟨F_breaks, b_breaks, PySem.W.mg_of X G a_breaks⟩, ⟨F_unlike, b_unlike, PySem.W.mg_of X G a_unlike⟩, ⟨F_shape, b_shape, PySem.W.mg_of X G a_shape⟩, ⟨F_width, b_width, PySem.W.mg_of X G a_width⟩, ⟨F_grown, b_grown, PySem.W.mg_of X G a_grown⟩, ⟨F_law_at, b_law_at, PySem.W.mg_of X G a_law_at⟩, ⟨F_law_tie, b_law_tie, PySem.W.mg_of X G a_law_tie⟩, ⟨F_law_down, b_law_down, PySem.W.mg_of X G a_law_down⟩, ⟨F_law, b_law, PySem.W.mg_of X G a_law⟩⟩) T⟩
theorem walk {l : PySem.W.OpenLaw} {q : Program} {loose : List Str} {XP : (Str → Option Value) → Heap → Prop} {YP : World → Heap → Prop} {d : DefRec} {K : Params → PySem.W.Frag} (hn : l.most = some 63) (hdf : d.params.defaults = [])
    (hY : ∀ (w : World) (h : Heap), YP w h → (K w.params).In h)
    (F : ∀ (w : World) (mg : Str → Option Value) (fa : Addr) (h : Heap), (K w.params).In h → h.Ns mainGlobals mg → mg d.name = some (.ref fa) →
      ∃ fd : FuncData, (∀ (s : Shared) (u : Value), BindsTo s fd ⟨[u], []⟩ [("script", u)]) ∧ ∀ base : Heap, (K w.params).In base → base.Ns mainGlobals mg → FnOk l.prog w (K w.params) mg base CX0 4 fa fd ["script"] (sp_law (K w.params))) :
    PySem.W.WalkO q loose XP YP l.row.toRowW d [] (fun f vs => PySem.call f vs) :=
  L2.walk_of (n := 63) (k := 4) (x := "script") (CX := fun _ => CX0) (sp := fun w => sp_law (K w.params)) hn (by decide) hdf ⟨rfl, by decide, by decide⟩ hY F (fun _ _ a ns hl _ hS => ⟨a, ns, rfl, hS, hl, fun _ => rfl⟩) fun _ _ _ _ _ z => z
end My
open PySem PySem.W PyProof.Rows
set_option maxRecDepth 100000 in
set_option maxHeartbeats 0 in
theorem PySem.Challenge.cw_deskround_k19_whole_down_the_tree_holds : PySem.Challenge.rw_deskround_k19_whole_down_the_tree.Holds := by
  w_on; o_law; k_head; (case hw => w_witness2)
  k_fill
  refine My.walk (l := PySem.Challenge.rw_deskround_k19_whole_down_the_tree) rfl rfl (fun w h Y => PySem.W.kIn_of Y) ?F
  case F =>
    intro w mg fa h KX G hmg
    refine' My.all_mk KX G hmg ?a_keeps ?l_keeps ?c_keeps ?k_keeps ?a_breaks ?l_breaks ?c_breaks ?k_breaks ?a_unlike ?l_unlike ?c_unlike ?k_unlike ?a_shape ?l_shape ?c_shape ?k_shape ?a_width ?l_width ?c_width ?k_width ?a_grown ?l_grown ?c_grown ?k_grown ?a_law_at ?l_law_at ?c_law_at ?k_law_at ?a_law_tie ?l_law_tie ?c_law_tie ?k_law_tie ?a_law_down ?l_law_down ?c_law_down ?k_law_down ?a_law ?l_law ?c_law ?k_law ?z_len ?z_list ?z_range ?z_set ?z_tuple
    (case a_keeps => k_is); (case l_keeps => k_is); (case c_keeps => k_is); (case k_keeps => k_is)
    (case a_breaks => k_is); (case l_breaks => k_is); (case c_breaks => k_is); (case k_breaks => k_is)
    (case a_unlike => k_is); (case l_unlike => k_is); (case c_unlike => k_is); (case k_unlike => k_is)
    (case a_shape => k_is); (case l_shape => k_is); (case c_shape => k_is); (case k_shape => k_is)
    (case a_width => k_is); (case l_width => k_is); (case c_width => k_is); (case k_width => k_is)
    (case a_grown => k_is); (case l_grown => k_is); (case c_grown => k_is); (case k_grown => k_is)
    (case a_law_at => k_is); (case l_law_at => k_is); (case c_law_at => k_is); (case k_law_at => k_is)
    (case a_law_tie => k_is); (case l_law_tie => k_is); (case c_law_tie => k_is); (case k_law_tie => k_is)
    (case a_law_down => k_is); (case l_law_down => k_is); (case c_law_down => k_is); (case k_law_down => k_is)
    (case a_law => k_is); (case l_law => k_is); (case c_law => k_is); (case k_law => k_is)
    (case z_len => k_is)
    (case z_list => k_is)
    (case z_range => k_is)
    (case z_set => k_is)
    (case z_tuple => k_is)

