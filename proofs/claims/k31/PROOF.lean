import PyProof.Rows.All
import Wide.All
import OpenK.AllK
import Wide.FinOn
import Lean
import PyProof.EqAt
import PyProof.EqKinds
import PyProof.TupleCall
import PyProof.NeKinds
import PyProof.DictWalks
import PyProof.DictItems
import PyProof.CollectWalk
import KE.KDictList
import PyProof.AutoSeq1
import PyProof.Rows.Range3
import KE.KUnpack
import PyProof.MeetsSeq2
import PyProof.ZipIter
import KE.KRevSl
import PyProof.MeetsSeq
import PyProof.EnumMake
import PyProof.EnumFor
import PyProof.EnumStmt
import PyProof.MinMaxWalk
import PyProof.WalkInts
import PyProof.SumAny
import KE.KRevIter
import PyProof.Rows.FactsT2
import PyProof.IsiH_list
import PyProof.AttrMiss
import KE.KDictOf
import PySem.Challenge.RW_deskround_k31_sums_of_blocks
set_option Elab.async false
set_option linter.all false
set_option maxRecDepth 100000
namespace L2
open PySem PySem.Spec PyProof.Rows
abbrev Key := Sum Int Str
def keyIs : Key → Value → Bool
  | .inl k, v => Value.isInt k v
  | .inr x, v => Value.isStrOf x v
def keyH (w : World) : Key → Int
  | .inl k => hashInt k
  | .inr x => hashStr w x
theorem keyIs_shape : ∀ {k : Key} {v : Value}, keyIs k v = true → (∃ i t, k = Sum.inl i ∧ v = Value.int i t) ∨ (∃ x t, k = Sum.inr x ∧ v = Value.str x t)
  | .inl i, v, h => by
    obtain ⟨t, e⟩ := Value.isInt_shape (k := i) (v := v) h
    exact .inl ⟨i, t, rfl, e⟩
  | .inr x, v, h => by
    obtain ⟨t, e⟩ := Value.isStrOf_shape (x := x) (v := v) h
    exact .inr ⟨x, t, rfl, e⟩
theorem keyIs_int (i : Int) (t : Tok) : keyIs (.inl i) (.int i t) = true := by simp [keyIs, Value.isInt]
theorem keyIs_str (x : Str) (t : Tok) : keyIs (.inr x) (.str x t) = true := by simp [keyIs, Value.isStrOf]
theorem key_ll (a b : Int) : decide ((Sum.inl a : Key) = Sum.inl b) = (a == b) := by
  by_cases e : a = b
  · subst e; simp
  · have h : ¬ (Sum.inl a : Key) = Sum.inl b := fun q => e (Sum.inl.inj q)
    rw [decide_eq_false h]
    exact (beq_eq_false_iff_ne.mpr e).symm
theorem key_rr (a b : Str) : decide ((Sum.inr a : Key) = Sum.inr b) = decide (a = b) := by
  by_cases e : a = b
  · subst e; simp
  · have h : ¬ (Sum.inr a : Key) = Sum.inr b := fun q => e (Sum.inr.inj q)
    rw [decide_eq_false h, decide_eq_false e]
theorem key_lr (a : Int) (b : Str) : decide ((Sum.inl a : Key) = Sum.inr b) = false := decide_eq_false (fun q => nomatch q)
theorem key_rl (a : Str) (b : Int) : decide ((Sum.inr a : Key) = Sum.inl b) = false := decide_eq_false (fun q => nomatch q)
def mixKind (prog : Program) (w : World) : PySem.KeyKind prog w Key where
  is := keyIs
  hash := keyH w
  inj := fun v a b ha hb => by
    rcases keyIs_shape ha with ⟨i, t, rfl, rfl⟩ | ⟨x, t, rfl, rfl⟩
    · rcases keyIs_shape hb with ⟨j, u, rfl, e⟩ | ⟨y, u, rfl, e⟩
      · injection e with e1 _; rw [e1]
      · exact nomatch e
    · rcases keyIs_shape hb with ⟨j, u, rfl, e⟩ | ⟨y, u, rfl, e⟩
      · exact nomatch e
      · injection e with e1 _; rw [e1]
  byValue := fun k v h => by
    rcases keyIs_shape h with ⟨i, t, rfl, rfl⟩ | ⟨x, t, rfl, rfl⟩ <;> rfl
  pyHash := fun hv h => by
    rcases keyIs_shape hv with ⟨i, t, rfl, rfl⟩ | ⟨x, t, rfl, rfl⟩
    · exact wpAny_pyHash_int h
    · exact wpAny_pyHash_str h
  eqBool := fun hu hv h => by
    rcases keyIs_shape hu with ⟨i, t, rfl, rfl⟩ | ⟨x, t, rfl, rfl⟩
    · rcases keyIs_shape hv with ⟨j, u, rfl, rfl⟩ | ⟨y, u, rfl, rfl⟩
      · rw [key_ll] at h; exact wpAny_eqBool_int h
      · rw [key_lr] at h; exact SeqAt.EqAt.int_str i t y u _ _ _ _ h
    · rcases keyIs_shape hv with ⟨j, u, rfl, rfl⟩ | ⟨y, u, rfl, rfl⟩
      · rw [key_rl] at h; exact SeqAt.EqAt.str_int x t j u _ _ _ _ h
      · rw [key_rr] at h; exact wpAny_eqBool_str h
  «strs» := fun k x t v h => by
    rcases keyIs_shape h with ⟨i, u, rfl, e⟩ | ⟨y, u, rfl, e⟩
    · exact nomatch e
    · injection e with e1 _
      subst e1
      cases v <;> rfl
theorem mixKind_int (prog : Program) (w : World) (i : Int) (t : Tok) : (mixKind prog w).is (.inl i) (.int i t) = true := keyIs_int i t
theorem mixKind_str (prog : Program) (w : World) (x : Str) (t : Tok) : (mixKind prog w).is (.inr x) (.str x t) = true := keyIs_str x t
end L2
namespace L2
open PySem PySem.Spec PyProof.Rows
inductive V where
  | non | bl (b : Bool) | int (i : Int) | str (x : Str) | byt (b : Array UInt8) | flt (b : UInt64) | ref (a : Addr) | ty (n : String)
  deriving DecidableEq
def RelV : V → Value → Prop
  | .non, u => u = Value.none
  | .bl b, u => u = Value.bool b
  | .int i, u => ∃ t, u = Value.int i t
  | .str x, u => ∃ t, u = Value.str x t
  | .byt b, u => ∃ t, u = Value.bytes b t
  | .flt b, u => ∃ t, u = Value.float b t
  | .ref a, u => u = Value.ref a
  | .ty n, u => u = Value.type n
abbrev Vals : List V → List Value → Prop := Paired RelV
theorem Vals.length {xs : List V} {us : List Value} (r : Vals xs us) : xs.length = us.length := Paired.length r
theorem Vals.get : ∀ {xs : List V} {us : List Value} {i : Nat} {x : V}, Vals xs us → xs[i]? = some x → ∃ u, us[i]? = some u ∧ RelV x u
  | _, _, _, _, .nil, e => by simp at e
  | _, _, 0, _, .cons r _, e => by simp at e; subst e; exact ⟨_, rfl, r⟩
  | _, _, i + 1, x, .cons _ t, e => by
    obtain ⟨u, h1, h2⟩ := Vals.get (i := i) (x := x) t (by simpa using e)
    exact ⟨u, by simpa using h1, h2⟩
theorem Vals.set {x : V} {u : Value} (r : RelV x u) : ∀ {xs : List V} {us : List Value} (i : Nat), Vals xs us → Vals (xs.set i x) (us.set i u)
  | _, _, _, .nil => .nil
  | _, _, 0, .cons _ t => .cons r t
  | _, _, i + 1, .cons q t => .cons q (Vals.set r i t)
theorem Vals.append : ∀ {xs ys : List V} {us ws : List Value}, Vals xs us → Vals ys ws → Vals (xs ++ ys) (us ++ ws)
  | _, _, _, _, .nil, s => s
  | _, _, _, _, .cons r t, s => .cons r (Vals.append t s)
theorem Vals.take : ∀ {xs : List V} {us : List Value} (n : Nat), Vals xs us → Vals (xs.take n) (us.take n)
  | _, _, 0, _ => .nil
  | _, _, _ + 1, .nil => .nil
  | _, _, n + 1, .cons r t => .cons r (Vals.take n t)
theorem Vals.drop : ∀ {xs : List V} {us : List Value} (n : Nat), Vals xs us → Vals (xs.drop n) (us.drop n)
  | _, _, 0, r => r
  | _, _, _ + 1, .nil => .nil
  | _, _, n + 1, .cons _ t => Vals.drop n t
def RelO : Option V → Option Value → Prop
  | some v, some u => RelV v u
  | none, none => True
  | _, _ => False
def KV {κ : Type} : List (κ × V) → List (κ × Value) → Prop := Paired fun (p : κ × V) (q : κ × Value) => p.1 = q.1 ∧ RelV p.2 q.2
def kV : Key → V
  | .inl i => .int i
  | .inr x => .str x
inductive HO where
  /-- a list -/
  | lst (xs : List V)
  /-- a tuple (never changes) -/
  | tup (xs : List V)
  /-- a dict whose keys are ints and texts; one whose keys are tuples of ints and texts (the empty one is both) -/
  | dK (kvs : List (Key × V)) | dT (kvs : List (List Key × V))
  /-- a set of ints: its members, its size -/
  | set (S : Int → Bool) (n : Nat)
  /-- an instance of the class at C, its dict at dx, its attributes -/
  | ins (C dx : Addr) (fs : List (Str × V))
  /-- the dict of the instance at x -/
  | own (x : Addr)
  /-- the dict of an exception -/
  | xd (fs : List (Str × V))
  /-- a bound method, f of x -/
  | met (f x : Addr)
  /-- a range object lo, lo + 1, .. below hi -/
  | rng (lo hi : Int)
  /-- a thing that is known to the object (the script; a dict while a loop walks it): read, never written while it is so -/
  | frz (o : Obj) (u : HO)
  /-- a code object's table -/
  | tbl (ps : Array Value)
  /-- any other thing, by what is true of its one object (a def of one's own: SetO a S n := HO.ext fun h => ..) -/
  | ext (φ : Heap → Prop)
abbrev Hp := Addr → Option HO
def upd (H : Hp) (a : Addr) (o : HO) : Hp := fun b => if b = a then some o else H b
theorem upd_same {H : Hp} {a : Addr} {o : HO} : upd H a o a = some o := by unfold upd; rw [if_pos rfl]
theorem upd_ne {H : Hp} {a b : Addr} {o : HO} (h : b ≠ a) : upd H a o b = H b := by unfold upd; rw [if_neg h]
theorem ne_of_none {H : Hp} {a b : Addr} {o : HO} (h : H a = some o) (h' : H b = none) : a ≠ b := by
  intro e; subst e; rw [h] at h'; cases h'
section
variable (P : Program) (w : World)
def ObjOk (H : Hp) (h : Heap) (a : Addr) : HO → Prop
  | .lst xs => xs.length ≤ sizeLine ∧ ∃ (its : List Value) (n : Nat), Vals xs its ∧ h.get? a = some { cls := .type "list", data := .seq its.toArray n }
  | .tup xs => xs.length ≤ sizeLine ∧ ∃ its : List Value, Vals xs its ∧ IsTup h a its.toArray
  | .dK kvs => kvs.length ≤ sizeLine ∧ (a == sysModules) = false ∧ ∃ vs, KV kvs vs ∧ h.DictOf (mixKind P w) a vs
  | .dT kvs => kvs.length ≤ sizeLine ∧ (a == sysModules) = false ∧ ∃ xs : List (List Key × Addr × Value),
      Paired (fun (p : List Key × V) (q : List Key × Addr × Value) => p.1 = q.1 ∧ H q.2.1 = some (.tup (p.1.map kV)) ∧ RelV p.2 q.2.2) kvs xs ∧
      ∃ o es ep, h.get? a = some o ∧ o.ExactDict ∧ o.data = .dict es ep ∧ es.toList = xs.map (entryOfKey (tupleKind (mixKind P w))) ∧ (xs.map (·.1)).Nodup
  | .set S n => h.SetOf (intKind P w) a S n
  | .ins C dx fs => H dx = some (.own a) ∧ fs.length ≤ 1000 ∧ dx ≠ a ∧ h.get? a = some (PySem.W.instObj C dx) ∧
      ∃ mA, h.Ns1 dx mA ∧ (∀ f, RelO (fs.lookup f) (mA f)) ∧ PySem.Within mA (fs.map (·.1))
  | .own _ => ∃ o, h.get? a = some o
  | .xd fs => ∃ mA, h.Ns1 a mA ∧ ∀ f, RelO (fs.lookup f) (mA f)
  | .rng lo hi => ∃ t u v, h.get? a = some { cls := .type "range", data := .fields #[.int lo t, .int hi u, .int 1 v] }
  | .frz o u => h.get? a = some o ∧ ObjOk H h a u
  | .tbl ps => h.get? a = some { cls := .none, data := .fields ps }
  | .met f x => h.get? a = some (PySem.W.methodObj (.ref f) (.ref x))
  | .ext φ => φ h ∧ (∃ o, h.get? a = some o) ∧ ∀ h1 h2 : Heap, φ h1 → (∀ o, h1.get? a = some o → h2.get? a = some o) → φ h2
def HOk (H : Hp) (h : Heap) : Prop := ∀ a o, H a = some o → ObjOk P w H h a o
end
section
variable {P : Program} {w : World} {H H' : Hp} {h h' : Heap} {a : Addr} {o : HO}
theorem ObjOk.lt (x : ObjOk P w H h a o) : a < h.objs.size := by
  cases o with
  | lst xs => obtain ⟨_, _, _, _, e⟩ := x; exact Heap.lt_size e
  | tup xs => obtain ⟨_, _, _, p⟩ := x; exact p.lt
  | dK kvs => obtain ⟨_, _, _, _, o, _, _, e, _⟩ := x; exact Heap.lt_size e
  | dT kvs => obtain ⟨_, _, _, _, o, _, _, e, _⟩ := x; exact Heap.lt_size e
  | set S n => obtain ⟨o, _, _, _, e, _⟩ := x; exact Heap.lt_size e
  | ins C dx fs => obtain ⟨_, _, _, e, _⟩ := x; exact Heap.lt_size e
  | own y => obtain ⟨_, e⟩ := x; exact Heap.lt_size e
  | xd fs => obtain ⟨_, ⟨_, _, _, e, _⟩, _⟩ := x; exact Heap.lt_size e
  | rng lo hi => obtain ⟨_, _, _, e⟩ := x; exact Heap.lt_size e
  | frz ob u => obtain ⟨e, _⟩ := x; exact Heap.lt_size e
  | tbl ps => exact Heap.lt_size (show h.get? a = some _ from x)
  | met f y => exact Heap.lt_size (show h.get? a = some _ from x)
  | ext φ => obtain ⟨_, ⟨_, e⟩, _⟩ := x; exact Heap.lt_size e
theorem Paired.mapP {α β : Type} {F G : α → β → Prop} : ∀ {l₁ : List α} {l₂ : List β}, Paired F l₁ l₂ → (∀ a b, F a b → G a b) → Paired G l₁ l₂
  | _, _, .nil, _ => .nil
  | _, _, .cons r t, f => .cons (f _ _ r) (Paired.mapP t f)
theorem ObjOk.stay (x : ObjOk P w H h a o) (k : ∀ b u, (b = a ∨ H b = some (.own a)) → h.get? b = some u → h'.get? b = some u)
    (ho : ∀ b, H b = some (.own a) → H' b = some (.own a)) (ht : ∀ b xs, H b = some (.tup xs) → H' b = some (.tup xs)) : ObjOk P w H' h' a o := by
  induction o with
  | lst xs => obtain ⟨z, its, n, r, e⟩ := x; exact ⟨z, its, n, r, k _ _ (.inl rfl) e⟩
  | tup xs => obtain ⟨z, its, r, ob, e, c⟩ := x; exact ⟨z, its, r, ob, k _ _ (.inl rfl) e, c⟩
  | dK kvs => obtain ⟨z, y, vs, r, ob, es, ep, e, c⟩ := x; exact ⟨z, y, vs, r, ob, es, ep, k _ _ (.inl rfl) e, c⟩
  | dT kvs =>
    obtain ⟨z, y, xs, r, ob, es, ep, e, c⟩ := x
    exact ⟨z, y, xs, Paired.mapP r fun p q z => ⟨z.1, ht _ _ z.2.1, z.2.2⟩, ob, es, ep, k _ _ (.inl rfl) e, c⟩
  | set S n => obtain ⟨ob, es, ep, t, e, c⟩ := x; exact ⟨ob, es, ep, t, k _ _ (.inl rfl) e, c⟩
  | ins C dx fs =>
    obtain ⟨d, z, ne, e, mA, ⟨od, es, ep, e2, c⟩, r⟩ := x
    exact ⟨ho _ d, z, ne, k _ _ (.inl rfl) e, mA, ⟨od, es, ep, k _ _ (.inr d) e2, c⟩, r⟩
  | own y => obtain ⟨ob, e⟩ := x; exact ⟨ob, k _ _ (.inl rfl) e⟩
  | xd fs => obtain ⟨mA, ⟨od, es, ep, e, c⟩, r⟩ := x; exact ⟨mA, ⟨od, es, ep, k _ _ (.inl rfl) e, c⟩, r⟩
  | rng lo hi => obtain ⟨t, u, v, e⟩ := x; exact ⟨t, u, v, k _ _ (.inl rfl) e⟩
  | frz ob u ih => obtain ⟨e, q⟩ := x; exact ⟨k _ _ (.inl rfl) e, ih q⟩
  | tbl ps =>
    have e : h.get? a = some { cls := .none, data := .fields ps } := x
    show h'.get? a = some { cls := .none, data := .fields ps }
    exact k a _ (.inl rfl) e
  | met f y =>
    have e : h.get? a = some (PySem.W.methodObj (.ref f) (.ref y)) := x
    show h'.get? a = some (PySem.W.methodObj (.ref f) (.ref y))
    exact k a _ (.inl rfl) e
  | ext φ => obtain ⟨p, ⟨o, e⟩, st⟩ := x; exact ⟨st _ _ p fun o q => k _ _ (.inl rfl) q, ⟨o, k _ _ (.inl rfl) e⟩, st⟩
theorem HOk.lt (x : HOk P w H h) (e : H a = some o) : a < h.objs.size := (x a o e).lt
theorem HOk.fresh (x : HOk P w H h) (e : h.objs.size ≤ a) : H a = none := by
  cases q : H a with
  | none => rfl
  | some u => exact absurd (Nat.lt_of_lt_of_le (x.lt q) e) (Nat.lt_irrefl _)
theorem HOk.kept (x : HOk P w H h) (k : ∀ b u, h.get? b = some u → h'.get? b = some u) : HOk P w H h' := fun a o e =>
  (x a o e).stay (fun b u _ q => k b u q) (fun _ q => q) fun _ _ q => q
theorem HOk.laid (x : HOk P w H h) (k : ∀ b u, h.get? b = some u → h'.get? b = some u) (hp : h.objs.size ≤ a) (new : ObjOk P w (upd H a o) h' a o) : HOk P w (upd H a o) h' := fun b u e => by
  have hn := x.fresh hp
  by_cases hb : b = a
  · subst hb; rw [upd_same] at e; cases e; exact new
  · rw [upd_ne hb] at e
    exact (x b u e).stay (fun c v _ q => k c v q) (fun c q => by rw [upd_ne (ne_of_none q hn)]; exact q) fun c xs q => by rw [upd_ne (ne_of_none q hn)]; exact q
end
def Rd (H : Hp) (a : Addr) (u : HO) : Prop := H a = some u ∨ ∃ o, H a = some (.frz o u)
theorem Rd.ok {P : Program} {w : World} {H : Hp} {h : Heap} {a : Addr} {u : HO} (r : Rd H a u) (x : HOk P w H h) : ObjOk P w H h a u := by
  rcases r with r | ⟨o, r⟩
  · exact x a u r
  · obtain ⟨_, q⟩ := x a _ r
    exact q
def Mut : Option HO → Prop
  | some (.lst _) => True
  | some (.dK _) => True
  | some (.dT _) => True
  | some (.set _ _) => True
  | some (.ins _ _ _) => True
  | some (.ext _) => True
  | _ => False
section
variable {P : Program} {w : World} {H : Hp} {h h' : Heap} {x e : Addr} {o' : HO}
theorem HOk.write (ok : HOk P w H h) (mu : Mut (H x)) (he : e = x ∨ H e = some (.own x)) (k : ∀ b u, b ≠ e → h.get? b = some u → h'.get? b = some u) (heo : ∃ u, h'.get? e = some u)
    (new : ObjOk P w (upd H x o') h' x o') : HOk P w (upd H x o') h' := fun b u q => by
  have nown : ∀ c y, H c = some (.own y) → c ≠ x := fun c y r z => by subst z; rw [r] at mu; exact mu
  have ntup : ∀ c xs, H c = some (.tup xs) → c ≠ x := fun c xs r z => by subst z; rw [r] at mu; exact mu
  by_cases hb : b = x
  · subst hb; rw [upd_same] at q; cases q; exact new
  · rw [upd_ne hb] at q
    by_cases hbe : b = e
    · have q' : H b = some (.own x) := by
        rcases he with z | z
        · exact absurd (hbe.trans z) hb
        · rw [hbe]; exact z
      rw [q] at q'; cases q'
      obtain ⟨v, hv⟩ := heo
      exact ⟨v, by rw [hbe]; exact hv⟩
    · refine (ok b u q).stay (fun c v hc r => k c v ?_ r) (fun c r => by rw [upd_ne (nown c b r)]; exact r) fun c xs r => by rw [upd_ne (ntup c xs r)]; exact r
      rcases hc with rfl | hc
      · exact hbe
      · rintro rfl
        rcases he with z | z
        · exact nown c b hc z
        · rw [hc] at z; cases z; exact hb rfl
end
structure Un (fs ex : List Addr) (H H' : Hp) (h h' : Heap) : Prop where
  keep : ∀ b o, h.get? b = some o → H b = none → b ∉ fs → b ∉ ex → h'.get? b = some o
  slot : ∀ b o, h.get? b = some o → H b = none → b ∈ fs → b ∉ ex → ∃ sl, h'.get? b = some { o with slots := sl }
  free : ∀ b o, h.get? b = some o → H b = none → b ∉ ex → H' b = none
  there : ∀ b o, h.get? b = some o → b ∉ ex → ∃ o', h'.get? b = some o'
  tups : ∀ b xs, H b = some (.tup xs) → H' b = some (.tup xs)
  frzs : ∀ b o u, H b = some (.frz o u) → H' b = some (.frz o u)
  tbls : ∀ b ps, H b = some (.tbl ps) → ∃ more, H' b = some (.tbl (ps ++ more))
section
variable {fs fs' ex ex' : List Addr} {H H1 H2 : Hp} {h h1 h2 h' : Heap} {a x e : Addr} {o : HO}
theorem Un.any (u : Un fs ex H H1 h h1) {b : Addr} {ob : Obj} (q : h.get? b = some ob) (n : H b = none) (hx : b ∉ ex) : ∃ sl, h1.get? b = some { ob with slots := sl } := by
  by_cases hb : b ∈ fs
  · exact u.slot b ob q n hb hx
  · exact ⟨ob.slots, u.keep b ob q n hb hx⟩
theorem Un.trans (a : Un fs ex H H1 h h1) (b : Un fs ex H1 H2 h1 h2) : Un fs ex H H2 h h2 where
  keep := fun c ob q n hc hx => b.keep c ob (a.keep c ob q n hc hx) (a.free c ob q n hx) hc hx
  slot := fun c ob q n hc hx => by
    obtain ⟨sl, e1⟩ := a.slot c ob q n hc hx
    obtain ⟨sl', e2⟩ := b.slot c _ e1 (a.free c ob q n hx) hc hx
    exact ⟨sl', e2⟩
  free := fun c ob q n hx => by
    obtain ⟨o', e1⟩ := a.there c ob q hx
    exact b.free c o' e1 (a.free c ob q n hx) hx
  there := fun c ob q hx => by
    obtain ⟨o', e1⟩ := a.there c ob q hx
    exact b.there c o' e1 hx
  tups := fun c xs q => b.tups c xs (a.tups c xs q)
  frzs := fun c ob xs q => b.frzs c ob xs (a.frzs c ob xs q)
  tbls := fun c ps q => by
    obtain ⟨m1, e1⟩ := a.tbls c ps q
    obtain ⟨m2, e2⟩ := b.tbls c _ e1
    exact ⟨m1 ++ m2, by rw [e2, Array.append_assoc]⟩
theorem Un.kept (k : ∀ b u, h.get? b = some u → h'.get? b = some u) : Un fs ex H H h h' :=
  ⟨fun b ob q _ _ _ => k b ob q, fun b ob q _ _ _ => ⟨ob.slots, k b ob q⟩, fun _ _ _ n _ => n, fun b ob q _ => ⟨ob, k b ob q⟩, fun _ _ q => q, fun _ _ _ q => q, fun _ ps q => ⟨#[], by rw [q]; simp⟩⟩
theorem Un.refl : Un fs ex H H h h := Un.kept fun _ _ q => q
theorem Un.laid (k : ∀ b u, h.get? b = some u → h'.get? b = some u) (hp : h.objs.size ≤ a) (hn : H a = none) : Un fs ex H (upd H a o) h h' where
  keep := fun b u q _ _ _ => k b u q
  slot := fun b u q _ _ _ => ⟨u.slots, k b u q⟩
  free := fun b u q n _ => by rw [upd_ne (Nat.ne_of_lt (Nat.lt_of_lt_of_le (Heap.lt_size q) hp))]; exact n
  there := fun b u q _ => ⟨u, k b u q⟩
  tups := fun b xs q => by rw [upd_ne (ne_of_none q hn)]; exact q
  frzs := fun b u xs q => by rw [upd_ne (ne_of_none q hn)]; exact q
  tbls := fun b ps q => ⟨#[], by rw [upd_ne (ne_of_none q hn), q]; simp⟩
theorem Un.write (mu : Mut (H x)) (he : e = x ∨ H e = some (.own x)) (k : ∀ b u, b ≠ e → h.get? b = some u → h'.get? b = some u) (heo : ∃ u, h'.get? e = some u) : Un fs ex H (upd H x o) h h' := by
  have hx : ∀ b, H b = none → b ≠ x := fun b n z => by subst z; rw [n] at mu; exact mu
  have hb : ∀ b, H b = none → b ≠ e := fun b n z => by
    subst z
    rcases he with r | r
    · exact hx b n r
    · rw [n] at r; cases r
  have hm : ∀ b u, H b = some u → ¬ Mut (some u) → b ≠ x := fun b u q nm z => by subst z; rw [q] at mu; exact nm mu
  refine ⟨fun b u q n _ _ => k b u (hb b n) q, fun b u q n _ _ => ⟨u.slots, k b u (hb b n) q⟩, fun b u q n _ => by rw [upd_ne (hx b n)]; exact n, fun b u q _ => ?_,
    fun b xs q => by rw [upd_ne (hm b _ q fun z => z)]; exact q, fun b u xs q => by rw [upd_ne (hm b _ q fun z => z)]; exact q, fun b ps q => ⟨#[], by rw [upd_ne (hm b _ q fun z => z), q]; simp⟩⟩
  by_cases hbe : b = e
  · subst hbe; exact heo
  · exact ⟨u, k b u hbe q⟩
end
def trk (h : Heap) (H : Hp) : List Addr := (List.range h.objs.size).filter fun a => (H a).isSome
def hidT (h : Heap) (H : Hp) : Heap := PySem.W.hideAll h (trk h H)
theorem hidT_size (h : Heap) (H : Hp) : (hidT h H).objs.size = h.objs.size := PySem.W.hideAll_size _ _
theorem hidT_get {h : Heap} {H : Hp} {b : Addr} {o : Obj} (e : h.get? b = some o) (n : H b = none) : (hidT h H).get? b = some o :=
  PySem.W.hideAll_get _ e fun hm => by
    have q : (H b).isSome = true := (List.mem_filter.mp hm).2
    rw [n] at q; simp at q
theorem of_hidT {h : Heap} {H : Hp} {b : Addr} {o : Obj} (e : (hidT h H).get? b = some o) : h.get? b = some o ∧ H b = none := by
  have e' : h.get? b = some o := PySem.W.of_hideAll (trk h H) e
  refine ⟨e', ?_⟩
  cases q : H b with
  | none => rfl
  | some x =>
    have hm : b ∈ trk h H := List.mem_filter.mpr ⟨List.mem_range.mpr (Heap.lt_size e'), by simp [q]⟩
    have z : (hidT h H).get? b = none := PySem.W.hideAll_none (trk h H) hm
    rw [z] at e; cases e
def allNews (g h : Heap) (L : Addr) : List (Addr × Obj) := (List.range h.objs.size).filterMap fun a => if a = L ∨ (g.get? a).isSome = true then none else (h.get? a).map fun o => (a, o)
def rest (g h : Heap) (L d : Addr) : List (Addr × Obj) := (allNews g h L).filter fun p => decide (p.1 ≠ d)
end L2
namespace L2
open PySem PySem.Spec PyProof.Rows
structure Mod (K : PySem.W.Frag) (mg : Str → Option Value) (base : Heap) : Prop where
  kin : K.In base
  glob : base.Ns mainGlobals mg
  blt : ∃ mb, base.Ns builtinsNs mb ∧ ∀ x : Str, x ≠ "__name__" → mb x = bootBuiltins x
  nolimit : base.NoLimit
/-- the context: a def's body (or a comprehension's block) running. base: fixed through the whole law; s₀, H₀: the entry; outer: the frames whose slots others may change (a def's callers); stack: all frames that run;
   ex: iterators that were made ahead of the entry and are walked here (a comprehension's); fn: the names whose cells were made at the entry (a def: all; a comprehension's block: its own); calm: not within an except suite; pn: pins that every state bears; xe: what is wanted of an exception that leaves the code -/
structure Cx where
  prog : Program
  w : World
  K : PySem.W.Frag
  mg : Str → Option Value
  base : Heap
  A : Around
  N : List Str
  s₀ : Shared
  H₀ : Hp
  env : Env
  outer : List Env
  stack : List Env
  ex : List Addr
  fn : Str → Bool
  calm : Bool
  pn : List (Addr × Obj)
  xe : Value → Shared → Prop
def frs (l : List Env) : List Addr := l.filterMap (·.frame)
abbrev Cx.fs (X : Cx) : List Addr := frs X.outer
def Vis (sc : Scope) (x : Str) : Prop := sc.names.lookup x = some .local ∨ sc.names.lookup x = some .cell ∨ sc.names.lookup x = some .free
def Loc (sc : Scope) (x : Str) : Prop := sc.names.lookup x = some .local ∨ sc.names.lookup x = some .cell
def Look (env : Env) (h : Heap) (m : Str → Option Value) (x : Str) (u : Value) : Prop :=
  (env.kindOf x = some .local ∧ m x = some u) ∨ ((env.kindOf x = some .cell ∨ env.kindOf x = some .free) ∧ ∃ c, env.cells.lookup x = some c ∧ h.IsCell c (some u))
structure Cx.Ok (X : Cx) : Prop where
  mod : Mod X.K X.mg X.base
  kind : X.env.scope.kind = .function
  glob : X.env.globals = mainGlobals
  blt : X.env.builtins = builtinsNs
  above : X.s₀.heap.objs.size ≤ X.env.locals
  inj : ∀ x y c, X.env.cells.lookup x = some c → X.env.cells.lookup y = some c → x = y
  has : ∀ x, (X.env.kindOf x = some .cell ∨ X.env.kindOf x = some .free) → ∃ c, X.env.cells.lookup x = some c
  cab : ∀ x c, X.fn x = true → X.env.cells.lookup x = some c → X.s₀.heap.objs.size ≤ c
  hd : X.calm = true → X.A.handled = none
  frames : X.A.frames = some X.stack
  stk : X.stack = X.outer ∨ (X.stack = X.env :: X.outer ∧ X.env.frame = some X.env.locals)
  exf : ∀ b ∈ X.ex, b ≠ X.env.locals ∧ ∀ x c, X.env.cells.lookup x = some c → c ≠ b
  bs : ∀ b o, X.base.get? b = some o → X.s₀.heap.get? b = some o ∧ X.H₀ b = none
  bsz : X.base.objs.size ≤ X.s₀.heap.objs.size
  noex : ∀ b o, X.base.get? b = some o → b ∉ X.ex
  exfs : ∀ b ∈ X.ex, b ∉ X.fs
  funs : X.s₀.heap.FunFrames X.base X.outer
  frf : ∀ b ∈ X.fs, X.H₀ b = none
structure Inv (X : Cx) (pins : List (Addr × Obj)) (σ : List (Option V)) (H : Hp) (s : Shared) : Prop where
  ok : X.Ok
  os : s.os = X.s₀.os
  bare : AllBare s.gens
  base : Un X.fs X.ex X.H₀ H X.s₀.heap s.heap
  loc : ∃ m, s.heap.Ns X.env.locals m ∧ ∀ (i : Nat) (x : Str) (v : V), X.N[i]? = some x → σ[i]? = some (some v) → Vis X.env.scope x → ∃ u, RelV v u ∧ Look X.env s.heap m x u
  cell : ∀ x c, X.env.cells.lookup x = some c → ∃ v, s.heap.IsCell c v
  free : H X.env.locals = none
  freeC : ∀ x c, X.env.cells.lookup x = some c → H c = none
  pin : ∀ p ∈ X.pn ++ pins, s.heap.get? p.1 = some p.2 ∧ H p.1 = none ∧ p.1 ≠ X.env.locals ∧ p.1 ∉ X.fs ∧ ∀ v, p.2.data ≠ .cell v
  hok : HOk X.prog X.w H s.heap
  len : σ.length = X.N.length
section
variable {X : Cx} {pins : List (Addr × Obj)} {σ : List (Option V)} {H H' : Hp} {s : Shared} {h' : Heap}
theorem Cx.Ok.nofr (ok : X.Ok) {b : Addr} {o : Obj} (e : X.base.get? b = some o) : b ∉ X.fs := fun hb => by
  have := (ok.funs.mem hb).1
  rw [e] at this; cases this
theorem Inv.bs (I : Inv X pins σ H s) : ∀ b o, X.base.get? b = some o → s.heap.get? b = some o ∧ H b = none := fun b o e =>
  ⟨I.base.keep b o (I.ok.bs b o e).1 (I.ok.bs b o e).2 (I.ok.nofr e) (I.ok.noex b o e), I.base.free b o (I.ok.bs b o e).1 (I.ok.bs b o e).2 (I.ok.noex b o e)⟩
theorem Inv.bk (I : Inv X pins σ H s) : ∀ b o, X.base.get? b = some o → s.heap.get? b = some o := fun b o e => (I.bs b o e).1
theorem Inv.mod (I : Inv X pins σ H s) : Mod X.K X.mg X.base := I.ok.mod
theorem Inv.kIn (I : Inv X pins σ H s) : X.K.In s.heap := I.ok.mod.kin.keeps I.bk
theorem Inv.fr (I : Inv X pins σ H s) : ∃ m, Fr X.base X.env.locals s.heap m :=
  let ⟨m, hn, _⟩ := I.loc
  ⟨m, hn, I.bk, Nat.le_trans I.ok.bsz I.ok.above⟩
theorem Inv.lt (I : Inv X pins σ H s) : X.env.locals < s.heap.objs.size := let ⟨_, hn, _⟩ := I.loc; hn.lt
theorem Inv.sz (I : Inv X pins σ H s) : X.s₀.heap.objs.size ≤ s.heap.objs.size := Nat.le_trans I.ok.above (Nat.le_of_lt I.lt)
theorem Inv.nofs (I : Inv X pins σ H s) {a : Addr} (h : s.heap.objs.size ≤ a) : a ∉ X.fs := fun hb => by
  obtain ⟨_, o, ho, _⟩ := I.ok.funs.mem hb
  exact absurd (Nat.lt_of_lt_of_le (Heap.lt_size ho) (Nat.le_trans I.sz h)) (Nat.lt_irrefl _)
theorem Inv.cne (I : Inv X pins σ H s) : ∀ x c, X.env.cells.lookup x = some c → c ≠ X.env.locals := fun x c e z => by
  obtain ⟨v, o, ho, hd⟩ := I.cell x c e
  obtain ⟨m, ⟨o', es, ep, ho', hd', _⟩, _⟩ := I.loc
  rw [z, ho'] at ho; cases ho; rw [hd'] at hd; cases hd
theorem Inv.funs (I : Inv X pins σ H s) : s.heap.FunFrames X.base X.outer := by
  have all : ∀ (l : List Env), (∀ b ∈ frs l, b ∈ X.fs) → X.s₀.heap.FunFrames X.base l → s.heap.FunFrames X.base l := by
    intro l
    induction l with
    | nil => intro _ _; trivial
    | cons env r ih =>
      intro hs hl
      obtain ⟨hk, ⟨L, o, hf, hn, ho, hd⟩, hr⟩ := hl
      have hL : L ∈ X.fs := hs L (by unfold frs; rw [List.filterMap_cons, hf]; exact List.mem_cons_self)
      obtain ⟨sl, e⟩ := I.base.slot L o ho (I.ok.frf L hL) hL fun z => I.ok.exfs L z hL
      exact ⟨hk, ⟨L, _, hf, hn, e, hd⟩, ih (fun b hb => hs b (by unfold frs; rw [List.filterMap_cons, hf]; exact List.mem_cons_of_mem _ hb)) hr⟩
  exact all X.outer (fun _ hb => hb) I.ok.funs
theorem Inv.stack (I : Inv X pins σ H s) : s.heap.FunFrames X.base X.stack := by
  rcases I.ok.stk with e | ⟨e, hf⟩
  · rw [e]; exact I.funs
  · rw [e]
    obtain ⟨m, hn, _⟩ := I.loc
    refine .cons (by rw [I.ok.kind]; decide) hf hn ?_ I.funs
    exact Heap.get?_none_of_le (Nat.le_trans I.ok.bsz I.ok.above)
theorem Inv.stkSub (I : Inv X pins σ H s) : ∀ b ∈ frs X.stack, b ∈ X.env.locals :: X.fs := fun b hb => by
  rcases I.ok.stk with e | ⟨e, hf⟩
  · rw [e] at hb; exact List.mem_cons_of_mem _ hb
  · rw [e] at hb
    unfold frs at hb
    rw [List.filterMap_cons, hf] at hb
    exact hb
theorem Inv.stkFree (I : Inv X pins σ H s) : ∀ b ∈ frs X.stack, H b = none := fun b hb => by
  rcases List.mem_cons.mp (I.stkSub b hb) with e | hb
  · rw [e]; exact I.free
  · obtain ⟨_, o, ho, _⟩ := I.ok.funs.mem hb
    exact I.base.free b o ho (I.ok.frf b hb) fun z => I.ok.exfs b z hb
theorem Inv.step {g' : Array GenState} {t' : Nat} {d' : Drawn} {ch : List Addr} (I : Inv X pins σ H s)
    (hch : ∀ b ∈ ch, (b ∈ X.ex ∨ X.s₀.heap.objs.size ≤ b) ∧ b ≠ X.env.locals ∧ (∀ x c, X.env.cells.lookup x = some c → c ≠ b) ∧ ∀ p ∈ X.pn ++ pins, p.1 ≠ b)
    (keep : ∀ b o, b ≠ X.env.locals → b ∉ X.fs → b ∉ ch → s.heap.get? b = some o → H b = none → h'.get? b = some o)
    (slot : ∀ b o, b ≠ X.env.locals → b ∈ X.fs → b ∉ ch → s.heap.get? b = some o → H b = none → ∃ sl, h'.get? b = some { o with slots := sl }) (free : ∀ b o, b ∉ ch → s.heap.get? b = some o → H b = none → H' b = none)
    (there : ∀ b o, b ∉ ch → s.heap.get? b = some o → ∃ o', h'.get? b = some o')
    (tups : ∀ b xs, H b = some (.tup xs) → H' b = some (.tup xs)) (frzs : ∀ b o u, H b = some (.frz o u) → H' b = some (.frz o u)) (tbls : ∀ b ps, H b = some (.tbl ps) → ∃ more, H' b = some (.tbl (ps ++ more)))
    (ns : ∀ m, s.heap.Ns X.env.locals m → h'.Ns X.env.locals m) (hok : HOk X.prog X.w H' h') (hg : AllBare g') :
    Inv X pins σ H' { s with heap := h', gens := g', drawn := d', toks := t' } := by
  have neL : ∀ b o, X.s₀.heap.get? b = some o → b ≠ X.env.locals := fun b o e => Nat.ne_of_lt (Nat.lt_of_lt_of_le (Heap.lt_size e) I.ok.above)
  have neC : ∀ b o, X.s₀.heap.get? b = some o → b ∉ X.ex → b ∉ ch := fun b o e hx hb => by
    rcases (hch b hb).1 with z | z
    · exact hx z
    · exact absurd (Nat.lt_of_lt_of_le (Heap.lt_size e) z) (Nat.lt_irrefl _)
  have cellK : ∀ x c, X.env.cells.lookup x = some c → ∀ v, s.heap.IsCell c v → h'.IsCell c v := fun x c e v ⟨o, ho, hd⟩ => by
    have nch : c ∉ ch := fun z => (hch c z).2.2.1 x c e rfl
    by_cases hc : c ∈ X.fs
    · obtain ⟨sl, q⟩ := slot c o (I.cne x c e) hc nch ho (I.freeC x c e)
      exact ⟨_, q, hd⟩
    · exact ⟨o, keep c o (I.cne x c e) hc nch ho (I.freeC x c e), hd⟩
  refine ⟨I.ok, I.os, hg, ⟨fun b o e n hb hx => ?_, fun b o e n hb hx => ?_, fun b o e n hx => ?_, fun b o e hx => ?_, fun b xs e => tups b xs (I.base.tups b xs e), fun b o xs e => frzs b o xs (I.base.frzs b o xs e), fun b ps e => ?_⟩, ?_, fun x c e => ?_, ?_, fun x c e => ?_, fun p hp => ?_, hok, I.len⟩
  · exact keep b o (neL b o e) hb (neC b o e hx) (I.base.keep b o e n hb hx) (I.base.free b o e n hx)
  · obtain ⟨sl, e1⟩ := I.base.slot b o e n hb hx
    obtain ⟨sl', e2⟩ := slot b _ (neL b o e) hb (neC b o e hx) e1 (I.base.free b o e n hx)
    exact ⟨sl', e2⟩
  · obtain ⟨o', e1⟩ := I.base.there b o e hx
    exact free b o' (neC b o e hx) e1 (I.base.free b o e n hx)
  · obtain ⟨o', e1⟩ := I.base.there b o e hx
    exact there b o' (neC b o e hx) e1
  · obtain ⟨m1, e1⟩ := I.base.tbls b ps e
    obtain ⟨m2, e2⟩ := tbls b _ e1
    exact ⟨m1 ++ m2, by rw [e2, Array.append_assoc]⟩
  · obtain ⟨m, hn, hl⟩ := I.loc
    refine ⟨m, ns m hn, fun i x v e1 e2 e3 => ?_⟩
    obtain ⟨u, r, l⟩ := hl i x v e1 e2 e3
    refine ⟨u, r, ?_⟩
    rcases l with l | ⟨k, c, e, z⟩
    · exact .inl l
    · exact .inr ⟨k, c, e, cellK x c e _ z⟩
  · obtain ⟨v, z⟩ := I.cell x c e
    exact ⟨v, cellK x c e v z⟩
  · obtain ⟨m, ⟨o, _, _, ho, _⟩, _⟩ := I.loc
    exact free _ o (fun z => (hch _ z).2.1 rfl) ho I.free
  · obtain ⟨v, o, ho, hd⟩ := I.cell x c e
    exact free c o (fun z => (hch c z).2.2.1 x c e rfl) ho (I.freeC x c e)
  · obtain ⟨e, n, ne, nf, d⟩ := I.pin p hp
    have nch : p.1 ∉ ch := fun z => (hch p.1 z).2.2.2 p hp rfl
    exact ⟨keep p.1 p.2 ne nf nch e n, free p.1 p.2 nch e n, ne, nf, d⟩
theorem Inv.un {t' : Nat} (I : Inv X pins σ H s) (u : Un X.fs [] H H' s.heap h') (hok : HOk X.prog X.w H' h') : Inv X pins σ H' { s with heap := h', toks := t' } := by
  obtain ⟨m, ⟨o, es, ep, ho, r⟩, _⟩ := id I.loc
  obtain ⟨sl, hL⟩ := u.any ho I.free (by simp)
  exact I.step (g' := s.gens) (d' := s.drawn) (ch := []) (fun _ z => nomatch z) (fun b o _ hb _ e n => u.keep b o e n hb (by simp)) (fun b o _ hb _ e n => u.slot b o e n hb (by simp)) (fun b o _ e n => u.free b o e n (by simp)) (fun b o _ e => u.there b o e (by simp)) u.tups u.frzs u.tbls (fun m' hm => by
    obtain ⟨o', es', ep', ho', r'⟩ := hm
    rw [ho] at ho'; cases ho'
    exact ⟨_, es', ep', hL, r'⟩) hok I.bare
theorem Inv.call {g' : Array GenState} {t' : Nat} {d' : Drawn} {ch : List Addr} (I : Inv X pins σ H s) (u : Un (frs X.stack) ch H H' s.heap h') (hok : HOk X.prog X.w H' h') (hg : AllBare g')
    (hch : ∀ b ∈ ch, (b ∈ X.ex ∨ X.s₀.heap.objs.size ≤ b) ∧ b ≠ X.env.locals ∧ (∀ x c, X.env.cells.lookup x = some c → c ≠ b) ∧ ∀ p ∈ X.pn ++ pins, p.1 ≠ b) :
    Inv X pins σ H' { s with heap := h', gens := g', drawn := d', toks := t' } := by
  obtain ⟨m, ⟨o, es, ep, ho, r⟩, _⟩ := id I.loc
  obtain ⟨sl, hL⟩ := u.any ho I.free fun z => (hch _ z).2.1 rfl
  exact I.step (ch := ch) hch (fun b o hL hb hc e n => u.keep b o e n (fun z => (List.mem_cons.mp (I.stkSub b z)).elim hL hb) hc) (fun b o _ _ hc e n => u.any e n hc) (fun b o hc e n => u.free b o e n hc) (fun b o hc e => u.there b o e hc) u.tups u.frzs u.tbls (fun m' hm => by
    obtain ⟨o', es', ep', ho', r'⟩ := hm
    rw [ho] at ho'; cases ho'
    exact ⟨_, es', ep', hL, r'⟩) hok hg
theorem Inv.turned {t' : Nat} {it : Addr} (I : Inv X pins σ H s) (k : ∀ b o, b ≠ it → s.heap.get? b = some o → h'.get? b = some o) (hn : H it = none) (hL : it ≠ X.env.locals)
    (h1 : it ∈ X.ex ∨ X.s₀.heap.objs.size ≤ it) (h2 : ∀ x c, X.env.cells.lookup x = some c → c ≠ it) (h3 : ∀ p ∈ X.pn ++ pins, p.1 ≠ it) : Inv X pins σ H { s with heap := h', toks := t' } := by
  have nit : ∀ b u, H b = some u → b ≠ it := fun b u e z => by rw [z, hn] at e; cases e
  refine I.step (g' := s.gens) (d' := s.drawn) (ch := [it]) (fun b hb => ?_) (fun b o _ _ hc e _ => k b o (fun z => hc (by simp [z])) e) (fun b o _ _ hc e _ => ⟨o.slots, k b o (fun z => hc (by simp [z])) e⟩) (fun _ _ _ _ n => n)
    (fun b o hc e => ⟨o, k b o (fun z => hc (by simp [z])) e⟩) (fun _ _ e => e) (fun _ _ _ e => e) (fun b ps e => ⟨#[], by rw [e]; simp⟩) (fun m hm => ?_) (fun b u e => ?_) I.bare
  · have e : b = it := by simpa using hb
    subst e
    exact ⟨h1, hL, h2, h3⟩
  · obtain ⟨o, es, ep, ho, r⟩ := hm
    exact ⟨o, es, ep, k _ o (Ne.symm hL) ho, r⟩
  · refine (I.hok b u e).stay (fun c v hc q => k c v ?_ q) (fun _ q => q) fun _ _ q => q
    rcases hc with z | z
    · rw [z]; exact nit b u e
    · exact nit c _ z
theorem Inv.tok (I : Inv X pins σ H s) (t : Nat) : Inv X pins σ H { s with toks := t } := I.un (h' := s.heap) (t' := t) Un.refl I.hok
theorem Inv.kept {t' : Nat} (I : Inv X pins σ H s) (k : ∀ b u, s.heap.get? b = some u → h'.get? b = some u) : Inv X pins σ H { s with heap := h', toks := t' } := I.un (Un.kept k) (I.hok.kept k)
theorem Inv.laid {a : Addr} {o : HO} {t' : Nat} (I : Inv X pins σ H s) (k : ∀ b u, s.heap.get? b = some u → h'.get? b = some u) (hp : s.heap.objs.size ≤ a) (new : ObjOk X.prog X.w (upd H a o) h' a o) :
    Inv X pins σ (upd H a o) { s with heap := h', toks := t' } := I.un (Un.laid k hp (I.hok.fresh hp)) (I.hok.laid k hp new)
theorem Inv.write {x e : Addr} {o : HO} {t' : Nat} (I : Inv X pins σ H s) (mu : Mut (H x)) (he : e = x ∨ H e = some (.own x)) (k : ∀ b u, b ≠ e → s.heap.get? b = some u → h'.get? b = some u) (heo : ∃ u, h'.get? e = some u)
    (new : ObjOk X.prog X.w (upd H x o) h' x o) : Inv X pins σ (upd H x o) { s with heap := h', toks := t' } := I.un (Un.write mu he k heo) (I.hok.write mu he k heo new)
theorem Inv.weak {σ' : List (Option V)} (I : Inv X pins σ H s) (hl : σ'.length = σ.length) (w : ∀ (i : Nat) v, σ'[i]? = some (some v) → σ[i]? = some (some v)) : Inv X pins σ' H s :=
  ⟨I.ok, I.os, I.bare, I.base, let ⟨m, hn, hl'⟩ := I.loc; ⟨m, hn, fun i x v e1 e2 e3 => hl' i x v e1 (w i v e2) e3⟩, I.cell, I.free, I.freeC, I.pin, I.hok, hl.trans I.len⟩
theorem Inv.pins_of {pins' : List (Addr × Obj)} (I : Inv X pins σ H s) (h : ∀ p ∈ pins', s.heap.get? p.1 = some p.2 ∧ H p.1 = none ∧ p.1 ≠ X.env.locals ∧ p.1 ∉ X.fs ∧ ∀ v, p.2.data ≠ .cell v) : Inv X pins' σ H s :=
  ⟨I.ok, I.os, I.bare, I.base, I.loc, I.cell, I.free, I.freeC, fun p hp => (List.mem_append.mp hp).elim (fun z => I.pin p (List.mem_append_left _ z)) (h p), I.hok, I.len⟩
theorem nodup_ix {N : List Str} (hN : N.Nodup) {i j : Nat} {x : Str} (a : N[i]? = some x) (b : N[j]? = some x) : i = j := by
  obtain ⟨h1, e1⟩ := List.getElem?_eq_some_iff.mp a
  obtain ⟨h2, e2⟩ := List.getElem?_eq_some_iff.mp b
  exact (List.getElem_inj hN).mp (e1.trans e2.symm)
theorem store_ok2 {M : Model} {A : Around} {E : Value → Shared → Prop} {i : Nat} {x : Str} {v : V} {u : Value} {Q : Unit → Shared → Prop} (I : Inv X pins σ H s) (hN : X.N.Nodup) (hi : X.N[i]? = some x) (hx : Loc X.env.scope x) (r : RelV v u)
    (h : ∀ s', Inv X pins (σ.set i (some v)) H s' → (∃ a, Heap.SameBut a s.heap s'.heap ∧ (a = X.env.locals ∨ X.env.cells.lookup x = some a)) → Q () s') (hf : X.fn x = true ∨ X.env.scope.names.lookup x = some .local := by first | exact .inl rfl | exact .inr rfl | assumption) : wpAny M A (storeName X.env x u) Q E s := by
  obtain ⟨m, hn, hl⟩ := id I.loc
  have hcls : (X.env.scope.kind == .class || (X.env.scope.kind == .module && X.env.locals != X.env.globals)) = false := by rw [I.ok.kind]; rfl
  have hiσ : i < σ.length := by rw [I.len]; exact (List.getElem?_eq_some_iff.mp hi).1
  have cne := I.cne
  have tracked : ∀ {a : Addr} {h' : Heap}, (∃ o, s.heap.get? a = some o ∧ H a = none) → Heap.SameBut a s.heap h' → HOk X.prog X.w H h' := fun {a h'} ha hs b ob e => by
    obtain ⟨_, _, hfree⟩ := ha
    refine (I.hok b ob e).stay (fun c w' hc q => (hs.2 c ?_).trans q) (fun _ q => q) fun _ _ q => q
    rintro rfl
    rcases hc with rfl | hc
    · rw [hfree] at e; cases e
    · rw [hfree] at hc; cases hc
  rcases hx with hk | hk
  · refine wpAny_storeName_local hk hn (fun h' hn' hs => ?_) hcls
    obtain ⟨oL, _, _, hoL, _⟩ := id hn
    refine h _ ⟨I.ok, I.os, I.bare, ⟨fun b o e n hb hx => ?_, fun b o e n hb hx => ?_, I.base.free, fun b o e hx => ?_, I.base.tups, I.base.frzs, I.base.tbls⟩, ⟨_, hn', fun j y v' e1 e2 e3 => ?_⟩, fun y c e => ?_, I.free, I.freeC, fun p hp => ?_, tracked ⟨oL, hoL, I.free⟩ hs, by simpa using I.len⟩ ⟨_, hs, .inl rfl⟩
    · exact (hs.2 b (Nat.ne_of_lt (Nat.lt_of_lt_of_le (Heap.lt_size e) I.ok.above))).trans (I.base.keep b o e n hb hx)
    · obtain ⟨sl, e1⟩ := I.base.slot b o e n hb hx
      exact ⟨sl, (hs.2 b (Nat.ne_of_lt (Nat.lt_of_lt_of_le (Heap.lt_size e) I.ok.above))).trans e1⟩
    · obtain ⟨o', e1⟩ := I.base.there b o e hx
      exact ⟨o', (hs.2 b (Nat.ne_of_lt (Nat.lt_of_lt_of_le (Heap.lt_size e) I.ok.above))).trans e1⟩
    · by_cases hj : j = i
      · subst hj
        rw [hi] at e1; cases e1
        rw [List.getElem?_set_self hiσ] at e2
        cases e2
        exact ⟨u, r, .inl ⟨hk, by simp⟩⟩
      · rw [List.getElem?_set_ne (Ne.symm hj)] at e2
        obtain ⟨u', r', q⟩ := hl j y v' e1 e2 e3
        refine ⟨u', r', ?_⟩
        rcases q with ⟨k, e⟩ | ⟨k, c, e, z⟩
        · refine .inl ⟨k, ?_⟩
          have : y ≠ x := fun e => hj (nodup_ix hN e1 (e ▸ hi))
          simp [this, e]
        · exact .inr ⟨k, c, e, z.sameBut hs (cne y c e)⟩
    · obtain ⟨w', z⟩ := I.cell y c e
      exact ⟨w', z.sameBut hs (cne y c e)⟩
    · obtain ⟨e, n, ne, nf, d⟩ := I.pin p hp
      exact ⟨(hs.2 p.1 ne).trans e, n, ne, nf, d⟩
  · have hfn : X.fn x = true := by
      rcases hf with z | z
      · exact z
      · rw [z] at hk; cases hk
    obtain ⟨c, hc⟩ := I.ok.has x (.inl hk)
    obtain ⟨w', z⟩ := I.cell x c hc
    refine wpAny_storeName_cell I.ok.kind hk hc z (fun h' hc' hs => ?_)
    obtain ⟨oc, hoc, hocd⟩ := id z
    refine h { s with heap := h' } ⟨I.ok, I.os, I.bare, ⟨fun b o e n hb hx => ?_, fun b o e n hb hx => ?_, I.base.free, fun b o e hx => ?_, I.base.tups, I.base.frzs, I.base.tbls⟩, ⟨m, hn.sameBut hs (Ne.symm (cne x c hc)), fun j y v' e1 e2 e3 => ?_⟩, fun y c' e => ?_, I.free, I.freeC, fun p hp => ?_, tracked ⟨oc, hoc, I.freeC x c hc⟩ hs, by simpa using I.len⟩ ⟨c, hs, .inr hc⟩
    · exact (hs.2 b (Nat.ne_of_lt (Nat.lt_of_lt_of_le (Heap.lt_size e) (I.ok.cab x c hfn hc)))).trans (I.base.keep b o e n hb hx)
    · obtain ⟨sl, e1⟩ := I.base.slot b o e n hb hx
      exact ⟨sl, (hs.2 b (Nat.ne_of_lt (Nat.lt_of_lt_of_le (Heap.lt_size e) (I.ok.cab x c hfn hc)))).trans e1⟩
    · obtain ⟨o', e1⟩ := I.base.there b o e hx
      exact ⟨o', (hs.2 b (Nat.ne_of_lt (Nat.lt_of_lt_of_le (Heap.lt_size e) (I.ok.cab x c hfn hc)))).trans e1⟩
    · by_cases hj : j = i
      · subst hj
        rw [hi] at e1; cases e1
        rw [List.getElem?_set_self hiσ] at e2
        cases e2
        exact ⟨u, r, .inr ⟨.inl hk, c, hc, hc'⟩⟩
      · rw [List.getElem?_set_ne (Ne.symm hj)] at e2
        obtain ⟨u', r', q⟩ := hl j y v' e1 e2 e3
        refine ⟨u', r', ?_⟩
        rcases q with q | ⟨k, c', e, z'⟩
        · exact .inl q
        · refine .inr ⟨k, c', e, z'.sameBut hs ?_⟩
          rintro rfl
          exact hj (nodup_ix hN e1 (I.ok.inj _ _ _ e hc ▸ hi))
    · by_cases hcc : c' = c
      · subst hcc; exact ⟨_, hc'⟩
      · obtain ⟨w2, z2⟩ := I.cell y c' e
        exact ⟨w2, z2.sameBut hs hcc⟩
    · obtain ⟨e, n, ne, nf, d⟩ := I.pin p hp
      refine ⟨(hs.2 p.1 ?_).trans e, n, ne, nf, d⟩
      intro q
      rw [q, hoc] at e
      have q' : oc = p.2 := Option.some.inj e
      exact d w' (by rw [← q']; exact hocd)
theorem store_ok {M : Model} {A : Around} {E : Value → Shared → Prop} {i : Nat} {x : Str} {v : V} {u : Value} {Q : Unit → Shared → Prop} (I : Inv X pins σ H s) (hN : X.N.Nodup) (hi : X.N[i]? = some x) (hx : Loc X.env.scope x) (r : RelV v u)
    (h : ∀ s', Inv X pins (σ.set i (some v)) H s' → Q () s') (hf : X.fn x = true ∨ X.env.scope.names.lookup x = some .local := by first | exact .inl rfl | exact .inr rfl | assumption) : wpAny M A (storeName X.env x u) Q E s :=
  store_ok2 I hN hi hx r (fun s' I' _ => h s' I') hf
theorem Inv.call' {s' : Shared} {ch : List Addr} (I : Inv X pins σ H s) (ho : s'.os = s.os) (u : Un (frs X.stack) ch H H' s.heap s'.heap) (hok : HOk X.prog X.w H' s'.heap) (hg : AllBare s'.gens)
    (hch : ∀ b ∈ ch, (b ∈ X.ex ∨ X.s₀.heap.objs.size ≤ b) ∧ b ≠ X.env.locals ∧ (∀ x c, X.env.cells.lookup x = some c → c ≠ b) ∧ ∀ p ∈ X.pn ++ pins, p.1 ≠ b) : Inv X pins σ H' s' := by
  obtain ⟨h', g', d', t', o'⟩ := s'
  have e : o' = s.os := ho
  subst e
  exact I.call (g' := g') (t' := t') (d' := d') u hok hg hch
end
abbrev XK := Value → Option Addr → Hp → Prop
abbrev St := List (Option V)
abbrev VK := V → Hp → Prop
abbrev TE := St → Hp → VK → Prop
abbrev TT := St → Hp → (Bool → Hp → Prop) → Prop
abbrev TA := St → Hp → (List V → Hp → Prop) → Prop
structure Ends where
  nx : St → Hp → Prop
  rt : VK
  bk : St → Hp → Prop := fun _ _ => False
  ct : St → Hp → Prop := fun _ _ => False
abbrev TS := Ends → St → Hp → Prop
def EP (X : Cx) (pins : List (Addr × Obj)) (σ : St) (Q : VK) (u : Value) (s' : Shared) : Prop := ∃ v H', Inv X pins σ H' s' ∧ RelV v u ∧ Q v H'
def TP (X : Cx) (pins : List (Addr × Obj)) (σ : St) (Q : Bool → Hp → Prop) (b : Bool) (s' : Shared) : Prop := ∃ H', Inv X pins σ H' s' ∧ Q b H'
def AP (X : Cx) (pins : List (Addr × Obj)) (σ : St) (Q : List V → Hp → Prop) (us : List Value) (s' : Shared) : Prop := ∃ vs H', Inv X pins σ H' s' ∧ Vals vs us ∧ Q vs H'
def SP (X : Cx) (pins : List (Addr × Obj)) (D : Ends) (f : Flow) (s' : Shared) : Prop :=
  match f with
  | .next => ∃ σ' H', Inv X pins σ' H' s' ∧ D.nx σ' H'
  | .brk => ∃ σ' H', Inv X pins σ' H' s' ∧ D.bk σ' H'
  | .cont => ∃ σ' H', Inv X pins σ' H' s' ∧ D.ct σ' H'
  | .ret u => ∃ v σ' H', Inv X pins σ' H' s' ∧ RelV v u ∧ D.rt v H'
def PE (X : Cx) (e : Expr) (t : TE) : Prop :=
  ∀ (pins : List (Addr × Obj)) (s : Shared) (σ : St) (H : Hp) (Q : VK), Inv X pins σ H s → t σ H Q → wpAny (model X.prog X.w) X.A (eval e X.env) (EP X pins σ Q) X.xe s
def PT (X : Cx) (e : Expr) (t : TT) : Prop :=
  ∀ (pins : List (Addr × Obj)) (s : Shared) (σ : St) (H : Hp) (Q : Bool → Hp → Prop), Inv X pins σ H s → t σ H Q → wpAny (model X.prog X.w) X.A (isTrue e X.env (eval e X.env)) (TP X pins σ Q) X.xe s
def PW (X : Cx) (e : Expr) (t : TT) : Prop :=
  ∀ (whole : Sem Value) (pins : List (Addr × Obj)) (s : Shared) (σ : St) (H : Hp) (Q : Bool → Hp → Prop), Inv X pins σ H s → t σ H Q → wpAny (model X.prog X.w) X.A (isTrue e X.env whole) (TP X pins σ Q) X.xe s
theorem PW.pt {X : Cx} {e : Expr} {t : TT} (h : PW X e t) : PT X e t := h _
def PA (X : Cx) (es : List Expr) (t : TA) : Prop :=
  ∀ (pos : Pos) (pins : List (Addr × Obj)) (s : Shared) (σ : St) (H : Hp) (Q : List V → Hp → Prop), Inv X pins σ H s → t σ H Q → wpAny (model X.prog X.w) X.A (spliced (backTo pos (starEach es X.env))) (AP X pins σ Q) X.xe s
def PS (X : Cx) (st : Stmt) (t : TS) : Prop :=
  ∀ (pins : List (Addr × Obj)) (s : Shared) (σ : St) (H : Hp) (D : Ends), Inv X pins σ H s → t D σ H → wpAny (model X.prog X.w) X.A (exec st X.env) (SP X pins D) X.xe s
def PSs (X : Cx) (st : List Stmt) (t : TS) : Prop :=
  ∀ (pins : List (Addr × Obj)) (s : Shared) (σ : St) (H : Hp) (D : Ends), Inv X pins σ H s → t D σ H → wpAny (model X.prog X.w) X.A (execs st X.env) (SP X pins D) X.xe s
theorem thn {α : Type} {t : Sem α} {Q Q' : α → Shared → Prop} {M : Model} {A : Around} {E : Value → Shared → Prop} {s : Shared} (h : wpAny M A t Q E s) (hQ : ∀ a s, Q a s → Q' a s) : wpAny M A t Q' E s := wpAny_mono h hQ fun _ _ x => x
end L2
namespace L2
open PySem PySem.Spec PyProof.Rows
section
variable {X : Cx}
theorem bin {a b : Expr} {ta tb : TE} (ha : PE X a ta) (hb : PE X b tb) {pins : List (Addr × Obj)} {s : Shared} {σ : St} {H : Hp} {R : V → V → Hp → Prop} (I : Inv X pins σ H s) (h : ta σ H fun x H1 => tb σ H1 fun y H2 => R x y H2)
    {α : Type} {Q : α → Shared → Prop} {f : Value → Value → Sem α}
    (hf : ∀ v u s2 x y H2, Inv X pins σ H2 s2 → RelV x v → RelV y u → R x y H2 → wpAny (model X.prog X.w) X.A (f v u) Q X.xe s2) :
    wpAny (model X.prog X.w) X.A (eval a X.env) (fun v s₁ => wpAny (model X.prog X.w) X.A (eval b X.env) (fun u s₂ => wpAny (model X.prog X.w) X.A (f v u) Q X.xe s₂) X.xe s₁) X.xe s := by
  refine thn (ha pins s σ H _ I h) fun v s1 ⟨x, H1, I1, r1, q1⟩ => ?_
  refine thn (hb pins s1 σ H1 _ I1 q1) fun u s2 ⟨y, H2, I2, r2, q2⟩ => ?_
  exact hf v u s2 x y H2 I2 r1 r2 q2
def tVar (i : Nat) : TE := fun σ H Q => ∃ v, σ[i]? = some (some v) ∧ Q v H
def tC (v : V) : TE := fun _ H Q => Q v H
theorem pe_var {i : Nat} {x : Str} {pos : Pos} (hN : X.N[i]? = some x) (hv : Vis X.env.scope x) (hd : (x == ("__debug__" : Str)) = false := by decide) (hcd : (x == ("__classdict__" : Str)) = false := by decide) : PE X (.Name x pos) (tVar i) := by
  intro pins s σ H Q I h
  obtain ⟨v, e, h⟩ := h
  obtain ⟨m, hn, hl⟩ := I.loc
  obtain ⟨u, r, l⟩ := hl i x v hN e hv
  have fin : EP X pins σ Q u s := ⟨v, H, I, r, h⟩
  rcases l with ⟨hk, hm⟩ | ⟨hk, c, hc, hcell⟩
  · exact wpAny_Name (wpAny_loadName_local I.ok.kind hk hn hm fin) hd
  · rcases hk with hk | hk
    · exact wpAny_Name (wpAny_loadName_cell I.ok.kind hk hc hcell fin) hd
    · exact wpAny_Name (wpAny_loadName_free I.ok.kind hk hc hcell fin hcd) hd
theorem pe_int {i j pos} : PE X (.Constant (.int i) j pos) (tC (.int i)) := fun _ _ _ H _ I h => wpAny_Constant_int ⟨.int i, H, I.tok _, ⟨_, rfl⟩, h⟩
theorem pe_bl {b j pos} : PE X (.Constant (.bool b) j pos) (tC (.bl b)) := fun _ _ _ H _ I h => Constant_bool ⟨.bl b, H, I, rfl, h⟩
theorem pe_non {j pos} : PE X (.Constant .none j pos) (tC .non) := fun _ _ _ H _ I h => Constant_none ⟨.non, H, I, rfl, h⟩
def Gl (X : Cx) (x : Str) : Prop := X.env.kindOf x = some .globalImplicit
theorem ld_glob {E : Value → Shared → Prop} {pins : List (Addr × Obj)} {s : Shared} {σ : St} {H : Hp} {x : Str} {u : Value} {pos : Pos} {Q : Value → Shared → Prop} (I : Inv X pins σ H s) (hg : Gl X x) (hm : X.mg x = some u) (h : Q u s)
    (hd : (x == ("__debug__" : Str)) = false := by decide) : wpAny (model X.prog X.w) X.A (eval (.Name x pos) X.env) Q E s :=
  Calls.Name_function_global I.ok.kind hg (Calls.loadGlobal_global (by rw [I.ok.glob]; exact I.mod.glob.keeps I.bk) hm h) hd
theorem ld_blt {E : Value → Shared → Prop} {pins : List (Addr × Obj)} {s : Shared} {σ : St} {H : Hp} {x : Str} {u : Value} {pos : Pos} {Q : Value → Shared → Prop} (I : Inv X pins σ H s) (hg : Gl X x) (hm : X.mg x = none) (hv : bootBuiltins x = some u) (h : Q u s)
    (hn : x ≠ "__name__" := by decide) (hd : (x == ("__debug__" : Str)) = false := by decide) : wpAny (model X.prog X.w) X.A (eval (.Name x pos) X.env) Q E s := by
  obtain ⟨mb, h1, h2⟩ := I.mod.blt
  exact Calls.Name_function_global I.ok.kind hg (Calls.loadGlobal_builtin (by rw [I.ok.glob]; exact I.mod.glob.keeps I.bk) hm (by rw [I.ok.blt]; exact h1.keeps I.bk) ((h2 x hn).trans hv) h) hd
theorem pe_bltn {x : Str} {v : V} {u : Value} {pos : Pos} (hg : Gl X x) (hm : X.mg x = none) (hv : bootBuiltins x = some u) (r : RelV v u) (hn : x ≠ "__name__" := by decide) (hd : (x == ("__debug__" : Str)) = false := by decide) : PE X (.Name x pos) (tC v) :=
  fun _ _ _ H _ I h => ld_blt I hg hm hv ⟨v, H, I, r, h⟩ hn hd
variable {a b : Expr} {ta tb : TE} {pos : Pos}
def PC (X : Cx) (op : CmpOp) (a b : Expr) (t : TE) : Prop :=
  ∀ (pins : List (Addr × Obj)) (s : Shared) (σ : St) (H : Hp) (Q : VK), Inv X pins σ H s → t σ H Q →
    wpAny (model X.prog X.w) X.A (eval a X.env) (fun v s₁ => wpAny (model X.prog X.w) X.A (eval b X.env) (fun u s₂ => wpAny (model X.prog X.w) X.A (compareOp op v u) (EP X pins σ Q) X.xe s₂) X.xe s₁) X.xe s
theorem nobehind (b : Expr) {op : CmpOp} (h : op ≠ .In) (h2 : op ≠ .NotIn) : behindInMarks op b = false := by
  have e1 : (op == CmpOp.In) = false := by cases op <;> first | rfl | exact absurd rfl h
  have e2 : (op == CmpOp.NotIn) = false := by cases op <;> first | rfl | exact absurd rfl h2
  cases b <;> simp [behindInMarks, e1, e2]
def tB (t : TE) : TT := fun σ H Q => t σ H fun x H1 => ∃ c, x = .bl c ∧ Q c H1
theorem pt_cmp {op : CmpOp} {t : TE} (h : PC X op a b t) (h1 : behindInMarks op b = false := by first | exact nobehind _ (by decide) (by decide) | rfl) : PT X (.Compare a [op] [b] pos) (tB t) := by
  intro pins s σ H Q I hw
  refine wpAny_isTrue_Compare1 (thn (h pins s σ H _ I hw) fun v s1 h1 => thn h1 fun u s2 h2 => thn h2 fun c s3 ⟨x, H1, I1, r1, q1⟩ => ?_) h1
  obtain ⟨d, rfl, q⟩ := q1
  cases r1
  exact wpAny_truthy_bool ⟨H1, I1, q⟩
theorem pt_val {e : Expr} {t : TE} (h : PE X e t) (he : ∀ whole, isTrue e X.env whole = (do let v ← whole; standAt e.pos; holding [v] (truthy v)) := by intro _; rfl) : PT X e (tB t) := by
  intro pins s σ H Q I hw
  refine isTrue_plain (thn (h pins s σ H _ I hw) fun v s1 ⟨x, H1, I1, r1, q1⟩ => ?_) (he _)
  obtain ⟨d, rfl, q⟩ := q1
  cases r1
  exact wpAny_truthy_bool ⟨H1, I1, q⟩
variable {tA tB' : TT} {rest : List Expr}
def tOr (t u : TT) : TT := fun σ H Q => t σ H fun c H1 => if c = true then Q true H1 else u σ H1 Q
def tNot (t : TT) : TT := fun σ H Q => t σ H fun c H1 => Q (!c) H1
theorem pw_or1 (ha : PT X a tA) : PW X (.BoolOp .Or [a] pos) tA := by
  intro wh pins s σ H Q I h
  refine isTrue_or (thn (ha pins s σ H Q I h) fun c s1 e => ?_)
  cases c with
  | false => exact isTrue_or_nil e
  | true => exact e
theorem pw_or (ha : PT X a tA) (hb : PW X (.BoolOp .Or (b :: rest) pos) tB') : PW X (.BoolOp .Or (a :: b :: rest) pos) (tOr tA tB') := by
  intro wh pins s σ H Q I h
  refine isTrue_or (thn (ha pins s σ H _ I h) fun c s1 ⟨H1, I1, q1⟩ => ?_)
  cases c with
  | true => exact ⟨H1, I1, q1⟩
  | false => exact hb wh pins s1 σ H1 Q I1 q1
theorem pt_not (ha : PT X a tA) : PT X (.UnaryOp .Not a pos) (tNot tA) := by
  intro pins s σ H Q I h
  exact isTrue_not (ha pins s σ H (fun c H1 => Q (!c) H1) I h)
def tAndV (ta tb : TE) : TE := fun σ H Q => ta σ H fun x H1 => ∃ c, x = .bl c ∧ if c = true then tb σ H1 Q else Q (.bl false) H1
def tNotV (ta : TE) : TE := fun σ H Q => ta σ H fun x H1 => ∃ c, x = .bl c ∧ Q (.bl (!c)) H1
theorem pe_one {op} {t : TE} (h : PE X a t) : PE X (.BoolOp op [a] pos) t := fun pins s σ H Q I hw => BoolOp_one (h pins s σ H Q I hw)
theorem pe_and (ha : PE X a ta) (hb : PE X (.BoolOp .And (b :: rest) pos) tb) : PE X (.BoolOp .And (a :: b :: rest) pos) (tAndV ta tb) := by
  intro pins s σ H Q I h
  refine BoolOp_and (thn (ha pins s σ H _ I h) fun v s1 ⟨x, H1, I1, r1, q1⟩ => ?_)
  obtain ⟨c, rfl, q1⟩ := q1
  cases r1
  refine wpAny_truthy_bool ?_
  cases c with
  | true => exact hb pins s1 σ H1 Q I1 q1
  | false => exact ⟨.bl false, H1, I1, rfl, q1⟩
theorem pe_not (ha : PE X a ta) : PE X (.UnaryOp .Not a pos) (tNotV ta) := by
  intro pins s σ H Q I h
  refine UnaryOp_ (thn (ha pins s σ H _ I h) fun v s1 ⟨x, H1, I1, r1, q1⟩ => ?_)
  obtain ⟨c, rfl, q1⟩ := q1
  cases r1
  exact not_of (wpAny_truthy_bool ⟨.bl (!c), H1, I1, rfl, q1⟩)
end
end L2
namespace L2
open PySem PySem.Spec PyProof.Rows
def SqL (K : PySem.W.Frag) (H : Hp) (a : Addr) (xs : List V) : Prop :=
  Rd H a (.lst xs) ∨
    ∃ (o : Obj) (its : Array Value) (n : Nat), K.lookup a = some o ∧ o.cls = .type "list" ∧ o.dict = none ∧ o.data = .seq its n ∧ its.size ≤ sizeLine ∧ Vals xs its.toList
def SqT (K : PySem.W.Frag) (H : Hp) (a : Addr) (xs : List V) : Prop :=
  Rd H a (.tup xs) ∨
    ∃ (o : Obj) (its : Array Value) (n : Nat), K.lookup a = some o ∧ o.cls = .type "tuple" ∧ o.data = .seq its n ∧ its.size ≤ sizeLine ∧ Vals xs its.toList
def absV : Value → Option V
  | .none => some .non
  | .bool b => some (.bl b)
  | .int i _ => some (.int i)
  | .str x _ => some (.str x)
  | .bytes b _ => some (.byt b)
  | .float b _ => some (.flt b)
  | .ref a => some (.ref a)
  | .type n => some (.ty n)
  | _ => none
theorem RelV.abs {x : V} {u : Value} (r : RelV x u) : absV u = some x := by
  cases x with
  | non => cases r; rfl
  | bl _ => cases r; rfl
  | int _ => obtain ⟨t, rfl⟩ := r; rfl
  | str _ => obtain ⟨t, rfl⟩ := r; rfl
  | byt _ => obtain ⟨t, rfl⟩ := r; rfl
  | flt _ => obtain ⟨t, rfl⟩ := r; rfl
  | ref _ => cases r; rfl
  | ty _ => cases r; rfl
theorem RelV.inj {x y : V} {u : Value} (r : RelV x u) (q : RelV y u) : x = y := Option.some.inj (r.abs.symm.trans q.abs)
theorem Vals.inj : ∀ {xs ys : List V} {us : List Value}, Vals xs us → Vals ys us → xs = ys
  | _, _, _, .nil, .nil => rfl
  | _, _, _, .cons r t, .cons r' t' => by rw [r.inj r', Vals.inj t t']
section
variable {X : Cx} {pins : List (Addr × Obj)} {σ : St} {H : Hp} {s : Shared} {a : Addr} {xs ys : List V}
theorem SqL.of {K : PySem.W.Frag} (h : H a = some (.lst xs)) : SqL K H a xs := .inl (.inl h)
theorem SqT.of {K : PySem.W.Frag} (h : H a = some (.tup xs)) : SqT K H a xs := .inl (.inl h)
theorem Inv.list (I : Inv X pins σ H s) (h : SqL X.K H a xs) : ∃ its : List Value, Vals xs its ∧ PlainL s.heap a its.toArray ∧ xs.length ≤ sizeLine := by
  rcases h with h | ⟨o, its, n, hk, hc, hd, hs, hz, r⟩
  · obtain ⟨z, its, n, r, e⟩ := h.ok I.hok
    exact ⟨its, r, ⟨_, n, e, rfl, rfl, rfl⟩, z⟩
  · refine ⟨its.toList, r, ⟨o, n, I.kIn a o hk, hc, hd, by simpa using hs⟩, ?_⟩
    have e := r.length
    simp only [Array.length_toList] at e
    omega
theorem Inv.tuple (I : Inv X pins σ H s) (h : SqT X.K H a xs) : ∃ its : List Value, Vals xs its ∧ IsTup s.heap a its.toArray ∧ xs.length ≤ sizeLine := by
  rcases h with h | ⟨o, its, n, hk, hc, hs, hz, r⟩
  · obtain ⟨z, its, r, p⟩ := h.ok I.hok
    exact ⟨its, r, p, z⟩
  · refine ⟨its.toList, r, ⟨o, I.kIn a o hk, hc, n, by simpa using hs⟩, ?_⟩
    have e := r.length
    simp only [Array.length_toList] at e
    omega
theorem Inv.list_inj (I : Inv X pins σ H s) (h : SqL X.K H a xs) (h' : SqL X.K H a ys) : xs = ys := by
  obtain ⟨its, r, ⟨o, n, e, _, _, d⟩, _⟩ := I.list h
  obtain ⟨its', r', ⟨o', n', e', _, _, d'⟩, _⟩ := I.list h'
  rw [e] at e'; cases e'
  rw [d] at d'
  injection d' with d1 _
  have : its = its' := by simpa using congrArg Array.toList d1
  subst this
  exact r.inj r'
theorem Inv.tuple_inj (I : Inv X pins σ H s) (h : SqT X.K H a xs) (h' : SqT X.K H a ys) : xs = ys := by
  obtain ⟨its, r, ⟨o, e, _, n, d⟩, _⟩ := I.tuple h
  obtain ⟨its', r', ⟨o', e', _, n', d'⟩, _⟩ := I.tuple h'
  rw [e] at e'; cases e'
  rw [d] at d'
  injection d' with d1 _
  have : its = its' := by simpa using congrArg Array.toList d1
  subst this
  exact r.inj r'
end
abbrev Cx.wish (X : Cx) (E : Value → Shared → Prop) : Cx := { X with xe := E }
abbrev Cx.nox (X : Cx) : Cx := X.wish fun _ _ => False
theorem Cx.Ok.wish {X : Cx} (ok : X.Ok) (E : Value → Shared → Prop) : (X.wish E).Ok :=
  ⟨ok.mod, ok.kind, ok.glob, ok.blt, ok.above, ok.inj, ok.has, ok.cab, ok.hd, ok.frames, ok.stk, ok.exf, ok.bs, ok.bsz, ok.noex, ok.exfs, ok.funs, ok.frf⟩
theorem Cx.Ok.unwish {X : Cx} {E : Value → Shared → Prop} (ok : (X.wish E).Ok) : X.Ok :=
  ⟨ok.mod, ok.kind, ok.glob, ok.blt, ok.above, ok.inj, ok.has, ok.cab, ok.hd, ok.frames, ok.stk, ok.exf, ok.bs, ok.bsz, ok.noex, ok.exfs, ok.funs, ok.frf⟩
section
variable {X : Cx} {pins : List (Addr × Obj)} {σ : St} {H : Hp} {s : Shared} {E : Value → Shared → Prop}
theorem Inv.wish (I : Inv X pins σ H s) (E : Value → Shared → Prop) : Inv (X.wish E) pins σ H s := ⟨I.ok.wish E, I.os, I.bare, I.base, I.loc, I.cell, I.free, I.freeC, I.pin, I.hok, I.len⟩
theorem Inv.unwish (I : Inv (X.wish E) pins σ H s) : Inv X pins σ H s := ⟨I.ok.unwish, I.os, I.bare, I.base, I.loc, I.cell, I.free, I.freeC, I.pin, I.hok, I.len⟩
theorem SP.unwish {D : Ends} {f : Flow} {s' : Shared} (h : SP (X.wish E) pins D f s') : SP X pins D f s' := by
  cases f with
  | next => obtain ⟨σ', H', I, q⟩ := h; exact ⟨σ', H', I.unwish, q⟩
  | brk => obtain ⟨σ', H', I, q⟩ := h; exact ⟨σ', H', I.unwish, q⟩
  | cont => obtain ⟨σ', H', I, q⟩ := h; exact ⟨σ', H', I.unwish, q⟩
  | ret u => obtain ⟨v, σ', H', I, r, q⟩ := h; exact ⟨v, σ', H', I.unwish, r, q⟩
theorem PSs.nox {st : List Stmt} {t : TS} (h : PSs X.nox st t) : PSs X st t := fun pins s σ H D I hw =>
  wpAny_mono (h pins s σ H D (I.wish _) hw) (fun _ _ q => q.unwish) fun _ _ z => False.elim z
end
section
variable {X : Cx} {st : Stmt} {rest : List Stmt} {t u : TS} {e : Expr} {te : TE} {pos : Pos}
def tNext : TS := fun D σ H => D.nx σ H
def tSeq (t u : TS) : TS := fun D σ H => t { D with nx := u D } σ H
theorem pss_nil : PSs X [] tNext := fun _ _ σ H _ I h => wpAny_execs_nil ⟨σ, H, I, h⟩
theorem pss_cons (h1 : PS X st t) (h2 : PSs X rest u) : PSs X (st :: rest) (tSeq t u) := by
  intro pins s σ H D I h
  refine wpAny_execs_cons (thn (h1 pins s σ H { D with nx := u D } I h) fun f s1 q => ?_)
  cases f with
  | next =>
    obtain ⟨σ', H', I', q⟩ := q
    exact h2 pins s1 σ' H' D I' q
  | ret v => exact q
  | brk => exact q
  | cont => exact q
theorem pss_one (h1 : PS X st t) : PSs X [st] t := by
  intro pins s σ H D I h
  refine wpAny_execs_cons (thn (h1 pins s σ H D I h) fun f s1 q => ?_)
  cases f with
  | next => exact wpAny_execs_nil q
  | ret v => exact q
  | brk => exact q
  | cont => exact q
theorem Inv.quiet {pins : List (Addr × Obj)} {σ : St} {H : Hp} {s : Shared} (I : Inv X pins σ H s) : interactive X.env = false := by simp [interactive, I.ok.kind]
def tDrop (te : TE) : TS := fun D σ H => te σ H fun _ H1 => D.nx σ H1
theorem ps_expr (he : PE X e te) (hs : swapsWith e none pos.line X.env = pure false := by rfl) : PS X (.Expr e pos) (tDrop te) := by
  intro pins s σ H D I h
  exact wpAny_Expr_any (thn (he pins s σ H _ I h) fun v s1 ⟨x, H1, I1, r1, q1⟩ => ⟨σ, H1, I1, q1⟩) I.quiet hs
def tRet (te : TE) : TS := fun D σ H => te σ H D.rt
theorem ps_ret (he : PE X e te) : PS X (.Return (some e) pos) (tRet te) := by
  intro pins s σ H D I h
  exact wpAny_Return_some (thn (he pins s σ H _ I h) fun v s1 ⟨x, H1, I1, r1, q1⟩ => ⟨x, σ, H1, I1, r1, q1⟩)
def tIfS (c : TT) (t u : TS) : TS := fun D σ H => c σ H fun b H1 => if b = true then t D σ H1 else u D σ H1
theorem ps_if {c : Expr} {a b : List Stmt} {tc : TT} (hc : PT X c tc) (ha : PSs X a t) (hb : PSs X b u) : PS X (.If c a b pos) (tIfS tc t u) := by
  intro pins s σ H D I h
  refine wpAny_If (thn (hc pins s σ H _ I h) fun d s1 ⟨H1, I1, q1⟩ => ?_)
  cases d with
  | true => exact ha pins s1 σ H1 D I1 q1
  | false => exact hb pins s1 σ H1 D I1 q1
end
abbrev TG := V → St → Hp → (St → Hp → Prop) → Prop
abbrev TGs := List V → St → Hp → (St → Hp → Prop) → Prop
def PG (X : Cx) (target : Expr) (t : TG) : Prop :=
  ∀ (pins : List (Addr × Obj)) (s : Shared) (σ : St) (H : Hp) (v : V) (u : Value) (Q : St → Hp → Prop), Inv X pins σ H s → RelV v u → t v σ H Q →
    wpAny (model X.prog X.w) X.A (assign target X.env u) (fun _ s' => ∃ σ' H', Inv X pins σ' H' s' ∧ Q σ' H') X.xe s
def PGs (X : Cx) (ts : List Expr) (t : TGs) : Prop :=
  ∀ (pins : List (Addr × Obj)) (s : Shared) (σ : St) (H : Hp) (vs : List V) (us : List Value) (Q : St → Hp → Prop), Inv X pins σ H s → Vals vs us → t vs σ H Q →
    wpAny (model X.prog X.w) X.A (assignInOrder ((assignEach ts X.env).map (·.2)) us) (fun _ s' => ∃ σ' H', Inv X pins σ' H' s' ∧ Q σ' H') X.xe s
abbrev TSet := V → V → V → Hp → (Hp → Prop) → Prop
def PSet (X : Cx) (t : TSet) : Prop :=
  ∀ (pins : List (Addr × Obj)) (s : Shared) (σ : St) (H : Hp) (o i v : V) (ov iv u : Value) (Q : Hp → Prop), Inv X pins σ H s → RelV o ov → RelV i iv → RelV v u → t o i v H Q →
    wpAny (model X.prog X.w) X.A (setItem ov iv u) (fun _ s' => ∃ H', Inv X pins σ H' s' ∧ Q H') X.xe s
section
variable {X : Cx} {pos : Pos}
def gName (i : Nat) : TG := fun v σ H Q => Q (σ.set i (some v)) H
theorem pg_name {i : Nat} {x : Str} (hN : X.N.Nodup) (hi : X.N[i]? = some x) (hx : Loc X.env.scope x) (hf : X.fn x = true ∨ X.env.scope.names.lookup x = some .local := by first | exact .inl rfl | exact .inr rfl | assumption) : PG X (.Name x pos) (gName i) := by
  intro pins s σ H v u Q I r h
  exact wpAny_assign_Name (store_ok I hN hi hx r (fun s' I' => ⟨_, H, I', h⟩) hf)
def gNil : TGs := fun vs σ H Q => vs = [] ∧ Q σ H
def gCons (t : TG) (u : TGs) : TGs := fun vs σ H Q => ∃ v r, vs = v :: r ∧ t v σ H fun σ' H' => u r σ' H' Q
theorem pgs_nil : PGs X [] gNil := by
  intro pins s σ H vs us Q I r h
  obtain ⟨e, h⟩ := h
  subst e
  cases r
  exact assignInOrder_nil ⟨σ, H, I, h⟩
theorem pgs_cons {e : Expr} {es : List Expr} {t : TG} {u : TGs} (h1 : PG X e t) (h2 : PGs X es u)
    (hs : (assignEach (e :: es) X.env).map (·.2) = assign e X.env :: (assignEach es X.env).map (·.2) := by rfl) : PGs X (e :: es) (gCons t u) := by
  intro pins s σ H vs us Q I r h
  obtain ⟨v, vr, e1, h⟩ := h
  subst e1
  cases r with
  | cons r rr =>
    rw [hs]
    refine assignInOrder_cons (thn (h1 pins s σ H _ _ _ I r h) fun _ s1 ⟨σ1, H1, I1, q1⟩ => ?_)
    exact h2 pins s1 σ1 H1 _ _ Q I1 rr q1
def gTup (K : PySem.W.Frag) (n : Nat) (t : TGs) : TG := fun v σ H Q => ∃ a xs, v = .ref a ∧ SqT K H a xs ∧ xs.length = n ∧ t xs σ H Q
theorem pg_tup {es : List Expr} {k : Nat} {t : TGs} {n : Nat} (hc : X.calm = true) (h : PGs X es t)
    (hn : (assignEach es X.env).length = n := by rfl) (hst : (assignEach es X.env).findIdx? (·.1) = none := by rfl) : PG X (.Tuple es k pos) (gTup X.K n t) := by
  intro pins s σ H v u Q I r hw
  obtain ⟨a, xs, e1, hq, hl, hw⟩ := hw
  subst e1
  cases r
  obtain ⟨its, rv, ht, hz⟩ := I.tuple hq
  refine assign_Tuple_tuple (I.ok.hd hc) ht (by simp [hn, ← hl, rv.length]) hst fun h' hx => ?_
  have I1 : Inv X pins σ H { s with heap := h' } := I.kept (t' := s.toks) fun b o e => hx b o (Nat.ne_of_lt (Heap.lt_size e)) e
  exact h pins _ σ H xs _ Q I1 (by simpa using rv) hw
def gSub (to ti : TE) (t : TSet) : TG := fun v σ H Q => to σ H fun o H1 => ti σ H1 fun i H2 => t o i v H2 fun H3 => Q σ H3
theorem pg_sub {o i : Expr} {to ti : TE} {t : TSet} (ho : PE X o to) (hi : PE X i ti) (hs : PSet X t)
    (ha : ∀ v, assign (.Subscript o i pos) X.env v = (do
      let ov ← holding [v] (eval o X.env)
      let iv ← holding [v, ov] (eval i X.env)
      standAt pos
      holding [v, ov, iv] (setItem ov iv v)
      release [v, ov, iv] []) := by intro _; rfl) : PG X (.Subscript o i pos) (gSub to ti t) := by
  intro pins s σ H v u Q I r h
  rw [ha]
  refine wpAny_bind (wpAny_holding (thn (ho pins s σ H _ I h) fun ov s1 ⟨x, H1, I1, r1, q1⟩ => ?_))
  refine wpAny_bind (wpAny_holding (thn (hi pins s1 σ H1 _ I1 q1) fun iv s2 ⟨y, H2, I2, r2, q2⟩ => ?_))
  refine wpAny_bind (wpAny_standAt (wpAny_bind (wpAny_holding (thn (hs pins s2 σ H2 x y v ov iv u _ I2 r1 r2 r q2) fun _ s3 ⟨H3, I3, q3⟩ => ?_))))
  exact wpAny_release ⟨σ, H3, I3, q3⟩
def tAsg (te : TE) (g : TG) : TS := fun D σ H => te σ H fun x H1 => g x σ H1 D.nx
theorem ps_asg {tg e : Expr} {te : TE} {g : TG} (he : PE X e te) (hg : PG X tg g) (hs : swapsWithSole [tg] e pos.line X.env = pure false := by rfl) (hw : swappedStores [tg] e X.env = pure none := by rfl)
    (h1 : (assignEach [tg] X.env).map (·.2) = [assign tg X.env] := by rfl) : PS X (.Assign [tg] e pos) (tAsg te g) := by
  intro pins s σ H D I h
  refine wpAny_Assign_stores (thn (he pins s σ H _ I h) fun v s1 ⟨x, H1, I1, r1, q1⟩ => ?_) hs hw
  rw [h1]
  exact thn (hg pins s1 σ H1 x v _ I1 r1 q1) fun _ s2 q => q
theorem ps_set {i : Nat} {x : Str} {e : Expr} {te : TE} {pos' : Pos} (hN : X.N.Nodup) (hi : X.N[i]? = some x) (hx : Loc X.env.scope x) (he : PE X e te) (hs : swapsWith e (some (.Name x pos')) pos.line X.env = pure false := by rfl) (hf : X.fn x = true ∨ X.env.scope.names.lookup x = some .local := by first | exact .inl rfl | exact .inr rfl | assumption) :
    PS X (.Assign [.Name x pos'] e pos) (tAsg te (gName i)) := by
  intro pins s σ H D I h
  refine wpAny_Assign_Name (thn (he pins s σ H _ I h) fun v s1 ⟨y, H1, I1, r1, q1⟩ => ?_) hs
  exact store_ok I1 hN hi hx r1 (fun s2 I2 => ⟨_, H1, I2, q1⟩) hf
end
section
variable {X : Cx} {pos : Pos}
end
structure It where
  go : Nat → Hp → Prop
  yld : Nat → Hp → V → Hp → Prop
  stop : Nat → Hp → Prop
def FpOk (X : Cx) (pins : List (Addr × Obj)) (H : Hp) (b : Addr) : Prop :=
  H b = none ∧ b ≠ X.env.locals ∧ b ∉ X.fs ∧ (b ∈ X.ex ∨ X.s₀.heap.objs.size ≤ b) ∧ (∀ x c, X.env.cells.lookup x = some c → c ≠ b) ∧ ∀ p ∈ X.pn ++ pins, p.1 ≠ b
theorem Inv.fpOk {X : Cx} {pins : List (Addr × Obj)} {σ : St} {H H' : Hp} {s : Shared} {b : Addr} (I : Inv X pins σ H s) (hb : s.heap.objs.size ≤ b) (hn : H' b = none) : FpOk X pins H' b := by
  refine ⟨hn, Nat.ne_of_gt (Nat.lt_of_lt_of_le I.lt hb), I.nofs hb, .inr (Nat.le_trans I.sz hb), fun x c e z => ?_, fun p hp z => ?_⟩
  · obtain ⟨v, q⟩ := I.cell x c e
    exact absurd (Nat.lt_of_lt_of_le q.lt (by rw [z]; exact hb)) (Nat.lt_irrefl _)
  · exact absurd (Nat.lt_of_lt_of_le (Heap.lt_size (I.pin p hp).1) (by rw [z]; exact hb)) (Nat.lt_irrefl _)
structure Turn (P : Program) (w : World) (K : PySem.W.Frag) (tg : Expr) (J : It) (fp : List Addr) (it : Addr) (tn : Nat → Heap → Prop) : Prop where
  mem : it ∈ fp
  obj : ∀ i h, tn i h → ∀ b ∈ fp, ∃ o, h.get? b = some o ∧ ∀ v, o.data ≠ .cell v
  keep : ∀ i h h', tn i h → (∀ b ∈ fp, ∀ o, h.get? b = some o → h'.get? b = some o) → tn i h'
  item : ∀ (X : Cx), X.prog = P → X.w = w → X.K = K → X.calm = true → ∀ (i : Nat) (pins : List (Addr × Obj)) (s : Shared) (σ : St) (H : Hp) (E : Value → Shared → Prop), Inv X pins σ H s → (∀ b ∈ fp, FpOk X pins H b) → tn i s.heap → J.go i H →
    wpAny (model P w) X.A (pyNext (.ref it)) (fun r s1 => ∃ u, r = some u ∧
      wpAny (model P w) X.A (letOwnedTupleGo tg (.ref it) u) (fun _ s2 => ∃ x H', Inv X pins σ H' s2 ∧ RelV x u ∧ J.yld i H x H' ∧ tn (i + 1) s2.heap ∧ ∀ b ∈ fp, H' b = none) E s1) E s
  done : ∀ (X : Cx), X.prog = P → X.w = w → X.K = K → X.calm = true → ∀ (i : Nat) (pins : List (Addr × Obj)) (s : Shared) (σ : St) (H : Hp) (E : Value → Shared → Prop), Inv X pins σ H s → (∀ b ∈ fp, FpOk X pins H b) → tn i s.heap → J.stop i H →
    wpAny (model P w) X.A (pyNext (.ref it)) (fun r s1 => r = none ∧ Inv X pins σ H s1) E s
  self : ∀ (A : Around) (i : Nat) (s : Shared) (Q : Value → Shared → Prop) (E : Value → Shared → Prop), tn i s.heap → Q (.ref it) s → wpAny (model P w) A (pyIter (.ref it)) Q E s
abbrev TI := St → Hp → (It → Hp → Prop) → Prop
def PIE (X : Cx) (pins : List (Addr × Obj)) (σ : St) (tg : Expr) (R : It → Hp → Prop) (itv : Value) (s2 : Shared) : Prop :=
  ∃ (it : Addr) (fp : List Addr) (tn : Nat → Heap → Prop) (J : It) (H' : Hp), itv = .ref it ∧ Inv X pins σ H' s2 ∧ Turn X.prog X.w X.K tg J fp it tn ∧ tn 0 s2.heap ∧ (∀ b ∈ fp, FpOk X pins H' b) ∧ R J H'
def PI (X : Cx) (tg iter : Expr) (wi : TI) : Prop :=
  ∀ (pins : List (Addr × Obj)) (s : Shared) (σ : St) (H : Hp) (R : It → Hp → Prop), Inv X pins σ H s → wi σ H R →
    wpAny (model X.prog X.w) X.A (eval iter X.env) (fun v s1 => wpAny (model X.prog X.w) X.A (pyIter v) (PIE X pins σ tg R) X.xe s1) X.xe s
theorem go_of {M : Model} {A : Around} {E : Value → Shared → Prop} {s : Shared} {tg : Expr} {it : Addr} {u : Value} {o : Obj} {n : String} {vs : Array Value} {Q : Unit → Shared → Prop} (ho : s.heap.get? it = some o) (hc : o.cls = .type n) (hd : o.data = .fields vs)
    (hn : ["enumerate", "zip", "dict_itemiterator", "dict_reverseitemiterator", "odict_iterator", "itertools.zip_longest", "itertools.pairwise"].contains n = false) (hQ : Q () s) : wpAny M A (letOwnedTupleGo tg (.ref it) u) Q E s := by
  unfold letOwnedTupleGo
  cases tg <;> first
    | exact wpAny_pure hQ
    | (cases u <;> first
        | exact wpAny_pure hQ
        | (refine wpAny_bind (wpAny_load ho ?_)
           rw [hc, hd]
           show wpAny M A (if (["enumerate", "zip", "dict_itemiterator", "dict_reverseitemiterator", "odict_iterator", "itertools.zip_longest", "itertools.pairwise"].contains n && vs[0]? == some (rawInt _)) = true then _ else _) Q E s
           rw [if_neg (by intro h; rw [hn, Bool.false_and] at h; cases h)]
           exact wpAny_pure hQ))
def Itl (K : PySem.W.Frag) (a : Addr) : It :=
  ⟨fun i H => ∃ xs x, SqL K H a xs ∧ xs[i]? = some x, fun i H x H' => H' = H ∧ ∀ xs, SqL K H a xs → xs[i]? = some x, fun i H => ∃ xs, SqL K H a xs ∧ xs.length ≤ i⟩
def Itr (lo : Int) (n : Nat) : It := ⟨fun i _ => i < n, fun i H x H' => H' = H ∧ x = .int (lo + i), fun i _ => n ≤ i⟩
theorem turn_list {P : Program} {w : World} {K : PySem.W.Frag} {tg : Expr} (a it : Addr) : Turn P w K tg (Itl K a) [it] it (fun i h => h.IsListIter it a i) where
  mem := by simp
  obj := fun i h st b hb => by
    have e : b = it := by simpa using hb
    subst e
    obtain ⟨o, e, c, d⟩ := st
    exact ⟨o, e, fun v z => by rw [d] at z; cases z⟩
  keep := fun i h h' st k => st.at fun o e => k it (by simp) o e
  item := by
    intro X hP hw hK hc i pins s σ H E I hf st hg
    subst hP hw hK
    obtain ⟨xs, x, hq, hx⟩ := hg
    obtain ⟨its, rv, p, hz⟩ := I.list hq
    obtain ⟨u, hu, ru⟩ := rv.get hx
    obtain ⟨f0, f1, f2, f3, f4, f5⟩ := hf it (by simp)
    refine wpAny_pyNext_list_item st p.isList (x := u) (by simpa using hu) fun h' st' sb => ?_
    have I1 : Inv X pins σ H { s with heap := h' } := I.turned (t' := s.toks) (fun b o hb e => (sb.2 b hb).trans e) f0 f1 f3 f4 f5
    obtain ⟨o, e, c, d⟩ := id st'
    exact ⟨u, rfl, go_of (s := { s with heap := h' }) e c d (by decide) ⟨x, H, I1, ru, ⟨rfl, fun ys hy => by rw [I.list_inj hy hq]; exact hx⟩, st', fun b hb => (hf b hb).1⟩⟩
  done := by
    intro X hP hw hK hc i pins s σ H E I hf st hg
    subst hP hw hK
    obtain ⟨xs, hq, hx⟩ := hg
    obtain ⟨its, rv, p, hz⟩ := I.list hq
    obtain ⟨f0, f1, f2, f3, f4, f5⟩ := hf it (by simp)
    have hl := rv.length
    exact wpAny_pyNext_list_end (I.ok.hd hc) st p.isList (by simp; omega) fun h' eb => ⟨rfl, I.turned (t' := s.toks) (fun b o hb e => eb b o hb e) f0 f1 f3 f4 f5⟩
  self := fun _ _ _ _ _ st h => wpAny_pyIter_listiter st h
theorem turn_range {P : Program} {w : World} {K : PySem.W.Frag} {tg : Expr} (it : Addr) (lo : Int) (n : Nat) : Turn P w K tg (Itr lo n) [it] it (fun i h => IsRangeIter h it (lo + (i : Nat) * 1) ((n : Int) - (i : Nat)) 1) where
  mem := by simp
  obj := fun i h st b hb => by
    have e : b = it := by simpa using hb
    subst e
    exact ⟨_, st, fun v z => by
      have z' : Data.fields _ = Data.cell v := z
      cases z'⟩
  keep := fun i h h' st k => k it (by simp) _ st
  item := by
    intro X hP hw hK hc i pins s σ H E I hf st hg
    subst hP hw hK
    obtain ⟨f0, f1, f2, f3, f4, f5⟩ := hf it (by simp)
    have W := Walks.range (prog := X.prog) (w := X.w) (I.ok.hd hc) it lo 1 n
    refine W.item i s _ _ hg st fun v h' tk hv st' kk => ?_
    obtain ⟨t, rfl⟩ := hv
    have I1 : Inv X pins σ H { s with heap := h', toks := tk } := I.turned (fun b o hb e => kk b o (by simpa using hb) e) f0 f1 f3 f4 f5
    refine ⟨_, rfl, go_of (s := { s with heap := h', toks := tk }) (n := "range_iterator") st' rfl rfl (by decide) ⟨.int (lo + i), H, I1, ⟨t, ?_⟩, ⟨rfl, rfl⟩, st', fun b hb => (hf b hb).1⟩⟩
    rw [Int.mul_one]
  done := by
    intro X hP hw hK hc i pins s σ H E I hf st hg
    subst hP hw hK
    obtain ⟨f0, f1, f2, f3, f4, f5⟩ := hf it (by simp)
    exact wpAny_pyNext_range_end (I.ok.hd hc) st (by have : n ≤ i := hg; omega) fun h' eb => ⟨rfl, I.turned (t' := s.toks) (fun b o hb e => eb b o hb e) f0 f1 f3 f4 f5⟩
  self := fun _ _ _ _ _ st h => wpAny_pyIter_rangeiter st h
end L2
namespace L2
open PySem PySem.Spec PyProof.Rows
section
variable {X : Cx} {tg : Expr}
def iList (K : PySem.W.Frag) (tl : TE) : TI := fun σ H R => tl σ H fun x H1 => ∃ a, x = .ref a ∧ (∃ xs, SqL K H1 a xs) ∧ R (Itl K a) H1
theorem pi_list {l : Expr} {tl : TE} (hl : PE X l tl) : PI X tg l (iList X.K tl) := by
  intro pins s σ H R I h
  refine thn (hl pins s σ H _ I h) fun v s1 ⟨x, H1, I1, r1, q1⟩ => ?_
  obtain ⟨a, e, ⟨xs, hq⟩, q⟩ := q1
  subst e
  cases r1
  obtain ⟨its, rv, p, hz⟩ := I1.list hq
  refine wpAny_pyIter_list p.isList ?_
  refine ⟨s1.heap.objs.size, [s1.heap.objs.size], _, _, H1, rfl, I1.kept (t' := s1.toks) fun b o e => Heap.get?_push_of_some _ e, turn_list a _, ⟨_, Heap.get?_push_size _ rfl, rfl, rfl⟩, fun b hb => ?_, q⟩
  have e : b = s1.heap.objs.size := by simpa using hb
  subst e
  exact I1.fpOk (Nat.le_refl _) (I1.hok.fresh (Nat.le_refl _))
theorem range_it {pins : List (Addr × Obj)} {σ : St} {H : Hp} {s : Shared} {R : It → Hp → Prop} {E : Value → Shared → Prop} {lo hi : Int} {t u v : Tok} {tk : Nat} (I : Inv X pins σ H s) (h1 : -(2 ^ 62) ≤ lo) (h2 : lo < 2 ^ 62) (h3 : -(2 ^ 62) ≤ hi) (h4 : hi < 2 ^ 62)
    (q : R (Itr lo (hi - lo).toNat) H) : wpAny (model X.prog X.w) X.A (pyIter (.ref s.heap.objs.size)) (PIE X pins σ tg R) E { s with heap := s.heap.push { cls := .type "range", data := .fields #[.int lo t, .int hi u, .int 1 v] }, toks := tk } := by
  refine wpAny_pyIter_range (IsRange.new ..) (small_one h1 h2 h3 h4) ?_
  have I1 : Inv X pins σ H { s with heap := s.heap.push { cls := .type "range", data := .fields #[.int lo t, .int hi u, .int 1 v] }, toks := tk } := I.kept fun b o e => Heap.get?_push_of_some _ e
  refine ⟨(s.heap.push { cls := .type "range", data := .fields #[.int lo t, .int hi u, .int 1 v] }).objs.size, [(s.heap.push { cls := .type "range", data := .fields #[.int lo t, .int hi u, .int 1 v] }).objs.size], _, _, H, rfl,
    I1.kept (t' := tk) fun b o e => Heap.get?_push_of_some _ e, turn_range _ lo (hi - lo).toNat, ?_, fun b hb => ?_, q⟩
  · have e1 : lo + ((0 : Nat) : Int) * 1 = lo := by simp
    have e2 : (((hi - lo).toNat : Nat) : Int) - ((0 : Nat) : Int) = Builtin.Range.rangeSize lo hi 1 := by rw [rangeSize_one]; split <;> omega
    show IsRangeIter _ _ (lo + ((0 : Nat) : Int) * 1) ((((hi - lo).toNat : Nat) : Int) - ((0 : Nat) : Int)) 1
    rw [e1, e2]
    exact Heap.get?_push_size _ rfl
  · have e : b = (s.heap.push { cls := .type "range", data := .fields #[.int lo t, .int hi u, .int 1 v] }).objs.size := by simpa using hb
    subst e
    exact I1.fpOk (Nat.le_refl _) (I1.hok.fresh (Nat.le_refl _))
def iRng1 (ta : TA) : TI := fun σ H R => ta σ H fun vs H1 => ∃ j : Int, vs = [.int j] ∧ -(2 ^ 62) ≤ j ∧ j < 2 ^ 62 ∧ R (Itr 0 j.toNat) H1
def iRng2 (ta : TA) : TI := fun σ H R => ta σ H fun vs H1 => ∃ i j : Int, vs = [.int i, .int j] ∧ (-(2 ^ 62) ≤ i ∧ i < 2 ^ 62 ∧ -(2 ^ 62) ≤ j ∧ j < 2 ^ 62) ∧ R (Itr i (j - i).toNat) H1
theorem pi_range1 {a : Expr} {ta : TA} {p pos : Pos} (hg : Gl X "range") (hm : X.mg "range" = none) (ha : PA X [a] ta) (hs : starEach [a] X.env = [(false, eval a X.env)] := by rfl) : PI X tg (.Call (.Name "range" p) [a] [] pos) (iRng1 ta) := by
  intro pins s σ H R I h
  refine Call_ (ld_blt I hg hm boot_range (PyProof.Rows.callWith_type1 (thn (ha pos pins s σ H _ I h) fun us s1 ⟨vs, H1, I1, r1, q1⟩ => ?_) hs rfl))
  obtain ⟨j, e, q1, q2, q⟩ := q1
  subst e
  cases r1 with
  | cons r rr =>
    cases rr
    obtain ⟨t, rfl⟩ := r
    exact call_range_1 (range_it I1 (by omega) (by omega) q1 q2 (by simpa using q))
theorem pi_range2 {a b : Expr} {ta : TA} {p pos : Pos} (hg : Gl X "range") (hm : X.mg "range" = none) (ha : PA X [a, b] ta) (hs : starEach [a, b] X.env = [(false, eval a X.env), (false, eval b X.env)] := by rfl) (hs2 : starEach [b] X.env = [(false, eval b X.env)] := by rfl) :
    PI X tg (.Call (.Name "range" p) [a, b] [] pos) (iRng2 ta) := by
  intro pins s σ H R I h
  refine Call_ (ld_blt I hg hm boot_range (PyProof.Rows.callWith_type1 (thn (ha pos pins s σ H _ I h) fun us s1 ⟨vs, H1, I1, r1, q1⟩ => ?_) (by rw [hs, hs2]) (by rw [hs2]; rfl)))
  obtain ⟨i, j, e, ⟨q1, q2, q3, q4⟩, q⟩ := q1
  subst e
  cases r1 with
  | cons r rr =>
    cases rr with
    | cons r' rr =>
      cases rr
      obtain ⟨t, rfl⟩ := r
      obtain ⟨t', rfl⟩ := r'
      exact call_range_2 (range_it I1 q1 q2 q3 q4 q)
def tFor (wi : TI) (g : TG) (tb : TS) : TS := fun D σ H => wi σ H fun J H1 => ∃ W : Nat → Nat → St → Hp → Prop, (∃ m, W 0 m σ H1) ∧ ∀ i m σ H, W i m σ H →
  (J.stop i H ∧ D.nx σ H) ∨ (J.go i H ∧ ∃ N : St → Hp → Prop, (∀ σ' H', N σ' H' → ∃ m', m' < m ∧ W (i + 1) m' σ' H') ∧ ∀ x H', J.yld i H x H' → g x σ H' fun σ2 H2 => tb { D with nx := N, ct := N, bk := D.nx } σ2 H2)
def pinsAt (fp : List Addr) (h : Heap) : List (Addr × Obj) := fp.filterMap fun b => (h.get? b).map fun o => (b, o)
theorem mem_pinsAt {fp : List Addr} {h : Heap} {b : Addr} {o : Obj} (hb : b ∈ fp) (e : h.get? b = some o) : (b, o) ∈ pinsAt fp h := List.mem_filterMap.mpr ⟨b, hb, by rw [e]; rfl⟩
theorem of_pinsAt {fp : List Addr} {h : Heap} {p : Addr × Obj} (hp : p ∈ pinsAt fp h) : p.1 ∈ fp ∧ h.get? p.1 = some p.2 := by
  obtain ⟨b, hb, e⟩ := List.mem_filterMap.mp hp
  cases q : h.get? b with
  | none => rw [q] at e; cases e
  | some o =>
    rw [q] at e
    have e' : (b, o) = p := Option.some.inj e
    subst e'
    exact ⟨hb, q⟩
theorem Inv.pinned {pins : List (Addr × Obj)} {σ : St} {H : Hp} {s : Shared} {fp : List Addr} (I : Inv X pins σ H s) (hf : ∀ b ∈ fp, FpOk X pins H b) (ho : ∀ b ∈ fp, ∃ o, s.heap.get? b = some o ∧ ∀ v, o.data ≠ .cell v) : Inv X (pins ++ pinsAt fp s.heap) σ H s :=
  I.pins_of fun p hp => (List.mem_append.mp hp).elim (fun z => I.pin p (List.mem_append_right _ z)) fun z => by
    obtain ⟨hb, e⟩ := of_pinsAt z
    obtain ⟨f0, f1, f2, _⟩ := hf p.1 hb
    obtain ⟨o, e', d⟩ := ho p.1 hb
    rw [e] at e'; cases e'
    exact ⟨e, f0, f1, f2, d⟩
theorem Inv.unpinned {pins pl : List (Addr × Obj)} {σ : St} {H : Hp} {s : Shared} (I : Inv X (pins ++ pl) σ H s) : Inv X pins σ H s := I.pins_of fun p hp => I.pin p (List.mem_append_right _ (List.mem_append_left _ hp))
theorem ps_for {iter : Expr} {body : List Stmt} {wi : TI} {g : TG} {tb : TS} {pos : Pos} (hp : PassesOwn (model X.prog X.w) X.A X.env X.xe) (hc : X.calm = true) (hi : PI X tg iter wi) (hg : PG X tg g) (hb : PSs X body tb)
    (hs : ∀ x, foldedSetIterable iter X.env x = pure x := by intro _; rfl) : PS X (.For tg iter body [] pos) (tFor wi g tb) := by
  intro pins s σ H D I h
  refine wpAny_For (thn (hi pins s σ H _ I h) fun v s1 h1 => thn h1 fun itv s2 h2 => ?_) hs
  obtain ⟨it, fp, tn, J, H2, e, I2, T, st2, f2, W, ⟨m0, w0⟩, turn⟩ := h2
  subst e
  have stat : ∀ {H' : Hp}, (∀ b ∈ fp, H' b = none) → ∀ b ∈ fp, FpOk X pins H' b := fun hn b hb => ⟨hn b hb, (f2 b hb).2⟩
  refine codeAny_forLoop_any (fun n s' => ∃ i σ' H', Inv X pins σ' H' s' ∧ tn i s'.heap ∧ (∀ b ∈ fp, H' b = none) ∧ W i n σ' H') ?_ m0 ⟨0, σ, H2, I2, st2, fun b hb => (f2 b hb).1, w0⟩
  rintro n s3 ⟨i, σ3, H3, I3, st3, fr3, w3⟩
  rcases turn i n σ3 H3 w3 with ⟨stop, qn⟩ | ⟨go, N, hN, step⟩
  · refine wpAny_passesOwn hp (thn (T.done X rfl rfl rfl hc i pins s3 σ3 H3 X.xe I3 (stat fr3) st3 stop) fun r s4 ⟨hr, I4⟩ => ?_)
    subst hr
    exact wpAny_execs_nil ⟨σ3, H3, I4, qn⟩
  · refine wpAny_passesOwn hp (thn (T.item X rfl rfl rfl hc i pins s3 σ3 H3 X.xe I3 (stat fr3) st3 go) fun r s4 ⟨u, hr, h4⟩ => ?_)
    subst hr
    refine wpAny_passesOwn hp (thn h4 fun _ s5 ⟨x, H5, I5, r5, y5, st5, fr5⟩ => ?_)
    have I5' := I5.pinned (stat fr5) (T.obj _ _ st5)
    refine wpAny_passesOwn hp (thn (hg _ s5 σ3 H5 x u _ I5' r5 (step x H5 y5)) fun _ s6 ⟨σ6, H6, I6, q6⟩ => ?_)
    refine wpAny_passesOwn hp (thn (hb _ s6 σ6 H6 _ I6 q6) fun f s7 q7 => ?_)
    have again : ∀ {σ7 : St} {H7 : Hp}, Inv X (pins ++ pinsAt fp s5.heap) σ7 H7 s7 → N σ7 H7 → ∃ m, m < n ∧ ∃ i σ' H', Inv X pins σ' H' s7 ∧ tn i s7.heap ∧ (∀ b ∈ fp, H' b = none) ∧ W i m σ' H' := fun {σ7 H7} I7 n7 => by
      obtain ⟨m', hm, w7⟩ := hN σ7 H7 n7
      refine ⟨m', hm, i + 1, σ7, H7, I7.unpinned, T.keep _ _ _ st5 fun b hb o e => (I7.pin (b, o) (List.mem_append_right _ (List.mem_append_right _ (mem_pinsAt hb e)))).1, fun b hb => ?_, w7⟩
      obtain ⟨o, e, d⟩ := T.obj _ _ st5 b hb
      exact (I7.pin (b, o) (List.mem_append_right _ (List.mem_append_right _ (mem_pinsAt hb e)))).2.1
    cases f with
    | next => obtain ⟨σ7, H7, I7, n7⟩ := q7; exact again I7 n7
    | cont => obtain ⟨σ7, H7, I7, n7⟩ := q7; exact again I7 n7
    | brk => obtain ⟨σ7, H7, I7, q7⟩ := q7; exact ⟨σ7, H7, I7.unpinned, q7⟩
    | ret v => obtain ⟨x7, σ7, H7, I7, r7, q7⟩ := q7; exact ⟨x7, σ7, H7, I7.unpinned, r7, q7⟩
end
theorem for_list {K : PySem.W.Frag} {a : Addr} {xs : List V} {g : TG} {tb : TS} {D : Ends} {σ : St} {H : Hp} (Pv : Nat → St → Hp → Prop) (h0 : Pv 0 σ H) (hl : ∀ i σ H, i ≤ xs.length → Pv i σ H → SqL K H a xs)
    (hs : ∀ i x σ H, xs[i]? = some x → Pv i σ H → g x σ H fun σ2 H2 => tb { D with nx := Pv (i + 1), ct := Pv (i + 1), bk := D.nx } σ2 H2) (hd : ∀ σ H, Pv xs.length σ H → D.nx σ H) :
    ∃ W : Nat → Nat → St → Hp → Prop, (∃ m, W 0 m σ H) ∧ ∀ i m σ H, W i m σ H →
      ((Itl K a).stop i H ∧ D.nx σ H) ∨ ((Itl K a).go i H ∧ ∃ N : St → Hp → Prop, (∀ σ' H', N σ' H' → ∃ m', m' < m ∧ W (i + 1) m' σ' H') ∧ ∀ x H', (Itl K a).yld i H x H' → g x σ H' fun σ2 H2 => tb { D with nx := N, ct := N, bk := D.nx } σ2 H2) := by
  refine ⟨fun i m σ H => m = xs.length - i ∧ i ≤ xs.length ∧ Pv i σ H, ⟨xs.length, by simp, Nat.zero_le _, h0⟩, ?_⟩
  rintro i m σ H ⟨rfl, hi, p⟩
  have q := hl i σ H hi p
  by_cases hlt : i < xs.length
  · refine .inr ⟨⟨xs, xs[i], q, by simp [hlt]⟩, Pv (i + 1), fun σ' H' p' => ⟨xs.length - (i + 1), by omega, rfl, hlt, p'⟩, fun x H' y => ?_⟩
    obtain ⟨e, y⟩ := y
    subst e
    exact hs i x σ _ (y xs q) p
  · have e : i = xs.length := by omega
    subst e
    exact .inl ⟨⟨xs, q, Nat.le_refl _⟩, hd σ H p⟩
theorem for_range {lo : Int} {n : Nat} {g : TG} {tb : TS} {D : Ends} {σ : St} {H : Hp} (Pv : Nat → St → Hp → Prop) (h0 : Pv 0 σ H)
    (hs : ∀ i σ H, i < n → Pv i σ H → g (.int (lo + i)) σ H fun σ2 H2 => tb { D with nx := Pv (i + 1), ct := Pv (i + 1), bk := D.nx } σ2 H2) (hd : ∀ σ H, Pv n σ H → D.nx σ H) :
    ∃ W : Nat → Nat → St → Hp → Prop, (∃ m, W 0 m σ H) ∧ ∀ i m σ H, W i m σ H →
      ((Itr lo n).stop i H ∧ D.nx σ H) ∨ ((Itr lo n).go i H ∧ ∃ N : St → Hp → Prop, (∀ σ' H', N σ' H' → ∃ m', m' < m ∧ W (i + 1) m' σ' H') ∧ ∀ x H', (Itr lo n).yld i H x H' → g x σ H' fun σ2 H2 => tb { D with nx := N, ct := N, bk := D.nx } σ2 H2) := by
  refine ⟨fun i m σ H => m = n - i ∧ i ≤ n ∧ Pv i σ H, ⟨n, by simp, Nat.zero_le _, h0⟩, ?_⟩
  rintro i m σ H ⟨rfl, hi, p⟩
  by_cases hlt : i < n
  · refine .inr ⟨hlt, Pv (i + 1), fun σ' H' p' => ⟨n - (i + 1), by omega, rfl, hlt, p'⟩, fun x H' y => ?_⟩
    obtain ⟨e, y⟩ := y
    subst e y
    exact hs i σ _ hlt p
  · have e : i = n := by omega
    subst e
    exact .inl ⟨Nat.le_refl _, hd σ H p⟩
end L2
namespace L2
open PySem PySem.Spec PyProof.Rows
abbrev R2 := V → V → Hp → VK → Prop
def OpR (X : Cx) (f : Value → Value → Sem Value) (r : R2) : Prop :=
  ∀ (pins : List (Addr × Obj)) (s : Shared) (σ : St) (H : Hp) (x y : V) (v u : Value) (Q : VK), Inv X pins σ H s → RelV x v → RelV y u → r x y H Q →
    wpAny (model X.prog X.w) X.A (f v u) (EP X pins σ Q) X.xe s
def UnR (X : Cx) (f : Value → Sem Value) (r : V → Hp → VK → Prop) : Prop :=
  ∀ (pins : List (Addr × Obj)) (s : Shared) (σ : St) (H : Hp) (x : V) (v : Value) (Q : VK), Inv X pins σ H s → RelV x v → r x H Q →
    wpAny (model X.prog X.w) X.A (f v) (EP X pins σ Q) X.xe s
def CallR (X : Cx) (f : Value) (r : List V → Hp → VK → Prop) : Prop :=
  ∀ (pins : List (Addr × Obj)) (s : Shared) (σ : St) (H : Hp) (xs : List V) (us : List Value) (Q : VK), Inv X pins σ H s → Vals xs us → r xs H Q →
    wpAny (model X.prog X.w) X.A (call f us) (EP X pins σ Q) X.xe s
def TruR (X : Cx) (r : V → Hp → (Bool → Hp → Prop) → Prop) : Prop :=
  ∀ (pins : List (Addr × Obj)) (s : Shared) (σ : St) (H : Hp) (x : V) (v : Value) (Q : Bool → Hp → Prop), Inv X pins σ H s → RelV x v → r x H Q →
    wpAny (model X.prog X.w) X.A (truthy v) (TP X pins σ Q) X.xe s
def tOp (r : R2) (ta tb : TE) : TE := fun σ H Q => ta σ H fun x H1 => tb σ H1 fun y H2 => r x y H2 Q
def rI (C : Int → Int → Prop) (g : Int → Int → V) : R2 := fun x y H Q => ∃ i j, x = .int i ∧ y = .int j ∧ C i j ∧ Q (g i j) H
def rI0 (g : Int → Int → V) : R2 := fun x y H Q => ∃ i j, x = .int i ∧ y = .int j ∧ Q (g i j) H
section
variable {X : Cx} {a b c : Expr} {ta tb tc : TE} {pos : Pos}
theorem binT (ha : PE X a ta) (hb : PE X b tb) {pins : List (Addr × Obj)} {s : Shared} {σ : St} {H : Hp} {R : V → V → Hp → Prop} (I : Inv X pins σ H s)
    (h : ta σ H fun x H1 => tb σ H1 fun y H2 => R x y H2) {Q : Value → Shared → Prop} {f : Value → Value → Sem Value}
    (hf : ∀ v u s2 x y H2, Inv X pins σ H2 s2 → RelV x v → RelV y u → R x y H2 → wpAny (model X.prog X.w) X.A (f v u) Q X.xe s2) :
    wpAny (model X.prog X.w) X.A (eval a X.env) (fun v s₁ => wpAny (model X.prog X.w) X.A (eval b X.env) (fun u s₂ => wpAny (model X.prog X.w) X.A (f v u) Q X.xe s₂) X.xe s₁) X.xe s := by
  refine thn (ha pins s σ H _ I h) fun v s1 ⟨x, H1, I1, r1, q1⟩ => ?_
  refine thn (hb pins s1 σ H1 _ I1 q1) fun u s2 ⟨y, H2, I2, r2, q2⟩ => ?_
  exact hf v u s2 x y H2 I2 r1 r2 q2
theorem pe_op {op : Operator} {r : R2} (ho : OpR X (binaryOp op) r) (ha : PE X a ta) (hb : PE X b tb) : PE X (.BinOp a op b pos) (tOp r ta tb) := by
  intro pins s σ H Q I h
  exact wpAny_BinOp (binT ha hb I h fun v u s2 x y H2 I2 rx ry q => ho pins s2 σ H2 x y v u Q I2 rx ry q)
theorem opI {f : Value → Value → Sem Value} {C : Int → Int → Prop} {g : Int → Int → Int}
    (rule : ∀ (i j : Int) (t u : Tok) (s : Shared) (Q : Value → Shared → Prop) (E : Value → Shared → Prop), C i j → Q (.int (g i j) s.toks) { s with toks := s.toks + 1 } → wpAny (model X.prog X.w) X.A (f (.int i t) (.int j u)) Q E s) :
    OpR X f (rI C fun i j => .int (g i j)) := by
  intro pins s σ H x y v u Q I rx ry h
  obtain ⟨i, j, rfl, rfl, hc, q⟩ := h
  obtain ⟨t, rfl⟩ := rx
  obtain ⟨t', rfl⟩ := ry
  exact rule i j t t' s _ _ hc ⟨.int (g i j), H, I.tok _, ⟨_, rfl⟩, q⟩
theorem opI0 {f : Value → Value → Sem Value} {g : Int → Int → Int}
    (rule : ∀ (i j : Int) (t u : Tok) (s : Shared) (Q : Value → Shared → Prop) (E : Value → Shared → Prop), Q (.int (g i j) s.toks) { s with toks := s.toks + 1 } → wpAny (model X.prog X.w) X.A (f (.int i t) (.int j u)) Q E s) :
    OpR X f (rI0 fun i j => .int (g i j)) := by
  intro pins s σ H x y v u Q I rx ry h
  obtain ⟨i, j, rfl, rfl, q⟩ := h
  obtain ⟨t, rfl⟩ := rx
  obtain ⟨t', rfl⟩ := ry
  exact rule i j t t' s _ _ ⟨.int (g i j), H, I.tok _, ⟨_, rfl⟩, q⟩
theorem opB0 {f : Value → Value → Sem Value} {g : Int → Int → Bool}
    (rule : ∀ (i j : Int) (t u : Tok) (s : Shared) (Q : Value → Shared → Prop) (E : Value → Shared → Prop), Q (.bool (g i j)) s → wpAny (model X.prog X.w) X.A (f (.int i t) (.int j u)) Q E s) :
    OpR X f (rI0 fun i j => .bl (g i j)) := by
  intro pins s σ H x y v u Q I rx ry h
  obtain ⟨i, j, rfl, rfl, q⟩ := h
  obtain ⟨t, rfl⟩ := rx
  obtain ⟨t', rfl⟩ := ry
  exact rule i j t t' s _ _ ⟨.bl (g i j), H, I, rfl, q⟩
def CDiv (i j : Int) : Prop := 0 < j ∧ j < 1073741824
def CPow (i j : Int) : Prop := 0 ≤ j ∧ j ≤ 1000000 ∧ i.natAbs < 2 ^ 64
def CMul (i j : Int) : Prop := (-(2 ^ 64) < i ∧ i < 2 ^ 64) ∨ (-(2 ^ 64) < j ∧ j < 2 ^ 64)
theorem CMul.ok {i j : Int} (h : CMul i j) : IntMulOk i j := by
  rcases h with ⟨h1, h2⟩ | ⟨h1, h2⟩
  · exact .of_left (intBits_le_64 h1 h2)
  · exact .of_right (intBits_le_64 h1 h2)
theorem op_add : OpR X (binaryOp .Add) (rI0 fun i j => .int (i + j)) := opI0 fun _ _ _ _ _ _ _ q => add_int q
theorem op_sub : OpR X (binaryOp .Sub) (rI0 fun i j => .int (i - j)) := opI0 fun _ _ _ _ _ _ _ q => sub_int q
theorem op_mul : OpR X (binaryOp .Mult) (rI CMul fun i j => .int (i * j)) := opI fun _ _ _ _ _ _ _ hc q => mul_int q hc.ok
theorem op_fdiv : OpR X (binaryOp .FloorDiv) (rI CDiv fun i j => .int (i / j)) := opI fun i j _ _ _ _ _ hc q => by
  have h1 : (0 : Int) < j := hc.1
  have h2 : j < 1073741824 := hc.2
  exact floordiv_int (by omega) (by rw [Int.fdiv_eq_ediv_of_nonneg i (by omega)]; exact q) (.inl (PyProof.noPylong_small (by omega)))
theorem op_mod : OpR X (binaryOp .Mod) (rI (fun _ j => 0 < j) fun i j => .int (i % j)) := opI fun i j _ _ _ _ _ hc q => by
  have h1 : (0 : Int) < j := hc
  exact mod_int' (by omega) (by rw [Int.fmod_eq_emod_of_nonneg i (by omega)]; exact q)
theorem op_pow : OpR X (binaryOp .Pow) (rI CPow fun i j => .int (i ^ j.toNat)) := opI fun _ _ _ _ _ _ _ hc q => pow_int_small hc.1 hc.2.1 hc.2.2 q
end
def scal : V → V → Bool
  | .non, .non => true | .non, .int _ => true | .int _, .non => true | .non, .bl _ => true | .bl _, .non => true | .non, .str _ => true | .str _, .non => true
  | .int _, .int _ => true | .bl _, .bl _ => true | .str _, .str _ => true | .byt _, .byt _ => true
  | .int _, .str _ => true | .str _, .int _ => true | .bl _, .str _ => true | .str _, .bl _ => true
  | _, _ => false
def rEq : R2 := fun x y H Q => scal x y = true ∧ Q (.bl (decide (x = y))) H
def rNe : R2 := fun x y H Q => scal x y = true ∧ Q (.bl (!decide (x = y))) H
theorem dec_int {i j : Int} : decide (V.int i = V.int j) = (i == j) := by
  rw [Bool.eq_iff_iff]
  simp
theorem dec_bl {i j : Bool} : decide (V.bl i = V.bl j) = (i == j) := by
  rw [Bool.eq_iff_iff]
  simp
theorem dec_str {i j : Str} : decide (V.str i = V.str j) = (i == j) := by
  rw [Bool.eq_iff_iff]
  simp
theorem dec_byt {i j : Array UInt8} : decide (V.byt i = V.byt j) = (i.toList == j.toList) := by
  rw [Bool.eq_iff_iff]
  cases i
  cases j
  simp
section
variable {X : Cx} {a b c : Expr} {ta tb tc : TE} {pos : Pos}
theorem fin_bl {pins : List (Addr × Obj)} {σ : St} {H : Hp} {s : Shared} {Q : VK} {k k' : Bool} (I : Inv X pins σ H s) (q : Q (.bl k) H) (e : k = k') : EP X pins σ Q (.bool k') s := by
  subst e
  exact ⟨.bl k, H, I, rfl, q⟩
theorem op_eq : OpR X (compareOp .Eq) rEq := by
  intro pins s σ H x y v u Q I rx ry h
  obtain ⟨hs, q⟩ := h
  cases x with
  | non =>
    cases rx
    cases y with
    | non => cases ry; exact PySem.EqNone.eq_none_none (fin_bl I q (by simp))
    | bl j => cases ry; exact PySem.EqNone.eq_none_bool (fin_bl I q (by simp))
    | int j => obtain ⟨t', rfl⟩ := ry; exact PySem.EqNone.eq_none_int (fin_bl I q (by simp))
    | str j => obtain ⟨t', rfl⟩ := ry; exact PySem.EqNone.eq_none_str (fin_bl I q (by simp))
    | _ => exact absurd (show false = true from hs) Bool.false_ne_true
  | bl i =>
    cases rx
    cases y with
    | non => cases ry; exact PySem.EqNone.eq_bool_none (fin_bl I q (by simp))
    | bl j => cases ry; exact eq_bool (fin_bl I q dec_bl)
    | str j => obtain ⟨t', rfl⟩ := ry; exact PySem.EqMixed.eq_bool_str (fin_bl I q (by simp))
    | _ => exact absurd (show false = true from hs) Bool.false_ne_true
  | int i =>
    obtain ⟨t, rfl⟩ := rx
    cases y with
    | non => cases ry; exact PySem.EqNone.eq_int_none (fin_bl I q (by simp))
    | int j => obtain ⟨t', rfl⟩ := ry; exact eq_int (fin_bl I q dec_int)
    | str j => obtain ⟨t', rfl⟩ := ry; exact PySem.EqMixed.eq_int_str (fin_bl I q (by simp))
    | _ => exact absurd (show false = true from hs) Bool.false_ne_true
  | str i =>
    obtain ⟨t, rfl⟩ := rx
    cases y with
    | non => cases ry; exact PySem.EqNone.eq_str_none (fin_bl I q (by simp))
    | bl j => cases ry; exact PySem.EqMixed.eq_str_bool (fin_bl I q (by simp))
    | int j => obtain ⟨t', rfl⟩ := ry; exact PySem.EqMixed.eq_str_int (fin_bl I q (by simp))
    | str j => obtain ⟨t', rfl⟩ := ry; exact eq_str (fin_bl I q dec_str)
    | _ => exact absurd (show false = true from hs) Bool.false_ne_true
  | byt i =>
    obtain ⟨t, rfl⟩ := rx
    cases y with
    | byt j => obtain ⟨t', rfl⟩ := ry; exact PySem.W.eq_bytes (fin_bl I q dec_byt)
    | _ => exact absurd (show false = true from hs) Bool.false_ne_true
  | _ => cases y <;> exact absurd (show false = true from hs) Bool.false_ne_true
theorem op_ne : OpR X (compareOp .NotEq) rNe := by
  intro pins s σ H x y v u Q I rx ry h
  obtain ⟨hs, q⟩ := h
  cases x with
  | non =>
    cases rx
    cases y with
    | non => cases ry; exact PySem.EqNone.ne_none_none (fin_bl I q (by simp))
    | bl j => cases ry; exact PySem.EqNone.ne_none_bool (fin_bl I q (by simp))
    | int j => obtain ⟨t', rfl⟩ := ry; exact PySem.EqNone.ne_none_int (fin_bl I q (by simp))
    | str j => obtain ⟨t', rfl⟩ := ry; exact PySem.EqNone.ne_none_str (fin_bl I q (by simp))
    | _ => exact absurd (show false = true from hs) Bool.false_ne_true
  | bl i =>
    cases rx
    cases y with
    | non => cases ry; exact PySem.EqNone.ne_bool_none (fin_bl I q (by simp))
    | bl j => cases ry; exact ne_bool (fin_bl I q (congrArg not dec_bl))
    | str j => obtain ⟨t', rfl⟩ := ry; exact PySem.EqMixed.ne_bool_str (fin_bl I q (by simp))
    | _ => exact absurd (show false = true from hs) Bool.false_ne_true
  | int i =>
    obtain ⟨t, rfl⟩ := rx
    cases y with
    | non => cases ry; exact PySem.EqNone.ne_int_none (fin_bl I q (by simp))
    | int j => obtain ⟨t', rfl⟩ := ry; exact ne_int (fin_bl I q (congrArg not dec_int))
    | str j => obtain ⟨t', rfl⟩ := ry; exact PySem.EqMixed.ne_int_str (fin_bl I q (by simp))
    | _ => exact absurd (show false = true from hs) Bool.false_ne_true
  | str i =>
    obtain ⟨t, rfl⟩ := rx
    cases y with
    | non => cases ry; exact PySem.EqNone.ne_str_none (fin_bl I q (by simp))
    | bl j => cases ry; exact PySem.EqMixed.ne_str_bool (fin_bl I q (by simp))
    | int j => obtain ⟨t', rfl⟩ := ry; exact PySem.EqMixed.ne_str_int (fin_bl I q (by simp))
    | str j => obtain ⟨t', rfl⟩ := ry; exact ne_str (fin_bl I q (congrArg not dec_str))
    | _ => exact absurd (show false = true from hs) Bool.false_ne_true
  | byt i =>
    obtain ⟨t, rfl⟩ := rx
    cases y with
    | byt j => obtain ⟨t', rfl⟩ := ry; exact PySem.W.ne_bytes (fin_bl I q (congrArg not dec_byt))
    | _ => exact absurd (show false = true from hs) Bool.false_ne_true
  | _ => cases y <;> exact absurd (show false = true from hs) Bool.false_ne_true
theorem op_lt : OpR X (compareOp .Lt) (rI0 fun i j => .bl (decide (i < j))) := opB0 fun _ _ _ _ _ _ _ q => lt_int q
theorem op_le : OpR X (compareOp .LtE) (rI0 fun i j => .bl (decide (i ≤ j))) := opB0 fun _ _ _ _ _ _ _ q => le_int q
theorem op_isN : OpR X (compareOp .Is) (fun x y H Q => y = .non ∧ Q (.bl (decide (x = .non))) H) := by
  intro pins s σ H x y v u Q I rx ry h
  obtain ⟨rfl, q⟩ := h
  cases ry
  refine is_none_gen (fin_bl I q ?_)
  cases x <;> first
    | (cases rx; rfl)
    | (obtain ⟨t, rfl⟩ := rx; rfl)
theorem nomark (b : Expr) {op : CmpOp} (h : op ≠ .In := by decide) (h2 : op ≠ .NotIn := by decide) : behindInMarks op b = false := by
  have e1 : (op == CmpOp.In) = false := by cases op <;> first | rfl | exact absurd rfl h
  have e2 : (op == CmpOp.NotIn) = false := by cases op <;> first | rfl | exact absurd rfl h2
  cases b <;> simp [behindInMarks, e1, e2]
theorem pe_cmpR {op : CmpOp} {r : R2} (ho : OpR X (compareOp op) r) (ha : PE X a ta) (hb : PE X b tb) (hm : behindInMarks op b = false) : PE X (.Compare a [op] [b] pos) (tOp r ta tb) := by
  intro pins s σ H Q I h
  exact wpAny_Compare1 (binT ha hb I h fun v u s2 x y H2 I2 rx ry q => ho pins s2 σ H2 x y v u Q I2 rx ry q) hm
def tTest (t : TE) : TT := fun σ H Q => t σ H fun x H' => ∃ k, x = .bl k ∧ Q k H'
theorem pt_cmpR {op : CmpOp} {r : R2} (ho : OpR X (compareOp op) r) (ha : PE X a ta) (hb : PE X b tb) (hm : behindInMarks op b = false) : PT X (.Compare a [op] [b] pos) (tTest (tOp r ta tb)) := by
  intro pins s σ H Q I h
  refine wpAny_isTrue_Compare1 (thn (ha pins s σ H _ I h) fun v s1 ⟨x, H1, I1, r1, q1⟩ => thn (hb pins s1 σ H1 _ I1 q1) fun u s2 ⟨y, H2, I2, r2, q2⟩ =>
    thn (ho pins s2 σ H2 x y v u _ I2 r1 r2 q2) fun c s3 ⟨z, H3, I3, r3, k, e, q3⟩ => ?_) hm
  subst e
  cases r3
  exact wpAny_truthy_bool ⟨H3, I3, q3⟩
def TruV (K : PySem.W.Frag) (x : V) (H : Hp) (k : Bool) : Prop :=
  match x with
  | .non => k = false
  | .bl b => k = b
  | .int i => k = (i != 0)
  | .str y => y.length ≤ sizeLine ∧ k = ((y.length : Int) != 0)
  | .byt y => y.size ≤ sizeLine ∧ k = ((y.size : Int) != 0)
  | .ref p => (∃ xs, SqL K H p xs ∧ k = !xs.isEmpty) ∨ (∃ xs, SqT K H p xs ∧ k = !xs.isEmpty) ∨ ∃ kvs, H p = some (.dK kvs) ∧ k = !kvs.isEmpty
  | _ => False
theorem isEmpty_kv {κ : Type} {kvs : List (κ × V)} {vs : List (κ × Value)} (r : KV kvs vs) : (!vs.isEmpty) = !kvs.isEmpty := by
  cases r <;> rfl
theorem isEmpty_of {xs : List V} {its : List Value} (r : Vals xs its) : (!its.toArray.isEmpty) = !xs.isEmpty := by
  cases r <;> simp
theorem line63 : (sizeLine : Nat) < 2 ^ 63 := by rw [sizeLine_eq]; decide
theorem tru_ok : TruR X (fun x H Q => ∃ k, TruV X.K x H k ∧ Q k H) := by
  intro pins s σ H x v Q I rx h
  obtain ⟨k, e, q⟩ := h
  have hl := line63
  have hs : sizeLine = 16777216 := sizeLine_eq
  cases x with
  | non =>
    cases rx
    have e' : k = false := e
    subst e'
    exact truthy_none ⟨H, I, q⟩
  | bl b =>
    cases rx
    have e' : k = b := e
    subst e'
    exact wpAny_truthy_bool ⟨H, I, q⟩
  | int i =>
    obtain ⟨t, rfl⟩ := rx
    have e' : k = (i != 0) := e
    subst e'
    exact PySem.P.truthy_int ⟨H, I, q⟩
  | str y =>
    obtain ⟨t, rfl⟩ := rx
    obtain ⟨hy, e'⟩ : y.length ≤ sizeLine ∧ k = ((y.length : Int) != 0) := e
    subst e'
    exact PySem.P.truthy_str (by omega) ⟨H, I.tok _, q⟩
  | byt y =>
    obtain ⟨t, rfl⟩ := rx
    obtain ⟨hy, e'⟩ : y.size ≤ sizeLine ∧ k = ((y.size : Int) != 0) := e
    subst e'
    exact PySem.W.truthy_bytes (by omega) ⟨H, I.tok _, q⟩
  | ref p =>
    cases rx
    have e' : (∃ xs, SqL X.K H p xs ∧ k = !xs.isEmpty) ∨ (∃ xs, SqT X.K H p xs ∧ k = !xs.isEmpty) ∨ ∃ kvs, H p = some (.dK kvs) ∧ k = !kvs.isEmpty := e
    rcases e' with ⟨xs, hx, e'⟩ | ⟨xs, hx, e'⟩ | ⟨kvs, hx, e'⟩
    · subst e'
      obtain ⟨its, r, pl, hz⟩ := I.list hx
      have hlen := r.length
      exact wpAny_truthy_list pl.isList (by simp only [List.size_toArray]; omega) ⟨H, I.tok _, by rw [isEmpty_of r]; exact q⟩
    · subst e'
      obtain ⟨its, r, pl, hz⟩ := I.tuple hx
      have hlen := r.length
      exact truthy_tuple pl (by simp only [List.size_toArray]; omega) ⟨H, I.tok _, by rw [isEmpty_of r]; exact q⟩
    · subst e'
      obtain ⟨hz, hS, vs, r, m⟩ : kvs.length ≤ sizeLine ∧ (p == sysModules) = false ∧ ∃ vs, KV kvs vs ∧ s.heap.DictOf (mixKind X.prog X.w) p vs := I.hok p _ hx
      have hlen : kvs.length = vs.length := Paired.length r
      exact wpAny_truthy_dict hS m (by omega) ⟨H, I.tok _, by rw [isEmpty_kv r]; exact q⟩
  | _ => exact (show False from e).elim
theorem vals1 {x : V} {us : List Value} (r : Vals [x] us) : ∃ u, us = [u] ∧ RelV x u := by
  cases r with
  | cons r1 r2 => cases r2; exact ⟨_, rfl, r1⟩
theorem vals2 {x y : V} {us : List Value} (r : Vals [x, y] us) : ∃ u w', us = [u, w'] ∧ RelV x u ∧ RelV y w' := by
  cases r with
  | cons r1 r2 =>
    cases r2 with
    | cons r3 r4 => cases r4; exact ⟨_, _, rfl, r1, r3⟩
def LenV (K : PySem.W.Frag) (x : V) (H : Hp) (n : Nat) : Prop :=
  match x with
  | .str y => y.length ≤ sizeLine ∧ n = y.length
  | .byt y => y.size ≤ sizeLine ∧ n = y.size
  | .ref p => (∃ xs, SqL K H p xs ∧ n = xs.length) ∨ ∃ xs, SqT K H p xs ∧ n = xs.length
  | _ => False
theorem call_len : CallR X (.builtin "len") (fun xs H Q => ∃ x n, xs = [x] ∧ LenV X.K x H n ∧ Q (.int n) H) := by
  intro pins s σ H xs us Q I r h
  obtain ⟨x, n, rfl, e, q⟩ := h
  obtain ⟨u, rfl, rx⟩ := vals1 r
  have hl := line63
  have hs : sizeLine = 16777216 := sizeLine_eq
  cases x with
  | str y =>
    obtain ⟨t, rfl⟩ := rx
    obtain ⟨hy, e'⟩ : y.length ≤ sizeLine ∧ n = y.length := e
    subst e'
    exact len_str (by omega) ⟨.int _, H, I.tok _, ⟨_, rfl⟩, q⟩
  | byt y =>
    obtain ⟨t, rfl⟩ := rx
    obtain ⟨hy, e'⟩ : y.size ≤ sizeLine ∧ n = y.size := e
    subst e'
    exact PySem.W.len_bytes (by omega) ⟨.int _, H, I.tok _, ⟨_, rfl⟩, q⟩
  | ref p =>
    cases rx
    have e' : (∃ xs, SqL X.K H p xs ∧ n = xs.length) ∨ ∃ xs, SqT X.K H p xs ∧ n = xs.length := e
    rcases e' with ⟨xs, hx, e'⟩ | ⟨xs, hx, e'⟩
    · subst e'
      obtain ⟨its, r', pl, hz⟩ := I.list hx
      have hlen := r'.length
      exact Calls.call_len_list pl.isList (by simp only [List.size_toArray]; omega) ⟨.int xs.length, H, I.tok _, ⟨_, by simp only [List.size_toArray]; rw [hlen]⟩, q⟩
    · subst e'
      obtain ⟨its, r', pl, hz⟩ := I.tuple hx
      have hlen := r'.length
      exact len_tuple pl (by simp only [List.size_toArray]; omega) ⟨.int xs.length, H, I.tok _, ⟨_, by simp only [List.size_toArray]; rw [hlen]⟩, q⟩
  | _ => exact (show False from e).elim
end
end L2
namespace L2
open PySem PySem.Spec PyProof.Rows
structure ObjM (h : Heap) (x dx C : Addr) (mA : Str → Option Value) : Prop where
  obj : h.get? x = some (PySem.W.instObj C dx)
  ns : h.Ns1 dx mA
  ne : dx ≠ x
theorem lookIn_ns {h : Heap} {dx : Addr} {mA : Str → Option Value} (n : h.Ns1 dx mA) : ∃ od, h.get? dx = some od ∧ ∀ name, PySem.W.lookIn name od = some (mA name) := by
  obtain ⟨o, es, ep, ho, hd, hk, _, hm⟩ := n
  refine ⟨o, ho, fun name => ?_⟩
  have e := hm name
  unfold nsFind findBy at e
  rw [← Array.find?_toList] at e
  unfold PySem.W.lookIn
  rw [hd]
  dsimp only
  split
  · rename_i y q
    rw [q] at e
    exact congrArg some e
  · rename_i q
    rw [q] at e
    have a : es.toList.any (·.refKey) = false := by
      rw [List.any_eq_false]
      intro y hy
      obtain ⟨z, t, hkey⟩ := hk y (Array.mem_toList_iff.mp hy)
      simp [DictEntry.refKey, hkey]
    have a' : ¬ es.toList.any (·.refKey) = true := by rw [a]; exact Bool.false_ne_true
    rw [if_neg a']
    exact congrArg some e
theorem ObjM.look {h : Heap} {x dx C : Addr} {mA : Str → Option Value} (I : ObjM h x dx C mA) : ∃ od, PySem.W.InstAt h x (PySem.W.instObj C dx) C (some od) ∧ ∀ name, PySem.W.lookIn name od = some (mA name) :=
  let ⟨od, ho, hl⟩ := lookIn_ns I.ns
  ⟨od, ⟨I.obj, rfl, rfl, ho⟩, hl⟩
section
variable {prog : Program} {w : World} {A : Around} {E : Value → Shared → Prop} {s : Shared} {K : PySem.W.Frag} {x dx C f : Addr} {mA : Str → Option Value} {name : Str} {v : Value}
end
theorem RelO.some_of {v : V} {o : Option Value} (r : RelO (some v) o) : ∃ u, o = some u ∧ RelV v u := by
  cases o with
  | none => exact (show False from r).elim
  | some u => exact ⟨u, rfl, r⟩
section
variable {P : Program} {w : World} {H H' : Hp} {h h' : Heap} {a C dx : Addr} {fs fs' : List (Str × V)}
theorem ins_get (hok : HOk P w H h) (e : H a = some (.ins C dx fs)) : ∃ mA, ObjM h a dx C mA ∧ (∀ f, RelO (fs.lookup f) (mA f)) ∧ PySem.Within mA (fs.map (·.1)) ∧ fs.length ≤ 1000 ∧ H dx = some (.own a) := by
  obtain ⟨d, z, ne, ob, mA, n, r, q⟩ := (show ObjOk P w H h a (.ins C dx fs) from hok a _ e)
  exact ⟨mA, ⟨ob, n, ne⟩, r, q, z, d⟩
end
structure Cls (K : PySem.W.Frag) (C : Addr) : Prop where
  pg : PySem.W.plainGet K C Str.empty = true
  hd : PySem.W.hasDictIn K C = true
  po : PySem.W.plainOver K C = true
  sa : PySem.W.findIn K (.ref C) "__setattr__" = some (some (.builtin "object.__setattr__"))
theorem Cls.get {K : PySem.W.Frag} {C : Addr} (c : Cls K C) (f : Str) : PySem.W.plainGet K C f = true := c.pg
section
variable {X : Cx} {pins : List (Addr × Obj)} {σ : St} {H : Hp} {s : Shared} {a C dx : Addr} {fs : List (Str × V)} {f : Str} {v : V} {A : Around} {E : Value → Shared → Prop}
end
section
variable {X : Cx} {o e value : Expr} {f : Str} {pos pos' tpos : Pos} {ta tv : TE}
end
section
variable {X : Cx} {pins : List (Addr × Obj)} {σ : St} {H : Hp} {s : Shared} {A : Around} {E : Value → Shared → Prop} {Q : Value → Shared → Prop} {c : Value} {b : Bool}
inductive TyOf (K : PySem.W.Frag) (H : Hp) : V → Value → Prop where
  | non : TyOf K H .non (.type "NoneType")
  | bl (x : Bool) : TyOf K H (.bl x) (.type "bool")
  | int (i : Int) : TyOf K H (.int i) (.type "int")
  | str (x : Str) : TyOf K H (.str x) (.type "str")
  | flt (x : UInt64) : TyOf K H (.flt x) (.type "float")
  | lst {a : Addr} {xs : List V} (e : H a = some (.lst xs)) : TyOf K H (.ref a) (.type "list")
  | frz {a : Addr} {o : Obj} {xs : List V} (e : H a = some (.frz o (.lst xs))) : TyOf K H (.ref a) (.type "list")
  | tup {a : Addr} {xs : List V} (e : H a = some (.tup xs)) : TyOf K H (.ref a) (.type "tuple")
  | dK {a : Addr} {kvs : List (Key × V)} (e : H a = some (.dK kvs)) : TyOf K H (.ref a) (.type "dict")
  | dT {a : Addr} {kvs : List (List Key × V)} (e : H a = some (.dT kvs)) : TyOf K H (.ref a) (.type "dict")
  | ins {a C dx : Addr} {fs : List (Str × V)} (e : H a = some (.ins C dx fs)) (cl : Cls K C) (ha : PySem.W.findIn K (.ref C) "__class__" = some (some (.builtin "object.__class__")))
      (hn : PySem.W.specialIn K (.builtin "object.__class__") "__get__" = some (some (.builtin "getset_descriptor.__get__"))) (htk : PySem.W.takesIn K (.builtin "object.__class__") = some true)
      (hm : PySem.W.mroIn K C (.type "object") = some true) : TyOf K H (.ref a) (.ref C)
theorem isinst_ok {x : V} {u t : Value} (I : Inv X pins σ H s) (rx : RelV x u) (ty : TyOf X.K H x t) (e : PySem.W.kitOne X.K t c = some b) (h : ∀ tk, Q (.bool b) { s with toks := tk }) :
    wpAny (model X.prog X.w) A (call (.builtin "isinstance") [u, c]) Q E s := by
  cases ty with
  | non => cases (show u = Value.none from rx); exact PySem.W.kia_one PySem.W.kitx_none I.kIn True.intro e (fun z => nomatch z) h
  | bl y => cases (show u = Value.bool y from rx); exact PySem.W.kia_one PySem.W.kitx_bool I.kIn True.intro e (fun z => nomatch z) h
  | int i => obtain ⟨t, q⟩ := (show ∃ t, u = Value.int i t from rx); cases q; exact PySem.W.kia_one PySem.W.kitx_int I.kIn True.intro e (fun z => nomatch z) h
  | str y => obtain ⟨t, q⟩ := (show ∃ t, u = Value.str y t from rx); cases q; exact PySem.W.kia_one PySem.W.kitx_str I.kIn True.intro e (fun z => nomatch z) h
  | flt y => obtain ⟨t, q⟩ := (show ∃ t, u = Value.float y t from rx); cases q; exact PySem.W.kia_one PySem.W.kitx_float I.kIn True.intro e (fun z => nomatch z) h
  | @lst a xs ea =>
    cases (show u = Value.ref a from rx)
    obtain ⟨_, _, n, _, h1⟩ := (show ObjOk X.prog X.w H s.heap a (.lst xs) from I.hok a _ ea)
    exact PySem.W.kia_one PySem.W.kitx_list I.kIn ⟨_, h1, rfl⟩ e (fun z => nomatch z) h
  | @frz a ob xs ea =>
    cases (show u = Value.ref a from rx)
    obtain ⟨_, _, _, n, _, h1⟩ := (show ObjOk X.prog X.w H s.heap a (.frz ob (.lst xs)) from I.hok a _ ea)
    exact PySem.W.kia_one PySem.W.kitx_list I.kIn ⟨_, h1, rfl⟩ e (fun z => nomatch z) h
  | @tup a xs ea =>
    cases (show u = Value.ref a from rx)
    obtain ⟨_, _, _, p⟩ := (show ObjOk X.prog X.w H s.heap a (.tup xs) from I.hok a _ ea)
    obtain ⟨o, h1, h2, _⟩ := p
    exact PySem.W.kia_one PySem.W.kitx_tuple I.kIn ⟨o, h1, h2⟩ e (fun z => nomatch z) h
  | @dK a kvs ea =>
    cases (show u = Value.ref a from rx)
    obtain ⟨_, _, vs, _, p⟩ := (show ObjOk X.prog X.w H s.heap a (.dK kvs) from I.hok a _ ea)
    obtain ⟨o, es, ep, h1, h2, _⟩ := p
    exact PySem.W.kia_one PySem.W.kitx_dict I.kIn ⟨o, h1, h2.1⟩ e (fun z => nomatch z) h
  | @dT a kvs ea =>
    cases (show u = Value.ref a from rx)
    obtain ⟨_, _, xs, _, o, es, ep, h1, h2, _⟩ := (show ObjOk X.prog X.w H s.heap a (.dT kvs) from I.hok a _ ea)
    exact PySem.W.kia_one PySem.W.kitx_dict I.kIn ⟨o, h1, h2.1⟩ e (fun z => nomatch z) h
  | @ins a C dx fs ea cl ha hn htk hm =>
    cases (show u = Value.ref a from rx)
    obtain ⟨mA, O, _⟩ := ins_get I.hok ea
    obtain ⟨od, J, _⟩ := O.look
    exact PySem.W.kia_one (PySem.W.kitx_own (cl.get _) cl.hd ha hn htk hm) I.kIn J e (fun z => nomatch z) h
end
end L2
namespace L2
open PySem PySem.Spec PyProof.Rows
structure Room (k : Nat) (A : Around) : Prop where
  hd : A.handled = none
  dp : A.depth + 3 * k + 5 < recursionLimit
  un : A.units + 16 * k + 200 < cLine
theorem Room.mono {j k : Nat} {A : Around} (r : Room k A) (h : j ≤ k) : Room j A := ⟨r.hd, by have := r.dp; omega, by have := r.un; omega⟩
theorem Room.deeper {k : Nat} {A : Around} (r : Room (k + 1) A) (env : Env) : Room k (A.deeper env) :=
  ⟨r.hd, by have := r.dp; show A.depth + 1 + 3 * k + 5 < _; omega, by have := r.un; show A.units + 3 + 16 * k + 200 < _; omega⟩
theorem Room.depth {k : Nat} {A : Around} (r : Room k A) : A.depth < recursionLimit := by have := r.dp; omega
theorem Room.units {k : Nat} {A : Around} (r : Room k A) : A.units + 64 < cLine := by have := r.un; omega
def tNil : TA := fun _ H Q => Q [] H
def tCons (ta : TE) (tr : TA) : TA := fun σ H Q => ta σ H fun x H1 => tr σ H1 fun xs H2 => Q (x :: xs) H2
section
variable {X : Cx} {e : Expr} {es : List Expr} {te : TE} {t : TA} {pos : Pos}
theorem pa_nil : PA X [] tNil := fun _ _ _ _ H Q I h => Calls.spliced_nil ⟨[], H, I, .nil, h⟩
theorem pa_cons (ha : PE X e te) (hr : PA X es t) (hs : starEach (e :: es) X.env = (false, eval e X.env) :: starEach es X.env := by rfl) : PA X (e :: es) (tCons te t) := by
  intro pos pins s σ H Q I h
  rw [hs]
  show wpAny _ _ (spliced ((false, eval e X.env) :: backTo pos (starEach es X.env))) _ _ s
  refine Calls.spliced_cons (thn (ha pins s σ H _ I h) fun u s1 ⟨x, H1, I1, r1, q1⟩ => ?_)
  exact thn (hr pos pins s1 σ H1 _ I1 q1) fun us s2 ⟨xs, H2, I2, r2, q2⟩ => ⟨x :: xs, H2, I2, .cons r1 r2, q2⟩
def tTup (t : TA) : TE := fun σ H Q => t σ H fun xs H1 => xs.length ≤ sizeLine ∧ ∀ p, H1 p = none → Q (.ref p) (upd H1 p (.tup xs))
def tLst (t : TA) : TE := fun σ H Q => t σ H fun xs H1 => xs.length ≤ sizeLine ∧ ∀ p, H1 p = none → Q (.ref p) (upd H1 p (.lst xs))
theorem pe_tup {x1} (h : PA X es t) : PE X (.Tuple es x1 pos) (tTup t) := by
  intro pins s σ H Q I hq
  refine wpAny_Tuple_spliced (thn (h pos pins s σ H _ I hq) fun us s1 ⟨xs, H1, I1, r, z, q⟩ => ⟨by rw [← r.length]; exact z, ?_⟩)
  have hf : H1 s1.heap.objs.size = none := I1.hok.fresh (Nat.le_refl _)
  refine ⟨.ref s1.heap.objs.size, upd H1 s1.heap.objs.size (.tup xs), I1.laid (t' := s1.toks) (fun b u e => Heap.get?_push_of_some _ e) (Nat.le_refl _) ?_, rfl, q _ hf⟩
  exact ⟨z, us, r, ⟨_, Heap.get?_push_size _ rfl, rfl, _, rfl⟩⟩
theorem pe_lst (h : PA X es t) : PE X (.List es pos) (tLst t) := by
  intro pins s σ H Q I hq
  refine wpAny_List_spliced (thn (h pos pins s σ H _ I hq) fun us s1 ⟨xs, H1, I1, r, z, q⟩ => ⟨by rw [← r.length]; exact z, ?_⟩)
  have hf : H1 s1.heap.objs.size = none := I1.hok.fresh (Nat.le_refl _)
  refine ⟨.ref s1.heap.objs.size, upd H1 s1.heap.objs.size (.lst xs), I1.laid (t' := s1.toks) (fun b u e => Heap.get?_push_of_some _ e) (Nat.le_refl _) ?_, rfl, q _ hf⟩
  exact ⟨z, us, 0, r, Heap.get?_push_size _ rfl⟩
end
abbrev Sp := List V → Hp → VK → XK → Prop
abbrev CXT := List Env → Hp → Shared → XK → Value → Shared → Prop
structure Env0 (P : Program) (w : World) (K : PySem.W.Frag) (mg : Str → Option Value) (base : Heap) (A : Around) (outer : List Env) (s : Shared) (H : Hp) : Prop where
  frames : A.frames = some outer
  mod : Mod K mg base
  bs : ∀ b o, base.get? b = some o → s.heap.get? b = some o ∧ H b = none
  bsz : base.objs.size ≤ s.heap.objs.size
  funs : s.heap.FunFrames base outer
  frf : ∀ b ∈ frs outer, H b = none
  hok : HOk P w H s.heap
  bare : AllBare s.gens
def CE (outer : List Env) (P : Program) (w : World) (H : Hp) (s : Shared) (Q : VK) (u : Value) (s' : Shared) : Prop :=
  ∃ v H', s'.os = s.os ∧ AllBare s'.gens ∧ Un (frs outer) [] H H' s.heap s'.heap ∧ HOk P w H' s'.heap ∧ RelV v u ∧ Q v H'
def CR (CX : CXT) (outer : List Env) (P : Program) (w : World) (H : Hp) (s : Shared) (Q : VK) (E : XK) (r : Result) (s' : Shared) : Prop :=
  match r with
  | .ok (.ret u) => CE outer P w H s Q u s'
  | .ok _ => False
  | .error e => CX outer H s E e s'
structure FnOk (P : Program) (w : World) (K : PySem.W.Frag) (mg : Str → Option Value) (base : Heap) (CX : CXT) (k : Nat) (f : Addr) (fd : FuncData) (ps : List Str) (sp : Sp) : Prop where
  len : ∀ vs H Q E, sp vs H Q E → vs.length = ps.length
  run : ∀ (A : Around) (outer : List Env) (s : Shared) (H : Hp) (args : Args) (us : List Value) (vs : List V) (Q : VK) (E : XK), Room k A → Env0 P w K mg base A outer s H → BindsTo s fd args (ps.zip us) → Vals vs us → sp vs H Q E →
    codeAny (model P w) A (.call (.ref f) args) (CR CX outer P w H s Q E) s
theorem FnOk.imp {P : Program} {w : World} {K : PySem.W.Frag} {mg : Str → Option Value} {base : Heap} {CX : CXT} {k : Nat} {f : Addr} {fd : FuncData} {ps : List Str} {sp sp' : Sp} (F : FnOk P w K mg base CX k f fd ps sp)
    (h : ∀ vs H Q E, sp' vs H Q E → sp vs H Q E) : FnOk P w K mg base CX k f fd ps sp' :=
  ⟨fun vs H Q E q => F.len vs H Q E (h _ _ _ _ q), fun A outer s H args us vs Q E hr he hb hv hs => F.run A outer s H args us vs Q E hr he hb hv (h _ _ _ _ hs)⟩
section
variable {X : Cx} {pins : List (Addr × Obj)} {σ : St} {H : Hp} {s s' : Shared}
theorem Inv.env0 (I : Inv X pins σ H s) : Env0 X.prog X.w X.K X.mg X.base X.A X.stack s H :=
  ⟨I.ok.frames, I.ok.mod, I.bs, Nat.le_trans I.ok.bsz I.sz, I.stack, I.stkFree, I.hok, I.bare⟩
theorem Inv.after {Q : VK} {u : Value} (I : Inv X pins σ H s) (h : CE X.stack X.prog X.w H s Q u s') : EP X pins σ Q u s' := by
  obtain ⟨v, H', os, bare, un, hok, r, q⟩ := h
  obtain ⟨hh, g, d, t, os'⟩ := s'
  obtain rfl : os' = s.os := os
  exact ⟨v, H', I.call (h' := hh) (g' := g) (d' := d) (t' := t) (ch := []) un hok bare (fun b z => absurd z (by simp)), r, q⟩
end
def tCall (sp : Sp) (dvs : List V) (E : XK) (t : TA) : TE := fun σ H Q => t σ H fun vs H1 => sp (vs ++ dvs) H1 Q E
def Binds (K : PySem.W.Frag) (fd : FuncData) (ps : List Str) (ds : List Value) : Prop :=
  ∀ (s : Shared) (us : List Value), K.In s.heap → (us ++ ds).length = ps.length → BindsTo s fd ⟨us, []⟩ (ps.zip (us ++ ds))
theorem Binds.all {K : PySem.W.Frag} {fd : FuncData} {ps : List Str} (h : ∀ us : List Value, us.length = ps.length → bindArgs fd ⟨us, []⟩ = pure (ps.zip us)) : Binds K fd ps [] := fun s us _ hl => by
  rw [List.append_nil] at hl ⊢
  exact .of_eq (h us hl)
def Passes (CX : CXT) (X : Cx) (E : XK) : Prop := ∀ (pins : List (Addr × Obj)) (σ : St) (H : Hp) (s : Shared) (e : Value) (s' : Shared), Inv X pins σ H s → CX X.stack H s E e s' → X.xe e s'
section
variable {X : Cx} {CX : CXT} {k : Nat} {f C : Addr} {fd : FuncData} {ps : List Str} {sp : Sp} {dvs : List V} {ds : List Value} {E : XK} {x m : Str} {p pos apos : Pos} {e o : Expr} {es : List Expr} {ta : TE} {t : TA}
theorem run_fn {pins : List (Addr × Obj)} {σ : St} {H : Hp} {s : Shared} {Q : VK} {us : List Value} {vs : List V} (F : FnOk X.prog X.w X.K X.mg X.base CX k f fd ps sp) (hr : Room k X.A) (hb : Binds X.K fd ps ds) (hd : Vals dvs ds) (hx : Passes CX X E)
    (I : Inv X pins σ H s) (r : Vals vs us) (h : sp (vs ++ dvs) H Q E) : wpAny (model X.prog X.w) X.A (call (.ref f) us) (EP X pins σ Q) X.xe s := by
  have r2 : Vals (vs ++ dvs) (us ++ ds) := r.append hd
  have hl : (us ++ ds).length = ps.length := by rw [← r2.length]; exact F.len _ _ _ _ h
  refine wpAny_call (codeAny_mono (F.run X.A X.stack s H ⟨us, []⟩ (us ++ ds) (vs ++ dvs) Q E hr I.env0 (hb s us I.kIn hl) r2 h) fun r s' hq => ?_)
  cases r with
  | error e => exact hx pins σ H s e s' I hq
  | ok fl =>
    cases fl with
    | ret u => exact I.after hq
    | next => exact False.elim hq
    | brk => exact False.elim hq
    | cont => exact False.elim hq
theorem pe_call (F : FnOk X.prog X.w X.K X.mg X.base CX k f fd ps sp) (hr : Room k X.A) (hg : Gl X x) (hm : X.mg x = some (.ref f)) (hk : PySem.W.keepIn X.K (.ref f) = true) (hb : Binds X.K fd ps ds) (hd : Vals dvs ds) (hx : Passes CX X E)
    (ha : PA X (e :: es) t) (hdb : (x == ("__debug__" : Str)) = false := by decide) (he : starEach (e :: es) X.env = (false, eval e X.env) :: starEach es X.env := by rfl) (hpl : (backTo pos (starEach es X.env)).any (·.1) = false := by rfl) :
    PE X (.Call (.Name x p) (e :: es) [] pos) (tCall sp dvs E t) := by
  intro pins s σ H Q I h
  refine wpAny_Call_Name_kw (ld_glob I hg hm ?_ hdb)
  refine PySem.W.callWith_K (h₀ := X.base) I.ok.mod.kin hk (thn (ha pos pins s σ H _ I h) fun us s1 ⟨vs, H1, I1, r, q⟩ => ⟨I1.kIn, ?_⟩) he hpl
  exact run_fn F hr hb hd hx I1 r q
end
section
variable {X : Cx} {CX : CXT} {k : Nat} {f C : Addr} {fd : FuncData} {ps ks : List Str} {sp : Sp} {E : XK} {x m : Str} {p pos apos kpos : Pos} {e o : Expr} {es : List Expr} {kws : List Keyword} {te ta : TE} {t tk : TA} {nm : Option Str}
variable {g : List Value → List Value → List Value} {gV : List V → List V → List V}
end
structure FnScope (N P : List Str) (sc : Scope) : Prop where
  kind : sc.kind = .function
  co : sc.isCoroutine = false
  gen : sc.isGenerator = false
  nd : N.Nodup
  pre : N.take P.length = P
  par : ∀ x ∈ P, sc.names.lookup x = some .local ∨ sc.names.lookup x = some .cell
  nofree : ∀ y ∈ sc.names, y.2 ≠ .free
theorem bindL_out {kindOf : Str → Option NameKind} {x : Str} : ∀ {binds : List (Str × Value)} {m : Str → Option Value}, (∀ v, (x, v) ∉ binds) → bindL kindOf binds m x = m x
  | [], _, _ => rfl
  | (n, v) :: r, m, h => by
    unfold bindL
    rw [bindL_out fun w hw => h w (List.mem_cons_of_mem _ hw)]
    split
    · have : x ≠ n := by rintro rfl; exact h v List.mem_cons_self
      simp [this]
    · rfl
theorem bindC_out {kindOf : Str → Option NameKind} {x : Str} : ∀ {binds : List (Str × Value)} {m : Str → Option Value}, (∀ v, (x, v) ∉ binds) → bindC kindOf binds m x = m x
  | [], _, _ => rfl
  | (n, v) :: r, m, h => by
    unfold bindC
    rw [bindC_out fun w hw => h w (List.mem_cons_of_mem _ hw)]
    split
    · rfl
    · have : x ≠ n := by rintro rfl; exact h v List.mem_cons_self
      simp [this]
theorem bindL_get {kindOf : Str → Option NameKind} {x : Str} {v : Value} : ∀ {P : List Str} {vs : List Value} {i : Nat} {m : Str → Option Value}, P.Nodup → P[i]? = some x → vs[i]? = some v → kindOf x = some .local →
    bindL kindOf (P.zip vs) m x = some v
  | [], _, _, _, _, h, _, _ => by simp at h
  | _ :: _, [], _, _, _, _, h, _ => by simp at h
  | p :: P, w :: vs, 0, m, nd, h1, h2, hk => by
    simp at h1 h2; subst h1; subst h2
    show bindL kindOf ((p, w) :: P.zip vs) m p = _
    unfold bindL
    rw [bindL_out fun v hv => (List.nodup_cons.mp nd).1 (List.of_mem_zip hv).1, if_pos hk]
    simp
  | p :: P, w :: vs, i + 1, m, nd, h1, h2, hk => by
    show bindL kindOf ((p, w) :: P.zip vs) m x = _
    unfold bindL
    exact bindL_get (i := i) (List.nodup_cons.mp nd).2 (by simpa using h1) (by simpa using h2) hk
theorem bindC_get {kindOf : Str → Option NameKind} {x : Str} {v : Value} : ∀ {P : List Str} {vs : List Value} {i : Nat} {m : Str → Option Value}, P.Nodup → P[i]? = some x → vs[i]? = some v → kindOf x ≠ some .local →
    bindC kindOf (P.zip vs) m x = some v
  | [], _, _, _, _, h, _, _ => by simp at h
  | _ :: _, [], _, _, _, _, h, _ => by simp at h
  | p :: P, w :: vs, 0, m, nd, h1, h2, hk => by
    simp at h1 h2; subst h1; subst h2
    show bindC kindOf ((p, w) :: P.zip vs) m p = _
    unfold bindC
    rw [bindC_out fun v hv => (List.nodup_cons.mp nd).1 (List.of_mem_zip hv).1, if_neg hk]
    simp
  | p :: P, w :: vs, i + 1, m, nd, h1, h2, hk => by
    show bindC kindOf ((p, w) :: P.zip vs) m x = _
    unfold bindC
    exact bindC_get (i := i) (List.nodup_cons.mp nd).2 (by simpa using h1) (by simpa using h2) hk
def start (N : List Str) (vs : List V) : St := vs.map some ++ List.replicate (N.length - vs.length) none
def cxOf (CX : CXT) (P : Program) (w : World) (K : PySem.W.Frag) (mg : Str → Option Value) (base : Heap) (N : List Str) (qual : Str) (scope : Scope) (f : Addr) (cd : Value) (A : Around) (outer : List Env) (s : Shared) (H : Hp) (E : XK) : Cx where
  prog := P
  w := w
  K := K
  mg := mg
  base := base
  A := A.deeper (envOfC qual scope s.heap.objs.size f cd)
  N := N
  s₀ := s
  H₀ := H
  env := envOfC qual scope s.heap.objs.size f cd
  outer := outer
  stack := envOfC qual scope s.heap.objs.size f cd :: outer
  ex := []
  calm := true
  fn := fun _ => true
  pn := []
  xe := fun e s' => wpAny (model P w) (A.deeper (envOfC qual scope s.heap.objs.size f cd)) (leaving (envOfC qual scope s.heap.objs.size f cd) e) (fun _ s'' => CX outer H s E e s'') (fun e' s'' => CX outer H s E e' s'') s'
theorem cell_has {sc : Scope} {n : Nat} {x : Str} (h : sc.names.lookup x = some .cell) : ∃ c, (cellsFrom n sc.names []).lookup x = some c := by
  have q := PySem.W.cellsFrom_some sc.names n [] (.inl h)
  exact Option.isSome_iff_exists.mp q
theorem inv_start {CX : CXT} {P : Program} {w : World} {K : PySem.W.Frag} {mg : Str → Option Value} {base : Heap} {N ps : List Str} {qual : Str} {scope : Scope} {f : Addr} {cd : Value} {A : Around} {outer : List Env} {s s1 : Shared} {H : Hp} {E : XK} {us : List Value} {vs : List V}
    (S : FnScope N ps scope) (hd : A.handled = none) (e0 : Env0 P w K mg base A outer s H) (hl : vs.length = ps.length) (r : Vals vs us)
    (x : InCallC s s.heap.objs.size (bindL (envOfC qual scope s.heap.objs.size f cd).kindOf (ps.zip us) fun _ => none) (cellsFrom (s.heap.objs.size + 1) scope.names []) (bindC (envOfC qual scope s.heap.objs.size f cd).kindOf (ps.zip us) fun _ => none) s1) :
    Inv (cxOf CX P w K mg base N qual scope f cd A outer s H E) [] (start N vs) H s1 := by
  have hpl : ps.length ≤ N.length := by have := congrArg List.length S.pre; rw [List.length_take] at this; omega
  obtain ⟨h1, tk, rfl, hk⟩ := x.done
  have noA : ∀ b : Addr, b ∉ (cxOf CX P w K mg base N qual scope f cd A outer s H E).ex := fun b z => absurd (show b ∈ ([] : List Addr) from z) (by simp)
  refine ⟨⟨e0.mod, S.kind, rfl, rfl, Nat.le_refl _, fun y z c h1 h2 => ?_, fun y hy => ?_, fun y c _ h => ?_, fun _ => hd, Around.frames_deeper e0.frames, .inr ⟨rfl, rfl⟩, fun b z => absurd z (noA b), e0.bs, e0.bsz, fun b _ _ => noA b, fun b z => absurd z (noA b), e0.funs, e0.frf⟩,
    rfl, e0.bare, Un.kept hk, ⟨_, x.toInCall.ns, fun i y v h1 h2 h3 => ?_⟩, fun y c h => ⟨_, x.cell y c h⟩, e0.hok.fresh (Nat.le_refl _), fun y c h => ?_, fun p hp => absurd (show p ∈ ([] : List (Addr × Obj)) from hp) (by simp), e0.hok.kept hk, ?_⟩
  · exact name_of_addr x.apart (PySem.mem_of_lookup h1) (PySem.mem_of_lookup h2)
  · have hy : scope.names.lookup y = some .cell ∨ scope.names.lookup y = some .free := hy
    rcases hy with hy | hy
    · exact cell_has hy
    · exact absurd rfl (S.nofree _ (PySem.mem_of_lookup hy))
  · exact Nat.le_of_lt (x.above y c (PySem.mem_of_lookup h))
  · have hi : i < vs.length := by
      unfold start at h2
      by_cases hi : i < vs.length
      · exact hi
      · rw [List.getElem?_append_right (by simpa using hi)] at h2
        rw [List.getElem?_replicate] at h2
        split at h2 <;> cases h2
    have ha : vs[i]? = some v := by
      unfold start at h2
      rw [List.getElem?_append_left (by simpa using hi), List.getElem?_map] at h2
      cases e : vs[i]? with
      | none => rw [e] at h2; cases h2
      | some a => rw [e] at h2; cases h2; rfl
    obtain ⟨u, hu, rv⟩ := r.get ha
    have hp : ps[i]? = some y := by
      rw [← S.pre, List.getElem?_take_of_lt (by omega)]; exact h1
    have ndP : ps.Nodup := by rw [← S.pre]; exact S.nd.sublist (List.take_sublist _ _)
    refine ⟨u, rv, ?_⟩
    rcases S.par y (List.mem_of_getElem? hp) with k | k
    · exact .inl ⟨k, bindL_get ndP hp hu k⟩
    · obtain ⟨c, e⟩ := cell_has (n := s.heap.objs.size + 1) k
      refine .inr ⟨.inl k, c, e, ?_⟩
      have q := x.cell y c e
      rw [bindC_get ndP hp hu (by show scope.names.lookup y ≠ _; rw [k]; decide)] at q
      exact q
  · exact e0.hok.fresh (Nat.le_of_lt (x.above y c (PySem.mem_of_lookup h)))
  · unfold start
    show _ = N.length
    rw [List.length_append, List.length_map, List.length_replicate]
    omega
theorem fn_of {CX : CXT} {P : Program} {w : World} {K : PySem.W.Frag} {mg : Str → Option Value} {base : Heap} {k : Nat} {f : Addr} {name qual : Str} {params : Arguments} {body : List Stmt} {scope : Scope} {dV kV doc pm cdv ct oc : Value} {an od : Option Addr}
    {osl : Array (Option Value)} {N ps : List Str} {sp : Sp} (lk : K.lookup f = some ⟨oc, od, .func (PySem.W.fnOf name qual params body scope dV kV doc pm an cdv ct), osl⟩) (hcd : PySem.W.codeIn K cdv qual = true) (S : FnScope N ps scope)
    (len : ∀ vs H Q E, sp vs H Q E → vs.length = ps.length)
    (hbody : ∀ (A : Around) (outer : List Env) (s : Shared) (H : Hp) (vs : List V) (Q : VK) (E : XK), Room k (A.deeper (envOfC qual scope s.heap.objs.size f cdv)) → sp vs H Q E →
      ∃ t, PSs (cxOf CX P w K mg base N qual scope f cdv A outer s H E) body t ∧ t { nx := fun _ H' => Q .non H', rt := Q } (start N vs) H) :
    FnOk P w K mg base CX (k + 1) f (PySem.W.fnOf name qual params body scope dV kV doc pm an cdv ct) ps sp := by
  refine ⟨len, fun A outer s H args us vs Q E hr e0 hb r hsp => ?_⟩
  have hl := len _ _ _ _ hsp
  have KX : K.In s.heap := e0.mod.kin.keeps fun b o e => (e0.bs b o e).1
  have lim : s.heap.NoLimit := e0.mod.nolimit.keeps fun b o e => (e0.bs b o e).1
  have hkind : ∀ y ∈ ps.zip us, scope.names.lookup y.1 = some .local ∨ (scope.names.lookup y.1 = some .cell ∧ ((cellsFrom (s.heap.objs.size + 1) scope.names []).lookup y.1).isSome = true) := fun ⟨n, v⟩ hy => by
    rcases S.par n (List.of_mem_zip hy).1 with q | q
    · exact .inl q
    · exact .inr ⟨q, PySem.W.cellsFrom_some _ _ _ (.inl q)⟩
  refine codeAny_call_function hr.depth (KX _ _ lk) rfl S.co S.gen rfl (PySem.W.codeRec_of KX hcd) (hb _ _ _ _ ?_)
  refine wpAny_newFunctionEnv_cells S.kind hkind fun env he s1 x => ?_
  subst he
  refine ⟨lim.keeps x.toInCall.keep, codeAny_func ?_⟩
  obtain ⟨t, ht, hq⟩ := hbody A outer s H vs Q E (hr.deeper _) hsp
  have I : Inv (cxOf CX P w K mg base N qual scope f cdv A outer s H E) [] (start N vs) H s1 := inv_start S hr.hd e0 hl r x
  refine wpAny_mono (ht [] s1 (start N vs) H _ I hq) (fun fl s' hs => ?_) fun e s' hs => hs
  have fin : ∀ {σ' : St} {H' : Hp} {v : V} {u : Value}, Inv (cxOf CX P w K mg base N qual scope f cdv A outer s H E) [] σ' H' s' → RelV v u → Q v H' → CE outer P w H s Q u s' :=
    fun {σ' H' v u} J rv q => ⟨v, H', J.os, J.bare, J.base, J.hok, rv, q⟩
  cases fl with
  | ret u =>
    obtain ⟨v, σ', H', J, rv, q⟩ := hs
    exact fin J rv q
  | next =>
    obtain ⟨σ', H', J, q⟩ := hs
    exact fin (v := V.non) (u := Value.none) J rfl q
  | brk =>
    obtain ⟨_, _, _, q⟩ := hs
    exact False.elim q
  | cont =>
    obtain ⟨_, _, _, q⟩ := hs
    exact False.elim q
end L2
namespace L2
open PySem PySem.Spec PyProof.Rows
section
variable {X : Cx} {x : Str} {p pos : Pos} {e : Expr} {es : List Expr} {t : TA} {id T : String} {r : List V → Hp → VK → Prop}
def tCB (r : List V → Hp → VK → Prop) (t : TA) : TE := fun σ H Q => t σ H fun vs H1 => r vs H1 Q
theorem pe_callB (hc : CallR X (.builtin id) r) (hg : Gl X x) (hm : X.mg x = none) (hv : bootBuiltins x = some (.builtin id)) (ha : PA X (e :: es) t) (hn : x ≠ "__name__" := by decide) (hdb : (x == ("__debug__" : Str)) = false := by decide)
    (he : starEach (e :: es) X.env = (false, eval e X.env) :: starEach es X.env := by rfl) (hpl : (backTo pos (starEach es X.env)).any (·.1) = false := by rfl) : PE X (.Call (.Name x p) (e :: es) [] pos) (tCB r t) := by
  intro pins s σ H Q I h
  refine wpAny_Call_Name_kw (ld_blt I hg hm hv ?_ hn hdb)
  exact PyProof.Rows.callWith_builtin1 (thn (ha pos pins s σ H _ I h) fun us s1 ⟨vs, H1, I1, r1, q1⟩ => hc pins s1 σ H1 vs us Q I1 r1 q1) he hpl
theorem pe_callTy (hc : CallR X (.type T) r) (hg : Gl X x) (hm : X.mg x = none) (hv : bootBuiltins x = some (.type T)) (ha : PA X (e :: es) t) (hn : x ≠ "__name__" := by decide) (hdb : (x == ("__debug__" : Str)) = false := by decide)
    (he : starEach (e :: es) X.env = (false, eval e X.env) :: starEach es X.env := by rfl) (hpl : (backTo pos (starEach es X.env)).any (·.1) = false := by rfl) : PE X (.Call (.Name x p) (e :: es) [] pos) (tCB r t) := by
  intro pins s σ H Q I h
  refine wpAny_Call_Name_kw (ld_blt I hg hm hv ?_ hn hdb)
  exact PyProof.Rows.callWith_type1 (thn (ha pos pins s σ H _ I h) fun us s1 ⟨vs, H1, I1, r1, q1⟩ => hc pins s1 σ H1 vs us Q I1 r1 q1) he hpl
end
end L2
namespace HT
open PySem PyProof.Rows
section
open PySem.SeqAt
open PySem.AutoSeq1 (wpAny_loadPart')
open PySem.MeetsSeq PySem.MeetsSeq2 PySem.MeetsSeq3
end
section
variable {prog : Program} {w : World} {A : Around} {E : Value → Shared → Prop} {s : Shared}
def sIx (n d : Nat) : Option Int → Nat
  | none => d
  | some v => if v < 0 then (v + (n : Int)).toNat else min v.toNat n
theorem sIx_none (n d : Nat) : sIx n d none = d := rfl
theorem sIx_nat (n d k : Nat) : sIx n d (some (k : Int)) = min k n := by
  show (if (k : Int) < 0 then ((k : Int) + (n : Int)).toNat else min (k : Int).toNat n) = min k n
  rw [if_neg (by omega), Int.toNat_natCast]
end
end HT
namespace L2
open PySem PySem.Spec PyProof.Rows
abbrev TO := St → Hp → (Option Int → Hp → Prop) → Prop
def PO (X : Cx) (e : Option Expr) (t : TO) : Prop :=
  ∀ (pins : List (Addr × Obj)) (s : Shared) (σ : St) (H : Hp) (Q : Option Int → Hp → Prop), Inv X pins σ H s → t σ H Q →
    wpAny (model X.prog X.w) X.A (evalPart e X.env) (fun u s' => ∃ o H', Inv X pins σ H' s' ∧ IsPart u o ∧ Q o H') X.xe s
def tNoPart : TO := fun _ H Q => Q none H
def tPart (t : TE) : TO := fun σ H Q => t σ H fun x H1 => ∃ i, x = .int i ∧ Q (some i) H1
theorem intsAre_of {ns : List Int} : ∀ {us : List Value}, Vals (ns.map V.int) us → IntsAre us ns := by
  induction ns with
  | nil => intro us r; rw [List.map_nil] at r; cases r; exact .nil
  | cons n ns ih =>
    intro us r
    rw [List.map_cons] at r
    cases r with
    | cons r1 r2 =>
      obtain ⟨t, e⟩ := r1
      subst e
      exact .cons n t (ih r2)
section
variable {X : Cx} {e : Expr} {te : TE} {lo hi : Option Expr} {tl th : TO} {pos p2 : Pos}
theorem po_none : PO X none tNoPart := by
  intro pins s σ H Q I h
  rw [evalPart_none]
  exact wpAny_pure ⟨none, H, I, .none, h⟩
theorem po_some (h : PE X e te) : PO X (some e) (tPart te) := by
  intro pins s σ H Q I hw
  rw [evalPart_some]
  refine thn (h pins s σ H _ I hw) fun u s1 ⟨x, H1, I1, r1, q1⟩ => ?_
  obtain ⟨i, rfl, q⟩ := q1
  obtain ⟨t, rfl⟩ := r1
  exact ⟨some i, H1, I1, .int i t, q⟩
def SlR (X : Cx) (r : V → Option Int → Option Int → Hp → VK → Prop) : Prop :=
  ∀ (pins : List (Addr × Obj)) (s : Shared) (σ : St) (H : Hp) (x : V) (v vl vu : Value) (lo hi : Option Int) (sl : Addr) (Q : VK), Inv X pins σ H s → RelV x v → s.heap.IsSliceOf sl vl vu .none → IsPart vl lo → IsPart vu hi → r x lo hi H Q →
    ∃ T id, typeLookup (.type T) "__getitem__" = pure (some (.builtin id)) ∧ s.TypeIs v T ∧ wpAny (model X.prog X.w) X.A (getItem v (.ref sl)) (EP X pins σ Q) X.xe s
def tSl (r : V → Option Int → Option Int → Hp → VK → Prop) (te : TE) (tl th : TO) : TE := fun σ H Q => te σ H fun x H1 => tl σ H1 fun l H2 => th σ H2 fun u H3 => r x l u H3 Q
theorem pe_slice {r : V → Option Int → Option Int → Hp → VK → Prop} (hr : SlR X r) (he : PE X e te) (hl : PO X lo tl) (hu : PO X hi th) : PE X (.Subscript e (.Slice lo hi none p2) pos) (tSl r te tl th) := by
  intro pins s σ H Q I h
  refine Subscript_ (thn (he pins s σ H _ I h) fun v s1 ⟨x, H1, I1, r1, q1⟩ => ?_)
  refine wpAny_Slice (thn (hl pins s1 σ H1 _ I1 q1) fun vl s2 ⟨l, H2, I2, pl, q2⟩ => thn (hu pins s2 σ H2 _ I2 q2) fun vu s3 ⟨u, H3, I3, pu, q3⟩ => ?_)
  rw [evalPart_none]
  refine wpAny_pure ?_
  have I4 : Inv X pins σ H3 { s3 with heap := s3.heap.push { cls := .type "slice", data := .fields #[vl, vu, .none] } } := I3.kept (t' := s3.toks) fun b ob q => Heap.get?_push_of_some _ q
  obtain ⟨T, id, hT, ht, hg⟩ := hr pins { s3 with heap := s3.heap.push { cls := .type "slice", data := .fields #[vl, vu, .none] } } σ H3 x v vl vu l u s3.heap.objs.size Q I4 r1 (Heap.IsSliceOf.new ..) pl pu q3
  show wpAny (model X.prog X.w) X.A (subscriptTail e (.Slice lo hi none p2) v (.ref s3.heap.objs.size)) (EP X pins σ Q) X.xe { s3 with heap := s3.heap.push { cls := .type "slice", data := .fields #[vl, vu, .none] } }
  exact tail_any (ops := [.ref s3.heap.objs.size, v]) ht hT hg (by with_unfolding_all rfl)
def cutV (xs : List V) (lo hi : Option Int) : List V := (xs.drop (HT.sIx xs.length 0 lo)).take (HT.sIx xs.length xs.length hi - HT.sIx xs.length 0 lo)
theorem cutV_length (xs : List V) (lo hi : Option Int) : (cutV xs lo hi).length ≤ xs.length := by
  unfold cutV
  rw [List.length_take, List.length_drop]
  omega
end
end L2
namespace L2
open PySem PySem.Spec PyProof.Rows
def ixN (n : Nat) (i : Int) : Option Nat := if 0 ≤ i then (if i < n then some i.toNat else none) else if -(n : Int) ≤ i then some (i + n).toNat else none
def atI {α : Type} (xs : List α) (i : Int) : Option α := (ixN xs.length i).bind fun j => xs[j]?
theorem ixN_seq {n : Nat} {i : Int} {j : Nat} (h : ixN n i = some j) : seqIndex? i n = some j ∧ j < n ∧ -(n : Int) ≤ i ∧ i < n := by
  unfold ixN at h
  by_cases h0 : 0 ≤ i
  · rw [if_pos h0] at h
    by_cases h1 : i < n
    · rw [if_pos h1] at h
      have e : i.toNat = j := Option.some.inj h
      exact ⟨by rw [seqIndex_of h0 h1, e], by omega, by omega, h1⟩
    · rw [if_neg h1] at h; cases h
  · rw [if_neg h0] at h
    by_cases h1 : -(n : Int) ≤ i
    · rw [if_pos h1] at h
      have e : (i + n).toNat = j := Option.some.inj h
      exact ⟨by rw [seqIndex_neg (by omega) h1, e], by omega, h1, by omega⟩
    · rw [if_neg h1] at h; cases h
theorem atI_get {α : Type} {xs : List α} {i : Int} {v : α} (h : atI xs i = some v) : ∃ j, seqIndex? i xs.length = some j ∧ xs[j]? = some v ∧ j < xs.length ∧ -(xs.length : Int) ≤ i ∧ i < xs.length := by
  unfold atI at h
  cases e : ixN xs.length i with
  | none => rw [e] at h; cases h
  | some j =>
    rw [e] at h
    obtain ⟨h1, h2, h3, h4⟩ := ixN_seq e
    exact ⟨j, h1, h, h2, h3, h4⟩
theorem atI_nat {α : Type} {xs : List α} {j : Nat} {v : α} (h : xs[j]? = some v) : atI xs (j : Int) = some v := by
  have hj : j < xs.length := (List.getElem?_eq_some_iff.mp h).1
  have e : ixN xs.length (j : Int) = some j := by
    unfold ixN
    rw [if_pos (by omega), if_pos (by omega)]; simp
  unfold atI; rw [e]; exact h
def PlainIx (b : Expr) : Prop := ∀ o i, subscripted b false o i = operate [o, i] (getItem o i)
def IxR (X : Cx) (r : R2) : Prop :=
  ∀ (value slice : Expr) (pins : List (Addr × Obj)) (s : Shared) (σ : St) (H : Hp) (x y : V) (v u : Value) (Q : VK), Inv X pins σ H s → RelV x v → RelV y u → r x y H Q →
    subscripted slice false v u = operate [v, u] (getItem v u) → wpAny (model X.prog X.w) X.A (subscriptTail value slice v u) (EP X pins σ Q) X.xe s
def MtR (X : Cx) (id : String) (r : V → List V → Hp → VK → Prop) : Prop :=
  ∀ (pins : List (Addr × Obj)) (s : Shared) (σ : St) (H : Hp) (x : V) (xs : List V) (v : Value) (us : List Value) (Q : VK), Inv X pins σ H s → RelV x v → Vals xs us → r x xs H Q →
    wpAny (model X.prog X.w) X.A (call (.builtin id) (v :: us)) (EP X pins σ Q) X.xe s
section
variable {X : Cx} {a b : Expr} {ta tb : TE} {pos : Pos}
theorem pe_ix {r : R2} (hr : IxR X r) (ha : PE X a ta) (hb : PE X b tb) (hs : PlainIx b) : PE X (.Subscript a b pos) (tOp r ta tb) := by
  intro pins s σ H Q I h
  exact Subscript_ (binT ha hb I h fun v u s2 x y H2 I2 rx ry q => hr a b pins s2 σ H2 x y v u Q I2 rx ry q (hs _ _))
def rIxL (K : PySem.W.Frag) : R2 := fun x y H Q => ∃ p xs i v, x = .ref p ∧ y = .int i ∧ SqL K H p xs ∧ atI xs i = some v ∧ Q v H
def rIxT (K : PySem.W.Frag) : R2 := fun x y H Q => ∃ p xs i v, x = .ref p ∧ y = .int i ∧ SqT K H p xs ∧ atI xs i = some v ∧ Q v H
theorem ix_list : IxR X (rIxL X.K) := by
  intro value slice pins s σ H x y v u Q I rx ry h hs
  obtain ⟨p, xs, i, z, rfl, rfl, hq, he, q⟩ := h
  cases rx
  obtain ⟨t, rfl⟩ := ry
  obtain ⟨its, r, pl, hz⟩ := I.list hq
  obtain ⟨j, h1, h2, h3, h4, h5⟩ := atI_get he
  obtain ⟨w, ew, rw'⟩ := r.get h2
  have hl := r.length
  have hn := line63
  have fin : EP X pins σ Q w s := ⟨z, H, I, rw', q⟩
  by_cases h0 : 0 ≤ i
  · have hj : i.toNat = j := by
      rw [seqIndex_of h0 h5] at h1
      exact Option.some.inj h1
    exact item_listR pl.isList h0 (by omega) (by rw [hj]; simpa using ew) fin hs
  · have hj : (i + (its.toArray.size : Int)).toNat = j := by
      rw [seqIndex_neg (by omega) h4] at h1
      rw [List.size_toArray, ← hl]
      exact Option.some.inj h1
    exact subscriptTail_builtinR (x := w) pl.isList.typeIs slot_list_getitem.lookup
      (wpAny_getItem_list_neg (Q := fun r s' => r = w ∧ EP X pins σ Q r s') pl.isList (by omega) (by rw [List.size_toArray] <;> omega) (by omega) (by rw [hj]; simpa using ew) ⟨rfl, fin⟩) hs
theorem ix_tup : IxR X (rIxT X.K) := by
  intro value slice pins s σ H x y v u Q I rx ry h hs
  obtain ⟨p, xs, i, z, rfl, rfl, hq, he, q⟩ := h
  cases rx
  obtain ⟨t, rfl⟩ := ry
  obtain ⟨its, r, pl, hz⟩ := I.tuple hq
  obtain ⟨j, h1, h2, h3, h4, h5⟩ := atI_get he
  obtain ⟨w, ew, rw'⟩ := r.get h2
  have hl := r.length
  have hn := line63
  have fin : EP X pins σ Q w s := ⟨z, H, I, rw', q⟩
  exact subscriptTail_builtinR (x := w) pl.typeIs slot_tuple_getitem.lookup
    (getItem_tuple (j := j) (Q := fun r s' => r = w ∧ EP X pins σ Q r s') pl (by omega) (by omega) (by rw [List.size_toArray, ← hl]; exact h1) (by simpa using ew) ⟨rfl, fin⟩) hs
theorem mapSeq_set (its : List Value) (n j : Nat) (u : Value) : Obj.mapSeq (·.setIfInBounds j u) { cls := .type "list", data := .seq its.toArray n } = { cls := .type "list", data := .seq (its.set j u).toArray n } := by
  simp [Obj.mapSeq]
theorem Inv.lst {pins : List (Addr × Obj)} {σ : St} {H : Hp} {s : Shared} {p : Addr} {xs : List V} (I : Inv X pins σ H s) (h : H p = some (.lst xs)) :
    ∃ (its : List Value) (n : Nat), Vals xs its ∧ s.heap.get? p = some { cls := .type "list", data := .seq its.toArray n } ∧ xs.length ≤ sizeLine := by
  obtain ⟨z, its, n, r, e⟩ := I.hok p _ h
  exact ⟨its, n, r, e, z⟩
theorem Inv.lstUpd {pins : List (Addr × Obj)} {σ : St} {H : Hp} {s : Shared} {p : Addr} {xs ys : List V} {its its' : List Value} {n n' : Nat} {f : Obj → Obj} (I : Inv X pins σ H s) (h : H p = some (.lst xs))
    (ho : s.heap.get? p = some { cls := .type "list", data := .seq its.toArray n }) (hf : f { cls := .type "list", data := .seq its.toArray n } = { cls := .type "list", data := .seq its'.toArray n' }) (r : Vals ys its') (hz : ys.length ≤ sizeLine) (t : Nat) :
    Inv X pins σ (upd H p (.lst ys)) { s with heap := s.heap.update p f, toks := t } := by
  have e : (s.heap.update p f).get? p = some { cls := .type "list", data := .seq its'.toArray n' } := by
    rw [Heap.get?_update_self f ho (by rw [hf] <;> rfl), hf]
  refine I.write (x := p) (e := p) (by rw [h]; trivial) (.inl rfl) (fun b u hb q => (Heap.get?_update_other _ _ (Ne.symm hb)).trans q) ⟨_, e⟩ ?_
  exact ⟨hz, its', n', r, e⟩
def rSetL : V → V → V → Hp → (Hp → Prop) → Prop := fun o i v H Q => ∃ p xs k j, o = .ref p ∧ i = .int k ∧ H p = some (.lst xs) ∧ ixN xs.length k = some j ∧ Q (upd H p (.lst (xs.set j v)))
theorem set_list : PSet X rSetL := by
  intro pins s σ H o i v ov iv u Q I ro ri rv h
  obtain ⟨p, xs, k, j, rfl, rfl, hp, hj, q⟩ := h
  cases ro
  obtain ⟨t, rfl⟩ := ri
  obtain ⟨its, n, r, ho, hz⟩ := I.lst hp
  obtain ⟨h1, h2, h3, h4⟩ := ixN_seq hj
  have hl := r.length
  have hn := line63
  have I' : Inv X pins σ (upd H p (.lst (xs.set j v))) { s with heap := s.heap.update p (Obj.mapSeq (·.setIfInBounds j u)) } :=
    I.lstUpd hp ho (mapSeq_set its n j u) (r.set rv j) (by rw [List.length_set]; exact hz) s.toks
  by_cases h0 : 0 ≤ k
  · have hk : k.toNat = j := by
      rw [seqIndex_of h0 h4] at h1
      exact Option.some.inj h1
    exact PySem.W.ki_setAt ho h0 (by omega) (by rw [List.size_toArray, ← hl]; exact h4) (by rw [hk]; exact ⟨_, I', q⟩)
  · have hk : (k + (its.toArray.size : Int)).toNat = j := by
      rw [seqIndex_neg (by omega) h3] at h1
      rw [List.size_toArray, ← hl]
      exact Option.some.inj h1
    exact PySem.W.ki_setBack ho (by omega) (by rw [List.size_toArray, ← hl]; exact h3) (by omega) (by rw [hk]; exact ⟨_, I', q⟩)
theorem slice_bounds (lo hi : Option Int) (n : Nat) : (sliceBounds lo hi none n).1 = ((HT.sIx n 0 lo : Nat) : Int) ∧ (sliceBounds lo hi none n).2.1 = ((HT.sIx n n hi : Nat) : Int) ∧ (sliceBounds lo hi none n).2.2 = 1 := by
  refine ⟨?_, ?_, rfl⟩
  · cases lo with
    | none => simp [sliceBounds, HT.sIx]
    | some i =>
      simp only [sliceBounds, HT.sIx, Option.getD_none, show (1 : Int) > 0 by decide, if_true]
      by_cases h : i < 0
      · simp only [h, if_true] <;> omega
      · simp only [h, if_false] <;> omega
  · cases hi with
    | none => simp [sliceBounds, HT.sIx]
    | some i =>
      simp only [sliceBounds, HT.sIx, Option.getD_none, show (1 : Int) > 0 by decide, if_true]
      by_cases h : i < 0
      · simp only [h, if_true] <;> omega
      · simp only [h, if_false] <;> omega
theorem slicePick_cut (its : List Value) (lo hi : Option Int) : slicePick its.toArray lo hi none = ((its.drop (HT.sIx its.length 0 lo)).take (HT.sIx its.length its.length hi - HT.sIx its.length 0 lo)).toArray := by
  obtain ⟨h1, h2, h3⟩ := slice_bounds lo hi its.toArray.size
  unfold slicePick
  rw [h1, h2, h3]
  simp only [sliceRange_one, pick_run, List.size_toArray] <;> rfl
def rSlL (K : PySem.W.Frag) : V → Option Int → Option Int → Hp → VK → Prop := fun x lo hi H Q => ∃ a xs, x = .ref a ∧ SqL K H a xs ∧ ∀ p, H p = none → Q (.ref p) (upd H p (.lst (cutV xs lo hi)))
theorem sl_list : SlR X (rSlL X.K) := by
  intro pins s σ H x v vl vu lo hi sl Q I rx hs pl pu h
  obtain ⟨a, xs, rfl, hx, q⟩ := h
  cases rx
  obtain ⟨its, r, ht, hz⟩ := I.list hx
  have hlen := r.length
  refine ⟨"list", _, slot_list_getitem.lookup, ht.isList.typeIs, ?_⟩
  refine wpAny_getItem_list_slice ht.isList hs pl pu .none (by simp) ?_ (by rw [List.size_toArray] <;> omega)
  rw [slicePick_cut, ← hlen]
  refine ⟨.ref s.heap.objs.size, _, I.laid (t' := s.toks) (o := .lst (cutV xs lo hi)) (fun b ob q => Heap.get?_push_of_some _ q) (Nat.le_refl _) ?_, rfl, q _ (I.hok.fresh (Nat.le_refl _))⟩
  exact ⟨Nat.le_trans (cutV_length xs lo hi) hz, _, 0, (r.drop (HT.sIx xs.length 0 lo)).take (HT.sIx xs.length xs.length hi - HT.sIx xs.length 0 lo), Heap.get?_push_size _ rfl⟩
def flatV : V → Bool
  | .non => true
  | .bl _ => true
  | .int _ => true
  | .str _ => true
  | _ => false
def eqV : V → V → Bool
  | .non, .non => true
  | .bl a, .bl b => a == b
  | .bl a, .int b => (if a then 1 else 0) == b
  | .int a, .bl b => a == (if b then 1 else 0)
  | .int a, .int b => a == b
  | .str a, .str b => a == b
  | _, _ => false
theorem eqAt_V {A : Around} {s : Shared} {y x : V} {u v : Value} (ry : RelV y u) (rx : RelV x v) (fy : flatV y = true) (fx : flatV x = true) : SeqAt.EqAt A s u v (eqV y x) := by
  cases y with
  | non =>
    cases ry
    cases x with
    | non => cases rx; exact SeqAt.EqAt.same _
    | bl b => cases rx; exact SeqAt.EqAt.none_bool b
    | int b => obtain ⟨t, rfl⟩ := rx; exact SeqAt.EqAt.none_int b t
    | str b => obtain ⟨t, rfl⟩ := rx; exact SeqAt.EqAt.none_str b t
    | _ => exact absurd (show false = true from fx) Bool.false_ne_true
  | bl a =>
    cases ry
    cases x with
    | non => cases rx; exact SeqAt.EqAt.bool_none a
    | bl b => cases rx; exact SeqAt.EqAt.bool_bool a b
    | int b => obtain ⟨t, rfl⟩ := rx; exact SeqAt.EqAt.bool_int a b t
    | str b => obtain ⟨t, rfl⟩ := rx; exact SeqAt.EqAt.bool_str a b t
    | _ => exact absurd (show false = true from fx) Bool.false_ne_true
  | int a =>
    obtain ⟨t', rfl⟩ := ry
    cases x with
    | non => cases rx; exact SeqAt.EqAt.int_none a t'
    | bl b => cases rx; exact SeqAt.EqAt.int_bool a t' b
    | int b => obtain ⟨t, rfl⟩ := rx; exact SeqAt.EqAt.int_int a t' b t
    | str b => obtain ⟨t, rfl⟩ := rx; exact SeqAt.EqAt.int_str a t' b t
    | _ => exact absurd (show false = true from fx) Bool.false_ne_true
  | str a =>
    obtain ⟨t', rfl⟩ := ry
    cases x with
    | non => cases rx; exact SeqAt.EqAt.str_none a t'
    | bl b => cases rx; exact SeqAt.EqAt.str_bool a t' b
    | int b => obtain ⟨t, rfl⟩ := rx; exact SeqAt.EqAt.str_int a t' b t
    | str b => obtain ⟨t, rfl⟩ := rx; exact SeqAt.EqAt.str_str a t' b t
    | _ => exact absurd (show false = true from fx) Bool.false_ne_true
  | _ => exact absurd (show false = true from fy) Bool.false_ne_true
def eqU (x : V) (u : Value) : Bool := match u with
  | .none => eqV .non x
  | .bool b => eqV (.bl b) x
  | .int i _ => eqV (.int i) x
  | .str z _ => eqV (.str z) x
  | _ => false
theorem eqU_of {x y : V} {u : Value} (r : RelV y u) (f : flatV y = true) : eqU x u = eqV y x := by
  cases y with
  | non => cases r; rfl
  | bl b => cases r; rfl
  | int i => obtain ⟨t, rfl⟩ := r; rfl
  | str z => obtain ⟨t, rfl⟩ := r; rfl
  | _ => exact absurd (show false = true from f) Bool.false_ne_true
theorem any_eqU {x : V} : ∀ {xs : List V} {us : List Value}, Vals xs us → xs.all flatV = true → us.any (eqU x) = xs.any fun y => eqV y x
  | _, _, .nil, _ => rfl
  | y :: xs, u :: us, .cons r t, f => by
    rw [List.all_cons, Bool.and_eq_true] at f
    rw [List.any_cons, List.any_cons, eqU_of r f.1, any_eqU t f.2]
theorem mem_eqAt {A : Around} {s : Shared} {x : V} {v : Value} (rx : RelV x v) (fx : flatV x = true) : ∀ {xs : List V} {us : List Value}, Vals xs us → xs.all flatV = true → ∀ u ∈ us, SeqAt.EqAt A s u v (eqU x u)
  | _, _, .nil, _ => fun u hu => by cases hu
  | y :: xs, u :: us, .cons r t, f => fun u' hu => by
    rw [List.all_cons, Bool.and_eq_true] at f
    rcases List.mem_cons.mp hu with rfl | hu
    · rw [eqU_of r f.1]; exact eqAt_V r rx f.1 fx
    · exact mem_eqAt rx fx t f.2 u' hu
def inV (x : V) (xs : List V) : Bool := xs.any fun y => eqV y x
def rIn (K : PySem.W.Frag) (neg : Bool) : R2 := fun x y H Q => ∃ p xs, y = .ref p ∧ (SqL K H p xs ∨ SqT K H p xs) ∧ flatV x = true ∧ xs.all flatV = true ∧ Q (.bl (if neg then !inV x xs else inV x xs)) H
theorem op_in_seq : OpR X (compareOp .In) (rIn X.K false) := by
  intro pins s σ H x y v u Q I rx ry h
  obtain ⟨p, xs, rfl, hq, fx, fs, q⟩ := h
  cases ry
  rcases hq with hq | hq
  · obtain ⟨its, r, pl, hz⟩ := I.list hq
    refine SeqAt.in_listAt (eqU x) pl.isList (fun w hw => mem_eqAt rx fx r fs w (by simpa using hw)) ⟨.bl _, H, I, rfl, ?_⟩
    rw [show its.toArray.any (eqU x) = its.any (eqU x) by simp, any_eqU r fs]
    exact q
  · obtain ⟨its, r, pl, hz⟩ := I.tuple hq
    refine SeqAt.in_tupleAt (eqU x) pl (fun w hw => mem_eqAt rx fx r fs w (by simpa using hw)) ⟨.bl _, H, I, rfl, ?_⟩
    rw [show its.toArray.any (eqU x) = its.any (eqU x) by simp, any_eqU r fs]
    exact q
theorem call_list_of : CallR X (.type "list") (fun xs H Q => ∃ p ys, xs = [.ref p] ∧ (SqL X.K H p ys ∨ SqT X.K H p ys) ∧ ∀ l, H l = none → Q (.ref l) (upd H l (.lst ys))) := by
  intro pins s σ H xs us Q I r h
  obtain ⟨p, ys, rfl, hq, q⟩ := h
  obtain ⟨u, rfl, rx⟩ := vals1 r
  cases rx
  have fin : ∀ (its : List Value), Vals ys its → ys.length ≤ sizeLine → ∀ (h' : Heap) (c' : Nat), (∀ b o', s.heap.get? b = some o' → h'.get? b = some o') →
      h'.get? s.heap.objs.size = some { cls := .type "list", dict := none, data := .seq its.toArray c', slots := #[] } → EP X pins σ Q (.ref s.heap.objs.size) { s with heap := h' } := fun its r' hz h' c' kp e =>
    ⟨.ref s.heap.objs.size, _, I.laid (t' := s.toks) kp (Nat.le_refl _) (show ObjOk X.prog X.w _ h' _ (.lst ys) from ⟨hz, its, c', r', e⟩), rfl, q _ (I.hok.fresh (Nat.le_refl _))⟩
  rcases hq with hq | hq
  · obtain ⟨its, r', pl, hz⟩ := I.list hq
    have hlen := r'.length
    obtain ⟨o, ho, hc, n, hd⟩ := pl.isList
    exact call_list_seq p (.inl rfl) ho hc hd (fun h' c' kp e => fin its r' hz h' c' kp e) (by simp only [List.size_toArray] <;> omega)
  · obtain ⟨its, r', pl, hz⟩ := I.tuple hq
    have hlen := r'.length
    obtain ⟨o, ho, hc, n, hd⟩ := pl
    exact call_list_seq p (.inr rfl) ho hc hd (fun h' c' kp e => fin its r' hz h' c' kp e) (by simp only [List.size_toArray] <;> omega)
def tyV (K : PySem.W.Frag) (T : String) (x : V) (H : Hp) : Prop := match x with
  | .str _ => T = "str"
  | .int _ => T = "int"
  | .ref p => (T = "list" ∧ ∃ xs, SqL K H p xs) ∨ (T = "tuple" ∧ ∃ o, K.lookup p = some o ∧ o.cls = .type "tuple" ∧ o.dict = none) ∨
      (T = "dict" ∧ ((∃ kvs, H p = some (.dK kvs)) ∨ ∃ kvs, H p = some (.dT kvs))) ∨ (T = "set" ∧ ∃ S n, H p = some (.set S n))
  | _ => False
theorem tyV_is {pins : List (Addr × Obj)} {σ : St} {H : Hp} {s : Shared} {T : String} {x : V} {v : Value} (I : Inv X pins σ H s) (r : RelV x v) (ty : tyV X.K T x H) :
    s.TypeIs v T ∧ ∀ a, v = .ref a → ∃ ob, s.heap.get? a = some ob ∧ ob.dict = none := by
  cases x with
  | str z =>
    obtain ⟨t, rfl⟩ := r
    cases (show T = "str" from ty)
    exact ⟨typeIs_str s z t, fun _ e => nomatch e⟩
  | int i =>
    obtain ⟨t, rfl⟩ := r
    cases (show T = "int" from ty)
    exact ⟨typeIs_int s i t, fun _ e => nomatch e⟩
  | ref p =>
    cases r
    rcases ty with ⟨rfl, xs, hq⟩ | ⟨rfl, o, hk, hc, hd⟩ | ⟨rfl, hk⟩ | ⟨rfl, S, n, hk⟩
    · obtain ⟨its, _, pl, _⟩ := I.list hq
      refine ⟨pl.isList.typeIs, fun a e => ?_⟩
      cases e
      obtain ⟨o, n, e, c, hd, _⟩ := pl
      exact ⟨o, e, hd⟩
    · refine ⟨⟨o, I.kIn p o hk, hc⟩, fun a e => ?_⟩
      cases e
      exact ⟨o, I.kIn _ o hk, hd⟩
    · have z : ∃ o, s.heap.get? p = some o ∧ o.ExactDict := by
        rcases hk with ⟨kvs, hk⟩ | ⟨kvs, hk⟩
        · obtain ⟨_, _, _, _, o, _, _, e, ex, _⟩ := I.hok p _ hk
          exact ⟨o, e, ex⟩
        · obtain ⟨_, _, _, _, o, _, _, e, ex, _⟩ := I.hok p _ hk
          exact ⟨o, e, ex⟩
      obtain ⟨o, e, ex⟩ := z
      refine ⟨⟨o, e, ex.1⟩, fun a e2 => ?_⟩
      cases e2
      exact ⟨o, e, ex.2.1⟩
    · obtain ⟨o, _, _, _, e, ex, _⟩ := I.hok p _ hk
      refine ⟨⟨o, e, ex.1⟩, fun a e2 => ?_⟩
      cases e2
      exact ⟨o, e, ex.2.1⟩
  | _ => exact False.elim ty
def tBM0 (K : PySem.W.Frag) (T : String) (r : V → List V → Hp → VK → Prop) (to : TE) : TE := fun σ H Q => to σ H fun x H1 => tyV K T x H1 ∧ r x [] H1 Q
def tBM (K : PySem.W.Frag) (T : String) (r : V → List V → Hp → VK → Prop) (to : TE) (t : TA) : TE := fun σ H Q => to σ H fun x H1 => tyV K T x H1 ∧ t σ H1 fun xs H2 => r x xs H2 Q
variable {o e : Expr} {es : List Expr} {to : TE} {t : TA} {name : Str} {apos cpos : Pos} {T id : String} {r : V → List V → Hp → VK → Prop}
theorem pe_bm0 (pa : PlainAttrs T) (slot : Slot T name id) (hty : typeOf (.builtin id) = pure (.type "method_descriptor")) (hm : MtR X id r) (ho : PE X o to)
    (hbase : attributeBase o name X.env (eval o X.env) = eval o X.env := by rfl) (hline : (apos.endLine == cpos.line) = true := by rfl) : PE X (.Call (.Attribute o name apos) [] [] cpos) (tBM0 X.K T r to) := by
  intro pins s σ H Q I h
  refine wpAny_Call_method0_late hbase hline (thn (ho pins s σ H _ I h) fun v s1 ⟨x, H1, I1, r1, ty, q1⟩ => ?_)
  obtain ⟨h1, h2⟩ := tyV_is I1 r1 ty
  exact ⟨T, id, pa, slot, hty, h1, h2, Calls.callWith_builtin rfl (PySem.evalArgs_none (hm pins s1 σ H1 x [] v [] Q I1 r1 .nil q1))⟩
theorem pe_bm (pa : PlainAttrs T) (slot : Slot T name id) (hty : typeOf (.builtin id) = pure (.type "method_descriptor")) (hm : MtR X id r) (ho : PE X o to) (ha : PA X (e :: es) t)
    (hbase : attributeBase o name X.env (eval o X.env) = eval o X.env := by rfl)
    (hfew : ((backTo cpos (starEach (e :: es) X.env)).all (fun x => !x.1) && (backToKw cpos (keywordEach [] X.env)).all (fun x => x.1.isSome)
      && decide ((e :: es).length + ([] : List Keyword).length + (if ([] : List Keyword).isEmpty then 0 else 1) < 30)) = true := by rfl)
    (hline : (apos.endLine == cpos.line) = true := by rfl) (hs : starEach (e :: es) X.env = (false, eval e X.env) :: starEach es X.env := by rfl) (hplain : (backTo cpos (starEach es X.env)).any (·.1) = false := by rfl) :
    PE X (.Call (.Attribute o name apos) (e :: es) [] cpos) (tBM X.K T r to t) := by
  intro pins s σ H Q I h
  refine wpAny_Call_method_late hbase hfew hline rfl (thn (ho pins s σ H _ I h) fun v s1 ⟨x, H1, I1, r1, ty, q1⟩ => ?_)
  obtain ⟨h1, h2⟩ := tyV_is I1 r1 ty
  refine ⟨T, id, pa, slot, hty, h1, h2, ?_⟩
  have hA := ha cpos pins s1 σ H1 _ I1 q1
  rw [hs] at hA ⊢
  refine Calls.callWith_builtin (by show (false || (backTo cpos (starEach es X.env)).any (·.1)) = false; rw [hplain] <;> rfl) (Calls.evalArgs_plain ?_)
  exact thn hA fun us s2 ⟨vs, H2, I2, r2, q2⟩ => hm pins s2 σ H2 x vs v us Q I2 r1 r2 q2
/- xs.append(e), list.index on a module's tuple .. are MtR facts of 06m -/
end
end L2
namespace L2
open PySem PySem.Spec PyProof.Rows
def MtM (X : Cx) (id : String) (r : V → List V → Hp → VK → Prop) : Prop :=
  ∀ (pins : List (Addr × Obj)) (s : Shared) (σ : St) (H : Hp) (x : V) (xs : List V) (v : Value) (us : List Value) (Q : VK), Inv X pins σ H s → RelV x v → Vals xs us → r x xs H Q →
    wpAny (model X.prog X.w) X.A (call (.builtin id) (v :: us)) (EP X pins σ Q) X.xe s
theorem Vals.one : ∀ {x : V} {us : List Value}, Vals [x] us → ∃ u, us = [u] ∧ RelV x u
  | _, _, .cons r .nil => ⟨_, rfl, r⟩
theorem Vals.zero : ∀ {us : List Value}, Vals [] us → us = []
  | _, .nil => rfl
theorem Vals.dropLast {xs : List V} {us : List Value} (h : Vals xs us) : Vals xs.dropLast us.dropLast := by
  induction h with
  | nil => exact .nil
  | cons r t ih =>
    cases t with
    | nil => exact .nil
    | cons q t' => exact .cons r ih
theorem Vals.eraseIdx : ∀ {xs : List V} {us : List Value} (i : Nat), Vals xs us → Vals (xs.eraseIdx i) (us.eraseIdx i)
  | _, _, _, .nil => .nil
  | _, _, 0, .cons _ t => t
  | _, _, i + 1, .cons r t => .cons r (Vals.eraseIdx i t)
theorem Vals.rep {xs : List V} {us : List Value} (h : Vals xs us) : ∀ k : Nat, Vals (List.replicate k xs).flatten (List.replicate k us).flatten
  | 0 => .nil
  | k + 1 => by
    rw [List.replicate_succ, List.replicate_succ, List.flatten_cons, List.flatten_cons]
    exact Vals.append h (Vals.rep h k)
theorem erase_last {α : Type} (l : List α) : l.eraseIdx (l.length - 1) = l.dropLast := by
  induction l with
  | nil => rfl
  | cons a r ih =>
    cases r with
    | nil => rfl
    | cons b r =>
      have e : (a :: b :: r).length - 1 = ((b :: r).length - 1) + 1 := by
        have h1 : (a :: b :: r).length = r.length + 2 := rfl
        have h2 : (b :: r).length = r.length + 1 := rfl
        omega
      rw [e, List.eraseIdx_cons_succ, ih]
      all_goals rfl
theorem foldl_rep (its : List Value) : ∀ (k : Nat) (acc : List Value),
    List.foldl (fun x1 x2 => x1 ++ x2) acc.toArray (List.replicate k its.toArray) = (acc ++ (List.replicate k its).flatten).toArray
  | 0, acc => by simp
  | k + 1, acc => by
    have e : acc.toArray ++ its.toArray = (acc ++ its).toArray := by simp
    have e2 : (acc ++ its) ++ (List.replicate k its).flatten = acc ++ (List.replicate (k + 1) its).flatten := by
      rw [List.replicate_succ, List.flatten_cons, List.append_assoc]
    rw [← e2, ← foldl_rep its k (acc ++ its), ← e, List.replicate_succ, List.foldl_cons]
section
variable {X : Cx} {pins : List (Addr × Obj)} {σ : St} {H : Hp} {s : Shared} {l b : Addr} {xs ys zs : List V}
theorem Inv.lset {its its' : List Value} {n : Nat} {f : Array Value → Array Value} {t' : Nat} (I : Inv X pins σ H s) (hH : H l = some (.lst xs))
    (e : s.heap.get? l = some { cls := .type "list", data := .seq its.toArray n }) (hf : f its.toArray = its'.toArray) (hv : Vals ys its') (hz : ys.length ≤ sizeLine) :
    Inv X pins σ (upd H l (.lst ys)) { s with heap := s.heap.update l (Obj.mapSeq f), toks := t' } := by
  have q := PySem.IsL.update e f
  rw [hf] at q
  refine I.write (x := l) (e := l) (by rw [hH]; exact trivial) (.inl rfl) (fun b' u hb hu => (Heap.get?_update_other s.heap (Obj.mapSeq f) (Ne.symm hb)).trans hu) ⟨_, q⟩ ?_
  exact ⟨hz, its', _, hv, q⟩
theorem Inv.lnew {its : List Value} {t' : Nat} (I : Inv X pins σ H s) (hv : Vals ys its) (hz : ys.length ≤ sizeLine) :
    Inv X pins σ (upd H s.heap.objs.size (.lst ys)) { s with heap := s.heap.push { cls := .type "list", data := .seq its.toArray }, toks := t' } :=
  I.laid (fun _ _ q => Heap.get?_push_of_some _ q) (Nat.le_refl _) ⟨hz, its, 0, hv, Heap.get?_push_size _ rfl⟩
theorem Inv.fresh (I : Inv X pins σ H s) : H s.heap.objs.size = none := I.hok.fresh (Nat.le_refl _)
theorem Inv.lstM (I : Inv X pins σ H s) (hH : H l = some (.lst xs)) : xs.length ≤ sizeLine ∧ ∃ (its : List Value) (n : Nat), Vals xs its ∧ xs.length = its.length ∧ s.heap.get? l = some { cls := .type "list", data := .seq its.toArray n } := by
  obtain ⟨z, its, n, r, e⟩ := I.hok l _ hH
  exact ⟨z, its, n, r, r.length, e⟩
theorem notLongL {n : Nat} (h : n ≤ sizeLine) : Builtin.List.listTooLong n = false := by
  unfold Builtin.List.listTooLong
  exact decide_eq_false (by omega)
end
section
variable {X : Cx}
def rAppend : V → List V → Hp → VK → Prop := fun x vs H Q => ∃ l xs y, x = .ref l ∧ vs = [y] ∧ H l = some (.lst xs) ∧ xs.length < sizeLine ∧ Q .non (upd H l (.lst (xs ++ [y])))
theorem mt_append : MtM X "list.append" rAppend := by
  intro pins s σ H x vs v us Q I rx rv h
  obtain ⟨l, xs, y, rfl, rfl, hH, hz, q⟩ := h
  cases rx
  obtain ⟨u, rfl, ru⟩ := rv.one
  obtain ⟨z, its, n, r, hl, e⟩ := I.lstM hH
  refine call_meets F.slot_list_append ⟨_, e, rfl⟩ F.entry_list_append (F.args_list_append_2 _ _) (PySem.list_append l its.toArray n u (by rw [List.size_toArray]; omega)) ⟨e, ?_⟩
  refine ⟨.non, _, I.lset (its' := its ++ [u]) hH e (by simp) (r.append (.cons ru .nil)) ?_, rfl, q⟩
  rw [List.length_append, List.length_singleton]
  omega
def rExtend : V → List V → Hp → VK → Prop := fun x vs H Q => ∃ l b xs zs, x = .ref l ∧ vs = [.ref b] ∧ H l = some (.lst xs) ∧ H b = some (.lst zs) ∧ xs.length + zs.length ≤ sizeLine ∧ Q .non (upd H l (.lst (xs ++ zs)))
theorem mt_extend : MtM X "list.extend" rExtend := by
  intro pins s σ H x vs v us Q I rx rv h
  obtain ⟨l, b, xs, zs, rfl, rfl, hH, hB, hz, q⟩ := h
  cases rx
  obtain ⟨u, rfl, ru⟩ := rv.one
  cases ru
  obtain ⟨z, its, n, r, hl, e⟩ := I.lstM hH
  obtain ⟨z2, its2, n2, r2, hl2, e2⟩ := I.lstM hB
  have hsz : its.toArray.size + its2.toArray.size ≤ sizeLine := by rw [List.size_toArray, List.size_toArray]; omega
  have hlong : ¬ (!its.toArray.isEmpty && Builtin.List.listTooLong (its.toArray.size + its2.toArray.size)) = true := by
    rw [notLongL hsz, Bool.and_false]
    exact Bool.false_ne_true
  refine call_meets F.slot_list_extend ⟨_, e, rfl⟩ F.entry_list_extend (F.args_list_extend_2 _ _)
    (AutoSeq1.list_extend_list_list_0 l its.toArray n b its2.toArray n2 hlong (by rw [List.size_toArray]; omega) (by omega)) ⟨e, e2, ?_⟩
  refine ⟨.non, _, I.lset (its' := its ++ its2) hH e (by simp) (r.append r2) ?_, rfl, q⟩
  rw [List.length_append]
  omega
def rPop : V → List V → Hp → VK → Prop := fun x vs H Q => ∃ l xs y, x = .ref l ∧ vs = [] ∧ H l = some (.lst xs) ∧ xs[xs.length - 1]? = some y ∧ Q y (upd H l (.lst xs.dropLast))
theorem mt_pop : MtM X "list.pop" rPop := by
  intro pins s σ H x vs v us Q I rx rv h
  obtain ⟨l, xs, y, rfl, rfl, hH, hy, q⟩ := h
  cases rx
  have hus := rv.zero
  subst hus
  obtain ⟨z, its, n, r, hl, e⟩ := I.lstM hH
  obtain ⟨u, hu, ru⟩ := r.get hy
  have hy' : its.toArray[its.toArray.size - 1]? = some u := by
    show its.toArray[its.length - 1]? = some u
    rw [← Array.getElem?_toList, ← hl]
    exact hu
  refine call_meets F.slot_list_pop ⟨_, e, rfl⟩ F.entry_list_pop (F.args_list_pop_1 _) (MeetsSeq.list_pop_last l its.toArray n u hy' (by rw [List.size_toArray]; omega)) ⟨e, ?_⟩
  refine ⟨y, _, I.lset (its' := its.dropLast) hH e ?_ r.dropLast ?_, ru, q⟩
  · show its.toArray.eraseIdxIfInBounds (its.toArray.size - 1) = its.dropLast.toArray
    rw [List.size_toArray, List.eraseIdxIfInBounds_toArray, erase_last]
  · rw [List.length_dropLast]
    omega
def rClear : V → List V → Hp → VK → Prop := fun x vs H Q => ∃ l xs, x = .ref l ∧ vs = [] ∧ H l = some (.lst xs) ∧ Q .non (upd H l (.lst []))
theorem mt_clear : MtM X "list.clear" rClear := by
  intro pins s σ H x vs v us Q I rx rv h
  obtain ⟨l, xs, rfl, rfl, hH, q⟩ := h
  cases rx
  have hus := rv.zero
  subst hus
  obtain ⟨z, its, n, r, hl, e⟩ := I.lstM hH
  refine call_meets F.slot_list_clear ⟨_, e, rfl⟩ F.entry_list_clear (F.args_list_clear_1 _) (AutoSeq1.list_clear_list_0 l its.toArray n (by rw [List.size_toArray]; omega)) ⟨e, ?_⟩
  exact ⟨.non, _, I.lset (its' := []) (ys := []) hH e rfl .nil (Nat.zero_le _), rfl, q⟩
def rCat : R2 := fun x y H Q => ∃ l b xs zs, x = .ref l ∧ y = .ref b ∧ H l = some (.lst xs) ∧ H b = some (.lst zs) ∧ xs.length + zs.length ≤ sizeLine ∧ ∀ p, H p = none → Q (.ref p) (upd H p (.lst (xs ++ zs)))
theorem op_cat : OpR X (binaryOp .Add) rCat := by
  intro pins s σ H x y v u Q I rx ry h
  obtain ⟨l, b, xs, zs, rfl, rfl, hH, hB, hz, q⟩ := h
  cases rx
  cases ry
  obtain ⟨z, its, n, r, hl, e⟩ := I.lstM hH
  obtain ⟨z2, its2, n2, r2, hl2, e2⟩ := I.lstM hB
  refine PySem.P.add_list e e2 ?_ (by rw [List.size_toArray, List.size_toArray]; omega)
  have ea : its.toArray ++ its2.toArray = (its ++ its2).toArray := by simp
  rw [ea]
  exact ⟨.ref _, _, I.lnew (t' := s.toks) (r.append r2) (by rw [List.length_append]; omega), rfl, q _ I.fresh⟩
def rRep : R2 := fun x y H Q => ∃ l k xs, x = .ref l ∧ y = .int k ∧ H l = some (.lst xs) ∧ -(2 ^ 63) ≤ k ∧ k < 2 ^ 63 ∧ xs.length * k.toNat ≤ sizeLine ∧
  ∀ p, H p = none → Q (.ref p) (upd H p (.lst (List.replicate k.toNat xs).flatten))
theorem len_rep {α : Type} (xs : List α) (k : Nat) : (List.replicate k xs).flatten.length = k * xs.length := by
  induction k with
  | zero => simp
  | succ k ih => rw [List.replicate_succ, List.flatten_cons, List.length_append, ih, Nat.succ_mul, Nat.add_comm]
theorem op_rep : OpR X (binaryOp .Mult) rRep := by
  intro pins s σ H x y v u Q I rx ry h
  obtain ⟨l, k, xs, rfl, rfl, hH, h1, h2, hz, q⟩ := h
  cases rx
  obtain ⟨t, rfl⟩ := ry
  obtain ⟨z, its, n, r, hl, e⟩ := I.lstM hH
  have hlen : its.toArray.size * k.toNat ≤ sizeLine := by rw [List.size_toArray, ← hl]; exact hz
  have hcap : ¬ its.toArray.size * k.toNat > (2 ^ 63 - 1) / 8 := by
    have : (sizeLine : Nat) ≤ (2 ^ 63 - 1) / 8 := by decide
    omega
  have hfit : ¬ (!Builtin.List.listFitsIndex k) = true := by
    rw [fitsIndex_both h1 h2]
    exact Bool.false_ne_true
  have hlong : ¬ Builtin.List.listTooLong (its.toArray.size * k.toNat) = true := by
    rw [notLongL hlen]
    exact Bool.false_ne_true
  have hnew : List.foldl (fun x1 x2 => x1 ++ x2) #[] (List.replicate (if its.toArray.isEmpty = true then 0 else k.toNat) its.toArray) = (List.replicate k.toNat its).flatten.toArray := by
    have f0 : ∀ m : Nat, List.foldl (fun x1 x2 => x1 ++ x2) #[] (List.replicate m its.toArray) = (List.replicate m its).flatten.toArray := fun m => by
      have := foldl_rep its m []
      rw [List.nil_append] at this
      exact this
    rw [f0]
    cases its with
    | nil => simp
    | cons a r' => rw [if_neg (by simp)]
  refine wpAny_binaryOp_repeat_ref (T := "list") (U := "int") (by decide) ⟨_, e, rfl⟩ (fun s' => typeIs_int s' k t) noFill_list_mul F.fills_int_mul F.slot_int_rmul repeat_list F.slot_int_index.lookup
    (call_meets F.slot_int_rmul (typeIs_int s k t) F.entry_int_rmul (F.args_int_rmul_2 _ _) (int___rmul___int_list k t l its.toArray n)
      ⟨e, rfl, ⟨_, e, rfl⟩, call_meets F.slot_list_mul ⟨_, e, rfl⟩ F.entry_list_mul (F.args_list_mul_2 _ _) (AutoListH.list___mul___list_int_3 l its.toArray n k t hfit hcap hlong) ⟨e, ?_⟩⟩)
  rw [hnew]
  exact ⟨.ref _, _, I.lnew (t' := s.toks) (r.rep k.toNat) (by rw [len_rep, Nat.mul_comm]; exact hz), rfl, q _ I.fresh⟩
end
section
variable {prog : Program} {w : World} {A : Around} {E : Value → Shared → Prop} {s : Shared}
end
section
variable {X : Cx}
end
end L2
namespace L2
open PySem PySem.Spec PyProof.Rows
section
variable {κ : Type} [DecidableEq κ]
def valV (kvs : List (κ × V)) (k : κ) : Option V := (kvs.find? fun kv => decide (kv.1 = k)).map (·.2)
theorem valV_pos {p : κ × V} {r : List (κ × V)} {k : κ} (e : p.1 = k) : valV (p :: r) k = some p.2 := by simp [valV, List.find?_cons, e]
theorem valV_neg {p : κ × V} {r : List (κ × V)} {k : κ} (e : ¬ p.1 = k) : valV (p :: r) k = valV r k := by simp [valV, List.find?_cons, e]
theorem RelO.isSome_eq {o : Option V} {u : Option Value} (r : RelO o u) : o.isSome = u.isSome := by
  cases o with
  | none => cases u with
    | none => rfl
    | some _ => exact (show False from r).elim
  | some _ => cases u with
    | none => exact (show False from r).elim
    | some _ => rfl
theorem RelO.getD {o : Option V} {u : Option Value} {d : V} {d' : Value} (r : RelO o u) (rd : RelV d d') : RelV (o.getD d) (u.getD d') := by
  cases o with
  | none => cases u with
    | none => exact rd
    | some _ => exact (show False from r).elim
  | some _ => cases u with
    | none => exact (show False from r).elim
    | some _ => exact r
theorem KV.val {kvs : List (κ × V)} {vs : List (κ × Value)} (r : KV kvs vs) (k : κ) : RelO (valV kvs k) (valueAt vs k) := by
  unfold KV at r
  induction r with
  | nil => exact True.intro
  | @cons p q ps qs h t ih =>
    obtain ⟨h1, h2⟩ := h
    by_cases e : p.1 = k
    · have e' : q.1 = k := h1.symm.trans e
      have b : valueAt (q :: qs) k = some q.2 := by simp [valueAt, List.find?_cons, e']
      rw [valV_pos e, b]; exact h2
    · have e' : ¬ q.1 = k := fun z => e (h1.trans z)
      have b : valueAt (q :: qs) k = valueAt qs k := by simp [valueAt, List.find?_cons, e']
      rw [valV_neg e, b]; exact ih
theorem KV.length {kvs : List (κ × V)} {vs : List (κ × Value)} (r : KV kvs vs) : kvs.length = vs.length := Paired.length r
end
theorem kV_is {P : Program} {w : World} {k : Key} {u : Value} (r : RelV (kV k) u) : (mixKind P w).is k u = true := by
  cases k with
  | inl i => obtain ⟨t, e⟩ := (show ∃ t, u = Value.int i t from r); subst e; exact mixKind_int P w i t
  | inr x => obtain ⟨t, e⟩ := (show ∃ t, u = Value.str x t from r); subst e; exact mixKind_str P w x t
theorem items_are {P : Program} {w : World} : ∀ {ks : List Key} {us : List Value}, Vals (ks.map kV) us → ItemsAre (mixKind P w) ks us
  | [], _, r => by rw [List.map_nil] at r; cases r; exact .nil
  | k :: ks, _, r => by
    rw [List.map_cons] at r
    cases r with
    | cons h t => exact .cons (kV_is h) (items_are t)
abbrev KT (H : Hp) : List (List Key × V) → List (List Key × Addr × Value) → Prop := Paired fun p q => p.1 = q.1 ∧ H q.2.1 = some (.tup (p.1.map kV)) ∧ RelV p.2 q.2.2
theorem KT.val {H : Hp} {kvs : List (List Key × V)} {xs : List (List Key × Addr × Value)} (r : KT H kvs xs) (k : List Key) : RelO (valV kvs k) ((atKey xs k).map (·.2)) := by
  induction r with
  | nil => exact True.intro
  | @cons p q ps qs h t ih =>
    obtain ⟨h1, _, h2⟩ := h
    by_cases e : p.1 = k
    · have e' : q.1 = k := h1.symm.trans e
      have b : atKey (q :: qs) k = some q.2 := by simp [atKey, List.find?_cons, e']
      rw [valV_pos e, b]; exact h2
    · have e' : ¬ q.1 = k := fun z => e (h1.trans z)
      have b : atKey (q :: qs) k = atKey qs k := by simp [atKey, List.find?_cons, e']
      rw [valV_neg e, b]; exact ih
section
variable {P : Program} {w : World} {H : Hp} {h : Heap} {a : Addr}
theorem rd_of {u : HO} (ok : HOk P w H h) (e : Rd H a u) : ObjOk P w H h a u := e.ok ok
theorem dk_rd {kvs : List (Key × V)} (ok : HOk P w H h) (e : Rd H a (.dK kvs)) : kvs.length ≤ sizeLine ∧ (a == sysModules) = false ∧ ∃ vs, KV kvs vs ∧ h.DictOf (mixKind P w) a vs :=
  show ObjOk P w H h a (.dK kvs) from rd_of ok e
theorem key_of {ks : List Key} (ok : HOk P w H h) (e : H a = some (.tup (ks.map kV))) : (tupleKind (mixKind P w)).is h ks a := by
  obtain ⟨_, its, r, o, h1, h2, n, h3⟩ := (show ObjOk P w H h a (.tup (ks.map kV)) from ok a _ e)
  exact ⟨o, its.toArray, n, h1, h2, h3, by simpa using items_are r⟩
theorem dt_rd {kvs : List (List Key × V)} (ok : HOk P w H h) (e : Rd H a (.dT kvs)) : kvs.length ≤ sizeLine ∧ (a == sysModules) = false ∧
    ∃ xs, KT H kvs xs ∧ h.DictOfH (tupleKind (mixKind P w)) a xs := by
  obtain ⟨z, y, xs, r, o, es, ep, h1, h2, h3, h4, h5⟩ := (show ObjOk P w H h a (.dT kvs) from rd_of ok e)
  refine ⟨z, y, xs, r, o, es, ep, h1, h2, h3, h4, fun x hx => ?_, h5⟩
  have all : ∀ {l : List (List Key × V)} {m : List (List Key × Addr × Value)}, KT H l m → ∀ x ∈ m, (tupleKind (mixKind P w)).is h x.1 x.2.1 := by
    intro l m q
    induction q with
    | nil => intro x hx; exact nomatch hx
    | @cons p q ps qs hq t ih =>
      intro x hx
      rcases List.mem_cons.mp hx with e | hx
      · subst e
        exact key_of ok (by rw [← hq.1]; exact hq.2.1)
      · exact ih x hx
  exact all r x hx
end
def DGet (H : Hp) (a : Addr) (y : V) (r : Option V) : Prop :=
  (∃ kvs k, Rd H a (.dK kvs) ∧ y = kV k ∧ r = valV kvs k) ∨ ∃ kvs k b, Rd H a (.dT kvs) ∧ y = .ref b ∧ H b = some (.tup (k.map kV)) ∧ r = valV kvs k
theorem DGet.k {H : Hp} {a : Addr} {kvs : List (Key × V)} {k : Key} (e : H a = some (.dK kvs)) : DGet H a (kV k) (valV kvs k) := .inl ⟨kvs, k, .inl e, rfl, rfl⟩
section
variable {X : Cx} {pins : List (Addr × Obj)} {σ : St} {H : Hp} {s : Shared} {a : Addr} {y v : V} {u r : Value} {o : Option V} {A : Around} {E : Value → Shared → Prop}
theorem Inv.big (I : Inv X pins σ H s) : sysModules < s.heap.objs.size := by
  have h : mainGlobals < s.heap.objs.size := (I.mod.glob.keeps I.bk).lt
  exact Nat.lt_trans (by decide) h
theorem d_getItem {Q : Value → Shared → Prop} (hu : A.units + 1 < cLine) (I : Inv X pins σ H s) (g : DGet H a y (some v)) (ry : RelV y u) (h : ∀ w' s', Inv X pins σ H s' → RelV v w' → Q w' s') :
    wpAny (model X.prog X.w) A (getItem (.ref a) u) Q E s := by
  rcases g with ⟨kvs, k, e, ey, l⟩ | ⟨kvs, k, b, e, ey, eb, l⟩
  · subst ey
    obtain ⟨z, hd, vs, rel, dd⟩ := dk_rd I.hok e
    obtain ⟨w', hw, rw'⟩ := RelO.some_of (v := v) (o := valueAt vs k) (by rw [l]; exact rel.val k)
    exact wpAny_getItem_of (kV_is ry) dd.mapOf hw (h w' _ (I.tok _) rw')
  · subst ey
    cases (show u = Value.ref b from ry)
    obtain ⟨z, hd, xs, rel, dd⟩ := dt_rd I.hok e
    obtain ⟨w', hw, rw'⟩ := RelO.some_of (v := v) (o := (atKey xs k).map (·.2)) (by rw [l]; exact rel.val k)
    obtain ⟨p, hp, hp2⟩ := Option.map_eq_some_iff.mp hw
    refine wpAny_getItem_heap (tupleKind_room_in1 hu) (key_of I.hok eb) dd hp ?_
    rw [hp2]
    exact h w' _ (I.tok _) rw'
theorem d_in {Q : Value → Shared → Prop} (hu : A.units + 1 < cLine) (I : Inv X pins σ H s) (g : DGet H a y o) (ry : RelV y u) (h : ∀ s', Inv X pins σ H s' → Q (.bool o.isSome) s') :
    wpAny (model X.prog X.w) A (compareOp .In u (.ref a)) Q E s := by
  rcases g with ⟨kvs, k, e, ey, l⟩ | ⟨kvs, k, b, e, ey, eb, l⟩
  · subst ey
    obtain ⟨z, hd, vs, rel, dd⟩ := dk_rd I.hok e
    refine wpAny_in_of (kV_is ry) hd dd.mapOf ?_
    rw [← (rel.val k).isSome_eq, ← l]
    exact h _ (I.tok _)
  · subst ey
    cases (show u = Value.ref b from ry)
    obtain ⟨z, hd, xs, rel, dd⟩ := dt_rd I.hok e
    refine wpAny_in_heap (tupleKind_room_in1 hu) (key_of I.hok eb) hd dd ?_
    have q := (rel.val k).isSome_eq
    rw [Option.isSome_map] at q
    rw [← q, ← l]
    exact h _ (I.tok _)
theorem dk_new {P : Program} {w : World} {H' : Hp} {h' : Heap} {kvs : List (Key × V)} {vs : List (Key × Value)} (z : kvs.length ≤ sizeLine) (hd : (a == sysModules) = false) (rel : KV kvs vs) (dd : h'.DictOf (mixKind P w) a vs) :
    ObjOk P w H' h' a (.dK kvs) := ⟨z, hd, vs, rel, dd⟩
end
section
variable {X : Cx} {pins : List (Addr × Obj)} {σ : St} {H : Hp} {s : Shared} {a : Addr} {kvs : List (Key × V)} {k : Key} {u : Value} {A : Around} {E : Value → Shared → Prop}
end
def NoSl (i : Expr) : Prop := ∀ ov iv, subscripted i false ov iv = operate [ov, iv] (getItem ov iv)
theorem subD_of {prog : Program} {w : World} {A : Around} {E : Value → Shared → Prop} {s : Shared} {env : Env} {value slice : Expr} {pos : Pos} {T id : String} {Q : Value → Shared → Prop}
    (hl : typeLookup (.type T) "__getitem__" = pure (some (.builtin id))) (hs : NoSl slice)
    (h : wpAny (model prog w) A (eval value env) (fun o s₁ => wpAny (model prog w) A (eval slice env) (fun i s₂ => s₂.TypeIs o T ∧ wpAny (model prog w) A (getItem o i) Q E s₂) E s₁) E s) :
    wpAny (model prog w) A (eval (.Subscript value slice pos) env) Q E s := by
  refine Subscript_ (wpAny_mono h (fun o s₁ h₁ => wpAny_mono h₁ (fun i s₂ h₂ => ?_) fun _ _ x => x) fun _ _ x => x)
  obtain ⟨hT, h₂⟩ := h₂
  unfold subscriptTail
  refine wpAny_bind ?_
  rw [getitemInPython_of_ne hT.not_modules]
  refine wpAny_bind (wpAny_specialOf hT hl ?_)
  have fin : wpAny (model prog w) A (subscripted slice false o i) (fun r s₃ => wpAny (model prog w) A (letTemporaryGo value o r >>= fun _ => pure r) Q E s₃) E s₂ := by
    rw [hs o i]
    exact wpAny_operating (wpAny_mono h₂ (fun r s₃ h₃ => wpAny_bind (wpAny_letTemporaryGo (wpAny_pure h₃))) fun _ _ x => x)
  first
    | exact wpAny_pure (wpAny_bind fin)
    | exact wpAny_bind (wpAny_pure (wpAny_bind fin))
    | exact wpAny_bind fin
theorem dict_typeIs {X : Cx} {pins : List (Addr × Obj)} {σ : St} {H : Hp} {s : Shared} {a : Addr} {y : V} {o : Option V} (I : Inv X pins σ H s) (g : DGet H a y o) : s.TypeIs (.ref a) "dict" := by
  rcases g with ⟨kvs, k, e, _, _⟩ | ⟨kvs, k, b, e, _, _, _⟩
  · obtain ⟨_, _, vs, _, dd⟩ := dk_rd I.hok e
    exact dd.typeIs
  · obtain ⟨_, _, xs, _, dd⟩ := dt_rd I.hok e
    exact dd.typeIs
def tDGet (td ty : TE) : TE := fun σ H Q => td σ H fun x H1 => ty σ H1 fun y H2 => ∃ a v, x = .ref a ∧ DGet H2 a y (some v) ∧ Q v H2
def tDIn (ty td : TE) : TE := fun σ H Q => ty σ H fun y H1 => td σ H1 fun x H2 => ∃ a o, x = .ref a ∧ DGet H2 a y o ∧ Q (.bl o.isSome) H2
section
variable {X : Cx} {o i e value : Expr} {pos pos' tpos : Pos} {td ty tv : TE}
theorem pe_dget (hu : X.A.units + 1 < cLine) (ho : PE X o td) (hi : PE X i ty) (hs : NoSl i) : PE X (.Subscript o i pos) (tDGet td ty) := by
  intro pins s σ H Q I h
  refine subD_of PySem.F.slot_dict_getitem.lookup hs (thn (ho pins s σ H _ I h) fun u s1 ⟨x, H1, I1, rx, q1⟩ => thn (hi pins s1 σ H1 _ I1 q1) fun iv s2 ⟨y, H2, I2, ry, a, v, ex, g, q2⟩ => ?_)
  subst ex
  obtain rfl : u = Value.ref a := rx
  exact ⟨dict_typeIs I2 g, d_getItem hu I2 g ry fun w' s3 I3 rw' => ⟨v, H2, I3, rw', q2⟩⟩
theorem pc_din (hu : X.A.units + 1 < cLine) (hi : PE X i ty) (ho : PE X o td) : PC X .In i o (tDIn ty td) := by
  intro pins s σ H Q I h
  refine thn (hi pins s σ H _ I h) fun iv s1 ⟨y, H1, I1, ry, q1⟩ => thn (ho pins s1 σ H1 _ I1 q1) fun u s2 ⟨x, H2, I2, rx, a, ov, ex, g, q2⟩ => ?_
  subst ex
  obtain rfl : u = Value.ref a := rx
  exact d_in hu I2 g ry fun s3 I3 => ⟨.bl ov.isSome, H2, I3, rfl, q2⟩
end
section
variable {X : Cx} {pos : Pos}
end
section
variable {X : Cx} {pins : List (Addr × Obj)} {σ : St} {H : Hp} {s : Shared} {a : Addr} {y d : V} {u r : Value} {o : Option V} {A : Around} {E : Value → Shared → Prop}
end
section
variable {X : Cx} {o e f : Expr} {apos cpos : Pos} {td ty tx : TE}
end
section
variable {X : Cx} {pins : List (Addr × Obj)} {σ : St} {H : Hp} {s : Shared} {a : Addr} {kvs : List (Key × V)} {A : Around} {E : Value → Shared → Prop}
end
section
variable {X : Cx} {pins : List (Addr × Obj)} {σ : St} {H : Hp} {s : Shared} {a : Addr} {y : V} {u : Value} {A : Around} {E : Value → Shared → Prop}
end
end L2
namespace Att
open PySem PySem.W PySem.Calls PyProof.Rows
theorem ints_of_wellAll {P : Params} {h : Heap} : ∀ (ns : List Int) (vs : List Value), WellAll P h vs (ns.map WData.int) → IntsAre vs ns := by
  intro ns
  induction ns with
  | nil =>
    intro vs w
    rw [List.map_nil] at w
    cases w
    exact .nil
  | cons n ns ih =>
    intro vs w
    rw [List.map_cons] at w
    cases w with
    | cons a b =>
      cases a
      exact .cons _ _ (ih _ b)
theorem script_of {l : OpenLaw} {n : Nat} (hn : l.most = some n) {P : Params} {h : Heap} {args : List WData} {vals : List Value}
    (hpre : l.row.toRowW.claim.pre args = true) (hwl : WellAll P h vals args) :
    ∃ a vs ns, vals = [Value.ref a] ∧ args = [WData.list (ns.map WData.int)] ∧ h.get? a = some { cls := .type "list", data := .seq vs.toArray } ∧ IntsAre vs ns ∧ ns.length ≤ n := by
  have hsh : WShape.hasAll [] args [.list .int] = true := (pre_splitW hpre).1
  have hc : l.pre.holds [] { args := args } = true := (pre_splitW hpre).2
  obtain ⟨d, r, rfl, h1, h2⟩ := hasAllW_cons hsh
  obtain rfl := hasAllW_nil h2
  obtain ⟨xs, rfl, h3⟩ := hasW_list h1
  obtain ⟨ns, rfl⟩ := items_int h3
  have hlen : ns.length ≤ n := by
    unfold OpenLaw.pre at hc
    have h4 : (WTm.not (.lt (.lit (.int (n : Int))) (.len (.arg 0)))).holds [] { args := [.list (ns.map .int)] } = true := by
      have h4 := (holds_andW hc).1
      rw [hn] at h4
      exact h4
    have h5 := condW_of h4 (w_not (w_lt w_lit (w_len_list (w_arg rfl))))
    rw [List.length_map] at h5
    refine Nat.le_of_not_lt fun q => ?_
    have q' : (n : Int) < ((ns.length : Nat) : Int) := by omega
    first
      | (rw [decide_eq_true q'] at h5; exact absurd h5 (by decide))
      | (simp at h5; omega)
  cases hwl with
  | cons w1 w2 =>
    cases w2
    cases w1 with
    | list ho hall => exact ⟨_, _, ns, rfl, rfl, ho, ints_of_wellAll ns _ hall, hlen⟩
theorem post_true (l : OpenLaw) (args : List WData) : l.row.toRowW.claim.post args (.bool true) args = true :=
  postW_of (r := l.row.toRowW) (X := (true == true))
    (show WShape.has [] (.bool true) .bool = true by first | rfl | decide | simp [WShape.has, WShape.arms, WShape.armsAll])
    (show (WTm.eq .res (.lit (.bool true))).value [] { args := args, res := some (.bool true), after := args } = some (.bool (true == true)) from w_eq_bool (w_res rfl) w_lit) rfl
theorem attach_call {l : OpenLaw} {n : Nat} {q : Program} {loose : List Str} {XP : (Str → Option Value) → Heap → Prop} {YP : World → Heap → Prop} {d : DefRec}
    (hn : l.most = some n) (hdf : d.params.defaults = [])
    (call : ∀ (w : World) (s₀ s₁ : Shared) (mg mb : Str → Option Value) (fa : Addr) (o : Obj) (pm cd doc : Value) (a : Addr) (vs : List Value) (ns : List Int),
      Ground q loose [] XP w s₀ mg mb s₁.heap → YP w s₁.heap →
      s₁.heap.get? fa = some o → o.data = .func (docDef d.name d.params d.body d.scope pm cd doc) → s₁.heap.CodeRec cd d.name → mg d.name = some (.ref fa) →
      s₁.heap.get? a = some { cls := .type "list", data := .seq vs.toArray } → IntsAre vs ns → ns.length ≤ n → s₁.gens = #[] →
      codeAny (model l.prog w) callerA (.call (.ref fa) ⟨[.ref a], []⟩) (fun r s' => r = .ok (.ret (.bool true)) ∧ OldK s₁.heap s'.heap ∧ s'.os = s₁.os ∧ AllBare s'.gens) s₁) :
    WalkO q loose XP YP l.row.toRowW d [] (fun f vs => PySem.call f vs) := by
  intro w s₀ s₁ mg mb G Y fa o pm cd doc dV kV ho hd hcd hD hmg hg args vals as hpre hlay hrd hwl hlo
  obtain rfl : dV = .none := Dflts.none hD hdf
  obtain rfl : kV = .none := Dflts.noKw hD
  obtain ⟨a, vs, ns, rfl, rfl, hobj, hints, hlen⟩ := script_of hn hpre hwl
  refine enter_call (codeAny_mono (call w s₀ s₁ mg mb fa o pm cd doc a vs ns G Y ho (fd_plain hd) hcd hmg hobj hints hlen hg) fun r s' hq => ?_)
  obtain ⟨rfl, h2, h3, h4⟩ := hq
  exact ⟨.inl ⟨.bool true, .bool true, [], rfl, fun _ => rfl, .bool true, post_true l _, fun _ => ⟨List.Pairwise.nil, fun _ hm => (nomatch hm)⟩⟩, h2, h3, h4⟩
section
variable {prog : Program} {w : World} {A : Around} {E : Value → Shared → Prop} {s : Shared} {K : Frag}
end
end Att
namespace L2
open PySem PySem.Spec PyProof.Rows
theorem vals_ints : ∀ {vs : List Value} {ns : List Int}, IntsAre vs ns → Vals (ns.map V.int) vs
  | _, _, .nil => .nil
  | _, _, .cons n t h => .cons ⟨t, rfl⟩ (vals_ints h)
def Only (H : Hp) : Prop := ∀ b, H b = none ∨ ∃ o xs, H b = some (.frz o (.lst xs))
theorem law_call {P : Program} {w : World} {K : PySem.W.Frag} {mg mb : Str → Option Value} {CX : CXT} {k : Nat} {fa a : Addr} {fd : FuncData} {x : Str} {sp : Sp} {s₁ : Shared} {vs : List Value} {ns : List Int}
    (KX : K.In s₁.heap) (hns : s₁.heap.Ns mainGlobals mg) (hb : s₁.heap.Ns builtinsNs mb) (hbb : ∀ x : Str, x ≠ "__name__" → mb x = bootBuiltins x) (hlim : s₁.heap.NoLimit) (hg : s₁.gens = #[])
    (ha : s₁.heap.get? a = some { cls := .type "list", data := .seq vs.toArray }) (hi : IntsAre vs ns) (hl : ns.length ≤ sizeLine) (hr : Room k callerA)
    (F : ∀ base : Heap, K.In base → base.Ns mainGlobals mg → FnOk P w K mg base CX k fa fd [x] sp) (hbind : ∀ (s : Shared) (u : Value), BindsTo s fd ⟨[u], []⟩ [(x, u)])
    (hsp : ∀ H : Hp, Only H → SqL K H a (ns.map V.int) → sp [.ref a] H (fun v _ => v = .bl true) fun _ _ _ => False)
    (hCX : ∀ H e s', CX [] H s₁ (fun _ _ _ => False) e s' → False) :
    codeAny (model P w) callerA (.call (.ref fa) ⟨[.ref a], []⟩) (fun r s' => r = .ok (.ret (.bool true)) ∧ OldK s₁.heap s'.heap ∧ s'.os = s₁.os ∧ AllBare s'.gens) s₁ := by
  have rv := vals_ints hi
  have lenV := hi.length
  have core : ∀ H : Hp, Only H → SqL K H a (ns.map V.int) → HOk P w H s₁.heap → (∀ b, H b ≠ none → b = a) → (H a ≠ none → K.lookup a = none) →
      codeAny (model P w) callerA (.call (.ref fa) ⟨[.ref a], []⟩) (fun r s' => r = .ok (.ret (.bool true)) ∧ OldK s₁.heap s'.heap ∧ s'.os = s₁.os ∧ AllBare s'.gens) s₁ := by
    intro H hO hS hok hA hK
    have base_of : ∀ {b : Addr} {o : Obj}, s₁.heap.get? b = some o → H b = none → (hidT s₁.heap H).get? b = some o := fun e n => hidT_get e n
    have noA : ∀ {b : Addr} {o : Obj} {es : Array DictEntry} {ep : Nat}, s₁.heap.get? b = some o → o.data = .dict es ep → H b = none := fun {b o es ep} e d => by
      cases q : H b with
      | none => rfl
      | some u =>
        have e' : b = a := hA b (by rw [q]; simp)
        subst e'
        rw [ha] at e; cases e
        have d' : Data.seq vs.toArray _ = Data.dict es ep := d
        cases d'
    have nsK : ∀ {b : Addr} {m : Str → Option Value}, s₁.heap.Ns b m → (hidT s₁.heap H).Ns b m := fun {b m} ⟨o, es, ep, e, d, r⟩ => ⟨o, es, ep, base_of e (noA e d), d, r⟩
    have hKb : K.In (hidT s₁.heap H) := fun b o e => base_of (KX b o e) (by
      cases q : H b with
      | none => rfl
      | some u =>
        have e' : b = a := hA b (by rw [q]; simp)
        subst e'
        rw [hK (by rw [q]; simp)] at e; cases e)
    have hM : Mod K mg (hidT s₁.heap H) := ⟨hKb, nsK hns, ⟨mb, nsK hb, hbb⟩, let ⟨mc, h1, h2⟩ := hlim; ⟨mc, nsK h1, h2⟩⟩
    have e0 : Env0 P w K mg (hidT s₁.heap H) callerA [] s₁ H := ⟨rfl, hM, fun b o e => of_hidT e, Nat.le_of_eq (hidT_size _ _), trivial, fun b hb => absurd (show b ∈ ([] : List Addr) from hb) (by simp), hok, .of_eq hg⟩
    refine codeAny_mono ((F _ hKb (nsK hns)).run callerA [] s₁ H ⟨[.ref a], []⟩ [.ref a] [.ref a] _ _ hr e0 (hbind s₁ (.ref a)) (.cons rfl .nil) (hsp H hO hS)) fun r s' h => ?_
    cases r with
    | error e => exact (hCX H e s' h).elim
    | ok fl =>
      cases fl with
      | next => exact False.elim h
      | brk => exact False.elim h
      | cont => exact False.elim h
      | ret u =>
        obtain ⟨v, H', os, bare, un, hok', r', q⟩ := h
        have q' : v = .bl true := q
        subst q'
        obtain rfl : u = Value.bool true := r'
        refine ⟨rfl, OldK.of_keep fun b o e => ?_, os, bare⟩
        cases q : H b with
        | none => exact un.keep b o e q (by intro z; exact absurd (show b ∈ ([] : List Addr) from z) (by simp)) (by simp)
        | some u =>
          rcases hO b with z | ⟨ob, xs, z⟩
          · rw [q] at z; cases z
          · have z2 := un.frzs b ob _ z
            obtain ⟨e1, _⟩ := hok b _ z
            obtain ⟨e2, _⟩ := hok' b _ z2
            rw [e] at e1; cases e1
            exact e2
  cases hk : K.lookup a with
  | some o =>
    have e := KX a o hk
    rw [ha] at e
    cases e
    refine core (fun _ => none) (fun _ => .inl rfl) (.inr ⟨_, vs.toArray, _, hk, rfl, rfl, rfl, by rw [List.size_toArray, lenV]; exact hl, by simpa using rv⟩) (fun b u z => by have z' : (none : Option HO) = some u := z; cases z') (fun b z => absurd rfl z) fun z => absurd rfl z
  | none =>
    refine core (fun b => if b = a then some (.frz { cls := .type "list", data := .seq vs.toArray } (.lst (ns.map V.int))) else none) (fun b => ?_) (.inl (.inr ⟨{ cls := .type "list", data := .seq vs.toArray }, if_pos rfl⟩)) (fun b u z => ?_) (fun b z => ?_) fun _ => hk
    · by_cases hb : b = a
      · exact .inr ⟨_, _, if_pos hb⟩
      · exact .inl (if_neg hb)
    · by_cases hb : b = a
      · have z' := (if_pos hb).symm.trans z
        cases z'
        subst hb
        exact ⟨ha, by rw [List.length_map]; exact hl, vs, _, rv, ha⟩
      · have z' := (if_neg hb).symm.trans z
        cases z'
    · by_cases hb : b = a
      · exact hb
      · exact absurd (if_neg hb) z
end L2
namespace L2
open PySem PySem.Spec PyProof.Rows
abbrev KOf {K : PySem.W.Frag} {h : Heap} (_ : K.In h) : PySem.W.Frag := K
theorem walk_of {l : PySem.W.OpenLaw} {n k : Nat} {q : Program} {loose : List Str} {XP : (Str → Option Value) → Heap → Prop} {YP : World → Heap → Prop} {d : DefRec} {K : Params → PySem.W.Frag} {CX : World → CXT} {sp : World → Sp} {x : Str}
    (hn : l.most = some n) (hn2 : n ≤ sizeLine) (hdf : d.params.defaults = []) (hr : Room k callerA)
    (hY : ∀ (w : World) (h : Heap), YP w h → (K w.params).In h)
    (F : ∀ (w : World) (mg : Str → Option Value) (fa : Addr) (h : Heap), (K w.params).In h → h.Ns mainGlobals mg → mg d.name = some (.ref fa) →
      ∃ fd : FuncData, (∀ (s : Shared) (u : Value), BindsTo s fd ⟨[u], []⟩ [(x, u)]) ∧
        ∀ base : Heap, (K w.params).In base → base.Ns mainGlobals mg → FnOk l.prog w (K w.params) mg base (CX w) k fa fd [x] (sp w))
    (hsp : ∀ (w : World) (H : Hp) (a : Addr) (ns : List Int), ns.length ≤ n → Only H → SqL (K w.params) H a (ns.map V.int) → sp w [.ref a] H (fun v _ => v = .bl true) fun _ _ _ => False)
    (hCX : ∀ (w : World) (H : Hp) (s : Shared) (e : Value) (s' : Shared), CX w [] H s (fun _ _ _ => False) e s' → False) :
    PySem.W.WalkO q loose XP YP l.row.toRowW d [] (fun f vs => PySem.call f vs) := by
  refine Att.attach_call hn hdf fun w s₀ s₁ mg mb fa o pm cd doc a vs ns G Y ho hd hcd hmg hobj hints hlen hg => ?_
  have KX := hY w _ Y
  obtain ⟨fd, hb, hF⟩ := F w mg fa _ KX G.T.g hmg
  exact law_call KX G.T.g G.T.b G.T.builtins G.T.nolimit hg hobj hints (Nat.le_trans hlen hn2) hr hF hb (fun H hO hS => hsp w H a ns hlen hO hS) fun H e s' => hCX w H s₁ e s'
end L2
/- THE LAST THEOREM (shape; LID, My.* are yours):
   My.Adr: a structure of the addresses that your layer names (classes, functions); My.Txt K t: a structure (Prop) of the equations over K;
   My.txt_mk : {K} {implicit addresses ..} (e1 : nsIn K mainGlobals "law" = some (some (.ref f))) (e2 : K.lookup f = some ⟨oc, od, .func (fnOf "law" "law" params body scope dV kV doc pm an cdv ct), sl⟩) (e3 : codeIn K cdv "law" = true) .. : ∃ t, My.Txt K t
set_option maxRecDepth 100000 in
set_option maxHeartbeats 0 in
theorem PySem.Challenge.cw_LID_holds : PySem.Challenge.rw_LID.Holds := by
  w_on; o_law; k_head; (case hw => w_witness2)
  k_fill
  refine L2.walk_of (l := PySem.Challenge.rw_LID) (n := 63) (k := 40) (x := "script") (CX := fun w => ..) (sp := fun _ => My.sp_law) rfl (by decide) rfl ⟨rfl, by decide, by decide⟩ (fun w h Y => PySem.W.kIn_of Y) ?F ?S ?C
  case F =>
    intro w mg fa h KX G hmg
    have T : ∃ t, My.Txt (L2.KOf KX) t := by
      dsimp only [L2.KOf]                          -- K must stand as «<heap const> w.params» for k_is
      refine' My.txt_mk ?e1 ?e2 ?e3 ..
      (case e1 => PySem.W.k_is)                    -- in the order: a name -> its address -> its object -> its parts
      (case e2 => PySem.W.k_is)
      ..
    obtain ⟨t, T⟩ := T
    have e0 := hmg.symm.trans (PySem.W.mg_of KX G T.law)
    cases e0                                       -- fa is the law's own address
    exact ⟨_, fun s u => .of_eq rfl, fun base kb nb => My.law_fn T kb nb⟩     -- if «.of_eq rfl» comes too early: refine' ⟨_, ?b, fun base kb nb => My.law_fn T kb nb⟩; exact fun s u => .of_eq rfl
  case S => exact fun w H a ns hl hO hS => ..
  case C => exact ..
(the tactic k_is has no namespace: write k_is) -/
namespace L2
open PySem PySem.Spec PyProof.Rows
def defArgs (s : Stmt) : Arguments := match s with
  | .FunctionDef _ a _ _ _ _ _ _ _ _ => a
  | _ => { posonlyargs := [], args := [], vararg := none, kwonlyargs := [], kw_defaults := [], kwarg := none, defaults := [] }
def defBody (s : Stmt) : List Stmt := match s with
  | .FunctionDef _ _ b _ _ _ _ _ _ _ => b
  | _ => []
def defScope (s : Stmt) : Scope := match s with
  | .FunctionDef _ _ _ _ _ _ sc _ _ _ => sc
  | _ => { kind := .function, names := [], isGenerator := false, isCoroutine := false }
abbrev CX0 : CXT := fun _ _ _ _ _ _ => False
abbrev E0 : XK := fun _ _ _ => False
theorem pass0 {X : Cx} : Passes CX0 X E0 := fun _ _ _ _ _ _ _ h => h.elim
structure Fun (K : PySem.W.Frag) (x qual : Str) (st : Stmt) (f : Addr) (fd : FuncData) : Prop where
  ex : ∃ (oc : Value) (od : Option Addr) (kV doc pm : Value) (an : Option Addr) (cdv ct : Value) (osl : Array (Option Value)),
    fd = PySem.W.fnOf x qual (defArgs st) (defBody st) (defScope st) .none kV doc pm an cdv ct ∧ K.lookup f = some ⟨oc, od, .func fd, osl⟩ ∧ PySem.W.codeIn K cdv qual = true
  kp : PySem.W.keepIn K (.ref f) = true
section
variable {P : Program} {w : World} {K : PySem.W.Frag} {mg : Str → Option Value} {base : Heap}
theorem Fun.ok {x qual : Str} {st : Stmt} {f : Addr} {fd : FuncData} {N ps : List Str} {k : Nat} {sp : Sp} (F : Fun K x qual st f fd) (S : FnScope N ps (defScope st)) (len : ∀ vs H Q E, sp vs H Q E → vs.length = ps.length)
    (hbody : ∀ (cdv : Value) (A : Around) (outer : List Env) (s : Shared) (H : Hp) (vs : List V) (Q : VK) (E : XK), Room k (A.deeper (envOfC qual (defScope st) s.heap.objs.size f cdv)) → sp vs H Q E →
      ∃ t, PSs (cxOf CX0 P w K mg base N qual (defScope st) f cdv A outer s H E).nox (defBody st) t ∧ t { nx := fun _ H' => Q .non H', rt := Q } (start N vs) H) : FnOk P w K mg base CX0 (k + 1) f fd ps sp := by
  obtain ⟨oc, od, kV, doc, pm, an, cdv, ct, osl, rfl, lk, hcd⟩ := F.ex
  refine fn_of lk hcd S len fun A outer s H vs Q E hr hsp => ?_
  obtain ⟨t, h, q⟩ := hbody cdv A outer s H vs Q E hr hsp
  exact ⟨t, h.nox, q⟩
theorem Fun.binds {x qual : Str} {st : Stmt} {f : Addr} {fd : FuncData} {ps : List Str} (F : Fun K x qual st f fd)
    (h : ∀ (kV doc pm : Value) (an : Option Addr) (cdv ct : Value) (us : List Value), us.length = ps.length → bindArgs (PySem.W.fnOf x qual (defArgs st) (defBody st) (defScope st) .none kV doc pm an cdv ct) ⟨us, []⟩ = pure (ps.zip us)) : Binds K fd ps [] := by
  obtain ⟨oc, od, kV, doc, pm, an, cdv, ct, osl, rfl, lk, hcd⟩ := F.ex
  exact .all (h kV doc pm an cdv ct)
theorem fun_mk {x qual : Str} {st : Stmt} {f : Addr} {oc : Value} {od an : Option Addr} {osl : Array (Option Value)} {kV doc pm cdv ct : Value} (l : K.lookup f = some ⟨oc, od, .func (PySem.W.fnOf x qual (defArgs st) (defBody st) (defScope st) .none kV doc pm an cdv ct), osl⟩)
    (c : PySem.W.codeIn K cdv qual = true) (k : PySem.W.keepIn K (.ref f) = true) : Fun K x qual st f (PySem.W.fnOf x qual (defArgs st) (defBody st) (defScope st) .none kV doc pm an cdv ct) := ⟨⟨oc, od, kV, doc, pm, an, cdv, ct, osl, rfl, l, c⟩, k⟩
end
theorem hu_of {A : Around} {k : Nat} (hr : Room k A) : A.units + 1 < cLine := Nat.lt_of_le_of_lt (Nat.add_le_add_left (by decide : 1 ≤ 64) _) hr.units
theorem small1000 {n : Nat} (h : n ≤ 1000) : n < sizeLine := Nat.lt_of_le_of_lt h (by decide)
section
variable {X : Cx}
theorem pv (i : Nat) {x : Str} {pos : Pos} (hN : X.N[i]? = some x := by rfl) (hv : Vis X.env.scope x := by first | exact Or.inl rfl | exact Or.inr (Or.inl rfl) | exact Or.inr (Or.inr rfl)) (hd : (x == ("__debug__" : Str)) = false := by decide)
    (hcd : (x == ("__classdict__" : Str)) = false := by decide) : PE X (.Name x pos) (tVar i) := pe_var hN hv hd hcd
end
theorem iteF {A B : Prop} (h : B) : if false = true then A else B := by
  rw [if_neg Bool.false_ne_true]
  exact h
theorem iteT {A B : Prop} (h : A) : if true = true then A else B := by
  rw [if_pos rfl]
  exact h
def Same (H H' : Hp) : Prop := ∀ b o, H b = some o → H' b = some o
theorem Same.refl (H : Hp) : Same H H := fun _ _ h => h
theorem Same.trans {H H1 H2 : Hp} (a : Same H H1) (b : Same H1 H2) : Same H H2 := fun c o h => b c o (a c o h)
theorem Same.free {H H' : Hp} (e : Same H H') {l : Addr} (h : H' l = Option.none) : H l = Option.none := by
  cases q : H l with
  | none => rfl
  | some o =>
    rw [e l o q] at h
    cases h
theorem Same.seq {K : PySem.W.Frag} {H H' : Hp} {a : Addr} {xs : List V} (e : Same H H') (h : SqL K H a xs) : SqL K H' a xs := by
  rcases h with (h | ⟨o, h⟩) | h
  · exact .inl (.inl (e _ _ h))
  · exact .inl (.inr ⟨o, e _ _ h⟩)
  · exact .inr h
section
variable {κ : Type} [DecidableEq κ]
theorem nd_snoc : ∀ {l : List κ} {k : κ}, l.Nodup → ¬ k ∈ l → (l ++ [k]).Nodup
  | [], k, _, _ => by simp
  | a :: r, k, h, hk => by
    obtain ⟨h1, h2⟩ := List.nodup_cons.mp h
    show (a :: (r ++ [k])).Nodup
    refine List.nodup_cons.mpr ⟨fun m => ?_, nd_snoc h2 fun m => hk (List.mem_cons.mpr (Or.inr m))⟩
    rcases List.mem_append.mp m with q | q
    · exact h1 q
    · exact hk (List.mem_cons.mpr (Or.inl (List.mem_singleton.mp q).symm))
end
end L2
set_option Elab.async false
set_option linter.all false
set_option maxRecDepth 100000
namespace L2
open PySem PySem.Spec PyProof.Rows
structure BA where
  cl : List (Str × Addr)
  C : Addr
  s₀ : Shared
  H₀ : Hp
  ex : List Addr
abbrev blk (X : Cx) (sc : Scope) (N : List Str) (b : BA) : Cx :=
  { prog := X.prog, w := X.w, K := X.K, mg := X.mg, base := X.base, A := X.A, N := N, s₀ := b.s₀, H₀ := b.H₀, env := compEnvC sc b.cl b.C X.env, outer := X.stack, stack := X.stack, ex := b.ex, fn := fun _ => false, calm := X.calm, pn := [], xe := fun _ _ => False }
def closFrom (env : Env) : List (Str × Addr) → List (Str × NameKind) → List (Str × Addr)
  | acc, [] => acc
  | acc, (n, k) :: r => closFrom env (if k == .free then (match env.cells.lookup n with | some c => (n, c) :: acc | none => acc) else acc) r
theorem clos_run (env : Env) : ∀ (l : List (Str × NameKind)) (acc : List (Str × Addr)), (∀ y ∈ l, y.2 = .free → ∃ c, env.cells.lookup y.1 = some c) →
    (forIn l acc (fun (x : Str × NameKind) (cs : List (Str × Addr)) => (match x with
      | (name, kind) => if (kind == .free) = true then (do let a ← cellOf env name; pure (ForInStep.yield ((name, a) :: cs))) else pure (ForInStep.yield cs) : Sem (ForInStep (List (Str × Addr)))))) = (pure (closFrom env acc l) : Sem (List (Str × Addr)))
  | [], acc, _ => rfl
  | (n, k) :: r, acc, h => by
    have hr : ∀ y ∈ r, y.2 = .free → ∃ c, env.cells.lookup y.1 = some c := fun y hy => h y (List.mem_cons_of_mem _ hy)
    rw [List.forIn_cons]
    by_cases hk : k = .free
    · subst hk
      obtain ⟨c, hc⟩ := h (n, .free) List.mem_cons_self rfl
      have hc' : env.cells.lookup n = some c := hc
      simp only [beq_self_eq_true, if_true, closFrom, hc']
      have e : cellOf env n = pure c := by unfold cellOf; rw [hc']
      rw [e, pure_bind, pure_bind]
      exact clos_run env r _ hr
    · have hb : (k == NameKind.free) = false := by simpa using hk
      simp only [hb, Bool.false_eq_true, if_false, closFrom]
      rw [pure_bind]
      exact clos_run env r _ hr
theorem clos_eq {env : Env} {sc : Scope} (h : ∀ y ∈ sc.names, y.2 = .free → ∃ c, env.cells.lookup y.1 = some c) : closureFor sc env = pure (closFrom env [] sc.names) := by
  unfold closureFor
  exact (congrArg (fun m => m >>= fun cs => pure cs) (clos_run env sc.names [] h)).trans (pure_bind _ _)
theorem clos_sound {env : Env} : ∀ (l : List (Str × NameKind)) (acc : List (Str × Addr)), (∀ x c, acc.lookup x = some c → env.cells.lookup x = some c) →
    ∀ x c, (closFrom env acc l).lookup x = some c → env.cells.lookup x = some c
  | [], acc, h, x, c, e => h x c e
  | (n, k) :: r, acc, h, x, c, e => by
    refine clos_sound r _ (fun y d q => ?_) x c e
    by_cases hk : (k == NameKind.free) = true
    · rw [if_pos hk] at q
      cases hl : env.cells.lookup n with
      | none => rw [hl] at q; exact h y d q
      | some a =>
        rw [hl] at q
        simp only [List.lookup_cons] at q
        by_cases hy : (y == n) = true
        · rw [hy] at q
          have e1 : y = n := by simpa using hy
          subst e1
          cases q
          exact hl
        · rw [Bool.not_eq_true] at hy
          rw [hy] at q
          exact h y d q
    · rw [if_neg hk] at q
      exact h y d q
theorem clos_grow {env : Env} : ∀ (l : List (Str × NameKind)) (acc : List (Str × Addr)) (x : Str), (acc.lookup x).isSome = true → ((closFrom env acc l).lookup x).isSome = true
  | [], acc, x, h => h
  | (n, k) :: r, acc, x, h => by
    refine clos_grow r _ x ?_
    by_cases hk : (k == NameKind.free) = true
    · rw [if_pos hk]
      cases env.cells.lookup n with
      | none => exact h
      | some a =>
        show (List.lookup x ((n, a) :: acc)).isSome = true
        rw [List.lookup_cons]
        by_cases hy : (x == n) = true
        · rw [hy]; rfl
        · rw [Bool.not_eq_true] at hy
          rw [hy]; exact h
    · rw [if_neg hk]; exact h
theorem clos_some {env : Env} : ∀ (l : List (Str × NameKind)) (acc : List (Str × Addr)) (x : Str), (x, NameKind.free) ∈ l → (∃ c, env.cells.lookup x = some c) → ((closFrom env acc l).lookup x).isSome = true
  | [], _, _, h, _ => by cases h
  | (n, k) :: r, acc, x, h, ⟨c, hc⟩ => by
    rcases List.mem_cons.mp h with e | h
    · obtain ⟨rfl, rfl⟩ := Prod.mk.inj e
      refine clos_grow r _ x ?_
      rw [if_pos (beq_self_eq_true _), hc]
      show (List.lookup x ((x, c) :: acc)).isSome = true
      rw [List.lookup_cons, beq_self_eq_true]; rfl
    · exact clos_some r _ x h ⟨c, hc⟩
theorem relab_free {env : Env} : ∀ (l : List (Str × NameKind)) (x : Str) (k : NameKind), (∀ y ∈ l, y.2 ≠ .cell) → k = .cell ∨ k = .free →
    (l.map fun (n, k) => if (k == NameKind.free && env.scope.kind == .function && env.kindOf n == some .cell) then (n, NameKind.cell) else (n, k)).lookup x = some k → (x, NameKind.free) ∈ l
  | [], _, _, _, _, h => by simp at h
  | (n, k') :: r, x, k, hc, hk, h => by
    rw [List.map_cons] at h
    by_cases hx : (x == n) = true
    · have e1 : x = n := by simpa using hx
      subst e1
      by_cases hf : k' = .free
      · subst hf; exact List.mem_cons_self
      · exfalso
        have hb : (k' == NameKind.free) = false := by simpa using hf
        simp only [hb, Bool.false_and, Bool.false_eq_true, if_false, List.lookup_cons, beq_self_eq_true] at h
        have e2 : k' = k := Option.some.inj h
        rcases hk with z | z
        · exact hc (x, k') List.mem_cons_self (e2.trans z)
        · exact hf (e2.trans z)
    · rw [Bool.not_eq_true] at hx
      refine List.mem_cons_of_mem _ (relab_free (env := env) r x k (fun y hy => hc y (List.mem_cons_of_mem _ hy)) hk ?_)
      by_cases hq : (k' == NameKind.free && env.scope.kind == .function && env.kindOf n == some .cell) = true
      · simp only [hq, if_true, List.lookup_cons, hx] at h; exact h
      · rw [Bool.not_eq_true] at hq
        simp only [hq, Bool.false_eq_true, if_false, List.lookup_cons, hx] at h; exact h
theorem relab_of_free {env : Env} : ∀ (l : List (Str × NameKind)) (x : Str), l.lookup x = some .free →
    ∃ k, (k = NameKind.cell ∨ k = NameKind.free) ∧ (l.map fun (n, k) => if (k == NameKind.free && env.scope.kind == .function && env.kindOf n == some .cell) then (n, NameKind.cell) else (n, k)).lookup x = some k
  | [], _, h => by simp at h
  | (n, k') :: r, x, h => by
    rw [List.map_cons]
    by_cases hx : (x == n) = true
    · simp only [List.lookup_cons, hx] at h
      have e2 : k' = .free := Option.some.inj h
      subst e2
      by_cases hq : (NameKind.free == NameKind.free && env.scope.kind == .function && env.kindOf n == some .cell) = true
      · exact ⟨.cell, .inl rfl, by simp only [hq, if_true, List.lookup_cons, hx]⟩
      · rw [Bool.not_eq_true] at hq
        exact ⟨.free, .inr rfl, by simp only [hq, Bool.false_eq_true, if_false, List.lookup_cons, hx]⟩
    · rw [Bool.not_eq_true] at hx
      simp only [List.lookup_cons, hx] at h
      obtain ⟨k, hk, e⟩ := relab_of_free (env := env) r x h
      refine ⟨k, hk, ?_⟩
      by_cases hq : (k' == NameKind.free && env.scope.kind == .function && env.kindOf n == some .cell) = true
      · simp only [hq, if_true, List.lookup_cons, hx]; exact e
      · rw [Bool.not_eq_true] at hq
        simp only [hq, Bool.false_eq_true, if_false, List.lookup_cons, hx]; exact e
theorem mem_of_look {l : List (Str × NameKind)} {x : Str} {k : NameKind} : l.lookup x = some k → (x, k) ∈ l := by
  induction l with
  | nil => intro h; simp at h
  | cons p r ih =>
    intro h
    obtain ⟨n, k'⟩ := p
    by_cases hx : (x == n) = true
    · simp only [List.lookup_cons, hx] at h
      have e1 : x = n := by simpa using hx
      subst e1
      cases h
      exact List.mem_cons_self
    · rw [Bool.not_eq_true] at hx
      simp only [List.lookup_cons, hx] at h
      exact List.mem_cons_of_mem _ (ih h)
section
variable {prog : Program} {w : World} {A : Around} {E : Value → Shared → Prop} {R : Result → Shared → Prop} {s : Shared}
abbrev NoX : Value → Shared → Prop := fun _ _ => False
theorem comp_turns {elt target iter : Expr} {ifs : List Expr} {scope : Scope} {pos : Pos} {it acc : Value} {env : Env} (J : Nat → Shared → Prop)
    (turn : ∀ n s, J n s → wpAny (model prog w) A (pyNext it) (fun r s₁ => (r = none ∧ R (.ok .next) s₁) ∨ ∃ v, r = some v ∧
      wpAny (model prog w) A (letOwnedTupleGo target it v) (fun _ s₁' => wpAny (model prog w) A (assign target env v) (fun _ s₂ =>
        wpAny (model prog w) A (forIn ifs true fun c r => if r = true then do let ok ← isTrue c env (eval c env); pure (ForInStep.yield ok) else pure (ForInStep.yield r)) (fun ok s₃ =>
          (ok = true → wpAny (model prog w) A (eval elt env) (fun x s₄ => wpAny (model prog w) A (call (.builtin "list.append") [acc, x]) (fun _ s₅ => ∃ m, m < n ∧ J m s₅) NoX s₄) NoX s₃) ∧
          (ok = false → ∃ m, m < n ∧ J m s₃)) NoX s₂) NoX s₁') NoX s₁) NoX s)
    (n : Nat) (h : J n s) : codeAny (model prog w) A (.compLoop (.ListComp elt [⟨target, iter, ifs, 0⟩] scope pos) 0 it acc env) R s := by
  refine codeAny_loop (M := model prog w) (A := A) rfl J (fun n s hJ => ?_) n h
  refine wpAny_noted (m := compTurn (.ListComp elt [⟨target, iter, ifs, 0⟩] scope pos) 0 it acc env) ?_
  rw [compTurn_list]
  refine wpAny_bind (wpAny_standAt (wpAny_bind (wpAny_mono (turn n s hJ) (fun r s₁ q => ?_) fun _ _ z => z.elim)))
  rcases q with ⟨e, q⟩ | ⟨v, e, q⟩
  · subst e
    exact wpAny_pure q
  · subst e
    refine wpAny_bind (wpAny_mono q (fun _ s₂ q => ?_) fun _ _ z => z.elim)
    refine wpAny_bind (wpAny_mono q (fun _ s₃ q => ?_) fun _ _ z => z.elim)
    refine wpAny_bind (wpAny_mono q (fun ok s₄ q => ?_) fun _ _ z => z.elim)
    cases ok with
    | false => exact wpAny_pure ⟨rfl, q.2 rfl⟩
    | true =>
      refine wpAny_bind (wpAny_bind (wpAny_mono (q.1 rfl) (fun x s₅ q => ?_) fun _ _ z => z.elim))
      exact wpAny_bind (wpAny_mono q (fun _ s₆ q => wpAny_pure (wpAny_pure ⟨rfl, q⟩)) fun _ _ z => z.elim)
end
def PIf (X : Cx) (ifs : List Expr) (t : TT) : Prop :=
  ∀ (pins : List (Addr × Obj)) (s : Shared) (σ : St) (H : Hp) (Q : Bool → Hp → Prop), Inv X pins σ H s → t σ H Q →
    wpAny (model X.prog X.w) X.A (forIn ifs true fun c r => if r = true then do let ok ← isTrue c X.env (eval c X.env); pure (ForInStep.yield ok) else pure (ForInStep.yield r)) (TP X pins σ Q) X.xe s
def tYes : TT := fun _ H Q => Q true H
theorem pif_nil {X : Cx} : PIf X [] tYes := fun _ _ _ H _ I h => wpAny_tests_nil ⟨H, I, h⟩
theorem pif_one {X : Cx} {c : Expr} {t : TT} (h : PT X c t) : PIf X [c] t := fun pins s σ H Q I hw => wpAny_tests_one (h pins s σ H Q I hw)
def pick (σ : St) (js : List (Option Nat)) : St := js.map fun j => j.bind fun i => (σ[i]?).join
def Kept (σ σ' : St) : Prop := σ'.length = σ.length ∧ ∀ (i : Nat) v, σ[i]? = some (some v) → σ'[i]? = some (some v)
def CompB (J : It) (H1 : Hp) (js : List (Option Nat)) (g : TG) (tc : TT) (te : TE) (σ : St) (Q : VK) : Prop := ∀ acc, H1 acc = none →
  ∃ W : Nat → Nat → List V → Hp → Prop, (∃ m, W 0 m [] (upd H1 acc (.lst []))) ∧ ∀ i m ys H, W i m ys H →
    (J.stop i H ∧ Q (.ref acc) H) ∨ (J.go i H ∧ ∃ N : List V → Hp → Prop, (∀ ys' H', N ys' H' → ∃ m', m' < m ∧ W (i + 1) m' ys' H') ∧
      ∀ x H', J.yld i H x H' → g x (pick σ js) H' fun σ2 H2 => Kept (pick σ js) σ2 ∧ tc σ2 H2 fun b H3 =>
        (b = true → te σ2 H3 fun y H4 => H4 acc = some (.lst ys) ∧ ys.length < sizeLine ∧ N (ys ++ [y]) (upd H4 acc (.lst (ys ++ [y])))) ∧ (b = false → N ys H3))
def tComp (wi : TI) (js : List (Option Nat)) (g : TG) (tc : TT) (te : TE) : TE := fun σ H Q => wi σ H fun J H1 => CompB J H1 js g tc te σ Q
theorem Un.but {fs ex : List Addr} {H H1 : Hp} {h h1 h2 : Heap} (u : Un fs ex H H1 h h1) (k : ∀ b o, h.get? b = some o → ∀ o', h1.get? b = some o' → h2.get? b = some o') : Un fs ex H H1 h h2 where
  keep := fun b o e n h1 h2 => k b o e _ (u.keep b o e n h1 h2)
  slot := fun b o e n h1 h2 => let ⟨sl, q⟩ := u.slot b o e n h1 h2; ⟨sl, k b o e _ q⟩
  free := u.free
  there := fun b o e hx => let ⟨o', q⟩ := u.there b o e hx; ⟨o', k b o e _ q⟩
  tups := u.tups
  frzs := u.frzs
  tbls := u.tbls
theorem stays_but {P : Program} {w : World} {H : Hp} {h h' : Heap} {C : Addr} (ok : HOk P w H h) (hn : H C = none) (k : ∀ b o, b ≠ C → h.get? b = some o → h'.get? b = some o) : HOk P w H h' := fun b o e => by
  refine (ok b o e).stay (fun c u hc q => k c u ?_ q) (fun _ q => q) fun _ _ q => q
  rintro rfl
  rcases hc with z | z
  · rw [z] at hn; rw [hn] at e; cases e
  · rw [hn] at z; cases z
theorem pair_get {α β : Type} {F : α → β → Prop} : ∀ {l : List α} {r : List β} {i : Nat} {b : β}, Paired F l r → r[i]? = some b → ∃ a, l[i]? = some a ∧ F a b
  | _, _, _, _, .nil, e => by simp at e
  | _, _, 0, _, .cons h _, e => by simp at e; subst e; exact ⟨_, rfl, h⟩
  | _, _, i + 1, b, .cons _ t, e => by
    obtain ⟨a, h1, h2⟩ := pair_get (i := i) (b := b) t (by simpa using e)
    exact ⟨a, by simpa using h1, h2⟩
theorem blk_ok {X : Cx} {pins : List (Addr × Obj)} {σ : St} {H : Hp} {s : Shared} {sc : Scope} {N : List Str} {fp : List Addr} (I : Inv X pins σ H s) (hk : sc.kind = .function)
    (hcell : ∀ y ∈ sc.names, y.2 ≠ .cell) (hcl : ∀ y ∈ sc.names, y.2 = .free → ∃ c, X.env.cells.lookup y.1 = some c) (f : ∀ b ∈ fp, FpOk X pins H b) (fl : ∀ b ∈ fp, b < s.heap.objs.size) :
    (blk X sc N ⟨closFrom X.env [] sc.names, s.heap.objs.size, s, H, fp⟩).Ok where
  mod := I.ok.mod
  kind := hk
  glob := I.ok.glob
  blt := I.ok.blt
  above := Nat.le_refl _
  inj := fun x y c e1 e2 => I.ok.inj x y c (clos_sound _ [] (fun _ _ z => by simp at z) x c e1) (clos_sound _ [] (fun _ _ z => by simp at z) y c e2)
  has := fun x hx => by
    have m : (x, NameKind.free) ∈ sc.names := by
      rcases hx with z | z
      · exact relab_free (env := X.env) sc.names x _ hcell (.inl rfl) z
      · exact relab_free (env := X.env) sc.names x _ hcell (.inr rfl) z
    exact Option.isSome_iff_exists.mp (clos_some sc.names [] x m (hcl _ m rfl))
  cab := fun _ _ z => by cases z
  hd := I.ok.hd
  frames := I.ok.frames
  stk := .inl rfl
  exf := fun b hb => ⟨Nat.ne_of_lt (fl b hb), fun x c e => (f b hb).2.2.2.2.1 x c (clos_sound _ [] (fun _ _ z => by simp at z) x c e)⟩
  bs := I.bs
  bsz := Nat.le_trans I.ok.bsz I.sz
  noex := fun b o e hb => by
    rcases (f b hb).2.2.2.1 with z | z
    · exact I.ok.noex b o e z
    · exact absurd (Nat.lt_of_lt_of_le (Heap.lt_size (I.ok.bs b o e).1) z) (Nat.lt_irrefl _)
  exfs := fun b hb hs => by
    rcases List.mem_cons.mp (I.stkSub b hs) with z | z
    · exact (f b hb).2.1 z
    · exact (f b hb).2.2.1 z
  funs := I.stack
  frf := I.stkFree
theorem blk_inv {X : Cx} {pins : List (Addr × Obj)} {σ : St} {H : Hp} {s s4 : Shared} {sc : Scope} {N : List Str} {js : List (Option Nat)} {fp : List Addr} {m : Str → Option Value} (I : Inv X pins σ H s)
    (ok : (blk X sc N ⟨closFrom X.env [] sc.names, s.heap.objs.size, s, H, fp⟩).Ok) (hfree : ∀ y ∈ sc.names, y.2 = .free → X.env.kindOf y.1 = some .cell ∨ X.env.kindOf y.1 = some .free)
    (hN : Paired (fun (j : Option Nat) n => ∀ i, j = some i → X.N[i]? = some n ∧ sc.names.lookup n = some .free) js N)
    (ho : s4.os = s.os) (hg : s4.gens = s.gens) (ns : s4.heap.Ns s.heap.objs.size m) (kp : ∀ b u, s.heap.get? b = some u → s4.heap.get? b = some u) :
    Inv (blk X sc N ⟨closFrom X.env [] sc.names, s.heap.objs.size, s, H, fp⟩) [] (pick σ js) H s4 where
  ok := ok
  os := ho
  bare := by rw [hg]; exact I.bare
  base := Un.kept kp
  loc := by
    refine ⟨m, ns, fun i x v e1 e2 e3 => ?_⟩
    have e1' : N[i]? = some x := e1
    obtain ⟨j, ej, fj⟩ := pair_get hN e1'
    unfold pick at e2
    rw [List.getElem?_map, ej] at e2
    cases j with
    | none => cases e2
    | some k =>
      obtain ⟨a1, a2⟩ := fj k rfl
      have e2' : (σ[k]?).join = some v := Option.some.inj e2
      have e4 : σ[k]? = some (some v) := by
        cases z : σ[k]? with
        | none => rw [z] at e2'; cases e2'
        | some y => rw [z] at e2'; exact congrArg some e2'
      have mem := mem_of_look a2
      have kn := hfree _ mem rfl
      have vis : Vis X.env.scope x := .inr kn
      obtain ⟨m', hn', hl'⟩ := I.loc
      obtain ⟨u, ru, lk⟩ := hl' k x v a1 e4 vis
      refine ⟨u, ru, .inr ⟨?_, ?_⟩⟩
      · obtain ⟨k', hk', e⟩ := relab_of_free (env := X.env) sc.names x a2
        rcases hk' with z | z
        · subst z; exact .inl e
        · subst z; exact .inr e
      · rcases lk with ⟨z, _⟩ | ⟨_, c, hc, hcl⟩
        · rcases kn with q | q
          · have q' : X.env.kindOf x = some .cell := q
            rw [z] at q'; cases q'
          · have q' : X.env.kindOf x = some .free := q
            rw [z] at q'; cases q'
        · obtain ⟨c', e'⟩ := Option.isSome_iff_exists.mp (clos_some (env := X.env) sc.names [] x mem ⟨c, hc⟩)
          have e2 := clos_sound sc.names [] (fun _ _ z => by simp at z) x c' e'
          rw [hc] at e2
          cases e2
          obtain ⟨o, h1, h2⟩ := hcl
          exact ⟨c, e', o, kp c o h1, h2⟩
  cell := fun x c e => by
    obtain ⟨v, o, h1, h2⟩ := I.cell x c (clos_sound _ [] (fun _ _ z => by simp at z) x c e)
    exact ⟨v, o, kp c o h1, h2⟩
  free := I.hok.fresh (Nat.le_refl _)
  freeC := fun x c e => I.freeC x c (clos_sound _ [] (fun _ _ z => by simp at z) x c e)
  pin := fun p hp => by cases hp
  hok := I.hok.kept kp
  len := by
    unfold pick
    rw [List.length_map]
    exact Paired.length hN
set_option maxHeartbeats 4000000 in
theorem pe_lcomp {X : Cx} {elt iter tg : Expr} {ifs : List Expr} {sc : Scope} {pos : Pos} {wi : TI} {g : TG} {tc : TT} {te : TE} (N : List Str) (js : List (Option Nat))
    (hcalm : X.calm = true) (hi : PI X tg iter wi) (hg : ∀ b, PG (blk X sc N b) tg g) (hc : ∀ b, PIf (blk X sc N b) ifs tc) (he : ∀ b, PE (blk X sc N b) elt te)
    (hN : Paired (fun (j : Option Nat) n => ∀ i, j = some i → X.N[i]? = some n ∧ sc.names.lookup n = some .free) js N)
    (hk : sc.kind = .function := by rfl)
    (hcell : (sc.names.all fun y => y.2 != .cell) = true := by rfl)
    (hfree : (sc.names.all fun y => y.2 != .free || (X.env.scope.names.lookup y.1 == some .cell || X.env.scope.names.lookup y.1 == some .free)) = true := by rfl)
    (hnames : (sc.names.all fun y => y.2 != .local || sc.names.lookup y.1 == some .local) = true := by rfl)
    (hs : ∀ x, foldedSetIterable iter X.env x = pure x := by intro _; rfl) : PE X (.ListComp elt [⟨tg, iter, ifs, 0⟩] sc pos) (tComp wi js g tc te) := by
  intro pins s σ H Q I h
  have hcell' : ∀ y ∈ sc.names, y.2 ≠ .cell := fun y hy => by simpa using List.all_eq_true.mp hcell y hy
  have hfree' : ∀ y ∈ sc.names, y.2 = .free → X.env.kindOf y.1 = some .cell ∨ X.env.kindOf y.1 = some .free := fun y hy e => by
    have q := List.all_eq_true.mp hfree y hy
    rw [e] at q
    have q' : X.env.scope.names.lookup y.1 = some .cell ∨ X.env.scope.names.lookup y.1 = some .free := by simpa using q
    exact q'
  have hnames' : ∀ y ∈ sc.names, y.2 = .local → sc.names.lookup y.1 = some .local := fun y hy e => by
    have q := List.all_eq_true.mp hnames y hy
    rw [e] at q
    simpa using q
  have hcl : ∀ y ∈ sc.names, y.2 = .free → ∃ c, X.env.cells.lookup y.1 = some c := fun y hy e => I.ok.has y.1 (hfree' y hy e)
  rw [eval_ListComp]
  refine wpAny_comprehension_free (use := none) (g := ⟨tg, iter, ifs, 0⟩) (gs := []) rfl hs (clos_eq hcl) hk hnames' ?_
  refine thn (hi pins s σ H _ I h) fun v s1 h1 => thn h1 fun itv s2 h2 => ?_
  obtain ⟨it, fp, tn, J, H2, e, I2, T, st2, f2, q⟩ := h2
  subst e
  obtain ⟨W, ⟨m0, w0⟩, step⟩ := q _ I2.fresh
  refine wpAny_newObj_type (wpAny_newFunctionEnv hcell' (by intro y hy; simp at hy) (fun h₁ hns hsb => ?_) hk)
  dsimp only at hns hsb ⊢
  have I3 : Inv X pins σ (upd H2 s2.heap.objs.size (.lst [])) { s2 with heap := s2.heap.push { cls := .type "list", data := .seq ([] : List Value).toArray }, toks := s2.toks } := I2.lnew .nil (Nat.zero_le _)
  generalize hs3 : ({ s2 with heap := s2.heap.push { cls := .type "list", data := .seq ([] : List Value).toArray }, toks := s2.toks } : Shared) = s3 at I3
  generalize hH3 : upd H2 s2.heap.objs.size (.lst []) = H3 at I3 w0
  have es3 : s3.heap = s2.heap.push { cls := .type "list", data := .seq ([] : List Value).toArray } := by rw [← hs3]
  have hC : (s2.heap.push { cls := .type "list", data := .seq ([] : List Value).toArray }).objs.size = s3.heap.objs.size := by rw [es3]
  have f3 : ∀ b ∈ fp, FpOk X pins H3 b := fun b hb => ⟨by rw [← hH3, upd_ne (Nat.ne_of_lt (by obtain ⟨o, e, _⟩ := T.obj _ _ st2 b hb; exact Heap.lt_size e))]; exact (f2 b hb).1, (f2 b hb).2⟩
  have fl3 : ∀ b ∈ fp, b < s3.heap.objs.size := fun b hb => by
    obtain ⟨o, e, _⟩ := T.obj _ _ st2 b hb
    rw [es3, Heap.size_push]
    exact Nat.lt_succ_of_lt (Heap.lt_size e)
  have ok := blk_ok (N := N) (sc := sc) (fp := fp) I3 hk hcell' hcl f3 fl3
  have k23 : ∀ b u, s2.heap.get? b = some u → s3.heap.get? b = some u := fun b u e => by rw [es3]; exact Heap.get?_push_of_some _ e
  have k34 : ∀ b u, s3.heap.get? b = some u → h₁.get? b = some u := fun b u e => by
    rw [hC] at hsb
    refine (hsb.2 b (Nat.ne_of_lt (Heap.lt_size e))).trans (Heap.get?_push_of_some _ ?_)
    rw [← es3]; exact e
  have I4 := blk_inv (s4 := { s2 with heap := h₁, toks := s2.toks + ([] : List (Str × Value)).length }) (js := js) I3 ok hfree' hN (by rw [← hs3]) (by rw [← hs3]) (by rw [← hC]; exact hns) k34
  have st4 : tn 0 h₁ := T.keep _ _ _ st2 fun b _ o e => k34 b o (k23 b o e)
  generalize hs4 : ({ s2 with heap := h₁, toks := s2.toks + ([] : List (Str × Value)).length } : Shared) = s4 at I4
  have eh4 : s4.heap = h₁ := by rw [← hs4]
  rw [hC]
  generalize hB : (⟨closFrom X.env [] sc.names, s3.heap.objs.size, s3, H3, fp⟩ : BA) = B at ok I4
  have eC : B.C = s3.heap.objs.size := by rw [← hB]
  have stat : ∀ {H' : Hp}, (∀ b ∈ fp, H' b = none) → ∀ b ∈ fp, FpOk (blk X sc N B) [] H' b := fun hn b hb => by
    refine ⟨hn b hb, ?_, fun z => ?_, .inl (by rw [← hB]; exact hb), fun x c e => (ok.exf b (by rw [← hB]; exact hb)).2 x c e, fun p hp => by cases hp⟩
    · exact (ok.exf b (by rw [← hB]; exact hb)).1
    · exact ok.exfs b (by rw [← hB]; exact hb) z
  have fin : ∀ {s' : Shared} {H' : Hp} {σ' : St}, Inv (blk X sc N B) [] σ' H' s' → Q (.ref s2.heap.objs.size) H' →
      compPost (model X.prog X.w) X.A X.xe none (EP X pins σ Q) (.ref s2.heap.objs.size) s3.heap.objs.size (.ok .next) s' := fun {s' H' σ'} I' q' => by
    obtain ⟨m, hm, _⟩ := id I'.loc
    have hm' : s'.heap.Ns s3.heap.objs.size m := by rw [← eC]; exact hm
    refine ⟨m, hm', fun h' hsb' => ⟨.ref s2.heap.objs.size, H', ?_, rfl, q'⟩⟩
    have u1 : Un (frs X.stack) fp H2 H3 s2.heap s3.heap := by rw [← hH3]; exact Un.laid k23 (Nat.le_refl _) I2.fresh
    have u2 : Un (frs X.stack) fp H3 H' s3.heap s'.heap := by
      have z := I'.base
      rw [← hB] at z
      exact z
    have u3 : Un (frs X.stack) fp H2 H' s2.heap h' := (u1.trans u2).but fun b o e o' e' => (hsb'.2 b (by
      have z := Heap.lt_size e
      intro w
      rw [w, es3, Heap.size_push] at z
      exact Nat.lt_irrefl _ (Nat.lt_of_succ_lt z))).trans e'
    have fr' : H' s3.heap.objs.size = none := by rw [← eC]; exact I'.free
    have hok' : HOk X.prog X.w H' h' := stays_but I'.hok fr' fun b o hb e => (hsb'.2 b hb).trans e
    have os' : s'.os = s2.os := by
      have z := I'.os
      rw [← hB] at z
      rw [z, ← hs3]
    exact I2.call' (s' := { s' with heap := h' }) (ch := fp) os' u3 hok' I'.bare fun b hb => ⟨(f2 b hb).2.2.2.1, (f2 b hb).2.1, (f2 b hb).2.2.2.2.1, (f2 b hb).2.2.2.2.2⟩
  have loop : codeAny (model X.prog X.w) X.A (.compLoop (.ListComp elt [⟨tg, iter, ifs, 0⟩] sc pos) 0 (.ref it) (.ref s2.heap.objs.size) (blk X sc N B).env)
      (compPost (model X.prog X.w) X.A X.xe none (EP X pins σ Q) (.ref s2.heap.objs.size) s3.heap.objs.size) s4 := by
    refine comp_turns (fun n s' => ∃ i ys σ' H', Inv (blk X sc N B) [] σ' H' s' ∧ Kept (pick σ js) σ' ∧ tn i s'.heap ∧ (∀ b ∈ fp, H' b = none) ∧ W i n ys H') ?_ m0
      ⟨0, [], pick σ js, H3, I4, ⟨rfl, fun _ _ z => z⟩, by rw [eh4]; exact st4, fun b hb => (f3 b hb).1, w0⟩
    rintro n s5 ⟨i, ys, σ5, H5, I5', kp5, st5, fr5, w5⟩
    have I5 : Inv (blk X sc N B) [] (pick σ js) H5 s5 := I5'.weak kp5.1.symm kp5.2
    rcases step i n ys H5 w5 with ⟨stop, qn⟩ | ⟨go, N', hN', turn⟩
    · refine thn (T.done (blk X sc N B) rfl rfl rfl hcalm i [] s5 _ H5 NoX I5 (stat fr5) st5 stop) fun r s6 ⟨hr, I6⟩ => .inl ⟨hr, fin I6 qn⟩
    · refine thn (T.item (blk X sc N B) rfl rfl rfl hcalm i [] s5 _ H5 NoX I5 (stat fr5) st5 go) fun r s6 ⟨u, hr, h6⟩ => .inr ⟨u, hr, ?_⟩
      refine thn h6 fun _ s7 ⟨x, H7, I7, r7, y7, st7, fr7⟩ => ?_
      have I7' := I7.pinned (stat fr7) (T.obj _ _ st7)
      have back : ∀ {σ8 : St} {H8 : Hp} {s8 : Shared}, Inv (blk X sc N B) ([] ++ pinsAt fp s7.heap) σ8 H8 s8 → tn (i + 1) s8.heap ∧ ∀ b ∈ fp, H8 b = none := fun {σ8 H8 s8} I8 => by
        refine ⟨T.keep _ _ _ st7 fun b hb o e => (I8.pin (b, o) (List.mem_append_right _ (List.mem_append_right _ (mem_pinsAt hb e)))).1, fun b hb => ?_⟩
        obtain ⟨o, e, d⟩ := T.obj _ _ st7 b hb
        exact (I8.pin (b, o) (List.mem_append_right _ (List.mem_append_right _ (mem_pinsAt hb e)))).2.1
      refine thn (hg B _ s7 _ H7 x u _ I7' r7 (turn x H7 y7)) fun _ s8 ⟨σ8, H8, I8, kp8, q8⟩ => ?_
      refine thn (hc B _ s8 σ8 H8 _ I8 q8) fun ok s9 ⟨H9, I9, q9⟩ => ⟨fun e => ?_, fun e => ?_⟩
      · refine thn (he B _ s9 σ8 H9 _ I9 (q9.1 e)) fun yv s10 ⟨y, H10, I10, r10, q10⟩ => ?_
        obtain ⟨e10, l10, n10⟩ := q10
        refine thn (mt_append _ s10 σ8 H10 (.ref s2.heap.objs.size) [y] _ _ (fun _ H' => N' (ys ++ [y]) H') I10 rfl (.cons r10 .nil) ⟨_, ys, y, rfl, rfl, e10, l10, n10⟩) fun _ s11 ⟨_, H11, I11, _, q11⟩ => ?_
        obtain ⟨m', hm, w11⟩ := hN' _ _ q11
        obtain ⟨st11, fr11⟩ := back I11
        exact ⟨m', hm, i + 1, ys ++ [y], σ8, H11, I11.unpinned, kp8, st11, fr11, w11⟩
      · obtain ⟨m', hm, w11⟩ := hN' _ _ (q9.2 e)
        obtain ⟨st11, fr11⟩ := back I9
        exact ⟨m', hm, i + 1, ys, σ8, H9, I9.unpinned, kp8, st11, fr11, w11⟩
  have env_eq : (blk X sc N B).env = compEnvC sc (closFrom X.env [] sc.names) s3.heap.objs.size X.env := by rw [← hB]
  rw [env_eq] at loop
  have st4' : tn 0 s4.heap := by rw [eh4]; exact st4
  exact codeAny_compStart_list loop (T.self X.A 0 _ _ _ st4' loop)
end L2
set_option Elab.async false
set_option linter.all false
set_option maxRecDepth 100000
namespace L2
open PySem PySem.Spec PyProof.Rows
set_option maxHeartbeats 4000000 in
theorem ps_setC {X : Cx} {i₀ : Nat} {y₀ : Str} {py spos : Pos} {elt iter tg : Expr} {ifs : List Expr} {sc : Scope} {pos : Pos} {wi : TI} {g : TG} {tc : TT} {te : TE} (hN₀ : X.N.Nodup) (hi₀ : X.N[i₀]? = some y₀) (hx₀ : Loc X.env.scope y₀) (N : List Str) (js : List (Option Nat))
    (hcalm : X.calm = true) (hi : PI X tg iter wi) (hg : ∀ b, PG (blk X sc N b) tg g) (hc : ∀ b, PIf (blk X sc N b) ifs tc) (he : ∀ b, PE (blk X sc N b) elt te)
    (hN : Paired (fun (j : Option Nat) n => ∀ i, j = some i → X.N[i]? = some n ∧ sc.names.lookup n = some .free) js N)
    (hk : sc.kind = .function := by rfl)
    (hcell : (sc.names.all fun y => y.2 != .cell) = true := by rfl)
    (hfree : (sc.names.all fun y => y.2 != .free || (X.env.scope.names.lookup y.1 == some .cell || X.env.scope.names.lookup y.1 == some .free)) = true := by rfl)
    (hnames : (sc.names.all fun y => y.2 != .local || sc.names.lookup y.1 == some .local) = true := by rfl)
    (hs : ∀ x, foldedSetIterable iter X.env x = pure x := by intro _; rfl) (hsw : swapsWith (.ListComp elt [⟨tg, iter, ifs, 0⟩] sc pos) (some (.Name y₀ py)) spos.line X.env = pure true := by rfl)
    (hf₀ : X.fn y₀ = true ∨ X.env.scope.names.lookup y₀ = some .local := by first | exact .inl rfl | exact .inr rfl | assumption) : PS X (.Assign [.Name y₀ py] (.ListComp elt [⟨tg, iter, ifs, 0⟩] sc pos) spos) (tAsg (tComp wi js g tc te) (gName i₀)) := by
  intro pins s σ H D I h
  have hcell' : ∀ y ∈ sc.names, y.2 ≠ .cell := fun y hy => by simpa using List.all_eq_true.mp hcell y hy
  have hfree' : ∀ y ∈ sc.names, y.2 = .free → X.env.kindOf y.1 = some .cell ∨ X.env.kindOf y.1 = some .free := fun y hy e => by
    have q := List.all_eq_true.mp hfree y hy
    rw [e] at q
    have q' : X.env.scope.names.lookup y.1 = some .cell ∨ X.env.scope.names.lookup y.1 = some .free := by simpa using q
    exact q'
  have hnames' : ∀ y ∈ sc.names, y.2 = .local → sc.names.lookup y.1 = some .local := fun y hy e => by
    have q := List.all_eq_true.mp hnames y hy
    rw [e] at q
    simpa using q
  have hcl : ∀ y ∈ sc.names, y.2 = .free → ∃ c, X.env.cells.lookup y.1 = some c := fun y hy e => I.ok.has y.1 (hfree' y hy e)
  rw [exec_Assign_Name_used _ _ _ _ hsw]
  refine wpAny_bind (wpAny_standAt (wpAny_bind ?_))
  show wpAny _ X.A (do let _ ← comprehension (.ListComp elt [⟨tg, iter, ifs, 0⟩] sc pos) sc X.env _ (newList []) false (eval iter X.env) (some (assign (.Name y₀ py) X.env))) _ _ s
  refine wpAny_bind (wpAny_mono (wpAny_comprehension_free (use := some (assign (.Name y₀ py) X.env)) (Q := fun _ s' => SP X pins D .next s') (g := ⟨tg, iter, ifs, 0⟩) (gs := []) rfl hs (clos_eq hcl) hk hnames' ?_) (fun _ s' hq => wpAny_pure (wpAny_pure hq)) fun _ _ e => e)
  refine thn (hi pins s σ H _ I h) fun v s1 h1 => thn h1 fun itv s2 h2 => ?_
  obtain ⟨it, fp, tn, J, H2, e, I2, T, st2, f2, q⟩ := h2
  subst e
  obtain ⟨W, ⟨m0, w0⟩, step⟩ := q _ I2.fresh
  refine wpAny_newObj_type (wpAny_newFunctionEnv hcell' (by intro y hy; simp at hy) (fun h₁ hns hsb => ?_) hk)
  dsimp only at hns hsb ⊢
  have I3 : Inv X pins σ (upd H2 s2.heap.objs.size (.lst [])) { s2 with heap := s2.heap.push { cls := .type "list", data := .seq ([] : List Value).toArray }, toks := s2.toks } := I2.lnew .nil (Nat.zero_le _)
  generalize hs3 : ({ s2 with heap := s2.heap.push { cls := .type "list", data := .seq ([] : List Value).toArray }, toks := s2.toks } : Shared) = s3 at I3
  generalize hH3 : upd H2 s2.heap.objs.size (.lst []) = H3 at I3 w0
  have es3 : s3.heap = s2.heap.push { cls := .type "list", data := .seq ([] : List Value).toArray } := by rw [← hs3]
  have hC : (s2.heap.push { cls := .type "list", data := .seq ([] : List Value).toArray }).objs.size = s3.heap.objs.size := by rw [es3]
  have f3 : ∀ b ∈ fp, FpOk X pins H3 b := fun b hb => ⟨by rw [← hH3, upd_ne (Nat.ne_of_lt (by obtain ⟨o, e, _⟩ := T.obj _ _ st2 b hb; exact Heap.lt_size e))]; exact (f2 b hb).1, (f2 b hb).2⟩
  have fl3 : ∀ b ∈ fp, b < s3.heap.objs.size := fun b hb => by
    obtain ⟨o, e, _⟩ := T.obj _ _ st2 b hb
    rw [es3, Heap.size_push]
    exact Nat.lt_succ_of_lt (Heap.lt_size e)
  have ok := blk_ok (N := N) (sc := sc) (fp := fp) I3 hk hcell' hcl f3 fl3
  have k23 : ∀ b u, s2.heap.get? b = some u → s3.heap.get? b = some u := fun b u e => by rw [es3]; exact Heap.get?_push_of_some _ e
  have k34 : ∀ b u, s3.heap.get? b = some u → h₁.get? b = some u := fun b u e => by
    rw [hC] at hsb
    refine (hsb.2 b (Nat.ne_of_lt (Heap.lt_size e))).trans (Heap.get?_push_of_some _ ?_)
    rw [← es3]; exact e
  have I4 := blk_inv (s4 := { s2 with heap := h₁, toks := s2.toks + ([] : List (Str × Value)).length }) (js := js) I3 ok hfree' hN (by rw [← hs3]) (by rw [← hs3]) (by rw [← hC]; exact hns) k34
  have st4 : tn 0 h₁ := T.keep _ _ _ st2 fun b _ o e => k34 b o (k23 b o e)
  generalize hs4 : ({ s2 with heap := h₁, toks := s2.toks + ([] : List (Str × Value)).length } : Shared) = s4 at I4
  have eh4 : s4.heap = h₁ := by rw [← hs4]
  rw [hC]
  generalize hB : (⟨closFrom X.env [] sc.names, s3.heap.objs.size, s3, H3, fp⟩ : BA) = B at ok I4
  have eC : B.C = s3.heap.objs.size := by rw [← hB]
  have stat : ∀ {H' : Hp}, (∀ b ∈ fp, H' b = none) → ∀ b ∈ fp, FpOk (blk X sc N B) [] H' b := fun hn b hb => by
    refine ⟨hn b hb, ?_, fun z => ?_, .inl (by rw [← hB]; exact hb), fun x c e => (ok.exf b (by rw [← hB]; exact hb)).2 x c e, fun p hp => by cases hp⟩
    · exact (ok.exf b (by rw [← hB]; exact hb)).1
    · exact ok.exfs b (by rw [← hB]; exact hb) z
  have fin : ∀ {s' : Shared} {H' : Hp} {σ' : St}, Inv (blk X sc N B) [] σ' H' s' → D.nx (σ.set i₀ (some (.ref s2.heap.objs.size))) H' →
      compPost (model X.prog X.w) X.A X.xe (some (assign (.Name y₀ py) X.env)) (fun _ s' => SP X pins D .next s') (.ref s2.heap.objs.size) s3.heap.objs.size (.ok .next) s' := fun {s' H' σ'} I' q' => by
    obtain ⟨m, hm, _⟩ := id I'.loc
    have hm' : s'.heap.Ns s3.heap.objs.size m := by rw [← eC]; exact hm
    have u1 : Un (frs X.stack) fp H2 H3 s2.heap s3.heap := by rw [← hH3]; exact Un.laid k23 (Nat.le_refl _) I2.fresh
    have u2 : Un (frs X.stack) fp H3 H' s3.heap s'.heap := by
      have z := I'.base
      rw [← hB] at z
      exact z
    have fr' : H' s3.heap.objs.size = none := by rw [← eC]; exact I'.free
    have os' : s'.os = s2.os := by
      have z := I'.os
      rw [← hB] at z
      rw [z, ← hs3]
    have Io : Inv X pins σ H' s' := I2.call' (s' := s') (ch := fp) os' (u1.trans u2) I'.hok I'.bare fun b hb => ⟨(f2 b hb).2.2.2.1, (f2 b hb).2.1, (f2 b hb).2.2.2.2.1, (f2 b hb).2.2.2.2.2⟩
    have ltC : s2.heap.objs.size < s3.heap.objs.size := by rw [es3, Heap.size_push]; exact Nat.lt_succ_self _
    have cC : ∀ x c, X.env.cells.lookup x = some c → c ≠ s3.heap.objs.size := fun x c e z => by
      obtain ⟨v, q⟩ := I2.cell x c e
      exact absurd q.lt (by rw [z]; exact Nat.not_lt.mpr (Nat.le_of_lt ltC))
    have lC : X.env.locals ≠ s3.heap.objs.size := Nat.ne_of_lt (Nat.lt_trans I2.lt ltC)
    show wpAny (model X.prog X.w) X.A (assign (.Name y₀ py) X.env (.ref s2.heap.objs.size)) _ X.xe s'
    refine wpAny_assign_Name (store_ok2 Io hN₀ hi₀ hx₀ (v := .ref s2.heap.objs.size) rfl (fun s'' I'' ⟨a, sb, ha⟩ => ?_) hf₀)
    have haC : s3.heap.objs.size ≠ a := by
      rcases ha with z | z
      · rw [z]; exact lC.symm
      · exact (cC _ _ z).symm
    refine ⟨m, hm'.sameBut sb haC, fun h' sb' => ⟨_, H', I''.turned (t' := s''.toks) (it := s3.heap.objs.size) (fun b o hb e => (sb'.2 b hb).trans e) fr' lC.symm (.inr (Nat.le_trans I2.sz (Nat.le_of_lt ltC))) cC fun p hp z => ?_, q'⟩⟩
    exact absurd (Heap.lt_size (I2.pin p hp).1) (by rw [z]; exact Nat.not_lt.mpr (Nat.le_of_lt ltC))
  have loop : codeAny (model X.prog X.w) X.A (.compLoop (.ListComp elt [⟨tg, iter, ifs, 0⟩] sc pos) 0 (.ref it) (.ref s2.heap.objs.size) (blk X sc N B).env)
      (compPost (model X.prog X.w) X.A X.xe (some (assign (.Name y₀ py) X.env)) (fun _ s' => SP X pins D .next s') (.ref s2.heap.objs.size) s3.heap.objs.size) s4 := by
    refine comp_turns (fun n s' => ∃ i ys σ' H', Inv (blk X sc N B) [] σ' H' s' ∧ Kept (pick σ js) σ' ∧ tn i s'.heap ∧ (∀ b ∈ fp, H' b = none) ∧ W i n ys H') ?_ m0
      ⟨0, [], pick σ js, H3, I4, ⟨rfl, fun _ _ z => z⟩, by rw [eh4]; exact st4, fun b hb => (f3 b hb).1, w0⟩
    rintro n s5 ⟨i, ys, σ5, H5, I5', kp5, st5, fr5, w5⟩
    have I5 : Inv (blk X sc N B) [] (pick σ js) H5 s5 := I5'.weak kp5.1.symm kp5.2
    rcases step i n ys H5 w5 with ⟨stop, qn⟩ | ⟨go, N', hN', turn⟩
    · refine thn (T.done (blk X sc N B) rfl rfl rfl hcalm i [] s5 _ H5 NoX I5 (stat fr5) st5 stop) fun r s6 ⟨hr, I6⟩ => .inl ⟨hr, fin I6 qn⟩
    · refine thn (T.item (blk X sc N B) rfl rfl rfl hcalm i [] s5 _ H5 NoX I5 (stat fr5) st5 go) fun r s6 ⟨u, hr, h6⟩ => .inr ⟨u, hr, ?_⟩
      refine thn h6 fun _ s7 ⟨x, H7, I7, r7, y7, st7, fr7⟩ => ?_
      have I7' := I7.pinned (stat fr7) (T.obj _ _ st7)
      have back : ∀ {σ8 : St} {H8 : Hp} {s8 : Shared}, Inv (blk X sc N B) ([] ++ pinsAt fp s7.heap) σ8 H8 s8 → tn (i + 1) s8.heap ∧ ∀ b ∈ fp, H8 b = none := fun {σ8 H8 s8} I8 => by
        refine ⟨T.keep _ _ _ st7 fun b hb o e => (I8.pin (b, o) (List.mem_append_right _ (List.mem_append_right _ (mem_pinsAt hb e)))).1, fun b hb => ?_⟩
        obtain ⟨o, e, d⟩ := T.obj _ _ st7 b hb
        exact (I8.pin (b, o) (List.mem_append_right _ (List.mem_append_right _ (mem_pinsAt hb e)))).2.1
      refine thn (hg B _ s7 _ H7 x u _ I7' r7 (turn x H7 y7)) fun _ s8 ⟨σ8, H8, I8, kp8, q8⟩ => ?_
      refine thn (hc B _ s8 σ8 H8 _ I8 q8) fun ok s9 ⟨H9, I9, q9⟩ => ⟨fun e => ?_, fun e => ?_⟩
      · refine thn (he B _ s9 σ8 H9 _ I9 (q9.1 e)) fun yv s10 ⟨y, H10, I10, r10, q10⟩ => ?_
        obtain ⟨e10, l10, n10⟩ := q10
        refine thn (mt_append _ s10 σ8 H10 (.ref s2.heap.objs.size) [y] _ _ (fun _ H' => N' (ys ++ [y]) H') I10 rfl (.cons r10 .nil) ⟨_, ys, y, rfl, rfl, e10, l10, n10⟩) fun _ s11 ⟨_, H11, I11, _, q11⟩ => ?_
        obtain ⟨m', hm, w11⟩ := hN' _ _ q11
        obtain ⟨st11, fr11⟩ := back I11
        exact ⟨m', hm, i + 1, ys ++ [y], σ8, H11, I11.unpinned, kp8, st11, fr11, w11⟩
      · obtain ⟨m', hm, w11⟩ := hN' _ _ (q9.2 e)
        obtain ⟨st11, fr11⟩ := back I9
        exact ⟨m', hm, i + 1, ys, σ8, H9, I9.unpinned, kp8, st11, fr11, w11⟩
  have env_eq : (blk X sc N B).env = compEnvC sc (closFrom X.env [] sc.names) s3.heap.objs.size X.env := by rw [← hB]
  rw [env_eq] at loop
  have st4' : tn 0 s4.heap := by rw [eh4]; exact st4
  exact codeAny_compStart_list loop (T.self X.A 0 _ _ _ st4' loop)
end L2
set_option Elab.async false
set_option linter.all false
set_option maxRecDepth 100000
namespace L2
open PySem PySem.Spec PyProof.Rows
section
variable {X : Cx} {p : Pos}
theorem ty_int (h : X.mg "int" = none) (hg : Gl X "int" := by rfl) : PE X (.Name "int" p) (tC (.ty "int")) := pe_bltn hg h PyProof.Rows.boot_int rfl
theorem ty_bool (h : X.mg "bool" = none) (hg : Gl X "bool" := by rfl) : PE X (.Name "bool" p) (tC (.ty "bool")) := pe_bltn hg h PyProof.Rows.boot_bool rfl
theorem ty_list (h : X.mg "list" = none) (hg : Gl X "list" := by rfl) : PE X (.Name "list" p) (tC (.ty "list")) := pe_bltn hg h PyProof.Rows.boot_list rfl
theorem ty_tuple (h : X.mg "tuple" = none) (hg : Gl X "tuple" := by rfl) : PE X (.Name "tuple" p) (tC (.ty "tuple")) := pe_bltn hg h PyProof.Rows.boot_tuple rfl
theorem call_isi : CallR X (.builtin "isinstance") (fun xs H Q => ∃ x Y t b, xs = [x, .ty Y] ∧ TyOf X.K H x t ∧ PySem.W.kitOne X.K t (.type Y) = some b ∧ Q (.bl b) H) := by
  intro pins s σ H xs us Q I r h
  obtain ⟨x, Y, t, b, e, ty, ko, q⟩ := h
  subst e
  obtain ⟨u, w', e, rx, ry⟩ := vals2 r
  subst e
  cases ry
  exact isinst_ok I rx ty ko fun tk => ⟨.bl b, H, I.tok _, rfl, q⟩
end
structure Def (K : PySem.W.Frag) (mg : Str → Option Value) (x : Str) (st : Stmt) (ps : List Str) (f : Addr) (fd : FuncData) : Prop where
  fn : Fun K x x st f fd
  bd : Binds K fd ps []
  at' : mg x = some (.ref f)
section
variable {X : Cx} {k : Nat} {x : Str} {st : Stmt} {ps : List Str} {f : Addr} {fd : FuncData} {sp : Sp} {e : Expr} {es : List Expr} {t : TA} {p pos : Pos}
theorem pc (D : Def X.K X.mg x st ps f fd) (F : FnOk X.prog X.w X.K X.mg X.base CX0 k f fd ps sp) (hr : Room k X.A) (ha : PA X (e :: es) t) (hg : Gl X x := by rfl) (hdb : (x == ("__debug__" : Str)) = false := by decide)
    (he : starEach (e :: es) X.env = (false, eval e X.env) :: starEach es X.env := by rfl) (hpl : (backTo pos (starEach es X.env)).any (·.1) = false := by rfl) : PE X (.Call (.Name x p) (e :: es) [] pos) (tCall sp [] E0 t) :=
  pe_call F hr hg D.at' D.fn.kp D.bd .nil pass0 ha hdb he hpl
end
theorem Same.new {H : Hp} {a : Addr} {o : HO} (h : H a = none) : Same H (upd H a o) := fun b u e => by rw [upd_ne (ne_of_none e h)]; exact e
theorem Same.put {H H' : Hp} {a : Addr} {o : HO} (s : Same H H') (h : H a = none) : Same H (upd H' a o) := fun b u e => by rw [upd_ne (ne_of_none e h)]; exact s b u e
theorem Same.to {H H' : Hp} {a : Addr} {o : HO} (s : Same H H') (h : H' a = none) : Same H (upd H' a o) := s.trans (Same.new h)
end L2
set_option Elab.async false
set_option linter.all false
set_option maxRecDepth 100000
namespace L2
open PySem PySem.Spec PyProof.Rows
inductive DEq (K : PySem.W.Frag) (H : Hp) : Nat → V → V → Bool → Prop
  | flat {d : Nat} {x y : V} (fx : flatV x = true) (fy : flatV y = true) : DEq K H d x y (eqV x y)
  | lst {d : Nat} {a b : Addr} {xs ys : List V} {e : Nat → Bool} (h1 : SqL K H a xs) (h2 : SqL K H b ys) (hl : xs.length = ys.length)
      (he : ∀ (j : Nat) x y, xs[j]? = some x → ys[j]? = some y → DEq K H d x y (e j)) : DEq K H (d + 1) (.ref a) (.ref b) ((List.range xs.length).all e)
  | len {d : Nat} {a b : Addr} {xs ys : List V} (h1 : SqL K H a xs) (h2 : SqL K H b ys) (hl : xs.length ≠ ys.length) : DEq K H (d + 1) (.ref a) (.ref b) false
  | tup {d : Nat} {a b : Addr} {xs ys : List V} {e : Nat → Bool} (h1 : SqT K H a xs) (h2 : SqT K H b ys)
      (he : ∀ (j : Nat) x y, xs[j]? = some x → ys[j]? = some y → DEq K H d x y (e j)) : DEq K H (d + 1) (.ref a) (.ref b) ((List.range (min xs.length ys.length)).all e && xs.length == ys.length)
theorem eqV_refl : ∀ {x : V}, flatV x = true → eqV x x = true
  | .non, _ => rfl
  | .bl b, _ => by cases b <;> rfl
  | .int i, _ => by simp [eqV]
  | .str y, _ => by simp [eqV]
theorem DEq.self {X : Cx} {pins : List (Addr × Obj)} {σ : St} {H : Hp} {s : Shared} (I : Inv X pins σ H s) {d : Nat} {x y : V} {b : Bool} (h : DEq X.K H d x y b) : x = y → b = true := by
  induction h with
  | flat fx fy => intro e; subst e; exact eqV_refl fx
  | @lst d a b xs ys e h1 h2 hl he ih =>
    intro z
    cases z
    have q := I.list_inj h1 h2
    subst q
    rw [List.all_eq_true]
    intro j hj
    have hj' : j < xs.length := List.mem_range.mp hj
    exact ih j _ _ (List.getElem?_eq_getElem hj') (List.getElem?_eq_getElem hj') rfl
  | len h1 h2 hl =>
    intro z
    cases z
    have q := I.list_inj h1 h2
    exact absurd (congrArg List.length q) hl
  | @tup d a b xs ys e h1 h2 he ih =>
    intro z
    cases z
    have q := I.tuple_inj h1 h2
    subst q
    rw [Bool.and_eq_true, List.all_eq_true]
    refine ⟨fun j hj => ?_, by simp⟩
    have hj' : j < xs.length := by have := List.mem_range.mp hj; omega
    exact ih j _ _ (List.getElem?_eq_getElem hj') (List.getElem?_eq_getElem hj') rfl
theorem Vals.at {xs : List V} {us : List Value} (r : Vals xs us) {j : Nat} (h : j < us.toArray.size) : ∃ x, xs[j]? = some x ∧ RelV x us.toArray[j] := by
  have hl := r.length
  have h' : j < xs.length := by simpa [hl] using h
  obtain ⟨u, e, ru⟩ := r.get (List.getElem?_eq_getElem h')
  refine ⟨_, List.getElem?_eq_getElem h', ?_⟩
  have h2 : j < us.length := by simpa using h
  rw [List.getElem?_eq_getElem h2] at e
  have e2 : us[j] = u := Option.some.inj e
  simpa [e2] using ru
theorem DEq.at {X : Cx} {pins : List (Addr × Obj)} {σ : St} {H : Hp} {s : Shared} (I : Inv X pins σ H s) {d : Nat} {x y : V} {b : Bool} (h : DEq X.K H d x y b) :
    ∀ {A : Around} {u v : Value}, A.units + d < cLine → RelV x u → RelV y v → SeqAt.EqAt A s u v b := by
  induction h with
  | flat fx fy => intro A u v hu rx ry; exact eqAt_V rx ry fx fy
  | @lst d a b xs ys e h1 h2 hl he ih =>
    intro A u v hu rx ry
    cases rx; cases ry
    by_cases hab : a = b
    · have z : (List.range xs.length).all e = true := (DEq.lst h1 h2 hl he).self I (by rw [hab])
      rw [z, hab]
      exact SeqAt.EqAt.same _
    · obtain ⟨its, r, pl, _⟩ := I.list h1
      obtain ⟨its2, r2, pl2, _⟩ := I.list h2
      have l1 := r.length
      have l2 := r2.length
      have q := SeqAt.RcAt.lists (A := A) (e := e) pl.isList pl2.isList (by simp; omega) (by omega) fun j j1 j2 => by
        obtain ⟨x, ex, rx⟩ := r.at j1
        obtain ⟨y, ey, ry⟩ := r2.at j2
        exact ih j x y ex ey (by show A.units + 1 + d < cLine; omega) rx ry
      refine SeqAt.EqAt.of_refs hab ?_
      simpa [l1] using q
  | @len d a b xs ys h1 h2 hl =>
    intro A u v hu rx ry
    cases rx; cases ry
    have hab : a ≠ b := by
      rintro rfl
      exact hl (congrArg List.length (I.list_inj h1 h2))
    obtain ⟨its, r, pl, _⟩ := I.list h1
    obtain ⟨its2, r2, pl2, _⟩ := I.list h2
    have l1 := r.length
    have l2 := r2.length
    exact SeqAt.EqAt.of_refs hab (SeqAt.RcAt.lists_lengths pl.isList pl2.isList (by simp; omega) (by omega))
  | @tup d a b xs ys e h1 h2 he ih =>
    intro A u v hu rx ry
    cases rx; cases ry
    by_cases hab : a = b
    · have z := (DEq.tup h1 h2 he).self I (by rw [hab])
      rw [z, hab]
      exact SeqAt.EqAt.same _
    · obtain ⟨its, r, pl, _⟩ := I.tuple h1
      obtain ⟨its2, r2, pl2, _⟩ := I.tuple h2
      have l1 := r.length
      have l2 := r2.length
      have q := SeqAt.RcAt.tuples (A := A) (e := e) (show s.heap.IsTuple a its.toArray from pl) (show s.heap.IsTuple b its2.toArray from pl2) (by omega) fun j j1 j2 => by
        obtain ⟨x, ex, rx⟩ := r.at j1
        obtain ⟨y, ey, ry⟩ := r2.at j2
        exact ih j x y ex ey (by show A.units + 1 + d < cLine; omega) rx ry
      refine SeqAt.EqAt.of_refs hab ?_
      simpa [l1, l2] using q
section
variable {X : Cx}
def rEqD (K : PySem.W.Frag) : R2 := fun x y H Q => ∃ d b, DEq K H d x y b ∧ d < 64 ∧ flatV x = false ∧ Q (.bl b) H
def rNeD (K : PySem.W.Frag) : R2 := fun x y H Q => ∃ d b, DEq K H d x y b ∧ d < 64 ∧ flatV x = false ∧ Q (.bl (!b)) H
theorem op_eqD (hu : X.A.units + 64 < cLine) : OpR X (compareOp .Eq) (rEqD X.K) := by
  intro pins s σ H x y v u Q I rx ry h
  obtain ⟨d, b, dq, hd, fl, q⟩ := h
  cases dq with
  | flat fx fy => rw [fx] at fl; cases fl
  | @lst d a b xs ys e h1 h2 hl he =>
    cases rx; cases ry
    obtain ⟨its, r, pl, _⟩ := I.list h1
    obtain ⟨its2, r2, pl2, _⟩ := I.list h2
    have l1 := r.length
    have l2 := r2.length
    refine SeqAt.eq_listAt (e := e) pl.isList pl2.isList (by simp; omega) (by omega) (fun j j1 j2 => ?_) ?_
    · obtain ⟨x, ex, rx⟩ := r.at j1
      obtain ⟨y, ey, ry⟩ := r2.at j2
      exact (he j x y ex ey).at I (by show X.A.units + 1 + d < cLine; omega) rx ry
    · refine ⟨.bl _, H, I, rfl, ?_⟩
      simpa [← l1] using q
  | @len d a b xs ys h1 h2 hl =>
    cases rx; cases ry
    obtain ⟨its, r, pl, _⟩ := I.list h1
    obtain ⟨its2, r2, pl2, _⟩ := I.list h2
    have l1 := r.length
    have l2 := r2.length
    exact SeqAt.eq_list_lengthsAt pl.isList pl2.isList (by simp; omega) (by omega) ⟨.bl _, H, I, rfl, q⟩
  | @tup d a b xs ys e h1 h2 he =>
    cases rx; cases ry
    obtain ⟨its, r, pl, _⟩ := I.tuple h1
    obtain ⟨its2, r2, pl2, _⟩ := I.tuple h2
    have l1 := r.length
    have l2 := r2.length
    refine SeqAt.eq_tupleAt (e := e) (show s.heap.IsTuple a its.toArray from pl) (show s.heap.IsTuple b its2.toArray from pl2) (by omega) (fun j j1 j2 => ?_) ?_
    · obtain ⟨x, ex, rx⟩ := r.at j1
      obtain ⟨y, ey, ry⟩ := r2.at j2
      exact (he j x y ex ey).at I (by show X.A.units + 1 + d < cLine; omega) rx ry
    · refine ⟨.bl _, H, I, rfl, ?_⟩
      simpa [← l1, ← l2] using q
theorem op_neD (hu : X.A.units + 64 < cLine) : OpR X (compareOp .NotEq) (rNeD X.K) := by
  intro pins s σ H x y v u Q I rx ry h
  obtain ⟨d, b, dq, hd, fl, q⟩ := h
  cases dq with
  | flat fx fy => rw [fx] at fl; cases fl
  | @lst d a b xs ys e h1 h2 hl he =>
    cases rx; cases ry
    obtain ⟨its, r, pl, _⟩ := I.list h1
    obtain ⟨its2, r2, pl2, _⟩ := I.list h2
    have l1 := r.length
    have l2 := r2.length
    refine SeqAt.RcNeAt.lists (e := e) pl.isList pl2.isList (by simp; omega) (by omega) (fun j j1 j2 => ?_) _ _ _ _ ?_
    · obtain ⟨x, ex, rx⟩ := r.at j1
      obtain ⟨y, ey, ry⟩ := r2.at j2
      exact (he j x y ex ey).at I (by show X.A.units + 1 + d < cLine; omega) rx ry
    · refine ⟨.bl _, H, I, rfl, ?_⟩
      simpa [← l1] using q
  | @len d a b xs ys h1 h2 hl =>
    cases rx; cases ry
    obtain ⟨its, r, pl, _⟩ := I.list h1
    obtain ⟨its2, r2, pl2, _⟩ := I.list h2
    have l1 := r.length
    have l2 := r2.length
    exact SeqAt.RcNeAt.lists_lengths pl.isList pl2.isList (by simp; omega) (by omega) _ _ _ _ ⟨.bl _, H, I, rfl, q⟩
  | @tup d a b xs ys e h1 h2 he =>
    cases rx; cases ry
    obtain ⟨its, r, pl, _⟩ := I.tuple h1
    obtain ⟨its2, r2, pl2, _⟩ := I.tuple h2
    have l1 := r.length
    have l2 := r2.length
    refine SeqAt.RcNeAt.tuples (e := e) (show s.heap.IsTuple a its.toArray from pl) (show s.heap.IsTuple b its2.toArray from pl2) (by omega) (fun j j1 j2 => ?_) _ _ _ _ ?_
    · obtain ⟨x, ex, rx⟩ := r.at j1
      obtain ⟨y, ey, ry⟩ := r2.at j2
      exact (he j x y ex ey).at I (by show X.A.units + 1 + d < cLine; omega) rx ry
    · refine ⟨.bl _, H, I, rfl, ?_⟩
      simpa [← l1, ← l2] using q
end
end L2
set_option Elab.async false
set_option linter.all false
set_option maxRecDepth 100000
namespace L2
open PySem PySem.Spec PyProof.Rows
def SameBut (acc : Addr) (H H' : Hp) : Prop := ∀ b o, b ≠ acc → H b = some o → H' b = some o
theorem Same.but {acc : Addr} {H H' : Hp} (s : Same H H') : SameBut acc H H' := fun b o _ e => s b o e
theorem SameBut.upd {acc : Addr} {H : Hp} {o : HO} : SameBut acc H (upd H acc o) := fun b u n e => by rw [upd_ne n]; exact e
theorem szl {n : Nat} (h : n ≤ 1000) : n ≤ sizeLine := Nat.le_of_lt (small1000 h)
theorem szr {n : Nat} (h : Nat.ble n 1000 = true := by rfl) : n ≤ sizeLine := szl (Nat.le_of_ble_eq_true h)
theorem szn {n : Nat} (h : n < 100000) : n < sizeLine := by rw [sizeLine_eq]; omega
theorem kept1 {x : Option V} {σ : St} : Kept (none :: σ) (x :: σ) := ⟨rfl, fun i v e => by
  cases i with
  | zero => cases e
  | succ i => exact e⟩
theorem comp_walk {J : It} {H1 : Hp} {js : List (Option Nat)} {σ : St} {tc : TT} {te : TE} {Q : VK} (n : Nat) (item : Nat → V) (p : Nat → Bool) (P : Addr → Nat → V → Hp → Prop) (hn : n < 100000)
    (mono : ∀ acc i v H H', P acc i v H → SameBut acc H H' → P acc i v H')
    (hgo : ∀ i H, i < n → Same H1 H → J.go i H) (hst : ∀ H, Same H1 H → J.stop n H) (hy : ∀ i H x H', i < n → Same H1 H → J.yld i H x H' → H' = H ∧ x = item i)
    (hc : ∀ i, i < n → ∀ H2 R, Same H1 H2 → R (p i) H2 → tc (some (item i) :: pick σ js) H2 R)
    (he : ∀ acc i, i < n → p i = true → ∀ H2 R, Same H1 H2 → H1 acc = none → H2 acc ≠ none → (∀ v H3, Same H2 H3 → P acc i v H3 → R v H3) → te (some (item i) :: pick σ js) H2 R)
    (hQ : ∀ acc vs H', Same H1 H' → H1 acc = none → H' acc = some (.lst vs) → Paired (fun i v => P acc i v H') ((List.range n).filter p) vs → Q (.ref acc) H') :
    CompB J H1 (none :: js) (gName 0) tc te σ Q := by
  intro acc hacc
  refine ⟨fun i m ys H => m = n - i ∧ i ≤ n ∧ Same H1 H ∧ H acc = some (.lst ys) ∧ Paired (fun k v => P acc k v H) ((List.range i).filter p) ys, ⟨n, by simp, Nat.zero_le _, Same.new hacc, upd_same, .nil⟩, ?_⟩
  rintro i m ys H ⟨rfl, hi, s1, ha, hp⟩
  by_cases hlt : i < n
  · refine .inr ⟨hgo i H hlt s1, fun ys' H' => i < n ∧ Same H1 H' ∧ H' acc = some (.lst ys') ∧ Paired (fun k v => P acc k v H') ((List.range (i + 1)).filter p) ys', fun ys' H' ⟨z, a, b, c⟩ => ⟨n - (i + 1), by omega, rfl, hlt, a, b, c⟩, fun x H' y => ?_⟩
    obtain ⟨rfl, rfl⟩ := hy i H x H' hlt s1 y
    refine ⟨kept1, hc i hlt _ _ s1 ⟨fun hb => ?_, fun hb => ?_⟩⟩
    · refine he acc i hlt hb _ _ s1 hacc (by rw [ha]; simp) fun v H3 s3 pv => ?_
      have hlen : ys.length ≤ i := by
        rw [← Paired.length hp]
        exact Nat.le_trans (List.length_filter_le _ _) (by simp)
      refine ⟨s3 _ _ ha, szn (by omega), hlt, (s1.trans s3).put hacc, upd_same, ?_⟩
      rw [List.range_succ, List.filter_append]
      have e : List.filter p [i] = [i] := by simp [hb]
      rw [e]
      refine Paired.snoc (Paired.mapP hp fun k v q => ?_) ?_
      · exact mono acc k v _ _ (mono acc k v _ _ q s3.but) SameBut.upd
      · exact mono acc i v _ _ pv SameBut.upd
    · refine ⟨hlt, s1, ha, ?_⟩
      rw [List.range_succ, List.filter_append]
      have e : List.filter p [i] = [] := by simp [hb]
      rw [e, List.append_nil]
      exact hp
  · have e : i = n := by omega
    subst e
    exact .inl ⟨hst H s1, hQ acc ys H s1 hacc ha hp⟩
theorem paired_map {α β : Type} {f : α → β} : ∀ {l : List α} {r : List β}, Paired (fun a b => b = f a) l r → r = l.map f
  | _, _, .nil => rfl
  | _, _, .cons h t => by rw [h, paired_map t]; rfl
section
variable {K : PySem.W.Frag} {H1 : Hp} {js : List (Option Nat)} {σ : St} {tc : TT} {te : TE} {Q : VK}
theorem comp_range {lo : Int} {n : Nat} (f : Nat → V) (hn : n < 100000)
    (he : ∀ i : Nat, i < n → ∀ H2 R, Same H1 H2 → (∀ H3, Same H2 H3 → R (f i) H3) → te (some (.int (lo + i)) :: pick σ js) H2 R)
    (hQ : ∀ acc H', Same H1 H' → H1 acc = none → H' acc = some (.lst ((List.range n).map f)) → Q (.ref acc) H') : CompB (Itr lo n) H1 (none :: js) (gName 0) tYes te σ Q :=
  comp_walk (J := Itr lo n) (H1 := H1) (js := js) (σ := σ) (tc := tYes) (te := te) (Q := Q) n (fun i => .int (lo + i)) (fun _ => true) (fun _ i v _ => v = f i) hn (fun _ _ _ _ _ h _ => h)
    (fun _ _ h _ => h) (fun _ _ => Nat.le_refl _) (fun _ _ _ _ _ _ y => y) (fun _ _ _ _ _ h => h) (fun _ i hi _ H2 R s _ _ k => he i hi H2 R s fun H3 s3 => k _ H3 s3 rfl)
    fun acc vs H' s n' e p => hQ acc H' s n' (by rw [e, paired_map p, List.filter_eq_self.mpr (fun _ _ => rfl)])
end
end L2
set_option Elab.async false
set_option linter.all false
set_option maxRecDepth 100000
namespace L2
open PySem PySem.Spec PyProof.Rows
section
variable {X : Cx} {tg l : Expr} {tl : TE} {es : List Expr} {k n : Nat} {t : TGs} {pos : Pos} {a : Expr} {ta : TE}
theorem ixL (K : PySem.W.Frag) (h : X.K = K := by rfl) : IxR X (rIxL K) := by subst h; exact ix_list
theorem ixT (K : PySem.W.Frag) (h : X.K = K := by rfl) : IxR X (rIxT K) := by subst h; exact ix_tup
theorem slL (K : PySem.W.Frag) (h : X.K = K := by rfl) : SlR X (rSlL K) := by subst h; exact sl_list
theorem inS (K : PySem.W.Frag) (h : X.K = K := by rfl) : OpR X (compareOp .In) (rIn K false) := by subst h; exact op_in_seq
theorem eqD (K : PySem.W.Frag) (hu : X.A.units + 64 < cLine) (h : X.K = K := by rfl) : OpR X (compareOp .Eq) (rEqD K) := by subst h; exact op_eqD hu
theorem neD (K : PySem.W.Frag) (hu : X.A.units + 64 < cLine) (h : X.K = K := by rfl) : OpR X (compareOp .NotEq) (rNeD K) := by subst h; exact op_neD hu
theorem cLen (K : PySem.W.Frag) (h : X.K = K := by rfl) : CallR X (.builtin "len") (fun xs H Q => ∃ x n, xs = [x] ∧ LenV K x H n ∧ Q (.int n) H) := by subst h; exact call_len
theorem cIsi (K : PySem.W.Frag) (h : X.K = K := by rfl) : CallR X (.builtin "isinstance") (fun xs H Q => ∃ x Y t b, xs = [x, .ty Y] ∧ TyOf K H x t ∧ PySem.W.kitOne K t (.type Y) = some b ∧ Q (.bl b) H) := by subst h; exact call_isi
theorem cList (K : PySem.W.Frag) (h : X.K = K := by rfl) : CallR X (.type "list") (fun xs H Q => ∃ p ys, xs = [.ref p] ∧ (SqL K H p ys ∨ SqT K H p ys) ∧ ∀ l, H l = none → Q (.ref l) (upd H l (.lst ys))) := by subst h; exact call_list_of
theorem piL (K : PySem.W.Frag) (hl : PE X l tl) (h : X.K = K := by rfl) : PI X tg l (iList K tl) := by subst h; exact pi_list hl
theorem pgT (K : PySem.W.Frag) (hc : X.calm = true) (hg : PGs X es t) (h : X.K = K := by rfl) (hn : (assignEach es X.env).length = n := by rfl) (hst : (assignEach es X.env).findIdx? (·.1) = none := by rfl) : PG X (.Tuple es k pos) (gTup K n t) := by
  subst h; exact pg_tup hc hg hn hst
end
theorem nodupN {X : Cx} {N : List Str} (h : N.Nodup) (e : X.N = N := by rfl) : X.N.Nodup := by rw [e]; exact h
theorem cut_to (xs : List V) (k : Nat) : cutV xs none (some (k : Int)) = xs.take k := by
  unfold cutV
  rw [HT.sIx_nat, HT.sIx_none, List.drop_zero, Nat.sub_zero]
  by_cases h : k ≤ xs.length
  · rw [Nat.min_eq_left h]
  · rw [Nat.min_eq_right (by omega), List.take_of_length_le (Nat.le_refl _), List.take_of_length_le (by omega)]
theorem cut_from (xs : List V) (k : Nat) : cutV xs (some (k : Int)) none = xs.drop k := by
  unfold cutV
  rw [HT.sIx_nat, HT.sIx_none]
  by_cases h : k ≤ xs.length
  · rw [Nat.min_eq_left h, List.take_of_length_le (by rw [List.length_drop]; omega)]
  · rw [Nat.min_eq_right (by omega), Nat.sub_self, List.take_zero, List.drop_of_length_le (by omega)]
theorem cut_mid (xs : List V) (i j : Nat) : cutV xs (some (i : Int)) (some (j : Int)) = (xs.drop i).take (j - i) := by
  unfold cutV
  rw [HT.sIx_nat, HT.sIx_nat]
  by_cases h : i ≤ xs.length
  · rw [Nat.min_eq_left h]
    by_cases h2 : j ≤ xs.length
    · rw [Nat.min_eq_left h2]
    · rw [Nat.min_eq_right (by omega), List.take_of_length_le (by rw [List.length_drop]; omega), List.take_of_length_le (by rw [List.length_drop]; omega)]
  · have e : min i xs.length = xs.length := Nat.min_eq_right (by omega)
    rw [e, List.drop_of_length_le (Nat.le_refl _), List.drop_of_length_le (l := xs) (i := i) (by omega), List.take_nil, List.take_nil]
section
variable {K : PySem.W.Frag} {H : Hp} {a b : Addr}
end
theorem ifEq {i j : Int} {A B : Prop} (h1 : i = j → A) (h2 : i ≠ j → B) : if decide (V.int i = V.int j) = true then A else B := by
  by_cases h : i = j
  · rw [if_pos (by simp [h])]; exact h1 h
  · rw [if_neg (by simp [h])]; exact h2 h
theorem ifNe {i j : Int} {A B : Prop} (h1 : i ≠ j → A) (h2 : i = j → B) : if (!decide (V.int i = V.int j)) = true then A else B := by
  by_cases h : i = j
  · rw [if_neg (by simp [h])]; exact h2 h
  · rw [if_pos (by simp [h])]; exact h1 h
theorem ifD {c : Prop} [Decidable c] {A B : Prop} (h1 : c → A) (h2 : ¬ c → B) : if decide c = true then A else B := by
  by_cases h : c
  · rw [if_pos (decide_eq_true h)]; exact h1 h
  · rw [if_neg (by simp [h])]; exact h2 h
end L2
set_option Elab.async false
set_option linter.all false
set_option maxRecDepth 100000
namespace L2
open PySem PySem.Spec PyProof.Rows
section
variable {X : Cx} {tg l : Expr} {tl : TE}
end
end L2
set_option Elab.async false
set_option linter.all false
set_option maxRecDepth 100000
namespace L2
open PySem PySem.Spec PyProof.Rows
section
variable {X : Cx} {es : List Expr} {t : TA}
end
end L2
set_option Elab.async false
set_option linter.all false
set_option maxRecDepth 100000
namespace L2
open PySem PySem.Spec PyProof.Rows
def DW (P : Program) (w : World) (d : Addr) (vs : List (Key × Value)) (ep : Nat) : Heap → Prop := fun h => h.DictAt (mixKind P w) d vs ep
theorem DW.ok {P : Program} {w : World} {H : Hp} {h : Heap} {d : Addr} {vs : List (Key × Value)} {ep : Nat} (x : h.DictAt (mixKind P w) d vs ep) : ObjOk P w H h d (.ext (DW P w d vs ep)) :=
  ⟨x, by obtain ⟨o, _, e, _⟩ := x; exact ⟨o, e⟩, fun _ _ y k => y.at' k⟩
section
variable {X : Cx} {tg l : Expr} {tl : TE}
end
end L2
set_option Elab.async false
set_option linter.all false
set_option maxRecDepth 100000
namespace L2
abbrev HK := List (Key × V)
def cnt (kvs : HK) (q : Nat) : Nat := (kvs.map (·.2)).count (V.int q)
def bit (p : Prop) [Decidable p] : Nat := if p then 1 else 0
def Good (ps : List (List Int)) (kvs : HK) : Prop := ∀ e ∈ kvs, ∃ (b : Int) (q : Nat) (p : List Int), e = (Sum.inl b, V.int q) ∧ ps[q]? = some p ∧ b ∈ p
structure Short (ps : List (List Int)) (ms : List Nat) : Prop where
  up : ms.Pairwise (· < ·)
  few : ∃ X : List Int, X.length < ms.length ∧ ∀ q ∈ ms, ∃ p, ps[q]? = some p ∧ ∀ c ∈ p, c ∈ X
structure Held (ps : List (List Int)) (kvs : HK) (n : Nat) : Prop where
  nd : (kvs.map (·.1)).Nodup
  good : Good ps kvs
  one : ∀ q, cnt kvs q = bit (q < n)
theorem Held.lt {ps : List (List Int)} {kvs : HK} {n : Nat} (h : Held ps kvs n) {k : Key} {q : Nat} (m : (k, V.int q) ∈ kvs) : q < n := by
  have h1 : V.int (q : Int) ∈ kvs.map (·.2) := List.mem_map.mpr ⟨_, m, rfl⟩
  have h2 := List.count_pos_iff.mpr h1
  have := h.one q
  unfold cnt bit at this
  rw [this] at h2
  split at h2
  · assumption
  · omega
end L2
set_option Elab.async false
set_option linter.all false
set_option maxRecDepth 100000
namespace L2
open PySem PySem.Spec PyProof.Rows
def PoolsL (K : PySem.W.Frag) (H : Hp) (rs : List Addr) (ps : List (List Int)) : Prop := Paired (fun r p => SqL K H r (p.map V.int)) rs ps
theorem PoolsL.at {K : PySem.W.Frag} {H : Hp} {rs : List Addr} {ps : List (List Int)} (h : PoolsL K H rs ps) {i : Nat} {p : List Int} (e : ps[i]? = some p) : ∃ r, rs[i]? = some r ∧ SqL K H r (p.map V.int) := pair_get (F := fun (r : Addr) (p : List Int) => SqL K H r (p.map V.int)) h e
theorem PoolsL.len {K : PySem.W.Frag} {H : Hp} {rs : List Addr} {ps : List (List Int)} (h : PoolsL K H rs ps) : rs.length = ps.length := Paired.length h
theorem paired_of {α β : Type} {F : α → β → Prop} : ∀ {l : List α} {r : List β}, l.length = r.length → (∀ (i : Nat) a b, l[i]? = some a → r[i]? = some b → F a b) → Paired F l r
  | [], [], _, _ => .nil
  | [], _ :: _, h, _ => by simp at h
  | _ :: _, [], h, _ => by simp at h
  | a :: l, b :: r, h, f => .cons (f 0 a b rfl rfl) (paired_of (by simpa using h) fun i x y e1 e2 => f (i + 1) x y (by simpa using e1) (by simpa using e2))
theorem inV_int (b : Int) (bs : List Int) : inV (.int b) (bs.map V.int) = decide (b ∈ bs) := by
  unfold inV
  induction bs with
  | nil => rfl
  | cons c r ih =>
    rw [List.map_cons, List.any_cons, ih]
    by_cases h : c = b
    · subst h; simp [eqV]
    · have h' : ¬ b = c := fun z => h z.symm
      simp [eqV, h, h']
theorem flat_all (bs : List Int) : (bs.map V.int).all flatV = true := by
  rw [List.all_eq_true]
  intro x hx
  obtain ⟨i, _, e⟩ := List.mem_map.mp hx
  rw [← e]; rfl
end L2
set_option Elab.async false
set_option linter.all false
set_option maxRecDepth 100000
namespace L2
open PySem PySem.Spec PyProof.Rows
abbrev Rise (xs : List Nat) : Prop := xs.Pairwise (· < ·)
structure CutAt (xs : Array Nat) (j p : Nat) : Prop where
  le : p ≤ xs.size
  lo : ∀ i (h : i < xs.size), i < p → xs[i] < j
  hi : ∀ i (h : i < xs.size), p ≤ i → j ≤ xs[i]
theorem rise_at {xs : Array Nat} (r : Rise xs.toList) {i k : Nat} (hi : i < xs.size) (hk : k < xs.size) (h : i < k) : xs[i] < xs[k] := by
  have := List.pairwise_iff_getElem.mp r i k (by simpa using hi) (by simpa using hk) h
  simpa using this
theorem below_go {xs : Array Nat} (r : Rise xs.toList) (j : Nat) : ∀ (f lo hi : Nat), hi - lo ≤ f → lo ≤ hi → hi ≤ xs.size → (∀ i (h : i < xs.size), i < lo → xs[i] < j) → (∀ i (h : i < xs.size), hi ≤ i → j ≤ xs[i]) → CutAt xs j (SetTable.below.go xs j f lo hi)
  | 0, lo, hi, hf, hl, hs, h1, h2 => by
    have e : hi = lo := by omega
    subst e
    exact ⟨hs, h1, h2⟩
  | f + 1, lo, hi, hf, hl, hs, h1, h2 => by
    unfold SetTable.below.go
    by_cases hlt : lo < hi
    · rw [if_pos hlt]
      have hm : (lo + hi) / 2 < xs.size := by omega
      have eg : xs.getD ((lo + hi) / 2) j = xs[(lo + hi) / 2] := by simp [hm]
      dsimp only
      rw [eg]
      by_cases hc : xs[(lo + hi) / 2] < j
      · rw [if_pos hc]
        refine below_go r j f _ _ (by omega) (by omega) hs (fun i h hi' => ?_) h2
        by_cases e : i = (lo + hi) / 2
        · subst e; exact hc
        · exact Nat.lt_trans (rise_at r h hm (by omega)) hc
      · rw [if_neg hc]
        refine below_go r j f _ _ (by omega) (by omega) (by omega) h1 fun i h hi' => ?_
        by_cases e : i = (lo + hi) / 2
        · subst e; omega
        · have := rise_at r hm h (by omega)
          omega
    · rw [if_neg hlt]
      have e : hi = lo := by omega
      subst e
      exact ⟨hs, h1, h2⟩
theorem below_cut {xs : Array Nat} (r : Rise xs.toList) (j : Nat) : CutAt xs j (SetTable.below xs j) :=
  below_go r j xs.size 0 xs.size (by omega) (Nat.zero_le _) (Nat.le_refl _) (fun i _ h => by omega) fun i h h' => by omega
theorem insert_rise {xs : Array Nat} {j : Nat} (r : Rise xs.toList) (hn : xs[SetTable.below xs j]? ≠ some j) : Rise (SetTable.insertAt xs (SetTable.below xs j) j).toList := by
  have c := below_cut r j
  generalize SetTable.below xs j = p at hn c
  have e : (SetTable.insertAt xs p j).toList = xs.toList.take p ++ j :: xs.toList.drop p := by
    unfold SetTable.insertAt
    simp [Array.toList_append, Array.toList_push, List.extract_eq_take_drop]
    exact List.take_of_length_le (by simp)
  rw [e]
  refine List.pairwise_append.mpr ⟨r.sublist (List.take_sublist _ _), List.pairwise_cons.mpr ⟨fun x hx => ?_, r.sublist (List.drop_sublist _ _)⟩, fun x hx y hy => ?_⟩
  · obtain ⟨i, hi, ei⟩ := List.mem_iff_getElem.mp hx
    rw [List.length_drop, Array.length_toList] at hi
    rw [List.getElem_drop, Array.getElem_toList] at ei
    have h1 := c.hi (p + i) (by omega) (by omega)
    rw [ei] at h1
    by_cases z : x = j
    · exfalso
      have hp : p < xs.size := by omega
      have h2 := c.hi p hp (Nat.le_refl _)
      have h3 : xs[p] ≤ xs[p + i] := by
        by_cases i0 : i = 0
        · subst i0; exact Nat.le_refl _
        · exact Nat.le_of_lt (rise_at r hp (by omega) (by omega))
      have h4 : xs[p] = j := by rw [ei, z] at h3; omega
      exact hn (by rw [Array.getElem?_eq_getElem hp, h4])
    · omega
  · obtain ⟨i, hi, ei⟩ := List.mem_iff_getElem.mp hx
    rw [List.length_take, Array.length_toList] at hi
    rw [List.getElem_take, Array.getElem_toList] at ei
    have h1 := c.lo i (by omega) (by omega)
    rw [ei] at h1
    rcases List.mem_cons.mp hy with z | z
    · omega
    · obtain ⟨k, hk, ek⟩ := List.mem_iff_getElem.mp z
      rw [List.length_drop, Array.length_toList] at hk
      rw [List.getElem_drop, Array.getElem_toList] at ek
      have h2 := c.hi (p + k) (by omega) (by omega)
      omega
theorem slot_free {t : SetTable} {j : Nat} (h : t.slot j = .empty ∨ t.slot j = .dummy) : t.place[SetTable.below t.place j]? ≠ some j := by
  intro z
  have e : t.slot j = .live (SetTable.below t.place j) := by
    unfold SetTable.slot
    dsimp only
    rw [z]
    simp
  rw [e] at h
  rcases h with h | h <;> cases h
theorem probe_free {t : SetTable} {hh : Nat → Int} {h : Int} : ∀ (f : Nat) (p : SetTable.Probe) (j : Nat) (d : Option Nat), (∀ x, p.dummy = some x → t.slot x = .dummy) → SetTable.probe.go t hh h f p = some (.empty j d) → t.slot j = .empty ∧ ∀ x, d = some x → t.slot x = .dummy
  | 0, p, j, d, _, e => by unfold SetTable.probe.go at e; cases e
  | f + 1, p, j, d, hp, e => by
    unfold SetTable.probe.go at e
    have adv : ∀ q : SetTable.Probe, (t.advance q).dummy = q.dummy := fun q => by
      unfold SetTable.advance
      split <;> rfl
    cases hs : t.slot p.j with
    | empty =>
      rw [hs] at e
      cases e
      exact ⟨hs, hp⟩
    | dummy =>
      rw [hs] at e
      refine probe_free f _ j d (fun x hx => ?_) e
      rw [adv] at hx
      cases hx
      exact hs
    | live i =>
      rw [hs] at e
      dsimp only at e
      split at e
      · cases e
      · refine probe_free f _ j d (fun x hx => ?_) e
        rw [adv] at hx
        exact hp x hx
theorem freeSlot_free {t : SetTable} {h : Int} {j : Nat} {b : Bool} (e : t.freeSlot h = some (j, b)) : t.place[SetTable.below t.place j]? ≠ some j := by
  unfold SetTable.freeSlot at e
  split at e
  · rename_i j' d hm
    have := probe_free (t := t) (h := h) _ _ j' d (fun x hx => by cases hx) hm
    have e' := Option.some.inj e
    cases d with
    | none =>
      have : j' = j := by have := congrArg Prod.fst e'; simpa using this
      subst this
      exact slot_free (.inl this.1)
    | some x =>
      have hx : x = j := by have := congrArg Prod.fst e'; simpa using this
      subst hx
      exact slot_free (.inr (this.2 x rfl))
  · cases e
structure TabK (led : Bool) (t : SetTable) : Prop where
  led : t.led = led
  rise : t.plain = true → Rise t.place.toList
theorem standIn_tab {led : Bool} {t : SetTable} (h : t.led = led) (n : Nat) : TabK led (t.standIn n) := ⟨h, fun z => by cases z⟩
theorem orStandIn_tab {led : Bool} {t : SetTable} (h : TabK led t) (n : Nat) : TabK led (t.orStandIn n) := by
  unfold SetTable.orStandIn
  split
  · exact h
  · exact standIn_tab h.led n
theorem layNew_tab {led : Bool} {t : SetTable} (h : TabK led t) (es : Array (Int × Value)) (hh : Int) (x : Value) : TabK led (layNew t es hh x).2.1 := by
  unfold layNew
  cases e : t.freeSlot hh with
  | none => exact standIn_tab h.led _
  | some q =>
    obtain ⟨j, b⟩ := q
    refine orStandIn_tab (t := (t.put j).1) ⟨h.led, fun z => ?_⟩ _
    exact insert_rise (h.rise z) (freeSlot_free e)
theorem laid_rise {mask finger moves : Nat} {led plain : Bool} {hs : Array Int} {t : SetTable} {o : Array Nat} (e : SetTable.laid mask finger moves led plain hs = some (t, o)) : t.led = led ∧ Rise t.place.toList := by
  unfold SetTable.laid at e
  obtain ⟨ow, _, e2⟩ := Option.bind_eq_some_iff.mp e
  have e2 := Option.some.inj e2
  have ht := congrArg Prod.fst e2
  dsimp only at ht
  rw [← ht]
  refine ⟨rfl, ?_⟩
  show List.Pairwise (fun a b => a < b) (List.map (fun x : Nat × Nat => x.1) _)
  rw [List.pairwise_map]
  refine List.pairwise_filterMap.mpr ?_
  refine List.Pairwise.imp ?_ List.pairwise_lt_range
  intro a b hab x hx y hy
  obtain ⟨u, _, eu⟩ := Option.map_eq_some_iff.mp hx
  obtain ⟨v, _, ev⟩ := Option.map_eq_some_iff.mp hy
  rw [← eu, ← ev]
  exact hab
theorem relayAll_tab {led : Bool} {t : SetTable} (h : TabK led t) (es : Array (Int × Value)) (n : Nat) : TabK led (relayAll t es n).2.1 := by
  unfold relayAll
  cases e : t.relaid (es.map (·.1)) n with
  | none => exact standIn_tab h.led _
  | some q =>
    obtain ⟨t', o⟩ := q
    dsimp only
    split
    · have := laid_rise e
      exact ⟨this.1.trans h.led, fun _ => this.2⟩
    · exact standIn_tab h.led _
end L2
set_option Elab.async false
set_option linter.all false
set_option maxRecDepth 100000
namespace L2
open PySem PySem.Spec PyProof.Rows
abbrev byText (w : World) : Bool := w.params.followText "set-order"
def Ents (es : List (Int × Value)) (ks : List Int) : Prop := Paired (fun (e : Int × Value) (k : Int) => ∃ t, e = (hashInt k, Value.int k t)) es ks
structure SetIn (w : World) (o : Obj) (es : Array (Int × Value)) (ep : Nat) (t : SetTable) (ks : List Int) : Prop where
  ex : o.ExactSet
  da : o.data = .set es ep t
  en : Ents es.toList ks
  nd : ks.Nodup
  sz : ks.length < 4000
  ft : t.fits es.size = true
  tb : TabK (!byText w) t
def SX (w : World) (a : Addr) (ms : List Int) : Heap → Prop := fun h => ∃ o es ep t ks, h.get? a = some o ∧ SetIn w o es ep t ks ∧ ks.Perm ms
theorem SX.at {w : World} {a : Addr} {ms : List Int} {h h' : Heap} (x : SX w a ms h) (k : ∀ o, h.get? a = some o → h'.get? a = some o) : SX w a ms h' := by
  obtain ⟨o, es, ep, t, ks, e, r⟩ := x
  exact ⟨o, es, ep, t, ks, k o e, r⟩
theorem SX.lt {w : World} {a : Addr} {ms : List Int} {h : Heap} (x : SX w a ms h) : a < h.objs.size := by
  obtain ⟨o, es, ep, t, ks, e, r⟩ := x
  exact Heap.lt_size e
theorem SX.perm {w : World} {a : Addr} {ms ns : List Int} {h : Heap} (x : SX w a ms h) (p : ms.Perm ns) : SX w a ns h := by
  obtain ⟨o, es, ep, t, ks, e, r, q⟩ := x
  exact ⟨o, es, ep, t, ks, e, r, q.trans p⟩
theorem Ents.mem : ∀ {es : List (Int × Value)} {ks : List Int}, Ents es ks → ∀ {e : Int × Value}, e ∈ es → ∃ k t, k ∈ ks ∧ e = (hashInt k, Value.int k t)
  | _, _, .nil, _, h => by cases h
  | _, _, .cons ⟨t, q⟩ r, e, h => by
    rcases List.mem_cons.mp h with z | z
    · exact ⟨_, t, List.mem_cons_self, z.trans q⟩
    · obtain ⟨k, t, m, q⟩ := Ents.mem r z
      exact ⟨k, t, List.mem_cons_of_mem _ m, q⟩
theorem Ents.elems {P : Program} {w : World} {es : List (Int × Value)} {ks : List Int} (h : Ents es ks) : ElemsOf (intKind P w) es := fun e he => by
  obtain ⟨k, t, _, q⟩ := h.mem he
  subst q
  exact ⟨⟨k, intKind_is P w k t, rfl⟩, rfl⟩
theorem Ents.len {es : List (Int × Value)} {ks : List Int} (h : Ents es ks) : es.length = ks.length := Paired.length h
theorem Ents.perm {es es' : List (Int × Value)} (p : es'.Perm es) : ∀ {ks : List Int}, Ents es ks → ∃ ks', Ents es' ks' ∧ ks'.Perm ks := by
  induction p with
  | nil => intro ks h; cases h; exact ⟨[], .nil, .nil⟩
  | cons x _ ih =>
    intro ks h
    cases h with
    | cons q r =>
      obtain ⟨ks', a, b⟩ := ih r
      exact ⟨_ :: ks', .cons q a, b.cons _⟩
  | swap x y l =>
    intro ks h
    cases h with
    | cons q r =>
      cases r with
      | cons q' r => exact ⟨_ :: _ :: _, .cons q' (.cons q r), .swap _ _ _⟩
  | trans _ _ ih1 ih2 =>
    intro ks h
    obtain ⟨k2, a, b⟩ := ih2 h
    obtain ⟨k3, c, d⟩ := ih1 a
    exact ⟨k3, c, d.trans b⟩
theorem isInt_dec (k j : Int) (t : Tok) : Value.isInt k (.int j t) = decide (k = j) := by
  by_cases h : k = j
  · subst h; simp [Value.isInt]
  · simp [Value.isInt, h]
    exact fun z => h z.symm
theorem Ents.find {P : Program} {w : World} {k : Int} : ∀ {es : List (Int × Value)} {ks : List Int}, Ents es ks → (es.findIdx? (fun e => (intKind P w).is k e.2)).isSome = decide (k ∈ ks)
  | _, _, .nil => rfl
  | _ :: es, j :: ks, .cons ⟨t, q⟩ r => by
    subst q
    rw [List.findIdx?_cons]
    have e : (intKind P w).is k (hashInt j, Value.int j t).2 = decide (k = j) := isInt_dec k j t
    rw [e]
    by_cases h : k = j
    · subst h; simp
    · have ih := Ents.find (P := P) (w := w) (k := k) r
      simp [h, ih]
section
variable {P : Program} {w : World} {A : Around} {E : Value → Shared → Prop} {s : Shared} {a : Addr} {ms ks : List Int} {o : Obj} {es : Array (Int × Value)} {ep : Nat} {t : SetTable}
theorem SetIn.bound (h : SetIn w o es ep t ks) : es.size < scanBound := by
  have : es.size = ks.length := by rw [← h.en.len, Array.length_toList]
  have := h.sz
  have e : scanBound = 4096 := rfl
  omega
theorem SetIn.size (h : SetIn w o es ep t ks) : es.size = ks.length := by rw [← h.en.len, Array.length_toList]
theorem put_SX {es' : Array (Int × Value)} {t' : SetTable} {ks' : List Int} (ho : s.heap.get? a = some o) (h : SetIn w o es ep t ks) (en : Ents es'.toList ks') (nd : ks'.Nodup) (sz : ks'.length < 4000) (ft : t'.fits es'.size = true) (tb : TabK (!byText w) t') :
    ∃ o', (s.heap.update a (Obj.putSet es' t')).get? a = some o' ∧ SetIn w o' es' (ep + 1) t' ks' := by
  have g := Heap.get?_update_self (Obj.putSet es' t') ho (by rw [putSet_of es' t' h.da]; rfl)
  rw [putSet_of es' t' h.da] at g
  exact ⟨_, g, ⟨h.ex, rfl, en, nd, sz, ft, tb⟩⟩
theorem gave_ok {g : Bool → Sem Unit} {Q : Unit → Shared → Prop} (hg : ∀ b, g b = match b with | true => rule "set.scan.the-table-gave-way" | false => pure ()) (b : Bool) {s : Shared} (h : Q () s) : wpAny (model P w) A (g b) Q E s := by
  rw [hg b]
  cases b with
  | true => exact wpAny_rule h
  | false => exact wpAny_pure h
theorem add_SX {x : Int} {tk : Tok} {Q : Bool → Shared → Prop} (ho : s.heap.get? a = some o) (hs : SetIn w o es ep t ks) (hl : ks.length + 1 < 4000)
    (h1 : x ∈ ks → Q false s) (h2 : x ∉ ks → ∀ h', Heap.SameBut a s.heap h' → SX w a (ks ++ [x]) h' → Q true { s with heap := h' }) : wpAny (model P w) A (setAddHashed a (.int x tk) (hashInt x)) Q E s := by
  have hel := hs.en.elems (P := P) (w := w)
  have hky : (intKind P w).is x (.int x tk) = true := intKind_is P w x tk
  unfold setAddHashed setAddHashedIn
  refine wpAny_holding (wpAny_bind (wpAny_setState_of ho hs.da hs.ft ?_))
  dsimp only
  rw [byScan_of (knd := intKind P w) rfl hs.bound hel, if_pos rfl]
  refine wpAny_bind ?_
  unfold setAddByScan
  refine wpAny_bind (wpAny_rule (wpAny_bind (wpAny_setScan_of (knd := intKind P w) (k := x) hky ho hs.da hs.ft hel ?_)))
  have fd := hs.en.find (P := P) (w := w) (k := x)
  cases hr : List.findIdx? (fun e => (intKind P w).is x e.2) es.toList with
  | some j =>
    rw [hr] at fd
    exact wpAny_pure (wpAny_pure (h1 (of_decide_eq_true fd.symm)))
  | none =>
    rw [hr] at fd
    have hx : x ∉ ks := of_decide_eq_false fd.symm
    have p1 := layNew_perm t es (hashInt x) (Value.int x tk)
    have f1 := layNew_fits t es (hashInt x) (Value.int x tk)
    have t1 := layNew_tab hs.tb es (hashInt x) (Value.int x tk)
    generalize layNew t es (hashInt x) (Value.int x tk) = L at p1 f1 t1 ⊢
    obtain ⟨e1, u1, wasD, gave⟩ := L
    dsimp only at p1 f1 t1 ⊢
    rw [Array.toList_push] at p1
    obtain ⟨k1, n1, q1⟩ := Ents.perm p1 (ks := ks ++ [x]) (Paired.snoc hs.en ⟨tk, rfl⟩)
    have nd1 : k1.Nodup := q1.nodup_iff.mpr (nd_snoc hs.nd hx)
    have l1 : k1.length < 4000 := by rw [q1.length_eq, List.length_append, List.length_singleton]; exact hl
    have b1 : e1.size ≤ sizeLine := by
      have : e1.size = k1.length := by rw [← n1.len, Array.length_toList]
      exact Nat.le_trans (by omega) (Nat.le_of_lt (szn (n := 99999) (by omega)))
    refine wpAny_bind (gave_ok (fun b => by cases b <;> rfl) gave ?_)
    have tail : ∀ u2 : SetTable, u2.fits e1.size = true → TabK (!byText w) u2 → ∀ R : Option Bool → Shared → Prop, (∀ h', Heap.SameBut a s.heap h' → SX w a (ks ++ [x]) h' → R (some true) { s with heap := h' }) → ∀ g : Bool → Sem Unit, (∀ b, g b = match b with | true => rule "set.scan.the-table-gave-way" | false => pure ()) →
        wpAny (model P w) A (do
          storeSet a e1 u2
          if (!wasD && u2.tooFull) = true then
            let (es, t, gave) := relayAll u2 e1 (SetTable.grown e1.size)
            g gave
            storeSet a es t
          return some true) R E s := by
      intro u2 f2 t2 R hR g hg
      refine wpAny_bind (wpAny_storeSet_of ho hs.da ?_ b1)
      obtain ⟨o', ho', hs'⟩ := put_SX (s := s) ho hs n1 nd1 l1 f2 t2
      have sb1 := Heap.SameBut.update s.heap a (Obj.putSet e1 u2)
      by_cases hc : (!wasD && u2.tooFull) = true
      · rw [if_pos hc]
        have p3 := relayAll_perm u2 e1 (SetTable.grown e1.size)
        have f3 := relayAll_fits u2 e1 (SetTable.grown e1.size)
        have t3 := relayAll_tab t2 e1 (SetTable.grown e1.size)
        generalize relayAll u2 e1 (SetTable.grown e1.size) = L at p3 f3 t3 ⊢
        obtain ⟨e3, u3, gave3⟩ := L
        dsimp only at p3 f3 t3 ⊢
        obtain ⟨k3, n3, q3⟩ := Ents.perm p3 n1
        have z3 : e3.size = e1.size := by rw [← Array.length_toList, p3.length_eq, Array.length_toList]
        refine wpAny_bind (gave_ok hg gave3 ?_)
        refine wpAny_bind (wpAny_storeSet_of ho' hs'.da ?_ (by rw [z3]; exact b1))
        obtain ⟨o3, ho3, hs3⟩ := put_SX (s := { s with heap := s.heap.update a (Obj.putSet e1 u2) }) ho' hs' n3 (q3.nodup_iff.mpr nd1) (by rw [q3.length_eq]; exact l1) f3 t3
        exact wpAny_pure (hR _ (sb1.trans (Heap.SameBut.update _ a _)) ⟨o3, e3, _, u3, k3, ho3, hs3, q3.trans q1⟩)
      · rw [if_neg hc]
        exact wpAny_pure (hR _ sb1 ⟨o', e1, _, u2, k1, ho', hs', q1⟩)
    by_cases hp : u1.plain = true
    · rw [if_pos hp]
      refine wpAny_bind ?_
      rw [hashByValue_scannable 8 (x := Value.int x tk) rfl]
      refine wpAny_pure ?_
      refine tail u1 f1 t1 _ (fun h' sb sx => ?_) _ (fun b => by cases b <;> rfl)
      exact wpAny_pure (h2 hx h' sb sx)
    · rw [if_neg hp]
      refine wpAny_bind (wpAny_pure ?_)
      refine tail u1 f1 t1 _ (fun h' sb sx => ?_) _ (fun b => by cases b <;> rfl)
      exact wpAny_pure (h2 hx h' sb sx)
end
end L2
set_option Elab.async false
set_option linter.all false
set_option maxRecDepth 100000
namespace L2
open PySem PySem.Spec PyProof.Rows
end L2
set_option Elab.async false
set_option linter.all false
set_option maxRecDepth 100000
namespace L2
open PySem PySem.Spec PyProof.Rows
section
variable {M : Model} {A : Around} {E : Value → Shared → Prop} {s : Shared}
end
section
variable {P : Program} {w : World} {A : Around} {E : Value → Shared → Prop} {s : Shared} {I S : Addr} {ks : List Int} {o : Obj} {es : Array (Int × Value)} {ep i : Nat} {t : SetTable} {first : Value}
end
end L2
set_option Elab.async false
set_option linter.all false
set_option maxRecDepth 100000
namespace L2
open PySem PySem.Spec PyProof.Rows
section
variable {P : Program} {w : World} {A : Around} {E : Value → Shared → Prop} {s : Shared} {I S : Addr} {ks : List Int} {o : Obj} {es : Array (Int × Value)} {ep i : Nat} {t : SetTable}
def SetAt (w : World) (S : Addr) (es : Array (Int × Value)) (ep : Nat) (t : SetTable) (ks : List Int) (h : Heap) : Prop := ∃ o, h.get? S = some o ∧ SetIn w o es ep t ks
theorem SetAt.at {h h' : Heap} (x : SetAt w S es ep t ks h) (k : ∀ o, h.get? S = some o → h'.get? S = some o) : SetAt w S es ep t ks h' := let ⟨o, e, r⟩ := x; ⟨o, k o e, r⟩
end
end L2
set_option Elab.async false
set_option linter.all false
set_option maxRecDepth 100000
namespace L2
open PySem PySem.Spec PyProof.Rows
section
variable {P : Program} {w : World} {A : Around} {E : Value → Shared → Prop} {s : Shared} {S : Addr} {ks ms : List Int} {o : Obj} {es : Array (Int × Value)} {ep i : Nat} {t : SetTable}
end
end L2
set_option Elab.async false
set_option linter.all false
set_option maxRecDepth 100000
namespace L2
open PySem PySem.Spec PyProof.Rows
section
variable {P : Program} {w : World} {A : Around} {E : Value → Shared → Prop} {s : Shared} {S : Addr} {ks ms : List Int} {o : Obj} {es : Array (Int × Value)} {ep i : Nat} {t : SetTable}
theorem len_of_set {Q : Value → Shared → Prop} (hS : SetAt w S es ep t ks s.heap) (h : ∀ tk n, Q (.int ks.length tk) { s with toks := n }) : wpAny (model P w) A (call (.builtin "len") [.ref S]) Q E s := by
  obtain ⟨o, ho, hs⟩ := hS
  have zb := hs.bound
  have eb : scanBound = 4096 := rfl
  have e := hs.size
  refine call_len_set ho hs.ex hs.da hs.ft (by omega) ?_
  rw [e]
  exact h _ _
def dstep (acc : List Int) (x : Int) : List Int := if x ∈ acc then acc else acc ++ [x]
def dd (ns : List Int) : List Int := ns.foldl dstep []
theorem dd_snoc (ns : List Int) (x : Int) : dd (ns ++ [x]) = dstep (dd ns) x := by unfold dd; rw [List.foldl_append]; rfl
theorem dstep_mem {acc : List Int} {x y : Int} : y ∈ dstep acc x ↔ y ∈ acc ∨ y = x := by
  unfold dstep
  split
  · rename_i h
    exact ⟨.inl, fun z => z.elim id fun e => e ▸ h⟩
  · simp
theorem fold_mem : ∀ (ns acc : List Int) (y : Int), y ∈ ns.foldl dstep acc ↔ y ∈ acc ∨ y ∈ ns
  | [], acc, y => by simp
  | x :: r, acc, y => by
    rw [List.foldl_cons, fold_mem r, dstep_mem, List.mem_cons, or_assoc]
theorem dd_mem {ns : List Int} {y : Int} : y ∈ dd ns ↔ y ∈ ns := by unfold dd; rw [fold_mem]; simp
theorem fold_nd : ∀ (ns acc : List Int), acc.Nodup → (ns.foldl dstep acc).Nodup
  | [], acc, h => h
  | x :: r, acc, h => by
    rw [List.foldl_cons]
    refine fold_nd r _ ?_
    unfold dstep
    split
    · exact h
    · rename_i hx; exact nd_snoc h hx
theorem dd_nd (ns : List Int) : (dd ns).Nodup := fold_nd ns [] List.nodup_nil
theorem dd_len (ns : List Int) : (dd ns).length ≤ ns.length := (dd_nd ns).length_le_of_subset fun _ h => dd_mem.mp h
theorem SX_add {x : Int} {tk : Tok} {Q : Bool → Shared → Prop} (hS : SX w S ms s.heap) (hl : ms.length + 1 < 4000)
    (h : ∀ b h', Heap.SameBut S s.heap h' → SX w S (dstep ms x) h' → Q b { s with heap := h' }) : wpAny (model P w) A (setAddHashed S (.int x tk) (hashInt x)) Q E s := by
  obtain ⟨o, es, ep, t, ks, ho, hs, hp⟩ := hS
  refine add_SX ho hs (by rw [hp.length_eq]; exact hl) (fun hx => ?_) fun hx h' sb sx => ?_
  · have e : dstep ms x = ms := if_pos (hp.mem_iff.mp hx)
    have := h false s.heap (Heap.SameBut.refl _ _) (by rw [e]; exact ⟨o, es, ep, t, ks, ho, hs, hp⟩)
    exact this
  · have e : dstep ms x = ms ++ [x] := if_neg fun z => hx (hp.mem_iff.mpr z)
    exact h true h' sb (by rw [e]; exact sx.perm (hp.append_right _))
theorem upd_loop {I l : Addr} {items : Array Value} {ns : List Int} {R : Result → Shared → Prop} (hh : A.handled = none) (hne : l ≠ I) (hSI : S ≠ I) (hSl : S ≠ l) (hi : IntsAre items.toList ns) (hb : ns.length + 1 < 4000) :
    ∀ (k i : Nat) (s : Shared), items.size - i = k → i ≤ items.size → s.heap.IsListIter I l i → s.heap.IsList l items → SX w S (dd (ns.take i)) s.heap →
      (∀ s', (∀ b o, b ≠ S → b ≠ I → s.heap.get? b = some o → s'.heap.get? b = some o) → s'.os = s.os → s'.gens = s.gens → s'.drawn = s.drawn → SX w S (dd ns) s'.heap → R (.ok (.ret .none)) s') →
      codeAny (model P w) A (.builtin "set.update.loop" ⟨[.ref S, .ref I], []⟩) R s := by
  have hsz : items.size = ns.length := by rw [← Array.length_toList]; exact IntsAre.length hi
  intro k
  induction k with
  | zero =>
    intro i s hk hil it hl hS hR
    have e : i = items.size := by omega
    subst e
    refine codeAny_builtin PyProof.Rows.F.entry_set_update_loop ?_
    rw [Around.under_plainId PyProof.Rows.F.plain_set_update_loop _]
    show wpAny _ A.in1 (pyNext (.ref I) >>= _) _ _ s
    refine wpAny_bind (wpAny_pyNext_list_end (show A.in1.handled = none from hh) it hl (by simp) fun h' eb => ?_)
    show wpAny _ A.in1 (ret Value.none) _ _ _
    refine wpAny_pure (hR _ (fun b o _ hb e => eb b o hb e) rfl rfl rfl ?_)
    rw [List.take_of_length_le (by omega)] at hS
    exact hS.at fun o e => eb S o hSI e
  | succ k ih =>
    intro i s hk hil it hl hS hR
    have hlt : i < items.size := by omega
    have hin : i < ns.length := by omega
    obtain ⟨tk, hv⟩ := IntsAre.int_at hi i items[i] (by simp [hlt])
    have egd : ns.getD i 0 = ns[i] := by simp [hin]
    rw [egd] at hv
    refine codeAny_builtin PyProof.Rows.F.entry_set_update_loop ?_
    rw [Around.under_plainId PyProof.Rows.F.plain_set_update_loop _]
    show wpAny _ A.in1 (pyNext (.ref I) >>= _) _ _ s
    refine wpAny_bind (wpAny_pyNext_list_item it hl (x := items[i]) (by simp [hlt]) fun h1 it1 sb1 => ?_)
    rw [hv]
    show wpAny _ A.in1 (holding [Value.int ns[i] tk] (setAdd S (.int ns[i] tk)) >>= _) _ _ _
    refine wpAny_bind (wpAny_holding ?_)
    unfold setAdd
    refine wpAny_holding (wpAny_bind ((intKind P w).pyHash (k := ns[i]) (intKind_is _ _ _ _) ?_))
    have hS1 : SX w S (dd (ns.take i)) h1 := hS.at fun o e => (sb1.2 S hSI).trans e
    have dl := dd_len (ns.take i)
    rw [List.length_take] at dl
    refine SX_add (s := { s with heap := h1, toks := s.toks + 1 }) hS1 (by omega) fun b h2 sb2 sx => ?_
    have e2 : dstep (dd (ns.take i)) ns[i] = dd (ns.take (i + 1)) := by rw [List.take_succ_eq_append_getElem hin, dd_snoc]
    rw [e2] at sx
    have hl1 : h1.IsList l items := by obtain ⟨o, e, r⟩ := hl; exact ⟨o, (sb1.2 l hne).trans e, r⟩
    refine wpAny_pure ⟨plainId_quiet PyProof.Rows.F.plain_set_update_loop _, ih (i + 1) _ (by omega) hlt ?_ ?_ sx fun s' kp os' gs' ds' sx' => ?_⟩
    · obtain ⟨o, e, r⟩ := it1
      exact ⟨o, (sb2.2 I hSI.symm).trans e, r⟩
    · obtain ⟨o, e, r⟩ := hl1
      exact ⟨o, (sb2.2 l hSl.symm).trans e, r⟩
    · exact hR s' (fun b o h1' h2' e => kp b o h1' h2' ((sb2.2 b h1').trans ((sb1.2 b h2').trans e))) os' gs' ds' sx'
end
end L2
set_option Elab.async false
set_option linter.all false
set_option maxRecDepth 100000
set_option maxHeartbeats 3000000
namespace L2
open PySem PySem.Spec PyProof.Rows
section
variable {P : Program} {w : World} {A : Around} {E : Value → Shared → Prop} {s : Shared} {S : Addr} {ks ms : List Int}
def newSetObj (w : World) : Obj := { cls := .type "set", dict := none, data := .set #[] 0 (.fresh 0 0 (!byText w)) }
theorem newSet_SX {h : Heap} {a : Addr} (e : h.get? a = some (newSetObj w)) : SX w a [] h :=
  ⟨_, #[], 0, _, [], e, ⟨⟨rfl, rfl, rfl⟩, rfl, .nil, List.nodup_nil, by decide, rfl, ⟨rfl, fun _ => .nil⟩⟩, .refl _⟩
theorem set_new (a : Value) {Q : Value → Shared → Prop} (h : Q (.ref s.heap.objs.size) { s with heap := s.heap.push (newSetObj w) }) :
    codeAny (model P w) A (.call (.builtin "set.__new__") ⟨[.type "set", a], []⟩) (wants Q E) s := by
  refine codeAny_of_tree ?_
  show wpAny _ A.in1 (do checkBuiltinCall "set.__new__" ⟨[.type "set", a], []⟩; again (.builtin "set.__new__" ⟨[.type "set", a], []⟩)) _ _ s
  refine wpAny_bind (wpAny_of_eq (PySem.F.newCall_set_1 a) (wpAny_pure ⟨plainId_quiet PySem.F.plain_set_new _, codeAny_builtin PySem.F.entry_set_new ?_⟩))
  rw [Around.under_plainId PySem.F.plain_set_new _]
  unfold Builtin.«set.__new__» Builtin.Frozenset.newClass
  have hsub := sub_set_self
  obtain ⟨hp, g, d, tk, os⟩ := s
  dsimp only
  wp_walk
  refine wpAny_askSetting (wpAny_pure ?_)
  dsimp only
  simp only [newObj]
  exact wpAny_bind (wpAny_alloc (wpAny_pure (wpAny_pure h)))
theorem set_init {l : Addr} {items : Array Value} {ns : List Int} {R : Result → Shared → Prop} (hh : A.handled = none) (ho : s.heap.get? S = some (newSetObj w)) (hl : s.heap.IsList l items) (hne : S ≠ l) (hi : IntsAre items.toList ns) (hb : ns.length + 1 < 4000)
    (hR : ∀ s', (∀ b o, b ≠ S → s.heap.get? b = some o → s'.heap.get? b = some o) → s'.os = s.os → s'.gens = s.gens → SX w S (dd ns) s'.heap → R (.ok (.ret .none)) s') :
    wpAny (model P w) A.in1 (Builtin.«set.__init__» ⟨[.ref S, .ref l], []⟩)
      (fun fin s' => match fin with | .done f => R (.ok f) s' | .again c' => c'.quiet = true ∧ codeAny (model P w) A c' R s') (fun e s' => R (.error e) s') s := by
  obtain ⟨ol, hol, hcl, nl, hdl⟩ := id hl
  have hT : s.TypeIs (.ref S) "set" := ⟨_, ho, rfl⟩
  have hTl : s.TypeIs (.ref l) "list" := ⟨_, hol, hcl⟩
  have q1 := PySem.F.sub_list_set
  have q2 := PySem.F.sub_list_frozenset
  unfold Builtin.«set.__init__» noKeywords
  generalize hPI : Builtin.Frozenset.updateFrom = UF
  obtain ⟨hp, g, d, tk, os⟩ := s
  unfold newSetObj at ho
  wp_walk
  subst hPI
  unfold Builtin.Frozenset.updateFrom Builtin.Frozenset.isAnySet
  refine wpAny_bind ?_
  show wpAny _ _ (isInstance (.ref l) (.type "set") >>= fun b => _) _ _ _
  refine wpAny_bind (wpAny_isInstance hTl q1 ?_)
  show wpAny _ _ (isInstance (.ref l) (.type "frozenset")) _ _ _
  refine wpAny_isInstance hTl q2 ?_
  rw [if_neg Bool.false_ne_true]
  refine wpAny_bind (wpAny_typeOf hTl ?_)
  rw [if_neg (by decide)]
  refine wpAny_bind (wpAny_pyIter_list hl ?_)
  refine wpAny_bind (wpAny_runValue ?_)
  have hSh : S < hp.objs.size := Heap.lt_size ho
  have hlh : l < hp.objs.size := Heap.lt_size hol
  refine upd_loop (show A.in1.handled = none from hh) (Nat.ne_of_lt hlh) (Nat.ne_of_lt hSh) hne hi hb (items.size - 0) 0 _ rfl (Nat.zero_le _) ⟨_, Heap.get?_push_size _ rfl, rfl, rfl⟩ ?_ ?_ fun s' kp os' gs' ds' sx => ?_
  · exact ⟨ol, Heap.get?_push_of_some _ hol, hcl, nl, hdl⟩
  · rw [List.take_zero]
    exact newSet_SX (Heap.get?_push_of_some _ ho)
  · refine wpAny_pure (wpAny_pure (hR s' (fun b o hbS e => kp b o hbS (Nat.ne_of_lt (Heap.lt_size e)) (Heap.get?_push_of_some _ e)) os' gs' sx))
theorem set_of_list {l : Addr} {items : Array Value} {ns : List Int} {Q : Value → Shared → Prop} (hh : A.handled = none) (hl : s.heap.IsList l items) (hi : IntsAre items.toList ns) (hb : ns.length + 1 < 4000)
    (h : ∀ s', SX w s.heap.objs.size (dd ns) s'.heap → (∀ b o, s.heap.get? b = some o → s'.heap.get? b = some o) → s'.os = s.os → s'.gens = s.gens → Q (.ref s.heap.objs.size) s') : wpAny (model P w) A (call (.type "set") [.ref l]) Q E s := by
  obtain ⟨c, tl, hmro⟩ := PySem.F.called_set.mro
  have hmade := PySem.F.called_set.made
  have hsub := PySem.F.called_set.sub
  have n1 := PySem.F.called_set.notType
  have n2 := PySem.F.called_set.canCreate
  have hct := PySem.F.typeCall_set_1 (.ref l)
  refine wpAny_call (codeAny_of_tree ?_)
  show wpAny _ _ (callAny (.type "set") _) _ _ _
  refine wpAny_pure ⟨Code.quiet_builtin _ (by decide +kernel), codeAny_builtin PySem.F.entry_type_call ?_⟩
  rw [Around.under_plain (weight_type_call_type "set" [.ref l] []) rfl]
  repeat (any_goals (first | assumption | wp_step))
  refine codeAny_mono (set_new (E := E) (Q := fun v s1 => v = .ref s.heap.objs.size ∧ s1 = { s with heap := s.heap.push (newSetObj w) }) (.ref l) ⟨rfl, rfl⟩) fun r s1 hr => ?_
  cases r with
  | error e => exact hr
  | ok fl =>
    cases fl with
    | ret v =>
      obtain ⟨e1, e2⟩ := hr
      subst e1 e2
      have hS : (s.heap.push (newSetObj w)).get? s.heap.objs.size = some (newSetObj w) := Heap.get?_push_size _ rfl
      have hT : Shared.TypeIs { s with heap := s.heap.push (newSetObj w) } (.ref s.heap.objs.size) "set" := ⟨_, hS, rfl⟩
      have hlu := PySem.F.called_set.init.lookup
      have hbd := PySem.F.called_set.init.bind (.ref s.heap.objs.size)
      repeat (any_goals (first | assumption | wp_step))
      refine codeAny_mono (codeAny_call_builtin (R := wants (fun r s2 => r = .none ∧ Q (.ref s.heap.objs.size) s2) E) PySem.F.called_set.init.plain PySem.F.entry_set_init (check_set_init_1 hT ?_)) fun r2 s2 hr2 => ?_
      · obtain ⟨ol, hol, hcl⟩ := id hl
        refine set_init (A := A.in1) (show A.in1.handled = none from hh) hS ⟨ol, Heap.get?_push_of_some _ hol, hcl⟩ (Nat.ne_of_gt (Heap.lt_size hol)) hi hb fun s' kp os' gs' sx => ⟨rfl, h s' sx (fun b o e => kp b o (Nat.ne_of_lt (Heap.lt_size e)) (Heap.get?_push_of_some _ e)) os' gs'⟩
      · cases r2 with
        | error e => exact hr2
        | ok fl2 =>
          cases fl2 with
          | ret v2 =>
            obtain ⟨e1, hq⟩ := hr2
            subst e1
            repeat (any_goals (first | assumption | wp_step))
          | _ => exact hr2.elim
    | _ => exact hr.elim
end
end L2
set_option Elab.async false
set_option linter.all false
set_option maxRecDepth 100000
namespace L2
open PySem PySem.Spec PyProof.Rows
theorem SX.ok {P : Program} {w : World} {H : Hp} {h : Heap} {a : Addr} {ms : List Int} (x : SX w a ms h) : ObjOk P w H h a (.ext (SX w a ms)) :=
  ⟨x, by obtain ⟨o, _, _, _, _, e, _⟩ := x; exact ⟨o, e⟩, fun _ _ y k => y.at k⟩
section
variable {X : Cx}
theorem Inv.new' {pins : List (Addr × Obj)} {σ : L2.St} {H : Hp} {s s' : Shared} {a : Addr} {o : HO} (I : Inv X pins σ H s) (k : ∀ b u, s.heap.get? b = some u → s'.heap.get? b = some u) (hp : s.heap.objs.size ≤ a) (hos : s'.os = s.os) (hgs : s'.gens = s.gens)
    (new : ObjOk X.prog X.w (upd H a o) s'.heap a o) : Inv X pins σ (upd H a o) s' :=
  I.call' (ch := []) hos (Un.laid k hp (I.hok.fresh hp)) (I.hok.laid k hp new) (by rw [hgs]; exact I.bare) fun b hb => by cases hb
theorem SX_at {w : World} {a : Addr} {ms : List Int} {h : Heap} (x : SX w a ms h) : ∃ es ep t ks, SetAt w a es ep t ks h ∧ ks.Perm ms := by
  obtain ⟨o, es, ep, t, ks, e, r, p⟩ := x
  exact ⟨es, ep, t, ks, ⟨o, e, r⟩, p⟩
theorem cSet (w : World) (K : PySem.W.Frag) (hc : X.calm = true := by rfl) (hw : X.w = w := by rfl) (hK : X.K = K := by rfl) : CallR X (.type "set") (fun xs H Q => ∃ p ns, xs = [.ref p] ∧ SqL K H p (ns.map V.int) ∧ ns.length < 3000 ∧
    ∀ a, H a = none → Q (.ref a) (upd H a (.ext (SX w a (dd ns))))) := by
  subst hw hK
  intro pins s σ H xs us Q I r h
  obtain ⟨p, ns, e, hq, hl, q⟩ := h
  subst e
  obtain ⟨u, e, rx⟩ := vals1 r
  subst e
  cases rx
  obtain ⟨its, rv, pl, hz⟩ := I.list hq
  refine set_of_list (ns := ns) (I.ok.hd hc) pl.isList (by simpa using intsAre_of rv) (by omega) fun s' sx kp os' gs' => ?_
  exact ⟨.ref s.heap.objs.size, _, I.new' kp (Nat.le_refl _) os' gs' sx.ok, rfl, q _ I.fresh⟩
theorem cLenS (w : World) (hw : X.w = w := by rfl) : CallR X (.builtin "len") (fun xs H Q => ∃ p ms, xs = [.ref p] ∧ H p = some (.ext (SX w p ms)) ∧ Q (.int ms.length) H) := by
  subst hw
  intro pins s σ H xs us Q I r h
  obtain ⟨p, ms, e, hp, q⟩ := h
  subst e
  obtain ⟨u, e, rx⟩ := vals1 r
  subst e
  cases rx
  obtain ⟨sx, _⟩ := (show ObjOk X.prog X.w H s.heap p (.ext (SX X.w p ms)) from I.hok p _ hp)
  obtain ⟨es, ep, t, ks, sa, pm⟩ := SX_at sx
  refine len_of_set sa fun tk n => ⟨.int ms.length, H, I.tok n, ⟨tk, ?_⟩, q⟩
  rw [pm.length_eq]
end
end L2
set_option Elab.async false
set_option linter.all false
set_option maxRecDepth 100000
namespace L2
theorem Short.lt {ps : List (List Int)} {qs : List Nat} (s : Short ps qs) : ∀ q ∈ qs, q < ps.length := fun q m => by
  obtain ⟨X, hX, hq⟩ := s.few
  obtain ⟨p, e, _⟩ := hq q m
  exact (List.getElem?_eq_some_iff.mp e).1
theorem Short.len {ps : List (List Int)} {qs : List Nat} (s : Short ps qs) : qs.length ≤ ps.length := by
  have nd : qs.Nodup := s.up.imp fun h => Nat.ne_of_lt h
  have := nd.length_le_of_subset (l₂ := List.range ps.length) fun q m => List.mem_range.mpr (s.lt q m)
  rw [List.length_range] at this
  exact this
end L2
set_option Elab.async false
set_option linter.all false
set_option maxRecDepth 100000
namespace L2
open PySem PySem.Spec PyProof.Rows
section
variable {X : Cx} {tg : Expr}
end
end L2
set_option Elab.async false
set_option linter.all false
set_option maxRecDepth 100000
namespace L2
open PySem PySem.Spec PyProof.Rows
section
variable {X : Cx} {pos : Pos}
end
theorem getD_get {hs : List Int} {k : Nat} (h : k < hs.length) : hs.getD k 0 = hs[k] := by simp [h]
theorem getD_getL {hs : List (List Int)} {k : Nat} (h : k < hs.length) : hs.getD k [] = hs[k] := by simp [h]
end L2
set_option Elab.async false
set_option linter.all false
set_option maxRecDepth 100000
namespace L2
open PySem PySem.Spec PyProof.Rows
def lp (mask : Nat) : Nat → Nat × Nat → Nat × Nat
  | 0, x => x
  | n + 1, x => lp mask n (SetTable.leap mask x.1 x.2)
end L2
set_option Elab.async false
set_option linter.all false
set_option maxRecDepth 100000
namespace L2
open PySem PySem.Spec PyProof.Rows
section
variable {P : Program} {w : World} {A : Around} {E : Value → Shared → Prop} {s : Shared} {S : Addr} {ks ms : List Int} {es : Array (Int × Value)} {ep : Nat} {t : SetTable}
end
end L2
set_option Elab.async false
set_option linter.all false
set_option maxRecDepth 100000
namespace L2
open PySem PySem.Spec PyProof.Rows
section
variable {P : Program} {w : World} {A : Around} {E : Value → Shared → Prop} {s : Shared} {S : Addr} {ks ms : List Int} {es : Array (Int × Value)} {ep : Nat} {t : SetTable}
end
end L2
set_option Elab.async false
set_option linter.all false
set_option maxRecDepth 100000
namespace L2
open PySem PySem.Spec PyProof.Rows
section
variable {P : Program} {w : World} {A : Around} {E : Value → Shared → Prop} {s : Shared} {S T : Addr} {ks ms ns : List Int} {es : Array (Int × Value)} {ep : Nat} {t : SetTable}
end
end L2
set_option Elab.async false
set_option linter.all false
set_option maxRecDepth 100000
namespace L2
open PySem PySem.Spec PyProof.Rows
section
variable {P : Program} {w : World} {A : Around} {E : Value → Shared → Prop} {s : Shared} {S T : Addr} {ks ms ns : List Int} {es : Array (Int × Value)} {ep : Nat} {t : SetTable}
end
end L2
set_option Elab.async false
set_option linter.all false
set_option maxRecDepth 100000
namespace L2
open PySem PySem.Spec PyProof.Rows
section
variable {P : Program} {w : World} {A : Around} {E : Value → Shared → Prop} {s : Shared} {S T r : Addr} {ks ms ns : List Int} {es : Array (Int × Value)} {ep : Nat} {t : SetTable}
end
end L2
set_option Elab.async false
set_option linter.all false
set_option maxRecDepth 100000
namespace L2
open PySem PySem.Spec PyProof.Rows
section
variable {P : Program} {w : World} {A : Around} {E : Value → Shared → Prop} {s : Shared} {S T r : Addr} {ks kr ms ns : List Int} {es er : Array (Int × Value)} {ep epr : Nat} {t tr : SetTable}
end
end L2
set_option Elab.async false
set_option linter.all false
set_option maxRecDepth 100000
namespace L2
open PySem PySem.Spec PyProof.Rows
section
variable {P : Program} {w : World} {A : Around} {E : Value → Shared → Prop} {s : Shared} {S T r : Addr} {ks kr ms ns : List Int} {es er : Array (Int × Value)} {ep epr : Nat} {t tr : SetTable}
end
end L2
set_option Elab.async false
set_option linter.all false
set_option maxRecDepth 100000
namespace L2
open PySem PySem.Spec PyProof.Rows
section
variable {P : Program} {w : World} {A : Around} {E : Value → Shared → Prop} {s : Shared} {S T r : Addr} {ks kr ms ns : List Int} {es er : Array (Int × Value)} {ep epr : Nat} {t tr : SetTable}
end
end L2
set_option Elab.async false
set_option linter.all false
set_option maxRecDepth 100000
namespace L2
open PySem PySem.Spec PyProof.Rows
section
variable {X : Cx}
end
end L2
set_option Elab.async false
set_option linter.all false
set_option maxRecDepth 100000
namespace L2
open PySem PySem.Spec PyProof.Rows
section
variable {X : Cx}
end
end L2
set_option Elab.async false
set_option linter.all false
set_option maxRecDepth 100000
namespace L2
open PySem PySem.Spec PyProof.Rows
section
variable {X : Cx}
end
end L2
set_option Elab.async false
set_option linter.all false
set_option maxRecDepth 100000
namespace L2
open PySem PySem.Spec PyProof.Rows
section
variable {X : Cx}
end
section
variable {X : Cx}
end
end L2
set_option Elab.async false
set_option linter.all false
set_option maxRecDepth 100000
namespace L2
open PySem PySem.Spec PyProof.Rows
section
variable {X : Cx}
end
end L2
set_option Elab.async false
set_option linter.all false
set_option maxRecDepth 100000
namespace L2
open PySem PySem.Spec PyProof.Rows
section
open PySem.AutoSeq1 (wpAny_loadPart')
open PySem.MeetsSeq PySem.MeetsSeq2 PySem.MeetsSeq3
end
section
variable {X : Cx}
end
end L2
set_option Elab.async false
set_option linter.all false
set_option maxRecDepth 100000
namespace L2
open PySem PySem.Spec PyProof.Rows
theorem comp_walk2 {J : It} {H1 : Hp} {js : List (Option Nat)} {σ : L2.St} {tc : TT} {te : TE} {Q : VK} (n : Nat) (item : Nat → V) (p : Nat → Bool) (P : Addr → Nat → V → Hp → Prop) (hn : n < 100000)
    (mono : ∀ acc i v H H', P acc i v H → SameBut acc H H' → P acc i v H')
    (hgo : ∀ i H, i < n → Same H1 H → J.go i H) (hst : ∀ H, Same H1 H → J.stop n H) (hy : ∀ i H x H', i < n → Same H1 H → J.yld i H x H' → H' = H ∧ x = item i)
    (hc : ∀ i, i < n → ∀ H2 R, Same H1 H2 → (∀ H3, Same H2 H3 → R (p i) H3) → tc (some (item i) :: pick σ js) H2 R)
    (he : ∀ acc i, i < n → p i = true → ∀ H2 R, Same H1 H2 → H1 acc = none → H2 acc ≠ none → (∀ v H3, Same H2 H3 → P acc i v H3 → R v H3) → te (some (item i) :: pick σ js) H2 R)
    (hQ : ∀ acc vs H', Same H1 H' → H1 acc = none → H' acc = some (.lst vs) → Paired (fun i v => P acc i v H') ((List.range n).filter p) vs → Q (.ref acc) H') :
    CompB J H1 (none :: js) (gName 0) tc te σ Q := by
  intro acc hacc
  refine ⟨fun i m ys H => m = n - i ∧ i ≤ n ∧ Same H1 H ∧ H acc = some (.lst ys) ∧ Paired (fun k v => P acc k v H) ((List.range i).filter p) ys, ⟨n, by simp, Nat.zero_le _, Same.new hacc, upd_same, .nil⟩, ?_⟩
  rintro i m ys H ⟨rfl, hi, s1, ha, hp⟩
  by_cases hlt : i < n
  · refine .inr ⟨hgo i H hlt s1, fun ys' H' => i < n ∧ Same H1 H' ∧ H' acc = some (.lst ys') ∧ Paired (fun k v => P acc k v H') ((List.range (i + 1)).filter p) ys', fun ys' H' ⟨z, a, b, c⟩ => ⟨n - (i + 1), by omega, rfl, hlt, a, b, c⟩, fun x H' y => ?_⟩
    obtain ⟨rfl, rfl⟩ := hy i H x H' hlt s1 y
    refine ⟨kept1, hc i hlt _ _ s1 fun H2 s2 => ⟨fun hb => ?_, fun hb => ?_⟩⟩
    · have ha2 := s2 _ _ ha
      refine he acc i hlt hb _ _ (s1.trans s2) hacc (by rw [ha2]; simp) fun v H3 s3 pv => ?_
      have hlen : ys.length ≤ i := by
        rw [← Paired.length hp]
        exact Nat.le_trans (List.length_filter_le _ _) (by simp)
      refine ⟨s3 _ _ ha2, szn (by omega), hlt, ((s1.trans s2).trans s3).put hacc, upd_same, ?_⟩
      rw [List.range_succ, List.filter_append]
      have e : List.filter p [i] = [i] := by simp [hb]
      rw [e]
      refine Paired.snoc (Paired.mapP hp fun k v q => ?_) ?_
      · exact mono acc k v _ _ (mono acc k v _ _ q (s2.trans s3).but) SameBut.upd
      · exact mono acc i v _ _ pv SameBut.upd
    · refine ⟨hlt, s1.trans s2, s2 _ _ ha, ?_⟩
      rw [List.range_succ, List.filter_append]
      have e : List.filter p [i] = [] := by simp [hb]
      rw [e, List.append_nil]
      exact Paired.mapP hp fun k v q => mono acc k v _ _ q s2.but
  · have e : i = n := by omega
    subst e
    exact .inl ⟨hst H s1, hQ acc ys H s1 hacc ha hp⟩
theorem comp_some {H1 : Hp} {js : List (Option Nat)} {σ : L2.St} {tc : TT} {te : TE} {Q : VK} {n : Nat} (p : Nat → Bool) (hn : n < 100000)
    (hc : ∀ i : Nat, i < n → ∀ H2 R, Same H1 H2 → (∀ H3, Same H2 H3 → R (p i) H3) → tc (some (.int (0 + (i : Int))) :: pick σ js) H2 R)
    (he : ∀ i : Nat, i < n → ∀ H2 R, R (.int ((i : Nat) : Int)) H2 → te (some (.int (0 + (i : Int))) :: pick σ js) H2 R)
    (hQ : ∀ acc H', Same H1 H' → H1 acc = none → H' acc = some (.lst (((List.range n).filter p).map fun (i : Nat) => V.int (i : Int))) → Q (.ref acc) H') : CompB (Itr 0 n) H1 (none :: js) (gName 0) tc te σ Q :=
  comp_walk2 (J := Itr 0 n) (H1 := H1) (js := js) (σ := σ) (tc := tc) (te := te) (Q := Q) n (fun i => .int (0 + (i : Int))) p (fun _ i v _ => v = V.int (i : Int)) hn (fun _ _ _ _ _ h _ => h)
    (fun _ _ h _ => h) (fun _ _ => Nat.le_refl _) (fun _ _ _ _ _ _ y => y) hc (fun _ i hi _ H2 R s _ _ k => he i hi H2 R (k _ H2 (Same.refl _) rfl))
    fun acc vs H' s n' e p => hQ acc H' s n' (by rw [e, paired_map p])
def unl (f : Nat → Int) (st : List Nat) : Nat := (dd (st.map f)).length
theorem comp_list2 {K : PySem.W.Frag} {H1 : Hp} {js : List (Option Nat)} {σ : L2.St} {tc : TT} {te : TE} {Q : VK} {a : Addr} {xs : List V} (p : Nat → Bool) (f : Nat → V) (hl : SqL K H1 a xs) (hn : xs.length < 100000)
    (hc : ∀ (i : Nat) x, xs[i]? = some x → ∀ H2 R, Same H1 H2 → (∀ H3, Same H2 H3 → R (p i) H3) → tc (some x :: pick σ js) H2 R)
    (he : ∀ (i : Nat) x, xs[i]? = some x → p i = true → ∀ H2 R, Same H1 H2 → (∀ H3, Same H2 H3 → R (f i) H3) → te (some x :: pick σ js) H2 R)
    (hQ : ∀ acc H', Same H1 H' → H1 acc = none → H' acc = some (.lst (((List.range xs.length).filter p).map f)) → Q (.ref acc) H') : CompB (Itl K a) H1 (none :: js) (gName 0) tc te σ Q :=
  comp_walk2 (J := Itl K a) (H1 := H1) (js := js) (σ := σ) (tc := tc) (te := te) (Q := Q) xs.length (fun i => xs.getD i .non) p (fun _ i v _ => v = f i) hn (fun _ _ _ _ _ h _ => h)
    (fun i H h s => ⟨xs, xs[i], s.seq hl, by simp [h]⟩) (fun H s => ⟨xs, s.seq hl, Nat.le_refl _⟩)
    (fun i H x H' h s y => ⟨y.1, by have e := y.2 xs (s.seq hl); simp [e]⟩)
    (fun i h H2 R s k => hc i _ (by simp [h]) H2 R s k) (fun acc i h hp H2 R s n1 n2 k => he i _ (by simp [h]) hp H2 R s fun H3 s3 => k _ H3 s3 rfl)
    fun acc vs H' s n' e p => hQ acc H' s n' (by rw [e, paired_map p])
def brk (f : Nat → Int) (n : Nat) (wd : Str) (k : Int) (st : List Nat) : Bool :=
  if wd = "most" then decide (k < ((unl f (st.filter fun i => decide (i < n)) : Nat) : Int)) else decide (((unl f (st.filter fun i => decide (i < n)) : Nat) : Int) + (st.length : Int) - ((st.filter fun i => decide (i < n)).length : Int) < k)
def fx (hs : List Int) (x : Int) : Nat := hs.findIdx fun y => decide (y = x)
def shN (hs : List Int) (k : Nat) : Nat := (dd (hs.take (fx hs (hs.getD k 0)))).length
def shp (hs : List Int) : List Nat := (List.range hs.length).map (shN hs)
theorem shp_len {hs : List Int} : (shp hs).length = hs.length := by unfold shp; simp
theorem shp_at {hs : List Int} {k : Nat} (h : k < hs.length) : (shp hs)[k]? = some (shN hs k) := by
  unfold shp
  rw [List.getElem?_map, List.getElem?_range h]; rfl
end L2
set_option Elab.async false
set_option linter.all false
set_option maxRecDepth 100000
namespace L2
open PySem PySem.Spec PyProof.Rows
end L2
set_option Elab.async false
set_option linter.all false
set_option maxRecDepth 100000
namespace L2
open PySem PySem.Spec PyProof.Rows
theorem fx_app {l r : List Int} {b : Int} (h : b ∈ l) : fx (l ++ r) b = fx l b := by
  have hl : fx l b < l.length := List.findIdx_lt_length_of_exists ⟨b, h, by simp⟩
  unfold fx at *
  rw [List.findIdx_append, if_pos hl]
theorem fx_new {l : List Int} {b : Int} (h : b ∉ l) : fx (l ++ [b]) b = l.length := by
  have hl : ¬ fx l b < l.length := fun z => by
    have := List.findIdx_getElem (xs := l) (p := fun y => decide (y = b)) (w := z)
    exact h (by rw [← of_decide_eq_true this]; exact List.getElem_mem _)
  unfold fx at *
  rw [List.findIdx_append, if_neg hl]
  simp [List.findIdx_cons]
theorem fx_lt {l : List Int} {b : Int} (h : b ∈ l) : fx l b < l.length := List.findIdx_lt_length_of_exists ⟨b, h, by simp⟩
end L2
set_option Elab.async false
set_option linter.all false
set_option maxRecDepth 100000
namespace L2
open PySem PySem.Spec PyProof.Rows
section
variable {X : Cx}
end
end L2
set_option Elab.async false
set_option linter.all false
set_option maxRecDepth 100000
namespace L2
open PySem PySem.Spec PyProof.Rows
def num (hs : List Int) (b : Int) : Nat := (dd (hs.take (fx hs b))).length
theorem shp_map (hs : List Int) : shp hs = hs.map (num hs) := by
  apply List.ext_getElem
  · rw [shp_len, List.length_map]
  · intro i h1 h2
    rw [shp_len] at h1
    have := shp_at h1
    rw [List.getElem?_eq_getElem (by rw [shp_len]; exact h1)] at this
    rw [Option.some.inj this, List.getElem_map]
    unfold shN num
    rw [getD_get h1]
theorem shp_take {hs : List Int} {k : Nat} (h : k ≤ hs.length) : shp (hs.take k) = (shp hs).take k := by
  rw [shp_map, shp_map, ← List.map_take]
  apply List.map_congr_left
  intro b hb
  have e : fx (hs.take k) b = fx hs b := by
    have := fx_app (r := hs.drop k) hb
    rw [List.take_append_drop] at this
    exact this.symm
  unfold num
  rw [e, List.take_take, Nat.min_eq_left]
  have := fx_lt hb
  rw [List.length_take] at this
  omega
end L2
set_option Elab.async false
set_option linter.all false
set_option maxRecDepth 100000
namespace L2
open PySem PySem.Spec PyProof.Rows
end L2
set_option Elab.async false
set_option linter.all false
set_option maxRecDepth 100000
namespace L2
open PySem PySem.Spec PyProof.Rows
section
variable {X : Cx} {tg l : Expr} {tl : TE}
end
theorem at_nat {st : List Nat} {j : Nat} {x : V} (hx : (st.map fun (i : Nat) => V.int (i : Int))[j]? = some x) : ∃ d : Nat, st[j]? = some d ∧ x = V.int (d : Int) ∧ st.getD j 0 = d := by
  rw [List.getElem?_map] at hx
  obtain ⟨b, h1, h2⟩ := Option.map_eq_some_iff.mp hx
  exact ⟨b, h1, h2.symm, by rw [List.getD_eq_getElem?_getD, h1]; rfl⟩
section
variable {X : Cx}
end
end L2
set_option Elab.async false
set_option linter.all false
set_option maxRecDepth 100000
namespace L2
open PySem PySem.Spec PyProof.Rows
theorem comp_inv {J : It} {H1 : Hp} {js : List (Option Nat)} {σ : L2.St} {te : TE} {Q : VK} (n : Nat) (item : Nat → V) (P : Addr → List V → Hp → Prop) (hn : n < 100000)
    (mono : ∀ acc ys H H', P acc ys H → SameBut acc H H' → P acc ys H') (h0 : ∀ acc H, P acc [] H)
    (hgo : ∀ i H, i < n → Same H1 H → J.go i H) (hst : ∀ H, Same H1 H → J.stop n H) (hy : ∀ i H x H', i < n → Same H1 H → J.yld i H x H' → H' = H ∧ x = item i)
    (he : ∀ acc i ys H2 R, i < n → Same H1 H2 → H1 acc = none → H2 acc = some (.lst ys) → ys.length = i → P acc ys H2 → (∀ v H3, Same H2 H3 → P acc (ys ++ [v]) H3 → R v H3) → te (some (item i) :: pick σ js) H2 R)
    (hQ : ∀ acc ys H', Same H1 H' → H1 acc = none → H' acc = some (.lst ys) → ys.length = n → P acc ys H' → Q (.ref acc) H') :
    CompB J H1 (none :: js) (gName 0) tYes te σ Q := by
  intro acc hacc
  refine ⟨fun i m ys H => m = n - i ∧ i ≤ n ∧ Same H1 H ∧ H acc = some (.lst ys) ∧ ys.length = i ∧ P acc ys H, ⟨n, by simp, Nat.zero_le _, Same.new hacc, upd_same, rfl, h0 _ _⟩, ?_⟩
  rintro i m ys H ⟨rfl, hi, s1, ha, hl, hp⟩
  by_cases hlt : i < n
  · refine .inr ⟨hgo i H hlt s1, fun ys' H' => i < n ∧ Same H1 H' ∧ H' acc = some (.lst ys') ∧ ys'.length = i + 1 ∧ P acc ys' H', fun ys' H' ⟨z, a, b, c, d⟩ => ⟨n - (i + 1), by omega, rfl, hlt, a, b, c, d⟩, fun x H' y => ?_⟩
    obtain ⟨rfl, rfl⟩ := hy i H x H' hlt s1 y
    refine ⟨kept1, ⟨fun _ => ?_, fun hb => by cases hb⟩⟩
    refine he acc i ys _ _ hlt s1 hacc ha hl hp fun v H3 s3 pv => ?_
    refine ⟨s3 _ _ ha, szn (by omega), hlt, (s1.trans s3).put hacc, upd_same, by rw [List.length_append, List.length_singleton, hl], ?_⟩
    exact mono acc _ _ _ pv SameBut.upd
  · have e : i = n := by omega
    subst e
    exact .inl ⟨hst H s1, hQ acc ys H s1 hacc ha hl hp⟩
theorem comp_invR {H1 : Hp} {js : List (Option Nat)} {σ : L2.St} {te : TE} {Q : VK} {n : Nat} (P : Addr → List V → Hp → Prop) (hn : n < 100000)
    (mono : ∀ acc ys H H', P acc ys H → SameBut acc H H' → P acc ys H') (h0 : ∀ acc H, P acc [] H)
    (he : ∀ acc (i : Nat) ys H2 R, i < n → Same H1 H2 → H1 acc = none → H2 acc = some (.lst ys) → ys.length = i → P acc ys H2 → (∀ v H3, Same H2 H3 → P acc (ys ++ [v]) H3 → R v H3) → te (some (.int (0 + (i : Int))) :: pick σ js) H2 R)
    (hQ : ∀ acc ys H', Same H1 H' → H1 acc = none → H' acc = some (.lst ys) → ys.length = n → P acc ys H' → Q (.ref acc) H') :
    CompB (Itr 0 n) H1 (none :: js) (gName 0) tYes te σ Q :=
  comp_inv (J := Itr 0 n) (H1 := H1) (js := js) (σ := σ) (te := te) (Q := Q) n (fun i => .int (0 + (i : Int))) P hn mono h0
    (fun _ _ h _ => h) (fun _ _ => Nat.le_refl _) (fun _ _ _ _ _ _ y => y) he hQ
theorem dec_intP {i j : Int} : decide (i = j) = decide (V.int i = V.int j) := by
  by_cases z : i = j
  · simp [z]
  · simp [z]
theorem atI_int {ns : List Int} {j : Nat} (h : j < ns.length) : atI (ns.map V.int) (j : Int) = some (.int (ns.getD j 0)) := atI_nat (by simp [h])
def RowsL (H : Hp) (rs : List Addr) (ps : List (List Int)) : Prop := Paired (fun r p => H r = some (.lst (p.map V.int))) rs ps
theorem RowsL.len {H : Hp} {rs : List Addr} {ps : List (List Int)} (h : RowsL H rs ps) : rs.length = ps.length := Paired.length h
theorem RowsL.same {H H' : Hp} {rs : List Addr} {ps : List (List Int)} (h : RowsL H rs ps) (s : Same H H') : RowsL H' rs ps := Paired.mapP h fun _ _ q => s _ _ q
theorem RowsL.at {H : Hp} {rs : List Addr} {ps : List (List Int)} (h : RowsL H rs ps) {i : Nat} {p : List Int} (e : ps[i]? = some p) : ∃ r, rs[i]? = some r ∧ H r = some (.lst (p.map V.int)) := pair_get (F := fun (r : Addr) (p : List Int) => H r = some (.lst (p.map V.int))) h e
theorem RowsL.get {H : Hp} {rs : List Addr} {ps : List (List Int)} (h : RowsL H rs ps) {i : Nat} {r : Addr} (e : rs[i]? = some r) : ∃ p, ps[i]? = some p ∧ H r = some (.lst (p.map V.int)) := by
  have hi : i < ps.length := by rw [← h.len]; exact (List.getElem?_eq_some_iff.mp e).1
  obtain ⟨r', e1, e2⟩ := h.at (List.getElem?_eq_getElem hi)
  rw [e] at e1
  cases e1
  exact ⟨_, List.getElem?_eq_getElem hi, e2⟩
structure TieT (H : Hp) (x : Addr × Addr × Str × Int × List Nat) : Prop where
  tp : H x.1 = some (.tup [.str x.2.2.1, .int x.2.2.2.1, .ref x.2.1])
  ts : H x.2.1 = some (.tup (x.2.2.2.2.map fun (i : Nat) => V.int (i : Int)))
  wd : x.2.2.1 = "most" ∨ x.2.2.1 = "least"
  sl : x.2.2.2.2.length ≤ 6
structure TieG (n : Nat) (x : Addr × Addr × Str × Int × List Nat) : Prop where
  k1 : 1 ≤ x.2.2.2.1
  k6 : x.2.2.2.1 ≤ 6
  ne : x.2.2.2.2 ≠ []
  lt : ∀ i ∈ x.2.2.2.2, i < n
  up : x.2.2.2.2.Pairwise (· < ·)
structure Drawn (H : Hp) (l m L T : Addr) (ms : List Int) (rs : List Addr) (ps : List (List Int)) (ts : List (Addr × Addr × Str × Int × List Nat)) (top : Nat) : Prop where
  hl : H l = some (.lst [.ref m, .ref L, .ref T])
  hm : H m = some (.lst (ms.map V.int))
  hL : H L = some (.lst (rs.map V.ref))
  hT : H T = some (.lst (ts.map fun x => V.ref x.1))
  rows : RowsL H rs ps
  mup : ms.Pairwise (· < ·)
  mne : ms ≠ []
  m8 : ms.length ≤ 8
  mb : ∀ b ∈ ms, 1 ≤ b ∧ b ≤ 10 ^ 18
  pup : ∀ p ∈ ps, p.Pairwise (· < ·)
  psub : ∀ p ∈ ps, ∀ b ∈ p, b ∈ ms
  p1 : 1 ≤ ps.length
  ptop : ps.length ≤ top
  p6 : ps.length ≤ 6
  tea : ∀ x ∈ ts, TieT H x
  tg : ∀ x ∈ ts, TieG ps.length x
  t12 : ts.length ≤ 12
end L2
set_option Elab.async false
set_option linter.all false
set_option maxRecDepth 100000
namespace L2
open PySem PySem.Spec PyProof.Rows
theorem dd_le {l r : List Int} (h : ∀ x ∈ l, x ∈ r) : (dd l).length ≤ (dd r).length := (dd_nd l).length_le_of_subset fun x hx => dd_mem.mpr (h x (dd_mem.mp hx))
def kp (f : Nat → Int) (wd : Str) (k : Int) (st : List Nat) : Bool := if wd = "most" then decide (((unl f st : Nat) : Int) ≤ k) else decide (k ≤ ((unl f st : Nat) : Int))
theorem shpI_at {hs : List Int} {i : Nat} (h : i < hs.length) : ((shp hs).map fun (i : Nat) => (i : Int)).getD i 0 = (num hs (hs.getD i 0) : Int) := by
  rw [shp_map, List.map_map]
  simp [h, List.getD_eq_getElem?_getD]
theorem dd_snoc_len (l : List Int) (x : Int) : (dd (l ++ [x])).length = if x ∈ l then (dd l).length else (dd l).length + 1 := by
  rw [dd_snoc]
  unfold dstep
  by_cases h : x ∈ l
  · rw [if_pos h, if_pos (dd_mem.mpr h)]
  · rw [if_neg h, if_neg fun z => h (dd_mem.mp z), List.length_append, List.length_singleton]
def Canon (p : List Int) : Prop := p = (shp p).map fun (i : Nat) => (i : Int)
theorem shp_lt {hs : List Int} {k : Nat} (h : k < hs.length) : shN hs k < (dd hs).length := by
  unfold shN
  have m : hs.getD k 0 ∈ hs := by rw [getD_get h]; exact List.getElem_mem h
  have a := fx_lt m
  have nm : hs.getD k 0 ∉ hs.take (fx hs (hs.getD k 0)) := fun z => by
    obtain ⟨i, hi, e⟩ := List.mem_iff_getElem.mp z
    rw [List.length_take] at hi
    have := List.not_of_lt_findIdx (show i < fx hs (hs.getD k 0) by omega)
    rw [List.getElem_take] at e
    simp at this
    exact this (by rw [e, List.getD_eq_getElem?_getD])
  have e := dd_snoc_len (hs.take (fx hs (hs.getD k 0))) (hs.getD k 0)
  rw [if_neg nm] at e
  have := dd_le (l := hs.take (fx hs (hs.getD k 0)) ++ [hs.getD k 0]) (r := hs) fun x hx => by
    rcases List.mem_append.mp hx with z | z
    · exact List.mem_of_mem_take z
    · rw [List.mem_singleton.mp z]; exact m
  omega
theorem shp_snoc (p : List Int) (x : Int) : shp (p ++ [x]) = shp p ++ [if x ∈ p then num p x else (dd p).length] := by
  have h1 : (shp (p ++ [x])).take p.length = shp p := by
    rw [← shp_take (by simp), List.take_left']; rfl
  have h2 : (shp (p ++ [x]))[p.length]? = some (shN (p ++ [x]) p.length) := shp_at (by simp)
  have e : shp (p ++ [x]) = (shp (p ++ [x])).take p.length ++ [shN (p ++ [x]) p.length] := by
    have hlen : (shp (p ++ [x])).length = p.length + 1 := by rw [shp_len]; simp
    conv => lhs; rw [← List.take_append_drop p.length (shp (p ++ [x]))]
    congr 1
    apply List.ext_getElem?
    intro i
    rw [List.getElem?_drop]
    cases i with
    | zero => rw [Nat.add_zero, h2]; rfl
    | succ i =>
      rw [List.getElem?_eq_none (by omega)]
      simp
  rw [e, h1]
  congr 2
  have eg : (p ++ [x]).getD p.length 0 = x := by simp [List.getD_eq_getElem?_getD]
  unfold shN
  rw [eg]
  by_cases z : x ∈ p
  · rw [if_pos z, fx_app z]
    unfold num
    rw [List.take_append_of_le_length (Nat.le_of_lt (fx_lt z))]
  · rw [if_neg z, fx_new z, List.take_left']; rfl
theorem num_canon {p : List Int} (c : Canon p) {j : Nat} (h : (j : Int) ∈ p) : num p (j : Int) = j := by
  obtain ⟨i, hi, e⟩ := List.mem_iff_getElem.mp h
  have g := shpI_at hi
  rw [← c, getD_get hi, e] at g
  omega
theorem canon_mem {p : List Int} (c : Canon p) {x : Int} (h : x ∈ p) : ∃ j : Nat, x = (j : Int) ∧ j < (dd p).length := by
  rw [c] at h
  obtain ⟨j, hj, e⟩ := List.mem_map.mp h
  obtain ⟨i, hi, e2⟩ := List.mem_iff_getElem.mp hj
  rw [shp_len] at hi
  have g := shp_at hi
  rw [List.getElem?_eq_getElem (by rw [shp_len]; exact hi), e2] at g
  have := shp_lt hi
  refine ⟨j, e.symm, ?_⟩
  have : j = shN p i := Option.some.inj g
  omega
theorem canon_has {p : List Int} (c : Canon p) {j : Nat} (h : j < (dd p).length) : (j : Int) ∈ p := by
  refine Decidable.byContradiction fun n => ?_
  have := (dd_nd p).length_le_of_subset (l₂ := ((List.range (dd p).length).filter fun i => decide (i ≠ j)).map fun (i : Nat) => (i : Int)) fun x hx => by
    have hx := dd_mem.mp hx
    obtain ⟨i, e, hi⟩ := canon_mem c hx
    refine List.mem_map.mpr ⟨i, List.mem_filter.mpr ⟨List.mem_range.mpr hi, decide_eq_true fun z => n ?_⟩, e.symm⟩
    rw [← z, ← e]; exact hx
  rw [List.length_map] at this
  have lt : ((List.range (dd p).length).filter fun i => decide (i ≠ j)).length < (List.range (dd p).length).length := by
    refine Nat.lt_of_le_of_ne (List.length_filter_le _ _) fun z => ?_
    have := List.length_filter_eq_length_iff.mp z j (List.mem_range.mpr h)
    simp at this
  rw [List.length_range] at lt
  omega
theorem canon_nil : Canon [] := rfl
theorem canon_snoc {p : List Int} (c : Canon p) {j : Nat} (h : j ≤ (dd p).length) : Canon (p ++ [(j : Int)]) := by
  unfold Canon
  rw [shp_snoc, List.map_append, ← c]
  congr 1
  by_cases z : (j : Int) ∈ p
  · rw [if_pos z, num_canon c z]; rfl
  · rw [if_neg z]
    have : ¬ j < (dd p).length := fun y => z (canon_has c y)
    have : j = (dd p).length := by omega
    rw [this]; rfl
end L2
set_option Elab.async false
set_option linter.all false
set_option maxRecDepth 100000
namespace L2
open PySem PySem.Spec PyProof.Rows
end L2
set_option Elab.async false
set_option linter.all false
set_option maxRecDepth 100000
namespace L2
open PySem PySem.Spec PyProof.Rows
def blkS (p : List Int) (b : Nat) : List Nat := (List.range p.length).filter fun i => decide (p.getD i 0 = (b : Int))
theorem blkS_mem {p : List Int} {b i : Nat} : i ∈ blkS p b ↔ i < p.length ∧ p.getD i 0 = (b : Int) := by
  unfold blkS
  rw [List.mem_filter, List.mem_range, decide_eq_true_iff]
theorem blkS_ne {p : List Int} (c : Canon p) {b : Nat} (h : b < (dd p).length) : blkS p b ≠ [] := by
  obtain ⟨i, hi, e⟩ := List.mem_iff_getElem.mp (canon_has c h)
  intro z
  have : i ∈ blkS p b := blkS_mem.mpr ⟨hi, by rw [getD_get hi, e]⟩
  rw [z] at this
  cases this
def Beg (p hs : List Int) : Prop := p.length ≤ hs.length ∧ ((shp hs).map fun (i : Nat) => (i : Int)).take p.length = p
theorem Beg.at {p hs : List Int} (b : Beg p hs) {i : Nat} (h : i < p.length) : ((shp hs).map fun (i : Nat) => (i : Int)).getD i 0 = p.getD i 0 := by
  rw [← congrArg (fun l => List.getD l i 0) b.2]
  simp [List.getD_eq_getElem?_getD, List.getElem?_take, h]
theorem Beg.nil (hs : List Int) : Beg [] hs := ⟨Nat.zero_le _, rfl⟩
end L2
set_option Elab.async false
set_option linter.all false
set_option maxRecDepth 100000
namespace L2
open PySem PySem.Spec PyProof.Rows
theorem lt_nd {F : List Int} (h : F.Pairwise (· < ·)) : F.Nodup := h.imp fun h => Int.ne_of_lt h
theorem at_int {st : List Int} {j : Nat} {x : V} (hx : (st.map V.int)[j]? = some x) : ∃ d : Int, st[j]? = some d ∧ x = V.int d ∧ st.getD j 0 = d := by
  rw [List.getElem?_map] at hx
  obtain ⟨b, h1, h2⟩ := Option.map_eq_some_iff.mp hx
  exact ⟨b, h1, h2.symm, by rw [List.getD_eq_getElem?_getD, h1]; rfl⟩
end L2
set_option Elab.async false
set_option linter.all false
set_option maxRecDepth 100000
namespace L2
open PySem PySem.Spec PyProof.Rows
theorem kept2 {x y : Option V} {σ : St} : Kept (none :: none :: σ) (x :: y :: σ) := ⟨rfl, fun i v e => by
  cases i with
  | zero => cases e
  | succ i =>
    cases i with
    | zero => cases e
    | succ i => exact e⟩
end L2
set_option Elab.async false
set_option linter.all false
set_option maxRecDepth 100000
namespace L2
open PySem PySem.Spec PyProof.Rows
end L2
set_option Elab.async false
set_option linter.all false
set_option maxRecDepth 100000
namespace L2
open PySem PySem.Spec PyProof.Rows
theorem deq_true {K : PySem.W.Frag} {H : Hp} {d : Nat} {a b : Addr} {xs ys : List V} (h1 : SqL K H a xs) (h2 : SqL K H b ys) (hl : xs.length = ys.length) (he : ∀ (j : Nat) x y, xs[j]? = some x → ys[j]? = some y → DEq K H d x y true) : DEq K H (d + 1) (.ref a) (.ref b) true := by
  have q := DEq.lst (e := fun _ => true) h1 h2 hl he
  rw [show ((List.range xs.length).all fun _ => true) = true from by simp] at q
  exact q
theorem deqT_true {K : PySem.W.Frag} {H : Hp} {d : Nat} {a b : Addr} {xs ys : List V} (h1 : SqT K H a xs) (h2 : SqT K H b ys) (hl : xs.length = ys.length) (he : ∀ (j : Nat) x y, xs[j]? = some x → ys[j]? = some y → DEq K H d x y true) : DEq K H (d + 1) (.ref a) (.ref b) true := by
  have q := DEq.tup (e := fun _ => true) h1 h2 he
  rw [show ((List.range (min xs.length ys.length)).all (fun _ => true) && xs.length == ys.length) = true from by simp [hl]] at q
  exact q
theorem deq_flat1 {K : PySem.W.Frag} {H : Hp} {d : Nat} {x : V} (f : flatV x = true) : DEq K H d x x true := by
  have q := DEq.flat (K := K) (H := H) (d := d) f f
  rw [eqV_refl f] at q
  exact q
theorem deq_ints {K : PySem.W.Frag} {H : Hp} {d : Nat} {a b : Addr} {ps : List Int} (h1 : SqL K H a (ps.map V.int)) (h2 : SqL K H b (ps.map V.int)) : DEq K H (d + 1) (.ref a) (.ref b) true :=
  deq_true h1 h2 rfl fun j x y ex ey => by
    rw [ex] at ey
    cases ey
    obtain ⟨i, _, e⟩ := List.mem_map.mp (List.mem_of_getElem? ex)
    rw [← e]
    exact deq_flat1 rfl
theorem DEq.up {K : PySem.W.Frag} {H : Hp} {d : Nat} {x y : V} {b : Bool} (h : DEq K H d x y b) : DEq K H (d + 1) x y b := by
  induction h with
  | flat fx fy => exact .flat fx fy
  | lst h1 h2 hl he ih => exact .lst h1 h2 hl ih
  | len h1 h2 hl => exact .len h1 h2 hl
  | tup h1 h2 he ih => exact .tup h1 h2 ih
end L2
set_option Elab.async false
set_option linter.all false
set_option maxRecDepth 100000
namespace L2
open PySem PySem.Spec PyProof.Rows
end L2
set_option Elab.async false
set_option linter.all false
set_option maxRecDepth 100000
namespace L2
open PySem PySem.Spec PyProof.Rows
theorem RowsL.append {H : Hp} : ∀ {rs rs' : List Addr} {ps ps' : List (List Int)}, RowsL H rs ps → RowsL H rs' ps' → RowsL H (rs ++ rs') (ps ++ ps')
  | _, _, _, _, .nil, h => h
  | _, _, _, _, .cons a t, h => .cons a (RowsL.append t h)
end L2
set_option Elab.async false
set_option linter.all false
set_option maxRecDepth 100000
namespace L2
open PySem PySem.Spec PyProof.Rows
def nw (H H' : Hp) : Hp := fun a => match H a with
  | none => H' a
  | some _ => none
end L2
set_option Elab.async false
set_option linter.all false
set_option maxRecDepth 100000
namespace L2
open PySem PySem.Spec PyProof.Rows
theorem PoolsL.ref {K : PySem.W.Frag} {H : Hp} {rs : List Addr} {may : List (List Int)} (po : PoolsL K H rs may) {i : Nat} {x : V} (hx : (rs.map V.ref)[i]? = some x) : ∃ r, x = .ref r ∧ SqL K H r ((may.getD i []).map V.int) := by
  rw [List.getElem?_map] at hx
  obtain ⟨r, hr, rfl⟩ := Option.map_eq_some_iff.mp hx
  have hi : i < may.length := by rw [← po.len]; exact (List.getElem?_eq_some_iff.mp hr).1
  obtain ⟨r', e1, e2⟩ := po.at (List.getElem?_eq_getElem hi)
  rw [hr] at e1
  cases e1
  rw [← getD_getL hi] at e2
  exact ⟨r, rfl, e2⟩
end L2
set_option Elab.async false
set_option linter.all false
set_option maxRecDepth 100000
namespace L2
open PySem PySem.Spec PyProof.Rows
section
variable {X : Cx}
end
end L2
set_option Elab.async false
set_option linter.all false
set_option maxRecDepth 100000
namespace L2
open PySem PySem.Spec PyProof.Rows
end L2
set_option Elab.async false
set_option linter.all false
set_option maxRecDepth 100000
namespace L2
open PySem PySem.Spec PyProof.Rows
inductive GPap where
  | tie (j : Int)
  | short (bs : List Int)
  | split (ps : List GPap)
instance : Inhabited GPap := ⟨.tie 0⟩
end L2
set_option Elab.async false
set_option linter.all false
set_option maxRecDepth 100000
namespace L2
open PySem PySem.Spec PyProof.Rows
end L2
set_option Elab.async false
set_option linter.all false
set_option maxRecDepth 100000
namespace L2
open PySem PySem.Spec PyProof.Rows
theorem lo62 (n : Nat) : -(2 ^ 62) ≤ ((n : Nat) : Int) := by omega
theorem modN (c : Int) {n : Nat} (h : 0 < n) : ∃ m : Nat, m < n ∧ c % ((n : Nat) : Int) = ((m : Nat) : Int) := by
  have w1 := Int.emod_nonneg c (show ((n : Nat) : Int) ≠ 0 by omega)
  have w2 := Int.emod_lt_of_pos c (show (0 : Int) < ((n : Nat) : Int) by omega)
  exact ⟨(c % ((n : Nat) : Int)).toNat, by omega, by omega⟩
theorem ex1 {α : Type} {us : List α} (hl : us.length = 1) : ∃ a, us = [a] := by
  match us, hl with
  | [a], _ => exact ⟨a, rfl⟩
theorem ex2 {α : Type} {us : List α} (hl : us.length = 2) : ∃ a b, us = [a, b] := by
  match us, hl with
  | [a, b], _ => exact ⟨a, b, rfl⟩
theorem ex3 {α : Type} {us : List α} (hl : us.length = 3) : ∃ a b c, us = [a, b, c] := by
  match us, hl with
  | [a, b, c], _ => exact ⟨a, b, c, rfl⟩
theorem ex4 {α : Type} {us : List α} (hl : us.length = 4) : ∃ a b c d, us = [a, b, c, d] := by
  match us, hl with
  | [a, b, c, d], _ => exact ⟨a, b, c, d, rfl⟩
theorem ex5 {α : Type} {us : List α} (hl : us.length = 5) : ∃ a b c d e, us = [a, b, c, d, e] := by
  match us, hl with
  | [a, b, c, d, e], _ => exact ⟨a, b, c, d, e, rfl⟩
end L2
set_option Elab.async false
set_option linter.all false
set_option maxRecDepth 100000
namespace L2
open PySem PySem.Spec PyProof.Rows
section
variable {X : Cx}
end
def Itrv (K : PySem.W.Frag) (a : Addr) (n : Nat) : It :=
  ⟨fun i H => i < n ∧ ∃ xs, SqL K H a xs ∧ xs.length = n, fun i H x H' => H' = H ∧ ∀ xs, SqL K H a xs → xs[n - 1 - i]? = some x, fun i _ => n ≤ i⟩
theorem turn_rev {P : Program} {w : World} {K : PySem.W.Frag} {tg : Expr} (a it : Addr) (n : Nat) : Turn P w K tg (Itrv K a n) [it] it (fun i h => i ≤ n ∧ h.IsRevIter it a ((n : Int) - 1 - (i : Int))) where
  mem := by simp
  obj := fun i h st b hb => by
    have e : b = it := by simpa using hb
    subst e
    obtain ⟨_, o, e, c, d⟩ := st
    exact ⟨o, e, fun v z => by rw [d] at z; cases z⟩
  keep := fun i h h' st k => ⟨st.1, st.2.at fun o e => k it (by simp) o e⟩
  item := by
    intro X hP hw hK hc i pins s σ H E I hf st hg
    subst hP hw hK
    obtain ⟨hi, xs, hq, hn⟩ := hg
    obtain ⟨its, rv, p, hz⟩ := I.list hq
    have hx : xs[n - 1 - i]? = some (xs[n - 1 - i]'(by omega)) := List.getElem?_eq_getElem (by omega)
    obtain ⟨u, hu, ru⟩ := rv.get hx
    obtain ⟨f0, f1, f2, f3, f4, f5⟩ := hf it (by simp)
    obtain ⟨_, st⟩ := st
    have e : (n : Int) - 1 - (i : Int) = ((n - 1 - i : Nat) : Int) := by omega
    rw [e] at st
    refine wpAny_pyNext_rev_item st p.isList (x := u) (by simpa using hu) fun h' st' sb => ?_
    have e2 : ((n - 1 - i : Nat) : Int) - 1 = (n : Int) - 1 - ((i + 1 : Nat) : Int) := by omega
    rw [e2] at st'
    have I1 : Inv X pins σ H { s with heap := h' } := I.turned (t' := s.toks) (fun b o hb e => (sb.2 b hb).trans e) f0 f1 f3 f4 f5
    obtain ⟨o, e, c, d⟩ := id st'
    exact ⟨u, rfl, go_of (s := { s with heap := h' }) e c d (by decide) ⟨_, H, I1, ru, ⟨rfl, fun ys hy => by rw [I.list_inj hy hq]; exact hx⟩, ⟨hi, st'⟩, fun b hb => (hf b hb).1⟩⟩
  done := by
    intro X hP hw hK hc i pins s σ H E I hf st hg
    subst hP hw hK
    obtain ⟨f0, f1, f2, f3, f4, f5⟩ := hf it (by simp)
    obtain ⟨hi, st⟩ := st
    have hg : n ≤ i := hg
    have e : (n : Int) - 1 - (i : Int) = -1 := by omega
    rw [e] at st
    exact wpAny_pyNext_rev_end (I.ok.hd hc) st fun h' eb => ⟨rfl, I.turned (t' := s.toks) (fun b o hb e => eb b o hb e) f0 f1 f3 f4 f5⟩
  self := fun _ _ _ _ _ st h => wpAny_pyIter_revIter st.2 h
section
variable {X : Cx}
def iRev (K : PySem.W.Frag) (ta : TA) : TI := fun σ H R => ta σ H fun vs H1 => ∃ a xs, vs = [.ref a] ∧ SqL K H1 a xs ∧ R (Itrv K a xs.length) H1
theorem pi_rev {a tg : Expr} {ta : TA} {p pos : Pos} (K : PySem.W.Frag) (hg : Gl X "reversed") (hm : X.mg "reversed" = none) (ha : PA X [a] ta) (hK : X.K = K := by rfl) (hs : starEach [a] X.env = [(false, eval a X.env)] := by rfl) :
    PI X tg (.Call (.Name "reversed" p) [a] [] pos) (iRev K ta) := by
  subst hK
  intro pins s σ H R I h
  refine Call_ (ld_blt I hg hm boot_reversed (PyProof.Rows.callWith_type1 (thn (ha pos pins s σ H _ I h) fun us s1 ⟨vs, H1, I1, r1, q1⟩ => ?_) (by rw [hs]; rfl) (by rfl)))
  obtain ⟨l1, xs, e, hq1, q⟩ := q1
  subst e
  cases r1 with
  | cons r rr =>
    cases rr
    cases r
    obtain ⟨its1, rv1, p1, _⟩ := I1.list hq1
    have hl := rv1.length
    refine call_reversed_list p1.isList ?_
    have hit : (s1.heap.push (revObj l1 ((its1.toArray.size : Int) - 1))).IsRevIter s1.heap.objs.size l1 ((its1.toArray.size : Int) - 1) := ⟨_, Heap.get?_push_size _ rfl, rfl, rfl⟩
    refine wpAny_pyIter_revIter hit ?_
    have I2 : Inv X pins σ H1 { s1 with heap := s1.heap.push (revObj l1 ((its1.toArray.size : Int) - 1)) } := I1.kept (t' := s1.toks) fun b o e => Heap.get?_push_of_some _ e
    refine ⟨_, [s1.heap.objs.size], _, _, H1, rfl, I2, turn_rev l1 _ xs.length, ⟨Nat.zero_le _, ?_⟩, fun b hb => ?_, q⟩
    · have e : (xs.length : Int) - 1 - ((0 : Nat) : Int) = (its1.toArray.size : Int) - 1 := by rw [List.size_toArray]; omega
      rw [e]; exact hit
    · have e : b = s1.heap.objs.size := by simpa using hb
      subst e
      exact I1.fpOk (Nat.le_refl _) (I1.hok.fresh (Nat.le_refl _))
end
end L2
set_option Elab.async false
set_option linter.all false
set_option maxRecDepth 100000
namespace L2
open PySem PySem.Spec PyProof.Rows
theorem lk_list_keys : typeLookup (.type "list") "keys" = pure none := by rw [typeLookup_type, builtinLookup_eq_fast]; kernel_rfl
theorem lk_list_gat : typeLookup (.type "list") "__getattr__" = pure none := by rw [typeLookup_type, builtinLookup_eq_fast]; kernel_rfl
section
variable {prog : Program} {w : World} {A : Around} {E : Value → Shared → Prop} {h : Heap} {g : Array GenState} {d : PySem.Drawn} {t : Nat} {os : OsState} {a : Addr} {o : Obj}
theorem keys_entry_list {tk : Tok} {its : Array Value} {n : Nat} {sl : Array (Option Value)} {Q : Fin → Shared → Prop} (hh : A.handled = none) (hx : h.get? a = some { cls := .type "list", dict := none, data := .seq its n, slots := sl })
   (hq : ∀ h' tk e, Heap.NewAttrErr h h' e (.ref a) "keys" → E (.ref e) ⟨h', g, d, tk, os⟩) :
    wpAny (model prog w) A (Builtin.«object.__getattribute__» ⟨[.ref a, .str "keys" tk], []⟩) Q E ⟨h, g, d, t, os⟩ := by
  have hT : (⟨h, g, d, t, os⟩ : Shared).TypeIs (.ref a) "list" := ⟨_, hx, rfl⟩
  have f4 := lk_list_keys
  repeat (any_goals (first | assumption | wp_step))
  exact wpAny_raiseAttrError hh hq (attrMsg_fits (by decide +kernel) (by size_fits))
theorem keys_attr_list {its : Array Value} {n : Nat} {sl : Array (Option Value)} {Q : Option Value → Shared → Prop} (hh : A.handled = none) (hx : h.get? a = some { cls := .type "list", dict := none, data := .seq its n, slots := sl })
   (hq : ∀ h' tk, (∀ b o, h.get? b = some o → h'.get? b = some o) → Q none ⟨h', g, d, tk, os⟩) :
    wpAny (model prog w) A (getAttr? (.ref a) "keys") Q E ⟨h, g, d, t, os⟩ := by
  have hT : ∀ t, (⟨h, g, d, t, os⟩ : Shared).TypeIs (.ref a) "list" := fun _ => ⟨_, hx, rfl⟩
  have f1 := sub_AttributeError
  have f2 := F.slot_list_getattribute.lookup
  have f3 := F.slot_list_getattribute.bind (.ref a)
  have f5 := lk_list_gat
  unfold getAttr? getAttrBy? getAttrBy
  repeat (any_goals (first | assumption | apply hT | wp_step))
  refine codeAny_call_builtin F.slot_list_getattribute.plain F.entry_list_ga (F.slot_list_getattribute.check _ _ _ _ _ _ _ _ (hT _) (F.args_list_getattribute_2 _ _) (keys_entry_list hh hx fun h' tk' e ne => ?_))
  obtain ⟨t', u', he⟩ := ne.there
  show wpAny _ _ (getattributeRaised _ _ _ _ _ _ _) _ _ _
  unfold getattributeRaised
  repeat (any_goals (first | assumption | wp_step))
  exact hq _ _ ne.keeps
end
theorem entry_dict_loop : entryFor table "dict.update.loop" = some Builtin.«dict.update.loop» := entryFor_of_tree (by kernel_rfl)
theorem plain_dict_loop : plainId "dict.update.loop" = true := by decide +kernel
theorem stored_fresh {α : Type} [DecidableEq α] {vs : List (α × Value)} {k : α} {v : Value} (h : ∀ q ∈ vs, q.1 ≠ k) : stored vs k v = vs ++ [(k, v)] := by
  unfold stored
  rw [if_neg]
  intro z
  obtain ⟨q, hq, e⟩ := List.any_eq_true.mp z
  exact h q hq (of_decide_eq_true e)
theorem take_fresh {α : Type} {vs : List (α × Value)} (nd : (vs.map (·.1)).Nodup) {i : Nat} {k : α} {v : Value} (h : vs[i]? = some (k, v)) : ∀ q ∈ vs.take i, q.1 ≠ k := by
  intro q hq e
  obtain ⟨j, ej⟩ := List.mem_iff_getElem?.mp hq
  have hj := (List.getElem?_eq_some_iff.mp ej).1
  rw [List.length_take] at hj
  have hji : j < i := by omega
  rw [List.getElem?_take_of_lt hji] at ej
  have hi := (List.getElem?_eq_some_iff.mp h).1
  have e1 : (vs.map (·.1))[j]? = some k := by rw [List.getElem?_map, ej]; simp [e]
  have e2 : (vs.map (·.1))[i]? = some k := by rw [List.getElem?_map, h]; rfl
  obtain ⟨l1, x1⟩ := List.getElem?_eq_some_iff.mp e1
  obtain ⟨l2, x2⟩ := List.getElem?_eq_some_iff.mp e2
  exact List.pairwise_iff_getElem.mp nd j i l1 l2 hji (x1.trans x2.symm)
section
variable {P : Program} {w : World} {A : Around} {R : Result → Shared → Prop} {p d I : Addr} {its : List Value} {vs : List (Key × Value)} {h0 : Heap}
theorem dict_loop (hh : A.handled = none) (hp : h0.IsList p its.toArray) (hd : h0.objs.size ≤ d) (hI : h0.objs.size ≤ I) (hne : d ≠ I) (nd : (vs.map (·.1)).Nodup) (hz : vs.length ≤ sizeLine) (hl : its.length = vs.length)
    (hat : ∀ (i : Nat) u, its[i]? = some u → ∃ a k key v, u = .ref a ∧ h0.IsTuple a #[key, v] ∧ (mixKind P w).is k key = true ∧ vs[i]? = some (k, v)) :
    ∀ (m i : Nat) (s : Shared), vs.length - i = m → i ≤ vs.length → (∀ b o, h0.get? b = some o → s.heap.get? b = some o) → s.heap.IsListIter I p i → s.heap.DictOf (mixKind P w) d (vs.take i) →
    (∀ h' tk, (∀ b o, h0.get? b = some o → h'.get? b = some o) → h'.DictOf (mixKind P w) d vs → R (.ok (.ret .none)) { s with heap := h', toks := tk }) →
    codeAny (model P w) A (.builtin "dict.update.loop" ⟨[.ref d, .ref I, rawInt (i : Int), .none], []⟩) R s := by
  have lp : p < h0.objs.size := let ⟨_, e, _⟩ := hp; Heap.lt_size e
  intro m
  induction m with
  | zero =>
    intro i s hm hi kp it dk hR
    have hin : i = vs.length := by omega
    subst hin
    refine codeAny_builtin entry_dict_loop ?_
    rw [Around.under_plainId plain_dict_loop _]
    show wpAny _ A.in1 (pyNext (.ref I) >>= _) _ _ s
    have hp' : s.heap.IsList p its.toArray := let ⟨o, e, r⟩ := hp; ⟨o, kp _ _ e, r⟩
    refine wpAny_bind (wpAny_pyNext_list_end (show A.in1.handled = none from hh) it hp' (by simp [hl]) fun h' eb => ?_)
    show wpAny _ A.in1 (Builtin.Dict.addKeywords d [] >>= fun _ => ret Value.none) _ _ _
    refine wpAny_bind (wpAny_pure (wpAny_pure ?_))
    refine hR h' s.toks (fun b o e => eb b o (fun z => ?_) (kp b o e)) ?_
    · have := Heap.lt_size e
      rw [z] at this
      exact absurd this (Nat.not_lt.mpr hI)
    · rw [List.take_length] at dk
      exact dk.at fun o e => eb d o hne e
  | succ m ih =>
    intro i s hm hi kp it dk hR
    have hlt : i < vs.length := by omega
    have hx : its[i]? = some (its[i]'(by omega)) := List.getElem?_eq_getElem (by omega)
    obtain ⟨a, k, key, v, eu, ht, hk, hv⟩ := hat i _ hx
    rw [eu] at hx
    refine codeAny_builtin entry_dict_loop ?_
    rw [Around.under_plainId plain_dict_loop _]
    show wpAny _ A.in1 (pyNext (.ref I) >>= _) _ _ s
    have hp' : s.heap.IsList p its.toArray := let ⟨o, e, r⟩ := hp; ⟨o, kp _ _ e, r⟩
    refine wpAny_bind (wpAny_pyNext_list_item it hp' (x := .ref a) (by simpa using hx) fun h' it' sb => ?_)
    obtain ⟨ot, eot, ct, nt, dt⟩ := ht
    have la : a ≠ I := fun z => by
      have := Heap.lt_size eot
      rw [z] at this
      exact absurd this (Nat.not_lt.mpr hI)
    have eot' : h'.get? a = some ot := (sb.2 a la).trans (kp _ _ eot)
    refine wpAny_bind (wpAny_holding ?_)
    refine wpAny_bind (wpAny_tryCatch ?_)
    unfold Builtin.Dict.pairItems
    refine wpAny_bind (wpAny_typeOf (T := "tuple") ⟨ot, eot', ct⟩ ?_)
    rw [if_pos (by decide)]
    refine wpAny_bind (wpAny_seqItems (s := { s with heap := h' }) eot' dt (wpAny_pure ?_))
    show wpAny _ A.in1 (holding [key, v] (dictSet d key v)) _ _ _
    refine wpAny_holding ?_
    have dk' : h'.DictOf (mixKind P w) d (vs.take i) := dk.at fun o e => (sb.2 d hne).trans e
    refine wpAny_dictSet_pairs (s := { s with heap := h' }) hk dk' (fun h2 dk2 sb2 => ?_) (by rw [List.length_take]; omega)
    rw [stored_fresh (take_fresh nd hv)] at dk2
    have et : vs.take i ++ [(k, v)] = vs.take (i + 1) := by rw [List.take_add_one, hv]; rfl
    rw [et] at dk2
    refine wpAny_pure ⟨plainId_quiet plain_dict_loop _, ?_⟩
    refine ih (i + 1) _ (by omega) hlt (fun b o e => ?_) (it'.at fun o e => (sb2.2 I (Ne.symm hne)).trans e) dk2 fun h3 tk kp3 dk3 => hR h3 tk kp3 dk3
    have lb := Heap.lt_size e
    exact (sb2.2 b (fun z => by rw [z] at lb; exact absurd lb (Nat.not_lt.mpr hd))).trans ((sb.2 b (fun z => by rw [z] at lb; exact absurd lb (Nat.not_lt.mpr hI))).trans (kp b o e))
end
section
variable {X : Cx}
theorem cDict (K : PySem.W.Frag) (hc : X.calm = true := by rfl) (hK : X.K = K := by rfl) : CallR X (.type "dict") (fun xs H Q => ∃ (p : Addr) (ps : List Addr) (kvs : List (Key × V)), xs = [.ref p] ∧ SqL K H p (ps.map V.ref) ∧ ps.length = kvs.length ∧ (kvs.map (·.1)).Nodup ∧
    (∀ (i : Nat) a, ps[i]? = some a → ∃ k v, kvs[i]? = some (k, v) ∧ SqT K H a [kV k, v]) ∧ ∀ l, H l = none → Q (.ref l) (upd H l (.dK kvs))) := by
  subst hK
  intro pins s σ H xs us Q I r h
  obtain ⟨p, ps, kvs, e, hq, hn, nd, hat, q⟩ := h
  subst e
  obtain ⟨u, e, rx⟩ := vals1 r
  subst e
  cases rx
  obtain ⟨its, rv, pl, hz⟩ := I.list hq
  have hl := rv.length
  rw [List.length_map] at hl hz
  have hnd : X.A.handled = none := I.ok.hd hc
  have raw : ∃ vs : List (Key × Value), KV kvs vs ∧ ∀ (i : Nat) u, its[i]? = some u → ∃ a k key v, u = .ref a ∧ s.heap.IsTuple a #[key, v] ∧ (mixKind X.prog X.w).is k key = true ∧ vs[i]? = some (k, v) := by
    have key : ∀ (kvs : List (Key × V)) (ps : List Addr), ps.length = kvs.length → (∀ (i : Nat) a, ps[i]? = some a → ∃ k v, kvs[i]? = some (k, v) ∧ SqT X.K H a [kV k, v]) →
        ∃ vs : List (Key × Value), KV kvs vs ∧ ∀ (i : Nat) a, ps[i]? = some a → ∃ k key v, s.heap.IsTuple a #[key, v] ∧ (mixKind X.prog X.w).is k key = true ∧ vs[i]? = some (k, v) := by
      intro kvs
      induction kvs with
      | nil =>
        intro ps hn _
        exact ⟨[], .nil, fun i a z => by rw [List.length_eq_zero_iff.mp hn] at z; cases z⟩
      | cons kv kvs ih =>
        intro ps hn hat
        obtain ⟨a, ps, rfl⟩ : ∃ a qs, ps = a :: qs := by
          cases ps with
          | nil => simp at hn
          | cons a qs => exact ⟨a, qs, rfl⟩
        obtain ⟨k, v, e, ht⟩ := hat 0 a rfl
        cases e
        obtain ⟨vs, rel, hr⟩ := ih ps (by simpa using hn) fun i b hb => hat (i + 1) b hb
        obtain ⟨its, rv, pt, _⟩ := I.tuple ht
        obtain ⟨u1, u2, rfl, r1, r2⟩ := vals2 rv
        refine ⟨(k, u2) :: vs, .cons ⟨rfl, r2⟩ rel, fun i b hb => ?_⟩
        cases i with
        | zero => cases hb; exact ⟨k, u1, u2, pt, kV_is r1, rfl⟩
        | succ i => exact hr i b hb
    obtain ⟨vs, rel, hr⟩ := key kvs ps hn hat
    refine ⟨vs, rel, fun i u hu => ?_⟩
    have hi : i < ps.length := by rw [hl]; exact (List.getElem?_eq_some_iff.mp hu).1
    obtain ⟨u', eu, ru⟩ := rv.get (i := i) (x := .ref ps[i]) (by simp [hi])
    rw [hu] at eu
    cases eu
    cases (show u = Value.ref ps[i] from ru)
    obtain ⟨k, key, v, a1, a2, a3⟩ := hr i ps[i] (List.getElem?_eq_getElem hi)
    exact ⟨_, k, key, v, rfl, a1, a2, a3⟩
  obtain ⟨vs, rel, hraw⟩ := raw
  have lv : kvs.length = vs.length := rel.length
  have ek : kvs.map (·.1) = vs.map (·.1) := by
    clear hraw hat lv nd hn q
    induction rel with
    | nil => rfl
    | cons h _ ih => rw [List.map_cons, List.map_cons, ih, h.1]
  refine callType_codes (Q₁ := fun obj s₁ => obj = .ref s.heap.objs.size ∧ s₁ = { s with heap := s.heap.push { cls := .type "dict", data := .dict #[] } }) F.kt_called_dict (F.kt_typeCall_dict_1 _) F.entry_dict_init (kt_code_dict_new _ ⟨rfl, rfl⟩) ?_
  rintro obj s₁ ⟨rfl, rfl⟩
  have hnew : (s.heap.push { cls := .type "dict", data := .dict #[] }).DictOf (mixKind X.prog X.w) s.heap.objs.size [] := Heap.DictOf.new s.heap
  refine ⟨hnew.typeIs, F.args_dict_init_2 _ _, ?_⟩
  unfold Builtin.«dict.__init__»
  refine wpAny_bind ?_
  unfold Builtin.Dict.selfAndRest
  refine wpAny_bind (wpAny_notOrdered_dict hnew.typeIs ?_)
  show wpAny _ _ (pure (s.heap.objs.size, [Value.ref p])) _ _ _
  refine wpAny_pure ?_
  show wpAny _ _ (Builtin.Dict.updateFrom "dict.__init__" s.heap.objs.size (.ref p) [] .none) _ _ _
  unfold Builtin.Dict.updateFrom
  obtain ⟨o, n, ho, c1, c2, c3⟩ := pl
  have ho' : (s.heap.push { cls := .type "dict", data := .dict #[] }).get? p = some o := Heap.get?_push_of_some _ ho
  refine wpAny_bind (wpAny_typeOf (T := "list") ⟨o, ho', c1⟩ ?_)
  rw [if_pos (by decide)]
  obtain ⟨oc, od, oda, osl⟩ := o
  simp only at c1 c2 c3
  subst c1 c2 c3
  refine wpAny_bind (keys_attr_list hnd ho' fun h2 tk kp2 => ?_)
  have hlst : h2.IsList p its.toArray := ⟨_, kp2 _ _ ho', rfl, n, rfl⟩
  show wpAny _ _ (rule _ >>= _) _ _ _
  refine wpAny_bind (wpAny_rule ?_)
  refine wpAny_bind (wpAny_pyIter_list (s := { s with heap := h2, toks := tk }) hlst ?_)
  refine wpAny_pure ⟨plainId_quiet plain_dict_loop _, ?_⟩
  have lt : s.heap.objs.size < h2.objs.size := by
    have := Heap.lt_size (kp2 s.heap.objs.size _ (Heap.get?_push_size _ rfl))
    exact this
  refine dict_loop (P := X.prog) (w := X.w) (h0 := s.heap) (vs := vs) (its := its) (A := X.A.in1) (show X.A.in1.handled = none from hnd) ⟨_, ho, rfl, n, rfl⟩ (Nat.le_refl _) (Nat.le_of_lt lt) (Nat.ne_of_lt lt) (by rw [← ek]; exact nd) (by omega) (by omega) hraw _ 0 _ rfl (Nat.zero_le _) (fun b o e => ?_) ?_ ?_ fun h' tk' kp' dk' => ?_
  · exact Heap.get?_push_of_some _ (kp2 _ _ (Heap.get?_push_of_some _ e))
  · exact ⟨_, Heap.get?_push_size _ rfl, rfl, rfl⟩
  · rw [List.take_zero]
    exact hnew.at fun o e => Heap.get?_push_of_some _ (kp2 _ _ e)
  · refine ⟨rfl, .ref s.heap.objs.size, _, I.laid (t' := tk') kp' (Nat.le_refl _) (dk_new (by omega) (beq_false_of_ne (Nat.ne_of_gt I.big)) rel dk'), rfl, q _ (I.hok.fresh (Nat.le_refl _))⟩
end
end L2
set_option Elab.async false
set_option linter.all false
set_option maxRecDepth 100000
namespace L2
open PySem PySem.Spec PyProof.Rows
def PairT (H : Hp) (a : Addr) (x : Int × Int) : Prop := H a = some (.tup [.int x.1, .int x.2])
def TupsL (H : Hp) (ps : List Addr) (row : List (Int × Int)) : Prop := Paired (PairT H) ps row
def RowAt (H : Hp) (r : Addr) (row : List (Int × Int)) : Prop := ∃ ps : List Addr, H r = some (.lst (ps.map V.ref)) ∧ TupsL H ps row
def BillL (H : Hp) (rs : List Addr) (rows : List (List (Int × Int))) : Prop := Paired (RowAt H) rs rows
theorem pair_at {α β : Type} {F : α → β → Prop} : ∀ {l : List α} {r : List β} {i : Nat} {a : α}, Paired F l r → l[i]? = some a → ∃ b, r[i]? = some b ∧ F a b
  | _, _, _, _, .nil, e => by simp at e
  | _, _, 0, _, .cons h _, e => by simp at e; subst e; exact ⟨_, rfl, h⟩
  | _, _, i + 1, b, .cons _ t, e => by
    have e' := e
    rw [List.getElem?_cons_succ] at e'
    obtain ⟨a, ea, fa⟩ := pair_at t e'
    exact ⟨a, by rw [List.getElem?_cons_succ]; exact ea, fa⟩
theorem TupsL.same {H H' : Hp} {ps : List Addr} {row : List (Int × Int)} (h : TupsL H ps row) (s : Same H H') : TupsL H' ps row := Paired.mapP h fun _ _ q => s _ _ q
theorem TupsL.len {H : Hp} {ps : List Addr} {row : List (Int × Int)} (h : TupsL H ps row) : ps.length = row.length := Paired.length h
theorem RowAt.same {H H' : Hp} {r : Addr} {row : List (Int × Int)} (h : RowAt H r row) (s : Same H H') : RowAt H' r row := let ⟨ps, a, b⟩ := h; ⟨ps, s _ _ a, b.same s⟩
theorem BillL.same {H H' : Hp} {rs : List Addr} {rows : List (List (Int × Int))} (h : BillL H rs rows) (s : Same H H') : BillL H' rs rows := Paired.mapP h fun _ _ q => q.same s
theorem BillL.len {H : Hp} {rs : List Addr} {rows : List (List (Int × Int))} (h : BillL H rs rows) : rs.length = rows.length := Paired.length h
theorem BillL.at {H : Hp} {rs : List Addr} {rows : List (List (Int × Int))} (h : BillL H rs rows) {i : Nat} {row : List (Int × Int)} (e : rows[i]? = some row) : ∃ r, rs[i]? = some r ∧ RowAt H r row := pair_get h e
theorem BillL.get {H : Hp} {rs : List Addr} {rows : List (List (Int × Int))} (h : BillL H rs rows) {i : Nat} {r : Addr} (e : rs[i]? = some r) : ∃ row, rows[i]? = some row ∧ RowAt H r row := pair_at h e
theorem comp_pairs {K : PySem.W.Frag} {H1 : Hp} {js : List (Option Nat)} {σ : L2.St} {tc : TT} {te : TE} {Q : VK} {r : Addr} {ps : List Addr} {row : List (Int × Int)} (p : Nat → Bool) (P : Addr → Nat → V → Hp → Prop)
    (hr : SqL K H1 r (ps.map V.ref)) (ht : TupsL H1 ps row) (hn : row.length < 100000)
    (mono : ∀ acc i v H H', P acc i v H → SameBut acc H H' → P acc i v H')
    (hc : ∀ (i : Nat) x, row[i]? = some x → ∀ H2 R, Same H1 H2 → (∀ H3, Same H2 H3 → R (p i) H3) → tc (some (.int x.1) :: some (.int x.2) :: pick σ js) H2 R)
    (he : ∀ acc (i : Nat) x, row[i]? = some x → p i = true → ∀ H2 R, Same H1 H2 → H1 acc = none → H2 acc ≠ none → (∀ v H3, Same H2 H3 → P acc i v H3 → R v H3) → te (some (.int x.1) :: some (.int x.2) :: pick σ js) H2 R)
    (hQ : ∀ acc vs H', Same H1 H' → H1 acc = none → H' acc = some (.lst vs) → Paired (fun i v => P acc i v H') ((List.range row.length).filter p) vs → Q (.ref acc) H') :
    CompB (Itl K r) H1 (none :: none :: js) (gTup K 2 (gCons (gName 0) (gCons (gName 1) gNil))) tc te σ Q := by
  have hl := ht.len
  intro acc hacc
  refine ⟨fun i m ys H => m = row.length - i ∧ i ≤ row.length ∧ Same H1 H ∧ H acc = some (.lst ys) ∧ Paired (fun k v => P acc k v H) ((List.range i).filter p) ys, ⟨row.length, by simp, Nat.zero_le _, Same.new hacc, upd_same, .nil⟩, ?_⟩
  rintro i m ys H ⟨rfl, hi, s1, ha, hp⟩
  by_cases hlt : i < row.length
  · have hps : i < ps.length := by omega
    have ex : row[i]? = some row[i] := List.getElem?_eq_getElem hlt
    refine .inr ⟨⟨_, .ref ps[i], s1.seq hr, by simp [hps]⟩, fun ys' H' => i < row.length ∧ Same H1 H' ∧ H' acc = some (.lst ys') ∧ Paired (fun k v => P acc k v H') ((List.range (i + 1)).filter p) ys', fun ys' H' ⟨z, a, b, c⟩ => ⟨row.length - (i + 1), by omega, rfl, hlt, a, b, c⟩, fun x H' y => ?_⟩
    obtain ⟨rfl, y⟩ := y
    have y := y _ (s1.seq hr)
    rw [List.getElem?_map] at y
    obtain ⟨a, ea, rfl⟩ := Option.map_eq_some_iff.mp y
    obtain ⟨x', ex', ft⟩ := pair_at ht ea
    rw [ex] at ex'
    cases ex'
    refine ⟨a, _, rfl, SqT.of (s1 _ _ ft), rfl, _, _, rfl, _, _, rfl, rfl, kept2, hc i _ ex _ _ s1 fun H2 s2 => ⟨fun hb => ?_, fun hb => ?_⟩⟩
    · have ha2 := s2 _ _ ha
      refine he acc i _ ex hb _ _ (s1.trans s2) hacc (by rw [ha2]; simp) fun v H3 s3 pv => ?_
      have hlen : ys.length ≤ i := by
        rw [← Paired.length hp]
        exact Nat.le_trans (List.length_filter_le _ _) (by simp)
      refine ⟨s3 _ _ ha2, szn (by omega), hlt, ((s1.trans s2).trans s3).put hacc, upd_same, ?_⟩
      rw [List.range_succ, List.filter_append]
      have e : List.filter p [i] = [i] := by simp [hb]
      rw [e]
      refine Paired.snoc (Paired.mapP hp fun k v q => ?_) ?_
      · exact mono acc k v _ _ (mono acc k v _ _ q (s2.trans s3).but) SameBut.upd
      · exact mono acc i v _ _ pv SameBut.upd
    · refine ⟨hlt, s1.trans s2, s2 _ _ ha, ?_⟩
      rw [List.range_succ, List.filter_append]
      have e : List.filter p [i] = [] := by simp [hb]
      rw [e, List.append_nil]
      exact Paired.mapP hp fun k v q => mono acc k v _ _ q s2.but
  · have e : i = row.length := by omega
    subst e
    exact .inl ⟨⟨_, s1.seq hr, by rw [List.length_map]; omega⟩, hQ acc ys H s1 hacc ha hp⟩
theorem map_atP {α β : Type} {f : Nat → β} {g : α → β} {l : List α} (h : ∀ (i : Nat) x, l[i]? = some x → f i = g x) : (List.range l.length).map f = l.map g := by
  apply List.ext_getElem
  · simp
  · intro i h1 h2
    simp only [List.getElem_map, List.getElem_range]
    exact h i _ (List.getElem?_eq_getElem (by simpa using h2))
def kvR (row : List (Int × Int)) : List (Key × V) := row.map fun x => (Sum.inl x.1, V.int x.2)
def look (row : List (Int × Int)) (b : Int) : Option Int := (row.find? fun x => x.1 == b).map (·.2)
theorem kvR_nd {row : List (Int × Int)} (h : (row.map (·.1)).Nodup) : ((kvR row).map (·.1)).Nodup := by
  unfold kvR
  rw [List.map_map]
  have e : row.map ((fun x : Key × V => x.1) ∘ fun x : Int × Int => ((Sum.inl x.1 : Key), V.int x.2)) = (row.map (·.1)).map (Sum.inl : Int → Key) := by rw [List.map_map]; rfl
  rw [e]
  exact List.Pairwise.map _ (fun a b n z => n (by injection z)) h
theorem valV_kvR (b : Int) : ∀ row : List (Int × Int), valV (kvR row) (Sum.inl b) = (look row b).map V.int
  | [] => rfl
  | x :: row => by
    have ih := valV_kvR b row
    unfold kvR look valV at *
    rw [List.map_cons, List.find?_cons, List.find?_cons]
    by_cases z : x.1 = b
    · have z1 : (x.1 == b) = true := by simpa using z
      have z2 : decide ((Sum.inl x.1 : Key) = Sum.inl b) = true := by rw [z]; simp
      simp only [z1, z2, Option.map_some]
    · have z1 : (x.1 == b) = false := by simpa using z
      have z2 : decide ((Sum.inl x.1 : Key) = Sum.inl b) = false := decide_eq_false fun y => z (by injection y)
      simp only [z1, z2]
      exact ih
theorem TupsL.kv {K : PySem.W.Frag} {H : Hp} {ps : List Addr} {row : List (Int × Int)} (h : TupsL H ps row) (i : Nat) (a : Addr) (e : ps[i]? = some a) : ∃ k v, (kvR row)[i]? = some (k, v) ∧ SqT K H a [kV k, v] := by
  obtain ⟨x, hx, t⟩ := pair_at h e
  exact ⟨Sum.inl x.1, V.int x.2, by unfold kvR; rw [List.getElem?_map, hx]; rfl, SqT.of t⟩
theorem look_mem {row : List (Int × Int)} (nd : (row.map (·.1)).Nodup) {x : Int × Int} (h : x ∈ row) : look row x.1 = some x.2 := by
  induction row with
  | nil => cases h
  | cons y row ih =>
    rw [List.map_cons, List.nodup_cons] at nd
    unfold look
    rw [List.find?_cons]
    rcases List.mem_cons.mp h with e | h
    · subst e; simp
    · have z : (y.1 == x.1) = false := by
        refine beq_false_of_ne fun e => nd.1 ?_
        rw [e]
        exact List.mem_map.mpr ⟨x, h, rfl⟩
      rw [z]
      exact ih nd.2 h
theorem look_some {row : List (Int × Int)} {b c : Int} (h : look row b = some c) : (b, c) ∈ row := by
  unfold look at h
  obtain ⟨x, hx, e⟩ := Option.map_eq_some_iff.mp h
  have e1 := List.find?_some hx
  have e2 := List.mem_of_find?_eq_some hx
  have e3 : x.1 = b := by simpa using e1
  rw [← e3, ← e]
  exact e2
theorem look_none {row : List (Int × Int)} {b : Int} : look row b = none ↔ b ∉ row.map (·.1) := by
  unfold look
  rw [Option.map_eq_none_iff, List.find?_eq_none]
  constructor
  · intro h z
    obtain ⟨x, hx, e⟩ := List.mem_map.mp z
    exact h x hx (by simp [e])
  · intro h x hx z
    exact h (List.mem_map.mpr ⟨x, hx, by simpa using z⟩)
theorem deq_rows {K : PySem.W.Frag} {H : Hp} {a b : Addr} {row : List (Int × Int)} (h1 : RowAt H a row) (h2 : RowAt H b row) : DEq K H 2 (.ref a) (.ref b) true := by
  obtain ⟨ps, a1, a2⟩ := h1
  obtain ⟨qs, b1, b2⟩ := h2
  refine deq_true (SqL.of a1) (SqL.of b1) (by rw [List.length_map, List.length_map, a2.len, b2.len]) fun j x y ex ey => ?_
  rw [List.getElem?_map] at ex ey
  obtain ⟨r, e1, rfl⟩ := Option.map_eq_some_iff.mp ex
  obtain ⟨r', e2, rfl⟩ := Option.map_eq_some_iff.mp ey
  obtain ⟨x1, f1, g1⟩ := pair_at a2 e1
  obtain ⟨x2, f2, g2⟩ := pair_at b2 e2
  rw [f1] at f2
  cases f2
  refine deqT_true (SqT.of g1) (SqT.of g2) rfl fun i u v eu ev => ?_
  rw [eu] at ev
  cases ev
  match i with
  | 0 => cases eu; exact deq_flat1 rfl
  | 1 => cases eu; exact deq_flat1 rfl
  | i + 2 => cases eu
theorem deq_bills {K : PySem.W.Frag} {H : Hp} {a b : Addr} {rs rs' : List Addr} {rows : List (List (Int × Int))} (h1 : H a = some (.lst (rs.map V.ref))) (p1 : BillL H rs rows) (h2 : H b = some (.lst (rs'.map V.ref))) (p2 : BillL H rs' rows) : DEq K H 3 (.ref a) (.ref b) true := by
  refine deq_true (SqL.of h1) (SqL.of h2) (by rw [List.length_map, List.length_map, p1.len, p2.len]) fun j x y ex ey => ?_
  rw [List.getElem?_map] at ex ey
  obtain ⟨r, e1, rfl⟩ := Option.map_eq_some_iff.mp ex
  obtain ⟨r', e2, rfl⟩ := Option.map_eq_some_iff.mp ey
  obtain ⟨x1, f1, g1⟩ := p1.get e1
  obtain ⟨x2, f2, g2⟩ := p2.get e2
  rw [f1] at f2
  cases f2
  exact deq_rows g1 g2
end L2
set_option Elab.async false
set_option linter.all false
set_option maxRecDepth 100000
namespace L2
open PySem PySem.Spec PyProof.Rows
theorem ixN_natE {n j : Nat} (h : j < n) : ixN n (j : Int) = some j := by
  unfold ixN
  rw [if_pos (by omega), if_pos (by omega), Int.toNat_natCast]
theorem pick_mem (L : List Int) (c : Int) {n : Nat} (e : L.length = n) (h : 0 < n) : ∃ d, atI (L.map V.int) (c % (n : Int)) = some (.int d) ∧ d ∈ L := by
  obtain ⟨m, hm, em⟩ := modN c h
  rw [em]
  have hl : m < L.length := by omega
  exact ⟨L[m], atI_nat (by simp [hl]), List.getElem_mem hl⟩
theorem comp_rev {K : PySem.W.Frag} {H1 : Hp} {js : List (Option Nat)} {σ : L2.St} {te : TE} {Q : VK} {a : Addr} {ns : List Int} (f : Int → V) (hl : SqL K H1 a (ns.map V.int)) (hn : ns.length < 100000)
    (he : ∀ (i : Nat) x, ns[i]? = some x → ∀ H2 R, Same H1 H2 → (∀ H3, Same H2 H3 → R (f x) H3) → te (some (.int x) :: pick σ js) H2 R)
    (hQ : ∀ acc H', Same H1 H' → H1 acc = none → H' acc = some (.lst (ns.reverse.map f)) → Q (.ref acc) H') : CompB (Itrv K a (ns.map V.int).length) H1 (none :: js) (gName 0) tYes te σ Q := by
  have ln : (ns.map V.int).length = ns.length := List.length_map ..
  rw [ln]
  refine comp_walk2 (J := Itrv K a ns.length) (H1 := H1) (js := js) (σ := σ) (tc := tYes) (te := te) (Q := Q) ns.length (fun i => .int (ns.getD (ns.length - 1 - i) 0)) (fun _ => true) (fun _ i v _ => v = f (ns.getD (ns.length - 1 - i) 0)) hn (fun _ _ _ _ _ h _ => h)
    (fun i H h s => ⟨h, _, s.seq hl, ln⟩) (fun H s => Nat.le_refl _)
    (fun i H x H' h s y => ⟨y.1, ?_⟩)
    (fun i h H2 R s k => k _ (Same.refl _)) (fun acc i h hp H2 R s n1 n2 k => ?_)
    fun acc vs H' s n' e p => hQ acc H' s n' ?_
  · have e := y.2 _ (s.seq hl)
    rw [List.getElem?_map] at e
    obtain ⟨z, hz, rfl⟩ := Option.map_eq_some_iff.mp e
    rw [List.getD_eq_getElem?_getD, hz]; rfl
  · have hx : ns[ns.length - 1 - i]? = some (ns.getD (ns.length - 1 - i) 0) := by rw [List.getD_eq_getElem?_getD, List.getElem?_eq_getElem (by omega)]; rfl
    exact he _ _ hx H2 R s fun H3 s3 => k _ H3 s3 rfl
  · rw [e, paired_map p, List.filter_eq_self.mpr (fun _ _ => rfl)]
    congr 2
    apply List.ext_getElem
    · simp
    · intro i h1 h2
      simp only [List.length_map, List.length_range] at h1
      simp only [List.getElem_map, List.getElem_range, List.getElem_reverse]
      rw [List.getD_eq_getElem?_getD, List.getElem?_eq_getElem (by omega)]; rfl
theorem rev_up {ns : List Int} (c : Int) (h : ns.Pairwise (· < ·)) : ((ns.reverse.map fun x => c - x) : List Int).Pairwise (· < ·) := by
  refine List.Pairwise.map _ (fun a b (z : b < a) => by show c - a < c - b; omega) ?_
  exact List.pairwise_reverse.mpr h
structure RowOk (bs : List Int) (tp : Int) (row : List (Int × Int)) : Prop where
  up : (row.map (·.1)).Pairwise (· < ·)
  inn : ∀ x ∈ row, x.1 ∈ bs ∧ 0 ≤ x.2 ∧ x.2 < tp
  len : row.length ≤ bs.length
theorem RowOk.nd {bs : List Int} {tp : Int} {row : List (Int × Int)} (h : RowOk bs tp row) : (row.map (·.1)).Nodup := lt_nd h.up
theorem RowAt.but {H : Hp} {r l : Addr} {row : List (Int × Int)} {xs : List V} {o : HO} (h : RowAt H r row) (hl : H l = some (.lst xs)) (ne : r ≠ l) : RowAt (upd H l o) r row := by
  obtain ⟨ps, a, b⟩ := h
  exact ⟨ps, by rw [upd_ne ne]; exact a, Paired.mapP b fun a x q => by
    show upd H l o a = _
    rw [upd_ne (fun z => by rw [PairT, z, hl] at q; cases q)]; exact q⟩
theorem TupsL.but {H : Hp} {l : Addr} {ps : List Addr} {row : List (Int × Int)} {xs : List V} {o : HO} (h : TupsL H ps row) (hl : H l = some (.lst xs)) : TupsL (upd H l o) ps row :=
  Paired.mapP h fun a x q => by
    show upd H l o a = _
    rw [upd_ne (fun z => by rw [PairT, z, hl] at q; cases q)]; exact q
theorem BillL.but {H : Hp} {l : Addr} {rs : List Addr} {rows : List (List (Int × Int))} {xs : List V} {o : HO} (h : BillL H rs rows) (hl : H l = some (.lst xs)) (ne : l ∉ rs) : BillL (upd H l o) rs rows := by
  refine paired_of h.len fun i r row e1 e2 => ?_
  obtain ⟨row', e3, q⟩ := h.get e1
  rw [e2] at e3
  cases e3
  exact q.but hl fun z => ne (z ▸ List.mem_of_getElem? e1)
theorem up_snoc {l : List Int} {x : Int} (h : l.Pairwise (· < ·)) (hx : ∀ y ∈ l, y < x) : (l ++ [x]).Pairwise (· < ·) :=
  List.pairwise_append.mpr ⟨h, List.pairwise_singleton .., fun a ha b hb => by rw [List.mem_singleton.mp hb]; exact hx a ha⟩
theorem up_take {bs : List Int} (h : bs.Pairwise (· < ·)) {i : Nat} {x : Int} (hx : bs[i]? = some x) : ∀ y ∈ bs.take i, y < x := by
  intro y hy
  obtain ⟨hi, ex⟩ := List.getElem?_eq_some_iff.mp hx
  obtain ⟨j, hj, ej⟩ := List.mem_iff_getElem.mp hy
  rw [List.length_take] at hj
  rw [List.getElem_take] at ej
  rw [← ej, ← ex]
  exact List.pairwise_iff_getElem.mp h j i _ _ (by omega)
theorem paired_snoc_len {α β : Type} {F : α → β → Prop} {l : List α} {r : List β} (h : Paired F l r) {a : α} {b : β} (q : F a b) : Paired F (l ++ [a]) (r ++ [b]) := Paired.snoc h q
theorem BillL.parts {H : Hp} {rs : List Addr} {rows : List (List (Int × Int))} (h : BillL H rs rows) : ∃ pss : List (List Addr), pss.length = rs.length ∧ ∀ (i : Nat) r, rs[i]? = some r → ∃ ps row, pss[i]? = some ps ∧ rows[i]? = some row ∧ H r = some (.lst (ps.map V.ref)) ∧ TupsL H ps row := by
  induction h with
  | nil => exact ⟨[], rfl, fun i r z => by cases z⟩
  | cons h _ ih =>
    obtain ⟨pss, l, f⟩ := ih
    obtain ⟨ps, a, b⟩ := h
    refine ⟨ps :: pss, by rw [List.length_cons, List.length_cons, l], fun i r e => ?_⟩
    cases i with
    | zero => cases e; exact ⟨ps, _, rfl, rfl, a, b⟩
    | succ i => exact f i r e
theorem comp_copyB {K : PySem.W.Frag} {H1 : Hp} {js : List (Option Nat)} {σ : L2.St} {te : TE} {Q : VK} {b : Addr} {rs : List Addr} {rows : List (List (Int × Int))} (hb : H1 b = some (.lst (rs.map V.ref))) (bl : BillL H1 rs rows) (hn : rows.length < 100000)
    (he : ∀ r (xs : List V) H2 R, H2 r = some (.lst xs) → (∀ l H3, Same H2 H3 → H2 l = none → H3 l = some (.lst xs) → R (.ref l) H3) → te (some (.ref r) :: pick σ js) H2 R)
    (hQ : ∀ acc ls H', Same H1 H' → H1 acc = none → H' acc = some (.lst (ls.map V.ref)) → BillL H' ls rows → (∀ r ∈ ls, H1 r = none ∧ r ≠ acc) → ls.Nodup → Q (.ref acc) H') :
    CompB (Itl K b) H1 (none :: js) (gName 0) tYes te σ Q := by
  obtain ⟨pss, lp, fp⟩ := bl.parts
  have ln := bl.len
  refine comp_inv (J := Itl K b) (H1 := H1) (js := js) (σ := σ) (te := te) (Q := Q) rs.length (fun i => (rs.map V.ref).getD i .non) (fun acc ys H => ∃ ls : List Addr, ys = ls.map V.ref ∧ ls.Nodup ∧ (∀ r ∈ ls, H1 r = none ∧ r ≠ acc) ∧ ∀ (i : Nat) l, ls[i]? = some l → H l = some (.lst ((pss.getD i []).map V.ref))) (by omega)
    ?_ (fun acc H => ⟨[], rfl, .nil, (fun _ z => by cases z), fun i l z => by cases z⟩)
    (fun i H h s => ⟨_, .ref rs[i], s.seq (SqL.of hb), by simp [h]⟩) (fun H s => ⟨_, s.seq (SqL.of hb), by simp⟩) ?_ ?_ ?_
  · rintro acc ys H H' ⟨ls, e, nd, n, f⟩ s
    exact ⟨ls, e, nd, n, fun i l z => s l _ (n l (List.mem_of_getElem? z)).2 (f i l z)⟩
  · intro i H x H' h s y
    refine ⟨y.1, ?_⟩
    have e := y.2 _ (s.seq (SqL.of hb))
    rw [List.getD_eq_getElem?_getD, e]; rfl
  · rintro acc i ys H2 R hi s n1 n2 ln2 ⟨ls, rfl, nd, n, f⟩ k
    have er : rs[i]? = some rs[i] := List.getElem?_eq_getElem hi
    obtain ⟨ps, row, e1, e2, e3, e4⟩ := fp i _ er
    have eg : (rs.map V.ref).getD i .non = .ref rs[i] := by rw [List.getD_eq_getElem?_getD, List.getElem?_map, er]; rfl
    rw [List.length_map] at ln2
    show te (some ((rs.map V.ref).getD i .non) :: pick σ js) H2 R
    rw [eg]
    refine he _ _ H2 R (s _ _ e3) fun l H3 s3 nl hl => k (.ref l) H3 s3 ⟨ls ++ [l], by rw [List.map_append]; rfl, ?_, fun r hr => ?_, fun j l' z => ?_⟩
    · refine List.nodup_append.mpr ⟨nd, by simp, fun x hx y hy z => ?_⟩
      rw [List.mem_singleton.mp hy] at z
      subst z
      obtain ⟨j, hj, ej⟩ := List.mem_iff_getElem.mp hx
      have := f j x (by rw [List.getElem?_eq_getElem hj, ej])
      rw [this] at nl
      cases nl
    · rcases List.mem_append.mp hr with z | z
      · exact n r z
      · rw [List.mem_singleton.mp z]
        exact ⟨s.free nl, fun z => by rw [z, n2] at nl; cases nl⟩
    · by_cases hj : j < ls.length
      · rw [List.getElem?_append_left hj] at z
        exact s3 _ _ (f j l' z)
      · have hj' := (List.getElem?_eq_some_iff.mp z).1
        rw [List.length_append, List.length_singleton] at hj'
        have ej : j = ls.length := by omega
        subst ej
        rw [List.getElem?_append_right (Nat.le_refl _), Nat.sub_self] at z
        cases z
        rw [ln2, List.getD_eq_getElem?_getD, e1]
        exact hl
  · rintro acc ys H' s n1 n2 l2 ⟨ls, rfl, nd, n, f⟩
    rw [List.length_map] at l2
    refine hQ acc ls H' s n1 n2 (paired_of (by omega) fun i l row z1 z2 => ?_) n nd
    have hi : i < rs.length := by rw [← l2]; exact (List.getElem?_eq_some_iff.mp z1).1
    obtain ⟨ps, row', e1, e2, e3, e4⟩ := fp i _ (List.getElem?_eq_getElem hi)
    rw [z2] at e2
    cases e2
    have g := f i l z1
    rw [List.getD_eq_getElem?_getD, e1] at g
    exact ⟨ps, g, e4.same s⟩
end L2
set_option Elab.async false
set_option linter.all false
set_option maxRecDepth 100000
namespace L2
open PySem PySem.Spec PyProof.Rows
def addRow (row r2 : List (Int × Int)) : List (Int × Int) := (row.filter fun x => (look r2 x.1).isSome).map fun x => (x.1, x.2 + (look r2 x.1).getD 0)
def keysOf (row : List (Int × Int)) : List Int := row.map (·.1)
def sumS (rows : List (List (Int × Int))) : List Nat → List (Int × Int)
  | [] => []
  | s :: st => st.foldl (fun acc j => addRow acc (rows.getD j [])) (rows.getD s [])
def keyS (rows : List (List (Int × Int))) : List Nat → List Int
  | [] => []
  | s :: st => st.foldl (fun acc j => acc.filter fun b => decide (b ∈ keysOf (rows.getD j []))) (keysOf (rows.getD s []))
def totS (rows : List (List (Int × Int))) (st : List Nat) (b : Int) : Int := (st.map fun s => (look (rows.getD s []) b).getD 0).sum
def sumsR (rows : List (List (Int × Int))) (p : List Int) : List (List (Int × Int)) := (List.range (dd p).length).map fun b => sumS rows (blkS p b)
theorem sumS_snoc {rows : List (List (Int × Int))} {st : List Nat} (h : st ≠ []) (s : Nat) : sumS rows (st ++ [s]) = addRow (sumS rows st) (rows.getD s []) := by
  cases st with
  | nil => exact absurd rfl h
  | cons a r => show ((r ++ [s]).foldl _ _) = _; rw [List.foldl_append]; rfl
theorem keyS_snoc {rows : List (List (Int × Int))} {st : List Nat} (h : st ≠ []) (s : Nat) : keyS rows (st ++ [s]) = (keyS rows st).filter fun b => decide (b ∈ keysOf (rows.getD s [])) := by
  cases st with
  | nil => exact absurd rfl h
  | cons a r => show ((r ++ [s]).foldl _ _) = _; rw [List.foldl_append]; rfl
theorem totS_snoc {rows : List (List (Int × Int))} {st : List Nat} (s : Nat) (b : Int) : totS rows (st ++ [s]) b = totS rows st b + (look (rows.getD s []) b).getD 0 := by
  unfold totS
  rw [List.map_append, List.sum_append]
  simp
theorem look_isSome {row : List (Int × Int)} {b : Int} : (look row b).isSome = decide (b ∈ keysOf row) := by
  cases e : look row b with
  | none => exact (decide_eq_false (show b ∉ keysOf row from look_none.mp e)).symm
  | some c => exact (decide_eq_true (show b ∈ keysOf row from List.mem_map.mpr ⟨_, look_some e, rfl⟩)).symm
theorem row_keys {row : List (Int × Int)} (nd : (keysOf row).Nodup) : row = (keysOf row).map fun b => (b, (look row b).getD 0) := by
  unfold keysOf
  rw [List.map_map]
  conv => lhs; rw [← List.map_id row]
  apply List.map_congr_left
  intro x hx
  show x = (x.1, (look row x.1).getD 0)
  rw [look_mem nd hx]; rfl
theorem snoc_ne {α : Type} {P : List α → Prop} (h1 : ∀ a, P [a]) (h2 : ∀ l a, l ≠ [] → P l → P (l ++ [a])) : ∀ l, l ≠ [] → P l := by
  intro l
  have key : ∀ (n : Nat) (l : List α), l.length = n → l ≠ [] → P l := by
    intro n
    induction n with
    | zero => intro l e h; exact absurd (List.length_eq_zero_iff.mp e) h
    | succ n ih =>
      intro l e h
      have e1 := List.dropLast_concat_getLast h
      by_cases z : l.dropLast = []
      · rw [z] at e1
        rw [← e1]
        exact h1 _
      · rw [← e1]
        exact h2 _ _ z (ih _ (by rw [List.length_dropLast]; omega) z)
  exact key _ l rfl
theorem sumS_eq {rows : List (List (Int × Int))} (nd : ∀ row ∈ rows, (keysOf row).Nodup) : ∀ st, st ≠ [] → sumS rows st = (keyS rows st).map fun b => (b, totS rows st b) := by
  refine snoc_ne (fun s => ?_) (fun st s hne ih => ?_)
  · show rows.getD s [] = (keysOf (rows.getD s [])).map _
    have hn : (keysOf (rows.getD s [])).Nodup := by
      rw [List.getD_eq_getElem?_getD]
      cases e : rows[s]? with
      | none => exact .nil
      | some row => exact nd row (List.mem_of_getElem? e)
    conv => lhs; rw [row_keys hn]
    apply List.map_congr_left
    intro b _
    unfold totS
    simp
  · rw [sumS_snoc hne, keyS_snoc hne, ih]
    unfold addRow
    rw [List.filter_map, List.map_map]
    have e1 : (fun x : Int × Int => (look (rows.getD s []) x.1).isSome) ∘ (fun b => (b, totS rows st b)) = fun b => decide (b ∈ keysOf (rows.getD s [])) := by
      funext b
      exact look_isSome
    rw [e1]
    apply List.map_congr_left
    intro b _
    show (b, totS rows st b + _) = _
    rw [totS_snoc]
theorem keyS_mem {rows : List (List (Int × Int))} : ∀ st, st ≠ [] → ∀ b, b ∈ keyS rows st ↔ ∀ s ∈ st, b ∈ keysOf (rows.getD s []) := by
  refine snoc_ne (fun s b => ?_) (fun st s hne ih b => ?_)
  · show b ∈ keysOf (rows.getD s []) ↔ _
    simp
  · rw [keyS_snoc hne, List.mem_filter, ih b, decide_eq_true_iff]
    constructor
    · rintro ⟨h1, h2⟩ x hx
      rcases List.mem_append.mp hx with z | z
      · exact h1 x z
      · rw [List.mem_singleton.mp z]; exact h2
    · intro h
      exact ⟨fun x hx => h x (List.mem_append_left _ hx), h s (List.mem_append_right _ (by simp))⟩
theorem sift2 {α β : Type} {l : List α} {d : α} {g : α → Bool} {F : α → β} : (((List.range l.length).filter fun j => g (l.getD j d)).map fun j => F (l.getD j d)) = (l.filter g).map F := by
  have e0 : l = (List.range l.length).map fun i => l.getD i d := by
    conv => lhs; rw [← List.map_id l]
    exact (map_atP fun i x hx => by rw [List.getD_eq_getElem?_getD, hx]; rfl).symm
  conv => rhs; rw [e0]
  rw [List.filter_map, List.map_map]
  rfl
theorem tups_of {H : Hp} {g : Nat → Int × Int} : ∀ {is : List Nat} {vs : List V}, Paired (fun i v => ∃ t, v = .ref t ∧ PairT H t (g i)) is vs → ∃ ps : List Addr, vs = ps.map V.ref ∧ TupsL H ps (is.map g)
  | _, _, .nil => ⟨[], rfl, .nil⟩
  | _, _, .cons ⟨t, e, h⟩ r => by
    obtain ⟨ps, e2, h2⟩ := tups_of r
    exact ⟨t :: ps, by rw [e, e2]; rfl, .cons h h2⟩
theorem addRow_len (row r2 : List (Int × Int)) : (addRow row r2).length ≤ row.length := by
  unfold addRow
  rw [List.length_map]
  exact List.length_filter_le _ _
theorem sumS_len {rows : List (List (Int × Int))} {n : Nat} (h : ∀ row ∈ rows, row.length ≤ n) : ∀ st, (sumS rows st).length ≤ n := by
  have base : ∀ s, (rows.getD s []).length ≤ n := fun s => by
    rw [List.getD_eq_getElem?_getD]
    cases e : rows[s]? with
    | none => exact Nat.zero_le _
    | some row => exact h row (List.mem_of_getElem? e)
  intro st
  by_cases z : st = []
  · rw [z]; exact Nat.zero_le _
  · exact snoc_ne (P := fun st => (sumS rows st).length ≤ n) base (fun st s hne ih => by rw [sumS_snoc hne]; exact Nat.le_trans (addRow_len _ _) ih) st z
def RowN (acc : Addr) (H : Hp) (r : Addr) (row : List (Int × Int)) : Prop := r ≠ acc ∧ ∃ ps : List Addr, H r = some (.lst (ps.map V.ref)) ∧ (∀ a ∈ ps, a ≠ acc) ∧ TupsL H ps row
theorem RowN.mono {acc : Addr} {H H' : Hp} {r : Addr} {row : List (Int × Int)} (h : RowN acc H r row) (s : SameBut acc H H') : RowN acc H' r row := by
  obtain ⟨n, ps, a, b, c⟩ := h
  refine ⟨n, ps, s _ _ n a, b, paired_of (Paired.length c) fun i x y e1 e2 => ?_⟩
  obtain ⟨y', e3, q⟩ := pair_at c e1
  rw [e2] at e3
  cases e3
  exact s _ _ (b x (List.mem_of_getElem? e1)) q
theorem RowN.at {acc : Addr} {H : Hp} {r : Addr} {row : List (Int × Int)} (h : RowN acc H r row) : RowAt H r row := let ⟨_, ps, a, _, c⟩ := h; ⟨ps, a, c⟩
theorem RowAt.n {acc : Addr} {H : Hp} {r : Addr} {row : List (Int × Int)} {xs : List V} (h : RowAt H r row) (n : r ≠ acc) (ha : H acc = some (.lst xs)) : RowN acc H r row := by
  obtain ⟨ps, a, c⟩ := h
  refine ⟨n, ps, a, fun x hx z => ?_, c⟩
  obtain ⟨i, hi, ei⟩ := List.mem_iff_getElem.mp hx
  obtain ⟨y, _, q⟩ := pair_at c (List.getElem?_eq_getElem hi)
  rw [PairT, ei, z, ha] at q
  cases q
theorem comp_rowsR {H1 : Hp} {js : List (Option Nat)} {σ : L2.St} {te : TE} {Q : VK} {n : Nat} (f : Nat → List (Int × Int)) (hn : n < 100000)
    (he : ∀ i : Nat, i < n → ∀ H2 R, Same H1 H2 → (∀ r H3, Same H2 H3 → H2 r = none → RowAt H3 r (f i) → R (.ref r) H3) → te (some (.int (0 + (i : Int))) :: pick σ js) H2 R)
    (hQ : ∀ acc ls H', Same H1 H' → H1 acc = none → H' acc = some (.lst (ls.map V.ref)) → BillL H' ls ((List.range n).map f) → (∀ r ∈ ls, H1 r = none ∧ r ≠ acc) → Q (.ref acc) H') : CompB (Itr 0 n) H1 (none :: js) (gName 0) tYes te σ Q := by
  refine comp_invR (fun acc ys H => ∃ ls : List Addr, ys = ls.map V.ref ∧ ∀ (i : Nat) r, ls[i]? = some r → H1 r = none ∧ RowN acc H r (f i)) hn (fun acc ys H H' ⟨ls, e, h⟩ s => ⟨ls, e, fun i r z => ⟨(h i r z).1, (h i r z).2.mono s⟩⟩) (fun acc H => ⟨[], rfl, fun i r z => by cases z⟩) ?_ ?_
  · rintro acc i ys H2 R hi s n1 n2 ln ⟨ls, rfl, h⟩ k
    rw [List.length_map] at ln
    refine he i hi H2 R s fun r H3 s3 nr hr => k (.ref r) H3 s3 ⟨ls ++ [r], by rw [List.map_append]; rfl, fun j r' z => ?_⟩
    have n3 := s3 _ _ n2
    by_cases hj : j < ls.length
    · rw [List.getElem?_append_left hj] at z
      exact ⟨(h j r' z).1, (h j r' z).2.mono s3.but⟩
    · have hj' := (List.getElem?_eq_some_iff.mp z).1
      rw [List.length_append, List.length_singleton] at hj'
      have ej : j = ls.length := by omega
      subst ej
      rw [List.getElem?_append_right (Nat.le_refl _), Nat.sub_self] at z
      cases z
      rw [ln]
      exact ⟨s.free nr, hr.n (fun z => by rw [z, n2] at nr; cases nr) n3⟩
  · rintro acc ys H' s n1 n2 ln ⟨ls, rfl, h⟩
    rw [List.length_map] at ln
    refine hQ acc ls H' s n1 n2 (paired_of (by rw [List.length_map, List.length_range]; exact ln) fun i r row e1 e2 => ?_) fun r hr => ?_
    · rw [List.getElem?_map] at e2
      obtain ⟨j, e3, e4⟩ := Option.map_eq_some_iff.mp e2
      have hj := (List.getElem?_eq_some_iff.mp e3)
      obtain ⟨hj1, hj2⟩ := hj
      rw [List.getElem_range] at hj2
      subst hj2
      subst e4
      exact (h i r e1).2.at
    · obtain ⟨i, hi, ei⟩ := List.mem_iff_getElem.mp hr
      have := h i r (by rw [List.getElem?_eq_getElem hi, ei])
      exact ⟨this.1, this.2.1⟩
def blkT (p : List Int) (b : Int) (i : Nat) : List Nat := (List.range i).filter fun j => decide (p.getD j 0 = b)
theorem blkT_succ (p : List Int) (b : Int) (i : Nat) : blkT p b (i + 1) = if p.getD i 0 = b then blkT p b i ++ [i] else blkT p b i := by
  unfold blkT
  rw [List.range_succ, List.filter_append]
  by_cases z : p.getD i 0 = b
  · rw [if_pos z, List.filter_cons, if_pos (decide_eq_true z)]; rfl
  · rw [if_neg z, List.filter_cons, if_neg (by rw [decide_eq_false z]; decide)]; exact List.append_nil _
theorem blkT_all (p : List Int) (b : Nat) : blkT p (b : Int) p.length = blkS p b := rfl
end L2
set_option Elab.async false
set_option linter.all false
set_option maxRecDepth 100000
set_option maxHeartbeats 4000000
namespace My
seal L2.PE L2.PA L2.PS L2.PSs L2.PT L2.PW L2.PI L2.PG L2.PGs L2.PIf L2.PO L2.OpR L2.CallR L2.IxR L2.SlR L2.UnR
open PySem L2 PyProof.Rows
local macro_rules | `(tactic| walk_at "go") => `(tactic| repeat (first | refine ⟨_, rfl, ?_⟩ | refine ⟨_, _, rfl, rfl, (show (0 : Int) < _ by decide), ?_⟩ | refine ⟨_, _, rfl, rfl, (show CDiv _ _ from ⟨by decide, by decide⟩), ?_⟩ | refine ⟨_, _, rfl, rfl, (show CPow _ _ from ⟨by decide, by decide, by decide⟩), ?_⟩ | refine ⟨_, _, rfl, rfl, (show CMul _ _ from .inl ⟨by decide, by decide⟩), ?_⟩ | refine ⟨_, _, rfl, rfl, (show CMul _ _ from .inr ⟨by decide, by decide⟩), ?_⟩ | refine ⟨_, _, rfl, rfl, ?_⟩ | refine ⟨rfl, ?_⟩))
def top (i : Nat) : Stmt := PySem.Challenge.pw_deskround_k31_sums_of_blocks.main.body.getD i (.Pass ⟨0, 0, 0, 0⟩)
abbrev s_width : Stmt := top 1
abbrev s_sums : Stmt := top 3
abbrev s_sums_of : Stmt := top 4
abbrev s_added : Stmt := top 5
abbrev s_law_cell : Stmt := top 7
abbrev s_law_entries : Stmt := top 8
abbrev s_law_whole : Stmt := top 9
abbrev s_law_badges : Stmt := top 10
abbrev s_law_bill : Stmt := top 11
abbrev s_law_wide : Stmt := top 12
abbrev s_law_pattern : Stmt := top 13
abbrev s_law_pool : Stmt := top 14
abbrev s_law_minutes : Stmt := top 15
abbrev s_law_same_pairs : Stmt := top 16
abbrev s_law_due : Stmt := top 17
abbrev s_law_good : Stmt := top 18
abbrev s_law : Stmt := top 19
structure Txt (mg : Str → Option Value) : Prop where
  z_bool : mg "bool" = none
  z_dict : mg "dict" = none
  z_int : mg "int" = none
  z_isinstance : mg "isinstance" = none
  z_len : mg "len" = none
  z_list : mg "list" = none
  z_range : mg "range" = none
  z_reversed : mg "reversed" = none
  z_set : mg "set" = none
  z_tuple : mg "tuple" = none
structure Dfs (K : PySem.W.Frag) (mg : Str → Option Value) (a_width a_sums a_sums_of a_added a_law_cell a_law_entries a_law_whole a_law_badges a_law_bill a_law_wide a_law_pattern a_law_pool a_law_minutes a_law_same_pairs a_law_due a_law_good a_law : Addr) (d_width d_sums d_sums_of d_added d_law_cell d_law_entries d_law_whole d_law_badges d_law_bill d_law_wide d_law_pattern d_law_pool d_law_minutes d_law_same_pairs d_law_due d_law_good d_law : FuncData) : Prop where
  width : Def K mg "width" s_width ["pattern"] a_width d_width
  sums : Def K mg "sums" s_sums ["pattern", "bill"] a_sums d_sums
  sums_of : Def K mg "sums_of" s_sums_of ["block", "pattern", "bill"] a_sums_of d_sums_of
  added : Def K mg "added" s_added ["pairs", "minutes"] a_added d_added
  law_cell : Def K mg "_law_cell" s_law_cell ["script", "k"] a_law_cell d_law_cell
  law_entries : Def K mg "_law_entries" s_law_entries ["script", "size"] a_law_entries d_law_entries
  law_whole : Def K mg "_law_whole" s_law_whole ["found"] a_law_whole d_law_whole
  law_badges : Def K mg "_law_badges" s_law_badges ["cells", "gap", "high"] a_law_badges d_law_badges
  law_bill : Def K mg "_law_bill" s_law_bill ["cells", "badges", "dense", "top", "count"] a_law_bill d_law_bill
  law_wide : Def K mg "_law_wide" s_law_wide ["pattern"] a_law_wide d_law_wide
  law_pattern : Def K mg "_law_pattern" s_law_pattern ["cells"] a_law_pattern d_law_pattern
  law_pool : Def K mg "_law_pool" s_law_pool ["block", "pattern", "bill"] a_law_pool d_law_pool
  law_minutes : Def K mg "_law_minutes" s_law_minutes ["badge", "block", "pattern", "bill"] a_law_minutes d_law_minutes
  law_same_pairs : Def K mg "_law_same_pairs" s_law_same_pairs ["found", "due"] a_law_same_pairs d_law_same_pairs
  law_due : Def K mg "_law_due" s_law_due ["pattern", "bill"] a_law_due d_law_due
  law_good : Def K mg "_law_good" s_law_good ["found", "due"] a_law_good d_law_good
  law : Def K mg "law" s_law ["script"] a_law d_law
section
variable {P : Program} {w : World} {K : PySem.W.Frag} {mg : Str → Option Value} {base : Heap} {a_width a_sums a_sums_of a_added a_law_cell a_law_entries a_law_whole a_law_badges a_law_bill a_law_wide a_law_pattern a_law_pool a_law_minutes a_law_same_pairs a_law_due a_law_good a_law : Addr} {d_width d_sums d_sums_of d_added d_law_cell d_law_entries d_law_whole d_law_badges d_law_bill d_law_wide d_law_pattern d_law_pool d_law_minutes d_law_same_pairs d_law_due d_law_good d_law : FuncData}
def sp_width (K : PySem.W.Frag) : Sp := fun vs H Q _ => ∃ (a : Addr) (ps : List Int), vs = [.ref a] ∧ SqL K H a (ps.map V.int) ∧ ps.length ≤ 6 ∧ ∀ H', Same H H' → Q (.int (((dd ps).length : Nat) : Int)) H'
theorem sc_width : FnScope ["pattern"] ["pattern"] (defScope s_width) := ⟨rfl, rfl, rfl, by decide +kernel, rfl, by decide +kernel, by decide +kernel⟩
theorem ok_width (D : Dfs K mg a_width a_sums a_sums_of a_added a_law_cell a_law_entries a_law_whole a_law_badges a_law_bill a_law_wide a_law_pattern a_law_pool a_law_minutes a_law_same_pairs a_law_due a_law_good a_law d_width d_sums d_sums_of d_added d_law_cell d_law_entries d_law_whole d_law_badges d_law_bill d_law_wide d_law_pattern d_law_pool d_law_minutes d_law_same_pairs d_law_due d_law_good d_law) (T : Txt mg) : FnOk P w K mg base CX0 1 a_width d_width ["pattern"] (sp_width K) := by
  refine D.width.fn.ok sc_width (fun vs H Q E h => ?_) (fun cdv A outer s H vs Q E hr h => ?_)
  · obtain ⟨a, ps, rfl, _⟩ := h; rfl
  · have hu := hu_of hr
    obtain ⟨a, ps, rfl, ha, h6, q⟩ := h
    refine ⟨_, (pss_one (ps_ret (pe_callB (cLenS w) (by rfl) T.z_len boot_len (pa_cons (pe_callTy (cSet w K) (by rfl) T.z_set PyProof.Rows.boot_set (pa_cons (pv 0) pa_nil)) pa_nil)))), ?_⟩
    exact ⟨_, rfl, a, ps, rfl, ha, by omega, fun S nS => ⟨S, _, rfl, upd_same, q _ (Same.new nS)⟩⟩
def sp_added (K : PySem.W.Frag) : Sp := fun vs H Q _ => ∃ (pa d : Addr) (row r2 : List (Int × Int)), vs = [.ref pa, .ref d] ∧ RowAt H pa row ∧ H d = some (.dK (kvR r2)) ∧ row.length ≤ 1000 ∧
  ∀ l H', Same H H' → H l = none → RowAt H' l (addRow row r2) → Q (.ref l) H'
theorem sc_added : FnScope ["pairs", "minutes"] ["pairs", "minutes"] (defScope s_added) := ⟨rfl, rfl, rfl, by decide +kernel, rfl, by decide +kernel, by decide +kernel⟩
theorem ok_added (D : Dfs K mg a_width a_sums a_sums_of a_added a_law_cell a_law_entries a_law_whole a_law_badges a_law_bill a_law_wide a_law_pattern a_law_pool a_law_minutes a_law_same_pairs a_law_due a_law_good a_law d_width d_sums d_sums_of d_added d_law_cell d_law_entries d_law_whole d_law_badges d_law_bill d_law_wide d_law_pattern d_law_pool d_law_minutes d_law_same_pairs d_law_due d_law_good d_law) (T : Txt mg) : FnOk P w K mg base CX0 1 a_added d_added ["pairs", "minutes"] (sp_added K) := by
  refine D.added.fn.ok sc_added (fun vs H Q E h => ?_) (fun cdv A outer s H vs Q E hr h => ?_)
  · obtain ⟨pa, d, row, r2, rfl, _⟩ := h; rfl
  · have hu := hu_of hr
    obtain ⟨pa, d, row, r2, rfl, hr, hd, hl, q⟩ := h
    refine ⟨_, (pss_one (ps_ret (pe_lcomp ["badge", "cost", "minutes"] [none, none, some 1] rfl (piL K (pv 0)) (fun _ => pgT K (n := 2) rfl (pgs_cons (pg_name (i := 0) (nodupN (N := ["badge", "cost", "minutes"]) (by decide +kernel)) rfl (Or.inl rfl)) (pgs_cons (pg_name (i := 1) (nodupN (N := ["badge", "cost", "minutes"]) (by decide +kernel)) rfl (Or.inl rfl)) pgs_nil))) (fun _ => pif_one (pt_cmp (pc_din hu (pv 0) (pv 2)))) (fun _ => (pe_tup (pa_cons (pv 0) (pa_cons (pe_op op_add (pv 1) (pe_dget hu (pv 2) (pv 0) (fun _ _ => rfl))) pa_nil)))) ((.cons (fun _ e => by cases e) (.cons (fun _ e => by cases e) (.cons (fun _ e => by cases e; exact ⟨rfl, rfl⟩) .nil))))))), ?_⟩
    obtain ⟨ps, h1, h2⟩ := hr
    refine ⟨_, rfl, pa, rfl, ⟨_, SqL.of h1⟩, ?_⟩
    refine comp_pairs (ps := ps) (row := row) (fun i => (look r2 (row.getD i (0, 0)).1).isSome) (fun acc i v H => ∃ t, v = .ref t ∧ t ≠ acc ∧ PairT H t ((row.getD i (0, 0)).1, (row.getD i (0, 0)).2 + (look r2 (row.getD i (0, 0)).1).getD 0)) (SqL.of h1) h2 (by omega) (fun acc i v H H' ⟨t, e, n, h⟩ s => ⟨t, e, n, s _ _ n h⟩) (fun i x hx H2 R s2 k => ?_) (fun acc i x hx hp H2 R s2 n1 n2 k => ?_) fun acc vs H2 s2 nacc hacc hpr => ?_
    · have eg : row.getD i (0, 0) = x := by rw [List.getD_eq_getElem?_getD, hx]; rfl
      rw [eg] at k
      have g := DGet.k (k := Sum.inl x.1) (s2 _ _ hd)
      rw [valV_kvR] at g
      have ei : ((look r2 x.1).map V.int).isSome = (look r2 x.1).isSome := Option.isSome_map
      have kk := k H2 (Same.refl _)
      rw [← ei] at kk
      exact ⟨_, rfl, _, rfl, d, _, rfl, g, _, rfl, kk⟩
    · have eg : row.getD i (0, 0) = x := by rw [List.getD_eq_getElem?_getD, hx]; rfl
      rw [eg] at k hp
      have g := DGet.k (k := Sum.inl x.1) (s2 _ _ hd)
      rw [valV_kvR] at g
      obtain ⟨c, hc⟩ := Option.isSome_iff_exists.mp hp
      rw [hc] at g k
      refine ⟨_, rfl, _, rfl, _, rfl, _, rfl, d, .int c, rfl, g, _, _, rfl, rfl, szr, fun t nt => k _ _ (Same.new nt) ⟨t, rfl, fun z => n2 (by rw [← z]; exact nt), upd_same⟩⟩
    · have hpr2 : Paired (fun (i : Nat) (v : V) => ∃ t, v = V.ref t ∧ PairT H2 t ((row.getD i (0, 0)).1, (row.getD i (0, 0)).2 + (look r2 (row.getD i (0, 0)).1).getD 0)) _ _ := Paired.mapP hpr fun i v ⟨t, e, _, h⟩ => ⟨t, e, h⟩
      obtain ⟨qs, e1, e2⟩ := tups_of hpr2
      rw [sift2 (g := fun x => (look r2 x.1).isSome) (F := fun x => (x.1, x.2 + (look r2 x.1).getD 0)) (d := (0, 0))] at e2
      exact q acc H2 s2 nacc ⟨qs, by rw [hacc, e1], e2⟩
def sp_sums_of (K : PySem.W.Frag) : Sp := fun vs H Q _ => ∃ (b : Nat) (pa ba : Addr) (p : List Int) (rs : List Addr) (rows : List (List (Int × Int))), vs = [.int ((b : Nat) : Int), .ref pa, .ref ba] ∧ SqL K H pa (p.map V.int) ∧ H ba = some (.lst (rs.map V.ref)) ∧ BillL H rs rows ∧ Canon p ∧ b < (dd p).length ∧ p.length ≤ rows.length ∧ rows.length ≤ 6 ∧ (∀ row ∈ rows, row.length ≤ 20 ∧ (keysOf row).Nodup) ∧
  ∀ l H', Same H H' → H l = none → RowAt H' l (sumS rows (blkS p b)) → Q (.ref l) H'
theorem sc_sums_of : FnScope ["block", "pattern", "bill", "steps", "step", "pairs"] ["block", "pattern", "bill"] (defScope s_sums_of) := ⟨rfl, rfl, rfl, by decide +kernel, rfl, by decide +kernel, by decide +kernel⟩
theorem ok_sums_of (D : Dfs K mg a_width a_sums a_sums_of a_added a_law_cell a_law_entries a_law_whole a_law_badges a_law_bill a_law_wide a_law_pattern a_law_pool a_law_minutes a_law_same_pairs a_law_due a_law_good a_law d_width d_sums d_sums_of d_added d_law_cell d_law_entries d_law_whole d_law_badges d_law_bill d_law_wide d_law_pattern d_law_pool d_law_minutes d_law_same_pairs d_law_due d_law_good d_law) (T : Txt mg) : FnOk P w K mg base CX0 2 a_sums_of d_sums_of ["block", "pattern", "bill"] (sp_sums_of K) := by
  have Gadded : FnOk P w K mg base CX0 1 a_added d_added ["pairs", "minutes"] (sp_added K) := ok_added D T
  refine D.sums_of.fn.ok sc_sums_of (fun vs H Q E h => ?_) (fun cdv A outer s H vs Q E hr h => ?_)
  · obtain ⟨b, pa, ba, p, rs, rows, rfl, _⟩ := h; rfl
  · have hu := hu_of hr
    obtain ⟨b, pa, ba, p, rs, rows, rfl, hp, hba, bl, c, hb, hl, r6, ok, q⟩ := h
    refine ⟨_, (pss_cons (ps_setC (i₀ := 3) sc_sums_of.nd rfl (Or.inl rfl) ["step", "pattern", "block"] [none, some 1, some 0] rfl (pi_range1 rfl T.z_range (pa_cons (pe_callB (cLen K) (by rfl) T.z_len boot_len (pa_cons (pv 1) pa_nil)) pa_nil)) (fun _ => pg_name (i := 0) (nodupN (N := ["step", "pattern", "block"]) (by decide +kernel)) rfl (Or.inl rfl)) (fun _ => pif_one (pt_cmpR op_eq (pe_ix (ixL K) (pv 1) (pv 0) (fun _ _ => rfl)) (pv 2) (nomark _))) (fun _ => (pv 0)) ((.cons (fun _ e => by cases e) (.cons (fun _ e => by cases e; exact ⟨rfl, rfl⟩) (.cons (fun _ e => by cases e; exact ⟨rfl, rfl⟩) .nil)))))
      (pss_cons (ps_set (i := 5) sc_sums_of.nd rfl (Or.inl rfl) (pe_callTy (cList K) (by rfl) T.z_list boot_list (pa_cons (pe_ix (ixL K) (pv 2) (pe_ix (ixL K) (pv 3) pe_int (fun _ _ => rfl)) (fun _ _ => rfl)) pa_nil)))
      (pss_cons (ps_for PassesOwn.never rfl (piL K (pe_slice (slL K) (pv 3) (po_some pe_int) po_none)) (pg_name (i := 4) sc_sums_of.nd rfl (Or.inl rfl))
        (pss_one (ps_set (i := 5) sc_sums_of.nd rfl (Or.inl rfl) (pc D.added Gadded (hr.mono (by decide)) (pa_cons (pv 5) (pa_cons (pe_callTy (cDict K) (by rfl) T.z_dict PyProof.Rows.boot_dict (pa_cons (pe_ix (ixL K) (pv 2) (pv 4) (fun _ _ => rfl)) pa_nil)) pa_nil))))))
      (pss_one (ps_ret (pv 5)))))), ?_⟩
    refine ⟨_, rfl, _, _, rfl, .inl ⟨_, hp, rfl⟩, _, rfl, lo62 _, by rw [List.length_map]; omega, ?_⟩
    have e0 : (((p.map V.int).length : Nat) : Int).toNat = p.length := by rw [List.length_map]; omega
    rw [e0]
    refine comp_some (n := p.length) (fun i => decide (p.getD i 0 = (b : Int))) (by omega) (fun i hi H3 R s3 k => ?_) (fun i hi H3 R k => ?_) fun sl H3 s3 nsl hsl => ?_
    · have ei : (0 : Int) + (i : Int) = ((i : Nat) : Int) := by omega
      rw [ei]
      have kk := k H3 (Same.refl _)
      rw [dec_intP] at kk
      exact ⟨_, rfl, _, rfl, pa, _, _, _, rfl, rfl, s3.seq hp, atI_int hi, _, rfl, rfl, _, rfl, kk⟩
    · have ei : (0 : Int) + (i : Int) = ((i : Nat) : Int) := by omega
      rw [ei]
      exact ⟨_, rfl, k⟩
    have sne : blkS p b ≠ [] := blkS_ne c hb
    have slt : ∀ i ∈ blkS p b, i < rows.length := fun i hi => by have := (blkS_mem.mp hi).1; omega
    have hsl : H3 sl = some (.lst ((blkS p b).map fun (i : Nat) => V.int (i : Int))) := hsl
    have q2 : ∀ l H', Same H3 H' → H3 l = none → RowAt H' l (sumS rows (blkS p b)) → Q (.ref l) H' := fun l H' s n e => q l H' (s3.trans s) (s3.free n) e
    have hba3 := s3 _ _ hba
    have bl3 := bl.same s3
    clear q
    generalize blkS p b = st at hsl sne slt q2
    obtain ⟨s0, sr, rfl⟩ := List.exists_cons_of_ne_nil sne
    have at_row : ∀ i, i < rows.length → rows[i]? = some (rows.getD i []) := fun i hi => by rw [List.getD_eq_getElem?_getD, List.getElem?_eq_getElem hi]; rfl
    obtain ⟨r0, hr0, ps0, hps0, tps0⟩ := bl3.at (at_row s0 (slt s0 (by simp)))
    refine ⟨_, rfl, _, rfl, sl, _, _, _, rfl, rfl, SqL.of hsl, atI_nat (j := 0) (v := V.int (s0 : Int)) rfl, ba, _, _, _, rfl, rfl, SqL.of hba3, atI_nat (by rw [List.getElem?_map, hr0]; rfl), r0, _, rfl, .inl (SqL.of hps0), fun l nl => ?_⟩
    have cf : cutV (((s0 :: sr).map fun (i : Nat) => V.int (i : Int))) (some (1 : Int)) none = sr.map fun (i : Nat) => V.int (i : Int) := cut_from _ 1
    refine ⟨_, rfl, _, rfl, sl, _, rfl, SqL.of (Same.new nl _ _ hsl), fun cc ncc => ?_⟩
    have s34 := (Same.new (o := .lst (ps0.map V.ref)) nl).to (o := .lst (sr.map fun (i : Nat) => V.int (i : Int))) ncc
    have ncl : l ≠ cc := fun z => by rw [← z, upd_same] at ncc; cases ncc
    have hl4 : upd (upd H3 l (.lst (ps0.map V.ref))) cc (.lst (sr.map fun (i : Nat) => V.int (i : Int))) l = some (.lst (ps0.map V.ref)) := by rw [upd_ne ncl]; exact upd_same
    have hcc4 : upd (upd H3 l (.lst (ps0.map V.ref))) cc (.lst (sr.map fun (i : Nat) => V.int (i : Int))) cc = some (.lst (sr.map fun (i : Nat) => V.int (i : Int))) := upd_same
    rw [cf]
    generalize upd (upd H3 l (.lst (ps0.map V.ref))) cc (.lst (sr.map fun (i : Nat) => V.int (i : Int))) = H4 at s34 hl4 hcc4
    refine ⟨cc, rfl, ⟨_, SqL.of hcc4⟩, ?_⟩
    refine for_list (K := K) (a := cc) (xs := sr.map fun (i : Nat) => V.int (i : Int)) (fun i σ H5 => ∃ (po : Addr) (x : Option V), σ = [some (.int ((b : Nat) : Int)), some (.ref pa), some (.ref ba), some (.ref sl), x, some (.ref po)] ∧ Same H4 H5 ∧ H3 po = none ∧ RowAt H5 po (sumS rows (s0 :: sr.take i)))
      ⟨l, none, rfl, Same.refl _, nl, ⟨ps0, hl4, by rw [List.take_zero]; exact tps0.same s34⟩⟩ (fun i σ H5 _ ⟨_, _, _, s, _⟩ => s.seq (SqL.of hcc4)) ?_ ?_
    · rintro i y σ H5 hi ⟨po, x, rfl, s5, npo, hpo⟩
      obtain ⟨d, hd, rfl, _⟩ := at_nat hi
      have hdl := slt d (List.mem_cons_of_mem _ (List.mem_of_getElem? hd))
      have s35 := s34.trans s5
      have hrw := at_row d hdl
      obtain ⟨r1, hr1, ps1, hps1, tps1⟩ := (bl3.same s35).at hrw
      have okd := ok _ (List.mem_of_getElem? hrw)
      refine ⟨_, rfl, _, rfl, _, rfl, ba, _, _, _, rfl, rfl, SqL.of (s35 _ _ hba3), atI_nat (by rw [List.getElem?_map, hr1]; rfl), r1, ps1, kvR (rows.getD d []), rfl, SqL.of hps1, by unfold kvR; rw [List.length_map, tps1.len], kvR_nd okd.2, tps1.kv, fun dd nd => ?_⟩
      have s6 := Same.new (o := .dK (kvR (rows.getD d []))) nd
      refine ⟨po, dd, _, rows.getD d [], rfl, hpo.same s6, upd_same, Nat.le_trans (sumS_len (fun row h => (ok row h).1) _) (by decide), fun l2 H6 t1 t2 t3 => ?_⟩
      refine ⟨l2, _, rfl, s5.trans (s6.trans t1), s35.free (s6.free t2), ?_⟩
      have et : sr.take (i + 1) = sr.take i ++ [d] := by rw [List.take_add_one, hd]; rfl
      rw [et, ← List.cons_append, sumS_snoc (by simp)]
      exact t3
    · rintro σ H5 ⟨po, x, rfl, s5, npo, hpo⟩
      rw [List.length_map, List.take_length] at hpo
      exact ⟨_, rfl, q2 po H5 (s34.trans s5) npo hpo⟩
def sp_sums (K : PySem.W.Frag) : Sp := fun vs H Q _ => ∃ (pa ba : Addr) (p : List Int) (rs : List Addr) (rows : List (List (Int × Int))), vs = [.ref pa, .ref ba] ∧ SqL K H pa (p.map V.int) ∧ H ba = some (.lst (rs.map V.ref)) ∧ BillL H rs rows ∧ Canon p ∧ p.length ≤ rows.length ∧ rows.length ≤ 6 ∧ (∀ row ∈ rows, row.length ≤ 20 ∧ (keysOf row).Nodup) ∧
  ∀ l ls H', Same H H' → H l = none → H' l = some (.lst (ls.map V.ref)) → BillL H' ls (sumsR rows p) → (∀ r ∈ ls, H r = none ∧ r ≠ l) → Q (.ref l) H'
theorem sc_sums : FnScope ["pattern", "bill"] ["pattern", "bill"] (defScope s_sums) := ⟨rfl, rfl, rfl, by decide +kernel, rfl, by decide +kernel, by decide +kernel⟩
theorem ok_sums (D : Dfs K mg a_width a_sums a_sums_of a_added a_law_cell a_law_entries a_law_whole a_law_badges a_law_bill a_law_wide a_law_pattern a_law_pool a_law_minutes a_law_same_pairs a_law_due a_law_good a_law d_width d_sums d_sums_of d_added d_law_cell d_law_entries d_law_whole d_law_badges d_law_bill d_law_wide d_law_pattern d_law_pool d_law_minutes d_law_same_pairs d_law_due d_law_good d_law) (T : Txt mg) : FnOk P w K mg base CX0 3 a_sums d_sums ["pattern", "bill"] (sp_sums K) := by
  have Gwidth : FnOk P w K mg base CX0 1 a_width d_width ["pattern"] (sp_width K) := ok_width D T
  have Gsums_of : FnOk P w K mg base CX0 2 a_sums_of d_sums_of ["block", "pattern", "bill"] (sp_sums_of K) := ok_sums_of D T
  refine D.sums.fn.ok sc_sums (fun vs H Q E h => ?_) (fun cdv A outer s H vs Q E hr h => ?_)
  · obtain ⟨pa, ba, p, rs, rows, rfl, _⟩ := h; rfl
  · have hu := hu_of hr
    obtain ⟨pa, ba, p, rs, rows, rfl, hp, hba, bl, c, hl, r6, ok, q⟩ := h
    refine ⟨_, (pss_one (ps_ret (pe_lcomp ["block", "pattern", "bill"] [none, some 0, some 1] rfl (pi_range1 rfl T.z_range (pa_cons (pc D.width Gwidth (hr.mono (by decide)) (pa_cons (pv 0) pa_nil)) pa_nil)) (fun _ => pg_name (i := 0) (nodupN (N := ["block", "pattern", "bill"]) (by decide +kernel)) rfl (Or.inl rfl)) (fun _ => pif_nil) (fun _ => (pc D.sums_of Gsums_of (hr.mono (by decide)) (pa_cons (pv 0) (pa_cons (pv 1) (pa_cons (pv 2) pa_nil))))) ((.cons (fun _ e => by cases e) (.cons (fun _ e => by cases e; exact ⟨rfl, rfl⟩) (.cons (fun _ e => by cases e; exact ⟨rfl, rfl⟩) .nil))))))), ?_⟩
    have dl := dd_len p
    refine ⟨_, rfl, pa, p, rfl, hp, by omega, fun H1 s1 => ⟨_, rfl, lo62 _, by omega, ?_⟩⟩
    rw [Int.toNat_natCast]
    refine comp_rowsR (n := (dd p).length) (fun b => sumS rows (blkS p b)) (by omega) (fun i hi H2 R s2 k => ?_) fun acc ls H2 s2 nacc hacc bls nls => ?_
    · have ei : (0 : Int) + (i : Int) = ((i : Nat) : Int) := by omega
      rw [ei]
      have s12 := s1.trans s2
      exact ⟨_, rfl, _, rfl, _, rfl, i, pa, ba, p, rs, rows, rfl, s12.seq hp, s12 _ _ hba, bl.same s12, c, hi, hl, r6, ok, fun l H3 s3 nl hl => k l H3 s3 nl hl⟩
    · exact q acc ls H2 (s1.trans s2) (s1.free nacc) hacc bls fun r hr => ⟨s1.free (nls r hr).1, (nls r hr).2⟩
def sp_law_cell (K : PySem.W.Frag) : Sp := fun vs H Q _ => ∃ (a : Addr) (ns : List Int) (k : Nat), vs = [.ref a, .int ((k : Nat) : Int)] ∧ SqL K H a (ns.map V.int) ∧ Q (.int (ns.getD k 0)) H
theorem sc_law_cell : FnScope ["script", "k"] ["script", "k"] (defScope s_law_cell) := ⟨rfl, rfl, rfl, by decide +kernel, rfl, by decide +kernel, by decide +kernel⟩
theorem ok_law_cell (D : Dfs K mg a_width a_sums a_sums_of a_added a_law_cell a_law_entries a_law_whole a_law_badges a_law_bill a_law_wide a_law_pattern a_law_pool a_law_minutes a_law_same_pairs a_law_due a_law_good a_law d_width d_sums d_sums_of d_added d_law_cell d_law_entries d_law_whole d_law_badges d_law_bill d_law_wide d_law_pattern d_law_pool d_law_minutes d_law_same_pairs d_law_due d_law_good d_law) (T : Txt mg) : FnOk P w K mg base CX0 1 a_law_cell d_law_cell ["script", "k"] (sp_law_cell K) := by
  refine D.law_cell.fn.ok sc_law_cell (fun vs H Q E h => ?_) (fun cdv A outer s H vs Q E hr h => ?_)
  · obtain ⟨a, ns, k, rfl, _⟩ := h; rfl
  · have hu := hu_of hr
    obtain ⟨a, ns, k, rfl, hS, q⟩ := h
    refine ⟨_, (pss_cons (ps_if (pt_cmpR op_lt (pv 1) (pe_callB (cLen K) (by rfl) T.z_len boot_len (pa_cons (pv 0) pa_nil)) (nomark _))
        (pss_one (ps_ret (pe_ix (ixL K) (pv 0) (pv 1) (fun _ _ => rfl))))
        pss_nil)
      (pss_one (ps_ret pe_int))), ?_⟩
    refine ⟨_, rfl, _, rfl, _, _, rfl, .inl ⟨_, hS, rfl⟩, _, _, rfl, rfl, _, rfl, ifD (fun h => ?_) fun h => ?_⟩
    · rw [List.length_map] at h
      exact ⟨_, rfl, _, rfl, a, _, _, _, rfl, rfl, hS, atI_int (by omega), q⟩
    · rw [List.length_map] at h
      have e : ns.getD k 0 = 0 := by rw [List.getD_eq_getElem?_getD, List.getElem?_eq_none (by omega)]; rfl
      rw [e] at q
      exact q
def sp_law_entries (K : PySem.W.Frag) : Sp := fun vs H Q _ => ∃ (a : Addr) (ns : List Int) (sz : Nat), vs = [.ref a, .int ((sz : Nat) : Int)] ∧ SqL K H a (ns.map V.int) ∧ ns.length ≤ 200 ∧ 0 < sz ∧ sz ≤ 1000 ∧ ∀ l (cs : List Int) H', Same H H' → H l = none → H' l = some (.lst (cs.map V.int)) → cs.length = sz → Q (.ref l) H'
theorem modP (c : Int) : 0 ≤ c % 2147483647 ∧ c % 2147483647 < 2147483647 := ⟨Int.emod_nonneg c (by decide), Int.emod_lt_of_pos c (by decide)⟩
theorem sc_law_entries : FnScope ["script", "size", "mixed", "cell", "found", "k"] ["script", "size"] (defScope s_law_entries) := ⟨rfl, rfl, rfl, by decide +kernel, rfl, by decide +kernel, by decide +kernel⟩
theorem ok_law_entries (D : Dfs K mg a_width a_sums a_sums_of a_added a_law_cell a_law_entries a_law_whole a_law_badges a_law_bill a_law_wide a_law_pattern a_law_pool a_law_minutes a_law_same_pairs a_law_due a_law_good a_law d_width d_sums d_sums_of d_added d_law_cell d_law_entries d_law_whole d_law_badges d_law_bill d_law_wide d_law_pattern d_law_pool d_law_minutes d_law_same_pairs d_law_due d_law_good d_law) (T : Txt mg) : FnOk P w K mg base CX0 1 a_law_entries d_law_entries ["script", "size"] (sp_law_entries K) := by
  refine D.law_entries.fn.ok sc_law_entries (fun vs H Q E h => ?_) (fun cdv A outer s H vs Q E hr h => ?_)
  · obtain ⟨a, ns, sz, rfl, _⟩ := h; rfl
  · have hu := hu_of hr
    obtain ⟨a, ns, sz, rfl, hS, hl, sz0, sz1, q⟩ := h
    refine ⟨_, (pss_cons (ps_set (i := 2) sc_law_entries.nd rfl (Or.inl rfl) pe_int)
      (pss_cons (ps_for PassesOwn.never rfl (piL K (pe_slice (slL K) (pv 0) po_none (po_some pe_int))) (pg_name (i := 3) sc_law_entries.nd rfl (Or.inl rfl))
        (pss_one (ps_set (i := 2) sc_law_entries.nd rfl (Or.inl rfl) (pe_op op_mod (pe_op op_add (pe_op op_mul (pv 2) pe_int) (pv 3)) pe_int))))
      (pss_cons (ps_set (i := 4) sc_law_entries.nd rfl (Or.inl rfl) (pe_lst pa_nil))
      (pss_cons (ps_for PassesOwn.never rfl (pi_range1 rfl T.z_range (pa_cons (pv 1) pa_nil)) (pg_name (i := 5) sc_law_entries.nd rfl (Or.inl rfl))
        (pss_cons (ps_set (i := 2) sc_law_entries.nd rfl (Or.inl rfl) (pe_op op_mod (pe_op op_add (pe_op op_add (pe_op op_add (pe_op op_mul (pv 2) (pv 2)) (pe_op op_mul pe_int (pv 2))) (pv 5)) pe_int) pe_int))
        (pss_one (ps_expr (pe_bm PySem.F.plainAttrs_list PySem.F.slot_list_append PySem.F.type_list_append mt_append (pv 4) (pa_cons (pv 2) pa_nil))))))
      (pss_cons (ps_for PassesOwn.never rfl (pi_range2 rfl T.z_range (pa_cons pe_int (pa_cons (pe_callB (cLen K) (by rfl) T.z_len boot_len (pa_cons (pv 0) pa_nil)) pa_nil))) (pg_name (i := 5) sc_law_entries.nd rfl (Or.inl rfl))
        (pss_one (ps_asg (pe_ix (ixL K) (pv 0) (pv 5) (fun _ _ => rfl)) (pg_sub (pv 4) (pe_op op_mod (pe_op op_sub (pv 5) pe_int) (pv 1)) set_list))))
      (pss_one (ps_ret (pv 4)))))))), ?_⟩
    refine ⟨_, rfl, _, rfl, a, _, rfl, hS, fun c nc => ?_⟩
    have ecut : cutV (ns.map V.int) none (some 4) = (ns.take 4).map V.int := by rw [List.map_take]; exact cut_to _ 4
    rw [ecut]
    have s1 := Same.new (o := .lst ((ns.take 4).map V.int)) nc
    have hc1 : upd H c (.lst ((ns.take 4).map V.int)) c = some (.lst ((ns.take 4).map V.int)) := upd_same
    generalize upd H c (.lst ((ns.take 4).map V.int)) = H1 at s1 hc1
    refine ⟨c, rfl, ⟨_, SqL.of hc1⟩, ?_⟩
    refine for_list (K := K) (a := c) (xs := (ns.take 4).map V.int) (fun i σ Hx => ∃ (m : Int) (y : Option V), σ = [some (.ref a), some (.int sz), some (.int m), y, none, none] ∧ Same H1 Hx ∧ 0 ≤ m ∧ m < 2147483647) ⟨1, none, rfl, Same.refl _, by decide, by decide⟩ (fun i σ Hx _ ⟨_, _, _, s, _⟩ => s.seq (SqL.of hc1)) ?_ ?_
    · rintro i y σ Hx hi ⟨m, y', rfl, sx, m0, m1⟩
      obtain ⟨d, hd, rfl, ed⟩ := at_int hi
      exact ⟨_, rfl, _, _, rfl, rfl, .inl ⟨by omega, by omega⟩, _, rfl, _, _, rfl, rfl, _, _, rfl, rfl, (show (0 : Int) < 2147483647 by decide), _, _, rfl, sx, (modP _).1, (modP _).2⟩
    rintro σ H2 ⟨m, y', rfl, s12, m0, m1⟩
    refine ⟨szr, fun l nl => ?_⟩
    refine ⟨_, rfl, _, rfl, lo62 _, by omega, ?_⟩
    have e0 : ((sz : Int)).toNat = sz := by omega
    rw [e0]
    have s02 := s1.trans s12
    have nl0 := s02.free nl
    refine for_range (n := sz) (fun i σ Hx => ∃ (m : Int) (x : Option V) (cs : List Int), σ = [some (.ref a), some (.int sz), some (.int m), y', some (.ref l), x] ∧ Same H Hx ∧ Hx l = some (.lst (cs.map V.int)) ∧ cs.length = i ∧ 0 ≤ m ∧ m < 2147483647) ⟨m, none, [], rfl, s02.to nl, upd_same, rfl, m0, m1⟩ ?_ ?_
    · rintro i σ Hx hi ⟨m, x, cs, rfl, sx, hlx, lc, m0, m1⟩
      refine ⟨_, rfl, _, rfl, _, _, rfl, rfl, .inl ⟨by omega, by omega⟩, _, rfl, _, _, rfl, rfl, .inl ⟨by decide, by decide⟩, _, _, rfl, rfl, _, rfl, _, _, rfl, rfl, _, _, rfl, rfl, _, _, rfl, rfl, (show (0 : Int) < 2147483647 by decide), ?_⟩
      refine ⟨_, rfl, .inl ⟨rfl, _, SqL.of hlx⟩, _, rfl, l, _, _, rfl, rfl, hlx, szn (by rw [List.length_map]; omega), ?_⟩
      exact ⟨_, _, cs ++ [_], rfl, sx.put nl0, by rw [upd_same, List.map_append]; rfl, by rw [List.length_append, List.length_singleton, lc], (modP _).1, (modP _).2⟩
    rintro σ H3 ⟨m, x, cs, rfl, s3, hl3, lc, _, _⟩
    refine ⟨_, rfl, _, _, rfl, .inl ⟨_, s3.seq hS, rfl⟩, _, _, rfl, ⟨by decide, by decide, by omega, by rw [List.length_map]; omega⟩, ?_⟩
    rw [List.length_map]
    refine for_range (n := ((ns.length : Int) - 4).toNat) (fun i σ Hx => ∃ (x : Option V) (cs : List Int), σ = [some (.ref a), some (.int sz), some (.int m), y', some (.ref l), x] ∧ Same H Hx ∧ Hx l = some (.lst (cs.map V.int)) ∧ cs.length = sz) ⟨_, cs, rfl, s3, hl3, lc⟩ ?_ ?_
    · rintro i σ Hx hi ⟨x, cs, rfl, sx, hlx, lc⟩
      have e1 : (4 : Int) + (i : Int) = ((4 + i : Nat) : Int) := by omega
      obtain ⟨n, hn, en⟩ := modN ((4 : Int) + (i : Int) - 4) sz0
      have hi4 : 4 + i < ns.length := by omega
      refine ⟨_, rfl, _, rfl, a, _, _, _, rfl, rfl, sx.seq hS, (by rw [e1]; exact atI_int hi4), _, rfl, _, rfl, _, _, rfl, rfl, _, rfl, _, _, rfl, rfl, (show (0 : Int) < (sz : Int) by omega), l, _, _, n, rfl, rfl, hlx, (by rw [en]; exact ixN_natE (by rw [List.length_map]; omega)), ?_⟩
      exact ⟨_, cs.set n _, rfl, sx.put nl0, by rw [upd_same, List.map_set], by rw [List.length_set, lc]⟩
    rintro σ H4 ⟨x, cs, rfl, s4, hl4, lc⟩
    exact ⟨_, rfl, q l cs H4 s4 nl0 hl4 lc⟩
def sp_law_whole (K : PySem.W.Frag) : Sp := fun vs H Q _ => ∃ (i : Int), vs = [.int i] ∧ Q (.bl true) H
theorem sc_law_whole : FnScope ["found"] ["found"] (defScope s_law_whole) := ⟨rfl, rfl, rfl, by decide +kernel, rfl, by decide +kernel, by decide +kernel⟩
theorem ok_law_whole (D : Dfs K mg a_width a_sums a_sums_of a_added a_law_cell a_law_entries a_law_whole a_law_badges a_law_bill a_law_wide a_law_pattern a_law_pool a_law_minutes a_law_same_pairs a_law_due a_law_good a_law d_width d_sums d_sums_of d_added d_law_cell d_law_entries d_law_whole d_law_badges d_law_bill d_law_wide d_law_pattern d_law_pool d_law_minutes d_law_same_pairs d_law_due d_law_good d_law) (T : Txt mg) : FnOk P w K mg base CX0 1 a_law_whole d_law_whole ["found"] (sp_law_whole K) := by
  refine D.law_whole.fn.ok sc_law_whole (fun vs H Q E h => ?_) (fun cdv A outer s H vs Q E hr h => ?_)
  · obtain ⟨i, rfl, _⟩ := h; rfl
  · have hu := hu_of hr
    obtain ⟨i, rfl, q⟩ := h
    refine ⟨_, (pss_one (ps_ret (pe_and (pe_callB (cIsi K) (by rfl) T.z_isinstance boot_isinstance (pa_cons (pv 0) (pa_cons (ty_int T.z_int) pa_nil))) (pe_one (pe_not (pe_callB (cIsi K) (by rfl) T.z_isinstance boot_isinstance (pa_cons (pv 0) (pa_cons (ty_bool T.z_bool) pa_nil)))))))), ?_⟩
    exact ⟨_, rfl, _, _, _, true, rfl, .int _, rfl, _, rfl, iteT ⟨_, rfl, _, _, _, false, rfl, .int _, rfl, _, rfl, q⟩⟩
def sp_law_badges (K : PySem.W.Frag) : Sp := fun vs H Q _ => ∃ (a : Addr) (cs : List Int) (gap hi : Int), vs = [.ref a, .int gap, .int hi] ∧ SqL K H a (cs.map V.int) ∧ cs.length ≤ 20 ∧ 0 < gap ∧ gap ≤ 50000000000000000 ∧ ∀ l (bs : List Int) H', Same H H' → H l = none → H' l = some (.lst (bs.map V.int)) → bs.length = cs.length → bs.Pairwise (· < ·) → (∀ b ∈ bs, 1 ≤ b ∧ b ≤ 10 ^ 18) → Q (.ref l) H'
theorem sc_law_badges : FnScope ["cells", "gap", "high", "found", "badge", "cell"] ["cells", "gap", "high"] (defScope s_law_badges) := ⟨rfl, rfl, rfl, by decide +kernel, rfl, by decide +kernel, by decide +kernel⟩
theorem ok_law_badges (D : Dfs K mg a_width a_sums a_sums_of a_added a_law_cell a_law_entries a_law_whole a_law_badges a_law_bill a_law_wide a_law_pattern a_law_pool a_law_minutes a_law_same_pairs a_law_due a_law_good a_law d_width d_sums d_sums_of d_added d_law_cell d_law_entries d_law_whole d_law_badges d_law_bill d_law_wide d_law_pattern d_law_pool d_law_minutes d_law_same_pairs d_law_due d_law_good d_law) (T : Txt mg) : FnOk P w K mg base CX0 1 a_law_badges d_law_badges ["cells", "gap", "high"] (sp_law_badges K) := by
  refine D.law_badges.fn.ok sc_law_badges (fun vs H Q E h => ?_) (fun cdv A outer s H vs Q E hr h => ?_)
  · obtain ⟨a, cs, gap, hi, rfl, _⟩ := h; rfl
  · have hu := hu_of hr
    obtain ⟨a, cs, gap, hi, rfl, hS, hl, g0, g1, q⟩ := h
    refine ⟨_, (pss_cons (ps_set (i := 3) sc_law_badges.nd rfl (Or.inl rfl) (pe_lst pa_nil))
      (pss_cons (ps_set (i := 4) sc_law_badges.nd rfl (Or.inl rfl) pe_int)
      (pss_cons (ps_for PassesOwn.never rfl (piL K (pv 0)) (pg_name (i := 5) sc_law_badges.nd rfl (Or.inl rfl))
        (pss_cons (ps_set (i := 4) sc_law_badges.nd rfl (Or.inl rfl) (pe_op op_add (pe_op op_add (pv 4) pe_int) (pe_op op_mod (pv 5) (pv 1))))
        (pss_one (ps_expr (pe_bm PySem.F.plainAttrs_list PySem.F.slot_list_append PySem.F.type_list_append mt_append (pv 3) (pa_cons (pv 4) pa_nil))))))
      (pss_cons (ps_if (pt_cmpR op_eq (pv 2) pe_int (nomark _))
        (pss_one (ps_ret (pe_lcomp ["one"] [none] rfl (pi_rev K rfl T.z_reversed (pa_cons (pv 3) pa_nil)) (fun _ => pg_name (i := 0) (nodupN (N := ["one"]) (by decide +kernel)) rfl (Or.inl rfl)) (fun _ => pif_nil) (fun _ => (pe_op op_sub (pe_op op_add (pe_op op_pow pe_int pe_int) pe_int) (pv 0))) ((.cons (fun _ e => by cases e) .nil)))))
        pss_nil)
      (pss_one (ps_ret (pv 3))))))), ?_⟩
    refine ⟨szr, fun l nl => ?_⟩
    refine ⟨_, rfl, a, rfl, ⟨_, (Same.new nl).seq hS⟩, ?_⟩
    refine for_list (K := K) (a := a) (xs := cs.map V.int) (fun i σ Hx => ∃ (b : Int) (y : Option V) (bs : List Int), σ = [some (.ref a), some (.int gap), some (.int hi), some (.ref l), some (.int b), y] ∧ Same H Hx ∧ Hx l = some (.lst (bs.map V.int)) ∧ bs.length = i ∧ bs.Pairwise (· < ·) ∧ (∀ x ∈ bs, 1 ≤ x ∧ x ≤ b) ∧ 0 ≤ b ∧ b ≤ (i : Int) * gap) ⟨0, none, [], rfl, Same.new nl, upd_same, rfl, .nil, (fun _ z => by cases z), Int.le_refl _, by simp⟩ (fun i σ Hx _ ⟨_, _, _, _, s, _⟩ => s.seq hS) ?_ ?_
    · rintro i y σ Hx hix ⟨b, y', bs, rfl, sx, hlx, lb, up, hb, b0, b1⟩
      obtain ⟨d, hd, rfl, ed⟩ := at_int hix
      have w1 := Int.emod_nonneg d (show gap ≠ 0 by omega)
      have w2 := Int.emod_lt_of_pos d g0
      have hi' := (List.getElem?_eq_some_iff.mp hd).1
      refine ⟨_, rfl, _, _, rfl, rfl, _, rfl, _, rfl, _, _, rfl, rfl, g0, _, _, rfl, rfl, ?_⟩
      refine ⟨_, rfl, .inl ⟨rfl, _, SqL.of hlx⟩, _, rfl, l, _, _, rfl, rfl, hlx, szn (by rw [List.length_map]; omega), ?_⟩
      have em : ((i + 1 : Nat) : Int) * gap = (i : Int) * gap + gap := by rw [Int.natCast_add, Int.add_mul]; simp
      refine ⟨_, _, bs ++ [b + 1 + d % gap], rfl, sx.put nl, by rw [upd_same, List.map_append]; rfl, by rw [List.length_append, List.length_singleton, lb], up_snoc up (fun x hx => by have := hb x hx; omega), fun x hx => ?_, by omega, by omega⟩
      rcases List.mem_append.mp hx with z | z
      · have := hb x z; omega
      · rw [List.mem_singleton.mp z]; omega
    rintro σ H1 ⟨b, y', bs, rfl, s1, hl1, lb, up, hb, b0, b1⟩
    rw [List.length_map] at lb b1
    have b18 : b ≤ 1000000000000000000 := by
      have h1 : (cs.length : Int) * gap ≤ 20 * gap := Int.mul_le_mul_of_nonneg_right (by omega) (by omega)
      omega
    refine ⟨_, rfl, rfl, _, rfl, ifEq (fun e => ?_) fun ne => ?_⟩
    · refine ⟨_, rfl, l, _, rfl, SqL.of hl1, ?_⟩
      refine comp_rev (fun x => .int (10 ^ 18 + 1 - x)) (SqL.of hl1) (by omega) (fun i x hx H2 R s2 k => ?_) fun acc H2 s2 nacc hacc => ?_
      · walk_at "go"
        exact k H2 (Same.refl _)
      · have em : bs.reverse.map (fun x => V.int (10 ^ 18 + 1 - x)) = (bs.reverse.map fun x => (10 ^ 18 + 1 - x : Int)).map V.int := by rw [List.map_map]; rfl
        rw [em] at hacc
        refine q acc _ H2 (s1.trans s2) (s1.free nacc) hacc (by rw [List.length_map, List.length_reverse, lb]) (rev_up _ up) fun x hx => ?_
        obtain ⟨z, hz, rfl⟩ := List.mem_map.mp hx
        have := hb z (List.mem_reverse.mp hz)
        omega
    · refine ⟨_, rfl, q l bs H1 s1 nl hl1 lb up fun x hx => ?_⟩
      have := hb x hx
      omega
def sp_law_bill (K : PySem.W.Frag) : Sp := fun vs H Q _ => ∃ (a b : Addr) (cs bs : List Int) (dn tp : Int) (cn : Nat), vs = [.ref a, .ref b, .int dn, .int tp, .int ((cn : Nat) : Int)] ∧ SqL K H a (cs.map V.int) ∧ SqL K H b (bs.map V.int) ∧ bs.Pairwise (· < ·) ∧ 0 < tp ∧ cn ≤ 6 ∧ bs.length ≤ 20 ∧ cn * bs.length ≤ cs.length ∧
  ∀ l rs rows H', Same H H' → H l = none → H' l = some (.lst (rs.map V.ref)) → BillL H' rs rows → rows.length = cn → (∀ r ∈ rs, H r = none) → (∀ row ∈ rows, RowOk bs tp row) → Q (.ref l) H'
theorem sc_law_bill : FnScope ["cells", "badges", "dense", "top", "count", "bill", "k", "pairs", "i", "cell"] ["cells", "badges", "dense", "top", "count"] (defScope s_law_bill) := ⟨rfl, rfl, rfl, by decide +kernel, rfl, by decide +kernel, by decide +kernel⟩
theorem ok_law_bill (D : Dfs K mg a_width a_sums a_sums_of a_added a_law_cell a_law_entries a_law_whole a_law_badges a_law_bill a_law_wide a_law_pattern a_law_pool a_law_minutes a_law_same_pairs a_law_due a_law_good a_law d_width d_sums d_sums_of d_added d_law_cell d_law_entries d_law_whole d_law_badges d_law_bill d_law_wide d_law_pattern d_law_pool d_law_minutes d_law_same_pairs d_law_due d_law_good d_law) (T : Txt mg) : FnOk P w K mg base CX0 1 a_law_bill d_law_bill ["cells", "badges", "dense", "top", "count"] (sp_law_bill K) := by
  refine D.law_bill.fn.ok sc_law_bill (fun vs H Q E h => ?_) (fun cdv A outer s H vs Q E hr h => ?_)
  · obtain ⟨a, b, cs, bs, dn, tp, cn, rfl, _⟩ := h; rfl
  · have hu := hu_of hr
    obtain ⟨a, b, cs, bs, dn, tp, cn, rfl, hA, hB, up, tp0, c6, b20, cb, q⟩ := h
    refine ⟨_, (pss_cons (ps_set (i := 5) sc_law_bill.nd rfl (Or.inl rfl) (pe_lst pa_nil))
      (pss_cons (ps_for PassesOwn.never rfl (pi_range1 rfl T.z_range (pa_cons (pv 4) pa_nil)) (pg_name (i := 6) sc_law_bill.nd rfl (Or.inl rfl))
        (pss_cons (ps_set (i := 7) sc_law_bill.nd rfl (Or.inl rfl) (pe_lst pa_nil))
        (pss_cons (ps_for PassesOwn.never rfl (pi_range1 rfl T.z_range (pa_cons (pe_callB (cLen K) (by rfl) T.z_len boot_len (pa_cons (pv 1) pa_nil)) pa_nil)) (pg_name (i := 8) sc_law_bill.nd rfl (Or.inl rfl))
          (pss_cons (ps_set (i := 9) sc_law_bill.nd rfl (Or.inl rfl) (pe_ix (ixL K) (pv 0) (pe_op op_add (pe_op op_mul (pv 6) (pe_callB (cLen K) (by rfl) T.z_len boot_len (pa_cons (pv 1) pa_nil))) (pv 8)) (fun _ _ => rfl)))
          (pss_one (ps_if (pt_cmpR op_le (pe_op op_mod (pv 9) pe_int) (pv 2) (nomark _))
            (pss_one (ps_expr (pe_bm PySem.F.plainAttrs_list PySem.F.slot_list_append PySem.F.type_list_append mt_append (pv 7) (pa_cons (pe_tup (pa_cons (pe_ix (ixL K) (pv 1) (pv 8) (fun _ _ => rfl)) (pa_cons (pe_op op_mod (pe_op op_fdiv (pv 9) pe_int) (pv 3)) pa_nil))) pa_nil))))
            pss_nil))))
        (pss_one (ps_expr (pe_bm PySem.F.plainAttrs_list PySem.F.slot_list_append PySem.F.type_list_append mt_append (pv 5) (pa_cons (pv 7) pa_nil)))))))
      (pss_one (ps_ret (pv 5))))), ?_⟩
    refine ⟨szr, fun l nl => ?_⟩
    refine ⟨_, rfl, _, rfl, lo62 _, by omega, ?_⟩
    rw [Int.toNat_natCast]
    refine for_range (n := cn) (fun k σ Hx => ∃ (x1 x2 x3 x4 : Option V) (rs : List Addr) (rows : List (List (Int × Int))), σ = [some (.ref a), some (.ref b), some (.int dn), some (.int tp), some (.int cn), some (.ref l), x1, x2, x3, x4] ∧ Same H Hx ∧ Hx l = some (.lst (rs.map V.ref)) ∧ BillL Hx rs rows ∧ rows.length = k ∧ (∀ r ∈ rs, H r = none ∧ r ≠ l) ∧ ∀ row ∈ rows, RowOk bs tp row) ⟨none, none, none, none, [], [], rfl, Same.new nl, upd_same, .nil, rfl, (fun _ z => by cases z), fun _ z => by cases z⟩ ?_ ?_
    · rintro k σ Hk hk ⟨x1, x2, x3, x4, rs, rows, rfl, sk, hlk, bk, lr, nr, ok⟩
      refine ⟨szr, fun p np => ?_⟩
      have hlp : l ≠ p := ne_of_none hlk np
      have skp := Same.new (o := .lst []) np
      refine ⟨_, rfl, _, _, rfl, .inl ⟨_, (sk.trans skp).seq hB, rfl⟩, _, rfl, lo62 _, by rw [List.length_map]; omega, ?_⟩
      have e0 : (((bs.map V.int).length : Nat) : Int).toNat = bs.length := by rw [List.length_map]; omega
      rw [e0]
      refine for_range (n := bs.length) (fun i σ Hx => ∃ (x3 x4 : Option V) (ps : List Addr) (row : List (Int × Int)), σ = [some (.ref a), some (.ref b), some (.int dn), some (.int tp), some (.int cn), some (.ref l), some (.int (0 + (k : Int))), some (.ref p), x3, x4] ∧ Same Hk Hx ∧ Hx p = some (.lst (ps.map V.ref)) ∧ TupsL Hx ps row ∧ (row.map (·.1)).Pairwise (· < ·) ∧ (∀ x ∈ row, x.1 ∈ bs.take i ∧ 0 ≤ x.2 ∧ x.2 < tp) ∧ row.length ≤ i) ⟨x3, x4, [], [], rfl, skp, upd_same, .nil, .nil, (fun _ z => by cases z), Nat.zero_le _⟩ ?_ ?_
      · rintro i σ Hx hi ⟨x3, x4, ps, row, rfl, sx, hpx, tx, ux, ix, lx⟩
        have s0x := sk.trans sx
        have hki : k * bs.length + i < cs.length := by
          have h1 : k * bs.length + bs.length ≤ cn * bs.length := by
            have := Nat.mul_le_mul_right bs.length (show k + 1 ≤ cn from hk)
            rw [Nat.add_mul, Nat.one_mul] at this
            exact this
          omega
        have kb : k * bs.length ≤ 120 := Nat.mul_le_mul (show k ≤ 6 by omega) b20
        have ei : ((0 : Int) + (k : Int)) * ((bs.map V.int).length : Int) + (0 + (i : Int)) = ((k * bs.length + i : Nat) : Int) := by rw [List.length_map, Int.natCast_add, Int.natCast_mul, Int.zero_add, Int.zero_add]
        have hbi : bs[i]? = some bs[i] := List.getElem?_eq_getElem hi
        refine ⟨_, rfl, _, rfl, _, rfl, _, _, rfl, .inl ⟨_, s0x.seq hB, rfl⟩, _, _, rfl, rfl, .inl ⟨by omega, by omega⟩, _, rfl, _, _, rfl, rfl, a, _, _, _, rfl, rfl, s0x.seq hA, (by rw [ei]; exact atI_int hki), ?_⟩
        refine ⟨_, rfl, _, _, rfl, rfl, (show (0 : Int) < 5 by decide), _, rfl, _, _, rfl, rfl, _, rfl, ifD (fun le => ?_) fun _ => ?_⟩
        · refine ⟨_, rfl, .inl ⟨rfl, _, SqL.of hpx⟩, _, rfl, _, rfl, b, _, _, _, rfl, rfl, s0x.seq hB, (by rw [show (0 : Int) + (i : Int) = ((i : Nat) : Int) by omega]; exact atI_int hi), _, rfl, _, _, rfl, rfl, (show CDiv _ 5 from ⟨by decide, by decide⟩), _, rfl, _, _, rfl, rfl, tp0, szr, fun t nt => ?_⟩
          have hpt : p ≠ t := ne_of_none hpx nt
          have stx := Same.new (o := .tup [.int (bs.getD i 0), .int (cs.getD (k * bs.length + i) 0 / 5 % tp)]) nt
          have hpx' := stx _ _ hpx
          refine ⟨p, _, _, rfl, rfl, hpx', szn (by rw [List.length_map, tx.len]; omega), ?_⟩
          have w1 := Int.emod_nonneg (cs.getD (k * bs.length + i) 0 / 5) (show tp ≠ 0 by omega)
          have w2 := Int.emod_lt_of_pos (cs.getD (k * bs.length + i) 0 / 5) tp0
          have eg : bs.getD i 0 = bs[i] := by rw [List.getD_eq_getElem?_getD, hbi]; rfl
          refine ⟨_, _, ps ++ [t], row ++ [(bs.getD i 0, cs.getD (k * bs.length + i) 0 / 5 % tp)], rfl, (sx.trans stx).put np, by rw [upd_same, List.map_append]; rfl, TupsL.but (paired_snoc_len (tx.same stx) (show PairT _ t (bs.getD i 0, cs.getD (k * bs.length + i) 0 / 5 % tp) from upd_same)) hpx', ?_, ?_, by rw [List.length_append, List.length_singleton]; omega⟩
          · rw [List.map_append]
            refine up_snoc ux fun y hy => ?_
            obtain ⟨x, hx, rfl⟩ := List.mem_map.mp hy
            show x.1 < bs.getD i 0
            rw [eg]
            exact up_take up hbi _ (ix x hx).1
          · intro x hx
            rw [List.take_add_one, hbi]
            rcases List.mem_append.mp hx with z | z
            · exact ⟨List.mem_append_left _ (ix x z).1, (ix x z).2⟩
            · rw [List.mem_singleton.mp z]
              exact ⟨List.mem_append_right _ (by rw [eg]; simp), w1, w2⟩
        · refine ⟨_, _, ps, row, rfl, sx, hpx, tx, ux, fun x hx => ⟨?_, (ix x hx).2⟩, by omega⟩
          rw [List.take_add_one]
          exact List.mem_append_left _ (ix x hx).1
      rintro σ H2 ⟨x3, x4, ps, row, rfl, s2, hp2, t2, u2, i2, l2⟩
      rw [List.take_length] at i2
      have hl2 := s2 _ _ hlk
      refine ⟨_, rfl, .inl ⟨rfl, _, SqL.of hl2⟩, _, rfl, l, _, _, rfl, rfl, hl2, szn (by rw [List.length_map, bk.len]; omega), ?_⟩
      have nrl : l ∉ rs := fun z => (nr l z).2 rfl
      refine ⟨_, _, _, _, rs ++ [p], rows ++ [row], rfl, (sk.trans s2).put nl, by rw [upd_same, List.map_append]; rfl, ?_, by rw [List.length_append, List.length_singleton, lr], ?_, ?_⟩
      · exact paired_snoc_len ((bk.same s2).but hl2 nrl) (RowAt.but ⟨ps, hp2, t2⟩ hl2 fun z => hlp z.symm)
      · intro r hr
        rcases List.mem_append.mp hr with z | z
        · exact nr r z
        · rw [List.mem_singleton.mp z]; exact ⟨sk.free np, fun z => hlp z.symm⟩
      · intro x hx
        rcases List.mem_append.mp hx with z | z
        · exact ok x z
        · rw [List.mem_singleton.mp z]; exact ⟨u2, i2, l2⟩
    rintro σ H2 ⟨x1, x2, x3, x4, rs, rows, rfl, s2, hl2, b2, lr, nr, ok⟩
    exact ⟨_, rfl, q l rs rows H2 s2 nl hl2 b2 lr (fun r hr => (nr r hr).1) ok⟩
def sp_law_wide (K : PySem.W.Frag) : Sp := fun vs H Q _ => ∃ (a : Addr) (ps : List Int), vs = [.ref a] ∧ SqL K H a (ps.map V.int) ∧ ps.length ≤ 6 ∧ ∀ H', Same H H' → Q (.int (((dd ps).length : Nat) : Int)) H'
theorem sc_law_wide : FnScope ["pattern"] ["pattern"] (defScope s_law_wide) := ⟨rfl, rfl, rfl, by decide +kernel, rfl, by decide +kernel, by decide +kernel⟩
theorem ok_law_wide (D : Dfs K mg a_width a_sums a_sums_of a_added a_law_cell a_law_entries a_law_whole a_law_badges a_law_bill a_law_wide a_law_pattern a_law_pool a_law_minutes a_law_same_pairs a_law_due a_law_good a_law d_width d_sums d_sums_of d_added d_law_cell d_law_entries d_law_whole d_law_badges d_law_bill d_law_wide d_law_pattern d_law_pool d_law_minutes d_law_same_pairs d_law_due d_law_good d_law) (T : Txt mg) : FnOk P w K mg base CX0 1 a_law_wide d_law_wide ["pattern"] (sp_law_wide K) := by
  refine D.law_wide.fn.ok sc_law_wide (fun vs H Q E h => ?_) (fun cdv A outer s H vs Q E hr h => ?_)
  · obtain ⟨a, ps, rfl, _⟩ := h; rfl
  · have hu := hu_of hr
    obtain ⟨a, ps, rfl, ha, h6, q⟩ := h
    refine ⟨_, (pss_one (ps_ret (pe_callB (cLenS w) (by rfl) T.z_len boot_len (pa_cons (pe_callTy (cSet w K) (by rfl) T.z_set PyProof.Rows.boot_set (pa_cons (pv 0) pa_nil)) pa_nil)))), ?_⟩
    exact ⟨_, rfl, a, ps, rfl, ha, by omega, fun S nS => ⟨S, _, rfl, upd_same, q _ (Same.new nS)⟩⟩
def sp_law_pattern (K : PySem.W.Frag) : Sp := fun vs H Q _ => ∃ (a : Addr) (cs : List Int), vs = [.ref a] ∧ SqL K H a (cs.map V.int) ∧ cs.length ≤ 6 ∧
  ∀ l (p : List Int) H', Same H H' → H l = none → H' l = some (.lst (p.map V.int)) → Canon p → p.length = cs.length → Q (.ref l) H'
theorem sc_law_pattern : FnScope ["cells", "found", "cell"] ["cells"] (defScope s_law_pattern) := ⟨rfl, rfl, rfl, by decide +kernel, rfl, by decide +kernel, by decide +kernel⟩
theorem ok_law_pattern (D : Dfs K mg a_width a_sums a_sums_of a_added a_law_cell a_law_entries a_law_whole a_law_badges a_law_bill a_law_wide a_law_pattern a_law_pool a_law_minutes a_law_same_pairs a_law_due a_law_good a_law d_width d_sums d_sums_of d_added d_law_cell d_law_entries d_law_whole d_law_badges d_law_bill d_law_wide d_law_pattern d_law_pool d_law_minutes d_law_same_pairs d_law_due d_law_good d_law) (T : Txt mg) : FnOk P w K mg base CX0 2 a_law_pattern d_law_pattern ["cells"] (sp_law_pattern K) := by
  have Glaw_wide : FnOk P w K mg base CX0 1 a_law_wide d_law_wide ["pattern"] (sp_law_wide K) := ok_law_wide D T
  refine D.law_pattern.fn.ok sc_law_pattern (fun vs H Q E h => ?_) (fun cdv A outer s H vs Q E hr h => ?_)
  · obtain ⟨a, cs, rfl, _⟩ := h; rfl
  · have hu := hu_of hr
    obtain ⟨a, cs, rfl, ha, h6, q⟩ := h
    refine ⟨_, (pss_cons (ps_set (i := 1) sc_law_pattern.nd rfl (Or.inl rfl) (pe_lst pa_nil))
      (pss_cons (ps_for PassesOwn.never rfl (piL K (pv 0)) (pg_name (i := 2) sc_law_pattern.nd rfl (Or.inl rfl))
        (pss_one (ps_expr (pe_bm PySem.F.plainAttrs_list PySem.F.slot_list_append PySem.F.type_list_append mt_append (pv 1) (pa_cons (pe_op op_mod (pv 2) (pe_op op_add (pc D.law_wide Glaw_wide (hr.mono (by decide)) (pa_cons (pv 1) pa_nil)) pe_int)) pa_nil)))))
      (pss_one (ps_ret (pv 1))))), ?_⟩
    refine ⟨szr, fun l nl => ?_⟩
    refine ⟨_, rfl, a, rfl, ⟨_, (Same.new nl).seq ha⟩, ?_⟩
    refine for_list (K := K) (a := a) (xs := cs.map V.int) (fun i σ H1 => ∃ (p : List Int) (x : Option V), σ = [some (.ref a), some (.ref l), x] ∧ Same H H1 ∧ H1 l = some (.lst (p.map V.int)) ∧ Canon p ∧ p.length = i)
      ⟨[], none, rfl, Same.new nl, upd_same, canon_nil, rfl⟩ (fun i σ H1 _ ⟨_, _, _, s, _⟩ => s.seq ha) ?_ ?_
    · rintro i y σ H1 hi ⟨p, x, rfl, s1, hl1, cp, pl⟩
      obtain ⟨c, hc, rfl, _⟩ := at_int hi
      have hil := (List.getElem?_eq_some_iff.mp hc).1
      refine ⟨_, rfl, .inl ⟨rfl, _, SqL.of hl1⟩, _, rfl, _, rfl, l, p, rfl, SqL.of hl1, by omega, fun H2 s2 => ?_⟩
      obtain ⟨v, hv, ev⟩ := modN c (n := (dd p).length + 1) (by omega)
      have e1 : (((dd p).length : Nat) : Int) + 1 = (((dd p).length + 1 : Nat) : Int) := by omega
      refine ⟨_, _, rfl, rfl, _, _, rfl, rfl, (show (0 : Int) < (((dd p).length : Nat) : Int) + 1 by omega), ?_⟩
      dsimp only
      rw [e1, ev]
      have hl2 := s2 _ _ hl1
      refine ⟨l, _, _, rfl, rfl, hl2, szn (by rw [List.length_map]; omega), ?_⟩
      exact ⟨p ++ [(v : Int)], _, rfl, (s1.trans s2).put nl, by rw [upd_same, List.map_append]; rfl, canon_snoc cp (by omega), by rw [List.length_append, List.length_singleton, pl]⟩
    · rintro σ H1 ⟨p, x, rfl, s1, hl1, cp, pl⟩
      rw [List.length_map] at pl
      exact ⟨_, rfl, q l p H1 s1 nl hl1 cp pl⟩
def sp_law_pool (K : PySem.W.Frag) : Sp := fun vs H Q _ => ∃ (b : Nat) (pa ba : Addr) (p : List Int) (rs : List Addr) (rows : List (List (Int × Int))), vs = [.int ((b : Nat) : Int), .ref pa, .ref ba] ∧ SqL K H pa (p.map V.int) ∧ H ba = some (.lst (rs.map V.ref)) ∧ BillL H rs rows ∧ Canon p ∧ b < (dd p).length ∧ p.length ≤ rows.length ∧ rows.length ≤ 6 ∧ (∀ row ∈ rows, row.length ≤ 20 ∧ (keysOf row).Nodup) ∧
  ∀ l H', Same H H' → H l = none → H' l = some (.lst ((keyS rows (blkS p b)).map V.int)) → Q (.ref l) H'
theorem keyS_len {rows : List (List (Int × Int))} {n : Nat} (h : ∀ row ∈ rows, row.length ≤ n) : ∀ st, (keyS rows st).length ≤ n := by
  intro st
  by_cases z : st = []
  · rw [z]; exact Nat.zero_le _
  · refine snoc_ne (P := fun st => (keyS rows st).length ≤ n) (fun s => ?_) (fun st s hne ih => by rw [keyS_snoc hne]; exact Nat.le_trans (List.length_filter_le _ _) ih) st z
    show (keysOf (rows.getD s [])).length ≤ n
    unfold keysOf
    rw [List.length_map, List.getD_eq_getElem?_getD]
    cases e : rows[s]? with
    | none => exact Nat.zero_le _
    | some row => exact h row (List.mem_of_getElem? e)
theorem sift1 {l : List Int} {g : Int → Bool} : (((List.range l.length).filter fun j => g (l.getD j 0)).map fun j => V.int (l.getD j 0)) = (l.filter g).map V.int := sift2 (d := 0) (F := V.int)
theorem sc_law_pool : FnScope ["block", "pattern", "bill", "found", "k", "here"] ["block", "pattern", "bill"] (defScope s_law_pool) := ⟨rfl, rfl, rfl, by decide +kernel, rfl, by decide +kernel, by decide +kernel⟩
theorem ok_law_pool (D : Dfs K mg a_width a_sums a_sums_of a_added a_law_cell a_law_entries a_law_whole a_law_badges a_law_bill a_law_wide a_law_pattern a_law_pool a_law_minutes a_law_same_pairs a_law_due a_law_good a_law d_width d_sums d_sums_of d_added d_law_cell d_law_entries d_law_whole d_law_badges d_law_bill d_law_wide d_law_pattern d_law_pool d_law_minutes d_law_same_pairs d_law_due d_law_good d_law) (T : Txt mg) : FnOk P w K mg base CX0 1 a_law_pool d_law_pool ["block", "pattern", "bill"] (sp_law_pool K) := by
  refine D.law_pool.fn.ok sc_law_pool (fun vs H Q E h => ?_) (fun cdv A outer s H vs Q E hr h => ?_)
  · obtain ⟨b, pa, ba, p, rs, rows, rfl, _⟩ := h; rfl
  · have hu := hu_of hr
    obtain ⟨b, pa, ba, p, rs, rows, rfl, hp, hba, bl, c, hb, hl, r6, ok, q⟩ := h
    refine ⟨_, (pss_cons (ps_set (i := 3) sc_law_pool.nd rfl (Or.inl rfl) pe_non)
      (pss_cons (ps_for PassesOwn.never rfl (pi_range1 rfl T.z_range (pa_cons (pe_callB (cLen K) (by rfl) T.z_len boot_len (pa_cons (pv 1) pa_nil)) pa_nil)) (pg_name (i := 4) sc_law_pool.nd rfl (Or.inl rfl))
        (pss_one (ps_if (pt_cmpR op_eq (pe_ix (ixL K) (pv 1) (pv 4) (fun _ _ => rfl)) (pv 0) (nomark _))
          (pss_cons (ps_set (i := 5) sc_law_pool.nd rfl (Or.inr rfl) (pe_lcomp ["pair"] [none] rfl (piL K (pe_ix (ixL K) (pv 2) (pv 4) (fun _ _ => rfl))) (fun _ => pg_name (i := 0) (nodupN (N := ["pair"]) (by decide +kernel)) rfl (Or.inl rfl)) (fun _ => pif_nil) (fun _ => (pe_ix (ixT K) (pv 0) pe_int (fun _ _ => rfl))) ((.cons (fun _ e => by cases e) .nil))))
          (pss_one (ps_if (pt_cmpR op_isN (pv 3) pe_non (nomark _))
            (pss_one (ps_set (i := 3) sc_law_pool.nd rfl (Or.inl rfl) (pv 5)))
            (pss_one (ps_setC (i₀ := 3) sc_law_pool.nd rfl (Or.inl rfl) ["badge", "here"] [none, some 5] rfl (piL K (pv 3)) (fun _ => pg_name (i := 0) (nodupN (N := ["badge", "here"]) (by decide +kernel)) rfl (Or.inl rfl)) (fun _ => pif_one (pt_cmpR (inS K) (pv 0) (pv 1) (by with_unfolding_all rfl))) (fun _ => (pv 0)) ((.cons (fun _ e => by cases e) (.cons (fun _ e => by cases e; exact ⟨rfl, rfl⟩) .nil))))))))
          pss_nil)))
      (pss_one (ps_ret (pv 3))))), ?_⟩
    refine ⟨_, rfl, _, _, rfl, .inl ⟨_, hp, rfl⟩, _, rfl, lo62 _, by rw [List.length_map]; omega, ?_⟩
    have e0 : (((p.map V.int).length : Nat) : Int).toNat = p.length := by rw [List.length_map]; omega
    rw [e0]
    refine for_range (n := p.length) (fun i σ Hx => ∃ (v : V) (x y : Option V), σ = [some (.int ((b : Nat) : Int)), some (.ref pa), some (.ref ba), some v, x, y] ∧ Same H Hx ∧ ((blkT p (b : Int) i = [] ∧ v = .non) ∨ (blkT p (b : Int) i ≠ [] ∧ ∃ l, v = .ref l ∧ H l = none ∧ Hx l = some (.lst ((keyS rows (blkT p (b : Int) i)).map V.int)))))
      ⟨.non, none, none, rfl, Same.refl _, .inl ⟨rfl, rfl⟩⟩ ?_ ?_
    · rintro i σ Hx hi ⟨v, x, y, rfl, sx, hv⟩
      have ei : (0 : Int) + (i : Int) = ((i : Nat) : Int) := by omega
      rw [ei]
      have bs := blkT_succ p (b : Int) i
      refine ⟨_, rfl, _, rfl, pa, _, _, _, rfl, rfl, sx.seq hp, atI_int hi, _, rfl, rfl, _, rfl, ifEq (fun e => ?_) fun ne => ?_⟩
      · rw [if_pos e] at bs
        have hrw : rows[i]? = some (rows.getD i []) := by rw [List.getD_eq_getElem?_getD, List.getElem?_eq_getElem (by omega)]; rfl
        have oki := ok _ (List.mem_of_getElem? hrw)
        obtain ⟨r, er, ps, hps, tps⟩ := (bl.same sx).at hrw
        generalize hRow : rows.getD i [] = row at hrw oki tps
        have ptl := tps.len
        refine ⟨_, rfl, _, rfl, ba, _, _, _, rfl, rfl, SqL.of (sx _ _ hba), atI_nat (by rw [List.getElem?_map, er]; rfl), r, rfl, ⟨_, SqL.of hps⟩, ?_⟩
        refine comp_list2 (xs := ps.map V.ref) (fun _ => true) (fun j => .int (row.getD j (0, 0)).1) (SqL.of hps) (by rw [List.length_map]; omega) (fun _ _ _ _ _ _ k => k _ (Same.refl _)) (fun j x hx _ H2 R s2 k => ?_) fun nw H2 s2 nnw hnw => ?_
        · rw [List.getElem?_map] at hx
          obtain ⟨t, et, rfl⟩ := Option.map_eq_some_iff.mp hx
          obtain ⟨x, ex, tx⟩ := pair_at tps et
          rw [List.getD_eq_getElem?_getD, ex] at k
          exact ⟨_, rfl, t, _, _, _, rfl, rfl, SqT.of (s2 _ _ tx), rfl, k H2 (Same.refl _)⟩
        rw [List.filter_eq_self.mpr (fun _ _ => rfl), List.length_map, ptl, map_atP (g := fun x => V.int x.1) fun i x hx => by rw [List.getD_eq_getElem?_getD, hx]; rfl] at hnw
        have hnw : H2 nw = some (.lst ((keysOf row).map V.int)) := by rw [hnw]; unfold keysOf; rw [List.map_map]; rfl
        have s02 := sx.trans s2
        rcases hv with ⟨h1, rfl⟩ | ⟨h1, l, rfl, nl, hl1⟩
        · refine ⟨_, rfl, rfl, _, rfl, ifD (fun _ => ⟨_, rfl, .ref nw, _, _, rfl, s02, .inr ⟨by rw [bs]; simp, nw, rfl, sx.free nnw, ?_⟩⟩) fun z => absurd rfl z⟩
          rw [bs, h1]
          show H2 nw = some (.lst ((keysOf (rows.getD i [])).map V.int))
          rw [hRow]
          exact hnw
        · refine ⟨_, rfl, rfl, _, rfl, ifD (fun z => by cases z) fun _ => ?_⟩
          have hl2 := s2 _ _ hl1
          refine ⟨_, rfl, l, rfl, ⟨_, SqL.of hl2⟩, ?_⟩
          have kl := keyS_len (fun row h => (ok row h).1) (blkT p (b : Int) i)
          generalize hks : keyS rows (blkT p (b : Int) i) = ks at hl2 kl
          refine comp_list2 (xs := ks.map V.int) (fun j => decide (ks.getD j 0 ∈ keysOf row)) (fun j => .int (ks.getD j 0)) (SqL.of hl2) (by rw [List.length_map]; omega) (fun j x hx H3 R s3 k => ?_) (fun j x hx _ H3 R s3 k => ?_) fun nf H3 s3 nnf hnf => ?_
          · obtain ⟨d, hd, rfl, ed⟩ := at_int hx
            rw [ed] at k
            refine ⟨_, rfl, _, rfl, nw, _, rfl, .inl (SqL.of (s3 _ _ hnw)), rfl, flat_all _, _, rfl, ?_⟩
            rw [if_neg Bool.false_ne_true, inV_int]
            exact k H3 (Same.refl _)
          · obtain ⟨d, hd, rfl, ed⟩ := at_int hx
            rw [ed] at k
            exact ⟨_, rfl, k H3 (Same.refl _)⟩
          · rw [List.length_map, sift1 (g := fun b => decide (b ∈ keysOf row))] at hnf
            refine ⟨.ref nf, _, _, rfl, s02.trans s3, .inr ⟨by rw [bs]; simp, nf, rfl, s02.free nnf, ?_⟩⟩
            rw [bs, keyS_snoc h1, hks, hRow]
            exact hnf
      · rw [if_neg ne] at bs
        rw [← bs] at hv
        exact ⟨v, _, _, rfl, sx, hv⟩
    · rintro σ Hx ⟨v, x, y, rfl, sx, hv⟩
      rw [blkT_all] at hv
      rcases hv with ⟨h1, _⟩ | ⟨h1, l, rfl, nl, hl1⟩
      · exact absurd h1 (blkS_ne c hb)
      · exact ⟨_, rfl, q l Hx sx nl hl1⟩
def sp_law_minutes (K : PySem.W.Frag) : Sp := fun vs H Q _ => ∃ (g : Int) (b : Nat) (pa ba : Addr) (p : List Int) (rs : List Addr) (rows : List (List (Int × Int))), vs = [.int g, .int ((b : Nat) : Int), .ref pa, .ref ba] ∧ SqL K H pa (p.map V.int) ∧ H ba = some (.lst (rs.map V.ref)) ∧ BillL H rs rows ∧ p.length ≤ rows.length ∧ rows.length ≤ 6 ∧ (∀ row ∈ rows, row.length ≤ 20 ∧ (keysOf row).Nodup) ∧ (∀ s ∈ blkS p b, g ∈ keysOf (rows.getD s [])) ∧
  ∀ H', Same H H' → Q (.int (totS rows (blkS p b) g)) H'
theorem sc_law_minutes : FnScope ["badge", "block", "pattern", "bill", "total", "k"] ["badge", "block", "pattern", "bill"] (defScope s_law_minutes) := ⟨rfl, rfl, rfl, by decide +kernel, rfl, by decide +kernel, by decide +kernel⟩
theorem ok_law_minutes (D : Dfs K mg a_width a_sums a_sums_of a_added a_law_cell a_law_entries a_law_whole a_law_badges a_law_bill a_law_wide a_law_pattern a_law_pool a_law_minutes a_law_same_pairs a_law_due a_law_good a_law d_width d_sums d_sums_of d_added d_law_cell d_law_entries d_law_whole d_law_badges d_law_bill d_law_wide d_law_pattern d_law_pool d_law_minutes d_law_same_pairs d_law_due d_law_good d_law) (T : Txt mg) : FnOk P w K mg base CX0 1 a_law_minutes d_law_minutes ["badge", "block", "pattern", "bill"] (sp_law_minutes K) := by
  refine D.law_minutes.fn.ok sc_law_minutes (fun vs H Q E h => ?_) (fun cdv A outer s H vs Q E hr h => ?_)
  · obtain ⟨g, b, pa, ba, p, rs, rows, rfl, _⟩ := h; rfl
  · have hu := hu_of hr
    obtain ⟨g, b, pa, ba, p, rs, rows, rfl, hp, hba, bl, hl, r6, ok, hin, q⟩ := h
    refine ⟨_, (pss_cons (ps_set (i := 4) sc_law_minutes.nd rfl (Or.inl rfl) pe_int)
      (pss_cons (ps_for PassesOwn.never rfl (pi_range1 rfl T.z_range (pa_cons (pe_callB (cLen K) (by rfl) T.z_len boot_len (pa_cons (pv 2) pa_nil)) pa_nil)) (pg_name (i := 5) sc_law_minutes.nd rfl (Or.inl rfl))
        (pss_one (ps_if (pt_cmpR op_eq (pe_ix (ixL K) (pv 2) (pv 5) (fun _ _ => rfl)) (pv 1) (nomark _))
          (pss_one (ps_set (i := 4) sc_law_minutes.nd rfl (Or.inl rfl) (pe_op op_add (pv 4) (pe_dget hu (pe_callTy (cDict K) (by rfl) T.z_dict PyProof.Rows.boot_dict (pa_cons (pe_ix (ixL K) (pv 3) (pv 5) (fun _ _ => rfl)) pa_nil)) (pv 0) (fun _ _ => rfl)))))
          pss_nil)))
      (pss_one (ps_ret (pv 4))))), ?_⟩
    refine ⟨_, rfl, _, _, rfl, .inl ⟨_, hp, rfl⟩, _, rfl, lo62 _, by rw [List.length_map]; omega, ?_⟩
    have e0 : (((p.map V.int).length : Nat) : Int).toNat = p.length := by rw [List.length_map]; omega
    rw [e0]
    refine for_range (n := p.length) (fun i σ Hx => ∃ (x : Option V), σ = [some (.int g), some (.int ((b : Nat) : Int)), some (.ref pa), some (.ref ba), some (.int (totS rows (blkT p (b : Int) i) g)), x] ∧ Same H Hx) ⟨none, rfl, Same.refl _⟩ ?_ ?_
    · rintro i σ Hx hi ⟨x, rfl, sx⟩
      have ei : (0 : Int) + (i : Int) = ((i : Nat) : Int) := by omega
      rw [ei]
      have bs := blkT_succ p (b : Int) i
      refine ⟨_, rfl, _, rfl, pa, _, _, _, rfl, rfl, sx.seq hp, atI_int hi, _, rfl, rfl, _, rfl, ifEq (fun e => ?_) fun ne => ?_⟩
      · rw [if_pos e] at bs
        have hrw : rows[i]? = some (rows.getD i []) := by rw [List.getD_eq_getElem?_getD, List.getElem?_eq_getElem (by omega)]; rfl
        have oki := ok _ (List.mem_of_getElem? hrw)
        have hg := hin i (blkS_mem.mpr ⟨hi, e⟩)
        obtain ⟨r, er, ps, hps, tps⟩ := (bl.same sx).at hrw
        obtain ⟨m, hm⟩ : ∃ m, look (rows.getD i []) g = some m := by
          cases e : look (rows.getD i []) g with
          | none => exact absurd hg (look_none.mp e)
          | some m => exact ⟨m, rfl⟩
        refine ⟨_, rfl, _, rfl, _, rfl, ba, _, _, _, rfl, rfl, SqL.of (sx _ _ hba), atI_nat (by rw [List.getElem?_map, er]; rfl), r, ps, kvR (rows.getD i []), rfl, SqL.of hps, by unfold kvR; rw [List.length_map, tps.len], kvR_nd oki.2, tps.kv, fun d nd => ?_⟩
        have gg := DGet.k (k := Sum.inl g) (show upd Hx d (.dK (kvR (rows.getD i []))) d = some (.dK (kvR (rows.getD i []))) from upd_same)
        rw [valV_kvR, hm] at gg
        refine ⟨_, rfl, d, .int m, rfl, gg, _, _, rfl, rfl, some (.int ((i : Nat) : Int)), ?_, sx.to nd⟩
        rw [bs, totS_snoc, hm]; rfl
      · rw [if_neg ne] at bs
        rw [← bs]
        exact ⟨_, rfl, sx⟩
    · rintro σ Hx ⟨x, rfl, sx⟩
      rw [blkT_all]
      exact ⟨_, rfl, q Hx sx⟩
def sp_law_same_pairs (K : PySem.W.Frag) : Sp := fun vs H Q _ => ∃ (f d : Addr) (row : List (Int × Int)), vs = [.ref f, .ref d] ∧ RowAt H f row ∧ RowAt H d row ∧ row.length ≤ 1000 ∧ ∀ H', Same H H' → Q (.bl true) H'
theorem sc_law_same_pairs : FnScope ["found", "due", "pair"] ["found", "due"] (defScope s_law_same_pairs) := ⟨rfl, rfl, rfl, by decide +kernel, rfl, by decide +kernel, by decide +kernel⟩
theorem ok_law_same_pairs (D : Dfs K mg a_width a_sums a_sums_of a_added a_law_cell a_law_entries a_law_whole a_law_badges a_law_bill a_law_wide a_law_pattern a_law_pool a_law_minutes a_law_same_pairs a_law_due a_law_good a_law d_width d_sums d_sums_of d_added d_law_cell d_law_entries d_law_whole d_law_badges d_law_bill d_law_wide d_law_pattern d_law_pool d_law_minutes d_law_same_pairs d_law_due d_law_good d_law) (T : Txt mg) : FnOk P w K mg base CX0 2 a_law_same_pairs d_law_same_pairs ["found", "due"] (sp_law_same_pairs K) := by
  have Glaw_whole : FnOk P w K mg base CX0 1 a_law_whole d_law_whole ["found"] (sp_law_whole K) := ok_law_whole D T
  refine D.law_same_pairs.fn.ok sc_law_same_pairs (fun vs H Q E h => ?_) (fun cdv A outer s H vs Q E hr h => ?_)
  · obtain ⟨f, d, row, rfl, _⟩ := h; rfl
  · have hu := hu_of hr
    obtain ⟨f, d, row, rfl, hf, hd, hl, q⟩ := h
    refine ⟨_, (pss_cons (ps_if (pt_not (pt_val (pe_callB (cIsi K) (by rfl) T.z_isinstance boot_isinstance (pa_cons (pv 0) (pa_cons (ty_list T.z_list) pa_nil)))))
        (pss_one (ps_ret pe_bl))
        pss_nil)
      (pss_cons (ps_for PassesOwn.never rfl (piL K (pv 0)) (pg_name (i := 2) sc_law_same_pairs.nd rfl (Or.inl rfl))
        (pss_cons (ps_if (PW.pt (pw_or (pt_not (pt_val (pe_callB (cIsi K) (by rfl) T.z_isinstance boot_isinstance (pa_cons (pv 2) (pa_cons (ty_tuple T.z_tuple) pa_nil))))) (pw_or1 (pt_cmpR op_ne (pe_callB (cLen K) (by rfl) T.z_len boot_len (pa_cons (pv 2) pa_nil)) pe_int (nomark _)))))
          (pss_one (ps_ret pe_bl))
          pss_nil)
        (pss_one (ps_if (PW.pt (pw_or (pt_not (pt_val (pc D.law_whole Glaw_whole (hr.mono (by decide)) (pa_cons (pe_ix (ixT K) (pv 2) pe_int (fun _ _ => rfl)) pa_nil)))) (pw_or1 (pt_not (pt_val (pc D.law_whole Glaw_whole (hr.mono (by decide)) (pa_cons (pe_ix (ixT K) (pv 2) pe_int (fun _ _ => rfl)) pa_nil)))))))
          (pss_one (ps_ret pe_bl))
          pss_nil))))
      (pss_one (ps_ret (pe_cmpR (eqD K hr.units) (pv 0) (pv 1) (nomark _)))))), ?_⟩
    obtain ⟨ps, hps, tps⟩ := id hf
    refine ⟨_, rfl, _, _, _, true, rfl, .lst hps, rfl, _, rfl, iteF ?_⟩
    refine ⟨_, rfl, f, rfl, ⟨_, SqL.of hps⟩, ?_⟩
    refine for_list (K := K) (a := f) (xs := ps.map V.ref) (fun j σ Hy => ∃ y : Option V, σ = [some (.ref f), some (.ref d), y] ∧ Same H Hy) ⟨none, rfl, Same.refl _⟩ (fun j σ Hy _ ⟨_, _, s⟩ => s.seq (SqL.of hps)) ?_ ?_
    · rintro j z σ Hy hj ⟨y, rfl, sy⟩
      rw [List.getElem?_map] at hj
      obtain ⟨t, et, rfl⟩ := Option.map_eq_some_iff.mp hj
      obtain ⟨x, ex, tx⟩ := pair_at tps et
      have ty := sy _ _ tx
      refine ⟨_, rfl, _, _, _, true, rfl, .tup ty, rfl, _, rfl, iteF ?_⟩
      refine ⟨_, rfl, _, _, rfl, .inr ⟨_, SqT.of ty, rfl⟩, rfl, _, rfl, ifNe (fun h => absurd rfl h) fun _ => ?_⟩
      refine ⟨_, rfl, t, _, _, _, rfl, rfl, SqT.of ty, rfl, _, rfl, _, rfl, iteF ?_⟩
      refine ⟨_, rfl, t, _, _, _, rfl, rfl, SqT.of ty, rfl, _, rfl, _, rfl, iteF ⟨_, rfl, sy⟩⟩
    · rintro σ Hy ⟨y, rfl, sy⟩
      exact ⟨_, rfl, _, rfl, 2, true, deq_rows (hf.same sy) (hd.same sy), by decide, rfl, q Hy sy⟩
def sp_law_due (K : PySem.W.Frag) : Sp := fun vs H Q _ => ∃ (pa ba : Addr) (p : List Int) (rs : List Addr) (rows : List (List (Int × Int))), vs = [.ref pa, .ref ba] ∧ SqL K H pa (p.map V.int) ∧ H ba = some (.lst (rs.map V.ref)) ∧ BillL H rs rows ∧ Canon p ∧ p.length ≤ rows.length ∧ rows.length ≤ 6 ∧ (∀ row ∈ rows, row.length ≤ 20 ∧ (keysOf row).Nodup) ∧
  ∀ l ls H', Same H H' → H l = none → H' l = some (.lst (ls.map V.ref)) → BillL H' ls (sumsR rows p) → Q (.ref l) H'
theorem sc_law_due : FnScope ["pattern", "bill", "due", "block", "pairs", "badge"] ["pattern", "bill"] (defScope s_law_due) := ⟨rfl, rfl, rfl, by decide +kernel, rfl, by decide +kernel, by decide +kernel⟩
theorem ok_law_due (D : Dfs K mg a_width a_sums a_sums_of a_added a_law_cell a_law_entries a_law_whole a_law_badges a_law_bill a_law_wide a_law_pattern a_law_pool a_law_minutes a_law_same_pairs a_law_due a_law_good a_law d_width d_sums d_sums_of d_added d_law_cell d_law_entries d_law_whole d_law_badges d_law_bill d_law_wide d_law_pattern d_law_pool d_law_minutes d_law_same_pairs d_law_due d_law_good d_law) (T : Txt mg) : FnOk P w K mg base CX0 2 a_law_due d_law_due ["pattern", "bill"] (sp_law_due K) := by
  have Glaw_wide : FnOk P w K mg base CX0 1 a_law_wide d_law_wide ["pattern"] (sp_law_wide K) := ok_law_wide D T
  have Glaw_pool : FnOk P w K mg base CX0 1 a_law_pool d_law_pool ["block", "pattern", "bill"] (sp_law_pool K) := ok_law_pool D T
  have Glaw_minutes : FnOk P w K mg base CX0 1 a_law_minutes d_law_minutes ["badge", "block", "pattern", "bill"] (sp_law_minutes K) := ok_law_minutes D T
  refine D.law_due.fn.ok sc_law_due (fun vs H Q E h => ?_) (fun cdv A outer s H vs Q E hr h => ?_)
  · obtain ⟨pa, ba, p, rs, rows, rfl, _⟩ := h; rfl
  · have hu := hu_of hr
    obtain ⟨pa, ba, p, rs, rows, rfl, hp, hba, bl, c, hl, r6, ok, q⟩ := h
    refine ⟨_, (pss_cons (ps_set (i := 2) sc_law_due.nd rfl (Or.inl rfl) (pe_lst pa_nil))
      (pss_cons (ps_for PassesOwn.never rfl (pi_range1 rfl T.z_range (pa_cons (pc D.law_wide Glaw_wide (hr.mono (by decide)) (pa_cons (pv 0) pa_nil)) pa_nil)) (pg_name (i := 3) sc_law_due.nd rfl (Or.inl rfl))
        (pss_cons (ps_set (i := 4) sc_law_due.nd rfl (Or.inl rfl) (pe_lst pa_nil))
        (pss_cons (ps_for PassesOwn.never rfl (piL K (pc D.law_pool Glaw_pool (hr.mono (by decide)) (pa_cons (pv 3) (pa_cons (pv 0) (pa_cons (pv 1) pa_nil))))) (pg_name (i := 5) sc_law_due.nd rfl (Or.inl rfl))
          (pss_one (ps_expr (pe_bm PySem.F.plainAttrs_list PySem.F.slot_list_append PySem.F.type_list_append mt_append (pv 4) (pa_cons (pe_tup (pa_cons (pv 5) (pa_cons (pc D.law_minutes Glaw_minutes (hr.mono (by decide)) (pa_cons (pv 5) (pa_cons (pv 3) (pa_cons (pv 0) (pa_cons (pv 1) pa_nil))))) pa_nil))) pa_nil)))))
        (pss_one (ps_expr (pe_bm PySem.F.plainAttrs_list PySem.F.slot_list_append PySem.F.type_list_append mt_append (pv 2) (pa_cons (pv 4) pa_nil)))))))
      (pss_one (ps_ret (pv 2))))), ?_⟩
    have dl := dd_len p
    refine ⟨szr, fun l nl => ?_⟩
    have s0 := Same.new (o := .lst []) nl
    refine ⟨_, rfl, pa, p, rfl, s0.seq hp, by omega, fun H1 s1 => ⟨_, rfl, lo62 _, by omega, ?_⟩⟩
    rw [Int.toNat_natCast]
    refine for_range (n := (dd p).length) (fun b σ Hx => ∃ (x y z : Option V) (ls : List Addr), σ = [some (.ref pa), some (.ref ba), some (.ref l), x, y, z] ∧ Same H Hx ∧ Hx l = some (.lst (ls.map V.ref)) ∧ BillL Hx ls ((sumsR rows p).take b) ∧ ∀ r ∈ ls, r ≠ l) ⟨none, none, none, [], rfl, s0.trans s1, s1 _ _ upd_same, by rw [List.take_zero]; exact .nil, fun _ z => by cases z⟩ ?_ ?_
    · rintro b σ Hx hb ⟨x, y, z, ls, rfl, sx, hlx, bx, nls⟩
      have ei : (0 : Int) + (b : Int) = ((b : Nat) : Int) := by omega
      rw [ei]
      have sne := blkS_ne c hb
      refine ⟨szr, fun pr npr => ?_⟩
      have s2 := Same.new (o := .lst []) npr
      have s02 := sx.trans s2
      have hpr : upd Hx pr (.lst []) pr = some (.lst []) := upd_same
      generalize upd Hx pr (.lst []) = H2 at s2 s02 hpr
      refine ⟨_, rfl, _, rfl, _, rfl, b, pa, ba, p, rs, rows, rfl, s02.seq hp, s02 _ _ hba, bl.same s02, c, hb, hl, r6, ok, fun po H3 s3 npo hpo => ?_⟩
      have s23 := s2.trans s3
      have nprx : Hx pr = none := npr
      have kmem := keyS_mem (rows := rows) _ sne
      have kl := keyS_len (fun row h => (ok row h).1) (blkS p b)
      have esum := sumS_eq (fun row h => (ok row h).2) _ sne
      have epo : po ≠ pr := fun z => by rw [z, hpr] at npo; cases npo
      refine ⟨po, rfl, ⟨_, SqL.of hpo⟩, ?_⟩
      refine for_list (K := K) (a := po) (xs := (keyS rows (blkS p b)).map V.int) (fun j σ Hy => ∃ (z : Option V) (ps : List Addr), σ = [some (.ref pa), some (.ref ba), some (.ref l), some (.int ((b : Nat) : Int)), some (.ref pr), z] ∧ Same Hx Hy ∧ Hy po = some (.lst ((keyS rows (blkS p b)).map V.int)) ∧ Hy pr = some (.lst (ps.map V.ref)) ∧ TupsL Hy ps (((keyS rows (blkS p b)).take j).map fun g => (g, totS rows (blkS p b) g)))
        ⟨_, [], rfl, s23, hpo, s3 _ _ hpr, by rw [List.take_zero]; exact .nil⟩ (fun j σ Hy _ ⟨_, _, _, _, h, _⟩ => SqL.of h) ?_ ?_
      · rintro j y σ Hy hj ⟨z, ps, rfl, sy, hpoy, hpry, ty⟩
        obtain ⟨g, hg, rfl, _⟩ := at_int hj
        have hgm := List.mem_of_getElem? hg
        have hjl := (List.getElem?_eq_some_iff.mp hg).1
        have s0y := sx.trans sy
        have tl := ty.len
        rw [List.length_map, List.length_take] at tl
        refine ⟨_, rfl, .inl ⟨rfl, _, SqL.of hpry⟩, _, rfl, _, rfl, _, rfl, _, rfl, _, rfl, g, b, pa, ba, p, rs, rows, rfl, s0y.seq hp, s0y _ _ hba, bl.same s0y, hl, r6, ok, (kmem g).mp hgm, fun Hz sz => ⟨szr, fun t nt => ?_⟩⟩
        have st := Same.new (o := .tup [.int g, .int (totS rows (blkS p b) g)]) nt
        have hprt := st _ _ (sz _ _ hpry)
        refine ⟨pr, _, _, rfl, rfl, hprt, szn (by rw [List.length_map]; omega), ?_⟩
        have hpot := st _ _ (sz _ _ hpoy)
        refine ⟨_, ps ++ [t], rfl, ((sy.trans sz).trans st).put nprx, by rw [upd_ne epo]; exact hpot, by rw [upd_same, List.map_append]; rfl, ?_⟩
        have et : (keyS rows (blkS p b)).take (j + 1) = (keyS rows (blkS p b)).take j ++ [g] := by rw [List.take_add_one, hg]; rfl
        rw [et, List.map_append]
        exact TupsL.but (paired_snoc_len ((ty.same sz).same st) (show PairT _ t (g, totS rows (blkS p b) g) from upd_same)) hprt
      · rintro σ Hy ⟨z, ps, rfl, sy, hpoy, hpry, ty⟩
        rw [List.length_map, List.take_length, ← esum] at ty
        have hly := sy _ _ hlx
        have blen := bx.len
        rw [List.length_take] at blen
        have sl : (sumsR rows p).length = (dd p).length := by unfold sumsR; rw [List.length_map, List.length_range]
        refine ⟨_, rfl, .inl ⟨rfl, _, SqL.of hly⟩, _, rfl, l, _, _, rfl, rfl, hly, szn (by rw [List.length_map]; omega), ?_⟩
        have nprl : pr ≠ l := fun z => by rw [z, hlx] at nprx; cases nprx
        refine ⟨_, _, _, ls ++ [pr], rfl, (sx.trans sy).put nl, by rw [upd_same, List.map_append]; rfl, ?_, fun r hr => ?_⟩
        · have et : (sumsR rows p).take (b + 1) = (sumsR rows p).take b ++ [sumS rows (blkS p b)] := by
            rw [List.take_add_one]
            congr 1
            unfold sumsR
            rw [List.getElem?_map, List.getElem?_range hb]; rfl
          rw [et]
          exact paired_snoc_len ((bx.same sy).but hly fun z => nls l z rfl) (RowAt.but ⟨ps, hpry, ty⟩ hly nprl)
        · rcases List.mem_append.mp hr with z | z
          · exact nls r z
          · rw [List.mem_singleton.mp z]; exact nprl
    · rintro σ Hx ⟨x, y, z, ls, rfl, sx, hlx, bx, nls⟩
      rw [List.take_of_length_le (by unfold sumsR; rw [List.length_map, List.length_range]; exact Nat.le_refl _)] at bx
      exact ⟨_, rfl, q l ls Hx sx nl hlx bx⟩
def sp_law_good (K : PySem.W.Frag) : Sp := fun vs H Q _ => ∃ (f d : Addr) (fs ds : List Addr) (rows : List (List (Int × Int))), vs = [.ref f, .ref d] ∧ H f = some (.lst (fs.map V.ref)) ∧ H d = some (.lst (ds.map V.ref)) ∧ BillL H fs rows ∧ BillL H ds rows ∧ rows.length ≤ 6 ∧ (∀ row ∈ rows, row.length ≤ 1000) ∧ ∀ H', Same H H' → Q (.bl true) H'
theorem sc_law_good : FnScope ["found", "due", "k"] ["found", "due"] (defScope s_law_good) := ⟨rfl, rfl, rfl, by decide +kernel, rfl, by decide +kernel, by decide +kernel⟩
theorem ok_law_good (D : Dfs K mg a_width a_sums a_sums_of a_added a_law_cell a_law_entries a_law_whole a_law_badges a_law_bill a_law_wide a_law_pattern a_law_pool a_law_minutes a_law_same_pairs a_law_due a_law_good a_law d_width d_sums d_sums_of d_added d_law_cell d_law_entries d_law_whole d_law_badges d_law_bill d_law_wide d_law_pattern d_law_pool d_law_minutes d_law_same_pairs d_law_due d_law_good d_law) (T : Txt mg) : FnOk P w K mg base CX0 3 a_law_good d_law_good ["found", "due"] (sp_law_good K) := by
  have Glaw_same_pairs : FnOk P w K mg base CX0 2 a_law_same_pairs d_law_same_pairs ["found", "due"] (sp_law_same_pairs K) := ok_law_same_pairs D T
  refine D.law_good.fn.ok sc_law_good (fun vs H Q E h => ?_) (fun cdv A outer s H vs Q E hr h => ?_)
  · obtain ⟨f, d, fs, ds, rows, rfl, _⟩ := h; rfl
  · have hu := hu_of hr
    obtain ⟨f, d, fs, ds, rows, rfl, hf, hd, fR, dR, l6, rl, q⟩ := h
    refine ⟨_, (pss_cons (ps_if (PW.pt (pw_or (pt_not (pt_val (pe_callB (cIsi K) (by rfl) T.z_isinstance boot_isinstance (pa_cons (pv 0) (pa_cons (ty_list T.z_list) pa_nil))))) (pw_or1 (pt_cmpR op_ne (pe_callB (cLen K) (by rfl) T.z_len boot_len (pa_cons (pv 0) pa_nil)) (pe_callB (cLen K) (by rfl) T.z_len boot_len (pa_cons (pv 1) pa_nil)) (nomark _)))))
        (pss_one (ps_ret pe_bl))
        pss_nil)
      (pss_cons (ps_for PassesOwn.never rfl (pi_range1 rfl T.z_range (pa_cons (pe_callB (cLen K) (by rfl) T.z_len boot_len (pa_cons (pv 1) pa_nil)) pa_nil)) (pg_name (i := 2) sc_law_good.nd rfl (Or.inl rfl))
        (pss_one (ps_if (pt_not (pt_val (pc D.law_same_pairs Glaw_same_pairs (hr.mono (by decide)) (pa_cons (pe_ix (ixL K) (pv 0) (pv 2) (fun _ _ => rfl)) (pa_cons (pe_ix (ixL K) (pv 1) (pv 2) (fun _ _ => rfl)) pa_nil)))))
          (pss_one (ps_ret pe_bl))
          pss_nil)))
      (pss_one (ps_ret pe_bl)))), ?_⟩
    have fl := fR.len
    have dl := dR.len
    refine ⟨_, rfl, _, _, _, true, rfl, .lst hf, rfl, _, rfl, iteF ?_⟩
    refine ⟨_, rfl, _, _, rfl, .inl ⟨_, SqL.of hf, rfl⟩, _, rfl, _, _, rfl, .inl ⟨_, SqL.of hd, rfl⟩, rfl, _, rfl, ifNe (fun h => absurd ?_ h) fun _ => ?_⟩
    · rw [List.length_map, List.length_map, fl, dl]
    refine ⟨_, rfl, _, _, rfl, .inl ⟨_, SqL.of hd, rfl⟩, _, rfl, lo62 _, by rw [List.length_map]; omega, ?_⟩
    have e0 : (((ds.map V.ref).length : Nat) : Int).toNat = rows.length := by rw [List.length_map, dl]; omega
    rw [e0]
    refine for_range (n := rows.length) (fun i σ Hx => ∃ x : Option V, σ = [some (.ref f), some (.ref d), x] ∧ Same H Hx) ⟨none, rfl, Same.refl _⟩ ?_ ?_
    · rintro i σ Hx hi ⟨x, rfl, sx⟩
      have ei : (0 : Int) + (i : Int) = ((i : Nat) : Int) := by omega
      rw [ei]
      have hp : rows[i]? = some rows[i] := List.getElem?_eq_getElem hi
      obtain ⟨r1, e1, g1⟩ := (fR.same sx).at hp
      obtain ⟨r2, e2, g2⟩ := (dR.same sx).at hp
      exact ⟨_, rfl, _, rfl, f, _, _, _, rfl, rfl, SqL.of (sx _ _ hf), atI_nat (by rw [List.getElem?_map, e1]; rfl), _, rfl, _, rfl, d, _, _, _, rfl, rfl, SqL.of (sx _ _ hd), atI_nat (by rw [List.getElem?_map, e2]; rfl), r1, r2, rows[i], rfl, g1, g2, rl _ (List.getElem_mem hi), fun Hy sy => ⟨_, rfl, iteF ⟨_, rfl, sx.trans sy⟩⟩⟩
    · rintro σ Hx ⟨x, rfl, sx⟩
      exact q Hx sx
theorem rep0 (n : Nat) : (List.replicate n [V.int 0]).flatten = (List.replicate n (0 : Int)).map V.int := by
  induction n with
  | zero => rfl
  | succ n ih => rw [List.replicate_succ, List.flatten_cons, ih, List.replicate_succ]; rfl
theorem canon_rep (n : Nat) : Canon (List.replicate n (0 : Int)) := by
  induction n with
  | zero => exact canon_nil
  | succ n ih => rw [List.replicate_succ']; exact canon_snoc (j := 0) ih (Nat.zero_le _)
theorem canon_run (n : Nat) : Canon ((List.range n).map fun (i : Nat) => (i : Int)) := by
  induction n with
  | zero => exact canon_nil
  | succ n ih =>
    rw [List.range_succ, List.map_append]
    refine canon_snoc ih ?_
    have nd : ((List.range n).map fun (i : Nat) => (i : Int)).Nodup := List.Pairwise.map _ (fun a b h z => h (by exact Int.ofNat.inj z)) List.nodup_range
    have := nd.length_le_of_subset (l₂ := dd ((List.range n).map fun (i : Nat) => (i : Int))) fun x hx => dd_mem.mpr hx
    rw [List.length_map, List.length_range] at this
    exact this
theorem paired_drop {α β : Type} {F : α → β → Prop} {l : List α} {r : List β} (h : Paired F l r) (n : Nat) : Paired F (l.drop n) (r.drop n) :=
  paired_of (by rw [List.length_drop, List.length_drop, Paired.length h]) fun i a b e1 e2 => by
    rw [List.getElem?_drop] at e1 e2
    obtain ⟨b', e3, q⟩ := pair_at h e1
    rw [e2] at e3
    cases e3
    exact q
theorem paired_take {α β : Type} {F : α → β → Prop} {l : List α} {r : List β} (h : Paired F l r) (n : Nat) : Paired F (l.take n) (r.take n) :=
  paired_of (by rw [List.length_take, List.length_take, Paired.length h]) fun i a b e1 e2 => by
    have hi := (List.getElem?_eq_some_iff.mp e1).1
    rw [List.length_take] at hi
    rw [List.getElem?_take_of_lt (by omega)] at e1 e2
    obtain ⟨b', e3, q⟩ := pair_at h e1
    rw [e2] at e3
    cases e3
    exact q
theorem paired_app {α β : Type} {F : α → β → Prop} {l l2 : List α} {r r2 : List β} (h : Paired F l r) (h2 : Paired F l2 r2) : Paired F (l ++ l2) (r ++ r2) := by
  induction h with
  | nil => exact h2
  | cons h _ ih => exact .cons h ih
def sp_law (K : PySem.W.Frag) : Sp := fun vs H Q _ => ∃ (a : Addr) (ns : List Int), vs = [.ref a] ∧ SqL K H a (ns.map V.int) ∧ ns.length ≤ 63 ∧ ∀ H', Q (.bl true) H'
theorem sc_law : FnScope ["script", "head", "k", "count", "many", "here", "cells", "gap", "badges", "dense", "top", "bill", "size", "pattern", "asked", "at", "kept", "one", "handed", "told", "found"] ["script"] (defScope s_law) := ⟨rfl, rfl, rfl, by decide +kernel, rfl, by decide +kernel, by decide +kernel⟩
theorem ok_law (D : Dfs K mg a_width a_sums a_sums_of a_added a_law_cell a_law_entries a_law_whole a_law_badges a_law_bill a_law_wide a_law_pattern a_law_pool a_law_minutes a_law_same_pairs a_law_due a_law_good a_law d_width d_sums d_sums_of d_added d_law_cell d_law_entries d_law_whole d_law_badges d_law_bill d_law_wide d_law_pattern d_law_pool d_law_minutes d_law_same_pairs d_law_due d_law_good d_law) (T : Txt mg) : FnOk P w K mg base CX0 4 a_law d_law ["script"] (sp_law K) := by
  have Gsums : FnOk P w K mg base CX0 3 a_sums d_sums ["pattern", "bill"] (sp_sums K) := ok_sums D T
  have Glaw_cell : FnOk P w K mg base CX0 1 a_law_cell d_law_cell ["script", "k"] (sp_law_cell K) := ok_law_cell D T
  have Glaw_entries : FnOk P w K mg base CX0 1 a_law_entries d_law_entries ["script", "size"] (sp_law_entries K) := ok_law_entries D T
  have Glaw_badges : FnOk P w K mg base CX0 1 a_law_badges d_law_badges ["cells", "gap", "high"] (sp_law_badges K) := ok_law_badges D T
  have Glaw_bill : FnOk P w K mg base CX0 1 a_law_bill d_law_bill ["cells", "badges", "dense", "top", "count"] (sp_law_bill K) := ok_law_bill D T
  have Glaw_pattern : FnOk P w K mg base CX0 2 a_law_pattern d_law_pattern ["cells"] (sp_law_pattern K) := ok_law_pattern D T
  have Glaw_due : FnOk P w K mg base CX0 2 a_law_due d_law_due ["pattern", "bill"] (sp_law_due K) := ok_law_due D T
  have Glaw_good : FnOk P w K mg base CX0 3 a_law_good d_law_good ["found", "due"] (sp_law_good K) := ok_law_good D T
  refine D.law.fn.ok sc_law (fun vs H Q E h => ?_) (fun cdv A outer s H vs Q E hr h => ?_)
  · obtain ⟨a, ns, rfl, _⟩ := h; rfl
  · have hu := hu_of hr
    obtain ⟨a, ns, rfl, hS, hl, q⟩ := h
    refine ⟨_, (pss_cons (ps_setC (i₀ := 1) sc_law.nd rfl (Or.inl rfl) ["k", "script"] [none, some 0] rfl (pi_range1 rfl T.z_range (pa_cons pe_int pa_nil)) (fun _ => pg_name (i := 0) (nodupN (N := ["k", "script"]) (by decide +kernel)) rfl (Or.inl rfl)) (fun _ => pif_nil) (fun _ => (pc D.law_cell Glaw_cell (hr.mono (by decide)) (pa_cons (pv 1) (pa_cons (pv 0) pa_nil)))) ((.cons (fun _ e => by cases e) (.cons (fun _ e => by cases e; exact ⟨rfl, rfl⟩) .nil))))
      (pss_cons (ps_set (i := 3) sc_law.nd rfl (Or.inl rfl) (pe_op op_add pe_int (pe_op op_mod (pe_ix (ixL K) (pv 1) pe_int (fun _ _ => rfl)) pe_int)))
      (pss_cons (ps_set (i := 4) sc_law.nd rfl (Or.inl rfl) (pe_ix (ixL K) (pe_lst (pa_cons pe_int (pa_cons pe_int (pa_cons pe_int (pa_cons pe_int (pa_cons pe_int (pa_cons pe_int pa_nil))))))) (pe_op op_mod (pe_op op_fdiv (pe_ix (ixL K) (pv 1) pe_int (fun _ _ => rfl)) pe_int) pe_int) (fun _ _ => rfl)))
      (pss_cons (ps_set (i := 5) sc_law.nd rfl (Or.inl rfl) (pe_op op_mul (pv 3) (pv 4)))
      (pss_cons (ps_set (i := 6) sc_law.nd rfl (Or.inl rfl) (pc D.law_entries Glaw_entries (hr.mono (by decide)) (pa_cons (pv 0) (pa_cons (pe_op op_add (pe_op op_add (pv 5) (pv 4)) (pv 3)) pa_nil))))
      (pss_cons (ps_set (i := 7) sc_law.nd rfl (Or.inl rfl) (pe_ix (ixL K) (pe_lst (pa_cons pe_int (pa_cons pe_int (pa_cons pe_int (pa_cons (pe_op op_mul pe_int (pe_op op_pow pe_int pe_int)) pa_nil))))) (pe_op op_mod (pe_ix (ixL K) (pv 1) pe_int (fun _ _ => rfl)) pe_int) (fun _ _ => rfl)))
      (pss_cons (ps_set (i := 8) sc_law.nd rfl (Or.inl rfl) (pc D.law_badges Glaw_badges (hr.mono (by decide)) (pa_cons (pe_slice (slL K) (pv 6) (po_some (pv 5)) (po_some (pe_op op_add (pv 5) (pv 4)))) (pa_cons (pv 7) (pa_cons (pe_op op_mod (pe_op op_fdiv (pe_ix (ixL K) (pv 1) pe_int (fun _ _ => rfl)) pe_int) pe_int) pa_nil)))))
      (pss_cons (ps_set (i := 9) sc_law.nd rfl (Or.inl rfl) (pe_ix (ixL K) (pe_lst (pa_cons pe_int (pa_cons pe_int (pa_cons pe_int (pa_cons pe_int (pa_cons pe_int pa_nil)))))) (pe_op op_mod (pe_ix (ixL K) (pv 1) pe_int (fun _ _ => rfl)) pe_int) (fun _ _ => rfl)))
      (pss_cons (ps_set (i := 10) sc_law.nd rfl (Or.inl rfl) (pe_ix (ixL K) (pe_lst (pa_cons (pe_op op_add (pe_op op_pow pe_int pe_int) pe_int) (pa_cons pe_int (pa_cons pe_int (pa_cons (pe_op op_add (pe_op op_pow pe_int pe_int) pe_int) pa_nil))))) (pe_op op_mod (pe_op op_fdiv (pe_ix (ixL K) (pv 1) pe_int (fun _ _ => rfl)) pe_int) pe_int) (fun _ _ => rfl)))
      (pss_cons (ps_set (i := 11) sc_law.nd rfl (Or.inl rfl) (pc D.law_bill Glaw_bill (hr.mono (by decide)) (pa_cons (pv 6) (pa_cons (pv 8) (pa_cons (pv 9) (pa_cons (pv 10) (pa_cons (pv 3) pa_nil)))))))
      (pss_cons (ps_set (i := 12) sc_law.nd rfl (Or.inl rfl) (pe_op op_sub (pv 3) (pe_op op_mod (pe_op op_fdiv (pe_ix (ixL K) (pv 1) pe_int (fun _ _ => rfl)) pe_int) (pe_op op_add (pv 3) pe_int))))
      (pss_cons (ps_set (i := 13) sc_law.nd rfl (Or.inl rfl) (pc D.law_pattern Glaw_pattern (hr.mono (by decide)) (pa_cons (pe_slice (slL K) (pv 6) (po_some (pe_op op_add (pv 5) (pv 4))) (po_some (pe_op op_add (pe_op op_add (pv 5) (pv 4)) (pv 12)))) pa_nil)))
      (pss_cons (ps_set (i := 14) sc_law.nd rfl (Or.inl rfl) (pe_lst (pa_cons (pv 13) (pa_cons (pe_op op_rep (pe_lst (pa_cons pe_int pa_nil)) (pv 3)) (pa_cons (pe_lcomp ["k"] [none] rfl (pi_range1 rfl T.z_range (pa_cons (pv 3) pa_nil)) (fun _ => pg_name (i := 0) (nodupN (N := ["k"]) (by decide +kernel)) rfl (Or.inl rfl)) (fun _ => pif_nil) (fun _ => (pv 0)) ((.cons (fun _ e => by cases e) .nil))) pa_nil)))))
      (pss_cons (ps_set (i := 15) sc_law.nd rfl (Or.inl rfl) (pe_op op_mod (pe_ix (ixL K) (pv 1) pe_int (fun _ _ => rfl)) pe_int))
      (pss_cons (ps_set (i := 14) sc_law.nd rfl (Or.inl rfl) (pe_op op_cat (pe_slice (slL K) (pv 14) (po_some (pv 15)) po_none) (pe_slice (slL K) (pv 14) po_none (po_some (pv 15)))))
      (pss_cons (ps_set (i := 16) sc_law.nd rfl (Or.inl rfl) (pe_lst pa_nil))
      (pss_cons (ps_for PassesOwn.never rfl (piL K (pv 14)) (pg_name (i := 17) sc_law.nd rfl (Or.inl rfl))
        (pss_cons (ps_setC (i₀ := 18) sc_law.nd rfl (Or.inl rfl) ["pairs"] [none] rfl (piL K (pv 11)) (fun _ => pg_name (i := 0) (nodupN (N := ["pairs"]) (by decide +kernel)) rfl (Or.inl rfl)) (fun _ => pif_nil) (fun _ => (pe_callTy (cList K) (by rfl) T.z_list boot_list (pa_cons (pv 0) pa_nil))) ((.cons (fun _ e => by cases e) .nil)))
        (pss_cons (ps_set (i := 19) sc_law.nd rfl (Or.inl rfl) (pe_callTy (cList K) (by rfl) T.z_list boot_list (pa_cons (pv 17) pa_nil)))
        (pss_cons (ps_set (i := 20) sc_law.nd rfl (Or.inl rfl) (pc D.sums Gsums (hr.mono (by decide)) (pa_cons (pv 19) (pa_cons (pv 18) pa_nil))))
        (pss_cons (ps_if (PW.pt (pw_or (pt_cmpR (neD K hr.units) (pv 18) (pv 11) (nomark _)) (pw_or (pt_cmpR (neD K hr.units) (pv 19) (pv 17) (nomark _)) (pw_or1 (pt_not (pt_val (pc D.law_good Glaw_good (hr.mono (by decide)) (pa_cons (pv 20) (pa_cons (pc D.law_due Glaw_due (hr.mono (by decide)) (pa_cons (pv 17) (pa_cons (pv 11) pa_nil))) pa_nil)))))))))
          (pss_one (ps_ret pe_bl))
          pss_nil)
        (pss_cons (ps_expr (pe_bm PySem.F.plainAttrs_list PySem.F.slot_list_append PySem.F.type_list_append mt_append (pv 16) (pa_cons (pv 20) pa_nil)))
        (pss_cons (ps_expr (pe_bm0 PySem.F.plainAttrs_list PySem.F.slot_list_clear PySem.F.type_list_clear mt_clear (pe_ix (ixL K) (pv 18) pe_int (fun _ _ => rfl))))
        (pss_one (ps_expr (pe_bm PySem.F.plainAttrs_list PySem.F.slot_list_append PySem.F.type_list_append mt_append (pv 19) (pa_cons pe_int pa_nil)))))))))))
      (pss_cons (ps_for PassesOwn.never rfl (pi_range1 rfl T.z_range (pa_cons pe_int pa_nil)) (pg_name (i := 2) sc_law.nd rfl (Or.inl rfl))
        (pss_one (ps_if (pt_not (pt_val (pc D.law_good Glaw_good (hr.mono (by decide)) (pa_cons (pe_ix (ixL K) (pv 16) (pv 2) (fun _ _ => rfl)) (pa_cons (pc D.law_due Glaw_due (hr.mono (by decide)) (pa_cons (pe_ix (ixL K) (pv 14) (pv 2) (fun _ _ => rfl)) (pa_cons (pv 11) pa_nil))) pa_nil)))))
          (pss_one (ps_ret pe_bl))
          pss_nil)))
      (pss_one (ps_ret pe_bl)))))))))))))))))))), ?_⟩
    refine ⟨_, rfl, by decide, by decide, ?_⟩
    refine comp_range (n := 4) (fun k => .int (ns.getD k 0)) (by decide) (fun i hi H2 R s2 k => ?_) fun hd H1 s1 nhd hhd => ?_
    · have ei : (0 : Int) + (i : Int) = ((i : Nat) : Int) := by omega
      rw [ei]
      exact ⟨_, rfl, _, rfl, a, ns, i, rfl, s2.seq hS, k H2 (Same.refl _)⟩
    have hg : ∀ j : Nat, j < 4 → atI ((List.range 4).map fun k => V.int (ns.getD k 0)) (j : Int) = some (.int (ns.getD j 0)) := fun j hj => atI_nat (by simp [hj])
    have g0 : atI ((List.range 4).map fun k => V.int (ns.getD k 0)) 0 = some (.int (ns.getD 0 0)) := hg 0 (by decide)
    have g1 : atI ((List.range 4).map fun k => V.int (ns.getD k 0)) 1 = some (.int (ns.getD 1 0)) := hg 1 (by decide)
    have g3 : atI ((List.range 4).map fun k => V.int (ns.getD k 0)) 3 = some (.int (ns.getD 3 0)) := hg 3 (by decide)
    have g2 : atI ((List.range 4).map fun k => V.int (ns.getD k 0)) 2 = some (.int (ns.getD 2 0)) := hg 2 (by decide)
    generalize (List.range 4).map (fun k => V.int (ns.getD k 0)) = hL at hhd g0 g1 g2 g3
    generalize ns.getD 0 0 = c0 at g0
    generalize ns.getD 1 0 = d1 at g1
    generalize ns.getD 2 0 = d2 at g2
    generalize ns.getD 3 0 = d3 at g3
    clear hg
    refine ⟨_, rfl, hd, _, _, _, rfl, rfl, SqL.of hhd, g0, _, _, rfl, rfl, (show (0 : Int) < 6 by decide), _, _, rfl, rfl, ?_⟩
    obtain ⟨cn, c1, c6, ec⟩ : ∃ cn : Nat, 1 ≤ cn ∧ cn ≤ 6 ∧ 1 + c0 % 6 = (cn : Int) := by
      have w1 := Int.emod_nonneg c0 (show (6 : Int) ≠ 0 by decide)
      have w2 := Int.emod_lt_of_pos c0 (show (0 : Int) < 6 by decide)
      exact ⟨(1 + c0 % 6).toNat, by omega, by omega, by omega⟩
    dsimp only
    rw [ec]
    refine ⟨szr, fun p np => ?_⟩
    obtain ⟨m, hm, mm⟩ := pick_mem [3, 5, 1, 2, 8, 20] (c0 / 6) (n := 6) rfl (by decide)
    have sp1 := Same.new (o := .lst [.int 3, .int 5, .int 1, .int 2, .int 8, .int 20]) np
    have s01 := s1.trans sp1
    have hhd1 := sp1 _ _ hhd
    refine ⟨_, rfl, hd, _, _, _, rfl, rfl, SqL.of hhd1, g0, _, _, rfl, rfl, (show CDiv _ 6 from ⟨by decide, by decide⟩), _, _, rfl, rfl, (show (0 : Int) < 6 by decide), p, _, _, _, rfl, rfl, SqL.of upd_same, hm, ?_⟩
    generalize upd H1 p (.lst [.int 3, .int 5, .int 1, .int 2, .int 8, .int 20]) = H2 at s01 hhd1
    obtain ⟨mn, em, m1, m20⟩ : ∃ mn : Nat, m = (mn : Int) ∧ 1 ≤ mn ∧ mn ≤ 20 := by
      simp only [List.mem_cons, List.not_mem_nil, or_false] at mm
      exact ⟨m.toNat, by omega, by omega, by omega⟩
    subst em
    refine ⟨_, rfl, _, rfl, _, _, rfl, rfl, .inl ⟨by omega, by omega⟩, ?_⟩
    have h120 : cn * mn ≤ 120 := Nat.mul_le_mul c6 m20
    have eh : (cn : Int) * (mn : Int) = ((cn * mn : Nat) : Int) := (Int.natCast_mul ..).symm
    dsimp only
    rw [eh]
    have ecm : cn * mn ≤ cn * mn := Nat.le_refl _
    generalize hrE : cn * mn = hr at h120 ecm
    refine ⟨_, rfl, _, rfl, _, rfl, _, _, rfl, rfl, _, rfl, _, _, rfl, rfl, a, ns, hr + mn + cn, (by show [V.ref a, V.int ((hr : Int) + mn + cn)] = _; rw [show ((hr + mn + cn : Nat) : Int) = (hr : Int) + mn + cn by omega]), s01.seq hS, by omega, by omega, by omega, fun cl cs H3 s3 ncl hcl lcs => ?_⟩
    have s03 := s01.trans s3
    have hhd3 := s3 _ _ hhd1
    walk_at "go"
    refine ⟨szr, fun p2 np2 => ?_⟩
    obtain ⟨gp, hgp, gm⟩ := pick_mem [1, 3, 40, 5 * 10 ^ 16] d2 (n := 4) rfl (by decide)
    have sp2 := Same.new (o := .lst [.int 1, .int 3, .int 40, .int (5 * 10 ^ 16)]) np2
    have hhd4 := sp2 _ _ hhd3
    have hcl4 := sp2 _ _ hcl
    have s04 := s03.trans sp2
    refine ⟨_, rfl, hd, _, _, _, rfl, rfl, SqL.of hhd4, g2, _, _, rfl, rfl, (show (0 : Int) < 4 by decide), p2, _, _, _, rfl, rfl, SqL.of upd_same, hgp, ?_⟩
    clear sp2 hhd4 hcl4 s04
    generalize hE4 : upd H3 p2 _ = H4
    have sp2 : Same H3 H4 := hE4 ▸ Same.new np2
    have hhd4 := sp2 _ _ hhd3
    have hcl4 := sp2 _ _ hcl
    have s04 := s03.trans sp2
    have gpb : 0 < gp ∧ gp ≤ 50000000000000000 := by
      simp only [List.mem_cons, List.not_mem_nil, or_false] at gm
      omega
    refine ⟨_, rfl, _, rfl, _, rfl, _, rfl, _, rfl, _, _, rfl, rfl, _, rfl, cl, _, rfl, SqL.of hcl4, fun c5 nc5 => ?_⟩
    have ecut : cutV (cs.map V.int) (some (hr : Int)) (some ((hr : Int) + (mn : Int))) = ((cs.drop hr).take mn).map V.int := by
      rw [show (hr : Int) + (mn : Int) = ((hr + mn : Nat) : Int) by omega, cut_mid, Nat.add_sub_cancel_left, List.map_take, List.map_drop]
    rw [ecut]
    have lcut : ((cs.drop hr).take mn).length = mn := by rw [List.length_take, List.length_drop]; omega
    have sp5 := Same.new (o := .lst (((cs.drop hr).take mn).map V.int)) nc5
    have hhd5 := sp5 _ _ hhd4
    have hcl5 := sp5 _ _ hcl4
    have s05 := s04.trans sp5
    have hc5 : upd H4 c5 (.lst (((cs.drop hr).take mn).map V.int)) c5 = some (.lst (((cs.drop hr).take mn).map V.int)) := upd_same
    generalize upd H4 c5 (.lst (((cs.drop hr).take mn).map V.int)) = H5 at hhd5 hcl5 s05 hc5
    generalize (cs.drop hr).take mn = cs' at lcut hc5
    refine ⟨_, rfl, _, rfl, hd, _, _, _, rfl, rfl, SqL.of hhd5, g2, _, _, rfl, rfl, (show CDiv _ 4 from ⟨by decide, by decide⟩), _, _, rfl, rfl, (show (0 : Int) < 2 by decide), c5, cs', gp, _, rfl, SqL.of hc5, by omega, gpb.1, gpb.2, fun bd bs H6 s6 nbd hbd lbs up b18 => ?_⟩
    rw [lcut] at lbs
    have s06 := s05.trans s6
    have hhd6 := s6 _ _ hhd5
    have hcl6 := s6 _ _ hcl5
    refine ⟨szr, fun p7 np7 => ?_⟩
    obtain ⟨dn, hdn, _⟩ := pick_mem [3, 4, 1, 2, 0] d1 (n := 5) rfl (by decide)
    have sp7 := Same.new (o := .lst [.int 3, .int 4, .int 1, .int 2, .int 0]) np7
    have hhd7 := sp7 _ _ hhd6
    have hcl7 := sp7 _ _ hcl6
    have hbd7 := sp7 _ _ hbd
    have s07 := s06.trans sp7
    refine ⟨_, rfl, hd, _, _, _, rfl, rfl, SqL.of hhd7, g1, _, _, rfl, rfl, (show (0 : Int) < 5 by decide), p7, _, _, _, rfl, rfl, SqL.of upd_same, hdn, ?_⟩
    generalize upd H6 p7 (.lst [.int 3, .int 4, .int 1, .int 2, .int 0]) = H7 at hhd7 hcl7 hbd7 s07
    walk_at "go"
    refine ⟨szr, fun p8 np8 => ?_⟩
    obtain ⟨tp, htp, tm⟩ := pick_mem [10 ^ 18 + 1, 5, 2, 10 ^ 9 + 7] (d1 / 5) (n := 4) rfl (by decide)
    have sp8 := Same.new (o := .lst [.int (10 ^ 18 + 1), .int 5, .int 2, .int (10 ^ 9 + 7)]) np8
    have hhd8 := sp8 _ _ hhd7
    have hcl8 := sp8 _ _ hcl7
    have hbd8 := sp8 _ _ hbd7
    have s08 := s07.trans sp8
    refine ⟨_, rfl, hd, _, _, _, rfl, rfl, SqL.of hhd8, g1, _, _, rfl, rfl, (show CDiv _ 5 from ⟨by decide, by decide⟩), _, _, rfl, rfl, (show (0 : Int) < 4 by decide), p8, _, _, _, rfl, rfl, SqL.of upd_same, htp, ?_⟩
    clear sp8 hhd8 hcl8 hbd8 s08
    generalize hE8 : upd H7 p8 _ = H8
    have sp8 : Same H7 H8 := hE8 ▸ Same.new np8
    have hhd8 := sp8 _ _ hhd7
    have hcl8 := sp8 _ _ hcl7
    have hbd8 := sp8 _ _ hbd7
    have s08 := s07.trans sp8
    have tp0 : 0 < tp := by
      simp only [List.mem_cons, List.not_mem_nil, or_false] at tm
      omega
    refine ⟨_, rfl, _, rfl, _, rfl, _, rfl, _, rfl, cl, bd, cs, bs, dn, tp, cn, rfl, SqL.of hcl8, SqL.of hbd8, up, tp0, c6, by omega, by rw [lbs, hrE]; omega, fun bi rs rows H9 s9 nbi hbi bl lr nr ok => ?_⟩
    have s09 := s08.trans s9
    have hcl9 := s9 _ _ hcl8
    have hhd9 := s9 _ _ hhd8
    clear s01 s03 s04 s05 s06 s07 s08 sp1 sp2 sp5 sp7 sp8 np np2 nc5 np7 np8 hhd1 hhd3 hhd4 hhd5 hhd6 hhd7 hhd8 hcl4 hcl5 hcl6 hcl7 hbd7
    have rl := bl.len
    have r20 : ∀ row ∈ rows, row.length ≤ 20 := fun row h => by have := (ok row h).len; omega
    have rok : ∀ row ∈ rows, row.length ≤ 20 ∧ (keysOf row).Nodup := fun row h => ⟨r20 row h, (ok row h).nd⟩
    generalize hσ : List.set _ 10 _ = σ0
    have hσ1 : σ0 = [some (.ref a), some (.ref hd), none, some (.int cn), some (.int mn), some (.int hr), some (.ref cl), some (.int gp), some (.ref bd), some (.int dn), some (.int tp), none, none, none, none, none, none, none, none, none, none] := hσ ▸ rfl
    clear hσ
    subst hσ1
    have c10 : (0 : Int) < (cn : Int) + 1 := by omega
    refine ⟨_, rfl, _, rfl, hd, _, _, _, rfl, rfl, SqL.of hhd9, g3, _, _, rfl, rfl, (show CDiv _ 3 from ⟨by decide, by decide⟩), _, rfl, _, _, rfl, rfl, _, _, rfl, rfl, c10, _, _, rfl, rfl, ?_⟩
    obtain ⟨sz, szc, esz⟩ : ∃ sz : Nat, sz ≤ cn ∧ (cn : Int) - d3 / 3 % ((cn : Int) + 1) = (sz : Int) := by
      have w1 := Int.emod_nonneg (d3 / 3) (show (cn : Int) + 1 ≠ 0 by omega)
      have w2 := Int.emod_lt_of_pos (d3 / 3) c10
      exact ⟨((cn : Int) - d3 / 3 % ((cn : Int) + 1)).toNat, by omega, by omega⟩
    dsimp only
    rw [esz]
    refine ⟨_, rfl, _, rfl, _, rfl, _, _, rfl, rfl, _, rfl, _, rfl, _, rfl, _, _, rfl, rfl, _, rfl, _, _, rfl, rfl, _, rfl, cl, _, rfl, SqL.of hcl9, fun c10 nc10 => ?_⟩
    have ecut2 : cutV (cs.map V.int) (some ((hr : Int) + (mn : Int))) (some ((hr : Int) + (mn : Int) + (sz : Int))) = ((cs.drop (hr + mn)).take sz).map V.int := by
      rw [show (hr : Int) + (mn : Int) + (sz : Int) = ((hr + mn + sz : Nat) : Int) by omega, show (hr : Int) + (mn : Int) = ((hr + mn : Nat) : Int) by omega, cut_mid, Nat.add_sub_cancel_left, List.map_take, List.map_drop]
    rw [ecut2]
    have lcut2 : ((cs.drop (hr + mn)).take sz).length = sz := by rw [List.length_take, List.length_drop]; omega
    generalize (cs.drop (hr + mn)).take sz = cs2 at lcut2
    refine ⟨c10, cs2, rfl, SqL.of upd_same, by omega, fun pp p0 H11 s11 npp hpp cp0 lp0 => ?_⟩
    have s911 : Same H9 H11 := (Same.new nc10).trans s11
    refine ⟨_, rfl, szr, fun z1 nz1 => ⟨_, rfl, z1, _, _, rfl, rfl, upd_same, by omega, by omega, szl (by rw [Int.toNat_natCast, List.length_singleton]; omega), fun zp nzp => ?_⟩⟩
    rw [Int.toNat_natCast, rep0]
    have s1112 : Same H11 (upd (upd H11 z1 (.lst [.int 0])) zp (.lst ((List.replicate cn (0 : Int)).map V.int))) := (Same.new nz1).to nzp
    have hzp : upd (upd H11 z1 (.lst [.int 0])) zp (.lst ((List.replicate cn (0 : Int)).map V.int)) zp = some (.lst ((List.replicate cn (0 : Int)).map V.int)) := upd_same
    generalize upd (upd H11 z1 (.lst [.int 0])) zp (.lst ((List.replicate cn (0 : Int)).map V.int)) = H12 at s1112 hzp
    refine ⟨_, rfl, _, rfl, lo62 _, by omega, ?_⟩
    rw [Int.toNat_natCast]
    refine comp_range (n := cn) (fun k => .int ((k : Nat) : Int)) (by omega) (fun i hi H2 R s2 k => ?_) fun kp H13 s13 nkp hkp => ?_
    · have ei : (0 : Int) + (i : Int) = ((i : Nat) : Int) := by omega
      rw [ei]
      exact ⟨_, rfl, k H2 (Same.refl _)⟩
    have ekp : (List.range cn).map (fun (k : Nat) => V.int ((k : Nat) : Int)) = ((List.range cn).map fun (k : Nat) => ((k : Nat) : Int)).map V.int := by rw [List.map_map]; rfl
    rw [ekp] at hkp
    refine ⟨szr, fun ask nask => ?_⟩
    have s1314 := Same.new (o := .lst [.ref pp, .ref zp, .ref kp]) nask
    have hask : upd H13 ask (.lst [.ref pp, .ref zp, .ref kp]) ask = some (.lst ([pp, zp, kp].map V.ref)) := upd_same
    have aR : RowsL (upd H13 ask (.lst [.ref pp, .ref zp, .ref kp])) [pp, zp, kp] [p0, List.replicate cn (0 : Int), (List.range cn).map fun (k : Nat) => ((k : Nat) : Int)] :=
      .cons (s1314 _ _ (s13 _ _ (s1112 _ _ hpp))) (.cons (s1314 _ _ (s13 _ _ hzp)) (.cons (s1314 _ _ hkp) .nil))
    have apr : ∀ p ∈ [p0, List.replicate cn (0 : Int), (List.range cn).map fun (k : Nat) => ((k : Nat) : Int)], Canon p ∧ p.length ≤ cn := by
      intro p hp
      simp only [List.mem_cons, List.not_mem_nil, or_false] at hp
      rcases hp with e | e | e
      · rw [e]; exact ⟨cp0, by omega⟩
      · rw [e]; exact ⟨canon_rep cn, by rw [List.length_replicate]; exact Nat.le_refl _⟩
      · rw [e]; exact ⟨canon_run cn, by rw [List.length_map, List.length_range]; exact Nat.le_refl _⟩
    have s914 : Same H9 (upd H13 ask (.lst [.ref pp, .ref zp, .ref kp])) := (((s911.trans s1112).trans s13)).trans s1314
    have al3 : [p0, List.replicate cn (0 : Int), (List.range cn).map fun (k : Nat) => ((k : Nat) : Int)].length = 3 := rfl
    generalize upd H13 ask (.lst [.ref pp, .ref zp, .ref kp]) = H14 at s914 hask aR
    generalize [p0, List.replicate cn (0 : Int), (List.range cn).map fun (k : Nat) => ((k : Nat) : Int)] = pats at aR apr al3
    generalize [pp, zp, kp] = qs at hask aR
    refine ⟨_, rfl, hd, _, _, _, rfl, rfl, SqL.of (s914 _ _ hhd9), g3, _, _, rfl, rfl, (show (0 : Int) < 3 by decide), ?_⟩
    obtain ⟨at', hat, eat⟩ := modN d3 (n := 3) (by decide)
    dsimp only
    rw [show d3 % 3 = ((at' : Nat) : Int) from eat]
    generalize hσ : List.set _ 14 _ = σ0
    have hσ1 : σ0 = [some (.ref a), some (.ref hd), none, some (.int cn), some (.int mn), some (.int hr), some (.ref cl), some (.int gp), some (.ref bd), some (.int dn), some (.int tp), some (.ref bi), some (.int sz), some (.ref pp), some (.ref ask), none, none, none, none, none, none] := hσ ▸ rfl
    clear hσ
    subst hσ1
    have qr : qs.length = 3 := by rw [aR.len, al3]
    refine ⟨_, rfl, _, rfl, _, rfl, ask, _, rfl, SqL.of hask, fun t1 nt1 => ?_⟩
    rw [cut_from]
    have st1 := Same.new (o := .lst ((qs.map V.ref).drop at')) nt1
    refine ⟨_, rfl, _, rfl, _, rfl, ask, _, rfl, SqL.of (st1 _ _ hask), fun t2 nt2 => ?_⟩
    rw [cut_to]
    have st2 := Same.new (o := .lst ((qs.map V.ref).take at')) nt2
    refine ⟨t1, t2, _, _, rfl, rfl, st2 _ _ upd_same, upd_same, szl (by rw [List.length_drop, List.length_take, List.length_map]; omega), fun ask2 na2 => ?_⟩
    have st3 := Same.new (o := .lst ((qs.map V.ref).drop at' ++ (qs.map V.ref).take at')) na2
    have s1415 : Same H14 (upd (upd (upd H14 t1 (.lst ((qs.map V.ref).drop at'))) t2 (.lst ((qs.map V.ref).take at'))) ask2 (.lst ((qs.map V.ref).drop at' ++ (qs.map V.ref).take at'))) := (st1.trans st2).trans st3
    have hask2 : upd (upd (upd H14 t1 (.lst ((qs.map V.ref).drop at'))) t2 (.lst ((qs.map V.ref).take at'))) ask2 (.lst ((qs.map V.ref).drop at' ++ (qs.map V.ref).take at')) ask2 = some (.lst ((qs.drop at' ++ qs.take at').map V.ref)) := by rw [upd_same, List.map_append, List.map_drop, List.map_take]
    generalize upd (upd (upd H14 t1 (.lst ((qs.map V.ref).drop at'))) t2 (.lst ((qs.map V.ref).take at'))) ask2 (.lst ((qs.map V.ref).drop at' ++ (qs.map V.ref).take at')) = H15 at s1415 hask2
    have aR2 : RowsL H15 (qs.drop at' ++ qs.take at') (pats.drop at' ++ pats.take at') := paired_app (paired_drop (aR.same s1415) at') (paired_take (aR.same s1415) at')
    have apr2 : ∀ p ∈ pats.drop at' ++ pats.take at', Canon p ∧ p.length ≤ cn := fun p hp => by
      rcases List.mem_append.mp hp with z | z
      · exact apr p (List.mem_of_mem_drop z)
      · exact apr p (List.mem_of_mem_take z)
    have al2 : (pats.drop at' ++ pats.take at').length = 3 := by rw [List.length_append, List.length_drop, List.length_take]; omega
    have s915 := s914.trans s1415
    generalize pats.drop at' ++ pats.take at' = pats2 at aR2 apr2 al2
    generalize qs.drop at' ++ qs.take at' = qs2 at aR2 hask2
    have qr2 : qs2.length = 3 := by rw [aR2.len, al2]
    refine ⟨szr, fun ke nke => ?_⟩
    have s1516 := Same.new (o := .lst []) nke
    have s916 := s915.trans s1516
    have hask6 := s1516 _ _ hask2
    have aR6 := aR2.same s1516
    have hke6 : upd H15 ke (.lst []) ke = some (.lst []) := upd_same
    have nke9 : H9 ke = none := s915.free nke
    have neq : ∀ o ∈ qs2, o ≠ ke := fun o ho z => by
      obtain ⟨i, hi, ei⟩ := List.mem_iff_getElem.mp ho
      obtain ⟨pt, _, e2⟩ := aR2.get (List.getElem?_eq_getElem hi)
      rw [ei, z, nke] at e2
      cases e2
    have nake : ask2 ≠ ke := fun z => by rw [z, nke] at hask2; cases hask2
    generalize upd H15 ke (.lst []) = H16 at s916 hask6 aR6 hke6
    have sl : ∀ p : List Int, (sumsR rows p).length = (dd p).length := fun p => by unfold sumsR; rw [List.length_map, List.length_range]
    have srow : ∀ p, ∀ row ∈ sumsR rows p, row.length ≤ 1000 := fun p row h => by
      obtain ⟨b, _, rfl⟩ := List.mem_map.mp h
      exact Nat.le_trans (sumS_len r20 _) (by decide)
    refine ⟨_, rfl, ask2, rfl, ⟨_, SqL.of hask6⟩, ?_⟩
    clear nask nt1 nt2 na2 nz1 nzp nc10 st1 st2 st3 s1415 s1314 s13 s1112 s11 s911 hkp hzp hpp hask s914
    refine for_list (K := K) (a := ask2) (xs := qs2.map V.ref) (fun i σ Hx => ∃ (x1 x2 x3 x4 : Option V) (ks : List Addr), σ = [some (.ref a), some (.ref hd), none, some (.int cn), some (.int mn), some (.int hr), some (.ref cl), some (.int gp), some (.ref bd), some (.int dn), some (.int tp), some (.ref bi), some (.int sz), some (.ref pp), some (.ref ask2), some (.int at'), some (.ref ke), x1, x2, x3, x4] ∧ SameBut ke H16 Hx ∧ Hx ke = some (.lst (ks.map V.ref)) ∧ ks.length = i ∧ ∀ (j : Nat) k p, ks[j]? = some k → pats2[j]? = some p → k ≠ ke ∧ ∃ ls : List Addr, Hx k = some (.lst (ls.map V.ref)) ∧ Paired (RowN ke Hx) ls (sumsR rows p))
      ⟨none, none, none, none, [], rfl, (fun _ _ _ h => h), hke6, rfl, fun j k p z => by cases z⟩ (fun i σ Hx _ ⟨_, _, _, _, _, _, s, _⟩ => SqL.of (s _ _ nake hask6)) ?_ ?_
    · rintro i y σ Hx hi ⟨x1, x2, x3, x4, ks, rfl, sx, hke, lks, hks⟩
      rw [List.getElem?_map] at hi
      obtain ⟨o, eo, rfl⟩ := Option.map_eq_some_iff.mp hi
      obtain ⟨p, ep, ho⟩ := aR6.get eo
      obtain ⟨cp, lp⟩ := apr2 p (List.mem_of_getElem? ep)
      have hi3 := (List.getElem?_eq_some_iff.mp eo).1
      have hox := sx _ _ (neq o (List.mem_of_getElem? eo)) ho
      have s9x : Same H9 Hx := fun b u h => sx b u (ne_of_none h nke9) (s916 _ _ h)
      have blx := bl.same s9x
      have hbix := s9x _ _ hbi
      refine ⟨_, rfl, bi, rfl, ⟨_, SqL.of hbix⟩, ?_⟩
      refine comp_copyB hbix blx (by omega) (fun r xs H2 R hr2 k => ⟨_, rfl, r, _, rfl, .inl (SqL.of hr2), fun l nl => k l _ (Same.new nl) nl upd_same⟩) fun hn ls H2 s2 nhn hhn bh nls ndl => ?_
      refine ⟨_, rfl, o, _, rfl, .inl (SqL.of (s2 _ _ hox)), fun td ntd => ?_⟩
      have s3 := Same.new (o := .lst (p.map V.int)) ntd
      have htd : upd H2 td (.lst (p.map V.int)) td = some (.lst (p.map V.int)) := upd_same
      generalize upd H2 td (.lst (p.map V.int)) = H3 at s3 htd
      have s23 := s2.trans s3
      refine ⟨_, rfl, _, rfl, td, hn, p, ls, rows, rfl, SqL.of htd, s3 _ _ hhn, bh.same s3, cp, by omega, by omega, rok, fun fo fls H4 s4 nfo hfo bfo nfls => ?_⟩
      have s24 := s23.trans s4
      have s34 := s3.trans s4
      refine ⟨_, rfl, _, rfl, 3, true, deq_bills (s34 _ _ hhn) (bh.same s34) (s24 _ _ hbix) (blx.same s24), by decide, rfl, _, rfl, iteF ?_⟩
      refine ⟨_, rfl, _, rfl, 1, true, deq_ints (SqL.of (s4 _ _ htd)) (SqL.of (s24 _ _ hox)), by decide, rfl, _, rfl, iteF ?_⟩
      refine ⟨_, rfl, _, rfl, _, rfl, o, bi, p, rs, rows, rfl, SqL.of (s24 _ _ hox), s24 _ _ hbix, blx.same s24, cp, by omega, by omega, rok, fun du dls H5 s5 ndu hdu bdu => ?_⟩
      have dl := dd_len p
      refine ⟨fo, du, fls, dls, sumsR rows p, rfl, s5 _ _ hfo, hdu, bfo.same s5, bdu, by rw [sl]; omega, srow p, fun H6 s6 => ⟨_, rfl, iteF ?_⟩⟩
      have s46 := s5.trans s6
      have s26 := s24.trans s46
      have s36 := s4.trans s46
      have hke6 := s26 _ _ hke
      refine ⟨_, rfl, .inl ⟨rfl, _, SqL.of hke6⟩, _, rfl, ke, _, _, rfl, rfl, hke6, szn (by rw [List.length_map]; omega), ?_⟩
      have nhnx : Hx hn = none := nhn
      have hnke : hn ≠ ke := fun z => by rw [z, hke] at nhnx; cases nhnx
      have tdke : td ≠ ke := fun z => by rw [z, s2 _ _ hke] at ntd; cases ntd
      have foke : fo ≠ ke := fun z => by rw [z, s23 _ _ hke] at nfo; cases nfo
      generalize hE7 : upd H6 ke _ = H7
      have s67 : SameBut ke H6 H7 := hE7 ▸ SameBut.upd
      have hke7 : H7 ke = some (.lst ((ks ++ [fo]).map V.ref)) := by rw [← hE7, upd_same, List.map_append]; rfl
      have hl0 : ls[0]? = some (ls[0]'(by rw [bh.len]; omega)) := List.getElem?_eq_getElem _
      generalize ls[0]'_ = l0 at hl0
      obtain ⟨row0, _, ps0, hps0, _⟩ := bh.get hl0
      obtain ⟨nl0, nl0h⟩ := nls l0 (List.mem_of_getElem? hl0)
      have l0ke : l0 ≠ ke := fun z => by rw [z, hke] at nl0; cases nl0
      have hhn7 := s67 _ _ hnke (s36 _ _ (s3 _ _ hhn))
      have hps7 := s67 _ _ l0ke (s36 _ _ (s3 _ _ hps0))
      refine ⟨_, rfl, hn, _, _, _, rfl, rfl, SqL.of hhn7, (show atI (ls.map V.ref) ((0 : Nat) : Int) = some (.ref l0) from atI_nat (by rw [List.getElem?_map, hl0]; rfl)), .inl ⟨rfl, _, SqL.of hps7⟩, l0, _, rfl, rfl, hps7, ?_⟩
      have tdl0 : td ≠ l0 := fun z => by rw [z, hps0] at ntd; cases ntd
      have htd8 : upd H7 l0 (.lst []) td = some (.lst (p.map V.int)) := by rw [upd_ne tdl0]; exact s67 _ _ tdke (s36 _ _ htd)
      refine ⟨_, rfl, .inl ⟨rfl, _, SqL.of htd8⟩, td, _, _, rfl, rfl, htd8, szn (by rw [List.length_map]; omega), ?_⟩
      have stay : ∀ b u, b ≠ ke → H6 b = some u → b ≠ l0 → b ≠ td → upd (upd H7 l0 (.lst [])) td (.lst (p.map V.int ++ [.int 0])) b = some u := fun b u n h n1 n2 => by rw [upd_ne n2, upd_ne n1]; exact s67 _ _ n h
      have ntdx : Hx td = none := s2.free ntd
      have old : ∀ b u, b ≠ ke → Hx b = some u → upd (upd H7 l0 (.lst [])) td (.lst (p.map V.int ++ [.int 0])) b = some u := fun b u n h => stay b u n (s26 _ _ h) (ne_of_none h nl0) (ne_of_none h ntdx)
      have so : SameBut ke Hx (upd (upd H7 l0 (.lst [])) td (.lst (p.map V.int ++ [.int 0]))) := fun b u n h => old b u n h
      refine ⟨_, _, _, _, ks ++ [fo], rfl, fun b u n h => old b u n (sx b u n h), ?_, by rw [List.length_append, List.length_singleton, lks], fun j k p' ej epj => ?_⟩
      · rw [upd_ne (Ne.symm tdke), upd_ne (Ne.symm l0ke)]; exact hke7
      · by_cases hj : j < ks.length
        · rw [List.getElem?_append_left hj] at ej
          obtain ⟨n, ls', h1, h2⟩ := hks j k p' ej epj
          exact ⟨n, ls', old _ _ n h1, Paired.mapP h2 fun r row q => q.mono so⟩
        · have hj' := (List.getElem?_eq_some_iff.mp ej).1
          rw [List.length_append, List.length_singleton] at hj'
          have e1 : j = ks.length := by omega
          subst e1
          rw [List.getElem?_append_right (Nat.le_refl _), Nat.sub_self] at ej
          cases ej
          rw [lks, ep] at epj
          cases epj
          have new3 : ∀ r, H3 r = none → r ≠ l0 ∧ r ≠ td ∧ r ≠ ke := fun r hr => ⟨(fun z => by rw [z, s3 _ _ hps0] at hr; cases hr), (fun z => by rw [z, htd] at hr; cases hr), (fun z => by rw [z, s23 _ _ hke] at hr; cases hr)⟩
          obtain ⟨n1, n2, n3⟩ := new3 fo nfo
          refine ⟨n3, fls, stay _ _ n3 (s46 _ _ hfo) n1 n2, paired_of bfo.len fun i' r row e1 e2 => ?_⟩
          obtain ⟨row', e3, ps, hr1, tr⟩ := bfo.get e1
          rw [e2] at e3
          cases e3
          obtain ⟨m1, m2, m3⟩ := new3 r (nfls r (List.mem_of_getElem? e1)).1
          have tne : ∀ t x, PairT H4 t x → t ≠ l0 ∧ t ≠ td ∧ t ≠ ke := fun t x q => ⟨(fun z => by rw [PairT, z, s34 _ _ hps0] at q; cases q), (fun z => by rw [PairT, z, s4 _ _ htd] at q; cases q), (fun z => by rw [PairT, z, s24 _ _ hke] at q; cases q)⟩
          refine ⟨m3, ps, stay _ _ m3 (s46 _ _ hr1) m1 m2, fun t ht => ?_, Paired.mapP tr fun t x q => ?_⟩
          · obtain ⟨iq, hiq, eiq⟩ := List.mem_iff_getElem.mp ht
            obtain ⟨x, _, q⟩ := pair_at tr (List.getElem?_eq_getElem hiq)
            rw [eiq] at q
            exact (tne t x q).2.2
          · obtain ⟨w1, w2, w3⟩ := tne t x q
            exact stay _ _ w3 (s46 _ _ q) w1 w2
    rintro σ Hx ⟨x1, x2, x3, x4, ks, rfl, sx, hke, lks, hks⟩
    rw [List.length_map, qr2] at lks
    refine ⟨_, rfl, by decide, by decide, ?_⟩
    have s9x : Same H9 Hx := fun b u h => sx b u (ne_of_none h nke9) (s916 _ _ h)
    refine for_range (n := 3) (fun i σ Hy => ∃ x0 : Option V, σ = [some (.ref a), some (.ref hd), x0, some (.int cn), some (.int mn), some (.int hr), some (.ref cl), some (.int gp), some (.ref bd), some (.int dn), some (.int tp), some (.ref bi), some (.int sz), some (.ref pp), some (.ref ask2), some (.int at'), some (.ref ke), x1, x2, x3, x4] ∧ Same Hx Hy) ⟨none, rfl, Same.refl _⟩ ?_ ?_
    · rintro i σ Hy hi ⟨x0, rfl, sy⟩
      have ei : (0 : Int) + (i : Int) = ((i : Nat) : Int) := by omega
      rw [ei]
      have eo : qs2[i]? = some (qs2[i]'(by omega)) := List.getElem?_eq_getElem _
      have ek : ks[i]? = some (ks[i]'(by omega)) := List.getElem?_eq_getElem _
      generalize qs2[i]'_ = o at eo
      generalize ks[i]'_ = k at ek
      obtain ⟨p, ep, ho⟩ := aR6.get eo
      obtain ⟨cp, lp⟩ := apr2 p (List.mem_of_getElem? ep)
      have hoy := sy _ _ (sx _ _ (neq o (List.mem_of_getElem? eo)) ho)
      obtain ⟨nk, ls, hk, bk⟩ := hks i k p ek ep
      have bk2 : BillL Hx ls (sumsR rows p) := Paired.mapP bk fun r row q => q.at
      have s9y := s9x.trans sy
      have hay := sy _ _ (sx _ _ nake hask6)
      refine ⟨_, rfl, _, rfl, ke, _, _, _, rfl, rfl, SqL.of (sy _ _ hke), atI_nat (by rw [List.getElem?_map, ek]; rfl), _, rfl, _, rfl, ask2, _, _, _, rfl, rfl, SqL.of hay, atI_nat (by rw [List.getElem?_map, eo]; rfl), _, rfl, o, bi, p, rs, rows, rfl, SqL.of hoy, s9y _ _ hbi, bl.same s9y, cp, by omega, by omega, rok, fun du dls H5 s5 ndu hdu bdu => ?_⟩
      have dl := dd_len p
      exact ⟨k, du, ls, dls, sumsR rows p, rfl, s5 _ _ (sy _ _ hk), hdu, (bk2.same sy).same s5, bdu, by rw [sl]; omega, srow p, fun H6 s6 => ⟨_, rfl, iteF ⟨_, rfl, (sy.trans s5).trans s6⟩⟩⟩
    · rintro σ Hy ⟨x0, rfl, sy⟩
      exact q Hy
end
theorem all_mk {l : PySem.W.OpenLaw} {w : World} {K : PySem.W.Frag} {h : Heap} {mg : Str → Option Value} {fa f_width f_sums f_sums_of f_added f_law_cell f_law_entries f_law_whole f_law_badges f_law_bill f_law_wide f_law_pattern f_law_pool f_law_minutes f_law_same_pairs f_law_due f_law_good f_law : Addr} (X : K.In h) (G : h.Ns mainGlobals mg) (hfa : mg "law" = some (.ref fa))
    {od_width an_width : Option Addr} {sl_width : Array (Option Value)} {oc_width kV_width dc_width pm_width cd_width ct_width : Value}
    {od_sums an_sums : Option Addr} {sl_sums : Array (Option Value)} {oc_sums kV_sums dc_sums pm_sums cd_sums ct_sums : Value}
    {od_sums_of an_sums_of : Option Addr} {sl_sums_of : Array (Option Value)} {oc_sums_of kV_sums_of dc_sums_of pm_sums_of cd_sums_of ct_sums_of : Value}
    {od_added an_added : Option Addr} {sl_added : Array (Option Value)} {oc_added kV_added dc_added pm_added cd_added ct_added : Value}
    {od_law_cell an_law_cell : Option Addr} {sl_law_cell : Array (Option Value)} {oc_law_cell kV_law_cell dc_law_cell pm_law_cell cd_law_cell ct_law_cell : Value}
    {od_law_entries an_law_entries : Option Addr} {sl_law_entries : Array (Option Value)} {oc_law_entries kV_law_entries dc_law_entries pm_law_entries cd_law_entries ct_law_entries : Value}
    {od_law_whole an_law_whole : Option Addr} {sl_law_whole : Array (Option Value)} {oc_law_whole kV_law_whole dc_law_whole pm_law_whole cd_law_whole ct_law_whole : Value}
    {od_law_badges an_law_badges : Option Addr} {sl_law_badges : Array (Option Value)} {oc_law_badges kV_law_badges dc_law_badges pm_law_badges cd_law_badges ct_law_badges : Value}
    {od_law_bill an_law_bill : Option Addr} {sl_law_bill : Array (Option Value)} {oc_law_bill kV_law_bill dc_law_bill pm_law_bill cd_law_bill ct_law_bill : Value}
    {od_law_wide an_law_wide : Option Addr} {sl_law_wide : Array (Option Value)} {oc_law_wide kV_law_wide dc_law_wide pm_law_wide cd_law_wide ct_law_wide : Value}
    {od_law_pattern an_law_pattern : Option Addr} {sl_law_pattern : Array (Option Value)} {oc_law_pattern kV_law_pattern dc_law_pattern pm_law_pattern cd_law_pattern ct_law_pattern : Value}
    {od_law_pool an_law_pool : Option Addr} {sl_law_pool : Array (Option Value)} {oc_law_pool kV_law_pool dc_law_pool pm_law_pool cd_law_pool ct_law_pool : Value}
    {od_law_minutes an_law_minutes : Option Addr} {sl_law_minutes : Array (Option Value)} {oc_law_minutes kV_law_minutes dc_law_minutes pm_law_minutes cd_law_minutes ct_law_minutes : Value}
    {od_law_same_pairs an_law_same_pairs : Option Addr} {sl_law_same_pairs : Array (Option Value)} {oc_law_same_pairs kV_law_same_pairs dc_law_same_pairs pm_law_same_pairs cd_law_same_pairs ct_law_same_pairs : Value}
    {od_law_due an_law_due : Option Addr} {sl_law_due : Array (Option Value)} {oc_law_due kV_law_due dc_law_due pm_law_due cd_law_due ct_law_due : Value}
    {od_law_good an_law_good : Option Addr} {sl_law_good : Array (Option Value)} {oc_law_good kV_law_good dc_law_good pm_law_good cd_law_good ct_law_good : Value}
    {od_law an_law : Option Addr} {sl_law : Array (Option Value)} {oc_law kV_law dc_law pm_law cd_law ct_law : Value}
    (a_width : PySem.W.nsIn K mainGlobals "width" = some (some (.ref f_width))) (l_width : K.lookup f_width = some ⟨oc_width, od_width, .func (PySem.W.fnOf "width" "width" (defArgs s_width) (defBody s_width) (defScope s_width) .none kV_width dc_width pm_width an_width cd_width ct_width), sl_width⟩) (c_width : PySem.W.codeIn K cd_width "width" = true) (k_width : PySem.W.keepIn K (.ref f_width) = true)
    (a_sums : PySem.W.nsIn K mainGlobals "sums" = some (some (.ref f_sums))) (l_sums : K.lookup f_sums = some ⟨oc_sums, od_sums, .func (PySem.W.fnOf "sums" "sums" (defArgs s_sums) (defBody s_sums) (defScope s_sums) .none kV_sums dc_sums pm_sums an_sums cd_sums ct_sums), sl_sums⟩) (c_sums : PySem.W.codeIn K cd_sums "sums" = true) (k_sums : PySem.W.keepIn K (.ref f_sums) = true)
    (a_sums_of : PySem.W.nsIn K mainGlobals "sums_of" = some (some (.ref f_sums_of))) (l_sums_of : K.lookup f_sums_of = some ⟨oc_sums_of, od_sums_of, .func (PySem.W.fnOf "sums_of" "sums_of" (defArgs s_sums_of) (defBody s_sums_of) (defScope s_sums_of) .none kV_sums_of dc_sums_of pm_sums_of an_sums_of cd_sums_of ct_sums_of), sl_sums_of⟩) (c_sums_of : PySem.W.codeIn K cd_sums_of "sums_of" = true) (k_sums_of : PySem.W.keepIn K (.ref f_sums_of) = true)
    (a_added : PySem.W.nsIn K mainGlobals "added" = some (some (.ref f_added))) (l_added : K.lookup f_added = some ⟨oc_added, od_added, .func (PySem.W.fnOf "added" "added" (defArgs s_added) (defBody s_added) (defScope s_added) .none kV_added dc_added pm_added an_added cd_added ct_added), sl_added⟩) (c_added : PySem.W.codeIn K cd_added "added" = true) (k_added : PySem.W.keepIn K (.ref f_added) = true)
    (a_law_cell : PySem.W.nsIn K mainGlobals "_law_cell" = some (some (.ref f_law_cell))) (l_law_cell : K.lookup f_law_cell = some ⟨oc_law_cell, od_law_cell, .func (PySem.W.fnOf "_law_cell" "_law_cell" (defArgs s_law_cell) (defBody s_law_cell) (defScope s_law_cell) .none kV_law_cell dc_law_cell pm_law_cell an_law_cell cd_law_cell ct_law_cell), sl_law_cell⟩) (c_law_cell : PySem.W.codeIn K cd_law_cell "_law_cell" = true) (k_law_cell : PySem.W.keepIn K (.ref f_law_cell) = true)
    (a_law_entries : PySem.W.nsIn K mainGlobals "_law_entries" = some (some (.ref f_law_entries))) (l_law_entries : K.lookup f_law_entries = some ⟨oc_law_entries, od_law_entries, .func (PySem.W.fnOf "_law_entries" "_law_entries" (defArgs s_law_entries) (defBody s_law_entries) (defScope s_law_entries) .none kV_law_entries dc_law_entries pm_law_entries an_law_entries cd_law_entries ct_law_entries), sl_law_entries⟩) (c_law_entries : PySem.W.codeIn K cd_law_entries "_law_entries" = true) (k_law_entries : PySem.W.keepIn K (.ref f_law_entries) = true)
    (a_law_whole : PySem.W.nsIn K mainGlobals "_law_whole" = some (some (.ref f_law_whole))) (l_law_whole : K.lookup f_law_whole = some ⟨oc_law_whole, od_law_whole, .func (PySem.W.fnOf "_law_whole" "_law_whole" (defArgs s_law_whole) (defBody s_law_whole) (defScope s_law_whole) .none kV_law_whole dc_law_whole pm_law_whole an_law_whole cd_law_whole ct_law_whole), sl_law_whole⟩) (c_law_whole : PySem.W.codeIn K cd_law_whole "_law_whole" = true) (k_law_whole : PySem.W.keepIn K (.ref f_law_whole) = true)
    (a_law_badges : PySem.W.nsIn K mainGlobals "_law_badges" = some (some (.ref f_law_badges))) (l_law_badges : K.lookup f_law_badges = some ⟨oc_law_badges, od_law_badges, .func (PySem.W.fnOf "_law_badges" "_law_badges" (defArgs s_law_badges) (defBody s_law_badges) (defScope s_law_badges) .none kV_law_badges dc_law_badges pm_law_badges an_law_badges cd_law_badges ct_law_badges), sl_law_badges⟩) (c_law_badges : PySem.W.codeIn K cd_law_badges "_law_badges" = true) (k_law_badges : PySem.W.keepIn K (.ref f_law_badges) = true)
    (a_law_bill : PySem.W.nsIn K mainGlobals "_law_bill" = some (some (.ref f_law_bill))) (l_law_bill : K.lookup f_law_bill = some ⟨oc_law_bill, od_law_bill, .func (PySem.W.fnOf "_law_bill" "_law_bill" (defArgs s_law_bill) (defBody s_law_bill) (defScope s_law_bill) .none kV_law_bill dc_law_bill pm_law_bill an_law_bill cd_law_bill ct_law_bill), sl_law_bill⟩) (c_law_bill : PySem.W.codeIn K cd_law_bill "_law_bill" = true) (k_law_bill : PySem.W.keepIn K (.ref f_law_bill) = true)
    (a_law_wide : PySem.W.nsIn K mainGlobals "_law_wide" = some (some (.ref f_law_wide))) (l_law_wide : K.lookup f_law_wide = some ⟨oc_law_wide, od_law_wide, .func (PySem.W.fnOf "_law_wide" "_law_wide" (defArgs s_law_wide) (defBody s_law_wide) (defScope s_law_wide) .none kV_law_wide dc_law_wide pm_law_wide an_law_wide cd_law_wide ct_law_wide), sl_law_wide⟩) (c_law_wide : PySem.W.codeIn K cd_law_wide "_law_wide" = true) (k_law_wide : PySem.W.keepIn K (.ref f_law_wide) = true)
    (a_law_pattern : PySem.W.nsIn K mainGlobals "_law_pattern" = some (some (.ref f_law_pattern))) (l_law_pattern : K.lookup f_law_pattern = some ⟨oc_law_pattern, od_law_pattern, .func (PySem.W.fnOf "_law_pattern" "_law_pattern" (defArgs s_law_pattern) (defBody s_law_pattern) (defScope s_law_pattern) .none kV_law_pattern dc_law_pattern pm_law_pattern an_law_pattern cd_law_pattern ct_law_pattern), sl_law_pattern⟩) (c_law_pattern : PySem.W.codeIn K cd_law_pattern "_law_pattern" = true) (k_law_pattern : PySem.W.keepIn K (.ref f_law_pattern) = true)
    (a_law_pool : PySem.W.nsIn K mainGlobals "_law_pool" = some (some (.ref f_law_pool))) (l_law_pool : K.lookup f_law_pool = some ⟨oc_law_pool, od_law_pool, .func (PySem.W.fnOf "_law_pool" "_law_pool" (defArgs s_law_pool) (defBody s_law_pool) (defScope s_law_pool) .none kV_law_pool dc_law_pool pm_law_pool an_law_pool cd_law_pool ct_law_pool), sl_law_pool⟩) (c_law_pool : PySem.W.codeIn K cd_law_pool "_law_pool" = true) (k_law_pool : PySem.W.keepIn K (.ref f_law_pool) = true)
    (a_law_minutes : PySem.W.nsIn K mainGlobals "_law_minutes" = some (some (.ref f_law_minutes))) (l_law_minutes : K.lookup f_law_minutes = some ⟨oc_law_minutes, od_law_minutes, .func (PySem.W.fnOf "_law_minutes" "_law_minutes" (defArgs s_law_minutes) (defBody s_law_minutes) (defScope s_law_minutes) .none kV_law_minutes dc_law_minutes pm_law_minutes an_law_minutes cd_law_minutes ct_law_minutes), sl_law_minutes⟩) (c_law_minutes : PySem.W.codeIn K cd_law_minutes "_law_minutes" = true) (k_law_minutes : PySem.W.keepIn K (.ref f_law_minutes) = true)
    (a_law_same_pairs : PySem.W.nsIn K mainGlobals "_law_same_pairs" = some (some (.ref f_law_same_pairs))) (l_law_same_pairs : K.lookup f_law_same_pairs = some ⟨oc_law_same_pairs, od_law_same_pairs, .func (PySem.W.fnOf "_law_same_pairs" "_law_same_pairs" (defArgs s_law_same_pairs) (defBody s_law_same_pairs) (defScope s_law_same_pairs) .none kV_law_same_pairs dc_law_same_pairs pm_law_same_pairs an_law_same_pairs cd_law_same_pairs ct_law_same_pairs), sl_law_same_pairs⟩) (c_law_same_pairs : PySem.W.codeIn K cd_law_same_pairs "_law_same_pairs" = true) (k_law_same_pairs : PySem.W.keepIn K (.ref f_law_same_pairs) = true)
    (a_law_due : PySem.W.nsIn K mainGlobals "_law_due" = some (some (.ref f_law_due))) (l_law_due : K.lookup f_law_due = some ⟨oc_law_due, od_law_due, .func (PySem.W.fnOf "_law_due" "_law_due" (defArgs s_law_due) (defBody s_law_due) (defScope s_law_due) .none kV_law_due dc_law_due pm_law_due an_law_due cd_law_due ct_law_due), sl_law_due⟩) (c_law_due : PySem.W.codeIn K cd_law_due "_law_due" = true) (k_law_due : PySem.W.keepIn K (.ref f_law_due) = true)
    (a_law_good : PySem.W.nsIn K mainGlobals "_law_good" = some (some (.ref f_law_good))) (l_law_good : K.lookup f_law_good = some ⟨oc_law_good, od_law_good, .func (PySem.W.fnOf "_law_good" "_law_good" (defArgs s_law_good) (defBody s_law_good) (defScope s_law_good) .none kV_law_good dc_law_good pm_law_good an_law_good cd_law_good ct_law_good), sl_law_good⟩) (c_law_good : PySem.W.codeIn K cd_law_good "_law_good" = true) (k_law_good : PySem.W.keepIn K (.ref f_law_good) = true)
    (a_law : PySem.W.nsIn K mainGlobals "law" = some (some (.ref f_law))) (l_law : K.lookup f_law = some ⟨oc_law, od_law, .func (PySem.W.fnOf "law" "law" (defArgs s_law) (defBody s_law) (defScope s_law) .none kV_law dc_law pm_law an_law cd_law ct_law), sl_law⟩) (c_law : PySem.W.codeIn K cd_law "law" = true) (k_law : PySem.W.keepIn K (.ref f_law) = true)
    (z_bool : PySem.W.nsIn K mainGlobals "bool" = some none)
    (z_dict : PySem.W.nsIn K mainGlobals "dict" = some none)
    (z_int : PySem.W.nsIn K mainGlobals "int" = some none)
    (z_isinstance : PySem.W.nsIn K mainGlobals "isinstance" = some none)
    (z_len : PySem.W.nsIn K mainGlobals "len" = some none)
    (z_list : PySem.W.nsIn K mainGlobals "list" = some none)
    (z_range : PySem.W.nsIn K mainGlobals "range" = some none)
    (z_reversed : PySem.W.nsIn K mainGlobals "reversed" = some none)
    (z_set : PySem.W.nsIn K mainGlobals "set" = some none)
    (z_tuple : PySem.W.nsIn K mainGlobals "tuple" = some none)
    : ∃ fd : FuncData, (∀ (s : Shared) (v : Value), BindsTo s fd ⟨[v], []⟩ [("script", v)]) ∧ ∀ base : Heap, K.In base → base.Ns mainGlobals mg → FnOk l.prog w K mg base CX0 4 fa fd ["script"] (sp_law K) := by
  have e := hfa.symm.trans (PySem.W.mg_of X G a_law)
  cases e
  have T : Txt mg := ⟨PySem.W.mg_none_of X G z_bool, PySem.W.mg_none_of X G z_dict, PySem.W.mg_none_of X G z_int, PySem.W.mg_none_of X G z_isinstance, PySem.W.mg_none_of X G z_len, PySem.W.mg_none_of X G z_list, PySem.W.mg_none_of X G z_range, PySem.W.mg_none_of X G z_reversed, PySem.W.mg_none_of X G z_set, PySem.W.mg_none_of X G z_tuple⟩
  have F_width := fun_mk (st := s_width) l_width c_width k_width
  have F_sums := fun_mk (st := s_sums) l_sums c_sums k_sums
  have F_sums_of := fun_mk (st := s_sums_of) l_sums_of c_sums_of k_sums_of
  have F_added := fun_mk (st := s_added) l_added c_added k_added
  have F_law_cell := fun_mk (st := s_law_cell) l_law_cell c_law_cell k_law_cell
  have F_law_entries := fun_mk (st := s_law_entries) l_law_entries c_law_entries k_law_entries
  have F_law_whole := fun_mk (st := s_law_whole) l_law_whole c_law_whole k_law_whole
  have F_law_badges := fun_mk (st := s_law_badges) l_law_badges c_law_badges k_law_badges
  have F_law_bill := fun_mk (st := s_law_bill) l_law_bill c_law_bill k_law_bill
  have F_law_wide := fun_mk (st := s_law_wide) l_law_wide c_law_wide k_law_wide
  have F_law_pattern := fun_mk (st := s_law_pattern) l_law_pattern c_law_pattern k_law_pattern
  have F_law_pool := fun_mk (st := s_law_pool) l_law_pool c_law_pool k_law_pool
  have F_law_minutes := fun_mk (st := s_law_minutes) l_law_minutes c_law_minutes k_law_minutes
  have F_law_same_pairs := fun_mk (st := s_law_same_pairs) l_law_same_pairs c_law_same_pairs k_law_same_pairs
  have F_law_due := fun_mk (st := s_law_due) l_law_due c_law_due k_law_due
  have F_law_good := fun_mk (st := s_law_good) l_law_good c_law_good k_law_good
  have F_law := fun_mk (st := s_law) l_law c_law k_law
  have b_width := F_width.binds (ps := ["pattern"]) fun _ _ _ _ _ _ us hl => by obtain ⟨_, rfl⟩ := ex1 hl; rfl
  have b_sums := F_sums.binds (ps := ["pattern", "bill"]) fun _ _ _ _ _ _ us hl => by obtain ⟨_, _, rfl⟩ := ex2 hl; rfl
  have b_sums_of := F_sums_of.binds (ps := ["block", "pattern", "bill"]) fun _ _ _ _ _ _ us hl => by obtain ⟨_, _, _, rfl⟩ := ex3 hl; rfl
  have b_added := F_added.binds (ps := ["pairs", "minutes"]) fun _ _ _ _ _ _ us hl => by obtain ⟨_, _, rfl⟩ := ex2 hl; rfl
  have b_law_cell := F_law_cell.binds (ps := ["script", "k"]) fun _ _ _ _ _ _ us hl => by obtain ⟨_, _, rfl⟩ := ex2 hl; rfl
  have b_law_entries := F_law_entries.binds (ps := ["script", "size"]) fun _ _ _ _ _ _ us hl => by obtain ⟨_, _, rfl⟩ := ex2 hl; rfl
  have b_law_whole := F_law_whole.binds (ps := ["found"]) fun _ _ _ _ _ _ us hl => by obtain ⟨_, rfl⟩ := ex1 hl; rfl
  have b_law_badges := F_law_badges.binds (ps := ["cells", "gap", "high"]) fun _ _ _ _ _ _ us hl => by obtain ⟨_, _, _, rfl⟩ := ex3 hl; rfl
  have b_law_bill := F_law_bill.binds (ps := ["cells", "badges", "dense", "top", "count"]) fun _ _ _ _ _ _ us hl => by obtain ⟨_, _, _, _, _, rfl⟩ := ex5 hl; rfl
  have b_law_wide := F_law_wide.binds (ps := ["pattern"]) fun _ _ _ _ _ _ us hl => by obtain ⟨_, rfl⟩ := ex1 hl; rfl
  have b_law_pattern := F_law_pattern.binds (ps := ["cells"]) fun _ _ _ _ _ _ us hl => by obtain ⟨_, rfl⟩ := ex1 hl; rfl
  have b_law_pool := F_law_pool.binds (ps := ["block", "pattern", "bill"]) fun _ _ _ _ _ _ us hl => by obtain ⟨_, _, _, rfl⟩ := ex3 hl; rfl
  have b_law_minutes := F_law_minutes.binds (ps := ["badge", "block", "pattern", "bill"]) fun _ _ _ _ _ _ us hl => by obtain ⟨_, _, _, _, rfl⟩ := ex4 hl; rfl
  have b_law_same_pairs := F_law_same_pairs.binds (ps := ["found", "due"]) fun _ _ _ _ _ _ us hl => by obtain ⟨_, _, rfl⟩ := ex2 hl; rfl
  have b_law_due := F_law_due.binds (ps := ["pattern", "bill"]) fun _ _ _ _ _ _ us hl => by obtain ⟨_, _, rfl⟩ := ex2 hl; rfl
  have b_law_good := F_law_good.binds (ps := ["found", "due"]) fun _ _ _ _ _ _ us hl => by obtain ⟨_, _, rfl⟩ := ex2 hl; rfl
  have b_law := F_law.binds (ps := ["script"]) fun _ _ _ _ _ _ us hl => by obtain ⟨_, rfl⟩ := ex1 hl; rfl
  exact ⟨PySem.W.fnOf "law" "law" (defArgs s_law) (defBody s_law) (defScope s_law) .none kV_law dc_law pm_law an_law cd_law ct_law, fun s v => .of_eq rfl, fun base _ _ => ok_law (⟨⟨F_width, b_width, PySem.W.mg_of X G a_width⟩, ⟨F_sums, b_sums, PySem.W.mg_of X G a_sums⟩, ⟨F_sums_of, b_sums_of, PySem.W.mg_of X G a_sums_of⟩, ⟨F_added, b_added, PySem.W.mg_of X G a_added⟩, ⟨F_law_cell, b_law_cell, PySem.W.mg_of X G a_law_cell⟩, ⟨F_law_entries, b_law_entries, PySem.W.mg_of X G a_law_entries⟩, ⟨F_law_whole, b_law_whole, PySem.W.mg_of X G a_law_whole⟩, ⟨F_law_badges, b_law_badges, PySem.W.mg_of X G a_law_badges⟩, ⟨F_law_bill, b_law_bill, PySem.W.mg_of X G a_law_bill⟩, ⟨F_law_wide, b_law_wide, PySem.W.mg_of X G a_law_wide⟩, ⟨F_law_pattern, b_law_pattern, PySem.W.mg_of X G a_law_pattern⟩, ⟨F_law_pool, b_law_pool, PySem.W.mg_of X G a_law_pool⟩, ⟨F_law_minutes, b_law_minutes, PySem.W.mg_of X G a_law_minutes⟩, ⟨F_law_same_pairs, b_law_same_pairs, PySem.W.mg_of X G a_law_same_pairs⟩, ⟨F_law_due, b_law_due, PySem.W.mg_of X G a_law_due⟩, ⟨F_law_good, b_law_good, PySem.W.mg_of X G a_law_good⟩, ⟨F_law, b_law, PySem.W.mg_of X G a_law⟩⟩) T⟩
theorem walk {l : PySem.W.OpenLaw} {q : Program} {loose : List Str} {XP : (Str → Option Value) → Heap → Prop} {YP : World → Heap → Prop} {d : DefRec} {K : Params → PySem.W.Frag} (hn : l.most = some 63) (hdf : d.params.defaults = [])
    (hY : ∀ (w : World) (h : Heap), YP w h → (K w.params).In h)
    (F : ∀ (w : World) (mg : Str → Option Value) (fa : Addr) (h : Heap), (K w.params).In h → h.Ns mainGlobals mg → mg d.name = some (.ref fa) →
      ∃ fd : FuncData, (∀ (s : Shared) (u : Value), BindsTo s fd ⟨[u], []⟩ [("script", u)]) ∧ ∀ base : Heap, (K w.params).In base → base.Ns mainGlobals mg → FnOk l.prog w (K w.params) mg base CX0 4 fa fd ["script"] (sp_law (K w.params))) :
    PySem.W.WalkO q loose XP YP l.row.toRowW d [] (fun f vs => PySem.call f vs) :=
  L2.walk_of (n := 63) (k := 4) (x := "script") (CX := fun _ => CX0) (sp := fun w => sp_law (K w.params)) hn (by decide) hdf ⟨rfl, by decide, by decide⟩ hY F (fun _ _ a ns hl _ hS => ⟨a, ns, rfl, hS, hl, fun _ => rfl⟩) fun _ _ _ _ _ z => z
end My
open PySem PySem.W PyProof.Rows
set_option maxRecDepth 100000 in
set_option maxHeartbeats 0 in
theorem PySem.Challenge.cw_deskround_k31_sums_of_blocks_holds : PySem.Challenge.rw_deskround_k31_sums_of_blocks.Holds := by
  w_on; o_law; k_head; (case hw => w_witness2)
  k_fill
  refine My.walk (l := PySem.Challenge.rw_deskround_k31_sums_of_blocks) rfl rfl (fun w h Y => PySem.W.kIn_of Y) ?F
  case F =>
    intro w mg fa h KX G hmg
    refine' My.all_mk KX G hmg ?a_width ?l_width ?c_width ?k_width ?a_sums ?l_sums ?c_sums ?k_sums ?a_sums_of ?l_sums_of ?c_sums_of ?k_sums_of ?a_added ?l_added ?c_added ?k_added ?a_law_cell ?l_law_cell ?c_law_cell ?k_law_cell ?a_law_entries ?l_law_entries ?c_law_entries ?k_law_entries ?a_law_whole ?l_law_whole ?c_law_whole ?k_law_whole ?a_law_badges ?l_law_badges ?c_law_badges ?k_law_badges ?a_law_bill ?l_law_bill ?c_law_bill ?k_law_bill ?a_law_wide ?l_law_wide ?c_law_wide ?k_law_wide ?a_law_pattern ?l_law_pattern ?c_law_pattern ?k_law_pattern ?a_law_pool ?l_law_pool ?c_law_pool ?k_law_pool ?a_law_minutes ?l_law_minutes ?c_law_minutes ?k_law_minutes ?a_law_same_pairs ?l_law_same_pairs ?c_law_same_pairs ?k_law_same_pairs ?a_law_due ?l_law_due ?c_law_due ?k_law_due ?a_law_good ?l_law_good ?c_law_good ?k_law_good ?a_law ?l_law ?c_law ?k_law ?z_bool ?z_dict ?z_int ?z_isinstance ?z_len ?z_list ?z_range ?z_reversed ?z_set ?z_tuple
    (case a_width => k_is); (case l_width => k_is); (case c_width => k_is); (case k_width => k_is)
    (case a_sums => k_is); (case l_sums => k_is); (case c_sums => k_is); (case k_sums => k_is)
    (case a_sums_of => k_is); (case l_sums_of => k_is); (case c_sums_of => k_is); (case k_sums_of => k_is)
    (case a_added => k_is); (case l_added => k_is); (case c_added => k_is); (case k_added => k_is)
    (case a_law_cell => k_is); (case l_law_cell => k_is); (case c_law_cell => k_is); (case k_law_cell => k_is)
    (case a_law_entries => k_is); (case l_law_entries => k_is); (case c_law_entries => k_is); (case k_law_entries => k_is)
    (case a_law_whole => k_is); (case l_law_whole => k_is); (case c_law_whole => k_is); (case k_law_whole => k_is)
    (case a_law_badges => k_is); (case l_law_badges => k_is); (case c_law_badges => k_is); (case k_law_badges => k_is)
    (case a_law_bill => k_is); (case l_law_bill => k_is); (case c_law_bill => k_is); (case k_law_bill => k_is)
    (case a_law_wide => k_is); (case l_law_wide => k_is); (case c_law_wide => k_is); (case k_law_wide => k_is)
    (case a_law_pattern => k_is); (case l_law_pattern => k_is); (case c_law_pattern => k_is); (case k_law_pattern => k_is)
    (case a_law_pool => k_is); (case l_law_pool => k_is); (case c_law_pool => k_is); (case k_law_pool => k_is)
    (case a_law_minutes => k_is); (case l_law_minutes => k_is); (case c_law_minutes => k_is); (case k_law_minutes => k_is)
    (case a_law_same_pairs => k_is); (case l_law_same_pairs => k_is); (case c_law_same_pairs => k_is); (case k_law_same_pairs => k_is)
    (case a_law_due => k_is); (case l_law_due => k_is); (case c_law_due => k_is); (case k_law_due => k_is)
    (case a_law_good => k_is); (case l_law_good => k_is); (case c_law_good => k_is); (case k_law_good => k_is)
    (case a_law => k_is); (case l_law => k_is); (case c_law => k_is); (case k_law => k_is)
    (case z_bool => k_is)
    (case z_dict => k_is)
    (case z_int => k_is)
    (case z_isinstance => k_is)
    (case z_len => k_is)
    (case z_list => k_is)
    (case z_range => k_is)
    (case z_reversed => k_is)
    (case z_set => k_is)
    (case z_tuple => k_is)
