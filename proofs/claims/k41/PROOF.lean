import PyProof.Rows.All
import Wide.All
import OpenK.AllK
import Wide.FinOn
import Lean
import PyProof.EqAt
import PyProof.EqKinds
import PyProof.TupleCall
import PyProof.NeKinds
import PyProof.DictWalks
import PyProof.DictItems
import PyProof.CollectWalk
import KE.KDictList
import PyProof.AutoSeq1
import PyProof.Rows.Range3
import KE.KUnpack
import PyProof.MeetsSeq2
import PyProof.ZipIter
import KE.KRevSl
import PyProof.MeetsSeq
import PyProof.EnumMake
import PyProof.EnumFor
import PyProof.EnumStmt
import PyProof.MinMaxWalk
import PyProof.WalkInts
import PyProof.SumAny
import KE.KRevIter
import PyProof.Rows.FactsT2
import PyProof.IsiH_list
import PyProof.AttrMiss
import KE.KDictOf
import PyProof.ListRange
import KE.KDictLaws
import KE.KSortTup
import KE.KItemsList
import PyProof.ExcArgs
import KE.KSortKey
import PySem.Challenge.RW_deskround_k41_what_stops
set_option bootstrap.genMatcherCode false
set_option genSizeOf false
noncomputable section
open List renaming length_map -> CO, getElem?_eq_getElem -> CP, getElem?_eq_some_iff -> CS, getD_eq_getElem?_getD -> CT, getElem?_map -> CU, mem_of_getElem? -> CW, range -> CY, mem_singleton -> CZ, size_toArray -> C2, length_append -> C3, mem_cons -> C5, mem_append -> C7, mem_cons_of_mem -> C8, mem_map -> C9, length_singleton -> Da, mem_append_right -> Dc, mem_iff_getElem -> Dd, map_append -> Df, mem_cons_self -> Dg, mem_append_left -> Dh, map_cons -> Dm, getElem_mem -> Do, map_map -> Dq, filter_eq_self -> Dr, mem_range -> Ds, length_eq_zero_iff -> Dt, length_cons -> Dv, mem_filter -> Dw, take_length -> Dy, getElem?_eq_none -> Dz, replicate -> DB, lookup_cons -> DC, length_filter_le -> DD, pairwise_iff_getElem -> DE, all_eq_true -> DF, length_range -> DH, not_mem_nil -> DI, take_of_length_le -> DK, range' -> DL, pairwise_singleton -> DN, filter_cons_of_neg -> DO, filter_append -> DQ, length_take -> DU, ext_getElem -> DV, map_congr_left -> DX, toArray -> DZ, nodup_cons -> Ea, drop_of_length_le -> Ec, nodup_iff_pairwise_ne -> Ed, filterMap_cons -> Ee, replicate_succ -> Ef, append_nil -> Eg, drop_eq_getElem_cons -> Eh, length_drop -> Ei, getElem_map -> El, filter_cons_of_pos -> Em, getElem?_append_right -> Ep, length_eraseIdx_of_lt -> Er, findIdx?_eq_some_iff_getElem -> Es, getElem?_range -> Ew, getElem_range -> Ex, foldl_cons -> EB, find?_cons -> EC, range_succ -> EE, count_cons -> EF, mem_iff_getElem? -> EG, flatten_cons -> EH, take_add_one -> EI, pairwise_map -> EJ, nodup_nil -> EK, getElem_inj -> EL, any_eq_true -> EN, filter_cons -> ER, getElem?_append_left -> ES, any_cons -> ET, map_nil -> EW, append_assoc -> EX, getElem?_set_self -> EZ, findIdx_lt_length_of_exists -> E1, take_append_drop -> E3, getElem?_set_ne -> E5, length_dropLast -> E6, pairwise_append -> E7, filter_map -> E8, isPerm_iff -> E9, dropLast_concat_getLast -> Fb, take_zero -> Ff, mem_filterMap -> Fg, count_pos_iff -> Fh, extract_eq_take_drop -> Fj, findIdx?_eq_none_iff -> Fk, nodup_append -> Fl, ext_getElem? -> Fm, getElem_take -> Fo, of_mem_zip -> Ft, length_set -> Fu, filter_nil -> Fv, filter -> Fw, foldl -> Fy
open Option renaming bind_eq_some_iff -> CQ, map_eq_some_iff -> CV, isSome_iff_exists -> DY, map_some -> ED
open Nat renaming le_refl -> C0, ne_of_lt -> C6, le_trans -> Di, lt_of_lt_of_le -> Dj, zero_le -> Dk, lt_succ_of_lt -> DJ, sub_succ_lt_self -> DR, le_of_lt -> DS, le_of_not_lt -> DT, lt_irrefl -> Eb, lt_succ_self -> Ek, le_antisymm -> En, min_eq_left -> EA, min_eq_right -> EM, le_add_right -> EO, lt_of_le_of_lt -> EU, ne_of_gt -> EV, le_succ -> E4, add_le_add_left -> Fc, sub_self -> Fe, mod_lt -> Fp, zero_add -> Fs, not_lt -> Fz
open Array renaming length_toList -> C1, getElem?_eq_getElem -> Dp, size_map -> DG, getElem?_toList -> DM, getElem_toList -> Eu, getElem?_eq_none -> Ey, toList_push -> Fn, getD -> Fq
open Bool renaming false_ne_true -> C4, and_eq_true -> Dx, false_eq_true -> DA, not_eq_true -> Ej, eq_iff_iff -> Ez, not_eq_true' -> EY, false_and -> Fx
open Int renaming toNat_natCast -> Du, emod_lt_of_pos -> Eo, emod_nonneg -> Et, fdiv_eq_ediv_of_nonneg -> Fi
set_option Elab.async false
set_option linter.all false
set_option maxRecDepth 100000
namespace L2
open PySem PySem.Spec PyProof.Rows
abbrev bT := Sum Int Str
def lJ : bT -> Value -> Bool
 | .inl k, v => Value.isInt k v
 | .inr x, v => Value.isStrOf x v
def Bp (w : World) : bT -> Int
 | .inl k => hashInt k
 | .inr x => hashStr w x
theorem bj : ∀ {k : bT} {v : Value}, lJ k v = true -> (∃ i t, k = Sum.inl i /\ v = Value.int i t) \/ (∃ x t, k = Sum.inr x /\ v = Value.str x t)
 | .inl i, v, h => by
  obtain ⟨t, e⟩ := Value.isInt_shape (k := i) (v := v) h
  exact .inl ⟨i, t, rfl, e⟩
 | .inr x, v, h => by
  obtain ⟨t, e⟩ := Value.isStrOf_shape (x := x) (v := v) h
  exact .inr ⟨x, t, rfl, e⟩
theorem sj (i : Int) (t : Tok) : lJ (.inl i) (.int i t) = true := by simp [lJ, Value.isInt]
theorem sm (x : Str) (t : Tok) : lJ (.inr x) (.str x t) = true := by simp [lJ, Value.isStrOf]
theorem yJ (a b : Int) : decide ((Sum.inl a : bT) = Sum.inl b) = (a == b) := by
 by_cases e : a = b
 ·subst e; simp
 ·have h : ¬ (Sum.inl a : bT) = Sum.inl b := fun q => e (Sum.inl.inj q)
  rw [decide_eq_false h]
  exact (beq_eq_false_iff_ne.mpr e).symm
theorem yK (a b : Str) : decide ((Sum.inr a : bT) = Sum.inr b) = decide (a = b) := by
 by_cases e : a = b
 ·subst e; simp
 ·have h : ¬ (Sum.inr a : bT) = Sum.inr b := fun q => e (Sum.inr.inj q)
  rw [decide_eq_false h, decide_eq_false e]
theorem yL (a : Int) (b : Str) : decide ((Sum.inl a : bT) = Sum.inr b) = false := decide_eq_false (fun q => nomatch q)
theorem yM (a : Str) (b : Int) : decide ((Sum.inr a : bT) = Sum.inl b) = false := decide_eq_false (fun q => nomatch q)
def bz (prog : Program) (w : World) : PySem.KeyKind prog w bT where
 is := lJ
 hash := Bp w
 inj := fun v a b ha hb => by
  rcases bj ha with ⟨i, t, rfl, rfl⟩ | ⟨x, t, rfl, rfl⟩
  ·rcases bj hb with ⟨j, u, rfl, e⟩ | ⟨y, u, rfl, e⟩
   ·injection e with e1 _; rw [e1]
   ·exact nomatch e
  ·rcases bj hb with ⟨j, u, rfl, e⟩ | ⟨y, u, rfl, e⟩
   ·exact nomatch e
   ·injection e with e1 _; rw [e1]
 byValue := fun k v h => by
  rcases bj h with ⟨i, t, rfl, rfl⟩ | ⟨x, t, rfl, rfl⟩ <;> rfl
 pyHash := fun hv h => by
  rcases bj hv with ⟨i, t, rfl, rfl⟩ | ⟨x, t, rfl, rfl⟩
  ·exact wpAny_pyHash_int h
  ·exact wpAny_pyHash_str h
 eqBool := fun hu hv h => by
  rcases bj hu with ⟨i, t, rfl, rfl⟩ | ⟨x, t, rfl, rfl⟩
  ·rcases bj hv with ⟨j, u, rfl, rfl⟩ | ⟨y, u, rfl, rfl⟩
   ·rw [yJ] at h; exact wpAny_eqBool_int h
   ·rw [yL] at h; exact SeqAt.EqAt.int_str i t y u _ _ _ _ h
  ·rcases bj hv with ⟨j, u, rfl, rfl⟩ | ⟨y, u, rfl, rfl⟩
   ·rw [yM] at h; exact SeqAt.EqAt.str_int x t j u _ _ _ _ h
   ·rw [yK] at h; exact wpAny_eqBool_str h
 «strs» := fun k x t v h => by
  rcases bj h with ⟨i, u, rfl, e⟩ | ⟨y, u, rfl, e⟩
  ·exact nomatch e
  ·injection e with e1 _
   subst e1
   cases v <;> rfl
theorem nX (prog : Program) (w : World) (i : Int) (t : Tok) : (bz prog w).is (.inl i) (.int i t) = true := sj i t
theorem nY (prog : Program) (w : World) (x : Str) (t : Tok) : (bz prog w).is (.inr x) (.str x t) = true := sm x t
inductive V where
 | non | bl (b : Bool) | int (i : Int) | str (x : Str) | byt (b : Array UInt8) | flt (b : UInt64) | ref (a : Addr) | ty (n : String)
 deriving DecidableEq
def RelV : V -> Value -> Prop
 | .non, u => u = Value.none
 | .bl b, u => u = Value.bool b
 | .int i, u => ∃ t, u = Value.int i t
 | .str x, u => ∃ t, u = Value.str x t
 | .byt b, u => ∃ t, u = Value.bytes b t
 | .flt b, u => ∃ t, u = Value.float b t
 | .ref a, u => u = Value.ref a
 | .ty n, u => u = Value.type n
abbrev Vals : List V -> List Value -> Prop := Paired RelV
theorem Vals.length {xs : List V} {us : List Value} (r : Vals xs us) : xs.length = us.length := Paired.length r
theorem Vals.get : ∀ {xs : List V} {us : List Value} {i : Nat} {x : V}, Vals xs us -> xs[i]? = some x -> ∃ u, us[i]? = some u /\ RelV x u := by
 intro xs us i x h
 induction h generalizing i with
 | nil => intro e; simp at e
 | cons r t ih =>
  intro e
  cases i with
  | zero => cases e; exact ⟨_, rfl, r⟩
  | succ i => exact ih e
theorem Vals.set {x : V} {u : Value} (r : RelV x u) : ∀ {xs : List V} {us : List Value} (i : Nat), Vals xs us -> Vals (xs.set i x) (us.set i u) := by
 intro xs us i h
 induction h generalizing i with
 | nil => exact .nil
 | cons q t ih =>
  cases i with
  | zero => exact .cons r t
  | succ i => exact .cons q (ih i)
theorem Vals.append : ∀ {xs ys : List V} {us ws : List Value}, Vals xs us -> Vals ys ws -> Vals (xs ++ ys) (us ++ ws) := by
 intro xs ys us ws h s
 induction h with
 | nil => exact s
 | cons r t ih => exact .cons r ih
theorem Vals.take : ∀ {xs : List V} {us : List Value} (n : Nat), Vals xs us -> Vals (xs.take n) (us.take n) := by
 intro xs us n h
 induction h generalizing n with
 | nil => cases n <;> exact .nil
 | cons r t ih =>
  cases n with
  | zero => exact .nil
  | succ n => exact .cons r (ih n)
theorem Vals.drop : ∀ {xs : List V} {us : List Value} (n : Nat), Vals xs us -> Vals (xs.drop n) (us.drop n) := by
 intro xs us n h
 induction h generalizing n with
 | nil => cases n <;> exact .nil
 | cons r t ih =>
  cases n with
  | zero => exact .cons r t
  | succ n => exact ih n
def RelO : Option V -> Option Value -> Prop
 | some v, some u => RelV v u
 | none, none => True
 | _, _ => False
def KV {κ : Type} : List (κ × V) -> List (κ × Value) -> Prop := Paired fun (p : κ × V) (q : κ × Value) => p.1 = q.1 /\ RelV p.2 q.2
def kV : bT -> V
 | .inl i => .int i
 | .inr x => .str x
inductive HO where
 | lst (xs : List V)
 | tup (xs : List V)
 | dK (kvs : List (bT × V)) | dT (kvs : List (List bT × V))
 | set (S : Int -> Bool) (n : Nat)
 | ins (C dx : Addr) (fs : List (Str × V))
 | own (x : Addr)
 | xd (fs : List (Str × V))
 | met (f x : Addr)
 | rng (lo hi : Int)
 | frz (o : Obj) (u : HO)
 | tbl (ps : Array Value)
 | ext (φ : Heap -> Prop)
abbrev Hp := Addr -> Option HO
def aI (H : Hp) (a : Addr) (o : HO) : Hp := fun b => if b = a then some o else H b
theorem ag {H : Hp} {a : Addr} {o : HO} : aI H a o a = some o := by unfold aI; rw [if_pos rfl]
theorem ar {H : Hp} {a b : Addr} {o : HO} (h : b ≠ a) : aI H a o b = H b := by unfold aI; rw [if_neg h]
theorem Aj {H : Hp} {a b : Addr} {o u : HO} (h : H a = some o) (h' : H b = some u) (d : o ≠ u) : a ≠ b := by
 intro e; subst e; rw [h] at h'; exact d (Option.some.inj h')
theorem ax {H : Hp} {a b : Addr} {o : HO} (h : H a = some o) (h' : H b = none) : a ≠ b := by
 intro e; subst e; rw [h] at h'; cases h'
section
variable (P : Program) (w : World)
def ObjOk (H : Hp) (h : Heap) (a : Addr) : HO -> Prop
 | .lst xs => xs.length <= sizeLine /\ ∃ (its : List Value) (n : Nat), Vals xs its /\ h.get? a = some { cls := .type "list", data := .seq its.toArray n }
 | .tup xs => xs.length <= sizeLine /\ ∃ its : List Value, Vals xs its /\ IsTup h a its.toArray
 | .dK kvs => kvs.length <= sizeLine /\ (a == sysModules) = false /\ ∃ vs, KV kvs vs /\ h.DictOf (bz P w) a vs
 | .dT kvs => kvs.length <= sizeLine /\ (a == sysModules) = false /\ ∃ xs : List (List bT × Addr × Value),
  Paired (fun (p : List bT × V) (q : List bT × Addr × Value) => p.1 = q.1 /\ H q.2.1 = some (.tup (p.1.map kV)) /\ RelV p.2 q.2.2) kvs xs /\
  ∃ o es ep, h.get? a = some o /\ o.ExactDict /\ o.data = .dict es ep /\ es.toList = xs.map (entryOfKey (tupleKind (bz P w))) /\ (xs.map (·.1)).Nodup
 | .set S n => h.SetOf (intKind P w) a S n
 | .ins C dx fs => H dx = some (.own a) /\ fs.length <= 1000 /\ dx ≠ a /\ h.get? a = some (PySem.W.instObj C dx) /\
  ∃ mA, h.Ns1 dx mA /\ (∀ f, RelO (fs.lookup f) (mA f)) /\ PySem.Within mA (fs.map (·.1))
 | .own _ => ∃ o, h.get? a = some o
 | .xd fs => ∃ mA, h.Ns1 a mA /\ ∀ f, RelO (fs.lookup f) (mA f)
 | .rng lo hi => ∃ t u v, h.get? a = some { cls := .type "range", data := .fields #[.int lo t, .int hi u, .int 1 v] }
 | .frz o u => h.get? a = some o /\ ObjOk H h a u
 | .tbl ps => h.get? a = some { cls := .none, data := .fields ps }
 | .met f x => h.get? a = some (PySem.W.methodObj (.ref f) (.ref x))
 | .ext φ => φ h /\ (∃ o, h.get? a = some o) /\ ∀ h1 h2 : Heap, φ h1 -> (∀ o, h1.get? a = some o -> h2.get? a = some o) -> φ h2
def HOk (H : Hp) (h : Heap) : Prop := ∀ a o, H a = some o -> ObjOk P w H h a o
end
section
variable {P : Program} {w : World} {H H' : Hp} {h h' : Heap} {a : Addr} {o : HO}
theorem ObjOk.lt (x : ObjOk P w H h a o) : a < h.objs.size := by
 cases o with
 | lst xs => obtain ⟨_, _, _, _, e⟩ := x; exact Heap.lt_size e
 | tup xs => obtain ⟨_, _, _, p⟩ := x; exact p.lt
 | dK kvs => obtain ⟨_, _, _, _, o, _, _, e, _⟩ := x; exact Heap.lt_size e
 | dT kvs => obtain ⟨_, _, _, _, o, _, _, e, _⟩ := x; exact Heap.lt_size e
 | set S n => obtain ⟨o, _, _, _, e, _⟩ := x; exact Heap.lt_size e
 | ins C dx fs => obtain ⟨_, _, _, e, _⟩ := x; exact Heap.lt_size e
 | own y => obtain ⟨_, e⟩ := x; exact Heap.lt_size e
 | xd fs => obtain ⟨_, ⟨_, _, _, e, _⟩, _⟩ := x; exact Heap.lt_size e
 | rng lo hi => obtain ⟨_, _, _, e⟩ := x; exact Heap.lt_size e
 | frz ob u => obtain ⟨e, _⟩ := x; exact Heap.lt_size e
 | tbl ps => exact Heap.lt_size (show h.get? a = some _ from x)
 | met f y => exact Heap.lt_size (show h.get? a = some _ from x)
 | ext φ => obtain ⟨_, ⟨_, e⟩, _⟩ := x; exact Heap.lt_size e
theorem Paired.mapP {α β : Type} {F G : α -> β -> Prop} : ∀ {l₁ : List α} {l₂ : List β}, Paired F l₁ l₂ -> (∀ a b, F a b -> G a b) -> Paired G l₁ l₂ := by
 intro l₁ l₂ h f
 induction h with
 | nil => exact .nil
 | cons r t ih => exact .cons (f _ _ r) ih
theorem ObjOk.stay (x : ObjOk P w H h a o) (k : ∀ b u, (b = a \/ H b = some (.own a)) -> h.get? b = some u -> h'.get? b = some u)
  (ho : ∀ b, H b = some (.own a) -> H' b = some (.own a)) (ht : ∀ b xs, H b = some (.tup xs) -> H' b = some (.tup xs)) : ObjOk P w H' h' a o := by
 induction o with
 | lst xs => obtain ⟨z, its, n, r, e⟩ := x; exact ⟨z, its, n, r, k _ _ (.inl rfl) e⟩
 | tup xs => obtain ⟨z, its, r, ob, e, c⟩ := x; exact ⟨z, its, r, ob, k _ _ (.inl rfl) e, c⟩
 | dK kvs => obtain ⟨z, y, vs, r, ob, es, ep, e, c⟩ := x; exact ⟨z, y, vs, r, ob, es, ep, k _ _ (.inl rfl) e, c⟩
 | dT kvs =>
  obtain ⟨z, y, xs, r, ob, es, ep, e, c⟩ := x
  exact ⟨z, y, xs, Paired.mapP r fun p q z => ⟨z.1, ht _ _ z.2.1, z.2.2⟩, ob, es, ep, k _ _ (.inl rfl) e, c⟩
 | set S n => obtain ⟨ob, es, ep, t, e, c⟩ := x; exact ⟨ob, es, ep, t, k _ _ (.inl rfl) e, c⟩
 | ins C dx fs =>
  obtain ⟨d, z, ne, e, mA, ⟨od, es, ep, e2, c⟩, r⟩ := x
  exact ⟨ho _ d, z, ne, k _ _ (.inl rfl) e, mA, ⟨od, es, ep, k _ _ (.inr d) e2, c⟩, r⟩
 | own y => obtain ⟨ob, e⟩ := x; exact ⟨ob, k _ _ (.inl rfl) e⟩
 | xd fs => obtain ⟨mA, ⟨od, es, ep, e, c⟩, r⟩ := x; exact ⟨mA, ⟨od, es, ep, k _ _ (.inl rfl) e, c⟩, r⟩
 | rng lo hi => obtain ⟨t, u, v, e⟩ := x; exact ⟨t, u, v, k _ _ (.inl rfl) e⟩
 | frz ob u ih => obtain ⟨e, q⟩ := x; exact ⟨k _ _ (.inl rfl) e, ih q⟩
 | tbl ps =>
  have e : h.get? a = some { cls := .none, data := .fields ps } := x
  show h'.get? a = some { cls := .none, data := .fields ps }
  exact k a _ (.inl rfl) e
 | met f y =>
  have e : h.get? a = some (PySem.W.methodObj (.ref f) (.ref y)) := x
  show h'.get? a = some (PySem.W.methodObj (.ref f) (.ref y))
  exact k a _ (.inl rfl) e
 | ext φ => obtain ⟨p, ⟨o, e⟩, st⟩ := x; exact ⟨st _ _ p fun o q => k _ _ (.inl rfl) q, ⟨o, k _ _ (.inl rfl) e⟩, st⟩
theorem HOk.lt (x : HOk P w H h) (e : H a = some o) : a < h.objs.size := (x a o e).lt
theorem HOk.fresh (x : HOk P w H h) (e : h.objs.size <= a) : H a = none := by
 cases q : H a with
 | none => rfl
 | some u => exact absurd (Dj (x.lt q) e) (Eb _)
theorem HOk.kept (x : HOk P w H h) (k : ∀ b u, h.get? b = some u -> h'.get? b = some u) : HOk P w H h' := fun a o e =>
 (x a o e).stay (fun b u _ q => k b u q) (fun _ q => q) fun _ _ q => q
theorem HOk.laid (x : HOk P w H h) (k : ∀ b u, h.get? b = some u -> h'.get? b = some u) (hp : h.objs.size <= a) (new : ObjOk P w (aI H a o) h' a o) : HOk P w (aI H a o) h' := fun b u e => by
 have hn := x.fresh hp
 by_cases hb : b = a
 ·subst hb; rw [ag] at e; cases e; exact new
 ·rw [ar hb] at e
  exact (x b u e).stay (fun c v _ q => k c v q) (fun c q => by rw [ar (ax q hn)]; exact q) fun c xs q => by rw [ar (ax q hn)]; exact q
end
def Rd (H : Hp) (a : Addr) (u : HO) : Prop := H a = some u \/ ∃ o, H a = some (.frz o u)
theorem Rd.ok {P : Program} {w : World} {H : Hp} {h : Heap} {a : Addr} {u : HO} (r : Rd H a u) (x : HOk P w H h) : ObjOk P w H h a u := by
 rcases r with r | ⟨o, r⟩
 ·exact x a u r
 ·obtain ⟨_, q⟩ := x a _ r
  exact q
def Ac : Option HO -> Prop
 | some (.lst _) => True
 | some (.dK _) => True
 | some (.dT _) => True
 | some (.set _ _) => True
 | some (.ins _ _ _) => True
 | some (.ext _) => True
 | _ => False
section
variable {P : Program} {w : World} {H : Hp} {h h' : Heap} {x e : Addr} {o' : HO}
theorem HOk.write (ok : HOk P w H h) (mu : Ac (H x)) (he : e = x \/ H e = some (.own x)) (k : ∀ b u, b ≠ e -> h.get? b = some u -> h'.get? b = some u) (heo : ∃ u, h'.get? e = some u)
  (new : ObjOk P w (aI H x o') h' x o') : HOk P w (aI H x o') h' := fun b u q => by
 have nown : ∀ c y, H c = some (.own y) -> c ≠ x := fun c y r z => by subst z; rw [r] at mu; exact mu
 have ntup : ∀ c xs, H c = some (.tup xs) -> c ≠ x := fun c xs r z => by subst z; rw [r] at mu; exact mu
 by_cases hb : b = x
 ·subst hb; rw [ag] at q; cases q; exact new
 ·rw [ar hb] at q
  by_cases hbe : b = e
  ·have q' : H b = some (.own x) := by
    rcases he with z | z
    ·exact absurd (hbe.trans z) hb
    ·rw [hbe]; exact z
   rw [q] at q'; cases q'
   obtain ⟨v, hv⟩ := heo
   exact ⟨v, by rw [hbe]; exact hv⟩
  ·refine (ok b u q).stay (fun c v hc r => k c v ?_ r) (fun c r => by rw [ar (nown c b r)]; exact r) fun c xs r => by rw [ar (ntup c xs r)]; exact r
   rcases hc with rfl | hc
   ·exact hbe
   ·rintro rfl
    rcases he with z | z
    ·exact nown c b hc z
    ·rw [hc] at z; cases z; exact hb rfl
end
structure Un (fs ex : List Addr) (H H' : Hp) (h h' : Heap) : Prop where
 keep : ∀ b o, h.get? b = some o -> H b = none -> b ∉ fs -> b ∉ ex -> h'.get? b = some o
 slot : ∀ b o, h.get? b = some o -> H b = none -> b ∈ fs -> b ∉ ex -> ∃ sl, h'.get? b = some { o with slots := sl }
 free : ∀ b o, h.get? b = some o -> H b = none -> b ∉ ex -> H' b = none
 there : ∀ b o, h.get? b = some o -> b ∉ ex -> ∃ o', h'.get? b = some o'
 tups : ∀ b xs, H b = some (.tup xs) -> H' b = some (.tup xs)
 frzs : ∀ b o u, H b = some (.frz o u) -> H' b = some (.frz o u)
 tbls : ∀ b ps, H b = some (.tbl ps) -> ∃ more, H' b = some (.tbl (ps ++ more))
section
variable {fs fs' ex ex' : List Addr} {H H1 H2 : Hp} {h h1 h2 h' : Heap} {a x e : Addr} {o : HO}
theorem Un.any (u : Un fs ex H H1 h h1) {b : Addr} {ob : Obj} (q : h.get? b = some ob) (n : H b = none) (hx : b ∉ ex) : ∃ sl, h1.get? b = some { ob with slots := sl } := by
 by_cases hb : b ∈ fs
 ·exact u.slot b ob q n hb hx
 ·exact ⟨ob.slots, u.keep b ob q n hb hx⟩
theorem Un.trans (a : Un fs ex H H1 h h1) (b : Un fs ex H1 H2 h1 h2) : Un fs ex H H2 h h2 where
 keep := fun c ob q n hc hx => b.keep c ob (a.keep c ob q n hc hx) (a.free c ob q n hx) hc hx
 slot := fun c ob q n hc hx => by
  obtain ⟨sl, e1⟩ := a.slot c ob q n hc hx
  obtain ⟨sl', e2⟩ := b.slot c _ e1 (a.free c ob q n hx) hc hx
  exact ⟨sl', e2⟩
 free := fun c ob q n hx => by
  obtain ⟨o', e1⟩ := a.there c ob q hx
  exact b.free c o' e1 (a.free c ob q n hx) hx
 there := fun c ob q hx => by
  obtain ⟨o', e1⟩ := a.there c ob q hx
  exact b.there c o' e1 hx
 tups := fun c xs q => b.tups c xs (a.tups c xs q)
 frzs := fun c ob xs q => b.frzs c ob xs (a.frzs c ob xs q)
 tbls := fun c ps q => by
  obtain ⟨m1, e1⟩ := a.tbls c ps q
  obtain ⟨m2, e2⟩ := b.tbls c _ e1
  exact ⟨m1 ++ m2, by rw [e2, Array.append_assoc]⟩
theorem Un.kept (k : ∀ b u, h.get? b = some u -> h'.get? b = some u) : Un fs ex H H h h' :=
 ⟨fun b ob q _ _ _ => k b ob q, fun b ob q _ _ _ => ⟨ob.slots, k b ob q⟩, fun _ _ _ n _ => n, fun b ob q _ => ⟨ob, k b ob q⟩, fun _ _ q => q, fun _ _ _ q => q, fun _ ps q => ⟨#[], by rw [q]; simp⟩⟩
theorem Un.refl : Un fs ex H H h h := Un.kept fun _ _ q => q
theorem Un.laid (k : ∀ b u, h.get? b = some u -> h'.get? b = some u) (hp : h.objs.size <= a) (hn : H a = none) : Un fs ex H (aI H a o) h h' where
 keep := fun b u q _ _ _ => k b u q
 slot := fun b u q _ _ _ => ⟨u.slots, k b u q⟩
 free := fun b u q n _ => by rw [ar (C6 (Dj (Heap.lt_size q) hp))]; exact n
 there := fun b u q _ => ⟨u, k b u q⟩
 tups := fun b xs q => by rw [ar (ax q hn)]; exact q
 frzs := fun b u xs q => by rw [ar (ax q hn)]; exact q
 tbls := fun b ps q => ⟨#[], by rw [ar (ax q hn), q]; simp⟩
theorem Un.write (mu : Ac (H x)) (he : e = x \/ H e = some (.own x)) (k : ∀ b u, b ≠ e -> h.get? b = some u -> h'.get? b = some u) (heo : ∃ u, h'.get? e = some u) : Un fs ex H (aI H x o) h h' := by
 have hx : ∀ b, H b = none -> b ≠ x := fun b n z => by subst z; rw [n] at mu; exact mu
 have hb : ∀ b, H b = none -> b ≠ e := fun b n z => by
  subst z
  rcases he with r | r
  ·exact hx b n r
  ·rw [n] at r; cases r
 have hm : ∀ b u, H b = some u -> ¬ Ac (some u) -> b ≠ x := fun b u q nm z => by subst z; rw [q] at mu; exact nm mu
 refine ⟨fun b u q n _ _ => k b u (hb b n) q, fun b u q n _ _ => ⟨u.slots, k b u (hb b n) q⟩, fun b u q n _ => by rw [ar (hx b n)]; exact n, fun b u q _ => ?_,
  fun b xs q => by rw [ar (hm b _ q fun z => z)]; exact q, fun b u xs q => by rw [ar (hm b _ q fun z => z)]; exact q, fun b ps q => ⟨#[], by rw [ar (hm b _ q fun z => z), q]; simp⟩⟩
 by_cases hbe : b = e
 ·subst hbe; exact heo
 ·exact ⟨u, k b u hbe q⟩
end
def A6 (h : Heap) (H : Hp) : List Addr := (CY h.objs.size).filter fun a => (H a).isSome
def mM (h : Heap) (H : Hp) : Heap := PySem.W.hideAll h (A6 h H)
theorem sv (h : Heap) (H : Hp) : (mM h H).objs.size = h.objs.size := PySem.W.hideAll_size _ _
theorem uw {h : Heap} {H : Hp} {b : Addr} {o : Obj} (e : h.get? b = some o) (n : H b = none) : (mM h H).get? b = some o :=
 PySem.W.hideAll_get _ e fun hm => by
  have q : (H b).isSome = true := (Dw.mp hm).2
  rw [n] at q; simp at q
theorem wJ {h : Heap} {H : Hp} {b : Addr} {o : Obj} (e : (mM h H).get? b = some o) : h.get? b = some o /\ H b = none := by
 have e' : h.get? b = some o := PySem.W.of_hideAll (A6 h H) e
 refine ⟨e', ?_⟩
 cases q : H b with
 | none => rfl
 | some x =>
  have hm : b ∈ A6 h H := Dw.mpr ⟨Ds.mpr (Heap.lt_size e'), by simp [q]⟩
  have z : (mM h H).get? b = none := PySem.W.hideAll_none (A6 h H) hm
  rw [z] at e; cases e
def wK (g h : Heap) (L : Addr) : List (Addr × Obj) := (CY h.objs.size).filterMap fun a => if a = L \/ (g.get? a).isSome = true then none else (h.get? a).map fun o => (a, o)
def cN (g h : Heap) (L d : Addr) : List (Addr × Obj) := (wK g h L).filter fun p => decide (p.1 ≠ d)
structure Mod (K : PySem.W.Frag) (mg : Str -> Option Value) (base : Heap) : Prop where
 kin : K.In base
 glob : base.Ns mainGlobals mg
 blt : ∃ mb, base.Ns builtinsNs mb /\ ∀ x : Str, x ≠ "__name__" -> mb x = bootBuiltins x
 nolimit : base.NoLimit
structure Cx where
 prog : Program
 w : World
 K : PySem.W.Frag
 mg : Str -> Option Value
 base : Heap
 A : Around
 N : List Str
 s₀ : Shared
 H₀ : Hp
 env : Env
 outer : List Env
 stack : List Env
 ex : List Addr
 fn : Str -> Bool
 calm : Bool
 pn : List (Addr × Obj)
 xe : Value -> Shared -> Prop
def gU (l : List Env) : List Addr := l.filterMap (·.frame)
abbrev Cx.fs (X : Cx) : List Addr := gU X.outer
def A7 (sc : Scope) (x : Str) : Prop := sc.names.lookup x = some .local \/ sc.names.lookup x = some .cell \/ sc.names.lookup x = some .free
def Ak (sc : Scope) (x : Str) : Prop := sc.names.lookup x = some .local \/ sc.names.lookup x = some .cell
def Bq (env : Env) (h : Heap) (m : Str -> Option Value) (x : Str) (u : Value) : Prop :=
 (env.kindOf x = some .local /\ m x = some u) \/ ((env.kindOf x = some .cell \/ env.kindOf x = some .free) /\ ∃ c, env.cells.lookup x = some c /\ h.IsCell c (some u))
structure Cx.Ok (X : Cx) : Prop where
 mod : Mod X.K X.mg X.base
 kind : X.env.scope.kind = .function
 glob : X.env.globals = mainGlobals
 blt : X.env.builtins = builtinsNs
 above : X.s₀.heap.objs.size <= X.env.locals
 inj : ∀ x y c, X.env.cells.lookup x = some c -> X.env.cells.lookup y = some c -> x = y
 has : ∀ x, (X.env.kindOf x = some .cell \/ X.env.kindOf x = some .free) -> ∃ c, X.env.cells.lookup x = some c
 cab : ∀ x c, X.fn x = true -> X.env.cells.lookup x = some c -> X.s₀.heap.objs.size <= c
 hd : X.calm = true -> X.A.handled = none
 frames : X.A.frames = some X.stack
 stk : X.stack = X.outer \/ (X.stack = X.env :: X.outer /\ X.env.frame = some X.env.locals)
 exf : ∀ b ∈ X.ex, b ≠ X.env.locals /\ ∀ x c, X.env.cells.lookup x = some c -> c ≠ b
 bs : ∀ b o, X.base.get? b = some o -> X.s₀.heap.get? b = some o /\ X.H₀ b = none
 bsz : X.base.objs.size <= X.s₀.heap.objs.size
 noex : ∀ b o, X.base.get? b = some o -> b ∉ X.ex
 exfs : ∀ b ∈ X.ex, b ∉ X.fs
 funs : X.s₀.heap.FunFrames X.base X.outer
 frf : ∀ b ∈ X.fs, X.H₀ b = none
structure Inv (X : Cx) (pins : List (Addr × Obj)) (σ : List (Option V)) (H : Hp) (s : Shared) : Prop where
 ok : X.Ok
 os : s.os = X.s₀.os
 bare : AllBare s.gens
 base : Un X.fs X.ex X.H₀ H X.s₀.heap s.heap
 loc : ∃ m, s.heap.Ns X.env.locals m /\ ∀ (i : Nat) (x : Str) (v : V), X.N[i]? = some x -> σ[i]? = some (some v) -> A7 X.env.scope x -> ∃ u, RelV v u /\ Bq X.env s.heap m x u
 cell : ∀ x c, X.env.cells.lookup x = some c -> ∃ v, s.heap.IsCell c v
 free : H X.env.locals = none
 freeC : ∀ x c, X.env.cells.lookup x = some c -> H c = none
 pin : ∀ p ∈ X.pn ++ pins, s.heap.get? p.1 = some p.2 /\ H p.1 = none /\ p.1 ≠ X.env.locals /\ p.1 ∉ X.fs /\ ∀ v, p.2.data ≠ .cell v
 hok : HOk X.prog X.w H s.heap
 len : σ.length = X.N.length
section
variable {X : Cx} {pins : List (Addr × Obj)} {σ : List (Option V)} {H H' : Hp} {s : Shared} {h' : Heap}
theorem Cx.Ok.nofr (ok : X.Ok) {b : Addr} {o : Obj} (e : X.base.get? b = some o) : b ∉ X.fs := fun hb => by
 have := (ok.funs.mem hb).1
 rw [e] at this; cases this
theorem Inv.bs (I : Inv X pins σ H s) : ∀ b o, X.base.get? b = some o -> s.heap.get? b = some o /\ H b = none := fun b o e =>
 ⟨I.base.keep b o (I.ok.bs b o e).1 (I.ok.bs b o e).2 (I.ok.nofr e) (I.ok.noex b o e), I.base.free b o (I.ok.bs b o e).1 (I.ok.bs b o e).2 (I.ok.noex b o e)⟩
theorem Inv.bk (I : Inv X pins σ H s) : ∀ b o, X.base.get? b = some o -> s.heap.get? b = some o := fun b o e => (I.bs b o e).1
theorem Inv.mod (I : Inv X pins σ H s) : Mod X.K X.mg X.base := I.ok.mod
theorem Inv.kIn (I : Inv X pins σ H s) : X.K.In s.heap := I.ok.mod.kin.keeps I.bk
theorem Inv.fr (I : Inv X pins σ H s) : ∃ m, Fr X.base X.env.locals s.heap m :=
 let ⟨m, hn, _⟩ := I.loc
 ⟨m, hn, I.bk, Di I.ok.bsz I.ok.above⟩
theorem Inv.lt (I : Inv X pins σ H s) : X.env.locals < s.heap.objs.size := let ⟨_, hn, _⟩ := I.loc; hn.lt
theorem Inv.sz (I : Inv X pins σ H s) : X.s₀.heap.objs.size <= s.heap.objs.size := Di I.ok.above (DS I.lt)
theorem Inv.nofs (I : Inv X pins σ H s) {a : Addr} (h : s.heap.objs.size <= a) : a ∉ X.fs := fun hb => by
 obtain ⟨_, o, ho, _⟩ := I.ok.funs.mem hb
 exact absurd (Dj (Heap.lt_size ho) (Di I.sz h)) (Eb _)
theorem Inv.cne (I : Inv X pins σ H s) : ∀ x c, X.env.cells.lookup x = some c -> c ≠ X.env.locals := fun x c e z => by
 obtain ⟨v, o, ho, hd⟩ := I.cell x c e
 obtain ⟨m, ⟨o', es, ep, ho', hd', _⟩, _⟩ := I.loc
 rw [z, ho'] at ho; cases ho; rw [hd'] at hd; cases hd
theorem Inv.funs (I : Inv X pins σ H s) : s.heap.FunFrames X.base X.outer := by
 have all : ∀ (l : List Env), (∀ b ∈ gU l, b ∈ X.fs) -> X.s₀.heap.FunFrames X.base l -> s.heap.FunFrames X.base l := by
  intro l
  induction l with
  | nil => intro _ _; trivial
  | cons env r ih =>
   intro hs hl
   obtain ⟨hk, ⟨L, o, hf, hn, ho, hd⟩, hr⟩ := hl
   have hL : L ∈ X.fs := hs L (by unfold gU; rw [Ee, hf]; exact Dg)
   obtain ⟨sl, e⟩ := I.base.slot L o ho (I.ok.frf L hL) hL fun z => I.ok.exfs L z hL
   exact ⟨hk, ⟨L, _, hf, hn, e, hd⟩, ih (fun b hb => hs b (by unfold gU; rw [Ee, hf]; exact C8 _ hb)) hr⟩
 exact all X.outer (fun _ hb => hb) I.ok.funs
theorem Inv.stack (I : Inv X pins σ H s) : s.heap.FunFrames X.base X.stack := by
 rcases I.ok.stk with e | ⟨e, hf⟩
 ·rw [e]; exact I.funs
 ·rw [e]
  obtain ⟨m, hn, _⟩ := I.loc
  refine .cons (by rw [I.ok.kind]; decide) hf hn ?_ I.funs
  exact Heap.get?_none_of_le (Di I.ok.bsz I.ok.above)
theorem Inv.stkSub (I : Inv X pins σ H s) : ∀ b ∈ gU X.stack, b ∈ X.env.locals :: X.fs := fun b hb => by
 rcases I.ok.stk with e | ⟨e, hf⟩
 ·rw [e] at hb; exact C8 _ hb
 ·rw [e] at hb
  unfold gU at hb
  rw [Ee, hf] at hb
  exact hb
theorem Inv.stkFree (I : Inv X pins σ H s) : ∀ b ∈ gU X.stack, H b = none := fun b hb => by
 rcases C5.mp (I.stkSub b hb) with e | hb
 ·rw [e]; exact I.free
 ·obtain ⟨_, o, ho, _⟩ := I.ok.funs.mem hb
  exact I.base.free b o ho (I.ok.frf b hb) fun z => I.ok.exfs b z hb
theorem Inv.step {g' : Array GenState} {t' : Nat} {d' : Drawn} {ch : List Addr} (I : Inv X pins σ H s)
  (hch : ∀ b ∈ ch, (b ∈ X.ex \/ X.s₀.heap.objs.size <= b) /\ b ≠ X.env.locals /\ (∀ x c, X.env.cells.lookup x = some c -> c ≠ b) /\ ∀ p ∈ X.pn ++ pins, p.1 ≠ b)
  (keep : ∀ b o, b ≠ X.env.locals -> b ∉ X.fs -> b ∉ ch -> s.heap.get? b = some o -> H b = none -> h'.get? b = some o)
  (slot : ∀ b o, b ≠ X.env.locals -> b ∈ X.fs -> b ∉ ch -> s.heap.get? b = some o -> H b = none -> ∃ sl, h'.get? b = some { o with slots := sl }) (free : ∀ b o, b ∉ ch -> s.heap.get? b = some o -> H b = none -> H' b = none)
  (there : ∀ b o, b ∉ ch -> s.heap.get? b = some o -> ∃ o', h'.get? b = some o')
  (tups : ∀ b xs, H b = some (.tup xs) -> H' b = some (.tup xs)) (frzs : ∀ b o u, H b = some (.frz o u) -> H' b = some (.frz o u)) (tbls : ∀ b ps, H b = some (.tbl ps) -> ∃ more, H' b = some (.tbl (ps ++ more)))
  (ns : ∀ m, s.heap.Ns X.env.locals m -> h'.Ns X.env.locals m) (hok : HOk X.prog X.w H' h') (hg : AllBare g') :
  Inv X pins σ H' { s with heap := h', gens := g', drawn := d', toks := t' } := by
 have neL : ∀ b o, X.s₀.heap.get? b = some o -> b ≠ X.env.locals := fun b o e => C6 (Dj (Heap.lt_size e) I.ok.above)
 have neC : ∀ b o, X.s₀.heap.get? b = some o -> b ∉ X.ex -> b ∉ ch := fun b o e hx hb => by
  rcases (hch b hb).1 with z | z
  ·exact hx z
  ·exact absurd (Dj (Heap.lt_size e) z) (Eb _)
 have cellK : ∀ x c, X.env.cells.lookup x = some c -> ∀ v, s.heap.IsCell c v -> h'.IsCell c v := fun x c e v ⟨o, ho, hd⟩ => by
  have nch : c ∉ ch := fun z => (hch c z).2.2.1 x c e rfl
  by_cases hc : c ∈ X.fs
  ·obtain ⟨sl, q⟩ := slot c o (I.cne x c e) hc nch ho (I.freeC x c e)
   exact ⟨_, q, hd⟩
  ·exact ⟨o, keep c o (I.cne x c e) hc nch ho (I.freeC x c e), hd⟩
 refine ⟨I.ok, I.os, hg, ⟨fun b o e n hb hx => ?_, fun b o e n hb hx => ?_, fun b o e n hx => ?_, fun b o e hx => ?_, fun b xs e => tups b xs (I.base.tups b xs e), fun b o xs e => frzs b o xs (I.base.frzs b o xs e), fun b ps e => ?_⟩, ?_, fun x c e => ?_, ?_, fun x c e => ?_, fun p hp => ?_, hok, I.len⟩
 ·exact keep b o (neL b o e) hb (neC b o e hx) (I.base.keep b o e n hb hx) (I.base.free b o e n hx)
 ·obtain ⟨sl, e1⟩ := I.base.slot b o e n hb hx
  obtain ⟨sl', e2⟩ := slot b _ (neL b o e) hb (neC b o e hx) e1 (I.base.free b o e n hx)
  exact ⟨sl', e2⟩
 ·obtain ⟨o', e1⟩ := I.base.there b o e hx
  exact free b o' (neC b o e hx) e1 (I.base.free b o e n hx)
 ·obtain ⟨o', e1⟩ := I.base.there b o e hx
  exact there b o' (neC b o e hx) e1
 ·obtain ⟨m1, e1⟩ := I.base.tbls b ps e
  obtain ⟨m2, e2⟩ := tbls b _ e1
  exact ⟨m1 ++ m2, by rw [e2, Array.append_assoc]⟩
 ·obtain ⟨m, hn, hl⟩ := I.loc
  refine ⟨m, ns m hn, fun i x v e1 e2 e3 => ?_⟩
  obtain ⟨u, r, l⟩ := hl i x v e1 e2 e3
  refine ⟨u, r, ?_⟩
  rcases l with l | ⟨k, c, e, z⟩
  ·exact .inl l
  ·exact .inr ⟨k, c, e, cellK x c e _ z⟩
 ·obtain ⟨v, z⟩ := I.cell x c e
  exact ⟨v, cellK x c e v z⟩
 ·obtain ⟨m, ⟨o, _, _, ho, _⟩, _⟩ := I.loc
  exact free _ o (fun z => (hch _ z).2.1 rfl) ho I.free
 ·obtain ⟨v, o, ho, hd⟩ := I.cell x c e
  exact free c o (fun z => (hch c z).2.2.1 x c e rfl) ho (I.freeC x c e)
 ·obtain ⟨e, n, ne, nf, d⟩ := I.pin p hp
  have nch : p.1 ∉ ch := fun z => (hch p.1 z).2.2.2 p hp rfl
  exact ⟨keep p.1 p.2 ne nf nch e n, free p.1 p.2 nch e n, ne, nf, d⟩
theorem Inv.un {t' : Nat} (I : Inv X pins σ H s) (u : Un X.fs [] H H' s.heap h') (hok : HOk X.prog X.w H' h') : Inv X pins σ H' { s with heap := h', toks := t' } := by
 obtain ⟨m, ⟨o, es, ep, ho, r⟩, _⟩ := id I.loc
 obtain ⟨sl, hL⟩ := u.any ho I.free (by simp)
 exact I.step (g' := s.gens) (d' := s.drawn) (ch := []) (fun _ z => nomatch z) (fun b o _ hb _ e n => u.keep b o e n hb (by simp)) (fun b o _ hb _ e n => u.slot b o e n hb (by simp)) (fun b o _ e n => u.free b o e n (by simp)) (fun b o _ e => u.there b o e (by simp)) u.tups u.frzs u.tbls (fun m' hm => by
  obtain ⟨o', es', ep', ho', r'⟩ := hm
  rw [ho] at ho'; cases ho'
  exact ⟨_, es', ep', hL, r'⟩) hok I.bare
theorem Inv.call {g' : Array GenState} {t' : Nat} {d' : Drawn} {ch : List Addr} (I : Inv X pins σ H s) (u : Un (gU X.stack) ch H H' s.heap h') (hok : HOk X.prog X.w H' h') (hg : AllBare g')
  (hch : ∀ b ∈ ch, (b ∈ X.ex \/ X.s₀.heap.objs.size <= b) /\ b ≠ X.env.locals /\ (∀ x c, X.env.cells.lookup x = some c -> c ≠ b) /\ ∀ p ∈ X.pn ++ pins, p.1 ≠ b) :
  Inv X pins σ H' { s with heap := h', gens := g', drawn := d', toks := t' } := by
 obtain ⟨m, ⟨o, es, ep, ho, r⟩, _⟩ := id I.loc
 obtain ⟨sl, hL⟩ := u.any ho I.free fun z => (hch _ z).2.1 rfl
 exact I.step (ch := ch) hch (fun b o hL hb hc e n => u.keep b o e n (fun z => (C5.mp (I.stkSub b z)).elim hL hb) hc) (fun b o _ _ hc e n => u.any e n hc) (fun b o hc e n => u.free b o e n hc) (fun b o hc e => u.there b o e hc) u.tups u.frzs u.tbls (fun m' hm => by
  obtain ⟨o', es', ep', ho', r'⟩ := hm
  rw [ho] at ho'; cases ho'
  exact ⟨_, es', ep', hL, r'⟩) hok hg
theorem Inv.turned {t' : Nat} {it : Addr} (I : Inv X pins σ H s) (k : ∀ b o, b ≠ it -> s.heap.get? b = some o -> h'.get? b = some o) (hn : H it = none) (hL : it ≠ X.env.locals)
  (h1 : it ∈ X.ex \/ X.s₀.heap.objs.size <= it) (h2 : ∀ x c, X.env.cells.lookup x = some c -> c ≠ it) (h3 : ∀ p ∈ X.pn ++ pins, p.1 ≠ it) : Inv X pins σ H { s with heap := h', toks := t' } := by
 have nit : ∀ b u, H b = some u -> b ≠ it := fun b u e z => by rw [z, hn] at e; cases e
 refine I.step (g' := s.gens) (d' := s.drawn) (ch := [it]) (fun b hb => ?_) (fun b o _ _ hc e _ => k b o (fun z => hc (by simp [z])) e) (fun b o _ _ hc e _ => ⟨o.slots, k b o (fun z => hc (by simp [z])) e⟩) (fun _ _ _ _ n => n)
  (fun b o hc e => ⟨o, k b o (fun z => hc (by simp [z])) e⟩) (fun _ _ e => e) (fun _ _ _ e => e) (fun b ps e => ⟨#[], by rw [e]; simp⟩) (fun m hm => ?_) (fun b u e => ?_) I.bare
 ·have e : b = it := by simpa using hb
  subst e
  exact ⟨h1, hL, h2, h3⟩
 ·obtain ⟨o, es, ep, ho, r⟩ := hm
  exact ⟨o, es, ep, k _ o (Ne.symm hL) ho, r⟩
 ·refine (I.hok b u e).stay (fun c v hc q => k c v ?_ q) (fun _ q => q) fun _ _ q => q
  rcases hc with z | z
  ·rw [z]; exact nit b u e
  ·exact nit c _ z
theorem Inv.tok (I : Inv X pins σ H s) (t : Nat) : Inv X pins σ H { s with toks := t } := I.un (h' := s.heap) (t' := t) Un.refl I.hok
theorem Inv.kept {t' : Nat} (I : Inv X pins σ H s) (k : ∀ b u, s.heap.get? b = some u -> h'.get? b = some u) : Inv X pins σ H { s with heap := h', toks := t' } := I.un (Un.kept k) (I.hok.kept k)
theorem Inv.laid {a : Addr} {o : HO} {t' : Nat} (I : Inv X pins σ H s) (k : ∀ b u, s.heap.get? b = some u -> h'.get? b = some u) (hp : s.heap.objs.size <= a) (new : ObjOk X.prog X.w (aI H a o) h' a o) :
 Inv X pins σ (aI H a o) { s with heap := h', toks := t' } := I.un (Un.laid k hp (I.hok.fresh hp)) (I.hok.laid k hp new)
theorem Inv.write {x e : Addr} {o : HO} {t' : Nat} (I : Inv X pins σ H s) (mu : Ac (H x)) (he : e = x \/ H e = some (.own x)) (k : ∀ b u, b ≠ e -> s.heap.get? b = some u -> h'.get? b = some u) (heo : ∃ u, h'.get? e = some u)
 (new : ObjOk X.prog X.w (aI H x o) h' x o) : Inv X pins σ (aI H x o) { s with heap := h', toks := t' } := I.un (Un.write mu he k heo) (I.hok.write mu he k heo new)
theorem Inv.weak {σ' : List (Option V)} (I : Inv X pins σ H s) (hl : σ'.length = σ.length) (w : ∀ (i : Nat) v, σ'[i]? = some (some v) -> σ[i]? = some (some v)) : Inv X pins σ' H s :=
 ⟨I.ok, I.os, I.bare, I.base, let ⟨m, hn, hl'⟩ := I.loc; ⟨m, hn, fun i x v e1 e2 e3 => hl' i x v e1 (w i v e2) e3⟩, I.cell, I.free, I.freeC, I.pin, I.hok, hl.trans I.len⟩
theorem Inv.pins_of {pins' : List (Addr × Obj)} (I : Inv X pins σ H s) (h : ∀ p ∈ pins', s.heap.get? p.1 = some p.2 /\ H p.1 = none /\ p.1 ≠ X.env.locals /\ p.1 ∉ X.fs /\ ∀ v, p.2.data ≠ .cell v) : Inv X pins' σ H s :=
 ⟨I.ok, I.os, I.bare, I.base, I.loc, I.cell, I.free, I.freeC, fun p hp => (C7.mp hp).elim (fun z => I.pin p (Dh _ z)) (h p), I.hok, I.len⟩
theorem nZ {N : List Str} (hN : N.Nodup) {i j : Nat} {x : Str} (a : N[i]? = some x) (b : N[j]? = some x) : i = j := by
 obtain ⟨h1, e1⟩ := CS.mp a
 obtain ⟨h2, e2⟩ := CS.mp b
 exact (EL hN).mp (e1.trans e2.symm)
theorem lK {M : Model} {A : Around} {E : Value -> Shared -> Prop} {i : Nat} {x : Str} {v : V} {u : Value} {Q : Unit -> Shared -> Prop} (I : Inv X pins σ H s) (hN : X.N.Nodup) (hi : X.N[i]? = some x) (hx : Ak X.env.scope x) (r : RelV v u)
  (h : ∀ s', Inv X pins (σ.set i (some v)) H s' -> (∃ a, Heap.SameBut a s.heap s'.heap /\ (a = X.env.locals \/ X.env.cells.lookup x = some a)) -> Q () s') (hf : X.fn x = true \/ X.env.scope.names.lookup x = some .local := by first | exact .inl rfl | exact .inr rfl | assumption) : wpAny M A (storeName X.env x u) Q E s := by
 obtain ⟨m, hn, hl⟩ := id I.loc
 have hcls : (X.env.scope.kind == .class || (X.env.scope.kind == .module && X.env.locals != X.env.globals)) = false := by rw [I.ok.kind]; rfl
 have hiσ : i < σ.length := by rw [I.len]; exact (CS.mp hi).1
 have cne := I.cne
 have tracked : ∀ {a : Addr} {h' : Heap}, (∃ o, s.heap.get? a = some o /\ H a = none) -> Heap.SameBut a s.heap h' -> HOk X.prog X.w H h' := fun {a h'} ha hs b ob e => by
  obtain ⟨_, _, hfree⟩ := ha
  refine (I.hok b ob e).stay (fun c w' hc q => (hs.2 c ?_).trans q) (fun _ q => q) fun _ _ q => q
  rintro rfl
  rcases hc with rfl | hc
  ·rw [hfree] at e; cases e
  ·rw [hfree] at hc; cases hc
 rcases hx with hk | hk
 ·refine wpAny_storeName_local hk hn (fun h' hn' hs => ?_) hcls
  obtain ⟨oL, _, _, hoL, _⟩ := id hn
  refine h _ ⟨I.ok, I.os, I.bare, ⟨fun b o e n hb hx => ?_, fun b o e n hb hx => ?_, I.base.free, fun b o e hx => ?_, I.base.tups, I.base.frzs, I.base.tbls⟩, ⟨_, hn', fun j y v' e1 e2 e3 => ?_⟩, fun y c e => ?_, I.free, I.freeC, fun p hp => ?_, tracked ⟨oL, hoL, I.free⟩ hs, by simpa using I.len⟩ ⟨_, hs, .inl rfl⟩
  ·exact (hs.2 b (C6 (Dj (Heap.lt_size e) I.ok.above))).trans (I.base.keep b o e n hb hx)
  ·obtain ⟨sl, e1⟩ := I.base.slot b o e n hb hx
   exact ⟨sl, (hs.2 b (C6 (Dj (Heap.lt_size e) I.ok.above))).trans e1⟩
  ·obtain ⟨o', e1⟩ := I.base.there b o e hx
   exact ⟨o', (hs.2 b (C6 (Dj (Heap.lt_size e) I.ok.above))).trans e1⟩
  ·by_cases hj : j = i
   ·subst hj
    rw [hi] at e1; cases e1
    rw [EZ hiσ] at e2
    cases e2
    exact ⟨u, r, .inl ⟨hk, by simp⟩⟩
   ·rw [E5 (Ne.symm hj)] at e2
    obtain ⟨u', r', q⟩ := hl j y v' e1 e2 e3
    refine ⟨u', r', ?_⟩
    rcases q with ⟨k, e⟩ | ⟨k, c, e, z⟩
    ·refine .inl ⟨k, ?_⟩
     have : y ≠ x := fun e => hj (nZ hN e1 (e ▸ hi))
     simp [this, e]
    ·exact .inr ⟨k, c, e, z.sameBut hs (cne y c e)⟩
  ·obtain ⟨w', z⟩ := I.cell y c e
   exact ⟨w', z.sameBut hs (cne y c e)⟩
  ·obtain ⟨e, n, ne, nf, d⟩ := I.pin p hp
   exact ⟨(hs.2 p.1 ne).trans e, n, ne, nf, d⟩
 ·have hfn : X.fn x = true := by
   rcases hf with z | z
   ·exact z
   ·rw [z] at hk; cases hk
  obtain ⟨c, hc⟩ := I.ok.has x (.inl hk)
  obtain ⟨w', z⟩ := I.cell x c hc
  refine wpAny_storeName_cell I.ok.kind hk hc z (fun h' hc' hs => ?_)
  obtain ⟨oc, hoc, hocd⟩ := id z
  refine h { s with heap := h' } ⟨I.ok, I.os, I.bare, ⟨fun b o e n hb hx => ?_, fun b o e n hb hx => ?_, I.base.free, fun b o e hx => ?_, I.base.tups, I.base.frzs, I.base.tbls⟩, ⟨m, hn.sameBut hs (Ne.symm (cne x c hc)), fun j y v' e1 e2 e3 => ?_⟩, fun y c' e => ?_, I.free, I.freeC, fun p hp => ?_, tracked ⟨oc, hoc, I.freeC x c hc⟩ hs, by simpa using I.len⟩ ⟨c, hs, .inr hc⟩
  ·exact (hs.2 b (C6 (Dj (Heap.lt_size e) (I.ok.cab x c hfn hc)))).trans (I.base.keep b o e n hb hx)
  ·obtain ⟨sl, e1⟩ := I.base.slot b o e n hb hx
   exact ⟨sl, (hs.2 b (C6 (Dj (Heap.lt_size e) (I.ok.cab x c hfn hc)))).trans e1⟩
  ·obtain ⟨o', e1⟩ := I.base.there b o e hx
   exact ⟨o', (hs.2 b (C6 (Dj (Heap.lt_size e) (I.ok.cab x c hfn hc)))).trans e1⟩
  ·by_cases hj : j = i
   ·subst hj
    rw [hi] at e1; cases e1
    rw [EZ hiσ] at e2
    cases e2
    exact ⟨u, r, .inr ⟨.inl hk, c, hc, hc'⟩⟩
   ·rw [E5 (Ne.symm hj)] at e2
    obtain ⟨u', r', q⟩ := hl j y v' e1 e2 e3
    refine ⟨u', r', ?_⟩
    rcases q with q | ⟨k, c', e, z'⟩
    ·exact .inl q
    ·refine .inr ⟨k, c', e, z'.sameBut hs ?_⟩
     rintro rfl
     exact hj (nZ hN e1 (I.ok.inj _ _ _ e hc ▸ hi))
  ·by_cases hcc : c' = c
   ·subst hcc; exact ⟨_, hc'⟩
   ·obtain ⟨w2, z2⟩ := I.cell y c' e
    exact ⟨w2, z2.sameBut hs hcc⟩
  ·obtain ⟨e, n, ne, nf, d⟩ := I.pin p hp
   refine ⟨(hs.2 p.1 ?_).trans e, n, ne, nf, d⟩
   intro q
   rw [q, hoc] at e
   have q' : oc = p.2 := Option.some.inj e
   exact d w' (by rw [<- q']; exact hocd)
theorem n6 {M : Model} {A : Around} {E : Value -> Shared -> Prop} {i : Nat} {x : Str} {v : V} {u : Value} {Q : Unit -> Shared -> Prop} (I : Inv X pins σ H s) (hN : X.N.Nodup) (hi : X.N[i]? = some x) (hx : Ak X.env.scope x) (r : RelV v u)
  (h : ∀ s', Inv X pins (σ.set i (some v)) H s' -> Q () s') (hf : X.fn x = true \/ X.env.scope.names.lookup x = some .local := by first | exact .inl rfl | exact .inr rfl | assumption) : wpAny M A (storeName X.env x u) Q E s :=
 lK I hN hi hx r (fun s' I' _ => h s' I') hf
theorem Inv.call' {s' : Shared} {ch : List Addr} (I : Inv X pins σ H s) (ho : s'.os = s.os) (u : Un (gU X.stack) ch H H' s.heap s'.heap) (hok : HOk X.prog X.w H' s'.heap) (hg : AllBare s'.gens)
  (hch : ∀ b ∈ ch, (b ∈ X.ex \/ X.s₀.heap.objs.size <= b) /\ b ≠ X.env.locals /\ (∀ x c, X.env.cells.lookup x = some c -> c ≠ b) /\ ∀ p ∈ X.pn ++ pins, p.1 ≠ b) : Inv X pins σ H' s' := by
 obtain ⟨h', g', d', t', o'⟩ := s'
 have e : o' = s.os := ho
 subst e
 exact I.call (g' := g') (t' := t') (d' := d') u hok hg hch
end
abbrev XK := Value -> Option Addr -> Hp -> Prop
abbrev St := List (Option V)
abbrev VK := V -> Hp -> Prop
abbrev TE := St -> Hp -> VK -> Prop
abbrev TT := St -> Hp -> (Bool -> Hp -> Prop) -> Prop
abbrev TA := St -> Hp -> (List V -> Hp -> Prop) -> Prop
structure Ends where
 nx : St -> Hp -> Prop
 rt : VK
 bk : St -> Hp -> Prop := fun _ _ => False
 ct : St -> Hp -> Prop := fun _ _ => False
abbrev TS := Ends -> St -> Hp -> Prop
def EP (X : Cx) (pins : List (Addr × Obj)) (σ : St) (Q : VK) (u : Value) (s' : Shared) : Prop := ∃ v H', Inv X pins σ H' s' /\ RelV v u /\ Q v H'
def TP (X : Cx) (pins : List (Addr × Obj)) (σ : St) (Q : Bool -> Hp -> Prop) (b : Bool) (s' : Shared) : Prop := ∃ H', Inv X pins σ H' s' /\ Q b H'
def AP (X : Cx) (pins : List (Addr × Obj)) (σ : St) (Q : List V -> Hp -> Prop) (us : List Value) (s' : Shared) : Prop := ∃ vs H', Inv X pins σ H' s' /\ Vals vs us /\ Q vs H'
def SP (X : Cx) (pins : List (Addr × Obj)) (D : Ends) (f : Flow) (s' : Shared) : Prop :=
 match f with
 | .next => ∃ σ' H', Inv X pins σ' H' s' /\ D.nx σ' H'
 | .brk => ∃ σ' H', Inv X pins σ' H' s' /\ D.bk σ' H'
 | .cont => ∃ σ' H', Inv X pins σ' H' s' /\ D.ct σ' H'
 | .ret u => ∃ v σ' H', Inv X pins σ' H' s' /\ RelV v u /\ D.rt v H'
def PE (X : Cx) (e : Expr) (t : TE) : Prop :=
 ∀ (pins : List (Addr × Obj)) (s : Shared) (σ : St) (H : Hp) (Q : VK), Inv X pins σ H s -> t σ H Q -> wpAny (model X.prog X.w) X.A (eval e X.env) (EP X pins σ Q) X.xe s
def PT (X : Cx) (e : Expr) (t : TT) : Prop :=
 ∀ (pins : List (Addr × Obj)) (s : Shared) (σ : St) (H : Hp) (Q : Bool -> Hp -> Prop), Inv X pins σ H s -> t σ H Q -> wpAny (model X.prog X.w) X.A (isTrue e X.env (eval e X.env)) (TP X pins σ Q) X.xe s
def PW (X : Cx) (e : Expr) (t : TT) : Prop :=
 ∀ (whole : Sem Value) (pins : List (Addr × Obj)) (s : Shared) (σ : St) (H : Hp) (Q : Bool -> Hp -> Prop), Inv X pins σ H s -> t σ H Q -> wpAny (model X.prog X.w) X.A (isTrue e X.env whole) (TP X pins σ Q) X.xe s
theorem PW.pt {X : Cx} {e : Expr} {t : TT} (h : PW X e t) : PT X e t := h _
def PA (X : Cx) (es : List Expr) (t : TA) : Prop :=
 ∀ (pos : Pos) (pins : List (Addr × Obj)) (s : Shared) (σ : St) (H : Hp) (Q : List V -> Hp -> Prop), Inv X pins σ H s -> t σ H Q -> wpAny (model X.prog X.w) X.A (spliced (backTo pos (starEach es X.env))) (AP X pins σ Q) X.xe s
def PS (X : Cx) (st : Stmt) (t : TS) : Prop :=
 ∀ (pins : List (Addr × Obj)) (s : Shared) (σ : St) (H : Hp) (D : Ends), Inv X pins σ H s -> t D σ H -> wpAny (model X.prog X.w) X.A (exec st X.env) (SP X pins D) X.xe s
def PSs (X : Cx) (st : List Stmt) (t : TS) : Prop :=
 ∀ (pins : List (Addr × Obj)) (s : Shared) (σ : St) (H : Hp) (D : Ends), Inv X pins σ H s -> t D σ H -> wpAny (model X.prog X.w) X.A (execs st X.env) (SP X pins D) X.xe s
theorem bP {α : Type} {t : Sem α} {Q Q' : α -> Shared -> Prop} {M : Model} {A : Around} {E : Value -> Shared -> Prop} {s : Shared} (h : wpAny M A t Q E s) (hQ : ∀ a s, Q a s -> Q' a s) : wpAny M A t Q' E s := wpAny_mono h hQ fun _ _ x => x
section
variable {X : Cx}
theorem CM {a b : Expr} {ta tb : TE} (ha : PE X a ta) (hb : PE X b tb) {pins : List (Addr × Obj)} {s : Shared} {σ : St} {H : Hp} {R : V -> V -> Hp -> Prop} (I : Inv X pins σ H s) (h : ta σ H fun x H1 => tb σ H1 fun y H2 => R x y H2)
  {α : Type} {Q : α -> Shared -> Prop} {f : Value -> Value -> Sem α}
  (hf : ∀ v u s2 x y H2, Inv X pins σ H2 s2 -> RelV x v -> RelV y u -> R x y H2 -> wpAny (model X.prog X.w) X.A (f v u) Q X.xe s2) :
  wpAny (model X.prog X.w) X.A (eval a X.env) (fun v s₁ => wpAny (model X.prog X.w) X.A (eval b X.env) (fun u s₂ => wpAny (model X.prog X.w) X.A (f v u) Q X.xe s₂) X.xe s₁) X.xe s := by
 refine bP (ha pins s σ H _ I h) fun v s1 hq__ => ?_
 obtain ⟨x, H1, I1, r1, q1⟩ := hq__
 refine bP (hb pins s1 σ H1 _ I1 q1) fun u s2 hq__ => ?_
 obtain ⟨y, H2, I2, r2, q2⟩ := hq__
 exact hf v u s2 x y H2 I2 r1 r2 q2
def Al (i : Nat) : TE := fun σ H Q => ∃ v, σ[i]? = some (some v) /\ Q v H
def tC (v : V) : TE := fun _ H Q => Q v H
theorem yN {i : Nat} {x : Str} {pos : Pos} (hN : X.N[i]? = some x) (hv : A7 X.env.scope x) (hd : (x == ("__debug__" : Str)) = false := by decide) (hcd : (x == ("__classdict__" : Str)) = false := by decide) : PE X (.Name x pos) (Al i) := by
 intro pins s σ H Q I h
 obtain ⟨v, e, h⟩ := h
 obtain ⟨m, hn, hl⟩ := I.loc
 obtain ⟨u, r, l⟩ := hl i x v hN e hv
 have fin : EP X pins σ Q u s := ⟨v, H, I, r, h⟩
 rcases l with ⟨hk, hm⟩ | ⟨hk, c, hc, hcell⟩
 ·exact wpAny_Name (wpAny_loadName_local I.ok.kind hk hn hm fin) hd
 ·rcases hk with hk | hk
  ·exact wpAny_Name (wpAny_loadName_cell I.ok.kind hk hc hcell fin) hd
  ·exact wpAny_Name (wpAny_loadName_free I.ok.kind hk hc hcell fin hcd) hd
theorem ak {i j pos} : PE X (.Constant (.int i) j pos) (tC (.int i)) := fun _ _ _ H _ I h => wpAny_Constant_int ⟨.int i, H, I.tok _, ⟨_, rfl⟩, h⟩
theorem bY {b j pos} : PE X (.Constant (.bool b) j pos) (tC (.bl b)) := fun _ _ _ H _ I h => Constant_bool ⟨.bl b, H, I, rfl, h⟩
theorem mO {j pos} : PE X (.Constant .none j pos) (tC .non) := fun _ _ _ H _ I h => Constant_none ⟨.non, H, I, rfl, h⟩
theorem bf {x j pos} : PE X (.Constant (.str x) j pos) (tC (.str x)) := fun _ _ _ H _ I h => Calls.Constant_str ⟨.str x, H, I.tok _, ⟨_, rfl⟩, h⟩
def Gl (X : Cx) (x : Str) : Prop := X.env.kindOf x = some .globalImplicit
theorem qV {E : Value -> Shared -> Prop} {pins : List (Addr × Obj)} {s : Shared} {σ : St} {H : Hp} {x : Str} {u : Value} {pos : Pos} {Q : Value -> Shared -> Prop} (I : Inv X pins σ H s) (hg : Gl X x) (hm : X.mg x = some u) (h : Q u s)
  (hd : (x == ("__debug__" : Str)) = false := by decide) : wpAny (model X.prog X.w) X.A (eval (.Name x pos) X.env) Q E s :=
 Calls.Name_function_global I.ok.kind hg (Calls.loadGlobal_global (by rw [I.ok.glob]; exact I.mod.glob.keeps I.bk) hm h) hd
theorem eB {E : Value -> Shared -> Prop} {pins : List (Addr × Obj)} {s : Shared} {σ : St} {H : Hp} {x : Str} {u : Value} {pos : Pos} {Q : Value -> Shared -> Prop} (I : Inv X pins σ H s) (hg : Gl X x) (hm : X.mg x = none) (hv : bootBuiltins x = some u) (h : Q u s)
  (hn : x ≠ "__name__" := by decide) (hd : (x == ("__debug__" : Str)) = false := by decide) : wpAny (model X.prog X.w) X.A (eval (.Name x pos) X.env) Q E s := by
 obtain ⟨mb, h1, h2⟩ := I.mod.blt
 exact Calls.Name_function_global I.ok.kind hg (Calls.loadGlobal_builtin (by rw [I.ok.glob]; exact I.mod.glob.keeps I.bk) hm (by rw [I.ok.blt]; exact h1.keeps I.bk) ((h2 x hn).trans hv) h) hd
theorem jG {x : Str} {v : V} {u : Value} {pos : Pos} (hg : Gl X x) (hm : X.mg x = none) (hv : bootBuiltins x = some u) (r : RelV v u) (hn : x ≠ "__name__" := by decide) (hd : (x == ("__debug__" : Str)) = false := by decide) : PE X (.Name x pos) (tC v) :=
 fun _ _ _ H _ I h => eB I hg hm hv ⟨v, H, I, r, h⟩ hn hd
variable {a b : Expr} {ta tb : TE} {pos : Pos}
def PC (X : Cx) (op : CmpOp) (a b : Expr) (t : TE) : Prop :=
 ∀ (pins : List (Addr × Obj)) (s : Shared) (σ : St) (H : Hp) (Q : VK), Inv X pins σ H s -> t σ H Q ->
  wpAny (model X.prog X.w) X.A (eval a X.env) (fun v s₁ => wpAny (model X.prog X.w) X.A (eval b X.env) (fun u s₂ => wpAny (model X.prog X.w) X.A (compareOp op v u) (EP X pins σ Q) X.xe s₂) X.xe s₁) X.xe s
theorem uy (b : Expr) {op : CmpOp} (h : op ≠ .In) (h2 : op ≠ .NotIn) : behindInMarks op b = false := by
 have e1 : (op == CmpOp.In) = false := by cases op <;> first | rfl | exact absurd rfl h
 have e2 : (op == CmpOp.NotIn) = false := by cases op <;> first | rfl | exact absurd rfl h2
 cases b <;> simp [behindInMarks, e1, e2]
def tB (t : TE) : TT := fun σ H Q => t σ H fun x H1 => ∃ c, x = .bl c /\ Q c H1
theorem uz {op : CmpOp} {t : TE} (h : PC X op a b t) (h1 : behindInMarks op b = false := by first | exact uy _ (by decide) (by decide) | rfl) : PT X (.Compare a [op] [b] pos) (tB t) := by
 intro pins s σ H Q I hw
 refine wpAny_isTrue_Compare1 (bP (h pins s σ H _ I hw) fun v s1 h1 => bP h1 fun u s2 h2 => bP h2 fun c s3 ⟨x, H1, I1, r1, q1⟩ => ?_) h1
 obtain ⟨d, rfl, q⟩ := q1
 cases r1
 exact wpAny_truthy_bool ⟨H1, I1, q⟩
theorem bG {e : Expr} {t : TE} (h : PE X e t) (he : ∀ whole, isTrue e X.env whole = (do let v <- whole; standAt e.pos; holding [v] (truthy v)) := by intro _; rfl) : PT X e (tB t) := by
 intro pins s σ H Q I hw
 refine isTrue_plain (bP (h pins s σ H _ I hw) fun v s1 ⟨x, H1, I1, r1, q1⟩ => ?_) (he _)
 obtain ⟨d, rfl, q⟩ := q1
 cases r1
 exact wpAny_truthy_bool ⟨H1, I1, q⟩
variable {tA tB' : TT} {cN : List Expr}
def Ce (t u : TT) : TT := fun σ H Q => t σ H fun c H1 => if c = true then Q true H1 else u σ H1 Q
def Br (t : TT) : TT := fun σ H Q => t σ H fun c H1 => Q (!c) H1
theorem dM (ha : PT X a tA) : PW X (.BoolOp .Or [a] pos) tA := by
 intro wh pins s σ H Q I h
 refine isTrue_or (bP (ha pins s σ H Q I h) fun c s1 e => ?_)
 cases c with
 | false => exact isTrue_or_nil e
 | true => exact e
theorem dC (ha : PT X a tA) (hb : PW X (.BoolOp .Or (b :: cN) pos) tB') : PW X (.BoolOp .Or (a :: b :: cN) pos) (Ce tA tB') := by
 intro wh pins s σ H Q I h
 refine isTrue_or (bP (ha pins s σ H _ I h) fun c s1 hq__ => ?_)
 obtain ⟨H1, I1, q1⟩ := hq__
 cases c with
 | true => exact ⟨H1, I1, q1⟩
 | false => exact hb wh pins s1 σ H1 Q I1 q1
theorem bH (ha : PT X a tA) : PT X (.UnaryOp .Not a pos) (Br tA) := by
 intro pins s σ H Q I h
 exact isTrue_not (ha pins s σ H (fun c H1 => Q (!c) H1) I h)
def Am (ta tb : TE) : TE := fun σ H Q => ta σ H fun x H1 => ∃ c, x = .bl c /\ if c = true then tb σ H1 Q else Q (.bl false) H1
def An (ta : TE) : TE := fun σ H Q => ta σ H fun x H1 => ∃ c, x = .bl c /\ Q (.bl (!c)) H1
theorem yO {op} {t : TE} (h : PE X a t) : PE X (.BoolOp op [a] pos) t := fun pins s σ H Q I hw => BoolOp_one (h pins s σ H Q I hw)
theorem yP (ha : PE X a ta) (hb : PE X (.BoolOp .And (b :: cN) pos) tb) : PE X (.BoolOp .And (a :: b :: cN) pos) (Am ta tb) := by
 intro pins s σ H Q I h
 refine BoolOp_and (bP (ha pins s σ H _ I h) fun v s1 hq__ => ?_)
 obtain ⟨x, H1, I1, r1, q1⟩ := hq__
 obtain ⟨c, rfl, q1⟩ := q1
 cases r1
 refine wpAny_truthy_bool ?_
 cases c with
 | true => exact hb pins s1 σ H1 Q I1 q1
 | false => exact ⟨.bl false, H1, I1, rfl, q1⟩
theorem yQ (ha : PE X a ta) : PE X (.UnaryOp .Not a pos) (An ta) := by
 intro pins s σ H Q I h
 refine UnaryOp_ (bP (ha pins s σ H _ I h) fun v s1 hq__ => ?_)
 obtain ⟨x, H1, I1, r1, q1⟩ := hq__
 obtain ⟨c, rfl, q1⟩ := q1
 cases r1
 exact not_of (wpAny_truthy_bool ⟨.bl (!c), H1, I1, rfl, q1⟩)
end
def SqL (K : PySem.W.Frag) (H : Hp) (a : Addr) (xs : List V) : Prop :=
 Rd H a (.lst xs) \/
  ∃ (o : Obj) (its : Array Value) (n : Nat), K.lookup a = some o /\ o.cls = .type "list" /\ o.dict = none /\ o.data = .seq its n /\ its.size <= sizeLine /\ Vals xs its.toList
def SqT (K : PySem.W.Frag) (H : Hp) (a : Addr) (xs : List V) : Prop :=
 Rd H a (.tup xs) \/
  ∃ (o : Obj) (its : Array Value) (n : Nat), K.lookup a = some o /\ o.cls = .type "tuple" /\ o.data = .seq its n /\ its.size <= sizeLine /\ Vals xs its.toList
def Bs : Value -> Option V
 | .none => some .non
 | .bool b => some (.bl b)
 | .int i _ => some (.int i)
 | .str x _ => some (.str x)
 | .bytes b _ => some (.byt b)
 | .float b _ => some (.flt b)
 | .ref a => some (.ref a)
 | .type n => some (.ty n)
 | _ => none
theorem RelV.abs {x : V} {u : Value} (r : RelV x u) : Bs u = some x := by
 cases x with
 | non => cases r; rfl
 | bl _ => cases r; rfl
 | int _ => obtain ⟨t, rfl⟩ := r; rfl
 | str _ => obtain ⟨t, rfl⟩ := r; rfl
 | byt _ => obtain ⟨t, rfl⟩ := r; rfl
 | flt _ => obtain ⟨t, rfl⟩ := r; rfl
 | ref _ => cases r; rfl
 | ty _ => cases r; rfl
theorem RelV.inj {x y : V} {u : Value} (r : RelV x u) (q : RelV y u) : x = y := Option.some.inj (r.abs.symm.trans q.abs)
theorem Vals.inj : ∀ {xs ys : List V} {us : List Value}, Vals xs us -> Vals ys us -> xs = ys := by
 intro xs ys us h
 induction h generalizing ys with
 | nil => intro h'; cases h'; rfl
 | cons r t ih =>
  intro h'
  cases h' with
  | cons r' t' => rw [r.inj r', ih t']
section
variable {X : Cx} {pins : List (Addr × Obj)} {σ : St} {H : Hp} {s : Shared} {a : Addr} {xs ys : List V}
theorem SqL.of {K : PySem.W.Frag} (h : H a = some (.lst xs)) : SqL K H a xs := .inl (.inl h)
theorem SqT.of {K : PySem.W.Frag} (h : H a = some (.tup xs)) : SqT K H a xs := .inl (.inl h)
theorem Inv.list (I : Inv X pins σ H s) (h : SqL X.K H a xs) : ∃ its : List Value, Vals xs its /\ PlainL s.heap a its.toArray /\ xs.length <= sizeLine := by
 rcases h with h | ⟨o, its, n, hk, hc, hd, hs, hz, r⟩
 ·obtain ⟨z, its, n, r, e⟩ := h.ok I.hok
  exact ⟨its, r, ⟨_, n, e, rfl, rfl, rfl⟩, z⟩
 ·refine ⟨its.toList, r, ⟨o, n, I.kIn a o hk, hc, hd, by simpa using hs⟩, ?_⟩
  have e := r.length
  simp only [C1] at e
  omega
theorem Inv.tuple (I : Inv X pins σ H s) (h : SqT X.K H a xs) : ∃ its : List Value, Vals xs its /\ IsTup s.heap a its.toArray /\ xs.length <= sizeLine := by
 rcases h with h | ⟨o, its, n, hk, hc, hs, hz, r⟩
 ·obtain ⟨z, its, r, p⟩ := h.ok I.hok
  exact ⟨its, r, p, z⟩
 ·refine ⟨its.toList, r, ⟨o, I.kIn a o hk, hc, n, by simpa using hs⟩, ?_⟩
  have e := r.length
  simp only [C1] at e
  omega
theorem Inv.list_inj (I : Inv X pins σ H s) (h : SqL X.K H a xs) (h' : SqL X.K H a ys) : xs = ys := by
 obtain ⟨its, r, ⟨o, n, e, _, _, d⟩, _⟩ := I.list h
 obtain ⟨its', r', ⟨o', n', e', _, _, d'⟩, _⟩ := I.list h'
 rw [e] at e'; cases e'
 rw [d] at d'
 injection d' with d1 _
 have : its = its' := by simpa using congrArg Array.toList d1
 subst this
 exact r.inj r'
theorem Inv.tuple_inj (I : Inv X pins σ H s) (h : SqT X.K H a xs) (h' : SqT X.K H a ys) : xs = ys := by
 obtain ⟨its, r, ⟨o, e, _, n, d⟩, _⟩ := I.tuple h
 obtain ⟨its', r', ⟨o', e', _, n', d'⟩, _⟩ := I.tuple h'
 rw [e] at e'; cases e'
 rw [d] at d'
 injection d' with d1 _
 have : its = its' := by simpa using congrArg Array.toList d1
 subst this
 exact r.inj r'
end
abbrev Cx.wish (X : Cx) (E : Value -> Shared -> Prop) : Cx := { X with xe := E }
abbrev Cx.nox (X : Cx) : Cx := X.wish fun _ _ => False
theorem Cx.Ok.wish {X : Cx} (ok : X.Ok) (E : Value -> Shared -> Prop) : (X.wish E).Ok :=
 ⟨ok.mod, ok.kind, ok.glob, ok.blt, ok.above, ok.inj, ok.has, ok.cab, ok.hd, ok.frames, ok.stk, ok.exf, ok.bs, ok.bsz, ok.noex, ok.exfs, ok.funs, ok.frf⟩
theorem Cx.Ok.unwish {X : Cx} {E : Value -> Shared -> Prop} (ok : (X.wish E).Ok) : X.Ok :=
 ⟨ok.mod, ok.kind, ok.glob, ok.blt, ok.above, ok.inj, ok.has, ok.cab, ok.hd, ok.frames, ok.stk, ok.exf, ok.bs, ok.bsz, ok.noex, ok.exfs, ok.funs, ok.frf⟩
section
variable {X : Cx} {pins : List (Addr × Obj)} {σ : St} {H : Hp} {s : Shared} {E : Value -> Shared -> Prop}
theorem Inv.wish (I : Inv X pins σ H s) (E : Value -> Shared -> Prop) : Inv (X.wish E) pins σ H s := ⟨I.ok.wish E, I.os, I.bare, I.base, I.loc, I.cell, I.free, I.freeC, I.pin, I.hok, I.len⟩
theorem Inv.unwish (I : Inv (X.wish E) pins σ H s) : Inv X pins σ H s := ⟨I.ok.unwish, I.os, I.bare, I.base, I.loc, I.cell, I.free, I.freeC, I.pin, I.hok, I.len⟩
theorem SP.unwish {D : Ends} {f : Flow} {s' : Shared} (h : SP (X.wish E) pins D f s') : SP X pins D f s' := by
 cases f with
 | next => obtain ⟨σ', H', I, q⟩ := h; exact ⟨σ', H', I.unwish, q⟩
 | brk => obtain ⟨σ', H', I, q⟩ := h; exact ⟨σ', H', I.unwish, q⟩
 | cont => obtain ⟨σ', H', I, q⟩ := h; exact ⟨σ', H', I.unwish, q⟩
 | ret u => obtain ⟨v, σ', H', I, r, q⟩ := h; exact ⟨v, σ', H', I.unwish, r, q⟩
theorem PSs.nox {st : List Stmt} {t : TS} (h : PSs X.nox st t) : PSs X st t := fun pins s σ H D I hw =>
 wpAny_mono (h pins s σ H D (I.wish _) hw) (fun _ _ q => q.unwish) fun _ _ z => False.elim z
end
section
variable {X : Cx} {st : Stmt} {cN : List Stmt} {t u : TS} {e : Expr} {te : TE} {pos : Pos}
def Ao : TS := fun D σ H => D.nx σ H
def Bt (t u : TS) : TS := fun D σ H => t { D with nx := u D } σ H
theorem aD : PSs X [] Ao := fun _ _ σ H _ I h => wpAny_execs_nil ⟨σ, H, I, h⟩
theorem ah (h1 : PS X st t) (h2 : PSs X cN u) : PSs X (st :: cN) (Bt t u) := by
 intro pins s σ H D I h
 refine wpAny_execs_cons (bP (h1 pins s σ H { D with nx := u D } I h) fun f s1 q => ?_)
 cases f with
 | next =>
  obtain ⟨σ', H', I', q⟩ := q
  exact h2 pins s1 σ' H' D I' q
 | ret v => exact q
 | brk => exact q
 | cont => exact q
theorem ao (h1 : PS X st t) : PSs X [st] t := by
 intro pins s σ H D I h
 refine wpAny_execs_cons (bP (h1 pins s σ H D I h) fun f s1 q => ?_)
 cases f with
 | next => exact wpAny_execs_nil q
 | ret v => exact q
 | brk => exact q
 | cont => exact q
theorem Inv.quiet {pins : List (Addr × Obj)} {σ : St} {H : Hp} {s : Shared} (I : Inv X pins σ H s) : interactive X.env = false := by simp [interactive, I.ok.kind]
def Ap (te : TE) : TS := fun D σ H => te σ H fun _ H1 => D.nx σ H1
theorem bQ (he : PE X e te) (hs : swapsWith e none pos.line X.env = pure false := by rfl) : PS X (.Expr e pos) (Ap te) := by
 intro pins s σ H D I h
 exact wpAny_Expr_any (bP (he pins s σ H _ I h) fun v s1 ⟨x, H1, I1, r1, q1⟩ => ⟨σ, H1, I1, q1⟩) I.quiet hs
def Bu (te : TE) : TS := fun D σ H => te σ H D.rt
theorem ay (he : PE X e te) : PS X (.Return (some e) pos) (Bu te) := by
 intro pins s σ H D I h
 exact wpAny_Return_some (bP (he pins s σ H _ I h) fun v s1 ⟨x, H1, I1, r1, q1⟩ => ⟨x, σ, H1, I1, r1, q1⟩)
def Bv (c : TT) (t u : TS) : TS := fun D σ H => c σ H fun b H1 => if b = true then t D σ H1 else u D σ H1
theorem aK {c : Expr} {a b : List Stmt} {tc : TT} (hc : PT X c tc) (ha : PSs X a t) (hb : PSs X b u) : PS X (.If c a b pos) (Bv tc t u) := by
 intro pins s σ H D I h
 refine wpAny_If (bP (hc pins s σ H _ I h) fun d s1 hq__ => ?_)
 obtain ⟨H1, I1, q1⟩ := hq__
 cases d with
 | true => exact ha pins s1 σ H1 D I1 q1
 | false => exact hb pins s1 σ H1 D I1 q1
end
abbrev TG := V -> St -> Hp -> (St -> Hp -> Prop) -> Prop
abbrev yj := List V -> St -> Hp -> (St -> Hp -> Prop) -> Prop
def PG (X : Cx) (target : Expr) (t : TG) : Prop :=
 ∀ (pins : List (Addr × Obj)) (s : Shared) (σ : St) (H : Hp) (v : V) (u : Value) (Q : St -> Hp -> Prop), Inv X pins σ H s -> RelV v u -> t v σ H Q ->
  wpAny (model X.prog X.w) X.A (assign target X.env u) (fun _ s' => ∃ σ' H', Inv X pins σ' H' s' /\ Q σ' H') X.xe s
def Ad (X : Cx) (ts : List Expr) (t : yj) : Prop :=
 ∀ (pins : List (Addr × Obj)) (s : Shared) (σ : St) (H : Hp) (vs : List V) (us : List Value) (Q : St -> Hp -> Prop), Inv X pins σ H s -> Vals vs us -> t vs σ H Q ->
  wpAny (model X.prog X.w) X.A (assignInOrder ((assignEach ts X.env).map (·.2)) us) (fun _ s' => ∃ σ' H', Inv X pins σ' H' s' /\ Q σ' H') X.xe s
abbrev yR := V -> V -> V -> Hp -> (Hp -> Prop) -> Prop
def Aq (X : Cx) (t : yR) : Prop :=
 ∀ (pins : List (Addr × Obj)) (s : Shared) (σ : St) (H : Hp) (o i v : V) (ov iv u : Value) (Q : Hp -> Prop), Inv X pins σ H s -> RelV o ov -> RelV i iv -> RelV v u -> t o i v H Q ->
  wpAny (model X.prog X.w) X.A (setItem ov iv u) (fun _ s' => ∃ H', Inv X pins σ H' s' /\ Q H') X.xe s
section
variable {X : Cx} {pos : Pos}
def dD (i : Nat) : TG := fun v σ H Q => Q (σ.set i (some v)) H
theorem az {i : Nat} {x : Str} (hN : X.N.Nodup) (hi : X.N[i]? = some x) (hx : Ak X.env.scope x) (hf : X.fn x = true \/ X.env.scope.names.lookup x = some .local := by first | exact .inl rfl | exact .inr rfl | assumption) : PG X (.Name x pos) (dD i) := by
 intro pins s σ H v u Q I r h
 exact wpAny_assign_Name (n6 I hN hi hx r (fun s' I' => ⟨_, H, I', h⟩) hf)
def Bw : yj := fun vs σ H Q => vs = [] /\ Q σ H
def Ar (t : TG) (u : yj) : yj := fun vs σ H Q => ∃ v r, vs = v :: r /\ t v σ H fun σ' H' => u r σ' H' Q
theorem mP : Ad X [] Bw := by
 intro pins s σ H vs us Q I r h
 obtain ⟨e, h⟩ := h
 subst e
 cases r
 exact assignInOrder_nil ⟨σ, H, I, h⟩
theorem dU {e : Expr} {es : List Expr} {t : TG} {u : yj} (h1 : PG X e t) (h2 : Ad X es u)
  (hs : (assignEach (e :: es) X.env).map (·.2) = assign e X.env :: (assignEach es X.env).map (·.2) := by rfl) : Ad X (e :: es) (Ar t u) := by
 intro pins s σ H vs us Q I r h
 obtain ⟨v, vr, e1, h⟩ := h
 subst e1
 cases r with
 | cons r rr =>
  rw [hs]
  refine assignInOrder_cons (bP (h1 pins s σ H _ _ _ I r h) fun _ s1 hq__ => ?_)
  obtain ⟨σ1, H1, I1, q1⟩ := hq__
  exact h2 pins s1 σ1 H1 _ _ Q I1 rr q1
def As (K : PySem.W.Frag) (n : Nat) (t : yj) : TG := fun v σ H Q => ∃ a xs, v = .ref a /\ SqT K H a xs /\ xs.length = n /\ t xs σ H Q
theorem yS {es : List Expr} {k : Nat} {t : yj} {n : Nat} (hc : X.calm = true) (h : Ad X es t)
  (hn : (assignEach es X.env).length = n := by rfl) (hst : (assignEach es X.env).findIdx? (·.1) = none := by rfl) : PG X (.Tuple es k pos) (As X.K n t) := by
 intro pins s σ H v u Q I r hw
 obtain ⟨a, xs, e1, hq, hl, hw⟩ := hw
 subst e1
 cases r
 obtain ⟨its, rv, ht, hz⟩ := I.tuple hq
 refine assign_Tuple_tuple (I.ok.hd hc) ht (by simp [hn, <- hl, rv.length]) hst fun h' hx => ?_
 have I1 : Inv X pins σ H { s with heap := h' } := I.kept (t' := s.toks) fun b o e => hx b o (C6 (Heap.lt_size e)) e
 exact h pins _ σ H xs _ Q I1 (by simpa using rv) hw
def Bx (to ti : TE) (t : yR) : TG := fun v σ H Q => to σ H fun o H1 => ti σ H1 fun i H2 => t o i v H2 fun H3 => Q σ H3
theorem uA {o i : Expr} {to ti : TE} {t : yR} (ho : PE X o to) (hi : PE X i ti) (hs : Aq X t)
  (ha : ∀ v, assign (.Subscript o i pos) X.env v = (do
   let ov <- holding [v] (eval o X.env)
   let iv <- holding [v, ov] (eval i X.env)
   standAt pos
   holding [v, ov, iv] (setItem ov iv v)
   release [v, ov, iv] []) := by intro _; rfl) : PG X (.Subscript o i pos) (Bx to ti t) := by
 intro pins s σ H v u Q I r h
 rw [ha]
 refine wpAny_bind (wpAny_holding (bP (ho pins s σ H _ I h) fun ov s1 hq__ => ?_))
 obtain ⟨x, H1, I1, r1, q1⟩ := hq__
 refine wpAny_bind (wpAny_holding (bP (hi pins s1 σ H1 _ I1 q1) fun iv s2 hq__ => ?_))
 obtain ⟨y, H2, I2, r2, q2⟩ := hq__
 refine wpAny_bind (wpAny_standAt (wpAny_bind (wpAny_holding (bP (hs pins s2 σ H2 x y v ov iv u _ I2 r1 r2 r q2) fun _ s3 hq__ => ?_))))
 obtain ⟨H3, I3, q3⟩ := hq__
 exact wpAny_release ⟨σ, H3, I3, q3⟩
def yT (te : TE) (g : TG) : TS := fun D σ H => te σ H fun x H1 => g x σ H1 D.nx
theorem mQ {tg e : Expr} {te : TE} {g : TG} (he : PE X e te) (hg : PG X tg g) (hs : swapsWithSole [tg] e pos.line X.env = pure false := by rfl) (hw : swappedStores [tg] e X.env = pure none := by rfl)
  (h1 : (assignEach [tg] X.env).map (·.2) = [assign tg X.env] := by rfl) : PS X (.Assign [tg] e pos) (yT te g) := by
 intro pins s σ H D I h
 refine wpAny_Assign_stores (bP (he pins s σ H _ I h) fun v s1 ⟨x, H1, I1, r1, q1⟩ => ?_) hs hw
 rw [h1]
 exact bP (hg pins s1 σ H1 x v _ I1 r1 q1) fun _ s2 q => q
theorem aB {i : Nat} {x : Str} {e : Expr} {te : TE} {pos' : Pos} (hN : X.N.Nodup) (hi : X.N[i]? = some x) (hx : Ak X.env.scope x) (he : PE X e te) (hs : swapsWith e (some (.Name x pos')) pos.line X.env = pure false := by rfl) (hf : X.fn x = true \/ X.env.scope.names.lookup x = some .local := by first | exact .inl rfl | exact .inr rfl | assumption) :
  PS X (.Assign [.Name x pos'] e pos) (yT te (dD i)) := by
 intro pins s σ H D I h
 refine wpAny_Assign_Name (bP (he pins s σ H _ I h) fun v s1 ⟨y, H1, I1, r1, q1⟩ => ?_) hs
 exact n6 I1 hN hi hx r1 (fun s2 I2 => ⟨_, H1, I2, q1⟩) hf
end
section
variable {X : Cx} {pos : Pos}
end
structure It where
 go : Nat -> Hp -> Prop
 yld : Nat -> Hp -> V -> Hp -> Prop
 stop : Nat -> Hp -> Prop
def mR (X : Cx) (pins : List (Addr × Obj)) (H : Hp) (b : Addr) : Prop :=
 H b = none /\ b ≠ X.env.locals /\ b ∉ X.fs /\ (b ∈ X.ex \/ X.s₀.heap.objs.size <= b) /\ (∀ x c, X.env.cells.lookup x = some c -> c ≠ b) /\ ∀ p ∈ X.pn ++ pins, p.1 ≠ b
theorem Inv.fpOk {X : Cx} {pins : List (Addr × Obj)} {σ : St} {H H' : Hp} {s : Shared} {b : Addr} (I : Inv X pins σ H s) (hb : s.heap.objs.size <= b) (hn : H' b = none) : mR X pins H' b := by
 refine ⟨hn, EV (Dj I.lt hb), I.nofs hb, .inr (Di I.sz hb), fun x c e z => ?_, fun p hp z => ?_⟩
 ·obtain ⟨v, q⟩ := I.cell x c e
  exact absurd (Dj q.lt (by rw [z]; exact hb)) (Eb _)
 ·exact absurd (Dj (Heap.lt_size (I.pin p hp).1) (by rw [z]; exact hb)) (Eb _)
structure Turn (P : Program) (w : World) (K : PySem.W.Frag) (tg : Expr) (J : It) (fp : List Addr) (it : Addr) (tn : Nat -> Heap -> Prop) : Prop where
 mem : it ∈ fp
 obj : ∀ i h, tn i h -> ∀ b ∈ fp, ∃ o, h.get? b = some o /\ ∀ v, o.data ≠ .cell v
 keep : ∀ i h h', tn i h -> (∀ b ∈ fp, ∀ o, h.get? b = some o -> h'.get? b = some o) -> tn i h'
 item : ∀ (X : Cx), X.prog = P -> X.w = w -> X.K = K -> X.calm = true -> ∀ (i : Nat) (pins : List (Addr × Obj)) (s : Shared) (σ : St) (H : Hp) (E : Value -> Shared -> Prop), Inv X pins σ H s -> (∀ b ∈ fp, mR X pins H b) -> tn i s.heap -> J.go i H ->
  wpAny (model P w) X.A (pyNext (.ref it)) (fun r s1 => ∃ u, r = some u /\
   wpAny (model P w) X.A (letOwnedTupleGo tg (.ref it) u) (fun _ s2 => ∃ x H', Inv X pins σ H' s2 /\ RelV x u /\ J.yld i H x H' /\ tn (i + 1) s2.heap /\ ∀ b ∈ fp, H' b = none) E s1) E s
 done : ∀ (X : Cx), X.prog = P -> X.w = w -> X.K = K -> X.calm = true -> ∀ (i : Nat) (pins : List (Addr × Obj)) (s : Shared) (σ : St) (H : Hp) (E : Value -> Shared -> Prop), Inv X pins σ H s -> (∀ b ∈ fp, mR X pins H b) -> tn i s.heap -> J.stop i H ->
  wpAny (model P w) X.A (pyNext (.ref it)) (fun r s1 => r = none /\ Inv X pins σ H s1) E s
 self : ∀ (A : Around) (i : Nat) (s : Shared) (Q : Value -> Shared -> Prop) (E : Value -> Shared -> Prop), tn i s.heap -> Q (.ref it) s -> wpAny (model P w) A (pyIter (.ref it)) Q E s
abbrev TI := St -> Hp -> (It -> Hp -> Prop) -> Prop
def B2 (X : Cx) (pins : List (Addr × Obj)) (σ : St) (tg : Expr) (R : It -> Hp -> Prop) (itv : Value) (s2 : Shared) : Prop :=
 ∃ (it : Addr) (fp : List Addr) (tn : Nat -> Heap -> Prop) (J : It) (H' : Hp), itv = .ref it /\ Inv X pins σ H' s2 /\ Turn X.prog X.w X.K tg J fp it tn /\ tn 0 s2.heap /\ (∀ b ∈ fp, mR X pins H' b) /\ R J H'
def PI (X : Cx) (tg iter : Expr) (wi : TI) : Prop :=
 ∀ (pins : List (Addr × Obj)) (s : Shared) (σ : St) (H : Hp) (R : It -> Hp -> Prop), Inv X pins σ H s -> wi σ H R ->
  wpAny (model X.prog X.w) X.A (eval iter X.env) (fun v s1 => wpAny (model X.prog X.w) X.A (pyIter v) (B2 X pins σ tg R) X.xe s1) X.xe s
theorem lL {M : Model} {A : Around} {E : Value -> Shared -> Prop} {s : Shared} {tg : Expr} {it : Addr} {u : Value} {o : Obj} {n : String} {vs : Array Value} {Q : Unit -> Shared -> Prop} (ho : s.heap.get? it = some o) (hc : o.cls = .type n) (hd : o.data = .fields vs)
    (hn : ["enumerate", "zip", "dict_itemiterator", "dict_reverseitemiterator", "odict_iterator", "itertools.zip_longest", "itertools.pairwise"].contains n = false) (hQ : Q () s) : wpAny M A (letOwnedTupleGo tg (.ref it) u) Q E s := by
  unfold letOwnedTupleGo
  cases tg <;> first
    | exact wpAny_pure hQ
    | (cases u <;> first
        | exact wpAny_pure hQ
        | (refine wpAny_bind (wpAny_load ho ?_)
           rw [hc, hd]
           show wpAny M A (if (["enumerate", "zip", "dict_itemiterator", "dict_reverseitemiterator", "odict_iterator", "itertools.zip_longest", "itertools.pairwise"].contains n && vs[0]? == some (rawInt _)) = true then _ else _) Q E s
           rw [if_neg (by intro h; rw [hn, Fx] at h; cases h)]
           exact wpAny_pure hQ))
def wC (K : PySem.W.Frag) (a : Addr) : It :=
 ⟨fun i H => ∃ xs x, SqL K H a xs /\ xs[i]? = some x, fun i H x H' => H' = H /\ ∀ xs, SqL K H a xs -> xs[i]? = some x, fun i H => ∃ xs, SqL K H a xs /\ xs.length <= i⟩
def yk (K : PySem.W.Frag) (a : Addr) : It :=
 ⟨fun i H => ∃ xs x, SqT K H a xs /\ xs[i]? = some x, fun i H x H' => H' = H /\ ∀ xs, SqT K H a xs -> xs[i]? = some x, fun i H => ∃ xs, SqT K H a xs /\ xs.length <= i⟩
def sC (lo : Int) (n : Nat) : It := ⟨fun i _ => i < n, fun i H x H' => H' = H /\ x = .int (lo + i), fun i _ => n <= i⟩
theorem lM {P : Program} {w : World} {K : PySem.W.Frag} {tg : Expr} (a it : Addr) : Turn P w K tg (wC K a) [it] it (fun i h => h.IsListIter it a i) where
 mem := by simp
 obj := fun i h st b hb => by
  have e : b = it := by simpa using hb
  subst e
  obtain ⟨o, e, c, d⟩ := st
  exact ⟨o, e, fun v z => by rw [d] at z; cases z⟩
 keep := fun i h h' st k => st.at fun o e => k it (by simp) o e
 item := by
  intro X hP hw hK hc i pins s σ H E I hf st hg
  subst hP hw hK
  obtain ⟨xs, x, hq, hx⟩ := hg
  obtain ⟨its, rv, p, hz⟩ := I.list hq
  obtain ⟨u, hu, ru⟩ := rv.get hx
  obtain ⟨f0, f1, f2, f3, f4, f5⟩ := hf it (by simp)
  refine wpAny_pyNext_list_item st p.isList (x := u) (by simpa using hu) fun h' st' sb => ?_
  have I1 : Inv X pins σ H { s with heap := h' } := I.turned (t' := s.toks) (fun b o hb e => (sb.2 b hb).trans e) f0 f1 f3 f4 f5
  obtain ⟨o, e, c, d⟩ := id st'
  exact ⟨u, rfl, lL (s := { s with heap := h' }) e c d (by decide) ⟨x, H, I1, ru, ⟨rfl, fun ys hy => by rw [I.list_inj hy hq]; exact hx⟩, st', fun b hb => (hf b hb).1⟩⟩
 done := by
  intro X hP hw hK hc i pins s σ H E I hf st hg
  subst hP hw hK
  obtain ⟨xs, hq, hx⟩ := hg
  obtain ⟨its, rv, p, hz⟩ := I.list hq
  obtain ⟨f0, f1, f2, f3, f4, f5⟩ := hf it (by simp)
  have hl := rv.length
  exact wpAny_pyNext_list_end (I.ok.hd hc) st p.isList (by simp; omega) fun h' eb => ⟨rfl, I.turned (t' := s.toks) (fun b o hb e => eb b o hb e) f0 f1 f3 f4 f5⟩
 self := fun _ _ _ _ _ st h => wpAny_pyIter_listiter st h
theorem jO {P : Program} {w : World} {K : PySem.W.Frag} {tg : Expr} (a it : Addr) : Turn P w K tg (yk K a) [it] it (fun i h => h.IsTupleIter it a i) where
 mem := by simp
 obj := fun i h st b hb => by
  have e : b = it := by simpa using hb
  subst e
  obtain ⟨o, e, c, d⟩ := st
  exact ⟨o, e, fun v z => by rw [d] at z; cases z⟩
 keep := fun i h h' st k => st.at fun o e => k it (by simp) o e
 item := by
  intro X hP hw hK hc i pins s σ H E I hf st hg
  subst hP hw hK
  obtain ⟨xs, x, hq, hx⟩ := hg
  obtain ⟨its, rv, p, hz⟩ := I.tuple hq
  obtain ⟨u, hu, ru⟩ := rv.get hx
  obtain ⟨f0, f1, f2, f3, f4, f5⟩ := hf it (by simp)
  refine wpAny_pyNext_tuple_item st (show s.heap.IsTuple a its.toArray from p) (x := u) (by simpa using hu) fun h' st' sb => ?_
  have I1 : Inv X pins σ H { s with heap := h' } := I.turned (t' := s.toks) (fun b o hb e => (sb.2 b hb).trans e) f0 f1 f3 f4 f5
  obtain ⟨o, e, c, d⟩ := id st'
  exact ⟨u, rfl, lL (s := { s with heap := h' }) e c d (by decide) ⟨x, H, I1, ru, ⟨rfl, fun ys hy => by rw [I.tuple_inj hy hq]; exact hx⟩, st', fun b hb => (hf b hb).1⟩⟩
 done := by
  intro X hP hw hK hc i pins s σ H E I hf st hg
  subst hP hw hK
  obtain ⟨xs, hq, hx⟩ := hg
  obtain ⟨its, rv, p, hz⟩ := I.tuple hq
  obtain ⟨f0, f1, f2, f3, f4, f5⟩ := hf it (by simp)
  have hl := rv.length
  exact wpAny_pyNext_tuple_end (I.ok.hd hc) st (show s.heap.IsTuple a its.toArray from p) (by simp; omega) fun h' eb => ⟨rfl, I.turned (t' := s.toks) (fun b o hb e => eb b o hb e) f0 f1 f3 f4 f5⟩
 self := fun _ _ _ _ _ st h => wpAny_pyIter_tupleiter st h
theorem pP {P : Program} {w : World} {K : PySem.W.Frag} {tg : Expr} (it : Addr) (lo : Int) (n : Nat) : Turn P w K tg (sC lo n) [it] it (fun i h => IsRangeIter h it (lo + (i : Nat) * 1) ((n : Int) - (i : Nat)) 1) where
 mem := by simp
 obj := fun i h st b hb => by
  have e : b = it := by simpa using hb
  subst e
  exact ⟨_, st, fun v z => by
   have z' : Data.fields _ = Data.cell v := z
   cases z'⟩
 keep := fun i h h' st k => k it (by simp) _ st
 item := by
  intro X hP hw hK hc i pins s σ H E I hf st hg
  subst hP hw hK
  obtain ⟨f0, f1, f2, f3, f4, f5⟩ := hf it (by simp)
  have W := Walks.range (prog := X.prog) (w := X.w) (I.ok.hd hc) it lo 1 n
  refine W.item i s _ _ hg st fun v h' tk hv st' kk => ?_
  obtain ⟨t, rfl⟩ := hv
  have I1 : Inv X pins σ H { s with heap := h', toks := tk } := I.turned (fun b o hb e => kk b o (by simpa using hb) e) f0 f1 f3 f4 f5
  refine ⟨_, rfl, lL (s := { s with heap := h', toks := tk }) (n := "range_iterator") st' rfl rfl (by decide) ⟨.int (lo + i), H, I1, ⟨t, ?_⟩, ⟨rfl, rfl⟩, st', fun b hb => (hf b hb).1⟩⟩
  rw [Int.mul_one]
 done := by
  intro X hP hw hK hc i pins s σ H E I hf st hg
  subst hP hw hK
  obtain ⟨f0, f1, f2, f3, f4, f5⟩ := hf it (by simp)
  exact wpAny_pyNext_range_end (I.ok.hd hc) st (by have : n <= i := hg; omega) fun h' eb => ⟨rfl, I.turned (t' := s.toks) (fun b o hb e => eb b o hb e) f0 f1 f3 f4 f5⟩
 self := fun _ _ _ _ _ st h => wpAny_pyIter_rangeiter st h
section
variable {X : Cx} {tg : Expr}
def ym (K : PySem.W.Frag) (tl : TE) : TI := fun σ H R => tl σ H fun x H1 => ∃ a, x = .ref a /\ (∃ xs, SqL K H1 a xs) /\ R (wC K a) H1
def Au (K : PySem.W.Frag) (tl : TE) : TI := fun σ H R => tl σ H fun x H1 => ∃ a, x = .ref a /\ (∃ xs, SqT K H1 a xs) /\ R (yk K a) H1
theorem wL {l : Expr} {tl : TE} (hl : PE X l tl) : PI X tg l (ym X.K tl) := by
 intro pins s σ H R I h
 refine bP (hl pins s σ H _ I h) fun v s1 hq__ => ?_
 obtain ⟨x, H1, I1, r1, q1⟩ := hq__
 obtain ⟨a, e, ⟨xs, hq⟩, q⟩ := q1
 subst e
 cases r1
 obtain ⟨its, rv, p, hz⟩ := I1.list hq
 refine wpAny_pyIter_list p.isList ?_
 refine ⟨s1.heap.objs.size, [s1.heap.objs.size], _, _, H1, rfl, I1.kept (t' := s1.toks) fun b o e => Heap.get?_push_of_some _ e, lM a _, ⟨_, Heap.get?_push_size _ rfl, rfl, rfl⟩, fun b hb => ?_, q⟩
 have e : b = s1.heap.objs.size := by simpa using hb
 subst e
 exact I1.fpOk (C0 _) (I1.hok.fresh (C0 _))
theorem yU {l : Expr} {tl : TE} (hl : PE X l tl) : PI X tg l (Au X.K tl) := by
 intro pins s σ H R I h
 refine bP (hl pins s σ H _ I h) fun v s1 hq__ => ?_
 obtain ⟨x, H1, I1, r1, q1⟩ := hq__
 obtain ⟨a, e, ⟨xs, hq⟩, q⟩ := q1
 subst e
 cases r1
 obtain ⟨its, rv, p, hz⟩ := I1.tuple hq
 refine wpAny_pyIter_tuple (show s1.heap.IsTuple a its.toArray from p) ?_
 refine ⟨s1.heap.objs.size, [s1.heap.objs.size], _, _, H1, rfl, I1.kept (t' := s1.toks) fun b o e => Heap.get?_push_of_some _ e, jO a _, ⟨_, Heap.get?_push_size _ rfl, rfl, rfl⟩, fun b hb => ?_, q⟩
 have e : b = s1.heap.objs.size := by simpa using hb
 subst e
 exact I1.fpOk (C0 _) (I1.hok.fresh (C0 _))
theorem n8 {pins : List (Addr × Obj)} {σ : St} {H : Hp} {s : Shared} {R : It -> Hp -> Prop} {E : Value -> Shared -> Prop} {lo hi : Int} {t u v : Tok} {tk : Nat} (I : Inv X pins σ H s) (h1 : -(2 ^ 62) <= lo) (h2 : lo < 2 ^ 62) (h3 : -(2 ^ 62) <= hi) (h4 : hi < 2 ^ 62)
  (q : R (sC lo (hi - lo).toNat) H) : wpAny (model X.prog X.w) X.A (pyIter (.ref s.heap.objs.size)) (B2 X pins σ tg R) E { s with heap := s.heap.push { cls := .type "range", data := .fields #[.int lo t, .int hi u, .int 1 v] }, toks := tk } := by
 refine wpAny_pyIter_range (IsRange.new ..) (small_one h1 h2 h3 h4) ?_
 have I1 : Inv X pins σ H { s with heap := s.heap.push { cls := .type "range", data := .fields #[.int lo t, .int hi u, .int 1 v] }, toks := tk } := I.kept fun b o e => Heap.get?_push_of_some _ e
 refine ⟨(s.heap.push { cls := .type "range", data := .fields #[.int lo t, .int hi u, .int 1 v] }).objs.size, [(s.heap.push { cls := .type "range", data := .fields #[.int lo t, .int hi u, .int 1 v] }).objs.size], _, _, H, rfl,
  I1.kept (t' := tk) fun b o e => Heap.get?_push_of_some _ e, pP _ lo (hi - lo).toNat, ?_, fun b hb => ?_, q⟩
 ·have e1 : lo + ((0 : Nat) : Int) * 1 = lo := by simp
  have e2 : (((hi - lo).toNat : Nat) : Int) - ((0 : Nat) : Int) = Builtin.Range.rangeSize lo hi 1 := by rw [rangeSize_one]; split <;> omega
  show IsRangeIter _ _ (lo + ((0 : Nat) : Int) * 1) ((((hi - lo).toNat : Nat) : Int) - ((0 : Nat) : Int)) 1
  rw [e1, e2]
  exact Heap.get?_push_size _ rfl
 ·have e : b = (s.heap.push { cls := .type "range", data := .fields #[.int lo t, .int hi u, .int 1 v] }).objs.size := by simpa using hb
  subst e
  exact I1.fpOk (C0 _) (I1.hok.fresh (C0 _))
def Av (ta : TA) : TI := fun σ H R => ta σ H fun vs H1 => ∃ j : Int, vs = [.int j] /\ -(2 ^ 62) <= j /\ j < 2 ^ 62 /\ R (sC 0 j.toNat) H1
def Aw (ta : TA) : TI := fun σ H R => ta σ H fun vs H1 => ∃ i j : Int, vs = [.int i, .int j] /\ (-(2 ^ 62) <= i /\ i < 2 ^ 62 /\ -(2 ^ 62) <= j /\ j < 2 ^ 62) /\ R (sC i (j - i).toNat) H1
theorem bq {a : Expr} {ta : TA} {p pos : Pos} (hg : Gl X "range") (hm : X.mg "range" = none) (ha : PA X [a] ta) (hs : starEach [a] X.env = [(false, eval a X.env)] := by rfl) : PI X tg (.Call (.Name "range" p) [a] [] pos) (Av ta) := by
 intro pins s σ H R I h
 refine Call_ (eB I hg hm boot_range (PyProof.Rows.callWith_type1 (bP (ha pos pins s σ H _ I h) fun us s1 ⟨vs, H1, I1, r1, q1⟩ => ?_) hs rfl))
 obtain ⟨j, e, q1, q2, q⟩ := q1
 subst e
 cases r1 with
 | cons r rr =>
  cases rr
  obtain ⟨t, rfl⟩ := r
  exact call_range_1 (n8 I1 (by omega) (by omega) q1 q2 (by simpa using q))
theorem sD {a b : Expr} {ta : TA} {p pos : Pos} (hg : Gl X "range") (hm : X.mg "range" = none) (ha : PA X [a, b] ta) (hs : starEach [a, b] X.env = [(false, eval a X.env), (false, eval b X.env)] := by rfl) (hs2 : starEach [b] X.env = [(false, eval b X.env)] := by rfl) :
  PI X tg (.Call (.Name "range" p) [a, b] [] pos) (Aw ta) := by
 intro pins s σ H R I h
 refine Call_ (eB I hg hm boot_range (PyProof.Rows.callWith_type1 (bP (ha pos pins s σ H _ I h) fun us s1 ⟨vs, H1, I1, r1, q1⟩ => ?_) (by rw [hs, hs2]) (by rw [hs2]; rfl)))
 obtain ⟨i, j, e, ⟨q1, q2, q3, q4⟩, q⟩ := q1
 subst e
 cases r1 with
 | cons r rr =>
  cases rr with
  | cons r' rr =>
   cases rr
   obtain ⟨t, rfl⟩ := r
   obtain ⟨t', rfl⟩ := r'
   exact call_range_2 (n8 I1 q1 q2 q3 q4 q)
def By (wi : TI) (g : TG) (tb : TS) : TS := fun D σ H => wi σ H fun J H1 => ∃ W : Nat -> Nat -> St -> Hp -> Prop, (∃ m, W 0 m σ H1) /\ ∀ i m σ H, W i m σ H ->
 (J.stop i H /\ D.nx σ H) \/ (J.go i H /\ ∃ N : St -> Hp -> Prop, (∀ σ' H', N σ' H' -> ∃ m', m' < m /\ W (i + 1) m' σ' H') /\ ∀ x H', J.yld i H x H' -> g x σ H' fun σ2 H2 => tb { D with nx := N, ct := N, bk := D.nx } σ2 H2)
def jP (fp : List Addr) (h : Heap) : List (Addr × Obj) := fp.filterMap fun b => (h.get? b).map fun o => (b, o)
theorem eD {fp : List Addr} {h : Heap} {b : Addr} {o : Obj} (hb : b ∈ fp) (e : h.get? b = some o) : (b, o) ∈ jP fp h := Fg.mpr ⟨b, hb, by rw [e]; rfl⟩
theorem sE {fp : List Addr} {h : Heap} {p : Addr × Obj} (hp : p ∈ jP fp h) : p.1 ∈ fp /\ h.get? p.1 = some p.2 := by
 obtain ⟨b, hb, e⟩ := Fg.mp hp
 cases q : h.get? b with
 | none => rw [q] at e; cases e
 | some o =>
  rw [q] at e
  have e' : (b, o) = p := Option.some.inj e
  subst e'
  exact ⟨hb, q⟩
theorem Inv.pinned {pins : List (Addr × Obj)} {σ : St} {H : Hp} {s : Shared} {fp : List Addr} (I : Inv X pins σ H s) (hf : ∀ b ∈ fp, mR X pins H b) (ho : ∀ b ∈ fp, ∃ o, s.heap.get? b = some o /\ ∀ v, o.data ≠ .cell v) : Inv X (pins ++ jP fp s.heap) σ H s :=
 I.pins_of fun p hp => (C7.mp hp).elim (fun z => I.pin p (Dc _ z)) fun z => by
  obtain ⟨hb, e⟩ := sE z
  obtain ⟨f0, f1, f2, _⟩ := hf p.1 hb
  obtain ⟨o, e', d⟩ := ho p.1 hb
  rw [e] at e'; cases e'
  exact ⟨e, f0, f1, f2, d⟩
theorem Inv.unpinned {pins pl : List (Addr × Obj)} {σ : St} {H : Hp} {s : Shared} (I : Inv X (pins ++ pl) σ H s) : Inv X pins σ H s := I.pins_of fun p hp => I.pin p (Dc _ (Dh _ hp))
theorem aP {iter : Expr} {body : List Stmt} {wi : TI} {g : TG} {tb : TS} {pos : Pos} (hp : PassesOwn (model X.prog X.w) X.A X.env X.xe) (hc : X.calm = true) (hi : PI X tg iter wi) (hg : PG X tg g) (hb : PSs X body tb)
  (hs : ∀ x, foldedSetIterable iter X.env x = pure x := by intro _; rfl) : PS X (.For tg iter body [] pos) (By wi g tb) := by
 intro pins s σ H D I h
 refine wpAny_For (bP (hi pins s σ H _ I h) fun v s1 h1 => bP h1 fun itv s2 h2 => ?_) hs
 obtain ⟨it, fp, tn, J, H2, e, I2, T, st2, f2, W, ⟨m0, w0⟩, turn⟩ := h2
 subst e
 have stat : ∀ {H' : Hp}, (∀ b ∈ fp, H' b = none) -> ∀ b ∈ fp, mR X pins H' b := fun hn b hb => ⟨hn b hb, (f2 b hb).2⟩
 refine codeAny_forLoop_any (fun n s' => ∃ i σ' H', Inv X pins σ' H' s' /\ tn i s'.heap /\ (∀ b ∈ fp, H' b = none) /\ W i n σ' H') ?_ m0 ⟨0, σ, H2, I2, st2, fun b hb => (f2 b hb).1, w0⟩
 rintro n s3 ⟨i, σ3, H3, I3, st3, fr3, w3⟩
 rcases turn i n σ3 H3 w3 with ⟨stop, qn⟩ | ⟨go, N, hN, step⟩
 ·refine wpAny_passesOwn hp (bP (T.done X rfl rfl rfl hc i pins s3 σ3 H3 X.xe I3 (stat fr3) st3 stop) fun r s4 hq__ => ?_)
  obtain ⟨hr, I4⟩ := hq__
  subst hr
  exact wpAny_execs_nil ⟨σ3, H3, I4, qn⟩
 ·refine wpAny_passesOwn hp (bP (T.item X rfl rfl rfl hc i pins s3 σ3 H3 X.xe I3 (stat fr3) st3 go) fun r s4 hq__ => ?_)
  obtain ⟨u, hr, h4⟩ := hq__
  subst hr
  refine wpAny_passesOwn hp (bP h4 fun _ s5 hq__ => ?_)
  obtain ⟨x, H5, I5, r5, y5, st5, fr5⟩ := hq__
  have I5' := I5.pinned (stat fr5) (T.obj _ _ st5)
  refine wpAny_passesOwn hp (bP (hg _ s5 σ3 H5 x u _ I5' r5 (step x H5 y5)) fun _ s6 hq__ => ?_)
  obtain ⟨σ6, H6, I6, q6⟩ := hq__
  refine wpAny_passesOwn hp (bP (hb _ s6 σ6 H6 _ I6 q6) fun f s7 q7 => ?_)
  have again : ∀ {σ7 : St} {H7 : Hp}, Inv X (pins ++ jP fp s5.heap) σ7 H7 s7 -> N σ7 H7 -> ∃ m, m < n /\ ∃ i σ' H', Inv X pins σ' H' s7 /\ tn i s7.heap /\ (∀ b ∈ fp, H' b = none) /\ W i m σ' H' := fun {σ7 H7} I7 n7 => by
   obtain ⟨m', hm, w7⟩ := hN σ7 H7 n7
   refine ⟨m', hm, i + 1, σ7, H7, I7.unpinned, T.keep _ _ _ st5 fun b hb o e => (I7.pin (b, o) (Dc _ (Dc _ (eD hb e)))).1, fun b hb => ?_, w7⟩
   obtain ⟨o, e, d⟩ := T.obj _ _ st5 b hb
   exact (I7.pin (b, o) (Dc _ (Dc _ (eD hb e)))).2.1
  cases f with
  | next => obtain ⟨σ7, H7, I7, n7⟩ := q7; exact again I7 n7
  | cont => obtain ⟨σ7, H7, I7, n7⟩ := q7; exact again I7 n7
  | brk => obtain ⟨σ7, H7, I7, q7⟩ := q7; exact ⟨σ7, H7, I7.unpinned, q7⟩
  | ret v => obtain ⟨x7, σ7, H7, I7, r7, q7⟩ := q7; exact ⟨x7, σ7, H7, I7.unpinned, r7, q7⟩
end
theorem aY {K : PySem.W.Frag} {a : Addr} {xs : List V} {g : TG} {tb : TS} {D : Ends} {σ : St} {H : Hp} (Pv : Nat -> St -> Hp -> Prop) (h0 : Pv 0 σ H) (hl : ∀ i σ H, i <= xs.length -> Pv i σ H -> SqL K H a xs)
  (hs : ∀ i x σ H, xs[i]? = some x -> Pv i σ H -> g x σ H fun σ2 H2 => tb { D with nx := Pv (i + 1), ct := Pv (i + 1), bk := D.nx } σ2 H2) (hd : ∀ σ H, Pv xs.length σ H -> D.nx σ H) :
  ∃ W : Nat -> Nat -> St -> Hp -> Prop, (∃ m, W 0 m σ H) /\ ∀ i m σ H, W i m σ H ->
   ((wC K a).stop i H /\ D.nx σ H) \/ ((wC K a).go i H /\ ∃ N : St -> Hp -> Prop, (∀ σ' H', N σ' H' -> ∃ m', m' < m /\ W (i + 1) m' σ' H') /\ ∀ x H', (wC K a).yld i H x H' -> g x σ H' fun σ2 H2 => tb { D with nx := N, ct := N, bk := D.nx } σ2 H2) := by
 refine ⟨fun i m σ H => m = xs.length - i /\ i <= xs.length /\ Pv i σ H, ⟨xs.length, by simp, Dk _, h0⟩, ?_⟩
 rintro i m σ H ⟨rfl, hi, p⟩
 have q := hl i σ H hi p
 by_cases hlt : i < xs.length
 ·refine .inr ⟨⟨xs, xs[i], q, by simp [hlt]⟩, Pv (i + 1), fun σ' H' p' => ⟨xs.length - (i + 1), DR _ _ hlt, rfl, hlt, p'⟩, fun x H' y => ?_⟩
  obtain ⟨e, y⟩ := y
  subst e
  exact hs i x σ _ (y xs q) p
 ·have e : i = xs.length := En hi (DT hlt)
  subst e
  exact .inl ⟨⟨xs, q, C0 _⟩, hd σ H p⟩
theorem qW {K : PySem.W.Frag} {a : Addr} {xs : List V} {g : TG} {tb : TS} {D : Ends} {σ : St} {H : Hp} (Pv : Nat -> St -> Hp -> Prop) (h0 : Pv 0 σ H) (hl : ∀ i σ H, i <= xs.length -> Pv i σ H -> SqT K H a xs)
  (hs : ∀ i x σ H, xs[i]? = some x -> Pv i σ H -> g x σ H fun σ2 H2 => tb { D with nx := Pv (i + 1), ct := Pv (i + 1), bk := D.nx } σ2 H2) (hd : ∀ σ H, Pv xs.length σ H -> D.nx σ H) :
  ∃ W : Nat -> Nat -> St -> Hp -> Prop, (∃ m, W 0 m σ H) /\ ∀ i m σ H, W i m σ H ->
   ((yk K a).stop i H /\ D.nx σ H) \/ ((yk K a).go i H /\ ∃ N : St -> Hp -> Prop, (∀ σ' H', N σ' H' -> ∃ m', m' < m /\ W (i + 1) m' σ' H') /\ ∀ x H', (yk K a).yld i H x H' -> g x σ H' fun σ2 H2 => tb { D with nx := N, ct := N, bk := D.nx } σ2 H2) := by
 refine ⟨fun i m σ H => m = xs.length - i /\ i <= xs.length /\ Pv i σ H, ⟨xs.length, by simp, Dk _, h0⟩, ?_⟩
 rintro i m σ H ⟨rfl, hi, p⟩
 have q := hl i σ H hi p
 by_cases hlt : i < xs.length
 ·refine .inr ⟨⟨xs, xs[i], q, by simp [hlt]⟩, Pv (i + 1), fun σ' H' p' => ⟨xs.length - (i + 1), DR _ _ hlt, rfl, hlt, p'⟩, fun x H' y => ?_⟩
  obtain ⟨e, y⟩ := y
  subst e
  exact hs i x σ _ (y xs q) p
 ·have e : i = xs.length := En hi (DT hlt)
  subst e
  exact .inl ⟨⟨xs, q, C0 _⟩, hd σ H p⟩
theorem b3 {lo : Int} {n : Nat} {g : TG} {tb : TS} {D : Ends} {σ : St} {H : Hp} (Pv : Nat -> St -> Hp -> Prop) (h0 : Pv 0 σ H)
  (hs : ∀ i σ H, i < n -> Pv i σ H -> g (.int (lo + i)) σ H fun σ2 H2 => tb { D with nx := Pv (i + 1), ct := Pv (i + 1), bk := D.nx } σ2 H2) (hd : ∀ σ H, Pv n σ H -> D.nx σ H) :
  ∃ W : Nat -> Nat -> St -> Hp -> Prop, (∃ m, W 0 m σ H) /\ ∀ i m σ H, W i m σ H ->
   ((sC lo n).stop i H /\ D.nx σ H) \/ ((sC lo n).go i H /\ ∃ N : St -> Hp -> Prop, (∀ σ' H', N σ' H' -> ∃ m', m' < m /\ W (i + 1) m' σ' H') /\ ∀ x H', (sC lo n).yld i H x H' -> g x σ H' fun σ2 H2 => tb { D with nx := N, ct := N, bk := D.nx } σ2 H2) := by
 refine ⟨fun i m σ H => m = n - i /\ i <= n /\ Pv i σ H, ⟨n, by simp, Dk _, h0⟩, ?_⟩
 rintro i m σ H ⟨rfl, hi, p⟩
 by_cases hlt : i < n
 ·refine .inr ⟨hlt, Pv (i + 1), fun σ' H' p' => ⟨n - (i + 1), DR _ _ hlt, rfl, hlt, p'⟩, fun x H' y => ?_⟩
  obtain ⟨e, y⟩ := y
  subst e y
  exact hs i σ _ hlt p
 ·have e : i = n := En hi (DT hlt)
  subst e
  exact .inl ⟨C0 _, hd σ H p⟩
abbrev R2 := V -> V -> Hp -> VK -> Prop
def fh (X : Cx) (f : Value -> Value -> Sem Value) (r : R2) : Prop :=
 ∀ (pins : List (Addr × Obj)) (s : Shared) (σ : St) (H : Hp) (x y : V) (v u : Value) (Q : VK), Inv X pins σ H s -> RelV x v -> RelV y u -> r x y H Q ->
  wpAny (model X.prog X.w) X.A (f v u) (EP X pins σ Q) X.xe s
def A8 (X : Cx) (f : Value -> Sem Value) (r : V -> Hp -> VK -> Prop) : Prop :=
 ∀ (pins : List (Addr × Obj)) (s : Shared) (σ : St) (H : Hp) (x : V) (v : Value) (Q : VK), Inv X pins σ H s -> RelV x v -> r x H Q ->
  wpAny (model X.prog X.w) X.A (f v) (EP X pins σ Q) X.xe s
def cu (X : Cx) (f : Value) (r : List V -> Hp -> VK -> Prop) : Prop :=
 ∀ (pins : List (Addr × Obj)) (s : Shared) (σ : St) (H : Hp) (xs : List V) (us : List Value) (Q : VK), Inv X pins σ H s -> Vals xs us -> r xs H Q ->
  wpAny (model X.prog X.w) X.A (call f us) (EP X pins σ Q) X.xe s
def Bz (X : Cx) (r : V -> Hp -> (Bool -> Hp -> Prop) -> Prop) : Prop :=
 ∀ (pins : List (Addr × Obj)) (s : Shared) (σ : St) (H : Hp) (x : V) (v : Value) (Q : Bool -> Hp -> Prop), Inv X pins σ H s -> RelV x v -> r x H Q ->
  wpAny (model X.prog X.w) X.A (truthy v) (TP X pins σ Q) X.xe s
def A9 (r : R2) (ta tb : TE) : TE := fun σ H Q => ta σ H fun x H1 => tb σ H1 fun y H2 => r x y H2 Q
def Cf (r : V -> Hp -> VK -> Prop) (ta : TE) : TE := fun σ H Q => ta σ H fun x H1 => r x H1 Q
def rI (C : Int -> Int -> Prop) (g : Int -> Int -> V) : R2 := fun x y H Q => ∃ i j, x = .int i /\ y = .int j /\ C i j /\ Q (g i j) H
def yo (g : Int -> Int -> V) : R2 := fun x y H Q => ∃ i j, x = .int i /\ y = .int j /\ Q (g i j) H
def rU (g : Int -> V) : V -> Hp -> VK -> Prop := fun x H Q => ∃ i, x = .int i /\ Q (g i) H
section
variable {X : Cx} {a b c : Expr} {ta tb tc : TE} {pos : Pos}
theorem yV (ha : PE X a ta) (hb : PE X b tb) {pins : List (Addr × Obj)} {s : Shared} {σ : St} {H : Hp} {R : V -> V -> Hp -> Prop} (I : Inv X pins σ H s)
  (h : ta σ H fun x H1 => tb σ H1 fun y H2 => R x y H2) {Q : Value -> Shared -> Prop} {f : Value -> Value -> Sem Value}
  (hf : ∀ v u s2 x y H2, Inv X pins σ H2 s2 -> RelV x v -> RelV y u -> R x y H2 -> wpAny (model X.prog X.w) X.A (f v u) Q X.xe s2) :
  wpAny (model X.prog X.w) X.A (eval a X.env) (fun v s₁ => wpAny (model X.prog X.w) X.A (eval b X.env) (fun u s₂ => wpAny (model X.prog X.w) X.A (f v u) Q X.xe s₂) X.xe s₁) X.xe s := by
 refine bP (ha pins s σ H _ I h) fun v s1 hq__ => ?_
 obtain ⟨x, H1, I1, r1, q1⟩ := hq__
 refine bP (hb pins s1 σ H1 _ I1 q1) fun u s2 hq__ => ?_
 obtain ⟨y, H2, I2, r2, q2⟩ := hq__
 exact hf v u s2 x y H2 I2 r1 r2 q2
theorem aC {op : Operator} {r : R2} (ho : fh X (binaryOp op) r) (ha : PE X a ta) (hb : PE X b tb) : PE X (.BinOp a op b pos) (A9 r ta tb) := by
 intro pins s σ H Q I h
 exact wpAny_BinOp (yV ha hb I h fun v u s2 x y H2 I2 rx ry q => ho pins s2 σ H2 x y v u Q I2 rx ry q)
theorem Ax {op : UnaryOp} {r : V -> Hp -> VK -> Prop} (ho : A8 X (unaryOp op) r) (ha : PE X a ta) : PE X (.UnaryOp op a pos) (Cf r ta) := by
 intro pins s σ H Q I h
 exact UnaryOp_ (bP (ha pins s σ H _ I h) fun v s1 ⟨x, H1, I1, r1, q1⟩ => ho pins s1 σ H1 x v Q I1 r1 q1)
theorem Ay {f : Value -> Value -> Sem Value} {C : Int -> Int -> Prop} {g : Int -> Int -> Int}
  (rule : ∀ (i j : Int) (t u : Tok) (s : Shared) (Q : Value -> Shared -> Prop) (E : Value -> Shared -> Prop), C i j -> Q (.int (g i j) s.toks) { s with toks := s.toks + 1 } -> wpAny (model X.prog X.w) X.A (f (.int i t) (.int j u)) Q E s) :
  fh X f (rI C fun i j => .int (g i j)) := by
 intro pins s σ H x y v u Q I rx ry h
 obtain ⟨i, j, rfl, rfl, hc, q⟩ := h
 obtain ⟨t, rfl⟩ := rx
 obtain ⟨t', rfl⟩ := ry
 exact rule i j t t' s _ _ hc ⟨.int (g i j), H, I.tok _, ⟨_, rfl⟩, q⟩
theorem Az {f : Value -> Value -> Sem Value} {g : Int -> Int -> Int}
  (rule : ∀ (i j : Int) (t u : Tok) (s : Shared) (Q : Value -> Shared -> Prop) (E : Value -> Shared -> Prop), Q (.int (g i j) s.toks) { s with toks := s.toks + 1 } -> wpAny (model X.prog X.w) X.A (f (.int i t) (.int j u)) Q E s) :
  fh X f (yo fun i j => .int (g i j)) := by
 intro pins s σ H x y v u Q I rx ry h
 obtain ⟨i, j, rfl, rfl, q⟩ := h
 obtain ⟨t, rfl⟩ := rx
 obtain ⟨t', rfl⟩ := ry
 exact rule i j t t' s _ _ ⟨.int (g i j), H, I.tok _, ⟨_, rfl⟩, q⟩
theorem wM {f : Value -> Value -> Sem Value} {g : Int -> Int -> Bool}
  (rule : ∀ (i j : Int) (t u : Tok) (s : Shared) (Q : Value -> Shared -> Prop) (E : Value -> Shared -> Prop), Q (.bool (g i j)) s -> wpAny (model X.prog X.w) X.A (f (.int i t) (.int j u)) Q E s) :
  fh X f (yo fun i j => .bl (g i j)) := by
 intro pins s σ H x y v u Q I rx ry h
 obtain ⟨i, j, rfl, rfl, q⟩ := h
 obtain ⟨t, rfl⟩ := rx
 obtain ⟨t', rfl⟩ := ry
 exact rule i j t t' s _ _ ⟨.bl (g i j), H, I, rfl, q⟩
def n9 (i j : Int) : Prop := 0 < j /\ j < 1073741824
def AA (i j : Int) : Prop := 0 <= j /\ j <= 1000000 /\ i.natAbs < 2 ^ 64
def CMul (i j : Int) : Prop := (-(2 ^ 64) < i /\ i < 2 ^ 64) \/ (-(2 ^ 64) < j /\ j < 2 ^ 64)
theorem CMul.ok {i j : Int} (h : CMul i j) : IntMulOk i j := by
 rcases h with ⟨h1, h2⟩ | ⟨h1, h2⟩
 ·exact .of_left (intBits_le_64 h1 h2)
 ·exact .of_right (intBits_le_64 h1 h2)
theorem pQ (k : Nat) : (0 : Int) <= 2 ^ k := by
 rw [two_pow_cast]
 exact Int.natCast_nonneg _
theorem aZ : fh X (binaryOp .Add) (yo fun i j => .int (i + j)) := Az fun _ _ _ _ _ _ _ q => add_int q
theorem mS : fh X (binaryOp .Sub) (yo fun i j => .int (i - j)) := Az fun _ _ _ _ _ _ _ q => sub_int q
theorem gy : fh X (binaryOp .Mult) (rI CMul fun i j => .int (i * j)) := Ay fun _ _ _ _ _ _ _ hc q => mul_int q hc.ok
theorem fT : fh X (binaryOp .FloorDiv) (rI n9 fun i j => .int (i / j)) := Ay fun i j _ _ _ _ _ hc q => by
 have h1 : (0 : Int) < j := hc.1
 have h2 : j < 1073741824 := hc.2
 exact floordiv_int (by omega) (by rw [Fi i (by omega)]; exact q) (.inl (PyProof.noPylong_small (by omega)))
theorem bW : fh X (binaryOp .Mod) (rI (fun _ j => 0 < j) fun i j => .int (i % j)) := Ay fun i j _ _ _ _ _ hc q => by
 have h1 : (0 : Int) < j := hc
 exact mod_int' (by omega) (by rw [Int.fmod_eq_emod_of_nonneg i (by omega)]; exact q)
theorem uB : fh X (binaryOp .Pow) (rI AA fun i j => .int (i ^ j.toNat)) := Ay fun _ _ _ _ _ _ _ hc q => pow_int_small hc.1 hc.2.1 hc.2.2 q
theorem yW : fh X (binaryOp .RShift) (rI (fun _ j => 0 <= j) fun i j => .int (i / 2 ^ j.toNat)) := Ay fun i j _ _ _ _ _ hc q =>
 rshift_int hc (by rw [Fi i (pQ _)]; exact q)
theorem Cg {f : Value -> Sem Value} {g : Int -> Int}
  (rule : ∀ (i : Int) (t : Tok) (s : Shared) (Q : Value -> Shared -> Prop) (E : Value -> Shared -> Prop), Q (.int (g i) s.toks) { s with toks := s.toks + 1 } -> wpAny (model X.prog X.w) X.A (f (.int i t)) Q E s) :
  A8 X f (rU fun i => .int (g i)) := by
 intro pins s σ H x v Q I rx h
 obtain ⟨i, rfl, q⟩ := h
 obtain ⟨t, rfl⟩ := rx
 exact rule i t s _ _ ⟨.int (g i), H, I.tok _, ⟨_, rfl⟩, q⟩
theorem yX : A8 X (unaryOp .USub) (rU fun i => .int (-i)) := Cg fun _ _ _ _ _ q => neg_int q
end
def AB : V -> V -> Bool
 | .non, .non => true | .non, .int _ => true | .int _, .non => true | .non, .bl _ => true | .bl _, .non => true | .non, .str _ => true | .str _, .non => true
 | .int _, .int _ => true | .bl _, .bl _ => true | .str _, .str _ => true | .byt _, .byt _ => true
 | .int _, .str _ => true | .str _, .int _ => true | .bl _, .str _ => true | .str _, .bl _ => true
 | _, _ => false
def Ci : R2 := fun x y H Q => AB x y = true /\ Q (.bl (decide (x = y))) H
def Cj : R2 := fun x y H Q => AB x y = true /\ Q (.bl (!decide (x = y))) H
theorem qX {i j : Int} : decide (V.int i = V.int j) = (i == j) := by
 rw [Ez]
 simp
theorem uC {i j : Bool} : decide (V.bl i = V.bl j) = (i == j) := by
 rw [Ez]
 simp
theorem qY {i j : Str} : decide (V.str i = V.str j) = (i == j) := by
 rw [Ez]
 simp
theorem qZ {i j : Array UInt8} : decide (V.byt i = V.byt j) = (i.toList == j.toList) := by
 rw [Ez]
 cases i
 cases j
 simp
section
variable {X : Cx} {a b c : Expr} {ta tb tc : TE} {pos : Pos}
theorem aL {pins : List (Addr × Obj)} {σ : St} {H : Hp} {s : Shared} {Q : VK} {k k' : Bool} (I : Inv X pins σ H s) (q : Q (.bl k) H) (e : k = k') : EP X pins σ Q (.bool k') s := by
 subst e
 exact ⟨.bl k, H, I, rfl, q⟩
theorem de : fh X (compareOp .Eq) Ci := by
 intro pins s σ H x y v u Q I rx ry h
 obtain ⟨hs, q⟩ := h
 cases x with
 | non =>
  cases rx
  cases y with
  | non => cases ry; exact PySem.EqNone.eq_none_none (aL I q (by simp))
  | bl j => cases ry; exact PySem.EqNone.eq_none_bool (aL I q (by simp))
  | int j => obtain ⟨t', rfl⟩ := ry; exact PySem.EqNone.eq_none_int (aL I q (by simp))
  | str j => obtain ⟨t', rfl⟩ := ry; exact PySem.EqNone.eq_none_str (aL I q (by simp))
  | _ => exact absurd (show false = true from hs) C4
 | bl i =>
  cases rx
  cases y with
  | non => cases ry; exact PySem.EqNone.eq_bool_none (aL I q (by simp))
  | bl j => cases ry; exact eq_bool (aL I q uC)
  | str j => obtain ⟨t', rfl⟩ := ry; exact PySem.EqMixed.eq_bool_str (aL I q (by simp))
  | _ => exact absurd (show false = true from hs) C4
 | int i =>
  obtain ⟨t, rfl⟩ := rx
  cases y with
  | non => cases ry; exact PySem.EqNone.eq_int_none (aL I q (by simp))
  | int j => obtain ⟨t', rfl⟩ := ry; exact eq_int (aL I q qX)
  | str j => obtain ⟨t', rfl⟩ := ry; exact PySem.EqMixed.eq_int_str (aL I q (by simp))
  | _ => exact absurd (show false = true from hs) C4
 | str i =>
  obtain ⟨t, rfl⟩ := rx
  cases y with
  | non => cases ry; exact PySem.EqNone.eq_str_none (aL I q (by simp))
  | bl j => cases ry; exact PySem.EqMixed.eq_str_bool (aL I q (by simp))
  | int j => obtain ⟨t', rfl⟩ := ry; exact PySem.EqMixed.eq_str_int (aL I q (by simp))
  | str j => obtain ⟨t', rfl⟩ := ry; exact eq_str (aL I q qY)
  | _ => exact absurd (show false = true from hs) C4
 | byt i =>
  obtain ⟨t, rfl⟩ := rx
  cases y with
  | byt j => obtain ⟨t', rfl⟩ := ry; exact PySem.W.eq_bytes (aL I q qZ)
  | _ => exact absurd (show false = true from hs) C4
 | _ => cases y <;> exact absurd (show false = true from hs) C4
theorem jQ : fh X (compareOp .NotEq) Cj := by
 intro pins s σ H x y v u Q I rx ry h
 obtain ⟨hs, q⟩ := h
 cases x with
 | non =>
  cases rx
  cases y with
  | non => cases ry; exact PySem.EqNone.ne_none_none (aL I q (by simp))
  | bl j => cases ry; exact PySem.EqNone.ne_none_bool (aL I q (by simp))
  | int j => obtain ⟨t', rfl⟩ := ry; exact PySem.EqNone.ne_none_int (aL I q (by simp))
  | str j => obtain ⟨t', rfl⟩ := ry; exact PySem.EqNone.ne_none_str (aL I q (by simp))
  | _ => exact absurd (show false = true from hs) C4
 | bl i =>
  cases rx
  cases y with
  | non => cases ry; exact PySem.EqNone.ne_bool_none (aL I q (by simp))
  | bl j => cases ry; exact ne_bool (aL I q (congrArg not uC))
  | str j => obtain ⟨t', rfl⟩ := ry; exact PySem.EqMixed.ne_bool_str (aL I q (by simp))
  | _ => exact absurd (show false = true from hs) C4
 | int i =>
  obtain ⟨t, rfl⟩ := rx
  cases y with
  | non => cases ry; exact PySem.EqNone.ne_int_none (aL I q (by simp))
  | int j => obtain ⟨t', rfl⟩ := ry; exact ne_int (aL I q (congrArg not qX))
  | str j => obtain ⟨t', rfl⟩ := ry; exact PySem.EqMixed.ne_int_str (aL I q (by simp))
  | _ => exact absurd (show false = true from hs) C4
 | str i =>
  obtain ⟨t, rfl⟩ := rx
  cases y with
  | non => cases ry; exact PySem.EqNone.ne_str_none (aL I q (by simp))
  | bl j => cases ry; exact PySem.EqMixed.ne_str_bool (aL I q (by simp))
  | int j => obtain ⟨t', rfl⟩ := ry; exact PySem.EqMixed.ne_str_int (aL I q (by simp))
  | str j => obtain ⟨t', rfl⟩ := ry; exact ne_str (aL I q (congrArg not qY))
  | _ => exact absurd (show false = true from hs) C4
 | byt i =>
  obtain ⟨t, rfl⟩ := rx
  cases y with
  | byt j => obtain ⟨t', rfl⟩ := ry; exact PySem.W.ne_bytes (aL I q (congrArg not qZ))
  | _ => exact absurd (show false = true from hs) C4
 | _ => cases y <;> exact absurd (show false = true from hs) C4
theorem jf : fh X (compareOp .Lt) (yo fun i j => .bl (decide (i < j))) := wM fun _ _ _ _ _ _ _ q => lt_int q
theorem ra : fh X (compareOp .LtE) (yo fun i j => .bl (decide (i <= j))) := wM fun _ _ _ _ _ _ _ q => le_int q
theorem uD : fh X (compareOp .Gt) (yo fun i j => .bl (decide (j < i))) := wM fun _ _ _ _ _ _ _ q => gt_int q
theorem yp : fh X (compareOp .GtE) (yo fun i j => .bl (decide (j <= i))) := wM fun _ _ _ _ _ _ _ q => ge_int q
theorem yY : fh X (compareOp .Is) (fun x y H Q => y = .non /\ Q (.bl (decide (x = .non))) H) := by
 intro pins s σ H x y v u Q I rx ry h
 obtain ⟨rfl, q⟩ := h
 cases ry
 refine is_none_gen (aL I q ?_)
 cases x <;> first
  | (cases rx; rfl)
  | (obtain ⟨t, rfl⟩ := rx; rfl)
theorem wN : fh X (compareOp .IsNot) (fun x y H Q => y = .non /\ Q (.bl (!decide (x = .non))) H) := by
 intro pins s σ H x y v u Q I rx ry h
 obtain ⟨rfl, q⟩ := h
 cases ry
 refine isnot_none_gen (aL I q ?_)
 cases x <;> first
  | (cases rx; rfl)
  | (obtain ⟨t, rfl⟩ := rx; rfl)
theorem aG (b : Expr) {op : CmpOp} (h : op ≠ .In := by decide) (h2 : op ≠ .NotIn := by decide) : behindInMarks op b = false := by
 have e1 : (op == CmpOp.In) = false := by cases op <;> first | rfl | exact absurd rfl h
 have e2 : (op == CmpOp.NotIn) = false := by cases op <;> first | rfl | exact absurd rfl h2
 cases b <;> simp [behindInMarks, e1, e2]
theorem cU {op : CmpOp} {r : R2} (ho : fh X (compareOp op) r) (ha : PE X a ta) (hb : PE X b tb) (hm : behindInMarks op b = false) : PE X (.Compare a [op] [b] pos) (A9 r ta tb) := by
 intro pins s σ H Q I h
 exact wpAny_Compare1 (yV ha hb I h fun v u s2 x y H2 I2 rx ry q => ho pins s2 σ H2 x y v u Q I2 rx ry q) hm
def yq (t : TE) : TT := fun σ H Q => t σ H fun x H' => ∃ k, x = .bl k /\ Q k H'
theorem aE {op : CmpOp} {r : R2} (ho : fh X (compareOp op) r) (ha : PE X a ta) (hb : PE X b tb) (hm : behindInMarks op b = false) : PT X (.Compare a [op] [b] pos) (yq (A9 r ta tb)) := by
 intro pins s σ H Q I h
 refine wpAny_isTrue_Compare1 (bP (ha pins s σ H _ I h) fun v s1 h1 => ?_) hm
 obtain ⟨x, H1, I1, r1, q1⟩ := h1
 refine bP (hb pins s1 σ H1 _ I1 q1) fun u s2 h2 => ?_
 obtain ⟨y, H2, I2, r2, q2⟩ := h2
 refine bP (ho pins s2 σ H2 x y v u _ I2 r1 r2 q2) fun c s3 h3 => ?_
 obtain ⟨z, H3, I3, r3, k, e, q3⟩ := h3
 subst e
 cases r3
 exact wpAny_truthy_bool ⟨H3, I3, q3⟩
def yZ (r r' : R2) (ta tb tc : TE) : TE := fun σ H Q => ta σ H fun x H1 => tb σ H1 fun y H2 => r x y H2 fun z H3 => ∃ k, z = .bl k /\
 (if k = true then tc σ H3 fun w' H4 => r' y w' H4 Q else Q (.bl false) H3)
theorem oa {op op' : CmpOp} {r r' : R2} (ho : fh X (compareOp op) r) (ho' : fh X (compareOp op') r') (ha : PE X a ta) (hb : PE X b tb) (hc : PE X c tc)
  (hm : lastMarks [op, op'] [b, c] = false := by with_unfolding_all rfl) : PT X (.Compare a [op, op'] [b, c] pos) (yq (yZ r r' ta tb tc)) := by
 intro pins s σ H Q I h
 refine isTrue_chain (bP (ha pins s σ H _ I h) fun v s1 ⟨x, H1, I1, r1, q1⟩ => test_link (bP (hb pins s1 σ H1 _ I1 q1) fun u s2 ⟨y, H2, I2, r2, q2⟩ =>
  bP (ho pins s2 σ H2 x y v u _ I2 r1 r2 q2) fun d s3 ⟨z, H3, I3, r3, k, e, q3⟩ => ?_)) hm
 subst e
 cases r3
 refine wpAny_truthy_bool ?_
 cases k with
 | false =>
  obtain ⟨k', e', q'⟩ := q3
  cases e'
  exact ite_ff ⟨H3, I3, q'⟩
 | true =>
  refine ite_tt (test_last (bP (hc pins s3 σ H3 _ I3 q3) fun w' s4 ⟨z', H4, I4, r4, q4⟩ => bP (ho' pins s4 σ H4 y z' u w' _ I4 r2 r4 q4) fun d' s5 hq__ => ?_))
  obtain ⟨z2, H5, I5, r5, k2, e2, q5⟩ := hq__
  subst e2
  cases r5
  exact wpAny_truthy_bool ⟨H5, I5, q5⟩
def BB (K : PySem.W.Frag) (x : V) (H : Hp) (k : Bool) : Prop :=
 match x with
 | .non => k = false
 | .bl b => k = b
 | .int i => k = (i != 0)
 | .str y => y.length <= sizeLine /\ k = ((y.length : Int) != 0)
 | .byt y => y.size <= sizeLine /\ k = ((y.size : Int) != 0)
 | .ref p => (∃ xs, SqL K H p xs /\ k = !xs.isEmpty) \/ (∃ xs, SqT K H p xs /\ k = !xs.isEmpty) \/ ∃ kvs, H p = some (.dK kvs) /\ k = !kvs.isEmpty
 | _ => False
theorem pU {κ : Type} {kvs : List (κ × V)} {vs : List (κ × Value)} (r : KV kvs vs) : (!vs.isEmpty) = !kvs.isEmpty := by
 cases r <;> rfl
theorem jR {xs : List V} {its : List Value} (r : Vals xs its) : (!its.toArray.isEmpty) = !xs.isEmpty := by
 cases r <;> simp
theorem jS : (sizeLine : Nat) < 2 ^ 63 := by rw [sizeLine_eq]; decide
theorem BC : Bz X (fun x H Q => ∃ k, BB X.K x H k /\ Q k H) := by
 intro pins s σ H x v Q I rx h
 obtain ⟨k, e, q⟩ := h
 have hl := jS
 have hs : sizeLine = 16777216 := sizeLine_eq
 cases x with
 | non =>
  cases rx
  have e' : k = false := e
  subst e'
  exact truthy_none ⟨H, I, q⟩
 | bl b =>
  cases rx
  have e' : k = b := e
  subst e'
  exact wpAny_truthy_bool ⟨H, I, q⟩
 | int i =>
  obtain ⟨t, rfl⟩ := rx
  have e' : k = (i != 0) := e
  subst e'
  exact PySem.P.truthy_int ⟨H, I, q⟩
 | str y =>
  obtain ⟨t, rfl⟩ := rx
  obtain ⟨hy, e'⟩ : y.length <= sizeLine /\ k = ((y.length : Int) != 0) := e
  subst e'
  exact PySem.P.truthy_str (by omega) ⟨H, I.tok _, q⟩
 | byt y =>
  obtain ⟨t, rfl⟩ := rx
  obtain ⟨hy, e'⟩ : y.size <= sizeLine /\ k = ((y.size : Int) != 0) := e
  subst e'
  exact PySem.W.truthy_bytes (by omega) ⟨H, I.tok _, q⟩
 | ref p =>
  cases rx
  have e' : (∃ xs, SqL X.K H p xs /\ k = !xs.isEmpty) \/ (∃ xs, SqT X.K H p xs /\ k = !xs.isEmpty) \/ ∃ kvs, H p = some (.dK kvs) /\ k = !kvs.isEmpty := e
  rcases e' with ⟨xs, hx, e'⟩ | ⟨xs, hx, e'⟩ | ⟨kvs, hx, e'⟩
  ·subst e'
   obtain ⟨its, r, pl, hz⟩ := I.list hx
   have hlen := r.length
   exact wpAny_truthy_list pl.isList (by simp only [C2]; omega) ⟨H, I.tok _, by rw [jR r]; exact q⟩
  ·subst e'
   obtain ⟨its, r, pl, hz⟩ := I.tuple hx
   have hlen := r.length
   exact truthy_tuple pl (by simp only [C2]; omega) ⟨H, I.tok _, by rw [jR r]; exact q⟩
  ·subst e'
   obtain ⟨hz, hS, vs, r, m⟩ : kvs.length <= sizeLine /\ (p == sysModules) = false /\ ∃ vs, KV kvs vs /\ s.heap.DictOf (bz X.prog X.w) p vs := I.hok p _ hx
   have hlen : kvs.length = vs.length := Paired.length r
   exact wpAny_truthy_dict hS m (by omega) ⟨H, I.tok _, by rw [pU r]; exact q⟩
 | _ => exact (show False from e).elim
theorem fv {x : V} {us : List Value} (r : Vals [x] us) : ∃ u, us = [u] /\ RelV x u := by
 cases r with
 | cons r1 r2 => cases r2; exact ⟨_, rfl, r1⟩
theorem yr {x y : V} {us : List Value} (r : Vals [x, y] us) : ∃ u w', us = [u, w'] /\ RelV x u /\ RelV y w' := by
 cases r with
 | cons r1 r2 =>
  cases r2 with
  | cons r3 r4 => cases r4; exact ⟨_, _, rfl, r1, r3⟩
theorem sF (hc : X.calm = true) : cu X (.builtin "min") (fun xs H Q => ∃ i j, xs = [.int i, .int j] /\ Q (.int (if j < i then j else i)) H) := by
 intro pins s σ H xs us Q I r h
 obtain ⟨i, j, rfl, q⟩ := h
 obtain ⟨u, w', rfl, ⟨t, rfl⟩, ⟨t', rfl⟩⟩ := yr r
 refine min_two_ints (I.ok.hd hc) fun h' tk k => ⟨_, H, I.kept k, ?_, q⟩
 by_cases hj : j < i
 ·rw [if_pos hj, if_pos hj]; exact ⟨_, rfl⟩
 ·rw [if_neg hj, if_neg hj]; exact ⟨_, rfl⟩
def AC (K : PySem.W.Frag) (x : V) (H : Hp) (n : Nat) : Prop :=
 match x with
 | .str y => y.length <= sizeLine /\ n = y.length
 | .byt y => y.size <= sizeLine /\ n = y.size
 | .ref p => (∃ xs, SqL K H p xs /\ n = xs.length) \/ ∃ xs, SqT K H p xs /\ n = xs.length
 | _ => False
theorem uE : cu X (.builtin "len") (fun xs H Q => ∃ x n, xs = [x] /\ AC X.K x H n /\ Q (.int n) H) := by
 intro pins s σ H xs us Q I r h
 obtain ⟨x, n, rfl, e, q⟩ := h
 obtain ⟨u, rfl, rx⟩ := fv r
 have hl := jS
 have hs : sizeLine = 16777216 := sizeLine_eq
 cases x with
 | str y =>
  obtain ⟨t, rfl⟩ := rx
  obtain ⟨hy, e'⟩ : y.length <= sizeLine /\ n = y.length := e
  subst e'
  exact len_str (by omega) ⟨.int _, H, I.tok _, ⟨_, rfl⟩, q⟩
 | byt y =>
  obtain ⟨t, rfl⟩ := rx
  obtain ⟨hy, e'⟩ : y.size <= sizeLine /\ n = y.size := e
  subst e'
  exact PySem.W.len_bytes (by omega) ⟨.int _, H, I.tok _, ⟨_, rfl⟩, q⟩
 | ref p =>
  cases rx
  have e' : (∃ xs, SqL X.K H p xs /\ n = xs.length) \/ ∃ xs, SqT X.K H p xs /\ n = xs.length := e
  rcases e' with ⟨xs, hx, e'⟩ | ⟨xs, hx, e'⟩
  ·subst e'
   obtain ⟨its, r', pl, hz⟩ := I.list hx
   have hlen := r'.length
   exact Calls.call_len_list pl.isList (by simp only [C2]; omega) ⟨.int xs.length, H, I.tok _, ⟨_, by simp only [C2]; rw [hlen]⟩, q⟩
  ·subst e'
   obtain ⟨its, r', pl, hz⟩ := I.tuple hx
   have hlen := r'.length
   exact len_tuple pl (by simp only [C2]; omega) ⟨.int xs.length, H, I.tok _, ⟨_, by simp only [C2]; rw [hlen]⟩, q⟩
 | _ => exact (show False from e).elim
end
structure ObjM (h : Heap) (x dx C : Addr) (mA : Str -> Option Value) : Prop where
 obj : h.get? x = some (PySem.W.instObj C dx)
 ns : h.Ns1 dx mA
 ne : dx ≠ x
theorem sG {h : Heap} {dx : Addr} {mA : Str -> Option Value} (n : h.Ns1 dx mA) : ∃ od, h.get? dx = some od /\ ∀ name, PySem.W.lookIn name od = some (mA name) := by
 obtain ⟨o, es, ep, ho, hd, hk, _, hm⟩ := n
 refine ⟨o, ho, fun name => ?_⟩
 have e := hm name
 unfold nsFind findBy at e
 rw [<- Array.find?_toList] at e
 unfold PySem.W.lookIn
 rw [hd]
 dsimp only
 split
 ·rename_i y q
  rw [q] at e
  exact congrArg some e
 ·rename_i q
  rw [q] at e
  have a : es.toList.any (·.refKey) = false := by
   rw [List.any_eq_false]
   intro y hy
   obtain ⟨z, t, hkey⟩ := hk y (Array.mem_toList_iff.mp hy)
   simp [DictEntry.refKey, hkey]
  have a' : ¬ es.toList.any (·.refKey) = true := by rw [a]; exact C4
  rw [if_neg a']
  exact congrArg some e
theorem ObjM.look {h : Heap} {x dx C : Addr} {mA : Str -> Option Value} (I : ObjM h x dx C mA) : ∃ od, PySem.W.InstAt h x (PySem.W.instObj C dx) C (some od) /\ ∀ name, PySem.W.lookIn name od = some (mA name) :=
 let ⟨od, ho, hl⟩ := sG I.ns
 ⟨od, ⟨I.obj, rfl, rfl, ho⟩, hl⟩
section
variable {prog : Program} {w : World} {A : Around} {E : Value -> Shared -> Prop} {s : Shared} {K : PySem.W.Frag} {x dx C f : Addr} {mA : Str -> Option Value} {name : Str} {v : Value}
end
theorem RelO.some_of {v : V} {o : Option Value} (r : RelO (some v) o) : ∃ u, o = some u /\ RelV v u := by
 cases o with
 | none => exact (show False from r).elim
 | some u => exact ⟨u, rfl, r⟩
section
variable {P : Program} {w : World} {H H' : Hp} {h h' : Heap} {a C dx : Addr} {fs fs' : List (Str × V)}
theorem wO (hok : HOk P w H h) (e : H a = some (.ins C dx fs)) : ∃ mA, ObjM h a dx C mA /\ (∀ f, RelO (fs.lookup f) (mA f)) /\ PySem.Within mA (fs.map (·.1)) /\ fs.length <= 1000 /\ H dx = some (.own a) := by
 obtain ⟨d, z, ne, ob, mA, n, r, q⟩ := (show ObjOk P w H h a (.ins C dx fs) from hok a _ e)
 exact ⟨mA, ⟨ob, n, ne⟩, r, q, z, d⟩
end
structure Cls (K : PySem.W.Frag) (C : Addr) : Prop where
 pg : PySem.W.plainGet K C Str.empty = true
 hd : PySem.W.hasDictIn K C = true
 po : PySem.W.plainOver K C = true
 sa : PySem.W.findIn K (.ref C) "__setattr__" = some (some (.builtin "object.__setattr__"))
theorem Cls.get {K : PySem.W.Frag} {C : Addr} (c : Cls K C) (f : Str) : PySem.W.plainGet K C f = true := c.pg
section
variable {X : Cx} {pins : List (Addr × Obj)} {σ : St} {H : Hp} {s : Shared} {a C dx : Addr} {fs : List (Str × V)} {f : Str} {v : V} {A : Around} {E : Value -> Shared -> Prop}
end
section
variable {X : Cx} {o e value : Expr} {f : Str} {pos pos' tpos : Pos} {ta tv : TE}
end
section
variable {X : Cx} {pins : List (Addr × Obj)} {σ : St} {H : Hp} {s : Shared} {A : Around} {E : Value -> Shared -> Prop} {Q : Value -> Shared -> Prop} {c : Value} {b : Bool}
inductive TyOf (K : PySem.W.Frag) (H : Hp) : V -> Value -> Prop where
 | non : TyOf K H .non (.type "NoneType")
 | bl (x : Bool) : TyOf K H (.bl x) (.type "bool")
 | int (i : Int) : TyOf K H (.int i) (.type "int")
 | str (x : Str) : TyOf K H (.str x) (.type "str")
 | flt (x : UInt64) : TyOf K H (.flt x) (.type "float")
 | lst {a : Addr} {xs : List V} (e : H a = some (.lst xs)) : TyOf K H (.ref a) (.type "list")
 | frz {a : Addr} {o : Obj} {xs : List V} (e : H a = some (.frz o (.lst xs))) : TyOf K H (.ref a) (.type "list")
 | tup {a : Addr} {xs : List V} (e : H a = some (.tup xs)) : TyOf K H (.ref a) (.type "tuple")
 | dK {a : Addr} {kvs : List (bT × V)} (e : H a = some (.dK kvs)) : TyOf K H (.ref a) (.type "dict")
 | dT {a : Addr} {kvs : List (List bT × V)} (e : H a = some (.dT kvs)) : TyOf K H (.ref a) (.type "dict")
 | ins {a C dx : Addr} {fs : List (Str × V)} (e : H a = some (.ins C dx fs)) (cl : Cls K C) (ha : PySem.W.findIn K (.ref C) "__class__" = some (some (.builtin "object.__class__")))
  (hn : PySem.W.specialIn K (.builtin "object.__class__") "__get__" = some (some (.builtin "getset_descriptor.__get__"))) (htk : PySem.W.takesIn K (.builtin "object.__class__") = some true)
  (hm : PySem.W.mroIn K C (.type "object") = some true) : TyOf K H (.ref a) (.ref C)
theorem sH {x : V} {u t : Value} (I : Inv X pins σ H s) (rx : RelV x u) (ty : TyOf X.K H x t) (e : PySem.W.kitOne X.K t c = some b) (h : ∀ tk, Q (.bool b) { s with toks := tk }) :
  wpAny (model X.prog X.w) A (call (.builtin "isinstance") [u, c]) Q E s := by
 cases ty with
 | non => cases (show u = Value.none from rx); exact PySem.W.kia_one PySem.W.kitx_none I.kIn True.intro e (fun z => nomatch z) h
 | bl y => cases (show u = Value.bool y from rx); exact PySem.W.kia_one PySem.W.kitx_bool I.kIn True.intro e (fun z => nomatch z) h
 | int i => obtain ⟨t, q⟩ := (show ∃ t, u = Value.int i t from rx); cases q; exact PySem.W.kia_one PySem.W.kitx_int I.kIn True.intro e (fun z => nomatch z) h
 | str y => obtain ⟨t, q⟩ := (show ∃ t, u = Value.str y t from rx); cases q; exact PySem.W.kia_one PySem.W.kitx_str I.kIn True.intro e (fun z => nomatch z) h
 | flt y => obtain ⟨t, q⟩ := (show ∃ t, u = Value.float y t from rx); cases q; exact PySem.W.kia_one PySem.W.kitx_float I.kIn True.intro e (fun z => nomatch z) h
 | @lst a xs ea =>
  cases (show u = Value.ref a from rx)
  obtain ⟨_, _, n, _, h1⟩ := (show ObjOk X.prog X.w H s.heap a (.lst xs) from I.hok a _ ea)
  exact PySem.W.kia_one PySem.W.kitx_list I.kIn ⟨_, h1, rfl⟩ e (fun z => nomatch z) h
 | @frz a ob xs ea =>
  cases (show u = Value.ref a from rx)
  obtain ⟨_, _, _, n, _, h1⟩ := (show ObjOk X.prog X.w H s.heap a (.frz ob (.lst xs)) from I.hok a _ ea)
  exact PySem.W.kia_one PySem.W.kitx_list I.kIn ⟨_, h1, rfl⟩ e (fun z => nomatch z) h
 | @tup a xs ea =>
  cases (show u = Value.ref a from rx)
  obtain ⟨_, _, _, p⟩ := (show ObjOk X.prog X.w H s.heap a (.tup xs) from I.hok a _ ea)
  obtain ⟨o, h1, h2, _⟩ := p
  exact PySem.W.kia_one PySem.W.kitx_tuple I.kIn ⟨o, h1, h2⟩ e (fun z => nomatch z) h
 | @dK a kvs ea =>
  cases (show u = Value.ref a from rx)
  obtain ⟨_, _, vs, _, p⟩ := (show ObjOk X.prog X.w H s.heap a (.dK kvs) from I.hok a _ ea)
  obtain ⟨o, es, ep, h1, h2, _⟩ := p
  exact PySem.W.kia_one PySem.W.kitx_dict I.kIn ⟨o, h1, h2.1⟩ e (fun z => nomatch z) h
 | @dT a kvs ea =>
  cases (show u = Value.ref a from rx)
  obtain ⟨_, _, xs, _, o, es, ep, h1, h2, _⟩ := (show ObjOk X.prog X.w H s.heap a (.dT kvs) from I.hok a _ ea)
  exact PySem.W.kia_one PySem.W.kitx_dict I.kIn ⟨o, h1, h2.1⟩ e (fun z => nomatch z) h
 | @ins a C dx fs ea cl ha hn htk hm =>
  cases (show u = Value.ref a from rx)
  obtain ⟨mA, O, _⟩ := wO I.hok ea
  obtain ⟨od, J, _⟩ := O.look
  exact PySem.W.kia_one (PySem.W.kitx_own (cl.get _) cl.hd ha hn htk hm) I.kIn J e (fun z => nomatch z) h
end
structure Room (k : Nat) (A : Around) : Prop where
 hd : A.handled = none
 dp : A.depth + 3 * k + 5 < recursionLimit
 un : A.units + 16 * k + 200 < cLine
theorem Room.mono {j k : Nat} {A : Around} (r : Room k A) (h : j <= k) : Room j A := ⟨r.hd, EU (Nat.add_le_add_right (Fc (Nat.mul_le_mul_left 3 h) _) 5) r.dp, EU (Nat.add_le_add_right (Fc (Nat.mul_le_mul_left 16 h) _) 200) r.un⟩
theorem Room.deeper {k : Nat} {A : Around} (r : Room (k + 1) A) (env : Env) : Room k (A.deeper env) :=
 ⟨r.hd, by have := r.dp; show A.depth + 1 + 3 * k + 5 < _; omega, by have := r.un; show A.units + 3 + 16 * k + 200 < _; omega⟩
theorem Room.depth {k : Nat} {A : Around} (r : Room k A) : A.depth < recursionLimit := by have := r.dp; omega
theorem Room.units {k : Nat} {A : Around} (r : Room k A) : A.units + 64 < cLine := by have := r.un; omega
def BD : TA := fun _ H Q => Q [] H
def AD (ta : TE) (tr : TA) : TA := fun σ H Q => ta σ H fun x H1 => tr σ H1 fun xs H2 => Q (x :: xs) H2
section
variable {X : Cx} {e : Expr} {es : List Expr} {te : TE} {t : TA} {pos : Pos}
theorem af : PA X [] BD := fun _ _ _ _ H Q I h => Calls.spliced_nil ⟨[], H, I, .nil, h⟩
theorem ae (ha : PE X e te) (hr : PA X es t) (hs : starEach (e :: es) X.env = (false, eval e X.env) :: starEach es X.env := by rfl) : PA X (e :: es) (AD te t) := by
 intro pos pins s σ H Q I h
 rw [hs]
 show wpAny _ _ (spliced ((false, eval e X.env) :: backTo pos (starEach es X.env))) _ _ s
 refine Calls.spliced_cons (bP (ha pins s σ H _ I h) fun u s1 hq__ => ?_)
 obtain ⟨x, H1, I1, r1, q1⟩ := hq__
 exact bP (hr pos pins s1 σ H1 _ I1 q1) fun us s2 ⟨xs, H2, I2, r2, q2⟩ => ⟨x :: xs, H2, I2, .cons r1 r2, q2⟩
def BE (t : TA) : TE := fun σ H Q => t σ H fun xs H1 => xs.length <= sizeLine /\ ∀ p, H1 p = none -> Q (.ref p) (aI H1 p (.tup xs))
def BF (t : TA) : TE := fun σ H Q => t σ H fun xs H1 => xs.length <= sizeLine /\ ∀ p, H1 p = none -> Q (.ref p) (aI H1 p (.lst xs))
theorem aV {x1} (h : PA X es t) : PE X (.Tuple es x1 pos) (BE t) := by
 intro pins s σ H Q I hq
 refine wpAny_Tuple_spliced (bP (h pos pins s σ H _ I hq) fun us s1 ⟨xs, H1, I1, r, z, q⟩ => ⟨by rw [<- r.length]; exact z, ?_⟩)
 have hf : H1 s1.heap.objs.size = none := I1.hok.fresh (C0 _)
 refine ⟨.ref s1.heap.objs.size, aI H1 s1.heap.objs.size (.tup xs), I1.laid (t' := s1.toks) (fun b u e => Heap.get?_push_of_some _ e) (C0 _) ?_, rfl, q _ hf⟩
 exact ⟨z, us, r, ⟨_, Heap.get?_push_size _ rfl, rfl, _, rfl⟩⟩
theorem aM (h : PA X es t) : PE X (.List es pos) (BF t) := by
 intro pins s σ H Q I hq
 refine wpAny_List_spliced (bP (h pos pins s σ H _ I hq) fun us s1 ⟨xs, H1, I1, r, z, q⟩ => ⟨by rw [<- r.length]; exact z, ?_⟩)
 have hf : H1 s1.heap.objs.size = none := I1.hok.fresh (C0 _)
 refine ⟨.ref s1.heap.objs.size, aI H1 s1.heap.objs.size (.lst xs), I1.laid (t' := s1.toks) (fun b u e => Heap.get?_push_of_some _ e) (C0 _) ?_, rfl, q _ hf⟩
 exact ⟨z, us, 0, r, Heap.get?_push_size _ rfl⟩
end
abbrev Sp := List V -> Hp -> VK -> XK -> Prop
abbrev ur := List Env -> Hp -> Shared -> XK -> Value -> Shared -> Prop
structure Env0 (P : Program) (w : World) (K : PySem.W.Frag) (mg : Str -> Option Value) (base : Heap) (A : Around) (outer : List Env) (s : Shared) (H : Hp) : Prop where
 frames : A.frames = some outer
 mod : Mod K mg base
 bs : ∀ b o, base.get? b = some o -> s.heap.get? b = some o /\ H b = none
 bsz : base.objs.size <= s.heap.objs.size
 funs : s.heap.FunFrames base outer
 frf : ∀ b ∈ gU outer, H b = none
 hok : HOk P w H s.heap
 bare : AllBare s.gens
def CE (outer : List Env) (P : Program) (w : World) (H : Hp) (s : Shared) (Q : VK) (u : Value) (s' : Shared) : Prop :=
 ∃ v H', s'.os = s.os /\ AllBare s'.gens /\ Un (gU outer) [] H H' s.heap s'.heap /\ HOk P w H' s'.heap /\ RelV v u /\ Q v H'
def CR (CX : ur) (outer : List Env) (P : Program) (w : World) (H : Hp) (s : Shared) (Q : VK) (E : XK) (r : Result) (s' : Shared) : Prop :=
 match r with
 | .ok (.ret u) => CE outer P w H s Q u s'
 | .ok _ => False
 | .error e => CX outer H s E e s'
structure FnOk (P : Program) (w : World) (K : PySem.W.Frag) (mg : Str -> Option Value) (base : Heap) (CX : ur) (k : Nat) (f : Addr) (fd : FuncData) (ps : List Str) (sp : Sp) : Prop where
 len : ∀ vs H Q E, sp vs H Q E -> vs.length = ps.length
 run : ∀ (A : Around) (outer : List Env) (s : Shared) (H : Hp) (args : Args) (us : List Value) (vs : List V) (Q : VK) (E : XK), Room k A -> Env0 P w K mg base A outer s H -> BindsTo s fd args (ps.zip us) -> Vals vs us -> sp vs H Q E ->
  codeAny (model P w) A (.call (.ref f) args) (CR CX outer P w H s Q E) s
section
variable {X : Cx} {pins : List (Addr × Obj)} {σ : St} {H : Hp} {s s' : Shared}
theorem Inv.env0 (I : Inv X pins σ H s) : Env0 X.prog X.w X.K X.mg X.base X.A X.stack s H :=
 ⟨I.ok.frames, I.ok.mod, I.bs, Di I.ok.bsz I.sz, I.stack, I.stkFree, I.hok, I.bare⟩
theorem Inv.after {Q : VK} {u : Value} (I : Inv X pins σ H s) (h : CE X.stack X.prog X.w H s Q u s') : EP X pins σ Q u s' := by
 obtain ⟨v, H', os, bare, un, hok, r, q⟩ := h
 obtain ⟨hh, g, d, t, os'⟩ := s'
 obtain rfl : os' = s.os := os
 exact ⟨v, H', I.call (h' := hh) (g' := g) (d' := d) (t' := t) (ch := []) un hok bare (fun b z => absurd z (by simp)), r, q⟩
end
def uF (sp : Sp) (dvs : List V) (E : XK) (t : TA) : TE := fun σ H Q => t σ H fun vs H1 => sp (vs ++ dvs) H1 Q E
def Binds (K : PySem.W.Frag) (fd : FuncData) (ps : List Str) (ds : List Value) : Prop :=
 ∀ (s : Shared) (us : List Value), K.In s.heap -> (us ++ ds).length = ps.length -> BindsTo s fd ⟨us, []⟩ (ps.zip (us ++ ds))
theorem Binds.all {K : PySem.W.Frag} {fd : FuncData} {ps : List Str} (h : ∀ us : List Value, us.length = ps.length -> bindArgs fd ⟨us, []⟩ = pure (ps.zip us)) : Binds K fd ps [] := fun s us _ hl => by
 rw [Eg] at hl ⊢
 exact .of_eq (h us hl)
def mT (CX : ur) (X : Cx) (E : XK) : Prop := ∀ (pins : List (Addr × Obj)) (σ : St) (H : Hp) (s : Shared) (e : Value) (s' : Shared), Inv X pins σ H s -> CX X.stack H s E e s' -> X.xe e s'
section
variable {X : Cx} {CX : ur} {k : Nat} {f C : Addr} {fd : FuncData} {ps : List Str} {sp : Sp} {dvs : List V} {ds : List Value} {E : XK} {x m : Str} {p pos apos : Pos} {e o : Expr} {es : List Expr} {ta : TE} {t : TA}
theorem y0 {pins : List (Addr × Obj)} {σ : St} {H : Hp} {s : Shared} {Q : VK} {us : List Value} {vs : List V} (F : FnOk X.prog X.w X.K X.mg X.base CX k f fd ps sp) (hr : Room k X.A) (hb : Binds X.K fd ps ds) (hd : Vals dvs ds) (hx : mT CX X E)
  (I : Inv X pins σ H s) (r : Vals vs us) (h : sp (vs ++ dvs) H Q E) : wpAny (model X.prog X.w) X.A (call (.ref f) us) (EP X pins σ Q) X.xe s := by
 have r2 : Vals (vs ++ dvs) (us ++ ds) := r.append hd
 have hl : (us ++ ds).length = ps.length := by rw [<- r2.length]; exact F.len _ _ _ _ h
 refine wpAny_call (codeAny_mono (F.run X.A X.stack s H ⟨us, []⟩ (us ++ ds) (vs ++ dvs) Q E hr I.env0 (hb s us I.kIn hl) r2 h) fun r s' hq => ?_)
 cases r with
 | error e => exact hx pins σ H s e s' I hq
 | ok fl =>
  cases fl with
  | ret u => exact I.after hq
  | next => exact False.elim hq
  | brk => exact False.elim hq
  | cont => exact False.elim hq
theorem rb (F : FnOk X.prog X.w X.K X.mg X.base CX k f fd ps sp) (hr : Room k X.A) (hg : Gl X x) (hm : X.mg x = some (.ref f)) (hk : PySem.W.keepIn X.K (.ref f) = true) (hb : Binds X.K fd ps ds) (hd : Vals dvs ds) (hx : mT CX X E)
  (ha : PA X (e :: es) t) (hdb : (x == ("__debug__" : Str)) = false := by decide) (he : starEach (e :: es) X.env = (false, eval e X.env) :: starEach es X.env := by rfl) (hpl : (backTo pos (starEach es X.env)).any (·.1) = false := by rfl) :
  PE X (.Call (.Name x p) (e :: es) [] pos) (uF sp dvs E t) := by
 intro pins s σ H Q I h
 refine wpAny_Call_Name_kw (qV I hg hm ?_ hdb)
 refine PySem.W.callWith_K (h₀ := X.base) I.ok.mod.kin hk (bP (ha pos pins s σ H _ I h) fun us s1 ⟨vs, H1, I1, r, q⟩ => ⟨I1.kIn, ?_⟩) he hpl
 exact y0 F hr hb hd hx I1 r q
end
section
variable {X : Cx} {CX : ur} {k : Nat} {f C : Addr} {fd : FuncData} {ps ks : List Str} {sp : Sp} {E : XK} {x m : Str} {p pos apos kpos : Pos} {e o : Expr} {es : List Expr} {kws : List Keyword} {te ta : TE} {t tk : TA} {nm : Option Str}
variable {g : List Value -> List Value -> List Value} {gV : List V -> List V -> List V}
end
structure FnScope (N P : List Str) (sc : Scope) : Prop where
 kind : sc.kind = .function
 co : sc.isCoroutine = false
 gen : sc.isGenerator = false
 nd : N.Nodup
 pre : N.take P.length = P
 par : ∀ x ∈ P, sc.names.lookup x = some .local \/ sc.names.lookup x = some .cell
 nofree : ∀ y ∈ sc.names, y.2 ≠ .free
theorem lN {kindOf : Str -> Option NameKind} {x : Str} : ∀ {binds : List (Str × Value)} {m : Str -> Option Value}, (∀ v, (x, v) ∉ binds) -> bindL kindOf binds m x = m x
 | [], _, _ => rfl
 | (n, v) :: r, m, h => by
  unfold bindL
  rw [lN fun w hw => h w (C8 _ hw)]
  split
  ·have : x ≠ n := by rintro rfl; exact h v Dg
   simp [this]
  ·rfl
theorem lO {kindOf : Str -> Option NameKind} {x : Str} : ∀ {binds : List (Str × Value)} {m : Str -> Option Value}, (∀ v, (x, v) ∉ binds) -> bindC kindOf binds m x = m x
 | [], _, _ => rfl
 | (n, v) :: r, m, h => by
  unfold bindC
  rw [lO fun w hw => h w (C8 _ hw)]
  split
  ·rfl
  ·have : x ≠ n := by rintro rfl; exact h v Dg
   simp [this]
theorem sI {kindOf : Str -> Option NameKind} {x : Str} {v : Value} : ∀ {P : List Str} {vs : List Value} {i : Nat} {m : Str -> Option Value}, P.Nodup -> P[i]? = some x -> vs[i]? = some v -> kindOf x = some .local ->
  bindL kindOf (P.zip vs) m x = some v := by
 intro P
 induction P with
 | nil => intro vs i m _ h; cases h
 | cons p P ih =>
  intro vs i m nd h1 h2 hk
  cases vs with
  | nil => cases h2
  | cons w vs =>
   show bindL kindOf ((p, w) :: P.zip vs) m x = _
   unfold bindL
   cases i with
   | zero =>
    cases h1; cases h2
    rw [lN fun v hv => (Ea.mp nd).1 (Ft hv).1, if_pos hk]
    simp
   | succ i => exact ih (Ea.mp nd).2 h1 h2 hk
theorem sJ {kindOf : Str -> Option NameKind} {x : Str} {v : Value} : ∀ {P : List Str} {vs : List Value} {i : Nat} {m : Str -> Option Value}, P.Nodup -> P[i]? = some x -> vs[i]? = some v -> kindOf x ≠ some .local ->
  bindC kindOf (P.zip vs) m x = some v := by
 intro P
 induction P with
 | nil => intro vs i m _ h; cases h
 | cons p P ih =>
  intro vs i m nd h1 h2 hk
  cases vs with
  | nil => cases h2
  | cons w vs =>
   show bindC kindOf ((p, w) :: P.zip vs) m x = _
   unfold bindC
   cases i with
   | zero =>
    cases h1; cases h2
    rw [lO fun v hv => (Ea.mp nd).1 (Ft hv).1, if_neg hk]
    simp
   | succ i => exact ih (Ea.mp nd).2 h1 h2 hk
def gX (N : List Str) (vs : List V) : St := vs.map some ++ DB (N.length - vs.length) none
def gd (CX : ur) (P : Program) (w : World) (K : PySem.W.Frag) (mg : Str -> Option Value) (base : Heap) (N : List Str) (qual : Str) (scope : Scope) (f : Addr) (cd : Value) (A : Around) (outer : List Env) (s : Shared) (H : Hp) (E : XK) : Cx where
 prog := P
 w := w
 K := K
 mg := mg
 base := base
 A := A.deeper (envOfC qual scope s.heap.objs.size f cd)
 N := N
 s₀ := s
 H₀ := H
 env := envOfC qual scope s.heap.objs.size f cd
 outer := outer
 stack := envOfC qual scope s.heap.objs.size f cd :: outer
 ex := []
 calm := true
 fn := fun _ => true
 pn := []
 xe := fun e s' => wpAny (model P w) (A.deeper (envOfC qual scope s.heap.objs.size f cd)) (leaving (envOfC qual scope s.heap.objs.size f cd) e) (fun _ s'' => CX outer H s E e s'') (fun e' s'' => CX outer H s E e' s'') s'
theorem oe {sc : Scope} {n : Nat} {x : Str} (h : sc.names.lookup x = some .cell) : ∃ c, (cellsFrom n sc.names []).lookup x = some c := by
 have q := PySem.W.cellsFrom_some sc.names n [] (.inl h)
 exact DY.mp q
theorem sL {CX : ur} {P : Program} {w : World} {K : PySem.W.Frag} {mg : Str -> Option Value} {base : Heap} {N ps : List Str} {qual : Str} {scope : Scope} {f : Addr} {cd : Value} {A : Around} {outer : List Env} {s s1 : Shared} {H : Hp} {E : XK} {us : List Value} {vs : List V}
  (S : FnScope N ps scope) (hd : A.handled = none) (e0 : Env0 P w K mg base A outer s H) (hl : vs.length = ps.length) (r : Vals vs us)
  (x : InCallC s s.heap.objs.size (bindL (envOfC qual scope s.heap.objs.size f cd).kindOf (ps.zip us) fun _ => none) (cellsFrom (s.heap.objs.size + 1) scope.names []) (bindC (envOfC qual scope s.heap.objs.size f cd).kindOf (ps.zip us) fun _ => none) s1) :
  Inv (gd CX P w K mg base N qual scope f cd A outer s H E) [] (gX N vs) H s1 := by
 have hpl : ps.length <= N.length := by have := congrArg List.length S.pre; rw [DU] at this; omega
 obtain ⟨h1, tk, rfl, hk⟩ := x.done
 have noA : ∀ b : Addr, b ∉ (gd CX P w K mg base N qual scope f cd A outer s H E).ex := fun b z => absurd (show b ∈ ([] : List Addr) from z) (by simp)
 refine ⟨⟨e0.mod, S.kind, rfl, rfl, C0 _, fun y z c h1 h2 => ?_, fun y hy => ?_, fun y c _ h => ?_, fun _ => hd, Around.frames_deeper e0.frames, .inr ⟨rfl, rfl⟩, fun b z => absurd z (noA b), e0.bs, e0.bsz, fun b _ _ => noA b, fun b z => absurd z (noA b), e0.funs, e0.frf⟩,
  rfl, e0.bare, Un.kept hk, ⟨_, x.toInCall.ns, fun i y v h1 h2 h3 => ?_⟩, fun y c h => ⟨_, x.cell y c h⟩, e0.hok.fresh (C0 _), fun y c h => ?_, fun p hp => absurd (show p ∈ ([] : List (Addr × Obj)) from hp) (by simp), e0.hok.kept hk, ?_⟩
 ·exact name_of_addr x.apart (PySem.mem_of_lookup h1) (PySem.mem_of_lookup h2)
 ·have hy : scope.names.lookup y = some .cell \/ scope.names.lookup y = some .free := hy
  rcases hy with hy | hy
  ·exact oe hy
  ·exact absurd rfl (S.nofree _ (PySem.mem_of_lookup hy))
 ·exact DS (x.above y c (PySem.mem_of_lookup h))
 ·have hi : i < vs.length := by
   unfold gX at h2
   by_cases hi : i < vs.length
   ·exact hi
   ·rw [Ep (by simpa using hi)] at h2
    rw [List.getElem?_replicate] at h2
    split at h2 <;> cases h2
  have ha : vs[i]? = some v := by
   unfold gX at h2
   rw [ES (by simpa using hi), CU] at h2
   cases e : vs[i]? with
   | none => rw [e] at h2; cases h2
   | some a => rw [e] at h2; cases h2; rfl
  obtain ⟨u, hu, rv⟩ := r.get ha
  have hp : ps[i]? = some y := by
   rw [<- S.pre, List.getElem?_take_of_lt (by omega)]; exact h1
  have ndP : ps.Nodup := by rw [<- S.pre]; exact S.nd.sublist (List.take_sublist _ _)
  refine ⟨u, rv, ?_⟩
  rcases S.par y (CW hp) with k | k
  ·exact .inl ⟨k, sI ndP hp hu k⟩
  ·obtain ⟨c, e⟩ := oe (n := s.heap.objs.size + 1) k
   refine .inr ⟨.inl k, c, e, ?_⟩
   have q := x.cell y c e
   rw [sJ ndP hp hu (by show scope.names.lookup y ≠ _; rw [k]; decide)] at q
   exact q
 ·exact e0.hok.fresh (DS (x.above y c (PySem.mem_of_lookup h)))
 ·unfold gX
  show _ = N.length
  rw [C3, CO, List.length_replicate]
  omega
theorem yt {CX : ur} {P : Program} {w : World} {K : PySem.W.Frag} {mg : Str -> Option Value} {base : Heap} {k : Nat} {f : Addr} {name qual : Str} {params : Arguments} {body : List Stmt} {scope : Scope} {dV kV doc pm cdv ct oc : Value} {an od : Option Addr}
  {osl : Array (Option Value)} {N ps : List Str} {sp : Sp} (lk : K.lookup f = some ⟨oc, od, .func (PySem.W.fnOf name qual params body scope dV kV doc pm an cdv ct), osl⟩) (hcd : PySem.W.codeIn K cdv qual = true) (S : FnScope N ps scope)
  (len : ∀ vs H Q E, sp vs H Q E -> vs.length = ps.length)
  (hbody : ∀ (A : Around) (outer : List Env) (s : Shared) (H : Hp) (vs : List V) (Q : VK) (E : XK), Room k (A.deeper (envOfC qual scope s.heap.objs.size f cdv)) -> sp vs H Q E ->
   ∃ t, PSs (gd CX P w K mg base N qual scope f cdv A outer s H E) body t /\ t { nx := fun _ H' => Q .non H', rt := Q } (gX N vs) H) :
  FnOk P w K mg base CX (k + 1) f (PySem.W.fnOf name qual params body scope dV kV doc pm an cdv ct) ps sp := by
 refine ⟨len, fun A outer s H args us vs Q E hr e0 hb r hsp => ?_⟩
 have hl := len _ _ _ _ hsp
 have KX : K.In s.heap := e0.mod.kin.keeps fun b o e => (e0.bs b o e).1
 have lim : s.heap.NoLimit := e0.mod.nolimit.keeps fun b o e => (e0.bs b o e).1
 have hkind : ∀ y ∈ ps.zip us, scope.names.lookup y.1 = some .local \/ (scope.names.lookup y.1 = some .cell /\ ((cellsFrom (s.heap.objs.size + 1) scope.names []).lookup y.1).isSome = true) := fun ⟨n, v⟩ hy => by
  rcases S.par n (Ft hy).1 with q | q
  ·exact .inl q
  ·exact .inr ⟨q, PySem.W.cellsFrom_some _ _ _ (.inl q)⟩
 refine codeAny_call_function hr.depth (KX _ _ lk) rfl S.co S.gen rfl (PySem.W.codeRec_of KX hcd) (hb _ _ _ _ ?_)
 refine wpAny_newFunctionEnv_cells S.kind hkind fun env he s1 x => ?_
 subst he
 refine ⟨lim.keeps x.toInCall.keep, codeAny_func ?_⟩
 obtain ⟨t, ht, hq⟩ := hbody A outer s H vs Q E (hr.deeper _) hsp
 have I : Inv (gd CX P w K mg base N qual scope f cdv A outer s H E) [] (gX N vs) H s1 := sL S hr.hd e0 hl r x
 refine wpAny_mono (ht [] s1 (gX N vs) H _ I hq) (fun fl s' hs => ?_) fun e s' hs => hs
 have fin : ∀ {σ' : St} {H' : Hp} {v : V} {u : Value}, Inv (gd CX P w K mg base N qual scope f cdv A outer s H E) [] σ' H' s' -> RelV v u -> Q v H' -> CE outer P w H s Q u s' :=
  fun {σ' H' v u} J rv q => ⟨v, H', J.os, J.bare, J.base, J.hok, rv, q⟩
 cases fl with
 | ret u =>
  obtain ⟨v, σ', H', J, rv, q⟩ := hs
  exact fin J rv q
 | next =>
  obtain ⟨σ', H', J, q⟩ := hs
  exact fin (v := V.non) (u := Value.none) J rfl q
 | brk =>
  obtain ⟨_, _, _, q⟩ := hs
  exact False.elim q
 | cont =>
  obtain ⟨_, _, _, q⟩ := hs
  exact False.elim q
section
variable {X : Cx} {x : Str} {p pos : Pos} {e : Expr} {es : List Expr} {t : TA} {id T : String} {r : List V -> Hp -> VK -> Prop}
def B3 (r : List V -> Hp -> VK -> Prop) (t : TA) : TE := fun σ H Q => t σ H fun vs H1 => r vs H1 Q
theorem aq (hc : cu X (.builtin id) r) (hg : Gl X x) (hm : X.mg x = none) (hv : bootBuiltins x = some (.builtin id)) (ha : PA X (e :: es) t) (hn : x ≠ "__name__" := by decide) (hdb : (x == ("__debug__" : Str)) = false := by decide)
  (he : starEach (e :: es) X.env = (false, eval e X.env) :: starEach es X.env := by rfl) (hpl : (backTo pos (starEach es X.env)).any (·.1) = false := by rfl) : PE X (.Call (.Name x p) (e :: es) [] pos) (B3 r t) := by
 intro pins s σ H Q I h
 refine wpAny_Call_Name_kw (eB I hg hm hv ?_ hn hdb)
 exact PyProof.Rows.callWith_builtin1 (bP (ha pos pins s σ H _ I h) fun us s1 ⟨vs, H1, I1, r1, q1⟩ => hc pins s1 σ H1 vs us Q I1 r1 q1) he hpl
theorem aW (hc : cu X (.type T) r) (hg : Gl X x) (hm : X.mg x = none) (hv : bootBuiltins x = some (.type T)) (ha : PA X (e :: es) t) (hn : x ≠ "__name__" := by decide) (hdb : (x == ("__debug__" : Str)) = false := by decide)
  (he : starEach (e :: es) X.env = (false, eval e X.env) :: starEach es X.env := by rfl) (hpl : (backTo pos (starEach es X.env)).any (·.1) = false := by rfl) : PE X (.Call (.Name x p) (e :: es) [] pos) (B3 r t) := by
 intro pins s σ H Q I h
 refine wpAny_Call_Name_kw (eB I hg hm hv ?_ hn hdb)
 exact PyProof.Rows.callWith_type1 (bP (ha pos pins s σ H _ I h) fun us s1 ⟨vs, H1, I1, r1, q1⟩ => hc pins s1 σ H1 vs us Q I1 r1 q1) he hpl
end
end L2
namespace HT
open PySem PyProof.Rows
def bU : List Int -> List Int -> Bool
 | [], [] => false
 | [], _ :: _ => true
 | _ :: _, [] => false
 | x :: xs, y :: ys => if x = y then bU xs ys else decide (x < y)
theorem df (x y : Int) (xs ys : List Int) : bU (x :: xs) (y :: ys) = if x = y then bU xs ys else decide (x < y) := rfl
theorem kU : bU [] [] = false := rfl
theorem jT (y : Int) (ys : List Int) : bU [] (y :: ys) = true := rfl
theorem jU (x : Int) (xs : List Int) : bU (x :: xs) [] = false := rfl
theorem uG (A : Around) (s : Shared) (a : Int) (t : Tok) (c : Int) (u : Tok) (prog : Program) (w : World) (E : Value -> Shared -> Prop) (Q : Value -> Shared -> Prop) (h : Q (.bool (decide (a < c))) s) :
  wpAny (model prog w) A (richCompare .Lt (.int a t) (.int c u)) Q E s :=
 (PyProof.Rows.lt_int h : wpAny (model prog w) A (compareOp .Lt (.int a t) (.int c u)) Q E s)
section
open PySem.SeqAt
open PySem.AutoSeq1 (wpAny_loadPart')
open PySem.MeetsSeq PySem.MeetsSeq2 PySem.MeetsSeq3
end
section
variable {prog : Program} {w : World} {A : Around} {E : Value -> Shared -> Prop} {s : Shared}
def pV (n d : Nat) : Option Int -> Nat
 | none => d
 | some v => if v < 0 then (v + (n : Int)).toNat else min v.toNat n
theorem og (n d : Nat) : pV n d none = d := rfl
theorem jH (n d k : Nat) : pV n d (some (k : Int)) = min k n := by
 show (if (k : Int) < 0 then ((k : Int) + (n : Int)).toNat else min (k : Int).toNat n) = min k n
 rw [if_neg (by omega), Du]
theorem wQ (v : Int) (n d : Nat) : (if v < 0 then max (v + (n : Int)) 0 else min v (n : Int)) = ((pV n d (some v) : Nat) : Int) := by
 show _ = (((if v < 0 then (v + (n : Int)).toNat else min v.toNat n) : Nat) : Int)
 by_cases hv : v < 0
 ·rw [if_pos hv, if_pos hv, Int.ofNat_toNat]
 ·rw [if_neg hv, if_neg hv]
  obtain ⟨k, rfl⟩ := Int.eq_ofNat_of_zero_le (Int.not_lt.mp hv)
  show min (k : Int) (n : Int) = ((min k n : Nat) : Int)
  rcases Nat.le_total k n with h | h
  ·rw [EA h, Int.min_eq_left (Int.ofNat_le.mpr h)]
  ·rw [EM h, Int.min_eq_right (Int.ofNat_le.mpr h)]
end
end HT
namespace L2
open PySem PySem.Spec PyProof.Rows
abbrev TO := St -> Hp -> (Option Int -> Hp -> Prop) -> Prop
def PO (X : Cx) (e : Option Expr) (t : TO) : Prop :=
 ∀ (pins : List (Addr × Obj)) (s : Shared) (σ : St) (H : Hp) (Q : Option Int -> Hp -> Prop), Inv X pins σ H s -> t σ H Q ->
  wpAny (model X.prog X.w) X.A (evalPart e X.env) (fun u s' => ∃ o H', Inv X pins σ H' s' /\ IsPart u o /\ Q o H') X.xe s
def wR : TO := fun _ H Q => Q none H
def AE (t : TE) : TO := fun σ H Q => t σ H fun x H1 => ∃ i, x = .int i /\ Q (some i) H1
theorem dg {ns : List Int} : ∀ {us : List Value}, Vals (ns.map V.int) us -> IntsAre us ns := by
 induction ns with
 | nil => intro us r; rw [EW] at r; cases r; exact .nil
 | cons n ns ih =>
  intro us r
  rw [Dm] at r
  cases r with
  | cons r1 r2 =>
   obtain ⟨t, e⟩ := r1
   subst e
   exact .cons n t (ih r2)
section
variable {X : Cx} {e : Expr} {te : TE} {lo hi : Option Expr} {tl th : TO} {pos p2 : Pos}
theorem mV : PO X none wR := by
 intro pins s σ H Q I h
 rw [evalPart_none]
 exact wpAny_pure ⟨none, H, I, .none, h⟩
theorem gY (h : PE X e te) : PO X (some e) (AE te) := by
 intro pins s σ H Q I hw
 rw [evalPart_some]
 refine bP (h pins s σ H _ I hw) fun u s1 hq__ => ?_
 obtain ⟨x, H1, I1, r1, q1⟩ := hq__
 obtain ⟨i, rfl, q⟩ := q1
 obtain ⟨t, rfl⟩ := r1
 exact ⟨some i, H1, I1, .int i t, q⟩
def Ba (X : Cx) (r : V -> Option Int -> Option Int -> Hp -> VK -> Prop) : Prop :=
 ∀ (pins : List (Addr × Obj)) (s : Shared) (σ : St) (H : Hp) (x : V) (v vl vu : Value) (lo hi : Option Int) (sl : Addr) (Q : VK), Inv X pins σ H s -> RelV x v -> s.heap.IsSliceOf sl vl vu .none -> IsPart vl lo -> IsPart vu hi -> r x lo hi H Q ->
  ∃ T id, typeLookup (.type T) "__getitem__" = pure (some (.builtin id)) /\ s.TypeIs v T /\ wpAny (model X.prog X.w) X.A (getItem v (.ref sl)) (EP X pins σ Q) X.xe s
def Ck (r : V -> Option Int -> Option Int -> Hp -> VK -> Prop) (te : TE) (tl th : TO) : TE := fun σ H Q => te σ H fun x H1 => tl σ H1 fun l H2 => th σ H2 fun u H3 => r x l u H3 Q
theorem gZ {r : V -> Option Int -> Option Int -> Hp -> VK -> Prop} (hr : Ba X r) (he : PE X e te) (hl : PO X lo tl) (hu : PO X hi th) : PE X (.Subscript e (.Slice lo hi none p2) pos) (Ck r te tl th) := by
 intro pins s σ H Q I h
 refine Subscript_ (bP (he pins s σ H _ I h) fun v s1 h1 => ?_)
 obtain ⟨x, H1, I1, r1, q1⟩ := h1
 refine wpAny_Slice (bP (hl pins s1 σ H1 _ I1 q1) fun vl s2 h2 => ?_)
 obtain ⟨l, H2, I2, pl, q2⟩ := h2
 refine bP (hu pins s2 σ H2 _ I2 q2) fun vu s3 h3 => ?_
 obtain ⟨u, H3, I3, pu, q3⟩ := h3
 rw [evalPart_none]
 refine wpAny_pure ?_
 have I4 : Inv X pins σ H3 { s3 with heap := s3.heap.push { cls := .type "slice", data := .fields #[vl, vu, .none] } } := I3.kept (t' := s3.toks) fun b ob q => Heap.get?_push_of_some _ q
 obtain ⟨T, id, hT, ht, hg⟩ := hr pins { s3 with heap := s3.heap.push { cls := .type "slice", data := .fields #[vl, vu, .none] } } σ H3 x v vl vu l u s3.heap.objs.size Q I4 r1 (Heap.IsSliceOf.new ..) pl pu q3
 show wpAny (model X.prog X.w) X.A (subscriptTail e (.Slice lo hi none p2) v (.ref s3.heap.objs.size)) (EP X pins σ Q) X.xe { s3 with heap := s3.heap.push { cls := .type "slice", data := .fields #[vl, vu, .none] } }
 exact tail_any (ops := [.ref s3.heap.objs.size, v]) ht hT hg (by with_unfolding_all rfl)
def g7 (xs : List V) (lo hi : Option Int) : List V := (xs.drop (HT.pV xs.length 0 lo)).take (HT.pV xs.length xs.length hi - HT.pV xs.length 0 lo)
theorem oi (xs : List V) (lo hi : Option Int) : (g7 xs lo hi).length <= xs.length := by
 unfold g7
 rw [DU, Ei]
 exact Di (Nat.min_le_right _ _) (Nat.sub_le _ _)
end
def wD (n : Nat) (i : Int) : Option Nat := if 0 <= i then (if i < n then some i.toNat else none) else if -(n : Int) <= i then some (i + n).toNat else none
def nU {α : Type} (xs : List α) (i : Int) : Option α := (wD xs.length i).bind fun j => xs[j]?
theorem rd {n : Nat} {i : Int} {j : Nat} (h : wD n i = some j) : seqIndex? i n = some j /\ j < n /\ -(n : Int) <= i /\ i < n := by
 unfold wD at h
 by_cases h0 : 0 <= i
 ·rw [if_pos h0] at h
  by_cases h1 : i < n
  ·rw [if_pos h1] at h
   have e : i.toNat = j := Option.some.inj h
   exact ⟨by rw [seqIndex_of h0 h1, e], by omega, by omega, h1⟩
  ·rw [if_neg h1] at h; cases h
 ·rw [if_neg h0] at h
  by_cases h1 : -(n : Int) <= i
  ·rw [if_pos h1] at h
   have e : (i + n).toNat = j := Option.some.inj h
   exact ⟨by rw [seqIndex_neg (by omega) h1, e], by omega, h1, by omega⟩
  ·rw [if_neg h1] at h; cases h
theorem rf {α : Type} {xs : List α} {i : Int} {v : α} (h : nU xs i = some v) : ∃ j, seqIndex? i xs.length = some j /\ xs[j]? = some v /\ j < xs.length /\ -(xs.length : Int) <= i /\ i < xs.length := by
 unfold nU at h
 cases e : wD xs.length i with
 | none => rw [e] at h; cases h
 | some j =>
  rw [e] at h
  obtain ⟨h1, h2, h3, h4⟩ := rd e
  exact ⟨j, h1, h, h2, h3, h4⟩
theorem bZ {α : Type} {xs : List α} {j : Nat} {v : α} (h : xs[j]? = some v) : nU xs (j : Int) = some v := by
 have hj : j < xs.length := (CS.mp h).1
 have e : wD xs.length (j : Int) = some j := by
  unfold wD
  rw [if_pos (by omega), if_pos (by omega)]; simp
 unfold nU; rw [e]; exact h
def wU (b : Expr) : Prop := ∀ o i, subscripted b false o i = operate [o, i] (getItem o i)
def Ae (X : Cx) (r : R2) : Prop :=
 ∀ (value slice : Expr) (pins : List (Addr × Obj)) (s : Shared) (σ : St) (H : Hp) (x y : V) (v u : Value) (Q : VK), Inv X pins σ H s -> RelV x v -> RelV y u -> r x y H Q ->
  subscripted slice false v u = operate [v, u] (getItem v u) -> wpAny (model X.prog X.w) X.A (subscriptTail value slice v u) (EP X pins σ Q) X.xe s
def BG (X : Cx) (id : String) (r : V -> List V -> Hp -> VK -> Prop) : Prop :=
 ∀ (pins : List (Addr × Obj)) (s : Shared) (σ : St) (H : Hp) (x : V) (xs : List V) (v : Value) (us : List Value) (Q : VK), Inv X pins σ H s -> RelV x v -> Vals xs us -> r x xs H Q ->
  wpAny (model X.prog X.w) X.A (call (.builtin id) (v :: us)) (EP X pins σ Q) X.xe s
section
variable {X : Cx} {a b : Expr} {ta tb : TE} {pos : Pos}
theorem aA {r : R2} (hr : Ae X r) (ha : PE X a ta) (hb : PE X b tb) (hs : wU b) : PE X (.Subscript a b pos) (A9 r ta tb) := by
 intro pins s σ H Q I h
 exact Subscript_ (yV ha hb I h fun v u s2 x y H2 I2 rx ry q => hr a b pins s2 σ H2 x y v u Q I2 rx ry q (hs _ _))
def AF (K : PySem.W.Frag) : R2 := fun x y H Q => ∃ p xs i v, x = .ref p /\ y = .int i /\ SqL K H p xs /\ nU xs i = some v /\ Q v H
def AG (K : PySem.W.Frag) : R2 := fun x y H Q => ∃ p xs i v, x = .ref p /\ y = .int i /\ SqT K H p xs /\ nU xs i = some v /\ Q v H
theorem wV : Ae X (AF X.K) := by
 intro value slice pins s σ H x y v u Q I rx ry h hs
 obtain ⟨p, xs, i, z, rfl, rfl, hq, he, q⟩ := h
 cases rx
 obtain ⟨t, rfl⟩ := ry
 obtain ⟨its, r, pl, hz⟩ := I.list hq
 obtain ⟨j, h1, h2, h3, h4, h5⟩ := rf he
 obtain ⟨w, ew, rw'⟩ := r.get h2
 have hl := r.length
 have hn := jS
 have fin : EP X pins σ Q w s := ⟨z, H, I, rw', q⟩
 by_cases h0 : 0 <= i
 ·have hj : i.toNat = j := by
   rw [seqIndex_of h0 h5] at h1
   exact Option.some.inj h1
  exact item_listR pl.isList h0 (by omega) (by rw [hj]; simpa using ew) fin hs
 ·have hj : (i + (its.toArray.size : Int)).toNat = j := by
   rw [seqIndex_neg (by omega) h4] at h1
   rw [C2, <- hl]
   exact Option.some.inj h1
  exact subscriptTail_builtinR (x := w) pl.isList.typeIs slot_list_getitem.lookup
   (wpAny_getItem_list_neg (Q := fun r s' => r = w /\ EP X pins σ Q r s') pl.isList (by omega) (by rw [C2] <;> omega) (by omega) (by rw [hj]; simpa using ew) ⟨rfl, fin⟩) hs
theorem y4 : Ae X (AG X.K) := by
 intro value slice pins s σ H x y v u Q I rx ry h hs
 obtain ⟨p, xs, i, z, rfl, rfl, hq, he, q⟩ := h
 cases rx
 obtain ⟨t, rfl⟩ := ry
 obtain ⟨its, r, pl, hz⟩ := I.tuple hq
 obtain ⟨j, h1, h2, h3, h4, h5⟩ := rf he
 obtain ⟨w, ew, rw'⟩ := r.get h2
 have hl := r.length
 have hn := jS
 have fin : EP X pins σ Q w s := ⟨z, H, I, rw', q⟩
 exact subscriptTail_builtinR (x := w) pl.typeIs slot_tuple_getitem.lookup
  (getItem_tuple (j := j) (Q := fun r s' => r = w /\ EP X pins σ Q r s') pl (by omega) (by omega) (by rw [C2, <- hl]; exact h1) (by simpa using ew) ⟨rfl, fin⟩) hs
theorem pW (its : List Value) (n j : Nat) (u : Value) : Obj.mapSeq (·.setIfInBounds j u) { cls := .type "list", data := .seq its.toArray n } = { cls := .type "list", data := .seq (its.set j u).toArray n } := by
 simp [Obj.mapSeq]
theorem Inv.lst {pins : List (Addr × Obj)} {σ : St} {H : Hp} {s : Shared} {p : Addr} {xs : List V} (I : Inv X pins σ H s) (h : H p = some (.lst xs)) :
  ∃ (its : List Value) (n : Nat), Vals xs its /\ s.heap.get? p = some { cls := .type "list", data := .seq its.toArray n } /\ xs.length <= sizeLine := by
 obtain ⟨z, its, n, r, e⟩ := I.hok p _ h
 exact ⟨its, n, r, e, z⟩
theorem Inv.lstUpd {pins : List (Addr × Obj)} {σ : St} {H : Hp} {s : Shared} {p : Addr} {xs ys : List V} {its its' : List Value} {n n' : Nat} {f : Obj -> Obj} (I : Inv X pins σ H s) (h : H p = some (.lst xs))
  (ho : s.heap.get? p = some { cls := .type "list", data := .seq its.toArray n }) (hf : f { cls := .type "list", data := .seq its.toArray n } = { cls := .type "list", data := .seq its'.toArray n' }) (r : Vals ys its') (hz : ys.length <= sizeLine) (t : Nat) :
  Inv X pins σ (aI H p (.lst ys)) { s with heap := s.heap.update p f, toks := t } := by
 have e : (s.heap.update p f).get? p = some { cls := .type "list", data := .seq its'.toArray n' } := by
  rw [Heap.get?_update_self f ho (by rw [hf] <;> rfl), hf]
 refine I.write (x := p) (e := p) (by rw [h]; trivial) (.inl rfl) (fun b u hb q => (Heap.get?_update_other _ _ (Ne.symm hb)).trans q) ⟨_, e⟩ ?_
 exact ⟨hz, its', n', r, e⟩
def AH : V -> V -> V -> Hp -> (Hp -> Prop) -> Prop := fun o i v H Q => ∃ p xs k j, o = .ref p /\ i = .int k /\ H p = some (.lst xs) /\ wD xs.length k = some j /\ Q (aI H p (.lst (xs.set j v)))
theorem oj : Aq X AH := by
 intro pins s σ H o i v ov iv u Q I ro ri rv h
 obtain ⟨p, xs, k, j, rfl, rfl, hp, hj, q⟩ := h
 cases ro
 obtain ⟨t, rfl⟩ := ri
 obtain ⟨its, n, r, ho, hz⟩ := I.lst hp
 obtain ⟨h1, h2, h3, h4⟩ := rd hj
 have hl := r.length
 have hn := jS
 have I' : Inv X pins σ (aI H p (.lst (xs.set j v))) { s with heap := s.heap.update p (Obj.mapSeq (·.setIfInBounds j u)) } :=
  I.lstUpd hp ho (pW its n j u) (r.set rv j) (by rw [Fu]; exact hz) s.toks
 by_cases h0 : 0 <= k
 ·have hk : k.toNat = j := by
   rw [seqIndex_of h0 h4] at h1
   exact Option.some.inj h1
  exact PySem.W.ki_setAt ho h0 (by omega) (by rw [C2, <- hl]; exact h4) (by rw [hk]; exact ⟨_, I', q⟩)
 ·have hk : (k + (its.toArray.size : Int)).toNat = j := by
   rw [seqIndex_neg (by omega) h3] at h1
   rw [C2, <- hl]
   exact Option.some.inj h1
  exact PySem.W.ki_setBack ho (by omega) (by rw [C2, <- hl]; exact h3) (by omega) (by rw [hk]; exact ⟨_, I', q⟩)
theorem mW (lo hi : Option Int) (n : Nat) : (sliceBounds lo hi none n).1 = ((HT.pV n 0 lo : Nat) : Int) /\ (sliceBounds lo hi none n).2.1 = ((HT.pV n n hi : Nat) : Int) /\ (sliceBounds lo hi none n).2.2 = 1 := by
 have one : ∀ (i : Int) (d : Nat), max 0 (min (if i < 0 then i + (n : Int) else i) (n : Int)) = ((HT.pV n d (some i) : Nat) : Int) := fun i d => by
  rw [<- HT.wQ]
  by_cases h : i < 0
  ·rw [if_pos h, if_pos h, Int.min_eq_left (by omega), Int.max_comm]
  ·rw [if_neg h, if_neg h, Int.max_eq_right (Int.le_min.mpr ⟨Int.not_lt.mp h, Int.natCast_nonneg n⟩)]
 refine ⟨?_, ?_, rfl⟩
 ·cases lo with
  | none => rfl
  | some i => exact one i 0
 ·cases hi with
  | none => rfl
  | some i => exact one i n
theorem kW (its : List Value) (lo hi : Option Int) : slicePick its.toArray lo hi none = ((its.drop (HT.pV its.length 0 lo)).take (HT.pV its.length its.length hi - HT.pV its.length 0 lo)).toArray := by
 obtain ⟨h1, h2, h3⟩ := mW lo hi its.toArray.size
 unfold slicePick
 rw [h1, h2, h3]
 simp only [sliceRange_one, pick_run, C2] <;> rfl
def AI (K : PySem.W.Frag) : V -> Option Int -> Option Int -> Hp -> VK -> Prop := fun x lo hi H Q => ∃ a xs, x = .ref a /\ SqL K H a xs /\ ∀ p, H p = none -> Q (.ref p) (aI H p (.lst (g7 xs lo hi)))
theorem wW : Ba X (AI X.K) := by
 intro pins s σ H x v vl vu lo hi sl Q I rx hs pl pu h
 obtain ⟨a, xs, rfl, hx, q⟩ := h
 cases rx
 obtain ⟨its, r, ht, hz⟩ := I.list hx
 have hlen := r.length
 refine ⟨"list", _, slot_list_getitem.lookup, ht.isList.typeIs, ?_⟩
 refine wpAny_getItem_list_slice ht.isList hs pl pu .none (by simp) ?_ (by rw [C2] <;> omega)
 rw [kW, <- hlen]
 refine ⟨.ref s.heap.objs.size, _, I.laid (t' := s.toks) (o := .lst (g7 xs lo hi)) (fun b ob q => Heap.get?_push_of_some _ q) (C0 _) ?_, rfl, q _ (I.hok.fresh (C0 _))⟩
 exact ⟨Di (oi xs lo hi) hz, _, 0, (r.drop (HT.pV xs.length 0 lo)).take (HT.pV xs.length xs.length hi - HT.pV xs.length 0 lo), Heap.get?_push_size _ rfl⟩
def cO : V -> Bool
 | .non => true
 | .bl _ => true
 | .int _ => true
 | .str _ => true
 | _ => false
def rg : V -> V -> Bool
 | .non, .non => true
 | .bl a, .bl b => a == b
 | .bl a, .int b => (if a then 1 else 0) == b
 | .int a, .bl b => a == (if b then 1 else 0)
 | .int a, .int b => a == b
 | .str a, .str b => a == b
 | _, _ => false
theorem uH {A : Around} {s : Shared} {y x : V} {u v : Value} (ry : RelV y u) (rx : RelV x v) (fy : cO y = true) (fx : cO x = true) : SeqAt.EqAt A s u v (rg y x) := by
 cases y with
 | non =>
  cases ry
  cases x with
  | non => cases rx; exact SeqAt.EqAt.same _
  | bl b => cases rx; exact SeqAt.EqAt.none_bool b
  | int b => obtain ⟨t, rfl⟩ := rx; exact SeqAt.EqAt.none_int b t
  | str b => obtain ⟨t, rfl⟩ := rx; exact SeqAt.EqAt.none_str b t
  | _ => exact absurd (show false = true from fx) C4
 | bl a =>
  cases ry
  cases x with
  | non => cases rx; exact SeqAt.EqAt.bool_none a
  | bl b => cases rx; exact SeqAt.EqAt.bool_bool a b
  | int b => obtain ⟨t, rfl⟩ := rx; exact SeqAt.EqAt.bool_int a b t
  | str b => obtain ⟨t, rfl⟩ := rx; exact SeqAt.EqAt.bool_str a b t
  | _ => exact absurd (show false = true from fx) C4
 | int a =>
  obtain ⟨t', rfl⟩ := ry
  cases x with
  | non => cases rx; exact SeqAt.EqAt.int_none a t'
  | bl b => cases rx; exact SeqAt.EqAt.int_bool a t' b
  | int b => obtain ⟨t, rfl⟩ := rx; exact SeqAt.EqAt.int_int a t' b t
  | str b => obtain ⟨t, rfl⟩ := rx; exact SeqAt.EqAt.int_str a t' b t
  | _ => exact absurd (show false = true from fx) C4
 | str a =>
  obtain ⟨t', rfl⟩ := ry
  cases x with
  | non => cases rx; exact SeqAt.EqAt.str_none a t'
  | bl b => cases rx; exact SeqAt.EqAt.str_bool a t' b
  | int b => obtain ⟨t, rfl⟩ := rx; exact SeqAt.EqAt.str_int a t' b t
  | str b => obtain ⟨t, rfl⟩ := rx; exact SeqAt.EqAt.str_str a t' b t
  | _ => exact absurd (show false = true from fx) C4
 | _ => exact absurd (show false = true from fy) C4
def pX (x : V) (u : Value) : Bool := match u with
 | .none => rg .non x
 | .bool b => rg (.bl b) x
 | .int i _ => rg (.int i) x
 | .str z _ => rg (.str z) x
 | _ => false
theorem uI {x y : V} {u : Value} (r : RelV y u) (f : cO y = true) : pX x u = rg y x := by
 cases y with
 | non => cases r; rfl
 | bl b => cases r; rfl
 | int i => obtain ⟨t, rfl⟩ := r; rfl
 | str z => obtain ⟨t, rfl⟩ := r; rfl
 | _ => exact absurd (show false = true from f) C4
theorem jI {x : V} : ∀ {xs : List V} {us : List Value}, Vals xs us -> xs.all cO = true -> us.any (pX x) = xs.any fun y => rg y x := by
 intro xs us h
 induction h with
 | nil => intro _; rfl
 | cons r t ih =>
  intro f
  rw [List.all_cons, Dx] at f
  rw [ET, ET, uI r f.1, ih f.2]
theorem g8 {A : Around} {s : Shared} {x : V} {v : Value} (rx : RelV x v) (fx : cO x = true) : ∀ {xs : List V} {us : List Value}, Vals xs us -> xs.all cO = true -> ∀ u ∈ us, SeqAt.EqAt A s u v (pX x u) := by
 intro xs us h
 induction h with
 | nil => intro _ u hu; cases hu
 | cons r t ih =>
  intro f u' hu
  rw [List.all_cons, Dx] at f
  rcases C5.mp hu with rfl | hu
  ·rw [uI r f.1]; exact uH r rx f.1 fx
  ·exact ih f.2 u' hu
def Bb (x : V) (xs : List V) : Bool := xs.any fun y => rg y x
def Bc (K : PySem.W.Frag) (neg : Bool) : R2 := fun x y H Q => ∃ p xs, y = .ref p /\ (SqL K H p xs \/ SqT K H p xs) /\ cO x = true /\ xs.all cO = true /\ Q (.bl (if neg then !Bb x xs else Bb x xs)) H
theorem sM : fh X (compareOp .In) (Bc X.K false) := by
 intro pins s σ H x y v u Q I rx ry h
 obtain ⟨p, xs, rfl, hq, fx, fs, q⟩ := h
 cases ry
 rcases hq with hq | hq
 ·obtain ⟨its, r, pl, hz⟩ := I.list hq
  refine SeqAt.in_listAt (pX x) pl.isList (fun w hw => g8 rx fx r fs w (by simpa using hw)) ⟨.bl _, H, I, rfl, ?_⟩
  rw [show its.toArray.any (pX x) = its.any (pX x) by simp, jI r fs]
  exact q
 ·obtain ⟨its, r, pl, hz⟩ := I.tuple hq
  refine SeqAt.in_tupleAt (pX x) pl (fun w hw => g8 rx fx r fs w (by simpa using hw)) ⟨.bl _, H, I, rfl, ?_⟩
  rw [show its.toArray.any (pX x) = its.any (pX x) by simp, jI r fs]
  exact q
theorem mX : fh X (compareOp .NotIn) (Bc X.K true) := by
 intro pins s σ H x y v u Q I rx ry h
 obtain ⟨p, xs, rfl, hq, fx, fs, q⟩ := h
 cases ry
 rcases hq with hq | hq
 ·obtain ⟨its, r, pl, hz⟩ := I.list hq
  refine SeqAt.notIn_listAt (pX x) pl.isList (fun w hw => g8 rx fx r fs w (by simpa using hw)) ⟨.bl _, H, I, rfl, ?_⟩
  rw [show its.toArray.any (pX x) = its.any (pX x) by simp, jI r fs]
  exact q
 ·obtain ⟨its, r, pl, hz⟩ := I.tuple hq
  refine SeqAt.notIn_tupleAt (pX x) pl (fun w hw => g8 rx fx r fs w (by simpa using hw)) ⟨.bl _, H, I, rfl, ?_⟩
  rw [show its.toArray.any (pX x) = its.any (pX x) by simp, jI r fs]
  exact q
theorem mY : cu X (.type "list") (fun xs H Q => ∃ p ys, xs = [.ref p] /\ (SqL X.K H p ys \/ SqT X.K H p ys) /\ ∀ l, H l = none -> Q (.ref l) (aI H l (.lst ys))) := by
 intro pins s σ H xs us Q I r h
 obtain ⟨p, ys, rfl, hq, q⟩ := h
 obtain ⟨u, rfl, rx⟩ := fv r
 cases rx
 have fin : ∀ (its : List Value), Vals ys its -> ys.length <= sizeLine -> ∀ (h' : Heap) (c' : Nat), (∀ b o', s.heap.get? b = some o' -> h'.get? b = some o') ->
   h'.get? s.heap.objs.size = some { cls := .type "list", dict := none, data := .seq its.toArray c', slots := #[] } -> EP X pins σ Q (.ref s.heap.objs.size) { s with heap := h' } := fun its r' hz h' c' kp e =>
  ⟨.ref s.heap.objs.size, _, I.laid (t' := s.toks) kp (C0 _) (show ObjOk X.prog X.w _ h' _ (.lst ys) from ⟨hz, its, c', r', e⟩), rfl, q _ (I.hok.fresh (C0 _))⟩
 rcases hq with hq | hq
 ·obtain ⟨its, r', pl, hz⟩ := I.list hq
  have hlen := r'.length
  obtain ⟨o, ho, hc, n, hd⟩ := pl.isList
  exact call_list_seq p (.inl rfl) ho hc hd (fun h' c' kp e => fin its r' hz h' c' kp e) (by simp only [C2] <;> omega)
 ·obtain ⟨its, r', pl, hz⟩ := I.tuple hq
  have hlen := r'.length
  obtain ⟨o, ho, hc, n, hd⟩ := pl
  exact call_list_seq p (.inr rfl) ho hc hd (fun h' c' kp e => fin its r' hz h' c' kp e) (by simp only [C2] <;> omega)
theorem gh : cu X (.type "tuple") (fun xs H Q => ∃ p ys, xs = [.ref p] /\ ((SqL X.K H p ys /\ ∀ l, H l = none -> Q (.ref l) (aI H l (.tup ys))) \/ (SqT X.K H p ys /\ Q (.ref p) H))) := by
 intro pins s σ H xs us Q I r h
 obtain ⟨p, ys, rfl, h⟩ := h
 obtain ⟨u, rfl, rx⟩ := fv r
 cases rx
 rcases h with ⟨hq, q⟩ | ⟨hq, q⟩
 ·obtain ⟨its, r', pl, hz⟩ := I.list hq
  have hlen := r'.length
  refine call_tuple_list pl.isList (fun h' kp => ?_) (by simp only [C2] <;> omega)
  have I1 : Inv X pins σ H { s with heap := h' } := I.kept (t' := s.toks) kp
  have I2 : Inv X pins σ (aI H h'.objs.size (.tup ys)) { s with heap := h'.push { cls := .type "tuple", data := .seq its.toArray } } :=
   I1.laid (t' := s.toks) (fun b o e => Heap.get?_push_of_some _ e) (C0 _) (show ObjOk X.prog X.w _ _ _ (.tup ys) from ⟨hz, its, r', IsTup.new _ _⟩)
  exact ⟨.ref h'.objs.size, _, I2, rfl, q _ (I1.hok.fresh (C0 _))⟩
 ·obtain ⟨its, r', pl, hz⟩ := I.tuple hq
  exact call_tuple_same pl ⟨.ref p, H, I, rfl, q⟩
def BH (K : PySem.W.Frag) (T : String) (x : V) (H : Hp) : Prop := match x with
 | .str _ => T = "str"
 | .int _ => T = "int"
 | .ref p => (T = "list" /\ ∃ xs, SqL K H p xs) \/ (T = "tuple" /\ ∃ o, K.lookup p = some o /\ o.cls = .type "tuple" /\ o.dict = none) \/
  (T = "dict" /\ ((∃ kvs, H p = some (.dK kvs)) \/ ∃ kvs, H p = some (.dT kvs))) \/ (T = "set" /\ ∃ S n, H p = some (.set S n))
 | _ => False
theorem uJ {pins : List (Addr × Obj)} {σ : St} {H : Hp} {s : Shared} {T : String} {x : V} {v : Value} (I : Inv X pins σ H s) (r : RelV x v) (ty : BH X.K T x H) :
  s.TypeIs v T /\ ∀ a, v = .ref a -> ∃ ob, s.heap.get? a = some ob /\ ob.dict = none := by
 cases x with
 | str z =>
  obtain ⟨t, rfl⟩ := r
  cases (show T = "str" from ty)
  exact ⟨typeIs_str s z t, fun _ e => nomatch e⟩
 | int i =>
  obtain ⟨t, rfl⟩ := r
  cases (show T = "int" from ty)
  exact ⟨typeIs_int s i t, fun _ e => nomatch e⟩
 | ref p =>
  cases r
  rcases ty with ⟨rfl, xs, hq⟩ | ⟨rfl, o, hk, hc, hd⟩ | ⟨rfl, hk⟩ | ⟨rfl, S, n, hk⟩
  ·obtain ⟨its, _, pl, _⟩ := I.list hq
   refine ⟨pl.isList.typeIs, fun a e => ?_⟩
   cases e
   obtain ⟨o, n, e, c, hd, _⟩ := pl
   exact ⟨o, e, hd⟩
  ·refine ⟨⟨o, I.kIn p o hk, hc⟩, fun a e => ?_⟩
   cases e
   exact ⟨o, I.kIn _ o hk, hd⟩
  ·have z : ∃ o, s.heap.get? p = some o /\ o.ExactDict := by
    rcases hk with ⟨kvs, hk⟩ | ⟨kvs, hk⟩
    ·obtain ⟨_, _, _, _, o, _, _, e, ex, _⟩ := I.hok p _ hk
     exact ⟨o, e, ex⟩
    ·obtain ⟨_, _, _, _, o, _, _, e, ex, _⟩ := I.hok p _ hk
     exact ⟨o, e, ex⟩
   obtain ⟨o, e, ex⟩ := z
   refine ⟨⟨o, e, ex.1⟩, fun a e2 => ?_⟩
   cases e2
   exact ⟨o, e, ex.2.1⟩
  ·obtain ⟨o, _, _, _, e, ex, _⟩ := I.hok p _ hk
   refine ⟨⟨o, e, ex.1⟩, fun a e2 => ?_⟩
   cases e2
   exact ⟨o, e, ex.2.1⟩
 | _ => exact False.elim ty
def BI (K : PySem.W.Frag) (T : String) (r : V -> List V -> Hp -> VK -> Prop) (to : TE) : TE := fun σ H Q => to σ H fun x H1 => BH K T x H1 /\ r x [] H1 Q
def Cm (K : PySem.W.Frag) (T : String) (r : V -> List V -> Hp -> VK -> Prop) (to : TE) (t : TA) : TE := fun σ H Q => to σ H fun x H1 => BH K T x H1 /\ t σ H1 fun xs H2 => r x xs H2 Q
variable {o e : Expr} {es : List Expr} {to : TE} {t : TA} {name : Str} {apos cpos : Pos} {T id : String} {r : V -> List V -> Hp -> VK -> Prop}
theorem uK (pa : PlainAttrs T) (slot : Slot T name id) (hty : typeOf (.builtin id) = pure (.type "method_descriptor")) (hm : BG X id r) (ho : PE X o to)
  (hbase : attributeBase o name X.env (eval o X.env) = eval o X.env := by rfl) (hline : (apos.endLine == cpos.line) = true := by rfl) : PE X (.Call (.Attribute o name apos) [] [] cpos) (BI X.K T r to) := by
 intro pins s σ H Q I h
 refine wpAny_Call_method0_late hbase hline (bP (ho pins s σ H _ I h) fun v s1 hq__ => ?_)
 obtain ⟨x, H1, I1, r1, ty, q1⟩ := hq__
 obtain ⟨h1, h2⟩ := uJ I1 r1 ty
 exact ⟨T, id, pa, slot, hty, h1, h2, Calls.callWith_builtin rfl (PySem.evalArgs_none (hm pins s1 σ H1 x [] v [] Q I1 r1 .nil q1))⟩
theorem dE (pa : PlainAttrs T) (slot : Slot T name id) (hty : typeOf (.builtin id) = pure (.type "method_descriptor")) (hm : BG X id r) (ho : PE X o to) (ha : PA X (e :: es) t)
  (hbase : attributeBase o name X.env (eval o X.env) = eval o X.env := by rfl)
  (hfew : ((backTo cpos (starEach (e :: es) X.env)).all (fun x => !x.1) && (backToKw cpos (keywordEach [] X.env)).all (fun x => x.1.isSome)
   && decide ((e :: es).length + ([] : List Keyword).length + (if ([] : List Keyword).isEmpty then 0 else 1) < 30)) = true := by rfl)
  (hline : (apos.endLine == cpos.line) = true := by rfl) (hs : starEach (e :: es) X.env = (false, eval e X.env) :: starEach es X.env := by rfl) (hplain : (backTo cpos (starEach es X.env)).any (·.1) = false := by rfl) :
  PE X (.Call (.Attribute o name apos) (e :: es) [] cpos) (Cm X.K T r to t) := by
 intro pins s σ H Q I h
 refine wpAny_Call_method_late hbase hfew hline rfl (bP (ho pins s σ H _ I h) fun v s1 hq__ => ?_)
 obtain ⟨x, H1, I1, r1, ty, q1⟩ := hq__
 obtain ⟨h1, h2⟩ := uJ I1 r1 ty
 refine ⟨T, id, pa, slot, hty, h1, h2, ?_⟩
 have hA := ha cpos pins s1 σ H1 _ I1 q1
 rw [hs] at hA ⊢
 refine Calls.callWith_builtin (by show (false || (backTo cpos (starEach es X.env)).any (·.1)) = false; rw [hplain] <;> rfl) (Calls.evalArgs_plain ?_)
 exact bP hA fun us s2 ⟨vs, H2, I2, r2, q2⟩ => hm pins s2 σ H2 x vs v us Q I2 r1 r2 q2
end
def Bd (X : Cx) (id : String) (r : V -> List V -> Hp -> VK -> Prop) : Prop :=
 ∀ (pins : List (Addr × Obj)) (s : Shared) (σ : St) (H : Hp) (x : V) (xs : List V) (v : Value) (us : List Value) (Q : VK), Inv X pins σ H s -> RelV x v -> Vals xs us -> r x xs H Q ->
  wpAny (model X.prog X.w) X.A (call (.builtin id) (v :: us)) (EP X pins σ Q) X.xe s
theorem Vals.one : ∀ {x : V} {us : List Value}, Vals [x] us -> ∃ u, us = [u] /\ RelV x u := by
 intro x us h
 cases h with
 | cons r t => cases t; exact ⟨_, rfl, r⟩
theorem Vals.zero : ∀ {us : List Value}, Vals [] us -> us = []
 | _, .nil => rfl
theorem Vals.rep {xs : List V} {us : List Value} (h : Vals xs us) : ∀ k : Nat, Vals (DB k xs).flatten (DB k us).flatten
 | 0 => .nil
 | k + 1 => by
  rw [Ef, Ef, EH, EH]
  exact Vals.append h (Vals.rep h k)
theorem Vals.dropLast {xs : List V} {us : List Value} (h : Vals xs us) : Vals xs.dropLast us.dropLast := by
 induction h with
 | nil => exact .nil
 | cons r t ih =>
  cases t with
  | nil => exact .nil
  | cons q t' => exact .cons r ih
theorem pY {α : Type} (l : List α) : l.eraseIdx (l.length - 1) = l.dropLast := by
 induction l with
 | nil => rfl
 | cons a r ih =>
  cases r with
  | nil => rfl
  | cons b r =>
   have e : (a :: b :: r).length - 1 = ((b :: r).length - 1) + 1 := by
    have h1 : (a :: b :: r).length = r.length + 2 := rfl
    have h2 : (b :: r).length = r.length + 1 := rfl
    omega
   rw [e, List.eraseIdx_cons_succ, ih]
   all_goals rfl
theorem sN (its : List Value) (k : Nat) (acc : List Value) : Fy (fun x1 x2 => x1 ++ x2) acc.toArray (DB k its.toArray) = (acc ++ (DB k its).flatten).toArray := by
 induction k generalizing acc with
 | zero => simp
 | succ k ih =>
  have e : acc.toArray ++ its.toArray = (acc ++ its).toArray := by simp
  have e2 : (acc ++ its) ++ (DB k its).flatten = acc ++ (DB (k + 1) its).flatten := by
   rw [Ef, EH, EX]
  rw [<- e2, <- ih (acc ++ its), <- e, Ef, EB]
section
variable {X : Cx} {pins : List (Addr × Obj)} {σ : St} {H : Hp} {s : Shared} {l b : Addr} {xs ys zs : List V}
theorem Inv.lset {its its' : List Value} {n : Nat} {f : Array Value -> Array Value} {t' : Nat} (I : Inv X pins σ H s) (hH : H l = some (.lst xs))
  (e : s.heap.get? l = some { cls := .type "list", data := .seq its.toArray n }) (hf : f its.toArray = its'.toArray) (hv : Vals ys its') (hz : ys.length <= sizeLine) :
  Inv X pins σ (aI H l (.lst ys)) { s with heap := s.heap.update l (Obj.mapSeq f), toks := t' } := by
 have q := PySem.IsL.update e f
 rw [hf] at q
 refine I.write (x := l) (e := l) (by rw [hH]; exact trivial) (.inl rfl) (fun b' u hb hu => (Heap.get?_update_other s.heap (Obj.mapSeq f) (Ne.symm hb)).trans hu) ⟨_, q⟩ ?_
 exact ⟨hz, its', _, hv, q⟩
theorem Inv.lnew {its : List Value} {t' : Nat} (I : Inv X pins σ H s) (hv : Vals ys its) (hz : ys.length <= sizeLine) :
  Inv X pins σ (aI H s.heap.objs.size (.lst ys)) { s with heap := s.heap.push { cls := .type "list", data := .seq its.toArray }, toks := t' } :=
 I.laid (fun _ _ q => Heap.get?_push_of_some _ q) (C0 _) ⟨hz, its, 0, hv, Heap.get?_push_size _ rfl⟩
theorem Inv.fresh (I : Inv X pins σ H s) : H s.heap.objs.size = none := I.hok.fresh (C0 _)
theorem Inv.lstM (I : Inv X pins σ H s) (hH : H l = some (.lst xs)) : xs.length <= sizeLine /\ ∃ (its : List Value) (n : Nat), Vals xs its /\ xs.length = its.length /\ s.heap.get? l = some { cls := .type "list", data := .seq its.toArray n } := by
 obtain ⟨z, its, n, r, e⟩ := I.hok l _ hH
 exact ⟨z, its, n, r, r.length, e⟩
theorem om {n : Nat} (h : n <= sizeLine) : Builtin.List.listTooLong n = false := by
 unfold Builtin.List.listTooLong
 exact decide_eq_false (by omega)
end
section
variable {X : Cx}
def wX : V -> List V -> Hp -> VK -> Prop := fun x vs H Q => ∃ l xs y, x = .ref l /\ vs = [y] /\ H l = some (.lst xs) /\ xs.length < sizeLine /\ Q .non (aI H l (.lst (xs ++ [y])))
theorem aX : Bd X "list.append" wX := by
 intro pins s σ H x vs v us Q I rx rv h
 obtain ⟨l, xs, y, rfl, rfl, hH, hz, q⟩ := h
 cases rx
 obtain ⟨u, rfl, ru⟩ := rv.one
 obtain ⟨z, its, n, r, hl, e⟩ := I.lstM hH
 refine call_meets F.slot_list_append ⟨_, e, rfl⟩ F.entry_list_append (F.args_list_append_2 _ _) (PySem.list_append l its.toArray n u (by rw [C2]; omega)) ⟨e, ?_⟩
 refine ⟨.non, _, I.lset (its' := its ++ [u]) hH e (by simp) (r.append (.cons ru .nil)) ?_, rfl, q⟩
 rw [C3, Da]
 omega
def wY : V -> List V -> Hp -> VK -> Prop := fun x vs H Q => ∃ l b xs zs, x = .ref l /\ vs = [.ref b] /\ H l = some (.lst xs) /\ H b = some (.lst zs) /\ xs.length + zs.length <= sizeLine /\ Q .non (aI H l (.lst (xs ++ zs)))
theorem Af : Bd X "list.extend" wY := by
 intro pins s σ H x vs v us Q I rx rv h
 obtain ⟨l, b, xs, zs, rfl, rfl, hH, hB, hz, q⟩ := h
 cases rx
 obtain ⟨u, rfl, ru⟩ := rv.one
 cases ru
 obtain ⟨z, its, n, r, hl, e⟩ := I.lstM hH
 obtain ⟨z2, its2, n2, r2, hl2, e2⟩ := I.lstM hB
 have hsz : its.toArray.size + its2.toArray.size <= sizeLine := by rw [C2, C2]; omega
 have hlong : ¬ (!its.toArray.isEmpty && Builtin.List.listTooLong (its.toArray.size + its2.toArray.size)) = true := by
  rw [om hsz, Bool.and_false]
  exact C4
 refine call_meets F.slot_list_extend ⟨_, e, rfl⟩ F.entry_list_extend (F.args_list_extend_2 _ _)
  (AutoSeq1.list_extend_list_list_0 l its.toArray n b its2.toArray n2 hlong (by rw [C2]; omega) (by omega)) ⟨e, e2, ?_⟩
 refine ⟨.non, _, I.lset (its' := its ++ its2) hH e (by simp) (r.append r2) ?_, rfl, q⟩
 rw [C3]
 omega
def BJ : V -> List V -> Hp -> VK -> Prop := fun x vs H Q => ∃ l xs y, x = .ref l /\ vs = [] /\ H l = some (.lst xs) /\ xs[xs.length - 1]? = some y /\ Q y (aI H l (.lst xs.dropLast))
theorem BK : Bd X "list.pop" BJ := by
 intro pins s σ H x vs v us Q I rx rv h
 obtain ⟨l, xs, y, rfl, rfl, hH, hy, q⟩ := h
 cases rx
 have hus := rv.zero
 subst hus
 obtain ⟨z, its, n, r, hl, e⟩ := I.lstM hH
 obtain ⟨u, hu, ru⟩ := r.get hy
 have hy' : its.toArray[its.toArray.size - 1]? = some u := by
  show its.toArray[its.length - 1]? = some u
  rw [<- DM, <- hl]
  exact hu
 refine call_meets F.slot_list_pop ⟨_, e, rfl⟩ F.entry_list_pop (F.args_list_pop_1 _) (MeetsSeq.list_pop_last l its.toArray n u hy' (by rw [C2]; omega)) ⟨e, ?_⟩
 refine ⟨y, _, I.lset (its' := its.dropLast) hH e ?_ r.dropLast ?_, ru, q⟩
 ·show its.toArray.eraseIdxIfInBounds (its.toArray.size - 1) = its.dropLast.toArray
  rw [C2, List.eraseIdxIfInBounds_toArray, pY]
 ·rw [E6]
  omega
def y6 : V -> List V -> Hp -> VK -> Prop := fun x vs H Q => ∃ l xs, x = .ref l /\ vs = [] /\ H l = some (.lst xs) /\ Q .non (aI H l (.lst []))
theorem uL : Bd X "list.clear" y6 := by
 intro pins s σ H x vs v us Q I rx rv h
 obtain ⟨l, xs, rfl, rfl, hH, q⟩ := h
 cases rx
 have hus := rv.zero
 subst hus
 obtain ⟨z, its, n, r, hl, e⟩ := I.lstM hH
 refine call_meets F.slot_list_clear ⟨_, e, rfl⟩ F.entry_list_clear (F.args_list_clear_1 _) (AutoSeq1.list_clear_list_0 l its.toArray n (by rw [C2]; omega)) ⟨e, ?_⟩
 exact ⟨.non, _, I.lset (its' := []) (ys := []) hH e rfl .nil (Dk _), rfl, q⟩
def BL : R2 := fun x y H Q => ∃ l b xs zs, x = .ref l /\ y = .ref b /\ H l = some (.lst xs) /\ H b = some (.lst zs) /\ xs.length + zs.length <= sizeLine /\ ∀ p, H p = none -> Q (.ref p) (aI H p (.lst (xs ++ zs)))
theorem gA : fh X (binaryOp .Add) BL := by
 intro pins s σ H x y v u Q I rx ry h
 obtain ⟨l, b, xs, zs, rfl, rfl, hH, hB, hz, q⟩ := h
 cases rx
 cases ry
 obtain ⟨z, its, n, r, hl, e⟩ := I.lstM hH
 obtain ⟨z2, its2, n2, r2, hl2, e2⟩ := I.lstM hB
 refine PySem.P.add_list e e2 ?_ (by rw [C2, C2]; omega)
 have ea : its.toArray ++ its2.toArray = (its ++ its2).toArray := by simp
 rw [ea]
 exact ⟨.ref _, _, I.lnew (t' := s.toks) (r.append r2) (by rw [C3]; omega), rfl, q _ I.fresh⟩
def BM : R2 := fun x y H Q => ∃ l k xs, x = .ref l /\ y = .int k /\ H l = some (.lst xs) /\ -(2 ^ 63) <= k /\ k < 2 ^ 63 /\ xs.length * k.toNat <= sizeLine /\
 ∀ p, H p = none -> Q (.ref p) (aI H p (.lst (DB k.toNat xs).flatten))
theorem wZ {α : Type} (xs : List α) (k : Nat) : (DB k xs).flatten.length = k * xs.length := by
 induction k with
 | zero => simp
 | succ k ih => rw [Ef, EH, C3, ih, Nat.succ_mul, Nat.add_comm]
theorem y8 : fh X (binaryOp .Mult) BM := by
 intro pins s σ H x y v u Q I rx ry h
 obtain ⟨l, k, xs, rfl, rfl, hH, h1, h2, hz, q⟩ := h
 cases rx
 obtain ⟨t, rfl⟩ := ry
 obtain ⟨z, its, n, r, hl, e⟩ := I.lstM hH
 have hlen : its.toArray.size * k.toNat <= sizeLine := by rw [C2, <- hl]; exact hz
 have hcap : ¬ its.toArray.size * k.toNat > (2 ^ 63 - 1) / 8 := by
  have : (sizeLine : Nat) <= (2 ^ 63 - 1) / 8 := by decide
  omega
 have hfit : ¬ (!Builtin.List.listFitsIndex k) = true := by
  rw [fitsIndex_both h1 h2]
  exact C4
 have hlong : ¬ Builtin.List.listTooLong (its.toArray.size * k.toNat) = true := by
  rw [om hlen]
  exact C4
 have hnew : Fy (fun x1 x2 => x1 ++ x2) #[] (DB (if its.toArray.isEmpty = true then 0 else k.toNat) its.toArray) = (DB k.toNat its).flatten.toArray := by
  have f0 : ∀ m : Nat, Fy (fun x1 x2 => x1 ++ x2) #[] (DB m its.toArray) = (DB m its).flatten.toArray := fun m => by
   have := sN its m []
   rw [List.nil_append] at this
   exact this
  rw [f0]
  cases its with
  | nil => simp
  | cons a r' => rw [if_neg (by simp)]
 refine wpAny_binaryOp_repeat_ref (T := "list") (U := "int") (by decide) ⟨_, e, rfl⟩ (fun s' => typeIs_int s' k t) noFill_list_mul F.fills_int_mul F.slot_int_rmul repeat_list F.slot_int_index.lookup
  (call_meets F.slot_int_rmul (typeIs_int s k t) F.entry_int_rmul (F.args_int_rmul_2 _ _) (int___rmul___int_list k t l its.toArray n)
   ⟨e, rfl, ⟨_, e, rfl⟩, call_meets F.slot_list_mul ⟨_, e, rfl⟩ F.entry_list_mul (F.args_list_mul_2 _ _) (AutoListH.list___mul___list_int_3 l its.toArray n k t hfit hcap hlong) ⟨e, ?_⟩⟩)
 rw [hnew]
 exact ⟨.ref _, _, I.lnew (t' := s.toks) (r.rep k.toNat) (by rw [wZ, Nat.mul_comm]; exact hz), rfl, q _ I.fresh⟩
end
section
variable {prog : Program} {w : World} {A : Around} {E : Value -> Shared -> Prop} {s : Shared}
end
section
variable {X : Cx}
end
section
variable {κ : Type} [DecidableEq κ]
def bB (kvs : List (κ × V)) (k : κ) : Option V := (kvs.find? fun kv => decide (kv.1 = k)).map (·.2)
def cy (kvs : List (κ × V)) (k : κ) (v : V) : List (κ × V) :=
 if (kvs.any fun kv => decide (kv.1 = k)) = true then kvs.map (fun kv => if kv.1 = k then (kv.1, v) else kv) else kvs ++ [(k, v)]
theorem bC {p : κ × V} {r : List (κ × V)} {k : κ} (e : p.1 = k) : bB (p :: r) k = some p.2 := by simp [bB, EC, e]
theorem bD {p : κ × V} {r : List (κ × V)} {k : κ} (e : ¬ p.1 = k) : bB (p :: r) k = bB r k := by simp [bB, EC, e]
theorem b9 (k : κ) (kvs : List (κ × V)) : (kvs.any fun kv => decide (kv.1 = k)) = (bB kvs k).isSome := by
 induction kvs with
 | nil => rfl
 | cons p r ih =>
  rw [ET]
  by_cases e : p.1 = k
  ·simp only [bC e, decide_eq_true e, Bool.true_or, Option.isSome_some]
  ·rw [bD e, decide_eq_false e, Bool.false_or]; exact ih
theorem uM (k j : κ) (y : V) (kvs : List (κ × V)) : bB (kvs.map fun kv => if kv.1 = k then (kv.1, y) else kv) j = (bB kvs j).map fun x => if j = k then y else x := by
 induction kvs with
 | nil => rfl
 | cons p r ih =>
  rw [Dm]
  by_cases h : p.1 = k
  ·rw [if_pos h]
   by_cases e : p.1 = j
   ·rw [bC (p := (p.1, y)) e, bC e, ED, if_pos (e.symm.trans h)]
   ·rw [bD (p := (p.1, y)) e, bD e, ih]
  ·rw [if_neg h]
   by_cases e : p.1 = j
   ·rw [bC (p := p) e, bC e, ED, if_neg (fun z => h (e.trans z))]
   ·rw [bD (p := p) e, bD e, ih]
theorem sO (k j : κ) (y : V) : ∀ kvs : List (κ × V), bB kvs k = none -> bB (kvs ++ [(k, y)]) j = if j = k then some y else bB kvs j := by
 intro kvs
 induction kvs with
 | nil =>
  intro _
  by_cases e : k = j
  ·rw [if_pos e.symm]; exact bC (p := (k, y)) e
  ·rw [if_neg (fun z => e z.symm)]; exact bD (p := (k, y)) e
 | cons p r ih =>
  intro hn
  rw [List.cons_append]
  have hk : ¬ p.1 = k := fun z => by rw [bC z] at hn; cases hn
  rw [bD hk] at hn
  have ih := ih hn
  by_cases e : p.1 = j
  ·rw [bC e, bC e, if_neg (fun z => hk (e.trans z))]
  ·rw [bD e, bD e, ih]
theorem oo (kvs : List (κ × V)) (k j : κ) (y : V) : bB (cy kvs k y) j = if j = k then some y else bB kvs j := by
 unfold cy
 by_cases a : (kvs.any fun kv => decide (kv.1 = k)) = true
 ·rw [if_pos a, uM]
  rw [b9] at a
  by_cases e : j = k
  ·obtain ⟨x, hx⟩ := DY.mp a
   rw [if_pos e, e, hx, ED, if_pos rfl]
  ·rw [if_neg e]
   cases bB kvs j with
   | none => rfl
   | some x => rw [ED, if_neg e]
 ·rw [if_neg a]
  refine sO k j y kvs ?_
  rw [b9] at a
  cases q : bB kvs k with
  | none => rfl
  | some x => rw [q] at a; exact (a rfl).elim
theorem fz (kvs : List (κ × V)) (k : κ) (v : V) : (cy kvs k v).length <= kvs.length + 1 := by
 unfold cy
 split
 ·rw [CO]; omega
 ·rw [C3, Dv, List.length_nil]; omega
theorem uN {kvs : List (κ × V)} {k : κ} (v : V) (h : bB kvs k = none) : cy kvs k v = kvs ++ [(k, v)] := by
 unfold cy
 rw [b9, h]
 exact if_neg (by decide)
theorem RelO.isSome_eq {o : Option V} {u : Option Value} (r : RelO o u) : o.isSome = u.isSome := by
 cases o with
 | none => cases u with
  | none => rfl
  | some _ => exact (show False from r).elim
 | some _ => cases u with
  | none => exact (show False from r).elim
  | some _ => rfl
theorem KV.val {kvs : List (κ × V)} {vs : List (κ × Value)} (r : KV kvs vs) (k : κ) : RelO (bB kvs k) (valueAt vs k) := by
 unfold KV at r
 induction r with
 | nil => exact True.intro
 | @cons p q ps qs h t ih =>
  obtain ⟨h1, h2⟩ := h
  by_cases e : p.1 = k
  ·have e' : q.1 = k := h1.symm.trans e
   have b : valueAt (q :: qs) k = some q.2 := by simp [valueAt, EC, e']
   rw [bC e, b]; exact h2
  ·have e' : ¬ q.1 = k := fun z => e (h1.trans z)
   have b : valueAt (q :: qs) k = valueAt qs k := by simp [valueAt, EC, e']
   rw [bD e, b]; exact ih
theorem KV.any {kvs : List (κ × V)} {vs : List (κ × Value)} (r : KV kvs vs) (k : κ) : (kvs.any fun kv => decide (kv.1 = k)) = vs.any fun kv => decide (kv.1 = k) := by
 unfold KV at r
 induction r with
 | nil => rfl
 | cons h t ih => rw [ET, ET, ih, h.1]
theorem KV.repl {kvs : List (κ × V)} {vs : List (κ × Value)} (r : KV kvs vs) (k : κ) {y : V} {u : Value} (ry : RelV y u) :
  KV (kvs.map fun kv => if kv.1 = k then (kv.1, y) else kv) (vs.map fun kv => if kv.1 = k then (kv.1, u) else kv) := by
 unfold KV at r ⊢
 induction r with
 | nil => exact .nil
 | @cons p q ps qs h t ih =>
  rw [Dm, Dm]
  refine .cons ?_ ih
  obtain ⟨h1, h2⟩ := h
  by_cases e : p.1 = k
  ·rw [if_pos e, if_pos (h1.symm.trans e)]; exact ⟨h1, ry⟩
  ·rw [if_neg e, if_neg (fun z => e (h1.trans z))]; exact ⟨h1, h2⟩
theorem KV.put {kvs : List (κ × V)} {vs : List (κ × Value)} (r : KV kvs vs) (k : κ) {y : V} {u : Value} (ry : RelV y u) : KV (cy kvs k y) (stored vs k u) := by
 unfold cy stored
 rw [r.any k]
 by_cases e : (vs.any fun kv => decide (kv.1 = k)) = true
 ·rw [if_pos e, if_pos e]; exact r.repl k ry
 ·rw [if_neg e, if_neg e]; exact Paired.snoc r ⟨rfl, ry⟩
theorem KV.length {kvs : List (κ × V)} {vs : List (κ × Value)} (r : KV kvs vs) : kvs.length = vs.length := Paired.length r
end
theorem rh {P : Program} {w : World} {k : bT} {u : Value} (r : RelV (kV k) u) : (bz P w).is k u = true := by
 cases k with
 | inl i => obtain ⟨t, e⟩ := (show ∃ t, u = Value.int i t from r); subst e; exact nX P w i t
 | inr x => obtain ⟨t, e⟩ := (show ∃ t, u = Value.str x t from r); subst e; exact nY P w x t
theorem sP {P : Program} {w : World} {ks : List bT} {us : List Value} (r : Vals (ks.map kV) us) : ItemsAre (bz P w) ks us := by
 induction ks generalizing us with
 | nil => cases r; exact .nil
 | cons k ks ih =>
  cases r with
  | cons h t => exact .cons (rh h) (ih t)
abbrev KT (H : Hp) : List (List bT × V) -> List (List bT × Addr × Value) -> Prop := Paired fun p q => p.1 = q.1 /\ H q.2.1 = some (.tup (p.1.map kV)) /\ RelV p.2 q.2.2
theorem KT.val {H : Hp} {kvs : List (List bT × V)} {xs : List (List bT × Addr × Value)} (r : KT H kvs xs) (k : List bT) : RelO (bB kvs k) ((atKey xs k).map (·.2)) := by
 induction r with
 | nil => exact True.intro
 | @cons p q ps qs h t ih =>
  obtain ⟨h1, _, h2⟩ := h
  by_cases e : p.1 = k
  ·have e' : q.1 = k := h1.symm.trans e
   have b : atKey (q :: qs) k = some q.2 := by simp [atKey, EC, e']
   rw [bC e, b]; exact h2
  ·have e' : ¬ q.1 = k := fun z => e (h1.trans z)
   have b : atKey (q :: qs) k = atKey qs k := by simp [atKey, EC, e']
   rw [bD e, b]; exact ih
theorem KT.repl {H : Hp} {kvs : List (List bT × V)} {xs : List (List bT × Addr × Value)} (r : KT H kvs xs) (k : List bT) {y : V} {u : Value} (ry : RelV y u) :
  KT H (kvs.map fun kv => if kv.1 = k then (kv.1, y) else kv) (xs.map (putAt k u)) := by
 induction r with
 | nil => exact .nil
 | @cons p q ps qs h t ih =>
  rw [Dm, Dm]
  refine .cons ?_ ih
  obtain ⟨h1, h2, h3⟩ := h
  unfold putAt
  by_cases e : p.1 = k
  ·rw [if_pos e, if_pos (h1.symm.trans e)]; exact ⟨h1, h2, ry⟩
  ·rw [if_neg e, if_neg (fun z => e (h1.trans z))]; exact ⟨h1, h2, h3⟩
theorem KT.put {H : Hp} {kvs : List (List bT × V)} {xs : List (List bT × Addr × Value)} (r : KT H kvs xs) (k : List bT) {b : Addr} {y : V} {u : Value} (hb : H b = some (.tup (k.map kV))) (ry : RelV y u) :
  KT H (cy kvs k y) (storedH xs k b u) := by
 have e : (kvs.any fun kv => decide (kv.1 = k)) = (atKey xs k).isSome := by
  rw [b9, (r.val k).isSome_eq, Option.isSome_map]
 unfold cy storedH
 rw [e]
 by_cases q : (atKey xs k).isSome = true
 ·rw [if_pos q, if_pos q]; exact r.repl k ry
 ·rw [if_neg q, if_neg q]; exact Paired.snoc r ⟨rfl, hb, ry⟩
theorem KT.keeps {H H' : Hp} {kvs : List (List bT × V)} {xs : List (List bT × Addr × Value)} (r : KT H kvs xs) (ht : ∀ b ys, H b = some (.tup ys) -> H' b = some (.tup ys)) : KT H' kvs xs :=
 Paired.mapP r fun _ _ z => ⟨z.1, ht _ _ z.2.1, z.2.2⟩
section
variable {P : Program} {w : World} {H : Hp} {h : Heap} {a : Addr}
theorem yu {u : HO} (ok : HOk P w H h) (e : Rd H a u) : ObjOk P w H h a u := e.ok ok
theorem rj {kvs : List (bT × V)} (ok : HOk P w H h) (e : Rd H a (.dK kvs)) : kvs.length <= sizeLine /\ (a == sysModules) = false /\ ∃ vs, KV kvs vs /\ h.DictOf (bz P w) a vs :=
 show ObjOk P w H h a (.dK kvs) from yu ok e
theorem rp {kvs : List (bT × V)} (ok : HOk P w H h) (e : H a = some (.dK kvs)) : kvs.length <= sizeLine /\ (a == sysModules) = false /\ ∃ vs, KV kvs vs /\ h.DictOf (bz P w) a vs := rj ok (.inl e)
theorem mZ {ks : List bT} (ok : HOk P w H h) (e : H a = some (.tup (ks.map kV))) : (tupleKind (bz P w)).is h ks a := by
 obtain ⟨_, its, r, o, h1, h2, n, h3⟩ := (show ObjOk P w H h a (.tup (ks.map kV)) from ok a _ e)
 exact ⟨o, its.toArray, n, h1, h2, h3, by simpa using sP r⟩
theorem rq {kvs : List (List bT × V)} (ok : HOk P w H h) (e : Rd H a (.dT kvs)) : kvs.length <= sizeLine /\ (a == sysModules) = false /\
  ∃ xs, KT H kvs xs /\ h.DictOfH (tupleKind (bz P w)) a xs := by
 obtain ⟨z, y, xs, r, o, es, ep, h1, h2, h3, h4, h5⟩ := (show ObjOk P w H h a (.dT kvs) from yu ok e)
 refine ⟨z, y, xs, r, o, es, ep, h1, h2, h3, h4, fun x hx => ?_, h5⟩
 have all : ∀ {l : List (List bT × V)} {m : List (List bT × Addr × Value)}, KT H l m -> ∀ x ∈ m, (tupleKind (bz P w)).is h x.1 x.2.1 := by
  intro l m q
  induction q with
  | nil => intro x hx; exact nomatch hx
  | @cons p q ps qs hq t ih =>
   intro x hx
   rcases C5.mp hx with e | hx
   ·subst e
    exact mZ ok (by rw [<- hq.1]; exact hq.2.1)
   ·exact ih x hx
 exact all r x hx
theorem AJ {kvs : List (List bT × V)} (ok : HOk P w H h) (e : H a = some (.dT kvs)) : kvs.length <= sizeLine /\ (a == sysModules) = false /\
 ∃ xs, KT H kvs xs /\ h.DictOfH (tupleKind (bz P w)) a xs := rq ok (.inl e)
end
def DGet (H : Hp) (a : Addr) (y : V) (r : Option V) : Prop :=
 (∃ kvs k, Rd H a (.dK kvs) /\ y = kV k /\ r = bB kvs k) \/ ∃ kvs k b, Rd H a (.dT kvs) /\ y = .ref b /\ H b = some (.tup (k.map kV)) /\ r = bB kvs k
def DPut (H : Hp) (a : Addr) (y v : V) (H' : Hp) : Prop :=
 (∃ kvs k, H a = some (.dK kvs) /\ y = kV k /\ kvs.length < sizeLine /\ H' = aI H a (.dK (cy kvs k v))) \/
 ∃ kvs k b, H a = some (.dT kvs) /\ y = .ref b /\ H b = some (.tup (k.map kV)) /\ kvs.length < sizeLine /\ H' = aI H a (.dT (cy kvs k v))
theorem DGet.k {H : Hp} {a : Addr} {kvs : List (bT × V)} {k : bT} (e : H a = some (.dK kvs)) : DGet H a (kV k) (bB kvs k) := .inl ⟨kvs, k, .inl e, rfl, rfl⟩
theorem DPut.k {H : Hp} {a : Addr} {kvs : List (bT × V)} {k : bT} {v : V} (e : H a = some (.dK kvs)) (hl : kvs.length < sizeLine) : DPut H a (kV k) v (aI H a (.dK (cy kvs k v))) := .inl ⟨kvs, k, e, rfl, hl, rfl⟩
section
variable {X : Cx} {pins : List (Addr × Obj)} {σ : St} {H : Hp} {s : Shared} {a : Addr} {y v : V} {u r : Value} {o : Option V} {A : Around} {E : Value -> Shared -> Prop}
theorem Inv.big (I : Inv X pins σ H s) : sysModules < s.heap.objs.size := by
 have h : mainGlobals < s.heap.objs.size := (I.mod.glob.keeps I.bk).lt
 exact Nat.lt_trans (by decide) h
theorem sQ {Q : Value -> Shared -> Prop} (hu : A.units + 1 < cLine) (I : Inv X pins σ H s) (g : DGet H a y (some v)) (ry : RelV y u) (h : ∀ w' s', Inv X pins σ H s' -> RelV v w' -> Q w' s') :
  wpAny (model X.prog X.w) A (getItem (.ref a) u) Q E s := by
 rcases g with ⟨kvs, k, e, ey, l⟩ | ⟨kvs, k, b, e, ey, eb, l⟩
 ·subst ey
  obtain ⟨z, hd, vs, rel, dd⟩ := rj I.hok e
  obtain ⟨w', hw, rw'⟩ := RelO.some_of (v := v) (o := valueAt vs k) (by rw [l]; exact rel.val k)
  exact wpAny_getItem_of (rh ry) dd.mapOf hw (h w' _ (I.tok _) rw')
 ·subst ey
  cases (show u = Value.ref b from ry)
  obtain ⟨z, hd, xs, rel, dd⟩ := rq I.hok e
  obtain ⟨w', hw, rw'⟩ := RelO.some_of (v := v) (o := (atKey xs k).map (·.2)) (by rw [l]; exact rel.val k)
  obtain ⟨p, hp, hp2⟩ := CV.mp hw
  refine wpAny_getItem_heap (tupleKind_room_in1 hu) (mZ I.hok eb) dd hp ?_
  rw [hp2]
  exact h w' _ (I.tok _) rw'
theorem w4 {Q : Value -> Shared -> Prop} (hu : A.units + 1 < cLine) (I : Inv X pins σ H s) (g : DGet H a y o) (ry : RelV y u) (h : ∀ s', Inv X pins σ H s' -> Q (.bool (!o.isSome)) s') :
  wpAny (model X.prog X.w) A (compareOp .NotIn u (.ref a)) Q E s := by
 rcases g with ⟨kvs, k, e, ey, l⟩ | ⟨kvs, k, b, e, ey, eb, l⟩
 ·subst ey
  obtain ⟨z, hd, vs, rel, dd⟩ := rj I.hok e
  refine wpAny_notIn_of (rh ry) hd dd.mapOf ?_
  rw [<- (rel.val k).isSome_eq, <- l]
  exact h _ (I.tok _)
 ·subst ey
  cases (show u = Value.ref b from ry)
  obtain ⟨z, hd, xs, rel, dd⟩ := rq I.hok e
  refine wpAny_notIn_heap (tupleKind_room_in1 hu) (mZ I.hok eb) hd dd ?_
  have q := (rel.val k).isSome_eq
  rw [Option.isSome_map] at q
  rw [<- q, <- l]
  exact h _ (I.tok _)
theorem rz {h' : Heap} {t' : Nat} {ob : HO} (I : Inv X pins σ H s) (mu : Ac (H a)) (hs : Heap.SameBut a s.heap h') (he : ∃ q, h'.get? a = some q) (new : ObjOk X.prog X.w (aI H a ob) h' a ob) :
  Inv X pins σ (aI H a ob) { s with heap := h', toks := t' } :=
 I.write (x := a) (e := a) mu (.inl rfl) (fun b q hb z => (hs.2 b hb).trans z) he new
theorem y9 {P : Program} {w : World} {H' : Hp} {h' : Heap} {kvs : List (bT × V)} {vs : List (bT × Value)} (z : kvs.length <= sizeLine) (hd : (a == sysModules) = false) (rel : KV kvs vs) (dd : h'.DictOf (bz P w) a vs) :
 ObjOk P w H' h' a (.dK kvs) := ⟨z, hd, vs, rel, dd⟩
theorem sR {H' : Hp} {Q : Unit -> Shared -> Prop} (hu : A.units + 1 < cLine) (I : Inv X pins σ H s) (g : DPut H a y v H') (ry : RelV y u) (rv : RelV v r) (h : ∀ s', Inv X pins σ H' s' -> Q () s') :
  wpAny (model X.prog X.w) A (setItem (.ref a) u r) Q E s := by
 rcases g with ⟨kvs, k, e, ey, l, eH⟩ | ⟨kvs, k, b, e, ey, eb, l, eH⟩
 ·subst ey eH
  obtain ⟨z, hd, vs, rel, dd⟩ := rp I.hok e
  have hz : vs.length <= sizeLine := by rw [<- rel.length]; exact z
  have hl : (cy kvs k v).length <= sizeLine := by have := fz kvs k v; omega
  refine wpAny_setItem_pairs (hsz := hz) (rh ry) dd fun h' dd' hs => h _ ?_
  have he : ∃ q, h'.get? a = some q := let ⟨q, _, _, hq, _⟩ := dd'; ⟨q, hq⟩
  exact rz I (by rw [e]; exact True.intro) hs he (y9 hl hd (rel.put k rv) dd')
 ·subst ey eH
  cases (show u = Value.ref b from ry)
  obtain ⟨z, hd, xs, rel, dd⟩ := AJ I.hok e
  have hz : xs.length <= sizeLine := by rw [<- Paired.length rel]; exact z
  have hl : (cy kvs k v).length <= sizeLine := by have := fz kvs k v; omega
  refine wpAny_setItem_heap (hsz := hz) (tupleKind_room_in1 hu) (mZ I.hok eb) dd fun h' dd' hs => h _ ?_
  obtain ⟨q, es, ep, hq, h2, h3, h4, _, h5⟩ := dd'
  refine rz I (by rw [e]; exact True.intro) hs ⟨q, hq⟩ ⟨hl, hd, _, (rel.put k eb rv).keeps fun c ys ec => ?_, q, es, ep, hq, h2, h3, h4, h5⟩
  rw [ar (Aj ec e (fun z => nomatch z))]
  exact ec
end
section
variable {X : Cx} {pins : List (Addr × Obj)} {σ : St} {H : Hp} {s : Shared} {a : Addr} {kvs : List (bT × V)} {k : bT} {u : Value} {A : Around} {E : Value -> Shared -> Prop}
end
def AK (i : Expr) : Prop := ∀ ov iv, subscripted i false ov iv = operate [ov, iv] (getItem ov iv)
theorem w6 {prog : Program} {w : World} {A : Around} {E : Value -> Shared -> Prop} {s : Shared} {env : Env} {value slice : Expr} {pos : Pos} {T id : String} {Q : Value -> Shared -> Prop}
  (hl : typeLookup (.type T) "__getitem__" = pure (some (.builtin id))) (hs : AK slice)
  (h : wpAny (model prog w) A (eval value env) (fun o s₁ => wpAny (model prog w) A (eval slice env) (fun i s₂ => s₂.TypeIs o T /\ wpAny (model prog w) A (getItem o i) Q E s₂) E s₁) E s) :
  wpAny (model prog w) A (eval (.Subscript value slice pos) env) Q E s := by
 refine Subscript_ (wpAny_mono h (fun o s₁ h₁ => wpAny_mono h₁ (fun i s₂ h₂ => ?_) fun _ _ x => x) fun _ _ x => x)
 obtain ⟨hT, h₂⟩ := h₂
 unfold subscriptTail
 refine wpAny_bind ?_
 rw [getitemInPython_of_ne hT.not_modules]
 refine wpAny_bind (wpAny_specialOf hT hl ?_)
 have fin : wpAny (model prog w) A (subscripted slice false o i) (fun r s₃ => wpAny (model prog w) A (letTemporaryGo value o r >>= fun _ => pure r) Q E s₃) E s₂ := by
  rw [hs o i]
  exact wpAny_operating (wpAny_mono h₂ (fun r s₃ h₃ => wpAny_bind (wpAny_letTemporaryGo (wpAny_pure h₃))) fun _ _ x => x)
 first
  | exact wpAny_pure (wpAny_bind fin)
  | exact wpAny_bind (wpAny_pure (wpAny_bind fin))
  | exact wpAny_bind fin
theorem oq {X : Cx} {pins : List (Addr × Obj)} {σ : St} {H : Hp} {s : Shared} {a : Addr} {y : V} {o : Option V} (I : Inv X pins σ H s) (g : DGet H a y o) : s.TypeIs (.ref a) "dict" := by
 rcases g with ⟨kvs, k, e, _, _⟩ | ⟨kvs, k, b, e, _, _, _⟩
 ·obtain ⟨_, _, vs, _, dd⟩ := rj I.hok e
  exact dd.typeIs
 ·obtain ⟨_, _, xs, _, dd⟩ := rq I.hok e
  exact dd.typeIs
def AL (td ty : TE) : TE := fun σ H Q => td σ H fun x H1 => ty σ H1 fun y H2 => ∃ a v, x = .ref a /\ DGet H2 a y (some v) /\ Q v H2
def w8 (ty td : TE) : TE := fun σ H Q => ty σ H fun y H1 => td σ H1 fun x H2 => ∃ a o, x = .ref a /\ DGet H2 a y o /\ Q (.bl (!o.isSome)) H2
def AM (td ty tv : TE) : TS := fun D σ H => tv σ H fun v H1 => td σ H1 fun x H2 => ty σ H2 fun y H3 => ∃ a H4, x = .ref a /\ DPut H3 a y v H4 /\ D.nx σ H4
section
variable {X : Cx} {o i e value : Expr} {pos pos' tpos : Pos} {td ty tv : TE}
theorem rB (hu : X.A.units + 1 < cLine) (ho : PE X o td) (hi : PE X i ty) (hs : AK i) : PE X (.Subscript o i pos) (AL td ty) := by
 intro pins s σ H Q I h
 refine w6 PySem.F.slot_dict_getitem.lookup hs (bP (ho pins s σ H _ I h) fun u s1 h1 => ?_)
 obtain ⟨x, H1, I1, rx, q1⟩ := h1
 refine bP (hi pins s1 σ H1 _ I1 q1) fun iv s2 h2 => ?_
 obtain ⟨y, H2, I2, ry, a, v, ex, g, q2⟩ := h2
 subst ex
 obtain rfl : u = Value.ref a := rx
 exact ⟨oq I2 g, sQ hu I2 g ry fun w' s3 I3 rw' => ⟨v, H2, I3, rw', q2⟩⟩
theorem lP (hu : X.A.units + 1 < cLine) (hi : PE X i ty) (ho : PE X o td) : PC X .NotIn i o (w8 ty td) := by
 intro pins s σ H Q I h
 refine bP (hi pins s σ H _ I h) fun iv s1 h1 => ?_
 obtain ⟨y, H1, I1, ry, q1⟩ := h1
 refine bP (ho pins s1 σ H1 _ I1 q1) fun u s2 h2 => ?_
 obtain ⟨x, H2, I2, rx, a, ov, ex, g, q2⟩ := h2
 subst ex
 obtain rfl : u = Value.ref a := rx
 exact w4 hu I2 g ry fun s3 I3 => ⟨.bl (!ov.isSome), H2, I3, rfl, q2⟩
theorem rC (hu : X.A.units + 1 < cLine) (ho : PE X o td) (hi : PE X i ty) (hv : PE X value tv) (hs : swapsWith value (some (.Subscript o i pos')) pos.line X.env = pure false) :
  PS X (.Assign [.Subscript o i pos'] value pos) (AM td ty tv) := by
 intro pins s σ H D I h
 refine wpAny_Assign_Subscript (bP (hv pins s σ H _ I h) fun r s1 h1 => ?_) hs
 obtain ⟨v, H1, I1, rv, q1⟩ := h1
 refine bP (ho pins s1 σ H1 _ I1 q1) fun u s2 h2 => ?_
 obtain ⟨x, H2, I2, rx, q2⟩ := h2
 refine bP (hi pins s2 σ H2 _ I2 q2) fun iv s3 h3 => ?_
 obtain ⟨y, H3, I3, ry, a, H4, ex, g, q3⟩ := h3
 subst ex
 obtain rfl : u = Value.ref a := rx
 exact sR hu I3 g ry rv fun s4 I4 => ⟨σ, H4, I4, q3⟩
end
theorem uO {P : Program} {w : World} {H : Hp} (h : Heap) (hb : sysModules < h.objs.size) : ObjOk P w H (h.push { cls := .type "dict", data := .dict #[] }) h.objs.size (.dK []) :=
 ⟨Dk _, beq_eq_false_iff_ne.mpr (Ne.symm (C6 hb)), [], .nil, Heap.DictOf.new h⟩
def za : TE := fun _ H Q => ∀ p, H p = none -> Q (.ref p) (aI H p (.dK []))
section
variable {X : Cx} {pos : Pos}
theorem ot : PE X (.Dict [] [] pos) za := fun pins s σ H Q I h =>
 wpAny_Dict_empty ⟨.ref s.heap.objs.size, _, I.laid (a := s.heap.objs.size) (o := .dK []) (t' := s.toks) (fun _ _ q => Heap.get?_push_of_some _ q) (C0 _) (uO s.heap I.big), rfl, h _ (I.hok.fresh (C0 _))⟩
end
section
variable {X : Cx} {pins : List (Addr × Obj)} {σ : St} {H : Hp} {s : Shared} {a : Addr} {y d : V} {u r : Value} {o : Option V} {A : Around} {E : Value -> Shared -> Prop}
end
section
variable {X : Cx} {o e f : Expr} {apos cpos : Pos} {td ty tx : TE}
end
section
variable {X : Cx} {pins : List (Addr × Obj)} {σ : St} {H : Hp} {s : Shared} {a : Addr} {kvs : List (bT × V)} {A : Around} {E : Value -> Shared -> Prop}
end
section
variable {X : Cx} {pins : List (Addr × Obj)} {σ : St} {H : Hp} {s : Shared} {a : Addr} {y : V} {u : Value} {A : Around} {E : Value -> Shared -> Prop}
end
end L2
namespace Att
open PySem PySem.W PySem.Calls PyProof.Rows
theorem jy {P : Params} {h : Heap} : ∀ (ns : List Int) (vs : List Value), WellAll P h vs (ns.map WData.int) -> IntsAre vs ns := by
 intro ns
 induction ns with
 | nil =>
  intro vs w
  rw [EW] at w
  cases w
  exact .nil
 | cons n ns ih =>
  intro vs w
  rw [Dm] at w
  cases w with
  | cons a b =>
   cases a
   exact .cons _ _ (ih _ b)
theorem sS {l : OpenLaw} {n : Nat} (hn : l.most = some n) {P : Params} {h : Heap} {args : List WData} {vals : List Value}
  (hpre : l.row.toRowW.claim.pre args = true) (hwl : WellAll P h vals args) :
  ∃ a vs ns, vals = [Value.ref a] /\ args = [WData.list (ns.map WData.int)] /\ h.get? a = some { cls := .type "list", data := .seq vs.toArray } /\ IntsAre vs ns /\ ns.length <= n := by
 have hsh : WShape.hasAll [] args [.list .int] = true := (pre_splitW hpre).1
 have hc : l.pre.holds [] { args := args } = true := (pre_splitW hpre).2
 obtain ⟨d, r, rfl, h1, h2⟩ := hasAllW_cons hsh
 obtain rfl := hasAllW_nil h2
 obtain ⟨xs, rfl, h3⟩ := hasW_list h1
 obtain ⟨ns, rfl⟩ := items_int h3
 have hlen : ns.length <= n := by
  unfold OpenLaw.pre at hc
  have h4 : (WTm.not (.lt (.lit (.int (n : Int))) (.len (.arg 0)))).holds [] { args := [.list (ns.map .int)] } = true := by
   have h4 := (holds_andW hc).1
   rw [hn] at h4
   exact h4
  have h5 := condW_of h4 (w_not (w_lt w_lit (w_len_list (w_arg rfl))))
  rw [CO] at h5
  refine DT fun q => ?_
  have q' : (n : Int) < ((ns.length : Nat) : Int) := by omega
  first
   | (rw [decide_eq_true q'] at h5; exact absurd h5 (by decide))
   | (simp at h5; omega)
 cases hwl with
 | cons w1 w2 =>
  cases w2
  cases w1 with
  | list ho hall => exact ⟨_, _, ns, rfl, rfl, ho, jy ns _ hall, hlen⟩
theorem sU (l : OpenLaw) (args : List WData) : l.row.toRowW.claim.post args (.bool true) args = true :=
 postW_of (r := l.row.toRowW) (X := (true == true))
  (show WShape.has [] (.bool true) .bool = true by first | rfl | decide | simp [WShape.has, WShape.arms, WShape.armsAll])
  (show (WTm.eq .res (.lit (.bool true))).value [] { args := args, res := some (.bool true), after := args } = some (.bool (true == true)) from w_eq_bool (w_res rfl) w_lit) rfl
theorem ou {l : OpenLaw} {n : Nat} {q : Program} {loose : List Str} {XP : (Str -> Option Value) -> Heap -> Prop} {YP : World -> Heap -> Prop} {d : DefRec}
  (hn : l.most = some n) (hdf : d.params.defaults = [])
  (call : ∀ (w : World) (s₀ s₁ : Shared) (mg mb : Str -> Option Value) (fa : Addr) (o : Obj) (pm cd doc : Value) (a : Addr) (vs : List Value) (ns : List Int),
   Ground q loose [] XP w s₀ mg mb s₁.heap -> YP w s₁.heap ->
   s₁.heap.get? fa = some o -> o.data = .func (docDef d.name d.params d.body d.scope pm cd doc) -> s₁.heap.CodeRec cd d.name -> mg d.name = some (.ref fa) ->
   s₁.heap.get? a = some { cls := .type "list", data := .seq vs.toArray } -> IntsAre vs ns -> ns.length <= n -> s₁.gens = #[] ->
   codeAny (model l.prog w) callerA (.call (.ref fa) ⟨[.ref a], []⟩) (fun r s' => r = .ok (.ret (.bool true)) /\ OldK s₁.heap s'.heap /\ s'.os = s₁.os /\ AllBare s'.gens) s₁) :
  WalkO q loose XP YP l.row.toRowW d [] (fun f vs => PySem.call f vs) := by
 intro w s₀ s₁ mg mb G Y fa o pm cd doc dV kV ho hd hcd hD hmg hg args vals as hpre hlay hrd hwl hlo
 obtain rfl : dV = .none := Dflts.none hD hdf
 obtain rfl : kV = .none := Dflts.noKw hD
 obtain ⟨a, vs, ns, rfl, rfl, hobj, hints, hlen⟩ := sS hn hpre hwl
 refine enter_call (codeAny_mono (call w s₀ s₁ mg mb fa o pm cd doc a vs ns G Y ho (fd_plain hd) hcd hmg hobj hints hlen hg) fun r s' hq => ?_)
 obtain ⟨rfl, h2, h3, h4⟩ := hq
 exact ⟨.inl ⟨.bool true, .bool true, [], rfl, fun _ => rfl, .bool true, sU l _, fun _ => ⟨List.Pairwise.nil, fun _ hm => (nomatch hm)⟩⟩, h2, h3, h4⟩
section
variable {prog : Program} {w : World} {A : Around} {E : Value -> Shared -> Prop} {s : Shared} {K : Frag}
end
end Att
namespace L2
open PySem PySem.Spec PyProof.Rows
theorem iR : ∀ {vs : List Value} {ns : List Int}, IntsAre vs ns -> Vals (ns.map V.int) vs := by
 intro vs ns h
 induction h with
 | nil => exact .nil
 | cons n t h ih => exact .cons ⟨t, rfl⟩ ih
def zc (H : Hp) : Prop := ∀ b, H b = none \/ ∃ o xs, H b = some (.frz o (.lst xs))
theorem uP {P : Program} {w : World} {K : PySem.W.Frag} {mg mb : Str -> Option Value} {CX : ur} {k : Nat} {fa a : Addr} {fd : FuncData} {x : Str} {sp : Sp} {s₁ : Shared} {vs : List Value} {ns : List Int}
  (KX : K.In s₁.heap) (hns : s₁.heap.Ns mainGlobals mg) (hb : s₁.heap.Ns builtinsNs mb) (hbb : ∀ x : Str, x ≠ "__name__" -> mb x = bootBuiltins x) (hlim : s₁.heap.NoLimit) (hg : s₁.gens = #[])
  (ha : s₁.heap.get? a = some { cls := .type "list", data := .seq vs.toArray }) (hi : IntsAre vs ns) (hl : ns.length <= sizeLine) (hr : Room k callerA)
  (F : ∀ base : Heap, K.In base -> base.Ns mainGlobals mg -> FnOk P w K mg base CX k fa fd [x] sp) (hbind : ∀ (s : Shared) (u : Value), BindsTo s fd ⟨[u], []⟩ [(x, u)])
  (hsp : ∀ H : Hp, zc H -> SqL K H a (ns.map V.int) -> sp [.ref a] H (fun v _ => v = .bl true) fun _ _ _ => False)
  (hCX : ∀ H e s', CX [] H s₁ (fun _ _ _ => False) e s' -> False) :
  codeAny (model P w) callerA (.call (.ref fa) ⟨[.ref a], []⟩) (fun r s' => r = .ok (.ret (.bool true)) /\ OldK s₁.heap s'.heap /\ s'.os = s₁.os /\ AllBare s'.gens) s₁ := by
 have rv := iR hi
 have lenV := hi.length
 have core : ∀ H : Hp, zc H -> SqL K H a (ns.map V.int) -> HOk P w H s₁.heap -> (∀ b, H b ≠ none -> b = a) -> (H a ≠ none -> K.lookup a = none) ->
   codeAny (model P w) callerA (.call (.ref fa) ⟨[.ref a], []⟩) (fun r s' => r = .ok (.ret (.bool true)) /\ OldK s₁.heap s'.heap /\ s'.os = s₁.os /\ AllBare s'.gens) s₁ := by
  intro H hO hS hok hA hK
  have base_of : ∀ {b : Addr} {o : Obj}, s₁.heap.get? b = some o -> H b = none -> (mM s₁.heap H).get? b = some o := fun e n => uw e n
  have noA : ∀ {b : Addr} {o : Obj} {es : Array DictEntry} {ep : Nat}, s₁.heap.get? b = some o -> o.data = .dict es ep -> H b = none := fun {b o es ep} e d => by
   cases q : H b with
   | none => rfl
   | some u =>
    have e' : b = a := hA b (by rw [q]; simp)
    subst e'
    rw [ha] at e; cases e
    have d' : Data.seq vs.toArray _ = Data.dict es ep := d
    cases d'
  have nsK : ∀ {b : Addr} {m : Str -> Option Value}, s₁.heap.Ns b m -> (mM s₁.heap H).Ns b m := fun {b m} ⟨o, es, ep, e, d, r⟩ => ⟨o, es, ep, base_of e (noA e d), d, r⟩
  have hKb : K.In (mM s₁.heap H) := fun b o e => base_of (KX b o e) (by
   cases q : H b with
   | none => rfl
   | some u =>
    have e' : b = a := hA b (by rw [q]; simp)
    subst e'
    rw [hK (by rw [q]; simp)] at e; cases e)
  have hM : Mod K mg (mM s₁.heap H) := ⟨hKb, nsK hns, ⟨mb, nsK hb, hbb⟩, let ⟨mc, h1, h2⟩ := hlim; ⟨mc, nsK h1, h2⟩⟩
  have e0 : Env0 P w K mg (mM s₁.heap H) callerA [] s₁ H := ⟨rfl, hM, fun b o e => wJ e, Nat.le_of_eq (sv _ _), trivial, fun b hb => absurd (show b ∈ ([] : List Addr) from hb) (by simp), hok, .of_eq hg⟩
  refine codeAny_mono ((F _ hKb (nsK hns)).run callerA [] s₁ H ⟨[.ref a], []⟩ [.ref a] [.ref a] _ _ hr e0 (hbind s₁ (.ref a)) (.cons rfl .nil) (hsp H hO hS)) fun r s' h => ?_
  cases r with
  | error e => exact (hCX H e s' h).elim
  | ok fl =>
   cases fl with
   | next => exact False.elim h
   | brk => exact False.elim h
   | cont => exact False.elim h
   | ret u =>
    obtain ⟨v, H', os, bare, un, hok', r', q⟩ := h
    have q' : v = .bl true := q
    subst q'
    obtain rfl : u = Value.bool true := r'
    refine ⟨rfl, OldK.of_keep fun b o e => ?_, os, bare⟩
    cases q : H b with
    | none => exact un.keep b o e q (by intro z; exact absurd (show b ∈ ([] : List Addr) from z) (by simp)) (by simp)
    | some u =>
     rcases hO b with z | ⟨ob, xs, z⟩
     ·rw [q] at z; cases z
     ·have z2 := un.frzs b ob _ z
      obtain ⟨e1, _⟩ := hok b _ z
      obtain ⟨e2, _⟩ := hok' b _ z2
      rw [e] at e1; cases e1
      exact e2
 cases hk : K.lookup a with
 | some o =>
  have e := KX a o hk
  rw [ha] at e
  cases e
  refine core (fun _ => none) (fun _ => .inl rfl) (.inr ⟨_, vs.toArray, _, hk, rfl, rfl, rfl, by rw [C2, lenV]; exact hl, by simpa using rv⟩) (fun b u z => by have z' : (none : Option HO) = some u := z; cases z') (fun b z => absurd rfl z) fun z => absurd rfl z
 | none =>
  refine core (fun b => if b = a then some (.frz { cls := .type "list", data := .seq vs.toArray } (.lst (ns.map V.int))) else none) (fun b => ?_) (.inl (.inr ⟨{ cls := .type "list", data := .seq vs.toArray }, if_pos rfl⟩)) (fun b u z => ?_) (fun b z => ?_) fun _ => hk
  ·by_cases hb : b = a
   ·exact .inr ⟨_, _, if_pos hb⟩
   ·exact .inl (if_neg hb)
  ·by_cases hb : b = a
   ·have z' := (if_pos hb).symm.trans z
    cases z'
    subst hb
    exact ⟨ha, by rw [CO]; exact hl, vs, _, rv, ha⟩
   ·have z' := (if_neg hb).symm.trans z
    cases z'
  ·by_cases hb : b = a
   ·exact hb
   ·exact absurd (if_neg hb) z
abbrev CN {K : PySem.W.Frag} {h : Heap} (_ : K.In h) : PySem.W.Frag := K
theorem w9 {l : PySem.W.OpenLaw} {n k : Nat} {q : Program} {loose : List Str} {XP : (Str -> Option Value) -> Heap -> Prop} {YP : World -> Heap -> Prop} {d : DefRec} {K : Params -> PySem.W.Frag} {CX : World -> ur} {sp : World -> Sp} {x : Str}
  (hn : l.most = some n) (hn2 : n <= sizeLine) (hdf : d.params.defaults = []) (hr : Room k callerA)
  (hY : ∀ (w : World) (h : Heap), YP w h -> (K w.params).In h)
  (F : ∀ (w : World) (mg : Str -> Option Value) (fa : Addr) (h : Heap), (K w.params).In h -> h.Ns mainGlobals mg -> mg d.name = some (.ref fa) ->
   ∃ fd : FuncData, (∀ (s : Shared) (u : Value), BindsTo s fd ⟨[u], []⟩ [(x, u)]) /\
    ∀ base : Heap, (K w.params).In base -> base.Ns mainGlobals mg -> FnOk l.prog w (K w.params) mg base (CX w) k fa fd [x] (sp w))
  (hsp : ∀ (w : World) (H : Hp) (a : Addr) (ns : List Int), ns.length <= n -> zc H -> SqL (K w.params) H a (ns.map V.int) -> sp w [.ref a] H (fun v _ => v = .bl true) fun _ _ _ => False)
  (hCX : ∀ (w : World) (H : Hp) (s : Shared) (e : Value) (s' : Shared), CX w [] H s (fun _ _ _ => False) e s' -> False) :
  PySem.W.WalkO q loose XP YP l.row.toRowW d [] (fun f vs => PySem.call f vs) := by
 refine Att.ou hn hdf fun w s₀ s₁ mg mb fa o pm cd doc a vs ns G Y ho hd hcd hmg hobj hints hlen hg => ?_
 have KX := hY w _ Y
 obtain ⟨fd, hb, hF⟩ := F w mg fa _ KX G.T.g hmg
 exact uP KX G.T.g G.T.b G.T.builtins G.T.nolimit hg hobj hints (Di hlen hn2) hr hF hb (fun H hO hS => hsp w H a ns hlen hO hS) fun H e s' => hCX w H s₁ e s'
def eE (s : Stmt) : Arguments := match s with
 | .FunctionDef _ a _ _ _ _ _ _ _ _ => a
 | _ => { posonlyargs := [], args := [], vararg := none, kwonlyargs := [], kw_defaults := [], kwarg := none, defaults := [] }
def cV (s : Stmt) : List Stmt := match s with
 | .FunctionDef _ _ b _ _ _ _ _ _ _ => b
 | _ => []
def au (s : Stmt) : Scope := match s with
 | .FunctionDef _ _ _ _ _ _ sc _ _ _ => sc
 | _ => { kind := .function, names := [], isGenerator := false, isCoroutine := false }
abbrev br : ur := fun _ _ _ _ _ _ => False
abbrev E0 : XK := fun _ _ _ => False
theorem AN {X : Cx} : mT br X E0 := fun _ _ _ _ _ _ _ h => h.elim
structure Fun (K : PySem.W.Frag) (x qual : Str) (st : Stmt) (f : Addr) (fd : FuncData) : Prop where
 ex : ∃ (oc : Value) (od : Option Addr) (kV doc pm : Value) (an : Option Addr) (cdv ct : Value) (osl : Array (Option Value)),
  fd = PySem.W.fnOf x qual (eE st) (cV st) (au st) .none kV doc pm an cdv ct /\ K.lookup f = some ⟨oc, od, .func fd, osl⟩ /\ PySem.W.codeIn K cdv qual = true
 kp : PySem.W.keepIn K (.ref f) = true
section
variable {P : Program} {w : World} {K : PySem.W.Frag} {mg : Str -> Option Value} {base : Heap}
theorem Fun.ok {x qual : Str} {st : Stmt} {f : Addr} {fd : FuncData} {N ps : List Str} {k : Nat} {sp : Sp} (F : Fun K x qual st f fd) (S : FnScope N ps (au st)) (len : ∀ vs H Q E, sp vs H Q E -> vs.length = ps.length)
  (hbody : ∀ (cdv : Value) (A : Around) (outer : List Env) (s : Shared) (H : Hp) (vs : List V) (Q : VK) (E : XK), Room k (A.deeper (envOfC qual (au st) s.heap.objs.size f cdv)) -> sp vs H Q E ->
   ∃ t, PSs (gd br P w K mg base N qual (au st) f cdv A outer s H E).nox (cV st) t /\ t { nx := fun _ H' => Q .non H', rt := Q } (gX N vs) H) : FnOk P w K mg base br (k + 1) f fd ps sp := by
 obtain ⟨oc, od, kV, doc, pm, an, cdv, ct, osl, rfl, lk, hcd⟩ := F.ex
 refine yt lk hcd S len fun A outer s H vs Q E hr hsp => ?_
 obtain ⟨t, h, q⟩ := hbody cdv A outer s H vs Q E hr hsp
 exact ⟨t, h.nox, q⟩
theorem Fun.binds {x qual : Str} {st : Stmt} {f : Addr} {fd : FuncData} {ps : List Str} (F : Fun K x qual st f fd)
  (h : ∀ (kV doc pm : Value) (an : Option Addr) (cdv ct : Value) (us : List Value), us.length = ps.length -> bindArgs (PySem.W.fnOf x qual (eE st) (cV st) (au st) .none kV doc pm an cdv ct) ⟨us, []⟩ = pure (ps.zip us)) : Binds K fd ps [] := by
 obtain ⟨oc, od, kV, doc, pm, an, cdv, ct, osl, rfl, lk, hcd⟩ := F.ex
 exact .all (h kV doc pm an cdv ct)
theorem zd {x qual : Str} {st : Stmt} {f : Addr} {oc : Value} {od an : Option Addr} {osl : Array (Option Value)} {kV doc pm cdv ct : Value} (l : K.lookup f = some ⟨oc, od, .func (PySem.W.fnOf x qual (eE st) (cV st) (au st) .none kV doc pm an cdv ct), osl⟩)
 (c : PySem.W.codeIn K cdv qual = true) (k : PySem.W.keepIn K (.ref f) = true) : Fun K x qual st f (PySem.W.fnOf x qual (eE st) (cV st) (au st) .none kV doc pm an cdv ct) := ⟨⟨oc, od, kV, doc, pm, an, cdv, ct, osl, rfl, l, c⟩, k⟩
end
theorem aU {A : Around} {k : Nat} (hr : Room k A) : A.units + 1 < cLine := EU (Fc (by decide : 1 <= 64) _) hr.units
theorem lQ {n : Nat} (h : n <= 1000) : n < sizeLine := EU h (by decide)
section
variable {X : Cx}
theorem pv (i : Nat) {x : Str} {pos : Pos} (hN : X.N[i]? = some x := by rfl) (hv : A7 X.env.scope x := by first | exact Or.inl rfl | exact Or.inr (Or.inl rfl) | exact Or.inr (Or.inr rfl)) (hd : (x == ("__debug__" : Str)) = false := by decide)
 (hcd : (x == ("__classdict__" : Str)) = false := by decide) : PE X (.Name x pos) (Al i) := yN hN hv hd hcd
end
theorem bE {A B : Prop} (h : B) : if false = true then A else B := by
 rw [if_neg C4]
 exact h
theorem dW {A B : Prop} (h : A) : if true = true then A else B := by
 rw [if_pos rfl]
 exact h
def Same (H H' : Hp) : Prop := ∀ b o, H b = some o -> H' b = some o
theorem Same.refl (H : Hp) : Same H H := fun _ _ h => h
theorem Same.trans {H H1 H2 : Hp} (a : Same H H1) (b : Same H1 H2) : Same H H2 := fun c o h => b c o (a c o h)
theorem Same.free {H H' : Hp} (e : Same H H') {l : Addr} (h : H' l = Option.none) : H l = Option.none := by
 cases q : H l with
 | none => rfl
 | some o =>
  rw [e l o q] at h
  cases h
theorem Same.seq {K : PySem.W.Frag} {H H' : Hp} {a : Addr} {xs : List V} (e : Same H H') (h : SqL K H a xs) : SqL K H' a xs := by
 rcases h with (h | ⟨o, h⟩) | h
 ·exact .inl (.inl (e _ _ h))
 ·exact .inl (.inr ⟨o, e _ _ h⟩)
 ·exact .inr h
section
variable {κ : Type} [DecidableEq κ]
theorem uQ {kvs : List (κ × V)} {k : κ} (h : bB kvs k = none) : ¬ k ∈ kvs.map (·.1) := by
 intro m
 obtain ⟨p, hp, e⟩ := C9.mp m
 have q : (kvs.any fun kv => decide (kv.1 = k)) = true := EN.mpr ⟨p, hp, decide_eq_true e⟩
 rw [b9, h] at q
 exact absurd q (by simp)
theorem g9 {l : List κ} {k : κ} (h : l.Nodup) (n : ¬ k ∈ l) : (l ++ [k]).Nodup := Fl.mpr ⟨h, DN _ _, fun a ha b hb e => n (by rw [<- CZ.mp hb, <- e]; exact ha)⟩
theorem xa {kvs : List (κ × V)} {k : κ} (v : V) (hn : (kvs.map (·.1)).Nodup) (h : bB kvs k = none) : ((cy kvs k v).map (·.1)).Nodup := by
 rw [uN v h, Df]
 exact g9 hn (uQ h)
end
structure BA where
 cl : List (Str × Addr)
 C : Addr
 s₀ : Shared
 H₀ : Hp
 ex : List Addr
abbrev kX (X : Cx) (sc : Scope) (N : List Str) (b : BA) : Cx :=
 { prog := X.prog, w := X.w, K := X.K, mg := X.mg, base := X.base, A := X.A, N := N, s₀ := b.s₀, H₀ := b.H₀, env := compEnvC sc b.cl b.C X.env, outer := X.stack, stack := X.stack, ex := b.ex, fn := fun _ => false, calm := X.calm, pn := [], xe := fun _ _ => False }
def bL (env : Env) : List (Str × Addr) -> List (Str × NameKind) -> List (Str × Addr)
 | acc, [] => acc
 | acc, (n, k) :: r => bL env (if k == .free then (match env.cells.lookup n with | some c => (n, c) :: acc | none => acc) else acc) r
theorem uR (env : Env) : ∀ (l : List (Str × NameKind)) (acc : List (Str × Addr)), (∀ y ∈ l, y.2 = .free -> ∃ c, env.cells.lookup y.1 = some c) ->
  (forIn l acc (fun (x : Str × NameKind) (cs : List (Str × Addr)) => (match x with
   | (name, kind) => if (kind == .free) = true then (do let a <- cellOf env name; pure (ForInStep.yield ((name, a) :: cs))) else pure (ForInStep.yield cs) : Sem (ForInStep (List (Str × Addr)))))) = (pure (bL env acc l) : Sem (List (Str × Addr))) := by
 intro l
 induction l with
 | nil => intro acc _; rfl
 | cons nk r ih =>
  obtain ⟨n, k⟩ := nk
  intro acc h
  have hr : ∀ y ∈ r, y.2 = .free -> ∃ c, env.cells.lookup y.1 = some c := fun y hy => h y (C8 _ hy)
  rw [List.forIn_cons]
  by_cases hk : k = .free
  ·subst hk
   obtain ⟨c, hc⟩ := h (n, .free) Dg rfl
   have hc' : env.cells.lookup n = some c := hc
   simp only [beq_self_eq_true, if_true, bL, hc']
   have e : cellOf env n = pure c := by unfold cellOf; rw [hc']
   rw [e, pure_bind, pure_bind]
   exact ih _ hr
  ·have hb : (k == NameKind.free) = false := by simpa using hk
   simp only [hb, DA, if_false, bL]
   rw [pure_bind]
   exact ih _ hr
theorem xb {env : Env} {sc : Scope} (h : ∀ y ∈ sc.names, y.2 = .free -> ∃ c, env.cells.lookup y.1 = some c) : closureFor sc env = pure (bL env [] sc.names) := by
 unfold closureFor
 exact (congrArg (fun m => m >>= fun cs => pure cs) (uR env sc.names [] h)).trans (pure_bind _ _)
theorem cI {env : Env} : ∀ (l : List (Str × NameKind)) (acc : List (Str × Addr)), (∀ x c, acc.lookup x = some c -> env.cells.lookup x = some c) ->
  ∀ x c, (bL env acc l).lookup x = some c -> env.cells.lookup x = some c := by
 intro l
 induction l with
 | nil => intro acc h x c e; exact h x c e
 | cons nk r ih =>
  obtain ⟨n, k⟩ := nk
  intro acc h x c e
  refine ih _ (fun y d q => ?_) x c e
  by_cases hk : (k == NameKind.free) = true
  ·rw [if_pos hk] at q
   cases hl : env.cells.lookup n with
   | none => rw [hl] at q; exact h y d q
   | some a =>
    rw [hl] at q
    simp only [DC] at q
    by_cases hy : (y == n) = true
    ·rw [hy] at q
     have e1 : y = n := by simpa using hy
     subst e1
     cases q
     exact hl
    ·rw [Ej] at hy
     rw [hy] at q
     exact h y d q
  ·rw [if_neg hk] at q
   exact h y d q
theorem lU {env : Env} : ∀ (l : List (Str × NameKind)) (acc : List (Str × Addr)) (x : Str), (acc.lookup x).isSome = true -> ((bL env acc l).lookup x).isSome = true
 | [], acc, x, h => h
 | (n, k) :: r, acc, x, h => by
  refine lU r _ x ?_
  by_cases hk : (k == NameKind.free) = true
  ·rw [if_pos hk]
   cases env.cells.lookup n with
   | none => exact h
   | some a =>
    show (List.lookup x ((n, a) :: acc)).isSome = true
    rw [DC]
    by_cases hy : (x == n) = true
    ·rw [hy]; rfl
    ·rw [Ej] at hy
     rw [hy]; exact h
  ·rw [if_neg hk]; exact h
theorem lV {env : Env} (l : List (Str × NameKind)) (acc : List (Str × Addr)) (x : Str) (h : (x, NameKind.free) ∈ l) (q : ∃ c, env.cells.lookup x = some c) : ((bL env acc l).lookup x).isSome = true := by
 obtain ⟨c, hc⟩ := q
 induction l generalizing acc with
 | nil => cases h
 | cons p r ih =>
  rcases C5.mp h with e | h
  ·subst e
   refine lU r _ x ?_
   rw [if_pos (beq_self_eq_true _), hc]
   show (List.lookup x ((x, c) :: acc)).isSome = true
   rw [DC, beq_self_eq_true]; rfl
  ·exact ih _ h
theorem jV {env : Env} : ∀ (l : List (Str × NameKind)) (x : Str) (k : NameKind), (∀ y ∈ l, y.2 ≠ .cell) -> k = .cell \/ k = .free ->
  (l.map fun (n, k) => if (k == NameKind.free && env.scope.kind == .function && env.kindOf n == some .cell) then (n, NameKind.cell) else (n, k)).lookup x = some k -> (x, NameKind.free) ∈ l := by
 intro l
 induction l with
 | nil => intro _ _ _ _ h; simp at h
 | cons nk r ih =>
  obtain ⟨n, k'⟩ := nk
  intro x k hc hk h
  rw [Dm] at h
  by_cases hx : (x == n) = true
  ·have e1 : x = n := by simpa using hx
   subst e1
   by_cases hf : k' = .free
   ·subst hf; exact Dg
   ·exfalso
    have hb : (k' == NameKind.free) = false := by simpa using hf
    simp only [hb, Fx, DA, if_false, DC, beq_self_eq_true] at h
    have e2 : k' = k := Option.some.inj h
    rcases hk with z | z
    ·exact hc (x, k') Dg (e2.trans z)
    ·exact hf (e2.trans z)
  ·rw [Ej] at hx
   refine C8 _ (ih x k (fun y hy => hc y (C8 _ hy)) hk ?_)
   by_cases hq : (k' == NameKind.free && env.scope.kind == .function && env.kindOf n == some .cell) = true
   ·simp only [hq, if_true, DC, hx] at h; exact h
   ·rw [Ej] at hq
    simp only [hq, DA, if_false, DC, hx] at h; exact h
theorem kY {env : Env} : ∀ (l : List (Str × NameKind)) (x : Str), l.lookup x = some .free ->
  ∃ k, (k = NameKind.cell \/ k = NameKind.free) /\ (l.map fun (n, k) => if (k == NameKind.free && env.scope.kind == .function && env.kindOf n == some .cell) then (n, NameKind.cell) else (n, k)).lookup x = some k := by
 intro l
 induction l with
 | nil => intro _ h; simp at h
 | cons nk r ih =>
  obtain ⟨n, k'⟩ := nk
  intro x h
  rw [Dm]
  by_cases hx : (x == n) = true
  ·simp only [DC, hx] at h
   have e2 : k' = .free := Option.some.inj h
   subst e2
   by_cases hq : (NameKind.free == NameKind.free && env.scope.kind == .function && env.kindOf n == some .cell) = true
   ·exact ⟨.cell, .inl rfl, by simp only [hq, if_true, DC, hx]⟩
   ·rw [Ej] at hq
    exact ⟨.free, .inr rfl, by simp only [hq, DA, if_false, DC, hx]⟩
  ·rw [Ej] at hx
   simp only [DC, hx] at h
   obtain ⟨k, hk, e⟩ := ih x h
   refine ⟨k, hk, ?_⟩
   by_cases hq : (k' == NameKind.free && env.scope.kind == .function && env.kindOf n == some .cell) = true
   ·simp only [hq, if_true, DC, hx]; exact e
   ·rw [Ej] at hq
    simp only [hq, DA, if_false, DC, hx]; exact e
theorem ox {l : List (Str × NameKind)} {x : Str} {k : NameKind} : l.lookup x = some k -> (x, k) ∈ l := by
 induction l with
 | nil => intro h; simp at h
 | cons p r ih =>
  intro h
  obtain ⟨n, k'⟩ := p
  by_cases hx : (x == n) = true
  ·simp only [DC, hx] at h
   have e1 : x = n := by simpa using hx
   subst e1
   cases h
   exact Dg
  ·rw [Ej] at hx
   simp only [DC, hx] at h
   exact C8 _ (ih h)
section
variable {prog : Program} {w : World} {A : Around} {E : Value -> Shared -> Prop} {R : Result -> Shared -> Prop} {s : Shared}
abbrev yw : Value -> Shared -> Prop := fun _ _ => False
theorem pZ {elt target iter : Expr} {ifs : List Expr} {scope : Scope} {pos : Pos} {it acc : Value} {env : Env} (J : Nat -> Shared -> Prop)
  (turn : ∀ n s, J n s -> wpAny (model prog w) A (pyNext it) (fun r s₁ => (r = none /\ R (.ok .next) s₁) \/ ∃ v, r = some v /\
   wpAny (model prog w) A (letOwnedTupleGo target it v) (fun _ s₁' => wpAny (model prog w) A (assign target env v) (fun _ s₂ =>
    wpAny (model prog w) A (forIn ifs true fun c r => if r = true then do let ok <- isTrue c env (eval c env); pure (ForInStep.yield ok) else pure (ForInStep.yield r)) (fun ok s₃ =>
     (ok = true -> wpAny (model prog w) A (eval elt env) (fun x s₄ => wpAny (model prog w) A (call (.builtin "list.append") [acc, x]) (fun _ s₅ => ∃ m, m < n /\ J m s₅) yw s₄) yw s₃) /\
     (ok = false -> ∃ m, m < n /\ J m s₃)) yw s₂) yw s₁') yw s₁) yw s)
  (n : Nat) (h : J n s) : codeAny (model prog w) A (.compLoop (.ListComp elt [⟨target, iter, ifs, 0⟩] scope pos) 0 it acc env) R s := by
 refine codeAny_loop (M := model prog w) (A := A) rfl J (fun n s hJ => ?_) n h
 refine wpAny_noted (m := compTurn (.ListComp elt [⟨target, iter, ifs, 0⟩] scope pos) 0 it acc env) ?_
 rw [compTurn_list]
 refine wpAny_bind (wpAny_standAt (wpAny_bind (wpAny_mono (turn n s hJ) (fun r s₁ q => ?_) fun _ _ z => z.elim)))
 rcases q with ⟨e, q⟩ | ⟨v, e, q⟩
 ·subst e
  exact wpAny_pure q
 ·subst e
  refine wpAny_bind (wpAny_mono q (fun _ s₂ q => ?_) fun _ _ z => z.elim)
  refine wpAny_bind (wpAny_mono q (fun _ s₃ q => ?_) fun _ _ z => z.elim)
  refine wpAny_bind (wpAny_mono q (fun ok s₄ q => ?_) fun _ _ z => z.elim)
  cases ok with
  | false => exact wpAny_pure ⟨rfl, q.2 rfl⟩
  | true =>
   refine wpAny_bind (wpAny_bind (wpAny_mono (q.1 rfl) (fun x s₅ q => ?_) fun _ _ z => z.elim))
   exact wpAny_bind (wpAny_mono q (fun _ s₆ q => wpAny_pure (wpAny_pure ⟨rfl, q⟩)) fun _ _ z => z.elim)
end
def Ag (X : Cx) (ifs : List Expr) (t : TT) : Prop :=
 ∀ (pins : List (Addr × Obj)) (s : Shared) (σ : St) (H : Hp) (Q : Bool -> Hp -> Prop), Inv X pins σ H s -> t σ H Q ->
  wpAny (model X.prog X.w) X.A (forIn ifs true fun c r => if r = true then do let ok <- isTrue c X.env (eval c X.env); pure (ForInStep.yield ok) else pure (ForInStep.yield r)) (TP X pins σ Q) X.xe s
def jW : TT := fun _ H Q => Q true H
theorem bR {X : Cx} : Ag X [] jW := fun _ _ _ H _ I h => wpAny_tests_nil ⟨H, I, h⟩
theorem fU {X : Cx} {c : Expr} {t : TT} (h : PT X c t) : Ag X [c] t := fun pins s σ H Q I hw => wpAny_tests_one (h pins s σ H Q I hw)
def cW (σ : St) (js : List (Option Nat)) : St := js.map fun j => j.bind fun i => (σ[i]?).join
def ze (σ σ' : St) : Prop := σ'.length = σ.length /\ ∀ (i : Nat) v, σ[i]? = some (some v) -> σ'[i]? = some (some v)
def eZ (J : It) (H1 : Hp) (js : List (Option Nat)) (g : TG) (tc : TT) (te : TE) (σ : St) (Q : VK) : Prop := ∀ acc, H1 acc = none ->
 ∃ W : Nat -> Nat -> List V -> Hp -> Prop, (∃ m, W 0 m [] (aI H1 acc (.lst []))) /\ ∀ i m ys H, W i m ys H ->
  (J.stop i H /\ Q (.ref acc) H) \/ (J.go i H /\ ∃ N : List V -> Hp -> Prop, (∀ ys' H', N ys' H' -> ∃ m', m' < m /\ W (i + 1) m' ys' H') /\
   ∀ x H', J.yld i H x H' -> g x (cW σ js) H' fun σ2 H2 => ze (cW σ js) σ2 /\ tc σ2 H2 fun b H3 =>
    (b = true -> te σ2 H3 fun y H4 => H4 acc = some (.lst ys) /\ ys.length < sizeLine /\ N (ys ++ [y]) (aI H4 acc (.lst (ys ++ [y])))) /\ (b = false -> N ys H3))
def uS (wi : TI) (js : List (Option Nat)) (g : TG) (tc : TT) (te : TE) : TE := fun σ H Q => wi σ H fun J H1 => eZ J H1 js g tc te σ Q
theorem Un.but {fs ex : List Addr} {H H1 : Hp} {h h1 h2 : Heap} (u : Un fs ex H H1 h h1) (k : ∀ b o, h.get? b = some o -> ∀ o', h1.get? b = some o' -> h2.get? b = some o') : Un fs ex H H1 h h2 where
 keep := fun b o e n h1 h2 => k b o e _ (u.keep b o e n h1 h2)
 slot := fun b o e n h1 h2 => let ⟨sl, q⟩ := u.slot b o e n h1 h2; ⟨sl, k b o e _ q⟩
 free := u.free
 there := fun b o e hx => let ⟨o', q⟩ := u.there b o e hx; ⟨o', k b o e _ q⟩
 tups := u.tups
 frzs := u.frzs
 tbls := u.tbls
theorem Ah {P : Program} {w : World} {H : Hp} {h h' : Heap} {C : Addr} (ok : HOk P w H h) (hn : H C = none) (k : ∀ b o, b ≠ C -> h.get? b = some o -> h'.get? b = some o) : HOk P w H h' := fun b o e => by
 refine (ok b o e).stay (fun c u hc q => k c u ?_ q) (fun _ q => q) fun _ _ q => q
 rintro rfl
 rcases hc with z | z
 ·rw [z] at hn; rw [hn] at e; cases e
 ·rw [hn] at z; cases z
theorem cg {α β : Type} {F : α -> β -> Prop} : ∀ {l : List α} {r : List β} {i : Nat} {b : β}, Paired F l r -> r[i]? = some b -> ∃ a, l[i]? = some a /\ F a b := by
 intro l r i b h
 induction h generalizing i with
 | nil => intro e; simp at e
 | cons r t ih =>
  intro e
  cases i with
  | zero => cases e; exact ⟨_, rfl, r⟩
  | succ i => exact ih e
theorem zf {X : Cx} {pins : List (Addr × Obj)} {σ : St} {H : Hp} {s : Shared} {sc : Scope} {N : List Str} {fp : List Addr} (I : Inv X pins σ H s) (hk : sc.kind = .function)
  (hcell : ∀ y ∈ sc.names, y.2 ≠ .cell) (hcl : ∀ y ∈ sc.names, y.2 = .free -> ∃ c, X.env.cells.lookup y.1 = some c) (f : ∀ b ∈ fp, mR X pins H b) (fl : ∀ b ∈ fp, b < s.heap.objs.size) :
  (kX X sc N ⟨bL X.env [] sc.names, s.heap.objs.size, s, H, fp⟩).Ok where
 mod := I.ok.mod
 kind := hk
 glob := I.ok.glob
 blt := I.ok.blt
 above := C0 _
 inj := fun x y c e1 e2 => I.ok.inj x y c (cI _ [] (fun _ _ z => by simp at z) x c e1) (cI _ [] (fun _ _ z => by simp at z) y c e2)
 has := fun x hx => by
  have m : (x, NameKind.free) ∈ sc.names := by
   rcases hx with z | z
   ·exact jV (env := X.env) sc.names x _ hcell (.inl rfl) z
   ·exact jV (env := X.env) sc.names x _ hcell (.inr rfl) z
  exact DY.mp (lV sc.names [] x m (hcl _ m rfl))
 cab := fun _ _ z => by cases z
 hd := I.ok.hd
 frames := I.ok.frames
 stk := .inl rfl
 exf := fun b hb => ⟨C6 (fl b hb), fun x c e => (f b hb).2.2.2.2.1 x c (cI _ [] (fun _ _ z => by simp at z) x c e)⟩
 bs := I.bs
 bsz := Di I.ok.bsz I.sz
 noex := fun b o e hb => by
  rcases (f b hb).2.2.2.1 with z | z
  ·exact I.ok.noex b o e z
  ·exact absurd (Dj (Heap.lt_size (I.ok.bs b o e).1) z) (Eb _)
 exfs := fun b hb hs => by
  rcases C5.mp (I.stkSub b hs) with z | z
  ·exact (f b hb).2.1 z
  ·exact (f b hb).2.2.1 z
 funs := I.stack
 frf := I.stkFree
theorem xc {X : Cx} {pins : List (Addr × Obj)} {σ : St} {H : Hp} {s s4 : Shared} {sc : Scope} {N : List Str} {js : List (Option Nat)} {fp : List Addr} {m : Str -> Option Value} (I : Inv X pins σ H s)
  (ok : (kX X sc N ⟨bL X.env [] sc.names, s.heap.objs.size, s, H, fp⟩).Ok) (hfree : ∀ y ∈ sc.names, y.2 = .free -> X.env.kindOf y.1 = some .cell \/ X.env.kindOf y.1 = some .free)
  (hN : Paired (fun (j : Option Nat) n => ∀ i, j = some i -> X.N[i]? = some n /\ sc.names.lookup n = some .free) js N)
  (ho : s4.os = s.os) (hg : s4.gens = s.gens) (ns : s4.heap.Ns s.heap.objs.size m) (kp : ∀ b u, s.heap.get? b = some u -> s4.heap.get? b = some u) :
  Inv (kX X sc N ⟨bL X.env [] sc.names, s.heap.objs.size, s, H, fp⟩) [] (cW σ js) H s4 where
 ok := ok
 os := ho
 bare := by rw [hg]; exact I.bare
 base := Un.kept kp
 loc := by
  refine ⟨m, ns, fun i x v e1 e2 e3 => ?_⟩
  have e1' : N[i]? = some x := e1
  obtain ⟨j, ej, fj⟩ := cg hN e1'
  unfold cW at e2
  rw [CU, ej] at e2
  cases j with
  | none => cases e2
  | some k =>
   obtain ⟨a1, a2⟩ := fj k rfl
   have e2' : (σ[k]?).join = some v := Option.some.inj e2
   have e4 : σ[k]? = some (some v) := by
    cases z : σ[k]? with
    | none => rw [z] at e2'; cases e2'
    | some y => rw [z] at e2'; exact congrArg some e2'
   have mem := ox a2
   have kn := hfree _ mem rfl
   have vis : A7 X.env.scope x := .inr kn
   obtain ⟨m', hn', hl'⟩ := I.loc
   obtain ⟨u, ru, lk⟩ := hl' k x v a1 e4 vis
   refine ⟨u, ru, .inr ⟨?_, ?_⟩⟩
   ·obtain ⟨k', hk', e⟩ := kY (env := X.env) sc.names x a2
    rcases hk' with z | z
    ·subst z; exact .inl e
    ·subst z; exact .inr e
   ·rcases lk with ⟨z, _⟩ | ⟨_, c, hc, hcl⟩
    ·rcases kn with q | q
     ·have q' : X.env.kindOf x = some .cell := q
      rw [z] at q'; cases q'
     ·have q' : X.env.kindOf x = some .free := q
      rw [z] at q'; cases q'
    ·obtain ⟨c', e'⟩ := DY.mp (lV (env := X.env) sc.names [] x mem ⟨c, hc⟩)
     have e2 := cI sc.names [] (fun _ _ z => by simp at z) x c' e'
     rw [hc] at e2
     cases e2
     obtain ⟨o, h1, h2⟩ := hcl
     exact ⟨c, e', o, kp c o h1, h2⟩
 cell := fun x c e => by
  obtain ⟨v, o, h1, h2⟩ := I.cell x c (cI _ [] (fun _ _ z => by simp at z) x c e)
  exact ⟨v, o, kp c o h1, h2⟩
 free := I.hok.fresh (C0 _)
 freeC := fun x c e => I.freeC x c (cI _ [] (fun _ _ z => by simp at z) x c e)
 pin := fun p hp => by cases hp
 hok := I.hok.kept kp
 len := by
  unfold cW
  rw [CO]
  exact Paired.length hN
set_option maxHeartbeats 4000000 in
theorem jX {X : Cx} {cpos : Pos} {use : Option (Value -> Sem Unit)} {R : Value -> Shared -> Prop} {pins : List (Addr × Obj)} {s : Shared} {σ : St} {H : Hp} {Q : VK} {elt iter tg : Expr} {ifs : List Expr} {sc : Scope} {pos : Pos} {wi : TI} {g : TG} {tc : TT} {te : TE} (N : List Str) (js : List (Option Nat))
  (hcalm : X.calm = true) (hi : PI X tg iter wi) (hg : ∀ b, PG (kX X sc N b) tg g) (hc : ∀ b, Ag (kX X sc N b) ifs tc) (he : ∀ b, PE (kX X sc N b) elt te)
  (hN : Paired (fun (j : Option Nat) n => ∀ i, j = some i -> X.N[i]? = some n /\ sc.names.lookup n = some .free) js N)
  (hk : sc.kind = .function)
  (hcell : (sc.names.all fun y => y.2 != .cell) = true)
  (hfree : (sc.names.all fun y => y.2 != .free || (X.env.scope.names.lookup y.1 == some .cell || X.env.scope.names.lookup y.1 == some .free)) = true)
  (hnames : (sc.names.all fun y => y.2 != .local || sc.names.lookup y.1 == some .local) = true)
  (hs : ∀ x, foldedSetIterable iter X.env x = pure x) (I : Inv X pins σ H s) (h : uS wi js g tc te σ H Q)
  (fin0 : ∀ (l C : Addr) (s' : Shared) (H' : Hp) (m : Str -> Option Value), Inv X pins σ H' s' -> s'.heap.Ns C m -> H' C = none -> X.env.locals ≠ C -> X.s₀.heap.objs.size <= C -> (∀ x c, X.env.cells.lookup x = some c -> c ≠ C) -> (∀ p ∈ X.pn ++ pins, p.1 ≠ C) -> Q (.ref l) H' -> compPost (model X.prog X.w) X.A X.xe use R (.ref l) C (.ok .next) s') :
  wpAny (model X.prog X.w) X.A (comprehension (.ListComp elt [⟨tg, iter, ifs, 0⟩] sc pos) sc X.env cpos (newList []) false (eval iter X.env) use) R X.xe s := by
 have hcell' : ∀ y ∈ sc.names, y.2 ≠ .cell := fun y hy => by simpa using DF.mp hcell y hy
 have hfree' : ∀ y ∈ sc.names, y.2 = .free -> X.env.kindOf y.1 = some .cell \/ X.env.kindOf y.1 = some .free := fun y hy e => by
  have q := DF.mp hfree y hy
  rw [e] at q
  have q' : X.env.scope.names.lookup y.1 = some .cell \/ X.env.scope.names.lookup y.1 = some .free := by simpa using q
  exact q'
 have hnames' : ∀ y ∈ sc.names, y.2 = .local -> sc.names.lookup y.1 = some .local := fun y hy e => by
  have q := DF.mp hnames y hy
  rw [e] at q
  simpa using q
 have hcl : ∀ y ∈ sc.names, y.2 = .free -> ∃ c, X.env.cells.lookup y.1 = some c := fun y hy e => I.ok.has y.1 (hfree' y hy e)
 refine wpAny_comprehension_free (use := use) (g := ⟨tg, iter, ifs, 0⟩) (gs := []) rfl hs (xb hcl) hk hnames' ?_
 refine bP (hi pins s σ H _ I h) fun v s1 h1 => bP h1 fun itv s2 h2 => ?_
 obtain ⟨it, fp, tn, J, H2, e, I2, T, st2, f2, q⟩ := h2
 subst e
 obtain ⟨W, ⟨m0, w0⟩, step⟩ := q _ I2.fresh
 refine wpAny_newObj_type (wpAny_newFunctionEnv hcell' (by intro y hy; simp at hy) (fun h₁ hns hsb => ?_) hk)
 dsimp only at hns hsb ⊢
 have I3 : Inv X pins σ (aI H2 s2.heap.objs.size (.lst [])) { s2 with heap := s2.heap.push { cls := .type "list", data := .seq ([] : List Value).toArray }, toks := s2.toks } := I2.lnew .nil (Dk _)
 generalize hs3 : ({ s2 with heap := s2.heap.push { cls := .type "list", data := .seq ([] : List Value).toArray }, toks := s2.toks } : Shared) = s3 at I3
 generalize hH3 : aI H2 s2.heap.objs.size (.lst []) = H3 at I3 w0
 have es3 : s3.heap = s2.heap.push { cls := .type "list", data := .seq ([] : List Value).toArray } := by rw [<- hs3]
 have hC : (s2.heap.push { cls := .type "list", data := .seq ([] : List Value).toArray }).objs.size = s3.heap.objs.size := by rw [es3]
 have f3 : ∀ b ∈ fp, mR X pins H3 b := fun b hb => ⟨by rw [<- hH3, ar (C6 (by obtain ⟨o, e, _⟩ := T.obj _ _ st2 b hb; exact Heap.lt_size e))]; exact (f2 b hb).1, (f2 b hb).2⟩
 have fl3 : ∀ b ∈ fp, b < s3.heap.objs.size := fun b hb => by
  obtain ⟨o, e, _⟩ := T.obj _ _ st2 b hb
  rw [es3, Heap.size_push]
  exact DJ (Heap.lt_size e)
 have ok := zf (N := N) (sc := sc) (fp := fp) I3 hk hcell' hcl f3 fl3
 have k23 : ∀ b u, s2.heap.get? b = some u -> s3.heap.get? b = some u := fun b u e => by rw [es3]; exact Heap.get?_push_of_some _ e
 have k34 : ∀ b u, s3.heap.get? b = some u -> h₁.get? b = some u := fun b u e => by
  rw [hC] at hsb
  refine (hsb.2 b (C6 (Heap.lt_size e))).trans (Heap.get?_push_of_some _ ?_)
  rw [<- es3]; exact e
 have I4 := xc (s4 := { s2 with heap := h₁, toks := s2.toks + ([] : List (Str × Value)).length }) (js := js) I3 ok hfree' hN (by rw [<- hs3]) (by rw [<- hs3]) (by rw [<- hC]; exact hns) k34
 have st4 : tn 0 h₁ := T.keep _ _ _ st2 fun b _ o e => k34 b o (k23 b o e)
 generalize hs4 : ({ s2 with heap := h₁, toks := s2.toks + ([] : List (Str × Value)).length } : Shared) = s4 at I4
 have eh4 : s4.heap = h₁ := by rw [<- hs4]
 rw [hC]
 generalize hB : (⟨bL X.env [] sc.names, s3.heap.objs.size, s3, H3, fp⟩ : BA) = B at ok I4
 have eC : B.C = s3.heap.objs.size := by rw [<- hB]
 have stat : ∀ {H' : Hp}, (∀ b ∈ fp, H' b = none) -> ∀ b ∈ fp, mR (kX X sc N B) [] H' b := fun hn b hb => by
  refine ⟨hn b hb, ?_, fun z => ?_, .inl (by rw [<- hB]; exact hb), fun x c e => (ok.exf b (by rw [<- hB]; exact hb)).2 x c e, fun p hp => by cases hp⟩
  ·exact (ok.exf b (by rw [<- hB]; exact hb)).1
  ·exact ok.exfs b (by rw [<- hB]; exact hb) z
 have fin : ∀ {s' : Shared} {H' : Hp} {σ' : St}, Inv (kX X sc N B) [] σ' H' s' -> Q (.ref s2.heap.objs.size) H' ->
   compPost (model X.prog X.w) X.A X.xe use R (.ref s2.heap.objs.size) s3.heap.objs.size (.ok .next) s' := fun {s' H' σ'} I' q' => by
  obtain ⟨m, hm, _⟩ := id I'.loc
  have hm' : s'.heap.Ns s3.heap.objs.size m := by rw [<- eC]; exact hm
  have u1 : Un (gU X.stack) fp H2 H3 s2.heap s3.heap := by rw [<- hH3]; exact Un.laid k23 (C0 _) I2.fresh
  have u2 : Un (gU X.stack) fp H3 H' s3.heap s'.heap := by
   have z := I'.base
   rw [<- hB] at z
   exact z
  have fr' : H' s3.heap.objs.size = none := by rw [<- eC]; exact I'.free
  have os' : s'.os = s2.os := by
   have z := I'.os
   rw [<- hB] at z
   rw [z, <- hs3]
  have Io : Inv X pins σ H' s' := I2.call' (s' := s') (ch := fp) os' (u1.trans u2) I'.hok I'.bare fun b hb => ⟨(f2 b hb).2.2.2.1, (f2 b hb).2.1, (f2 b hb).2.2.2.2.1, (f2 b hb).2.2.2.2.2⟩
  have ltC : s2.heap.objs.size < s3.heap.objs.size := by rw [es3, Heap.size_push]; exact Ek _
  have cC : ∀ x c, X.env.cells.lookup x = some c -> c ≠ s3.heap.objs.size := fun x c e z => by
   obtain ⟨v, q⟩ := I2.cell x c e
   exact absurd q.lt (by rw [z]; exact Fz.mpr (DS ltC))
  exact fin0 _ _ s' H' m Io hm' fr' (C6 (Nat.lt_trans I2.lt ltC)) (Di I2.sz (DS ltC)) cC (fun p hp z => absurd (Heap.lt_size (I2.pin p hp).1) (by rw [z]; exact Fz.mpr (DS ltC))) q'
 have loop : codeAny (model X.prog X.w) X.A (.compLoop (.ListComp elt [⟨tg, iter, ifs, 0⟩] sc pos) 0 (.ref it) (.ref s2.heap.objs.size) (kX X sc N B).env)
   (compPost (model X.prog X.w) X.A X.xe use R (.ref s2.heap.objs.size) s3.heap.objs.size) s4 := by
  refine pZ (fun n s' => ∃ i ys σ' H', Inv (kX X sc N B) [] σ' H' s' /\ ze (cW σ js) σ' /\ tn i s'.heap /\ (∀ b ∈ fp, H' b = none) /\ W i n ys H') ?_ m0
   ⟨0, [], cW σ js, H3, I4, ⟨rfl, fun _ _ z => z⟩, by rw [eh4]; exact st4, fun b hb => (f3 b hb).1, w0⟩
  rintro n s5 ⟨i, ys, σ5, H5, I5', kp5, st5, fr5, w5⟩
  have I5 : Inv (kX X sc N B) [] (cW σ js) H5 s5 := I5'.weak kp5.1.symm kp5.2
  rcases step i n ys H5 w5 with ⟨stop, qn⟩ | ⟨go, N', hN', turn⟩
  ·refine bP (T.done (kX X sc N B) rfl rfl rfl hcalm i [] s5 _ H5 yw I5 (stat fr5) st5 stop) fun r s6 ⟨hr, I6⟩ => .inl ⟨hr, fin I6 qn⟩
  ·refine bP (T.item (kX X sc N B) rfl rfl rfl hcalm i [] s5 _ H5 yw I5 (stat fr5) st5 go) fun r s6 ⟨u, hr, h6⟩ => .inr ⟨u, hr, ?_⟩
   refine bP h6 fun _ s7 hq__ => ?_
   obtain ⟨x, H7, I7, r7, y7, st7, fr7⟩ := hq__
   have I7' := I7.pinned (stat fr7) (T.obj _ _ st7)
   have back : ∀ {σ8 : St} {H8 : Hp} {s8 : Shared}, Inv (kX X sc N B) ([] ++ jP fp s7.heap) σ8 H8 s8 -> tn (i + 1) s8.heap /\ ∀ b ∈ fp, H8 b = none := fun {σ8 H8 s8} I8 => by
    refine ⟨T.keep _ _ _ st7 fun b hb o e => (I8.pin (b, o) (Dc _ (Dc _ (eD hb e)))).1, fun b hb => ?_⟩
    obtain ⟨o, e, d⟩ := T.obj _ _ st7 b hb
    exact (I8.pin (b, o) (Dc _ (Dc _ (eD hb e)))).2.1
   refine bP (hg B _ s7 _ H7 x u _ I7' r7 (turn x H7 y7)) fun _ s8 hq__ => ?_
   obtain ⟨σ8, H8, I8, kp8, q8⟩ := hq__
   refine bP (hc B _ s8 σ8 H8 _ I8 q8) fun ok s9 ⟨H9, I9, q9⟩ => ⟨fun e => ?_, fun e => ?_⟩
   ·refine bP (he B _ s9 σ8 H9 _ I9 (q9.1 e)) fun yv s10 hq__ => ?_
    obtain ⟨y, H10, I10, r10, q10⟩ := hq__
    obtain ⟨e10, l10, n10⟩ := q10
    refine bP (aX _ s10 σ8 H10 (.ref s2.heap.objs.size) [y] _ _ (fun _ H' => N' (ys ++ [y]) H') I10 rfl (.cons r10 .nil) ⟨_, ys, y, rfl, rfl, e10, l10, n10⟩) fun _ s11 hq__ => ?_
    obtain ⟨_, H11, I11, _, q11⟩ := hq__
    obtain ⟨m', hm, w11⟩ := hN' _ _ q11
    obtain ⟨st11, fr11⟩ := back I11
    exact ⟨m', hm, i + 1, ys ++ [y], σ8, H11, I11.unpinned, kp8, st11, fr11, w11⟩
   ·obtain ⟨m', hm, w11⟩ := hN' _ _ (q9.2 e)
    obtain ⟨st11, fr11⟩ := back I9
    exact ⟨m', hm, i + 1, ys, σ8, H9, I9.unpinned, kp8, st11, fr11, w11⟩
 have env_eq : (kX X sc N B).env = compEnvC sc (bL X.env [] sc.names) s3.heap.objs.size X.env := by rw [<- hB]
 rw [env_eq] at loop
 have st4' : tn 0 s4.heap := by rw [eh4]; exact st4
 exact codeAny_compStart_list loop (T.self X.A 0 _ _ _ st4' loop)
theorem be {X : Cx} {elt iter tg : Expr} {ifs : List Expr} {sc : Scope} {pos : Pos} {wi : TI} {g : TG} {tc : TT} {te : TE} (N : List Str) (js : List (Option Nat))
  (hcalm : X.calm = true) (hi : PI X tg iter wi) (hg : ∀ b, PG (kX X sc N b) tg g) (hc : ∀ b, Ag (kX X sc N b) ifs tc) (he : ∀ b, PE (kX X sc N b) elt te)
  (hN : Paired (fun (j : Option Nat) n => ∀ i, j = some i -> X.N[i]? = some n /\ sc.names.lookup n = some .free) js N)
  (hk : sc.kind = .function := by rfl)
  (hcell : (sc.names.all fun y => y.2 != .cell) = true := by rfl)
  (hfree : (sc.names.all fun y => y.2 != .free || (X.env.scope.names.lookup y.1 == some .cell || X.env.scope.names.lookup y.1 == some .free)) = true := by rfl)
  (hnames : (sc.names.all fun y => y.2 != .local || sc.names.lookup y.1 == some .local) = true := by rfl)
  (hs : ∀ x, foldedSetIterable iter X.env x = pure x := by intro _; rfl) : PE X (.ListComp elt [⟨tg, iter, ifs, 0⟩] sc pos) (uS wi js g tc te) := by
 intro pins s σ H Q I h
 rw [eval_ListComp]
 exact jX (use := none) N js hcalm hi hg hc he hN hk hcell hfree hnames hs I h fun l C s' H' m Io hm fr lC sz cC pC q' => ⟨m, hm, fun h' sb' => ⟨.ref l, H', Io.turned (t' := s'.toks) (it := C) (fun b o hb e => (sb'.2 b hb).trans e) fr lC.symm (.inr sz) cC pC, rfl, q'⟩⟩
theorem hE {X : Cx} {i₀ : Nat} {y₀ : Str} {py spos : Pos} {elt iter tg : Expr} {ifs : List Expr} {sc : Scope} {pos : Pos} {wi : TI} {g : TG} {tc : TT} {te : TE} (hN₀ : X.N.Nodup) (hi₀ : X.N[i₀]? = some y₀) (hx₀ : Ak X.env.scope y₀) (N : List Str) (js : List (Option Nat))
  (hcalm : X.calm = true) (hi : PI X tg iter wi) (hg : ∀ b, PG (kX X sc N b) tg g) (hc : ∀ b, Ag (kX X sc N b) ifs tc) (he : ∀ b, PE (kX X sc N b) elt te)
  (hN : Paired (fun (j : Option Nat) n => ∀ i, j = some i -> X.N[i]? = some n /\ sc.names.lookup n = some .free) js N)
  (hk : sc.kind = .function := by rfl)
  (hcell : (sc.names.all fun y => y.2 != .cell) = true := by rfl)
  (hfree : (sc.names.all fun y => y.2 != .free || (X.env.scope.names.lookup y.1 == some .cell || X.env.scope.names.lookup y.1 == some .free)) = true := by rfl)
  (hnames : (sc.names.all fun y => y.2 != .local || sc.names.lookup y.1 == some .local) = true := by rfl)
  (hs : ∀ x, foldedSetIterable iter X.env x = pure x := by intro _; rfl) (hsw : swapsWith (.ListComp elt [⟨tg, iter, ifs, 0⟩] sc pos) (some (.Name y₀ py)) spos.line X.env = pure true := by rfl)
  (hf₀ : X.fn y₀ = true \/ X.env.scope.names.lookup y₀ = some .local := by first | exact .inl rfl | exact .inr rfl | assumption) : PS X (.Assign [.Name y₀ py] (.ListComp elt [⟨tg, iter, ifs, 0⟩] sc pos) spos) (yT (uS wi js g tc te) (dD i₀)) := by
 intro pins s σ H D I h
 rw [exec_Assign_Name_used _ _ _ _ hsw]
 refine wpAny_bind (wpAny_standAt (wpAny_bind ?_))
 show wpAny _ X.A (do let _ <- comprehension (.ListComp elt [⟨tg, iter, ifs, 0⟩] sc pos) sc X.env _ (newList []) false (eval iter X.env) (some (assign (.Name y₀ py) X.env))) _ _ s
 refine wpAny_bind (wpAny_mono (jX (use := some (assign (.Name y₀ py) X.env)) (R := fun _ s' => SP X pins D .next s') (Q := fun x H1 => D.nx (σ.set i₀ (some x)) H1) N js hcalm hi hg hc he hN hk hcell hfree hnames hs I h fun l C s' H' m Io hm fr lC sz cC pC q' => ?_) (fun _ s' hq => wpAny_pure (wpAny_pure hq)) fun _ _ e => e)
 show wpAny (model X.prog X.w) X.A (assign (.Name y₀ py) X.env (.ref l)) _ X.xe s'
 refine wpAny_assign_Name (lK Io hN₀ hi₀ hx₀ (v := .ref l) rfl (fun s'' I'' ⟨a, sb, ha⟩ => ?_) hf₀)
 have haC : C ≠ a := by
  rcases ha with z | z
  ·rw [z]; exact lC.symm
  ·exact (cC _ _ z).symm
 exact ⟨m, hm.sameBut sb haC, fun h' sb' => ⟨_, H', I''.turned (t' := s''.toks) (it := C) (fun b o hb e => (sb'.2 b hb).trans e) fr lC.symm (.inr sz) cC pC, q'⟩⟩
section
variable {X : Cx} {p : Pos}
theorem zg (h : X.mg "int" = none) (hg : Gl X "int" := by rfl) : PE X (.Name "int" p) (tC (.ty "int")) := jG hg h PyProof.Rows.boot_int rfl
theorem xf (h : X.mg "bool" = none) (hg : Gl X "bool" := by rfl) : PE X (.Name "bool" p) (tC (.ty "bool")) := jG hg h PyProof.Rows.boot_bool rfl
theorem hZ (h : X.mg "list" = none) (hg : Gl X "list" := by rfl) : PE X (.Name "list" p) (tC (.ty "list")) := jG hg h PyProof.Rows.boot_list rfl
theorem oy (h : X.mg "tuple" = none) (hg : Gl X "tuple" := by rfl) : PE X (.Name "tuple" p) (tC (.ty "tuple")) := jG hg h PyProof.Rows.boot_tuple rfl
theorem uT : cu X (.builtin "isinstance") (fun xs H Q => ∃ x Y t b, xs = [x, .ty Y] /\ TyOf X.K H x t /\ PySem.W.kitOne X.K t (.type Y) = some b /\ Q (.bl b) H) := by
 intro pins s σ H xs us Q I r h
 obtain ⟨x, Y, t, b, e, ty, ko, q⟩ := h
 subst e
 obtain ⟨u, w', e, rx, ry⟩ := yr r
 subst e
 cases ry
 exact sH I rx ty ko fun tk => ⟨.bl b, H, I.tok _, rfl, q⟩
end
structure Def (K : PySem.W.Frag) (mg : Str -> Option Value) (x : Str) (st : Stmt) (ps : List Str) (f : Addr) (fd : FuncData) : Prop where
 fn : Fun K x x st f fd
 bd : Binds K fd ps []
 at' : mg x = some (.ref f)
section
variable {X : Cx} {k : Nat} {x : Str} {st : Stmt} {ps : List Str} {f : Addr} {fd : FuncData} {sp : Sp} {e : Expr} {es : List Expr} {t : TA} {p pos : Pos}
theorem pc (D : Def X.K X.mg x st ps f fd) (F : FnOk X.prog X.w X.K X.mg X.base br k f fd ps sp) (hr : Room k X.A) (ha : PA X (e :: es) t) (hg : Gl X x := by rfl) (hdb : (x == ("__debug__" : Str)) = false := by decide)
  (he : starEach (e :: es) X.env = (false, eval e X.env) :: starEach es X.env := by rfl) (hpl : (backTo pos (starEach es X.env)).any (·.1) = false := by rfl) : PE X (.Call (.Name x p) (e :: es) [] pos) (uF sp [] E0 t) :=
 rb F hr hg D.at' D.fn.kp D.bd .nil AN ha hdb he hpl
end
theorem Same.new {H : Hp} {a : Addr} {o : HO} (h : H a = none) : Same H (aI H a o) := fun b u e => by rw [ar (ax e h)]; exact e
theorem Same.put {H H' : Hp} {a : Addr} {o : HO} (s : Same H H') (h : H a = none) : Same H (aI H' a o) := fun b u e => by rw [ar (ax e h)]; exact s b u e
theorem Same.to {H H' : Hp} {a : Addr} {o : HO} (s : Same H H') (h : H' a = none) : Same H (aI H' a o) := s.trans (Same.new h)
inductive DEq (K : PySem.W.Frag) (H : Hp) : Nat -> V -> V -> Bool -> Prop
 | flat {d : Nat} {x y : V} (fx : cO x = true) (fy : cO y = true) : DEq K H d x y (rg x y)
 | lst {d : Nat} {a b : Addr} {xs ys : List V} {e : Nat -> Bool} (h1 : SqL K H a xs) (h2 : SqL K H b ys) (hl : xs.length = ys.length)
  (he : ∀ (j : Nat) x y, xs[j]? = some x -> ys[j]? = some y -> DEq K H d x y (e j)) : DEq K H (d + 1) (.ref a) (.ref b) ((CY xs.length).all e)
 | len {d : Nat} {a b : Addr} {xs ys : List V} (h1 : SqL K H a xs) (h2 : SqL K H b ys) (hl : xs.length ≠ ys.length) : DEq K H (d + 1) (.ref a) (.ref b) false
 | tup {d : Nat} {a b : Addr} {xs ys : List V} {e : Nat -> Bool} (h1 : SqT K H a xs) (h2 : SqT K H b ys)
  (he : ∀ (j : Nat) x y, xs[j]? = some x -> ys[j]? = some y -> DEq K H d x y (e j)) : DEq K H (d + 1) (.ref a) (.ref b) ((CY (min xs.length ys.length)).all e && xs.length == ys.length)
theorem jY : ∀ {x : V}, cO x = true -> rg x x = true
 | .non, _ => rfl
 | .bl b, _ => by cases b <;> rfl
 | .int i, _ => by simp [rg]
 | .str y, _ => by simp [rg]
theorem DEq.self {X : Cx} {pins : List (Addr × Obj)} {σ : St} {H : Hp} {s : Shared} (I : Inv X pins σ H s) {d : Nat} {x y : V} {b : Bool} (h : DEq X.K H d x y b) : x = y -> b = true := by
 induction h with
 | flat fx fy => intro e; subst e; exact jY fx
 | @lst d a b xs ys e h1 h2 hl he ih =>
  intro z
  cases z
  have q := I.list_inj h1 h2
  subst q
  rw [DF]
  intro j hj
  have hj' : j < xs.length := Ds.mp hj
  exact ih j _ _ (CP hj') (CP hj') rfl
 | len h1 h2 hl =>
  intro z
  cases z
  have q := I.list_inj h1 h2
  exact absurd (congrArg List.length q) hl
 | @tup d a b xs ys e h1 h2 he ih =>
  intro z
  cases z
  have q := I.tuple_inj h1 h2
  subst q
  rw [Dx, DF]
  refine ⟨fun j hj => ?_, by simp⟩
  have hj' : j < xs.length := by have := Ds.mp hj; omega
  exact ih j _ _ (CP hj') (CP hj') rfl
theorem Vals.at {xs : List V} {us : List Value} (r : Vals xs us) {j : Nat} (h : j < us.toArray.size) : ∃ x, xs[j]? = some x /\ RelV x us.toArray[j] := by
 have hl := r.length
 have h' : j < xs.length := by simpa [hl] using h
 obtain ⟨u, e, ru⟩ := r.get (CP h')
 refine ⟨_, CP h', ?_⟩
 have h2 : j < us.length := by simpa using h
 rw [CP h2] at e
 have e2 : us[j] = u := Option.some.inj e
 simpa [e2] using ru
theorem DEq.at {X : Cx} {pins : List (Addr × Obj)} {σ : St} {H : Hp} {s : Shared} (I : Inv X pins σ H s) {d : Nat} {x y : V} {b : Bool} (h : DEq X.K H d x y b) :
  ∀ {A : Around} {u v : Value}, A.units + d < cLine -> RelV x u -> RelV y v -> SeqAt.EqAt A s u v b := by
 induction h with
 | flat fx fy => intro A u v hu rx ry; exact uH rx ry fx fy
 | @lst d a b xs ys e h1 h2 hl he ih =>
  intro A u v hu rx ry
  cases rx; cases ry
  by_cases hab : a = b
  ·have z : (CY xs.length).all e = true := (DEq.lst h1 h2 hl he).self I (by rw [hab])
   rw [z, hab]
   exact SeqAt.EqAt.same _
  ·obtain ⟨its, r, pl, _⟩ := I.list h1
   obtain ⟨its2, r2, pl2, _⟩ := I.list h2
   have l1 := r.length
   have l2 := r2.length
   have q := SeqAt.RcAt.lists (A := A) (e := e) pl.isList pl2.isList (by simp; omega) (by omega) fun j j1 j2 => by
    obtain ⟨x, ex, rx⟩ := r.at j1
    obtain ⟨y, ey, ry⟩ := r2.at j2
    exact ih j x y ex ey (by show A.units + 1 + d < cLine; omega) rx ry
   refine SeqAt.EqAt.of_refs hab ?_
   simpa [l1] using q
 | @len d a b xs ys h1 h2 hl =>
  intro A u v hu rx ry
  cases rx; cases ry
  have hab : a ≠ b := by
   rintro rfl
   exact hl (congrArg List.length (I.list_inj h1 h2))
  obtain ⟨its, r, pl, _⟩ := I.list h1
  obtain ⟨its2, r2, pl2, _⟩ := I.list h2
  have l1 := r.length
  have l2 := r2.length
  exact SeqAt.EqAt.of_refs hab (SeqAt.RcAt.lists_lengths pl.isList pl2.isList (by simp; omega) (by omega))
 | @tup d a b xs ys e h1 h2 he ih =>
  intro A u v hu rx ry
  cases rx; cases ry
  by_cases hab : a = b
  ·have z := (DEq.tup h1 h2 he).self I (by rw [hab])
   rw [z, hab]
   exact SeqAt.EqAt.same _
  ·obtain ⟨its, r, pl, _⟩ := I.tuple h1
   obtain ⟨its2, r2, pl2, _⟩ := I.tuple h2
   have l1 := r.length
   have l2 := r2.length
   have q := SeqAt.RcAt.tuples (A := A) (e := e) (show s.heap.IsTuple a its.toArray from pl) (show s.heap.IsTuple b its2.toArray from pl2) (by omega) fun j j1 j2 => by
    obtain ⟨x, ex, rx⟩ := r.at j1
    obtain ⟨y, ey, ry⟩ := r2.at j2
    exact ih j x y ex ey (by show A.units + 1 + d < cLine; omega) rx ry
   refine SeqAt.EqAt.of_refs hab ?_
   simpa [l1, l2] using q
section
variable {X : Cx}
def AO (K : PySem.W.Frag) : R2 := fun x y H Q => ∃ d b, DEq K H d x y b /\ d < 64 /\ cO x = false /\ Q (.bl b) H
def AQ (K : PySem.W.Frag) : R2 := fun x y H Q => ∃ d b, DEq K H d x y b /\ d < 64 /\ cO x = false /\ Q (.bl (!b)) H
theorem zh (hu : X.A.units + 64 < cLine) : fh X (compareOp .Eq) (AO X.K) := by
 intro pins s σ H x y v u Q I rx ry h
 obtain ⟨d, b, dq, hd, fl, q⟩ := h
 cases dq with
 | flat fx fy => rw [fx] at fl; cases fl
 | @lst d a b xs ys e h1 h2 hl he =>
  cases rx; cases ry
  obtain ⟨its, r, pl, _⟩ := I.list h1
  obtain ⟨its2, r2, pl2, _⟩ := I.list h2
  have l1 := r.length
  have l2 := r2.length
  refine SeqAt.eq_listAt (e := e) pl.isList pl2.isList (by simp; omega) (by omega) (fun j j1 j2 => ?_) ?_
  ·obtain ⟨x, ex, rx⟩ := r.at j1
   obtain ⟨y, ey, ry⟩ := r2.at j2
   exact (he j x y ex ey).at I (by show X.A.units + 1 + d < cLine; omega) rx ry
  ·refine ⟨.bl _, H, I, rfl, ?_⟩
   simpa [<- l1] using q
 | @len d a b xs ys h1 h2 hl =>
  cases rx; cases ry
  obtain ⟨its, r, pl, _⟩ := I.list h1
  obtain ⟨its2, r2, pl2, _⟩ := I.list h2
  have l1 := r.length
  have l2 := r2.length
  exact SeqAt.eq_list_lengthsAt pl.isList pl2.isList (by simp; omega) (by omega) ⟨.bl _, H, I, rfl, q⟩
 | @tup d a b xs ys e h1 h2 he =>
  cases rx; cases ry
  obtain ⟨its, r, pl, _⟩ := I.tuple h1
  obtain ⟨its2, r2, pl2, _⟩ := I.tuple h2
  have l1 := r.length
  have l2 := r2.length
  refine SeqAt.eq_tupleAt (e := e) (show s.heap.IsTuple a its.toArray from pl) (show s.heap.IsTuple b its2.toArray from pl2) (by omega) (fun j j1 j2 => ?_) ?_
  ·obtain ⟨x, ex, rx⟩ := r.at j1
   obtain ⟨y, ey, ry⟩ := r2.at j2
   exact (he j x y ex ey).at I (by show X.A.units + 1 + d < cLine; omega) rx ry
  ·refine ⟨.bl _, H, I, rfl, ?_⟩
   simpa [<- l1, <- l2] using q
theorem zj (hu : X.A.units + 64 < cLine) : fh X (compareOp .NotEq) (AQ X.K) := by
 intro pins s σ H x y v u Q I rx ry h
 obtain ⟨d, b, dq, hd, fl, q⟩ := h
 cases dq with
 | flat fx fy => rw [fx] at fl; cases fl
 | @lst d a b xs ys e h1 h2 hl he =>
  cases rx; cases ry
  obtain ⟨its, r, pl, _⟩ := I.list h1
  obtain ⟨its2, r2, pl2, _⟩ := I.list h2
  have l1 := r.length
  have l2 := r2.length
  refine SeqAt.RcNeAt.lists (e := e) pl.isList pl2.isList (by simp; omega) (by omega) (fun j j1 j2 => ?_) _ _ _ _ ?_
  ·obtain ⟨x, ex, rx⟩ := r.at j1
   obtain ⟨y, ey, ry⟩ := r2.at j2
   exact (he j x y ex ey).at I (by show X.A.units + 1 + d < cLine; omega) rx ry
  ·refine ⟨.bl _, H, I, rfl, ?_⟩
   simpa [<- l1] using q
 | @len d a b xs ys h1 h2 hl =>
  cases rx; cases ry
  obtain ⟨its, r, pl, _⟩ := I.list h1
  obtain ⟨its2, r2, pl2, _⟩ := I.list h2
  have l1 := r.length
  have l2 := r2.length
  exact SeqAt.RcNeAt.lists_lengths pl.isList pl2.isList (by simp; omega) (by omega) _ _ _ _ ⟨.bl _, H, I, rfl, q⟩
 | @tup d a b xs ys e h1 h2 he =>
  cases rx; cases ry
  obtain ⟨its, r, pl, _⟩ := I.tuple h1
  obtain ⟨its2, r2, pl2, _⟩ := I.tuple h2
  have l1 := r.length
  have l2 := r2.length
  refine SeqAt.RcNeAt.tuples (e := e) (show s.heap.IsTuple a its.toArray from pl) (show s.heap.IsTuple b its2.toArray from pl2) (by omega) (fun j j1 j2 => ?_) _ _ _ _ ?_
  ·obtain ⟨x, ex, rx⟩ := r.at j1
   obtain ⟨y, ey, ry⟩ := r2.at j2
   exact (he j x y ex ey).at I (by show X.A.units + 1 + d < cLine; omega) rx ry
  ·refine ⟨.bl _, H, I, rfl, ?_⟩
   simpa [<- l1, <- l2] using q
theorem uU : cu X (.builtin "all") (fun xs H Q => ∃ (hc : X.calm = true) (p : Addr) (bs : List Bool), xs = [.ref p] /\ SqL X.K H p (bs.map V.bl) /\ Q (.bl (bs.all id)) H) := by
 intro pins s σ H xs us Q I r h
 obtain ⟨hc, p, bs, e, hq, q⟩ := h
 subst e
 obtain ⟨u, e, rx⟩ := fv r
 subst e
 cases rx
 obtain ⟨its, rv, pl, hz⟩ := I.list hq
 have hl := rv.length
 rw [CO] at hl
 refine call_all_walk (wpAny_pyIter_list pl.isList ?_)
 have hne : p ≠ s.heap.objs.size := by
  obtain ⟨o, ho, _⟩ := pl.isList
  exact C6 (Heap.lt_size ho)
 refine ⟨s.heap.objs.size, _, _, _, _, _, fun i => bs.getD i true, rfl, Walks.list (A := X.A.in1) (show X.A.in1.handled = none from I.ok.hd hc) _ p hne its.toArray, ?_, ?_, ?_⟩
 ·refine ⟨⟨_, Heap.get?_push_size _ rfl, rfl, rfl⟩, ?_⟩
  obtain ⟨o, ho, z⟩ := pl.isList
  exact ⟨o, Heap.get?_push_of_some _ ho, z⟩
 ·intro i v s' Q' E' hi hq'
  have hi' : its[i]? = some v := by simpa using hi
  have h2 : i < bs.length := by rw [hl]; exact (CS.mp hi').1
  obtain ⟨u, eu, ru⟩ := rv.get (i := i) (x := .bl bs[i]) (by simp [h2])
  rw [hi'] at eu
  cases eu
  cases ru
  refine wpAny_truthy_bool ?_
  have : bs.getD i true = bs[i] := by simp [h2]
  rw [<- this]; exact hq'
 ·intro h' tk kp
  refine ⟨.bl (bs.all id), H, I.kept (fun b o e => kp b o ?_ (Heap.get?_push_of_some _ e)), ?_, q⟩
  ·have := Heap.lt_size e
   intro z
   rw [CZ] at z
   exact absurd this (by rw [z]; exact Eb _)
  ·show Value.bool _ = Value.bool _
   congr 1
   have e2 : its.toArray.size = bs.length := by simp [hl]
   rw [e2, Ez, DF, DF]
   constructor
   ·intro h x hx
    obtain ⟨j, hj, ej⟩ := Dd.mp hx
    have := h j (Ds.mpr hj)
    simpa [hj, ej] using this
   ·intro h j hj
    have hj' := Ds.mp hj
    have := h bs[j] (Do hj')
    simpa [hj'] using this
theorem oz : cu X (.builtin "sorted") (fun xs H Q => ∃ (p : Addr) (ns : List Int), xs = [.ref p] /\ SqL X.K H p (ns.map V.int) /\ ns.length < 64 /\
  ∀ l (ms : List Int), H l = none -> ms.Perm ns -> ms.Pairwise (· <= ·) -> Q (.ref l) (aI H l (.lst (ms.map V.int)))) := by
 intro pins s σ H xs us Q I r h
 obtain ⟨p, ns, e, hq, h64, q⟩ := h
 subst e
 obtain ⟨u, e, rx⟩ := fv r
 subst e
 cases rx
 obtain ⟨its, rv, pl, hz⟩ := I.list hq
 have hl := rv.length
 rw [CO] at hl
 refine sorted_ints (vs := its) (ns := ns) pl.isList (dg rv) (by omega) fun out ns' a1 a2 a3 => ?_
 obtain ⟨ep, e⟩ := sortedAll_at s.heap its out
 have hn : s.heap.objs.size <= s.heap.objs.size + 1 := E4 _
 refine ⟨.ref (s.heap.objs.size + 1), _, I.laid (t' := s.toks) (fun b o eb => sortedAll_old eb) hn (show ObjOk X.prog X.w _ _ _ (.lst (ns'.map V.int)) from ⟨?_, out.toList, ep, iR a1, ?_⟩), rfl, q _ ns' (I.hok.fresh hn) a2 a3⟩
 ·rw [CO, a2.length_eq]; exact DS (lQ (by omega))
 ·simpa [seqObj] using e
end
def SameBut (acc : Addr) (H H' : Hp) : Prop := ∀ b o, b ≠ acc -> H b = some o -> H' b = some o
theorem Same.but {acc : Addr} {H H' : Hp} (s : Same H H') : SameBut acc H H' := fun b o _ e => s b o e
theorem SameBut.upd {acc : Addr} {H : Hp} {o : HO} : SameBut acc H (aI H acc o) := fun b u n e => by rw [ar n]; exact e
theorem wF {n : Nat} (h : n <= 1000) : n <= sizeLine := DS (lQ h)
theorem cz {n : Nat} (h : Nat.ble n 1000 = true := by rfl) : n <= sizeLine := wF (Nat.le_of_ble_eq_true h)
theorem jZ {n : Nat} (h : n < 100000) : n < sizeLine := by rw [sizeLine_eq]; omega
theorem uV {x : Option V} {σ : St} : ze (none :: σ) (x :: σ) := ⟨rfl, fun i v e => by
 cases i with
 | zero => cases e
 | succ i => exact e⟩
theorem lW {J : It} {H1 : Hp} {js : List (Option Nat)} {σ : St} {tc : TT} {te : TE} {Q : VK} (n : Nat) (item : Nat -> V) (p : Nat -> Bool) (P : Addr -> Nat -> V -> Hp -> Prop) (hn : n < 100000)
  (mono : ∀ acc i v H H', P acc i v H -> SameBut acc H H' -> P acc i v H')
  (hgo : ∀ i H, i < n -> Same H1 H -> J.go i H) (hst : ∀ H, Same H1 H -> J.stop n H) (hy : ∀ i H x H', i < n -> Same H1 H -> J.yld i H x H' -> H' = H /\ x = item i)
  (hc : ∀ i, i < n -> ∀ H2 R, Same H1 H2 -> R (p i) H2 -> tc (some (item i) :: cW σ js) H2 R)
  (he : ∀ acc i, i < n -> p i = true -> ∀ H2 R, Same H1 H2 -> H1 acc = none -> H2 acc ≠ none -> (∀ v H3, Same H2 H3 -> P acc i v H3 -> R v H3) -> te (some (item i) :: cW σ js) H2 R)
  (hQ : ∀ acc vs H', Same H1 H' -> H1 acc = none -> H' acc = some (.lst vs) -> Paired (fun i v => P acc i v H') ((CY n).filter p) vs -> Q (.ref acc) H') :
  eZ J H1 (none :: js) (dD 0) tc te σ Q := by
 intro acc hacc
 refine ⟨fun i m ys H => m = n - i /\ i <= n /\ Same H1 H /\ H acc = some (.lst ys) /\ Paired (fun k v => P acc k v H) ((CY i).filter p) ys, ⟨n, by simp, Dk _, Same.new hacc, ag, .nil⟩, ?_⟩
 rintro i m ys H ⟨rfl, hi, s1, ha, hp⟩
 by_cases hlt : i < n
 ·refine .inr ⟨hgo i H hlt s1, fun ys' H' => i < n /\ Same H1 H' /\ H' acc = some (.lst ys') /\ Paired (fun k v => P acc k v H') ((CY (i + 1)).filter p) ys', fun ys' H' ⟨z, a, b, c⟩ => ⟨n - (i + 1), DR _ _ hlt, rfl, hlt, a, b, c⟩, fun x H' y => ?_⟩
  obtain ⟨rfl, rfl⟩ := hy i H x H' hlt s1 y
  refine ⟨uV, hc i hlt _ _ s1 ⟨fun hb => ?_, fun hb => ?_⟩⟩
  ·refine he acc i hlt hb _ _ s1 hacc (by rw [ha]; simp) fun v H3 s3 pv => ?_
   have hlen : ys.length <= i := by
    rw [<- Paired.length hp]
    exact Di (DD _ _) (by simp)
   refine ⟨s3 _ _ ha, jZ (by omega), hlt, (s1.trans s3).put hacc, ag, ?_⟩
   rw [EE, DQ]
   have e : Fw p [i] = [i] := by simp [hb]
   rw [e]
   refine Paired.snoc (Paired.mapP hp fun k v q => ?_) ?_
   ·exact mono acc k v _ _ (mono acc k v _ _ q s3.but) SameBut.upd
   ·exact mono acc i v _ _ pv SameBut.upd
  ·refine ⟨hlt, s1, ha, ?_⟩
   rw [EE, DQ]
   have e : Fw p [i] = [] := by simp [hb]
   rw [e, Eg]
   exact hp
 ·have e : i = n := En hi (DT hlt)
  subst e
  exact .inl ⟨hst H s1, hQ acc ys H s1 hacc ha hp⟩
theorem cJ {α β : Type} {f : α -> β} : ∀ {l : List α} {r : List β}, Paired (fun a b => b = f a) l r -> r = l.map f := by
 intro l r h
 induction h with
 | nil => rfl
 | cons h t ih => rw [h, ih]; rfl
section
variable {K : PySem.W.Frag} {H1 : Hp} {js : List (Option Nat)} {σ : St} {tc : TT} {te : TE} {Q : VK}
theorem qc {lo : Int} {n : Nat} (f : Nat -> V) (hn : n < 100000)
  (he : ∀ i : Nat, i < n -> ∀ H2 R, Same H1 H2 -> (∀ H3, Same H2 H3 -> R (f i) H3) -> te (some (.int (lo + i)) :: cW σ js) H2 R)
  (hQ : ∀ acc H', Same H1 H' -> H1 acc = none -> H' acc = some (.lst ((CY n).map f)) -> Q (.ref acc) H') : eZ (sC lo n) H1 (none :: js) (dD 0) jW te σ Q :=
 lW (J := sC lo n) (H1 := H1) (js := js) (σ := σ) (tc := jW) (te := te) (Q := Q) n (fun i => .int (lo + i)) (fun _ => true) (fun _ i v _ => v = f i) hn (fun _ _ _ _ _ h _ => h)
  (fun _ _ h _ => h) (fun _ _ => C0 _) (fun _ _ _ _ _ _ y => y) (fun _ _ _ _ _ h => h) (fun _ i hi _ H2 R s _ _ k => he i hi H2 R s fun H3 s3 => k _ H3 s3 rfl)
  fun acc vs H' s n' e p => hQ acc H' s n' (by rw [e, cJ p, Dr.mpr (fun _ _ => rfl)])
end
section
variable {X : Cx} {tg l : Expr} {tl : TE} {es : List Expr} {k n : Nat} {t : yj} {pos : Pos} {a : Expr} {ta : TE}
theorem dS (K : PySem.W.Frag) (h : X.K = K := by rfl) : Ae X (AF K) := by subst h; exact wV
theorem dB (K : PySem.W.Frag) (h : X.K = K := by rfl) : Ae X (AG K) := by subst h; exact y4
theorem Be (K : PySem.W.Frag) (h : X.K = K := by rfl) : Ba X (AI K) := by subst h; exact wW
theorem Cn (K : PySem.W.Frag) (h : X.K = K := by rfl) : fh X (compareOp .In) (Bc K false) := by subst h; exact sM
theorem sV (K : PySem.W.Frag) (h : X.K = K := by rfl) : fh X (compareOp .NotIn) (Bc K true) := by subst h; exact mX
theorem B4 (K : PySem.W.Frag) (hu : X.A.units + 64 < cLine) (h : X.K = K := by rfl) : fh X (compareOp .Eq) (AO K) := by subst h; exact zh hu
theorem B5 (K : PySem.W.Frag) (hu : X.A.units + 64 < cLine) (h : X.K = K := by rfl) : fh X (compareOp .NotEq) (AQ K) := by subst h; exact zj hu
theorem bX (K : PySem.W.Frag) (h : X.K = K := by rfl) : cu X (.builtin "len") (fun xs H Q => ∃ x n, xs = [x] /\ AC K x H n /\ Q (.int n) H) := by subst h; exact uE
theorem m7 (K : PySem.W.Frag) (h : X.K = K := by rfl) : cu X (.builtin "isinstance") (fun xs H Q => ∃ x Y t b, xs = [x, .ty Y] /\ TyOf K H x t /\ PySem.W.kitOne K t (.type Y) = some b /\ Q (.bl b) H) := by subst h; exact uT
theorem BN (K : PySem.W.Frag) (hc : X.calm = true := by rfl) (h : X.K = K := by rfl) : cu X (.builtin "all") (fun xs H Q => ∃ (p : Addr) (bs : List Bool), xs = [.ref p] /\ SqL K H p (bs.map V.bl) /\ Q (.bl (bs.all id)) H) := by
 subst h
 exact fun pins s σ H xs us Q I r q => uU pins s σ H xs us Q I r (let ⟨p, bs, e⟩ := q; ⟨hc, p, bs, e⟩)
theorem xg (K : PySem.W.Frag) (h : X.K = K := by rfl) : cu X (.builtin "sorted") (fun xs H Q => ∃ (p : Addr) (ns : List Int), xs = [.ref p] /\ SqL K H p (ns.map V.int) /\ ns.length < 64 /\
 ∀ l (ms : List Int), H l = none -> ms.Perm ns -> ms.Pairwise (· <= ·) -> Q (.ref l) (aI H l (.lst (ms.map V.int)))) := by subst h; exact oz
theorem yx (K : PySem.W.Frag) (h : X.K = K := by rfl) : cu X (.type "list") (fun xs H Q => ∃ p ys, xs = [.ref p] /\ (SqL K H p ys \/ SqT K H p ys) /\ ∀ l, H l = none -> Q (.ref l) (aI H l (.lst ys))) := by subst h; exact mY
theorem h8 (K : PySem.W.Frag) (hl : PE X l tl) (h : X.K = K := by rfl) : PI X tg l (ym K tl) := by subst h; exact wL hl
theorem BO (K : PySem.W.Frag) (hl : PE X l tl) (h : X.K = K := by rfl) : PI X tg l (Au K tl) := by subst h; exact yU hl
theorem BP (K : PySem.W.Frag) (hc : X.calm = true) (hg : Ad X es t) (h : X.K = K := by rfl) (hn : (assignEach es X.env).length = n := by rfl) (hst : (assignEach es X.env).findIdx? (·.1) = none := by rfl) : PG X (.Tuple es k pos) (As K n t) := by
 subst h; exact yS hc hg hn hst
end
theorem bI {X : Cx} {N : List Str} (h : N.Nodup) (e : X.N = N := by rfl) : X.N.Nodup := by rw [e]; exact h
theorem zo (xs : List V) (k : Nat) : g7 xs none (some (k : Int)) = xs.take k := by
 unfold g7
 rw [HT.jH, HT.og, List.drop_zero, Nat.sub_zero]
 by_cases h : k <= xs.length
 ·rw [EA h]
 ·rw [EM (by omega), DK (C0 _), DK (by omega)]
theorem oA (xs : List V) (k : Nat) : g7 xs (some (k : Int)) none = xs.drop k := by
 unfold g7
 rw [HT.jH, HT.og]
 by_cases h : k <= xs.length
 ·rw [EA h, DK (by rw [Ei]; omega)]
 ·rw [EM (by omega), Fe, Ff, Ec (by omega)]
theorem xh (xs : List V) (i j : Nat) : g7 xs (some (i : Int)) (some (j : Int)) = (xs.drop i).take (j - i) := by
 unfold g7
 rw [HT.jH, HT.jH]
 by_cases h : i <= xs.length
 ·rw [EA h]
  by_cases h2 : j <= xs.length
  ·rw [EA h2]
  ·rw [EM (by omega), DK (by rw [Ei]; omega), DK (by rw [Ei]; omega)]
 ·have e : min i xs.length = xs.length := EM (by omega)
  rw [e, Ec (C0 _), Ec (l := xs) (i := i) (by omega), List.take_nil, List.take_nil]
section
variable {K : PySem.W.Frag} {H : Hp} {a b : Addr}
theorem oB {xs : List V} (h1 : SqL K H a xs) (h2 : SqL K H b xs) (hf : ∀ x ∈ xs, cO x = true) : DEq K H 1 (.ref a) (.ref b) true := by
 have q := DEq.lst (d := 0) (e := fun _ => true) h1 h2 rfl fun j x y ex ey => by
  rw [ex] at ey
  cases ey
  have f := hf x (CW ex)
  have e := DEq.flat (K := K) (H := H) (d := 0) f f
  rw [jY f] at e
  exact e
 have e : ((CY xs.length).all fun _ => true) = true := DF.mpr fun _ _ => rfl
 rw [e] at q
 exact q
theorem sW {ns : List Int} : ∀ x ∈ ns.map V.int, cO x = true := fun x hx => by
 obtain ⟨i, _, rfl⟩ := C9.mp hx
 rfl
theorem m9 {xs : List V} (h1 : SqL K H a xs) (h2 : SqL K H b []) : DEq K H 1 (.ref a) (.ref b) xs.isEmpty := by
 cases xs with
 | nil => exact oB h1 h2 fun x hx => by cases hx
 | cons x r => exact DEq.len h1 h2 (by simp)
end
theorem Co {b : Bool} {A B : Prop} (h1 : b = true -> A) (h2 : b = false -> B) : if b = true then A else B := by
 cases b with
 | true => exact dW (h1 rfl)
 | false => exact bE (h2 rfl)
theorem uW {i j : Int} {A B : Prop} (h1 : i = j -> A) (h2 : i ≠ j -> B) : if decide (V.int i = V.int j) = true then A else B := by
 by_cases h : i = j
 ·rw [if_pos (by simp [h])]; exact h1 h
 ·rw [if_neg (by simp [h])]; exact h2 h
theorem xi {i j : Int} {A B : Prop} (h1 : i ≠ j -> A) (h2 : i = j -> B) : if (!decide (V.int i = V.int j)) = true then A else B := by
 by_cases h : i = j
 ·rw [if_neg (by simp [h])]; exact h2 h
 ·rw [if_pos (by simp [h])]; exact h1 h
theorem xj {c : Prop} [Decidable c] {A B : Prop} (h1 : c -> A) (h2 : ¬ c -> B) : if decide c = true then A else B := by
 by_cases h : c
 ·rw [if_pos (decide_eq_true h)]; exact h1 h
 ·rw [if_neg (by simp [h])]; exact h2 h
def BQ (t u : TS) : TS := fun D σ H => ∃ P : L2.St -> Hp -> Prop, t { D with nx := P } σ H /\ ∀ σ' H', P σ' H' -> u D σ' H'
theorem xk {X : Cx} {st : Stmt} {cN : List Stmt} {t u : TS} (h1 : PS X st t) (h2 : PSs X cN u) : PSs X (st :: cN) (BQ t u) := by
 intro pins s σ H D I h
 obtain ⟨P, ht, hu⟩ := h
 refine wpAny_execs_cons (bP (h1 pins s σ H { D with nx := P } I ht) fun f s1 q => ?_)
 cases f with
 | next =>
  obtain ⟨σ', H', I', q⟩ := q
  exact h2 pins s1 σ' H' D I' (hu σ' H' q)
 | ret v => exact q
 | brk => exact q
 | cont => exact q
section
variable {X : Cx} {tg l : Expr} {tl : TE}
end
section
variable {X : Cx} {es : List Expr} {t : TA}
end
theorem Inv.view {X : Cx} {pins : List (Addr × Obj)} {σ : L2.St} {H : Hp} {s : Shared} {a : Addr} {o : HO} (I : Inv X pins σ H s) (mu : Ac (H a)) (new : ObjOk X.prog X.w (aI H a o) s.heap a o) : Inv X pins σ (aI H a o) s := by
 have hex : ∃ u, s.heap.get? a = some u := by
  cases q : H a with
  | none => rw [q] at mu; exact mu.elim
  | some u =>
   have lt := I.hok.lt q
   have := I.hok a u q
   rw [q] at mu
   cases u with
   | lst xs => obtain ⟨_, _, _, _, e⟩ := this; exact ⟨_, e⟩
   | dK kvs => obtain ⟨_, _, _, _, o, _, _, e, _⟩ := this; exact ⟨_, e⟩
   | dT kvs => obtain ⟨_, _, _, _, o, _, _, e, _⟩ := this; exact ⟨_, e⟩
   | set S n => obtain ⟨o, _, _, _, e, _⟩ := this; exact ⟨_, e⟩
   | ins C dx fs => obtain ⟨_, _, _, e, _⟩ := this; exact ⟨_, e⟩
   | ext φ => obtain ⟨_, e, _⟩ := this; exact e
   | _ => exact mu.elim
 exact I.write (h' := s.heap) (x := a) (e := a) (t' := s.toks) mu (.inl rfl) (fun _ _ _ e => e) hex new
theorem cR : entryFor table "dict_itemiterator.__iter__" = some Builtin.«dict_keyiterator.__iter__» :=
 entryFor_alias (id' := "dict_keyiterator.__iter__") (by kernel_rfl) rfl (by decide +kernel) (by kernel_rfl)
def DW (P : Program) (w : World) (d : Addr) (vs : List (bT × Value)) (ep : Nat) : Heap -> Prop := fun h => h.DictAt (bz P w) d vs ep
theorem DW.ok {P : Program} {w : World} {H : Hp} {h : Heap} {d : Addr} {vs : List (bT × Value)} {ep : Nat} (x : h.DictAt (bz P w) d vs ep) : ObjOk P w H h d (.ext (DW P w d vs ep)) :=
 ⟨x, by obtain ⟨o, _, e, _⟩ := x; exact ⟨o, e⟩, fun _ _ y k => y.at' k⟩
theorem rD {P : Program} {w : World} {k : bT} {u : Value} (h : (bz P w).is k u = true) : RelV (kV k) u := by
 rcases bj (k := k) (v := u) h with ⟨i, t, e1, e2⟩ | ⟨x, t, e1, e2⟩
 ·subst e1 e2; exact ⟨t, rfl⟩
 ·subst e1 e2; exact ⟨t, rfl⟩
def Bf (φ : Heap -> Prop) (d : Addr) (kvs : List (bT × V)) : It :=
 ⟨fun i H => H d = some (.ext φ) /\ i < kvs.length, fun i H x H' => H' = H /\ ∃ k v, kvs[i]? = some (k, v) /\ x = kV k, fun i H => H d = some (.ext φ) /\ kvs.length <= i⟩
def AR (φ : Heap -> Prop) (d : Addr) (kvs : List (bT × V)) : It :=
 ⟨fun i H => H d = some (.ext φ) /\ i < kvs.length, fun i H x H' => ∃ p k v, H p = none /\ kvs[i]? = some (k, v) /\ x = .ref p /\ H' = aI H p (.tup [kV k, v]), fun i H => H d = some (.ext φ) /\ kvs.length <= i⟩
theorem yz {kvs : List (bT × V)} {vs : List (bT × Value)} (r : KV kvs vs) {i : Nat} (h : i < kvs.length) : ∃ k v u, kvs[i]? = some (k, v) /\ vs[i]? = some (k, u) /\ RelV v u := by
 have hl := r.length
 obtain ⟨a, ha, f⟩ := cg (i := i) (b := vs[i]) r (CP (by omega))
 refine ⟨a.1, a.2, vs[i].2, ha, ?_, f.2⟩
 rw [CP (by omega), f.1]
theorem sX {P : Program} {w : World} {K : PySem.W.Frag} {tg : Expr} (d it : Addr) {kvs : List (bT × V)} {vs : List (bT × Value)} {ep : Nat} (r : KV kvs vs) :
  Turn P w K tg (Bf (DW P w d vs ep) d kvs) [it] it (fun i h => h.IsKeyIter it d i vs.length ep) where
 mem := by simp
 obj := fun i h st b hb => by
  have e : b = it := by simpa using hb
  subst e
  obtain ⟨o, e, c, d⟩ := st
  exact ⟨o, e, fun v z => by rw [d] at z; cases z⟩
 keep := fun i h h' st k => st.at fun o e => k it (by simp) o e
 item := by
  intro X hP hw hK hc i pins s σ H E I hf st hg
  subst hP hw hK
  obtain ⟨hd, hi⟩ := hg
  obtain ⟨dm, _⟩ := (show ObjOk X.prog X.w H s.heap d (.ext (DW X.prog X.w d vs ep)) from I.hok d _ hd)
  obtain ⟨k, v, u, e1, e2, _⟩ := yz r hi
  obtain ⟨f0, f1, f2, f3, f4, f5⟩ := hf it (by simp)
  refine wpAny_pyNext_dict_item st dm e2 fun key h' hkey st' sb => ?_
  have I1 : Inv X pins σ H { s with heap := h' } := I.turned (t' := s.toks) (fun b o hb e => (sb.2 b hb).trans e) f0 f1 f3 f4 f5
  obtain ⟨o, e, c, d'⟩ := id st'
  exact ⟨key, rfl, lL (s := { s with heap := h' }) e c d' (by decide) ⟨kV k, H, I1, rD hkey, ⟨rfl, k, v, e1, rfl⟩, st', fun b hb => (hf b hb).1⟩⟩
 done := by
  intro X hP hw hK hc i pins s σ H E I hf st hg
  subst hP hw hK
  obtain ⟨hd, hi⟩ := hg
  obtain ⟨dm, _⟩ := (show ObjOk X.prog X.w H s.heap d (.ext (DW X.prog X.w d vs ep)) from I.hok d _ hd)
  obtain ⟨f0, f1, f2, f3, f4, f5⟩ := hf it (by simp)
  have hl := r.length
  exact wpAny_pyNext_dict_end (I.ok.hd hc) st dm (Dz (by omega)) fun h' eb => ⟨rfl, I.turned (t' := s.toks) (fun b o hb e => eb b o hb e) f0 f1 f3 f4 f5⟩
 self := fun _ _ _ _ _ st h => wpAny_pyIter_keyiter st h
theorem qd {P : Program} {w : World} {K : PySem.W.Frag} {es : List Expr} {k1 : Nat} {pos : Pos} (d it : Addr) {kvs : List (bT × V)} {vs : List (bT × Value)} {ep : Nat} (r : KV kvs vs) :
  Turn P w K (.Tuple es k1 pos) (AR (DW P w d vs ep) d kvs) [it] it (fun i h => ∃ ok ov, IsItemIter h it d i vs.length ep ok ov) where
 mem := by simp
 obj := fun i h st b hb => by
  have e : b = it := by simpa using hb
  subst e
  obtain ⟨_, _, e⟩ := st
  exact ⟨_, e, fun v z => by
   have z' : Data.fields _ = Data.cell v := z
   cases z'⟩
 keep := fun i h h' st k => let ⟨a, b, e⟩ := st; ⟨a, b, k it (by simp) _ e⟩
 item := by
  intro X hP hw hK hc i pins s σ H E I hf st hg
  subst hP hw hK
  obtain ⟨hd, hi⟩ := hg
  obtain ⟨ok, ov, st⟩ := st
  obtain ⟨dm, _⟩ := (show ObjOk X.prog X.w H s.heap d (.ext (DW X.prog X.w d vs ep)) from I.hok d _ hd)
  obtain ⟨k, v, u, e1, e2, rv⟩ := yz r hi
  obtain ⟨f0, f1, f2, f3, f4, f5⟩ := hf it (by simp)
  refine wpAny_pyNext_items_item st dm e2 fun key h' hkey st' tu hz kp => ?_
  refine ⟨_, rfl, wpAny_letOwnedTupleGo_items st' fun h2 st2 sb => ?_⟩
  have hne : s.heap.objs.size ≠ it := fun z => absurd (Heap.lt_size st) (by rw [<- z]; exact Eb _)
  have I1 : Inv X pins σ H { s with heap := h2 } := I.turned (t' := s.toks) (fun b o hb e => (sb.2 b hb).trans (kp b o hb e)) f0 f1 f3 f4 f5
  have fr : H s.heap.objs.size = none := I.fresh
  have e3 : h2.get? s.heap.objs.size = some { cls := .type "tuple", data := .seq #[key, u] } := (sb.2 _ hne).trans tu
  have I2 : Inv X pins σ (aI H s.heap.objs.size (.tup [kV k, v])) { s with heap := h2 } := by
   have un : Un (gU X.stack) [it] H (aI H s.heap.objs.size (.tup [kV k, v])) s.heap h2 := {
    keep := fun b o q _ _ hx => (sb.2 b (by simpa using hx)).trans (kp b o (by simpa using hx) q)
    slot := fun b o q _ _ hx => ⟨o.slots, (sb.2 b (by simpa using hx)).trans (kp b o (by simpa using hx) q)⟩
    free := fun b o q n hx => by rw [ar (C6 (Heap.lt_size q))]; exact n
    there := fun b o q hx => ⟨o, (sb.2 b (by simpa using hx)).trans (kp b o (by simpa using hx) q)⟩
    tups := fun b xs q => by rw [ar (ax q fr)]; exact q
    frzs := fun b o xs q => by rw [ar (ax q fr)]; exact q
    tbls := fun b ps q => ⟨#[], by rw [ar (ax q fr), q]; simp⟩ }
   refine I.call' (s' := { s with heap := h2 }) (ch := [it]) rfl un (fun b o e => ?_) I.bare (fun b hb => ?_)
   ·by_cases hb : b = s.heap.objs.size
    ·subst hb
     rw [ag] at e
     cases e
     refine ⟨cz, [key, u], .cons (rD hkey) (.cons rv .nil), _, e3, rfl, _, rfl⟩
    ·rw [ar hb] at e
     refine (I1.hok b o e).stay (fun _ _ _ q => q) (fun c q => by rw [ar (ax q fr)]; exact q) fun c xs q => by rw [ar (ax q fr)]; exact q
   ·have e : b = it := by simpa using hb
    subst e
    exact ⟨f3, f1, f4, f5⟩
  exact ⟨.ref s.heap.objs.size, _, I2, rfl, ⟨_, k, v, fr, e1, rfl, rfl⟩, ⟨key, u, st2⟩, fun b hb => by
   have e : b = it := by simpa using hb
   subst e
   rw [ar hne.symm]; exact f0⟩
 done := by
  intro X hP hw hK hc i pins s σ H E I hf st hg
  subst hP hw hK
  obtain ⟨hd, hi⟩ := hg
  obtain ⟨ok, ov, st⟩ := st
  obtain ⟨dm, _⟩ := (show ObjOk X.prog X.w H s.heap d (.ext (DW X.prog X.w d vs ep)) from I.hok d _ hd)
  obtain ⟨f0, f1, f2, f3, f4, f5⟩ := hf it (by simp)
  have hl := r.length
  exact wpAny_pyNext_items_end (I.ok.hd hc) st dm (Dz (by omega)) fun h' eb => ⟨rfl, I.turned (t' := s.toks) (fun b o hb e => eb b o hb e) f0 f1 f3 f4 f5⟩
 self := fun A i s Q E st h => by
  obtain ⟨ok, ov, st⟩ := st
  have hT : s.TypeIs (.ref it) "dict_itemiterator" := ⟨_, st, rfl⟩
  refine wpAny_pyIter_slot hT F.slot_dict_itemiterator_iter (wpAny_call_entry F.slot_dict_itemiterator_iter hT cR ?_ (F.args_dict_itemiterator_iter_1 _))
  show wpAny _ _ (ret (.ref it)) _ _ s
  exact wpAny_pure ⟨_, rfl, "dict_itemiterator", _, hT, F.slot_dict_itemiterator_next.lookup, h⟩
section
variable {X : Cx} {tg l : Expr} {tl : TE}
def AS (tl : TE) : TI := fun σ H R => tl σ H fun x H1 => ∃ d kvs, x = .ref d /\ H1 d = some (.dK kvs) /\ ∀ φ, R (Bf φ d kvs) (aI H1 d (.ext φ))
theorem xl (hl : PE X l tl) : PI X tg l (AS tl) := by
 intro pins s σ H R I h
 refine bP (hl pins s σ H _ I h) fun v s1 hq__ => ?_
 obtain ⟨x, H1, I1, r1, q1⟩ := hq__
 obtain ⟨d, kvs, e, hd, q⟩ := q1
 subst e
 cases r1
 obtain ⟨hz, hm, vs, r, dd⟩ := rp I1.hok hd
 obtain ⟨ep, da⟩ := dd.dictAt
 have I2 : Inv X pins σ (aI H1 d (.ext (DW X.prog X.w d vs ep))) s1 := I1.view (by rw [hd]; trivial) (DW.ok da)
 refine wpAny_pyIter_dict hm da ?_
 refine ⟨s1.heap.objs.size, [s1.heap.objs.size], _, _, _, rfl, I2.kept (t' := s1.toks) fun b o e => Heap.get?_push_of_some _ e, sX d _ r, ⟨_, Heap.get?_push_size _ rfl, rfl, rfl⟩, fun b hb => ?_, q _⟩
 have e : b = s1.heap.objs.size := by simpa using hb
 subst e
 exact I2.fpOk (C0 _) (I2.hok.fresh (C0 _))
def VW (v d : Addr) : Heap -> Prop := fun h => h.IsItemsView v d
theorem uX : BG X "dict.items" (fun x xs H Q => ∃ d kvs, x = .ref d /\ xs = [] /\ H d = some (.dK kvs) /\ ∀ v, H v = none -> Q (.ref v) (aI H v (.ext (VW v d)))) := by
 intro pins s σ H x xs v us Q I rx rv h
 obtain ⟨d, kvs, e, e2, hd, q⟩ := h
 subst e e2
 cases rx
 have hus := rv.zero
 subst hus
 obtain ⟨hz, hm, vs, r, dd⟩ := rp I.hok hd
 refine call_meetsIn PySem.F.slot_dict_items dd.typeIs PySem.F.entry_dict_items (PySem.F.args_dict_items_1 _) (meets_dict_items (bz X.prog X.w) d hm) ⟨⟨vs, dd⟩, ?_⟩
 refine ⟨.ref s.heap.objs.size, _, I.laid (t' := s.toks) (fun b o e => Heap.get?_push_of_some _ e) (C0 _) ?_, rfl, q _ I.fresh⟩
 exact ⟨⟨_, Heap.get?_push_size _ rfl, rfl, rfl⟩, ⟨_, Heap.get?_push_size _ rfl⟩, fun h1 h2 ⟨o, e, c⟩ k => ⟨o, k o e, c⟩⟩
def zp (tl : TE) : TI := fun σ H R => tl σ H fun x H1 => ∃ v d kvs, x = .ref v /\ H1 v = some (.ext (VW v d)) /\ H1 d = some (.dK kvs) /\ ∀ φ, R (AR φ d kvs) (aI H1 d (.ext φ))
theorem uY {es : List Expr} {k1 : Nat} {pos : Pos} (hl : PE X l tl) : PI X (.Tuple es k1 pos) l (zp tl) := by
 intro pins s σ H R I h
 refine bP (hl pins s σ H _ I h) fun v s1 hq__ => ?_
 obtain ⟨x, H1, I1, r1, q1⟩ := hq__
 obtain ⟨v, d, kvs, e, hv, hd, q⟩ := q1
 subst e
 cases r1
 obtain ⟨hz, hm, vs, r, dd⟩ := rp I1.hok hd
 obtain ⟨ep, da⟩ := dd.dictAt
 obtain ⟨vw, _⟩ := (show ObjOk X.prog X.w H1 s1.heap v (.ext (VW v d)) from I1.hok v _ hv)
 have I2 : Inv X pins σ (aI H1 d (.ext (DW X.prog X.w d vs ep))) s1 := I1.view (by rw [hd]; trivial) (DW.ok da)
 refine wpAny_pyIter_items vw da ?_
 refine ⟨s1.heap.objs.size, [s1.heap.objs.size], _, _, _, rfl, I2.kept (t' := s1.toks) fun b o e => Heap.get?_push_of_some _ e, qd d _ r, ⟨.none, .none, Heap.get?_push_size _ rfl⟩, fun b hb => ?_, q _⟩
 have e : b = s1.heap.objs.size := by simpa using hb
 subst e
 exact I2.fpOk (C0 _) (I2.hok.fresh (C0 _))
theorem sY {φ : Heap -> Prop} {d : Addr} {kvs : List (bT × V)} {g : TG} {tb : TS} {D : Ends} {σ : L2.St} {H : Hp} (Pv : Nat -> L2.St -> Hp -> Prop) (h0 : Pv 0 σ H) (hw : ∀ i σ H, i <= kvs.length -> Pv i σ H -> H d = some (.ext φ))
  (hs : ∀ i k v σ H p, kvs[i]? = some (k, v) -> Pv i σ H -> H p = none -> g (.ref p) σ (aI H p (.tup [kV k, v])) fun σ2 H2 => tb { D with nx := Pv (i + 1), ct := Pv (i + 1), bk := D.nx } σ2 H2) (hd : ∀ σ H, Pv kvs.length σ H -> D.nx σ H) :
  ∃ W : Nat -> Nat -> L2.St -> Hp -> Prop, (∃ m, W 0 m σ H) /\ ∀ i m σ H, W i m σ H ->
   ((AR φ d kvs).stop i H /\ D.nx σ H) \/ ((AR φ d kvs).go i H /\ ∃ N : L2.St -> Hp -> Prop, (∀ σ' H', N σ' H' -> ∃ m', m' < m /\ W (i + 1) m' σ' H') /\ ∀ v H', (AR φ d kvs).yld i H v H' -> g v σ H' fun σ2 H2 => tb { D with nx := N, ct := N, bk := D.nx } σ2 H2) := by
 refine ⟨fun i m σ H => m = kvs.length - i /\ i <= kvs.length /\ Pv i σ H, ⟨kvs.length, by simp, Dk _, h0⟩, ?_⟩
 rintro i m σ H ⟨rfl, hi, p⟩
 by_cases hlt : i < kvs.length
 ·refine .inr ⟨⟨hw i σ H hi p, hlt⟩, Pv (i + 1), fun σ' H' p' => ⟨kvs.length - (i + 1), DR _ _ hlt, rfl, hlt, p'⟩, fun v H' y => ?_⟩
  obtain ⟨q, k, v', hn, e, e2, e3⟩ := y
  subst e2 e3
  exact hs i k v' σ H q e p hn
 ·have e : i = kvs.length := En hi (DT hlt)
  subst e
  exact .inl ⟨⟨hw _ σ H hi p, C0 _⟩, hd σ H p⟩
end
theorem tD {H1 : Hp} {js : List (Option Nat)} {σ : L2.St} {te : TE} {Q : VK} {φ : Heap -> Prop} {d : Addr} {kvs : List (bT × V)} (f : bT -> V) (hn : kvs.length < 100000) (hd : H1 d = some (.ext φ))
  (he : ∀ (i : Nat) k v, kvs[i]? = some (k, v) -> ∀ H2 R, Same H1 H2 -> (∀ H3, Same H2 H3 -> R (f k) H3) -> te (some (kV k) :: cW σ js) H2 R)
  (hQ : ∀ acc H', Same H1 H' -> H1 acc = none -> H' acc = some (.lst (kvs.map fun p => f p.1)) -> Q (.ref acc) H') : eZ (Bf φ d kvs) H1 (none :: js) (dD 0) jW te σ Q :=
 lW (J := Bf φ d kvs) (H1 := H1) (js := js) (σ := σ) (tc := jW) (te := te) (Q := Q) kvs.length (fun i => ((kvs[i]?).map fun p => kV p.1).getD .non) (fun _ => true) (fun _ i v _ => v = ((kvs[i]?).map fun p => f p.1).getD .non) hn (fun _ _ _ _ _ h _ => h)
  (fun _ H h s => ⟨s _ _ hd, h⟩) (fun H s => ⟨s _ _ hd, C0 _⟩)
  (fun i H x H' h s y => ⟨y.1, by obtain ⟨_, k, v, e, ex⟩ := y; rw [e, ex]; rfl⟩)
  (fun _ _ _ _ _ h => h)
  (fun _ i hi _ H2 R s _ _ k => by
   have e : kvs[i]? = some (kvs[i].1, kvs[i].2) := CP hi
   rw [e]
   exact he i _ _ e H2 R s fun H3 s3 => k _ H3 s3 (by rw [e]; rfl))
  fun acc vs H' s n' e p => hQ acc H' s n' (by
   rw [e, cJ p, Dr.mpr (fun _ _ => rfl)]
   congr 1; congr 1
   apply Fm
   intro i
   rw [CU, CU]
   by_cases hi : i < kvs.length
   ·rw [Ew hi, ED, CP hi]; rfl
   ·rw [Dz (by simp; omega), Dz (by omega)]; rfl)
end L2
namespace L2
abbrev HK := List (bT × V)
def rE (kvs : HK) (q : Nat) : Nat := (kvs.map (·.2)).count (V.int q)
def tE (p : Prop) [Decidable p] : Nat := if p then 1 else 0
def fo (as : List Int) : HK := as.map fun b => (Sum.inl b, V.bl true)
theorem ng (p q : Nat) : (V.int (p : Int) == V.int (q : Int)) = decide (q = p) := by
 by_cases h : q = p
 ·subst h; simp
 ·have : ¬ (V.int (p : Int) = V.int (q : Int)) := fun e => h (by injection e with e; omega)
  simp [h, this]
theorem xm {kvs : HK} {k : bT} {p q : Nat} (h : bB kvs k = none) : rE (cy kvs k (.int p)) q = rE kvs q + tE (q = p) := by
 have a : ¬ (kvs.any fun kv => decide (kv.1 = k)) = true := by rw [b9, h]; simp
 unfold rE cy tE
 rw [if_neg a, Df, List.count_append]
 simp only [Dm, EW, EF, List.count_nil, ng]
 by_cases e : q = p <;> simp [e]
theorem qe {k : bT} {y : V} {kvs : HK} (h : ¬ k ∈ kvs.map (·.1)) : (kvs.map fun kv => if kv.1 = k then (kv.1, y) else kv) = kvs := by
 induction kvs with
 | nil => rfl
 | cons p r ih =>
  rw [Dm, C5] at h
  rw [Dm, if_neg (fun e => h (.inl e.symm)), ih (fun m => h (.inr m))]
theorem xn : ∀ {kvs : HK} {k : bT} {p p0 q : Nat}, (kvs.map (·.1)).Nodup -> bB kvs k = some (.int p0) -> rE (cy kvs k (.int p)) q + tE (q = p0) = rE kvs q + tE (q = p) := by
 intro kvs k p p0 q nd h
 have a : (kvs.any fun kv => decide (kv.1 = k)) = true := by rw [b9, h]; rfl
 unfold cy
 rw [if_pos a]
 clear a
 induction kvs with
 | nil => cases h
 | cons e r ih =>
  have nd' : (e.1 :: r.map (·.1)).Nodup := nd
  obtain ⟨n1, n2⟩ := Ea.mp nd'
  by_cases ek : e.1 = k
  ·rw [bC ek] at h
   have hv : e.2 = V.int p0 := Option.some.inj h
   rw [Dm, if_pos ek, qe (by rw [<- ek]; exact n1)]
   unfold rE tE
   rw [Dm, Dm, EF, EF, hv, ng, ng]
   simp only [decide_eq_true_eq]
   omega
  ·rw [bD ek] at h
   have := ih n2 h
   rw [Dm, if_neg ek]
   unfold rE tE at *
   rw [Dm, Dm, EF, EF]
   omega
theorem uZ {kvs : HK} {k : bT} {v : V} (nd : (kvs.map (·.1)).Nodup) : ((cy kvs k v).map (·.1)).Nodup := by
 cases h : bB kvs k with
 | none => exact xa v nd h
 | some x =>
  have a : (kvs.any fun kv => decide (kv.1 = k)) = true := by rw [b9, h]; rfl
  unfold cy
  rw [if_pos a, Dq]
  have e : ((fun x : bT × V => x.1) ∘ fun kv : bT × V => if kv.1 = k then (kv.1, v) else kv) = fun x => x.1 := by
   funext x
   show (if x.1 = k then (x.1, v) else x).1 = x.1
   split <;> rfl
  rw [e]; exact nd
theorem xo {kvs : HK} {k : bT} {v : V} {e : bT × V} (h : e ∈ cy kvs k v) : e = (k, v) \/ e ∈ kvs := by
 unfold cy at h
 split at h
 ·obtain ⟨x, hx, ex⟩ := C9.mp h
  by_cases c : x.1 = k
  ·rw [if_pos c] at ex
   left; rw [<- ex, c]
  ·rw [if_neg c] at ex
   right; rw [<- ex]; exact hx
 ·rcases C7.mp h with m | m
  ·exact .inr m
  ·exact .inl (CZ.mp m)
theorem h9 {kvs : HK} {k : bT} {v : V} (h : bB kvs k = some v) : (k, v) ∈ kvs := by
 unfold bB at h
 obtain ⟨x, hx, e⟩ := CV.mp h
 have := List.find?_some hx
 have e1 : x.1 = k := of_decide_eq_true this
 have := List.mem_of_find?_eq_some hx
 rw [<- e1, <- e]; exact this
theorem jg {kvs : HK} {k : bT} {v : V} (nd : (kvs.map (·.1)).Nodup) (m : (k, v) ∈ kvs) : bB kvs k = some v := by
 induction kvs with
 | nil => cases m
 | cons e r ih =>
  obtain ⟨n1, n2⟩ := Ea.mp (show (e.1 :: r.map (·.1)).Nodup from nd)
  rcases C5.mp m with h | h
  ·subst h; exact bC rfl
  ·have : ¬ e.1 = k := fun z => n1 (by rw [z]; exact C9.mpr ⟨_, h, rfl⟩)
   rw [bD this]; exact ih n2 h
theorem oC (as : List Int) (b : Int) : bB (fo as) (Sum.inl b) = if b ∈ as then some (V.bl true) else none := by
 induction as with
 | nil => rfl
 | cons a r ih =>
  show bB ((Sum.inl a, V.bl true) :: fo r) _ = _
  by_cases e : a = b
  ·subst e; rw [bC rfl]; simp
  ·rw [bD (fun z => e (Sum.inl.inj z)), ih]
   have : ¬ b = a := fun z => e z.symm
   simp [this]
theorem u0 {as : List Int} {b : Int} (h : ¬ b ∈ as) : cy (fo as) (Sum.inl b) (V.bl true) = fo (as ++ [b]) := by
 have a : ¬ ((fo as).any fun kv => decide (kv.1 = Sum.inl b)) = true := by rw [b9, oC, if_neg h]; simp
 unfold cy
 rw [if_neg a]
 unfold fo
 rw [Df]; rfl
def Good (ps : List (List Int)) (kvs : HK) : Prop := ∀ e ∈ kvs, ∃ (b : Int) (q : Nat) (p : List Int), e = (Sum.inl b, V.int q) /\ ps[q]? = some p /\ b ∈ p
theorem Good.put {ps : List (List Int)} {kvs : HK} (g : Good ps kvs) {b : Int} {q : Nat} {p : List Int} (h : ps[q]? = some p) (hb : b ∈ p) : Good ps (cy kvs (Sum.inl b) (.int q)) := fun e he => by
 rcases xo he with z | z
 ·exact ⟨b, q, p, z, h, hb⟩
 ·exact g e z
theorem Good.val {ps : List (List Int)} {kvs : HK} (g : Good ps kvs) {b : Int} {v : V} (h : bB kvs (Sum.inl b) = some v) : ∃ (q : Nat) (p : List Int), v = .int q /\ ps[q]? = some p /\ b ∈ p := by
 obtain ⟨b', q, p, e, h1, h2⟩ := g _ (h9 h)
 injection e with e1 e2
 cases e1
 exact ⟨q, p, e2, h1, h2⟩
def B6 (ps : List (List Int)) (kvs : HK) (as as' : List Int) : Prop := ∀ b ∈ as', b ∉ as -> ∃ (q : Nat) (p : List Int), bB kvs (Sum.inl b) = some (.int q) /\ ps[q]? = some p /\ ∀ c ∈ p, c ∈ as'
structure Sett (ps : List (List Int)) (U : List Int) (pl : Nat) (kvs : HK) (as : List Int) (ok : Bool) (kvs' : HK) (as' : List Int) : Prop where
 grow : ∀ b ∈ as, b ∈ as'
 nd : as'.Nodup
 sub : ∀ b ∈ as', b ∈ U
 no : ok = false -> kvs' = kvs /\ (∀ p, ps[pl]? = some p -> ∀ b ∈ p, b ∈ as') /\ B6 ps kvs as as'
 yes : ok = true -> (kvs'.map (·.1)).Nodup /\ Good ps kvs' /\ (∀ q, rE kvs' q = rE kvs q + tE (q = pl)) /\ (∀ b ∈ as, bB kvs' (Sum.inl b) = bB kvs (Sum.inl b)) /\ kvs'.length <= kvs.length + U.length
structure SLoop (ps : List (List Int)) (U : List Int) (p : List Int) (kvs : HK) (as : List Int) (i : Nat) (ai : List Int) : Prop where
 grow : ∀ b ∈ as, b ∈ ai
 nd : ai.Nodup
 sub : ∀ b ∈ ai, b ∈ U
 past : ∀ b ∈ p.take i, b ∈ ai
 clo : B6 ps kvs as ai
theorem gj {p : List Int} {i : Nat} {b c : Int} (h : p[i]? = some b) (hc : c ∈ p.take (i + 1)) : c ∈ p.take i \/ c = b := by
 rw [EI, h] at hc
 rcases C7.mp hc with z | z
 ·exact .inl z
 ·exact .inr (by simpa using z)
theorem SLoop.skip {ps : List (List Int)} {U p : List Int} {kvs : HK} {as ai : List Int} {i : Nat} {b : Int} (s : SLoop ps U p kvs as i ai) (h : p[i]? = some b) (hb : b ∈ ai) : SLoop ps U p kvs as (i + 1) ai :=
 ⟨s.grow, s.nd, s.sub, fun c hc => (gj h hc).elim (s.past c) (fun e => e ▸ hb), s.clo⟩
theorem SLoop.miss {ps : List (List Int)} {U p : List Int} {kvs : HK} {as ai : List Int} {i q : Nat} {b : Int} {kvs2 : HK} {as2 : List Int} (s : SLoop ps U p kvs as i ai) (h : p[i]? = some b) (hb : b ∉ ai) (hq : bB kvs (Sum.inl b) = some (.int q)) (hl : q < ps.length)
  (r : Sett ps U q kvs (ai ++ [b]) false kvs2 as2) : kvs2 = kvs /\ SLoop ps U p kvs as (i + 1) as2 := by
 obtain ⟨e, h1, h2⟩ := r.no rfl
 have g : ∀ c ∈ ai, c ∈ as2 := fun c hc => r.grow c (Dh _ hc)
 have gb : b ∈ as2 := r.grow b (by simp)
 refine ⟨e, fun c hc => g c (s.grow c hc), r.nd, r.sub, fun c hc => (gj h hc).elim (fun z => g c (s.past c z)) (fun e => e ▸ gb), fun c hc hn => ?_⟩
 by_cases c1 : c ∈ ai
 ·obtain ⟨q', p', a1, a2, a3⟩ := s.clo c c1 hn
  exact ⟨q', p', a1, a2, fun d hd => g d (a3 d hd)⟩
 ·by_cases c2 : c = b
  ·subst c2
   exact ⟨q, ps[q], hq, CP hl, h1 _ (CP hl)⟩
  ·exact h2 c hc (by simp [c1, c2])
theorem SLoop.free {ps : List (List Int)} {U p : List Int} {kvs : HK} {as ai : List Int} {i pl : Nat} {b : Int} (s : SLoop ps U p kvs as i ai) (hp : ps[pl]? = some p) (hU : ∀ b ∈ p, b ∈ U) (h : p[i]? = some b) (hb : b ∉ ai) (hq : bB kvs (Sum.inl b) = none)
  (nd : (kvs.map (·.1)).Nodup) (g : Good ps kvs) : Sett ps U pl kvs as true (cy kvs (Sum.inl b) (.int pl)) (ai ++ [b]) where
 grow := fun c hc => Dh _ (s.grow c hc)
 nd := g9 s.nd hb
 sub := fun c hc => (C7.mp hc).elim (s.sub c) fun z => by rw [CZ.mp z]; exact hU b (CW h)
 no := fun e => by cases e
 yes := fun _ => ⟨uZ nd, g.put hp (CW h), fun q => xm hq, fun c hc => by
  rw [oo, if_neg (fun e => hb (by cases e; exact s.grow _ hc))], by
  have h1 := fz kvs (Sum.inl b) (V.int (pl : Int))
  have h2 : 0 < U.length := List.length_pos_of_mem (hU b (CW h))
  omega⟩
theorem SLoop.turn {ps : List (List Int)} {U p : List Int} {kvs : HK} {as ai : List Int} {i pl q : Nat} {b : Int} {kvs2 : HK} {as2 : List Int} (s : SLoop ps U p kvs as i ai) (hp : ps[pl]? = some p) (h : p[i]? = some b) (hb : b ∉ ai)
  (hq : bB kvs (Sum.inl b) = some (.int q)) (r : Sett ps U q kvs (ai ++ [b]) true kvs2 as2) : Sett ps U pl kvs as true (cy kvs2 (Sum.inl b) (.int pl)) as2 := by
 obtain ⟨n2, g2, c2, v2, l2⟩ := r.yes rfl
 have hb2 : bB kvs2 (Sum.inl b) = some (.int q) := (v2 b (by simp)).trans hq
 refine ⟨fun c hc => r.grow c (Dh _ (s.grow c hc)), r.nd, r.sub, (fun e => by cases e), fun _ => ⟨uZ n2, g2.put hp (CW h), fun t => ?_, fun c hc => ?_, ?_⟩⟩
 ·have h1 := xn (p := pl) (q := t) n2 hb2
  have h2 := c2 t
  omega
 ·rw [oo, if_neg (fun e => hb (by cases e; exact s.grow _ hc)), v2 c (Dh _ (s.grow c hc))]
 ·have a : (kvs2.any fun kv => decide (kv.1 = Sum.inl b)) = true := by rw [b9, hb2]; rfl
  unfold cy
  rw [if_pos a, CO]; exact l2
theorem SLoop.done {ps : List (List Int)} {U p : List Int} {kvs : HK} {as ai : List Int} {pl : Nat} (s : SLoop ps U p kvs as p.length ai) (hp : ps[pl]? = some p) : Sett ps U pl kvs as false kvs ai :=
 ⟨s.grow, s.nd, s.sub, fun _ => ⟨rfl, fun p' e b hb => by
  rw [hp] at e; cases e
  exact s.past b (by rw [Dy]; exact hb), s.clo⟩, fun e => by cases e⟩
theorem xp {U ai as : List Int} {b : Int} (hU : b ∈ U) (hb : b ∉ ai) (g : ∀ c ∈ as, c ∈ ai) : (U.filter fun c => decide (c ∉ ai ++ [b])).length < (U.filter fun c => decide (c ∉ as)).length := by
 induction U with
 | nil => cases hU
 | cons u r ih =>
  have le : ∀ l : List Int, (l.filter fun c => decide (c ∉ ai ++ [b])).length <= (l.filter fun c => decide (c ∉ as)).length := fun l => by
   induction l with
   | nil => exact C0 _
   | cons x t ih =>
    by_cases hx : x ∈ as
    ·rw [DO (by simp [g x hx]), DO (by simp [hx])]; exact ih
    ·rw [Em (p := fun c => decide (c ∉ as)) (by simp [hx])]
     by_cases hy : x ∈ ai ++ [b]
     ·rw [DO (by simp only [decide_eq_true_eq]; exact fun z => z hy), Dv]; omega
     ·rw [Em (by simp only [decide_eq_true_eq]; exact hy), Dv, Dv]; omega
  have hbs : b ∉ as := fun z => hb (g b z)
  by_cases e : u = b
  ·subst e
   rw [DO (by simp), Em (p := fun c => decide (c ∉ as)) (by simp [hbs]), Dv]
   have := le r
   omega
  ·have hr : b ∈ r := (C5.mp hU).resolve_left fun z => e z.symm
   have := ih hr
   by_cases hx : u ∈ as
   ·rw [DO (by simp [g u hx]), DO (by simp [hx])]; exact this
   ·rw [Em (p := fun c => decide (c ∉ as)) (by simp [hx])]
    by_cases hy : u ∈ ai ++ [b]
    ·rw [DO (by simp only [decide_eq_true_eq]; exact fun z => z hy), Dv]; omega
    ·rw [Em (by simp only [decide_eq_true_eq]; exact hy), Dv, Dv]; omega
structure Deal (ps : List (List Int)) (hs : List Int) : Prop where
 len : hs.length = ps.length
 of : ∀ k (h1 : k < hs.length) (h2 : k < ps.length), hs[k] ∈ ps[k]
 nd : hs.Nodup
structure Short (ps : List (List Int)) (ms : List Nat) : Prop where
 up : ms.Pairwise (· < ·)
 few : ∃ X : List Int, X.length < ms.length /\ ∀ q ∈ ms, ∃ p, ps[q]? = some p /\ ∀ c ∈ p, c ∈ X
structure Held (ps : List (List Int)) (kvs : HK) (n : Nat) : Prop where
 nd : (kvs.map (·.1)).Nodup
 good : Good ps kvs
 one : ∀ q, rE kvs q = tE (q < n)
theorem Held.start {ps : List (List Int)} : Held ps [] 0 := ⟨EK, fun _ h => (by cases h), fun q => by unfold rE tE; simp⟩
theorem Held.next {ps : List (List Int)} {U : List Int} {kvs kvs' : HK} {n : Nat} {as' : List Int} (h : Held ps kvs n) (r : Sett ps U n kvs [] true kvs' as') : Held ps kvs' (n + 1) := by
 obtain ⟨a, b, c, _⟩ := r.yes rfl
 refine ⟨a, b, fun q => ?_⟩
 rw [c q, h.one q]
 unfold tE
 by_cases h1 : q < n
 ·rw [if_pos h1, if_neg (by omega), if_pos (by omega)]
 ·by_cases h2 : q = n
  ·rw [if_neg h1, if_pos h2, if_pos (by omega)]
  ·rw [if_neg h1, if_neg h2, if_neg (by omega)]
theorem j0 {α : Type} [DecidableEq α] {l : List α} (h : ∀ a, l.count a <= 1) : l.Nodup := by
 induction l with
 | nil => exact EK
 | cons x r ih =>
  refine Ea.mpr ⟨fun m => ?_, ih fun a => ?_⟩
  ·have q := h x
   have h2 := Fh.mpr m
   rw [List.count_cons_self] at q
   exact absurd h2 (Nat.not_lt_of_le (Nat.le_of_succ_le_succ q))
  ·have q := h a
   rw [EF] at q
   exact Di (EO _ _) q
theorem Held.vals {ps : List (List Int)} {kvs : HK} {n : Nat} (h : Held ps kvs n) : (kvs.map (·.2)).Nodup := j0 fun a => by
 by_cases m : a ∈ kvs.map (·.2)
 ·obtain ⟨e, he, ea⟩ := C9.mp m
  obtain ⟨b, q, p, e1, _⟩ := h.good e he
  have ea' : a = V.int q := by rw [<- ea, e1]
  have := h.one q
  unfold rE tE at this
  rw [ea', this]
  split <;> omega
 ·rw [List.count_eq_zero_of_not_mem m]; omega
theorem Held.lt {ps : List (List Int)} {kvs : HK} {n : Nat} (h : Held ps kvs n) {k : bT} {q : Nat} (m : (k, V.int q) ∈ kvs) : q < n := by
 have h1 : V.int (q : Int) ∈ kvs.map (·.2) := C9.mpr ⟨_, m, rfl⟩
 have h2 := Fh.mpr h1
 have := h.one q
 unfold rE tE at this
 rw [this] at h2
 split at h2
 ·assumption
 ·omega
theorem Held.mem {ps : List (List Int)} {kvs : HK} {n q : Nat} (h : Held ps kvs n) (hq : q < n) : ∃ (b : Int) (p : List Int), (Sum.inl b, V.int q) ∈ kvs /\ ps[q]? = some p /\ b ∈ p := by
 have := h.one q
 unfold rE tE at this
 rw [if_pos hq] at this
 have h1 : V.int (q : Int) ∈ kvs.map (·.2) := Fh.mp (by omega)
 obtain ⟨e, he, ea⟩ := C9.mp h1
 obtain ⟨b, q', p, e1, e2, e3⟩ := h.good e he
 subst e1
 have : q' = q := by
  have z : V.int (q' : Int) = V.int q := ea
  injection z with z
  omega
 subst this
 exact ⟨b, p, he, e2, e3⟩
theorem Held.key {ps : List (List Int)} {kvs : HK} {n q q' : Nat} {b : Int} (h : Held ps kvs n) (h1 : (Sum.inl b, V.int q) ∈ kvs) (h2 : (Sum.inl b, V.int q') ∈ kvs) : q = q' := by
 have a := jg h.nd h1
 have c := jg h.nd h2
 rw [a] at c
 have c := Option.some.inj c
 injection c with c
 omega
theorem Held.inj {ps : List (List Int)} {kvs : HK} {n q : Nat} {k k' : bT} (h : Held ps kvs n) (h1 : (k, V.int q) ∈ kvs) (h2 : (k', V.int q) ∈ kvs) : k = k' := by
 obtain ⟨i, hi, ei⟩ := Dd.mp h1
 obtain ⟨j, hj, ej⟩ := Dd.mp h2
 have nd := h.vals
 have e : (kvs.map (·.2))[i]'(by simpa using hi) = (kvs.map (·.2))[j]'(by simpa using hj) := by simp [ei, ej]
 have := (EL nd).mp e
 subst this
 rw [ei] at ej
 exact congrArg Prod.fst ej
theorem Held.deal {ps : List (List Int)} {kvs : HK} {hs : List Int} (h : Held ps kvs ps.length) (hl : hs.length = ps.length) (e : ∀ b (q : Nat), (Sum.inl b, V.int q) ∈ kvs -> hs[q]? = some b) : Deal ps hs := by
 refine ⟨hl, fun k h1 h2 => ?_, ?_⟩
 ·obtain ⟨b, p, m, e2, e3⟩ := h.mem h2
  have := e b k m
  rw [CP h1] at this
  rw [Option.some.inj this]
  rw [CP h2] at e2
  rw [Option.some.inj e2]; exact e3
 ·rw [Ed, DE]
  intro i j hi hj hij z
  obtain ⟨b, _, m, _, _⟩ := h.mem (q := i) (by omega)
  obtain ⟨c, _, m', _, _⟩ := h.mem (q := j) (by omega)
  have e1 := e b i m
  have e2 := e c j m'
  rw [CP hi] at e1
  rw [CP hj] at e2
  have e1 := Option.some.inj e1
  have e2 := Option.some.inj e2
  have : b = c := by rw [<- e1, <- e2]; exact z
  subst this
  have := h.key m m'
  omega
def jz (kvs : HK) (b : Int) : Int := match bB kvs (Sum.inl b) with
 | some (.int i) => i
 | _ => 0
theorem ie {kvs : HK} {b i : Int} (h : bB kvs (Sum.inl b) = some (.int i)) : jz kvs b = i := by unfold jz; rw [h]
theorem Held.short {ps : List (List Int)} {U : List Int} {kvs kvs' : HK} {n : Nat} {as' : List Int} {ms : List Int} (h : Held ps kvs n) (hn : n < ps.length) (r : Sett ps U n kvs [] false kvs' as') (hp : ms.Perm ((n : Int) :: as'.map (jz kvs))) (hs : ms.Pairwise (· <= ·)) :
  ∃ qs : List Nat, ms = qs.map Int.ofNat /\ Short ps qs := by
 obtain ⟨_, h1, h2⟩ := r.no rfl
 have hv : ∀ b ∈ as', ∃ (q : Nat) (p : List Int), bB kvs (Sum.inl b) = some (.int q) /\ ps[q]? = some p /\ ∀ c ∈ p, c ∈ as' := fun b hb => h2 b hb (by simp)
 have nd0 : ((n : Int) :: as'.map (jz kvs)).Nodup := by
  refine Ea.mpr ⟨fun m => ?_, ?_⟩
  ·obtain ⟨b, hb, e⟩ := C9.mp m
   obtain ⟨q, p, a1, _⟩ := hv b hb
   rw [ie a1] at e
   have := h.lt (h9 a1)
   omega
  ·rw [Ed, EJ]
   refine List.Pairwise.imp_of_mem (R := (· ≠ ·)) ?_ (Ed.mp r.nd)
   intro b c hb hc hne z
   obtain ⟨q, p, a1, _⟩ := hv b hb
   obtain ⟨q', p', a2, _⟩ := hv c hc
   rw [ie a1, ie a2] at z
   have : q = q' := by omega
   subst this
   have := h.inj (h9 a1) (h9 a2)
   exact hne (Sum.inl.inj this)
 have ndm : ms.Nodup := hp.nodup_iff.mpr nd0
 have nn : ∀ m ∈ ms, ∃ q : Nat, m = Int.ofNat q /\ ∃ p, ps[q]? = some p /\ ∀ c ∈ p, c ∈ as' := fun m hm => by
  rcases C5.mp (hp.mem_iff.mp hm) with e | e
  ·exact ⟨n, e, ps[n], CP hn, h1 _ (CP hn)⟩
  ·obtain ⟨b, hb, e⟩ := C9.mp e
   obtain ⟨q, p, a1, a2, a3⟩ := hv b hb
   rw [ie a1] at e
   exact ⟨q, e.symm, p, a2, a3⟩
 refine ⟨ms.map Int.toNat, ?_, ?_, as', ?_, fun q hq => ?_⟩
 ·rw [Dq]
  have : ∀ m ∈ ms, (Int.ofNat ∘ Int.toNat) m = m := fun m hm => by
   obtain ⟨q, e, _⟩ := nn m hm
   rw [e]; rfl
  exact ((DX this).trans (List.map_id _)).symm
 ·rw [EJ]
  have both : ms.Pairwise fun a b => a <= b /\ a ≠ b := hs.and (Ed.mp ndm)
  refine List.Pairwise.imp_of_mem ?_ both
  intro a b ha hb ⟨h1, h2⟩
  obtain ⟨q, e, _⟩ := nn a ha
  obtain ⟨q', e', _⟩ := nn b hb
  subst e e'
  have : (q : Int) <= q' := h1
  have h3 : (q : Int) ≠ q' := h2
  show q < q'
  omega
 ·rw [CO, hp.length_eq, Dv, CO]; omega
 ·obtain ⟨m, hm, e⟩ := C9.mp hq
  obtain ⟨q', e', z⟩ := nn m hm
  subst e'
  have : q = q' := by rw [<- e]; rfl
  subst this
  exact z
end L2
namespace L2
open PySem PySem.Spec PyProof.Rows
def SameX (ex : List Addr) (H H' : Hp) : Prop := ∀ b o, b ∉ ex -> H b = some o -> H' b = some o
theorem SameX.refl {ex : List Addr} {H : Hp} : SameX ex H H := fun _ _ _ h => h
theorem SameX.trans {ex : List Addr} {H H1 H2 : Hp} (a : SameX ex H H1) (b : SameX ex H1 H2) : SameX ex H H2 := fun c o n h => b c o n (a c o n h)
theorem SameX.upd {ex : List Addr} {H : Hp} {a : Addr} {o : HO} (h : a ∈ ex) : SameX ex H (aI H a o) := fun b u n e => by rw [ar (fun z : b = a => n (by rw [z]; exact h))]; exact e
theorem Same.x {ex : List Addr} {H H' : Hp} (s : Same H H') : SameX ex H H' := fun b o _ h => s b o h
def u4 (H : Hp) (a : Addr) : Prop := ∃ kvs, H a = some (.dK kvs)
theorem SameX.seq {K : PySem.W.Frag} {ex : List Addr} {H H' : Hp} {a : Addr} {xs : List V} (s : SameX ex H H') (hx : ∀ x ∈ ex, u4 H x) (h : SqL K H a xs) : SqL K H' a xs := by
 have ne : ∀ u, H a = some u -> (∀ kvs, u ≠ .dK kvs) -> a ∉ ex := fun u e n m => by
  obtain ⟨kvs, q⟩ := hx a m
  rw [e] at q
  exact n kvs (Option.some.inj q)
 rcases h with (h | ⟨o, h⟩) | h
 ·exact .inl (.inl (s _ _ (ne _ h (fun _ z => by cases z)) h))
 ·exact .inl (.inr ⟨o, s _ _ (ne _ h (fun _ z => by cases z)) h⟩)
 ·exact .inr h
def PoolsL (K : PySem.W.Frag) (H : Hp) (rs : List Addr) (ps : List (List Int)) : Prop := Paired (fun r p => SqL K H r (p.map V.int)) rs ps
theorem PoolsL.mono {K : PySem.W.Frag} {ex : List Addr} {H H' : Hp} {rs : List Addr} {ps : List (List Int)} (h : PoolsL K H rs ps) (s : SameX ex H H') (hx : ∀ x ∈ ex, u4 H x) : PoolsL K H' rs ps := Paired.mapP h fun _ _ q => s.seq hx q
theorem PoolsL.same {K : PySem.W.Frag} {H H' : Hp} {rs : List Addr} {ps : List (List Int)} (h : PoolsL K H rs ps) (s : Same H H') : PoolsL K H' rs ps := Paired.mapP h fun _ _ q => s.seq q
theorem PoolsL.at {K : PySem.W.Frag} {H : Hp} {rs : List Addr} {ps : List (List Int)} (h : PoolsL K H rs ps) {i : Nat} {p : List Int} (e : ps[i]? = some p) : ∃ r, rs[i]? = some r /\ SqL K H r (p.map V.int) := cg (F := fun (r : Addr) (p : List Int) => SqL K H r (p.map V.int)) h e
theorem PoolsL.len {K : PySem.W.Frag} {H : Hp} {rs : List Addr} {ps : List (List Int)} (h : PoolsL K H rs ps) : rs.length = ps.length := Paired.length h
theorem lX {α β : Type} {F : α -> β -> Prop} : ∀ {l : List α} {r : List β}, l.length = r.length -> (∀ (i : Nat) a b, l[i]? = some a -> r[i]? = some b -> F a b) -> Paired F l r := by
 intro l
 induction l with
 | nil =>
  intro r h f
  cases r with
  | nil => exact .nil
  | cons b r => cases h
 | cons a l ih =>
  intro r h f
  cases r with
  | nil => cases h
  | cons b r => exact .cons (f 0 a b rfl rfl) (ih (Nat.succ.inj h) fun i x y e1 e2 => f (i + 1) x y e1 e2)
theorem rF {ps : List (List Int)} {U : List Int} {kvs : HK} (hU : ∀ p ∈ ps, ∀ b ∈ p, b ∈ U) (g : Good ps kvs) (nd : (kvs.map (·.1)).Nodup) : kvs.length <= U.length := by
 have h : (kvs.map (·.1)).length <= (U.map (Sum.inl : Int -> bT)).length := nd.length_le_of_subset fun k hk => by
  obtain ⟨e, he, ek⟩ := C9.mp hk
  obtain ⟨b, q, p, e1, e2, e3⟩ := g e he
  rw [<- ek, e1]
  exact C9.mpr ⟨b, hU p (CW e2) b e3, rfl⟩
 simpa using h
theorem eF (b : Int) (bs : List Int) : Bb (.int b) (bs.map V.int) = decide (b ∈ bs) := by
 unfold Bb
 induction bs with
 | nil => rfl
 | cons c r ih =>
  rw [Dm, ET, ih]
  by_cases h : c = b
  ·subst h; simp [rg]
  ·have h' : ¬ b = c := fun z => h z.symm
   simp [rg, h, h']
theorem dh (bs : List Int) : (bs.map V.int).all cO = true := by
 rw [DF]
 intro x hx
 obtain ⟨i, _, e⟩ := C9.mp hx
 rw [<- e]; rfl
theorem tF {K : PySem.W.Frag} {H : Hp} {a b : Addr} {rs rs' : List Addr} {ps : List (List Int)} (h1 : SqL K H a (rs.map V.ref)) (p1 : PoolsL K H rs ps) (h2 : SqL K H b (rs'.map V.ref)) (p2 : PoolsL K H rs' ps) : DEq K H 2 (.ref a) (.ref b) true := by
 have q := DEq.lst (d := 1) (e := fun _ => true) h1 h2 (by rw [CO, CO, p1.len, p2.len]) fun j x y ex ey => by
  rw [CU] at ex ey
  obtain ⟨r, e1, e2⟩ := CV.mp ex
  obtain ⟨r', e3, e4⟩ := CV.mp ey
  subst e2 e4
  have hj : j < ps.length := by rw [<- p1.len]; exact (CS.mp e1).1
  obtain ⟨u, eu, su⟩ := p1.at (CP hj)
  obtain ⟨u', eu', su'⟩ := p2.at (CP hj)
  rw [e1] at eu
  rw [e3] at eu'
  cases eu
  cases eu'
  exact oB su su' sW
 have e : ((CY (rs.map V.ref).length).all fun _ => true) = true := DF.mpr fun _ _ => rfl
 rw [e] at q
 exact q
abbrev jA (xs : List Nat) : Prop := xs.Pairwise (· < ·)
structure CutAt (xs : Array Nat) (j p : Nat) : Prop where
 le : p <= xs.size
 lo : ∀ i (h : i < xs.size), i < p -> xs[i] < j
 hi : ∀ i (h : i < xs.size), p <= i -> j <= xs[i]
theorem ig {xs : Array Nat} (r : jA xs.toList) {i k : Nat} (hi : i < xs.size) (hk : k < xs.size) (h : i < k) : xs[i] < xs[k] := by
 have := DE.mp r i k (by simpa using hi) (by simpa using hk) h
 simpa using this
theorem u7 {xs : Array Nat} (r : jA xs.toList) (j : Nat) : ∀ (f lo hi : Nat), hi - lo <= f -> lo <= hi -> hi <= xs.size -> (∀ i (h : i < xs.size), i < lo -> xs[i] < j) -> (∀ i (h : i < xs.size), hi <= i -> j <= xs[i]) -> CutAt xs j (SetTable.below.go xs j f lo hi) := by
 intro f
 induction f with
 | zero =>
  intro lo hi hf hl hs h1 h2
  have e : hi = lo := by omega
  subst e
  exact ⟨hs, h1, h2⟩
 | succ f ih =>
  intro lo hi hf hl hs h1 h2
  unfold SetTable.below.go
  by_cases hlt : lo < hi
  ·rw [if_pos hlt]
   have hm : (lo + hi) / 2 < xs.size := by omega
   have eg : xs.getD ((lo + hi) / 2) j = xs[(lo + hi) / 2] := by simp [hm]
   dsimp only
   rw [eg]
   by_cases hc : xs[(lo + hi) / 2] < j
   ·rw [if_pos hc]
    refine ih _ _ (by omega) (by omega) hs (fun i h hi' => ?_) h2
    by_cases e : i = (lo + hi) / 2
    ·subst e; exact hc
    ·exact Nat.lt_trans (ig r h hm (by omega)) hc
   ·rw [if_neg hc]
    refine ih _ _ (by omega) (by omega) (by omega) h1 fun i h hi' => ?_
    by_cases e : i = (lo + hi) / 2
    ·subst e; omega
    ·have := ig r hm h (by omega)
     omega
  ·rw [if_neg hlt]
   have e : hi = lo := by omega
   subst e
   exact ⟨hs, h1, h2⟩
theorem lY {xs : Array Nat} (r : jA xs.toList) (j : Nat) : CutAt xs j (SetTable.below xs j) :=
 u7 r j xs.size 0 xs.size (by omega) (Dk _) (C0 _) (fun i _ h => by omega) fun i h h' => by omega
theorem CutAt.unique {xs : Array Nat} {j p q : Nat} (a : CutAt xs j p) (b : CutAt xs j q) : p = q := by
 rcases Nat.lt_trichotomy p q with h | h | h
 ·have hp : p < xs.size := Dj h b.le
  have := b.lo p hp h
  have := a.hi p hp (C0 _)
  omega
 ·exact h
 ·have hq : q < xs.size := Dj h a.le
  have := a.lo q hq h
  have := b.hi q hq (C0 _)
  omega
theorem oD {xs : Array Nat} {j : Nat} (r : jA xs.toList) (hn : xs[SetTable.below xs j]? ≠ some j) : jA (SetTable.insertAt xs (SetTable.below xs j) j).toList := by
 have c := lY r j
 generalize SetTable.below xs j = p at hn c
 have e : (SetTable.insertAt xs p j).toList = xs.toList.take p ++ j :: xs.toList.drop p := by
  unfold SetTable.insertAt
  simp [Array.toList_append, Fn, Fj]
  exact DK (by simp)
 rw [e]
 refine E7.mpr ⟨r.sublist (List.take_sublist _ _), List.pairwise_cons.mpr ⟨fun x hx => ?_, r.sublist (List.drop_sublist _ _)⟩, fun x hx y hy => ?_⟩
 ·obtain ⟨i, hi, ei⟩ := Dd.mp hx
  rw [Ei, C1] at hi
  rw [List.getElem_drop, Eu] at ei
  have h1 := c.hi (p + i) (by omega) (by omega)
  rw [ei] at h1
  by_cases z : x = j
  ·exfalso
   have hp : p < xs.size := by omega
   have h2 := c.hi p hp (C0 _)
   have h3 : xs[p] <= xs[p + i] := by
    by_cases i0 : i = 0
    ·subst i0; exact C0 _
    ·exact DS (ig r hp (by omega) (by omega))
   have h4 : xs[p] = j := by rw [ei, z] at h3; omega
   exact hn (by rw [Dp hp, h4])
  ·omega
 ·obtain ⟨i, hi, ei⟩ := Dd.mp hx
  rw [DU, C1] at hi
  rw [Fo, Eu] at ei
  have h1 := c.lo i (by omega) (by omega)
  rw [ei] at h1
  rcases C5.mp hy with z | z
  ·omega
  ·obtain ⟨k, hk, ek⟩ := Dd.mp z
   rw [Ei, C1] at hk
   rw [List.getElem_drop, Eu] at ek
   have h2 := c.hi (p + k) (by omega) (by omega)
   omega
theorem lZ {t : SetTable} {j : Nat} (h : t.slot j = .empty \/ t.slot j = .dummy) : t.place[SetTable.below t.place j]? ≠ some j := by
 intro z
 have e : t.slot j = .live (SetTable.below t.place j) := by
  unfold SetTable.slot
  dsimp only
  rw [z]
  simp
 rw [e] at h
 rcases h with h | h <;> cases h
theorem qf {t : SetTable} {hh : Nat -> Int} {h : Int} : ∀ (f : Nat) (p : SetTable.Probe) (j : Nat) (d : Option Nat), (∀ x, p.dummy = some x -> t.slot x = .dummy) -> SetTable.probe.go t hh h f p = some (.empty j d) -> t.slot j = .empty /\ ∀ x, d = some x -> t.slot x = .dummy := by
 intro f
 induction f with
 | zero => intro p j d _ e; unfold SetTable.probe.go at e; cases e
 | succ f ih =>
  intro p j d hp e
  unfold SetTable.probe.go at e
  have adv : ∀ q : SetTable.Probe, (t.advance q).dummy = q.dummy := fun q => by
   unfold SetTable.advance
   split <;> rfl
  cases hs : t.slot p.j with
  | empty =>
   rw [hs] at e
   cases e
   exact ⟨hs, hp⟩
  | dummy =>
   rw [hs] at e
   refine ih _ j d (fun x hx => ?_) e
   rw [adv] at hx
   cases hx
   exact hs
  | live i =>
   rw [hs] at e
   dsimp only at e
   split at e
   ·cases e
   ·refine ih _ j d (fun x hx => ?_) e
    rw [adv] at hx
    exact hp x hx
theorem kZ {t : SetTable} {h : Int} {j : Nat} {b : Bool} (e : t.freeSlot h = some (j, b)) : t.place[SetTable.below t.place j]? ≠ some j := by
 unfold SetTable.freeSlot at e
 split at e
 ·rename_i j' d hm
  have := qf (t := t) (h := h) _ _ j' d (fun x hx => by cases hx) hm
  have e' := Option.some.inj e
  cases d with
  | none =>
   have : j' = j := by have := congrArg Prod.fst e'; simpa using this
   subst this
   exact lZ (.inl this.1)
  | some x =>
   have hx : x = j := by have := congrArg Prod.fst e'; simpa using this
   subst hx
   exact lZ (.inr (this.2 x rfl))
 ·cases e
structure TabK (led : Bool) (t : SetTable) : Prop where
 led : t.led = led
 rise : t.plain = true -> jA t.place.toList
theorem dG {led : Bool} {t : SetTable} (h : t.led = led) (n : Nat) : TabK led (t.standIn n) := ⟨h, fun z => by cases z⟩
theorem k7 {led : Bool} {t : SetTable} (h : TabK led t) (n : Nat) : TabK led (t.orStandIn n) := by
 unfold SetTable.orStandIn
 split
 ·exact h
 ·exact dG h.led n
theorem qg {led : Bool} {t : SetTable} (h : TabK led t) (es : Array (Int × Value)) (hh : Int) (x : Value) : TabK led (layNew t es hh x).2.1 := by
 unfold layNew
 cases e : t.freeSlot hh with
 | none => exact dG h.led _
 | some q =>
  obtain ⟨j, b⟩ := q
  refine k7 (t := (t.put j).1) ⟨h.led, fun z => ?_⟩ _
  exact oD (h.rise z) (kZ e)
theorem l5 {mask finger moves : Nat} {led plain : Bool} {hs : Array Int} {t : SetTable} {o : Array Nat} (e : SetTable.laid mask finger moves led plain hs = some (t, o)) : t.led = led /\ jA t.place.toList := by
 unfold SetTable.laid at e
 obtain ⟨ow, _, e2⟩ := CQ.mp e
 have e2 := Option.some.inj e2
 have ht := congrArg Prod.fst e2
 dsimp only at ht
 rw [<- ht]
 refine ⟨rfl, ?_⟩
 show List.Pairwise (fun a b => a < b) (List.map (fun x : Nat × Nat => x.1) _)
 rw [EJ]
 refine List.pairwise_filterMap.mpr ?_
 refine List.Pairwise.imp ?_ List.pairwise_lt_range
 intro a b hab x hx y hy
 obtain ⟨u, _, eu⟩ := CV.mp hx
 obtain ⟨v, _, ev⟩ := CV.mp hy
 rw [<- eu, <- ev]
 exact hab
theorem ni {led : Bool} {t : SetTable} (h : TabK led t) (es : Array (Int × Value)) (n : Nat) : TabK led (relayAll t es n).2.1 := by
 unfold relayAll
 cases e : t.relaid (es.map (·.1)) n with
 | none => exact dG h.led _
 | some q =>
  obtain ⟨t', o⟩ := q
  dsimp only
  split
  ·have := l5 e
   exact ⟨this.1.trans h.led, fun _ => this.2⟩
  ·exact dG h.led _
abbrev bS (w : World) : Bool := w.params.followText "set-order"
def Ents (es : List (Int × Value)) (ks : List Int) : Prop := Paired (fun (e : Int × Value) (k : Int) => ∃ t, e = (hashInt k, Value.int k t)) es ks
structure SetIn (w : World) (o : Obj) (es : Array (Int × Value)) (ep : Nat) (t : SetTable) (ks : List Int) : Prop where
 ex : o.ExactSet
 da : o.data = .set es ep t
 en : Ents es.toList ks
 nd : ks.Nodup
 sz : ks.length < 4000
 ft : t.fits es.size = true
 tb : TabK (!bS w) t
def SX (w : World) (a : Addr) (ms : List Int) : Heap -> Prop := fun h => ∃ o es ep t ks, h.get? a = some o /\ SetIn w o es ep t ks /\ ks.Perm ms
theorem SX.at {w : World} {a : Addr} {ms : List Int} {h h' : Heap} (x : SX w a ms h) (k : ∀ o, h.get? a = some o -> h'.get? a = some o) : SX w a ms h' := by
 obtain ⟨o, es, ep, t, ks, e, r⟩ := x
 exact ⟨o, es, ep, t, ks, k o e, r⟩
theorem SX.lt {w : World} {a : Addr} {ms : List Int} {h : Heap} (x : SX w a ms h) : a < h.objs.size := by
 obtain ⟨o, es, ep, t, ks, e, r⟩ := x
 exact Heap.lt_size e
theorem SX.perm {w : World} {a : Addr} {ms ns : List Int} {h : Heap} (x : SX w a ms h) (p : ms.Perm ns) : SX w a ns h := by
 obtain ⟨o, es, ep, t, ks, e, r, q⟩ := x
 exact ⟨o, es, ep, t, ks, e, r, q.trans p⟩
theorem Ents.mem : ∀ {es : List (Int × Value)} {ks : List Int}, Ents es ks -> ∀ {e : Int × Value}, e ∈ es -> ∃ k t, k ∈ ks /\ e = (hashInt k, Value.int k t) := by
 intro es ks h e
 unfold Ents at h
 induction h with
 | nil => intro h; cases h
 | cons q r ih =>
  intro h
  obtain ⟨t, q⟩ := q
  rcases C5.mp h with z | z
  ·exact ⟨_, t, Dg, z.trans q⟩
  ·obtain ⟨k, t, m, q⟩ := ih z
   exact ⟨k, t, C8 _ m, q⟩
theorem Ents.elems {P : Program} {w : World} {es : List (Int × Value)} {ks : List Int} (h : Ents es ks) : ElemsOf (intKind P w) es := fun e he => by
 obtain ⟨k, t, _, q⟩ := h.mem he
 subst q
 exact ⟨⟨k, intKind_is P w k t, rfl⟩, rfl⟩
theorem Ents.len {es : List (Int × Value)} {ks : List Int} (h : Ents es ks) : es.length = ks.length := Paired.length h
theorem Ents.perm {es es' : List (Int × Value)} (p : es'.Perm es) : ∀ {ks : List Int}, Ents es ks -> ∃ ks', Ents es' ks' /\ ks'.Perm ks := by
 induction p with
 | nil => intro ks h; cases h; exact ⟨[], .nil, .nil⟩
 | cons x _ ih =>
  intro ks h
  cases h with
  | cons q r =>
   obtain ⟨ks', a, b⟩ := ih r
   exact ⟨_ :: ks', .cons q a, b.cons _⟩
 | swap x y l =>
  intro ks h
  cases h with
  | cons q r =>
   cases r with
   | cons q' r => exact ⟨_ :: _ :: _, .cons q' (.cons q r), .swap _ _ _⟩
 | trans _ _ ih1 ih2 =>
  intro ks h
  obtain ⟨k2, a, b⟩ := ih2 h
  obtain ⟨k3, c, d⟩ := ih1 a
  exact ⟨k3, c, d.trans b⟩
theorem l6 (k j : Int) (t : Tok) : Value.isInt k (.int j t) = decide (k = j) := by
 by_cases h : k = j
 ·subst h; simp [Value.isInt]
 ·simp [Value.isInt, h]
  exact fun z => h z.symm
theorem Ents.find {P : Program} {w : World} {k : Int} : ∀ {es : List (Int × Value)} {ks : List Int}, Ents es ks -> (es.findIdx? (fun e => (intKind P w).is k e.2)).isSome = decide (k ∈ ks) := by
 intro es ks h
 unfold Ents at h
 induction h with
 | nil => rfl
 | @cons a j es ks q r ih =>
  obtain ⟨t, q⟩ := q
  subst q
  rw [List.findIdx?_cons]
  have e : (intKind P w).is k (hashInt j, Value.int j t).2 = decide (k = j) := l6 k j t
  rw [e]
  by_cases h : k = j
  ·subst h; simp
  ·simp [h, ih]
section
variable {P : Program} {w : World} {A : Around} {E : Value -> Shared -> Prop} {s : Shared} {a : Addr} {ms ks : List Int} {o : Obj} {es : Array (Int × Value)} {ep : Nat} {t : SetTable}
theorem SetIn.bound (h : SetIn w o es ep t ks) : es.size < scanBound := by
 have : es.size = ks.length := by rw [<- h.en.len, C1]
 have := h.sz
 have e : scanBound = 4096 := rfl
 omega
theorem SetIn.size (h : SetIn w o es ep t ks) : es.size = ks.length := by rw [<- h.en.len, C1]
theorem qh {es' : Array (Int × Value)} {t' : SetTable} {ks' : List Int} (ho : s.heap.get? a = some o) (h : SetIn w o es ep t ks) (en : Ents es'.toList ks') (nd : ks'.Nodup) (sz : ks'.length < 4000) (ft : t'.fits es'.size = true) (tb : TabK (!bS w) t') :
  ∃ o', (s.heap.update a (Obj.putSet es' t')).get? a = some o' /\ SetIn w o' es' (ep + 1) t' ks' := by
 have g := Heap.get?_update_self (Obj.putSet es' t') ho (by rw [putSet_of es' t' h.da]; rfl)
 rw [putSet_of es' t' h.da] at g
 exact ⟨_, g, ⟨h.ex, rfl, en, nd, sz, ft, tb⟩⟩
theorem rG {g : Bool -> Sem Unit} {Q : Unit -> Shared -> Prop} (hg : ∀ b, g b = match b with | true => rule "set.scan.the-table-gave-way" | false => pure ()) (b : Bool) {s : Shared} (h : Q () s) : wpAny (model P w) A (g b) Q E s := by
 rw [hg b]
 cases b with
 | true => exact wpAny_rule h
 | false => exact wpAny_pure h
theorem zq {x : Int} {tk : Tok} {Q : Bool -> Shared -> Prop} (ho : s.heap.get? a = some o) (hs : SetIn w o es ep t ks) (hl : ks.length + 1 < 4000)
  (h1 : x ∈ ks -> Q false s) (h2 : x ∉ ks -> ∀ h', Heap.SameBut a s.heap h' -> SX w a (ks ++ [x]) h' -> Q true { s with heap := h' }) : wpAny (model P w) A (setAddHashed a (.int x tk) (hashInt x)) Q E s := by
 have hel := hs.en.elems (P := P) (w := w)
 have hky : (intKind P w).is x (.int x tk) = true := intKind_is P w x tk
 unfold setAddHashed setAddHashedIn
 refine wpAny_holding (wpAny_bind (wpAny_setState_of ho hs.da hs.ft ?_))
 dsimp only
 rw [byScan_of (knd := intKind P w) rfl hs.bound hel, if_pos rfl]
 refine wpAny_bind ?_
 unfold setAddByScan
 refine wpAny_bind (wpAny_rule (wpAny_bind (wpAny_setScan_of (knd := intKind P w) (k := x) hky ho hs.da hs.ft hel ?_)))
 have fd := hs.en.find (P := P) (w := w) (k := x)
 cases hr : List.findIdx? (fun e => (intKind P w).is x e.2) es.toList with
 | some j =>
  rw [hr] at fd
  exact wpAny_pure (wpAny_pure (h1 (of_decide_eq_true fd.symm)))
 | none =>
  rw [hr] at fd
  have hx : x ∉ ks := of_decide_eq_false fd.symm
  have p1 := layNew_perm t es (hashInt x) (Value.int x tk)
  have f1 := layNew_fits t es (hashInt x) (Value.int x tk)
  have t1 := qg hs.tb es (hashInt x) (Value.int x tk)
  generalize layNew t es (hashInt x) (Value.int x tk) = L at p1 f1 t1 ⊢
  obtain ⟨e1, u1, wasD, gave⟩ := L
  dsimp only at p1 f1 t1 ⊢
  rw [Fn] at p1
  obtain ⟨k1, n1, q1⟩ := Ents.perm p1 (ks := ks ++ [x]) (Paired.snoc hs.en ⟨tk, rfl⟩)
  have nd1 : k1.Nodup := q1.nodup_iff.mpr (g9 hs.nd hx)
  have l1 : k1.length < 4000 := by rw [q1.length_eq, C3, Da]; exact hl
  have b1 : e1.size <= sizeLine := by
   have : e1.size = k1.length := by rw [<- n1.len, C1]
   exact Di (by omega) (DS (jZ (n := 99999) (by omega)))
  refine wpAny_bind (rG (fun b => by cases b <;> rfl) gave ?_)
  have tail : ∀ u2 : SetTable, u2.fits e1.size = true -> TabK (!bS w) u2 -> ∀ R : Option Bool -> Shared -> Prop, (∀ h', Heap.SameBut a s.heap h' -> SX w a (ks ++ [x]) h' -> R (some true) { s with heap := h' }) -> ∀ g : Bool -> Sem Unit, (∀ b, g b = match b with | true => rule "set.scan.the-table-gave-way" | false => pure ()) ->
    wpAny (model P w) A (do
     storeSet a e1 u2
     if (!wasD && u2.tooFull) = true then
      let (es, t, gave) := relayAll u2 e1 (SetTable.grown e1.size)
      g gave
      storeSet a es t
     return some true) R E s := by
   intro u2 f2 t2 R hR g hg
   refine wpAny_bind (wpAny_storeSet_of ho hs.da ?_ b1)
   obtain ⟨o', ho', hs'⟩ := qh (s := s) ho hs n1 nd1 l1 f2 t2
   have sb1 := Heap.SameBut.update s.heap a (Obj.putSet e1 u2)
   by_cases hc : (!wasD && u2.tooFull) = true
   ·rw [if_pos hc]
    have p3 := relayAll_perm u2 e1 (SetTable.grown e1.size)
    have f3 := relayAll_fits u2 e1 (SetTable.grown e1.size)
    have t3 := ni t2 e1 (SetTable.grown e1.size)
    generalize relayAll u2 e1 (SetTable.grown e1.size) = L at p3 f3 t3 ⊢
    obtain ⟨e3, u3, gave3⟩ := L
    dsimp only at p3 f3 t3 ⊢
    obtain ⟨k3, n3, q3⟩ := Ents.perm p3 n1
    have z3 : e3.size = e1.size := by rw [<- C1, p3.length_eq, C1]
    refine wpAny_bind (rG hg gave3 ?_)
    refine wpAny_bind (wpAny_storeSet_of ho' hs'.da ?_ (by rw [z3]; exact b1))
    obtain ⟨o3, ho3, hs3⟩ := qh (s := { s with heap := s.heap.update a (Obj.putSet e1 u2) }) ho' hs' n3 (q3.nodup_iff.mpr nd1) (by rw [q3.length_eq]; exact l1) f3 t3
    exact wpAny_pure (hR _ (sb1.trans (Heap.SameBut.update _ a _)) ⟨o3, e3, _, u3, k3, ho3, hs3, q3.trans q1⟩)
   ·rw [if_neg hc]
    exact wpAny_pure (hR _ sb1 ⟨o', e1, _, u2, k1, ho', hs', q1⟩)
  by_cases hp : u1.plain = true
  ·rw [if_pos hp]
   refine wpAny_bind ?_
   rw [hashByValue_scannable 8 (x := Value.int x tk) rfl]
   refine wpAny_pure ?_
   refine tail u1 f1 t1 _ (fun h' sb sx => ?_) _ (fun b => by cases b <;> rfl)
   exact wpAny_pure (h2 hx h' sb sx)
  ·rw [if_neg hp]
   refine wpAny_bind (wpAny_pure ?_)
   refine tail u1 f1 t1 _ (fun h' sb sx => ?_) _ (fun b => by cases b <;> rfl)
   exact wpAny_pure (h2 hx h' sb sx)
end
theorem bF : Slot "set_iterator" "__next__" "set_iterator.__next__" := .of (owner := "set_iterator") (n := "__next__") (by rw [typeLookup_type, builtinLookup_eq_fast]; kernel_rfl) (by decide +kernel) (by decide +kernel) (by decide +kernel) (.inl (by decide +kernel)) (by rw [isSubtype_type]; kernel_rfl)
theorem gn : entryFor table "set_iterator.__next__" = some Builtin.«set_iterator.__next__» := entryFor_of_tree (by kernel_rfl)
theorem ij (a : Value) : argsOk "set_iterator.__next__" ⟨[a], []⟩ := by unfold argsOk; kernel_rfl
theorem ik : Slot "set_iterator" "__iter__" "set_iterator.__iter__" := .of (owner := "set_iterator") (n := "__iter__") (by rw [typeLookup_type, builtinLookup_eq_fast]; kernel_rfl) (by decide +kernel) (by decide +kernel) (by decide +kernel) (.inl (by decide +kernel)) (by rw [isSubtype_type]; kernel_rfl)
theorem k8 : entryFor table "set_iterator.__iter__" = some Builtin.«dict_keyiterator.__iter__» := entryFor_alias (id' := "dict_keyiterator.__iter__") (by kernel_rfl) rfl (by decide +kernel) (by kernel_rfl)
theorem nj (a : Value) : argsOk "set_iterator.__iter__" ⟨[a], []⟩ := by unfold argsOk; kernel_rfl
theorem j3 : entryFor table "set.__iter__" = some Builtin.«frozenset.__iter__» := entryFor_alias (id' := "frozenset.__iter__") (by kernel_rfl) rfl (by decide +kernel) (by kernel_rfl)
theorem gB {α : Type} {l : List α} {i : Nat} {x : α} (h : l[i]? = some x) : l.Perm (x :: l.eraseIdx i) := by
 induction l generalizing i with
 | nil => simp at h
 | cons y r ih =>
  cases i with
  | zero => simp at h; subst h; simp
  | succ i =>
   simp at h
   exact ((ih h).cons y).trans (.swap _ _ _)
theorem xq {α : Type} (next : Nat -> Nat) (f k : Nat) (left : List α) (out : Array α) (h : left.length = f) : (pickOrder.go next f k left out).toList.Perm (out.toList ++ left) := by
 induction f generalizing k left out with
 | zero =>
  have : left = [] := Dt.mp h
  subst this
  unfold pickOrder.go
  simp
 | succ f ih =>
  unfold pickOrder.go
  have hp : 0 < left.length := by omega
  have hl := Fp (next k) hp
  rw [CP hl]
  dsimp only
  refine (ih (k + 1) _ _ (by rw [Er hl]; omega)).trans ?_
  rw [Fn, EX]
  exact (gB (CP hl)).symm.append_left _
theorem iS {α : Type} (next : Nat -> Nat) (xs : Array α) : (pickOrder next xs).toList.Perm xs.toList := by
 have := xq next xs.size 0 xs.toList #[] (by simp)
 unfold pickOrder
 simpa using this
section
variable {M : Model} {A : Around} {E : Value -> Shared -> Prop} {s : Shared}
theorem qi {src : Source} {n : Nat} {Q : Nat -> Shared -> Prop} (hn : n ≠ 0) (h : ∀ i d, i < n -> Q i { s with drawn := d }) : wpAny M A (choose src n) Q E s := fun Γ p _ => by
 show Sem.wp M Γ (.choose src n .pure) _ _ p s
 rw [Sem.wp_choose]
 exact ⟨hn, h _ _ (Fp _ (Nat.pos_of_ne_zero hn))⟩
theorem qj {α : Type} : ∀ (n : Nat) (xs : List α) (s : Shared) (Q : List α -> Shared -> Prop), xs.length = n -> (∀ ys d, ys.Perm xs -> Q ys { s with drawn := d }) -> wpAny M A (drawOrder n xs) Q E s := by
 intro n
 induction n with
 | zero =>
  intro xs s Q hl h
  have : xs = [] := Dt.mp hl
  subst this
  unfold drawOrder
  exact wpAny_pure (h [] s.drawn (.refl _))
 | succ n ih =>
  intro xs s Q hl h
  cases xs with
  | nil => cases hl
  | cons x r =>
   unfold drawOrder
   refine wpAny_bind (qi (by simp) fun i d hi => ?_)
   rw [CP hi]
   dsimp only
   refine wpAny_bind (ih _ _ _ (by rw [Er hi, hl]; rfl) fun ys d' hp => wpAny_pure ?_)
   exact h _ d' ((hp.cons _).trans (gB (CP hi)).symm)
end
abbrev jB (h : Heap) (I : Addr) (first : Value) (i : Nat) (S : Addr) (n ep : Nat) : Prop :=
 h.get? I = some { cls := .type "set_iterator", dict := none, data := .fields #[first, .int i 0, .ref S, .int n 0, .int ep 0], slots := #[] }
section
variable {P : Program} {w : World} {A : Around} {E : Value -> Shared -> Prop} {s : Shared} {I S : Addr} {ks : List Int} {o : Obj} {es : Array (Int × Value)} {ep i : Nat} {t : SetTable} {first : Value}
theorem rH {Q : Value -> Shared -> Prop} {n : Nat} (hit : jB s.heap I first i S n ep) (h : Q (.ref I) s) : wpAny (model P w) A (pyIter (.ref I)) Q E s := by
 have hT : s.TypeIs (.ref I) "set_iterator" := ⟨_, hit, rfl⟩
 refine wpAny_pyIter_slot hT ik (wpAny_call_entry ik hT k8 ?_ (nj _))
 show wpAny _ _ (ret (.ref I)) _ _ s
 exact wpAny_pure ⟨_, rfl, "set_iterator", _, hT, bF.lookup, h⟩
theorem l7 {A' : Around} {R : Fin -> Shared -> Prop} {Q : Option Value -> Shared -> Prop} (hh : A'.handled = none) (h : ∀ h', (∀ b o, s.heap.get? b = some o -> h'.get? b = some o) -> Q none { s with heap := h' }) :
  wpAny (model P w) A' (do let e <- newExc (.type "StopIteration") []; raiseNew e) R (fun e s' => wpAny (model P w) A (do let b <- isInstance e (.type "StopIteration"); if b = true then pure none else throw e) Q E s') s := by
 refine wpAny_bind ?_
 simp only [newExc, newTuple]
 refine wpAny_bind (wpAny_newObj_type ?_ (by size_fits))
 refine wpAny_bind (m := firstArgMember _ _) (wpAny_of_eq (a := Value.none) (by first | rfl | (simp only [firstArgMember]; rfl)) ?_)
 refine wpAny_newObj_type ?_ (by size_fits)
 simp only [raiseNew]
 refine wpAny_bind (wpAny_handled ?_)
 rw [hh]
 refine wpAny_bind (wpAny_pure (wpAny_throw ?_))
 refine wpAny_bind (wpAny_isInstance (T := "StopIteration") (b := true) ⟨_, Heap.get?_push_size _ rfl, rfl⟩ isSubtype_stop ?_)
 exact wpAny_pure (h _ fun b o e => Heap.get?_push_of_some _ (Heap.get?_push_of_some _ e))
theorem rJ {Q : Option Value -> Shared -> Prop} {slot : Nat} (hh : A.handled = none) (hit : jB s.heap I (.int slot 0) i S es.size ep) (ho : s.heap.get? S = some o) (hs : SetIn w o es ep t ks) (r : Option (Value × Nat))
  (hr : ∀ (A' : Around) (E' : Value -> Shared -> Prop) (R : Option (Value × Nat) -> Shared -> Prop), R r s -> wpAny (model P w) A' (setNext S slot i ep) R E' s)
  (h1 : ∀ x nx h', r = some (x, nx) -> jB h' I (.int nx 0) (i + 1) S es.size ep -> Heap.SameBut I s.heap h' -> Q (some x) { s with heap := h' })
  (h2 : ∀ h', r = none -> (∀ b o, b ≠ I -> s.heap.get? b = some o -> h'.get? b = some o) -> Q none { s with heap := h' }) : wpAny (model P w) A (pyNext (.ref I)) Q E s := by
 have hT : s.TypeIs (.ref I) "set_iterator" := ⟨_, hit, rfl⟩
 unfold pyNext
 refine wpAny_bind (wpAny_attempt (wpAny_callSpecial?_slot (name := Str.ofString "__next__") hT bF (wpAny_call_entry bF hT gn ?_ (ij _))))
 unfold Builtin.«set_iterator.__next__»
 refine wpAny_bind (wpAny_pure ?_)
 refine wpAny_bind (wpAny_fieldsOf hit rfl ?_)
 dsimp only
 refine wpAny_bind (wpAny_setEntries_of ho hs.da hs.ft ?_)
 rw [if_neg (by simp)]
 refine wpAny_bind (hr _ _ _ ?_)
 cases r with
 | none =>
  dsimp only
  refine wpAny_bind (wpAny_setField hit rfl (by simp) ?_)
  exact l7 (A := A) (show A.in1.handled = none from hh) fun h' k => h2 h' rfl fun b o hb e => k b o ((Heap.get?_update_other _ _ (Ne.symm hb)).trans e)
 | some q =>
  obtain ⟨x, nx⟩ := q
  dsimp only
  refine wpAny_bind (wpAny_setField_rec hit (by simp) fun ha ea sa => ?_)
  refine wpAny_bind (wpAny_setField_rec ea (by simp) fun hb eb sb => wpAny_pure ⟨x, rfl, wpAny_pure (h1 x nx hb rfl ?_ (sa.trans sb))⟩)
  have e : ((i + 1 : Nat) : Int) = (i : Int) + 1 := by omega
  unfold jB
  rw [e]
  simpa [rawInt] using eb
theorem gr {Q : Option Value -> Shared -> Prop} {T : Addr} {ps : List Nat} {m : Nat} (hh : A.handled = none) (hit : jB s.heap I (.ref T) i S es.size ep) (hT2 : s.heap.get? T = some { cls := .type "tuple", data := .seq (ps.map fun (p : Nat) => rawInt p).toArray m })
  (ho : s.heap.get? S = some o) (hs : SetIn w o es ep t ks) (hp : ∀ p ∈ ps, p < es.size)
  (h1 : ∀ p h', ps[i]? = some p -> jB h' I (.ref T) (i + 1) S es.size ep -> Heap.SameBut I s.heap h' -> Q (es[p]?.map (·.2)) { s with heap := h' })
  (h2 : ∀ h', ps[i]? = none -> (∀ b o, b ≠ I -> s.heap.get? b = some o -> h'.get? b = some o) -> Q none { s with heap := h' }) : wpAny (model P w) A (pyNext (.ref I)) Q E s := by
 have hT : s.TypeIs (.ref I) "set_iterator" := ⟨_, hit, rfl⟩
 unfold pyNext
 refine wpAny_bind (wpAny_attempt (wpAny_callSpecial?_slot (name := Str.ofString "__next__") hT bF (wpAny_call_entry bF hT gn ?_ (ij _))))
 unfold Builtin.«set_iterator.__next__»
 refine wpAny_bind (wpAny_pure ?_)
 refine wpAny_bind (wpAny_fieldsOf hit rfl ?_)
 dsimp only
 refine wpAny_bind (wpAny_setEntries_of ho hs.da hs.ft ?_)
 rw [if_neg (by simp)]
 refine wpAny_bind (wpAny_seqItems hT2 rfl ?_)
 dsimp only
 have eq : (ps.map fun (p : Nat) => rawInt p).toArray[(i : Int).toNat]? = (ps[i]?).map fun (p : Nat) => rawInt p := by
  rw [Du, List.getElem?_toArray, CU]
 rw [eq]
 cases hpi : ps[i]? with
 | none =>
  dsimp only [Option.map_none]
  refine wpAny_bind (wpAny_setField_rec hit (by simp) fun ha ea sa => ?_)
  refine wpAny_bind (wpAny_setField ea rfl (by simp) ?_)
  refine l7 (A := A) (show A.in1.handled = none from hh) fun h' k => h2 h' hpi fun b o hb e => k b o ?_
  exact (Heap.get?_update_other _ _ (Ne.symm hb)).trans ((sa.2 b hb).trans e)
 | some p =>
  have hlt : p < es.size := hp p (CW hpi)
  have key := h1 p
  rw [Dp hlt] at key
  dsimp only [ED, rawInt]
  unfold setNextDrawn
  refine wpAny_bind (wpAny_bind (wpAny_setState_of ho hs.da hs.ft ?_))
  dsimp only
  rw [if_neg (by simp), Du, Dp hlt]
  refine wpAny_pure ?_
  refine wpAny_bind (wpAny_setField_rec hit (by simp) fun ha ea sa => wpAny_pure ⟨_, rfl, wpAny_pure (key ha hpi ?_ sa)⟩)
  have e : ((i + 1 : Nat) : Int) = (i : Int) + 1 := by omega
  unfold jB
  rw [e]
  simpa [rawInt] using ea
end
section
variable {P : Program} {w : World} {A : Around} {E : Value -> Shared -> Prop} {s : Shared} {I S : Addr} {ks : List Int} {o : Obj} {es : Array (Int × Value)} {ep i : Nat} {t : SetTable}
def SetAt (w : World) (S : Addr) (es : Array (Int × Value)) (ep : Nat) (t : SetTable) (ks : List Int) (h : Heap) : Prop := ∃ o, h.get? S = some o /\ SetIn w o es ep t ks
theorem SetAt.at {h h' : Heap} (x : SetAt w S es ep t ks h) (k : ∀ o, h.get? S = some o -> h'.get? S = some o) : SetAt w S es ep t ks h' := let ⟨o, e, r⟩ := x; ⟨o, k o e, r⟩
abbrev Bg (vs : List Int) : Nat -> Value -> Prop := fun i v => ∃ t, v = .int (vs.getD i 0) t
theorem rK {l : List (Int × Value)} {vs : List Int} (h : Ents l vs) {i : Nat} {e : Int × Value} (hi : l[i]? = some e) : ∃ tk, e.2 = Value.int (vs.getD i 0) tk := by
 have hl : i < vs.length := by rw [<- h.len]; exact (CS.mp hi).1
 obtain ⟨a, ha, q⟩ := cg h (CP hl)
 rw [hi] at ha
 cases ha
 obtain ⟨tk, q⟩ := q
 exact ⟨tk, by rw [q]; simp [hl]⟩
theorem j4 (hh : A.handled = none) (hne : S ≠ I) (ord : List (Int × Value)) (vs : List Int) (f : Nat -> Nat) (hv : Ents ord vs) (hl : ord.length = es.size)
  (hr : ∀ (i : Nat) (s : Shared), i <= es.size -> SetAt w S es ep t ks s.heap -> ∀ (A' : Around) (E' : Value -> Shared -> Prop) (R : Option (Value × Nat) -> Shared -> Prop), R ((ord[i]?).map fun e => (e.2, f (i + 1))) s -> wpAny (model P w) A' (setNext S (f i) i ep) R E' s) :
  Walks P w A I [I, S] [I] es.size (Bg vs) (fun i h => jB h I (.int (f i) 0) i S es.size ep /\ SetAt w S es ep t ks h) where
 sub := fun b hb => by simp at hb; simp [hb]
 frame := fun i h h' st k => ⟨k I (by simp) _ st.1, st.2.at fun o e => k S (by simp) o e⟩
 item := fun i s Q E hi st hQ => by
  obtain ⟨o, ho, hs⟩ := id st.2
  obtain ⟨e, he⟩ : ∃ e, ord[i]? = some e := ⟨_, CP (by omega)⟩
  refine rJ hh st.1 ho hs _ (hr i s (by omega) st.2) (fun x nx h' e2 it' sb => ?_) fun h' e2 _ => by rw [he] at e2; cases e2
  rw [he] at e2
  have e3 := Option.some.inj e2
  have hx : e.2 = x := congrArg Prod.fst e3
  have hn : f (i + 1) = nx := congrArg Prod.snd e3
  subst hx hn
  exact hQ _ h' s.toks (rK hv he) ⟨it', st.2.at fun o e => (sb.2 S hne).trans e⟩ fun b o hb e => (sb.2 b (by simpa using hb)).trans e
 done := fun s Q E st hQ => by
  obtain ⟨o, ho, hs⟩ := id st.2
  have he : ord[es.size]? = none := Dz (by omega)
  refine rJ hh st.1 ho hs _ (hr _ s (C0 _) st.2) (fun x nx h' e2 it' sb => by rw [he] at e2; cases e2) fun h' _ k => ?_
  exact hQ h' s.toks fun b o hb e => k b o (by simpa using hb) e
 self := fun i s Q E st h => rH st.1 h
theorem zr {n : Nat} (h : n <= 5000) : n <= sizeLine := Di h (DS (jZ (n := 5000) (by omega)))
theorem zt (ps : List Nat) (hp : ∀ p ∈ ps, p < es.size) : ps.filterMap (es[·]?) = ps.map fun q => es.getD q (0, .none) := by
 induction ps with
 | nil => rfl
 | cons q r ih =>
  have hq := hp q (by simp)
  rw [Ee, Dp hq]
  dsimp only
  rw [ih (fun x hx => hp x (C8 _ hx)), Dm]
  simp [hq]
theorem oE {T : Addr} (hh : A.handled = none) (hne : S ≠ I) (hT : T ≠ I) (ps : List Nat) (vs : List Int) (hv : Ents (ps.filterMap (es[·]?)) vs) (hp : ∀ p ∈ ps, p < es.size) (hl : ps.length = es.size) :
  Walks P w A I [I, S, T] [I] es.size (Bg vs) (fun i h => jB h I (.ref T) i S es.size ep /\ SetAt w S es ep t ks h /\ h.get? T = some { cls := .type "tuple", data := .seq (ps.map fun (p : Nat) => rawInt p).toArray }) where
 sub := fun b hb => by simp at hb; simp [hb]
 frame := fun i h h' st k => ⟨k I (by simp) _ st.1, st.2.1.at fun o e => k S (by simp) o e, k T (by simp) _ st.2.2⟩
 item := fun i s Q E hi st hQ => by
  obtain ⟨o, ho, hs⟩ := id st.2.1
  refine gr hh st.1 st.2.2 ho hs hp (fun p h' e2 it' sb => ?_) fun h' e2 _ => ?_
  ·have hlt := hp p (CW e2)
   rw [Dp hlt]
   have e4 : (ps.filterMap (es[·]?))[i]? = some es[p] := by
    have := zt ps hp
    rw [this, CU, e2]
    simp [hlt]
   exact hQ _ h' s.toks (rK hv e4) ⟨it', st.2.1.at fun o e => (sb.2 S hne).trans e, (sb.2 T hT).trans st.2.2⟩ fun b o hb e => (sb.2 b (by simpa using hb)).trans e
  ·rw [CP (by omega)] at e2
   cases e2
 done := fun s Q E st hQ => by
  obtain ⟨o, ho, hs⟩ := id st.2.1
  refine gr hh st.1 st.2.2 ho hs hp (fun p h' e2 it' sb => ?_) fun h' _ k => ?_
  ·rw [Dz (by omega)] at e2
   cases e2
  ·exact hQ h' s.toks fun b o hb e => k b o (by simpa using hb) e
 self := fun i s Q E st h => rH st.1 h
theorem qk {l : List Nat} (h : l.length <= 1) : jA l := by
 match l, h with
 | [], _ => exact .nil
 | [x], _ => exact DN _ _
def iT (t : SetTable) : Nat -> Nat
 | 0 => 0
 | i + 1 => t.place.getD i 0 + 1
theorem u9 {t : SetTable} (r : jA t.place.toList) {i : Nat} (hi : i <= t.place.size) : SetTable.below t.place (iT t i) = i := by
 refine (lY r _).unique ⟨hi, fun k hk hlt => ?_, fun k hk hge => ?_⟩
 ·cases i with
  | zero => omega
  | succ i =>
   have hi' : i < t.place.size := by omega
   have e : t.place.getD i 0 = t.place[i] := by simp [hi']
   show t.place[k] < t.place.getD i 0 + 1
   rw [e]
   by_cases z : k = i
   ·subst z; omega
   ·have := ig r hk hi' (by omega)
    omega
 ·cases i with
  | zero => exact Dk _
  | succ i =>
   have hi' : i < t.place.size := by omega
   have e : t.place.getD i 0 = t.place[i] := by simp [hi']
   show t.place.getD i 0 + 1 <= t.place[k]
   rw [e]
   exact ig r hi' hk (by omega)
theorem fV (h : t.fits es.size = true) : t.place.size = es.size := by
 simp only [SetTable.fits, Dx, beq_iff_eq, decide_eq_true_eq] at h
 exact h.1
theorem iq {Q : Array (Int × Value) -> Shared -> Prop} (bt : bS w = true) (ho : s.heap.get? S = some o) (hs : SetIn w o es ep t ks) (h : Q (pickOrder (w.params.setOrder S ep) es) s) : wpAny (model P w) A (setWalk S) Q E s := by
 unfold setWalk setsByText
 refine wpAny_bind (wpAny_setState_of ho hs.da hs.ft ?_)
 dsimp only
 refine wpAny_bind (wpAny_bind (wpAny_askSetting (wpAny_pure ?_)))
 have bt' : (model P w).w.params.followText "set-order" = true := bt
 rw [bt', if_pos rfl]
 exact wpAny_bind (wpAny_askSetting (wpAny_pure h))
theorem tG {slot : Nat} {Q : Option (Value × Nat) -> Shared -> Prop} (bt : bS w = true) (ho : s.heap.get? S = some o) (hs : SetIn w o es ep t ks)
  (h : Q (((pickOrder (w.params.setOrder S ep) es).toList[i]?).map fun e => (e.2, slot)) s) : wpAny (model P w) A (setNext S slot i ep) Q E s := by
 unfold setNext
 refine wpAny_bind (wpAny_setState_of ho hs.da hs.ft ?_)
 dsimp only
 refine wpAny_bind ?_
 unfold setsByText
 refine wpAny_bind (wpAny_askSetting (wpAny_pure ?_))
 have bt' : (model P w).w.params.followText "set-order" = true := bt
 rw [bt', if_pos rfl, if_neg (by simp)]
 refine wpAny_bind (iq bt ho hs (wpAny_pure ?_))
 rw [<- DM]
 exact h
theorem ql {Q : Option (Value × Nat) -> Shared -> Prop} (bt : bS w = false) (ho : s.heap.get? S = some o) (hs : SetIn w o es ep t ks) (hd : (!t.plain && decide (es.size > 1)) = false) (hi : i <= es.size)
  (h : Q ((es.toList[i]?).map fun e => (e.2, iT t (i + 1))) s) : wpAny (model P w) A (setNext S (iT t i) i ep) Q E s := by
 have zs := fV hs.ft
 have r : jA t.place.toList := by
  by_cases hp : t.plain = true
  ·exact hs.tb.rise hp
  ·refine qk ?_
   have : t.plain = false := by simpa using hp
   rw [this] at hd
   simp at hd
   rw [C1, zs]; exact hd
 have ld : t.led = true := by rw [hs.tb.led, bt]; rfl
 unfold setNext
 refine wpAny_bind (wpAny_setState_of ho hs.da hs.ft ?_)
 dsimp only
 refine wpAny_bind ?_
 unfold setsByText
 refine wpAny_bind (wpAny_askSetting (wpAny_pure ?_))
 have bt' : (model P w).w.params.followText "set-order" = false := bt
 rw [bt', if_neg C4]
 show wpAny _ _ (if (!t.plain && decide (es.size > 1)) = true then _ else _) _ _ _
 rw [hd, if_neg C4]
 show wpAny _ _ ((if (!t.led && !es.isEmpty) = true then unsupported "set:maker-not-led" else pure ()) >>= fun _ => pure _) _ _ _
 rw [ld]
 refine wpAny_bind (wpAny_pure (wpAny_pure ?_))
 rw [u9 r (by omega)]
 by_cases hlt : i < es.size
 ·have hp : i < t.place.size := by omega
  rw [Dp hlt, Dp hp]
  rw [DM, Dp hlt] at h
  have e : iT t (i + 1) = t.place[i] + 1 := by
   show t.place.getD i 0 + 1 = _
   simp [hp]
  rw [e] at h
  exact h
 ·rw [Ey (by omega)]
  rw [DM, Ey (by omega)] at h
  exact h
theorem va {Q : Value -> Shared -> Prop} (hS : SetAt w S es ep t ks s.heap)
  (h : ∀ (I : Addr) (fp : List Addr) (vs : List Int) (St : Nat -> Heap -> Prop) (s' : Shared), vs.Perm ks -> (∀ A' : Around, A'.handled = none -> Walks P w A' I fp [I] es.size (Bg vs) St) -> St 0 s'.heap -> (∀ b ∈ fp, b < s'.heap.objs.size /\ (b = S \/ s.heap.objs.size <= b)) -> s.heap.objs.size <= I ->
   (∀ b o, s.heap.get? b = some o -> s'.heap.get? b = some o) -> s'.os = s.os -> s'.gens = s.gens -> Q (.ref I) s') : wpAny (model P w) A (pyIter (.ref S)) Q E s := by
 obtain ⟨o, ho, hs⟩ := id hS
 have hT : s.TypeIs (.ref S) "set" := ⟨o, ho, hs.ex.1⟩
 have hSl : S < s.heap.objs.size := Heap.lt_size ho
 refine wpAny_pyIter_slot hT F.slot_set_iter (wpAny_call_entry F.slot_set_iter hT j3 ?_ (F.args_set_iter_1 _))
 unfold Builtin.«frozenset.__iter__»
 refine wpAny_bind (wpAny_bind (wpAny_pure (wpAny_pure ?_)))
 unfold Builtin.Frozenset.sizeOf
 refine wpAny_bind (wpAny_bind (wpAny_setEntries_of ho hs.da hs.ft (wpAny_pure ?_)))
 refine wpAny_bind (wpAny_bind (wpAny_setState_of ho hs.da hs.ft ?_))
 dsimp only
 unfold setsByText
 refine wpAny_bind (wpAny_bind (wpAny_askSetting (wpAny_pure (wpAny_pure ?_))))
 show wpAny _ _ (if (!bS w && (!t.plain && decide (es.size > 1))) = true then (drawOrder es.size (CY es.size) >>= fun l => newTuple (l.map fun (i : Nat) => rawInt i) >>= fun first => _) else (pure (rawInt 0) >>= fun first => _)) _ _ _
 cases bt : bS w with
 | true =>
  simp only [Bool.not_true, Fx, DA, if_false]
  refine wpAny_bind (wpAny_pure ?_)
  refine wpAny_bind (wpAny_setEpoch_of ho hs.da hs.ft ?_)
  refine wpAny_bind (wpAny_newObj_type (wpAny_pure ⟨_, rfl, "set_iterator", _, ⟨_, Heap.get?_push_size _ rfl, rfl⟩, bF.lookup, ?_⟩))
  obtain ⟨vs, hv, hp⟩ := Ents.perm (iS (w.params.setOrder S ep) es) hs.en
  refine h s.heap.objs.size [s.heap.objs.size, S] vs (fun i h => jB h s.heap.objs.size (.int 0 0) i S es.size ep /\ SetAt w S es ep t ks h) _ hp (fun A' hA' => j4 (f := fun _ => 0) hA' (C6 hSl) _ vs hv ?_ (fun i s' hi st A2 E2 R hR => ?_))
   ⟨Heap.get?_push_size _ rfl, hS.at fun o e => Heap.get?_push_of_some _ e⟩ (fun b hb => ?_) (C0 _) (fun b o e => Heap.get?_push_of_some _ e) rfl rfl
  ·have := (iS (w.params.setOrder S ep) es).length_eq
   rw [this, C1]
  ·obtain ⟨o', ho', hs'⟩ := st
   exact tG bt ho' hs' hR
  ·rw [Heap.size_push]
   simp only [C5, DI, or_false] at hb
   rcases hb with e | e
   ·rw [e]; exact ⟨Ek _, .inr (C0 _)⟩
   ·rw [e]; exact ⟨DJ hSl, .inl rfl⟩
 | false =>
  simp only [Bool.not_false, Bool.true_and]
  cases hd : (!t.plain && decide (es.size > 1)) with
  | false =>
   simp only [DA, if_false]
   refine wpAny_bind (wpAny_pure ?_)
   refine wpAny_bind (wpAny_setEpoch_of ho hs.da hs.ft ?_)
   refine wpAny_bind (wpAny_newObj_type (wpAny_pure ⟨_, rfl, "set_iterator", _, ⟨_, Heap.get?_push_size _ rfl, rfl⟩, bF.lookup, ?_⟩))
   refine h s.heap.objs.size [s.heap.objs.size, S] ks (fun i h => jB h s.heap.objs.size (.int (iT t i) 0) i S es.size ep /\ SetAt w S es ep t ks h) _ (.refl _) (fun A' hA' => j4 (f := iT t) hA' (C6 hSl) es.toList ks hs.en (by simp) (fun i s' hi st A2 E2 R hR => ?_))
    ⟨Heap.get?_push_size _ rfl, hS.at fun o e => Heap.get?_push_of_some _ e⟩ (fun b hb => ?_) (C0 _) (fun b o e => Heap.get?_push_of_some _ e) rfl rfl
   ·obtain ⟨o', ho', hs'⟩ := st
    exact ql bt ho' hs' hd hi hR
   ·rw [Heap.size_push]
    simp only [C5, DI, or_false] at hb
    rcases hb with e | e
    ·rw [e]; exact ⟨Ek _, .inr (C0 _)⟩
    ·rw [e]; exact ⟨DJ hSl, .inl rfl⟩
  | true =>
   simp only [if_true]
   refine wpAny_bind (qj es.size (CY es.size) s _ (by simp) fun ps d hp => ?_)
   have hlen : ps.length = es.size := by rw [hp.length_eq, DH]
   have zb := hs.bound
   have eb : scanBound = 4096 := rfl
   refine wpAny_bind (wpAny_newTuple ?_ (by rw [CO, hlen]; exact zr (by omega)))
   refine wpAny_bind (wpAny_setEpoch_of (Heap.get?_push_of_some _ ho) hs.da hs.ft ?_)
   refine wpAny_bind (wpAny_newObj_type (wpAny_pure ⟨_, rfl, "set_iterator", _, ⟨_, Heap.get?_push_size _ rfl, rfl⟩, bF.lookup, ?_⟩))
   have hpl : ∀ p ∈ ps, p < es.size := fun p m => Ds.mp (hp.mem_iff.mp m)
   have pe : (ps.filterMap (es[·]?)).Perm es.toList := by
    have := hp.filterMap (es[·]?)
    rw [filterMap_getElem?_range] at this
    exact this
   obtain ⟨vs, hv, hq⟩ := Ents.perm pe hs.en
   have sz1 : ∀ ob : Obj, (s.heap.push ob).objs.size = s.heap.objs.size + 1 := fun ob => Heap.size_push _ _
   have key := h (s.heap.objs.size + 1) [s.heap.objs.size + 1, S, s.heap.objs.size] vs (fun i h => jB h (s.heap.objs.size + 1) (.ref s.heap.objs.size) i S es.size ep /\ SetAt w S es ep t ks h /\ h.get? s.heap.objs.size = some { cls := .type "tuple", data := .seq (ps.map fun (p : Nat) => rawInt p).toArray })
    { s with heap := (s.heap.push { cls := .type "tuple", data := .seq (ps.map fun (p : Nat) => rawInt p).toArray }).push { cls := .type "set_iterator", data := .fields #[.ref s.heap.objs.size, .int 0 0, .ref S, .int es.size 0, .int ep 0] }, drawn := d } hq (fun A' hA' => oE (t := t) (ep := ep) (ks := ks) (T := s.heap.objs.size) hA' (C6 (DJ hSl)) (C6 (Ek _)) ps vs hv hpl hlen)
    ⟨?it, hS.at fun o e => Heap.get?_push_of_some _ (Heap.get?_push_of_some _ e), Heap.get?_push_of_some _ (Heap.get?_push_size _ rfl)⟩ (fun b hb => ?fp) (E4 _) (fun b o e => Heap.get?_push_of_some _ (Heap.get?_push_of_some _ e)) rfl rfl
   case it =>
    have := Heap.get?_push_size (s.heap.push { cls := .type "tuple", data := .seq (ps.map fun (p : Nat) => rawInt p).toArray }) (o := { cls := .type "set_iterator", data := .fields #[.ref s.heap.objs.size, .int 0 0, .ref S, .int es.size 0, .int ep 0] }) rfl
    rw [sz1] at this
    exact this
   case fp =>
    show b < ((s.heap.push _).push _).objs.size /\ _
    rw [Heap.size_push, Heap.size_push]
    simp only [C5, DI, or_false] at hb
    rcases hb with e | e | e
    ·rw [e]; exact ⟨Ek _, .inr (E4 _)⟩
    ·rw [e]; exact ⟨DJ (DJ hSl), .inl rfl⟩
    ·rw [e]; exact ⟨DJ (Ek _), .inr (C0 _)⟩
   rw [<- sz1 { cls := .type "tuple", data := .seq (ps.map fun (p : Nat) => rawInt p).toArray }] at key
   exact key
end
section
variable {P : Program} {w : World} {A : Around} {E : Value -> Shared -> Prop} {s : Shared} {S : Addr} {ks ms : List Int} {o : Obj} {es : Array (Int × Value)} {ep i : Nat} {t : SetTable}
theorem vb {Q : Bool -> Shared -> Prop} (hT : s.TypeIs (.ref S) "set") (h : Q false s) : wpAny (model P w) A (Builtin.List.listLengthHint (.ref S)) Q E s := by
 unfold Builtin.List.listLengthHint
 refine wpAny_bind (wpAny_specialOf hT PySem.F.slot_set_len.lookup ?_)
 generalize hid : ("set.__len__" : String) = id0
 wp_delta
 rw [show splitId id0 = some ("set", "__len__") from by subst hid; decide +kernel]
 subst hid
 refine wpAny_bind (wpAny_isInstance (T := "set") (b := true) hT (by rw [isSubtype_type]; kernel_rfl) ?_)
 refine wpAny_ite_split (fun hab => absurd hab (by decide)) (fun _ => ?_)
 refine wpAny_ite_split (fun _ => ?_) (fun hab => absurd (by decide +kernel) hab)
 exact wpAny_bind (wpAny_typeOf hT (wpAny_pure h))
theorem qm {vs : List Int} {acc : Array Value} {n : Nat} (h : ItemsOf (Bg vs) acc n) (hn : vs.length = n) : IntsAre acc.toList vs := by
 have all : ∀ (l : List Value) (vs : List Int), l.length = vs.length -> (∀ (j : Nat) v, l[j]? = some v -> ∃ t, v = Value.int (vs.getD j 0) t) -> IntsAre l vs := by
  intro l
  induction l with
  | nil =>
   intro vs hl _
   have : vs = [] := Dt.mp (by simpa using hl.symm)
   subst this
   exact .nil
  | cons x r ih =>
   intro vs hl hv
   cases vs with
   | nil => simp at hl
   | cons v vs =>
    obtain ⟨t, e⟩ := hv 0 x rfl
    have e : x = Value.int v t := e
    subst e
    exact .cons v t (ih vs (by simpa using hl) fun j y hj => hv (j + 1) y (by simpa using hj))
 exact all acc.toList vs (by rw [C1, h.1, hn]) fun j v hj => h.2 j v (by rw [<- DM]; exact hj)
theorem oF {Q : List Value -> Shared -> Prop} (hh : A.handled = none) (hS : SetAt w S es ep t ks s.heap)
  (h : ∀ (vs : List Int) (l : List Value) (s' : Shared), vs.Perm ks -> IntsAre l vs -> (∀ b o, s.heap.get? b = some o -> s'.heap.get? b = some o) -> s'.os = s.os -> s'.gens = s.gens -> s.heap.objs.size <= s'.heap.objs.size -> Q l s') : wpAny (model P w) A (collect (.ref S)) Q E s := by
 obtain ⟨o, ho, hs⟩ := id hS
 have hSl : S < s.heap.objs.size := Heap.lt_size ho
 have hne : s.heap.objs.size ≠ S := EV hSl
 unfold collect
 refine wpAny_bind (wpAny_runValue (codeAny_builtin PySem.F.entry_proto_collect ?_))
 rw [Around.under_plainId PySem.F.plain_proto_collect _]
 show wpAny _ A.in1 (newList [] >>= fun l => again (.builtin "list.__iadd__" ⟨[l, .ref S], []⟩)) _ _ s
 refine wpAny_bind (wpAny_newObj_type ?_)
 refine wpAny_pure ⟨plainId_quiet PySem.F.plain_list_iadd _, codeAny_builtin PySem.F.entry_list_iadd ?_⟩
 rw [Around.under_plainId PySem.F.plain_list_iadd _]
 generalize hs1 : ({ s with heap := s.heap.push { cls := .type "list", data := .seq ([] : List Value).toArray } } : Shared) = s1
 have e1 : s1.heap = s.heap.push { cls := .type "list", data := .seq ([] : List Value).toArray } := by rw [<- hs1]
 have k1 : ∀ b o, s.heap.get? b = some o -> s1.heap.get? b = some o := fun b o e => by rw [e1]; exact Heap.get?_push_of_some _ e
 have hL1 : s1.heap.get? s.heap.objs.size = some { cls := .type "list", data := .seq ([] : List Value).toArray } := by rw [e1]; exact Heap.get?_push_size _ rfl
 have hS1 : SetAt w S es ep t ks s1.heap := hS.at (k1 S)
 have hT : ∀ s2 : Shared, (∀ b o, s1.heap.get? b = some o -> s2.heap.get? b = some o) -> s2.TypeIs (.ref S) "set" := fun s2 k => ⟨o, k _ _ (k1 _ _ ho), hs.ex.1⟩
 show wpAny _ A.in1 (Builtin.List.listExtendWith (.ref s.heap.objs.size) (.ref S) (.ref s.heap.objs.size)) _ _ _
 unfold Builtin.List.listExtendWith
 refine wpAny_bind (wpAny_typeOf (hT s1 fun _ _ e => e) ?_)
 have g1 : Builtin.List.listSameRef (.ref s.heap.objs.size) (.ref S) = false := by simp [Builtin.List.listSameRef, hne]
 have g2 : (Value.type "set" == Value.type "list") = false := by decide
 have g3 : (Value.type "set" == Value.type "tuple") = false := by decide
 simp only [g1, g2, g3, Bool.or_false, DA, if_false]
 refine wpAny_bind (va hS1 fun I fp vs St s2 hp W st hfp hI k2 os2 gs2 => ?_)
 refine wpAny_bind (wpAny_holding (vb (hT s2 k2) ?_))
 show wpAny _ A.in1 (rule "list.extend.makes-room" >>= fun _ => Builtin.List.listTouch (.ref s.heap.objs.size) >>= fun _ =>
  again (.builtin "list.extend.loop" ⟨[.ref s.heap.objs.size, .ref I, .ref s.heap.objs.size], []⟩)) _ _ _
 refine wpAny_bind (wpAny_rule (wpAny_bind ?_))
 have hL2 := k2 _ _ hL1
 have lt1 : s.heap.objs.size < s1.heap.objs.size := by rw [e1, Heap.size_push]; exact Ek _
 show wpAny _ A.in1 (updateSeq s.heap.objs.size (·.push .none) >>= fun _ => updateSeq s.heap.objs.size (·.pop)) _ _ _
 refine wpAny_bind (wpAny_updateSeq hL2 rfl ?_)
 have hL3 := Heap.get?_update_self (Obj.mapSeq (·.push Value.none)) hL2 rfl
 refine wpAny_updateSeq hL3 rfl ?_
 have hL4 := Heap.get?_update_self (Obj.mapSeq (·.pop)) hL3 rfl
 have W1 := W A.in1 (show A.handled = none from hh)
 have hSf : s.heap.objs.size ∉ fp := fun m => by
  rcases (hfp _ m).2 with z | z
  ·exact hne z
  ·exact absurd lt1 (Fz.mpr z)
 have zb := hs.bound
 have eb : scanBound = 4096 := rfl
 have oth : ∀ b o, b ≠ s.heap.objs.size -> s2.heap.get? b = some o -> ((s2.heap.update s.heap.objs.size (Obj.mapSeq (·.push Value.none))).update s.heap.objs.size (Obj.mapSeq (·.pop))).get? b = some o :=
  fun b o hb e => (Heap.get?_update_other _ _ (Ne.symm hb)).trans ((Heap.get?_update_other _ _ (Ne.symm hb)).trans e)
 refine wpAny_pure ⟨plainId_quiet PySem.F.plain_extend_loop _, codeAny_extend_loopS W1.toS (zr (by omega)) _ hSf _ es.size 0 _ _ _ rfl (Dk _) (W1.frame 0 _ _ st fun b hb o e => oth b o (fun z => hSf (z ▸ hb)) e) hL4 (ItemsOf.nil _) fun s3 acc c hm hL5 hacc => ?_⟩
 show wpAny _ A (load s.heap.objs.size >>= _) _ _ s3
 refine wpAny_bind (wpAny_load hL5 ?_)
 refine wpAny_pure (h vs acc.toList s3 hp (qm hacc (by rw [hp.length_eq, hs.size])) (fun b o e => ?_) ?_ ?_ (DS (Heap.lt_size hL5)))
 ·have hb : b ≠ s.heap.objs.size := C6 (Heap.lt_size e)
  have e2 := k2 _ _ (k1 _ _ e)
  refine hm.heap b o (fun m => ?_) (oth b o hb e2)
  rcases C5.mp m with z | z
  ·exact hb z
  ·have z : b = I := CZ.mp z
   exact absurd (Heap.lt_size (k1 _ _ e)) (by rw [z]; exact Fz.mpr hI)
 ·have e2 : s3.os = s2.os := hm.os
  rw [e2, os2, <- hs1]
 ·have e2 : s3.gens = s2.gens := hm.gens
  rw [e2, gs2, <- hs1]
end
section
variable {P : Program} {w : World} {A : Around} {E : Value -> Shared -> Prop} {s : Shared} {S : Addr} {ks ms : List Int} {o : Obj} {es : Array (Int × Value)} {ep i : Nat} {t : SetTable}
theorem k9 {Q : Value -> Shared -> Prop} (hh : A.handled = none) (hS : SetAt w S es ep t ks s.heap) (h64 : ks.length < 64)
  (h : ∀ (L : Addr) (out : Array Value) (ns : List Int) (e : Nat) (s' : Shared), IntsAre out.toList ns -> ns.Perm ks -> ns.Pairwise (· <= ·) -> s'.heap.get? L = some (seqObj "list" out e) -> s.heap.objs.size <= L -> (∀ b o, s.heap.get? b = some o -> s'.heap.get? b = some o) -> s'.os = s.os -> s'.gens = s.gens -> Q (.ref L) s') :
  wpAny (model P w) A (call (.builtin "sorted") [.ref S]) Q E s := by
 refine Calls.call_function_entry kind_sorted plain_sorted entry_sorted (args_sorted1 _) ?_
 unfold Builtin.«sorted»
 refine wpAny_bind (m := checkCount "sorted" 1 1 _) (wpAny_pure ?_)
 refine wpAny_bind (oF (show A.in1.handled = none from hh) hS fun vs l s1 hp hI k1 os1 gs1 le1 => ?_)
 have hl : l.length = vs.length := IntsAre.length hI
 have hv : vs.length = ks.length := hp.length_eq
 refine wpAny_bind (wpAny_newList ?_ (zr (by omega)))
 have hoL : (s1.heap.push (seqObj "list" l.toArray 0)).get? s1.heap.objs.size = some (seqObj "list" l.toArray 0) := Heap.get?_push_size _ rfl
 refine wpAny_bind (wpAny_holding (wpAny_call_entry slot_list_sort ⟨_, hoL, rfl⟩ entry_list_sort (list_sort_tree (ns := vs) hoL hI (by omega) fun out ns' a1 a2 a3 => ⟨_, rfl, ?_⟩) (args_list_sort _)))
 refine wpAny_pure ⟨_, rfl, ?_⟩
 obtain ⟨e, he⟩ := sortedHeap_at (out := out) hoL
 have kp : ∀ b o, s.heap.get? b = some o -> (sortedHeap (s1.heap.push (seqObj "list" l.toArray 0)) s1.heap.objs.size l out).get? b = some o := fun b o eb => by
  have e1 := k1 b o eb
  have lt := Heap.lt_size e1
  rw [sortedHeap_old (C6 lt) (by rw [Heap.size_push]; exact DJ lt)]
  exact Heap.get?_push_of_some _ e1
 exact h s1.heap.objs.size out ns' e { s1 with heap := sortedHeap (s1.heap.push (seqObj "list" l.toArray 0)) s1.heap.objs.size l out } a1 (a2.trans hp) a3 he le1 kp os1 gs1
theorem qo {Q : Value -> Shared -> Prop} (hS : SetAt w S es ep t ks s.heap) (h : ∀ tk n, Q (.int ks.length tk) { s with toks := n }) : wpAny (model P w) A (call (.builtin "len") [.ref S]) Q E s := by
 obtain ⟨o, ho, hs⟩ := hS
 have zb := hs.bound
 have eb : scanBound = 4096 := rfl
 have e := hs.size
 refine call_len_set ho hs.ex hs.da hs.ft (by omega) ?_
 rw [e]
 exact h _ _
def b7 (acc : List Int) (x : Int) : List Int := if x ∈ acc then acc else acc ++ [x]
def dd (ns : List Int) : List Int := ns.foldl b7 []
theorem ir (ns : List Int) (x : Int) : dd (ns ++ [x]) = b7 (dd ns) x := by unfold dd; rw [List.foldl_append]; rfl
theorem l8 {acc : List Int} {x y : Int} : y ∈ b7 acc x <-> y ∈ acc \/ y = x := by
 unfold b7
 split
 ·rename_i h
  exact ⟨.inl, fun z => z.elim id fun e => e ▸ h⟩
 ·simp
theorem oG : ∀ (ns acc : List Int) (y : Int), y ∈ ns.foldl b7 acc <-> y ∈ acc \/ y ∈ ns
 | [], acc, y => by simp
 | x :: r, acc, y => by
  rw [EB, oG r, l8, C5, or_assoc]
theorem bJ {ns : List Int} {y : Int} : y ∈ dd ns <-> y ∈ ns := by unfold dd; rw [oG]; simp
theorem rL : ∀ (ns acc : List Int), acc.Nodup -> (ns.foldl b7 acc).Nodup
 | [], acc, h => h
 | x :: r, acc, h => by
  rw [EB]
  refine rL r _ ?_
  unfold b7
  split
  ·exact h
  ·rename_i hx; exact g9 h hx
theorem l9 (ns : List Int) : (dd ns).Nodup := rL ns [] EK
theorem cB (ns : List Int) : (dd ns).length <= ns.length := (l9 ns).length_le_of_subset fun _ h => bJ.mp h
theorem qp {x : Int} {tk : Tok} {Q : Bool -> Shared -> Prop} (hS : SX w S ms s.heap) (hl : ms.length + 1 < 4000)
  (h : ∀ b h', Heap.SameBut S s.heap h' -> SX w S (b7 ms x) h' -> Q b { s with heap := h' }) : wpAny (model P w) A (setAddHashed S (.int x tk) (hashInt x)) Q E s := by
 obtain ⟨o, es, ep, t, ks, ho, hs, hp⟩ := hS
 refine zq ho hs (by rw [hp.length_eq]; exact hl) (fun hx => ?_) fun hx h' sb sx => ?_
 ·have e : b7 ms x = ms := if_pos (hp.mem_iff.mp hx)
  have := h false s.heap (Heap.SameBut.refl _ _) (by rw [e]; exact ⟨o, es, ep, t, ks, ho, hs, hp⟩)
  exact this
 ·have e : b7 ms x = ms ++ [x] := if_neg fun z => hx (hp.mem_iff.mpr z)
  exact h true h' sb (by rw [e]; exact sx.perm (hp.append_right _))
theorem vc {I l : Addr} {items : Array Value} {ns : List Int} {R : Result -> Shared -> Prop} (hh : A.handled = none) (hne : l ≠ I) (hSI : S ≠ I) (hSl : S ≠ l) (hi : IntsAre items.toList ns) (hb : ns.length + 1 < 4000) :
  ∀ (k i : Nat) (s : Shared), items.size - i = k -> i <= items.size -> s.heap.IsListIter I l i -> s.heap.IsList l items -> SX w S (dd (ns.take i)) s.heap ->
   (∀ s', (∀ b o, b ≠ S -> b ≠ I -> s.heap.get? b = some o -> s'.heap.get? b = some o) -> s'.os = s.os -> s'.gens = s.gens -> s'.drawn = s.drawn -> SX w S (dd ns) s'.heap -> R (.ok (.ret .none)) s') ->
   codeAny (model P w) A (.builtin "set.update.loop" ⟨[.ref S, .ref I], []⟩) R s := by
 have hsz : items.size = ns.length := by rw [<- C1]; exact IntsAre.length hi
 intro k
 induction k with
 | zero =>
  intro i s hk hil it hl hS hR
  have e : i = items.size := by omega
  subst e
  refine codeAny_builtin PyProof.Rows.F.entry_set_update_loop ?_
  rw [Around.under_plainId PyProof.Rows.F.plain_set_update_loop _]
  show wpAny _ A.in1 (pyNext (.ref I) >>= _) _ _ s
  refine wpAny_bind (wpAny_pyNext_list_end (show A.in1.handled = none from hh) it hl (by simp) fun h' eb => ?_)
  show wpAny _ A.in1 (ret Value.none) _ _ _
  refine wpAny_pure (hR _ (fun b o _ hb e => eb b o hb e) rfl rfl rfl ?_)
  rw [DK (by omega)] at hS
  exact hS.at fun o e => eb S o hSI e
 | succ k ih =>
  intro i s hk hil it hl hS hR
  have hlt : i < items.size := by omega
  have hin : i < ns.length := by omega
  obtain ⟨tk, hv⟩ := IntsAre.int_at hi i items[i] (by simp [hlt])
  have egd : ns.getD i 0 = ns[i] := by simp [hin]
  rw [egd] at hv
  refine codeAny_builtin PyProof.Rows.F.entry_set_update_loop ?_
  rw [Around.under_plainId PyProof.Rows.F.plain_set_update_loop _]
  show wpAny _ A.in1 (pyNext (.ref I) >>= _) _ _ s
  refine wpAny_bind (wpAny_pyNext_list_item it hl (x := items[i]) (by simp [hlt]) fun h1 it1 sb1 => ?_)
  rw [hv]
  show wpAny _ A.in1 (holding [Value.int ns[i] tk] (setAdd S (.int ns[i] tk)) >>= _) _ _ _
  refine wpAny_bind (wpAny_holding ?_)
  unfold setAdd
  refine wpAny_holding (wpAny_bind ((intKind P w).pyHash (k := ns[i]) (intKind_is _ _ _ _) ?_))
  have hS1 : SX w S (dd (ns.take i)) h1 := hS.at fun o e => (sb1.2 S hSI).trans e
  have dl := cB (ns.take i)
  rw [DU] at dl
  refine qp (s := { s with heap := h1, toks := s.toks + 1 }) hS1 (by omega) fun b h2 sb2 sx => ?_
  have e2 : b7 (dd (ns.take i)) ns[i] = dd (ns.take (i + 1)) := by rw [List.take_succ_eq_append_getElem hin, ir]
  rw [e2] at sx
  have hl1 : h1.IsList l items := by obtain ⟨o, e, r⟩ := hl; exact ⟨o, (sb1.2 l hne).trans e, r⟩
  refine wpAny_pure ⟨plainId_quiet PyProof.Rows.F.plain_set_update_loop _, ih (i + 1) _ (by omega) hlt ?_ ?_ sx fun s' kp os' gs' ds' sx' => ?_⟩
  ·obtain ⟨o, e, r⟩ := it1
   exact ⟨o, (sb2.2 I hSI.symm).trans e, r⟩
  ·obtain ⟨o, e, r⟩ := hl1
   exact ⟨o, (sb2.2 l hSl.symm).trans e, r⟩
  ·exact hR s' (fun b o h1' h2' e => kp b o h1' h2' ((sb2.2 b h1').trans ((sb1.2 b h2').trans e))) os' gs' ds' sx'
end
end L2
set_option maxHeartbeats 3000000
namespace L2
open PySem PySem.Spec PyProof.Rows
section
variable {P : Program} {w : World} {A : Around} {E : Value -> Shared -> Prop} {s : Shared} {S : Addr} {ks ms : List Int}
def aH (w : World) : Obj := { cls := .type "set", dict := none, data := .set #[] 0 (.fresh 0 0 (!bS w)) }
theorem iU {h : Heap} {a : Addr} (e : h.get? a = some (aH w)) : SX w a [] h :=
 ⟨_, #[], 0, _, [], e, ⟨⟨rfl, rfl, rfl⟩, rfl, .nil, EK, by decide, rfl, ⟨rfl, fun _ => .nil⟩⟩, .refl _⟩
theorem xr (a : Value) {Q : Value -> Shared -> Prop} (h : Q (.ref s.heap.objs.size) { s with heap := s.heap.push (aH w) }) :
  codeAny (model P w) A (.call (.builtin "set.__new__") ⟨[.type "set", a], []⟩) (wants Q E) s := by
 refine codeAny_of_tree ?_
 show wpAny _ A.in1 (do checkBuiltinCall "set.__new__" ⟨[.type "set", a], []⟩; again (.builtin "set.__new__" ⟨[.type "set", a], []⟩)) _ _ s
 refine wpAny_bind (wpAny_of_eq (PySem.F.newCall_set_1 a) (wpAny_pure ⟨plainId_quiet PySem.F.plain_set_new _, codeAny_builtin PySem.F.entry_set_new ?_⟩))
 rw [Around.under_plainId PySem.F.plain_set_new _]
 unfold Builtin.«set.__new__» Builtin.Frozenset.newClass
 have hsub := sub_set_self
 obtain ⟨hp, g, d, tk, os⟩ := s
 dsimp only
 wp_walk
 refine wpAny_askSetting (wpAny_pure ?_)
 dsimp only
 simp only [newObj]
 exact wpAny_bind (wpAny_alloc (wpAny_pure (wpAny_pure h)))
theorem vd {l : Addr} {items : Array Value} {ns : List Int} {R : Result -> Shared -> Prop} (hh : A.handled = none) (ho : s.heap.get? S = some (aH w)) (hl : s.heap.IsList l items) (hne : S ≠ l) (hi : IntsAre items.toList ns) (hb : ns.length + 1 < 4000)
  (hR : ∀ s', (∀ b o, b ≠ S -> s.heap.get? b = some o -> s'.heap.get? b = some o) -> s'.os = s.os -> s'.gens = s.gens -> SX w S (dd ns) s'.heap -> R (.ok (.ret .none)) s') :
  wpAny (model P w) A.in1 (Builtin.«set.__init__» ⟨[.ref S, .ref l], []⟩)
   (fun fin s' => match fin with | .done f => R (.ok f) s' | .again c' => c'.quiet = true /\ codeAny (model P w) A c' R s') (fun e s' => R (.error e) s') s := by
 obtain ⟨ol, hol, hcl, nl, hdl⟩ := id hl
 have hT : s.TypeIs (.ref S) "set" := ⟨_, ho, rfl⟩
 have hTl : s.TypeIs (.ref l) "list" := ⟨_, hol, hcl⟩
 have q1 := PySem.F.sub_list_set
 have q2 := PySem.F.sub_list_frozenset
 unfold Builtin.«set.__init__» noKeywords
 generalize hPI : Builtin.Frozenset.updateFrom = UF
 obtain ⟨hp, g, d, tk, os⟩ := s
 unfold aH at ho
 wp_walk
 subst hPI
 unfold Builtin.Frozenset.updateFrom Builtin.Frozenset.isAnySet
 refine wpAny_bind ?_
 show wpAny _ _ (isInstance (.ref l) (.type "set") >>= fun b => _) _ _ _
 refine wpAny_bind (wpAny_isInstance hTl q1 ?_)
 show wpAny _ _ (isInstance (.ref l) (.type "frozenset")) _ _ _
 refine wpAny_isInstance hTl q2 ?_
 rw [if_neg C4]
 refine wpAny_bind (wpAny_typeOf hTl ?_)
 rw [if_neg (by decide)]
 refine wpAny_bind (wpAny_pyIter_list hl ?_)
 refine wpAny_bind (wpAny_runValue ?_)
 have hSh : S < hp.objs.size := Heap.lt_size ho
 have hlh : l < hp.objs.size := Heap.lt_size hol
 refine vc (show A.in1.handled = none from hh) (C6 hlh) (C6 hSh) hne hi hb (items.size - 0) 0 _ rfl (Dk _) ⟨_, Heap.get?_push_size _ rfl, rfl, rfl⟩ ?_ ?_ fun s' kp os' gs' ds' sx => ?_
 ·exact ⟨ol, Heap.get?_push_of_some _ hol, hcl, nl, hdl⟩
 ·rw [Ff]
  exact iU (Heap.get?_push_of_some _ ho)
 ·refine wpAny_pure (wpAny_pure (hR s' (fun b o hbS e => kp b o hbS (C6 (Heap.lt_size e)) (Heap.get?_push_of_some _ e)) os' gs' sx))
theorem oH {l : Addr} {items : Array Value} {ns : List Int} {Q : Value -> Shared -> Prop} (hh : A.handled = none) (hl : s.heap.IsList l items) (hi : IntsAre items.toList ns) (hb : ns.length + 1 < 4000)
  (h : ∀ s', SX w s.heap.objs.size (dd ns) s'.heap -> (∀ b o, s.heap.get? b = some o -> s'.heap.get? b = some o) -> s'.os = s.os -> s'.gens = s.gens -> Q (.ref s.heap.objs.size) s') : wpAny (model P w) A (call (.type "set") [.ref l]) Q E s := by
 obtain ⟨c, tl, hmro⟩ := PySem.F.called_set.mro
 have hmade := PySem.F.called_set.made
 have hsub := PySem.F.called_set.sub
 have n1 := PySem.F.called_set.notType
 have n2 := PySem.F.called_set.canCreate
 have hct := PySem.F.typeCall_set_1 (.ref l)
 refine wpAny_call (codeAny_of_tree ?_)
 show wpAny _ _ (callAny (.type "set") _) _ _ _
 refine wpAny_pure ⟨Code.quiet_builtin _ (by decide +kernel), codeAny_builtin PySem.F.entry_type_call ?_⟩
 rw [Around.under_plain (weight_type_call_type "set" [.ref l] []) rfl]
 repeat (any_goals (first | assumption | wp_step))
 refine codeAny_mono (xr (E := E) (Q := fun v s1 => v = .ref s.heap.objs.size /\ s1 = { s with heap := s.heap.push (aH w) }) (.ref l) ⟨rfl, rfl⟩) fun r s1 hr => ?_
 cases r with
 | error e => exact hr
 | ok fl =>
  cases fl with
  | ret v =>
   obtain ⟨e1, e2⟩ := hr
   subst e1 e2
   have hS : (s.heap.push (aH w)).get? s.heap.objs.size = some (aH w) := Heap.get?_push_size _ rfl
   have hT : Shared.TypeIs { s with heap := s.heap.push (aH w) } (.ref s.heap.objs.size) "set" := ⟨_, hS, rfl⟩
   have hlu := PySem.F.called_set.init.lookup
   have hbd := PySem.F.called_set.init.bind (.ref s.heap.objs.size)
   repeat (any_goals (first | assumption | wp_step))
   refine codeAny_mono (codeAny_call_builtin (R := wants (fun r s2 => r = .none /\ Q (.ref s.heap.objs.size) s2) E) PySem.F.called_set.init.plain PySem.F.entry_set_init (check_set_init_1 hT ?_)) fun r2 s2 hr2 => ?_
   ·obtain ⟨ol, hol, hcl⟩ := id hl
    refine vd (A := A.in1) (show A.in1.handled = none from hh) hS ⟨ol, Heap.get?_push_of_some _ hol, hcl⟩ (EV (Heap.lt_size hol)) hi hb fun s' kp os' gs' sx => ⟨rfl, h s' sx (fun b o e => kp b o (C6 (Heap.lt_size e)) (Heap.get?_push_of_some _ e)) os' gs'⟩
   ·cases r2 with
    | error e => exact hr2
    | ok fl2 =>
     cases fl2 with
     | ret v2 =>
      obtain ⟨e1, hq⟩ := hr2
      subst e1
      repeat (any_goals (first | assumption | wp_step))
     | _ => exact hr2.elim
  | _ => exact hr.elim
end
theorem SX.ok {P : Program} {w : World} {H : Hp} {h : Heap} {a : Addr} {ms : List Int} (x : SX w a ms h) : ObjOk P w H h a (.ext (SX w a ms)) :=
 ⟨x, by obtain ⟨o, _, _, _, _, e, _⟩ := x; exact ⟨o, e⟩, fun _ _ y k => y.at k⟩
section
variable {X : Cx}
theorem Inv.new' {pins : List (Addr × Obj)} {σ : L2.St} {H : Hp} {s s' : Shared} {a : Addr} {o : HO} (I : Inv X pins σ H s) (k : ∀ b u, s.heap.get? b = some u -> s'.heap.get? b = some u) (hp : s.heap.objs.size <= a) (hos : s'.os = s.os) (hgs : s'.gens = s.gens)
  (new : ObjOk X.prog X.w (aI H a o) s'.heap a o) : Inv X pins σ (aI H a o) s' :=
 I.call' (ch := []) hos (Un.laid k hp (I.hok.fresh hp)) (I.hok.laid k hp new) (by rw [hgs]; exact I.bare) fun b hb => by cases hb
theorem di {w : World} {a : Addr} {ms : List Int} {h : Heap} (x : SX w a ms h) : ∃ es ep t ks, SetAt w a es ep t ks h /\ ks.Perm ms := by
 obtain ⟨o, es, ep, t, ks, e, r, p⟩ := x
 exact ⟨es, ep, t, ks, ⟨o, e, r⟩, p⟩
theorem j5 (w : World) (K : PySem.W.Frag) (hc : X.calm = true := by rfl) (hw : X.w = w := by rfl) (hK : X.K = K := by rfl) : cu X (.type "set") (fun xs H Q => ∃ p ns, xs = [.ref p] /\ SqL K H p (ns.map V.int) /\ ns.length < 3000 /\
  ∀ a, H a = none -> Q (.ref a) (aI H a (.ext (SX w a (dd ns))))) := by
 subst hw hK
 intro pins s σ H xs us Q I r h
 obtain ⟨p, ns, e, hq, hl, q⟩ := h
 subst e
 obtain ⟨u, e, rx⟩ := fv r
 subst e
 cases rx
 obtain ⟨its, rv, pl, hz⟩ := I.list hq
 refine oH (ns := ns) (I.ok.hd hc) pl.isList (by simpa using dg rv) (by omega) fun s' sx kp os' gs' => ?_
 exact ⟨.ref s.heap.objs.size, _, I.new' kp (C0 _) os' gs' sx.ok, rfl, q _ I.fresh⟩
theorem iu (w : World) (hc : X.calm = true := by rfl) (hw : X.w = w := by rfl) : cu X (.builtin "sorted") (fun xs H Q => ∃ p ms, xs = [.ref p] /\ H p = some (.ext (SX w p ms)) /\ ms.length < 64 /\
  ∀ l (ks : List Int), H l = none -> ks.Perm ms -> ks.Pairwise (· <= ·) -> Q (.ref l) (aI H l (.lst (ks.map V.int)))) := by
 subst hw
 intro pins s σ H xs us Q I r h
 obtain ⟨p, ms, e, hp, hl, q⟩ := h
 subst e
 obtain ⟨u, e, rx⟩ := fv r
 subst e
 cases rx
 obtain ⟨sx, _⟩ := (show ObjOk X.prog X.w H s.heap p (.ext (SX X.w p ms)) from I.hok p _ hp)
 obtain ⟨es, ep, t, ks, sa, pm⟩ := di sx
 refine k9 (I.ok.hd hc) sa (by rw [pm.length_eq]; exact hl) fun L out ns e s' hI hpm hs he le kp os' gs' => ?_
 refine ⟨.ref L, _, I.new' kp le os' gs' (show ObjOk X.prog X.w _ _ _ (.lst (ns.map V.int)) from ⟨?_, out.toList, e, iR hI, ?_⟩), rfl, q _ ns (I.hok.fresh le) (hpm.trans pm) hs⟩
 ·rw [CO, hpm.length_eq, pm.length_eq]; exact wF (by omega)
 ·simpa [seqObj] using he
theorem rM (w : World) (hw : X.w = w := by rfl) : cu X (.builtin "len") (fun xs H Q => ∃ p ms, xs = [.ref p] /\ H p = some (.ext (SX w p ms)) /\ Q (.int ms.length) H) := by
 subst hw
 intro pins s σ H xs us Q I r h
 obtain ⟨p, ms, e, hp, q⟩ := h
 subst e
 obtain ⟨u, e, rx⟩ := fv r
 subst e
 cases rx
 obtain ⟨sx, _⟩ := (show ObjOk X.prog X.w H s.heap p (.ext (SX X.w p ms)) from I.hok p _ hp)
 obtain ⟨es, ep, t, ks, sa, pm⟩ := di sx
 refine qo sa fun tk n => ⟨.int ms.length, H, I.tok n, ⟨tk, ?_⟩, q⟩
 rw [pm.length_eq]
end
end L2
namespace L2
end L2
namespace L2
open PySem PySem.Spec PyProof.Rows
def ve (lo st : Int) (n : Nat) : It := ⟨fun i _ => i < n, fun i H x H' => H' = H /\ x = .int (lo + i * st), fun i _ => n <= i⟩
theorem tH {P : Program} {w : World} {K : PySem.W.Frag} {tg : Expr} (it : Addr) (lo st : Int) (n : Nat) : Turn P w K tg (ve lo st n) [it] it (fun i h => IsRangeIter h it (lo + (i : Nat) * st) ((n : Int) - (i : Nat)) st) where
 mem := by simp
 obj := fun i h sta b hb => by
  have e : b = it := by simpa using hb
  subst e
  exact ⟨_, sta, fun v z => by
   have z' : Data.fields _ = Data.cell v := z
   cases z'⟩
 keep := fun i h h' sta k => k it (by simp) _ sta
 item := by
  intro X hP hw hK hc i pins s σ H E I hf sta hg
  subst hP hw hK
  obtain ⟨f0, f1, f2, f3, f4, f5⟩ := hf it (by simp)
  refine (Walks.range (prog := X.prog) (w := X.w) (I.ok.hd hc) it lo st n).item i s _ _ hg sta fun v h' tk hv sta' kk => ?_
  obtain ⟨t, rfl⟩ := hv
  have I1 : Inv X pins σ H { s with heap := h', toks := tk } := I.turned (fun b o hb e => kk b o (by simpa using hb) e) f0 f1 f3 f4 f5
  exact ⟨_, rfl, lL (s := { s with heap := h', toks := tk }) (n := "range_iterator") sta' rfl rfl (by decide) ⟨.int (lo + i * st), H, I1, ⟨t, rfl⟩, ⟨rfl, rfl⟩, sta', fun b hb => (hf b hb).1⟩⟩
 done := by
  intro X hP hw hK hc i pins s σ H E I hf sta hg
  subst hP hw hK
  obtain ⟨f0, f1, f2, f3, f4, f5⟩ := hf it (by simp)
  exact wpAny_pyNext_range_end (I.ok.hd hc) sta (by have : n <= i := hg; omega) fun h' eb => ⟨rfl, I.turned (t' := s.toks) (fun b o hb e => eb b o hb e) f0 f1 f3 f4 f5⟩
 self := fun _ _ _ _ _ sta h => wpAny_pyIter_rangeiter sta h
section
variable {X : Cx} {tg : Expr}
theorem vf {lo st : Int} {n : Nat} {g : TG} {tb : TS} {D : Ends} {σ : L2.St} {H : Hp} (Pv : Nat -> L2.St -> Hp -> Prop) (h0 : Pv 0 σ H)
  (hs : ∀ i σ H, i < n -> Pv i σ H -> g (.int (lo + i * st)) σ H fun σ2 H2 => tb { D with nx := Pv (i + 1), ct := Pv (i + 1), bk := D.nx } σ2 H2) (hd : ∀ σ H, Pv n σ H -> D.nx σ H) :
  ∃ W : Nat -> Nat -> L2.St -> Hp -> Prop, (∃ m, W 0 m σ H) /\ ∀ i m σ H, W i m σ H ->
   ((ve lo st n).stop i H /\ D.nx σ H) \/ ((ve lo st n).go i H /\ ∃ N : L2.St -> Hp -> Prop, (∀ σ' H', N σ' H' -> ∃ m', m' < m /\ W (i + 1) m' σ' H') /\ ∀ x H', (ve lo st n).yld i H x H' -> g x σ H' fun σ2 H2 => tb { D with nx := N, ct := N, bk := D.nx } σ2 H2) := by
 refine ⟨fun i m σ H => m = n - i /\ i <= n /\ Pv i σ H, ⟨n, by simp, Dk _, h0⟩, ?_⟩
 rintro i m σ H ⟨rfl, hi, p⟩
 by_cases hlt : i < n
 ·refine .inr ⟨hlt, Pv (i + 1), fun σ' H' p' => ⟨n - (i + 1), DR _ _ hlt, rfl, hlt, p'⟩, fun x H' y => ?_⟩
  obtain ⟨e, y⟩ := y
  subst e y
  exact hs i σ _ hlt p
 ·have e : i = n := En hi (DT hlt)
  subst e
  exact .inl ⟨C0 _, hd σ H p⟩
end
section
variable {X : Cx} {pos : Pos}
end
theorem bM {hs : List Int} {k : Nat} (h : k < hs.length) : hs.getD k 0 = hs[k] := by simp [h]
theorem fW {hs : List (List Int)} {k : Nat} (h : k < hs.length) : hs.getD k [] = hs[k] := by simp [h]
def uu (M : Nat) : Nat -> Nat -> Nat
 | 0, i => i
 | j + 1, i => uu M j ((i * 5 + 1) % M)
def zu (M : Nat) : Nat -> Nat -> List Nat
 | 0, _ => []
 | n + 1, i => i :: zu M n ((i * 5 + 1) % M)
theorem jJ (M : Nat) : ∀ (a b i : Nat), uu M (a + b) i = uu M b (uu M a i)
 | 0, b, i => by rw [Fs]; rfl
 | a + 1, b, i => by
  have e : a + 1 + b = (a + b) + 1 := by omega
  rw [e]
  show uu M (a + b) ((i * 5 + 1) % M) = uu M b (uu M a ((i * 5 + 1) % M))
  exact jJ M a b _
theorem xt (M : Nat) (n i t : Nat) (h : t ∈ zu M n i) : ∃ b, b < n /\ uu M b i = t := by
 induction n generalizing i with
 | zero => cases h
 | succ n ih =>
  rcases C5.mp h with e | e
  ·exact ⟨0, Nat.succ_pos _, e.symm⟩
  ·obtain ⟨b, hb, e⟩ := ih _ e
   exact ⟨b + 1, Nat.succ_lt_succ hb, e⟩
theorem rN (M : Nat) : ∀ (n i : Nat), (zu M n i).length = n
 | 0, _ => rfl
 | n + 1, i => by rw [zu, Dv, rN M n]
theorem vg {M : Nat} (hM : 0 < M) : ∀ (n i : Nat), i < M -> ∀ t ∈ zu M n i, t < M
 | 0, _, _, t, h => by cases h
 | n + 1, i, hi, t, h => by
  rcases C5.mp h with e | e
  ·omega
  ·exact vg hM n _ (Fp _ hM) t e
def yA (M : Nat) : Prop := ∀ i, i < M -> ∀ t, t < M -> ∃ j, j < M /\ uu M j i = t
theorem zv {M : Nat} (hM : 0 < M) (nd : (zu M M 0).Nodup) (h0 : uu M M 0 = 0) : yA M := by
 have all : ∀ t, t < M -> ∃ b, b < M /\ uu M b 0 = t := fun t ht => by
  refine xt M M 0 t (Decidable.byContradiction fun hn => ?_)
  have : (t :: zu M M 0).length <= (CY M).length := (Ea.mpr ⟨hn, nd⟩).length_le_of_subset fun x hx => by
   rw [Ds]
   rcases C5.mp hx with e | e
   ·omega
   ·exact vg hM M 0 hM x e
  rw [Dv, rN, DH] at this
  omega
 intro i hi t ht
 obtain ⟨a, ha, ea⟩ := all i hi
 obtain ⟨b, hb, eb⟩ := all t ht
 by_cases h : a <= b
 ·refine ⟨b - a, by omega, ?_⟩
  rw [<- ea, <- jJ, <- eb]
  congr 1; omega
 ·refine ⟨M + b - a, by omega, ?_⟩
  rw [<- ea, <- jJ]
  have e : a + (M + b - a) = M + b := by omega
  rw [e, jJ, h0, eb]
theorem iV {M : Nat} (h : M ∈ [8, 16, 32, 64, 128, 256]) : yA M := by
 simp only [C5, DI, or_false] at h
 rcases h with e | e | e | e | e | e <;> subst e
 all_goals exact zv (by decide) (by decide +kernel) (by decide +kernel)
theorem eG : ∀ n, n < 256 -> SetTable.sizeAbove n ∈ [8, 16, 32, 64, 128, 256] /\ n < SetTable.sizeAbove n := by decide +kernel
def lp (mask : Nat) : Nat -> Nat × Nat -> Nat × Nat
 | 0, x => x
 | n + 1, x => lp mask n (SetTable.leap mask x.1 x.2)
theorem vh (mask : Nat) : ∀ (a b : Nat) (x : Nat × Nat), lp mask (a + b) x = lp mask b (lp mask a x)
 | 0, b, x => by rw [Fs]; rfl
 | a + 1, b, x => by
  have e : a + 1 + b = (a + b) + 1 := by omega
  rw [e]
  exact vh mask a b _
theorem zw (mask : Nat) (n : Nat) (x : Nat × Nat) : (lp mask n x).2 = x.2 / 32 ^ n := by
 induction n generalizing x with
 | zero => simp [lp]
 | succ n ih =>
  rw [lp, ih]
  show x.2 / 32 / 32 ^ n = x.2 / 32 ^ (n + 1)
  rw [Nat.div_div_eq_div_mul, Nat.pow_succ, Nat.mul_comm]
theorem zx (mask : Nat) (n i p : Nat) (h : p < 32) : (lp mask n (i, p)).1 = uu (mask + 1) n i := by
 induction n generalizing i p with
 | zero => rfl
 | succ n ih =>
  have e : p / 32 = 0 := Nat.div_eq_of_lt h
  have e2 : SetTable.leap mask i p = ((i * 5 + 1) % (mask + 1), 0) := by unfold SetTable.leap; rw [e]
  rw [lp]
  show (lp mask n (SetTable.leap mask i p)).1 = _
  rw [e2, ih _ 0 (by decide)]
  rfl
theorem yB (mask : Nat) : ∀ (n : Nat) (x : Nat × Nat), x.1 < mask + 1 -> (lp mask n x).1 < mask + 1
 | 0, x, h => h
 | n + 1, x, h => by
  rw [lp]
  exact yB mask n _ (Fp _ (by omega))
theorem vi (mask : Nat) (ow : Array (Option Nat)) : ∀ (f n i p : Nat), n < f -> (ow.getD (lp mask n (i, p)).1 (some 0)).isNone = true -> ∃ j, SetTable.layClean.free mask ow f i p = some j := by
 intro f
 induction f with
 | zero => intro n i p h; cases h
 | succ f ih =>
  intro n i p h hn
  unfold SetTable.layClean.free
  cases hf : (CY (SetTable.runEnd mask i + 1 - i)).find? (fun k => (ow.getD (i + k) (some 0)).isNone) with
  | some k => exact ⟨i + k, rfl⟩
  | none =>
   dsimp only
   cases n with
   | zero =>
    exfalso
    rw [List.find?_eq_none] at hf
    have m : 0 ∈ CY (SetTable.runEnd mask i + 1 - i) := by
     rw [Ds]
     unfold SetTable.runEnd
     split <;> omega
    exact hf 0 m hn
   | succ n => exact ih n _ _ (Nat.lt_of_succ_lt_succ h) hn
theorem tI (mask : Nat) (ow : Array (Option Nat)) (f i p j : Nat) (h : SetTable.layClean.free mask ow f i p = some j) : (ow.getD j (some 0)).isNone = true := by
 induction f generalizing i p with
 | zero => unfold SetTable.layClean.free at h; cases h
 | succ f ih =>
  unfold SetTable.layClean.free at h
  cases hf : (CY (SetTable.runEnd mask i + 1 - i)).find? (fun k => (ow.getD (i + k) (some 0)).isNone) with
  | some k =>
   rw [hf] at h
   have e := Option.some.inj h
   rw [<- e]
   exact List.find?_some (p := fun k => (ow.getD (i + k) (some 0)).isNone) hf
  | none =>
   rw [hf] at h
   exact ih _ _ h
theorem xu (h : Int) : SetTable.bits h < 2 ^ 64 := by
 unfold SetTable.bits
 have h1 := Et h (show (2 ^ 64 : Int) ≠ 0 by decide)
 have h2 := Eo h (show (0 : Int) < 2 ^ 64 by decide)
 omega
theorem tJ {mask : Nat} (c : yA (mask + 1)) (ow : Array (Option Nat)) (h : Int) {t : Nat} (ht : t < mask + 1) (hn : (ow.getD t (some 0)).isNone = true) :
  ∃ j, SetTable.layClean.free mask ow (SetTable.turns mask) (SetTable.bits h % (mask + 1)) (SetTable.bits h) = some j := by
 have hi : (lp mask 12 (SetTable.bits h % (mask + 1), SetTable.bits h)).1 < mask + 1 := yB mask 12 _ (Fp _ (by omega))
 have hp : (lp mask 12 (SetTable.bits h % (mask + 1), SetTable.bits h)).2 < 32 := by
  rw [zw]
  have := xu h
  show SetTable.bits h / 32 ^ 12 < 32
  omega
 obtain ⟨j, hj, ej⟩ := c _ hi t ht
 refine vi mask ow _ (12 + j) _ _ (by unfold SetTable.turns; omega) ?_
 rw [vh]
 generalize lp mask 12 (SetTable.bits h % (mask + 1), SetTable.bits h) = x at hi hp ej
 obtain ⟨a, b⟩ := x
 rw [zx mask j a b hp]
 dsimp only at ej
 rw [ej]
 exact hn
structure Ownd (mask : Nat) (ow : Array (Option Nat)) (k : Nat) : Prop where
 sz : ow.size = mask + 1
 pm : (ow.toList.filterMap id).Perm (CY k)
theorem Ownd.gap {mask : Nat} {ow : Array (Option Nat)} {k : Nat} (o : Ownd mask ow k) (h : k < mask + 1) : ∃ t, t < mask + 1 /\ (ow.getD t (some 0)).isNone = true := by
 refine Decidable.byContradiction fun hn => ?_
 have all : ∀ a ∈ ow.toList, (id a).isSome = true := fun a ha => by
  obtain ⟨t, ht, e⟩ := Dd.mp ha
  rw [C1] at ht
  cases a with
  | some x => rfl
  | none =>
   refine absurd ⟨t, by rw [<- o.sz]; exact ht, ?_⟩ hn
   have : ow.getD t (some 0) = none := by
    rw [Eu] at e
    simp [Fq, ht, e]
   rw [this]; rfl
 have := List.filterMap_length_eq_length.mpr all
 rw [o.pm.length_eq, DH, C1, o.sz] at this
 omega
theorem Ownd.set {mask : Nat} {ow : Array (Option Nat)} {k j : Nat} (o : Ownd mask ow k) (h : (ow.getD j (some 0)).isNone = true) : Ownd mask (ow.setIfInBounds j (some k)) (k + 1) where
 sz := by rw [Array.size_setIfInBounds]; exact o.sz
 pm := by
  have hj : j < ow.size := by
   refine Decidable.byContradiction fun hn => ?_
   have : ow.getD j (some 0) = some 0 := by simp [Fq, hn]
   rw [this] at h; cases h
  have e : ow.toList[j]'(by rw [C1]; exact hj) = none := by
   have : ow.getD j (some 0) = ow[j] := by simp [Fq, hj]
   rw [this] at h
   rw [Eu]
   exact Option.isNone_iff_eq_none.mp h
  have hjl : j < ow.toList.length := by rw [C1]; exact hj
  rw [Array.toList_setIfInBounds, List.set_eq_take_append_cons_drop, if_pos hjl, List.filterMap_append, Ee]
  dsimp only [id]
  have e1 : ow.toList = ow.toList.take j ++ none :: ow.toList.drop (j + 1) := by
   conv => lhs; rw [<- E3 j ow.toList, Eh hjl, e]
  have p := o.pm
  rw [e1, List.filterMap_append, Ee] at p
  dsimp only [id] at p
  rw [EE]
  exact (List.perm_middle.trans (p.cons k)).trans (List.perm_append_singleton k _).symm
theorem vj {mask : Nat} (c : yA (mask + 1)) : ∀ (hs : List Int) (ow : Array (Option Nat)) (k : Nat), Ownd mask ow k -> k + hs.length <= mask + 1 ->
  ∃ ow', hs.foldl (fun (acc : Option (Array (Option Nat) × Nat)) h => do
   let (owner, k) <- acc
   let j <- SetTable.layClean.free mask owner (SetTable.turns mask) (SetTable.bits h % (mask + 1)) (SetTable.bits h)
   pure (owner.setIfInBounds j (some k), k + 1)) (some (ow, k)) = some (ow', k + hs.length) /\ Ownd mask ow' (k + hs.length) := by
 intro hs
 induction hs with
 | nil => intro ow k o _; exact ⟨ow, rfl, o⟩
 | cons h r ih =>
  intro ow k o hl
  rw [Dv] at hl
  obtain ⟨t, ht, hn⟩ := o.gap (by omega)
  obtain ⟨j, ej⟩ := tJ c ow h ht hn
  have o' := o.set (tI _ _ _ _ _ _ ej)
  obtain ⟨ow', e, o2⟩ := ih _ (k + 1) o' (by omega)
  have ek : k + (h :: r).length = k + 1 + r.length := by rw [Dv]; omega
  rw [ek]
  refine ⟨ow', ?_, o2⟩
  rw [EB]
  refine Eq.trans (congrArg (fun z => Fy _ z r) ?_) e
  show (SetTable.layClean.free mask ow (SetTable.turns mask) (SetTable.bits h % (mask + 1)) (SetTable.bits h)).bind (fun j => some (ow.setIfInBounds j (some k), k + 1)) = _
  rw [ej]; rfl
structure Laid (t : SetTable) (o : Array Nat) (mask n : Nat) (led plain : Bool) : Prop where
 pm : o.toList.Perm (CY n)
 ft : t.fits n = true
 ms : t.mask = mask
 dm : t.dummies = #[]
 ld : t.led = led
 pl : t.plain = plain
 rs : jA t.place.toList
theorem md {mask finger moves : Nat} {led plain : Bool} {hs : Array Int} (c : yA (mask + 1)) (hl : hs.size <= mask) : ∃ t o, SetTable.laid mask finger moves led plain hs = some (t, o) /\ Laid t o mask hs.size led plain := by
 have o0 : Ownd mask (Array.replicate (mask + 1) none) 0 := ⟨Array.size_replicate, by simp⟩
 obtain ⟨ow, e, o⟩ := vj c hs.toList _ 0 o0 (by rw [C1]; omega)
 rw [Fs, C1] at e o
 have el : SetTable.layClean mask hs = some ow := by
  unfold SetTable.layClean
  rw [<- Array.foldl_toList, e]; rfl
 have eq : SetTable.laid mask finger moves led plain hs = some ({ mask, place := (((CY (mask + 1)).filterMap fun j => (ow.getD j none).map (j, ·)).map (·.1)).toArray, dummies := #[], finger, led, moves, plain }, (((CY (mask + 1)).filterMap fun j => (ow.getD j none).map (j, ·)).map (·.2)).toArray) := by
  unfold SetTable.laid
  rw [el]; rfl
 have es : ((CY (mask + 1)).filterMap fun j => (ow.getD j none).map (j, ·)).map (·.2) = ow.toList.filterMap id := by
  have eo : ow.toList = (CY (mask + 1)).map fun j => ow.getD j none := by
   apply DV
   ·simp [o.sz]
   ·intro i h1 h2
    rw [C1] at h1
    simp [Fq, h1]
  conv => rhs; rw [eo]
  rw [List.filterMap_map, List.map_filterMap]
  congr 1
  funext j
  show Option.map (fun x => x.snd) (Option.map (fun x => (j, x)) (ow.getD j none)) = ow.getD j none
  cases ow.getD j none <;> rfl
 have pm : (((CY (mask + 1)).filterMap fun j => (ow.getD j none).map (j, ·)).map (·.2)).Perm (CY hs.size) := by rw [es]; exact o.pm
 have ln := pm.length_eq
 rw [CO, DH] at ln
 obtain ⟨r1, r2⟩ := l5 eq
 refine ⟨_, _, eq, ⟨pm, ?_, rfl, rfl, rfl, rfl, r2⟩⟩
 unfold SetTable.fits SetTable.fill
 simp only [C2, CO, ln, Array.size_empty, Nat.add_zero]
 simp [hl]
theorem xv {α β : Type} {f : α -> Option β} {g : α -> β} (l : List α) (h : ∀ a ∈ l, f a = some (g a)) : l.filterMap f = l.map g := by
 induction l with
 | nil => rfl
 | cons a r ih => rw [Ee, h a Dg, Dm, ih fun b hb => h b (C8 _ hb)]
theorem vk (es : Array (Int × Value)) : (CY es.size).filterMap (fun i => es[i]?) = es.toList := by
 rw [xv (g := fun i => es.getD i (0, .none)) _ fun i hi => by have := Ds.mp hi; simp [this]]
 apply DV
 ·simp
 ·intro i h1 h2
  rw [C1] at h2
  simp [h2]
theorem gC {es : Array (Int × Value)} {o : Array Nat} (pm : o.toList.Perm (CY es.size)) : (o.filterMap (es[·]?)).toList.Perm es.toList := by
 rw [Array.toList_filterMap]
 have := pm.filterMap (fun i => es[i]?)
 rw [vk] at this
 exact this
section
variable {P : Program} {w : World} {A : Around} {E : Value -> Shared -> Prop} {s : Shared} {S : Addr} {ks ms : List Int} {es : Array (Int × Value)} {ep : Nat} {t : SetTable}
theorem oI {g : Array (Int × Value) -> Option (SetTable × Array Nat) -> Sem (Array (Int × Value) × SetTable)} {es : Array (Int × Value)} {t : SetTable} {o : Array Nat} {Q : Array (Int × Value) × SetTable -> Shared -> Prop}
  (hg : g es (some (t, o)) = (do
   if ((o.filterMap (es[·]?)).size != es.size) = true then unsupported "internal:set-table-lost-an-element"
   pure (o.filterMap (es[·]?), t))) (pm : o.toList.Perm (CY es.size)) (h : Q (o.filterMap (es[·]?), t) s) : wpAny (model P w) A (g es (some (t, o))) Q E s := by
 have pp := (gC pm).length_eq
 rw [C1, C1] at pp
 rw [hg, if_neg (by rw [pp]; simp)]
 exact wpAny_pure h
theorem vm {n : Nat} (h : n < 5000) : n <= sizeLine := DS (jZ (by omega))
theorem SetAt.store {es' : Array (Int × Value)} {t' : SetTable} {ks' : List Int} {Q : Unit -> Shared -> Prop} (hS : SetAt w S es ep t ks s.heap) (en : Ents es'.toList ks') (nd : ks'.Nodup) (sz : ks'.length < 4000) (ft : t'.fits es'.size = true) (tb : TabK (!bS w) t')
  (h : ∀ h', Heap.SameBut S s.heap h' -> SetAt w S es' (ep + 1) t' ks' h' -> Q () { s with heap := h' }) : wpAny (model P w) A (storeSet S es' t') Q E s := by
 obtain ⟨o, ho, hs⟩ := hS
 have z : es'.size = ks'.length := by rw [<- en.len, C1]
 refine wpAny_storeSet_of ho hs.da (h _ (Heap.SameBut.update ..) ?_) (by rw [z]; exact vm (by omega))
 obtain ⟨o', ho', hs'⟩ := qh (s := s) ho hs en nd sz ft tb
 exact ⟨o', ho', hs'⟩
theorem SetAt.state {Q : Array (Int × Value) × Nat × SetTable -> Shared -> Prop} (hS : SetAt w S es ep t ks s.heap) (h : Q (es, ep, t) s) : wpAny (model P w) A (setState S) Q E s := by
 obtain ⟨o, ho, hs⟩ := hS
 exact wpAny_setState_of ho hs.da hs.ft h
theorem SetAt.epoch {Q : Nat -> Shared -> Prop} (hS : SetAt w S es ep t ks s.heap) (h : Q ep s) : wpAny (model P w) A (setEpoch S) Q E s := by
 unfold setEpoch
 exact wpAny_bind (hS.state (wpAny_pure h))
theorem SetAt.entries {Q : Array (Int × Value) -> Shared -> Prop} (hS : SetAt w S es ep t ks s.heap) (h : Q es s) : wpAny (model P w) A (setEntries S) Q E s := by
 unfold setEntries
 exact wpAny_bind (hS.state (wpAny_pure h))
theorem SetAt.en (hS : SetAt w S es ep t ks s.heap) : Ents es.toList ks := let ⟨_, _, hs⟩ := hS; hs.en
theorem SetAt.nd (hS : SetAt w S es ep t ks s.heap) : ks.Nodup := let ⟨_, _, hs⟩ := hS; hs.nd
theorem SetAt.ft (hS : SetAt w S es ep t ks s.heap) : t.fits es.size = true := let ⟨_, _, hs⟩ := hS; hs.ft
theorem SetAt.tb (hS : SetAt w S es ep t ks s.heap) : TabK (!bS w) t := let ⟨_, _, hs⟩ := hS; hs.tb
theorem SetAt.sz (hS : SetAt w S es ep t ks s.heap) : es.size = ks.length := let ⟨_, _, hs⟩ := hS; hs.size
theorem SetAt.lt4 (hS : SetAt w S es ep t ks s.heap) : ks.length < 4000 := let ⟨_, _, hs⟩ := hS; hs.sz
theorem SetAt.sx (hS : SetAt w S es ep t ks s.heap) (p : ks.Perm ms) : SX w S ms s.heap := let ⟨o, e, r⟩ := hS; ⟨o, es, ep, t, ks, e, r, p⟩
theorem SetAt.relay {wanted : Nat} {Q : Unit -> Shared -> Prop} (hS : SetAt w S es ep t ks s.heap) (hw : wanted < 256) (hz : es.size < SetTable.sizeAbove wanted)
  (h : ∀ h' es' t' ks', Heap.SameBut S s.heap h' -> SetAt w S es' (ep + 1) t' ks' h' -> ks'.Perm ks -> t'.mask + 1 = SetTable.sizeAbove wanted -> t'.dummies = #[] -> Q () { s with heap := h' }) : wpAny (model P w) A (setRelay S wanted) Q E s := by
 obtain ⟨m1, m2⟩ := eG wanted hw
 have c := iV m1
 have big : SetTable.sizeAbove wanted <= 256 /\ 8 <= SetTable.sizeAbove wanted := by
  exact (show ∀ x ∈ [8, 16, 32, 64, 128, 256], x <= 256 /\ 8 <= x by decide) _ m1
 unfold setRelay
 refine wpAny_bind (hS.state ?_)
 dsimp only
 rw [if_neg (by have := vm (n := SetTable.sizeAbove wanted) (by omega); omega)]
 have eM : SetTable.sizeAbove wanted - 1 + 1 = SetTable.sizeAbove wanted := by omega
 have c' : yA (SetTable.sizeAbove wanted - 1 + 1) := by rw [eM]; exact c
 have hsz : (es.map (·.1)).size = es.size := DG ..
 obtain ⟨t', o, e, L⟩ := md (mask := SetTable.sizeAbove wanted - 1) (finger := t.finger) (moves := t.movedTo (SetTable.sizeAbove wanted - 1)) (led := t.led) (plain := t.plain) (hs := es.map (·.1)) c' (by rw [hsz]; omega)
 have e2 : t.relaid (es.map (·.1)) wanted = some (t', o) := e
 rw [e2]
 have pm := L.pm
 rw [hsz] at pm
 refine wpAny_bind (oI (by rfl) pm ?_)
 dsimp only
 have pp := gC pm
 obtain ⟨ks', n', q'⟩ := Ents.perm pp hS.en
 have z : (o.filterMap (es[·]?)).size = es.size := by have := pp.length_eq; rw [C1, C1] at this; exact this
 refine hS.store n' (q'.nodup_iff.mpr hS.nd) (by rw [q'.length_eq]; exact hS.lt4) (by rw [z, <- hsz]; exact L.ft) ⟨by rw [L.ld]; exact hS.tb.led, fun _ => L.rs⟩ fun h' sb st => ?_
 exact h h' _ t' ks' sb st q' (by rw [L.ms]; omega) L.dm
theorem SetAt.find {x : Int} {tk : Tok} {Q : Option Nat -> Shared -> Prop} (hS : SetAt w S es ep t ks s.heap) (h1 : ∀ i, ks[i]? = some x -> Q (some i) s) (h2 : x ∉ ks -> Q none s) : wpAny (model P w) A (setFind S (.int x tk) (hashInt x)) Q E s := by
 obtain ⟨o, ho, hs⟩ := hS
 have hel := hs.en.elems (P := P) (w := w)
 have hky : (intKind P w).is x (.int x tk) = true := intKind_is P w x tk
 unfold setFind setFindIn
 refine wpAny_bind (wpAny_setState_of ho hs.da hs.ft ?_)
 dsimp only
 rw [byScan_of (knd := intKind P w) rfl hs.bound hel, if_pos rfl]
 refine wpAny_bind (wpAny_rule ?_)
 refine wpAny_bind (wpAny_setScan_of (knd := intKind P w) (k := x) hky ho hs.da hs.ft hel ?_)
 have fd := hs.en.find (P := P) (w := w) (k := x)
 cases hr : List.findIdx? (fun e => (intKind P w).is x e.2) es.toList with
 | some j =>
  refine wpAny_pure ?_
  rw [Fs]
  refine h1 j ?_
  obtain ⟨hj, p1, _⟩ := Es.mp hr
  have hjk : j < ks.length := by rw [<- hs.en.len]; exact hj
  have gk := CP hjk
  obtain ⟨e', g, tk', q⟩ := cg hs.en gk
  rw [CP hj] at g
  have g := Option.some.inj g
  rw [g, q] at p1
  have : x = ks[j] := by
   have z : (intKind P w).is x (hashInt ks[j], Value.int ks[j] tk').2 = decide (x = ks[j]) := l6 x ks[j] tk'
   rw [z] at p1
   exact of_decide_eq_true p1
  rw [gk, this]
 | none =>
  rw [hr] at fd
  exact wpAny_pure (h2 (of_decide_eq_false fd.symm))
end
section
variable {P : Program} {w : World} {A : Around} {E : Value -> Shared -> Prop} {s : Shared} {S : Addr} {ks ms : List Int} {es : Array (Int × Value)} {ep : Nat} {t : SetTable}
theorem vn {Q : Bool -> Shared -> Prop} (sets : List Addr) (ho : ∀ a ∈ sets, ∃ ms, SX w a ms s.heap) (h : Q true s) : wpAny (model P w) A (setsQuiet sets) Q E s := by
 unfold setsQuiet
 refine wpAny_bind (wpAny_forIn_list _ (fun cN b s' => (∀ a ∈ cN, a ∈ sets) /\ b.1 = none /\ s' = s) _ ?_ ?_ sets _ ⟨fun _ h => h, rfl, rfl⟩)
 ·rintro a cN b s' ⟨hm, hb, rfl⟩
  obtain ⟨ms, sx⟩ := ho a (hm a Dg)
  obtain ⟨es, ep, t, ks, sa, pm⟩ := di sx
  refine wpAny_bind (sa.entries ?_)
  refine wpAny_bind (PySem.MeetsSeq2.wpAny_forIn_array _ (fun cN b s'' => (∀ a ∈ cN, a ∈ es.toList) /\ b.1 = none /\ s'' = s') _ ?_ ?_ es _ ⟨fun _ h => h, rfl, rfl⟩)
  ·rintro x cN b s' ⟨hm, hb, rfl⟩
   obtain ⟨k, tk, _, e⟩ := Ents.mem (es := es.toList) sa.en (hm x Dg)
   subst e
   refine wpAny_pure ⟨fun a h => hm a (C8 _ h), rfl, rfl⟩
  ·rintro ⟨b1, b2⟩ s'' ⟨_, hb', rfl⟩
   dsimp only at hb'
   subst hb'
   exact wpAny_pure ⟨fun a h => hm a (C8 _ h), rfl, rfl⟩
 ·rintro ⟨b1, b2⟩ s' ⟨_, hb, rfl⟩
  dsimp only at hb
  subst hb
  exact wpAny_pure h
theorem nq {Q : Bool -> Shared -> Prop} (h : Q (bS w) s) : wpAny (model P w) A setsByText Q E s := by
 unfold setsByText
 exact wpAny_bind (wpAny_askSetting (wpAny_pure h))
theorem SetAt.walk {others : List Addr} {f : Option Addr} {Q : Array (Int × Value) -> Shared -> Prop} (hS : SetAt w S es ep t ks s.heap) (ho : ∀ a ∈ others, ∃ ms, SX w a ms s.heap) (hf : ∀ a, f = some a -> a ≠ S /\ SX w a ms s.heap)
  (h : ∀ xs h', xs.toList.Perm es.toList -> (∀ b o, f ≠ some b -> s.heap.get? b = some o -> h'.get? b = some o) -> (∀ a, f = some a -> SX w a ms h') -> Q xs { s with heap := h' }) : wpAny (model P w) A (setWalkUnseen S others f) Q E s := by
 have hS' := hS
 obtain ⟨o, hoo, hs⟩ := hS
 unfold setWalkUnseen
 refine wpAny_bind (hS'.state ?_)
 dsimp only
 refine wpAny_bind (nq ?_)
 have done : ∀ xs : Array (Int × Value), xs.toList.Perm es.toList -> Q xs s := fun xs p => h xs s.heap p (fun _ _ _ e => e) fun a e => (hf a e).2
 by_cases hc : (bS w || t.led && t.plain || decide (es.size <= 1)) = true
 ·rw [if_pos hc]
  by_cases bt : bS w = true
  ·exact iq bt hoo hs (done _ (iS _ _))
  ·unfold setWalk
   have bt0 : bS w = false := by simpa using bt
   have ld : t.led = true := by rw [hs.tb.led, bt0]; rfl
   refine wpAny_bind (hS'.state ?_)
   dsimp only
   refine wpAny_bind (nq ?_)
   rw [bt0, if_neg C4]
   rw [bt0, ld] at hc
   show wpAny _ _ (if (!t.plain && decide (es.size > 1)) = true then _ else _) _ _ _
   rw [if_neg (by cases hp : t.plain with | true => simp | false => (rw [hp] at hc; simp at hc ⊢; omega))]
   refine wpAny_bind ?_
   show wpAny _ _ (if (!t.led && decide (es.size > 1)) = true then unsupported "set:maker-not-led" else pure ()) _ _ _
   rw [if_neg (by rw [ld]; simp)]
   exact wpAny_pure (wpAny_pure (done _ (.refl _)))
 ·rw [if_neg hc]
  refine wpAny_bind (vn _ (fun a ha => ?_) ?_)
  ·rcases C5.mp ha with e | e
   ·subst e; exact ⟨ks, hS'.sx (.refl _)⟩
   ·exact ho a e
  rw [if_neg (by simp)]
  refine wpAny_bind (wpAny_rule ?_)
  cases f with
  | none => exact wpAny_pure (done _ (.refl _))
  | some a =>
   obtain ⟨hne, sx⟩ := hf a rfl
   obtain ⟨ef, epf, tf, kf, sf, pf⟩ := di sx
   refine wpAny_bind (sf.state ?_)
   dsimp only
   by_cases hm : (tf.led && !t.led || tf.plain && !t.plain) = true
   ·rw [if_pos hm]
    refine wpAny_bind (sf.store (t' := { tf with led := tf.led && t.led, plain := tf.plain && t.plain }) sf.en sf.nd sf.lt4 sf.ft ⟨by show (tf.led && t.led) = _; rw [sf.tb.led, hs.tb.led]; simp, fun z => sf.tb.rise (by have z : (tf.plain && t.plain) = true := z; simp at z; exact z.1)⟩ fun h' sb st => ?_)
    exact wpAny_pure (h es h' (.refl _) (fun b o n e => (sb.2 b fun z => n (by rw [z])).trans e) fun a' e => by cases e; exact st.sx (s := { s with heap := h' }) pf)
   ·rw [if_neg hm]
    exact wpAny_pure (done _ (.refl _))
end
section
variable {P : Program} {w : World} {A : Around} {E : Value -> Shared -> Prop} {s : Shared} {S T : Addr} {ks ms ns : List Int} {es : Array (Int × Value)} {ep : Nat} {t : SetTable}
theorem SX.ty (h : SX w S ms s.heap) : s.TypeIs (.ref S) "set" := let ⟨o, _, _, _, _, e, r, _⟩ := h; ⟨o, e, r.ex.1⟩
theorem bV {Q : Bool -> Shared -> Prop} (hT : s.TypeIs (.ref S) "set") (h : Q true s) : wpAny (model P w) A (Builtin.Frozenset.isAnySet (.ref S)) Q E s := by
 unfold Builtin.Frozenset.isAnySet
 show wpAny _ _ (isInstance (.ref S) (.type "set") >>= fun b => _) _ _ _
 refine wpAny_bind (wpAny_isInstance hT sub_set_self ?_)
 exact wpAny_pure h
theorem iW {Q : Value -> Shared -> Prop} (hT : s.TypeIs (.ref S) "set") (h : Q (.type "set") s) : wpAny (model P w) A (Builtin.Frozenset.baseOf S) Q E s := by
 unfold Builtin.Frozenset.baseOf
 refine wpAny_bind (wpAny_isInstance hT sub_set_self ?_)
 exact wpAny_pure h
theorem iX {Q : Value -> Shared -> Prop} (h : Q (.ref s.heap.objs.size) { s with heap := s.heap.push (aH w) }) : wpAny (model P w) A (newSet (.type "set")) Q E s := by
 unfold newSet
 refine wpAny_bind (nq ?_)
 dsimp only
 simp only [newObj]
 exact wpAny_bind (wpAny_alloc (wpAny_pure h))
theorem c8 {Q : Nat -> Shared -> Prop} (hS : SetAt w S es ep t ks s.heap) (h : Q es.size s) : wpAny (model P w) A (Builtin.Frozenset.sizeOf S) Q E s := by
 unfold Builtin.Frozenset.sizeOf
 exact wpAny_bind (hS.entries (wpAny_pure h))
theorem jK {id : String} {Q : Unit -> Shared -> Prop} (hS : SetAt w S es ep t ks s.heap) (h : Q () s) : wpAny (model P w) A (Builtin.Frozenset.unchanged id S ep) Q E s := by
 unfold Builtin.Frozenset.unchanged
 refine wpAny_bind (hS.epoch ?_)
 rw [if_neg (by simp)]
 exact wpAny_pure h
theorem tK {r : Addr} {xs : Array (Int × Value)} {kx k0 : List Int} {f : (Int × Value) -> PUnit -> Sem (ForInStep PUnit)} {G : Heap -> Prop} {Q : PUnit -> Shared -> Prop} (keep : Int -> Bool) (en : Ents xs.toList kx) (nd : kx.Nodup) (dj : ∀ k ∈ kx, k ∉ k0) (hl : kx.length + k0.length + 1 < 4000)
  (hG : ∀ h h', G h -> Heap.SameBut r h h' -> G h')
  (hf : ∀ k tk (s' : Shared) (Q' : ForInStep PUnit -> Shared -> Prop) kr, k ∈ kx -> G s'.heap -> SX w r kr s'.heap -> kr.length + 1 < 4000 -> (keep k = true -> ∀ h', Heap.SameBut r s'.heap h' -> SX w r (b7 kr k) h' -> Q' (.yield ⟨⟩) { s' with heap := h' }) -> (keep k = false -> Q' (.yield ⟨⟩) s') -> wpAny (model P w) A (f (hashInt k, .int k tk) ⟨⟩) Q' E s')
  (g : G s.heap) (sx : SX w r k0 s.heap)
  (h : ∀ h', Heap.SameBut r s.heap h' -> SX w r (k0 ++ kx.filter keep) h' -> Q ⟨⟩ { s with heap := h' }) : wpAny (model P w) A (forIn xs ⟨⟩ f) Q E s := by
 refine PySem.MeetsSeq2.wpAny_forIn_array f (fun cN _ s' => ∃ kr h', Ents cN kr /\ kr <:+ kx /\ s' = { s with heap := h' } /\ Heap.SameBut r s.heap h' /\ SX w r (k0 ++ (kx.take (kx.length - kr.length)).filter keep) h' /\ G h') _ ?_ ?_ xs ⟨⟩ ⟨kx, s.heap, en, List.suffix_refl _, rfl, Heap.SameBut.refl _ _, by rw [Fe, Ff]; simpa using sx, g⟩
 ·rintro x cN b s' ⟨kr, h1, er, sf, rfl, sb, sx1, g1⟩
  cases er with
  | @cons _ k _ kr' q er' =>
   obtain ⟨tk, rfl⟩ := q
   obtain ⟨pre, ep⟩ := sf
   have hk : k ∈ kx := by rw [<- ep]; simp
   have e1 : kx.length - (k :: kr').length = pre.length := by rw [<- ep]; simp
   have e2 : kx.length - kr'.length = pre.length + 1 := by rw [<- ep]; simp; omega
   have t1 : kx.take pre.length = pre := by rw [<- ep]; simp
   have t2 : kx.take (pre.length + 1) = pre ++ [k] := by
    have : kx = (pre ++ [k]) ++ kr' := by rw [<- ep]; simp
    rw [this]
    have : pre.length + 1 = (pre ++ [k]).length := by simp
    rw [this, List.take_left]
   rw [e1, t1] at sx1
   have kn : k ∉ pre := by
    rw [<- ep, Fl] at nd
    exact fun m => nd.2.2 k m k (by simp) rfl
   have fl : (pre.filter keep).length <= kx.length := Di (DD ..) (by rw [<- ep]; simp)
   have sfx : kr' <:+ kx := ⟨pre ++ [k], by rw [<- ep]; simp⟩
   refine hf k tk _ _ _ hk g1 sx1 (by rw [C3]; omega) (fun hp h2 sb2 sx2 => ?_) fun hp => ?_
   ·refine ⟨kr', h2, er', sfx, rfl, sb.trans sb2, ?_, hG _ _ g1 sb2⟩
    have ed : b7 (k0 ++ pre.filter keep) k = k0 ++ (pre ++ [k]).filter keep := by
     have : k ∉ k0 ++ pre.filter keep := fun m => by
      rcases C7.mp m with m | m
      ·exact dj k hk m
      ·exact kn (Dw.mp m).1
     unfold b7
     rw [if_neg this, DQ, EX]
     simp [hp]
    rw [e2, t2, <- ed]
    exact sx2
   ·refine ⟨kr', h1, er', sfx, rfl, sb, ?_, g1⟩
    rw [e2, t2, DQ]
    simpa [hp] using sx1
 ·rintro b s' ⟨kr, h1, er, sf, rfl, sb, sx1, g1⟩
  cases er
  refine h h1 sb ?_
  rw [List.length_nil, Nat.sub_zero, Dy] at sx1
  exact sx1
end
section
variable {P : Program} {w : World} {A : Around} {E : Value -> Shared -> Prop} {s : Shared} {S T : Addr} {ks ms ns : List Int} {es : Array (Int × Value)} {ep : Nat} {t : SetTable}
theorem dX {a r : Addr} {h h' : Heap} (n : a ≠ r) (sb : Heap.SameBut r h h') : ∀ o, h.get? a = some o -> h'.get? a = some o := fun o e => (sb.2 a n).trans e
theorem oJ {id : String} {W0 K0 r : Addr} {ew : Array (Int × Value)} {epw : Nat} {tw : SetTable} {kw : List Int} {ka : List Int} {xs : Array (Int × Value)} {kx : List Int} {Q : PUnit -> Shared -> Prop}
  (hW : SetAt w W0 ew epw tw kw s.heap) (hK : SX w K0 ka s.heap) (n1 : W0 ≠ r) (n2 : K0 ≠ r) (en : Ents xs.toList kx) (nd : kx.Nodup) (hl : kx.length + 1 < 4000) (sx : SX w r [] s.heap) (c : Bool -> Bool)
  {f : (Int × Value) -> PUnit -> Sem (ForInStep PUnit)}
  (hf : ∀ x, f x ⟨⟩ = (do
   holding [x.2] do
    let q <- setFind K0 x.2 x.1
    if c q.isSome = true then
     let _ <- setAddHashed r x.2 x.1
   Builtin.Frozenset.unchanged id W0 epw
   pure (.yield ⟨⟩)))
  (h : ∀ h', Heap.SameBut r s.heap h' -> SX w r (kx.filter fun k => c (decide (k ∈ ka))) h' -> Q ⟨⟩ { s with heap := h' }) : wpAny (model P w) A (forIn xs ⟨⟩ f) Q E s := by
 refine tK (k0 := []) (G := fun h => SetAt w W0 ew epw tw kw h /\ SX w K0 ka h) (fun k => c (decide (k ∈ ka))) en nd (fun _ _ h => by cases h) (by simpa using hl) (fun h h' g sb => ⟨g.1.at (dX n1 sb), g.2.at (dX n2 sb)⟩) ?_ ⟨hW, hK⟩ sx (fun h' sb sx' => h h' sb (by simpa using sx'))
 intro k tk s' Q' kr hk ⟨gW, gK⟩ sxr hlen q1 q2
 rw [hf]
 dsimp only
 obtain ⟨ek, epk, tk', kk, sk, pk⟩ := di gK
 have fin : ∀ d : Bool, (decide (k ∈ ka) = d) -> wpAny (model P w) A (if c d = true then (do let _ <- setAddHashed r (.int k tk) (hashInt k); pure PUnit.unit) else pure PUnit.unit) (fun _ s2 => wpAny (model P w) A (do Builtin.Frozenset.unchanged id W0 epw; pure (ForInStep.yield PUnit.unit)) Q' E s2) E s' := fun d hc => by
  by_cases hcb : c d = true
  ·rw [if_pos hcb]
   refine wpAny_bind (qp sxr hlen fun _ h' sb sx' => wpAny_pure ?_)
   refine wpAny_bind (jK (s := { s' with heap := h' }) (gW.at (dX n1 sb)) (wpAny_pure ?_))
   exact q1 (by rw [hc]; exact hcb) h' sb sx'
  ·rw [if_neg hcb]
   refine wpAny_pure ?_
   refine wpAny_bind (jK gW (wpAny_pure ?_))
   exact q2 (by rw [hc]; simpa using hcb)
 refine wpAny_bind (wpAny_holding (wpAny_bind (sk.find (fun i hi => ?_) fun hn => ?_)))
 ·exact fin true (decide_eq_true (pk.mem_iff.mp (CW hi)))
 ·exact fin false (decide_eq_false fun m => hn (pk.mem_iff.mpr m))
theorem vo {id : String} {Q : Value -> Shared -> Prop} (hS : SX w S ms s.heap) (hT : SX w T ns s.heap) (hne : S ≠ T) (hl1 : ms.length < 3000) (hl2 : ns.length < 3000)
  (h : ∀ h' ks, (∀ b o, s.heap.get? b = some o -> h'.get? b = some o) -> SX w s.heap.objs.size ks h' -> ks.Nodup -> (∀ x, x ∈ ks <-> x ∈ ms /\ x ∈ ns) -> Q (.ref s.heap.objs.size) { s with heap := h' }) : wpAny (model P w) A (Builtin.Frozenset.intersection id S (.ref T)) Q E s := by
 unfold Builtin.Frozenset.intersection
 rw [if_neg (by simp; exact fun z => hne z.symm)]
 refine wpAny_bind (iW hS.ty (wpAny_bind (iX ?_)))
 have lS := hS.lt
 have lT := hT.lt
 have kp : ∀ b o, s.heap.get? b = some o -> (s.heap.push (aH w)).get? b = some o := fun b o e => Heap.get?_push_of_some _ e
 have hS1 := hS.at (kp S)
 have hT1 := hT.at (kp T)
 have hR1 : SX w s.heap.objs.size [] (s.heap.push (aH w)) := iU (Heap.get?_push_size _ rfl)
 generalize hr : s.heap.objs.size = r at *
 generalize hh1 : s.heap.push (aH w) = h1 at *
 refine wpAny_bind (wpAny_pure ?_)
 have ne1 : S ≠ r := C6 lS
 have ne2 : T ≠ r := C6 lT
 have aS := di hS1
 have aT := di hT1
 obtain ⟨eS, epS, tS, kS, aS, pS⟩ := aS
 obtain ⟨eT, epT, tT, kT, aT, pT⟩ := aT
 refine wpAny_bind (wpAny_holding (wpAny_bind (bV (s := { s with heap := h1 }) hT1.ty ?_)))
 rw [if_pos rfl]
 refine wpAny_bind (wpAny_pure ?_)
 refine wpAny_bind (c8 (s := { s with heap := h1 }) aT (wpAny_bind (c8 (s := { s with heap := h1 }) aS ?_)))
 have core : ∀ (W0 K0 : Addr) (ew : Array (Int × Value)) (epw : Nat) (tw : SetTable) (kw ka : List Int), SetAt w W0 ew epw tw kw h1 -> SX w K0 ka h1 -> W0 ≠ r -> K0 ≠ r -> kw.length < 3000 -> (∀ x, x ∈ kw /\ x ∈ ka <-> x ∈ ms /\ x ∈ ns) ->
   wpAny (model P w) A (do
    let was <- setEpoch W0
    let l <- setWalkUnseen W0 [K0, r] (some r)
    forIn l PUnit.unit fun x __s => match x with
     | (h, x) => do
      holding [x] do
       let q <- setFind K0 x h
       if q.isSome = true then do
        let _ <- setAddHashed r x h
        pure ()
       else pure ()
      Builtin.Frozenset.unchanged id W0 was
      pure (ForInStep.yield PUnit.unit)
    pure ()) (fun _ s' => wpAny (model P w) A (pure (Value.ref r)) Q E s') E { s with heap := h1 } := by
  intro W0 K0 ew epw tw kw ka hW hK n1 n2 hlw hm
  refine wpAny_bind (SetAt.epoch (s := { s with heap := h1 }) hW ?_)
  refine wpAny_bind (SetAt.walk (s := { s with heap := h1 }) (ms := []) hW (fun a ha => ?_) (fun a e => ?_) fun xs h2 px k2 f2 => ?_)
  ·simp only [C5, DI, or_false] at ha
   rcases ha with e | e <;> subst e
   ·exact ⟨_, hK⟩
   ·exact ⟨_, hR1⟩
  ·cases e; exact ⟨Ne.symm n1, hR1⟩
  have k2' : ∀ b o, b ≠ r -> h1.get? b = some o -> h2.get? b = some o := fun b o n e => k2 b o (fun z => n (Option.some.inj z).symm) e
  obtain ⟨kx, nx, qx⟩ := Ents.perm px (SetAt.en (s := { s with heap := h1 }) hW)
  have ndw := SetAt.nd (s := { s with heap := h1 }) hW
  have ndx : kx.Nodup := qx.nodup_iff.mpr ndw
  refine wpAny_bind (oJ (s := { s with heap := h2 }) (hW.at fun o e => k2' W0 o n1 e) (hK.at fun o e => k2' K0 o n2 e) n1 n2 nx ndx (by rw [qx.length_eq]; omega) (f2 r rfl) (fun b => b) (fun x => rfl) fun h3 sb sx => wpAny_pure (wpAny_pure ?_))
  refine h h3 _ (fun b o e => ?_) sx (ndx.filter _) fun x => ?_
  ·have nb : b ≠ r := by rw [<- hr]; exact C6 (Heap.lt_size e)
   exact dX nb sb o (k2' b o nb (kp b o e))
  ·rw [Dw, qx.mem_iff, <- hm x]
   simp
 by_cases hc : eT.size > eS.size
 ·rw [if_pos hc]
  exact core S T eS epS tS kS ns aS hT1 ne1 ne2 (by rw [pS.length_eq]; exact hl1) fun x => by rw [pS.mem_iff]
 ·rw [if_neg hc]
  exact core T S eT epT tT kT ms aT hS1 ne2 ne1 (by rw [pT.length_eq]; exact hl2) fun x => by rw [pT.mem_iff]; exact And.comm
end
section
variable {P : Program} {w : World} {A : Around} {E : Value -> Shared -> Prop} {s : Shared} {S T r : Addr} {ks ms ns : List Int} {es : Array (Int × Value)} {ep : Nat} {t : SetTable}
theorem oK {h : Heap} (e : h.get? r = some (aH w)) : SetAt w r #[] 0 (.fresh 0 0 (!bS w)) [] h :=
 ⟨_, e, ⟨⟨rfl, rfl, rfl⟩, rfl, .nil, EK, by decide, rfl, ⟨rfl, fun _ => .nil⟩⟩⟩
theorem qr {n : Nat} {Q : Unit -> Shared -> Prop} (hr : s.heap.get? r = some (aH w)) (hn : n < 128)
  (h : ∀ h' ep' t', Heap.SameBut r s.heap h' -> SetAt w r #[] ep' t' [] h' -> yA (t'.mask + 1) -> n <= t'.mask -> t'.dummies = #[] -> Q () { s with heap := h' }) : wpAny (model P w) A (setRoomFor r n) Q E s := by
 have a := oK hr
 unfold setRoomFor
 refine wpAny_bind (a.state ?_)
 dsimp only
 by_cases hc : (0 + n) * 5 >= 7 * 3
 ·have e : (SetTable.fresh 0 0 (!bS w)).roomFor n = some ((0 + n) * 2) := if_pos hc
  rw [e]
  dsimp only
  obtain ⟨m1, m2⟩ := eG ((0 + n) * 2) (by omega)
  refine a.relay (by omega) (by show 0 < _; omega) fun h' es' t' ks' sb st p mk dm => ?_
  have : ks' = [] := Dt.mp (by rw [p.length_eq]; rfl)
  subst this
  have e0 : es' = #[] := by
   have := st.en (s := { s with heap := h' })
   have l := this.len
   exact Array.eq_empty_of_size_eq_zero (by rw [<- C1, l]; rfl)
  subst e0
  exact h h' _ t' sb st (by rw [mk]; exact iV m1) (by omega) dm
 ·have e : (SetTable.fresh 0 0 (!bS w)).roomFor n = none := if_neg hc
  rw [e]
  exact wpAny_pure (h s.heap 0 _ (Heap.SameBut.refl _ _) a (show yA 8 from iV (by decide)) (by show n <= 7; omega) rfl)
theorem jh {each : Sem Unit} {Q : Unit -> Shared -> Prop} (hr : s.heap.get? r = some (aH w)) (hS : SetAt w S es ep t ks s.heap) (hne : r ≠ S) (hl : ks.length < 128) (h0 : ks = [] -> Q () s)
  (h : ∀ h' er ep' tr kr, ks ≠ [] -> Heap.SameBut r s.heap h' -> SetAt w r er ep' tr kr h' -> kr.Perm ks -> Q () { s with heap := h' }) : wpAny (model P w) A (setMerge r S each) Q E s := by
 have sz := hS.sz
 unfold setMerge
 rw [if_neg (by simpa using hne)]
 refine wpAny_bind (hS.state ?_)
 dsimp only
 by_cases he : es.isEmpty = true
 ·rw [if_pos he]
  refine wpAny_pure (h0 (Dt.mp ?_))
  rw [<- sz]; simpa using he
 rw [if_neg he]
 have kne : ks ≠ [] := fun z => he (by rw [z] at sz; simpa using sz)
 refine wpAny_bind (qr hr (by omega) fun h1 ep1 t1 sb1 a1 c1 n1 d1 => ?_)
 have hS1 : SetAt w S es ep t ks h1 := hS.at (dX (Ne.symm hne) sb1)
 refine wpAny_bind (SetAt.state (s := { s with heap := h1 }) a1 ?_)
 dsimp only
 have tb1 := SetAt.tb (s := { s with heap := h1 }) a1
 have tbS := hS.tb
 have ft1 := SetAt.ft (s := { s with heap := h1 }) a1
 have p0 : t1.place.size = 0 := by
  have := ft1
  simp only [SetTable.fits, Dx, beq_iff_eq] at this
  exact this.1
 have fl : t1.fill = 0 := by unfold SetTable.fill; rw [p0, d1]; rfl
 have ld : (t1.led && t.led) = !bS w := by rw [tb1.led, tbS.led]; simp
 by_cases hc : (t1.mask == t.mask && t.dummies.isEmpty) = true
 ·have er : t1.road t = .slotForSlot := by unfold SetTable.road; rw [fl]; simp only [bne_self_eq_false, DA, if_false]; rw [if_pos hc]
  rw [er]
  dsimp only
  refine SetAt.store (s := { s with heap := h1 }) a1 hS.en hS.nd hS.lt4 hS.ft ⟨ld, fun z => tbS.rise ?_⟩ fun h2 sb2 a2 => ?_
  ·have z : (t1.plain && t.plain) = true := z
   simp at z; exact z.2
  ·exact h h2 _ _ _ _ kne (sb1.trans sb2) a2 (.refl _)
 ·have er : t1.road t = .clean := by unfold SetTable.road; rw [fl]; simp only [bne_self_eq_false, DA, if_false]; rw [if_neg hc]
  rw [er]
  dsimp only
  have hsz : (es.map (·.1)).size = es.size := DG ..
  obtain ⟨t', o, e, L⟩ := md (mask := t1.mask) (finger := t1.finger) (moves := t1.moves) (led := t1.led && t.led) (plain := t1.plain && t.plain) (hs := es.map (·.1)) c1 (by rw [hsz]; exact n1)
  rw [e]
  have pm := L.pm
  rw [hsz] at pm
  refine wpAny_bind (oI (by rfl) pm ?_)
  dsimp only
  have pp := gC pm
  obtain ⟨ks', n', q'⟩ := Ents.perm pp hS.en
  have z : (o.filterMap (es[·]?)).size = es.size := by have := pp.length_eq; rw [C1, C1] at this; exact this
  refine SetAt.store (s := { s with heap := h1 }) a1 n' (q'.nodup_iff.mpr hS.nd) (by rw [q'.length_eq]; exact hS.lt4) (by rw [z, <- hsz]; exact L.ft) ⟨by rw [L.ld]; exact ld, fun _ => L.rs⟩ fun h2 sb2 a2 => ?_
  exact h h2 _ _ _ _ kne (sb1.trans sb2) a2 q'
theorem rO {Q : Value -> Shared -> Prop} (hS : SX w S ms s.heap) (hl : ms.length < 128)
  (h : ∀ h' er ep' tr kr, (∀ b o, s.heap.get? b = some o -> h'.get? b = some o) -> SetAt w s.heap.objs.size er ep' tr kr h' -> kr.Perm ms -> (ms = [] -> h'.get? s.heap.objs.size = some (aH w)) -> Q (.ref s.heap.objs.size) { s with heap := h' }) : wpAny (model P w) A (Builtin.Frozenset.copyOf S) Q E s := by
 unfold Builtin.Frozenset.copyOf
 refine wpAny_bind (iW hS.ty (wpAny_bind (iX ?_)))
 have hne : s.heap.objs.size ≠ S := EV hS.lt
 have kp : ∀ b o, s.heap.get? b = some o -> (s.heap.push (aH w)).get? b = some o := fun b o e => Heap.get?_push_of_some _ e
 have hr : (s.heap.push (aH w)).get? s.heap.objs.size = some (aH w) := Heap.get?_push_size _ rfl
 obtain ⟨es, ep, t, ks, aS, pS⟩ := di (hS.at (kp S))
 refine wpAny_bind (wpAny_pure (wpAny_bind (jh (s := { s with heap := s.heap.push (aH w) }) hr aS hne (by rw [pS.length_eq]; exact hl) (fun e => ?_) fun h' er ep' tr kr kne sb a p => ?_)))
 ·subst e
  have em : ms = [] := Dt.mp (by rw [<- pS.length_eq]; rfl)
  exact wpAny_pure (h _ _ _ _ _ kp (oK hr) (by rw [em]) fun _ => hr)
 ·refine wpAny_pure (h h' er ep' tr kr (fun b o e => dX (C6 (Heap.lt_size e)) sb o (kp b o e)) a (p.trans pS) fun e => ?_)
  subst e
  exact absurd (Dt.mp (by rw [pS.length_eq]; rfl)) kne
end
theorem tL (acc : List Int) (x : Int) : (b7 acc x).length <= acc.length + 1 := by
 unfold b7
 split
 ·omega
 ·simp
section
variable {P : Program} {w : World} {A : Around} {E : Value -> Shared -> Prop} {s : Shared} {S T r : Addr} {ks kr ms ns : List Int} {es er : Array (Int × Value)} {ep epr : Nat} {t tr : SetTable}
theorem SX.nd {h : Heap} (x : SX w S ms h) : ms.Nodup := by
 obtain ⟨o, es, ep, t, ks, e, r, p⟩ := x
 exact p.nodup_iff.mp r.nd
theorem SetAt.room {n : Nat} {Q : Unit -> Shared -> Prop} (hR : SetAt w r er epr tr kr s.heap) (hn : kr.length + n < 128)
  (h : ∀ h' er' ep' t' kr', Heap.SameBut r s.heap h' -> SetAt w r er' ep' t' kr' h' -> kr'.Perm kr -> Q () { s with heap := h' }) : wpAny (model P w) A (setRoomFor r n) Q E s := by
 have sz := hR.sz
 have pz := fV hR.ft
 unfold setRoomFor
 refine wpAny_bind (hR.state ?_)
 dsimp only
 by_cases hc : (tr.fill + n) * 5 >= tr.mask * 3
 ·have e : tr.roomFor n = some ((tr.place.size + n) * 2) := if_pos hc
  rw [e]
  dsimp only
  obtain ⟨m1, m2⟩ := eG ((tr.place.size + n) * 2) (by omega)
  exact hR.relay (by omega) (by omega) fun h' es' t' ks' sb st p _ _ => h h' _ _ _ _ sb st p
 ·have e : tr.roomFor n = none := if_neg hc
  rw [e]
  exact wpAny_pure (h s.heap _ _ _ _ (Heap.SameBut.refl _ _) hR (.refl _))
theorem qt {each : Sem Unit} {Q : Unit -> Shared -> Prop} (hR : SetAt w r er epr tr kr s.heap) (hS : SetAt w S es ep t ks s.heap) (hne : r ≠ S) (hl : kr.length + ks.length < 128) (hkr : kr ≠ [])
  (heach : ∀ (s' : Shared) (Q' : Unit -> Shared -> Prop), SetAt w S es ep t ks s'.heap -> Q' () s' -> wpAny (model P w) A each Q' E s')
  (h : ∀ h' acc, (∀ b o, b ≠ r -> s.heap.get? b = some o -> h'.get? b = some o) -> SX w r acc h' -> (∀ x, x ∈ acc <-> x ∈ kr \/ x ∈ ks) -> Q () { s with heap := h' }) : wpAny (model P w) A (setMerge r S each) Q E s := by
 have sz := hS.sz
 unfold setMerge
 rw [if_neg (by simpa using hne)]
 refine wpAny_bind (hS.state ?_)
 dsimp only
 by_cases he : es.isEmpty = true
 ·rw [if_pos he]
  have : ks = [] := Dt.mp (by rw [<- sz]; simpa using he)
  refine wpAny_pure (h s.heap kr (fun _ _ _ e => e) (hR.sx (.refl _)) fun x => ?_)
  rw [this]; simp
 rw [if_neg he]
 refine wpAny_bind (hR.room (by omega) fun h1 er1 ep1 t1 kr1 sb1 a1 p1 => ?_)
 have hS1 : SetAt w S es ep t ks h1 := hS.at (dX (Ne.symm hne) sb1)
 refine wpAny_bind (SetAt.state (s := { s with heap := h1 }) a1 ?_)
 dsimp only
 have sz1 := SetAt.sz (s := { s with heap := h1 }) a1
 have pz1 := fV (SetAt.ft (s := { s with heap := h1 }) a1)
 have fl : t1.fill ≠ 0 := by
  unfold SetTable.fill
  have : kr1.length ≠ 0 := by rw [p1.length_eq]; exact fun z => hkr (Dt.mp z)
  omega
 have er' : t1.road t = .oneByOne := by unfold SetTable.road; rw [if_pos (by simpa using fl)]
 rw [er']
 dsimp only
 have sx1 : SX w r kr h1 := SetAt.sx (s := { s with heap := h1 }) a1 p1
 refine wpAny_bind (SetAt.walk (s := { s with heap := h1 }) (ms := kr) hS1 (fun a ha => ?_) (fun a e => ?_) fun xs h2 px k2 f2 => ?_)
 ·rw [CZ.mp ha]; exact ⟨_, sx1⟩
 ·cases e; exact ⟨hne, sx1⟩
 have k2' : ∀ b o, b ≠ r -> h1.get? b = some o -> h2.get? b = some o := fun b o n e => k2 b o (fun z => n (Option.some.inj z).symm) e
 obtain ⟨kx, nx, qx⟩ := Ents.perm px (SetAt.en (s := { s with heap := h1 }) hS1)
 refine wpAny_bind (PySem.MeetsSeq2.wpAny_forIn_array _ (fun cN _ s' => ∃ kq acc h', Ents cN kq /\ s' = { s with heap := h' } /\ (∀ b o, b ≠ r -> h2.get? b = some o -> h'.get? b = some o) /\ SX w r acc h' /\ (∀ x, x ∈ acc \/ x ∈ kq <-> x ∈ kr \/ x ∈ kx) /\ acc.length + kq.length < 128) _ ?_ ?_ xs _ ⟨kx, kr, h2, nx, rfl, (fun _ _ _ e => e), f2 r rfl, fun x => Iff.rfl, by rw [qx.length_eq]; exact hl⟩)
 ·rintro x cN b s' ⟨kq, acc, h3, eq, rfl, k3, sx3, m3, l3⟩
  cases eq with
  | @cons _ k _ kq' q eq' =>
   obtain ⟨tk, rfl⟩ := q
   rw [Dv] at l3
   dsimp only
   refine wpAny_bind (wpAny_holding (qp (s := { s with heap := h3 }) sx3 (by omega) fun _ h4 sb4 sx4 => ?_))
   have k4 : ∀ b o, b ≠ r -> h2.get? b = some o -> h4.get? b = some o := fun b o n e => dX n sb4 o (k3 b o n e)
   have hS4 : SetAt w S es ep t ks h4 := hS1.at fun o e => k4 S o (Ne.symm hne) (k2' S o (Ne.symm hne) e)
   refine wpAny_bind (heach { s with heap := h4 } _ hS4 ?_)
   refine wpAny_bind (SetAt.state (s := { s with heap := h4 }) hS4 ?_)
   dsimp only
   rw [if_neg (by simp)]
   refine wpAny_pure ⟨kq', _, h4, eq', rfl, k4, sx4, fun x => ?_, ?_⟩
   ·rw [l8, <- m3 x, C5, or_assoc]
   ·have := tL acc k; omega
 ·rintro b s' ⟨kq, acc, h3, eq, rfl, k3, sx3, m3, l3⟩
  cases eq
  refine wpAny_pure (h h3 acc (fun b o n e => k3 b o n (k2' b o n (dX n sb1 o e))) sx3 fun x => ?_)
  rw [<- qx.mem_iff (a := x), <- m3 x]; simp
end
theorem iw {α : Type} (xs : Array α) (i : Nat) (h : i < xs.size) : (SetTable.eraseAt xs i).toList = xs.toList.eraseIdx i := by
 unfold SetTable.eraseAt
 rw [Array.toList_append, Array.toList_extract, Array.toList_extract, List.eraseIdx_eq_take_drop_succ]
 simp [Fj]
 exact DK (by simp)
theorem lg {α : Type} (xs : Array α) (p : Nat) (x : α) : (SetTable.insertAt xs p x).size = xs.size + 1 := by
 unfold SetTable.insertAt
 simp
 omega
section
variable {P : Program} {w : World} {A : Around} {E : Value -> Shared -> Prop} {s : Shared} {S T r : Addr} {ks kr ms ns : List Int} {es er : Array (Int × Value)} {ep epr : Nat} {t tr : SetTable}
theorem vp {id : String} {Q : Value -> Shared -> Prop} (hS : SX w S ms s.heap) (hT : SX w T ns s.heap) (hne : S ≠ T) (hl : ms.length + ns.length < 128)
  (h : ∀ h' ks, (∀ b o, s.heap.get? b = some o -> h'.get? b = some o) -> SX w s.heap.objs.size ks h' -> (∀ x, x ∈ ks <-> x ∈ ms \/ x ∈ ns) -> Q (.ref s.heap.objs.size) { s with heap := h' }) :
  wpAny (model P w) A (do
   let result <- Builtin.Frozenset.copyOf S
   if (Value.ref T != Value.ref S) = true then
    let a <- Builtin.Frozenset.addrOf result
    holding [result] (Builtin.Frozenset.updateFrom id a (.ref T))
   return result) Q E s := by
 refine wpAny_bind (rO hS (by omega) fun h1 er ep1 tr kr kp aR pR fr => ?_)
 have lT := hT.lt
 have hTr : s.heap.objs.size ≠ T := EV lT
 have hT1 : SX w T ns h1 := hT.at (kp T)
 obtain ⟨eT, epT, tT, kT, aT, pT⟩ := di hT1
 rw [if_pos (by simp; exact fun z => hne z.symm)]
 refine wpAny_bind (wpAny_pure (wpAny_bind (wpAny_holding ?_)))
 unfold Builtin.Frozenset.updateFrom
 refine wpAny_bind (bV (s := { s with heap := h1 }) hT1.ty ?_)
 rw [if_pos rfl]
 refine wpAny_bind (wpAny_pure ?_)
 unfold Builtin.Frozenset.merge
 refine wpAny_bind (SetAt.epoch (s := { s with heap := h1 }) aT ?_)
 have lenT := pT.length_eq
 by_cases em : ms = []
 ·refine jh (s := { s with heap := h1 }) (fr em) aT hTr (by omega) (fun e => ?_) fun h2 er2 ep2 tr2 kr2 _ sb2 a2 p2 => ?_
  ·refine wpAny_pure (h h1 kr kp (SetAt.sx (s := { s with heap := h1 }) aR (.refl _)) fun x => ?_)
   rw [pR.mem_iff, <- pT.mem_iff (a := x), e]; simp
  ·refine wpAny_pure (h h2 kr2 (fun b o e => dX (C6 (Heap.lt_size e)) sb2 o (kp b o e)) (SetAt.sx (s := { s with heap := h2 }) a2 (.refl _)) fun x => ?_)
   rw [p2.mem_iff, pT.mem_iff, em]; simp
 ·refine qt (s := { s with heap := h1 }) aR aT hTr (by rw [pR.length_eq, lenT]; exact hl) (fun z => em ?_) (fun s' Q' a q => jK a q) fun h2 acc k2 sx2 m2 => ?_
  ·subst z; exact Dt.mp (by rw [<- pR.length_eq]; rfl)
  ·refine wpAny_pure (h h2 acc (fun b o e => k2 b o (C6 (Heap.lt_size e)) (kp b o e)) sx2 fun x => ?_)
   rw [m2, pR.mem_iff, pT.mem_iff]
theorem SetAt.drop {x : Int} {tk : Tok} {Q : Bool -> Shared -> Prop} (hR : SetAt w r er epr tr kr s.heap)
  (h : ∀ b h' kr', Heap.SameBut r s.heap h' -> SX w r kr' h' -> (∀ y, y ∈ kr' <-> y ∈ kr /\ y ≠ x) -> kr'.length <= kr.length -> Q b { s with heap := h' }) : wpAny (model P w) A (setDiscardHashed r (.int x tk) (hashInt x)) Q E s := by
 unfold setDiscardHashed
 refine wpAny_bind (hR.find (fun i hi => ?_) fun hn => ?_)
 ·dsimp only
  refine wpAny_bind (hR.state ?_)
  dsimp only
  have hik : i < kr.length := (CS.mp hi).1
  have sz := hR.sz
  have pz := fV hR.ft
  have hie : i < er.size := by omega
  have hip : i < tr.place.size := by omega
  have gp := Dp hip
  have p1 : er.toList.Perm (er[i] :: er.toList.eraseIdx i) := gB (by simp [hie])
  obtain ⟨k1, n1, q1⟩ := Ents.perm p1.symm hR.en
  cases n1 with
  | @cons _ k _ k1' q n1' =>
   obtain ⟨t1, e1⟩ := q
   obtain ⟨a', ga, t2, e2⟩ := cg hR.en hi
   have ga' : er[i] = a' := by
    rw [DM, Dp hie] at ga
    exact Option.some.inj ga
   rw [ga', e2] at e1
   have ekx : x = k := by
    have := congrArg Prod.snd e1
    injection this
   subst ekx
   have nd1 : (x :: k1').Nodup := q1.nodup_iff.mpr hR.nd
   rw [Ea] at nd1
   have le : k1'.length + 1 = kr.length := by rw [<- q1.length_eq]; rfl
   have el : (SetTable.eraseAt er i).toList = er.toList.eraseIdx i := iw er i hie
   have ez : (SetTable.eraseAt er i).size = er.size - 1 := by rw [<- C1, el, Er (by rw [C1]; exact hie), C1]
   have ed : tr.drop i = { tr with place := SetTable.eraseAt tr.place i, dummies := SetTable.insertAt tr.dummies (SetTable.below tr.dummies tr.place[i]) tr.place[i] } := by unfold SetTable.drop; rw [gp]
   have pl : (SetTable.eraseAt tr.place i).toList = tr.place.toList.eraseIdx i := iw tr.place i hip
   have pe : (SetTable.eraseAt tr.place i).size = tr.place.size - 1 := by rw [<- C1, pl, Er (by rw [C1]; exact hip), C1]
   have ft := hR.ft
   simp only [SetTable.fits, SetTable.fill, Dx, beq_iff_eq, decide_eq_true_eq] at ft
   refine wpAny_bind (hR.store (es' := SetTable.eraseAt er i) (t' := tr.drop i) (ks' := k1') (by rw [el]; exact n1') nd1.2 (by have := hR.lt4; omega) ?_ ?_ fun h' sb st => ?_)
   ·rw [ed]
    simp only [SetTable.fits, SetTable.fill, Dx, beq_iff_eq, decide_eq_true_eq, pe, ez, lg]
    have f2 := of_decide_eq_true ft.2
    omega
   ·rw [ed]
    refine ⟨hR.tb.led, fun z => ?_⟩
    show jA (SetTable.eraseAt tr.place i).toList
    rw [pl]
    exact (hR.tb.rise z).sublist (List.eraseIdx_sublist ..)
   ·refine wpAny_bind (wpAny_point (wpAny_pure (h true h' k1' sb (SetAt.sx (s := { s with heap := h' }) st (.refl _)) (fun y => ?_) (by omega))))
    rw [<- q1.mem_iff (a := y), C5]
    constructor
    ·exact fun m => ⟨.inr m, fun z => nd1.1 (by rw [<- z]; exact m)⟩
    ·exact fun ⟨m, n⟩ => m.resolve_left n
 ·exact wpAny_pure (h false s.heap kr (Heap.SameBut.refl _ _) (hR.sx (.refl _)) (fun y => ⟨fun m => ⟨m, fun z => hn (by rw [<- z]; exact m)⟩, fun m => m.1⟩) (C0 _))
theorem xw {Q : Unit -> Shared -> Prop} (hR : SX w r kr s.heap) (hl : kr.length < 64) (h : ∀ h' kr', Heap.SameBut r s.heap h' -> SX w r kr' h' -> kr'.Perm kr -> Q () { s with heap := h' }) : wpAny (model P w) A (setTidy r) Q E s := by
 obtain ⟨er, ep, tr, k0, a, p⟩ := di hR
 have sz := a.sz
 have pl := p.length_eq
 unfold setTidy
 refine wpAny_bind (a.state ?_)
 dsimp only
 by_cases hc : tr.tooManyDummies = true
 ·rw [if_pos hc]
  have eg : SetTable.grown er.size = er.size * 4 := if_neg (by omega)
  rw [eg]
  obtain ⟨m1, m2⟩ := eG (er.size * 4) (by omega)
  exact a.relay (by omega) (by omega) fun h' es' t' ks' sb st q _ _ => h h' ks' sb (SetAt.sx (s := { s with heap := h' }) st (.refl _)) (q.trans p)
 ·rw [if_neg hc]
  exact wpAny_pure (h s.heap kr (Heap.SameBut.refl _ _) hR (.refl _))
end
section
variable {P : Program} {w : World} {A : Around} {E : Value -> Shared -> Prop} {s : Shared} {S T r : Addr} {ks kr ms ns : List Int} {es er : Array (Int × Value)} {ep epr : Nat} {t tr : SetTable}
theorem tM {id : String} {Q : Unit -> Shared -> Prop} (hR : SX w r ms s.heap) (hT : SX w T ns s.heap) (hne : r ≠ T) (hl : ms.length < 64) (hsz : ns.length / 8 <= ms.length)
  (h : ∀ h' kr, (∀ b o, b ≠ r -> s.heap.get? b = some o -> h'.get? b = some o) -> SX w r kr h' -> (∀ x, x ∈ kr <-> x ∈ ms /\ x ∉ ns) -> Q () { s with heap := h' }) : wpAny (model P w) A (Builtin.Frozenset.differenceUpdate id r (.ref T)) Q E s := by
 obtain ⟨eT, epT, tT, kT, aT, pT⟩ := di hT
 obtain ⟨eR, epR, tR, kR, aR, pR⟩ := di hR
 have zT := aT.sz
 have zR := aR.sz
 have lT := pT.length_eq
 have lR := pR.length_eq
 unfold Builtin.Frozenset.differenceUpdate
 rw [if_neg (by simp; exact fun z => hne z.symm)]
 refine wpAny_bind (bV hT.ty ?_)
 rw [if_pos rfl]
 refine wpAny_bind (wpAny_pure ?_)
 refine wpAny_bind (c8 aT (wpAny_bind (c8 aR ?_)))
 rw [if_neg (by omega)]
 dsimp only
 refine wpAny_bind (aT.epoch ?_)
 refine wpAny_bind (wpAny_holding (wpAny_bind (SetAt.walk (ms := []) (f := none) aT (fun a ha => by rw [CZ.mp ha]; exact ⟨_, hR⟩) (fun a e => by cases e) fun xs h1 px k1 _ => ?_)))
 have k1 : ∀ b o, s.heap.get? b = some o -> h1.get? b = some o := fun b o e => k1 b o (fun z => by cases z) e
 have aT1 : SetAt w T eT epT tT kT h1 := aT.at (k1 T)
 obtain ⟨kx, nx, qx⟩ := Ents.perm px aT.en
 refine wpAny_bind (PySem.MeetsSeq2.wpAny_forIn_array _ (fun cN _ s' => ∃ kq acc h', Ents cN kq /\ s' = { s with heap := h' } /\ (∀ b o, b ≠ r -> h1.get? b = some o -> h'.get? b = some o) /\ SX w r acc h' /\ (∀ x, x ∈ acc /\ x ∉ kq <-> x ∈ ms /\ x ∉ kx) /\ acc.length < 64) _ ?_ ?_ xs _ ⟨kx, ms, h1, nx, rfl, (fun _ _ _ e => e), hR.at (k1 r), fun x => Iff.rfl, hl⟩)
 ·rintro x cN b s' ⟨kq, acc, h3, eq, rfl, k3, sx3, m3, l3⟩
  cases eq with
  | @cons _ k _ kq' q eq' =>
   obtain ⟨tk, rfl⟩ := q
   dsimp only
   obtain ⟨ea, epa, ta, ka, aa, pa⟩ := di sx3
   refine wpAny_bind (wpAny_holding (SetAt.drop (s := { s with heap := h3 }) aa fun _ h4 kr' sb4 sx4 m4 l4 => ?_))
   have k4 : ∀ b o, b ≠ r -> h1.get? b = some o -> h4.get? b = some o := fun b o n e => dX n sb4 o (k3 b o n e)
   have aT4 : SetAt w T eT epT tT kT h4 := aT1.at fun o e => k4 T o (Ne.symm hne) e
   refine wpAny_bind (jK (s := { s with heap := h4 }) aT4 (wpAny_pure ⟨kq', kr', h4, eq', rfl, k4, sx4, fun x => ?_, ?_⟩))
   ·rw [<- m3 x, m4, pa.mem_iff, C5, not_or, and_assoc]
   ·rw [pa.length_eq] at l4; omega
 ·rintro b s' ⟨kq, acc, h3, eq, rfl, k3, sx3, m3, l3⟩
  cases eq
  refine wpAny_pure (xw (s := { s with heap := h3 }) sx3 l3 fun h4 kr' sb4 sx4 p4 => ?_)
  refine h h4 kr' (fun b o n e => dX n sb4 o (k3 b o n (k1 b o e))) sx4 fun x => ?_
  have := m3 x
  rw [p4.mem_iff, <- pT.mem_iff (a := x), <- qx.mem_iff (a := x), <- this]; simp
theorem xx {id : String} {Q : Value -> Shared -> Prop} (hS : SX w S ms s.heap) (hT : SX w T ns s.heap) (hne : S ≠ T) (hl1 : ms.length < 64) (hl2 : ns.length < 64)
  (h : ∀ h' ks, (∀ b o, s.heap.get? b = some o -> h'.get? b = some o) -> SX w s.heap.objs.size ks h' -> (∀ x, x ∈ ks <-> x ∈ ms /\ x ∉ ns) -> Q (.ref s.heap.objs.size) { s with heap := h' }) : wpAny (model P w) A (Builtin.Frozenset.difference id S (.ref T)) Q E s := by
 obtain ⟨eT, epT, tT, kT, aT, pT⟩ := di hT
 obtain ⟨eS, epS, tS, kS, aS, pS⟩ := di hS
 have zT := aT.sz
 have zS := aS.sz
 have lT := pT.length_eq
 have lS := pS.length_eq
 unfold Builtin.Frozenset.difference
 dsimp only
 refine wpAny_bind (bV hT.ty ?_)
 rw [if_neg (by simp)]
 refine wpAny_bind (wpAny_pure ?_)
 rw [if_neg (by simp), if_pos rfl]
 refine wpAny_bind (c8 aT (wpAny_bind (c8 aS ?_)))
 have kp : ∀ b o, s.heap.get? b = some o -> (s.heap.push (aH w)).get? b = some o := fun b o e => Heap.get?_push_of_some _ e
 have ltS := hS.lt
 have ltT := hT.lt
 by_cases hc : eS.size / 4 > eT.size
 ·rw [if_pos hc]
  refine wpAny_bind (wpAny_rule (wpAny_bind (rO hS (by omega) fun h1 er ep1 tr kr k1 aR pR _ => ?_)))
  refine wpAny_bind (wpAny_pure (wpAny_bind (wpAny_holding ?_)))
  refine tM (s := { s with heap := h1 }) (SetAt.sx (s := { s with heap := h1 }) aR pR) (hT.at (k1 T)) (EV ltT) hl1 (by omega) fun h2 kr2 k2 sx2 m2 => wpAny_pure ?_
  exact h h2 kr2 (fun b o e => k2 b o (C6 (Heap.lt_size e)) (k1 b o e)) sx2 m2
 ·rw [if_neg hc]
  refine wpAny_bind (iW hS.ty (wpAny_bind (iX ?_)))
  have hS1 := hS.at (kp S)
  have hT1 := hT.at (kp T)
  have aS1 := aS.at (kp S)
  have hR1 : SX w s.heap.objs.size [] (s.heap.push (aH w)) := iU (Heap.get?_push_size _ rfl)
  generalize hr : s.heap.objs.size = r at *
  generalize hh1 : s.heap.push (aH w) = h1 at *
  have n1 : S ≠ r := C6 ltS
  have n2 : T ≠ r := C6 ltT
  refine wpAny_bind (wpAny_pure (wpAny_bind (SetAt.epoch (s := { s with heap := h1 }) aS1 ?_)))
  refine wpAny_bind (wpAny_holding ?_)
  rw [if_pos rfl]
  refine wpAny_bind (SetAt.walk (s := { s with heap := h1 }) (ms := []) aS1 (fun a ha => ?_) (fun a e => ?_) fun xs h2 px k2 f2 => ?_)
  ·simp only [C5, DI, or_false] at ha
   rcases ha with e | e <;> subst e
   ·exact ⟨_, hT1⟩
   ·exact ⟨_, hR1⟩
  ·cases e; exact ⟨Ne.symm n1, hR1⟩
  have k2' : ∀ b o, b ≠ r -> h1.get? b = some o -> h2.get? b = some o := fun b o n e => k2 b o (fun z => n (Option.some.inj z).symm) e
  obtain ⟨kx, nx, qx⟩ := Ents.perm px (SetAt.en (s := { s with heap := h1 }) aS1)
  have ndx : kx.Nodup := qx.nodup_iff.mpr (SetAt.nd (s := { s with heap := h1 }) aS1)
  refine wpAny_bind (oJ (s := { s with heap := h2 }) (aS1.at fun o e => k2' S o n1 e) (hT1.at fun o e => k2' T o n2 e) n1 n2 nx ndx (by rw [qx.length_eq]; omega) (f2 r rfl) (fun b => !b) (fun x => rfl) fun h3 sb sx => wpAny_pure (wpAny_pure ?_))
  refine h h3 _ (fun b o e => ?_) sx fun x => ?_
  ·have nb : b ≠ r := by rw [<- hr]; exact C6 (Heap.lt_size e)
   exact dX nb sb o (k2' b o nb (kp b o e))
  ·rw [Dw, qx.mem_iff, pS.mem_iff]
   simp
end
theorem eI : Slot "set" "__and__" "set.__and__" := .of (owner := "set") (n := "__and__") (by rw [typeLookup_type, builtinLookup_eq_fast]; kernel_rfl) (by decide +kernel) (by decide +kernel) (by decide +kernel) (.inl (by decide +kernel)) (by rw [isSubtype_type]; kernel_rfl)
theorem lu : entryFor table "set.__and__" = some Builtin.«frozenset.__and__» := entryFor_alias (id' := "frozenset.__and__") (by kernel_rfl) rfl (by decide +kernel) (by kernel_rfl)
theorem nu (a b : Value) : argsOk "set.__and__" ⟨[a, b], []⟩ := by unfold argsOk; kernel_rfl
theorem nz : fillsNumberSlot (.type "set") "and" = pure true := fillsNumberSlot_of eI.lookup (by decide +kernel) (r := some (.builtin "set.__rand__")) (by rw [typeLookup_type, builtinLookup_eq_fast]; kernel_rfl)
theorem fA : Slot "set" "__or__" "set.__or__" := .of (owner := "set") (n := "__or__") (by rw [typeLookup_type, builtinLookup_eq_fast]; kernel_rfl) (by decide +kernel) (by decide +kernel) (by decide +kernel) (.inl (by decide +kernel)) (by rw [isSubtype_type]; kernel_rfl)
theorem nA : entryFor table "set.__or__" = some Builtin.«frozenset.__or__» := entryFor_alias (id' := "frozenset.__or__") (by kernel_rfl) rfl (by decide +kernel) (by kernel_rfl)
theorem oM (a b : Value) : argsOk "set.__or__" ⟨[a, b], []⟩ := by unfold argsOk; kernel_rfl
theorem oN : fillsNumberSlot (.type "set") "or" = pure true := fillsNumberSlot_of fA.lookup (by decide +kernel) (r := some (.builtin "set.__ror__")) (by rw [typeLookup_type, builtinLookup_eq_fast]; kernel_rfl)
theorem eJ : Slot "set" "__sub__" "set.__sub__" := .of (owner := "set") (n := "__sub__") (by rw [typeLookup_type, builtinLookup_eq_fast]; kernel_rfl) (by decide +kernel) (by decide +kernel) (by decide +kernel) (.inl (by decide +kernel)) (by rw [isSubtype_type]; kernel_rfl)
theorem ly : entryFor table "set.__sub__" = some Builtin.«frozenset.__sub__» := entryFor_alias (id' := "frozenset.__sub__") (by kernel_rfl) rfl (by decide +kernel) (by kernel_rfl)
theorem nB (a b : Value) : argsOk "set.__sub__" ⟨[a, b], []⟩ := by unfold argsOk; kernel_rfl
theorem nC : fillsNumberSlot (.type "set") "sub" = pure true := fillsNumberSlot_of eJ.lookup (by decide +kernel) (r := some (.builtin "set.__rsub__")) (by rw [typeLookup_type, builtinLookup_eq_fast]; kernel_rfl)
section
variable {X : Cx}
def vq (w : World) (rel : Int -> List Int -> List Int -> Prop) : R2 := fun x y H Q => ∃ a b ms ns, x = .ref a /\ y = .ref b /\ a ≠ b /\ H a = some (.ext (SX w a ms)) /\ H b = some (.ext (SX w b ns)) /\ ms.length < 64 /\ ns.length < 64 /\
 ∀ c ks, H c = none -> ks.Nodup -> (∀ x, x ∈ ks <-> rel x ms ns) -> Q (.ref c) (aI H c (.ext (SX w c ks)))
theorem xy (w : World) (hw : X.w = w := by rfl) : fh X (binaryOp .BitAnd) (vq w fun x ms ns => x ∈ ms /\ x ∈ ns) := by
 subst hw
 intro pins s σ H x y v u Q I rx ry h
 obtain ⟨a, b, ms, ns, rfl, rfl, hne, ha, hb, l1, l2, q⟩ := h
 cases rx
 cases ry
 obtain ⟨sa, _⟩ := (show ObjOk X.prog X.w H s.heap a (.ext (SX X.w a ms)) from I.hok a _ ha)
 obtain ⟨sb, _⟩ := (show ObjOk X.prog X.w H s.heap b (.ext (SX X.w b ns)) from I.hok b _ hb)
 refine wpAny_binaryOp_same sa.ty sb.ty nz eI (wpAny_call_entry eI sa.ty lu ?_ (nu _ _))
 show wpAny _ _ (Builtin.Frozenset.slot1 "__and__" ⟨[.ref a, .ref b], []⟩ >>= _) _ _ s
 refine wpAny_bind (wpAny_pure ?_)
 refine wpAny_bind ?_
 show wpAny _ _ (Builtin.Frozenset.isAnySet (.ref a) >>= fun c => _) _ _ _
 refine wpAny_bind (bV sa.ty ?_)
 show wpAny _ _ (Builtin.Frozenset.isAnySet (.ref b)) _ _ _
 refine bV sb.ty ?_
 rw [if_neg (by simp)]
 refine wpAny_bind (wpAny_pure ?_)
 refine wpAny_bind (vo sa sb hne (by omega) (by omega) fun h' ks kp sx nd m => wpAny_pure ⟨_, rfl, by simp, ?_⟩)
 exact ⟨.ref s.heap.objs.size, _, I.new' (s' := { s with heap := h' }) kp (C0 _) rfl rfl sx.ok, rfl, q _ ks I.fresh nd m⟩
theorem zy (w : World) (hw : X.w = w := by rfl) : fh X (binaryOp .BitOr) (vq w fun x ms ns => x ∈ ms \/ x ∈ ns) := by
 subst hw
 intro pins s σ H x y v u Q I rx ry h
 obtain ⟨a, b, ms, ns, rfl, rfl, hne, ha, hb, l1, l2, q⟩ := h
 cases rx
 cases ry
 obtain ⟨sa, _⟩ := (show ObjOk X.prog X.w H s.heap a (.ext (SX X.w a ms)) from I.hok a _ ha)
 obtain ⟨sb, _⟩ := (show ObjOk X.prog X.w H s.heap b (.ext (SX X.w b ns)) from I.hok b _ hb)
 refine wpAny_binaryOp_same sa.ty sb.ty oN fA (wpAny_call_entry fA sa.ty nA ?_ (oM _ _))
 show wpAny _ _ (Builtin.Frozenset.slot1 "__or__" ⟨[.ref a, .ref b], []⟩ >>= _) _ _ s
 refine wpAny_bind (wpAny_pure ?_)
 refine wpAny_bind ?_
 show wpAny _ _ (Builtin.Frozenset.isAnySet (.ref a) >>= fun c => _) _ _ _
 refine wpAny_bind (bV sa.ty ?_)
 show wpAny _ _ (Builtin.Frozenset.isAnySet (.ref b)) _ _ _
 refine bV sb.ty ?_
 rw [if_neg (by simp)]
 refine wpAny_bind (wpAny_pure ?_)
 refine wpAny_bind ?_
 refine vp (id := toString "frozenset." ++ toString "__or__") sa sb hne (by omega) fun h' ks kp sx m => ?_
 refine wpAny_pure ⟨_, rfl, by simp, ?_⟩
 exact ⟨.ref s.heap.objs.size, _, I.new' (s' := { s with heap := h' }) kp (C0 _) rfl rfl sx.ok, rfl, q _ ks I.fresh sx.nd m⟩
theorem xA (w : World) (hw : X.w = w := by rfl) : fh X (binaryOp .Sub) (vq w fun x ms ns => x ∈ ms /\ x ∉ ns) := by
 subst hw
 intro pins s σ H x y v u Q I rx ry h
 obtain ⟨a, b, ms, ns, rfl, rfl, hne, ha, hb, l1, l2, q⟩ := h
 cases rx
 cases ry
 obtain ⟨sa, _⟩ := (show ObjOk X.prog X.w H s.heap a (.ext (SX X.w a ms)) from I.hok a _ ha)
 obtain ⟨sb, _⟩ := (show ObjOk X.prog X.w H s.heap b (.ext (SX X.w b ns)) from I.hok b _ hb)
 refine wpAny_binaryOp_same sa.ty sb.ty nC eJ (wpAny_call_entry eJ sa.ty ly ?_ (nB _ _))
 show wpAny _ _ (Builtin.Frozenset.slot1 "__sub__" ⟨[.ref a, .ref b], []⟩ >>= _) _ _ s
 refine wpAny_bind (wpAny_pure ?_)
 refine wpAny_bind ?_
 show wpAny _ _ (Builtin.Frozenset.isAnySet (.ref a) >>= fun c => _) _ _ _
 refine wpAny_bind (bV sa.ty ?_)
 show wpAny _ _ (Builtin.Frozenset.isAnySet (.ref b)) _ _ _
 refine bV sb.ty ?_
 rw [if_neg (by simp)]
 refine wpAny_bind (wpAny_pure ?_)
 refine wpAny_bind (xx sa sb hne (by omega) (by omega) fun h' ks kp sx m => wpAny_pure ⟨_, rfl, by simp, ?_⟩)
 exact ⟨.ref s.heap.objs.size, _, I.new' (s' := { s with heap := h' }) kp (C0 _) rfl rfl sx.ok, rfl, q _ ks I.fresh sx.nd m⟩
end
section
variable {X : Cx}
end
section
variable {X : Cx}
end
section
variable {X : Cx}
theorem BR (K : PySem.W.Frag) (hc : X.calm = true := by rfl) (h : X.K = K := by rfl) : cu X (.builtin "any") (fun xs H Q => ∃ (p : Addr) (bs : List Bool), xs = [.ref p] /\ SqL K H p (bs.map V.bl) /\ Q (.bl (bs.any id)) H) := by
 subst h
 intro pins s σ H xs us Q I r h
 obtain ⟨p, bs, e, hq, q⟩ := h
 subst e
 obtain ⟨u, e, rx⟩ := fv r
 subst e
 cases rx
 obtain ⟨its, rv, pl, hz⟩ := I.list hq
 have hl := rv.length
 rw [CO] at hl
 refine call_any_walk (wpAny_pyIter_list pl.isList ?_)
 have hne : p ≠ s.heap.objs.size := by
  obtain ⟨o, ho, _⟩ := pl.isList
  exact C6 (Heap.lt_size ho)
 refine ⟨s.heap.objs.size, _, _, _, _, _, fun i => bs.getD i true, rfl, Walks.list (A := X.A.in1) (show X.A.in1.handled = none from I.ok.hd hc) _ p hne its.toArray, ?_, ?_, ?_⟩
 ·refine ⟨⟨_, Heap.get?_push_size _ rfl, rfl, rfl⟩, ?_⟩
  obtain ⟨o, ho, z⟩ := pl.isList
  exact ⟨o, Heap.get?_push_of_some _ ho, z⟩
 ·intro i v s' Q' E' hi hq'
  have hi' : its[i]? = some v := by simpa using hi
  have h2 : i < bs.length := by rw [hl]; exact (CS.mp hi').1
  obtain ⟨u, eu, ru⟩ := rv.get (i := i) (x := .bl bs[i]) (by simp [h2])
  rw [hi'] at eu
  cases eu
  cases ru
  refine wpAny_truthy_bool ?_
  have : bs.getD i true = bs[i] := by simp [h2]
  rw [<- this]; exact hq'
 ·intro h' tk kp
  refine ⟨.bl (bs.any id), H, I.kept (fun b o e => kp b o ?_ (Heap.get?_push_of_some _ e)), ?_, q⟩
  ·have := Heap.lt_size e
   intro z
   rw [CZ] at z
   exact absurd this (by rw [z]; exact Eb _)
  ·show Value.bool _ = Value.bool _
   congr 1
   have e2 : its.toArray.size = bs.length := by simp [hl]
   rw [e2, Ez, EN, EN]
   constructor
   ·rintro ⟨j, hj, h⟩
    have hj' := Ds.mp hj
    refine ⟨bs[j], Do hj', ?_⟩
    simpa [hj'] using h
   ·rintro ⟨x, hx, h⟩
    obtain ⟨j, hj, ej⟩ := Dd.mp hx
    refine ⟨j, Ds.mpr hj, ?_⟩
    simpa [hj, ej] using h
end
section
variable {X : Cx}
end
section
variable {X : Cx}
end
section
open PySem.AutoSeq1 (wpAny_loadPart')
open PySem.MeetsSeq PySem.MeetsSeq2 PySem.MeetsSeq3
theorem oO {us : List Value} {ns : List Int} : ∀ (i : Nat), IntsAre us ns -> i < ns.length -> ∃ t, us[i]? = some (.int (ns.getD i 0) t) := by
 intro i h hi
 obtain ⟨t, e⟩ := IntsAre.int_at h i (us[i]'(by rw [IntsAre.length h]; exact hi)) (by rw [CP])
 exact ⟨t, by rw [CP (by rw [IntsAre.length h]; exact hi), e]⟩
theorem vt (p r : Addr) (us vs : Array Value) (n1 n2 : Nat) (ns ms : List Int) (hi : IntsAre us.toList ns) (hj : IntsAre vs.toList ms) (k : Nat) :
  ∀ i : Nat, us.size - i = k -> i <= us.size -> i <= vs.size -> Meets (Builtin.«list.__eq__.loop» ⟨[.ref p, .ref r, rawInt i, rawInt 0], []⟩)
   (fun _ R s => s.heap.get? p = some { cls := .type "list", data := .seq us n1 } /\ s.heap.get? r = some { cls := .type "list", data := .seq vs n2 } /\ R (.ok (.ret (.bool (HT.bU (ns.drop i) (ms.drop i))))) s) := by
 have z1 : us.size = ns.length := by rw [<- C1]; exact hi.length
 have z2 : vs.size = ms.length := by rw [<- C1]; exact hj.length
 have stop : ∀ i : Nat, us.size <= i \/ vs.size <= i -> Meets (Builtin.«list.__eq__.loop» ⟨[.ref p, .ref r, rawInt i, rawInt 0], []⟩)
   (fun _ R s => s.heap.get? p = some { cls := .type "list", data := .seq us n1 } /\ s.heap.get? r = some { cls := .type "list", data := .seq vs n2 } /\ R (.ok (.ret (.bool (decide (us.size < vs.size))))) s) := by
  intro i hor P w A R s hh
  obtain ⟨hp, g, d, tk, os⟩ := s
  obtain ⟨h1, h2, h3⟩ := hh
  wp_walk using wpAny_loadPart' h1, wpAny_loadPart' h2
  by_cases c : us.size <= i
  ·have e1 : us[((i : Nat) : Int).toNat]? = none := by rw [Du]; exact Ey (by omega)
   rw [e1]
   wp_walk using wpAny_loadPart' h1, wpAny_loadPart' h2
   exact h3
  ·have e2 : vs[((i : Nat) : Int).toNat]? = none := by rw [Du]; exact Ey (by omega)
   have e1 : us[((i : Nat) : Int).toNat]? = some us[i] := by rw [Du]; exact Dp (by omega)
   rw [e1, e2]
   wp_walk using wpAny_loadPart' h1, wpAny_loadPart' h2
   exact h3
 have last : ∀ i : Nat, i <= us.size -> i <= vs.size -> (us.size <= i \/ vs.size <= i) -> HT.bU (ns.drop i) (ms.drop i) = decide (us.size < vs.size) := fun i b1 b2 hor => by
  by_cases c : us.size <= i
  ·rw [Ec (show ns.length <= i by omega)]
   by_cases c2 : vs.size <= i
   ·rw [Ec (show ms.length <= i by omega), HT.kU]
    exact (decide_eq_false (by omega)).symm
   ·rw [Eh (show i < ms.length by omega), HT.jT]
    exact (decide_eq_true (by omega)).symm
  ·rw [Eh (show i < ns.length by omega), Ec (show ms.length <= i by omega), HT.jU]
   exact (decide_eq_false (by omega)).symm
 induction k with
 | zero =>
  intro i hk b1 b2 P w A R s hh
  rw [last i b1 b2 (.inl (by omega))] at hh
  exact stop i (.inl (by omega)) P w A R s hh
 | succ k ih =>
  intro i hk b1 b2
  by_cases c : vs.size <= i
  ·intro P w A R s hh
   rw [last i b1 b2 (.inr c)] at hh
   exact stop i (.inr c) P w A R s hh
  have l1 : i < ns.length := by omega
  have l2 : i < ms.length := by omega
  intro P w A R s hh
  obtain ⟨hp, g, d, tk, os⟩ := s
  obtain ⟨h1, h2, h3⟩ := hh
  obtain ⟨t1, g1⟩ := oO i hi l1
  obtain ⟨t2, g2⟩ := oO i hj l2
  have e1 : us[((i : Nat) : Int).toNat]? = some (.int (ns.getD i 0) t1) := by rw [Du, <- DM]; exact g1
  have e2 : vs[((i : Nat) : Int).toNat]? = some (.int (ms.getD i 0) t2) := by rw [Du, <- DM]; exact g2
  have k1 : ns.getD i 0 = ns[i] := by simp [l1]
  have k2 : ms.getD i 0 = ms[i] := by simp [l2]
  rw [Eh l1, Eh l2, HT.df, <- k1, <- k2] at h3
  wp_walk using wpAny_loadPart' h1, wpAny_loadPart' h2
  rw [e1, e2]
  have hc : ((i : Int) + 1) = ((i + 1 : Nat) : Int) := by omega
  refine wpAny_bind (wpAny_eqBool_int ?_)
  by_cases q : ns.getD i 0 = ms.getD i 0
  ·rw [if_pos q] at h3
   rw [if_pos (by simpa using q)]
   wp_walk
   rw [hc]
   exact ⟨plainId_quiet plain_eq_loop _, codeAny_builtin entry_eq_loop (by
    rw [Around.under_plainId plain_eq_loop _]
    exact ih (i + 1) (by omega) (by omega) (by omega) P w A R _ ⟨h1, h2, h3⟩)⟩
  ·rw [if_neg q] at h3
   rw [if_neg (by simpa using q)]
   wp_walk using wpAny_loadPart' h1, wpAny_loadPart' h2
   rw [e1, e2]
   have hr := HT.uG A.in1 ⟨hp, g, d, tk, os⟩ (ns.getD i 0) t1 (ms.getD i 0) t2 P w
   wp_walk using hr
   exact h3
theorem Cp (p r : Addr) (us vs : Array Value) (n1 n2 : Nat) (ns ms : List Int) (hi : IntsAre us.toList ns) (hj : IntsAre vs.toList ms) :
  Meets (Builtin.«list.__lt__» ⟨[.ref p, .ref r], []⟩)
   (fun _ R s => s.heap.get? p = some { cls := .type "list", data := .seq us n1 } /\ s.heap.get? r = some { cls := .type "list", data := .seq vs n2 } /\ R (.ok (.ret (.bool (HT.bU ns ms)))) s) := by
 intro P w A R s hh
 obtain ⟨hp, g, d, tk, os⟩ := s
 obtain ⟨h1, h2, h3⟩ := hh
 have sub := AutoSeq1.sub_list_list
 wp_walk using wpAny_loadPart' h1, wpAny_loadPart' h2
 exact ⟨plainId_quiet plain_eq_loop _, codeAny_builtin entry_eq_loop (by
  rw [Around.under_plainId plain_eq_loop _]
  exact vt p r us vs n1 n2 ns ms hi hj _ 0 rfl (Dk _) (Dk _) P w A R _ ⟨h1, h2, h3⟩)⟩
end
section
variable {X : Cx}
end
theorem dk {J : It} {H1 : Hp} {js : List (Option Nat)} {σ : L2.St} {tc : TT} {te : TE} {Q : VK} (n : Nat) (item : Nat -> V) (p : Nat -> Bool) (P : Addr -> Nat -> V -> Hp -> Prop) (hn : n < 100000)
  (mono : ∀ acc i v H H', P acc i v H -> SameBut acc H H' -> P acc i v H')
  (hgo : ∀ i H, i < n -> Same H1 H -> J.go i H) (hst : ∀ H, Same H1 H -> J.stop n H) (hy : ∀ i H x H', i < n -> Same H1 H -> J.yld i H x H' -> H' = H /\ x = item i)
  (hc : ∀ i, i < n -> ∀ H2 R, Same H1 H2 -> (∀ H3, Same H2 H3 -> R (p i) H3) -> tc (some (item i) :: cW σ js) H2 R)
  (he : ∀ acc i, i < n -> p i = true -> ∀ H2 R, Same H1 H2 -> H1 acc = none -> H2 acc ≠ none -> (∀ v H3, Same H2 H3 -> P acc i v H3 -> R v H3) -> te (some (item i) :: cW σ js) H2 R)
  (hQ : ∀ acc vs H', Same H1 H' -> H1 acc = none -> H' acc = some (.lst vs) -> Paired (fun i v => P acc i v H') ((CY n).filter p) vs -> Q (.ref acc) H') :
  eZ J H1 (none :: js) (dD 0) tc te σ Q := by
 intro acc hacc
 refine ⟨fun i m ys H => m = n - i /\ i <= n /\ Same H1 H /\ H acc = some (.lst ys) /\ Paired (fun k v => P acc k v H) ((CY i).filter p) ys, ⟨n, by simp, Dk _, Same.new hacc, ag, .nil⟩, ?_⟩
 rintro i m ys H ⟨rfl, hi, s1, ha, hp⟩
 by_cases hlt : i < n
 ·refine .inr ⟨hgo i H hlt s1, fun ys' H' => i < n /\ Same H1 H' /\ H' acc = some (.lst ys') /\ Paired (fun k v => P acc k v H') ((CY (i + 1)).filter p) ys', fun ys' H' ⟨z, a, b, c⟩ => ⟨n - (i + 1), DR _ _ hlt, rfl, hlt, a, b, c⟩, fun x H' y => ?_⟩
  obtain ⟨rfl, rfl⟩ := hy i H x H' hlt s1 y
  refine ⟨uV, hc i hlt _ _ s1 fun H2 s2 => ⟨fun hb => ?_, fun hb => ?_⟩⟩
  ·have ha2 := s2 _ _ ha
   refine he acc i hlt hb _ _ (s1.trans s2) hacc (by rw [ha2]; simp) fun v H3 s3 pv => ?_
   have hlen : ys.length <= i := by
    rw [<- Paired.length hp]
    exact Di (DD _ _) (by simp)
   refine ⟨s3 _ _ ha2, jZ (by omega), hlt, ((s1.trans s2).trans s3).put hacc, ag, ?_⟩
   rw [EE, DQ]
   have e : Fw p [i] = [i] := by simp [hb]
   rw [e]
   refine Paired.snoc (Paired.mapP hp fun k v q => ?_) ?_
   ·exact mono acc k v _ _ (mono acc k v _ _ q (s2.trans s3).but) SameBut.upd
   ·exact mono acc i v _ _ pv SameBut.upd
  ·refine ⟨hlt, s1.trans s2, s2 _ _ ha, ?_⟩
   rw [EE, DQ]
   have e : Fw p [i] = [] := by simp [hb]
   rw [e, Eg]
   exact Paired.mapP hp fun k v q => mono acc k v _ _ q s2.but
 ·have e : i = n := En hi (DT hlt)
  subst e
  exact .inl ⟨hst H s1, hQ acc ys H s1 hacc ha hp⟩
theorem me {H1 : Hp} {js : List (Option Nat)} {σ : L2.St} {tc : TT} {te : TE} {Q : VK} {n : Nat} (p : Nat -> Bool) (hn : n < 100000)
  (hc : ∀ i : Nat, i < n -> ∀ H2 R, Same H1 H2 -> (∀ H3, Same H2 H3 -> R (p i) H3) -> tc (some (.int (0 + (i : Int))) :: cW σ js) H2 R)
  (he : ∀ i : Nat, i < n -> ∀ H2 R, R (.int ((i : Nat) : Int)) H2 -> te (some (.int (0 + (i : Int))) :: cW σ js) H2 R)
  (hQ : ∀ acc H', Same H1 H' -> H1 acc = none -> H' acc = some (.lst (((CY n).filter p).map fun (i : Nat) => V.int (i : Int))) -> Q (.ref acc) H') : eZ (sC 0 n) H1 (none :: js) (dD 0) tc te σ Q :=
 dk (J := sC 0 n) (H1 := H1) (js := js) (σ := σ) (tc := tc) (te := te) (Q := Q) n (fun i => .int (0 + (i : Int))) p (fun _ i v _ => v = V.int (i : Int)) hn (fun _ _ _ _ _ h _ => h)
  (fun _ _ h _ => h) (fun _ _ => C0 _) (fun _ _ _ _ _ _ y => y) hc (fun _ i hi _ H2 R s _ _ k => he i hi H2 R (k _ H2 (Same.refl _) rfl))
  fun acc vs H' s n' e p => hQ acc H' s n' (by rw [e, cJ p])
theorem Same.seqT {K : PySem.W.Frag} {H H' : Hp} {a : Addr} {xs : List V} (e : Same H H') (h : SqT K H a xs) : SqT K H' a xs := by
 rcases h with (h | ⟨o, h⟩) | h
 ·exact .inl (.inl (e _ _ h))
 ·exact .inl (.inr ⟨o, e _ _ h⟩)
 ·exact .inr h
theorem oP {K : PySem.W.Frag} {H1 : Hp} {js : List (Option Nat)} {σ : L2.St} {tc : TT} {te : TE} {Q : VK} {a : Addr} {xs : List V} (p : Nat -> Bool) (f : Nat -> V) (hl : SqT K H1 a xs) (hn : xs.length < 100000)
  (hc : ∀ (i : Nat) x, xs[i]? = some x -> ∀ H2 R, Same H1 H2 -> (∀ H3, Same H2 H3 -> R (p i) H3) -> tc (some x :: cW σ js) H2 R)
  (he : ∀ (i : Nat) x, xs[i]? = some x -> p i = true -> ∀ H2 R, Same H1 H2 -> (∀ H3, Same H2 H3 -> R (f i) H3) -> te (some x :: cW σ js) H2 R)
  (hQ : ∀ acc H', Same H1 H' -> H1 acc = none -> H' acc = some (.lst (((CY xs.length).filter p).map f)) -> Q (.ref acc) H') : eZ (yk K a) H1 (none :: js) (dD 0) tc te σ Q :=
 dk (J := yk K a) (H1 := H1) (js := js) (σ := σ) (tc := tc) (te := te) (Q := Q) xs.length (fun i => xs.getD i .non) p (fun _ i v _ => v = f i) hn (fun _ _ _ _ _ h _ => h)
  (fun i H h s => ⟨xs, xs[i], Same.seqT s hl, by simp [h]⟩) (fun H s => ⟨xs, Same.seqT s hl, C0 _⟩)
  (fun i H x H' h s y => ⟨y.1, by have e := y.2 xs (Same.seqT s hl); simp [e]⟩)
  (fun i h H2 R s k => hc i _ (by simp [h]) H2 R s k) (fun acc i h hp H2 R s n1 n2 k => he i _ (by simp [h]) hp H2 R s fun H3 s3 => k _ H3 s3 rfl)
  fun acc vs H' s n' e p => hQ acc H' s n' (by rw [e, cJ p])
def kO (f : Nat -> Int) (st : List Nat) : Nat := (dd (st.map f)).length
theorem oQ (f : Nat -> Int) (st : List Nat) (i : Nat) : kO f (st ++ [i]) = if f i ∈ st.map f then kO f st else kO f st + 1 := by
 unfold kO
 rw [Df, Dm, EW, ir]
 unfold b7
 by_cases h : f i ∈ st.map f
 ·rw [if_pos h, if_pos (bJ.mpr h)]
 ·rw [if_neg h, if_neg fun z => h (bJ.mp z), C3, Da]
theorem bx {K : PySem.W.Frag} {H1 : Hp} {js : List (Option Nat)} {σ : L2.St} {tc : TT} {te : TE} {Q : VK} {a : Addr} {xs : List V} (p : Nat -> Bool) (f : Nat -> V) (hl : SqL K H1 a xs) (hn : xs.length < 100000)
  (hc : ∀ (i : Nat) x, xs[i]? = some x -> ∀ H2 R, Same H1 H2 -> (∀ H3, Same H2 H3 -> R (p i) H3) -> tc (some x :: cW σ js) H2 R)
  (he : ∀ (i : Nat) x, xs[i]? = some x -> p i = true -> ∀ H2 R, Same H1 H2 -> (∀ H3, Same H2 H3 -> R (f i) H3) -> te (some x :: cW σ js) H2 R)
  (hQ : ∀ acc H', Same H1 H' -> H1 acc = none -> H' acc = some (.lst (((CY xs.length).filter p).map f)) -> Q (.ref acc) H') : eZ (wC K a) H1 (none :: js) (dD 0) tc te σ Q :=
 dk (J := wC K a) (H1 := H1) (js := js) (σ := σ) (tc := tc) (te := te) (Q := Q) xs.length (fun i => xs.getD i .non) p (fun _ i v _ => v = f i) hn (fun _ _ _ _ _ h _ => h)
  (fun i H h s => ⟨xs, xs[i], s.seq hl, by simp [h]⟩) (fun H s => ⟨xs, s.seq hl, C0 _⟩)
  (fun i H x H' h s y => ⟨y.1, by have e := y.2 xs (s.seq hl); simp [e]⟩)
  (fun i h H2 R s k => hc i _ (by simp [h]) H2 R s k) (fun acc i h hp H2 R s n1 n2 k => he i _ (by simp [h]) hp H2 R s fun H3 s3 => k _ H3 s3 rfl)
  fun acc vs H' s n' e p => hQ acc H' s n' (by rw [e, cJ p])
theorem BS {α : Type} {st : List Nat} {g : Nat -> Bool} {F : Nat -> α} : (((CY st.length).filter fun j => g (st.getD j 0)).map fun j => F (st.getD j 0)) = (st.filter g).map F := by
 have e0 : st = (CY st.length).map fun i => st.getD i 0 := by
  apply DV
  ·simp
  ·intro i h1 h2; simp [h1]
 conv => rhs; rw [e0]
 rw [E8, Dq]
 rfl
def brk (f : Nat -> Int) (n : Nat) (wd : Str) (k : Int) (st : List Nat) : Bool :=
 if wd = "most" then decide (k < ((kO f (st.filter fun i => decide (i < n)) : Nat) : Int)) else decide (((kO f (st.filter fun i => decide (i < n)) : Nat) : Int) + (st.length : Int) - ((st.filter fun i => decide (i < n)).length : Int) < k)
def fx (hs : List Int) (x : Int) : Nat := hs.findIdx fun y => decide (y = x)
def xB (hs : List Int) (k : Nat) : Nat := (dd (hs.take (fx hs (hs.getD k 0)))).length
def nV (hs : List Int) : List Nat := (CY hs.length).map (xB hs)
theorem fX {hs : List Int} : (nV hs).length = hs.length := by unfold nV; simp
theorem qu {hs : List Int} {k : Nat} (h : k < hs.length) : (nV hs)[k]? = some (xB hs k) := by
 unfold nV
 rw [CU, Ew h]; rfl
theorem ji {H1 : Hp} {js : List (Option Nat)} {σ : L2.St} {te : TE} {Q : VK} {n : Nat} (f : Nat -> List V) (hn : n < 100000)
  (he : ∀ i : Nat, i < n -> ∀ H2 R, Same H1 H2 -> (∀ r H3, Same H2 H3 -> H2 r = none -> H3 r = some (.lst (f i)) -> R (.ref r) H3) -> te (some (.int (0 + (i : Int))) :: cW σ js) H2 R)
  (hQ : ∀ acc (rs : List Addr) H', Same H1 H' -> H1 acc = none -> H' acc = some (.lst (rs.map V.ref)) -> rs.length = n -> (∀ (i : Nat) r, rs[i]? = some r -> H' r = some (.lst (f i)) /\ H1 r = none) -> (∀ r ∈ rs, r ≠ acc) -> Q (.ref acc) H') :
  eZ (sC 0 n) H1 (none :: js) (dD 0) jW te σ Q :=
 dk (J := sC 0 n) (H1 := H1) (js := js) (σ := σ) (tc := jW) (te := te) (Q := Q) n (fun i => .int (0 + (i : Int))) (fun _ => true) (fun acc i v H => ∃ r, v = .ref r /\ r ≠ acc /\ H1 r = none /\ H r = some (.lst (f i))) hn
  (fun acc i v H H' ⟨r, e, n, h0, h⟩ s => ⟨r, e, n, h0, s r _ n h⟩) (fun _ _ h _ => h) (fun _ _ => C0 _) (fun _ _ _ _ _ _ y => y) (fun _ _ _ _ _ h => h _ (Same.refl _))
  (fun acc i hi _ H2 R s n1 n2 k => he i hi H2 R s fun r H3 s3 nr h3 => k _ H3 s3 ⟨r, rfl, fun z => n2 (by rw [<- z]; exact nr), s.free nr, h3⟩)
  fun acc vs H' s n' e p => by
   rw [Dr.mpr (fun _ _ => rfl)] at p
   have hl : vs.length = n := by rw [<- Paired.length p, DH]
   have all : ∀ (i : Nat) v, vs[i]? = some v -> ∃ r, v = .ref r /\ r ≠ acc /\ H1 r = none /\ H' r = some (.lst (f i)) := fun i v hv => by
    obtain ⟨k, hk, q⟩ := cg p hv
    have hi : i < n := by rw [<- hl]; exact (CS.mp hv).1
    rw [Ew hi] at hk
    cases hk
    exact q
   have ex : ∃ rs : List Addr, vs = rs.map V.ref := by
    refine ⟨vs.map fun v => match v with | .ref r => r | _ => 0, ?_⟩
    rw [Dq]
    apply DV
    ·simp
    ·intro i h1 h2
     obtain ⟨r, er, _⟩ := all i vs[i] (CP h1)
     rw [El]
     show vs[i] = V.ref (match vs[i] with | .ref r => r | _ => 0)
     rw [er]
   obtain ⟨rs, rfl⟩ := ex
   rw [CO] at hl
   refine hQ acc rs H' s n' e hl (fun i r hr => ?_) fun r hr => ?_
   ·obtain ⟨r', er, _, h1, h2⟩ := all i (.ref r) (by rw [CU, hr]; rfl)
    cases er
    exact ⟨h2, h1⟩
   ·obtain ⟨i, hi, ei⟩ := Dd.mp hr
    obtain ⟨r', er, h0, _⟩ := all i (.ref r) (by rw [CU, CP hi, ei]; rfl)
    cases er
    exact h0
theorem vx {l r : List Int} {b : Int} (h : b ∈ l) : fx (l ++ r) b = fx l b := by
 have hl : fx l b < l.length := E1 ⟨b, h, by simp⟩
 unfold fx at *
 rw [List.findIdx_append, if_pos hl]
theorem zz {l : List Int} {b : Int} (h : b ∉ l) : fx (l ++ [b]) b = l.length := by
 have hl : ¬ fx l b < l.length := fun z => by
  have := List.findIdx_getElem (xs := l) (p := fun y => decide (y = b)) (w := z)
  exact h (by rw [<- of_decide_eq_true this]; exact Do _)
 unfold fx at *
 rw [List.findIdx_append, if_neg hl]
 simp [List.findIdx_cons]
theorem vy {l : List Int} {b : Int} (h : b ∈ l) : fx l b < l.length := E1 ⟨b, h, by simp⟩
section
variable {X : Cx}
end
def zA (hs : List Int) (b : Int) : Nat := (dd (hs.take (fx hs b))).length
theorem nE (hs : List Int) : nV hs = hs.map (zA hs) := by
 apply DV
 ·rw [fX, CO]
 ·intro i h1 h2
  rw [fX] at h1
  have := qu h1
  rw [CP (by rw [fX]; exact h1)] at this
  rw [Option.some.inj this, El]
  unfold xB zA
  rw [bM h1]
theorem vz {hs : List Int} {k : Nat} (h : k <= hs.length) : nV (hs.take k) = (nV hs).take k := by
 rw [nE, nE, <- List.map_take]
 apply DX
 intro b hb
 have e : fx (hs.take k) b = fx hs b := by
  have := vx (r := hs.drop k) hb
  rw [E3] at this
  exact this.symm
 unfold zA
 rw [e, List.take_take, EA]
 have := vy hb
 rw [DU] at this
 omega
section
variable {X : Cx} {tg l : Expr} {tl : TE}
def BU (K : PySem.W.Frag) (tl : TE) : TI := fun σ H R => tl σ H fun x H1 => ∃ a, x = .ref a /\ ((∃ xs, SqL K H1 a xs) /\ R (wC K a) H1 \/ (∃ xs, SqT K H1 a xs) /\ R (yk K a) H1)
theorem Cq (K : PySem.W.Frag) (hl : PE X l tl) (h : X.K = K := by rfl) : PI X tg l (BU K tl) := by
 subst h
 intro pins s σ H R I h
 refine bP (hl pins s σ H _ I h) fun v s1 hq__ => ?_
 obtain ⟨x, H1, I1, r1, q1⟩ := hq__
 obtain ⟨a, e, q1⟩ := q1
 subst e
 cases r1
 rcases q1 with ⟨⟨xs, hq⟩, q⟩ | ⟨⟨xs, hq⟩, q⟩
 ·obtain ⟨its, rv, p, hz⟩ := I1.list hq
  refine wpAny_pyIter_list p.isList ?_
  refine ⟨s1.heap.objs.size, [s1.heap.objs.size], _, _, H1, rfl, I1.kept (t' := s1.toks) fun b o e => Heap.get?_push_of_some _ e, lM a _, ⟨_, Heap.get?_push_size _ rfl, rfl, rfl⟩, fun b hb => ?_, q⟩
  have e : b = s1.heap.objs.size := by simpa using hb
  subst e
  exact I1.fpOk (C0 _) (I1.hok.fresh (C0 _))
 ·obtain ⟨its, rv, p, hz⟩ := I1.tuple hq
  refine wpAny_pyIter_tuple (show s1.heap.IsTuple a its.toArray from p) ?_
  refine ⟨s1.heap.objs.size, [s1.heap.objs.size], _, _, H1, rfl, I1.kept (t' := s1.toks) fun b o e => Heap.get?_push_of_some _ e, jO a _, ⟨_, Heap.get?_push_size _ rfl, rfl, rfl⟩, fun b hb => ?_, q⟩
  have e : b = s1.heap.objs.size := by simpa using hb
  subst e
  exact I1.fpOk (C0 _) (I1.hok.fresh (C0 _))
end
theorem fB {st : List Nat} {j : Nat} {x : V} (hx : (st.map fun (i : Nat) => V.int (i : Int))[j]? = some x) : ∃ d : Nat, st[j]? = some d /\ x = V.int (d : Int) /\ st.getD j 0 = d := by
 rw [CU] at hx
 obtain ⟨b, h1, h2⟩ := CV.mp hx
 exact ⟨b, h1, h2.symm, by rw [CT, h1]; rfl⟩
theorem zB {d n : Nat} : decide (d < n) = decide ((d : Int) < (n : Int)) := by
 by_cases z : d < n
 ·rw [decide_eq_true z, decide_eq_true (by omega)]
 ·rw [decide_eq_false z, decide_eq_false (by omega)]
theorem vA {hs : List Int} {st : List Nat} : ((CY (st.map fun (i : Nat) => V.int (i : Int)).length).filter fun _ => true).map (fun j => V.int (hs.getD (st.getD j 0) 0)) = (st.map fun i => hs.getD i 0).map V.int := by
 rw [Dr.mpr (fun _ _ => rfl), CO]
 apply DV
 ·simp
 ·intro j h1 h2
  simp only [CO, DH] at h1
  have : st.getD j 0 = st[j] := by simp only [CT, CP h1, Option.getD_some]
  simp only [El, Ex, this]
section
variable {X : Cx}
end
theorem vB {J : It} {H1 : Hp} {js : List (Option Nat)} {σ : L2.St} {te : TE} {Q : VK} (n : Nat) (item : Nat -> V) (P : Addr -> List V -> Hp -> Prop) (hn : n < 100000)
  (mono : ∀ acc ys H H', P acc ys H -> SameBut acc H H' -> P acc ys H') (h0 : ∀ acc H, P acc [] H)
  (hgo : ∀ i H, i < n -> Same H1 H -> J.go i H) (hst : ∀ H, Same H1 H -> J.stop n H) (hy : ∀ i H x H', i < n -> Same H1 H -> J.yld i H x H' -> H' = H /\ x = item i)
  (he : ∀ acc i ys H2 R, i < n -> Same H1 H2 -> H1 acc = none -> H2 acc = some (.lst ys) -> ys.length = i -> P acc ys H2 -> (∀ v H3, Same H2 H3 -> P acc (ys ++ [v]) H3 -> R v H3) -> te (some (item i) :: cW σ js) H2 R)
  (hQ : ∀ acc ys H', Same H1 H' -> H1 acc = none -> H' acc = some (.lst ys) -> ys.length = n -> P acc ys H' -> Q (.ref acc) H') :
  eZ J H1 (none :: js) (dD 0) jW te σ Q := by
 intro acc hacc
 refine ⟨fun i m ys H => m = n - i /\ i <= n /\ Same H1 H /\ H acc = some (.lst ys) /\ ys.length = i /\ P acc ys H, ⟨n, by simp, Dk _, Same.new hacc, ag, rfl, h0 _ _⟩, ?_⟩
 rintro i m ys H ⟨rfl, hi, s1, ha, hl, hp⟩
 by_cases hlt : i < n
 ·refine .inr ⟨hgo i H hlt s1, fun ys' H' => i < n /\ Same H1 H' /\ H' acc = some (.lst ys') /\ ys'.length = i + 1 /\ P acc ys' H', fun ys' H' ⟨z, a, b, c, d⟩ => ⟨n - (i + 1), DR _ _ hlt, rfl, hlt, a, b, c, d⟩, fun x H' y => ?_⟩
  obtain ⟨rfl, rfl⟩ := hy i H x H' hlt s1 y
  refine ⟨uV, ⟨fun _ => ?_, fun hb => by cases hb⟩⟩
  refine he acc i ys _ _ hlt s1 hacc ha hl hp fun v H3 s3 pv => ?_
  refine ⟨s3 _ _ ha, jZ (by omega), hlt, (s1.trans s3).put hacc, ag, by rw [C3, Da, hl], ?_⟩
  exact mono acc _ _ _ pv SameBut.upd
 ·have e : i = n := En hi (DT hlt)
  subst e
  exact .inl ⟨hst H s1, hQ acc ys H s1 hacc ha hl hp⟩
theorem mf {K : PySem.W.Frag} {H1 : Hp} {js : List (Option Nat)} {σ : L2.St} {te : TE} {Q : VK} {a : Addr} {xs : List V} (P : Addr -> List V -> Hp -> Prop) (hl : SqL K H1 a xs) (hn : xs.length < 100000)
  (mono : ∀ acc ys H H', P acc ys H -> SameBut acc H H' -> P acc ys H') (h0 : ∀ acc H, P acc [] H)
  (he : ∀ acc (i : Nat) x ys H2 R, xs[i]? = some x -> Same H1 H2 -> H1 acc = none -> H2 acc = some (.lst ys) -> ys.length = i -> P acc ys H2 -> (∀ v H3, Same H2 H3 -> P acc (ys ++ [v]) H3 -> R v H3) -> te (some x :: cW σ js) H2 R)
  (hQ : ∀ acc ys H', Same H1 H' -> H1 acc = none -> H' acc = some (.lst ys) -> ys.length = xs.length -> P acc ys H' -> Q (.ref acc) H') :
  eZ (wC K a) H1 (none :: js) (dD 0) jW te σ Q :=
 vB (J := wC K a) (H1 := H1) (js := js) (σ := σ) (te := te) (Q := Q) xs.length (fun i => xs.getD i .non) P hn mono h0
  (fun i H h s => ⟨xs, xs[i], s.seq hl, by simp [h]⟩) (fun H s => ⟨xs, s.seq hl, C0 _⟩)
  (fun i H x H' h s y => ⟨y.1, by have e := y.2 xs (s.seq hl); simp [e]⟩)
  (fun acc i ys H2 R h s n1 n2 ln p k => he acc i _ ys H2 R (by simp [h]) s n1 n2 ln p k) hQ
theorem vC {i j : Int} : decide (i = j) = decide (V.int i = V.int j) := by
 by_cases z : i = j
 ·simp [z]
 ·simp [z]
theorem bA {ns : List Int} {j : Nat} (h : j < ns.length) : nU (ns.map V.int) (j : Int) = some (.int (ns.getD j 0)) := bZ (by simp [h])
def RowsL (H : Hp) (rs : List Addr) (ps : List (List Int)) : Prop := Paired (fun r p => H r = some (.lst (p.map V.int))) rs ps
theorem RowsL.same {H H' : Hp} {rs : List Addr} {ps : List (List Int)} (h : RowsL H rs ps) (s : Same H H') : RowsL H' rs ps := Paired.mapP h fun _ _ q => s _ _ q
theorem RowsL.pools {K : PySem.W.Frag} {H : Hp} {rs : List Addr} {ps : List (List Int)} (h : RowsL H rs ps) : PoolsL K H rs ps := Paired.mapP h fun _ _ q => SqL.of q
theorem RowsL.of {H : Hp} {rs : List Addr} {ps : List (List Int)} (hl : rs.length = ps.length) (h : ∀ (i : Nat) r p, rs[i]? = some r -> ps[i]? = some p -> H r = some (.lst (p.map V.int))) : RowsL H rs ps := lX hl h
structure TieT (H : Hp) (x : Addr × Addr × Str × Int × List Nat) : Prop where
 tp : H x.1 = some (.tup [.str x.2.2.1, .int x.2.2.2.1, .ref x.2.1])
 ts : H x.2.1 = some (.tup (x.2.2.2.2.map fun (i : Nat) => V.int (i : Int)))
 wd : x.2.2.1 = "most" \/ x.2.2.1 = "least"
 sl : x.2.2.2.2.length <= 6
theorem TieT.same {H H' : Hp} {x : Addr × Addr × Str × Int × List Nat} (h : TieT H x) (s : Same H H') : TieT H' x := ⟨s _ _ h.tp, s _ _ h.ts, h.wd, h.sl⟩
theorem TieT.put {H : Hp} {x : Addr × Addr × Str × Int × List Nat} {r : Addr} {xs ys : List V} (h : TieT H x) (hr : H r = some (.lst xs)) : TieT (aI H r (.lst ys)) x := by
 have n1 : x.1 ≠ r := fun z => by have := h.tp; rw [z, hr] at this; cases this
 have n2 : x.2.1 ≠ r := fun z => by have := h.ts; rw [z, hr] at this; cases this
 exact ⟨by rw [ar n1]; exact h.tp, by rw [ar n2]; exact h.ts, h.wd, h.sl⟩
structure TieG (n : Nat) (x : Addr × Addr × Str × Int × List Nat) : Prop where
 k1 : 1 <= x.2.2.2.1
 k6 : x.2.2.2.1 <= 6
 ne : x.2.2.2.2 ≠ []
 lt : ∀ i ∈ x.2.2.2.2, i < n
 up : x.2.2.2.2.Pairwise (· < ·)
structure Ties (K : PySem.W.Frag) (H : Hp) (b : Addr) (ts : List (Addr × Addr × Str × Int × List Nat)) (n : Nat) : Prop where
 ls : SqL K H b (ts.map fun x => V.ref x.1)
 ea : ∀ x ∈ ts, TieT H x
 ln : ts.length <= n
def lz (f : Nat -> Int) (n : Nat) (ts : List (Addr × Addr × Str × Int × List Nat)) : Option Nat := ts.findIdx? fun x => brk f n x.2.2.1 x.2.2.2.1 x.2.2.2.2
def AU : Option Nat -> V
 | none => .non
 | some i => .int ((i : Nat) : Int)
structure Drawn (H : Hp) (l m L T : Addr) (ms : List Int) (rs : List Addr) (ps : List (List Int)) (ts : List (Addr × Addr × Str × Int × List Nat)) (top : Nat) : Prop where
 hl : H l = some (.lst [.ref m, .ref L, .ref T])
 hm : H m = some (.lst (ms.map V.int))
 hL : H L = some (.lst (rs.map V.ref))
 hT : H T = some (.lst (ts.map fun x => V.ref x.1))
 rows : RowsL H rs ps
 mup : ms.Pairwise (· < ·)
 mne : ms ≠ []
 m8 : ms.length <= 8
 mb : ∀ b ∈ ms, 1 <= b /\ b <= 10 ^ 18
 pup : ∀ p ∈ ps, p.Pairwise (· < ·)
 psub : ∀ p ∈ ps, ∀ b ∈ p, b ∈ ms
 p1 : 1 <= ps.length
 ptop : ps.length <= top
 p6 : ps.length <= 6
 tea : ∀ x ∈ ts, TieT H x
 tg : ∀ x ∈ ts, TieG ps.length x
 t12 : ts.length <= 12
theorem AV {l r : List Int} (h : ∀ x ∈ l, x ∈ r) : (dd l).length <= (dd r).length := (l9 l).length_le_of_subset fun x hx => bJ.mpr (h x (bJ.mp hx))
theorem tN {P : List Nat -> Prop} (h0 : P []) (hs : ∀ l x, P l -> P (l ++ [x])) (l : List Nat) : P l := by
 have : ∀ n (l : List Nat), l.length = n -> P l := by
  intro n
  induction n with
  | zero => intro l e; rw [Dt.mp e]; exact h0
  | succ n ih =>
   intro l e
   have hne : l ≠ [] := fun z => by rw [z] at e; simp at e
   rw [<- Fb hne]
   exact hs _ _ (ih _ (by rw [E6, e]; rfl))
 exact this _ l rfl
theorem xC {f g : Nat -> Int} (A : List Nat) : (∀ i ∈ A, ∀ j ∈ A, f i = f j <-> g i = g j) -> kO f A = kO g A := by
 refine tN (P := fun A => (∀ i ∈ A, ∀ j ∈ A, f i = f j <-> g i = g j) -> kO f A = kO g A) (fun _ => rfl) (fun l x ih h => ?_) A
 have ih' := ih fun i hi j hj => h i (Dh _ hi) j (Dh _ hj)
 rw [oQ, oQ, ih']
 have e : f x ∈ l.map f <-> g x ∈ l.map g := by
  constructor
  ·intro m
   obtain ⟨i, hi, e⟩ := C9.mp m
   exact C9.mpr ⟨i, hi, (h i (Dh _ hi) x (by simp)).mp e⟩
  ·intro m
   obtain ⟨i, hi, e⟩ := C9.mp m
   exact C9.mpr ⟨i, hi, (h i (Dh _ hi) x (by simp)).mpr e⟩
 by_cases z : f x ∈ l.map f
 ·rw [if_pos z, if_pos (e.mp z)]
 ·rw [if_neg z, if_neg fun y => z (e.mpr y)]
def kp (f : Nat -> Int) (wd : Str) (k : Int) (st : List Nat) : Bool := if wd = "most" then decide (((kO f st : Nat) : Int) <= k) else decide (k <= ((kO f st : Nat) : Int))
theorem xD {hs : List Int} {i : Nat} (h : i < hs.length) : ((nV hs).map fun (i : Nat) => (i : Int)).getD i 0 = (zA hs (hs.getD i 0) : Int) := by
 rw [nE, Dq]
 simp [h, CT]
theorem tO {f : Nat -> Int} {n : Nat} {wd : Str} {k : Int} {st : List Nat} (h : ∀ i ∈ st, i < n) : brk f n wd k st = !kp f wd k st := by
 have e : st.filter (fun i => decide (i < n)) = st := Dr.mpr fun i hi => decide_eq_true (h i hi)
 unfold brk kp
 rw [e]
 by_cases z : wd = "most"
 ·rw [if_pos z, if_pos z]
  by_cases y : k < (kO f st : Int)
  ·rw [decide_eq_true y, decide_eq_false (by omega)]; rfl
  ·rw [decide_eq_false y, decide_eq_true (by omega)]; rfl
 ·rw [if_neg z, if_neg z]
  by_cases y : k <= (kO f st : Int)
  ·rw [decide_eq_false (by omega), decide_eq_true y]; rfl
  ·rw [decide_eq_true (by omega), decide_eq_false y]; rfl
theorem zC {f g : Nat -> Int} {n : Nat} {wd : Str} {k : Int} {st : List Nat} (hl : ∀ i ∈ st, i < n) (h : ∀ i, i < n -> ∀ j, j < n -> (f i = f j <-> g i = g j)) : kp f wd k st = kp g wd k st := by
 unfold kp
 rw [xC st fun i hi j hj => h i (hl i hi) j (hl j hj)]
theorem oR (l : List Int) (x : Int) : (dd (l ++ [x])).length = if x ∈ l then (dd l).length else (dd l).length + 1 := by
 rw [ir]
 unfold b7
 by_cases h : x ∈ l
 ·rw [if_pos h, if_pos (bJ.mpr h)]
 ·rw [if_neg h, if_neg fun z => h (bJ.mp z), C3, Da]
def cH (p : List Int) : Prop := p = (nV p).map fun (i : Nat) => (i : Int)
theorem zD {hs : List Int} {k : Nat} (h : k < hs.length) : xB hs k < (dd hs).length := by
 unfold xB
 have m : hs.getD k 0 ∈ hs := by rw [bM h]; exact Do h
 have a := vy m
 have nm : hs.getD k 0 ∉ hs.take (fx hs (hs.getD k 0)) := fun z => by
  obtain ⟨i, hi, e⟩ := Dd.mp z
  rw [DU] at hi
  have := List.not_of_lt_findIdx (show i < fx hs (hs.getD k 0) by omega)
  rw [Fo] at e
  simp at this
  exact this (by rw [e, CT])
 have e := oR (hs.take (fx hs (hs.getD k 0))) (hs.getD k 0)
 rw [if_neg nm] at e
 have := AV (l := hs.take (fx hs (hs.getD k 0)) ++ [hs.getD k 0]) (r := hs) fun x hx => by
  rcases C7.mp hx with z | z
  ·exact List.mem_of_mem_take z
  ·rw [CZ.mp z]; exact m
 omega
theorem vD (p : List Int) (x : Int) : nV (p ++ [x]) = nV p ++ [if x ∈ p then zA p x else (dd p).length] := by
 have h1 : (nV (p ++ [x])).take p.length = nV p := by
  rw [<- vz (by simp), List.take_left']; rfl
 have h2 : (nV (p ++ [x]))[p.length]? = some (xB (p ++ [x]) p.length) := qu (by simp)
 have e : nV (p ++ [x]) = (nV (p ++ [x])).take p.length ++ [xB (p ++ [x]) p.length] := by
  have hlen : (nV (p ++ [x])).length = p.length + 1 := by rw [fX]; simp
  conv => lhs; rw [<- E3 p.length (nV (p ++ [x]))]
  congr 1
  apply Fm
  intro i
  rw [List.getElem?_drop]
  cases i with
  | zero => rw [Nat.add_zero, h2]; rfl
  | succ i =>
   rw [Dz (by omega)]
   simp
 rw [e, h1]
 congr 2
 have eg : (p ++ [x]).getD p.length 0 = x := by simp [CT]
 unfold xB
 rw [eg]
 by_cases z : x ∈ p
 ·rw [if_pos z, vx z]
  unfold zA
  rw [List.take_append_of_le_length (DS (vy z))]
 ·rw [if_neg z, zz z, List.take_left']; rfl
theorem tP {p : List Int} (c : cH p) {j : Nat} (h : (j : Int) ∈ p) : zA p (j : Int) = j := by
 obtain ⟨i, hi, e⟩ := Dd.mp h
 have g := xD hi
 rw [<- c, bM hi, e] at g
 omega
theorem iY {p : List Int} (c : cH p) {x : Int} (h : x ∈ p) : ∃ j : Nat, x = (j : Int) /\ j < (dd p).length := by
 rw [c] at h
 obtain ⟨j, hj, e⟩ := C9.mp h
 obtain ⟨i, hi, e2⟩ := Dd.mp hj
 rw [fX] at hi
 have g := qu hi
 rw [CP (by rw [fX]; exact hi), e2] at g
 have := zD hi
 refine ⟨j, e.symm, ?_⟩
 have : j = xB p i := Option.some.inj g
 omega
theorem iZ {p : List Int} (c : cH p) {j : Nat} (h : j < (dd p).length) : (j : Int) ∈ p := by
 refine Decidable.byContradiction fun n => ?_
 have := (l9 p).length_le_of_subset (l₂ := ((CY (dd p).length).filter fun i => decide (i ≠ j)).map fun (i : Nat) => (i : Int)) fun x hx => by
  have hx := bJ.mp hx
  obtain ⟨i, e, hi⟩ := iY c hx
  refine C9.mpr ⟨i, Dw.mpr ⟨Ds.mpr hi, decide_eq_true fun z => n ?_⟩, e.symm⟩
  rw [<- z, <- e]; exact hx
 rw [CO] at this
 have lt : ((CY (dd p).length).filter fun i => decide (i ≠ j)).length < (CY (dd p).length).length := by
  refine Nat.lt_of_le_of_ne (DD _ _) fun z => ?_
  have := List.length_filter_eq_length_iff.mp z j (Ds.mpr h)
  simp at this
 rw [DH] at lt
 omega
theorem mh : cH [] := rfl
theorem j6 {p : List Int} (c : cH p) {j : Nat} (h : j <= (dd p).length) : cH (p ++ [(j : Int)]) := by
 unfold cH
 rw [vD, Df, <- c]
 congr 1
 by_cases z : (j : Int) ∈ p
 ·rw [if_pos z, tP c z]; rfl
 ·rw [if_neg z]
  have : ¬ j < (dd p).length := fun y => z (iZ c y)
  have : j = (dd p).length := by omega
  rw [this]; rfl
def gf (p : List Int) (b : Nat) : List Nat := (CY p.length).filter fun i => decide (p.getD i 0 = (b : Int))
theorem fC {p : List Int} {b i : Nat} : i ∈ gf p b <-> i < p.length /\ p.getD i 0 = (b : Int) := by
 unfold gf
 rw [Dw, Ds, decide_eq_true_iff]
theorem iy {p : List Int} (c : cH p) {b : Nat} (h : b < (dd p).length) : gf p b ≠ [] := by
 obtain ⟨i, hi, e⟩ := Dd.mp (iZ c h)
 intro z
 have : i ∈ gf p b := fC.mpr ⟨hi, by rw [bM hi, e]⟩
 rw [z] at this
 cases this
def dY (st : List Nat) (may : List (List Int)) : List Int := (may.getD (st.getD 0 0) []).filter fun x => st.all fun s => decide (x ∈ may.getD s [])
def iz (may : List (List Int)) (p : List Int) (b : Nat) : List Int := dY (gf p b) may
def pools (may : List (List Int)) (p : List Int) : List (List Int) := (CY (dd p).length).map (iz may p)
theorem cK {may : List (List Int)} {p : List Int} : (pools may p).length = (dd p).length := by unfold pools; simp
theorem iA {may : List (List Int)} {p : List Int} {b : Nat} (h : b < (dd p).length) : (pools may p)[b]? = some (iz may p b) := by
 unfold pools
 rw [CU, Ew h]; rfl
theorem fY {st : List Nat} {may : List (List Int)} {x : Int} (h : st ≠ []) : x ∈ dY st may <-> ∀ s ∈ st, x ∈ may.getD s [] := by
 unfold dY
 rw [Dw, DF]
 constructor
 ·intro ⟨_, a⟩ s hs
  exact of_decide_eq_true (a s hs)
 ·intro a
  refine ⟨a _ ?_, fun s hs => decide_eq_true (a s hs)⟩
  cases st with
  | nil => exact absurd rfl h
  | cons s r => simp
theorem mi {may : List (List Int)} {p : List Int} {b : Nat} {x : Int} (c : cH p) (h : b < (dd p).length) : x ∈ iz may p b <-> ∀ i, i < p.length -> p.getD i 0 = (b : Int) -> x ∈ may.getD i [] := by
 unfold iz
 rw [fY (iy c h)]
 exact ⟨fun a i h1 h2 => a i (fC.mpr ⟨h1, h2⟩), fun a s hs => a s (fC.mp hs).1 (fC.mp hs).2⟩
theorem oS {st : List Nat} {may : List (List Int)} (h : ∀ p ∈ may, p.Pairwise (· < ·)) : (dY st may).Pairwise (· < ·) := by
 unfold dY
 refine List.Pairwise.filter _ ?_
 by_cases z : st.getD 0 0 < may.length
 ·have : may.getD (st.getD 0 0) [] = may[st.getD 0 0] := by rw [CT, CP z]; rfl
  rw [this]
  exact h _ (Do z)
 ·have : may.getD (st.getD 0 0) [] = [] := by rw [CT, Dz (by omega)]; rfl
  rw [this]; exact List.Pairwise.nil
abbrev wG := Str × Int × List Nat
structure IsPlan (may : List (List Int)) (ts : List wG) (hs : List Int) : Prop where
 len : hs.length = may.length
 of : ∀ i, i < hs.length -> hs.getD i 0 ∈ may.getD i []
 kp : ∀ t ∈ ts, kp (fun i => hs.getD i 0) t.1 t.2.1 t.2.2 = true
theorem xE {may : List (List Int)} {ts : List wG} {p ds : List Int} (c : cH p) (hl : p.length = may.length) (d : Deal (pools may p) ds) (lt : ∀ t ∈ ts, ∀ i ∈ t.2.2, i < p.length) (nb : ∀ t ∈ ts, brk (fun i => p.getD i 0) p.length t.1 t.2.1 t.2.2 = false) :
  IsPlan may ts (p.map fun x => ds.getD x.toNat 0) := by
 have dl : ds.length = (dd p).length := by rw [d.len, cK]
 have key : ∀ i, i < p.length -> ∃ b : Nat, p.getD i 0 = (b : Int) /\ b < (dd p).length /\ (p.map fun x => ds.getD x.toNat 0).getD i 0 = ds.getD b 0 := fun i hi => by
  obtain ⟨b, e, hb⟩ := iY c (x := p.getD i 0) (by rw [bM hi]; exact Do hi)
  refine ⟨b, e, hb, ?_⟩
  have : (p.map fun x => ds.getD x.toNat 0).getD i 0 = ds.getD (p.getD i 0).toNat 0 := by simp [CT, hi]
  rw [this, e, Du]
 refine ⟨by rw [CO, hl], fun i hi => ?_, fun t ht => ?_⟩
 ·rw [CO] at hi
  obtain ⟨b, e, hb, e2⟩ := key i hi
  rw [e2]
  have h1 : b < ds.length := by omega
  have h2 : b < (pools may p).length := by rw [cK]; exact hb
  have := d.of b h1 h2
  have e3 : (pools may p)[b] = iz may p b := by
   have := iA (may := may) hb
   rw [CP h2] at this
   exact Option.some.inj this
  rw [e3] at this
  rw [bM h1]
  exact (mi c hb).mp this i hi e
 ·have h := nb t ht
  rw [tO (lt t ht)] at h
  have h : L2.kp (fun i => p.getD i 0) t.1 t.2.1 t.2.2 = true := by simpa using h
  rw [<- h]
  refine zC (lt t ht) fun i hi j hj => ?_
  obtain ⟨b, e, hb, e2⟩ := key i hi
  obtain ⟨b', e', hb', e2'⟩ := key j hj
  show (p.map fun x => ds.getD x.toNat 0).getD i 0 = (p.map fun x => ds.getD x.toNat 0).getD j 0 <-> p.getD i 0 = p.getD j 0
  rw [e2, e2', e, e', bM (by omega : b < ds.length), bM (by omega : b' < ds.length), EL d.nd]
  omega
inductive Pap where
 | tie (j : Nat)
 | short (bs : List Nat)
 | split (ps : List Pap)
inductive Shows (may : List (List Int)) (ts : List wG) : List Int -> Pap -> Prop where
 | tie {p : List Int} {j : Nat} {t : wG} (h : ts[j]? = some t) (b : brk (fun i => p.getD i 0) p.length t.1 t.2.1 t.2.2 = true) : Shows may ts p (.tie j)
 | short {p : List Int} {bs : List Nat} (s : Short (pools may p) bs) : Shows may ts p (.short bs)
 | split {p : List Int} {ps : List Pap} (hl : p.length < may.length) (hn : ps.length = (dd p).length + 1) (h : ∀ (j : Nat) (q : Pap), ps[j]? = some q -> Shows may ts (p ++ [(j : Int)]) q) : Shows may ts p (.split ps)
theorem qv : ∀ {l r : List Int}, l.Pairwise (· < ·) -> r.Pairwise (· < ·) -> (∀ x, x ∈ l <-> x ∈ r) -> l = r := by
 intro l
 induction l with
 | nil =>
  intro r _ _ h
  cases r with
  | nil => rfl
  | cons b r => have := (h b).mpr Dg; cases this
 | cons a l ih =>
  intro r hl hr h
  cases r with
  | nil => have := (h a).mp Dg; cases this
  | cons b r =>
   rw [List.pairwise_cons] at hl hr
   have e : a = b := by
    rcases C5.mp ((h a).mp Dg) with z | z
    ·exact z
    ·rcases C5.mp ((h b).mpr Dg) with y | y
     ·exact y.symm
     ·exact absurd (Int.lt_trans (hr.1 a z) (hl.1 b y)) (Int.lt_irrefl _)
   subst e
   rw [ih hl.2 hr.2 fun x => ?_]
   constructor
   ·intro hx
    rcases C5.mp ((h x).mp (C8 _ hx)) with z | z
    ·exact absurd (hl.1 x hx) (by rw [z]; exact Int.lt_irrefl _)
    ·exact z
   ·intro hx
    rcases C5.mp ((h x).mpr (C8 _ hx)) with z | z
    ·exact absurd (hr.1 x hx) (by rw [z]; exact Int.lt_irrefl _)
    ·exact z
def Bh (way : Nat) (x : Int) (F S : List Int) : Prop := if way = 0 then x ∈ F /\ x ∈ S else if way = 1 then x ∈ F \/ x ∈ S else x ∈ F /\ x ∉ S
theorem jL {ks : List Int} (h : ks.Pairwise (· <= ·)) (nd : ks.Nodup) : ks.Pairwise (· < ·) :=
 (h.and (Ed.mp nd)).imp fun ⟨a, b⟩ => by omega
def AW (H H' : Hp) (l : Addr) (way : Nat) (F S ks : List Int) : Prop := Same H H' /\ H l = none /\ H' l = some (.lst (ks.map V.int)) /\ ks.Pairwise (· < ·) /\ ∀ x, x ∈ ks <-> Bh way x F S
structure Both (K : PySem.W.Frag) (H : Hp) (a b : Addr) (F S U : List Int) : Prop where
 fa : SqL K H a (F.map V.int)
 sb : SqL K H b (S.map V.int)
 pf : F.Pairwise (· < ·)
 ps : S.Pairwise (· < ·)
 fu : ∀ x ∈ F, x ∈ U
 su : ∀ x ∈ S, x ∈ U
 ul : U.length <= 60
theorem mj {F : List Int} (h : F.Pairwise (· < ·)) : F.Nodup := h.imp fun h => Int.ne_of_lt h
theorem Both.l1 {K : PySem.W.Frag} {H : Hp} {a b : Addr} {F S U : List Int} (h : Both K H a b F S U) : F.length <= 60 := Di ((mj h.pf).length_le_of_subset h.fu) h.ul
theorem Both.l2 {K : PySem.W.Frag} {H : Hp} {a b : Addr} {F S U : List Int} (h : Both K H a b F S U) : S.length <= 60 := Di ((mj h.ps).length_le_of_subset h.su) h.ul
def BV (K : PySem.W.Frag) (way : Nat) : Sp := fun vs H Q _ => ∃ (a b : Addr) (F S U : List Int), vs = [.ref a, .ref b] /\ Both K H a b F S U /\ ∀ l ks H', AW H H' l way F S ks -> Q (.ref l) H'
structure May (K : PySem.W.Frag) (H : Hp) (a : Addr) (rs : List Addr) (may : List (List Int)) (U : List Int) : Prop where
 ls : SqL K H a (rs.map V.ref)
 po : PoolsL K H rs may
 up : ∀ p ∈ may, p.Pairwise (· < ·)
 sub : ∀ p ∈ may, ∀ b ∈ p, b ∈ U
 m6 : may.length <= 6
 u20 : U.length <= 26
theorem May.same {K : PySem.W.Frag} {H H' : Hp} {a : Addr} {rs : List Addr} {may : List (List Int)} {U : List Int} (m : May K H a rs may U) (s : Same H H') : May K H' a rs may U := ⟨s.seq m.ls, m.po.same s, m.up, m.sub, m.m6, m.u20⟩
theorem May.rows {K : PySem.W.Frag} {H : Hp} {a : Addr} {rs : List Addr} {may : List (List Int)} {U : List Int} (m : May K H a rs may U) {i : Nat} (h : i < may.length) : ∃ r, rs[i]? = some r /\ SqL K H r ((may.getD i []).map V.int) /\ (may.getD i []).Pairwise (· < ·) /\ ∀ b ∈ may.getD i [], b ∈ U := by
 have e : may.getD i [] = may[i] := fW h
 obtain ⟨r, e1, e2⟩ := m.po.at (CP h)
 rw [e]
 exact ⟨r, e1, e2, m.up _ (Do h), m.sub _ (Do h)⟩
theorem qw {st : List Nat} {may : List (List Int)} {s : Nat} (h : st ≠ []) (x : Int) : x ∈ dY (st ++ [s]) may <-> x ∈ dY st may /\ x ∈ may.getD s [] := by
 rw [fY (by simp), fY h]
 constructor
 ·exact fun a => ⟨fun t ht => a t (Dh _ ht), a s (by simp)⟩
 ·rintro ⟨a, b⟩ t ht
  rcases C7.mp ht with z | z
  ·exact a t z
  ·rw [CZ.mp z]; exact b
theorem tQ {may : List (List Int)} {s : Nat} : dY [s] may = may.getD s [] := by
 unfold dY
 show (may.getD s []).filter _ = _
 refine Dr.mpr fun x hx => ?_
 simp only [List.all_cons, List.all_nil, Bool.and_true]
 exact decide_eq_true hx
theorem eK {st : List Int} {j : Nat} {x : V} (hx : (st.map V.int)[j]? = some x) : ∃ d : Int, st[j]? = some d /\ x = V.int d /\ st.getD j 0 = d := by
 rw [CU] at hx
 obtain ⟨b, h1, h2⟩ := CV.mp hx
 exact ⟨b, h1, h2.symm, by rw [CT, h1]; rfl⟩
theorem vE {K : PySem.W.Frag} {H : Hp} {d : Nat} {a b : Addr} {xs ys : List V} (h1 : SqL K H a xs) (h2 : SqL K H b ys) (hl : xs.length = ys.length) (he : ∀ (j : Nat) x y, xs[j]? = some x -> ys[j]? = some y -> DEq K H d x y true) : DEq K H (d + 1) (.ref a) (.ref b) true := by
 have q := DEq.lst (e := fun _ => true) h1 h2 hl he
 rw [show ((CY xs.length).all fun _ => true) = true from by simp] at q
 exact q
theorem mq {K : PySem.W.Frag} {H : Hp} {d : Nat} {a b : Addr} {xs ys : List V} (h1 : SqT K H a xs) (h2 : SqT K H b ys) (hl : xs.length = ys.length) (he : ∀ (j : Nat) x y, xs[j]? = some x -> ys[j]? = some y -> DEq K H d x y true) : DEq K H (d + 1) (.ref a) (.ref b) true := by
 have q := DEq.tup (e := fun _ => true) h1 h2 he
 rw [show ((CY (min xs.length ys.length)).all (fun _ => true) && xs.length == ys.length) = true from by simp [hl]] at q
 exact q
theorem i4 {K : PySem.W.Frag} {H : Hp} {d : Nat} {x : V} (f : cO x = true) : DEq K H d x x true := by
 have q := DEq.flat (K := K) (H := H) (d := d) f f
 rw [jY f] at q
 exact q
theorem TieT.self {K : PySem.W.Frag} {H : Hp} {x : Addr × Addr × Str × Int × List Nat} (t : TieT H x) : DEq K H 2 (.ref x.1) (.ref x.1) true :=
 mq (SqT.of t.tp) (SqT.of t.tp) rfl fun j u v eu ev => by
  rw [eu] at ev
  cases ev
  rcases j with _ | _ | _ | j
  ·cases eu; exact i4 rfl
  ·cases eu; exact i4 rfl
  ·cases eu
   refine mq (SqT.of t.ts) (SqT.of t.ts) rfl fun j u v eu ev => ?_
   rw [eu] at ev
   cases ev
   obtain ⟨i, _, e⟩ := C9.mp (CW eu)
   rw [<- e]
   exact i4 rfl
  ·cases eu
theorem vF {K : PySem.W.Frag} {H : Hp} {a b : Addr} {ts : List (Addr × Addr × Str × Int × List Nat)} (h1 : SqL K H a (ts.map fun x => V.ref x.1)) (h2 : SqL K H b (ts.map fun x => V.ref x.1)) (ea : ∀ x ∈ ts, TieT H x) : DEq K H 3 (.ref a) (.ref b) true :=
 vE h1 h2 rfl fun j u v eu ev => by
  rw [eu] at ev
  cases ev
  obtain ⟨x, hx, e⟩ := C9.mp (CW eu)
  rw [<- e]
  exact (ea x hx).self
def e8 (x : Addr × Addr × Str × Int × List Nat) : wG := x.2.2
def B7 (hs : List Int) (x : Addr × Addr × Str × Int × List Nat) : Bool := kp (fun i => hs.getD i 0) x.2.2.1 x.2.2.2.1 x.2.2.2.2
theorem zE {α β : Type} {ts : List α} {f : α -> β} {g : Nat -> β} (h : ∀ (i : Nat) x, ts[i]? = some x -> g i = f x) : (CY ts.length).map g = ts.map f := by
 apply Fm
 intro i
 rw [CU, CU]
 by_cases l : i < ts.length
 ·rw [Ew l, CP l]
  show some (g i) = some (f ts[i])
  rw [h i _ (CP l)]
 ·rw [Dz (by simp; omega), Dz (by omega)]; rfl
inductive PapAt (H : Hp) : V -> Pap -> Prop where
 | tie {t : Addr} {j : Nat} (ht : H t = some (.tup [.str "tie", .int ((j : Nat) : Int)])) : PapAt H (.ref t) (.tie j)
 | short {t l : Addr} {bs : List Nat} (ht : H t = some (.tup [.str "short", .ref l])) (hl : H l = some (.lst (bs.map fun (i : Nat) => V.int (i : Int)))) : PapAt H (.ref t) (.short bs)
 | split {t l : Addr} {vs : List V} {ps : List Pap} (ht : H t = some (.tup [.str "split", .ref l])) (hl : H l = some (.lst vs)) (hn : vs.length = ps.length) (h : ∀ (i : Nat) v q, vs[i]? = some v -> ps[i]? = some q -> PapAt H v q) : PapAt H (.ref t) (.split ps)
theorem PapAt.same {H H' : Hp} {v : V} {q : Pap} (p : PapAt H v q) (s : Same H H') : PapAt H' v q := by
 induction p with
 | tie ht => exact .tie (s _ _ ht)
 | short ht hl => exact .short (s _ _ ht) (s _ _ hl)
 | split ht hl hn h ih => exact .split (s _ _ ht) (s _ _ hl) hn fun i v q e1 e2 => ih i v q e1 e2
def nw (H H' : Hp) : Hp := fun a => match H a with
 | none => H' a
 | some _ => none
theorem eL {H H' : Hp} {a : Addr} {o : HO} (h : nw H H' a = some o) : H a = none /\ H' a = some o := by
 unfold nw at h
 cases e : H a with
 | none => rw [e] at h; exact ⟨rfl, h⟩
 | some x => rw [e] at h; cases h
theorem iB {H H' : Hp} {a : Addr} {o : HO} (h1 : H a = none) (h2 : H' a = some o) : nw H H' a = some o := by
 unfold nw
 rw [h1]; exact h2
theorem xF {H H' : Hp} : Same (nw H H') H' := fun b o e => (eL e).2
theorem vG {H Hc H' Hx : Hp} (s : ∀ a, Hc a = none -> H a = none) (k : ∀ a o, Hc a = none -> H' a = some o -> Hx a = some o) : Same (nw Hc H') (nw H Hx) := fun b o e => by
 obtain ⟨e1, e2⟩ := eL e
 exact iB (s b e1) (k b o e1 e2)
def yC (H H' : Hp) (t : Addr) (may : List (List Int)) (ts : List wG) (p : List Int) : Prop :=
 (∃ (l : Addr) (hs : List Int), H' t = some (.tup [.str "plan", .ref l]) /\ H' l = some (.lst (hs.map V.int)) /\ H l = none /\ IsPlan may ts hs) \/
 ∃ (v : V) (q : Pap), H' t = some (.tup [.str "none", v]) /\ PapAt (nw H H') v q /\ Shows may ts p q
theorem tU {f : Nat -> Int} {n j : Nat} {ts : List (Addr × Addr × Str × Int × List Nat)} (h : lz f n ts = some j) : ∃ x, ts[j]? = some x /\ brk f n x.2.2.1 x.2.2.2.1 x.2.2.2.2 = true := by
 unfold lz at h
 rw [Es] at h
 obtain ⟨hj, e, _⟩ := h
 exact ⟨_, CP hj, e⟩
theorem tV {f : Nat -> Int} {n : Nat} {ts : List (Addr × Addr × Str × Int × List Nat)} (h : lz f n ts = none) : ∀ x ∈ ts, brk f n x.2.2.1 x.2.2.2.1 x.2.2.2.2 = false := fun x hx => by
 unfold lz at h
 rw [Fk] at h
 simpa using h x hx
theorem tW {may : List (List Int)} {p : List Int} {U : List Int} (c : cH p) (hl : p.length <= may.length) (h : ∀ q ∈ may, ∀ b ∈ q, b ∈ U) : ∀ q ∈ pools may p, ∀ b ∈ q, b ∈ U := fun q hq b hb => by
 obtain ⟨i, hi, e⟩ := Dd.mp hq
 have hi2 := hi
 rw [cK] at hi2
 have g := iA (may := may) hi2
 rw [CP hi, e] at g
 cases g
 obtain ⟨j, hj, ej⟩ := Dd.mp (iZ c hi2)
 have := (mi c hi2).mp hb j hj (by rw [bM hj, ej])
 have hj2 : j < may.length := by omega
 rw [fW hj2] at this
 exact h _ (Do hj2) b this
theorem vH {o : Option Nat} : decide (AU o = V.non) = o.isNone := by cases o <;> rfl
def vI (c : Addr) (H : Hp) : Hp := fun a => if a = c then none else H a
theorem mv {c a : Addr} {H : Hp} {o : HO} (h : vI c H a = some o) : a ≠ c /\ H a = some o := by
 unfold vI at h
 by_cases z : a = c
 ·rw [if_pos z] at h; cases h
 ·rw [if_neg z] at h; exact ⟨z, h⟩
theorem rP {c a : Addr} {H : Hp} {o : HO} (n : a ≠ c) (h : H a = some o) : vI c H a = some o := by
 unfold vI
 rw [if_neg n]; exact h
section
variable {X : Cx}
end
inductive GPap where
 | tie (j : Int)
 | short (bs : List Int)
 | split (ps : List GPap)
instance : Inhabited GPap := ⟨.tie 0⟩
theorem jC (n : Nat) : -(2 ^ 62) <= ((n : Nat) : Int) := by omega
theorem xG (c : Int) {n : Nat} (h : 0 < n) : ∃ m : Nat, m < n /\ c % ((n : Nat) : Int) = ((m : Nat) : Int) := by
 have w1 := Et c (show ((n : Nat) : Int) ≠ 0 by omega)
 have w2 := Eo c (show (0 : Int) < ((n : Nat) : Int) by omega)
 exact ⟨(c % ((n : Nat) : Int)).toNat, by omega, by omega⟩
theorem Cr {α : Type} {us : List α} (hl : us.length = 1) : ∃ a, us = [a] := by
 match us, hl with
 | [a], _ => exact ⟨a, rfl⟩
theorem Cs {α : Type} {us : List α} (hl : us.length = 2) : ∃ a b, us = [a, b] := by
 match us, hl with
 | [a, b], _ => exact ⟨a, b, rfl⟩
theorem Ct {α : Type} {us : List α} (hl : us.length = 3) : ∃ a b c, us = [a, b, c] := by
 match us, hl with
 | [a, b, c], _ => exact ⟨a, b, c, rfl⟩
theorem Cu {α : Type} {us : List α} (hl : us.length = 4) : ∃ a b c d, us = [a, b, c, d] := by
 match us, hl with
 | [a, b, c, d], _ => exact ⟨a, b, c, d, rfl⟩
theorem Cv {α : Type} {us : List α} (hl : us.length = 5) : ∃ a b c d e, us = [a, b, c, d, e] := by
 match us, hl with
 | [a, b, c, d, e], _ => exact ⟨a, b, c, d, e, rfl⟩
section
variable {X : Cx}
end
def xH (K : PySem.W.Frag) (a : Addr) (n : Nat) : It :=
 ⟨fun i H => i < n /\ ∃ xs, SqL K H a xs /\ xs.length = n, fun i H x H' => H' = H /\ ∀ xs, SqL K H a xs -> xs[n - 1 - i]? = some x, fun i _ => n <= i⟩
theorem vJ {P : Program} {w : World} {K : PySem.W.Frag} {tg : Expr} (a it : Addr) (n : Nat) : Turn P w K tg (xH K a n) [it] it (fun i h => i <= n /\ h.IsRevIter it a ((n : Int) - 1 - (i : Int))) where
 mem := by simp
 obj := fun i h st b hb => by
  have e : b = it := by simpa using hb
  subst e
  obtain ⟨_, o, e, c, d⟩ := st
  exact ⟨o, e, fun v z => by rw [d] at z; cases z⟩
 keep := fun i h h' st k => ⟨st.1, st.2.at fun o e => k it (by simp) o e⟩
 item := by
  intro X hP hw hK hc i pins s σ H E I hf st hg
  subst hP hw hK
  obtain ⟨hi, xs, hq, hn⟩ := hg
  obtain ⟨its, rv, p, hz⟩ := I.list hq
  have hx : xs[n - 1 - i]? = some (xs[n - 1 - i]'(by omega)) := CP (by omega)
  obtain ⟨u, hu, ru⟩ := rv.get hx
  obtain ⟨f0, f1, f2, f3, f4, f5⟩ := hf it (by simp)
  obtain ⟨_, st⟩ := st
  have e : (n : Int) - 1 - (i : Int) = ((n - 1 - i : Nat) : Int) := by omega
  rw [e] at st
  refine wpAny_pyNext_rev_item st p.isList (x := u) (by simpa using hu) fun h' st' sb => ?_
  have e2 : ((n - 1 - i : Nat) : Int) - 1 = (n : Int) - 1 - ((i + 1 : Nat) : Int) := by omega
  rw [e2] at st'
  have I1 : Inv X pins σ H { s with heap := h' } := I.turned (t' := s.toks) (fun b o hb e => (sb.2 b hb).trans e) f0 f1 f3 f4 f5
  obtain ⟨o, e, c, d⟩ := id st'
  exact ⟨u, rfl, lL (s := { s with heap := h' }) e c d (by decide) ⟨_, H, I1, ru, ⟨rfl, fun ys hy => by rw [I.list_inj hy hq]; exact hx⟩, ⟨hi, st'⟩, fun b hb => (hf b hb).1⟩⟩
 done := by
  intro X hP hw hK hc i pins s σ H E I hf st hg
  subst hP hw hK
  obtain ⟨f0, f1, f2, f3, f4, f5⟩ := hf it (by simp)
  obtain ⟨hi, st⟩ := st
  have hg : n <= i := hg
  have e : (n : Int) - 1 - (i : Int) = -1 := by omega
  rw [e] at st
  exact wpAny_pyNext_rev_end (I.ok.hd hc) st fun h' eb => ⟨rfl, I.turned (t' := s.toks) (fun b o hb e => eb b o hb e) f0 f1 f3 f4 f5⟩
 self := fun _ _ _ _ _ st h => wpAny_pyIter_revIter st.2 h
section
variable {X : Cx}
def BW (K : PySem.W.Frag) (ta : TA) : TI := fun σ H R => ta σ H fun vs H1 => ∃ a xs, vs = [.ref a] /\ SqL K H1 a xs /\ R (xH K a xs.length) H1
theorem zF {a tg : Expr} {ta : TA} {p pos : Pos} (K : PySem.W.Frag) (hg : Gl X "reversed") (hm : X.mg "reversed" = none) (ha : PA X [a] ta) (hK : X.K = K := by rfl) (hs : starEach [a] X.env = [(false, eval a X.env)] := by rfl) :
  PI X tg (.Call (.Name "reversed" p) [a] [] pos) (BW K ta) := by
 subst hK
 intro pins s σ H R I h
 refine Call_ (eB I hg hm boot_reversed (PyProof.Rows.callWith_type1 (bP (ha pos pins s σ H _ I h) fun us s1 ⟨vs, H1, I1, r1, q1⟩ => ?_) (by rw [hs]; rfl) (by rfl)))
 obtain ⟨l1, xs, e, hq1, q⟩ := q1
 subst e
 cases r1 with
 | cons r rr =>
  cases rr
  cases r
  obtain ⟨its1, rv1, p1, _⟩ := I1.list hq1
  have hl := rv1.length
  refine call_reversed_list p1.isList ?_
  have hit : (s1.heap.push (revObj l1 ((its1.toArray.size : Int) - 1))).IsRevIter s1.heap.objs.size l1 ((its1.toArray.size : Int) - 1) := ⟨_, Heap.get?_push_size _ rfl, rfl, rfl⟩
  refine wpAny_pyIter_revIter hit ?_
  have I2 : Inv X pins σ H1 { s1 with heap := s1.heap.push (revObj l1 ((its1.toArray.size : Int) - 1)) } := I1.kept (t' := s1.toks) fun b o e => Heap.get?_push_of_some _ e
  refine ⟨_, [s1.heap.objs.size], _, _, H1, rfl, I2, vJ l1 _ xs.length, ⟨Dk _, ?_⟩, fun b hb => ?_, q⟩
  ·have e : (xs.length : Int) - 1 - ((0 : Nat) : Int) = (its1.toArray.size : Int) - 1 := by rw [C2]; omega
   rw [e]; exact hit
  ·have e : b = s1.heap.objs.size := by simpa using hb
   subst e
   exact I1.fpOk (C0 _) (I1.hok.fresh (C0 _))
end
section
variable {prog : Program} {w : World} {A : Around} {E : Value -> Shared -> Prop} {h : Heap} {g : Array GenState} {d : PySem.Drawn} {t : Nat} {os : OsState} {a : Addr} {o : Obj}
end
section
variable {P : Program} {w : World} {A : Around} {R : Result -> Shared -> Prop} {p d I : Addr} {its : List Value} {vs : List (bT × Value)} {h0 : Heap}
end
section
variable {X : Cx}
end
def cP (H : Hp) (a : Addr) (x : Int × Int) : Prop := H a = some (.tup [.int x.1, .int x.2])
def TupsL (H : Hp) (ps : List Addr) (row : List (Int × Int)) : Prop := Paired (cP H) ps row
def RowAt (H : Hp) (r : Addr) (row : List (Int × Int)) : Prop := ∃ ps : List Addr, H r = some (.lst (ps.map V.ref)) /\ TupsL H ps row
def BillL (H : Hp) (rs : List Addr) (rows : List (List (Int × Int))) : Prop := Paired (RowAt H) rs rows
theorem bh {α β : Type} {F : α -> β -> Prop} {l : List α} {r : List β} {i : Nat} {a : α} (h : Paired F l r) (e : l[i]? = some a) : ∃ b, r[i]? = some b /\ F a b := by
 induction h generalizing i with
 | nil => cases e
 | cons x t ih =>
  cases i with
  | zero => cases e; exact ⟨_, rfl, x⟩
  | succ i => exact ih e
theorem TupsL.same {H H' : Hp} {ps : List Addr} {row : List (Int × Int)} (h : TupsL H ps row) (s : Same H H') : TupsL H' ps row := Paired.mapP h fun _ _ q => s _ _ q
theorem TupsL.len {H : Hp} {ps : List Addr} {row : List (Int × Int)} (h : TupsL H ps row) : ps.length = row.length := Paired.length h
theorem RowAt.same {H H' : Hp} {r : Addr} {row : List (Int × Int)} (h : RowAt H r row) (s : Same H H') : RowAt H' r row := let ⟨ps, a, b⟩ := h; ⟨ps, s _ _ a, b.same s⟩
theorem BillL.same {H H' : Hp} {rs : List Addr} {rows : List (List (Int × Int))} (h : BillL H rs rows) (s : Same H H') : BillL H' rs rows := Paired.mapP h fun _ _ q => q.same s
theorem BillL.len {H : Hp} {rs : List Addr} {rows : List (List (Int × Int))} (h : BillL H rs rows) : rs.length = rows.length := Paired.length h
theorem BillL.at {H : Hp} {rs : List Addr} {rows : List (List (Int × Int))} (h : BillL H rs rows) {i : Nat} {row : List (Int × Int)} (e : rows[i]? = some row) : ∃ r, rs[i]? = some r /\ RowAt H r row := cg h e
theorem BillL.get {H : Hp} {rs : List Addr} {rows : List (List (Int × Int))} (h : BillL H rs rows) {i : Nat} {r : Addr} (e : rs[i]? = some r) : ∃ row, rows[i]? = some row /\ RowAt H r row := bh h e
theorem iC {α β : Type} {f : Nat -> β} {g : α -> β} {l : List α} (h : ∀ (i : Nat) x, l[i]? = some x -> f i = g x) : (CY l.length).map f = l.map g := by
 apply DV
 ·simp
 ·intro i h1 h2
  simp only [El, Ex]
  exact h i _ (CP (by simpa using h2))
def AX (row : List (Int × Int)) (b : Int) : Option Int := (row.find? fun x => x.1 == b).map (·.2)
theorem vK {n j : Nat} (h : j < n) : wD n (j : Int) = some j := by
 unfold wD
 rw [if_pos (by omega), if_pos (by omega), Du]
theorem iD (L : List Int) (c : Int) {n : Nat} (e : L.length = n) (h : 0 < n) : ∃ d, nU (L.map V.int) (c % (n : Int)) = some (.int d) /\ d ∈ L := by
 obtain ⟨m, hm, em⟩ := xG c h
 rw [em]
 have hl : m < L.length := by omega
 exact ⟨L[m], bZ (by simp [hl]), Do hl⟩
theorem vL {K : PySem.W.Frag} {H1 : Hp} {js : List (Option Nat)} {σ : L2.St} {te : TE} {Q : VK} {a : Addr} {ns : List Int} (f : Int -> V) (hl : SqL K H1 a (ns.map V.int)) (hn : ns.length < 100000)
  (he : ∀ (i : Nat) x, ns[i]? = some x -> ∀ H2 R, Same H1 H2 -> (∀ H3, Same H2 H3 -> R (f x) H3) -> te (some (.int x) :: cW σ js) H2 R)
  (hQ : ∀ acc H', Same H1 H' -> H1 acc = none -> H' acc = some (.lst (ns.reverse.map f)) -> Q (.ref acc) H') : eZ (xH K a (ns.map V.int).length) H1 (none :: js) (dD 0) jW te σ Q := by
 have ln : (ns.map V.int).length = ns.length := CO ..
 rw [ln]
 refine dk (J := xH K a ns.length) (H1 := H1) (js := js) (σ := σ) (tc := jW) (te := te) (Q := Q) ns.length (fun i => .int (ns.getD (ns.length - 1 - i) 0)) (fun _ => true) (fun _ i v _ => v = f (ns.getD (ns.length - 1 - i) 0)) hn (fun _ _ _ _ _ h _ => h)
  (fun i H h s => ⟨h, _, s.seq hl, ln⟩) (fun H s => C0 _)
  (fun i H x H' h s y => ⟨y.1, ?_⟩)
  (fun i h H2 R s k => k _ (Same.refl _)) (fun acc i h hp H2 R s n1 n2 k => ?_)
  fun acc vs H' s n' e p => hQ acc H' s n' ?_
 ·have e := y.2 _ (s.seq hl)
  rw [CU] at e
  obtain ⟨z, hz, rfl⟩ := CV.mp e
  rw [CT, hz]; rfl
 ·have hx : ns[ns.length - 1 - i]? = some (ns.getD (ns.length - 1 - i) 0) := by rw [CT, CP (by omega)]; rfl
  exact he _ _ hx H2 R s fun H3 s3 => k _ H3 s3 rfl
 ·rw [e, cJ p, Dr.mpr (fun _ _ => rfl)]
  congr 2
  apply DV
  ·simp
  ·intro i h1 h2
   simp only [CO, DH] at h1
   simp only [El, Ex, List.getElem_reverse]
   rw [CT, CP (by omega)]; rfl
theorem zG {ns : List Int} (c : Int) (h : ns.Pairwise (· < ·)) : ((ns.reverse.map fun x => c - x) : List Int).Pairwise (· < ·) := by
 refine List.Pairwise.map _ (fun a b (z : b < a) => by show c - a < c - b; omega) ?_
 exact List.pairwise_reverse.mpr h
structure RowOk (bs : List Int) (tp : Int) (row : List (Int × Int)) : Prop where
 up : (row.map (·.1)).Pairwise (· < ·)
 inn : ∀ x ∈ row, x.1 ∈ bs /\ 0 <= x.2 /\ x.2 < tp
 len : row.length <= bs.length
theorem RowAt.but {H : Hp} {r l : Addr} {row : List (Int × Int)} {xs : List V} {o : HO} (h : RowAt H r row) (hl : H l = some (.lst xs)) (ne : r ≠ l) : RowAt (aI H l o) r row := by
 obtain ⟨ps, a, b⟩ := h
 exact ⟨ps, by rw [ar ne]; exact a, Paired.mapP b fun a x q => by
  show aI H l o a = _
  rw [ar (fun z => by rw [cP, z, hl] at q; cases q)]; exact q⟩
theorem TupsL.but {H : Hp} {l : Addr} {ps : List Addr} {row : List (Int × Int)} {xs : List V} {o : HO} (h : TupsL H ps row) (hl : H l = some (.lst xs)) : TupsL (aI H l o) ps row :=
 Paired.mapP h fun a x q => by
  show aI H l o a = _
  rw [ar (fun z => by rw [cP, z, hl] at q; cases q)]; exact q
theorem BillL.but {H : Hp} {l : Addr} {rs : List Addr} {rows : List (List (Int × Int))} {xs : List V} {o : HO} (h : BillL H rs rows) (hl : H l = some (.lst xs)) (ne : l ∉ rs) : BillL (aI H l o) rs rows := by
 refine lX h.len fun i r row e1 e2 => ?_
 obtain ⟨row', e3, q⟩ := h.get e1
 rw [e2] at e3
 cases e3
 exact q.but hl fun z => ne (z ▸ CW e1)
theorem rQ {l : List Int} {x : Int} (h : l.Pairwise (· < ·)) (hx : ∀ y ∈ l, y < x) : (l ++ [x]).Pairwise (· < ·) :=
 E7.mpr ⟨h, DN .., fun a ha b hb => by rw [CZ.mp hb]; exact hx a ha⟩
theorem xI {bs : List Int} (h : bs.Pairwise (· < ·)) {i : Nat} {x : Int} (hx : bs[i]? = some x) : ∀ y ∈ bs.take i, y < x := by
 intro y hy
 obtain ⟨hi, ex⟩ := CS.mp hx
 obtain ⟨j, hj, ej⟩ := Dd.mp hy
 rw [DU] at hj
 rw [Fo] at ej
 rw [<- ej, <- ex]
 exact DE.mp h j i _ _ (by omega)
theorem a9 {α β : Type} {F : α -> β -> Prop} {l : List α} {r : List β} (h : Paired F l r) {a : α} {b : β} (q : F a b) : Paired F (l ++ [a]) (r ++ [b]) := Paired.snoc h q
def zH (row r2 : List (Int × Int)) : List (Int × Int) := (row.filter fun x => (AX r2 x.1).isSome).map fun x => (x.1, x.2 + (AX r2 x.1).getD 0)
def aJ (row : List (Int × Int)) : List Int := row.map (·.1)
def Cw (rows : List (List (Int × Int))) : List Nat -> List (Int × Int)
 | [] => []
 | s :: st => st.foldl (fun acc j => zH acc (rows.getD j [])) (rows.getD s [])
def lA (rows : List (List (Int × Int))) : List Nat -> List Int
 | [] => []
 | s :: st => st.foldl (fun acc j => acc.filter fun b => decide (b ∈ aJ (rows.getD j []))) (aJ (rows.getD s []))
theorem i5 {rows : List (List (Int × Int))} {st : List Nat} (h : st ≠ []) (s : Nat) : lA rows (st ++ [s]) = (lA rows st).filter fun b => decide (b ∈ aJ (rows.getD s [])) := by
 cases st with
 | nil => exact absurd rfl h
 | cons a r => show ((r ++ [s]).foldl _ _) = _; rw [List.foldl_append]; rfl
theorem rR {α : Type} {P : List α -> Prop} (h1 : ∀ a, P [a]) (h2 : ∀ l a, l ≠ [] -> P l -> P (l ++ [a])) : ∀ l, l ≠ [] -> P l := by
 intro l
 have key : ∀ (n : Nat) (l : List α), l.length = n -> l ≠ [] -> P l := by
  intro n
  induction n with
  | zero => intro l e h; exact absurd (Dt.mp e) h
  | succ n ih =>
   intro l e h
   have e1 := Fb h
   by_cases z : l.dropLast = []
   ·rw [z] at e1
    rw [<- e1]
    exact h1 _
   ·rw [<- e1]
    exact h2 _ _ z (ih _ (by rw [E6]; omega) z)
 exact key _ l rfl
theorem vM {rows : List (List (Int × Int))} : ∀ st, st ≠ [] -> ∀ b, b ∈ lA rows st <-> ∀ s ∈ st, b ∈ aJ (rows.getD s []) := by
 refine rR (fun s b => ?_) (fun st s hne ih b => ?_)
 ·show b ∈ aJ (rows.getD s []) <-> _
  simp
 ·rw [i5 hne, Dw, ih b, decide_eq_true_iff]
  constructor
  ·rintro ⟨h1, h2⟩ x hx
   rcases C7.mp hx with z | z
   ·exact h1 x z
   ·rw [CZ.mp z]; exact h2
  ·intro h
   exact ⟨fun x hx => h x (Dh _ hx), h s (Dc _ (by simp))⟩
theorem AY {α β : Type} {l : List α} {d : α} {g : α -> Bool} {F : α -> β} : (((CY l.length).filter fun j => g (l.getD j d)).map fun j => F (l.getD j d)) = (l.filter g).map F := by
 have e0 : l = (CY l.length).map fun i => l.getD i d := by
  conv => lhs; rw [<- List.map_id l]
  exact (iC fun i x hx => by rw [CT, hx]; rfl).symm
 conv => rhs; rw [e0]
 rw [E8, Dq]
 rfl
def lB (p : List Int) (b : Int) (i : Nat) : List Nat := (CY i).filter fun j => decide (p.getD j 0 = b)
theorem tX (p : List Int) (b : Int) (i : Nat) : lB p b (i + 1) = if p.getD i 0 = b then lB p b i ++ [i] else lB p b i := by
 unfold lB
 rw [EE, DQ]
 by_cases z : p.getD i 0 = b
 ·rw [if_pos z, ER, if_pos (decide_eq_true z)]; rfl
 ·rw [if_neg z, ER, if_neg (by rw [decide_eq_false z]; decide)]; exact Eg _
theorem vN (p : List Int) (b : Nat) : lB p (b : Int) p.length = gf p b := rfl
section
variable {X : Cx}
end
theorem qy {α β : Type} {F : α -> β -> Prop} {l l2 : List α} {r r2 : List β} (h : Paired F l r) (h2 : Paired F l2 r2) : Paired F (l ++ l2) (r ++ r2) := by
 induction h with
 | nil => exact h2
 | cons h _ ih => exact .cons h ih
def hA (hs : List (Option Int)) (j : Nat) : Option Int := hs.getD j none
section
variable {X : Cx}
end
theorem bN {α : Type} {l : List α} {i : Nat} {x : α} (h : l[i]? = some x) : l.take (i + 1) = l.take i ++ [x] := by
 rw [EI, h]; rfl
end L2
namespace L2
open PySem PySem.Spec PyProof.Rows PySem.W
def vO {α : Type} (n : Nat) (lt : Nat -> Nat -> Bool) : KasT α -> Option α
 | .ret a => some a
 | .ask i j k => if decide (i < n) && decide (j < n) && !(i == j) then vO n lt (k (lt i j)) else none
theorem mw {α : Type} {cmp : Nat -> Nat -> (Bool -> Shared -> Prop) -> Shared -> Prop} {n : Nat} {lt : Nat -> Nat -> Bool} {s : Shared} (hc : ∀ i j C, i < n -> j < n -> i ≠ j -> C (lt i j) s -> cmp i j C s) {Q : α -> Shared -> Prop} {a : α} :
  ∀ (t : KasT α), vO n lt t = some a -> Q a s -> t.kasWp cmp Q s
 | .ret b, h, q => by cases h; exact q
 | .ask i j k, h, q => by
  unfold vO at h
  split at h
  ·rename_i hh
   rw [Dx, Dx] at hh
   obtain ⟨⟨h1, h2⟩, h3⟩ := hh
   exact hc i j _ (of_decide_eq_true h1) (of_decide_eq_true h2) (by simpa using h3) (mw hc _ h q)
  ·cases h
section
variable {prog : Program} {w : World} {A : Around} {E : Value -> Shared -> Prop} {s : Shared}
end
section
variable {X : Cx}
end
section
variable {prog : Program} {w : World} {A : Around} {E : Value -> Shared -> Prop} {s : Shared}
end
section
variable {X : Cx}
end
theorem BX {a b : Int} : decide (V.int a = V.int b) = decide (a = b) := by simp
theorem xJ {α : Type} (L : List Int) (g : Int -> α) : ((CY L.length).filter (fun _ => true)).map (fun i => g (L.getD i 0)) = L.map g := by
 rw [Dr.mpr (fun _ _ => rfl)]
 apply DV
 ·simp
 ·intro i h1 h2
  rw [CO] at h2
  rw [El, El, Ex, CT, CP h2]
  rfl
theorem my {as : List Addr} {us : List Value} (h : Vals (as.map V.ref) us) : us = as.map Value.ref := by
 induction as generalizing us with
 | nil => cases h; rfl
 | cons a as ih =>
  cases h with
  | cons r t => cases r; rw [ih t]; rfl
section
variable {X : Cx}
end
section
variable {α : Type} [DecidableEq α]
end
section
variable {α : Type} [DecidableEq α]
end
section
variable {α : Type}
end
section
variable {prog : Program} {w : World} {A : Around} {E : Value -> Shared -> Prop} {s : Shared} {T : String} {r d : Addr} {n : Nat} {P : Nat -> Value -> Prop} {OK : Heap -> Prop}
end
section
variable {X : Cx}
end
theorem gE {α β : Type} {F G : α -> β -> Prop} : ∀ {l : List α} {r : List β}, Paired F l r -> (∀ a ∈ l, ∀ b, F a b -> G a b) -> Paired G l r
 | _, _, .nil, _ => .nil
 | _, _, .cons h t, f => .cons (f _ Dg _ h) (gE t fun a ha => f a (C8 _ ha))
theorem vP {x y : V} {A B : Prop} (h : x = y) (hB : B) : if (!decide (x = y)) = true then A else B := by
 rw [decide_eq_true h]; exact bE hB
end L2
namespace L2
open PySem PySem.Spec PyProof.Rows
theorem ObjOk.has {P : Program} {w : World} {H : Hp} {h : Heap} {a : Addr} : ∀ {o : HO}, ObjOk P w H h a o -> ∃ ob, h.get? a = some ob := by
 intro o x
 cases o with
 | lst xs => obtain ⟨_, _, _, _, e⟩ := x; exact ⟨_, e⟩
 | tup xs => obtain ⟨_, _, _, ob, e, _⟩ := x; exact ⟨_, e⟩
 | dK kvs => obtain ⟨_, _, _, _, ob, _, _, e, _⟩ := x; exact ⟨_, e⟩
 | dT kvs => obtain ⟨_, _, _, _, ob, _, _, e, _⟩ := x; exact ⟨_, e⟩
 | set S n => obtain ⟨ob, _, _, _, e, _⟩ := x; exact ⟨_, e⟩
 | ins C dx fs => obtain ⟨_, _, _, e, _⟩ := x; exact ⟨_, e⟩
 | own y => exact x
 | xd fs => obtain ⟨_, ⟨ob, _, _, e, _⟩, _⟩ := x; exact ⟨_, e⟩
 | rng lo hi => obtain ⟨_, _, _, e⟩ := x; exact ⟨_, e⟩
 | frz ob u => obtain ⟨e, _⟩ := x; exact ⟨_, e⟩
 | tbl ps => exact ⟨_, x⟩
 | met f y => exact ⟨_, x⟩
 | ext φ => exact x.2.1
theorem HOk.stays {P : Program} {w : World} {H : Hp} {h h' : Heap} (ok : HOk P w H h) (k : ∀ b u, (H b).isSome = true -> h.get? b = some u -> h'.get? b = some u) : HOk P w H h' := fun a o q =>
  (ok a o q).stay (fun b u hb e => k b u (by rcases hb with rfl | hb; · rw [q]; rfl
                                             · rw [hb]; rfl) e) (fun _ z => z) fun _ _ z => z
structure Flies (P : Program) (w : World) (outer : List Env) (H H' : Hp) (s : Shared) (ea C : Addr) (a0 : Value) (B : Heap) (s' : Shared) : Prop where
 os : s'.os = s.os
 bare : AllBare s'.gens
 un : Un (gU outer) [] H H' s.heap s'.heap
 hok : HOk P w H' s'.heap
 fl : Heap.FlyingW B outer ea (.ref C) a0 s'.heap
 new : s.heap.get? ea = none
 free : H' ea = none
 cov : ∀ b o, s'.heap.get? b = some o -> b ∉ gU outer -> ((s.heap.get? b).isSome = true \/ (H' b).isSome = true) -> B.get? b = some o
def qz (P : Program) (w : World) : ur := fun outer H s E e s' => ∃ (ea C : Addr) (a0 : Value) (B : Heap) (H' : Hp), e = .ref ea /\ E (.ref C) none H' /\ Flies P w outer H H' s ea C a0 B s'
theorem AZ {X : Cx} : mT (qz X.prog X.w) X E0 := fun _ _ _ _ _ _ _ h => by obtain ⟨_, _, _, _, _, _, z, _⟩ := h; exact z.elim
section
variable {P : Program} {w : World} {K : PySem.W.Frag} {mg : Str -> Option Value} {base : Heap}
theorem Fun.okR {x qual : Str} {st : Stmt} {f : Addr} {fd : FuncData} {N ps : List Str} {k : Nat} {sp : Sp} (F : Fun K x qual st f fd) (S : FnScope N ps (au st)) (len : ∀ vs H Q E, sp vs H Q E -> vs.length = ps.length)
  (hb : ∀ (cdv : Value) (A : Around) (outer : List Env) (s : Shared) (H : Hp) (vs : List V) (Q : VK) (E : XK), Room k (A.deeper (envOfC qual (au st) s.heap.objs.size f cdv)) -> sp vs H Q E ->
   ∃ t, PSs (gd (qz P w) P w K mg base N qual (au st) f cdv A outer s H E) (cV st) t /\ t { nx := fun _ H' => Q .non H', rt := Q } (gX N vs) H) : FnOk P w K mg base (qz P w) (k + 1) f fd ps sp := by
 obtain ⟨_, _, _, _, _, _, cdv, _, _, rfl, lk, hcd⟩ := F.ex
 exact yt lk hcd S len fun A outer s H vs Q E hr hsp => hb cdv A outer s H vs Q E hr hsp
structure ExC (K : PySem.W.Frag) (mg : Str -> Option Value) (x : Str) (C : Addr) : Prop where
 at' : mg x = some (.ref C)
 ok : PySem.W.excIn K C [.type "ValueError", .type "Exception", .type "BaseException", .type "object"] "ValueError.__new__" = true
theorem ExC.obj {x : Str} {C : Addr} {h : Heap} (O : ExC K mg x C) (X : K.In h) : ∃ bm N nm q bs hdct sn sub ab col dd k0 k1 k2 k3 k5 mN,
  h.get? C = some (excClassObj nm q C N bs bm hdct sn sub ab col dd k0 k1 k2 k3 k5 "ValueError.__new__") /\ h.Ns N mN /\ mN "__init__" = none /\ OwnTail h [.type "ValueError", .type "Exception", .type "BaseException", .type "object"] bm := by
 have z := O.ok
 unfold PySem.W.excIn at z
 cases hl : K.lookup C with
 | none => rw [hl] at z; cases z
 | some o =>
  rw [hl] at z
  have hC := X _ _ hl
  clear hl
  split at z
  ·rename_i dd c sl e
   cases e
   split at z
   ·rename_i C' bm k0 k1 k2 k3 n k5 e1 e2
    simp only [Dx, beq_iff_eq, EY] at z
    obtain ⟨⟨⟨⟨⟨a1, a2⟩, a3⟩, a4⟩, a5⟩, a6⟩ := z
    subst a1
    subst a2
    cases c
    cases sl
    dsimp only at e1 e2 a3 a4 a5 a6
    subst e1
    subst e2
    subst a3
    exact ⟨bm, _, _, _, _, _, _, _, _, _, _, k0, k1, k2, k3, k5, _, hC, .of_isNs (PySem.W.isNs_of_in X a5), PySem.W.nsMap_none_of_in X a5 a6, PySem.W.tail_of_in X a4⟩
   ·cases z
  ·cases z
end
section
variable {P : Program} {w : World} {K : PySem.W.Frag} {mg : Str -> Option Value} {base : Heap} {N : List Str} {qual : Str} {scope : Scope} {f : Addr} {cd : Value} {A : Around} {outer : List Env} {s₀ : Shared} {H₀ : Hp} {E : XK}
theorem zI {pins : List (Addr × Obj)} {σ : St} {H : Hp} {s : Shared} {h' : Heap} {e C : Addr} {vs : List Value} (I : Inv (gd (qz P w) P w K mg base N qual scope f cd A outer s₀ H₀ E) pins σ H s) (hx : Heap.MadeExcOf s.heap h' e (.ref C) vs)
  (h : E (.ref C) none H) : (gd (qz P w) P w K mg base N qual scope f cd A outer s₀ H₀ E).xe (.ref e) { s with heap := h' } := by
 have st : gU (envOfC qual scope s₀.heap.objs.size f cd :: outer) = s₀.heap.objs.size :: gU outer := rfl
 have hin : ∀ env ∈ (envOfC qual scope s₀.heap.objs.size f cd :: outer), ∀ a, env.frame = some a -> a ∈ gU (envOfC qual scope s₀.heap.objs.size f cd :: outer) := fun env he a ha => Fg.mpr ⟨env, he, ha⟩
 have fr : s.heap.FunFrames base (envOfC qual scope s₀.heap.objs.size f cd :: outer) := I.stack
 have fr' := PySem.W.funFrames_hide fr hin
 refine wpAny_leaves_madeW (s := { s with heap := h' }) I.ok.frames rfl (fun b o q => PySem.W.of_hideAll _ q) fr' hx fun h2 t fl tu bt up => ?_
 have up2 : s.heap.UpToSlots h2 := (Heap.UpToSlots.of_keeps hx.keeps).trans up
 have kB : ∀ b o, s.heap.get? b = some o -> b ∉ gU (envOfC qual scope s₀.heap.objs.size f cd :: outer) -> (PySem.W.hideAll s.heap (gU (envOfC qual scope s₀.heap.objs.size f cd :: outer))).get? b = some o := fun b o q n => PySem.W.hideAll_get _ q n
 have kp : ∀ b o, s.heap.get? b = some o -> b ∉ gU (envOfC qual scope s₀.heap.objs.size f cd :: outer) -> h2.get? b = some o := fun b o q n => fl.1 b o (kB b o q n)
 have old : ∀ b o, s₀.heap.get? b = some o -> b ∉ gU outer -> b ∉ gU (envOfC qual scope s₀.heap.objs.size f cd :: outer) := fun b o q n z => by
  rw [st] at z
  rcases C5.mp z with z | z
  ·rw [z] at q; exact Eb _ (Heap.lt_size q)
  ·exact n z
 have tr : ∀ b, (H b).isSome = true -> b ∉ gU (envOfC qual scope s₀.heap.objs.size f cd :: outer) := fun b q z => by rw [I.stkFree b z] at q; cases q
 have un0 : Un (gU outer) [] H₀ H s₀.heap s.heap := I.base
 have slots : ∀ b o, s.heap.get? b = some o -> b ∈ gU outer -> ∃ sl, h2.get? b = some { o with slots := sl } := fun b o q m => by
  obtain ⟨_, o', q', nf⟩ := fr.mem (show b ∈ gU (envOfC qual scope s₀.heap.objs.size f cd :: outer) by rw [st]; exact C8 _ m)
  rw [q] at q'; cases q'
  exact up2 b o q nf
 refine ⟨e, C, .ref t, _, H, rfl, h, I.os, I.bare, ⟨fun b o q n nf _ => kp b o (un0.keep b o q n nf (by simp)) (old b o q nf), fun b o q n m _ => ?_, fun b o q n _ => un0.free b o q n (by simp), fun b o q _ => ?_, un0.tups, un0.frzs, un0.tbls⟩,
  I.hok.stays fun b u q e => kp b u e (tr b q), fl, ?_, ?_, fun b o q n z => ?_⟩
 ·obtain ⟨sl, q1⟩ := un0.slot b o q n m (by simp)
  obtain ⟨sl2, q2⟩ := slots b _ q1 m
  exact ⟨sl2, q2⟩
 ·obtain ⟨o1, q1⟩ := un0.there b o q (by simp)
  by_cases m : b ∈ gU outer
  ·obtain ⟨sl, q2⟩ := slots b _ q1 m
   exact ⟨_, q2⟩
  ·exact ⟨o1, kp b o1 q1 (old b o q m)⟩
 ·cases q : s₀.heap.get? e with
  | none => rfl
  | some o =>
   obtain ⟨o1, q1⟩ := un0.there e o q (by simp)
   rw [hx.new] at q1; cases q1
 ·cases q : H e with
  | none => rfl
  | some o =>
   obtain ⟨o1, q1⟩ := (I.hok e o q).has
   rw [hx.new] at q1; cases q1
 ·have nb : b ∉ gU (envOfC qual scope s₀.heap.objs.size f cd :: outer) /\ ∃ o1, s.heap.get? b = some o1 := by
   rcases z with z | z
   ·obtain ⟨o0, q0⟩ := DY.mp z
    obtain ⟨o1, q1⟩ := un0.there b o0 q0 (by simp)
    exact ⟨old b o0 q0 n, o1, q1⟩
   ·obtain ⟨o0, q0⟩ := DY.mp z
    obtain ⟨o1, q1⟩ := (I.hok b o0 q0).has
    exact ⟨tr b z, o1, q1⟩
  obtain ⟨n1, o1, q1⟩ := nb
  have q2 := kp b o1 q1 n1
  have q : h2.get? b = some o := q
  rw [q] at q2; cases q2
  exact kB b _ q1 n1
def zJ (E : XK) (C : Addr) (t : TA) : TS := fun _ σ H => t σ H fun vs H1 => vs.length <= sizeLine /\ E (.ref C) none H1
theorem vQ {x : Str} {C : Addr} {np cpos pos : Pos} {e : Expr} {es : List Expr} {t : TA} (O : ExC K mg x C) (ha : PA (gd (qz P w) P w K mg base N qual scope f cd A outer s₀ H₀ E) (e :: es) t)
  (hg : Gl (gd (qz P w) P w K mg base N qual scope f cd A outer s₀ H₀ E) x := by rfl) (hd : (x == ("__debug__" : Str)) = false := by decide)
  (he : starEach (e :: es) (envOfC qual scope s₀.heap.objs.size f cd) = (false, eval e (envOfC qual scope s₀.heap.objs.size f cd)) :: starEach es (envOfC qual scope s₀.heap.objs.size f cd) := by rfl)
  (hpl : (backTo cpos (starEach es (envOfC qual scope s₀.heap.objs.size f cd))).any (·.1) = false := by rfl) :
  PS (gd (qz P w) P w K mg base N qual scope f cd A outer s₀ H₀ E) (.Raise (some (.Call (.Name x np) (e :: es) [] cpos)) none pos) (zJ E C t) := by
 intro pins s σ H D I h
 obtain ⟨bm, Nn, nm, q, bs, hdct, sn, sub, ab, col, dd, k0, k1, k2, k3, k5, mN, hC, hN, hni, T⟩ := O.obj I.mod.kin
 have he' : starEach (e :: es) (gd (qz P w) P w K mg base N qual scope f cd A outer s₀ H₀ E).env = (false, eval e (gd (qz P w) P w K mg base N qual scope f cd A outer s₀ H₀ E).env) :: starEach es (gd (qz P w) P w K mg base N qual scope f cd A outer s₀ H₀ E).env := he
 have hpl' : (backTo cpos (starEach es (gd (qz P w) P w K mg base N qual scope f cd A outer s₀ H₀ E).env)).any (·.1) = false := hpl
 refine wpAny_Raise_call_subT (nm := nm) (q := q) (C := C) (N := Nn) (bm := bm) (bs := bs) (hdct := hdct) (sn := sn) (sub := sub) (ab := ab) (col := col) (dd := dd) (k0 := k0) (k1 := k1) (k2 := k2) (k3 := k3) (k5 := k5) PySem.F.excBase_ValueError (mN := mN) (T.hasType PySem.F.excBase_ValueError.hasBase) (I.ok.hd rfl) (by rw [he']; exact (Bool.false_or _).trans hpl') hni (qV I hg O.at' ⟨rfl, ?_⟩ hd)
 have ha' := bP (ha cpos pins s σ H _ I h) fun us s1 ⟨vs, H1, I1, r, z, q⟩ => (show us.length <= sizeLine /\ ∃ vs H1, Inv _ pins σ H1 s1 /\ Vals vs us /\ E (.ref C) none H1 from ⟨by rw [<- r.length]; exact z, vs, H1, I1, r, q⟩)
 rw [he'] at ha' ⊢
 refine Calls.evalArgs_plain (wpAny_mono ha' (fun us s1 ⟨z, vs, H1, I1, r, q⟩ => ⟨rfl, z, I1.bk _ _ hC, hN.keeps I1.bk, T.keeps I1.bk, fun h' e hx => ?_⟩) fun _ _ y => y)
 exact zI I1 hx q
end
section
variable {X : Cx} {pins : List (Addr × Obj)} {σ : St} {H H' : Hp} {s s' : Shared} {ea C : Addr} {a0 : Value} {B h2 : Heap}
end
section
variable {X : Cx} {k : Nat} {f C : Addr} {fd : FuncData} {ps : List Str} {sp : Sp} {x y : Str} {st : Stmt} {p cpos epos np hpos pos : Pos} {e : Expr} {es : List Expr} {t : TA} {b₀ : Stmt} {suite : List Stmt}
end
section
variable {X : Cx} {k i : Nat} {f C : Addr} {fd : FuncData} {ps : List Str} {sp : Sp} {x y n : Str} {st : Stmt} {p cpos epos np hpos pos : Pos} {e : Expr} {es : List Expr} {t : TA} {b₀ : Stmt} {suite : List Stmt} {ts : TS} {c : Value}
end
section
open PySem.W PySem.Builtin.ObjectAttr PySem.Builtin PySem.Builtin.Getset_descriptor
variable {K : Frag} {x D : Addr}
variable {prog : Program} {w : World} {A : Around} {s : Shared} {E : Value -> Shared -> Prop}
end
section
variable {X : Cx} {k : Nat} {f : Addr} {fd : FuncData} {ps : List Str} {sp : Sp} {x : Str} {p pos : Pos} {e : Expr} {es : List Expr} {t : TA} {st : Stmt}
theorem Cy (De : Def X.K X.mg x st ps f fd) (F : FnOk X.prog X.w X.K X.mg X.base (qz X.prog X.w) k f fd ps sp) (hr : Room k X.A) (ha : PA X (e :: es) t) (hg : Gl X x := by rfl) (hdb : (x == ("__debug__" : Str)) = false := by decide)
  (he : starEach (e :: es) X.env = (false, eval e X.env) :: starEach es X.env := by rfl) (hpl : (backTo pos (starEach es X.env)).any (·.1) = false := by rfl) : PE X (.Call (.Name x p) (e :: es) [] pos) (uF sp [] E0 t) :=
 rb F hr hg De.at' De.fn.kp De.bd .nil AZ ha hdb he hpl
end
abbrev BY := List (Int × Int)
section
variable {es : BY} {cn k : Nat} {row : List Int}
end
section
variable {es : BY} {cn : Nat} {S : List Int}
end
theorem vR {c : Prop} [Decidable c] {A B : Prop} (h : c) (hB : B) : if (!decide c) = true then A else B := by rw [decide_eq_true h]; exact hB
section
variable {es : BY} {cn : Nat} {r : List Int}
end
end L2
namespace L2
open PySem PySem.Spec PyProof.Rows PySem.W
def bO : Nat -> List (List Nat)
 | 0 => [[]]
 | n + 1 => bO n ++ (bO n).map fun l => l ++ [n]
def ltS (n i j : Nat) : Bool := HT.bU (((bO n).getD i []).map fun (x : Nat) => (x : Int)) (((bO n).getD j []).map fun (x : Nat) => (x : Int))
theorem dt (n : Nat) : (bO n).length = 2 ^ n := by
 induction n with
 | zero => rfl
 | succ n ih => show (bO n ++ _).length = _; rw [C3, CO, ih, Nat.pow_succ]; omega
def iE (h : Heap) (as : List Addr) (ls : List (List Int)) : Prop := as.length = ls.length /\ ∀ (i : Nat) a l, as[i]? = some a -> ls[i]? = some l -> ∃ us n, h.get? a = some { cls := .type "list", data := .seq us n } /\ IntsAre us.toList l
theorem kP {α : Type} {l : List α} {i : Nat} {x d : α} (h : l[i]? = some x) : l.getD i d = x := by rw [CT, h]; rfl
section
variable {s : Shared} {A : Around} {w : World} {prog : Program} {E : Value -> Shared -> Prop}
theorem tY {as : List Addr} {ls : List (List Int)} (hu : A.units < cLine) (hp : iE s.heap as ls) {i j : Nat} {C : Bool -> Shared -> Prop} (hi : i < ls.length) (hj : j < ls.length) (h : C (HT.bU (ls.getD i []) (ls.getD j [])) s) :
  kas_ask prog w A oneType' (as.map Value.ref) i j C s := by
 have la := hp.1
 obtain ⟨a, ha⟩ : ∃ a, as[i]? = some a := ⟨_, CP (by omega)⟩
 obtain ⟨b, hb⟩ : ∃ b, as[j]? = some b := ⟨_, CP (by omega)⟩
 obtain ⟨x, hx⟩ : ∃ x, ls[i]? = some x := ⟨_, CP hi⟩
 obtain ⟨y, hy⟩ : ∃ y, ls[j]? = some y := ⟨_, CP hj⟩
 obtain ⟨us, n1, e1, i1⟩ := hp.2 i a x ha hx
 obtain ⟨vs, n2, e2, i2⟩ := hp.2 j b y hb hy
 rw [kP hx, kP hy] at h
 unfold kas_ask
 rw [kP (show (as.map Value.ref)[i]? = some (.ref a) by rw [CU, ha]; rfl), kP (show (as.map Value.ref)[j]? = some (.ref b) by rw [CU, hb]; rfl)]
 rw [keyLt'_oneType, oneLt'_eq]; simp only [if_true]
 refine wpAny_bind (wpAny_cRoomFor hu (wpAny_bind (wpAny_callSpecialIfBound?_slot ⟨_, e1, rfl⟩ PySem.F.slot_list_lt ?_)))
 exact call_meets PySem.F.slot_list_lt ⟨_, e1, rfl⟩ PySem.F.entry_list_lt (PySem.F.args_list_lt_2 _ _) (Cp a b us vs n1 n2 x y i1 i2) ⟨e1, e2, wpAny_truthy_bool h⟩
end
theorem nF {f : Nat -> Int} : ∀ (A B : List Nat), (∀ x ∈ A, ∀ y ∈ B, (f x = f y <-> x = y) /\ (f x < f y <-> x < y)) -> HT.bU (A.map f) (B.map f) = HT.bU (A.map fun (x : Nat) => (x : Int)) (B.map fun (x : Nat) => (x : Int))
 | [], B, _ => by cases B <;> rfl
 | _ :: _, [], _ => rfl
 | a :: A, b :: B, h => by
  rw [Dm, Dm, Dm, Dm, HT.df, HT.df, nF A B fun x hx y hy => h x (C8 _ hx) y (C8 _ hy)]
  obtain ⟨h1, h2⟩ := h a Dg b Dg
  by_cases z : a = b
  ·rw [if_pos (h1.mpr z), if_pos (by rw [z])]
  ·rw [if_neg fun q => z (h1.mp q), if_neg fun q => z (by omega)]
   by_cases y : a < b
   ·rw [decide_eq_true (h2.mpr y), decide_eq_true (by omega)]
   ·rw [decide_eq_false fun q => y (h2.mp q), decide_eq_false (by omega)]
theorem cL (n : Nat) : ∀ l ∈ bO n, ∀ x ∈ l, x < n := by
 induction n with
 | zero => intro l hl x hx; rw [CZ.mp hl] at hx; cases hx
 | succ n ih =>
  intro l hl x hx
  rcases C7.mp hl with z | z
  ·have := ih l z x hx; omega
  ·obtain ⟨l', h1, rfl⟩ := C9.mp z
   rcases C7.mp hx with y | y
   ·have := ih l' h1 x y; omega
   ·rw [CZ.mp y]; omega
def b8 (st : List Int) (l : List Nat) : List Int := l.map fun k => st.getD k 0
theorem qA {st : List Int} (up : st.Pairwise (· < ·)) {i j : Nat} (hi : i < st.length) (hj : j < st.length) : (st.getD i 0 = st.getD j 0 <-> i = j) /\ (st.getD i 0 < st.getD j 0 <-> i < j) := by
 have key : ∀ a b, a < b -> b < st.length -> st.getD a 0 < st.getD b 0 := fun a b h hb => by
  rw [kP (CP (show a < st.length by omega)), kP (CP hb)]
  exact DE.mp up a b (by omega) hb h
 rcases Nat.lt_trichotomy i j with z | z | z
 ·have := key i j z hj
  exact ⟨⟨fun q => by omega, fun q => by omega⟩, ⟨fun _ => z, fun _ => this⟩⟩
 ·subst z
  exact ⟨⟨fun _ => rfl, fun _ => rfl⟩, ⟨fun q => by omega, fun q => by omega⟩⟩
 ·have := key j i z hi
  exact ⟨⟨fun q => by omega, fun q => by omega⟩, ⟨fun q => by omega, fun q => by omega⟩⟩
def IntsL (H : Hp) (as : List Addr) (ls : List (List Int)) : Prop := Paired (fun a l => H a = some (.lst (l.map V.int))) as ls
theorem i6 {as : List Addr} : ∀ (q : List Nat), (∀ i ∈ q, i < as.length) -> Vals ((q.map fun i => as.getD i 0).map V.ref) (q.map fun i => (as.map Value.ref).getD i Value.none)
 | [], _ => .nil
 | i :: q, h => by
  obtain ⟨a, ha⟩ : ∃ a, as[i]? = some a := ⟨_, CP (h i Dg)⟩
  refine .cons ?_ (i6 q fun j hj => h j (C8 _ hj))
  show (as.map Value.ref).getD i Value.none = Value.ref (as.getD i 0)
  rw [kP ha, kP (show (as.map Value.ref)[i]? = some (.ref a) by rw [CU, ha]; rfl)]
section
variable {X : Cx}
end
section
variable {X : Cx} {pins : List (Addr × Obj)} {σ : St} {H : Hp} {s : Shared} {h' : Heap}
end
section
variable {X : Cx} {a : Expr} {ta : TA} {p1 p2 kpos pos : Pos}
end
end L2
namespace L2
open PySem PySem.Spec PyProof.Rows
theorem IntsL.same {H H' : Hp} {as : List Addr} {ls : List (List Int)} (h : IntsL H as ls) (s : Same H H') : IntsL H' as ls := Paired.mapP h fun _ _ q => s _ _ q
theorem IntsL.but {H H' : Hp} {acc : Addr} {as : List Addr} {ls : List (List Int)} (h : IntsL H as ls) (ne : ∀ b ∈ as, b ≠ acc) (s : SameBut acc H H') : IntsL H' as ls := gE h fun b hb l q => s b _ (ne b hb) q
theorem xK (n : Nat) : ∀ l ∈ bO n, l.length <= n := by
 induction n with
 | zero => intro l hl; rw [CZ.mp hl]; exact C0 _
 | succ n ih =>
  intro l hl
  rcases C7.mp hl with z | z
  ·have := ih l z; omega
  ·obtain ⟨l', h1, rfl⟩ := C9.mp z
   have := ih l' h1
   rw [C3, Da]
   omega
theorem tZ (st : List Int) (l : List Nat) (j : Nat) : b8 st (l ++ [j]) = b8 st l ++ [st.getD j 0] := by unfold b8; rw [Df]; rfl
end L2
namespace L2
open PySem PySem.Spec PyProof.Rows PySem.W
abbrev SD := Array Nat × Array (Nat × Nat × Nat) × Nat
abbrev cA (κ : SortKind) (it : Array Keyed) (t : SD) : SortSt := SortSt.mk' κ (t.1.map (kas_item it)) t.2.1 t.2.2 none
def jj (n : Nat) (lt : Nat -> Nat -> Bool) (p : Array Nat) (a b : Nat) : Option Bool := if decide (a < p.size) && decide (b < p.size) && decide (p.getD a 0 < n) && decide (p.getD b 0 < n) && !(p.getD a 0 == p.getD b 0) then some (lt (p.getD a 0) (p.getD b 0)) else none
def fq {β : Type} (step : Nat -> β -> SD -> Option (Bool × β × SD)) : List Nat -> β -> SD -> Option (β × SD)
 | [], b, t => some (b, t)
 | x :: l, b, t => (step x b t).bind fun r => if r.1 = true then some (r.2.1, r.2.2) else fq step l r.2.1 r.2.2
section
variable {prog : Program} {w : World} {E : Value -> Shared -> Prop} {A : Around} {κ : SortKind} {it : Array Keyed} {s : Shared} {n : Nat} {lt : Nat -> Nat -> Bool}
theorem cS {β : Type} {step : Nat -> β -> SD -> Option (Bool × β × SD)} {body : Nat -> β -> StateT SortSt Sem (ForInStep β)}
  (h : ∀ x b t r, step x b t = some r -> ∀ R : ForInStep β -> SortSt -> Shared -> Prop, R (if r.1 = true then .done r.2.1 else .yield r.2.1) (cA κ it r.2.2) s -> kasC (model prog w) A E (body x b) R (cA κ it t) s)
  {Q : β -> SortSt -> Shared -> Prop} : ∀ (ls : List Nat) (b : β) (t : SD) (r : β × SD), fq step ls b t = some r -> Q r.1 (cA κ it r.2) s -> kasC (model prog w) A E (forIn ls b body) Q (cA κ it t) s := by
 intro ls
 induction ls with
 | nil =>
  intro b t r e q
  cases e
  exact kasC_nil q
 | cons x l ih =>
  intro b t r e q
  obtain ⟨y, e1, e2⟩ := CQ.mp e
  refine kasC_cons (h x b t y e1 _ ?_)
  by_cases z : y.1 = true
  ·rw [if_pos z] at e2 ⊢
   cases e2
   exact q
  ·rw [if_neg z] at e2 ⊢
   exact ih _ _ _ e2 q
def cD (prog : Program) (w : World) (A : Around) (κ : SortKind) (it : Array Keyed) (s : Shared) (n : Nat) (lt : Nat -> Nat -> Bool) : Prop := ∀ i j (C : Bool -> Shared -> Prop), i < n -> j < n -> i ≠ j -> C (lt i j) s -> kas_cmp prog w A κ it i j C s
theorem vS {t : SD} {i : Nat} (hi : i < t.1.size) : (arrOf (cA κ it t))[i]? = some (kas_item it (t.1.getD i 0)) := by
 show (t.1.map (kas_item it))[i]? = _
 rw [Array.getElem?_map, Dp hi]
 have e : t.1.getD i 0 = t.1[i] := by simp [Fq, hi]
 rw [e]
 rfl
theorem rS (ans : cD prog w A κ it s n lt) {t : SD} {i j : Nat} {Q : Option Bool -> SortSt -> Shared -> Prop} (hi : i < n) (hj : j < n) (ne : i ≠ j) (q : Q (some (lt i j)) (cA κ it t) s) : kasC (model prog w) A E (lt' (kas_item it i) (kas_item it j)) Q (cA κ it t) s := by
 rw [lt'_eq]
 refine kasC_bind (kasC_get (kasC_bind (kasC_lift (wpAny_attempt (wpAny_mono (ans i j (fun c s' => Q (some c) (cA κ it t) s') hi hj ne q) (fun c s' hc => ?_) fun _ _ hF => hF.elim)))))
 exact kasC_pure hc
theorem vT {p : Array Nat} {a b : Nat} {c : Bool} (h : jj n lt p a b = some c) : a < p.size /\ b < p.size /\ p.getD a 0 < n /\ p.getD b 0 < n /\ p.getD a 0 ≠ p.getD b 0 /\ c = lt (p.getD a 0) (p.getD b 0) := by
 unfold jj at h
 split at h
 ·rename_i z
  simp only [Dx, decide_eq_true_eq, EY, beq_eq_false_iff_ne] at z
  cases h
  exact ⟨z.1.1.1.1, z.1.1.1.2, z.1.1.2, z.1.2, z.2, rfl⟩
 ·cases h
theorem cE (ans : cD prog w A κ it s n lt) {t : SD} {a b : Nat} {c : Bool} {Q : Option Bool -> SortSt -> Shared -> Prop} (h : jj n lt t.1 a b = some c) (q : Q (some c) (cA κ it t) s) : kasC (model prog w) A E (ltAt' a b) Q (cA κ it t) s := by
 obtain ⟨ha, hb, na, nb, ne, rfl⟩ := vT h
 rw [ltAt'_eq]
 refine kasC_bind (kasC_get ?_)
 show kasC _ _ _ (elem' (arrOf (cA κ it t)) a >>= fun x => elem' (arrOf (cA κ it t)) b >>= fun y => lt' x y) Q _ _
 rw [elem'_eq, elem'_eq, vS ha, vS hb]
 exact kasC_bind (kasC_pure (kasC_bind (kasC_pure (rS ans na nb ne q))))
theorem xM {t : SD} {k l : Nat} {Q : Unit -> SortSt -> Shared -> Prop} (q : Q () (cA κ it (bubble t.1 k (k - l), t.2)) s) : kasC (model prog w) A E (moveDown' k l) Q (cA κ it t) s := by
 rw [moveDown'_eq]
 refine kasC_modify ?_
 have e1 : bubble (t.1.map (kas_item it)) k (k - l) = (bubble t.1 k (k - l)).map (kas_item it) := kas_swaps_map (kas_item it) (fun i => k - i) (fun i => k - i - 1) _ t.1
 show Q () (SortSt.mk' κ (bubble (t.1.map (kas_item it)) k (k - l)) t.2.1 t.2.2 none) s
 rw [e1]
 exact q
theorem cX {t : SD} {i j : Nat} {Q : Unit -> SortSt -> Shared -> Prop} (q : Q () (cA κ it (kas_rev t.1 i j, t.2)) s) : kasC (model prog w) A E (reverseSlice' i j) Q (cA κ it t) s := by
 rw [reverseSlice'_eq]
 refine kasC_modify ?_
 have e1 : mirror (t.1.map (kas_item it)) i j ((j - i) / 2) = (kas_rev t.1 i j).map (kas_item it) := kas_swaps_map (kas_item it) (fun k => i + k) (fun k => j - 1 - k) _ t.1
 show Q () (SortSt.mk' κ (mirror (t.1.map (kas_item it)) i j ((j - i) / 2)) t.2.1 t.2.2 none) s
 rw [e1]
 exact q
def iF (n : Nat) (lt : Nat -> Nat -> Bool) (lo k : Nat) (_ : Nat) (b : Option Bool × Nat × Nat) (t : SD) : Option (Bool × (Option Bool × Nat × Nat) × SD) :=
 if b.2.1 >= b.2.2 then some (true, (none, b.2.1, b.2.2), t) else (jj n lt t.1 (lo + k) (lo + (b.2.1 + b.2.2) / 2)).bind fun c => some (false, if c = true then (none, b.2.1, (b.2.1 + b.2.2) / 2) else (none, (b.2.1 + b.2.2) / 2 + 1, b.2.2), t)
def oT (n : Nat) (lt : Nat -> Nat -> Bool) (lo : Nat) (k : Nat) (_ : Option Bool × Unit) (t : SD) : Option (Bool × (Option Bool × Unit) × SD) :=
 (fq (iF n lt lo k) (DL 0 k) (none, 0, k) t).bind fun r => if r.1.1.isSome then none else some (false, (none, ()), (bubble r.2.1 (lo + k) (lo + k - (lo + r.1.2.1)), r.2.2))
def zK (n : Nat) (lt : Nat -> Nat -> Bool) (lo m ok : Nat) (t : SD) : Option SD := (fq (oT n lt lo) (DL (max ok 1) (m - max ok 1)) (none, ()) t).map (·.2)
theorem vU {ls : List Nat} {lo k : Nat} : ∀ {b : Option Bool × Nat × Nat} {t : SD} {r : (Option Bool × Nat × Nat) × SD}, b.1 = none -> fq (iF n lt lo k) ls b t = some r -> r.1.1 = none := by
 induction ls with
 | nil => intro b t r hb e; cases e; exact hb
 | cons x l ih =>
  intro b t r hb e
  obtain ⟨y, e1, e2⟩ := CQ.mp e
  have yn : y.2.1.1 = none := by
   unfold iF at e1
   split at e1
   ·cases e1; rfl
   ·obtain ⟨c, _, e3⟩ := CQ.mp e1
    cases e3
    cases c <;> rfl
  by_cases z : y.1 = true
  ·rw [if_pos z] at e2; cases e2; exact yn
  ·rw [if_neg z] at e2; exact ih yn e2
theorem vV {lo : Nat} {ls : List Nat} : ∀ {t : SD} {r : (Option Bool × Unit) × SD}, fq (oT n lt lo) ls (none, ()) t = some r -> r.1.1 = none := by
 induction ls with
 | nil => intro t r e; cases e; rfl
 | cons x l ih =>
  intro t r e
  obtain ⟨y, e1, e2⟩ := CQ.mp e
  unfold oT at e1
  obtain ⟨z, _, e3⟩ := CQ.mp e1
  split at e3
  ·cases e3
  ·cases e3
   exact ih e2
theorem zL (ans : cD prog w A κ it s n lt) {t t' : SD} {lo m ok : Nat} {Q : Bool -> SortSt -> Shared -> Prop} (h : zK n lt lo m ok t = some t') (q : Q true (cA κ it t') s) : kasC (model prog w) A E (binarySort' lo m ok) Q (cA κ it t) s := by
 unfold zK at h
 obtain ⟨r, e, rfl⟩ := CV.mp h
 rw [binarySort'_eq]
 refine kasC_bind (kasC_range (cS (step := oT n lt lo) (fun k b u y e1 R hR => ?_) _ _ _ r e ?_))
 ·unfold oT at e1
  obtain ⟨z, e2, e3⟩ := CQ.mp e1
  have zn := vU rfl e2
  rw [zn] at e3
  cases e3
  refine kasC_bind (kasC_range (cS (step := iF n lt lo k) (fun x c v y2 f1 R2 hR2 => ?_) _ _ _ z e2 ?_))
  ·unfold iF at f1
   dsimp only
   by_cases g : c.2.1 >= c.2.2
   ·rw [if_pos g] at f1 ⊢
    cases f1
    exact kasC_pure hR2
   ·rw [if_neg g] at f1 ⊢
    obtain ⟨a, g1, g2⟩ := CQ.mp f1
    cases g2
    refine kasC_bind (cE ans g1 ?_)
    cases a
    ·exact kasC_pure hR2
    ·exact kasC_pure hR2
  ·obtain ⟨⟨z1, z2, z4⟩, z3⟩ := z
   cases zn
   exact kasC_bind (xM (kasC_pure hR))
 ·have rn := vV e
  obtain ⟨⟨r1, r2⟩, r3⟩ := r
  cases rn
  exact kasC_pure q
end
def xN : Bool -> Keyed -> Array Keyed -> Nat -> Nat -> Nat -> StateT SortSt Sem (Option Nat) := sortPriv% PySem.Builtin.gallop
def oU : Array Keyed -> Array Keyed -> StateT SortSt Sem (Array Keyed) := sortPriv% PySem.Builtin.mergeLo
theorem dH {β : Type} {step : Nat -> β -> SD -> Option (Bool × β × SD)} (P : β -> SD -> Prop) (h : ∀ x b t r, P b t -> step x b t = some r -> P r.2.1 r.2.2) : ∀ (ls : List Nat) (b : β) (t : SD) (r : β × SD), P b t -> fq step ls b t = some r -> P r.1 r.2 := by
 intro ls
 induction ls with
 | nil => intro b t r p e; cases e; exact p
 | cons x l ih =>
  intro b t r p e
  obtain ⟨y, e1, e2⟩ := CQ.mp e
  have py := h x b t y p e1
  by_cases z : y.1 = true
  ·rw [if_pos z] at e2; cases e2; exact py
  ·rw [if_neg z] at e2; exact ih _ _ _ py e2
def t6 (n : Nat) (lt : Nat -> Nat -> Bool) (left : Bool) (k : Nat) (q : Array Nat) (base i : Nat) : Option Bool := if decide (base + i < q.size) && decide (q.getD (base + i) 0 < n) && decide (k < n) && !(q.getD (base + i) 0 == k) then some (if left = true then lt (q.getD (base + i) 0) k else !lt k (q.getD (base + i) 0)) else none
abbrev pO := Option (Option Nat) × Nat × Nat
section
variable (n : Nat) (lt : Nat -> Nat -> Bool) (left : Bool) (k : Nat) (q : Array Nat) (base hint mx : Nat)
def vW (_ : Nat) (b : pO) (t : SD) : Option (Bool × pO × SD) := if b.2.2 >= mx then some (true, (none, b.2.1, b.2.2), t) else (t6 n lt left k q base (hint + b.2.2)).bind fun c => if (!c) = true then some (true, (none, b.2.1, b.2.2), t) else some (false, (none, b.2.2, 2 * b.2.2 + 1), t)
def j7 (_ : Nat) (b : pO) (t : SD) : Option (Bool × pO × SD) := if b.2.2 >= mx then some (true, (none, b.2.1, b.2.2), t) else (t6 n lt left k q base (hint - b.2.2)).bind fun c => if c = true then some (true, (none, b.2.1, b.2.2), t) else some (false, (none, b.2.2, 2 * b.2.2 + 1), t)
def mz (_ : Nat) (b : pO) (t : SD) : Option (Bool × pO × SD) := if b.2.1 >= b.2.2 then some (true, (none, b.2.1, b.2.2), t) else (t6 n lt left k q base (b.2.1 + (b.2.2 - b.2.1) / 2)).bind fun c => some (false, if c = true then (none, b.2.1 + (b.2.2 - b.2.1) / 2 + 1, b.2.2) else (none, b.2.1, b.2.1 + (b.2.2 - b.2.1) / 2), t)
def xO (m : Nat) (lo hi : Nat) (t : SD) : Option Nat := (fq (mz n lt left k q base) (DL 0 m) (none, lo, hi) t).map (·.1.2.2)
def eN (m : Nat) (t : SD) : Option Nat := (t6 n lt left k q base hint).bind fun right =>
 if right = true then (fq (vW n lt left k q base hint (m - hint)) (DL 0 m) (none, 0, 1) t).bind fun r => xO n lt left k q base m (hint + r.1.2.1 + 1) (hint + min r.1.2.2 (m - hint)) t
 else (fq (j7 n lt left k q base hint (hint + 1)) (DL 0 m) (none, 0, 1) t).bind fun r => xO n lt left k q base m (hint + 1 - min r.1.2.2 (hint + 1)) (hint - r.1.2.1) t
end
section
variable {prog : Program} {w : World} {E : Value -> Shared -> Prop} {A : Around} {κ : SortKind} {it : Array Keyed} {s : Shared} {n : Nat} {lt : Nat -> Nat -> Bool} {left : Bool} {k : Nat} {q : Array Nat} {base hint mx : Nat}
theorem yD {i : Nat} (hi : i < q.size) : (q.map (kas_item it))[i]? = some (kas_item it (q.getD i 0)) := vS (κ := oneType') (t := (q, #[], 0)) hi
theorem j8 (ans : cD prog w A κ it s n lt) {t : SD} {i : Nat} {c : Bool} {Q : Option Bool -> SortSt -> Shared -> Prop} (h : t6 n lt left k q base i = some c) (hq : Q (some c) (cA κ it t) s) :
  kasC (model prog w) A E (elem' (q.map (kas_item it)) (base + i) >>= fun x => if left = true then lt' x (kas_item it k) else lt' (kas_item it k) x >>= fun d => pure (d.map fun x => !x)) Q (cA κ it t) s := by
 unfold t6 at h
 split at h
 ·rename_i z
  simp only [Dx, decide_eq_true_eq, EY, beq_eq_false_iff_ne] at z
  obtain ⟨⟨⟨z1, z2⟩, z3⟩, z4⟩ := z
  cases h
  rw [elem'_eq, yD z1]
  refine kasC_bind (kasC_pure ?_)
  cases left with
  | true => exact rS ans z2 z3 z4 hq
  | false => exact kasC_bind (rS ans z3 z2 (Ne.symm z4) (kasC_pure hq))
 ·cases h
theorem zM {ls : List Nat} {b : pO} {t : SD} {r : pO × SD} (h : fq (vW n lt left k q base hint mx) ls b t = some r) (hb : b.1 = none) : r.1.1 = none /\ r.2 = t := by
 refine dH (fun b' t' => b'.1 = none /\ t' = t) (fun x b' t' y p e => ?_) ls b t r ⟨hb, rfl⟩ h
 unfold vW at e
 split at e
 ·cases e; exact ⟨rfl, p.2⟩
 ·obtain ⟨c, _, e3⟩ := CQ.mp e
  split at e3 <;> (cases e3; exact ⟨rfl, p.2⟩)
theorem vX {ls : List Nat} {b : pO} {t : SD} {r : pO × SD} (h : fq (j7 n lt left k q base hint mx) ls b t = some r) (hb : b.1 = none) : r.1.1 = none /\ r.2 = t := by
 refine dH (fun b' t' => b'.1 = none /\ t' = t) (fun x b' t' y p e => ?_) ls b t r ⟨hb, rfl⟩ h
 unfold j7 at e
 split at e
 ·cases e; exact ⟨rfl, p.2⟩
 ·obtain ⟨c, _, e3⟩ := CQ.mp e
  split at e3 <;> (cases e3; exact ⟨rfl, p.2⟩)
theorem xP {ls : List Nat} {b : pO} {t : SD} {r : pO × SD} (h : fq (mz n lt left k q base) ls b t = some r) (hb : b.1 = none) : r.1.1 = none /\ r.2 = t := by
 refine dH (fun b' t' => b'.1 = none /\ t' = t) (fun x b' t' y p e => ?_) ls b t r ⟨hb, rfl⟩ h
 unfold mz at e
 split at e
 ·cases e; exact ⟨rfl, p.2⟩
 ·obtain ⟨c, _, e3⟩ := CQ.mp e
  cases e3
  cases c <;> exact ⟨rfl, p.2⟩
theorem dZ (ans : cD prog w A κ it s n lt) {t : SD} {m r : Nat} {Q : Option Nat -> SortSt -> Shared -> Prop} (h : eN n lt left k q base hint m t = some r) (hq : Q (some r) (cA κ it t) s) :
  kasC (model prog w) A E (xN left (kas_item it k) (q.map (kas_item it)) base m hint) Q (cA κ it t) s := by
 unfold eN at h
 obtain ⟨right, h1, h2⟩ := CQ.mp h
 refine kasC_bind (j8 ans h1 ?_)
 have mid : ∀ {lo hi : Nat}, xO n lt left k q base m lo hi t = some r -> ∀ {body : Nat -> pO -> StateT SortSt Sem (ForInStep pO)}, (∀ x b t' y, mz n lt left k q base x b t' = some y -> ∀ R : ForInStep pO -> SortSt -> Shared -> Prop, R (if y.1 = true then .done y.2.1 else .yield y.2.1) (cA κ it y.2.2) s -> kasC (model prog w) A E (body x b) R (cA κ it t') s) ->
   ∀ {R : pO -> SortSt -> Shared -> Prop}, (∀ lo', R (none, lo', r) (cA κ it t) s) -> kasC (model prog w) A E (forIn [:m] (none, lo, hi) body) R (cA κ it t) s := by
  intro lo hi e body hb R hR
  unfold xO at e
  obtain ⟨z, e1, e2⟩ := CV.mp e
  have kz := xP e1 rfl
  refine kasC_range (cS hb _ _ _ z e1 ?_)
  obtain ⟨⟨z1, z2, z3⟩, z4⟩ := z
  obtain ⟨k1, k2⟩ := kz
  cases k1
  cases k2
  cases e2
  exact hR z2
 cases right with
 | true =>
  obtain ⟨z, e1, e2⟩ := CQ.mp h2
  have kz := zM e1 rfl
  refine kasC_bind (kasC_range (cS (step := vW n lt left k q base hint (m - hint)) (fun x b u y f R hR => ?_) _ _ _ z e1 ?_))
  ·unfold vW at f
   dsimp only
   by_cases g : b.2.2 >= m - hint
   ·rw [if_pos g] at f ⊢
    cases f
    exact kasC_pure hR
   ·rw [if_neg g] at f ⊢
    obtain ⟨c, g1, g2⟩ := CQ.mp f
    refine kasC_bind (j8 ans g1 ?_)
    cases c
    ·cases g2; exact kasC_pure hR
    ·cases g2; exact kasC_pure hR
  ·obtain ⟨⟨z1, z2, z3⟩, z4⟩ := z
   obtain ⟨k1, k2⟩ := kz
   cases k1
   cases k2
   refine kasC_bind (mid e2 (fun x b u y f R hR => ?_) fun lo' => kasC_pure hq)
   unfold mz at f
   dsimp only
   by_cases g : b.2.1 >= b.2.2
   ·rw [if_pos g] at f ⊢
    cases f
    exact kasC_pure hR
   ·rw [if_neg g] at f ⊢
    obtain ⟨c, g1, g2⟩ := CQ.mp f
    cases g2
    refine kasC_bind (j8 ans g1 ?_)
    cases c
    ·exact kasC_pure hR
    ·exact kasC_pure hR
 | false =>
  obtain ⟨z, e1, e2⟩ := CQ.mp h2
  have kz := vX e1 rfl
  refine kasC_bind (kasC_range (cS (step := j7 n lt left k q base hint (hint + 1)) (fun x b u y f R hR => ?_) _ _ _ z e1 ?_))
  ·unfold j7 at f
   dsimp only
   by_cases g : b.2.2 >= hint + 1
   ·rw [if_pos g] at f ⊢
    cases f
    exact kasC_pure hR
   ·rw [if_neg g] at f ⊢
    obtain ⟨c, g1, g2⟩ := CQ.mp f
    refine kasC_bind (j8 ans g1 ?_)
    cases c
    ·cases g2; exact kasC_pure hR
    ·cases g2; exact kasC_pure hR
  ·obtain ⟨⟨z1, z2, z3⟩, z4⟩ := z
   obtain ⟨k1, k2⟩ := kz
   cases k1
   cases k2
   refine kasC_bind (mid e2 (fun x b u y f R hR => ?_) fun lo' => kasC_pure hq)
   unfold mz at f
   dsimp only
   by_cases g : b.2.1 >= b.2.2
   ·rw [if_pos g] at f ⊢
    cases f
    exact kasC_pure hR
   ·rw [if_neg g] at f ⊢
    obtain ⟨c, g1, g2⟩ := CQ.mp f
    cases g2
    refine kasC_bind (j8 ans g1 ?_)
    cases c
    ·exact kasC_pure hR
    ·exact kasC_pure hR
end
section
variable {prog : Program} {w : World} {E : Value -> Shared -> Prop} {A : Around} {κ : SortKind} {it : Array Keyed} {s : Shared} {n : Nat} {lt : Nat -> Nat -> Bool}
theorem xQ {β β' : Type} (ψ : β -> β') {step : Nat -> β -> SD -> Option (Bool × β × SD)} {body : Nat -> β' -> StateT SortSt Sem (ForInStep β')}
  (h : ∀ x b t r, step x b t = some r -> ∀ R : ForInStep β' -> SortSt -> Shared -> Prop, R (if r.1 = true then .done (ψ r.2.1) else .yield (ψ r.2.1)) (cA κ it r.2.2) s -> kasC (model prog w) A E (body x (ψ b)) R (cA κ it t) s)
  {Q : β' -> SortSt -> Shared -> Prop} : ∀ (ls : List Nat) (b : β) (t : SD) (r : β × SD), fq step ls b t = some r -> Q (ψ r.1) (cA κ it r.2) s -> kasC (model prog w) A E (forIn ls (ψ b) body) Q (cA κ it t) s := by
 intro ls
 induction ls with
 | nil =>
  intro b t r e q
  cases e
  exact kasC_nil q
 | cons x l ih =>
  intro b t r e q
  obtain ⟨y, e1, e2⟩ := CQ.mp e
  refine kasC_cons (h x b t y e1 _ ?_)
  by_cases z : y.1 = true
  ·rw [if_pos z] at e2 ⊢
   cases e2
   exact q
  ·rw [if_neg z] at e2 ⊢
   exact ih _ _ _ e2 q
theorem bb {α : Type} {c : Prop} [Decidable c] {m m' : StateT SortSt Sem α} {Q : α -> SortSt -> Shared -> Prop} {st : SortSt} (h : c) (k : kasC (model prog w) A E m Q st s) : kasC (model prog w) A E (if c then m else m') Q st s := by rw [if_pos h]; exact k
theorem aQ {α : Type} {c : Prop} [Decidable c] {m m' : StateT SortSt Sem α} {Q : α -> SortSt -> Shared -> Prop} {st : SortSt} (h : ¬ c) (k : kasC (model prog w) A E m' Q st s) : kasC (model prog w) A E (if c then m else m') Q st s := by rw [if_neg h]; exact k
theorem nG {β β' : Type} (ψ : β -> β') {step : Nat -> β -> SD -> Option (Bool × β × SD)} {body : Nat -> β' -> StateT SortSt Sem (ForInStep β')} {Q : β' -> SortSt -> Shared -> Prop} {ls : List Nat} {b' : β'} {b : β} {t : SD} {r : β × SD} (eb : ψ b = b') (e : fq step ls b t = some r)
  (h : ∀ x b t r, step x b t = some r -> ∀ R : ForInStep β' -> SortSt -> Shared -> Prop, R (if r.1 = true then .done (ψ r.2.1) else .yield (ψ r.2.1)) (cA κ it r.2.2) s -> kasC (model prog w) A E (body x (ψ b)) R (cA κ it t) s)
  (q : Q (ψ r.1) (cA κ it r.2) s) : kasC (model prog w) A E (forIn ls b' body) Q (cA κ it t) s := by
 subst eb
 exact xQ ψ h ls b t r e q
end
def xR (n : Nat) (lt : Nat -> Nat -> Bool) (qa qb : Array Nat) (ia ib : Nat) : Option Bool := if decide (ib < qb.size) && decide (ia < qa.size) && decide (qb.getD ib 0 < n) && decide (qa.getD ia 0 < n) && !(qb.getD ib 0 == qa.getD ia 0) then some (lt (qb.getD ib 0) (qa.getD ia 0)) else none
abbrev MB (α : Type) := Option (Array α) × Array α × Nat × Nat × Nat × Nat
def j9 (it : Array Keyed) (b : MB Nat) : MB Keyed := (b.1.map fun x => x.map (kas_item it), b.2.1.map (kas_item it), b.2.2)
def xS (n : Nat) (lt : Nat -> Nat -> Bool) (qa qb : Array Nat) (mg : Nat) (_ : Nat) (b : MB Nat) (t : SD) : Option (Bool × MB Nat × SD) :=
 (xR n lt qa qb b.2.2.1 b.2.2.2.1).bind fun c =>
  if c = true then
   if (b.2.2.2.1 + 1 == qb.size) = true then some (true, (some (b.2.1.push (qb.getD b.2.2.2.1 0) ++ qa.extract b.2.2.1 qa.size ++ qb.extract (b.2.2.2.1 + 1) qb.size), b.2.1.push (qb.getD b.2.2.2.1 0), b.2.2.1, b.2.2.2.1 + 1, 0, b.2.2.2.2.2 + 1), t)
   else if b.2.2.2.2.2 + 1 >= mg then some (true, (none, b.2.1.push (qb.getD b.2.2.2.1 0), b.2.2.1, b.2.2.2.1 + 1, 0, b.2.2.2.2.2 + 1), t) else some (false, (none, b.2.1.push (qb.getD b.2.2.2.1 0), b.2.2.1, b.2.2.2.1 + 1, 0, b.2.2.2.2.2 + 1), t)
  else
   if (b.2.2.1 + 1 + 1 == qa.size) = true then some (true, (some (b.2.1.push (qa.getD b.2.2.1 0) ++ qb.extract b.2.2.2.1 qb.size ++ qa.extract (b.2.2.1 + 1) qa.size), b.2.1.push (qa.getD b.2.2.1 0), b.2.2.1 + 1, b.2.2.2.1, b.2.2.2.2.1 + 1, 0), t)
   else if b.2.2.2.2.1 + 1 >= mg then some (true, (none, b.2.1.push (qa.getD b.2.2.1 0), b.2.2.1 + 1, b.2.2.2.1, b.2.2.2.2.1 + 1, 0), t) else some (false, (none, b.2.1.push (qa.getD b.2.2.1 0), b.2.2.1 + 1, b.2.2.2.1, b.2.2.2.2.1 + 1, 0), t)
abbrev yE (α : Type) := Option (Array α) × Array α × Nat × Nat × Nat × Nat × Nat
def dI (it : Array Keyed) (b : yE Nat) : yE Keyed := (b.1.map fun x => x.map (kas_item it), b.2.1.map (kas_item it), b.2.2)
def rT (n : Nat) (lt : Nat -> Nat -> Bool) (qa qb : Array Nat) (out : Array Nat) (ia ib mg k : Nat) (t : SD) : Option (Bool × yE Nat × SD) :=
 if ib + 1 < qb.size then if ia < qa.size then (eN n lt true (qa.getD ia 0) qb (ib + 1) 0 (qb.size - (ib + 1)) t).bind fun k1 =>
  if 0 < k1 then if ib + 1 + k1 < qb.size then if ia + 1 + 1 < qa.size then
   some (decide (k < 7) && decide (k1 < 7), (none, (out.push (qb.getD ib 0) ++ qb.extract (ib + 1) (ib + 1 + k1)).push (qa.getD ia 0), ia + 1, ib + 1 + k1, mg, k, k1), t)
  else none else none else none
 else none else none
def A0 (n : Nat) (lt : Nat -> Nat -> Bool) (qa qb : Array Nat) (_ : Nat) (b : yE Nat) (t : SD) : Option (Bool × yE Nat × SD) :=
 if b.2.2.2.2.1 > 1 then if b.2.2.2.1 < qb.size then (eN n lt false (qb.getD b.2.2.2.1 0) qa b.2.2.1 0 (qa.size - b.2.2.1) (t.1, t.2.1, b.2.2.2.2.1 - 1)).bind fun k =>
  if k > 0 then
   if (b.2.2.1 + k + 1 == qa.size) = true then some (true, (some (b.2.1 ++ qa.extract b.2.2.1 (b.2.2.1 + k) ++ qb.extract b.2.2.2.1 qb.size ++ qa.extract (b.2.2.1 + k) qa.size), b.2.1 ++ qa.extract b.2.2.1 (b.2.2.1 + k), b.2.2.1 + k, b.2.2.2.1, b.2.2.2.2.1 - 1, k, b.2.2.2.2.2.2), (t.1, t.2.1, b.2.2.2.2.1 - 1))
   else if b.2.2.1 + k < qa.size then rT n lt qa qb (b.2.1 ++ qa.extract b.2.2.1 (b.2.2.1 + k)) (b.2.2.1 + k) b.2.2.2.1 (b.2.2.2.2.1 - 1) k (t.1, t.2.1, b.2.2.2.2.1 - 1) else none
  else rT n lt qa qb b.2.1 b.2.2.1 b.2.2.2.1 (b.2.2.2.2.1 - 1) k (t.1, t.2.1, b.2.2.2.2.1 - 1)
 else none else none
abbrev OB (α : Type) := Option (Array α) × Array α × Nat × Nat × Nat
def t7 (it : Array Keyed) (b : OB Nat) : OB Keyed := (b.1.map fun x => x.map (kas_item it), b.2.1.map (kas_item it), b.2.2)
def A1 (n : Nat) (lt : Nat -> Nat -> Bool) (qa qb : Array Nat) (_ : Nat) (b : OB Nat) (t : SD) : Option (Bool × OB Nat × SD) :=
 (fq (xS n lt qa qb b.2.2.2.2) (DL 0 (qa.size + qb.size)) (none, b.2.1, b.2.2.1, b.2.2.2.1, 0, 0) t).bind fun r =>
  match r.1.1 with
  | some x => some (true, (some x, r.1.2.1, r.1.2.2.1, r.1.2.2.2.1, b.2.2.2.2), t)
  | none => (fq (A0 n lt qa qb) (DL 0 (qa.size + qb.size)) (none, r.1.2.1, r.1.2.2.1, r.1.2.2.2.1, b.2.2.2.2 + 1, r.1.2.2.2.2.1, r.1.2.2.2.2.2) t).bind fun q =>
   match q.1.1 with
   | some x => some (true, (some x, q.1.2.1, q.1.2.2.1, q.1.2.2.2.1, q.1.2.2.2.2.1), q.2)
   | none => some (false, (none, q.1.2.1, q.1.2.2.1, q.1.2.2.2.1, q.1.2.2.2.2.1 + 1), (q.2.1, q.2.2.1, q.1.2.2.2.2.1 + 1))
def kd (n : Nat) (lt : Nat -> Nat -> Bool) (qa qb : Array Nat) (t : SD) : Option (Array Nat × SD) :=
 if decide (1 < qa.size) && decide (1 < qb.size) then (fq (A1 n lt qa qb) (DL 0 (qa.size + qb.size)) (none, #[qb.getD 0 0], 0, 1, t.2.2) t).bind fun r => r.1.1.map fun x => (x, r.2) else none
section
variable {prog : Program} {w : World} {E : Value -> Shared -> Prop} {A : Around} {κ : SortKind} {it : Array Keyed} {s : Shared} {n : Nat} {lt : Nat -> Nat -> Bool} {qa qb : Array Nat} {mg : Nat}
theorem zN {ls : List Nat} {b : MB Nat} {t : SD} {r : MB Nat × SD} (h : fq (xS n lt qa qb mg) ls b t = some r) : r.2 = t := by
 refine dH (fun _ t' => t' = t) (fun x b' t' y p e => ?_) ls b t r rfl h
 unfold xS at e
 obtain ⟨c, _, e3⟩ := CQ.mp e
 split at e3 <;> (split at e3 <;> first | (cases e3; exact p) | (split at e3 <;> (cases e3; exact p)))
theorem t8 {ia ib : Nat} {c : Bool} (h : xR n lt qa qb ia ib = some c) : ib < qb.size /\ ia < qa.size /\ qb.getD ib 0 < n /\ qa.getD ia 0 < n /\ qb.getD ib 0 ≠ qa.getD ia 0 /\ c = lt (qb.getD ib 0) (qa.getD ia 0) := by
 unfold xR at h
 split at h
 ·rename_i z
  simp only [Dx, decide_eq_true_eq, EY, beq_eq_false_iff_ne] at z
  cases h
  exact ⟨z.1.1.1.1, z.1.1.1.2, z.1.1.2, z.1.2, z.2, rfl⟩
 ·cases h
theorem ee {q : Array Nat} {i : Nat} {t : SD} {Q : Keyed -> SortSt -> Shared -> Prop} (hi : i < q.size) (hq : Q (kas_item it (q.getD i 0)) (cA κ it t) s) : kasC (model prog w) A E (elem' (q.map (kas_item it)) i) Q (cA κ it t) s := by
 rw [elem'_eq, yD hi]
 exact kasC_pure hq
theorem rV (ans : cD prog w A κ it s n lt) {t : SD} {out : Array Nat} {ia ib m k : Nat} {y : Bool × yE Nat × SD} {body : Keyed -> StateT SortSt Sem (ForInStep (yE Keyed))} {R : ForInStep (yE Keyed) -> SortSt -> Shared -> Prop} (f : rT n lt qa qb out ia ib m k t = some y) (hR : R (if y.1 = true then .done (dI it y.2.1) else .yield (dI it y.2.1)) (cA κ it y.2.2) s)
  (hb : ∀ k1 z, 0 < k1 -> ib + 1 + k1 < qb.size -> ia + 1 + 1 < qa.size -> ia < qa.size -> ib + 1 < qb.size -> eN n lt true (qa.getD ia 0) qb (ib + 1) 0 (qb.size - (ib + 1)) t = some k1 -> z = (none, (out.push (qb.getD ib 0) ++ qb.extract (ib + 1) (ib + 1 + k1)).push (qa.getD ia 0), ia + 1, ib + 1 + k1, m, k, k1) -> R (if (decide (k < 7) && decide (k1 < 7)) = true then .done (dI it z) else .yield (dI it z)) (cA κ it t) s -> kasC (model prog w) A E (body (kas_item it (qb.getD ib 0))) R (cA κ it t) s) :
  kasC (model prog w) A E (elem' (qb.map (kas_item it)) ib >>= body) R (cA κ it t) s := by
 unfold rT at f
 by_cases h1 : ib + 1 < qb.size
 ·rw [if_pos h1] at f
  by_cases h2 : ia < qa.size
  ·rw [if_pos h2] at f
   obtain ⟨k1, g, f⟩ := CQ.mp f
   by_cases h3 : 0 < k1
   ·rw [if_pos h3] at f
    by_cases h4 : ib + 1 + k1 < qb.size
    ·rw [if_pos h4] at f
     by_cases h5 : ia + 1 + 1 < qa.size
     ·rw [if_pos h5] at f
      cases f
      exact kasC_bind (ee (Nat.lt_of_succ_lt h1) (hb k1 _ h3 h4 h5 h2 h1 g rfl hR))
     ·rw [if_neg h5] at f; cases f
    ·rw [if_neg h4] at f; cases f
   ·rw [if_neg h3] at f; cases f
  ·rw [if_neg h2] at f; cases f
 ·rw [if_neg h1] at f; cases f
theorem qB (ans : cD prog w A κ it s n lt) {t : SD} {r : Array Nat × SD} {Q : Array Keyed -> SortSt -> Shared -> Prop} (h : kd n lt qa qb t = some r) (hq : Q (r.1.map (kas_item it)) (cA κ it r.2) s) :
  kasC (model prog w) A E (oU (qa.map (kas_item it)) (qb.map (kas_item it))) Q (cA κ it t) s := by
 unfold kd at h
 split at h
 ·rename_i z
  simp only [Dx, decide_eq_true_eq] at z
  obtain ⟨z1, z2⟩ := z
  obtain ⟨y, e1, e2⟩ := CQ.mp h
  obtain ⟨x0, e3, rfl⟩ := CV.mp e2
  refine kasC_bind (kasC_lift (wpAny_rule ?_))
  refine kasC_bind (ee (Nat.lt_of_succ_lt z2) ?_)
  dsimp only
  rw [if_neg (by rw [DG]; simp; omega), if_neg (by rw [DG]; simp; omega)]
  refine kasC_bind (kasC_get (kasC_bind (kasC_range ?_)))
  have e0 : (qa.map (kas_item it)).size + (qb.map (kas_item it)).size - 0 = qa.size + qb.size := by rw [DG, DG]; rfl
  rw [e0]
  refine nG (t7 it) (by unfold t7; simp) e1 (fun x b u y2 f R hR => ?_) ?_
  ·unfold A1 at f
   obtain ⟨c, f1, f⟩ := CQ.mp f
   have kc := zN f1
   obtain ⟨b1, out, ia, ib, mg⟩ := b
   dsimp only [t7] at f1 f ⊢
   refine kasC_bind (kasC_range ?_)
   rw [e0]
   refine nG (j9 it) (by unfold j9; simp) f1 (fun x b u y2 f R hR => ?_) ?_
   ·unfold xS at f
    obtain ⟨c, f1, f2⟩ := CQ.mp f
    obtain ⟨b1, out, ia, ib, ac, bc⟩ := b
    obtain ⟨a1, a2, a3, a4, a5, a6⟩ := t8 (show xR n lt qa qb ia ib = some c from f1)
    dsimp only [j9] at f2 ⊢
    refine kasC_bind (ee a1 (kasC_bind (ee a2 (kasC_bind (rS ans a3 a4 a5 ?_)))))
    rw [<- a6]
    cases c with
    | true =>
     refine kasC_bind (ee a1 ?_)
     rw [if_pos rfl] at f2
     by_cases g : (ib + 1 == qb.size) = true
     ·rw [if_pos g] at f2
      cases f2
      exact bb (by rw [DG]; exact g) (kasC_pure (by simpa [j9] using hR))
     ·rw [if_neg g] at f2
      by_cases g2 : bc + 1 >= mg
      ·rw [if_pos g2] at f2
       cases f2
       exact aQ (by rw [DG]; exact g) (bb g2 (kasC_pure (by simpa [j9] using hR)))
      ·rw [if_neg g2] at f2
       cases f2
       exact aQ (by rw [DG]; exact g) (aQ g2 (kasC_pure (by simpa [j9] using hR)))
    | false =>
     refine kasC_bind (ee a2 ?_)
     rw [if_neg (by simp)] at f2
     by_cases g : (ia + 1 + 1 == qa.size) = true
     ·rw [if_pos g] at f2
      cases f2
      exact bb (by rw [DG]; exact g) (kasC_pure (by simpa [j9] using hR))
     ·rw [if_neg g] at f2
      by_cases g2 : ac + 1 >= mg
      ·rw [if_pos g2] at f2
       cases f2
       exact aQ (by rw [DG]; exact g) (bb g2 (kasC_pure (by simpa [j9] using hR)))
      ·rw [if_neg g2] at f2
       cases f2
       exact aQ (by rw [DG]; exact g) (aQ g2 (kasC_pure (by simpa [j9] using hR)))
   ·obtain ⟨⟨c1, c2, c3, c4, c5, c6⟩, c7⟩ := c
    cases kc
    cases c1 with
    | some x1 =>
     cases f
     exact kasC_pure (by simpa [j9, t7] using hR)
    | none =>
     dsimp only [j9] at f ⊢
     obtain ⟨d, f2, f⟩ := CQ.mp f
     refine kasC_bind (kasC_lift (wpAny_rule (kasC_bind (kasC_range ?_))))
     rw [e0]
     refine nG (dI it) (by unfold dI; simp) f2 (fun x b u y2 f R hR => ?_) ?_
     ·obtain ⟨b1, o, ia, ib, mg, ac, bc⟩ := b
      unfold A0 at f
      dsimp only [dI] at f ⊢
      by_cases g1 : mg > 1
      ·rw [if_pos g1] at f
       by_cases g2 : ib < qb.size
       ·rw [if_pos g2] at f
        obtain ⟨k, g3, f⟩ := CQ.mp f
        refine bb g1 (kasC_bind (kasC_modify ?_))
        refine kasC_bind (ee (t := (u.1, u.2.1, mg - 1)) g2 ?_)
        have es : (qa.map (kas_item it)).size = qa.size := DG
        have es2 : (qb.map (kas_item it)).size = qb.size := DG
        rw [es, es2]
        refine kasC_bind (dZ ans g3 ?_)
        by_cases g4 : k > 0
        ·rw [if_pos g4] at f
         refine bb g4 ?_
         by_cases g5 : (ia + k + 1 == qa.size) = true
         ·rw [if_pos g5] at f
          cases f
          exact bb g5 (kasC_pure (by simpa [dI] using hR))
         ·rw [if_neg g5] at f
          by_cases g6 : ia + k < qa.size
          ·rw [if_pos g6] at f
           refine aQ g5 (aQ (by simp; omega) ?_)
           refine rV ans f hR fun k1 z a1 a2 a3 a4 a5 a6 ez hz => ?_
           refine aQ (by simp; omega) (kasC_bind (ee a4 (kasC_bind (dZ ans a6 (bb a1 (aQ (by simp; omega) (kasC_bind (ee a4 (aQ (by simp; omega) ?_)))))))))
           subst ez
           by_cases c7 : (decide (k < 7) && decide (k1 < 7)) = true
           ·rw [if_pos c7] at hz
            exact bb c7 (kasC_pure (by simpa [dI] using hz))
           ·rw [if_neg c7] at hz
            exact aQ c7 (kasC_pure (by simpa [dI] using hz))
          ·rw [if_neg g6] at f; cases f
        ·rw [if_neg g4] at f
         refine aQ g4 ?_
         refine rV ans f hR fun k1 z a1 a2 a3 a4 a5 a6 ez hz => ?_
         refine aQ (by simp; omega) (kasC_bind (ee a4 (kasC_bind (dZ ans a6 (bb a1 (aQ (by simp; omega) (kasC_bind (ee a4 (aQ (by simp; omega) ?_)))))))))
         subst ez
         by_cases c7 : (decide (k < 7) && decide (k1 < 7)) = true
         ·rw [if_pos c7] at hz
          exact bb c7 (kasC_pure (by simpa [dI] using hz))
         ·rw [if_neg c7] at hz
          exact aQ c7 (kasC_pure (by simpa [dI] using hz))
       ·rw [if_neg g2] at f; cases f
      ·rw [if_neg g1] at f; cases f
     ·obtain ⟨⟨d1, d2, d3, d4, d5, d6, d7⟩, d8⟩ := d
      cases d1 with
      | some x1 =>
       cases f
       exact kasC_pure (by simpa [dI, t7] using hR)
      | none =>
       cases f
       exact kasC_bind (kasC_modify (kasC_pure (by simpa [dI, t7] using hR)))
  ·obtain ⟨⟨y1, y2⟩, y3⟩ := y
   cases e3
   exact kasC_pure hq
 ·cases h
end
def putAt {α : Type} (off : Nat) (m : Array α) (p : Array α) : Array α := m.toList.zipIdx.foldl (fun a x => a.setIfInBounds (off + x.2) x.1) p
theorem t9 {α β : Type} (f : α -> β) (off : Nat) (m p : Array α) : putAt off (m.map f) (p.map f) = (putAt off m p).map f := by
 unfold putAt
 rw [Array.toList_map, List.zipIdx_map]
 generalize m.toList.zipIdx = l
 induction l generalizing p with
 | nil => rfl
 | cons x l ih =>
  rw [Dm, EB, EB]
  have e : (p.map f).setIfInBounds (off + (Prod.map f id x).2) (Prod.map f id x).1 = (p.setIfInBounds (off + x.2) x.1).map f := by
   rw [Array.map_setIfInBounds]; rfl
  rw [e]
  exact ih _
def eA (n : Nat) (lt : Nat -> Nat -> Bool) (i : Nat) (t : SD) : Option SD :=
 (t.2.1[i]?).bind fun a => (t.2.1[i + 1]?).bind fun b =>
  if b.1 < t.1.size then
   (eN n lt false (t.1.getD b.1 0) t.1 a.1 0 a.2.1 (t.1, (t.2.1.setIfInBounds i (a.1, a.2.1 + b.2.1, a.2.2)).eraseIdxIfInBounds (i + 1), t.2.2)).bind fun k =>
    if (a.2.1 - k == 0) = true then none
    else if a.1 + k + (a.2.1 - k) - 1 < t.1.size then
     (eN n lt true (t.1.getD (a.1 + k + (a.2.1 - k) - 1) 0) t.1 b.1 (b.2.1 - 1) b.2.1 (t.1, (t.2.1.setIfInBounds i (a.1, a.2.1 + b.2.1, a.2.2)).eraseIdxIfInBounds (i + 1), t.2.2)).bind fun nb =>
      if (nb == 0) = true then none
      else if a.2.1 - k <= nb then (kd n lt (t.1.extract (a.1 + k) b.1) (t.1.extract b.1 (b.1 + nb)) (t.1, (t.2.1.setIfInBounds i (a.1, a.2.1 + b.2.1, a.2.2)).eraseIdxIfInBounds (i + 1), t.2.2)).map fun m => (putAt (a.1 + k) m.1 m.2.1, m.2.2)
      else none
    else none
  else none
section
variable {prog : Program} {w : World} {E : Value -> Shared -> Prop} {A : Around} {κ : SortKind} {it : Array Keyed} {s : Shared} {n : Nat} {lt : Nat -> Nat -> Bool}
theorem vY {st st' : SortSt} {Q : PUnit -> SortSt -> Shared -> Prop} (h : Q ⟨⟩ st' s) : kasC (model prog w) A E (set st' : StateT SortSt Sem PUnit) Q st s := by
 unfold kasC
 rw [StateT.run_set]
 exact wpAny_pure h
theorem qC (ans : cD prog w A κ it s n lt) {t t' : SD} {i : Nat} {Q : Bool -> SortSt -> Shared -> Prop} (h : eA n lt i t = some t') (hq : Q true (cA κ it t') s) : kasC (model prog w) A E (mergeAt' i) Q (cA κ it t) s := by
 unfold eA at h
 obtain ⟨a, ha, h⟩ := CQ.mp h
 obtain ⟨b, hb, h⟩ := CQ.mp h
 obtain ⟨sa, na, pw⟩ := a
 obtain ⟨sb, nb, pw2⟩ := b
 by_cases zb : sb < t.1.size
 ·rw [if_pos (show (sb, nb, pw2).1 < t.1.size from zb)] at h
  obtain ⟨k, hk, h⟩ := CQ.mp h
  by_cases zk : (na - k == 0) = true
  ·rw [if_pos zk] at h; cases h
  rw [if_neg zk] at h
  by_cases zs : sa + k + (na - k) - 1 < t.1.size
  ·rw [if_pos (show (sa, na, pw).1 + k + ((sa, na, pw).2.1 - k) - 1 < t.1.size from zs)] at h
   obtain ⟨nb', hn, h⟩ := CQ.mp h
   by_cases zn : (nb' == 0) = true
   ·rw [if_pos zn] at h; cases h
   rw [if_neg zn] at h
   by_cases zl : na - k <= nb'
   ·rw [if_pos (show (sa, na, pw).2.1 - k <= nb' from zl)] at h
    obtain ⟨m, hm, h⟩ := CV.mp h
    refine kasC_bind (kasC_get ?_)
    show kasC _ _ _ (match (t.2.1[i]?, t.2.1[i + 1]?) with | (some (sa, na, power), some (sb, nb, snd)) => _ | x => _) _ _ _
    rw [ha, hb]
    refine kasC_bind (vY ?_)
    generalize ht1 : ((t.1, (t.2.1.setIfInBounds i ((sa, na, pw).1, (sa, na, pw).2.1 + (sb, nb, pw2).2.1, (sa, na, pw).2.2)).eraseIdxIfInBounds (i + 1), t.2.2) : SD) = t1 at hk hn hm
    show kasC _ _ _ _ _ (cA κ it (t.1, (t.2.1.setIfInBounds i ((sa, na, pw).1, (sa, na, pw).2.1 + (sb, nb, pw2).2.1, (sa, na, pw).2.2)).eraseIdxIfInBounds (i + 1), t.2.2)) _
    rw [ht1]
    refine kasC_bind (ee zb ?_)
    refine kasC_bind (dZ ans hk ?_)
    refine aQ zk ?_
    refine kasC_bind (ee zs ?_)
    refine kasC_bind (dZ ans hn ?_)
    refine aQ zn (bb zl ?_)
    have ex : (arrOf (cA κ it t)).extract (sa + k) sb = (t.1.extract (sa + k) sb).map (kas_item it) := by show (t.1.map (kas_item it)).extract _ _ = _; simp
    have ey : (arrOf (cA κ it t)).extract sb (sb + nb') = (t.1.extract sb (sb + nb')).map (kas_item it) := by show (t.1.map (kas_item it)).extract _ _ = _; simp
    show kasC _ _ _ (oU ((arrOf (cA κ it t)).extract (sa + k) sb) ((arrOf (cA κ it t)).extract sb (sb + nb')) >>= _) _ _ _
    rw [ex, ey]
    refine kasC_bind (qB ans hm ?_)
    refine kasC_bind (kasC_modify (kasC_bind (kasC_get (kasC_pure ?_))))
    have em := t9 (kas_item it) (sa + k) m.1 m.2.1
    subst ht1
    cases h
    show Q true (SortSt.mk' κ (putAt (sa + k) (m.1.map (kas_item it)) (m.2.1.map (kas_item it))) _ _ none) s
    rw [em]
    exact hq
   ·rw [if_neg (show ¬ (sa, na, pw).2.1 - k <= nb' from zl)] at h; cases h
  ·rw [if_neg (show ¬ (sa, na, pw).1 + k + ((sa, na, pw).2.1 - k) - 1 < t.1.size from zs)] at h; cases h
 ·rw [if_neg (show ¬ (sb, nb, pw2).1 < t.1.size from zb)] at h; cases h
end
abbrev yF := Option (Option Nat) × Nat
abbrev Bi := Option (Option Nat) × Nat × Nat
section
variable (n : Nat) (lt : Nat -> Nat -> Bool) (lo nrem : Nat)
def iG (_ : Nat) (b : yF) (t : SD) : Option (Bool × yF × SD) := (jj n lt t.1 (lo + b.2) (lo + b.2 - 1)).bind fun c => if c = true then some (true, (none, b.2), t) else some (false, (none, b.2 + 1), t)
def gF (_ : Nat) (b : Bi) (t : SD) : Option (Bool × Bi × SD) := (jj n lt t.1 (lo + b.2.1) (lo + b.2.1 - 1)).bind fun c =>
 if c = true then some (false, (none, b.2.1 + 1, 0), if b.2.2 > 0 then (kas_rev t.1 (lo + b.2.1 - (b.2.2 + 1)) (lo + b.2.1), t.2) else t)
 else (jj n lt t.1 (lo + b.2.1 - 1) (lo + b.2.1)).bind fun d => if d = true then some (true, (none, b.2.1, b.2.2), t) else some (false, (none, b.2.1 + 1, b.2.2 + 1), t)
def xT (from' : Nat) (t : SD) : Option (Nat × SD) := (fq (iG n lt lo) (DL from' (nrem - from')) (none, from') t).map fun r => (r.1.2, r.2)
def rW (m : Nat) (t : SD) : Option (Nat × SD) := (fq (gF n lt lo) (DL (m + 1) (nrem - (m + 1))) (none, m + 1, 0) t).bind fun r =>
 xT n lt lo nrem r.1.2.1 (kas_rev (if r.1.2.2 > 0 then (kas_rev r.2.1 (lo + r.1.2.1 - (r.1.2.2 + 1)) (lo + r.1.2.1), r.2.2) else r.2 : SD).1 lo (lo + r.1.2.1), (if r.1.2.2 > 0 then (kas_rev r.2.1 (lo + r.1.2.1 - (r.1.2.2 + 1)) (lo + r.1.2.1), r.2.2) else r.2 : SD).2)
def qD (t : SD) : Option (Nat × SD) := (xT n lt lo nrem 1 t).bind fun r =>
 if (r.1 == nrem) = true then some r
 else if r.1 > 1 then (jj n lt r.2.1 lo (lo + r.1 - 1)).bind fun rose => if rose = true then some r else rW n lt lo nrem r.1 (kas_rev r.2.1 lo (lo + r.1), r.2.2)
 else rW n lt lo nrem r.1 r.2
end
section
variable {prog : Program} {w : World} {E : Value -> Shared -> Prop} {A : Around} {κ : SortKind} {it : Array Keyed} {s : Shared} {n : Nat} {lt : Nat -> Nat -> Bool} {lo nrem : Nat}
theorem xU {ls : List Nat} {b : yF} {t : SD} {r : yF × SD} (h : fq (iG n lt lo) ls b t = some r) (hb : b.1 = none) : r.1.1 = none := by
 refine dH (fun b' _ => b'.1 = none) (fun x b' t' y p e => ?_) ls b t r hb h
 unfold iG at e
 obtain ⟨c, _, e3⟩ := CQ.mp e
 split at e3 <;> (cases e3; rfl)
theorem oW {ls : List Nat} {b : Bi} {t : SD} {r : Bi × SD} (h : fq (gF n lt lo) ls b t = some r) (hb : b.1 = none) : r.1.1 = none := by
 refine dH (fun b' _ => b'.1 = none) (fun x b' t' y p e => ?_) ls b t r hb h
 unfold gF at e
 obtain ⟨c, _, e3⟩ := CQ.mp e
 split at e3
 ·cases e3; rfl
 ·obtain ⟨d, _, e4⟩ := CQ.mp e3
  split at e4 <;> (cases e4; rfl)
theorem ke (ans : cD prog w A κ it s n lt) {t : SD} {fr : Nat} {r : Nat × SD} {body : Nat -> yF -> StateT SortSt Sem (ForInStep yF)} {Q : yF -> SortSt -> Shared -> Prop} (h : xT n lt lo nrem fr t = some r)
  (hb : ∀ x b u y, iG n lt lo x b u = some y -> ∀ R : ForInStep yF -> SortSt -> Shared -> Prop, R (if y.1 = true then .done y.2.1 else .yield y.2.1) (cA κ it y.2.2) s -> kasC (model prog w) A E (body x b) R (cA κ it u) s)
  (hq : Q (none, r.1) (cA κ it r.2) s) : kasC (model prog w) A E (forIn [fr:nrem] (none, fr) body) Q (cA κ it t) s := by
 unfold xT at h
 obtain ⟨z, e1, e2⟩ := CV.mp h
 have kz := xU e1 rfl
 refine kasC_range (cS hb _ _ _ z e1 ?_)
 obtain ⟨⟨z1, z2⟩, z3⟩ := z
 cases kz
 cases e2
 exact hq
theorem vZ (ans : cD prog w A κ it s n lt) {t : SD} {r : Nat × SD} {Q : Option Nat -> SortSt -> Shared -> Prop} (h : qD n lt lo nrem t = some r) (hq : Q (some r.1) (cA κ it r.2) s) : kasC (model prog w) A E (countRun' lo nrem) Q (cA κ it t) s := by
 unfold qD at h
 obtain ⟨r1, h1, h⟩ := CQ.mp h
 rw [countRun'_eq]
 refine kasC_bind (ke ans h1 (fun x b u y e R hR => by
   unfold iG at e
   obtain ⟨c, g1, g2⟩ := CQ.mp e
   refine kasC_bind (cE ans g1 ?_)
   cases c
   ·cases g2; exact kasC_pure hR
   ·cases g2; exact kasC_pure hR) ?_)
 dsimp only
 by_cases g : (r1.1 == nrem) = true
 ·rw [if_pos g] at h
  cases h
  exact bb g (kasC_pure hq)
 ·rw [if_neg g] at h
  refine aQ g ?_
  by_cases g1 : r1.1 > 1
  ·rw [if_pos g1] at h
   obtain ⟨rose, h2, h⟩ := CQ.mp h
   refine bb g1 (kasC_bind (cE ans h2 ?_))
   cases rose
   ·rw [if_neg (by simp)] at h
    refine kasC_bind (cX ?_)
    refine kasC_bind (kasC_lift (wpAny_rule ?_))
    unfold rW at h
    obtain ⟨z, e1, h⟩ := CQ.mp h
    have kz := oW e1 rfl
    refine kasC_bind (kasC_range (cS (step := gF n lt lo) (fun x b u y e R hR => ?_) _ _ _ z e1 ?_))
    ·unfold gF at e
     obtain ⟨c, g1, g2⟩ := CQ.mp e
     refine kasC_bind (cE ans g1 ?_)
     cases c
     ·rw [if_neg (by simp)] at g2
      obtain ⟨d, g3, g4⟩ := CQ.mp g2
      refine kasC_bind (cE ans g3 ?_)
      cases d
      ·cases g4; exact kasC_pure hR
      ·cases g4; exact kasC_pure hR
     ·rw [if_pos rfl] at g2
      cases g2
      by_cases gq : b.2.2 > 0
      ·rw [if_pos gq] at hR
       exact bb rfl (bb gq (kasC_bind (cX (kasC_pure hR))))
      ·rw [if_neg gq] at hR
       exact bb rfl (aQ gq (kasC_pure hR))
    ·obtain ⟨⟨z1, z2, z3⟩, z4⟩ := z
     cases kz
     by_cases gq : z3 > 0
     ·rw [if_pos gq] at h
      refine bb gq (kasC_bind (cX (kasC_bind (cX (kasC_bind (ke ans h (fun x b u y e R hR => by
       unfold iG at e
       obtain ⟨c, g1, g2⟩ := CQ.mp e
       refine kasC_bind (cE ans g1 ?_)
       cases c
       ·cases g2; exact kasC_pure hR
       ·cases g2; exact kasC_pure hR) (kasC_pure hq)))))))
     ·rw [if_neg gq] at h
      refine aQ gq (kasC_bind (cX (kasC_bind (ke ans h (fun x b u y e R hR => by
       unfold iG at e
       obtain ⟨c, g1, g2⟩ := CQ.mp e
       refine kasC_bind (cE ans g1 ?_)
       cases c
       ·cases g2; exact kasC_pure hR
       ·cases g2; exact kasC_pure hR) (kasC_pure hq)))))
   ·rw [if_pos rfl] at h
    cases h
    exact kasC_pure hq
  ·rw [if_neg g1] at h
   refine aQ g1 ?_
   refine kasC_bind (kasC_lift (wpAny_rule ?_))
   unfold rW at h
   obtain ⟨z, e1, h⟩ := CQ.mp h
   have kz := oW e1 rfl
   refine kasC_bind (kasC_range (cS (step := gF n lt lo) (fun x b u y e R hR => ?_) _ _ _ z e1 ?_))
   ·unfold gF at e
    obtain ⟨c, g1, g2⟩ := CQ.mp e
    refine kasC_bind (cE ans g1 ?_)
    cases c
    ·rw [if_neg (by simp)] at g2
     obtain ⟨d, g3, g4⟩ := CQ.mp g2
     refine kasC_bind (cE ans g3 ?_)
     cases d
     ·cases g4; exact kasC_pure hR
     ·cases g4; exact kasC_pure hR
    ·rw [if_pos rfl] at g2
     cases g2
     by_cases gq : b.2.2 > 0
     ·rw [if_pos gq] at hR
      exact bb rfl (bb gq (kasC_bind (cX (kasC_pure hR))))
     ·rw [if_neg gq] at hR
      exact bb rfl (aQ gq (kasC_pure hR))
   ·obtain ⟨⟨z1, z2, z3⟩, z4⟩ := z
    cases kz
    by_cases gq : z3 > 0
    ·rw [if_pos gq] at h
     refine bb gq (kasC_bind (cX (kasC_bind (cX (kasC_bind (ke ans h (fun x b u y e R hR => by
      unfold iG at e
      obtain ⟨c, g1, g2⟩ := CQ.mp e
      refine kasC_bind (cE ans g1 ?_)
      cases c
      ·cases g2; exact kasC_pure hR
      ·cases g2; exact kasC_pure hR) (kasC_pure hq)))))))
    ·rw [if_neg gq] at h
     refine aQ gq (kasC_bind (cX (kasC_bind (ke ans h (fun x b u y e R hR => by
      unfold iG at e
      obtain ⟨c, g1, g2⟩ := CQ.mp e
      refine kasC_bind (cE ans g1 ?_)
      cases c
      ·cases g2; exact kasC_pure hR
      ·cases g2; exact kasC_pure hR) (kasC_pure hq)))))
end
abbrev Bj := Option Unit × Nat
abbrev Ai := Option Unit × Unit
section
variable (n : Nat) (lt : Nat -> Nat -> Bool) (size mr : Nat)
def oX (lo : Nat) (t : SD) : Option (Nat × SD) := (qD n lt lo (size - lo) t).bind fun r => if r.1 < mr then (zK n lt lo (min (size - lo) mr) r.1 r.2).map fun t2 => (min (size - lo) mr, t2) else some r
def e9 (_ : Nat) (b : Bj) (t : SD) : Option (Bool × Bj × SD) :=
 if b.2 >= size then some (true, (none, b.2), t) else (oX n lt size mr b.2 t).bind fun r =>
  match r.2.2.1.back? with
  | none => some (false, (none, b.2 + r.1), (r.2.1, r.2.2.1.push (b.2, r.1, 0), r.2.2.2))
  | some (s1, n1, _) => if r.2.2.1.size > 1 then none else some (false, (none, b.2 + r.1), (r.2.1, (r.2.2.1.modify (r.2.2.1.size - 1) fun x => (x.1, x.2.1, power' size (2 * s1 + n1) (2 * s1 + n1 + n1 + r.1) size)).push (b.2, r.1, 0), r.2.2.2))
def qE (_ : Nat) (_ : Ai) (t : SD) : Option (Bool × Ai × SD) := if t.2.1.size > 1 then none else some (true, (none, ()), t)
def fE (_ : Nat) (_ : Ai) (t : SD) : Option (Bool × Ai × SD) := if t.2.1.size <= 1 then some (true, (none, ()), t) else if t.2.1.size = 2 then (eA n lt 0 t).map fun t' => (false, (none, ()), t') else none
def kg (t : SD) : Option SD := (fq (e9 n lt size mr) (DL 0 size) (none, 0) t).bind fun r => (fq (fE n lt) (DL 0 size) (none, ()) r.2).map (·.2)
end
section
variable {prog : Program} {w : World} {E : Value -> Shared -> Prop} {A : Around} {κ : SortKind} {it : Array Keyed} {s : Shared} {n : Nat} {lt : Nat -> Nat -> Bool}
theorem xV {size mr : Nat} {ls : List Nat} {b : Bj} {t : SD} {r : Bj × SD} (h : fq (e9 n lt size mr) ls b t = some r) (hb : b.1 = none) : r.1.1 = none := by
 refine dH (fun b' _ => b'.1 = none) (fun x b' t' y p e => ?_) ls b t r hb h
 unfold e9 at e
 split at e
 ·cases e; rfl
 ·obtain ⟨c, _, e3⟩ := CQ.mp e
  split at e3
  ·cases e3; rfl
  ·split at e3
   ·cases e3
   ·cases e3; rfl
theorem xW {ls : List Nat} {b : Ai} {t : SD} {r : Ai × SD} (h : fq (fE n lt) ls b t = some r) (hb : b.1 = none) : r.1.1 = none := by
 refine dH (fun b' _ => b'.1 = none) (fun x b' t' y p e => ?_) ls b t r hb h
 unfold fE at e
 split at e
 ·cases e; rfl
 ·split at e
  ·obtain ⟨c, _, e3⟩ := CV.mp e
   cases e3; rfl
  ·cases e
theorem rX {ls : List Nat} {t : SD} (h : ¬ t.2.1.size > 1) : fq qE ls (none, ()) t = some ((none, ()), t) := by
 cases ls with
 | nil => rfl
 | cons x l => show ((qE x (none, ()) t).bind _) = _; unfold qE; rw [if_neg h]; rfl
theorem xX (ans : cD prog w A κ it s n lt) {t t' : SD} {size : Nat} {Q : Unit -> SortSt -> Shared -> Prop} (hs : t.1.size = size) (h : kg n lt size (minRun' size size 0) t = some t') (hq : Q () (cA κ it t') s) : kasC (model prog w) A E sortRuns' Q (cA κ it t) s := by
 unfold kg at h
 obtain ⟨r, h1, h⟩ := CQ.mp h
 obtain ⟨r2, h2, h⟩ := CV.mp h
 have n1 := xV h1 rfl
 have n2 := xW h2 rfl
 rw [sortRuns'_eq]
 refine kasC_bind (kasC_get ?_)
 have es : (arrOf (cA κ it t)).size = size := by show (t.1.map (kas_item it)).size = size; rw [DG]; exact hs
 rw [es]
 refine kasC_bind (kasC_range (cS (step := e9 n lt size (minRun' size size 0)) (fun x b u y e R hR => ?_) _ _ _ r h1 ?_))
 ·unfold e9 at e
  dsimp only
  by_cases g : b.2 >= size
  ·rw [if_pos g] at e
   cases e
   exact bb g (kasC_pure hR)
  ·rw [if_neg g] at e
   refine aQ g ?_
   obtain ⟨c, g1, e⟩ := CQ.mp e
   unfold oX at g1
   obtain ⟨c0, g0, g1⟩ := CQ.mp g1
   refine kasC_bind (vZ ans g0 ?_)
   dsimp only
   by_cases gm : c0.1 < minRun' size size 0
   ·rw [if_pos gm] at g1
    obtain ⟨t2, g2, g3⟩ := CV.mp g1
    cases g3
    refine bb gm (kasC_bind (kasC_lift (wpAny_rule (kasC_bind (zL ans g2 (aQ (by simp) ?_))))))
    refine kasC_bind (kasC_get ?_)
    have ek : (match t2.2.1.back? with | none => some (false, ((none : Option Unit), b.2 + min (size - b.2) (minRun' size size 0)), ((t2.1, t2.2.1.push (b.2, min (size - b.2) (minRun' size size 0), 0), t2.2.2) : SD)) | some (s1, n1, _) => if t2.2.1.size > 1 then none else some (false, (none, b.2 + min (size - b.2) (minRun' size size 0)), (t2.1, (t2.2.1.modify (t2.2.1.size - 1) fun x => (x.1, x.2.1, power' size (2 * s1 + n1) (2 * s1 + n1 + n1 + min (size - b.2) (minRun' size size 0)) size)).push (b.2, min (size - b.2) (minRun' size size 0), 0), t2.2.2))) = some y := e
    show kasC _ _ _ (match t2.2.1.back? with | some (s1, n1, snd) => _ | x => _) _ _ _
    cases hbk : t2.2.1.back? with
    | none =>
     rw [hbk] at ek
     cases ek
     exact kasC_bind (kasC_modify (kasC_pure hR))
    | some z =>
     obtain ⟨s1, n1', z3⟩ := z
     rw [hbk] at ek
     by_cases gz : t2.2.1.size > 1
     ·dsimp only at ek; rw [if_pos gz] at ek; cases ek
     ·dsimp only at ek
      rw [if_neg gz] at ek
      cases ek
      refine kasC_bind (kasC_range (cS (step := qE) (fun x b2 u2 y2 e2 R2 hR2 => ?_) _ _ _ _ (rX gz) ?_))
      ·unfold qE at e2
       refine kasC_bind (kasC_get ?_)
       show kasC _ _ _ (match (if u2.2.1.size > 1 then u2.2.1[u2.2.1.size - 2]? else none) with | some (fst, fst_1, older) => _ | x => _) _ _ _
       by_cases g6 : u2.2.1.size > 1
       ·rw [if_pos g6] at e2; cases e2
       ·rw [if_neg g6] at e2
        cases e2
        rw [if_neg g6]
        exact kasC_pure hR2
      ·exact kasC_bind (kasC_modify (kasC_bind (kasC_modify (kasC_pure hR))))
   ·rw [if_neg gm] at g1
    cases g1
    refine aQ gm ?_
    refine kasC_bind (kasC_get ?_)
    have ek : (match c.2.2.1.back? with | none => some (false, ((none : Option Unit), b.2 + c.1), ((c.2.1, c.2.2.1.push (b.2, c.1, 0), c.2.2.2) : SD)) | some (s1, n1, _) => if c.2.2.1.size > 1 then none else some (false, (none, b.2 + c.1), (c.2.1, (c.2.2.1.modify (c.2.2.1.size - 1) fun x => (x.1, x.2.1, power' size (2 * s1 + n1) (2 * s1 + n1 + n1 + c.1) size)).push (b.2, c.1, 0), c.2.2.2))) = some y := e
    show kasC _ _ _ (match c.2.2.1.back? with | some (s1, n1, snd) => _ | x => _) _ _ _
    cases hbk : c.2.2.1.back? with
    | none =>
     rw [hbk] at ek
     cases ek
     exact kasC_bind (kasC_modify (kasC_pure hR))
    | some z =>
     obtain ⟨s1, n1', z3⟩ := z
     rw [hbk] at ek
     by_cases gz : c.2.2.1.size > 1
     ·dsimp only at ek; rw [if_pos gz] at ek; cases ek
     ·dsimp only at ek
      rw [if_neg gz] at ek
      cases ek
      refine kasC_bind (kasC_range (cS (step := qE) (fun x b2 u2 y2 e2 R2 hR2 => ?_) _ _ _ _ (rX gz) ?_))
      ·unfold qE at e2
       refine kasC_bind (kasC_get ?_)
       show kasC _ _ _ (match (if u2.2.1.size > 1 then u2.2.1[u2.2.1.size - 2]? else none) with | some (fst, fst_1, older) => _ | x => _) _ _ _
       by_cases g6 : u2.2.1.size > 1
       ·rw [if_pos g6] at e2; cases e2
       ·rw [if_neg g6] at e2
        cases e2
        rw [if_neg g6]
        exact kasC_pure hR2
      ·exact kasC_bind (kasC_modify (kasC_bind (kasC_modify (kasC_pure hR))))
 ·obtain ⟨⟨r1, r3⟩, r4⟩ := r
  cases n1
  refine kasC_bind (kasC_range (cS (step := fE n lt) (fun x b u y e R hR => ?_) _ _ _ r2 h2 ?_))
  ·unfold fE at e
   refine kasC_bind (kasC_get ?_)
   by_cases gl : u.2.1.size <= 1
   ·rw [if_pos gl] at e
    cases e
    exact bb gl (kasC_pure hR)
   ·rw [if_neg gl] at e
    by_cases g2 : u.2.1.size = 2
    ·rw [if_pos g2] at e
     obtain ⟨t3, e3, e4⟩ := CV.mp e
     cases e4
     refine aQ gl ?_
     have ei : (if Option.any (fun x => decide (x < (u.2.1[u.2.1.size - 2 + 1]?).elim 0 fun x => x.2.1)) (if u.2.1.size - 2 > 0 then (u.2.1[u.2.1.size - 2 - 1]?).map (fun x => x.2.1) else none) = true then u.2.1.size - 2 - 1 else u.2.1.size - 2) = 0 := by simp [g2]
     show kasC _ _ _ (mergeAt' (if Option.any (fun x => decide (x < (u.2.1[u.2.1.size - 2 + 1]?).elim 0 fun x => x.2.1)) (if u.2.1.size - 2 > 0 then (u.2.1[u.2.1.size - 2 - 1]?).map (fun x => x.2.1) else none) = true then u.2.1.size - 2 - 1 else u.2.1.size - 2) >>= _) _ _ _
     rw [ei]
     exact kasC_bind (qC ans e3 (aQ (by simp) (kasC_pure hR)))
    ·rw [if_neg g2] at e; cases e
  ·obtain ⟨⟨q1, q2⟩, q3⟩ := r2
   cases n2
   cases h
   exact kasC_pure hq
end
def v5 : SD := (DZ (CY 64), #[], 7)
set_option synthInstance.maxSize 4096 in
set_option synthInstance.maxHeartbeats 200000 in
instance dSD : DecidableEq (Nat × SD) := instDecidableEqProd (α := Nat) (β := Array Nat × Array (Nat × Nat × Nat) × Nat)
theorem qF {β : Type} {step : Nat -> β -> SD -> Option (Bool × β × SD)} {x : Nat} {l : List Nat} {b b' : β} {t t' : SD} (h : step x b t = some (false, b', t')) : fq step (x :: l) b t = fq step l b' t' := by
 rw [fq, h]; rfl
theorem oY {β : Type} {step : Nat -> β -> SD -> Option (Bool × β × SD)} {x : Nat} {l : List Nat} {b b' : β} {t t' : SD} (h : step x b t = some (true, b', t')) : fq step (x :: l) b t = some (b', t') := by
 rw [fq, h]; rfl
theorem mB {lt : Nat -> Nat -> Bool} {a b c : List Nat} {g : Nat} (h1 : oX 64 lt 64 32 0 v5 = some (32, (a.toArray, #[], 7))) (h2 : oX 64 lt 64 32 32 (a.toArray, #[(0, 32, 0)], 7) = some (32, (b.toArray, #[(0, 32, 0)], 7)))
  (h3 : eA 64 lt 0 (b.toArray, #[(0, 32, 1), (32, 32, 0)], 7) = some (c.toArray, #[(0, 64, 1)], g)) : kg 64 lt 64 (minRun' 64 64 0) v5 = some (c.toArray, #[(0, 64, 1)], g) := by
 have hm : minRun' 64 64 0 = 32 := by decide +kernel
 have hp : power' 64 (2 * 0 + 32) (2 * 0 + 32 + 32 + 32) 64 = 1 := by decide +kernel
 have er : DL 0 64 = 0 :: 1 :: 2 :: DL 3 61 := rfl
 have s1 : e9 64 lt 64 32 0 (none, 0) v5 = some (false, (none, 32), (a.toArray, #[(0, 32, 0)], 7)) := by
  unfold e9
  rw [if_neg (by decide), h1]
  rfl
 have s2 : e9 64 lt 64 32 1 (none, 32) (a.toArray, #[(0, 32, 0)], 7) = some (false, (none, 64), (b.toArray, #[(0, 32, 1), (32, 32, 0)], 7)) := by
  unfold e9
  rw [if_neg (by decide), h2]
  show (if (1 : Nat) > 1 then none else some (false, ((none : Option Unit), 64), (b.toArray, (#[(0, 32, power' 64 (2 * 0 + 32) (2 * 0 + 32 + 32 + 32) 64)] : Array (Nat × Nat × Nat)).push (32, 32, 0), 7))) = _
  rw [hp]
  rfl
 have s3 : e9 64 lt 64 32 2 (none, 64) (b.toArray, #[(0, 32, 1), (32, 32, 0)], 7) = some (true, (none, 64), (b.toArray, #[(0, 32, 1), (32, 32, 0)], 7)) := by
  unfold e9
  rw [if_pos (by decide)]
 have e1 : fE 64 lt 0 (none, ()) (b.toArray, #[(0, 32, 1), (32, 32, 0)], 7) = some (false, (none, ()), (c.toArray, #[(0, 64, 1)], g)) := by
  unfold fE
  rw [if_neg (by simp), if_pos (by simp), h3]
  rfl
 have e2 : fE 64 lt 1 (none, ()) (c.toArray, #[(0, 64, 1)], g) = some (true, (none, ()), (c.toArray, #[(0, 64, 1)], g)) := by
  unfold fE
  rw [if_pos (by simp)]
 have l1 : fq (e9 64 lt 64 32) (DL 0 64) (none, 0) v5 = some ((none, 64), (b.toArray, #[(0, 32, 1), (32, 32, 0)], 7)) := by
  rw [er, qF s1, qF s2, oY s3]
 have l2 : fq (fE 64 lt) (DL 0 64) (none, ()) (b.toArray, #[(0, 32, 1), (32, 32, 0)], 7) = some ((none, ()), (c.toArray, #[(0, 64, 1)], g)) := by
  rw [er, qF e1, oY e2]
 unfold kg
 rw [hm, l1]
 show Option.map _ (fq (fE 64 lt) (DL 0 64) (none, ()) (b.toArray, #[(0, 32, 1), (32, 32, 0)], 7)) = _
 rw [l2]
 rfl
def oZ : List Nat := [0, 1, 2, 3, 4, 5, 6, 5, 4, 5, 4, 3, 4, 5, 4, 3, 4, 3, 2, 3, 4, 5, 4, 3, 4, 3, 2, 3, 4, 3, 2, 3, 2, 1, 2, 3, 4, 5, 4, 3, 4, 3, 2, 3, 4, 3, 2, 3, 2, 1, 2, 3, 4, 3, 2, 3, 2, 1, 2, 3, 2, 1, 2, 1]
def zO (ls : List Nat) (i j : Nat) : Bool := decide (ls.getD i 0 < ls.getD j 0)
def v7 (a b : List Nat) : Bool := if a.length = b.length then HT.bU (a.map fun (x : Nat) => (x : Int)) (b.map fun (x : Nat) => (x : Int)) else decide (a.length < b.length)
def BZ (n i j : Nat) : Bool := v7 ((bO n).getD i []) ((bO n).getD j [])
def B8 : List Nat := [0, 1, 3, 7, 15, 31, 23, 11, 27, 19, 5, 13, 29, 21, 9, 25, 17, 2, 6, 14, 30, 22, 10, 26, 18, 4, 12, 28, 20, 8, 24, 16, 32, 33, 34, 35, 36, 37, 38, 39, 40, 41, 42, 43, 44, 45, 46, 47, 48, 49, 50, 51, 52, 53, 54, 55, 56, 57, 58, 59, 60, 61, 62, 63]
def B9 : List Nat := [0, 1, 3, 7, 15, 31, 23, 11, 27, 19, 5, 13, 29, 21, 9, 25, 17, 2, 6, 14, 30, 22, 10, 26, 18, 4, 12, 28, 20, 8, 24, 16, 63, 47, 55, 39, 59, 43, 51, 35, 61, 45, 53, 37, 57, 41, 49, 33, 62, 46, 54, 38, 58, 42, 50, 34, 60, 44, 52, 36, 56, 40, 48, 32]
def Bk : List Nat := [0, 1, 3, 7, 15, 31, 63, 47, 23, 55, 39, 11, 27, 59, 43, 19, 51, 35, 5, 13, 29, 61, 45, 21, 53, 37, 9, 25, 57, 41, 17, 49, 33, 2, 6, 14, 30, 62, 46, 22, 54, 38, 10, 26, 58, 42, 18, 50, 34, 4, 12, 28, 60, 44, 20, 52, 36, 8, 24, 56, 40, 16, 48, 32]
def Ca : List Nat := [0, 1, 2, 18, 26, 30, 3, 11, 15, 17, 19, 23, 25, 27, 29, 31, 4, 8, 10, 12, 14, 16, 20, 22, 24, 28, 5, 7, 9, 13, 21, 6, 32, 33, 34, 35, 36, 37, 38, 39, 40, 41, 42, 43, 44, 45, 46, 47, 48, 49, 50, 51, 52, 53, 54, 55, 56, 57, 58, 59, 60, 61, 62, 63]
def Cb : List Nat := [0, 1, 2, 18, 26, 30, 3, 11, 15, 17, 19, 23, 25, 27, 29, 31, 4, 8, 10, 12, 14, 16, 20, 22, 24, 28, 5, 7, 9, 13, 21, 6, 33, 49, 57, 61, 63, 32, 34, 42, 46, 48, 50, 54, 56, 58, 60, 62, 35, 39, 41, 43, 45, 47, 51, 53, 55, 59, 36, 38, 40, 44, 52, 37]
def Bm : List Nat := [0, 1, 33, 49, 57, 61, 63, 2, 18, 26, 30, 32, 34, 42, 46, 48, 50, 54, 56, 58, 60, 62, 3, 11, 15, 17, 19, 23, 25, 27, 29, 31, 35, 39, 41, 43, 45, 47, 51, 53, 55, 59, 4, 8, 10, 12, 14, 16, 20, 22, 24, 28, 36, 38, 40, 44, 52, 5, 7, 9, 13, 21, 37, 6]
theorem Cz : oX 64 (ltS 6) 64 32 0 v5 = some (32, (B8.toArray, #[], 7)) := by decide +kernel
theorem CA : oX 64 (ltS 6) 64 32 32 (B8.toArray, #[(0, 32, 0)], 7) = some (32, (B9.toArray, #[(0, 32, 0)], 7)) := by decide +kernel
theorem CB : eA 64 (ltS 6) 0 (B9.toArray, #[(0, 32, 1), (32, 32, 0)], 7) = some (Bk.toArray, #[(0, 64, 1)], 7) := by decide +kernel
theorem CC : kg 64 (ltS 6) 64 (minRun' 64 64 0) v5 = some (Bk.toArray, #[(0, 64, 1)], 7) := mB Cz CA CB
theorem CD : Bk.isPerm (CY 64) = true := by decide +kernel
theorem CF : oX 64 (zO oZ) 64 32 0 v5 = some (32, (Ca.toArray, #[], 7)) := by decide +kernel
theorem CG : oX 64 (zO oZ) 64 32 32 (Ca.toArray, #[(0, 32, 0)], 7) = some (32, (Cb.toArray, #[(0, 32, 0)], 7)) := by decide +kernel
theorem CH : eA 64 (zO oZ) 0 (Cb.toArray, #[(0, 32, 1), (32, 32, 0)], 7) = some (Bm.toArray, #[(0, 64, 1)], 6) := by decide +kernel
theorem CI : kg 64 (zO oZ) 64 (minRun' 64 64 0) v5 = some (Bm.toArray, #[(0, 64, 1)], 6) := mB CF CG CH
theorem CJ : Bm.isPerm (CY 64) = true := by decide +kernel
def Sorts (n : Nat) (lt : Nat -> Nat -> Bool) (q : List Nat) : Prop := q.Perm (CY n) /\ ((n < 2 /\ q = CY n) \/ (2 <= n /\ n < 64 /\ vO n lt (kas_sort n) = some q.toArray) \/ (n = 64 /\ ∃ r g, kg 64 lt 64 (minRun' 64 64 0) v5 = some (q.toArray, r, g)))
theorem Sorts.few {n : Nat} {lt : Nat -> Nat -> Bool} {q : List Nat} (S : Sorts n lt q) : n <= 64 := by
 rcases S.2 with h | h | h <;> omega
theorem Sorts.le {n : Nat} {lt : Nat -> Nat -> Bool} {q : List Nat} (S : Sorts n lt q) : ∀ i ∈ q, i < n := fun i hi => Ds.mp (S.1.mem_iff.mp hi)
theorem Sorts.len {n : Nat} {lt : Nat -> Nat -> Bool} {q : List Nat} (S : Sorts n lt q) : q.length = n := by rw [S.1.length_eq, DH]
theorem gG {α : Type} (vs : List α) (d : α) : (CY vs.length).map (fun i => vs.getD i d) = vs := by
 apply DV
 ·simp
 ·intro i h1 h2
  rw [El, Ex, CT, CP h2]; rfl
section
variable {prog : Program} {w : World} {E : Value -> Shared -> Prop} {A : Around} {κ : SortKind} {s : Shared} {n : Nat} {lt : Nat -> Nat -> Bool} {q : List Nat} {ks vs : List Value}
theorem Sorts.run {Q : SortSt -> Shared -> Prop} (S : Sorts n lt q) (h2 : 2 <= n) (lk : ks.length = n) (lv : vs.length = n) (ans : ∀ i j (C : Bool -> Shared -> Prop), i < n -> j < n -> i ≠ j -> C (lt i j) s -> kas_ask prog w A κ ks i j C s)
  (h : ∀ st', (arrOf st').map (·.2) = DZ (q.map fun i => vs.getD i Value.none) -> failedOf st' = none -> Q st' s) :
  wpAny (model prog w) A ((sortRuns').run (SortSt.mk' κ (ks.toArray.zip vs.toArray) #[] 7 none)) (fun r s' => Q r.2 s') E s := by
 have hl : ks.length = vs.length := by omega
 rcases S.2 with z | ⟨_, h64, hr⟩ | ⟨e64, r, g, hr⟩
 ·omega
 ·refine kat_run (G := fun p s' => p = q.toArray /\ s' = s) hl (by omega) (by omega) (fun p st' s' _ a2 a3 a4 => ?_) ?_
  ·obtain ⟨rfl, rfl⟩ := a4
   exact h st' (kat_snds hl a2) a3
  ·rw [lv]
   exact mw (n := n) (lt := lt) (fun i j C hi hj hij hC => ans i j C hi hj hij hC) _ hr ⟨rfl, rfl⟩
 ·subst e64
  have zs : (ks.toArray.zip vs.toArray).size = 64 := by simp [lk, lv]
  have est : SortSt.mk' κ (ks.toArray.zip vs.toArray) #[] 7 none = cA κ (ks.toArray.zip vs.toArray) v5 := by
   have e := kas_range (ks.toArray.zip vs.toArray)
   rw [zs] at e
   show SortSt.mk' κ (ks.toArray.zip vs.toArray) #[] 7 none = SortSt.mk' κ ((DZ (CY 64)).map (kas_item (ks.toArray.zip vs.toArray))) #[] 7 none
   rw [e]
  rw [est]
  rw [kat_ask_eq hl] at ans
  refine xX (Q := fun _ st' s' => Q st' s') ans (show v5.1.size = 64 by decide) hr ?_
  exact h _ (kat_snds hl (st := cA κ (ks.toArray.zip vs.toArray) (q.toArray, r, g)) rfl) rfl
theorem nH {a : Addr} {as : List Addr} {ls : List (List Int)} {e0 : Nat} {P : Fin -> Shared -> Prop} (hu : A.units < cLine) (ho : s.heap.get? a = some (seqObj "list" (as.map Value.ref).toArray e0)) (hp : iE s.heap as ls) (hna : a ∉ as)
  (S : Sorts ls.length lt q) (hlt : ∀ i j, i < ls.length -> j < ls.length -> lt i j = HT.bU (ls.getD i []) (ls.getD j []))
  (h : P (.done (.ret .none)) { s with heap := sortedHeap s.heap a (as.map Value.ref) (DZ (q.map fun i => (as.map Value.ref).getD i Value.none)) }) : wpAny (model prog w) A (Builtin.«list.sort» ⟨[.ref a], []⟩) P E s := by
 have la := hp.1
 have h64 := S.few
 have lq := S.len
 generalize hvs : as.map Value.ref = vs at ho h
 have lv : vs.length = ls.length := by rw [<- hvs, CO, la]
 rw [list_sort_plain]
 have lta := Heap.lt_size ho
 obtain ⟨e1, empty1⟩ : ∃ e1, (s.heap.update a (Obj.mapSeq fun _ => #[])).get? a = some (seqObj "list" #[] e1) := ⟨_, get?_update_seq ho fun _ => #[]⟩
 refine wpAny_bind (listItems_at ho rfl (wpAny_bind (listUpdate_at ho rfl (wpAny_bind (seqEpoch_at empty1 rfl (wpAny_bind (wpAny_newTuple (wpAny_bind (wpAny_newList (wpAny_holding ?_) (Dk _))) (by rw [sizeLine_eq]; show vs.length <= _; omega))))) (by rw [sizeLine_eq, C2]; omega) (Dk _))))
 have old : ∀ b o, (s.heap.update a (Obj.mapSeq fun _ => #[])).get? b = some o -> (((s.heap.update a (Obj.mapSeq fun _ => #[])).push (seqObj "tuple" vs.toArray 0)).push (seqObj "list" #[] 0)).get? b = some o := fun b o e => Heap.get?_push_of_some _ (Heap.get?_push_of_some _ e)
 have ho6 := old _ _ empty1
 have hp' : iE (((s.heap.update a (Obj.mapSeq fun _ => #[])).push (seqObj "tuple" vs.toArray 0)).push (seqObj "list" #[] 0)) as ls := ⟨la, fun i b k hb hk => by
  obtain ⟨x, m, e, z⟩ := hp.2 i b k hb hk
  have hne : b ≠ a := fun z => hna (by rw [<- z]; exact CW hb)
  exact ⟨x, m, old _ _ (by rw [Heap.get?_update_ne _ _ _ _ hne]; exact e), z⟩⟩
 show wpAny (model prog w) A _ P E { s with heap := (((s.heap.update a (Obj.mapSeq fun _ => #[])).push (seqObj "tuple" vs.toArray 0)).push (seqObj "list" #[] 0)) }
 dsimp only
 have size_vs : vs.toArray.size = vs.length := C2
 by_cases few : vs.toArray.size < 2
 ·rw [if_pos few, if_pos few]
  refine wpAny_bind (wpAny_pure ?_); rw [StateT.run_pure]; refine wpAny_bind (wpAny_pure ?_); dsimp only
  have eo : (arrOf (SortSt.mk' general' (vs.toArray.zip vs.toArray) #[] 7 none)).map (·.2) = DZ ((CY ls.length).map fun i => vs.getD i Value.none) := by
   have := kat_snds (ks := vs) (vs := vs) rfl (st := SortSt.mk' general' (vs.toArray.zip vs.toArray) #[] 7 none) (p := DZ (CY ls.length)) (by
    have e := kas_range (vs.toArray.zip vs.toArray)
    rw [show (vs.toArray.zip vs.toArray).size = ls.length by simp [lv]] at e
    exact e.symm)
   exact this
  have eq : q = CY ls.length := by
   rcases S.2 with z | z | z
   ·exact z.2
   ·omega
   ·omega
  rw [eo, <- eq]
  refine wpAny_bind (seqEpoch_at ho6 rfl (wpAny_bind (listUpdate_at ho6 rfl ?_ (Dk _) (by rw [C2, CO, lq, sizeLine_eq]; omega))))
  simp only [bne_self_eq_false, if_false, DA]
  exact wpAny_pure h
 ·rw [if_neg few, if_neg few]
  refine wpAny_bind (kas_kind (T := .type "list") (by omega) (fun v hv => ?_) (by decide) (by decide) ?_)
  ·rw [<- hvs] at hv
   obtain ⟨b, hb, rfl⟩ := C9.mp hv
   obtain ⟨i, hi⟩ := EG.mp hb
   obtain ⟨x, m, e, _⟩ := hp'.2 i b _ hi (CP (show i < ls.length by have := (CS.mp hi).1; omega))
   exact (Looks.ld e).andThen .now
  refine wpAny_bind (wpAny_mono (S.run (ks := vs) (vs := vs) (Q := fun st' s' => (arrOf st').map (·.2) = DZ (q.map fun i => vs.getD i Value.none) /\ failedOf st' = none /\ s' = { s with heap := ((s.heap.update a (Obj.mapSeq fun _ => #[])).push (seqObj "tuple" vs.toArray 0)).push (seqObj "list" #[] 0) })
   (by omega) lv lv (fun i j C hi hj hij hC => ?_) fun st' a1 a2 => ⟨a1, a2, rfl⟩) ?_ fun _ _ e => e)
  ·rw [<- hvs] at hp' ⊢
   rw [hlt i j hi hj] at hC
   rw [<- hvs] at hC
   exact tY (s := { s with heap := _ }) hu hp' hi hj hC
  ·rintro ⟨⟨⟩, st'⟩ s' ⟨e1', e2', rfl⟩
   dsimp only at e1' e2' ⊢
   rw [e1', e2']
   refine wpAny_bind (seqEpoch_at ho6 rfl (wpAny_bind (listUpdate_at ho6 rfl ?_ (Dk _) (by rw [C2, CO, lq, sizeLine_eq]; omega))))
   simp only [bne_self_eq_false, if_false, DA]
   exact wpAny_pure h
end
section
variable {X : Cx}
theorem ua (K : PySem.W.Frag) (hu : X.A.units + 64 < cLine) (hK : X.K = K := by rfl) : cu X (.builtin "sorted") (fun xs H Q => ∃ (p : Addr) (as : List Addr) (ls : List (List Int)) (lt : Nat -> Nat -> Bool) (q : List Nat), xs = [.ref p] /\ SqL K H p (as.map V.ref) /\ IntsL H as ls /\ Sorts ls.length lt q /\
  (∀ i j, i < ls.length -> j < ls.length -> lt i j = HT.bU (ls.getD i []) (ls.getD j [])) /\ ∀ l, H l = none -> Q (.ref l) (aI H l (.lst ((q.map fun i => as.getD i 0).map V.ref)))) := by
 subst hK
 intro pins s σ H xs us Q I r h
 obtain ⟨p, as, ls, lt, qq, e, hq, il, S, hlt, q⟩ := h
 subst e
 obtain ⟨u, e, rx⟩ := fv r
 subst e
 cases rx
 obtain ⟨its, rv, pl, hz⟩ := I.list hq
 have ev := my rv
 subst ev
 have la : as.length = ls.length := Paired.length il
 have lim := S.few
 have lq := S.len
 have got : iE s.heap as ls := ⟨la, fun i a l ha hl => by
  obtain ⟨l', e1, e2⟩ := bh il ha
  rw [hl] at e1
  cases e1
  obtain ⟨z, its', n', r', hl', e⟩ := I.lstM e2
  exact ⟨its'.toArray, n', e, dg r'⟩⟩
 have keep : ∀ b o, s.heap.get? b = some o -> b < s.heap.objs.size := fun b o e => Heap.lt_size e
 generalize hvs : (as.map Value.ref) = vs at pl
 have lv : vs.length = ls.length := by rw [<- hvs, CO, la]
 refine Calls.call_function_entry kind_sorted plain_sorted entry_sorted (args_sorted1 _) ?_; unfold Builtin.«sorted»
 refine wpAny_bind (m := checkCount "sorted" 1 1 _) (wpAny_pure (wpAny_bind (collect_list pl.isList ?_ (by rw [sizeLine_eq]; omega))))
 refine wpAny_bind (wpAny_newList (items := vs) ?_ (by rw [sizeLine_eq]; omega))
 have sz1 : ((s.heap.push (seqObj "list" #[] 0)).update s.heap.objs.size (Obj.mapSeq (· ++ vs.toArray))).objs.size = s.heap.objs.size + 1 := (Heap.size_update ..).trans (size_push' ..)
 have old1 : ∀ b o, s.heap.get? b = some o -> ((s.heap.push (seqObj "list" #[] 0)).update s.heap.objs.size (Obj.mapSeq (· ++ vs.toArray))).get? b = some o := fun b o e => by
  rw [Heap.get?_update_ne _ _ _ _ (C6 (keep b o e)), Heap.get?_push_ne _ _ _ (C6 (keep b o e))]; exact e
 show wpAny _ _ _ _ _ { s with heap := (((s.heap.push (seqObj "list" #[] 0)).update s.heap.objs.size (Obj.mapSeq (· ++ vs.toArray))).push (seqObj "list" vs.toArray 0)) }
 generalize ((s.heap.push (seqObj "list" #[] 0)).update s.heap.objs.size (Obj.mapSeq (· ++ vs.toArray))) = h1 at sz1 old1
 have hoL : (h1.push (seqObj "list" vs.toArray 0)).get? h1.objs.size = some (seqObj "list" vs.toArray 0) := Heap.get?_push_size _ rfl
 have pa : iE (h1.push (seqObj "list" vs.toArray 0)) as ls := ⟨got.1, fun i a l ha hl => by
  obtain ⟨us, m, e, z⟩ := got.2 i a l ha hl
  exact ⟨us, m, Heap.get?_push_of_some _ (old1 _ _ e), z⟩⟩
 have nas : h1.objs.size ∉ as := fun m => by
  obtain ⟨i, hi⟩ := EG.mp m
  obtain ⟨l, _, e2⟩ := bh il hi
  obtain ⟨z, its', n', r', hl', e⟩ := I.lstM e2
  exact absurd (keep _ _ e) (by rw [sz1]; exact Nat.not_lt_of_le (E4 _))
 rw [<- hvs] at hoL
 rw [<- hvs]
 refine wpAny_bind (wpAny_holding (wpAny_call_entry slot_list_sort ⟨_, hoL, rfl⟩ entry_list_sort (nH (by show X.A.units + 1 + 1 < cLine; omega) hoL (by rw [hvs]; exact pa) nas S hlt ⟨_, rfl, ?_⟩) (args_list_sort _)))
 refine wpAny_pure ⟨Value.ref h1.objs.size, rfl, ?_⟩
 obtain ⟨ep, he⟩ := sortedHeap_at (out := DZ (qq.map fun i => (as.map Value.ref).getD i Value.none)) hoL
 have k2 : ∀ b o, s.heap.get? b = some o -> (sortedHeap (h1.push (seqObj "list" (as.map Value.ref).toArray 0)) h1.objs.size (as.map Value.ref) (DZ (qq.map fun i => (as.map Value.ref).getD i Value.none))).get? b = some o := fun b o eb => by
  have lt := keep b o eb
  rw [sortedHeap_old (C6 (Dj lt (by rw [sz1]; exact E4 _))) (by rw [Heap.size_push, sz1]; exact DJ (DJ lt))]
  exact Heap.get?_push_of_some _ (old1 b o eb)
 have hn' : s.heap.objs.size <= h1.objs.size := by omega
 have plt : ∀ i ∈ qq, i < as.length := fun i hi => by rw [la]; exact S.le i hi
 refine ⟨.ref h1.objs.size, _, I.laid (t' := s.toks) k2 hn' (show ObjOk X.prog X.w _ _ _ (.lst ((qq.map fun i => as.getD i 0).map V.ref)) from ⟨?_, qq.map fun i => (as.map Value.ref).getD i Value.none, ep, i6 qq plt, by simpa [seqObj] using he⟩), rfl, q _ (I.hok.fresh hn')⟩
 rw [CO, CO, lq, sizeLine_eq]; omega
end
section
variable {X : Cx} {pins : List (Addr × Obj)} {σ : St} {H : Hp} {s : Shared} {h' : Heap}
theorem Inv.grasp {t' : Nat} {D : Addr} {o : HO} (I : Inv X pins σ H s) (k : ∀ b u, b ≠ D -> s.heap.get? b = some u -> h'.get? b = some u) (hn : H D = none) (hL : D ≠ X.env.locals)
  (h1 : D ∈ X.ex \/ X.s₀.heap.objs.size <= D) (h2 : ∀ x c, X.env.cells.lookup x = some c -> c ≠ D) (h3 : ∀ p ∈ X.pn ++ pins, p.1 ≠ D) (new : ObjOk X.prog X.w (aI H D o) h' D o) : Inv X pins σ (aI H D o) { s with heap := h', toks := t' } := by
 have nit : ∀ b u, H b = some u -> b ≠ D := fun b u e z => by rw [z, hn] at e; cases e
 have up : ∀ b u, H b = some u -> aI H D o b = some u := fun b u q => by rw [ar (nit b u q)]; exact q
 refine I.step (g' := s.gens) (d' := s.drawn) (ch := [D]) (fun b hb => ?_) (fun b o _ _ hc e _ => k b o (fun z => hc (by simp [z])) e) (fun b o _ _ hc e _ => ⟨o.slots, k b o (fun z => hc (by simp [z])) e⟩) (fun b u hc _ n => by rw [ar (fun z => hc (by simp [z]))]; exact n)
  (fun b o hc e => ⟨o, k b o (fun z => hc (by simp [z])) e⟩) (fun b xs e => up b _ e) (fun b ob u e => up b _ e) (fun b ps e => ⟨#[], by rw [up b _ e]; simp⟩) (fun m hm => ?_) (fun b u e => ?_) I.bare
 ·have e : b = D := by simpa using hb
  subst e
  exact ⟨h1, hL, h2, h3⟩
 ·obtain ⟨o, es, ep, ho, r⟩ := hm
  exact ⟨o, es, ep, k _ o (Ne.symm hL) ho, r⟩
 ·by_cases z : b = D
  ·subst z
   rw [ag] at e
   cases e
   exact new
  ·rw [ar z] at e
   refine (I.hok b u e).stay (fun c v hc q => k c v ?_ q) (fun c q => up c _ q) fun c xs q => up c _ q
   rcases hc with y | y
   ·rw [y]; exact z
   ·exact nit c _ y
theorem Inv.pinAt {p : Addr × Obj} (I : Inv X (p :: pins) σ H s) : s.heap.get? p.1 = some p.2 /\ H p.1 = none /\ p.1 ≠ X.env.locals /\ p.1 ∉ X.fs /\ ∀ v, p.2.data ≠ .cell v := I.pin p (Dc _ Dg)
theorem Inv.noCell {p : Addr × Obj} (I : Inv X (p :: pins) σ H s) : ∀ x c, X.env.cells.lookup x = some c -> c ≠ p.1 := fun x c e z => by
 obtain ⟨v, o, ho, hd⟩ := I.cell x c e
 obtain ⟨g, _, _, _, nc⟩ := I.pinAt
 rw [z, g] at ho
 cases ho
 exact nc v hd
theorem Inv.unpin {p : Addr × Obj} (I : Inv X (p :: pins) σ H s) : Inv X pins σ H s := I.pins_of fun q hq => I.pin q (Dc _ (C8 _ hq))
theorem Inv.repin {p : Addr × Obj} {o' : Obj} {t' : Nat} (I : Inv X (p :: pins) σ H s) (k : ∀ b u, b ≠ p.1 -> s.heap.get? b = some u -> h'.get? b = some u) (g : h'.get? p.1 = some o') (nc : ∀ v, o'.data ≠ .cell v) (h1 : X.s₀.heap.objs.size <= p.1) (h3 : ∀ x ∈ X.pn ++ pins, x.1 ≠ p.1) :
  Inv X ((p.1, o') :: pins) σ H { s with heap := h', toks := t' } := by
 obtain ⟨_, hn, hL, hf, _⟩ := I.pinAt
 have I1 := I.unpin.turned (t' := t') (it := p.1) k hn hL (.inr h1) I.noCell h3
 refine I1.pins_of fun q hq => ?_
 rcases C5.mp hq with e | hq
 ·subst e
  exact ⟨g, hn, hL, hf, nc⟩
 ·exact I1.pin q (Dc _ hq)
end
def xY (X : Cx) (f : Value) (r : V -> Hp -> VK -> Prop) : Prop := ∀ (pins : List (Addr × Obj)) (s : Shared) (σ : St) (H : Hp) (v : V) (u : Value) (Q : VK), Inv X pins σ H s -> RelV v u -> r v H Q ->
 wpAny (model X.prog X.w) X.A.in1.in1 (call f [u]) (EP X pins σ Q) (fun _ _ => False) s
def KeysT (r : V -> Hp -> VK -> Prop) : List V -> List V -> Hp -> (List V -> Hp -> Prop) -> Prop
 | [], ks, H, Q => Q ks H
 | v :: vs, ks, H, Q => r v H fun k H' => KeysT r vs (ks ++ [k]) H' Q
section
variable {X : Cx}
theorem xZ : xY X (.builtin "len") (fun v H Q => ∃ a l, v = .ref a /\ H a = some (.lst l) /\ Q (.int l.length) H) := by
 intro pins s σ H v u Q I r h
 obtain ⟨a, l, e, hl, q⟩ := h
 subst e
 cases r
 obtain ⟨z, it, n, r', ll, e⟩ := I.lstM hl
 exact Calls.call_len_list (items := it.toArray) ⟨_, e, rfl, n, rfl⟩ (by have := sizeLine_eq; simp only [C2]; omega) ⟨.int l.length, H, I.tok _, by rw [ll]; exact ⟨_, rfl⟩, q⟩
end
section
variable {X : Cx} {E : Value -> Shared -> Prop} {f : Value} {r : V -> Hp -> VK -> Prop} {kS D : Addr} {e1 : Nat} {pins : List (Addr × Obj)} {σ : St}
theorem rY (kr : xY X f r) {body : Value -> PUnit -> Sem (ForInStep PUnit)}
  (hb : ∀ (x : Value) (s : Shared) (C : Shared -> Prop), wpAny (model X.prog X.w) X.A.in1.in1 (call f [x]) (fun k s' => ∃ (ks : List Value) (e : Nat), ks.length <= 64 /\ s'.heap.get? kS = some (seqObj "list" ks.toArray e) /\ C { s' with heap := s'.heap.update kS (Obj.mapSeq (·.push k)) }) (fun _ _ => False) s ->
   wpAny (model X.prog X.w) X.A.in1.in1 (body x ⟨⟩) (fun r s' => r = .yield ⟨⟩ /\ C s') E s) (h1 : X.s₀.heap.objs.size <= kS) (h3 : ∀ x ∈ X.pn ++ ((D, seqObj "list" #[] e1) :: pins), x.1 ≠ kS) {Q : List V -> Hp -> Prop} :
  ∀ (vs : List V) (us : List Value) (ks : List V) (kv : List Value) (e : Nat) (s : Shared) (H : Hp), Vals vs us -> Vals ks kv -> ks.length + vs.length <= 64 -> Inv X ((kS, seqObj "list" kv.toArray e) :: (D, seqObj "list" #[] e1) :: pins) σ H s -> KeysT r vs ks H Q ->
   wpAny (model X.prog X.w) X.A.in1.in1 (forIn us PUnit.unit body) (fun _ s' => ∃ ks' kv' e' H', Vals ks' kv' /\ ks'.length = ks.length + vs.length /\ Inv X ((kS, seqObj "list" kv'.toArray e') :: (D, seqObj "list" #[] e1) :: pins) σ H' s' /\ Q ks' H') E s
 | [], us, ks, kv, e, s, H, rv, rk, hl, I, h => by
  cases rv
  rw [List.forIn_nil]
  exact wpAny_pure ⟨ks, kv, e, H, rk, rfl, I, h⟩
 | v :: vs, us, ks, kv, e, s, H, rv, rk, hl, I, h => by
  cases rv with
  | @cons _ u _ us rx rv =>
  rw [List.forIn_cons]
  have lk : kv.length = ks.length := rk.length.symm
  rw [Dv] at hl
  refine wpAny_bind (wpAny_mono (hb u s (fun s' => ∃ k u' e' H', RelV k u' /\ Inv X ((kS, seqObj "list" (kv ++ [u']).toArray e') :: (D, seqObj "list" #[] e1) :: pins) σ H' s' /\ KeysT r vs (ks ++ [k]) H' Q) (wpAny_mono (kr _ s σ H v u _ I rx h) (fun u' s' hk => ?_) fun _ _ z => z)) (fun q s' hq => ?_) fun _ _ z => z)
  ·obtain ⟨k, H', I', rk', hk⟩ := hk
   obtain ⟨g, _⟩ := I'.pinAt
   have ea : kv.toArray.push u' = (kv ++ [u']).toArray := by simp
   have g2 := get?_update_seq g (·.push u')
   rw [ea] at g2
   exact ⟨kv, e, by omega, g, k, u', _, H', rk', I'.repin (t' := s'.toks) (fun b o hne hb => by rw [Heap.get?_update_ne _ _ _ _ hne]; exact hb) g2 (fun v z => by cases z) h1 h3, hk⟩
  ·obtain ⟨rfl, k, u', e', H', rk', I', hk⟩ := hq
   refine wpAny_mono (rY kr hb h1 h3 vs us (ks ++ [k]) (kv ++ [u']) e' s' H' rv (rk.append (.cons rk' .nil)) (by rw [C3, Da]; omega) I' hk) (fun _ s2 ⟨ks', kv', e2, H2, a1, a2, a3, a4⟩ => ⟨ks', kv', e2, H2, a1, ?_, a3, a4⟩) fun _ _ z => z
   rw [a2, C3, Da, Dv]; omega
def v8 (X : Cx) (ks : List V) (H : Hp) (n : Nat) (lt : Nat -> Nat -> Bool) : Prop := ∀ (pins : List (Addr × Obj)) (σ : St) (s : Shared) (us : List Value), Inv X pins σ H s -> Vals ks us -> 2 <= n -> us.length = n -> ∀ Q : SortKind -> Shared -> Prop,
 (∀ κ, (∀ i j (C : Bool -> Shared -> Prop), i < n -> j < n -> i ≠ j -> C (lt i j) s -> kas_ask X.prog X.w X.A.in1.in1 κ us i j C s) -> Q κ s) -> wpAny (model X.prog X.w) X.A.in1.in1 (keyKind' us.toArray) Q (fun _ _ => False) s
theorem x5 {as : List Addr} {n : Nat} {lt : Nat -> Nat -> Bool} {q : List Nat} {H : Hp} {s : Shared} {P : Fin -> Shared -> Prop} {QQ : Hp -> Prop} (kr : xY X f r) (S : Sorts n lt q) (la : as.length = n)
  (I : Inv X ((kS, seqObj "list" #[] 0) :: (D, seqObj "list" #[] e1) :: pins) σ H s) (hk0 : X.s₀.heap.objs.size <= kS) (hD0 : X.s₀.heap.objs.size <= D) (h3 : ∀ x ∈ X.pn ++ ((D, seqObj "list" #[] e1) :: pins), x.1 ≠ kS) (h4 : ∀ x ∈ X.pn ++ pins, x.1 ≠ D)
  (hk : KeysT r (as.map V.ref) [] H (fun ks H' => v8 X ks H' n lt /\ QQ H')) (h : ∀ H' s', Inv X pins σ (aI H' D (.lst ((q.map fun i => as.getD i 0).map V.ref))) s' -> H' D = none -> QQ H' -> P (.done (.ret .none)) s') :
  wpAny (model X.prog X.w) X.A.in1.in1 (ksk_rest D f false (as.map Value.ref).toArray e1 (.ref kS)) P E s := by
 have h64 := S.few
 have lq := S.len
 have vv : ∀ l : List Addr, Vals (l.map V.ref) (l.map Value.ref) := fun l => by
  induction l with
  | nil => exact .nil
  | cons x l ih => exact .cons rfl ih
 generalize hvs : as.map Value.ref = vs
 have lv : vs.length = n := by rw [<- hvs, CO, la]
 unfold ksk_rest
 refine wpAny_bind (wpAny_rule ?_)
 first
  | rw [List.forIn_toArray]
  | (rw [<- Array.forIn_toList]; simp only [List.toList_toArray])
  | rw [<- Array.forIn_toList]
 refine wpAny_bind (wpAny_mono (rY (E := E) kr (fun x s' C hx => ?_) hk0 h3 (as.map V.ref) vs [] [] 0 s H (by rw [<- hvs]; exact vv as) .nil (by rw [CO]; simp; omega) I hk) (fun _ s' hd => ?_) fun _ _ z => z)
 ·refine wpAny_bind (wpAny_attempt (wpAny_mono hx (fun k s'' hk => ?_) fun _ _ hF => hF.elim))
  obtain ⟨ks, e, l64, g, c⟩ := hk
  dsimp only
  exact wpAny_bind (listUpdate_at g rfl (wpAny_pure ⟨rfl, c⟩) (by rw [C2, sizeLine_eq]; omega) (Di (Nat.le_of_eq (Array.size_push ..)) (by rw [C2, sizeLine_eq]; omega)))
 ·obtain ⟨ks, kv, e, H', rk, lk, I', cm, qq⟩ := hd
  have lkv : kv.length = n := by rw [<- rk.length, lk, CO]; simp [la]
  obtain ⟨gk, _⟩ := I'.pinAt
  refine wpAny_bind (listItems_at gk rfl ?_)
  unfold ksk_end
  dsimp only
  rw [if_neg (by simp)]
  have tail : ∀ st' : SortSt, (arrOf st').map (·.2) = DZ (q.map fun i => vs.getD i Value.none) -> failedOf st' = none -> wpAny (model X.prog X.w) X.A.in1.in1 (ksk_tail D false e1 (.ref kS) st') P E s' := by
   intro st' a1 a2
   have I2 := I'.repin (t' := s'.toks) (h' := s'.heap.update kS (Obj.mapSeq fun _ => #[])) (fun b o hne hb => by rw [Heap.get?_update_ne _ _ _ _ hne]; exact hb) (get?_update_seq gk fun _ => #[]) (fun v z => by cases z) hk0 h3
   have I3 := I2.unpin
   obtain ⟨gD, nD, lD, fD, _⟩ := I3.pinAt
   unfold ksk_tail
   dsimp only
   rw [a1]
   refine wpAny_bind (listUpdate_at gk rfl ?_ (by rw [C2, sizeLine_eq]; omega) (Dk _))
   refine wpAny_bind (wpAny_letGo (wpAny_bind (seqEpoch_at gD rfl ?_)))
   refine wpAny_bind (listUpdate_at gD rfl ?_ (Dk _) (by rw [if_neg (by simp), C2, CO, lq, sizeLine_eq]; omega))
   rw [a2]
   simp only [bne_self_eq_false, DA, if_false]
   refine wpAny_pure (h H' _ (I3.unpin.grasp (t' := s'.toks) (D := D) (fun b o hne hb => by rw [Heap.get?_update_ne _ _ _ _ hne]; exact hb) nD lD (.inr hD0) I3.noCell h4 ⟨?_, q.map fun i => vs.getD i Value.none, _, ?_, get?_update_seq gD fun _ => DZ (q.map fun i => vs.getD i Value.none)⟩) nD qq)
   ·rw [CO, CO, lq, sizeLine_eq]; omega
   ·rw [<- hvs]
    exact i6 q fun i hi => by rw [la]; exact S.le i hi
  by_cases few : vs.toArray.size < 2
  ·rw [if_pos few, if_pos few]
   refine wpAny_bind (wpAny_pure ?_); rw [StateT.run_pure]; refine wpAny_bind (wpAny_pure ?_); dsimp only
   rw [C2] at few
   refine tail _ ?_ rfl
   have eq : q = CY n := by
    rcases S.2 with z | z | z
    ·exact z.2
    ·omega
    ·omega
   have := kat_snds (ks := kv) (vs := vs) (by omega) (st := SortSt.mk' general' (kv.toArray.zip vs.toArray) #[] 7 none) (p := DZ (CY n)) (by
    have e := kas_range (kv.toArray.zip vs.toArray)
    rw [show (kv.toArray.zip vs.toArray).size = n by simp [lv, lkv]] at e
    exact e.symm)
   rw [eq]
   simpa using this
  ·rw [if_neg few, if_neg few]
   rw [C2] at few
   refine wpAny_bind (wpAny_mono (cm _ _ s' kv I' rk (by omega) lkv (fun κ s2 => (∀ i j (C : Bool -> Shared -> Prop), i < n -> j < n -> i ≠ j -> C (lt i j) s2 -> kas_ask X.prog X.w X.A.in1.in1 κ kv i j C s2) /\ s2 = s') fun κ z => ⟨z, rfl⟩) (fun κ s2 hz => ?_) fun _ _ z => z.elim)
   obtain ⟨ans, rfl⟩ := hz
   rw [if_neg (by simp)]
   refine wpAny_bind (wpAny_mono (S.run (ks := kv) (vs := vs) (Q := fun st' s3 => ((arrOf st').map (·.2) = DZ (q.map fun i => vs.getD i Value.none) /\ failedOf st' = none) /\ s3 = s2) (by omega) lkv lv ans fun st' a1 a2 => ⟨⟨a1, a2⟩, rfl⟩) (fun r s3 hz => ?_) fun _ _ z => z)
   obtain ⟨⟨⟩, st'⟩ := r
   obtain ⟨⟨a1, a2⟩, rfl⟩ := hz
   exact tail st' a1 a2
end
def v9 (K : PySem.W.Frag) (r : V -> Hp -> VK -> Prop) (C : List V -> Hp -> Nat -> (Nat -> Nat -> Bool) -> Prop) (ta : TA) : TE := fun σ H Q => ta σ H fun vs H1 => ∃ (p : Addr) (as : List Addr) (lt : Nat -> Nat -> Bool) (q : List Nat), vs = [.ref p] /\ SqL K H1 p (as.map V.ref) /\ Sorts as.length lt q /\
 KeysT r (as.map V.ref) [] H1 fun ks H' => C ks H' as.length lt /\ ∀ D, H1 D = none -> H' D = none -> Q (.ref D) (aI H' D (.lst ((q.map fun i => as.getD i 0).map V.ref)))
section
variable {X : Cx} {pins : List (Addr × Obj)} {σ : St} {H : Hp} {s : Shared} {r : V -> Hp -> VK -> Prop} {C : List V -> Hp -> Nat -> (Nat -> Nat -> Bool) -> Prop}
theorem KeysT.mono {Q Q' : List V -> Hp -> Prop} (hr : ∀ v H (Q Q' : VK), (∀ k H', Q k H' -> Q' k H') -> r v H Q -> r v H Q') (h : ∀ ks H', Q ks H' -> Q' ks H') : ∀ (vs ks : List V) (H : Hp), KeysT r vs ks H Q -> KeysT r vs ks H Q'
 | [], ks, H, z => h _ _ z
 | v :: vs, ks, H, z => hr v H _ _ (fun k H' y => KeysT.mono hr h vs _ H' y) z
theorem qG {p : Addr} {as : List Addr} {lt : Nat -> Nat -> Bool} {q : List Nat} {f : Value} {kw : List (Str × Value)} {Q : VK} (kr : xY X f r) (hC : ∀ ks H' n lt, C ks H' n lt -> v8 X ks H' n lt) (hr : ∀ v H (Q Q' : VK), (∀ k H', Q k H' -> Q' k H') -> r v H Q -> r v H Q')
  (ha1 : argsOk "sorted" ⟨[.ref p], kw⟩) (ha2 : ∀ x, argsOk "list.sort" ⟨[.ref x], kw⟩) (ht : ∀ x, Builtin.«list.sort» ⟨[.ref x], kw⟩ = ksk_tree x f false)
  (I : Inv X pins σ H s) (hq : SqL X.K H p (as.map V.ref)) (S : Sorts as.length lt q) (hk : KeysT r (as.map V.ref) [] H fun ks H' => C ks H' as.length lt /\ ∀ D, H D = none -> H' D = none -> Q (.ref D) (aI H' D (.lst ((q.map fun i => as.getD i 0).map V.ref)))) :
  wpAny (model X.prog X.w) X.A (call (.builtin "sorted") [.ref p] kw) (EP X pins σ Q) X.xe s := by
 obtain ⟨its, rv, pl, hz⟩ := I.list hq
 have ev := my rv
 subst ev
 have h64 := S.few
 have keep : ∀ b o, s.heap.get? b = some o -> b < s.heap.objs.size := fun b o e => Heap.lt_size e
 generalize hvs : (as.map Value.ref) = vs at pl
 have lv : vs.length = as.length := by rw [<- hvs, CO]
 refine call_function_entry_kw kind_sorted plain_sorted entry_sorted ha1 ?_; unfold Builtin.«sorted»
 refine wpAny_bind (m := checkCount "sorted" 1 1 _) (wpAny_pure (wpAny_bind (collect_list pl.isList ?_ (by rw [sizeLine_eq]; omega))))
 refine wpAny_bind (wpAny_newList (items := vs) ?_ (by rw [sizeLine_eq]; omega))
 have sz1 : ((s.heap.push (seqObj "list" #[] 0)).update s.heap.objs.size (Obj.mapSeq (· ++ vs.toArray))).objs.size = s.heap.objs.size + 1 := (Heap.size_update ..).trans (size_push' ..)
 have old1 : ∀ b o, s.heap.get? b = some o -> ((s.heap.push (seqObj "list" #[] 0)).update s.heap.objs.size (Obj.mapSeq (· ++ vs.toArray))).get? b = some o := fun b o e => by
  rw [Heap.get?_update_ne _ _ _ _ (C6 (keep b o e)), Heap.get?_push_ne _ _ _ (C6 (keep b o e))]; exact e
 show wpAny _ _ _ _ _ { s with heap := (((s.heap.push (seqObj "list" #[] 0)).update s.heap.objs.size (Obj.mapSeq (· ++ vs.toArray))).push (seqObj "list" vs.toArray 0)) }
 generalize ((s.heap.push (seqObj "list" #[] 0)).update s.heap.objs.size (Obj.mapSeq (· ++ vs.toArray))) = h1 at sz1 old1
 have hoL : (h1.push (seqObj "list" vs.toArray 0)).get? h1.objs.size = some (seqObj "list" vs.toArray 0) := Heap.get?_push_size _ rfl
 refine wpAny_bind (wpAny_holding (wpAny_call_entry_kw slot_list_sort ⟨_, hoL, rfl⟩ entry_list_sort ?body (ha2 _)))
 show wpAny (model X.prog X.w) X.A.in1.in1 (Builtin.«list.sort» ⟨[.ref h1.objs.size], kw⟩) _ _ _
 rw [ht]
 generalize hD : h1.objs.size = D at hoL
 have ho : (h1.push (seqObj "list" vs.toArray 0)).get? D = some (seqObj "list" vs.toArray 0) := hoL
 obtain ⟨e1, ho1⟩ : ∃ e1, ((h1.push (seqObj "list" vs.toArray 0)).update D (Obj.mapSeq fun _ => (#[] : Array Value))).get? D = some (seqObj "list" #[] e1) := ⟨_, get?_update_seq ho fun _ => #[]⟩
 have sz2 : (((h1.push (seqObj "list" vs.toArray 0)).update D (Obj.mapSeq fun _ => (#[] : Array Value))).push (seqObj "tuple" vs.toArray 0)).objs.size = D + 2 := by rw [size_push', Heap.size_update, size_push', hD]
 have hs : s.heap.objs.size <= D := by rw [<- hD, sz1]; exact E4 _
 have far : ∀ b : Addr, b < s.heap.objs.size -> b ≠ D /\ b ≠ D + 2 := fun b hb => ⟨C6 (Dj hb hs), C6 (Dj hb (Di hs (EO _ _)))⟩
 unfold ksk_tree
 refine wpAny_bind (listItems_at ho rfl ?_)
 refine wpAny_bind (listUpdate_at ho rfl ?_ (by rw [C2, sizeLine_eq]; omega) (Dk _))
 refine wpAny_bind (seqEpoch_at ho1 rfl ?_)
 refine wpAny_bind (wpAny_newTuple ?_ (by show vs.length <= _; rw [sizeLine_eq]; omega))
 refine wpAny_bind (wpAny_newList ?_ (Dk _))
 refine wpAny_holding ?_
 show wpAny _ _ (ksk_rest D f false vs.toArray e1 (.ref (((h1.push (seqObj "list" vs.toArray 0)).update D (Obj.mapSeq fun _ => (#[] : Array Value))).push (seqObj "tuple" vs.toArray 0)).objs.size)) _ _ { s with heap := ((((h1.push (seqObj "list" vs.toArray 0)).update D (Obj.mapSeq fun _ => (#[] : Array Value))).push (seqObj "tuple" vs.toArray 0)).push (seqObj "list" #[] 0)) }
 have gk : ((((h1.push (seqObj "list" vs.toArray 0)).update D (Obj.mapSeq fun _ => (#[] : Array Value))).push (seqObj "tuple" vs.toArray 0)).push (seqObj "list" #[] 0)).get? (D + 2) = some (seqObj "list" #[] 0) := by
  rw [<- sz2]; exact Heap.get?_push_size _ rfl
 have gD : ((((h1.push (seqObj "list" vs.toArray 0)).update D (Obj.mapSeq fun _ => (#[] : Array Value))).push (seqObj "tuple" vs.toArray 0)).push (seqObj "list" #[] 0)).get? D = some (seqObj "list" #[] e1) := Heap.get?_push_of_some _ (Heap.get?_push_of_some _ ho1)
 have old : ∀ b o, s.heap.get? b = some o -> ((((h1.push (seqObj "list" vs.toArray 0)).update D (Obj.mapSeq fun _ => (#[] : Array Value))).push (seqObj "tuple" vs.toArray 0)).push (seqObj "list" #[] 0)).get? b = some o := fun b o e => by
  have := keep b o e
  refine Heap.get?_push_of_some _ (Heap.get?_push_of_some _ ?_)
  rw [Heap.get?_update_ne _ _ _ _ (far b this).1]
  exact Heap.get?_push_of_some _ (old1 b o e)
 rw [sz2]
 generalize ((((h1.push (seqObj "list" vs.toArray 0)).update D (Obj.mapSeq fun _ => (#[] : Array Value))).push (seqObj "tuple" vs.toArray 0)).push (seqObj "list" #[] 0)) = h3 at gk gD old
 have I0 : Inv X pins σ H { s with heap := h3, toks := s.toks } := I.kept old
 have fD : H D = none := I.hok.fresh hs
 have fk : H (D + 2) = none := I.hok.fresh (Di hs (EO _ _))
 have lt0 := I.lt
 have sz0 := I.sz
 have pl2 : ∀ x ∈ X.pn ++ pins, x.1 < s.heap.objs.size := fun x hx => keep _ _ (I.pin x hx).1
 have I1 : Inv X ((D + 2, seqObj "list" #[] 0) :: (D, seqObj "list" #[] e1) :: pins) σ H { s with heap := h3 } := I0.pins_of fun x hx => by
  rcases C5.mp hx with e | hx
  ·subst e
   exact ⟨gk, fk, fun z => (far _ lt0).2 z.symm, I.nofs (Di hs (EO _ _)), fun v z => by cases z⟩
  ·rcases C5.mp hx with e | hx
   ·subst e
    exact ⟨gD, fD, fun z => (far _ lt0).1 z.symm, I.nofs hs, fun v z => by cases z⟩
   ·exact I0.pin x (Dc _ hx)
 rw [<- hvs]
 refine x5 (QQ := fun H' => ∀ D, H D = none -> H' D = none -> Q (.ref D) (aI H' D (.lst ((q.map fun i => as.getD i 0).map V.ref)))) kr S rfl I1 (Di sz0 (Di hs (EO _ _))) (Di sz0 hs) (fun x hx => ?_) (fun x hx => ?_) (KeysT.mono hr (fun ks H' z => ⟨hC _ _ _ _ z.1, z.2⟩) _ _ _ hk) fun H' s' I' nD qq => ?_
 ·rcases C7.mp hx with hx | hx
  ·exact (far _ (pl2 x (Dh _ hx))).2
  ·rcases C5.mp hx with e | hx
   ·subst e; exact C6 (Nat.lt_add_of_pos_right (by decide))
   ·exact (far _ (pl2 x (Dc _ hx))).2
 ·exact (far _ (pl2 x hx)).1
 ·exact ⟨_, rfl, wpAny_pure ⟨_, rfl, .ref D, _, I', rfl, qq D fD nD⟩⟩
end
section
variable {X : Cx} {a : Expr} {ta : TA} {p1 p2 kpos pos : Pos}
def A3 : V -> Hp -> VK -> Prop := fun v H Q => ∃ a l, v = .ref a /\ H a = some (.lst l) /\ Q (.int l.length) H
def yG : List V -> Hp -> Nat -> (Nat -> Nat -> Bool) -> Prop := fun ks _ n lt => ∃ zs : List Int, ks = zs.map V.int /\ ∀ i j, i < n -> j < n -> lt i j = decide (zs.getD i 0 < zs.getD j 0)
theorem jk {zs : List Int} {us : List Value} {i : Nat} (r : Vals (zs.map V.int) us) (hi : i < us.length) : ∃ t, us.getD i Value.none = .int (zs.getD i 0) t := by
 have ii := dg r
 clear r
 induction ii generalizing i with
 | nil => exact absurd hi (Nat.not_lt_zero _)
 | cons n t _ ih =>
  cases i with
  | zero => exact ⟨t, rfl⟩
  | succ i => exact ih (i := i) (Nat.lt_of_succ_lt_succ hi)
theorem wa {ks : List V} {H : Hp} {n : Nat} {lt : Nat -> Nat -> Bool} (h : yG ks H n lt) : v8 X ks H n lt := by
 intro pins σ s us I r h2 hl Q hQ
 obtain ⟨zs, e, hz⟩ := h
 subst e
 have ii := dg r
 rw [ksk_kind (keys := us.toArray) (kz := zs) ii (by rw [C2]; omega)]
 refine wpAny_pure (hQ _ fun i j C hi hj hij hC => ?_)
 unfold kas_ask
 obtain ⟨ti, ei⟩ := jk r (i := i) (by omega)
 obtain ⟨tj, ej⟩ := jk r (i := j) (by omega)
 rw [ei, ej]
 refine kat_lt_int ?_
 rw [<- hz i j hi hj]
 exact hC
def mC (a b : List Int) : Bool := if a.length = b.length then HT.bU a b else decide (a.length < b.length)
end
section
variable {X : Cx} {a : Expr} {ta : TA} {p1 p2 kpos pos : Pos}
theorem uc (K : PySem.W.Frag) (hg : Gl X "sorted") (hm : X.mg "sorted" = none) (hg2 : Gl X "len") (hm2 : X.mg "len" = none) (ha : PA X [a] ta) (hK : X.K = K := by rfl)
  (he : backTo pos (starEach [a] X.env) = (false, eval a X.env) :: backTo pos (starEach [] X.env) := by rfl) (hpl : (backTo pos (starEach [a] X.env)).any (·.1) = false := by rfl) :
  PE X (.Call (.Name "sorted" p1) [a] [⟨some "key", .Name "len" p2, kpos⟩] pos) (v9 K A3 yG ta) := by
 subst hK
 intro pins s σ H Q I h
 refine wpAny_Call_Name_kw (eB I hg hm boot_sorted ?_)
 refine PyProof.Rows.callWith_kw (bP (ha pos pins s σ H _ I h) fun us s1 ⟨vs, H1, I1, r, q⟩ => ?_) he hpl
 refine wpAny_evalAll_cons (wpAny_bind (eB I1 hg2 hm2 boot_len (wpAny_bind (wpAny_standAt (wpAny_pure (wpAny_evalAll_nil ?_))))))
 obtain ⟨p, as, lt, qq, e, hq, S, hk⟩ := q
 subst e
 obtain ⟨u, e, rx⟩ := fv r
 subst e
 cases rx
 exact qG (f := .builtin "len") (kw := [(Str.ofString "key", .builtin "len")]) xZ (fun _ _ _ _ h => wa h) (fun v H Q Q' m ⟨a, l, e1, e2, e3⟩ => ⟨a, l, e1, e2, m _ _ e3⟩) (ksk_s1 _ _) (fun x => ksk_l1 _ _) (fun x => ksk_t4 _ _) I1 hq S hk
end
section
variable {n : Nat} {lt : Nat -> Nat -> Bool}
end
theorem wb : ∀ {a b c : List Int}, HT.bU a b = true -> HT.bU b c = true -> HT.bU a c = true
 | [], [], _, h, _ => by cases h
 | [], _ :: _, [], _, h => by cases h
 | [], _ :: _, _ :: _, _, _ => rfl
 | _ :: _, [], _, h, _ => by cases h
 | _ :: _, _ :: _, [], _, h => by cases h
 | x :: a, y :: b, z :: c, h, g => by
  rw [HT.df] at h g ⊢
  by_cases e : x = y
  ·rw [if_pos e] at h
   subst e
   by_cases f : x = z
   ·rw [if_pos f] at g ⊢
    exact wb h g
   ·rw [if_neg f] at g ⊢
    exact g
  ·rw [if_neg e] at h
   have h := of_decide_eq_true h
   by_cases f : y = z
   ·subst f
    rw [if_neg e]
    exact decide_eq_true h
   ·rw [if_neg f] at g
    have g := of_decide_eq_true g
    rw [if_neg (by omega)]
    exact decide_eq_true (by omega)
theorem wc : ∀ {a b : List Int}, HT.bU a b = true -> HT.bU b a = false
 | [], [], h => by cases h
 | [], _ :: _, _ => rfl
 | _ :: _, [], h => by cases h
 | x :: a, y :: b, h => by
  rw [HT.df] at h ⊢
  by_cases e : x = y
  ·rw [if_pos e] at h
   rw [if_pos e.symm]
   exact wc h
  ·rw [if_neg e] at h
   have h := of_decide_eq_true h
   rw [if_neg fun z => e z.symm]
   exact decide_eq_false (by omega)
theorem zP {a b c : List Int} (h : mC a b = true) (g : mC b c = true) : mC a c = true := by
 unfold mC at *
 by_cases e : a.length = b.length
 ·rw [if_pos e] at h
  by_cases f : b.length = c.length
  ·rw [if_pos f] at g
   rw [if_pos (e.trans f)]
   exact wb h g
  ·rw [if_neg f] at g
   rw [if_neg (by omega), e]
   exact g
 ·rw [if_neg e] at h
  have h := of_decide_eq_true h
  by_cases f : b.length = c.length
  ·rw [if_neg (by omega)]
   exact decide_eq_true (by omega)
  ·rw [if_neg f] at g
   have g := of_decide_eq_true g
   rw [if_neg (by omega)]
   exact decide_eq_true (by omega)
theorem we {a b : List Int} (h : mC a b = true) : mC b a = false := by
 unfold mC at *
 by_cases e : a.length = b.length
 ·rw [if_pos e] at h
  rw [if_pos e.symm]
  exact wc h
 ·rw [if_neg e] at h
  have h := of_decide_eq_true h
  rw [if_neg (by omega)]
  exact decide_eq_false (by omega)
def qS : Nat -> List Nat
 | 0 => [0]
 | 1 => [0, 1]
 | 2 => [0, 1, 3, 2]
 | 3 => [0, 1, 3, 7, 5, 2, 6, 4]
 | 4 => [0, 1, 3, 7, 15, 11, 5, 13, 9, 2, 6, 14, 10, 4, 12, 8]
 | 5 => [0, 1, 3, 7, 15, 31, 23, 11, 27, 19, 5, 13, 29, 21, 9, 25, 17, 2, 6, 14, 30, 22, 10, 26, 18, 4, 12, 28, 20, 8, 24, 16]
 | _ => Bk
def qK : Nat -> List Nat
 | 0 => [0]
 | 1 => [0, 1]
 | 2 => [0, 1, 3, 2]
 | 3 => [0, 1, 5, 7, 2, 4, 6, 3]
 | 4 => [0, 1, 9, 13, 15, 2, 6, 8, 10, 12, 14, 3, 5, 7, 11, 4]
 | 5 => [0, 1, 17, 25, 29, 31, 2, 10, 14, 16, 18, 22, 24, 26, 28, 30, 3, 7, 9, 11, 13, 15, 19, 21, 23, 27, 4, 6, 8, 12, 20, 5]
 | _ => Bm
def kh (n : Nat) : List Nat := (qS n).map fun i => ((bO n).getD i []).length
def uv (n : Nat) : List Nat := (qK n).map fun i => (qS n).getD i 0
theorem rZ {P : Nat -> Prop} (h0 : P 0) (h1 : P 1) (h2 : P 2) (h3 : P 3) (h4 : P 4) (h5 : P 5) (h6 : P 6) : ∀ n, n <= 6 -> P n
 | 0, _ => h0 | 1, _ => h1 | 2, _ => h2 | 3, _ => h3 | 4, _ => h4 | 5, _ => h5 | 6, _ => h6
 | n + 7, h => absurd h (by omega)
theorem bp {n : Nat} {lt : Nat -> Nat -> Bool} {q : List Nat} (h2 : 2 <= n) (h64 : n < 64) (p : q.isPerm (CY n) = true) (r : vO n lt (kas_sort n) = some q.toArray) : Sorts n lt q := ⟨E9.mp p, .inr (.inl ⟨h2, h64, r⟩)⟩
theorem r8 : ∀ n, n <= 6 -> Sorts (2 ^ n) (ltS n) (qS n) := rZ ⟨List.Perm.refl _, .inl ⟨by decide, rfl⟩⟩ (bp (by decide) (by decide) (by decide +kernel) (by decide +kernel)) (bp (by decide) (by decide) (by decide +kernel) (by decide +kernel)) (bp (by decide) (by decide) (by decide +kernel) (by decide +kernel))
 (bp (by decide) (by decide) (by decide +kernel) (by decide +kernel)) (bp (by decide) (by decide) (by decide +kernel) (by decide +kernel)) ⟨E9.mp CD, .inr (.inr ⟨rfl, _, _, CC⟩)⟩
theorem wg : kh 6 = oZ := by decide +kernel
theorem yH : ∀ n, n <= 6 -> Sorts (2 ^ n) (zO (kh n)) (qK n) := rZ ⟨List.Perm.refl _, .inl ⟨by decide, rfl⟩⟩ (bp (by decide) (by decide) (by decide +kernel) (by decide +kernel)) (bp (by decide) (by decide) (by decide +kernel) (by decide +kernel)) (bp (by decide) (by decide) (by decide +kernel) (by decide +kernel))
 (bp (by decide) (by decide) (by decide +kernel) (by decide +kernel)) (bp (by decide) (by decide) (by decide +kernel) (by decide +kernel)) ⟨E9.mp CJ, .inr (.inr ⟨rfl, _, _, by rw [wg]; exact CI⟩)⟩
def Bn (n : Nat) : List Nat -> Bool
 | i :: j :: l => BZ n i j && Bn n (j :: l)
 | _ => true
theorem x6 : ∀ n, n <= 6 -> Bn n (uv n) = true := rZ (by decide +kernel) (by decide +kernel) (by decide +kernel) (by decide +kernel) (by decide +kernel) (by decide +kernel) (by decide +kernel)
theorem iH : ∀ n, n <= 6 -> (uv n).Perm (CY (2 ^ n)) := fun n h => E9.mp (rZ (P := fun n => (uv n).isPerm (CY (2 ^ n)) = true) (by decide +kernel) (by decide +kernel) (by decide +kernel) (by decide +kernel) (by decide +kernel) (by decide +kernel) (by decide +kernel) n h)
theorem x8 (a b : List Nat) : v7 a b = mC (a.map fun (x : Nat) => (x : Int)) (b.map fun (x : Nat) => (x : Int)) := by
 unfold v7 mC
 rw [CO, CO]
theorem wj {n : Nat} : ∀ (l : List Nat), Bn n l = true -> l.Pairwise fun i j => BZ n i j = true
 | [], _ => .nil
 | [i], _ => DN _ _
 | i :: j :: l, h => by
  unfold Bn at h
  rw [Dx] at h
  have r := wj (j :: l) h.2
  refine .cons (fun k hk => ?_) r
  rcases C5.mp hk with z | z
  ·rw [z]; exact h.1
  ·have g := List.rel_of_pairwise_cons r z
   unfold BZ at *
   rw [x8] at *
   exact zP h.1 g
theorem zQ {st : List Int} {n : Nat} (up : st.Pairwise (· < ·)) (hn : st.length = n) {A B : List Nat} (hA : A ∈ bO n) (hB : B ∈ bO n) : mC (b8 st A) (b8 st B) = v7 A B := by
 unfold mC v7
 have e : HT.bU (b8 st A) (b8 st B) = HT.bU (A.map fun (x : Nat) => (x : Int)) (B.map fun (x : Nat) => (x : Int)) := nF _ _ fun x hx y hy => qA up (by rw [hn]; exact cL n A hA x hx) (by rw [hn]; exact cL n B hB y hy)
 rw [e]
 unfold b8
 rw [CO, CO]
def ki (st : List Int) : List (List Int) := (uv st.length).map fun i => b8 st ((bO st.length).getD i [])
theorem jM {n i : Nat} (h : i < 2 ^ n) : (bO n).getD i [] ∈ bO n := by
 rw [<- dt] at h
 rw [kP (CP h)]
 exact Do h
theorem wk {st : List Int} (up : st.Pairwise (· < ·)) (h6 : st.length <= 6) : (ki st).Pairwise fun x y => mC x y = true := by
 unfold ki
 rw [EJ]
 refine List.Pairwise.imp_of_mem (fun {i j} hi hj h => ?_) (wj _ (x6 _ h6))
 have m : ∀ i ∈ uv st.length, i < 2 ^ st.length := fun i hi => Ds.mp ((iH _ h6).mem_iff.mp hi)
 rw [zQ up rfl (jM (m i hi)) (jM (m j hj))]
 exact h
theorem iI {st : List Int} (h6 : st.length <= 6) : (ki st).Perm ((bO st.length).map (b8 st)) := by
 have := (iH _ h6).map fun i => b8 st ((bO st.length).getD i [])
 have e : (CY (2 ^ st.length)).map (fun i => b8 st ((bO st.length).getD i [])) = (bO st.length).map (b8 st) := by
  have p := gG (bO st.length) []
  rw [dt] at p
  conv => rhs; rw [<- p]
  rw [Dq]
  rfl
 rw [e] at this
 exact this
theorem zU (a : List Int) : mC a a = false := by
 cases h : mC a a with
 | false => rfl
 | true => have := we h; rw [h] at this; cases this
theorem o4 {α : Type} (l : List α) (d : α) (P : α -> Bool) : ((CY l.length).filter fun i => P (l.getD i d)).map (fun i => l.getD i d) = l.filter P := by
 conv => rhs; rw [<- gG l d]
 rw [E8]
 rfl
theorem iJ {α : Type} {l : List α} {i : Nat} {d : α} (h : i < l.length) : l[i]? = some (l.getD i d) := by
 rw [CT, CP h]; rfl
theorem i7 {H : Hp} {as : List Addr} {ls : List (List Int)} (il : IntsL H as ls) : ∀ (q : List Nat), (∀ i ∈ q, i < ls.length) -> IntsL H (q.map fun i => as.getD i 0) (q.map fun i => ls.getD i [])
 | [], _ => .nil
 | i :: q, h => by
  have hi := h i Dg
  obtain ⟨a, e1, e2⟩ := cg il (iJ (d := []) hi)
  exact .cons (by show H (as.getD i 0) = _; rw [kP e1]; exact e2) (i7 il q fun j hj => h j (C8 _ hj))
def kQ (st : List Int) : List (List Int) := (bO st.length).map (b8 st)
theorem o5 {st : List Int} {x : Int} {l : List Nat} (h : ∀ k ∈ l, k < st.length) : b8 (st ++ [x]) l = b8 st l := by
 unfold b8
 refine DX fun k hk => ?_
 rw [CT, CT, ES (h k hk)]
theorem o6 (st : List Int) (x : Int) : kQ (st ++ [x]) = kQ st ++ (kQ st).map fun l => l ++ [x] := by
 unfold kQ
 rw [C3, Da]
 show (bO st.length ++ (bO st.length).map fun l => l ++ [st.length]).map (b8 (st ++ [x])) = _
 rw [Df]
 refine congr (congrArg _ ?_) ?_
 ·exact DX fun l hl => o5 (cL _ l hl)
 ·rw [Dq, Dq]
  refine DX fun l hl => ?_
  show b8 (st ++ [x]) (l ++ [st.length]) = b8 st l ++ [x]
  rw [tZ, o5 (cL _ l hl), CT, Ep (C0 _), Fe]
  rfl
theorem fZ (st : List Int) : (kQ st).length = 2 ^ st.length := by unfold kQ; rw [CO, dt]
theorem zV {st : List Int} {l : List Int} (h : l ∈ kQ st) : l.length <= st.length := by
 obtain ⟨a, ha, rfl⟩ := C9.mp h
 unfold b8
 rw [CO]
 exact xK _ a ha
theorem A4 {n : Nat} (h : n <= 6) : 2 ^ n <= 64 := Nat.pow_le_pow_right (n := 2) (by decide) h
theorem x9 {st : List Int} (h6 : st.length <= 6) : (ki st).length = 2 ^ st.length := by rw [(iI h6).length_eq, CO, dt]
theorem ya {st : List Int} (up : st.Pairwise (· < ·)) {i j : Nat} (hi : i < (kQ st).length) (hj : j < (kQ st).length) : ltS st.length i j = HT.bU ((kQ st).getD i []) ((kQ st).getD j []) := by
 rw [fZ] at hi hj
 have g : ∀ i, i < 2 ^ st.length -> (kQ st).getD i [] = b8 st ((bO st.length).getD i []) := fun i hi => by
  have : i < (bO st.length).length := by rw [dt]; exact hi
  rw [show (kQ st) = (bO st.length).map (b8 st) from rfl, kP (show ((bO st.length).map (b8 st))[i]? = some (b8 st (bO st.length)[i]) by rw [CU, CP this]; rfl), kP (CP this)]
 rw [g i hi, g j hj]
 exact (nF _ _ fun x hx y hy => qA up (cL _ _ (jM hi) x hx) (cL _ _ (jM hj) y hy)).symm
theorem ud {n : Nat} (h6 : n <= 6) (as : List Addr) : (qK n).map (fun i => ((qS n).map fun i => as.getD i 0).getD i 0) = (uv n).map fun i => as.getD i 0 := by
 unfold uv
 rw [Dq]
 refine DX fun i hi => ?_
 have : i < (qS n).length := by rw [(r8 n h6).len]; exact (yH n h6).le i hi
 show ((qS n).map fun i => as.getD i 0).getD i 0 = as.getD ((qS n).getD i 0) 0
 rw [CT, CU, CP this, kP (CP this)]
 rfl
theorem wm {H : Hp} {as : List Addr} {st : List Int} (h6 : st.length <= 6) (il : IntsL H as (kQ st)) : IntsL H ((uv st.length).map fun i => as.getD i 0) (ki st) := by
 have lt : ∀ i ∈ uv st.length, i < 2 ^ st.length := fun i hi => Ds.mp ((iH _ h6).mem_iff.mp hi)
 have := i7 il (uv st.length) fun i hi => by rw [fZ]; exact lt i hi
 have e : (uv st.length).map (fun i => (kQ st).getD i []) = ki st := by
  unfold ki
  refine DX fun i hi => ?_
  have : i < (bO st.length).length := by rw [dt]; exact lt i hi
  show ((bO st.length).map (b8 st)).getD i [] = _
  rw [kP (show ((bO st.length).map (b8 st))[i]? = some (b8 st (bO st.length)[i]) by rw [CU, CP this]; rfl), kP (CP this)]
 rw [e] at this
 exact this
theorem o7 {H : Hp} {Q : List V -> Hp -> Prop} : ∀ (as : List Addr) (ls : List (List Int)) (ks : List V), IntsL H as ls -> Q (ks ++ ls.map fun l => V.int (l.length : Int)) H -> KeysT A3 (as.map V.ref) ks H Q
 | [], [], ks, _, q => by rw [EW, Eg] at q; exact q
 | a :: as, l :: ls, ks, .cons h t, q => ⟨a, _, rfl, h, by
  refine o7 as ls _ t ?_
  rw [EX, CO]
  exact q⟩
theorem r9 {st : List Int} (h6 : st.length <= 6) {i : Nat} (hi : i < 2 ^ st.length) : (((qS st.length).map fun i => (kQ st).getD i []).map fun l => (l.length : Int)).getD i 0 = ((kh st.length).getD i 0 : Nat) := by
 have hq : i < (qS st.length).length := by rw [(r8 _ h6).len]; exact hi
 have hk : (qS st.length)[i] < 2 ^ st.length := (r8 _ h6).le _ (Do hq)
 have hs : (qS st.length)[i] < (bO st.length).length := by rw [dt]; exact hk
 rw [Dq, CT, CU, CP hq]
 unfold kh
 rw [CT, CU, CP hq]
 show ((((bO st.length).map (b8 st)).getD (qS st.length)[i] []).length : Int) = ((((bO st.length).getD (qS st.length)[i] []).length : Nat) : Int)
 rw [kP (show ((bO st.length).map (b8 st))[(qS st.length)[i]]? = some (b8 st (bO st.length)[(qS st.length)[i]]) by rw [CU, CP hs]; rfl), kP (CP hs)]
 unfold b8
 rw [CO]
def yb (l g : List Int) : List Int := l.filter fun x => !decide (x ∈ g)
def qH (may : List (List Int)) (g : List Int) : List (List Int) := may.map fun l => yb l g
theorem iK {l g : List Int} {x : Int} : x ∈ yb l g <-> x ∈ l /\ x ∉ g := by unfold yb; rw [Dw]; simp
theorem qI {l g : List Int} (h : l.Pairwise (· < ·)) : (yb l g).Pairwise (· < ·) := List.Pairwise.filter _ h
theorem wq {F S ks : List Int} (hF : F.Pairwise (· < ·)) (hk : ks.Pairwise (· < ·)) (h : ∀ x, x ∈ ks <-> Bh 2 x F S) : ks = yb F S := qv hk (qI hF) fun x => by
 rw [h, iK]
 unfold Bh
 rw [if_neg (by decide), if_neg (by decide)]
theorem gc {may : List (List Int)} {g : List Int} : (qH may g).length = may.length := CO _
theorem nI {may : List (List Int)} {g : List Int} {i : Nat} : (qH may g).getD i [] = yb (may.getD i []) g := by
 unfold qH
 rw [CT, CU, CT]
 cases may[i]? <;> rfl
theorem zW {may : List (List Int)} {g : List Int} (h : ∀ p ∈ may, p.Pairwise (· < ·)) : ∀ p ∈ qH may g, p.Pairwise (· < ·) := fun p hp => by
 obtain ⟨l, hl, rfl⟩ := C9.mp hp
 exact qI (h l hl)
theorem yc {may : List (List Int)} {g U : List Int} (h : ∀ p ∈ may, ∀ b ∈ p, b ∈ U) : ∀ p ∈ qH may g, ∀ b ∈ p, b ∈ U := fun p hp b hb => by
 obtain ⟨l, hl, rfl⟩ := C9.mp hp
 exact h l hl b (iK.mp hb).1
theorem sd {may : List (List Int)} {ts : List wG} {g hs : List Int} : IsPlan (qH may g) ts hs <-> IsPlan may ts hs /\ ∀ x ∈ hs, x ∉ g := by
 constructor
 ·intro p
  have l := p.len
  rw [gc] at l
  refine ⟨⟨l, fun i hi => ?_, p.kp⟩, fun x hx => ?_⟩
  ·have := p.of i hi
   rw [nI, iK] at this
   exact this.1
  ·obtain ⟨i, hi, rfl⟩ := Dd.mp hx
   have := p.of i hi
   rw [nI, iK, bM hi] at this
   exact this.2
 ·rintro ⟨p, h⟩
  refine ⟨by rw [gc]; exact p.len, fun i hi => ?_, p.kp⟩
  rw [nI, iK]
  exact ⟨p.of i hi, h _ (by rw [bM hi]; exact Do hi)⟩
structure AllOf (may : List (List Int)) (U : List Int) : Prop where
 up : U.Pairwise (· < ·)
 mem : ∀ x, x ∈ U <-> ∃ p ∈ may, x ∈ p
theorem AllOf.one {may : List (List Int)} {U V : List Int} (a : AllOf may U) (b : AllOf may V) : U = V := qv a.up b.up fun x => by rw [a.mem, b.mem]
theorem AllOf.sub {may : List (List Int)} {U : List Int} (a : AllOf may U) : ∀ p ∈ may, ∀ b ∈ p, b ∈ U := fun p hp b hb => (a.mem b).mpr ⟨p, hp, hb⟩
theorem o8 {may : List (List Int)} {ts : List wG} {hs U : List Int} (p : IsPlan may ts hs) (a : AllOf may U) : ∀ x ∈ hs, x ∈ U := fun x hx => by
 obtain ⟨i, hi, rfl⟩ := Dd.mp hx
 have := p.of i hi
 rw [bM hi] at this
 have hl := p.len
 rw [fW (by omega)] at this
 exact a.sub _ (Do (by omega)) _ this
theorem mD (P : Int -> Bool) : ∀ (n : Nat) (U : List Int), U.length = n -> U.filter P ∈ kQ U
 | 0, U, h => by rw [List.eq_nil_of_length_eq_zero h]; exact CZ.mpr rfl
 | n + 1, U, h => by
  rcases List.eq_nil_or_concat U with rfl | ⟨V, x, rfl⟩
  ·cases h
  ·rw [List.concat_eq_append] at h ⊢
   rw [C3, Da] at h
   have ih := mD P n V (by omega)
   rw [o6, DQ, ER, Fv]
   by_cases c : P x = true
   ·rw [if_pos c]; exact Dc _ (C9.mpr ⟨_, ih, rfl⟩)
   ·rw [if_neg c, Eg]; exact Dh _ ih
theorem mE {U : List Int} (h6 : U.length <= 6) (P : Int -> Bool) : U.filter P ∈ ki U := (iI h6).mem_iff.mpr (mD P _ U rfl)
theorem qJ {U s : List Int} (h6 : U.length <= 6) (h : s ∈ ki U) : ∀ x ∈ s, x ∈ U := fun x hx => by
 obtain ⟨a, ha, rfl⟩ := C9.mp ((iI h6).mem_iff.mp h)
 obtain ⟨k, hk, rfl⟩ := C9.mp hx
 have := cL _ a ha k hk
 rw [bM this]
 exact Do this
theorem nJ : ∀ (n : Nat), ∀ l ∈ bO n, l.Pairwise (· < ·)
 | 0, l, h => by rw [CZ.mp h]; exact .nil
 | n + 1, l, h => by
  rcases C7.mp (show l ∈ bO n ++ (bO n).map fun l => l ++ [n] from h) with z | z
  ·exact nJ n l z
  ·obtain ⟨m, hm, rfl⟩ := C9.mp z
   rw [E7]
   exact ⟨nJ n m hm, DN _ _, fun a ha b hb => by rw [CZ.mp hb]; exact cL n m hm a ha⟩
theorem yI {U s : List Int} (up : U.Pairwise (· < ·)) (h6 : U.length <= 6) (h : s ∈ ki U) : s.Pairwise (· < ·) := by
 obtain ⟨a, ha, rfl⟩ := C9.mp ((iI h6).mem_iff.mp h)
 unfold b8
 rw [EJ]
 exact List.Pairwise.imp_of_mem (fun {i j} hi hj l => (qA up (cL _ a ha i hi) (cL _ a ha j hj)).2.mpr l) (nJ _ a ha)
theorem zX (a : List Int) : mC a [] = false := by
 unfold mC
 cases a with
 | nil => rfl
 | cons x r => rw [if_neg (by simp)]; exact decide_eq_false (by simp)
theorem wu {U : List Int} (up : U.Pairwise (· < ·)) (h6 : U.length <= 6) {j : Nat} (h : (ki U)[j]? = some []) : j = 0 := by
 refine Decidable.byContradiction fun z => ?_
 obtain ⟨hj, e⟩ := CS.mp h
 have := DE.mp (wk up h6) 0 j (by omega) hj (by omega)
 rw [e, zX] at this
 cases this
structure NTold (H H' : Hp) (t : Addr) (may : List (List Int)) (ts : List wG) (U : List Int) (b pl : Addr) (pv : V) (g : List Int) (pp : Pap) (as : List Addr) (Ps : List (List Int)) : Prop where
 ht : H' t = some (.tup [.str "stops", .ref b, pv, .ref pl])
 hb : H' b = some (.lst (g.map V.int))
 nb : H b = none
 hp : H' pl = some (.lst (as.map V.ref))
 np : H pl = none
 ip : IntsL H' as Ps
 na : ∀ a ∈ as, H a = none /\ a ≠ b /\ a ≠ pl
 nd : as.Nodup
 mem : g ∈ ki U
 pa : PapAt (nw H H') pv pp
 sh : Shows (qH may g) ts [] pp
 pn : ∀ hs ∈ Ps, IsPlan may ts hs
 fw : ∀ s ∈ ki U, mC s g = true -> ∃ hs ∈ Ps, ∀ x ∈ hs, x ∉ s
 em : g = [] -> Ps = []
 l64 : as.length <= 64
theorem Cc {may : List (List Int)} {ts : List wG} {U g : List Int} {Ps : List (List Int)} (A : AllOf may U) (h6 : U.length <= 6) (pn : ∀ hs ∈ Ps, IsPlan may ts hs) (fw : ∀ s ∈ ki U, mC s g = true -> ∃ hs ∈ Ps, ∀ x ∈ hs, x ∉ s) {S : List Int} (no : ∀ hs, ¬ IsPlan (qH may S) ts hs) : g.length <= S.length := by
 refine Decidable.byContradiction fun z => ?_
 have m := mE h6 (fun x => decide (x ∈ S))
 have le : (U.filter fun x => decide (x ∈ S)).length <= S.length := ((mj A.up).sublist List.filter_sublist).length_le_of_subset fun x hx => of_decide_eq_true (Dw.mp hx).2
 obtain ⟨hs, hm, hd⟩ := fw _ m (by unfold mC; rw [if_neg (by omega)]; exact decide_eq_true (by omega))
 refine no hs (sd.mpr ⟨pn hs hm, fun x hx hS => hd x hx (Dw.mpr ⟨o8 (pn hs hm) A x hx, decide_eq_true hS⟩)⟩)
theorem B0 (P : List (List Int)) (g : List Int) : (P.any fun hs => hs.all fun x => !decide (x ∈ g)) = true <-> ∃ hs ∈ P, ∀ x ∈ hs, x ∉ g := by
 rw [EN]
 constructor
 ·rintro ⟨hs, m, a⟩
  exact ⟨hs, m, fun x hx => by have := DF.mp a x hx; simpa using this⟩
 ·rintro ⟨hs, m, a⟩
  exact ⟨hs, m, DF.mpr fun x hx => by simpa using a x hx⟩
theorem o9 {U : List Int} (up : U.Pairwise (· < ·)) (h6 : U.length <= 6) {j : Nat} {g : List Int} (hj : (ki U)[j]? = some g) {s : List Int} (hs : s ∈ ki U) (r : mC s g = true) : s ∈ (ki U).take j := by
 obtain ⟨i, hi, rfl⟩ := Dd.mp hs
 obtain ⟨hj', rfl⟩ := CS.mp hj
 have pw := DE.mp (wk up h6)
 have lt : i < j := by
  refine Decidable.byContradiction fun z => ?_
  rcases Nat.lt_or_eq_of_le (DT z) with y | y
  ·have := we (pw j i hj' hi y)
   rw [r] at this
   cases this
  ·subst y
   rw [zU] at r
   cases r
 exact List.mem_take_iff_getElem.mpr ⟨i, by omega, rfl⟩
end L2
namespace L2
open PySem PySem.Spec PyProof.Rows
section
variable {X : Cx} {tg : Expr}
def zY (ta : TA) : TI := fun σ H R => ta σ H fun vs H1 => ∃ i j k : Int, vs = [.int i, .int j, .int k] /\ 0 <= i /\ i < 2 ^ 60 /\ -(2 ^ 60) < j /\ j < 2 ^ 60 /\ 0 < k /\ k < 1073741824 /\ R (ve i k (if i < j then (j - i - 1) / k + 1 else 0).toNat) H1
theorem qL {a b c : Expr} {ta : TA} {p pos : Pos} (hg : Gl X "range") (hm : X.mg "range" = none) (ha : PA X [a, b, c] ta) (hs : starEach [a, b, c] X.env = [(false, eval a X.env), (false, eval b X.env), (false, eval c X.env)] := by rfl)
  (hs2 : starEach [b, c] X.env = [(false, eval b X.env), (false, eval c X.env)] := by rfl) : PI X tg (.Call (.Name "range" p) [a, b, c] [] pos) (zY ta) := by
 intro pins s σ H R I h
 refine Call_ (eB I hg hm boot_range (PyProof.Rows.callWith_type1 (bP (ha pos pins s σ H _ I h) fun us s1 ⟨vs, H1, I1, r1, q1⟩ => ?_) (by rw [hs, hs2]) (by rw [hs2]; rfl)))
 obtain ⟨i, j, k, e, h1, h2, h3, h4, h5, h6, q⟩ := q1
 subst e
 cases r1 with
 | cons r rr =>
  cases rr with
  | cons r' rr =>
   cases rr with
   | cons r'' rr =>
    cases rr
    obtain ⟨t, rfl⟩ := r
    obtain ⟨t', rfl⟩ := r'
    obtain ⟨t'', rfl⟩ := r''
    have hfit : ∀ z : Int, -(2 ^ 62) <= z -> z < 2 ^ 62 -> Builtin.Range.rangeFitsLong z = true := fun z a b => by
     unfold Builtin.Range.rangeFitsLong
     rw [Dx, decide_eq_true_eq, decide_eq_true_eq]
     omega
    have hsz : Builtin.Range.rangeSize i j k = (if i < j then (j - i - 1) / k + 1 else 0) := by
     unfold Builtin.Range.rangeSize
     rw [if_pos h5]
    have hnn : 0 <= (if i < j then (j - i - 1) / k + 1 else 0) := by
     split
     ·have := Int.ediv_nonneg (a := j - i - 1) (b := k) (by omega) (by omega); omega
     ·omega
    have hle : (if i < j then (j - i - 1) / k + 1 else 0) < 2 ^ 62 := by
     split
     ·have := Int.ediv_le_self (a := j - i - 1) k (by omega); omega
     ·omega
    have hsm : Builtin.Range.small i j k = true := by
     unfold Builtin.Range.small
     rw [hsz, hfit i (by omega) (by omega), hfit j (by omega) (by omega), hfit k (by omega) (by omega), hfit _ (by omega) hle, if_pos h5, hfit (j + (k - 1)) (by omega) (by omega)]
     simp
    refine call_range_3 (by omega) ?_ (Or.inl (PyProof.noPylong_small (by omega)))
    refine wpAny_pyIter_range (IsRange.new ..) hsm ?_
    generalize hs9 : ({ s1 with heap := s1.heap.push { cls := .type "range", data := .fields #[.int i t, .int j t', .int k t''] }, toks := s1.toks } : Shared) = s2
    have I2 : Inv X pins σ H1 s2 := by rw [<- hs9]; exact I1.kept fun b o e => Heap.get?_push_of_some _ e
    refine ⟨s2.heap.objs.size, [s2.heap.objs.size], _, _, H1, rfl, I2.kept (t' := s2.toks) fun b o e => Heap.get?_push_of_some _ e, tH _ i k (if i < j then (j - i - 1) / k + 1 else 0).toNat, ?_, fun b hb => ?_, q⟩
    ·have e1 : i + ((0 : Nat) : Int) * k = i := by simp
     have e2 : (((if i < j then (j - i - 1) / k + 1 else 0).toNat : Nat) : Int) - ((0 : Nat) : Int) = Builtin.Range.rangeSize i j k := by rw [hsz]; omega
     rw [e1, e2]
     exact Heap.get?_push_size _ rfl
    ·have e : b = s2.heap.objs.size := by simpa using hb
     subst e
     exact I2.fpOk (C0 _) (I2.hok.fresh (C0 _))
end
abbrev eO := List (List (Int × Int))
def cF (rows : eO) : List (List Int) := rows.map aJ
def Bo (row : List (Int × Int)) (g : List Int) : List (Int × Int) := row.filter fun x => !decide (x.1 ∈ g)
def wH (rows : eO) (g : List Int) : eO := rows.map fun row => Bo row g
theorem se (row : List (Int × Int)) (g : List Int) : aJ (Bo row g) = yb (aJ row) g := by
 unfold aJ Bo yb
 rw [E8]
 rfl
theorem yd (rows : eO) (g : List Int) : cF (wH rows g) = qH (cF rows) g := by
 unfold cF wH qH
 rw [Dq, Dq]
 exact DX fun row _ => se row g
theorem fF (rows : eO) : (cF rows).length = rows.length := CO _
structure BillOk (rows : eO) (bs : List Int) : Prop where
 up : ∀ row ∈ rows, (aJ row).Pairwise (· < ·)
 inn : ∀ row ∈ rows, ∀ x ∈ row, x.1 ∈ bs
 len : ∀ row ∈ rows, row.length <= bs.length
 bu : bs.Pairwise (· < ·)
 pos : ∀ b ∈ bs, 1 <= b
theorem BillOk.wo {rows : eO} {bs : List Int} (h : BillOk rows bs) (g : List Int) : BillOk (wH rows g) bs := by
 refine ⟨fun r hr => ?_, fun r hr x hx => ?_, fun r hr => ?_, h.bu, h.pos⟩ <;> obtain ⟨row, hrow, rfl⟩ := C9.mp hr
 ·rw [se]; exact qI (h.up row hrow)
 ·exact h.inn row hrow x (Dw.mp hx).1
 ·exact Di (DD _ _) (h.len row hrow)
theorem BillOk.mup {rows : eO} {bs : List Int} (h : BillOk rows bs) : ∀ p ∈ cF rows, p.Pairwise (· < ·) := fun p hp => by
 obtain ⟨row, hrow, rfl⟩ := C9.mp hp
 exact h.up row hrow
theorem BillOk.msub {rows : eO} {bs : List Int} (h : BillOk rows bs) : ∀ p ∈ cF rows, ∀ b ∈ p, b ∈ bs := fun p hp b hb => by
 obtain ⟨row, hrow, rfl⟩ := C9.mp hp
 obtain ⟨x, hx, rfl⟩ := C9.mp hb
 exact h.inn row hrow x hx
theorem BillOk.all {rows : eO} {bs U : List Int} (h : BillOk rows bs) (a : AllOf (cF rows) U) : (∀ x ∈ U, x ∈ bs) /\ U.length <= bs.length := by
 have s : ∀ x ∈ U, x ∈ bs := fun x hx => by
  obtain ⟨p, hp, hx⟩ := (a.mem x).mp hx
  exact h.msub p hp x hx
 exact ⟨s, (mj a.up).length_le_of_subset s⟩
theorem zZ (may : List (List Int)) : ∀ bs : List Int, bs.Pairwise (· < ·) -> (∀ p ∈ may, ∀ b ∈ p, b ∈ bs) -> ∃ U, AllOf may U := fun bs up sub =>
 ⟨bs.filter fun x => may.any fun p => decide (x ∈ p), List.Pairwise.filter _ up, fun x => by
  rw [Dw, EN]
  constructor
  ·rintro ⟨_, p, hp, e⟩
   exact ⟨p, hp, of_decide_eq_true e⟩
  ·rintro ⟨p, hp, hx⟩
   exact ⟨sub p hp x hx, p, hp, decide_eq_true hx⟩⟩
theorem pb {H : Hp} : ∀ {ps : List Addr} {row : List (Int × Int)} (P : Int × Int -> Bool), TupsL H ps row -> ∃ qs : List Addr, ((CY ps.length).filter fun i => P (row.getD i (0, 0))).map (fun i => V.ref (ps.getD i 0)) = qs.map V.ref /\ TupsL H qs (row.filter P) := by
 intro ps row P tp
 have la : ps.length = row.length := Paired.length tp
 refine ⟨((CY ps.length).filter fun i => P (row.getD i (0, 0))).map fun i => ps.getD i 0, by rw [Dq]; rfl, ?_⟩
 have key : ∀ q : List Nat, (∀ i ∈ q, i < row.length) -> TupsL H (q.map fun i => ps.getD i 0) (q.map fun i => row.getD i (0, 0)) := by
  intro q
  induction q with
  | nil => exact fun _ => .nil
  | cons i q ih =>
   intro h
   obtain ⟨a, e1, e2⟩ := cg tp (iJ (d := (0, 0)) (h i Dg))
   exact .cons (by show cP H (ps.getD i 0) _; rw [kP e1]; exact e2) (ih fun j hj => h j (C8 _ hj))
 have := key ((CY ps.length).filter fun i => P (row.getD i (0, 0))) fun i hi => by
  have := Ds.mp (Dw.mp hi).1
  omega
 rw [la, o4] at this
 rw [la]
 exact this
end L2
set_option maxHeartbeats 4000000
namespace My
seal L2.PE L2.PA L2.PS L2.PSs L2.PT L2.PW L2.PI L2.PG L2.Ad L2.Ag L2.PO L2.fh L2.cu L2.Ae L2.Ba L2.A8
open PySem L2 PyProof.Rows
local macro_rules | `(tactic| walk_at "go") => `(tactic| repeat (first | refine ⟨_, rfl, ?_⟩ | refine ⟨_, _, rfl, rfl, (show (0 : Int) < _ by decide), ?_⟩ | refine ⟨_, _, rfl, rfl, (show n9 _ _ from ⟨by decide, by decide⟩), ?_⟩ | refine ⟨_, _, rfl, rfl, (show AA _ _ from ⟨by decide, by decide, by decide⟩), ?_⟩ | refine ⟨_, _, rfl, rfl, (show CMul _ _ from .inl ⟨by decide, by decide⟩), ?_⟩ | refine ⟨_, _, rfl, rfl, (show CMul _ _ from .inr ⟨by decide, by decide⟩), ?_⟩ | refine ⟨_, _, rfl, rfl, ?_⟩ | refine ⟨rfl, ?_⟩))
def top (i : Nat) : Stmt := PySem.Challenge.pw_deskround_k41_what_stops.main.body.getD i (.Pass ⟨0, 0, 0, 0⟩)
abbrev kj : Stmt := top 1
abbrev km : Stmt := top 2
abbrev i8 : Stmt := top 3
abbrev i9 : Stmt := top 4
abbrev qM : Stmt := top 9
abbrev ku : Stmt := top 10
abbrev dv : Stmt := top 11
abbrev gH : Stmt := top 12
abbrev nK : Stmt := top 14
abbrev nL : Stmt := top 15
abbrev kA : Stmt := top 17
abbrev dw : Stmt := top 18
abbrev kC : Stmt := top 19
abbrev gI : Stmt := top 21
abbrev ja : Stmt := top 22
abbrev qN : Stmt := top 24
abbrev fG : Stmt := top 25
abbrev kD : Stmt := top 27
abbrev fH : Stmt := top 28
abbrev cq : Stmt := top 29
abbrev eP : Stmt := top 30
abbrev dN : Stmt := top 31
abbrev gJ : Stmt := top 33
abbrev dO : Stmt := top 34
abbrev fI : Stmt := top 35
abbrev eQ : Stmt := top 36
abbrev gL : Stmt := top 37
abbrev gM : Stmt := top 38
abbrev gN : Stmt := top 39
abbrev gO : Stmt := top 40
abbrev gP : Stmt := top 41
abbrev eU : Stmt := top 42
abbrev fJ : Stmt := top 43
abbrev gQ : Stmt := top 44
abbrev fK : Stmt := top 45
abbrev fL : Stmt := top 46
abbrev jb : Stmt := top 47
abbrev dP : Stmt := top 48
abbrev jc : Stmt := top 49
abbrev eV : Stmt := top 50
abbrev gR : Stmt := top 51
abbrev wx : Stmt := top 52
structure Txt (mg : Str -> Option Value) : Prop where
 z_all : mg "all" = none
 z_any : mg "any" = none
 z_bool : mg "bool" = none
 z_int : mg "int" = none
 z_isinstance : mg "isinstance" = none
 z_len : mg "len" = none
 z_list : mg "list" = none
 z_min : mg "min" = none
 z_range : mg "range" = none
 z_reversed : mg "reversed" = none
 z_set : mg "set" = none
 z_sorted : mg "sorted" = none
 z_tuple : mg "tuple" = none
structure Dfs (K : PySem.W.Frag) (mg : Str -> Option Value) (aF : Nat -> Addr) (dF : Nat -> FuncData) : Prop where
 common : Def K mg "common" kj ["one", "other"] (aF 0) (dF 0)
 joined : Def K mg "joined" km ["one", "other"] (aF 1) (dF 1)
 without : Def K mg "without" i8 ["one", "other"] (aF 2) (dF 2)
 choices : Def K mg "choices" i9 ["numbers"] (aF 3) (dF 3)
 deal : Def K mg "deal" qM ["pools"] (aF 4) (dF 4)
 settle : Def K mg "settle" ku ["pools", "holders", "place", "asked"] (aF 5) (dF 5)
 short_places : Def K mg "short_places" dv ["holders", "place", "asked"] (aF 6) (dF 6)
 hands_of : Def K mg "hands_of" gH ["holders", "count"] (aF 7) (dF 7)
 width : Def K mg "width" nK ["pattern"] (aF 8) (dF 8)
 grown : Def K mg "grown" nL ["pattern"] (aF 9) (dF 9)
 breaks : Def K mg "breaks" kA ["pattern", "tie"] (aF 10) (dF 10)
 first_broken : Def K mg "first_broken" dw ["pattern", "ties"] (aF 11) (dF 11)
 unlike : Def K mg "unlike" kC ["row", "steps"] (aF 12) (dF 12)
 pools_of : Def K mg "pools_of" gI ["pattern", "may"] (aF 13) (dF 13)
 pool_of : Def K mg "pool_of" ja ["block", "pattern", "may"] (aF 14) (dF 14)
 plan : Def K mg "plan" qN ["may", "ties"] (aF 15) (dF 15)
 plan_from : Def K mg "plan_from" fG ["pattern", "may", "ties"] (aF 16) (dF 16)
 needed : Def K mg "needed" kD ["may", "ties"] (aF 17) (dF 17)
 badges_of : Def K mg "badges_of" fH ["may"] (aF 18) (dF 18)
 fewest_that_stop : Def K mg "fewest_that_stop" cq ["may", "ties", "badges"] (aF 19) (dF 19)
 leaves_one : Def K mg "leaves_one" eP ["plans", "gone"] (aF 20) (dF 20)
 has_none_of : Def K mg "has_none_of" dN ["hands", "gone"] (aF 21) (dF 21)
 law_cell : Def K mg "_law_cell" gJ ["script", "k"] (aF 22) (dF 22)
 law_entries : Def K mg "_law_entries" dO ["script", "size"] (aF 23) (dF 23)
 law_whole : Def K mg "_law_whole" fI ["found"] (aF 24) (dF 24)
 law_badges : Def K mg "_law_badges" eQ ["cells", "gap", "high"] (aF 25) (dF 25)
 law_bill : Def K mg "_law_bill" gL ["cells", "badges", "dense", "top", "count"] (aF 26) (dF 26)
 law_ties : Def K mg "_law_ties" gM ["cells", "count"] (aF 27) (dF 27)
 law_case : Def K mg "_law_case" gN ["script", "sizes", "tops"] (aF 28) (dF 28)
 law_wide : Def K mg "_law_wide" gO ["pattern"] (aF 29) (dF 29)
 law_pool : Def K mg "_law_pool" gP ["block", "pattern", "bill"] (aF 30) (dF 30)
 law_breaks : Def K mg "_law_breaks" eU ["pattern", "tie"] (aF 31) (dF 31)
 law_keeps : Def K mg "_law_keeps" fJ ["hands", "tie"] (aF 32) (dF 32)
 law_plan : Def K mg "_law_plan" gQ ["hands", "bill", "ties"] (aF 33) (dF 33)
 law_short : Def K mg "_law_short" fK ["blocks", "pattern", "bill"] (aF 34) (dF 34)
 law_shows : Def K mg "_law_shows" fL ["pattern", "bill", "ties", "paper"] (aF 35) (dF 35)
 law_may : Def K mg "_law_may" jb ["bill"] (aF 36) (dF 36)
 law_without : Def K mg "_law_without" dP ["bill", "some"] (aF 37) (dF 37)
 law_all : Def K mg "_law_all" jc ["bill"] (aF 38) (dF 38)
 law_rising : Def K mg "_law_rising" eV ["found"] (aF 39) (dF 39)
 law_good : Def K mg "_law_good" gR ["found", "bill", "ties"] (aF 40) (dF 40)
 law : Def K mg "law" wx ["script"] (aF 41) (dF 41)
 n_TooMany : PySem.W.nsIn K mainGlobals "TooMany" = some (some (.ref (aF 42)))
 g_TooMany : mg "TooMany" = some (.ref (aF 42))
 e_TooMany : PySem.W.excIn K (aF 42) [.type "ValueError", .type "Exception", .type "BaseException", .type "object"] "ValueError.__new__" = true
section
variable {P : Program} {w : World} {K : PySem.W.Frag} {mg : Str -> Option Value} {base : Heap} {aF : Nat -> Addr} {dF : Nat -> FuncData}
def mF (K : PySem.W.Frag) : Sp := BV K 0
theorem ue : FnScope ["one", "other"] ["one", "other"] (au kj) := ⟨rfl, rfl, rfl, by decide +kernel, rfl, by decide +kernel, by decide +kernel⟩
theorem uf (D : Dfs K mg aF dF) (T : Txt mg) : FnOk P w K mg base br 1 (aF 0) (dF 0) ["one", "other"] (mF K) := by
 refine D.common.fn.ok ue (fun vs H Q E h => ?_) (fun cdv A outer s H vs Q E hr h => ?_)
 ·obtain ⟨a, b, F, S, U, rfl, _⟩ := h; rfl
 ·have hu := aU hr
  obtain ⟨a, b, F, S, U, rfl, bo, q⟩ := h
  refine ⟨_, (ao (ay (aq (iu w) (by rfl) T.z_sorted boot_sorted (ae (aC (xy w) (aW (j5 w K) (by rfl) T.z_set PyProof.Rows.boot_set (ae (pv 0) af)) (aW (j5 w K) (by rfl) T.z_set PyProof.Rows.boot_set (ae (pv 1) af))) af)))), ?_⟩
  have h1 := bo.l1
  have h2 := bo.l2
  refine ⟨_, rfl, a, F, rfl, bo.fa, by omega, fun s1 n1 => ⟨_, rfl, b, S, rfl, (Same.new n1).seq bo.sb, by omega, fun s2 n2 => ?_⟩⟩
  have d1 := cB F
  have d2 := cB S
  have n12 : s1 ≠ s2 := fun z => by rw [<- z, ag] at n2; cases n2
  refine ⟨s1, s2, dd F, dd S, rfl, rfl, n12, by rw [ar n12]; exact ag, ag, by omega, by omega, fun c ks nc nd hm => ?_⟩
  have lk : ks.length <= F.length := nd.length_le_of_subset fun x hx => bJ.mp ((hm x).mp hx).1
  refine ⟨c, ks, rfl, ag, by omega, fun l ms nl pm sr => ?_⟩
  refine q l ms _ ⟨(((Same.new n1).to n2).to nc).to nl, (((Same.new n1).to (o := .ext (SX w s2 (dd S))) n2).to (o := .ext (SX w c ks)) nc).free nl, ag, jL sr (pm.nodup_iff.mpr nd), fun x => ?_⟩
  rw [pm.mem_iff, hm x]
  dsimp only
  rw [bJ, bJ]
  exact Iff.rfl
def mG (K : PySem.W.Frag) : Sp := BV K 1
theorem ug : FnScope ["one", "other"] ["one", "other"] (au km) := ⟨rfl, rfl, rfl, by decide +kernel, rfl, by decide +kernel, by decide +kernel⟩
theorem uh (D : Dfs K mg aF dF) (T : Txt mg) : FnOk P w K mg base br 1 (aF 1) (dF 1) ["one", "other"] (mG K) := by
 refine D.joined.fn.ok ug (fun vs H Q E h => ?_) (fun cdv A outer s H vs Q E hr h => ?_)
 ·obtain ⟨a, b, F, S, U, rfl, _⟩ := h; rfl
 ·have hu := aU hr
  obtain ⟨a, b, F, S, U, rfl, bo, q⟩ := h
  refine ⟨_, (ao (ay (aq (iu w) (by rfl) T.z_sorted boot_sorted (ae (aC (zy w) (aW (j5 w K) (by rfl) T.z_set PyProof.Rows.boot_set (ae (pv 0) af)) (aW (j5 w K) (by rfl) T.z_set PyProof.Rows.boot_set (ae (pv 1) af))) af)))), ?_⟩
  have h1 := bo.l1
  have h2 := bo.l2
  refine ⟨_, rfl, a, F, rfl, bo.fa, by omega, fun s1 n1 => ⟨_, rfl, b, S, rfl, (Same.new n1).seq bo.sb, by omega, fun s2 n2 => ?_⟩⟩
  have d1 := cB F
  have d2 := cB S
  have n12 : s1 ≠ s2 := fun z => by rw [<- z, ag] at n2; cases n2
  refine ⟨s1, s2, dd F, dd S, rfl, rfl, n12, by rw [ar n12]; exact ag, ag, by omega, by omega, fun c ks nc nd hm => ?_⟩
  have lk : ks.length <= U.length := nd.length_le_of_subset fun x hx => ((hm x).mp hx).elim (fun h => bo.fu x (bJ.mp h)) fun h => bo.su x (bJ.mp h)
  have ul := bo.ul
  refine ⟨c, ks, rfl, ag, by omega, fun l ms nl pm sr => ?_⟩
  refine q l ms _ ⟨(((Same.new n1).to n2).to nc).to nl, (((Same.new n1).to (o := .ext (SX w s2 (dd S))) n2).to (o := .ext (SX w c ks)) nc).free nl, ag, jL sr (pm.nodup_iff.mpr nd), fun x => ?_⟩
  rw [pm.mem_iff, hm x]
  dsimp only
  rw [bJ, bJ]
  exact Iff.rfl
def kE (K : PySem.W.Frag) : Sp := BV K 2
theorem qO : FnScope ["one", "other"] ["one", "other"] (au i8) := ⟨rfl, rfl, rfl, by decide +kernel, rfl, by decide +kernel, by decide +kernel⟩
theorem qP (D : Dfs K mg aF dF) (T : Txt mg) : FnOk P w K mg base br 1 (aF 2) (dF 2) ["one", "other"] (kE K) := by
 refine D.without.fn.ok qO (fun vs H Q E h => ?_) (fun cdv A outer s H vs Q E hr h => ?_)
 ·obtain ⟨a, b, F, S, U, rfl, _⟩ := h; rfl
 ·have hu := aU hr
  obtain ⟨a, b, F, S, U, rfl, bo, q⟩ := h
  refine ⟨_, (ao (ay (aq (iu w) (by rfl) T.z_sorted boot_sorted (ae (aC (xA w) (aW (j5 w K) (by rfl) T.z_set PyProof.Rows.boot_set (ae (pv 0) af)) (aW (j5 w K) (by rfl) T.z_set PyProof.Rows.boot_set (ae (pv 1) af))) af)))), ?_⟩
  have h1 := bo.l1
  have h2 := bo.l2
  refine ⟨_, rfl, a, F, rfl, bo.fa, by omega, fun s1 n1 => ⟨_, rfl, b, S, rfl, (Same.new n1).seq bo.sb, by omega, fun s2 n2 => ?_⟩⟩
  have d1 := cB F
  have d2 := cB S
  have n12 : s1 ≠ s2 := fun z => by rw [<- z, ag] at n2; cases n2
  refine ⟨s1, s2, dd F, dd S, rfl, rfl, n12, by rw [ar n12]; exact ag, ag, by omega, by omega, fun c ks nc nd hm => ?_⟩
  have lk : ks.length <= F.length := nd.length_le_of_subset fun x hx => bJ.mp ((hm x).mp hx).1
  refine ⟨c, ks, rfl, ag, by omega, fun l ms nl pm sr => ?_⟩
  refine q l ms _ ⟨(((Same.new n1).to n2).to nc).to nl, (((Same.new n1).to (o := .ext (SX w s2 (dd S))) n2).to (o := .ext (SX w c ks)) nc).free nl, ag, jL sr (pm.nodup_iff.mpr nd), fun x => ?_⟩
  rw [pm.mem_iff, hm x]
  dsimp only
  rw [bJ, bJ]
  exact Iff.rfl
def kF (K : PySem.W.Frag) : Sp := fun vs H Q _ => ∃ (a : Addr) (st : List Int), vs = [.ref a] /\ SqL K H a (st.map V.int) /\ st.Pairwise (· < ·) /\ st.length <= 6 /\ ∀ (l : Addr) (bs : List Addr) (H' : Hp), Same H H' -> H l = none -> H' l = some (.lst (bs.map V.ref)) -> IntsL H' bs (ki st) -> (∀ b ∈ bs, H b = none) -> Q (.ref l) H'
theorem eW : FnScope ["numbers", "found", "number"] ["numbers"] (au i9) := ⟨rfl, rfl, rfl, by decide +kernel, rfl, by decide +kernel, by decide +kernel⟩
theorem qQ (D : Dfs K mg aF dF) (T : Txt mg) : FnOk P w K mg base br 1 (aF 3) (dF 3) ["numbers"] (kF K) := by
 refine D.choices.fn.ok eW (fun vs H Q E h => ?_) (fun cdv A outer s H vs Q E hr h => ?_)
 ·obtain ⟨a, st, rfl, _⟩ := h; rfl
 ·have hu := aU hr
  obtain ⟨a, st, rfl, ha, up, h6, q⟩ := h
  refine ⟨_, (ah (aB (i := 1) eW.nd rfl (Or.inl rfl) (aM (ae (aM af) af)))
   (ah (aP PassesOwn.never rfl (h8 K (pv 0)) (az (i := 2) eW.nd rfl (Or.inr rfl))
    (ao (aB (i := 1) eW.nd rfl (Or.inl rfl) (aC gA (pv 1) (be ["some", "number"] [none, some 2] rfl (h8 K (pv 1)) (fun _ => az (i := 0) (bI (N := ["some", "number"]) (by decide +kernel)) rfl (Or.inl rfl)) (fun _ => bR) (fun _ => (aC gA (pv 0) (aM (ae (pv 1) af)))) ((.cons (fun _ e => by cases e) (.cons (fun _ e => by cases e; exact ⟨rfl, rfl⟩) .nil))))))))
   (ao (ay (uc K rfl T.z_sorted rfl T.z_len (ae (aq (ua K hr.units) (by rfl) T.z_sorted boot_sorted (ae (pv 1) af)) af)))))), ?_⟩
  refine ⟨cz, fun e0 ne0 => ⟨cz, fun f0 nf0 => ?_⟩⟩
  have s0 := (Same.new (o := .lst []) ne0).to (o := .lst [.ref e0]) nf0
  have he0 := (Same.new (o := .lst [.ref e0]) nf0) _ _ (ag (H := H) (a := e0) (o := .lst []))
  refine ⟨_, rfl, a, rfl, ⟨_, s0.seq ha⟩, ?_⟩
  refine aY (K := K) (a := a) (xs := st.map V.int) (fun j σ Hx => ∃ (fa : Addr) (as : List Addr) (x : Option V), σ = [some (.ref a), some (.ref fa), x] /\ Same H Hx /\ Hx fa = some (.lst (as.map V.ref)) /\ IntsL Hx as (kQ (st.take j)) /\ ∀ b ∈ as, H b = none) ⟨f0, [e0], none, rfl, s0, ag, .cons he0 .nil, fun b hb => by rw [CZ.mp hb]; exact ne0⟩ (fun j σ Hx _ hq__ => by obtain ⟨_, _, _, _, s, _⟩ := hq__; exact s.seq ha) ?_ ?_
  ·rintro j v σ Hx hj ⟨fa, as, x, rfl, sx, hfa, il, fr⟩
   obtain ⟨d, hd, rfl, ed⟩ := eK hj
   have hjl := (CS.mp hd).1
   have tl : (st.take j).length = j := by rw [DU]; omega
   have la : as.length = 2 ^ j := by rw [Paired.length il, fZ, tl]
   have lj : 2 ^ j <= 64 := A4 (by omega)
   refine ⟨_, rfl, _, rfl, fa, rfl, ⟨_, SqL.of hfa⟩, ?_⟩
   refine mf (xs := as.map V.ref) (fun acc ys Hy => ∃ bs : List Addr, ys = bs.map V.ref /\ IntsL Hy bs (((kQ (st.take j)).take ys.length).map fun l => l ++ [d]) /\ (∀ b ∈ bs, b ≠ acc) /\ ∀ b ∈ bs, H b = none) (SqL.of hfa) (by rw [CO]; omega)
    (fun acc ys H H' ⟨bs, e, ib, ne, fr⟩ sb => ⟨bs, e, ib.but ne sb, ne, fr⟩) (fun _ _ => ⟨[], rfl, .nil, (fun _ z => by cases z), (fun _ z => by cases z)⟩) (fun acc i x ys H2 R hx s2 nacc hacc yl ⟨bs, e, ib, ne, fb⟩ k => ?_) fun acc ys H2 s2 nacc hacc yl ⟨bs, e, ib, ne, fb⟩ => ?_
   ·rw [CU] at hx
    obtain ⟨a1, ha1, rfl⟩ := CV.mp hx
    obtain ⟨l0, hl0, e1⟩ := bh il ha1
    have l0j := zV (CW hl0)
    refine ⟨_, rfl, _, rfl, cz, fun p np => ⟨a1, p, _, _, rfl, rfl, Same.new np _ _ (s2 _ _ e1), ag, wF (by rw [CO]; simp; omega), fun c nc => ?_⟩⟩
    have s3 := (Same.new (o := .lst [V.int d]) np).to (o := .lst (l0.map V.int ++ [V.int d])) nc
    have nc2 := ((sx.trans s2).to (o := .lst [V.int d]) np).free nc
    rw [yl] at ib
    refine k (.ref c) _ s3 ⟨bs ++ [c], by rw [e, Df]; rfl, ?_, fun b hb => ?_, fun b hb => ?_⟩
    ·rw [C3, Da, yl, bN hl0, Df]
     refine a9 (ib.same s3) ?_
     show _ = some (HO.lst ((l0 ++ [d]).map V.int))
     rw [ag, Df]
     rfl
    ·rcases C7.mp hb with z | z
     ·exact ne b z
     ·rw [CZ.mp z]
      intro y
      have := (Same.new (o := .lst [V.int d]) np) _ _ hacc
      rw [<- y, nc] at this
      cases this
    ·rcases C7.mp hb with z | z
     ·exact fb b z
     ·rw [CZ.mp z]; exact nc2
   ·subst e
    have pl : (kQ (st.take j)).length = as.length := (Paired.length il).symm
    rw [yl, CO, <- pl, Dy] at ib
    rw [CO, CO] at yl
    refine ⟨fa, acc, _, _, rfl, rfl, s2 _ _ hfa, hacc, wF (by rw [CO, CO]; omega), fun c nc => ?_⟩
    have s3 := Same.new (o := .lst (as.map V.ref ++ bs.map V.ref)) nc
    refine ⟨c, as ++ bs, _, rfl, (sx.trans s2).trans s3, by rw [ag, Df], ?_, fun b hb => ?_⟩
    ·rw [bN hd, o6]
     exact qy ((il.same s2).same s3) (ib.same s3)
    ·rcases C7.mp hb with z | z
     ·exact fr b z
     ·exact fb b z
  ·rintro σ Hx ⟨fa, as, x, rfl, sx, hfa, il, fr⟩
   rw [CO, Dy] at il
   have la : as.length = 2 ^ st.length := by rw [Paired.length il, fZ]
   have so := r8 _ h6
   have ko := yH _ h6
   refine ⟨_, rfl, fa, as, kQ st, ltS st.length, qS st.length, rfl, SqL.of hfa, il, by rw [fZ]; exact so, fun i j hi hj => ya up hi hj, fun l nl => ?_⟩
   have s1 := Same.new (o := .lst (((qS st.length).map fun i => as.getD i 0).map V.ref)) nl
   have hl : aI Hx l (.lst (((qS st.length).map fun i => as.getD i 0).map V.ref)) l = some (.lst (((qS st.length).map fun i => as.getD i 0).map V.ref)) := ag
   generalize aI Hx l (.lst (((qS st.length).map fun i => as.getD i 0).map V.ref)) = H1 at s1 hl
   have il1 := i7 (il.same s1) (qS st.length) fun i hi => by rw [fZ]; exact so.le i hi
   have le : ((qS st.length).map fun i => as.getD i 0).length = 2 ^ st.length := by rw [CO, so.len]
   refine ⟨l, (qS st.length).map fun i => as.getD i 0, zO (kh st.length), qK st.length, rfl, SqL.of hl, by rw [le]; exact ko, o7 _ _ _ il1 ⟨⟨((qS st.length).map fun i => (kQ st).getD i []).map fun l => (l.length : Int), by simp only [List.nil_append, Dq]; rfl, fun i j hi hj => ?_⟩, fun D nD _ => ?_⟩⟩
   ·rw [le] at hi hj
    rw [r9 h6 hi, r9 h6 hj]
    unfold zO
    exact decide_eq_decide.mpr Int.ofNat_lt.symm
   ·rw [ud h6]
    have s2 := Same.new (o := .lst (((uv st.length).map fun i => as.getD i 0).map V.ref)) nD
    refine q D _ _ ((sx.trans s1).trans s2) ((sx.trans s1).free nD) ag (wm h6 ((il.same s1).same s2)) fun b hb => ?_
    obtain ⟨i, hi, rfl⟩ := C9.mp hb
    have : i < as.length := by rw [la]; exact Ds.mp ((iH _ h6).mem_iff.mp hi)
    exact fr _ (CW (iJ this))
def gS (K : PySem.W.Frag) (n : Nat) : Sp := fun vs H Q _ => ∃ (a hd ad : Addr) (rs : List Addr) (ps : List (List Int)) (U : List Int) (pl : Nat) (kvs : HK) (as : List Int), vs = [.ref a, .ref hd, .int pl, .ref ad] /\
 SqL K H a (rs.map V.ref) /\ PoolsL K H rs ps /\ pl < ps.length /\ (∀ p ∈ ps, ∀ b ∈ p, b ∈ U) /\ U.length <= 60 /\ H hd = some (.dK kvs) /\ H ad = some (.dK (fo as)) /\ hd ≠ ad /\
 (kvs.map (·.1)).Nodup /\ Good ps kvs /\ as.Nodup /\ (∀ b ∈ as, b ∈ U) /\ (U.filter fun c => decide (c ∉ as)).length < n /\
 ∀ ok kvs' as' H', Sett ps U pl kvs as ok kvs' as' -> SameX [hd, ad] H H' -> H' hd = some (.dK kvs') -> H' ad = some (.dK (fo as')) -> Q (.bl ok) H'
def mH (K : PySem.W.Frag) : Sp := gS K 28
theorem mI : FnScope ["pools", "holders", "place", "asked", "badge"] ["pools", "holders", "place", "asked"] (au ku) := ⟨rfl, rfl, rfl, by decide +kernel, rfl, by decide +kernel, by decide +kernel⟩
theorem ui (D : Dfs K mg aF dF) (T : Txt mg) : FnOk P w K mg base br 28 (aF 5) (dF 5) ["pools", "holders", "place", "asked"] (mH K) := by
 have all : ∀ n, FnOk P w K mg base br n (aF 5) (dF 5) ["pools", "holders", "place", "asked"] (gS K n) := by
  intro n
  induction n with
  | zero =>
   have no : ∀ vs H Q E, ¬ gS K 0 vs H Q E := fun vs H Q E h => by
    obtain ⟨a, hd, ad, rs, ps, U, pl, kvs, as, _, _, _, _, _, _, _, _, _, _, _, _, _, h, _⟩ := h
    omega
   exact ⟨fun vs H Q E h => absurd h (no vs H Q E), fun A outer s H args us vs Q E _ _ _ _ h => absurd h (no vs H Q E)⟩
  | succ n Gsettle =>
   refine D.settle.fn.ok mI (fun vs H Q E h => ?_) (fun cdv A outer s H vs Q E hr h => ?_)
   ·obtain ⟨a, hd, ad, rs, ps, U, pl, kvs, as, rfl, _⟩ := h; rfl
   have hu : A.units + 3 + 1 < cLine := by have := hr.un; show A.units + 3 + 1 < cLine; simp only [Around.deeper] at this; omega
   obtain ⟨a, hd, ad, rs, ps, U, pl, kvs, as, rfl, hS, hP, hpl, hU, hU60, hH, hA, hne, nd, g, nda, hsub, hleft, q⟩ := h
   refine ⟨_, (ah (aP PassesOwn.never rfl (h8 K (aA (dS K) (pv 0) (pv 2) (fun _ _ => rfl))) (az (i := 4) mI.nd rfl (Or.inl rfl))
    (ao (aK (uz (lP hu (pv 4) (pv 3)))
     (ah (rC hu (pv 3) (pv 4) bY rfl)
     (ao (aK (PW.pt (dC (uz (lP hu (pv 4) (pv 1))) (dM (bG (pc D.settle Gsettle hr (ae (pv 0) (ae (pv 1) (ae (rB hu (pv 1) (pv 4) (fun _ _ => rfl)) (ae (pv 3) af)))))))))
      (ah (rC hu (pv 1) (pv 4) (pv 2) rfl)
      (ao (ay bY)))
      aD)))
     aD)))
   (ao (ay bY))), ?_⟩
   have hp : ps[pl]? = some ps[pl] := CP hpl
   generalize ps[pl] = p at hp
   obtain ⟨r, hr1, hr2⟩ := hP.at hp
   have dk0 : ∀ x ∈ [hd, ad], u4 H x := fun x hx => by
    simp only [C5, DI, or_false] at hx
    rcases hx with e | e <;> subst e
    ·exact ⟨_, hH⟩
    ·exact ⟨_, hA⟩
   refine ⟨_, rfl, _, rfl, a, _, _, _, rfl, rfl, hS, bZ (by rw [CU, hr1]; rfl), r, rfl, ⟨_, hr2⟩, ?_⟩
   refine aY (K := K) (a := r) (xs := p.map V.int) (fun i σ H1 => ∃ ai v, σ = [some (.ref a), some (.ref hd), some (.int pl), some (.ref ad), v] /\ SLoop ps U p kvs as i ai /\ SameX [hd, ad] H H1 /\ H1 hd = some (.dK kvs) /\ H1 ad = some (.dK (fo ai)))
    ⟨as, none, rfl, ⟨fun _ h => h, nda, hsub, fun _ h => by simp at h, fun b hb hn => absurd hb hn⟩, SameX.refl, hH, hA⟩ (fun i σ H1 _ hq__ => by obtain ⟨_, _, _, _, s1, _⟩ := hq__; exact s1.seq dk0 hr2) ?_ ?_
   ·rintro i y σ H1 hi ⟨ai, v, rfl, sl, s1, hH1, hA1⟩
    obtain ⟨b, hb, rfl⟩ : ∃ b, p[i]? = some b /\ y = V.int b := by
     rw [CU] at hi
     obtain ⟨b, h1, h2⟩ := CV.mp hi
     exact ⟨b, h1, h2.symm⟩
    have hbU : b ∈ U := hU p (CW hp) b (CW hb)
    have al : ai.length <= U.length := sl.nd.length_le_of_subset sl.sub
    have dk1 : ∀ x ∈ [hd, ad], u4 H1 x := fun x hx => by
     simp only [C5, DI, or_false] at hx
     rcases hx with e | e <;> subst e
     ·exact ⟨_, hH1⟩
     ·exact ⟨_, hA1⟩
    refine ⟨_, rfl, _, rfl, ad, _, rfl, DGet.k (k := Sum.inl b) hA1, _, rfl, ?_⟩
    rw [oC]
    by_cases hba : b ∈ ai
    ·rw [if_pos hba]
     exact bE ⟨ai, _, rfl, sl.skip hb hba, s1, hH1, hA1⟩
    rw [if_neg hba]
    refine dW ?_
    refine ⟨_, rfl, _, rfl, ad, _, rfl, DPut.k (k := Sum.inl b) hA1 (jZ (by unfold fo; rw [CO]; omega)), ?_⟩
    rw [u0 hba]
    have hH2 : aI H1 ad (.dK (fo (ai ++ [b]))) hd = some (.dK kvs) := by rw [ar hne]; exact hH1
    have s2 : SameX [hd, ad] H (aI H1 ad (.dK (fo (ai ++ [b])))) := s1.trans (SameX.upd (by simp))
    have dk2 : ∀ x ∈ [hd, ad], u4 (aI H1 ad (.dK (fo (ai ++ [b])))) x := fun x hx => by
     simp only [C5, DI, or_false] at hx
     rcases hx with e | e <;> subst e
     ·exact ⟨_, hH2⟩
     ·exact ⟨_, ag⟩
    have kl := rF hU g nd
    refine ⟨_, rfl, _, rfl, hd, _, rfl, DGet.k (k := Sum.inl b) hH2, _, rfl, ?_⟩
    cases hv : bB kvs (Sum.inl b) with
    | none =>
     refine dW (dW ?_)
     refine ⟨_, rfl, _, rfl, _, rfl, hd, _, rfl, DPut.k (k := Sum.inl b) hH2 (jZ (by omega)), ?_⟩
     refine q true _ (ai ++ [b]) _ (sl.free hp (hU p (CW hp)) hb hba hv nd g) (s2.trans (SameX.upd (by simp))) ag ?_
     rw [ar hne.symm]; exact ag
    | some vv =>
     obtain ⟨t, pt, rfl, ht, _⟩ := g.val hv
     have htl : t < ps.length := (CS.mp ht).1
     refine bE ?_
     refine ⟨_, rfl, _, rfl, _, rfl, _, rfl, hd, _, rfl, (by rw [<- hv]; exact DGet.k (k := Sum.inl b) hH2), _, rfl, ?_⟩
     refine ⟨a, hd, ad, rs, ps, U, t, kvs, ai ++ [b], rfl, s2.seq dk0 hS, hP.mono s2 dk0, htl, hU, hU60, hH2, ag, hne, nd, g, g9 sl.nd hba, ?_, ?_, ?_⟩
     ·intro c hc
      rcases C7.mp hc with z | z
      ·exact sl.sub c z
      ·rw [CZ.mp z]; exact hbU
     ·have := xp hbU hba sl.grow
      omega
     intro ok kvs2 as2 H3 st s3 hH3 hA3
     refine ⟨ok, rfl, ?_⟩
     cases ok with
     | false =>
      obtain ⟨e, sl2⟩ := sl.miss hb hba hv htl st
      subst e
      exact bE ⟨as2, _, rfl, sl2, s2.trans s3, hH3, hA3⟩
     | true =>
      obtain ⟨n2, g2, _⟩ := st.yes rfl
      have kl2 := rF hU g2 n2
      refine dW ?_
      refine ⟨_, rfl, _, rfl, _, rfl, hd, _, rfl, DPut.k (k := Sum.inl b) hH3 (jZ (by omega)), ?_⟩
      refine q true _ as2 _ (sl.turn hp hb hba hv st) ((s2.trans s3).trans (SameX.upd (by simp))) ag ?_
      rw [ar hne.symm]; exact hA3
   ·rintro σ H1 ⟨ai, v, rfl, sl, s1, hH1, hA1⟩
    rw [CO] at sl
    exact q false kvs ai H1 (sl.done hp) s1 hH1 hA1
 exact all 28
def fe (K : PySem.W.Frag) : Sp := fun vs H Q _ => ∃ (hd ad : Addr) (pl : Nat) (kvs : HK) (as : List Int), vs = [.ref hd, .int pl, .ref ad] /\ H hd = some (.dK kvs) /\ H ad = some (.dK (fo as)) /\ hd ≠ ad /\ as.length <= 60 /\
 (∀ b ∈ as, ∃ i : Int, bB kvs (Sum.inl b) = some (.int i)) /\
 ∀ l (ms : List Int) H', SameX [ad] H H' -> H l = none -> H' l = some (.lst (ms.map V.int)) -> ms.Perm ((pl : Int) :: as.map (jz kvs)) -> ms.Pairwise (· <= ·) -> Q (.ref l) H'
theorem jD : FnScope ["holders", "place", "asked"] ["holders", "place", "asked"] (au dv) := ⟨rfl, rfl, rfl, by decide +kernel, rfl, by decide +kernel, by decide +kernel⟩
theorem jE (D : Dfs K mg aF dF) (T : Txt mg) : FnOk P w K mg base br 1 (aF 6) (dF 6) ["holders", "place", "asked"] (fe K) := by
 refine D.short_places.fn.ok jD (fun vs H Q E h => ?_) (fun cdv A outer s H vs Q E hr h => ?_)
 ·obtain ⟨hd, ad, pl, kvs, as, rfl, _⟩ := h; rfl
 ·have hu := aU hr
  obtain ⟨hd, ad, pl, kvs, as, rfl, hH, hA, hne, h60, hv, q⟩ := h
  refine ⟨_, (ao (ay (aq (xg K) (by rfl) T.z_sorted boot_sorted (ae (aC gA (aM (ae (pv 1) af)) (be ["badge", "holders"] [none, some 0] rfl (xl (pv 2)) (fun _ => az (i := 0) (bI (N := ["badge", "holders"]) (by decide +kernel)) rfl (Or.inl rfl)) (fun _ => bR) (fun _ => (rB hu (pv 1) (pv 0) (fun _ _ => rfl))) ((.cons (fun _ e => by cases e) (.cons (fun _ e => by cases e; exact ⟨rfl, rfl⟩) .nil))))) af)))), ?_⟩
  refine ⟨_, rfl, cz, fun l1 n1 => ?_⟩
  have nl1 : ad ≠ l1 := ax hA n1
  refine ⟨_, rfl, ad, _, rfl, by rw [ar nl1]; exact hA, fun φ => ?_⟩
  have hH1 : aI (aI H l1 (.lst [.int pl])) ad (.ext φ) hd = some (.dK kvs) := by rw [ar hne, ar (ax hH n1)]; exact hH
  refine tD (kvs := fo as) (fun k => match k with | .inl b => .int (jz kvs b) | .inr _ => .non) (by unfold fo; rw [CO]; omega) ag (fun i k v hi H2 R s2 kk => ?_) fun acc H2 s2 na hacc => ?_
  ·obtain ⟨b, hb, e⟩ : ∃ b, b ∈ as /\ (Sum.inl b, V.bl true) = (k, v) := by
    have m := CW hi
    obtain ⟨b, hb, e⟩ := C9.mp m
    exact ⟨b, hb, e⟩
   cases e
   obtain ⟨z, hz⟩ := hv b hb
   refine ⟨_, rfl, _, rfl, hd, _, rfl, (by rw [<- hz]; exact DGet.k (k := Sum.inl b) (s2 _ _ hH1)), ?_⟩
   have e := ie hz
   rw [<- e]
   exact kk H2 (Same.refl _)
  have e1 : (fo as).map (fun p => match p.1 with | Sum.inl b => V.int (jz kvs b) | Sum.inr _ => V.non) = (as.map (jz kvs)).map V.int := by
   unfold fo
   rw [Dq, Dq]; rfl
  have hacc' : H2 acc = some (.lst ((as.map (jz kvs)).map V.int)) := hacc.trans (congrArg (fun z => some (HO.lst z)) e1)
  have hl2 : H2 l1 = some (.lst [.int pl]) := s2 _ _ (by rw [ar nl1.symm]; exact ag)
  refine ⟨l1, acc, _, _, rfl, rfl, hl2, hacc', by rw [CO, CO]; exact wF (by show 1 + _ <= 1000; omega), fun l3 n3 => ?_⟩
  refine ⟨l3, (pl : Int) :: as.map (jz kvs), rfl, SqL.of ag, by rw [Dv, CO]; omega, fun l4 ms n4 hp hs => ?_⟩
  have sA : SameX [ad] H H2 := fun b o hb e => s2 b o (by rw [ar (by simpa using hb), ar (ax e n1)]; exact e)
  have n4' : H l4 = none := by
   cases z : H l4 with
   | none => rfl
   | some o =>
    by_cases hb : l4 = ad
    ·have : aI H2 l3 (.lst (V.int (pl : Int) :: (as.map (jz kvs)).map V.int)) ad = none := hb ▸ n4
     rw [ar (ax (s2 _ _ ag) n3), s2 _ _ ag] at this
     cases this
    ·have z2 := sA l4 o (by simpa using hb) z
     have : aI H2 l3 (.lst (V.int (pl : Int) :: (as.map (jz kvs)).map V.int)) l4 = none := n4
     rw [ar (ax z2 n3), z2] at this
     cases this
  refine q l4 ms _ ?_ n4' ag hp hs
  exact sA.trans (Same.x ((Same.new n3).to n4))
def jm (K : PySem.W.Frag) : Sp := fun vs H Q _ => ∃ (hd : Addr) (ps : List (List Int)) (kvs : HK), vs = [.ref hd, .int ps.length] /\ H hd = some (.dK kvs) /\ ps.length <= 60 /\ Held ps kvs ps.length /\
 ∀ l (hs : List Int) H', SameX [hd] H H' -> H l = none -> H' l = some (.lst (hs.map V.int)) -> Deal ps hs -> Q (.ref l) H'
theorem dJ : FnScope ["holders", "count", "hands", "badge", "place"] ["holders", "count"] (au gH) := ⟨rfl, rfl, rfl, by decide +kernel, rfl, by decide +kernel, by decide +kernel⟩
theorem pd (D : Dfs K mg aF dF) (T : Txt mg) : FnOk P w K mg base br 1 (aF 7) (dF 7) ["holders", "count"] (jm K) := by
 refine D.hands_of.fn.ok dJ (fun vs H Q E h => ?_) (fun cdv A outer s H vs Q E hr h => ?_)
 ·obtain ⟨hd, ps, kvs, rfl, _⟩ := h; rfl
 ·have hu := aU hr
  obtain ⟨hd, ps, kvs, rfl, hH, h60, he, q⟩ := h
  refine ⟨_, (ah (aB (i := 2) dJ.nd rfl (Or.inl rfl) (aC y8 (aM (ae ak af)) (pv 1)))
   (ah (aP PassesOwn.never rfl (uY (uK PySem.F.plainAttrs_dict PySem.F.slot_dict_items PySem.F.type_dict_items uX (pv 0))) (BP K rfl (dU (az (i := 3) dJ.nd rfl (Or.inl rfl)) (dU (az (i := 4) dJ.nd rfl (Or.inl rfl)) mP)))
    (ao (mQ (pv 3) (uA (pv 2) (pv 4) oj))))
   (ao (ay (pv 2))))), ?_⟩
  refine ⟨cz, fun l0 n0 => ⟨_, rfl, l0, _, _, rfl, rfl, ag, by omega, by omega, by show 1 * _ <= _; exact wF (by omega), fun l nl => ?_⟩⟩
  have el : (DB ((ps.length : Int)).toNat [V.int 0]).flatten = (DB ps.length (0 : Int)).map V.int := by
   have : ((ps.length : Int)).toNat = ps.length := by omega
   rw [this]
   generalize ps.length = m
   induction m with
   | zero => rfl
   | succ m ih => rw [Ef, EH, ih, Ef]; rfl
  rw [el]
  have nhd0 : hd ≠ l0 := ax hH n0
  have nhd : hd ≠ l := ax (show aI H l0 (.lst [.int 0]) hd = some _ by rw [ar nhd0]; exact hH) nl
  have nl' : H l = none := by
   cases z : H l with
   | none => rfl
   | some o =>
    rw [ar (ax z n0), z] at nl
    cases nl
  have hH1 : aI (aI H l0 (.lst [.int 0])) l (.lst ((DB ps.length (0 : Int)).map V.int)) hd = some (.dK kvs) := by rw [ar nhd, ar nhd0]; exact hH
  refine ⟨_, rfl, .inr (.inr (.inl ⟨rfl, .inl ⟨_, hH1⟩⟩)), hd, kvs, rfl, rfl, hH1, fun v nv => ?_⟩
  have nvd : hd ≠ v := ax hH1 nv
  have nvl : l ≠ v := ax ag nv
  refine ⟨v, hd, kvs, rfl, ag, by rw [ar nvd]; exact hH1, fun φ => ?_⟩
  refine sY (fun i σ H1 => ∃ (hs : List Int) (x y : Option V), σ = [some (.ref hd), some (.int ps.length), some (.ref l), x, y] /\ SameX [hd] H H1 /\ H1 hd = some (.ext φ) /\ H1 l = some (.lst (hs.map V.int)) /\ hs.length = ps.length /\
    ∀ j (b : Int) (t : Nat), j < i -> kvs[j]? = some (Sum.inl b, V.int t) -> hs[t]? = some b) ⟨DB ps.length 0, none, none, rfl, ?_, ag, ?_, by rw [List.length_replicate], fun j b t h => by omega⟩ (fun i σ H1 _ hq__ => by obtain ⟨_, _, _, _, _, h, _⟩ := hq__; exact h) ?_ ?_
  ·intro b o hb e
   have h1 : b ≠ hd := by simpa using hb
   rw [ar h1, ar (ax (show aI (aI H l0 _) l _ b = some o by rw [ar (ax e nl'), ar (ax e n0)]; exact e) nv), ar (ax e nl'), ar (ax e n0)]; exact e
  ·rw [ar nhd.symm, ar nvl]; exact ag
  ·rintro i k v' σ H1 p hi ⟨hs, x, y, rfl, s1, hx1, hl1, hlen, hin⟩ np
   obtain ⟨b, t, pl, e, e2, e3⟩ := he.good _ (CW hi)
   cases e
   have ht : t < ps.length := (CS.mp e2).1
   have npl : l ≠ p := ax hl1 np
   refine ⟨p, _, rfl, SqT.of ag, rfl, _, _, rfl, _, _, rfl, rfl, ?_⟩
   refine ⟨_, rfl, _, rfl, _, rfl, l, _, _, t, rfl, rfl, by rw [ar npl]; exact hl1, ?_, ?_⟩
   ·unfold wD
    rw [if_pos (by omega), if_pos (by rw [CO]; omega)]
    congr 1
   refine ⟨hs.set t b, _, _, rfl, ?_, ?_, ?_, by rw [Fu]; exact hlen, fun j b' t' hj hj' => ?_⟩
   ·intro c o hc e
    rw [ar (ax e nl'), ar (ax (s1 c o hc e) np)]; exact s1 c o hc e
   ·rw [ar nhd, ar (ax hx1 np)]; exact hx1
   ·rw [ag]; congr 1; congr 1
    rw [List.map_set]; rfl
   ·by_cases hji : j = i
    ·subst hji
     rw [hi] at hj'
     have z := Option.some.inj hj'
     injection z with z1 z2
     have z1 := Sum.inl.inj z1
     injection z2 with z2
     have : t = t' := by omega
     subst this z1
     rw [EZ (by omega)]
    ·have h1 := hin j b' t' (by omega) hj'
     have : t ≠ t' := fun z => by
      subst z
      have nd := he.vals
      have l1 : j < kvs.length := (CS.mp hj').1
      have l2 : i < kvs.length := (CS.mp hi).1
      rw [CP l1] at hj'
      rw [CP l2] at hi
      have e1 : (kvs.map (·.2))[j]'(by simpa using l1) = (kvs.map (·.2))[i]'(by simpa using l2) := by simp [Option.some.inj hj', Option.some.inj hi]
      exact hji ((EL nd).mp e1)
     rw [E5 this]; exact h1
  ·rintro σ H1 ⟨hs, x, y, rfl, s1, hx1, hl1, hlen, hin⟩
   refine ⟨_, rfl, q l hs H1 s1 nl' hl1 (he.deal hlen fun b t m => ?_)⟩
   obtain ⟨j, hj, ej⟩ := Dd.mp m
   exact hin j b t hj (by rw [CP hj, ej])
def B1 (H : Hp) (t : Addr) (ps : List (List Int)) : Prop := (∃ (l : Addr) (hs : List Int), H t = some (.tup [.str "dealt", .ref l]) /\ H l = some (.lst (hs.map V.int)) /\ Deal ps hs) \/
 ∃ (l : Addr) (qs : List Nat), H t = some (.tup [.str "short", .ref l]) /\ H l = some (.lst (qs.map fun (q : Nat) => V.int (q : Int))) /\ Short ps qs
def CK (H H' : Hp) (t : Addr) : Prop := H t = none /\ ∀ s l, H' t = some (.tup [.str s, .ref l]) -> H l = none
def sg (K : PySem.W.Frag) : Sp := fun vs H Q _ => ∃ (a : Addr) (rs : List Addr) (ps : List (List Int)) (U : List Int), vs = [.ref a] /\ SqL K H a (rs.map V.ref) /\ PoolsL K H rs ps /\ ps.length <= 6 /\ (∀ p ∈ ps, ∀ b ∈ p, b ∈ U) /\ U.length <= 26 /\
 ∀ t H', Same H H' -> CK H H' t -> B1 H' t ps -> Q (.ref t) H'
theorem jN : FnScope ["pools", "holders", "place", "asked"] ["pools"] (au qM) := ⟨rfl, rfl, rfl, by decide +kernel, rfl, by decide +kernel, by decide +kernel⟩
theorem ye (D : Dfs K mg aF dF) (T : Txt mg) : FnOk P w K mg base br 29 (aF 4) (dF 4) ["pools"] (sg K) := by
 have Gsettle : FnOk P w K mg base br 28 (aF 5) (dF 5) ["pools", "holders", "place", "asked"] (mH K) := ui D T
 have Gshort_places : FnOk P w K mg base br 1 (aF 6) (dF 6) ["holders", "place", "asked"] (fe K) := jE D T
 have Ghands_of : FnOk P w K mg base br 1 (aF 7) (dF 7) ["holders", "count"] (jm K) := pd D T
 refine D.deal.fn.ok jN (fun vs H Q E h => ?_) (fun cdv A outer s H vs Q E hr h => ?_)
 ·obtain ⟨a, rs, ps, U, rfl, _⟩ := h; rfl
 ·have hu := aU hr
  obtain ⟨a, rs, ps, U, rfl, hS, hP, h6, hU, hU26, q⟩ := h
  refine ⟨_, (ah (aB (i := 1) jN.nd rfl (Or.inl rfl) ot)
   (ah (aP PassesOwn.never rfl (bq rfl T.z_range (ae (aq (bX K) (by rfl) T.z_len boot_len (ae (pv 0) af)) af)) (az (i := 2) jN.nd rfl (Or.inl rfl))
    (ah (aB (i := 3) jN.nd rfl (Or.inl rfl) ot)
    (ao (aK (bH (bG (pc D.settle Gsettle (hr.mono (by decide)) (ae (pv 0) (ae (pv 1) (ae (pv 2) (ae (pv 3) af)))))))
     (ao (ay (aV (ae bf (ae (pc D.short_places Gshort_places (hr.mono (by decide)) (ae (pv 1) (ae (pv 2) (ae (pv 3) af)))) af)))))
     aD))))
   (ao (ay (aV (ae bf (ae (pc D.hands_of Ghands_of (hr.mono (by decide)) (ae (pv 1) (ae (aq (bX K) (by rfl) T.z_len boot_len (ae (pv 0) af)) af))) af))))))), ?_⟩
  intro hd nh
  have hl : rs.length = ps.length := Paired.length hP
  refine ⟨_, rfl, _, _, rfl, .inl ⟨_, (Same.new nh).seq hS, rfl⟩, _, rfl, jC _, by rw [CO]; omega, ?_⟩
  rw [CO, hl]
  have e0 : ((ps.length : Int)).toNat = ps.length := by omega
  rw [e0]
  refine b3 (n := ps.length) (fun i σ H1 => ∃ (kvs : HK) (x y : Option V), σ = [some (.ref a), some (.ref hd), x, y] /\ Same H H1 /\ H1 hd = some (.dK kvs) /\ Held ps kvs i) ⟨[], none, none, rfl, Same.new nh, ag, Held.start⟩ ?_ ?_
  ·rintro i σ H1 hi ⟨kvs, x, y, rfl, s1, hH1, he⟩
   intro ad na
   have hne : hd ≠ ad := ax hH1 na
   have na' : H ad = none := s1.free na
   refine ⟨_, rfl, _, rfl, _, rfl, _, rfl, ?_⟩
   have ei : (0 : Int) + (i : Int) = (i : Int) := by omega
   rw [ei]
   have s2 : Same H (aI H1 ad (.dK [])) := s1.to na
   have hH2 : aI H1 ad (.dK []) hd = some (.dK kvs) := by rw [ar hne]; exact hH1
   refine ⟨a, hd, ad, rs, ps, U, i, kvs, [], rfl, s2.seq hS, hP.same s2, hi, hU, by omega, hH2, ag, hne, he.nd, he.good, EK, (fun _ h => by cases h), ?_, ?_⟩
   ·have := DD (fun c => decide (c ∉ ([] : List Int))) U
    omega
   intro ok kvs' as' H3 st s3 hH3 hA3
   have fr : ∀ b o, H b = some o -> b ∉ [hd, ad] := fun b o e m => by
    simp only [C5, DI, or_false] at m
    rcases m with z | z
    ·rw [z, nh] at e; cases e
    ·rw [z, na'] at e; cases e
   have s4 : Same H H3 := fun b o e => s3 b o (fr b o e) (s2 b o e)
   refine ⟨ok, rfl, ?_⟩
   cases ok with
   | true => exact bE ⟨kvs', _, _, rfl, s4, hH3, he.next st⟩
   | false =>
    obtain ⟨e, h1, h2⟩ := st.no rfl
    subst e
    refine dW ?_
    refine ⟨_, rfl, _, rfl, _, rfl, ?_⟩
    have al : as'.length <= U.length := st.nd.length_le_of_subset st.sub
    refine ⟨hd, ad, i, kvs', as', rfl, hH3, hA3, hne, by omega, fun b hb => ?_, fun l ms H4 s5 nl hl4 hp hs => ?_⟩
    ·obtain ⟨t, _, e, _⟩ := h2 b hb (by simp)
     exact ⟨t, e⟩
    obtain ⟨qs, eq, sh⟩ := he.short hi st hp hs
    have s6 : Same H H4 := fun b o e => s5 b o (fun m => fr b o e (C8 _ m)) (s4 b o e)
    refine ⟨cz, fun t nt => q t _ (s6.to nt) ⟨s6.free nt, fun s l' e => ?_⟩ (.inr ⟨l, qs, ag, ?_, sh⟩)⟩
    ·rw [ag] at e
     cases e
     exact s4.free nl
    ·rw [ar (ax hl4 nt), hl4, eq, Dq]; rfl
  ·rintro σ H1 ⟨kvs, x, y, rfl, s1, hH1, he⟩
   refine ⟨_, rfl, _, rfl, _, _, rfl, .inl ⟨_, s1.seq hS, rfl⟩, ?_⟩
   rw [CO, hl]
   refine ⟨hd, ps, kvs, rfl, hH1, by omega, he, fun l hs H2 s2 nl hl2 dl => ?_⟩
   have s6 : Same H H2 := fun b o e => s2 b o (fun m => by
    rw [CZ.mp m, nh] at e
    cases e) (s1 b o e)
   refine ⟨cz, fun t nt => q t _ (s6.to nt) ⟨s6.free nt, fun s l' e => ?_⟩ (.inl ⟨l, hs, ag, ?_, dl⟩)⟩
   ·rw [ag] at e
    cases e
    exact s1.free nl
   ·rw [ar (ax hl2 nt)]; exact hl2
def kG (K : PySem.W.Frag) : Sp := fun vs H Q _ => ∃ (a : Addr) (ps : List Int), vs = [.ref a] /\ SqL K H a (ps.map V.int) /\ ps.length <= 6 /\ ∀ H', Same H H' -> Q (.int (((dd ps).length : Nat) : Int)) H'
theorem wy : FnScope ["pattern"] ["pattern"] (au nK) := ⟨rfl, rfl, rfl, by decide +kernel, rfl, by decide +kernel, by decide +kernel⟩
theorem ph (D : Dfs K mg aF dF) (T : Txt mg) : FnOk P w K mg base br 1 (aF 8) (dF 8) ["pattern"] (kG K) := by
 refine D.width.fn.ok wy (fun vs H Q E h => ?_) (fun cdv A outer s H vs Q E hr h => ?_)
 ·obtain ⟨a, ps, rfl, _⟩ := h; rfl
 ·have hu := aU hr
  obtain ⟨a, ps, rfl, ha, h6, q⟩ := h
  refine ⟨_, (ao (ay (aq (rM w) (by rfl) T.z_len boot_len (ae (aW (j5 w K) (by rfl) T.z_set PyProof.Rows.boot_set (ae (pv 0) af)) af)))), ?_⟩
  exact ⟨_, rfl, a, ps, rfl, ha, by omega, fun S nS => ⟨S, _, rfl, ag, q _ (Same.new nS)⟩⟩
def pj (K : PySem.W.Frag) : Sp := fun vs H Q _ => ∃ (a : Addr) (ps : List Int), vs = [.ref a] /\ H a = some (.lst (ps.map V.int)) /\ ps.length <= 6 /\
 ∀ l (rs : List Addr) H', Same H H' -> H l = none -> H' l = some (.lst (rs.map V.ref)) -> rs.length = (dd ps).length + 1 -> (∀ (i : Nat) r, rs[i]? = some r -> H' r = some (.lst ((ps ++ [(i : Int)]).map V.int)) /\ H r = none) -> Q (.ref l) H'
theorem wz : FnScope ["pattern"] ["pattern"] (au nL) := ⟨rfl, rfl, rfl, by decide +kernel, rfl, by decide +kernel, by decide +kernel⟩
theorem wA (D : Dfs K mg aF dF) (T : Txt mg) : FnOk P w K mg base br 2 (aF 9) (dF 9) ["pattern"] (pj K) := by
 have Gwidth : FnOk P w K mg base br 1 (aF 8) (dF 8) ["pattern"] (kG K) := ph D T
 refine D.grown.fn.ok wz (fun vs H Q E h => ?_) (fun cdv A outer s H vs Q E hr h => ?_)
 ·obtain ⟨a, ps, rfl, _⟩ := h; rfl
 ·have hu := aU hr
  obtain ⟨a, ps, rfl, ha, h6, q⟩ := h
  refine ⟨_, (ao (ay (be ["number", "pattern"] [none, some 0] rfl (bq rfl T.z_range (ae (aC aZ (pc D.width Gwidth (hr.mono (by decide)) (ae (pv 0) af)) ak) af)) (fun _ => az (i := 0) (bI (N := ["number", "pattern"]) (by decide +kernel)) rfl (Or.inl rfl)) (fun _ => bR) (fun _ => (aC gA (pv 1) (aM (ae (pv 0) af)))) ((.cons (fun _ e => by cases e) (.cons (fun _ e => by cases e; exact ⟨rfl, rfl⟩) .nil)))))), ?_⟩
  refine ⟨_, rfl, a, ps, rfl, SqL.of ha, h6, fun H1 s1 => ?_⟩
  have dl := cB ps
  refine ⟨_, _, rfl, rfl, _, rfl, jC _, by omega, ?_⟩
  have e0 : (((dd ps).length : Int) + 1).toNat = (dd ps).length + 1 := by omega
  rw [e0]
  refine ji (n := (dd ps).length + 1) (fun i => (ps ++ [(i : Int)]).map V.int) (by omega) (fun i hi H2 R s2 k => ?_) fun acc rs H2 s2 nacc hacc hrs hall hne => ?_
  ·have ei : (0 : Int) + (i : Int) = ((i : Nat) : Int) := by omega
   rw [ei]
   refine ⟨_, rfl, _, rfl, cz, fun p np => ?_⟩
   have ha2 := (s1.trans s2) _ _ ha
   refine ⟨a, p, _, _, rfl, rfl, Same.new np _ _ ha2, ag, by rw [CO]; exact wF (by simp; omega), fun r nr => ?_⟩
   have e : ps.map V.int ++ [V.int ((i : Nat) : Int)] = (ps ++ [(i : Int)]).map V.int := by rw [Df]; rfl
   rw [e]
   exact k r _ ((Same.new np).to nr) ((Same.new np).free nr) ag
  ·exact q acc rs H2 (s1.trans s2) (s1.free nacc) hacc hrs fun i r hr => ⟨(hall i r hr).1, s1.free (hall i r hr).2⟩
def mJ (K : PySem.W.Frag) : Sp := fun vs H Q _ => ∃ (a t : Addr) (hs : List Int) (st : List Nat), vs = [.ref a, .ref t] /\ SqL K H a (hs.map V.int) /\ (SqL K H t (st.map fun (i : Nat) => V.int (i : Int)) \/ SqT K H t (st.map fun (i : Nat) => V.int (i : Int))) /\ (∀ i ∈ st, i < hs.length) /\ st.length <= 6 /\
 ∀ H', Same H H' -> Q (.int ((kO (fun i => hs.getD i 0) st : Nat) : Int)) H'
theorem uj : FnScope ["row", "steps"] ["row", "steps"] (au kC) := ⟨rfl, rfl, rfl, by decide +kernel, rfl, by decide +kernel, by decide +kernel⟩
theorem uk (D : Dfs K mg aF dF) (T : Txt mg) : FnOk P w K mg base br 1 (aF 12) (dF 12) ["row", "steps"] (mJ K) := by
 refine D.unlike.fn.ok uj (fun vs H Q E h => ?_) (fun cdv A outer s H vs Q E hr h => ?_)
 ·obtain ⟨a, t, hs, st, rfl, _⟩ := h; rfl
 ·have hu := aU hr
  obtain ⟨a, t, hs, st, rfl, ha, ht, hlt, h6, q⟩ := h
  refine ⟨_, (ao (ay (aq (rM w) (by rfl) T.z_len boot_len (ae (aW (j5 w K) (by rfl) T.z_set PyProof.Rows.boot_set (ae (be ["step", "row"] [none, some 0] rfl (Cq K (pv 1)) (fun _ => az (i := 0) (bI (N := ["step", "row"]) (by decide +kernel)) rfl (Or.inl rfl)) (fun _ => bR) (fun _ => (aA (dS K) (pv 1) (pv 0) (fun _ _ => rfl))) ((.cons (fun _ e => by cases e) (.cons (fun _ e => by cases e; exact ⟨rfl, rfl⟩) .nil)))) af)) af)))), ?_⟩
  have fin : ∀ acc H2, Same H H2 -> H2 acc = some (.lst ((st.map fun i => hs.getD i 0).map V.int)) -> ∀ S, H2 S = none -> Q (.int ((kO (fun i => hs.getD i 0) st : Nat) : Int)) (aI H2 S (.ext (SX w S (dd (st.map fun i => hs.getD i 0))))) := fun acc H2 s2 _ S nS => q _ (s2.to nS)
  refine ⟨_, rfl, t, rfl, ?_⟩
  rcases ht with ht | ht
  ·refine .inl ⟨⟨_, ht⟩, bx (xs := st.map fun (i : Nat) => V.int (i : Int)) (fun _ => true) (fun j => .int (hs.getD (st.getD j 0) 0)) ht (by rw [CO]; omega) (fun _ _ _ _ _ _ k => k _ (Same.refl _)) (fun j x hx _ H2 R s2 k => ?_) fun acc H2 s2 nacc hacc => ?_⟩
   ·obtain ⟨d, hd, rfl, ed⟩ := fB hx
    rw [ed] at k
    exact ⟨_, rfl, _, rfl, a, _, _, _, rfl, rfl, s2.seq ha, bA (hlt d (CW hd)), k _ (Same.refl _)⟩
   rw [vA] at hacc
   exact ⟨acc, st.map fun i => hs.getD i 0, rfl, SqL.of hacc, by rw [CO]; omega, fun S nS => ⟨S, _, rfl, ag, fin acc H2 s2 hacc S nS⟩⟩
  ·refine .inr ⟨⟨_, ht⟩, oP (xs := st.map fun (i : Nat) => V.int (i : Int)) (fun _ => true) (fun j => .int (hs.getD (st.getD j 0) 0)) ht (by rw [CO]; omega) (fun _ _ _ _ _ _ k => k _ (Same.refl _)) (fun j x hx _ H2 R s2 k => ?_) fun acc H2 s2 nacc hacc => ?_⟩
   ·obtain ⟨d, hd, rfl, ed⟩ := fB hx
    rw [ed] at k
    exact ⟨_, rfl, _, rfl, a, _, _, _, rfl, rfl, s2.seq ha, bA (hlt d (CW hd)), k _ (Same.refl _)⟩
   rw [vA] at hacc
   exact ⟨acc, st.map fun i => hs.getD i 0, rfl, SqL.of hacc, by rw [CO]; omega, fun S nS => ⟨S, _, rfl, ag, fin acc H2 s2 hacc S nS⟩⟩
def jd (K : PySem.W.Frag) : Sp := fun vs H Q _ => ∃ (a tp t : Addr) (hs : List Int) (st : List Nat) (wd : Str) (k : Int), vs = [.ref a, .ref tp] /\ SqL K H a (hs.map V.int) /\ SqT K H tp [.str wd, .int k, .ref t] /\ SqT K H t (st.map fun (i : Nat) => V.int (i : Int)) /\ (wd = "most" \/ wd = "least") /\ st.length <= 6 /\
 ∀ H', Same H H' -> Q (.bl (brk (fun i => hs.getD i 0) hs.length wd k st)) H'
theorem je : FnScope ["pattern", "tie", "steps", "numbers_there"] ["pattern", "tie"] (au kA) := ⟨rfl, rfl, rfl, by decide +kernel, rfl, by decide +kernel, by decide +kernel⟩
theorem um (D : Dfs K mg aF dF) (T : Txt mg) : FnOk P w K mg base br 2 (aF 10) (dF 10) ["pattern", "tie"] (jd K) := by
 have Gunlike : FnOk P w K mg base br 1 (aF 12) (dF 12) ["row", "steps"] (mJ K) := uk D T
 refine D.breaks.fn.ok je (fun vs H Q E h => ?_) (fun cdv A outer s H vs Q E hr h => ?_)
 ·obtain ⟨a, tp, t, hs, st, wd, k, rfl, _⟩ := h; rfl
 ·have hu := aU hr
  obtain ⟨a, tp, t, hs, st, wd, k, rfl, ha, htp, ht, hwd, h6, q⟩ := h
  refine ⟨_, (ah (hE (i₀ := 2) je.nd rfl (Or.inl rfl) ["step", "pattern"] [none, some 0] rfl (BO K (aA (dB K) (pv 1) ak (fun _ _ => rfl))) (fun _ => az (i := 0) (bI (N := ["step", "pattern"]) (by decide +kernel)) rfl (Or.inl rfl)) (fun _ => fU (aE jf (pv 0) (aq (bX K) (by rfl) T.z_len boot_len (ae (pv 1) af)) (aG _))) (fun _ => (pv 0)) ((.cons (fun _ e => by cases e) (.cons (fun _ e => by cases e; exact ⟨rfl, rfl⟩) .nil))))
   (ah (aB (i := 3) je.nd rfl (Or.inl rfl) (pc D.unlike Gunlike (hr.mono (by decide)) (ae (pv 0) (ae (pv 2) af))))
   (ah (aK (aE de (aA (dB K) (pv 1) ak (fun _ _ => rfl)) bf (aG _))
    (ao (ay (cU uD (pv 3) (aA (dB K) (pv 1) ak (fun _ _ => rfl)) (aG _))))
    aD)
   (ao (ay (cU jf (aC mS (aC aZ (pv 3) (aq (bX K) (by rfl) T.z_len boot_len (ae (aA (dB K) (pv 1) ak (fun _ _ => rfl)) af))) (aq (bX K) (by rfl) T.z_len boot_len (ae (pv 2) af))) (aA (dB K) (pv 1) ak (fun _ _ => rfl)) (aG _))))))), ?_⟩
  refine ⟨_, rfl, tp, _, _, _, rfl, rfl, htp, rfl, t, rfl, ⟨_, ht⟩, ?_⟩
  refine oP (xs := st.map fun (i : Nat) => V.int (i : Int)) (fun j => decide (st.getD j 0 < hs.length)) (fun j => .int ((st.getD j 0 : Nat) : Int)) ht (by rw [CO]; omega) (fun j x hx H2 R s2 k => ?_) (fun j x hx hp H2 R s2 k => ?_) fun acc H2 s2 nacc hacc => ?_
  ·obtain ⟨d, hd, rfl, ed⟩ := fB hx
   rw [ed] at k
   refine ⟨_, rfl, _, rfl, _, _, rfl, .inl ⟨_, s2.seq ha, rfl⟩, _, _, rfl, rfl, _, rfl, ?_⟩
   have kk := k H2 (Same.refl _)
   rw [zB] at kk
   rw [CO]
   exact kk
  ·obtain ⟨d, hd, rfl, ed⟩ := fB hx
   rw [ed] at k
   exact ⟨_, rfl, k _ (Same.refl _)⟩
  rw [CO, BS (g := fun i => decide (i < hs.length)) (F := fun (i : Nat) => V.int (i : Int))] at hacc
  have fl : (st.filter fun i => decide (i < hs.length)).length <= st.length := DD ..
  refine ⟨_, rfl, _, rfl, a, acc, hs, st.filter fun i => decide (i < hs.length), rfl, s2.seq ha, .inl (SqL.of hacc), (fun i hi => of_decide_eq_true (Dw.mp hi).2), by omega, fun H3 s23 => ?_⟩
  have s3 := s2.trans s23
  have hacc3 := s23 _ _ hacc
  have q3 := q H3 s3
  refine ⟨_, rfl, tp, _, _, _, rfl, rfl, Same.seqT s3 htp, rfl, rfl, _, rfl, ?_⟩
  unfold brk at q3
  rcases hwd with e | e <;> subst e
  ·refine dW ?_
   rw [if_pos rfl] at q3
   exact ⟨_, rfl, _, rfl, tp, _, _, _, rfl, rfl, Same.seqT s3 htp, rfl, _, _, rfl, rfl, q3⟩
  ·rw [decide_eq_false (by decide)]
   refine bE ?_
   rw [if_neg (by decide)] at q3
   refine ⟨_, rfl, _, rfl, tp, _, _, _, rfl, rfl, Same.seqT s3 htp, rfl, _, _, rfl, .inr ⟨_, Same.seqT s3 ht, rfl⟩, _, _, rfl, rfl, _, rfl, _, _, rfl, .inl ⟨_, SqL.of hacc3, rfl⟩, _, _, rfl, rfl, _, rfl, tp, _, _, _, rfl, rfl, Same.seqT s3 htp, rfl, _, _, rfl, rfl, ?_⟩
   rw [CO, CO]
   exact q3
def ff (K : PySem.W.Frag) : Sp := fun vs H Q _ => ∃ (a b : Addr) (hs : List Int) (ts : List (Addr × Addr × Str × Int × List Nat)), vs = [.ref a, .ref b] /\ SqL K H a (hs.map V.int) /\ Ties K H b ts 100 /\ ∀ H', Same H H' -> Q (AU (lz (fun i => hs.getD i 0) hs.length ts)) H'
theorem fg : FnScope ["pattern", "ties", "place"] ["pattern", "ties"] (au dw) := ⟨rfl, rfl, rfl, by decide +kernel, rfl, by decide +kernel, by decide +kernel⟩
theorem jF (D : Dfs K mg aF dF) (T : Txt mg) : FnOk P w K mg base br 3 (aF 11) (dF 11) ["pattern", "ties"] (ff K) := by
 have Gbreaks : FnOk P w K mg base br 2 (aF 10) (dF 10) ["pattern", "tie"] (jd K) := um D T
 refine D.first_broken.fn.ok fg (fun vs H Q E h => ?_) (fun cdv A outer s H vs Q E hr h => ?_)
 ·obtain ⟨a, b, hs, ts, rfl, _⟩ := h; rfl
 ·have hu := aU hr
  obtain ⟨a, b, hs, ts, rfl, ha, tt, q⟩ := h
  refine ⟨_, (ah (aP PassesOwn.never rfl (bq rfl T.z_range (ae (aq (bX K) (by rfl) T.z_len boot_len (ae (pv 1) af)) af)) (az (i := 2) fg.nd rfl (Or.inl rfl))
    (ao (aK (bG (pc D.breaks Gbreaks (hr.mono (by decide)) (ae (pv 0) (ae (aA (dS K) (pv 1) (pv 2) (fun _ _ => rfl)) af))))
     (ao (ay (pv 2)))
     aD)))
   (ao (ay mO))), ?_⟩
  have ln := tt.ln
  have sl : (ts.map fun x => V.ref x.1).length = ts.length := by rw [CO]
  refine ⟨_, rfl, _, _, rfl, .inl ⟨_, tt.ls, rfl⟩, _, rfl, jC _, by omega, ?_⟩
  have e0 : (((ts.map fun x => V.ref x.1).length : Nat) : Int).toNat = ts.length := by omega
  rw [e0]
  refine b3 (n := ts.length) (fun i σ H1 => ∃ x : Option V, σ = [some (.ref a), some (.ref b), x] /\ Same H H1 /\ ∀ j, j < i -> ∀ x, ts[j]? = some x -> brk (fun i => hs.getD i 0) hs.length x.2.2.1 x.2.2.2.1 x.2.2.2.2 = false) ⟨none, rfl, Same.refl _, fun j h => by omega⟩ ?_ ?_
  ·rintro i σ H1 hi ⟨x, rfl, s1, no⟩
   have ei : (0 : Int) + (i : Int) = ((i : Nat) : Int) := by omega
   rw [ei]
   have gi : ts[i]? = some ts[i] := CP hi
   have te := tt.ea _ (Do hi)
   refine ⟨_, rfl, _, rfl, _, rfl, b, _, _, _, rfl, rfl, s1.seq tt.ls, bZ (by rw [CU, gi]; rfl), a, ts[i].1, ts[i].2.1, hs, ts[i].2.2.2.2, ts[i].2.2.1, ts[i].2.2.2.1, rfl, s1.seq ha, SqT.of (s1 _ _ te.tp), SqT.of (s1 _ _ te.ts), te.wd, te.sl, fun H2 s2 => ⟨_, rfl, ?_⟩⟩
   refine Co (fun hb => ?_) fun hb => ?_
   ·have e : lz (fun i => hs.getD i 0) hs.length ts = some i := by
     unfold lz
     rw [Es]
     exact ⟨hi, hb, fun j hj => by
      have := no j hj _ (CP (by omega))
      simpa using this⟩
    have qq := q H2 (s1.trans s2)
    rw [e] at qq
    exact ⟨_, rfl, qq⟩
   ·refine ⟨_, rfl, s1.trans s2, fun j hj x hx => ?_⟩
    by_cases z : j = i
    ·subst z
     rw [gi] at hx
     cases hx
     exact hb
    ·exact no j (by omega) x hx
  ·rintro σ H1 ⟨x, rfl, s1, no⟩
   have e : lz (fun i => hs.getD i 0) hs.length ts = none := by
    unfold lz
    rw [Fk]
    intro x hx
    obtain ⟨j, hj, ej⟩ := Dd.mp hx
    exact no j hj x (by rw [CP hj, ej])
   have qq := q H1 s1
   rw [e] at qq
   exact qq
def kH (K : PySem.W.Frag) : Sp := fun vs H Q _ => ∃ (b : Nat) (pa ma : Addr) (p : List Int) (rs : List Addr) (may : List (List Int)) (U : List Int), vs = [.int ((b : Nat) : Int), .ref pa, .ref ma] /\ SqL K H pa (p.map V.int) /\ May K H ma rs may U /\ cH p /\ b < (dd p).length /\ p.length <= may.length /\
 ∀ l H', Same H H' -> H l = none -> H' l = some (.lst ((iz may p b).map V.int)) -> Q (.ref l) H'
theorem dy : FnScope ["block", "pattern", "may", "steps", "step", "pool"] ["block", "pattern", "may"] (au ja) := ⟨rfl, rfl, rfl, by decide +kernel, rfl, by decide +kernel, by decide +kernel⟩
theorem qR (D : Dfs K mg aF dF) (T : Txt mg) : FnOk P w K mg base br 2 (aF 14) (dF 14) ["block", "pattern", "may"] (kH K) := by
 have Gcommon : FnOk P w K mg base br 1 (aF 0) (dF 0) ["one", "other"] (mF K) := uf D T
 refine D.pool_of.fn.ok dy (fun vs H Q E h => ?_) (fun cdv A outer s H vs Q E hr h => ?_)
 ·obtain ⟨b, pa, ma, p, rs, may, U, rfl, _⟩ := h; rfl
 ·have hu := aU hr
  obtain ⟨b, pa, ma, p, rs, may, U, rfl, hp, hm, c, hb, hl, q⟩ := h
  refine ⟨_, (ah (hE (i₀ := 3) dy.nd rfl (Or.inl rfl) ["step", "pattern", "block"] [none, some 1, some 0] rfl (bq rfl T.z_range (ae (aq (bX K) (by rfl) T.z_len boot_len (ae (pv 1) af)) af)) (fun _ => az (i := 0) (bI (N := ["step", "pattern", "block"]) (by decide +kernel)) rfl (Or.inl rfl)) (fun _ => fU (aE de (aA (dS K) (pv 1) (pv 0) (fun _ _ => rfl)) (pv 2) (aG _))) (fun _ => (pv 0)) ((.cons (fun _ e => by cases e) (.cons (fun _ e => by cases e; exact ⟨rfl, rfl⟩) (.cons (fun _ e => by cases e; exact ⟨rfl, rfl⟩) .nil)))))
   (ah (aB (i := 5) dy.nd rfl (Or.inl rfl) (aW (yx K) (by rfl) T.z_list boot_list (ae (aA (dS K) (pv 2) (aA (dS K) (pv 3) ak (fun _ _ => rfl)) (fun _ _ => rfl)) af)))
   (ah (aP PassesOwn.never rfl (h8 K (gZ (Be K) (pv 3) (gY ak) mV)) (az (i := 4) dy.nd rfl (Or.inl rfl))
    (ao (aB (i := 5) dy.nd rfl (Or.inl rfl) (pc D.common Gcommon (hr.mono (by decide)) (ae (pv 5) (ae (aA (dS K) (pv 2) (pv 4) (fun _ _ => rfl)) af))))))
   (ao (ay (pv 5)))))), ?_⟩
  have m6 := hm.m6
  refine ⟨_, rfl, _, _, rfl, .inl ⟨_, hp, rfl⟩, _, rfl, jC _, by rw [CO]; omega, ?_⟩
  have e0 : (((p.map V.int).length : Nat) : Int).toNat = p.length := by rw [CO]; omega
  rw [e0]
  refine me (n := p.length) (fun i => decide (p.getD i 0 = (b : Int))) (by omega) (fun i hi H3 R s3 k => ?_) (fun i hi H3 R k => ?_) fun sl H3 s3 nsl hsl => ?_
  ·have ei : (0 : Int) + (i : Int) = ((i : Nat) : Int) := by omega
   rw [ei]
   have kk := k H3 (Same.refl _)
   rw [vC] at kk
   exact ⟨_, rfl, _, rfl, pa, _, _, _, rfl, rfl, s3.seq hp, bA hi, _, rfl, rfl, _, rfl, kk⟩
  ·have ei : (0 : Int) + (i : Int) = ((i : Nat) : Int) := by omega
   rw [ei]
   exact ⟨_, rfl, k⟩
  have sne : gf p b ≠ [] := iy c hb
  have slt : ∀ i ∈ gf p b, i < may.length := fun i hi => by have := (fC.mp hi).1; omega
  have hsl : H3 sl = some (.lst ((gf p b).map fun (i : Nat) => V.int (i : Int))) := hsl
  have q2 : ∀ l H', Same H3 H' -> H3 l = none -> H' l = some (.lst ((dY (gf p b) may).map V.int)) -> Q (.ref l) H' := fun l H' s n e => q l H' (s3.trans s) (s3.free n) e
  have s6 : (gf p b).length <= 6 := by
   have := DD (fun i => decide (p.getD i 0 = (b : Int))) (CY p.length)
   rw [DH] at this
   show ((CY p.length).filter fun i => decide (p.getD i 0 = (b : Int))).length <= 6
   omega
  have hm3 := hm.same s3
  clear q
  generalize gf p b = st at hsl sne slt q2 s6
  obtain ⟨s0, sr, rfl⟩ := List.exists_cons_of_ne_nil sne
  obtain ⟨r0, hr0, hq0, up0, sub0⟩ := hm3.rows (slt s0 (by simp))
  refine ⟨_, rfl, _, rfl, sl, _, _, _, rfl, rfl, SqL.of hsl, bZ (j := 0) (v := V.int (s0 : Int)) rfl, ma, _, _, _, rfl, rfl, hm3.ls, bZ (by rw [CU, hr0]; rfl), r0, _, rfl, .inl hq0, fun l nl => ?_⟩
  have cf : g7 (((s0 :: sr).map fun (i : Nat) => V.int (i : Int))) (some (1 : Int)) none = sr.map fun (i : Nat) => V.int (i : Int) := oA _ 1
  refine ⟨_, rfl, _, rfl, sl, _, rfl, SqL.of (Same.new nl _ _ hsl), fun cc ncc => ?_⟩
  have s34 := (Same.new (o := .lst ((may.getD s0 []).map V.int)) nl).to (o := .lst (sr.map fun (i : Nat) => V.int (i : Int))) ncc
  have ncl : l ≠ cc := fun z => by rw [<- z, ag] at ncc; cases ncc
  have hl4 : aI (aI H3 l (.lst ((may.getD s0 []).map V.int))) cc (.lst (sr.map fun (i : Nat) => V.int (i : Int))) l = some (.lst ((may.getD s0 []).map V.int)) := by rw [ar ncl]; exact ag
  have hcc4 : aI (aI H3 l (.lst ((may.getD s0 []).map V.int))) cc (.lst (sr.map fun (i : Nat) => V.int (i : Int))) cc = some (.lst (sr.map fun (i : Nat) => V.int (i : Int))) := ag
  rw [cf]
  generalize aI (aI H3 l (.lst ((may.getD s0 []).map V.int))) cc (.lst (sr.map fun (i : Nat) => V.int (i : Int))) = H4 at s34 hl4 hcc4
  refine ⟨cc, rfl, ⟨_, SqL.of hcc4⟩, ?_⟩
  refine aY (K := K) (a := cc) (xs := sr.map fun (i : Nat) => V.int (i : Int)) (fun i σ H5 => ∃ (po : Addr) (x : Option V), σ = [some (.int ((b : Nat) : Int)), some (.ref pa), some (.ref ma), some (.ref sl), x, some (.ref po)] /\ Same H4 H5 /\ H3 po = none /\ H5 po = some (.lst ((dY (s0 :: sr.take i) may).map V.int)))
   ⟨l, none, rfl, Same.refl _, nl, by rw [Ff, tQ]; exact hl4⟩ (fun i σ H5 _ hq__ => by obtain ⟨_, _, _, s, _⟩ := hq__; exact s.seq (SqL.of hcc4)) ?_ ?_
  ·rintro i y σ H5 hi ⟨po, x, rfl, s5, npo, hpo⟩
   obtain ⟨d, hd, rfl, _⟩ := fB hi
   have hdl := slt d (C8 _ (CW hd))
   have hm5 := hm3.same (s34.trans s5)
   obtain ⟨r1, hr1, hq1, up1, sub1⟩ := hm5.rows hdl
   refine ⟨_, rfl, _, rfl, _, rfl, ma, _, _, _, rfl, rfl, hm5.ls, bZ (by rw [CU, hr1]; rfl), po, r1, dY (s0 :: sr.take i) may, may.getD d [], U, rfl, ⟨SqL.of hpo, hq1, oS hm.up, up1, fun x hx => sub0 x ((Dw.mp hx).1), sub1, by have := hm.u20; omega⟩, fun l2 ks H6 ⟨t1, t2, t3, t4, t5⟩ => ?_⟩
   refine ⟨l2, _, rfl, s5.trans t1, (s34.trans s5).free t2, ?_⟩
   have et : sr.take (i + 1) = sr.take i ++ [d] := by rw [EI, hd]; rfl
   have ek : ks = dY (s0 :: sr.take (i + 1)) may := by
    refine qv t4 (oS hm.up) fun x => ?_
    rw [t5 x, et, <- List.cons_append, qw (by simp)]
    exact Iff.rfl
   rw [<- ek]
   exact t3
  ·rintro σ H5 ⟨po, x, rfl, s5, npo, hpo⟩
   rw [CO, Dy] at hpo
   exact ⟨_, rfl, q2 po H5 (s34.trans s5) npo hpo⟩
def jn (K : PySem.W.Frag) : Sp := fun vs H Q _ => ∃ (pa ma : Addr) (p : List Int) (rs : List Addr) (may : List (List Int)) (U : List Int), vs = [.ref pa, .ref ma] /\ SqL K H pa (p.map V.int) /\ May K H ma rs may U /\ cH p /\ p.length <= may.length /\
 ∀ l (ls : List Addr) H', Same H H' -> H l = none -> H' l = some (.lst (ls.map V.ref)) -> RowsL H' ls (pools may p) -> (∀ r ∈ ls, H r = none) -> Q (.ref l) H'
theorem pB : FnScope ["pattern", "may"] ["pattern", "may"] (au gI) := ⟨rfl, rfl, rfl, by decide +kernel, rfl, by decide +kernel, by decide +kernel⟩
theorem pD (D : Dfs K mg aF dF) (T : Txt mg) : FnOk P w K mg base br 3 (aF 13) (dF 13) ["pattern", "may"] (jn K) := by
 have Gwidth : FnOk P w K mg base br 1 (aF 8) (dF 8) ["pattern"] (kG K) := ph D T
 have Gpool_of : FnOk P w K mg base br 2 (aF 14) (dF 14) ["block", "pattern", "may"] (kH K) := qR D T
 refine D.pools_of.fn.ok pB (fun vs H Q E h => ?_) (fun cdv A outer s H vs Q E hr h => ?_)
 ·obtain ⟨pa, ma, p, rs, may, U, rfl, _⟩ := h; rfl
 ·have hu := aU hr
  obtain ⟨pa, ma, p, rs, may, U, rfl, hp, hm, c, hl, q⟩ := h
  refine ⟨_, (ao (ay (be ["block", "pattern", "may"] [none, some 0, some 1] rfl (bq rfl T.z_range (ae (pc D.width Gwidth (hr.mono (by decide)) (ae (pv 0) af)) af)) (fun _ => az (i := 0) (bI (N := ["block", "pattern", "may"]) (by decide +kernel)) rfl (Or.inl rfl)) (fun _ => bR) (fun _ => (pc D.pool_of Gpool_of (hr.mono (by decide)) (ae (pv 0) (ae (pv 1) (ae (pv 2) af))))) ((.cons (fun _ e => by cases e) (.cons (fun _ e => by cases e; exact ⟨rfl, rfl⟩) (.cons (fun _ e => by cases e; exact ⟨rfl, rfl⟩) .nil))))))), ?_⟩
  have m6 := hm.m6
  have dl := cB p
  refine ⟨_, rfl, pa, p, rfl, hp, by omega, fun H1 s1 => ?_⟩
  refine ⟨_, rfl, jC _, by omega, ?_⟩
  rw [Du]
  refine ji (n := (dd p).length) (fun i => (iz may p i).map V.int) (by omega) (fun i hi H2 R s2 k => ?_) fun acc ls H2 s2 nacc hacc hrs hall hne => ?_
  ·have ei : (0 : Int) + (i : Int) = ((i : Nat) : Int) := by omega
   rw [ei]
   have s12 := s1.trans s2
   exact ⟨_, rfl, _, rfl, _, rfl, i, pa, ma, p, rs, may, U, rfl, s12.seq hp, hm.same s12, c, hi, hl, fun r H3 s3 nr hr => k r H3 s3 nr hr⟩
  ·refine q acc ls H2 (s1.trans s2) (s1.free nacc) hacc (RowsL.of (by rw [hrs, cK]) fun i r p' e1 e2 => ?_) fun r hr => ?_
   ·have hi : i < (dd p).length := by rw [<- hrs]; exact (CS.mp e1).1
    rw [iA hi] at e2
    cases e2
    exact (hall i r e1).1
   ·obtain ⟨i, hi, ei⟩ := Dd.mp hr
    exact s1.free (hall i r (by rw [CP hi, ei])).2
def dQ (K : PySem.W.Frag) (m : Nat) : Sp := fun vs H Q _ => ∃ (pa ma ta : Addr) (p : List Int) (rs : List Addr) (may : List (List Int)) (U : List Int) (ts : List (Addr × Addr × Str × Int × List Nat)), vs = [.ref pa, .ref ma, .ref ta] /\ H pa = some (.lst (p.map V.int)) /\ May K H ma rs may U /\ Ties K H ta ts 100 /\ (∀ x ∈ ts, TieG may.length x) /\ cH p /\ p.length <= may.length /\ may.length < p.length + m /\
 ∀ t H', Same H H' -> yC H H' t may (ts.map e8) p -> Q (.ref t) H'
def iL (K : PySem.W.Frag) : Sp := dQ K 7
theorem b4 : FnScope ["pattern", "may", "ties", "broken", "dealt", "papers", "longer", "told"] ["pattern", "may", "ties"] (au fG) := ⟨rfl, rfl, rfl, by decide +kernel, rfl, by decide +kernel, by decide +kernel⟩
theorem nM (D : Dfs K mg aF dF) (T : Txt mg) : FnOk P w K mg base br 37 (aF 16) (dF 16) ["pattern", "may", "ties"] (iL K) := by
 have Gdeal : FnOk P w K mg base br 29 (aF 4) (dF 4) ["pools"] (sg K) := ye D T
 have Ggrown : FnOk P w K mg base br 2 (aF 9) (dF 9) ["pattern"] (pj K) := wA D T
 have Gfirst_broken : FnOk P w K mg base br 3 (aF 11) (dF 11) ["pattern", "ties"] (ff K) := jF D T
 have Gpools_of : FnOk P w K mg base br 3 (aF 13) (dF 13) ["pattern", "may"] (jn K) := pD D T
 have all : ∀ n, FnOk P w K mg base br (30 + n) (aF 16) (dF 16) ["pattern", "may", "ties"] (dQ K n) := by
  intro n
  induction n with
  | zero =>
   have no : ∀ vs H Q E, ¬ dQ K 0 vs H Q E := fun vs H Q E h => by
    obtain ⟨pa, ma, ta, p, rs, may, U, ts, _, _, _, _, _, _, h1, h2, _⟩ := h
    omega
   exact ⟨fun vs H Q E h => absurd h (no vs H Q E), fun A outer s H args us vs Q E _ _ _ _ h => absurd h (no vs H Q E)⟩
  | succ n Gplan_from =>
   refine D.plan_from.fn.ok b4 (fun vs H Q E h => ?_) (fun cdv A outer s H vs Q E hr h => ?_)
   ·obtain ⟨pa, ma, ta, p, rs, may, U, ts, rfl, _⟩ := h; rfl
   obtain ⟨pa, ma, ta, p, rs, may, U, ts, rfl, hpa, hm, tt, tg, c, hl, hlm, q⟩ := h
   have rk : Nat.add 30 n = 30 + n := rfl
   refine ⟨_, (ah (aB (i := 3) b4.nd rfl (Or.inl rfl) (pc D.first_broken Gfirst_broken (hr.mono (by have := rk; omega)) (ae (pv 0) (ae (pv 2) af))))
   (ah (aK (aE wN (pv 3) mO (aG _))
    (ao (ay (aV (ae bf (ae (aV (ae bf (ae (pv 3) af))) af)))))
    aD)
   (ah (aB (i := 4) b4.nd rfl (Or.inr rfl) (pc D.deal Gdeal (hr.mono (by have := rk; omega)) (ae (pc D.pools_of Gpools_of (hr.mono (by have := rk; omega)) (ae (pv 0) (ae (pv 1) af))) af)))
   (ah (aK (aE de (aA (dB K) (pv 4) ak (fun _ _ => rfl)) bf (aG _))
    (ao (ay (aV (ae bf (ae (aV (ae bf (ae (aA (dB K) (pv 4) ak (fun _ _ => rfl)) af))) af)))))
    aD)
   (ah (aK (aE de (aq (bX K) (by rfl) T.z_len boot_len (ae (pv 0) af)) (aq (bX K) (by rfl) T.z_len boot_len (ae (pv 1) af)) (aG _))
    (ao (ay (aV (ae bf (ae (be ["block", "dealt"] [none, some 4] rfl (h8 K (pv 0)) (fun _ => az (i := 0) (bI (N := ["block", "dealt"]) (by decide +kernel)) rfl (Or.inl rfl)) (fun _ => bR) (fun _ => (aA (dS K) (aA (dB K) (pv 1) ak (fun _ _ => rfl)) (pv 0) (fun _ _ => rfl))) ((.cons (fun _ e => by cases e) (.cons (fun _ e => by cases e; exact ⟨rfl, rfl⟩) .nil)))) af)))))
    aD)
   (ah (aB (i := 5) b4.nd rfl (Or.inl rfl) (aM af))
   (ah (aP PassesOwn.never rfl (h8 K (pc D.grown Ggrown (hr.mono (by have := rk; omega)) (ae (pv 0) af))) (az (i := 6) b4.nd rfl (Or.inl rfl))
    (ah (aB (i := 7) b4.nd rfl (Or.inl rfl) (pc D.plan_from Gplan_from hr (ae (pv 6) (ae (pv 1) (ae (pv 2) af)))))
    (ah (aK (aE de (aA (dB K) (pv 7) ak (fun _ _ => rfl)) bf (aG _))
     (ao (ay (pv 7)))
     aD)
    (ao (bQ (dE PySem.F.plainAttrs_list PySem.F.slot_list_append PySem.F.type_list_append aX (pv 5) (ae (aA (dB K) (pv 7) ak (fun _ _ => rfl)) af)))))))
   (ao (ay (aV (ae bf (ae (aV (ae bf (ae (pv 5) af))) af)))))))))))), ?_⟩
   have m6 := hm.m6
   have dl := cB p
   refine ⟨_, rfl, _, rfl, pa, ta, p, ts, rfl, SqL.of hpa, tt, fun H1 s1 => ?_⟩
   refine ⟨_, rfl, rfl, _, rfl, ?_⟩
   rw [vH]
   cases hf : lz (fun i => p.getD i 0) p.length ts with
   | some j =>
    refine dW ⟨_, rfl, cz, fun t1 n1 => ⟨cz, fun t2 n2 => ?_⟩⟩
    obtain ⟨x, hx, hb⟩ := tU hf
    have n12 : t1 ≠ t2 := fun z => by rw [<- z, ag] at n2; cases n2
    refine q t2 _ ((s1.to n1).to n2) (.inr ⟨.ref t1, .tie j, ag, .tie (iB (s1.free n1) (by rw [ar n12]; exact ag)), .tie (t := e8 x) (by rw [CU, hx]; rfl) hb⟩)
   | none =>
    have nb := tV hf
    refine bE ?_
    have hm1 := hm.same s1
    refine ⟨_, rfl, _, rfl, pa, ma, p, rs, may, U, rfl, SqL.of (s1 _ _ hpa), hm1, c, hl, fun po ls H2 s2 npo hpo R2 fr2 => ⟨po, ls, pools may p, U, rfl, SqL.of hpo, R2.pools, by rw [cK]; omega, tW c hl hm.sub, hm.u20, fun t H3 s3 nwt td => ?_⟩⟩
    have s03 := (s1.trans s2).trans s3
    have hpa3 := s03 _ _ hpa
    have hm3 := hm.same s03
    rcases td with ⟨dlA, ds, ht, hdl, dl'⟩ | ⟨sl, qs, ht, hsl, sh⟩
    ·refine ⟨_, rfl, t, _, _, _, rfl, rfl, SqT.of ht, rfl, rfl, _, rfl, ?_⟩
     rw [decide_eq_false (by decide)]
     refine bE ?_
     refine ⟨_, rfl, _, _, rfl, .inl ⟨_, SqL.of hpa3, rfl⟩, _, rfl, _, _, rfl, .inl ⟨_, hm3.ls, rfl⟩, rfl, _, rfl, uW (fun e => ?_) fun ne => ?_⟩
     ·rw [CO, CO, hm.po.len] at e
      have e : p.length = may.length := by omega
      refine ⟨_, rfl, pa, rfl, ⟨_, SqL.of hpa3⟩, ?_⟩
      have dsl : ds.length = (dd p).length := by rw [dl'.len, cK]
      refine bx (xs := p.map V.int) (fun _ => true) (fun j => .int (ds.getD (p.getD j 0).toNat 0)) (SqL.of hpa3) (by rw [CO]; omega) (fun _ _ _ _ _ _ k => k _ (Same.refl _)) (fun j x hx _ H4 R s4 k => ?_) fun acc H4 s4 nacc hacc => ?_
      ·obtain ⟨d, hd, rfl, ed⟩ := eK hx
       obtain ⟨b, eb, hb⟩ := iY c (CW hd)
       rw [ed] at k
       subst eb
       rw [Du] at k
       exact ⟨_, rfl, t, _, _, _, rfl, rfl, SqT.of (s4 _ _ ht), rfl, _, rfl, dlA, _, _, _, rfl, rfl, SqL.of (s4 _ _ hdl), bA (by omega), k _ (Same.refl _)⟩
      rw [Dr.mpr (fun _ _ => rfl), CO] at hacc
      have e2 : (CY p.length).map (fun j => V.int (ds.getD (p.getD j 0).toNat 0)) = (p.map fun x => ds.getD x.toNat 0).map V.int := by
       rw [Dq]
       exact zE fun i x hx => by rw [CT (l := p), hx]; rfl
      rw [e2] at hacc
      refine ⟨cz, fun t2 n2 => ?_⟩
      refine q t2 _ ((s03.trans s4).to n2) (.inl ⟨acc, _, ag, Same.new n2 _ _ hacc, s03.free nacc, xE c e dl' (fun x hx => ?_) fun x hx => ?_⟩)
      ·obtain ⟨y, hy, ey⟩ := C9.mp hx
       rw [<- ey, e]
       exact (tg y hy).lt
      ·obtain ⟨y, hy, ey⟩ := C9.mp hx
       rw [<- ey]
       exact nb y hy
     ·rw [CO, CO, hm.po.len] at ne
      have lt : p.length < may.length := by omega
      refine ⟨cz, fun pl npl => ?_⟩
      have s34 := Same.new (o := .lst []) npl
      have hpl4 : aI H3 pl (.lst []) pl = some (.lst []) := ag
      generalize aI H3 pl (.lst []) = H4 at s34 hpl4
      have s04 := s03.trans s34
      have npl0 : H pl = none := s03.free npl
      refine ⟨_, rfl, pa, p, rfl, s04 _ _ hpa, by omega, fun gl gs H5 s45 ngl hgl hgs gall => ⟨gl, rfl, ⟨_, SqL.of hgl⟩, ?_⟩⟩
      have glp : gl ≠ pl := fun z => by rw [z, hpl4] at ngl; cases ngl
      have gsp : ∀ (i : Nat) r, gs[i]? = some r -> r ≠ pl := fun i r hr z => by have := (gall i r hr).2; rw [z, hpl4] at this; cases this
      refine aY (K := K) (a := gl) (xs := gs.map V.ref) (fun i σ Hx => ∃ (vs : List V) (ps : List Pap) (x y : Option V), σ = [some (.ref pa), some (.ref ma), some (.ref ta), some .non, some (.ref t), some (.ref pl), x, y] /\ SameBut pl H5 Hx /\ Hx pl = some (.lst vs) /\ vs.length = i /\ ps.length = i /\ ∀ (k : Nat) v q, vs[k]? = some v -> ps[k]? = some q -> PapAt (vI pl (nw H Hx)) v q /\ Shows may (ts.map e8) (p ++ [(k : Int)]) q)
       ⟨[], [], none, none, rfl, fun _ _ _ h => h, s45 _ _ hpl4, rfl, rfl, fun k v q h => by simp at h⟩ (fun i σ Hx _ hq__ => by obtain ⟨_, _, _, _, _, sb, _⟩ := hq__; exact SqL.of (sb _ _ glp hgl)) ?_ ?_
      ·rintro i y σ Hx hi ⟨vs, ps, x, y', rfl, sb, hpl, vl, psl, al⟩
       rw [CU] at hi
       obtain ⟨r, hr', rfl⟩ := CV.mp hi
       have il : i < (dd p).length + 1 := by rw [<- hgs]; exact (CS.mp hr').1
       have hrx := sb _ _ (gsp i r hr') (gall i r hr').1
       have s0x : Same H Hx := fun b o e => sb _ _ (fun z => by rw [z, npl0] at e; cases e) ((s04.trans s45) _ _ e)
       have cx := j6 c (j := i) (by omega)
       refine ⟨_, rfl, _, rfl, _, rfl, r, ma, ta, p ++ [(i : Int)], rs, may, U, ts, rfl, hrx, hm.same s0x, ⟨s0x.seq tt.ls, fun x hx => (tt.ea x hx).same s0x, tt.ln⟩, tg, cx, by simp; omega, by simp; omega, fun t2 H6 s6 td2 => ?_⟩
       have s06 := s0x.trans s6
       rcases td2 with ⟨l2, hs2, ht2, hl2, nl2, ip⟩ | ⟨v, qq, ht2, pq, sq⟩
       ·refine ⟨_, rfl, t2, _, _, _, rfl, rfl, SqT.of ht2, rfl, rfl, _, rfl, dW ?_⟩
        exact ⟨_, rfl, q t2 H6 s06 (.inl ⟨l2, hs2, ht2, hl2, s0x.free nl2, ip⟩)⟩
       ·refine ⟨_, rfl, t2, _, _, _, rfl, rfl, SqT.of ht2, rfl, rfl, _, rfl, ?_⟩
        rw [decide_eq_false (by decide)]
        refine bE ?_
        have hpl6 := s6 _ _ hpl
        refine ⟨_, rfl, .inl ⟨rfl, _, SqL.of hpl6⟩, _, rfl, t2, _, _, _, rfl, rfl, SqT.of ht2, rfl, pl, _, _, rfl, rfl, hpl6, jZ (by omega), ?_⟩
        refine ⟨vs ++ [v], ps ++ [qq], _, _, rfl, fun b o nb' e => ?_, ag, by simp [vl], by simp [psl], fun k v' q' e1 e2 => ?_⟩
        ·rw [ar nb']
         exact s6 _ _ (sb _ _ nb' e)
        ·by_cases z : k < i
         ·rw [ES (by omega)] at e1 e2
          obtain ⟨g1, g2⟩ := al k v' q' e1 e2
          refine ⟨g1.same fun b o e => ?_, g2⟩
          obtain ⟨zb, e⟩ := mv e
          obtain ⟨u1, u2⟩ := eL e
          exact rP zb (iB u1 (by rw [ar zb]; exact s6 _ _ u2))
         ·have zi : k = i := by
           have := (CS.mp e1).1
           rw [C3, Da] at this
           omega
          subst zi
          rw [Ep (by omega), vl, Fe] at e1
          rw [Ep (by omega), psl, Fe] at e2
          cases e1
          cases e2
          refine ⟨pq.same fun b o e => ?_, sq⟩
          obtain ⟨u1, u2⟩ := eL e
          have zb : b ≠ pl := fun z => by rw [z, hpl] at u1; cases u1
          exact rP zb (iB (s0x.free u1) (by rw [ar zb]; exact u2))
      ·rintro σ Hx ⟨vs, ps, x, y', rfl, sb, hpl, vl, psl, al⟩
       rw [CO, hgs] at vl psl
       have s0x : Same H Hx := fun b o e => sb _ _ (fun z => by rw [z, npl0] at e; cases e) ((s04.trans s45) _ _ e)
       refine ⟨_, rfl, cz, fun t1 n1 => ⟨cz, fun t2 n2 => ?_⟩⟩
       have n12 : t1 ≠ t2 := fun z => by rw [<- z, ag] at n2; cases n2
       have npl1 : pl ≠ t1 := ax hpl n1
       have sx2 := (Same.new (o := .tup [.str "split", .ref pl]) n1).to (o := .tup [.str "none", .ref t1]) n2
       refine q t2 _ (s0x.trans sx2) (.inr ⟨.ref t1, .split ps, ag, .split (iB (s0x.free n1) (by rw [ar n12]; exact ag)) (iB npl0 (sx2 _ _ hpl)) (by omega) fun k v' q' e1 e2 => ?_, .split lt psl fun j q' e => ?_⟩)
       ·refine (al k v' q' e1 e2).1.same fun b o e => ?_
        obtain ⟨zb, e⟩ := mv e
        obtain ⟨u1, u2⟩ := eL e
        exact iB u1 (sx2 _ _ u2)
       ·have hj : j < vs.length := by have := (CS.mp e).1; omega
        exact (al j _ q' (CP hj) e).2
    ·refine ⟨_, rfl, t, _, _, _, rfl, rfl, SqT.of ht, rfl, rfl, _, rfl, dW ?_⟩
     refine ⟨_, rfl, t, _, _, _, rfl, rfl, SqT.of ht, rfl, cz, fun t1 n1 => ⟨cz, fun t2 n2 => ?_⟩⟩
     have n12 : t1 ≠ t2 := fun z => by rw [<- z, ag] at n2; cases n2
     have nsl : H sl = none := (s1.trans s2).free (nwt.2 _ _ ht)
     have sx2 := (Same.new (o := .tup [.str "short", .ref sl]) n1).to (o := .tup [.str "none", .ref t1]) n2
     exact q t2 _ (s03.trans sx2) (.inr ⟨.ref t1, .short qs, ag, .short (iB (s03.free n1) (by rw [ar n12]; exact ag)) (iB nsl (sx2 _ _ hsl)), .short sh⟩)
 exact all 7
def si (K : PySem.W.Frag) : Sp := fun vs H Q _ => ∃ (ma ta : Addr) (rs : List Addr) (may : List (List Int)) (U : List Int) (ts : List (Addr × Addr × Str × Int × List Nat)), vs = [.ref ma, .ref ta] /\ May K H ma rs may U /\ Ties K H ta ts 100 /\ (∀ x ∈ ts, TieG may.length x) /\ ∀ t H', Same H H' -> yC H H' t may (ts.map e8) [] -> Q (.ref t) H'
theorem yf : FnScope ["may", "ties"] ["may", "ties"] (au qN) := ⟨rfl, rfl, rfl, by decide +kernel, rfl, by decide +kernel, by decide +kernel⟩
theorem yg (D : Dfs K mg aF dF) (T : Txt mg) : FnOk P w K mg base br 38 (aF 15) (dF 15) ["may", "ties"] (si K) := by
 have Gplan_from : FnOk P w K mg base br 37 (aF 16) (dF 16) ["pattern", "may", "ties"] (iL K) := nM D T
 refine D.plan.fn.ok yf (fun vs H Q E h => ?_) (fun cdv A outer s H vs Q E hr h => ?_)
 ·obtain ⟨ma, ta, rs, may, U, ts, rfl, _⟩ := h; rfl
 ·have hu := aU hr
  obtain ⟨ma, ta, rs, may, U, ts, rfl, hm, tt, tg, q⟩ := h
  refine ⟨_, (ao (ay (pc D.plan_from Gplan_from (hr.mono (by decide)) (ae (aM af) (ae (pv 0) (ae (pv 1) af)))))), ?_⟩
  have m6 := hm.m6
  refine ⟨cz, fun pa npa => ?_⟩
  have s1 := Same.new (o := .lst []) npa
  refine ⟨_, rfl, _, rfl, pa, ma, ta, [], rs, may, U, ts, rfl, ag, hm.same s1, ⟨s1.seq tt.ls, fun x hx => (tt.ea x hx).same s1, tt.ln⟩, tg, mh, Dk _, by simp; omega, fun t H' s td => ?_⟩
  refine q t H' (s1.trans s) ?_
  rcases td with ⟨l, hs, a1, a2, a3, a4⟩ | ⟨v, qq, a1, a2, a3⟩
  ·exact .inl ⟨l, hs, a1, a2, s1.free a3, a4⟩
  ·exact .inr ⟨v, qq, a1, a2.same (vG (fun a e => s1.free e) fun a o _ e => e), a3⟩
def iM (K : PySem.W.Frag) : Sp := fun vs H Q _ => ∃ (ma : Addr) (rs : List Addr) (may : List (List Int)) (U : List Int), vs = [.ref ma] /\ May K H ma rs may U /\ ∀ l W H', Same H H' -> H l = none -> H' l = some (.lst (W.map V.int)) -> AllOf may W -> Q (.ref l) H'
theorem cY : FnScope ["may", "found", "badges"] ["may"] (au fH) := ⟨rfl, rfl, rfl, by decide +kernel, rfl, by decide +kernel, by decide +kernel⟩
theorem nN (D : Dfs K mg aF dF) (T : Txt mg) : FnOk P w K mg base br 2 (aF 18) (dF 18) ["may"] (iM K) := by
 have Gjoined : FnOk P w K mg base br 1 (aF 1) (dF 1) ["one", "other"] (mG K) := uh D T
 refine D.badges_of.fn.ok cY (fun vs H Q E h => ?_) (fun cdv A outer s H vs Q E hr h => ?_)
 ·obtain ⟨ma, rs, may, U, rfl, _⟩ := h; rfl
 ·have hu := aU hr
  obtain ⟨ma, rs, may, U, rfl, hm, q⟩ := h
  refine ⟨_, (ah (aB (i := 1) cY.nd rfl (Or.inl rfl) (aM af))
   (ah (aP PassesOwn.never rfl (h8 K (pv 0)) (az (i := 2) cY.nd rfl (Or.inl rfl))
    (ao (aB (i := 1) cY.nd rfl (Or.inl rfl) (pc D.joined Gjoined (hr.mono (by decide)) (ae (pv 1) (ae (pv 2) af))))))
   (ao (ay (pv 1))))), ?_⟩
  refine ⟨cz, fun l0 n0 => ?_⟩
  refine ⟨_, rfl, ma, rfl, ⟨_, (Same.new n0).seq hm.ls⟩, ?_⟩
  have rl : rs.length = may.length := hm.po.len
  have u20 := hm.u20
  refine aY (K := K) (a := ma) (xs := rs.map V.ref) (fun i σ Hx => ∃ (l : Addr) (W : List Int) (x : Option V), σ = [some (.ref ma), some (.ref l), x] /\ Same H Hx /\ H l = none /\ Hx l = some (.lst (W.map V.int)) /\ AllOf (may.take i) W) ⟨l0, [], none, rfl, Same.new n0, n0, ag, ⟨.nil, fun x => by simp⟩⟩ (fun i σ Hx _ hq__ => by obtain ⟨_, _, _, _, s, _⟩ := hq__; exact s.seq hm.ls) ?_ ?_
  ·rintro i v σ Hx hi ⟨l, W, x, rfl, sx, nl, hl, av⟩
   rw [CU] at hi
   obtain ⟨r, hr', rfl⟩ := CV.mp hi
   have him : i < may.length := by rw [<- rl]; exact (CS.mp hr').1
   obtain ⟨r', e1, e2, e3, e4⟩ := hm.rows him
   rw [hr'] at e1
   cases e1
   refine ⟨_, rfl, _, rfl, l, r, W, may.getD i [], U, rfl, ⟨SqL.of hl, sx.seq e2, av.up, e3, fun x hx => ?_, e4, by omega⟩, fun l2 ks H2 td => ?_⟩
   ·obtain ⟨p, hp, hx⟩ := (av.mem x).mp hx
    exact hm.sub p (List.mem_of_mem_take hp) x hx
   ·obtain ⟨s2, n2, h2, u2, m2⟩ := td
    refine ⟨l2, ks, _, rfl, sx.trans s2, sx.free n2, h2, u2, fun x => ?_⟩
    rw [m2]
    unfold Bh
    rw [if_neg (by decide), if_pos rfl, av.mem, bN (iJ (d := []) him)]
    constructor
    ·rintro (⟨p, hp, hx⟩ | hx)
     ·exact ⟨p, Dh _ hp, hx⟩
     ·exact ⟨_, Dc _ (CZ.mpr rfl), hx⟩
    ·rintro ⟨p, hp, hx⟩
     rcases C7.mp hp with z | z
     ·exact .inl ⟨p, z, hx⟩
     ·rw [CZ.mp z] at hx; exact .inr hx
  ·rintro σ Hx ⟨l, W, x, rfl, sx, nl, hl, av⟩
   rw [CO, rl, Dy] at av
   exact ⟨_, rfl, q l W Hx sx nl hl av⟩
def fM (K : PySem.W.Frag) : Sp := fun vs H Q _ => ∃ (h g : Addr) (hs gs : List Int), vs = [.ref h, .ref g] /\ SqL K H h (hs.map V.int) /\ hs.length <= 100 /\ SqL K H g (gs.map V.int) /\ ∀ H', Same H H' -> Q (.bl (hs.all fun x => !decide (x ∈ gs))) H'
theorem kI : FnScope ["hands", "gone"] ["hands", "gone"] (au dN) := ⟨rfl, rfl, rfl, by decide +kernel, rfl, by decide +kernel, by decide +kernel⟩
theorem kJ (D : Dfs K mg aF dF) (T : Txt mg) : FnOk P w K mg base br 1 (aF 21) (dF 21) ["hands", "gone"] (fM K) := by
 refine D.has_none_of.fn.ok kI (fun vs H Q E h => ?_) (fun cdv A outer s H vs Q E hr h => ?_)
 ·obtain ⟨ha, g, hs, gs, rfl, _⟩ := h; rfl
 ·have hu := aU hr
  obtain ⟨ha, g, hs, gs, rfl, hh, h1, hg, q⟩ := h
  refine ⟨_, (ao (ay (aq (BN K) (by rfl) T.z_all boot_all (ae (be ["hand", "gone"] [none, some 1] rfl (h8 K (pv 0)) (fun _ => az (i := 0) (bI (N := ["hand", "gone"]) (by decide +kernel)) rfl (Or.inl rfl)) (fun _ => bR) (fun _ => (cU (sV K) (pv 0) (pv 1) (by with_unfolding_all rfl))) ((.cons (fun _ e => by cases e) (.cons (fun _ e => by cases e; exact ⟨rfl, rfl⟩) .nil)))) af)))), ?_⟩
  refine ⟨_, rfl, ha, rfl, ⟨_, hh⟩, ?_⟩
  refine bx (xs := hs.map V.int) (fun _ => true) (fun i => .bl (!decide (hs.getD i 0 ∈ gs))) hh (by rw [CO]; omega) (fun _ _ _ _ _ _ k => k _ (Same.refl _)) (fun j x hx _ H2 R s2 kk => ?_) fun nw H2 s2 nnw hnw => ?_
  ·obtain ⟨d, hd, rfl, ed⟩ := eK hx
   have z : R (.bl (!decide (hs.getD j 0 ∈ gs))) H2 := kk H2 (Same.refl _)
   rw [kP hd] at z
   refine ⟨_, rfl, _, rfl, g, _, rfl, .inl (s2.seq hg), rfl, dh _, ?_⟩
   rw [if_pos rfl, eF]
   exact z
  ·rw [CO, xJ hs (fun a => V.bl (!decide (a ∈ gs)))] at hnw
   refine ⟨nw, hs.map fun a => !decide (a ∈ gs), rfl, SqL.of (by rw [hnw, Dq]; rfl), ?_⟩
   rw [List.all_map]
   exact q H2 s2
def gu (K : PySem.W.Frag) : Sp := fun vs H Q _ => ∃ (p g : Addr) (as : List Addr) (Ps : List (List Int)) (gs : List Int), vs = [.ref p, .ref g] /\ H p = some (.lst (as.map V.ref)) /\ IntsL H as Ps /\ as.length <= 64 /\ (∀ hs ∈ Ps, hs.length <= 100) /\ SqL K H g (gs.map V.int) /\ ∀ H', Same H H' -> Q (.bl (Ps.any fun hs => hs.all fun x => !decide (x ∈ gs))) H'
theorem lE : FnScope ["plans", "gone"] ["plans", "gone"] (au eP) := ⟨rfl, rfl, rfl, by decide +kernel, rfl, by decide +kernel, by decide +kernel⟩
theorem lF (D : Dfs K mg aF dF) (T : Txt mg) : FnOk P w K mg base br 2 (aF 20) (dF 20) ["plans", "gone"] (gu K) := by
 have Ghas_none_of : FnOk P w K mg base br 1 (aF 21) (dF 21) ["hands", "gone"] (fM K) := kJ D T
 refine D.leaves_one.fn.ok lE (fun vs H Q E h => ?_) (fun cdv A outer s H vs Q E hr h => ?_)
 ·obtain ⟨p, g, as, Ps, gs, rfl, _⟩ := h; rfl
 ·have hu := aU hr
  obtain ⟨p, g, as, Ps, gs, rfl, hp, ip, a64, p1, hg, q⟩ := h
  refine ⟨_, (ao (ay (aq (BR K) (by rfl) T.z_any boot_any (ae (be ["hands", "gone"] [none, some 1] rfl (h8 K (pv 0)) (fun _ => az (i := 0) (bI (N := ["hands", "gone"]) (by decide +kernel)) rfl (Or.inl rfl)) (fun _ => bR) (fun _ => (pc D.has_none_of Ghas_none_of (hr.mono (by decide)) (ae (pv 0) (ae (pv 1) af)))) ((.cons (fun _ e => by cases e) (.cons (fun _ e => by cases e; exact ⟨rfl, rfl⟩) .nil)))) af)))), ?_⟩
  refine ⟨_, rfl, p, rfl, ⟨_, SqL.of hp⟩, ?_⟩
  refine bx (xs := as.map V.ref) (fun _ => true) (fun i => .bl ((Ps.getD i []).all fun x => !decide (x ∈ gs))) (SqL.of hp) (by rw [CO]; omega) (fun _ _ _ _ _ _ k => k _ (Same.refl _)) (fun j x hx _ H2 R s2 kk => ?_) fun nw H2 s2 nnw hnw => ?_
  ·rw [CU] at hx
   obtain ⟨r, hr', rfl⟩ := CV.mp hx
   obtain ⟨hs, hh, e⟩ := bh ip hr'
   have z : ∀ H3, Same H2 H3 -> R (.bl ((Ps.getD j []).all fun x => !decide (x ∈ gs))) H3 := kk
   rw [kP hh] at z
   exact ⟨_, rfl, _, rfl, r, g, hs, gs, rfl, SqL.of (s2 _ _ e), p1 hs (CW hh), s2.seq hg, z⟩
  ·have pl : as.length = Ps.length := Paired.length ip
   have e : ((CY (as.map V.ref).length).filter fun _ => true).map (fun i => V.bl ((Ps.getD i []).all fun x => !decide (x ∈ gs))) = (Ps.map fun hs => hs.all fun x => !decide (x ∈ gs)).map V.bl := by
    rw [CO, pl, Dr.mpr fun _ _ => rfl]
    conv => rhs; rw [<- gG Ps []]
    rw [Dq, Dq]
    rfl
   rw [e] at hnw
   refine ⟨nw, _, rfl, SqL.of hnw, ?_⟩
   rw [List.any_map]
   exact q H2 s2
def cT (K : PySem.W.Frag) : Sp := fun vs H Q _ => ∃ (ma ta ba : Addr) (rs : List Addr) (may : List (List Int)) (U : List Int) (ts : List (Addr × Addr × Str × Int × List Nat)), vs = [.ref ma, .ref ta, .ref ba] /\ May K H ma rs may U /\ 0 < may.length /\ Ties K H ta ts 100 /\ (∀ x ∈ ts, TieG may.length x) /\ SqL K H ba (U.map V.int) /\ AllOf may U /\ U.length <= 6 /\ ∀ t H' b pl pv g pp as Ps, Same H H' -> H t = none -> NTold H H' t may (ts.map e8) U b pl pv g pp as Ps -> Q (.ref t) H'
theorem bK : FnScope ["may", "ties", "badges", "plans", "gone", "told"] ["may", "ties", "badges"] (au cq) := ⟨rfl, rfl, rfl, by decide +kernel, rfl, by decide +kernel, by decide +kernel⟩
theorem gg (D : Dfs K mg aF dF) (T : Txt mg) : FnOk P w K mg base br 39 (aF 19) (dF 19) ["may", "ties", "badges"] (cT K) := by
 have Gwithout : FnOk P w K mg base br 1 (aF 2) (dF 2) ["one", "other"] (kE K) := qP D T
 have Gchoices : FnOk P w K mg base br 1 (aF 3) (dF 3) ["numbers"] (kF K) := qQ D T
 have Gplan : FnOk P w K mg base br 38 (aF 15) (dF 15) ["may", "ties"] (si K) := yg D T
 have Gleaves_one : FnOk P w K mg base br 2 (aF 20) (dF 20) ["plans", "gone"] (gu K) := lF D T
 refine D.fewest_that_stop.fn.ok bK (fun vs H Q E h => ?_) (fun cdv A outer s H vs Q E hr h => ?_)
 ·obtain ⟨ma, ta, ba, rs, may, U, ts, rfl, _⟩ := h; rfl
 ·have hu := aU hr
  obtain ⟨ma, ta, ba, rs, may, U, ts, rfl, hm, m0, tt, tg, hb, av, u6, q⟩ := h
  refine ⟨_, (ah (aB (i := 3) bK.nd rfl (Or.inl rfl) (aM af))
   (ao (aP PassesOwn.never rfl (h8 K (pc D.choices Gchoices (hr.mono (by decide)) (ae (pv 2) af))) (az (i := 4) bK.nd rfl (Or.inr rfl))
    (ao (aK (bH (bG (pc D.leaves_one Gleaves_one (hr.mono (by decide)) (ae (pv 3) (ae (pv 4) af)))))
     (ah (aB (i := 5) bK.nd rfl (Or.inl rfl) (pc D.plan Gplan (hr.mono (by decide)) (ae (be ["there", "gone"] [none, some 4] rfl (h8 K (pv 0)) (fun _ => az (i := 0) (bI (N := ["there", "gone"]) (by decide +kernel)) rfl (Or.inl rfl)) (fun _ => bR) (fun _ => (pc D.without Gwithout (hr.mono (by decide)) (ae (pv 0) (ae (pv 1) af)))) ((.cons (fun _ e => by cases e) (.cons (fun _ e => by cases e; exact ⟨rfl, rfl⟩) .nil)))) (ae (pv 1) af))))
     (ah (aK (aE de (aA (dB K) (pv 5) ak (fun _ _ => rfl)) bf (aG _))
      (ao (ay (aV (ae bf (ae (pv 4) (ae (aA (dB K) (pv 5) ak (fun _ _ => rfl)) (ae (pv 3) af)))))))
      aD)
     (ao (bQ (dE PySem.F.plainAttrs_list PySem.F.slot_list_append PySem.F.type_list_append aX (pv 3) (ae (aA (dB K) (pv 5) ak (fun _ _ => rfl)) af))))))
     aD))))), ?_⟩
  have rl : rs.length = may.length := hm.po.len
  have m6 := hm.m6
  refine ⟨cz, fun pl npl => ?_⟩
  have s1 := Same.new (o := .lst []) npl
  have hpl : aI H pl (.lst []) pl = some (.lst []) := ag
  generalize aI H pl (.lst []) = H1 at s1 hpl
  refine ⟨_, rfl, ba, U, rfl, s1.seq hb, av.up, u6, fun cl cs H2 s2 ncl hcl ic fc => ?_⟩
  have s02 := s1.trans s2
  have cll : cs.length <= 64 := by rw [Paired.length ic, x9 u6]; exact A4 u6
  have ncp : cl ≠ pl := fun z => by rw [z, hpl] at ncl; cases ncl
  have ncs : ∀ b ∈ cs, b ≠ pl := fun b hb z => by have := fc b hb; rw [z, hpl] at this; cases this
  have hpl2 := s2 _ _ hpl
  refine ⟨cl, rfl, ⟨_, SqL.of hcl⟩, ?_⟩
  refine aY (K := K) (a := cl) (xs := cs.map V.ref) (fun j σ Hx => ∃ (x y : Option V) (as : List Addr) (Ps : List (List Int)), σ = [some (.ref ma), some (.ref ta), some (.ref ba), some (.ref pl), x, y] /\ SameBut pl H2 Hx /\ Hx pl = some (.lst (as.map V.ref)) /\ IntsL Hx as Ps /\ (∀ a ∈ as, H2 a = none) /\ as.Nodup /\ as.length <= j /\ (∀ hs ∈ Ps, IsPlan may (ts.map e8) hs) /\ (∀ s ∈ (ki U).take j, ∃ hs ∈ Ps, ∀ x ∈ hs, x ∉ s) /\ (j = 0 -> Ps = [])) ⟨none, none, [], [], rfl, fun _ _ _ e => e, hpl2, .nil, (fun _ z => by cases z), .nil, Dk _, (fun _ z => by cases z), (fun _ z => by cases z), fun _ => rfl⟩ (fun j σ Hx _ hq__ => by obtain ⟨_, _, _, _, _, h, _⟩ := hq__; exact SqL.of (h _ _ ncp hcl)) ?_ ?_
  ·rintro j v σ Hx hj ⟨x, y, as, Ps, rfl, sb, hplx, ip, na, nd, aj, pn, fw, p0⟩
   have sx : Same H Hx := fun b o e => sb b o (fun z => by rw [z, npl] at e; cases e) (s02 b o e)
   have icx := ic.but ncs sb
   rw [CU] at hj
   obtain ⟨g, hg, rfl⟩ := CV.mp hj
   have hjl := (CS.mp hg).1
   obtain ⟨gs, hgs, eg⟩ := bh icx hg
   have gm := CW hgs
   have hs100 : ∀ hs ∈ Ps, hs.length <= 100 := fun hs hm' => by have := (pn hs hm').len; omega
   have a64 : as.length <= 64 := by omega
   refine ⟨_, rfl, _, rfl, pl, g, as, Ps, gs, rfl, hplx, ip, a64, hs100, SqL.of eg, fun H3 s3 => ?_⟩
   have sx3 := sx.trans s3
   have hpl3 := s3 _ _ hplx
   have ip3 := ip.same s3
   have eg3 := s3 _ _ eg
   refine ⟨_, rfl, ?_⟩
   cases hle : (Ps.any fun hs => hs.all fun x => !decide (x ∈ gs)) with
   | true =>
    refine bE ⟨_, _, as, Ps, rfl, fun b o hb e => s3 _ _ (sb b o hb e), hpl3, ip3, na, nd, by omega, pn, fun s hs => ?_, fun z => by cases z⟩
    rw [bN hgs] at hs
    rcases C7.mp hs with z | z
    ·exact fw s z
    ·rw [CZ.mp z]; exact (B0 Ps gs).mp hle
   | false =>
    refine dW ?_
    refine ⟨_, rfl, ma, rfl, ⟨_, sx3.seq hm.ls⟩, ?_⟩
    refine mf (xs := rs.map V.ref) (fun acc ys Hy => ∃ bs : List Addr, ys = bs.map V.ref /\ IntsL Hy bs ((qH may gs).take ys.length) /\ (∀ b ∈ bs, b ≠ acc)) (sx3.seq hm.ls) (by rw [CO]; omega)
     (fun acc ys H H' ⟨bs, e, ib, ne⟩ sb => ⟨bs, e, ib.but ne sb, ne⟩) (fun _ _ => ⟨[], rfl, .nil, fun _ z => by cases z⟩) (fun acc i x ys H4 R hx s4 nacc hacc yl ⟨bs, e, ib, ne⟩ k => ?_) fun acc ys H4 s4 nacc hacc yl ⟨bs, e, ib, ne⟩ => ?_
    ·rw [CU] at hx
     obtain ⟨r, hr', rfl⟩ := CV.mp hx
     have him : i < may.length := by rw [<- rl]; exact (CS.mp hr').1
     obtain ⟨r', e1, e2, e3, e4⟩ := hm.rows him
     rw [hr'] at e1
     cases e1
     have s04 := sx3.trans s4
     refine ⟨_, rfl, _, rfl, r, g, may.getD i [], gs, U, rfl, ⟨s04.seq e2, SqL.of (s4 _ _ eg3), e3, yI av.up u6 gm, fun x hx => av.sub _ (by rw [fW him]; exact Do him) x hx, qJ u6 gm, by omega⟩, fun l ks H5 td => ?_⟩
     obtain ⟨s5, n5, h5, u5, m5⟩ := td
     rw [wq e3 u5 m5] at h5
     rw [yl] at ib
     refine k (.ref l) H5 s5 ⟨bs ++ [l], by rw [e, Df]; rfl, ?_, fun b hb => ?_⟩
     ·have hw : (qH may gs)[i]? = some (yb (may.getD i []) gs) := by
       have := iJ (l := qH may gs) (i := i) (d := []) (by rw [gc]; exact him)
       rw [nI] at this
       exact this
      rw [C3, Da, yl, bN hw]
      exact a9 (ib.same s5) h5
     ·rcases C7.mp hb with z | z
      ·exact ne b z
      ·rw [CZ.mp z]
       intro y
       rw [y, hacc] at n5
       cases n5
    ·subst e
     rw [yl, CO, rl, <- gc (may := may) (g := gs), Dy] at ib
     have s04 := sx3.trans s4
     refine ⟨_, rfl, acc, ta, bs, qH may gs, U, ts, rfl, ⟨SqL.of hacc, RowsL.pools ib, zW hm.up, yc av.sub, by rw [gc]; exact m6, by omega⟩, ⟨s04.seq tt.ls, fun x hx => (tt.ea x hx).same s04, tt.ln⟩, (fun x hx => by rw [gc]; exact tg x hx), fun t H5 s5 td => ?_⟩
     have s05 := s04.trans s5
     have s35 := s4.trans s5
     have sx5 := s3.trans s35
     have hpl5 := s35 _ _ hpl3
     rcases td with ⟨l, hs, ht, hl, nl, ipn⟩ | ⟨v, pp, ht, hpa, hsh⟩
     ·obtain ⟨ip1, dj⟩ := sd.mp ipn
      refine ⟨_, rfl, t, _, _, _, rfl, rfl, SqT.of ht, rfl, rfl, _, rfl, ?_⟩
      rw [decide_eq_false (by decide)]
      refine bE ?_
      refine ⟨_, rfl, .inl ⟨rfl, _, SqL.of hpl5⟩, _, rfl, t, _, _, _, rfl, rfl, SqT.of ht, rfl, pl, _, _, rfl, rfl, hpl5, jZ (by rw [CO]; omega), ?_⟩
      have nlp : l ≠ pl := fun z => by rw [z, s4 _ _ hpl3] at nl; cases nl
      have nl2 : H2 l = none := by
       cases e : H2 l with
       | none => rfl
       | some o => rw [s4 _ _ (s3 _ _ (sb l o nlp e))] at nl; cases nl
      have nap : ∀ a ∈ as ++ [l], a ≠ pl := fun a ha z => by
       rcases C7.mp ha with y | y
       ·have := na a y
        rw [z, hpl2] at this
        cases this
       ·rw [CZ.mp y] at z
        exact nlp z
      refine ⟨_, _, as ++ [l], Ps ++ [hs], rfl, fun b o hb e => by rw [ar hb]; exact sx5 _ _ (sb b o hb e), by rw [ag, Df]; rfl, IntsL.but (acc := pl) (a9 (ip3.same s35) hl) nap (fun b o hb e => by rw [ar hb]; exact e), fun a ha => ?_, ?_, by rw [C3, Da]; omega, fun z hz => ?_, fun s hs' => ?_, fun z => by cases z⟩
      ·rcases C7.mp ha with y | y
       ·exact na a y
       ·rw [CZ.mp y]; exact nl2
      ·rw [Fl]
       refine ⟨nd, DN _ _, fun a ha b hb z => ?_⟩
       rw [CZ.mp hb] at z
       obtain ⟨i, hi⟩ := EG.mp ha
       obtain ⟨_, _, e'⟩ := bh ip3 hi
       rw [z] at e'
       rw [s4 _ _ e'] at nl
       cases nl
      ·rcases C7.mp hz with y | y
       ·exact pn z y
       ·rw [CZ.mp y]; exact ip1
      ·rw [bN hgs] at hs'
       rcases C7.mp hs' with y | y
       ·obtain ⟨z, hz, dz⟩ := fw s y
        exact ⟨z, Dh _ hz, dz⟩
       ·rw [CZ.mp y]; exact ⟨hs, Dc _ (CZ.mpr rfl), dj⟩
     ·refine ⟨_, rfl, t, _, _, _, rfl, rfl, SqT.of ht, rfl, rfl, _, rfl, dW ?_⟩
      refine ⟨_, rfl, _, rfl, t, _, _, _, rfl, rfl, SqT.of ht, rfl, _, rfl, cz, fun t2 nt2 => ?_⟩
      have sf := Same.new (o := .tup [.str "stops", .ref g, v, .ref pl]) nt2
      have ng2 : ∀ a ∈ as, a ≠ g := fun a ha z => by
       have := na a ha
       obtain ⟨_, _, e'⟩ := bh ic hg
       rw [z, e'] at this
       cases this
      refine q t2 _ g pl v gs pp as Ps (s05.trans sf) (s05.free nt2) ⟨ag, sf _ _ (s35 _ _ eg3), s1.free (fc g (CW hg)), sf _ _ hpl5, npl, ip3.same (s35.trans sf), fun a ha => ⟨s02.free (na a ha), ng2 a ha, fun z => by have := na a ha; rw [z, hpl2] at this; cases this⟩, nd, gm, PapAt.same hpa (vG (fun a h => s04.free h) fun a o h e => sf _ _ e), hsh, pn, fun s hs r => fw s (o9 av.up u6 hgs hs r), fun z => p0 (wu av.up u6 (by rw [z] at hgs; exact hgs)), a64⟩
  ·rintro σ Hx ⟨x, y, as, Ps, rfl, sb, hplx, ip, na, nd, aj, pn, fw, p0⟩
   exfalso
   have e : (ki U).take (cs.map V.ref).length = ki U := by rw [CO, Paired.length ic, Dy]
   rw [e] at fw
   have mU : U ∈ ki U := by
    have := mE u6 (fun _ => true)
    rw [Dr.mpr fun _ _ => rfl] at this
    exact this
   obtain ⟨hs, hm', hd⟩ := fw U mU
   have hl := (pn hs hm').len
   obtain ⟨x0, hx0⟩ := List.exists_mem_of_length_pos (show 0 < hs.length by omega)
   exact hd x0 hx0 (o8 (pn hs hm') av x0 hx0)
def mK (K : PySem.W.Frag) : Sp := fun vs H Q E => ∃ (ma ta : Addr) (rs : List Addr) (may : List (List Int)) (U0 U : List Int) (ts : List (Addr × Addr × Str × Int × List Nat)), vs = [.ref ma, .ref ta] /\ May K H ma rs may U0 /\ 0 < may.length /\ Ties K H ta ts 100 /\ (∀ x ∈ ts, TieG may.length x) /\ AllOf may U /\ (U.length <= 6 -> ∀ t H' b pl pv g pp as Ps, Same H H' -> H t = none -> NTold H H' t may (ts.map e8) U b pl pv g pp as Ps -> Q (.ref t) H') /\ (6 < U.length -> ∀ C H', Same H H' -> PySem.W.nsIn K mainGlobals "TooMany" = some (some (.ref C)) -> E (.ref C) none H')
theorem mL : FnScope ["may", "ties", "badges"] ["may", "ties"] (au kD) := ⟨rfl, rfl, rfl, by decide +kernel, rfl, by decide +kernel, by decide +kernel⟩
theorem uo (D : Dfs K mg aF dF) (T : Txt mg) : FnOk P w K mg base (qz P w) 40 (aF 17) (dF 17) ["may", "ties"] (mK K) := by
 have Gbadges_of : FnOk P w K mg base br 2 (aF 18) (dF 18) ["may"] (iM K) := nN D T
 have Gfewest_that_stop : FnOk P w K mg base br 39 (aF 19) (dF 19) ["may", "ties", "badges"] (cT K) := gg D T
 refine D.needed.fn.okR mL (fun vs H Q E h => ?_) (fun cdv A outer s H vs Q E hr h => ?_)
 ·obtain ⟨ma, ta, rs, may, U0, U, ts, rfl, _⟩ := h; rfl
 ·have hu := aU hr
  obtain ⟨ma, ta, rs, may, U0, U, ts, rfl, hm, m0, tt, tg, av, q1, q2⟩ := h
  refine ⟨_, (ah (aB (i := 2) mL.nd rfl (Or.inl rfl) (pc D.badges_of Gbadges_of (hr.mono (by decide)) (ae (pv 0) af)))
   (ah (aK (aE uD (aq (bX K) (by rfl) T.z_len boot_len (ae (pv 2) af)) ak (aG _))
    (ao (vQ ⟨D.g_TooMany, D.e_TooMany⟩ (ae bf af)))
    aD)
   (ao (ay (pc D.fewest_that_stop Gfewest_that_stop (hr.mono (by decide)) (ae (pv 0) (ae (pv 1) (ae (pv 2) af)))))))), ?_⟩
  refine ⟨_, rfl, ma, rs, may, U0, rfl, hm, fun l W H1 s1 nl hl aw => ?_⟩
  have e := AllOf.one aw av
  subst e
  refine ⟨_, rfl, _, _, rfl, .inl ⟨_, SqL.of hl, rfl⟩, _, _, rfl, rfl, _, rfl, xj (fun h => ?_) fun h => ?_⟩
  ·rw [CO] at h
   exact ⟨by decide, q2 (by omega) _ H1 s1 D.n_TooMany⟩
  ·rw [CO] at h
   have hm1 := hm.same s1
   refine ⟨_, rfl, _, rfl, _, rfl, ma, ta, l, rs, may, W, ts, rfl, ⟨hm1.ls, hm1.po, hm1.up, aw.sub, hm1.m6, by omega⟩, m0, ⟨s1.seq tt.ls, fun x hx => (tt.ea x hx).same s1, tt.ln⟩, tg, SqL.of hl, aw, by omega, fun t H' b pl pv g pp as Ps s2 nt td => ?_⟩
   exact q1 (by omega) t H' b pl pv g pp as Ps (s1.trans s2) (s1.free nt) ⟨td.ht, td.hb, s1.free td.nb, td.hp, s1.free td.np, td.ip, fun a ha => ⟨s1.free (td.na a ha).1, (td.na a ha).2⟩, td.nd, td.mem, PapAt.same td.pa (vG (fun a h => s1.free h) fun a o h e => e), td.sh, td.pn, td.fw, td.em, td.l64⟩
def jo (K : PySem.W.Frag) : Sp := fun vs H Q _ => ∃ (a : Addr) (ns : List Int) (k : Nat), vs = [.ref a, .int ((k : Nat) : Int)] /\ SqL K H a (ns.map V.int) /\ Q (.int (ns.getD k 0)) H
theorem pE : FnScope ["script", "k"] ["script", "k"] (au gJ) := ⟨rfl, rfl, rfl, by decide +kernel, rfl, by decide +kernel, by decide +kernel⟩
theorem pF (D : Dfs K mg aF dF) (T : Txt mg) : FnOk P w K mg base br 1 (aF 22) (dF 22) ["script", "k"] (jo K) := by
 refine D.law_cell.fn.ok pE (fun vs H Q E h => ?_) (fun cdv A outer s H vs Q E hr h => ?_)
 ·obtain ⟨a, ns, k, rfl, _⟩ := h; rfl
 ·have hu := aU hr
  obtain ⟨a, ns, k, rfl, hS, q⟩ := h
  refine ⟨_, (ah (aK (aE jf (pv 1) (aq (bX K) (by rfl) T.z_len boot_len (ae (pv 0) af)) (aG _))
    (ao (ay (aA (dS K) (pv 0) (pv 1) (fun _ _ => rfl))))
    aD)
   (ao (ay ak))), ?_⟩
  refine ⟨_, rfl, _, rfl, _, _, rfl, .inl ⟨_, hS, rfl⟩, _, _, rfl, rfl, _, rfl, xj (fun h => ?_) fun h => ?_⟩
  ·rw [CO] at h
   exact ⟨_, rfl, _, rfl, a, _, _, _, rfl, rfl, hS, bA (by omega), q⟩
  ·rw [CO] at h
   have e : ns.getD k 0 = 0 := by rw [CT, Dz (by omega)]; rfl
   rw [e] at q
   exact q
def fN (K : PySem.W.Frag) : Sp := fun vs H Q _ => ∃ (a : Addr) (ns : List Int) (sz : Nat), vs = [.ref a, .int ((sz : Nat) : Int)] /\ SqL K H a (ns.map V.int) /\ ns.length <= 200 /\ 0 < sz /\ sz <= 1000 /\ ∀ l (cs : List Int) H', Same H H' -> H l = none -> H' l = some (.lst (cs.map V.int)) -> cs.length = sz -> Q (.ref l) H'
theorem yh (c : Int) : 0 <= c % 2147483647 /\ c % 2147483647 < 2147483647 := ⟨Et c (by decide), Eo c (by decide)⟩
theorem a7 : FnScope ["script", "size", "mixed", "cell", "found", "k"] ["script", "size"] (au dO) := ⟨rfl, rfl, rfl, by decide +kernel, rfl, by decide +kernel, by decide +kernel⟩
theorem kK (D : Dfs K mg aF dF) (T : Txt mg) : FnOk P w K mg base br 1 (aF 23) (dF 23) ["script", "size"] (fN K) := by
 refine D.law_entries.fn.ok a7 (fun vs H Q E h => ?_) (fun cdv A outer s H vs Q E hr h => ?_)
 ·obtain ⟨a, ns, sz, rfl, _⟩ := h; rfl
 ·have hu := aU hr
  obtain ⟨a, ns, sz, rfl, hS, hl, sz0, sz1, q⟩ := h
  refine ⟨_, (ah (aB (i := 2) a7.nd rfl (Or.inl rfl) ak)
   (ah (aP PassesOwn.never rfl (h8 K (gZ (Be K) (pv 0) mV (gY ak))) (az (i := 3) a7.nd rfl (Or.inl rfl))
    (ao (aB (i := 2) a7.nd rfl (Or.inl rfl) (aC bW (aC aZ (aC gy (pv 2) ak) (pv 3)) ak))))
   (ah (aB (i := 4) a7.nd rfl (Or.inl rfl) (aM af))
   (ah (aP PassesOwn.never rfl (bq rfl T.z_range (ae (pv 1) af)) (az (i := 5) a7.nd rfl (Or.inl rfl))
    (ah (aB (i := 2) a7.nd rfl (Or.inl rfl) (aC bW (aC aZ (aC aZ (aC aZ (aC gy (pv 2) (pv 2)) (aC gy ak (pv 2))) (pv 5)) ak) ak))
    (ao (bQ (dE PySem.F.plainAttrs_list PySem.F.slot_list_append PySem.F.type_list_append aX (pv 4) (ae (pv 2) af))))))
   (ah (aP PassesOwn.never rfl (sD rfl T.z_range (ae ak (ae (aq (bX K) (by rfl) T.z_len boot_len (ae (pv 0) af)) af))) (az (i := 5) a7.nd rfl (Or.inl rfl))
    (ao (mQ (aA (dS K) (pv 0) (pv 5) (fun _ _ => rfl)) (uA (pv 4) (aC bW (aC mS (pv 5) ak) (pv 1)) oj))))
   (ao (ay (pv 4)))))))), ?_⟩
  refine ⟨_, rfl, _, rfl, a, _, rfl, hS, fun c nc => ?_⟩
  have ecut : g7 (ns.map V.int) none (some 4) = (ns.take 4).map V.int := by rw [List.map_take]; exact zo _ 4
  rw [ecut]
  have s1 := Same.new (o := .lst ((ns.take 4).map V.int)) nc
  have hc1 : aI H c (.lst ((ns.take 4).map V.int)) c = some (.lst ((ns.take 4).map V.int)) := ag
  generalize aI H c (.lst ((ns.take 4).map V.int)) = H1 at s1 hc1
  refine ⟨c, rfl, ⟨_, SqL.of hc1⟩, ?_⟩
  refine aY (K := K) (a := c) (xs := (ns.take 4).map V.int) (fun i σ Hx => ∃ (m : Int) (y : Option V), σ = [some (.ref a), some (.int sz), some (.int m), y, none, none] /\ Same H1 Hx /\ 0 <= m /\ m < 2147483647) ⟨1, none, rfl, Same.refl _, by decide, by decide⟩ (fun i σ Hx _ hq__ => by obtain ⟨_, _, _, s, _⟩ := hq__; exact s.seq (SqL.of hc1)) ?_ ?_
  ·rintro i y σ Hx hi ⟨m, y', rfl, sx, m0, m1⟩
   obtain ⟨d, hd, rfl, ed⟩ := eK hi
   exact ⟨_, rfl, _, _, rfl, rfl, .inl ⟨by omega, by omega⟩, _, rfl, _, _, rfl, rfl, _, _, rfl, rfl, (show (0 : Int) < 2147483647 by decide), _, _, rfl, sx, (yh _).1, (yh _).2⟩
  rintro σ H2 ⟨m, y', rfl, s12, m0, m1⟩
  refine ⟨cz, fun l nl => ?_⟩
  refine ⟨_, rfl, _, rfl, jC _, by omega, ?_⟩
  have e0 : ((sz : Int)).toNat = sz := by omega
  rw [e0]
  have s02 := s1.trans s12
  have nl0 := s02.free nl
  refine b3 (n := sz) (fun i σ Hx => ∃ (m : Int) (x : Option V) (cs : List Int), σ = [some (.ref a), some (.int sz), some (.int m), y', some (.ref l), x] /\ Same H Hx /\ Hx l = some (.lst (cs.map V.int)) /\ cs.length = i /\ 0 <= m /\ m < 2147483647) ⟨m, none, [], rfl, s02.to nl, ag, rfl, m0, m1⟩ ?_ ?_
  ·rintro i σ Hx hi ⟨m, x, cs, rfl, sx, hlx, lc, m0, m1⟩
   refine ⟨_, rfl, _, rfl, _, _, rfl, rfl, .inl ⟨by omega, by omega⟩, _, rfl, _, _, rfl, rfl, .inl ⟨by decide, by decide⟩, _, _, rfl, rfl, _, rfl, _, _, rfl, rfl, _, _, rfl, rfl, _, _, rfl, rfl, (show (0 : Int) < 2147483647 by decide), ?_⟩
   refine ⟨_, rfl, .inl ⟨rfl, _, SqL.of hlx⟩, _, rfl, l, _, _, rfl, rfl, hlx, jZ (by rw [CO]; omega), ?_⟩
   exact ⟨_, _, cs ++ [_], rfl, sx.put nl0, by rw [ag, Df]; rfl, by rw [C3, Da, lc], (yh _).1, (yh _).2⟩
  rintro σ H3 ⟨m, x, cs, rfl, s3, hl3, lc, _, _⟩
  refine ⟨_, rfl, _, _, rfl, .inl ⟨_, s3.seq hS, rfl⟩, _, _, rfl, ⟨by decide, by decide, by omega, by rw [CO]; omega⟩, ?_⟩
  rw [CO]
  refine b3 (n := ((ns.length : Int) - 4).toNat) (fun i σ Hx => ∃ (x : Option V) (cs : List Int), σ = [some (.ref a), some (.int sz), some (.int m), y', some (.ref l), x] /\ Same H Hx /\ Hx l = some (.lst (cs.map V.int)) /\ cs.length = sz) ⟨_, cs, rfl, s3, hl3, lc⟩ ?_ ?_
  ·rintro i σ Hx hi ⟨x, cs, rfl, sx, hlx, lc⟩
   have e1 : (4 : Int) + (i : Int) = ((4 + i : Nat) : Int) := by omega
   obtain ⟨n, hn, en⟩ := xG ((4 : Int) + (i : Int) - 4) sz0
   have hi4 : 4 + i < ns.length := by omega
   refine ⟨_, rfl, _, rfl, a, _, _, _, rfl, rfl, sx.seq hS, (by rw [e1]; exact bA hi4), _, rfl, _, rfl, _, _, rfl, rfl, _, rfl, _, _, rfl, rfl, (show (0 : Int) < (sz : Int) by omega), l, _, _, n, rfl, rfl, hlx, (by rw [en]; exact vK (by rw [CO]; omega)), ?_⟩
   exact ⟨_, cs.set n _, rfl, sx.put nl0, by rw [ag, List.map_set], by rw [Fu, lc]⟩
  rintro σ H4 ⟨x, cs, rfl, s4, hl4, lc⟩
  exact ⟨_, rfl, q l cs H4 s4 nl0 hl4 lc⟩
def cG (K : PySem.W.Frag) : Sp := fun vs H Q _ => ∃ (i : Int), vs = [.int i] /\ Q (.bl true) H
theorem nO : FnScope ["found"] ["found"] (au fI) := ⟨rfl, rfl, rfl, by decide +kernel, rfl, by decide +kernel, by decide +kernel⟩
theorem cZ (D : Dfs K mg aF dF) (T : Txt mg) : FnOk P w K mg base br 1 (aF 24) (dF 24) ["found"] (cG K) := by
 refine D.law_whole.fn.ok nO (fun vs H Q E h => ?_) (fun cdv A outer s H vs Q E hr h => ?_)
 ·obtain ⟨i, rfl, _⟩ := h; rfl
 ·have hu := aU hr
  obtain ⟨i, rfl, q⟩ := h
  refine ⟨_, (ao (ay (yP (aq (m7 K) (by rfl) T.z_isinstance boot_isinstance (ae (pv 0) (ae (zg T.z_int) af))) (yO (yQ (aq (m7 K) (by rfl) T.z_isinstance boot_isinstance (ae (pv 0) (ae (xf T.z_bool) af)))))))), ?_⟩
  exact ⟨_, rfl, _, _, _, true, rfl, .int _, rfl, _, rfl, dW ⟨_, rfl, _, _, _, false, rfl, .int _, rfl, _, rfl, q⟩⟩
def gv (K : PySem.W.Frag) : Sp := fun vs H Q _ => ∃ (a : Addr) (cs : List Int) (gap hi : Int), vs = [.ref a, .int gap, .int hi] /\ SqL K H a (cs.map V.int) /\ cs.length <= 20 /\ 0 < gap /\ gap <= 50000000000000000 /\ ∀ l (bs : List Int) H', Same H H' -> H l = none -> H' l = some (.lst (bs.map V.int)) -> bs.length = cs.length -> bs.Pairwise (· < ·) -> (∀ b ∈ bs, 1 <= b /\ b <= 10 ^ 18) -> Q (.ref l) H'
theorem cj : FnScope ["cells", "gap", "high", "found", "badge", "cell"] ["cells", "gap", "high"] (au eQ) := ⟨rfl, rfl, rfl, by decide +kernel, rfl, by decide +kernel, by decide +kernel⟩
theorem lG (D : Dfs K mg aF dF) (T : Txt mg) : FnOk P w K mg base br 1 (aF 25) (dF 25) ["cells", "gap", "high"] (gv K) := by
 refine D.law_badges.fn.ok cj (fun vs H Q E h => ?_) (fun cdv A outer s H vs Q E hr h => ?_)
 ·obtain ⟨a, cs, gap, hi, rfl, _⟩ := h; rfl
 ·have hu := aU hr
  obtain ⟨a, cs, gap, hi, rfl, hS, hl, g0, g1, q⟩ := h
  refine ⟨_, (ah (aB (i := 3) cj.nd rfl (Or.inl rfl) (aM af))
   (ah (aB (i := 4) cj.nd rfl (Or.inl rfl) ak)
   (ah (aP PassesOwn.never rfl (h8 K (pv 0)) (az (i := 5) cj.nd rfl (Or.inl rfl))
    (ah (aB (i := 4) cj.nd rfl (Or.inl rfl) (aC aZ (aC aZ (pv 4) ak) (aC bW (pv 5) (pv 1))))
    (ao (bQ (dE PySem.F.plainAttrs_list PySem.F.slot_list_append PySem.F.type_list_append aX (pv 3) (ae (pv 4) af))))))
   (ah (aK (aE de (pv 2) ak (aG _))
    (ao (ay (be ["one"] [none] rfl (zF K rfl T.z_reversed (ae (pv 3) af)) (fun _ => az (i := 0) (bI (N := ["one"]) (by decide +kernel)) rfl (Or.inl rfl)) (fun _ => bR) (fun _ => (aC mS (aC aZ (aC uB ak ak) ak) (pv 0))) ((.cons (fun _ e => by cases e) .nil)))))
    aD)
   (ao (ay (pv 3))))))), ?_⟩
  refine ⟨cz, fun l nl => ?_⟩
  refine ⟨_, rfl, a, rfl, ⟨_, (Same.new nl).seq hS⟩, ?_⟩
  refine aY (K := K) (a := a) (xs := cs.map V.int) (fun i σ Hx => ∃ (b : Int) (y : Option V) (bs : List Int), σ = [some (.ref a), some (.int gap), some (.int hi), some (.ref l), some (.int b), y] /\ Same H Hx /\ Hx l = some (.lst (bs.map V.int)) /\ bs.length = i /\ bs.Pairwise (· < ·) /\ (∀ x ∈ bs, 1 <= x /\ x <= b) /\ 0 <= b /\ b <= (i : Int) * gap) ⟨0, none, [], rfl, Same.new nl, ag, rfl, .nil, (fun _ z => by cases z), Int.le_refl _, by simp⟩ (fun i σ Hx _ hq__ => by obtain ⟨_, _, _, _, s, _⟩ := hq__; exact s.seq hS) ?_ ?_
  ·rintro i y σ Hx hix ⟨b, y', bs, rfl, sx, hlx, lb, up, hb, b0, b1⟩
   obtain ⟨d, hd, rfl, ed⟩ := eK hix
   have w1 := Et d (show gap ≠ 0 by omega)
   have w2 := Eo d g0
   have hi' := (CS.mp hd).1
   refine ⟨_, rfl, _, _, rfl, rfl, _, rfl, _, rfl, _, _, rfl, rfl, g0, _, _, rfl, rfl, ?_⟩
   refine ⟨_, rfl, .inl ⟨rfl, _, SqL.of hlx⟩, _, rfl, l, _, _, rfl, rfl, hlx, jZ (by rw [CO]; omega), ?_⟩
   have em : ((i + 1 : Nat) : Int) * gap = (i : Int) * gap + gap := by rw [Int.natCast_add, Int.add_mul]; simp
   refine ⟨_, _, bs ++ [b + 1 + d % gap], rfl, sx.put nl, by rw [ag, Df]; rfl, by rw [C3, Da, lb], rQ up (fun x hx => by have := hb x hx; omega), fun x hx => ?_, by omega, by omega⟩
   rcases C7.mp hx with z | z
   ·have := hb x z; omega
   ·rw [CZ.mp z]; omega
  rintro σ H1 ⟨b, y', bs, rfl, s1, hl1, lb, up, hb, b0, b1⟩
  rw [CO] at lb b1
  have b18 : b <= 1000000000000000000 := by
   have h1 : (cs.length : Int) * gap <= 20 * gap := Int.mul_le_mul_of_nonneg_right (by omega) (by omega)
   omega
  refine ⟨_, rfl, rfl, _, rfl, uW (fun e => ?_) fun ne => ?_⟩
  ·refine ⟨_, rfl, l, _, rfl, SqL.of hl1, ?_⟩
   refine vL (fun x => .int (10 ^ 18 + 1 - x)) (SqL.of hl1) (by omega) (fun i x hx H2 R s2 k => ?_) fun acc H2 s2 nacc hacc => ?_
   ·walk_at "go"
    exact k H2 (Same.refl _)
   ·have em : bs.reverse.map (fun x => V.int (10 ^ 18 + 1 - x)) = (bs.reverse.map fun x => (10 ^ 18 + 1 - x : Int)).map V.int := by rw [Dq]; rfl
    rw [em] at hacc
    refine q acc _ H2 (s1.trans s2) (s1.free nacc) hacc (by rw [CO, List.length_reverse, lb]) (zG _ up) fun x hx => ?_
    obtain ⟨z, hz, rfl⟩ := C9.mp hx
    have := hb z (List.mem_reverse.mp hz)
    omega
  ·refine ⟨_, rfl, q l bs H1 s1 nl hl1 lb up fun x hx => ?_⟩
   have := hb x hx
   omega
def jq (K : PySem.W.Frag) : Sp := fun vs H Q _ => ∃ (a b : Addr) (cs bs : List Int) (dn tp : Int) (cn : Nat), vs = [.ref a, .ref b, .int dn, .int tp, .int ((cn : Nat) : Int)] /\ SqL K H a (cs.map V.int) /\ SqL K H b (bs.map V.int) /\ bs.Pairwise (· < ·) /\ 0 < tp /\ cn <= 6 /\ bs.length <= 20 /\ cn * bs.length <= cs.length /\
 ∀ l rs rows H', Same H H' -> H l = none -> H' l = some (.lst (rs.map V.ref)) -> BillL H' rs rows -> rows.length = cn -> (∀ r ∈ rs, H r = none) -> (∀ row ∈ rows, RowOk bs tp row) -> Q (.ref l) H'
theorem cv : FnScope ["cells", "badges", "dense", "top", "count", "bill", "k", "pairs", "i", "cell"] ["cells", "badges", "dense", "top", "count"] (au gL) := ⟨rfl, rfl, rfl, by decide +kernel, rfl, by decide +kernel, by decide +kernel⟩
theorem pG (D : Dfs K mg aF dF) (T : Txt mg) : FnOk P w K mg base br 1 (aF 26) (dF 26) ["cells", "badges", "dense", "top", "count"] (jq K) := by
 refine D.law_bill.fn.ok cv (fun vs H Q E h => ?_) (fun cdv A outer s H vs Q E hr h => ?_)
 ·obtain ⟨a, b, cs, bs, dn, tp, cn, rfl, _⟩ := h; rfl
 ·have hu := aU hr
  obtain ⟨a, b, cs, bs, dn, tp, cn, rfl, hA, hB, up, tp0, c6, b20, cb, q⟩ := h
  refine ⟨_, (ah (aB (i := 5) cv.nd rfl (Or.inl rfl) (aM af))
   (ah (aP PassesOwn.never rfl (bq rfl T.z_range (ae (pv 4) af)) (az (i := 6) cv.nd rfl (Or.inl rfl))
    (ah (aB (i := 7) cv.nd rfl (Or.inl rfl) (aM af))
    (ah (aP PassesOwn.never rfl (bq rfl T.z_range (ae (aq (bX K) (by rfl) T.z_len boot_len (ae (pv 1) af)) af)) (az (i := 8) cv.nd rfl (Or.inl rfl))
     (ah (aB (i := 9) cv.nd rfl (Or.inl rfl) (aA (dS K) (pv 0) (aC aZ (aC gy (pv 6) (aq (bX K) (by rfl) T.z_len boot_len (ae (pv 1) af))) (pv 8)) (fun _ _ => rfl)))
     (ao (aK (aE ra (aC bW (pv 9) ak) (pv 2) (aG _))
      (ao (bQ (dE PySem.F.plainAttrs_list PySem.F.slot_list_append PySem.F.type_list_append aX (pv 7) (ae (aV (ae (aA (dS K) (pv 1) (pv 8) (fun _ _ => rfl)) (ae (aC bW (aC fT (pv 9) ak) (pv 3)) af))) af))))
      aD))))
    (ao (bQ (dE PySem.F.plainAttrs_list PySem.F.slot_list_append PySem.F.type_list_append aX (pv 5) (ae (pv 7) af)))))))
   (ao (ay (pv 5))))), ?_⟩
  refine ⟨cz, fun l nl => ?_⟩
  refine ⟨_, rfl, _, rfl, jC _, by omega, ?_⟩
  rw [Du]
  refine b3 (n := cn) (fun k σ Hx => ∃ (x1 x2 x3 x4 : Option V) (rs : List Addr) (rows : List (List (Int × Int))), σ = [some (.ref a), some (.ref b), some (.int dn), some (.int tp), some (.int cn), some (.ref l), x1, x2, x3, x4] /\ Same H Hx /\ Hx l = some (.lst (rs.map V.ref)) /\ BillL Hx rs rows /\ rows.length = k /\ (∀ r ∈ rs, H r = none /\ r ≠ l) /\ ∀ row ∈ rows, RowOk bs tp row) ⟨none, none, none, none, [], [], rfl, Same.new nl, ag, .nil, rfl, (fun _ z => by cases z), fun _ z => by cases z⟩ ?_ ?_
  ·rintro k σ Hk hk ⟨x1, x2, x3, x4, rs, rows, rfl, sk, hlk, bk, lr, nr, ok⟩
   refine ⟨cz, fun p np => ?_⟩
   have hlp : l ≠ p := ax hlk np
   have skp := Same.new (o := .lst []) np
   refine ⟨_, rfl, _, _, rfl, .inl ⟨_, (sk.trans skp).seq hB, rfl⟩, _, rfl, jC _, by rw [CO]; omega, ?_⟩
   have e0 : (((bs.map V.int).length : Nat) : Int).toNat = bs.length := by rw [CO]; omega
   rw [e0]
   refine b3 (n := bs.length) (fun i σ Hx => ∃ (x3 x4 : Option V) (ps : List Addr) (row : List (Int × Int)), σ = [some (.ref a), some (.ref b), some (.int dn), some (.int tp), some (.int cn), some (.ref l), some (.int (0 + (k : Int))), some (.ref p), x3, x4] /\ Same Hk Hx /\ Hx p = some (.lst (ps.map V.ref)) /\ TupsL Hx ps row /\ (row.map (·.1)).Pairwise (· < ·) /\ (∀ x ∈ row, x.1 ∈ bs.take i /\ 0 <= x.2 /\ x.2 < tp) /\ row.length <= i) ⟨x3, x4, [], [], rfl, skp, ag, .nil, .nil, (fun _ z => by cases z), Dk _⟩ ?_ ?_
   ·rintro i σ Hx hi ⟨x3, x4, ps, row, rfl, sx, hpx, tx, ux, ix, lx⟩
    have s0x := sk.trans sx
    have hki : k * bs.length + i < cs.length := by
     have h1 : k * bs.length + bs.length <= cn * bs.length := by
      have := Nat.mul_le_mul_right bs.length (show k + 1 <= cn from hk)
      rw [Nat.add_mul, Nat.one_mul] at this
      exact this
     omega
    have kb : k * bs.length <= 120 := Nat.mul_le_mul (show k <= 6 by omega) b20
    have ei : ((0 : Int) + (k : Int)) * ((bs.map V.int).length : Int) + (0 + (i : Int)) = ((k * bs.length + i : Nat) : Int) := by rw [CO, Int.natCast_add, Int.natCast_mul, Int.zero_add, Int.zero_add]
    have hbi : bs[i]? = some bs[i] := CP hi
    refine ⟨_, rfl, _, rfl, _, rfl, _, _, rfl, .inl ⟨_, s0x.seq hB, rfl⟩, _, _, rfl, rfl, .inl ⟨by omega, by omega⟩, _, rfl, _, _, rfl, rfl, a, _, _, _, rfl, rfl, s0x.seq hA, (by rw [ei]; exact bA hki), ?_⟩
    refine ⟨_, rfl, _, _, rfl, rfl, (show (0 : Int) < 5 by decide), _, rfl, _, _, rfl, rfl, _, rfl, xj (fun le => ?_) fun _ => ?_⟩
    ·refine ⟨_, rfl, .inl ⟨rfl, _, SqL.of hpx⟩, _, rfl, _, rfl, b, _, _, _, rfl, rfl, s0x.seq hB, (by rw [show (0 : Int) + (i : Int) = ((i : Nat) : Int) by omega]; exact bA hi), _, rfl, _, _, rfl, rfl, (show n9 _ 5 from ⟨by decide, by decide⟩), _, rfl, _, _, rfl, rfl, tp0, cz, fun t nt => ?_⟩
     have hpt : p ≠ t := ax hpx nt
     have stx := Same.new (o := .tup [.int (bs.getD i 0), .int (cs.getD (k * bs.length + i) 0 / 5 % tp)]) nt
     have hpx' := stx _ _ hpx
     refine ⟨p, _, _, rfl, rfl, hpx', jZ (by rw [CO, tx.len]; omega), ?_⟩
     have w1 := Et (cs.getD (k * bs.length + i) 0 / 5) (show tp ≠ 0 by omega)
     have w2 := Eo (cs.getD (k * bs.length + i) 0 / 5) tp0
     have eg : bs.getD i 0 = bs[i] := by rw [CT, hbi]; rfl
     refine ⟨_, _, ps ++ [t], row ++ [(bs.getD i 0, cs.getD (k * bs.length + i) 0 / 5 % tp)], rfl, (sx.trans stx).put np, by rw [ag, Df]; rfl, TupsL.but (a9 (tx.same stx) (show cP _ t (bs.getD i 0, cs.getD (k * bs.length + i) 0 / 5 % tp) from ag)) hpx', ?_, ?_, by rw [C3, Da]; omega⟩
     ·rw [Df]
      refine rQ ux fun y hy => ?_
      obtain ⟨x, hx, rfl⟩ := C9.mp hy
      show x.1 < bs.getD i 0
      rw [eg]
      exact xI up hbi _ (ix x hx).1
     ·intro x hx
      rw [EI, hbi]
      rcases C7.mp hx with z | z
      ·exact ⟨Dh _ (ix x z).1, (ix x z).2⟩
      ·rw [CZ.mp z]
       exact ⟨Dc _ (by rw [eg]; simp), w1, w2⟩
    ·refine ⟨_, _, ps, row, rfl, sx, hpx, tx, ux, fun x hx => ⟨?_, (ix x hx).2⟩, by omega⟩
     rw [EI]
     exact Dh _ (ix x hx).1
   rintro σ H2 ⟨x3, x4, ps, row, rfl, s2, hp2, t2, u2, i2, l2⟩
   rw [Dy] at i2
   have hl2 := s2 _ _ hlk
   refine ⟨_, rfl, .inl ⟨rfl, _, SqL.of hl2⟩, _, rfl, l, _, _, rfl, rfl, hl2, jZ (by rw [CO, bk.len]; omega), ?_⟩
   have nrl : l ∉ rs := fun z => (nr l z).2 rfl
   refine ⟨_, _, _, _, rs ++ [p], rows ++ [row], rfl, (sk.trans s2).put nl, by rw [ag, Df]; rfl, ?_, by rw [C3, Da, lr], ?_, ?_⟩
   ·exact a9 ((bk.same s2).but hl2 nrl) (RowAt.but ⟨ps, hp2, t2⟩ hl2 fun z => hlp z.symm)
   ·intro r hr
    rcases C7.mp hr with z | z
    ·exact nr r z
    ·rw [CZ.mp z]; exact ⟨sk.free np, fun z => hlp z.symm⟩
   ·intro x hx
    rcases C7.mp hx with z | z
    ·exact ok x z
    ·rw [CZ.mp z]; exact ⟨u2, i2, l2⟩
  rintro σ H2 ⟨x1, x2, x3, x4, rs, rows, rfl, s2, hl2, b2, lr, nr, ok⟩
  exact ⟨_, rfl, q l rs rows H2 s2 nl hl2 b2 lr (fun r hr => (nr r hr).1) ok⟩
theorem yi (c : Int) : ∃ d : Int, nU [V.int 2, V.int 3, V.int 6] (c % 3) = some (.int d) /\ 0 < d /\ d <= 6 := by
 rcases (show c % 3 = 0 \/ c % 3 = 1 \/ c % 3 = 2 by omega) with e | e | e
 ·rw [e]; exact ⟨2, rfl, by decide, by decide⟩
 ·rw [e]; exact ⟨3, rfl, by decide, by decide⟩
 ·rw [e]; exact ⟨6, rfl, by decide, by decide⟩
def jr (K : PySem.W.Frag) : Sp := fun vs H Q _ => ∃ (c : Addr) (cs : List Int) (cn : Nat), vs = [.ref c, .int (cn : Int)] /\ SqL K H c (cs.map V.int) /\ cs.length <= 200 /\ 1 <= cn /\ cn <= 6 /\ ∀ (l : Addr) (ts : List (Addr × Addr × Str × Int × List Nat)) (H' : Hp), Same H H' -> H l = none -> H' l = some (.lst (ts.map fun x => V.ref x.1)) -> (∀ x ∈ ts, TieT H' x /\ TieG cn x) -> ts.length = cs.length / 3 -> Q (.ref l) H'
theorem cQ : FnScope ["cells", "count", "ties", "k", "steps"] ["cells", "count"] (au gM) := ⟨rfl, rfl, rfl, by decide +kernel, rfl, by decide +kernel, by decide +kernel⟩
theorem pH (D : Dfs K mg aF dF) (T : Txt mg) : FnOk P w K mg base br 1 (aF 27) (dF 27) ["cells", "count"] (jr K) := by
 refine D.law_ties.fn.ok cQ (fun vs H Q E h => ?_) (fun cdv A outer s H vs Q E hr h => ?_)
 ·obtain ⟨c, cs, cn, rfl, _⟩ := h; rfl
 ·have hu := aU hr
  obtain ⟨c, cs, cn, rfl, hc, c200, c1, c6, q⟩ := h
  refine ⟨_, (ah (aB (i := 2) cQ.nd rfl (Or.inl rfl) (aM af))
   (ah (aP PassesOwn.never rfl (qL rfl T.z_range (ae ak (ae (aC mS (aq (bX K) (by rfl) T.z_len boot_len (ae (pv 0) af)) ak) (ae ak af)))) (az (i := 3) cQ.nd rfl (Or.inr rfl))
    (ah (hE (i₀ := 4) cQ.nd rfl (Or.inl rfl) ["step", "cells", "k"] [none, some 0, some 3] rfl (bq rfl T.z_range (ae (pv 1) af)) (fun _ => az (i := 0) (bI (N := ["step", "cells", "k"]) (by decide +kernel)) rfl (Or.inl rfl)) (fun _ => fU (aE de (aC bW (aC yW (aA (dS K) (pv 1) (pv 2) (fun _ _ => rfl)) (pv 0)) ak) ak (aG _))) (fun _ => (pv 0)) ((.cons (fun _ e => by cases e) (.cons (fun _ e => by cases e; exact ⟨rfl, rfl⟩) (.cons (fun _ e => by cases e; exact ⟨rfl, rfl⟩) .nil)))))
    (xk (aK (aE (B4 K hr.units) (pv 4) (aM af) (aG _))
     (ao (aB (i := 4) cQ.nd rfl (Or.inl rfl) (aM (ae (aC bW (aA (dS K) (pv 0) (aC aZ (pv 3) ak) (fun _ _ => rfl)) (pv 1)) af))))
     aD)
    (ao (aK (aE de (aC bW (aC fT (aA (dS K) (pv 0) (aC aZ (pv 3) ak) (fun _ _ => rfl)) ak) ak) ak (aG _))
     (ao (bQ (dE PySem.F.plainAttrs_list PySem.F.slot_list_append PySem.F.type_list_append aX (pv 2) (ae (aV (ae bf (ae (aq (sF rfl) (by rfl) T.z_min boot_min (ae ak (ae (aC aZ ak (aC bW (aA (dS K) (pv 0) (aC aZ (pv 3) ak) (fun _ _ => rfl)) (aC aZ (aq (bX K) (by rfl) T.z_len boot_len (ae (pv 4) af)) ak))) af))) (ae (aW gh (by rfl) T.z_tuple boot_tuple (ae (pv 4) af)) af)))) af))))
     (ao (bQ (dE PySem.F.plainAttrs_list PySem.F.slot_list_append PySem.F.type_list_append aX (pv 2) (ae (aV (ae bf (ae (aC aZ ak (aC bW (aA (dS K) (pv 0) (aC aZ (pv 3) ak) (fun _ _ => rfl)) (aA (dS K) (aM (ae ak (ae ak (ae ak af)))) (aC bW (aC fT (aA (dS K) (pv 0) (aC aZ (pv 3) ak) (fun _ _ => rfl)) ak) ak) (fun _ _ => rfl)))) (ae (aW gh (by rfl) T.z_tuple boot_tuple (ae (pv 4) af)) af)))) af)))))))))
   (ao (ay (pv 2))))), ?_⟩
  refine ⟨cz, fun l nl => ?_⟩
  have sn := Same.new (o := .lst []) nl
  refine ⟨_, rfl, _, cs.length, rfl, .inl ⟨_, sn.seq hc, by rw [CO]⟩, _, _, rfl, rfl, 0, (cs.length : Int) - 2, 3, rfl, by decide, by decide, by omega, by omega, by decide, by decide, ?_⟩
  obtain ⟨n, en, hn⟩ : ∃ n : Nat, (if (0 : Int) < (cs.length : Int) - 2 then ((cs.length : Int) - 2 - 0 - 1) / 3 + 1 else 0).toNat = n /\ n = cs.length / 3 := ⟨_, rfl, by split <;> omega⟩
  rw [en]
  refine vf (n := n) (fun i σ Hx => ∃ (x y : Option V) (ts : List (Addr × Addr × Str × Int × List Nat)), σ = [some (.ref c), some (.int (cn : Int)), some (.ref l), x, y] /\ Same H Hx /\ Hx l = some (.lst (ts.map fun x => V.ref x.1)) /\ (∀ x ∈ ts, TieT Hx x /\ TieG cn x) /\ ts.length = i) ⟨none, none, [], rfl, sn, ag, (fun _ z => by cases z), rfl⟩ ?_ ?_
  ·rintro i σ Hx hi ⟨x, y, ts, rfl, sx, hl, tt, tl⟩
   have i3 : 3 * i + 2 < cs.length := by omega
   have ek : (0 : Int) + (i : Int) * 3 = ((3 * i : Nat) : Int) := by omega
   rw [ek]
   have a0 : nU (cs.map V.int) ((3 * i : Nat) : Int) = some (.int (cs.getD (3 * i) 0)) := bA (by omega)
   have a1 : nU (cs.map V.int) (((3 * i : Nat) : Int) + 1) = some (.int (cs.getD (3 * i + 1) 0)) := bA (j := 3 * i + 1) (by omega)
   have a2 : nU (cs.map V.int) (((3 * i : Nat) : Int) + 2) = some (.int (cs.getD (3 * i + 2) 0)) := bA (j := 3 * i + 2) i3
   generalize cs.getD (3 * i) 0 = d0 at a0
   generalize cs.getD (3 * i + 1) 0 = d1 at a1
   generalize cs.getD (3 * i + 2) 0 = d2 at a2
   refine ⟨_, rfl, _, rfl, jC _, by omega, ?_⟩
   rw [Du]
   refine me (n := cn) (fun j => decide (d0 / 2 ^ j % 2 = 1)) (by omega) (fun j hj H3 R s3 k => ?_) (fun j hj H3 R k => ?_) fun sl H3 s3 nsl hsl => ?_
   ·have ei : (0 : Int) + (j : Int) = ((j : Nat) : Int) := by omega
    rw [ei]
    have kk : ∀ H4, Same H3 H4 -> R (decide (d0 / 2 ^ j % 2 = 1)) H4 := k
    refine ⟨_, rfl, _, rfl, c, _, _, _, rfl, rfl, (sx.trans s3).seq hc, a0, _, rfl, _, _, rfl, rfl, (show (0 : Int) <= (j : Int) by omega), _, _, rfl, rfl, (show (0 : Int) < 2 by decide), rfl, _, rfl, ?_⟩
    have z := kk H3 (Same.refl _)
    rw [<- BX] at z
    exact z
   ·have ei : (0 : Int) + (j : Int) = ((j : Nat) : Int) := by omega
    rw [ei]
    exact ⟨_, rfl, k⟩
   have hst : ∀ j ∈ ((CY cn).filter fun j => decide (d0 / 2 ^ j % 2 = 1)), j < cn := fun j hj => Ds.mp (Dw.mp hj).1
   have hup : ((CY cn).filter fun j => decide (d0 / 2 ^ j % 2 = 1)).Pairwise (· < ·) := List.Pairwise.filter _ List.pairwise_lt_range
   have hle : ((CY cn).filter fun j => decide (d0 / 2 ^ j % 2 = 1)).length <= 6 := Di (DD _ _) (by rw [DH]; exact c6)
   generalize (CY cn).filter (fun j => decide (d0 / 2 ^ j % 2 = 1)) = st at hsl hst hup hle
   refine ⟨fun σ H5 => ∃ (sl' : Addr) (st : List Nat), σ = [some (.ref c), some (.int (cn : Int)), some (.ref l), some (.int ((3 * i : Nat) : Int)), some (.ref sl')] /\ Same Hx H5 /\ H5 sl' = some (.lst (st.map fun (i : Nat) => V.int (i : Int))) /\ st ≠ [] /\ (∀ i ∈ st, i < cn) /\ st.Pairwise (· < ·) /\ st.length <= 6, ?_, ?_⟩
   ·refine ⟨_, rfl, cz, fun p np => ?_⟩
    have s4 := Same.new (o := .lst []) np
    have s04 := s3.trans s4
    cases hs : st with
    | nil =>
     rw [hs] at hsl
     refine ⟨1, true, m9 (SqL.of (s4 _ _ hsl)) (SqL.of ag), by decide, rfl, _, rfl, dW ?_⟩
     obtain ⟨m, hm, em⟩ := xG d1 (n := cn) (by omega)
     refine ⟨_, rfl, _, rfl, _, _, rfl, rfl, c, _, _, _, rfl, rfl, (sx.trans s04).seq hc, a1, _, rfl, _, _, rfl, rfl, (show (0 : Int) < ((cn : Nat) : Int) by omega), cz, fun l2 nl2 => ?_⟩
     refine ⟨l2, [m], rfl, s04.to nl2, ?_, by simp, fun i hi => by rw [CZ.mp hi]; exact hm, DN _ _, by simp⟩
     rw [ag]
     dsimp only
     rw [em]
     rfl
    | cons j r =>
     rw [hs] at hsl
     refine ⟨1, false, m9 (SqL.of (s4 _ _ hsl)) (SqL.of ag), by decide, rfl, _, rfl, bE ?_⟩
     rw [hs] at hst hup hle
     exact ⟨sl, j :: r, rfl, s04, s4 _ _ hsl, by simp, hst, hup, hle⟩
   ·rintro σ H5 ⟨sl', st, rfl, s5, hsl, sne, slt, sup, sle⟩
    have s05 := sx.trans s5
    have hl5 := s5 _ _ hl
    have tt5 : ∀ x ∈ ts, TieT H5 x /\ TieG cn x := fun x hx => ⟨(tt x hx).1.same s5, (tt x hx).2⟩
    have fin : ∀ (wd : Str) (k : Int) (t tp : Addr) (H6 : Hp), (wd = "most" \/ wd = "least") -> 1 <= k -> k <= 6 -> Same H5 H6 -> H6 t = none -> aI H6 t (.tup (st.map fun (i : Nat) => V.int (i : Int))) tp = none -> ∀ H7, H7 = aI (aI H6 t (.tup (st.map fun (i : Nat) => V.int (i : Int)))) tp (.tup [.str wd, .int k, .ref t]) ->
      Same H5 H7 /\ TieT H7 (tp, t, wd, k, st) /\ TieG cn (tp, t, wd, k, st) := fun wd k t tp H6 hw k1 k6 s6 nt ntp H7 e7 => by
     have ntt : t ≠ tp := fun z => by rw [<- z, ag] at ntp; cases ntp
     subst e7
     exact ⟨(s6.to nt).to ntp, ⟨ag, by show aI _ tp _ t = _; rw [ar ntt]; exact ag, hw, sle⟩, ⟨k1, k6, sne, slt, sup⟩⟩
    have put : ∀ (z : Addr × Addr × Str × Int × List Nat) (H7 : Hp), Same H5 H7 -> TieT H7 z -> TieG cn z -> ∃ (x y : Option V) (ts' : List (Addr × Addr × Str × Int × List Nat)), [some (V.ref c), some (.int (cn : Int)), some (.ref l), some (.int ((3 * i : Nat) : Int)), some (.ref sl')] = [some (.ref c), some (.int (cn : Int)), some (.ref l), x, y] /\ Same H (aI H7 l (.lst (ts.map (fun x => V.ref x.1) ++ [V.ref z.1]))) /\ aI H7 l (.lst (ts.map (fun x => V.ref x.1) ++ [V.ref z.1])) l = some (.lst (ts'.map fun x => V.ref x.1)) /\ (∀ x ∈ ts', TieT (aI H7 l (.lst (ts.map (fun x => V.ref x.1) ++ [V.ref z.1]))) x /\ TieG cn x) /\ ts'.length = i + 1 := fun z H7 s7 tz gz =>
     ⟨_, _, ts ++ [z], rfl, (s05.trans s7).put nl, by rw [ag, Df]; rfl, fun x hx => by
      have h7 := s7 _ _ hl5
      rcases C7.mp hx with y | y
      ·exact ⟨((tt5 x y).1.same s7).put h7, (tt5 x y).2⟩
      ·rw [CZ.mp y]; exact ⟨tz.put h7, gz⟩, by rw [C3, Da, tl]⟩
    have tl100 : ts.length < 100000 := by omega
    refine ⟨_, rfl, _, rfl, _, _, rfl, rfl, c, _, _, _, rfl, rfl, s05.seq hc, a1, _, _, rfl, rfl, (show n9 _ 6 from ⟨by decide, by decide⟩), _, _, rfl, rfl, (show (0 : Int) < 2 by decide), rfl, _, rfl, uW (fun _ => ?_) fun _ => ?_⟩
    ·have k0 := Et d2 (show (st.length : Int) + 1 ≠ 0 by omega)
     refine ⟨_, rfl, .inl ⟨rfl, _, SqL.of hl5⟩, _, rfl, _, rfl, _, _, rfl, rfl, c, _, _, _, rfl, rfl, s05.seq hc, a2, _, rfl, _, st.length, rfl, .inl ⟨_, SqL.of hsl, by rw [CO]⟩, _, _, rfl, rfl, _, _, rfl, rfl, (show (0 : Int) < (st.length : Int) + 1 by omega), _, _, rfl, rfl, _, _, rfl, _, rfl, sl', _, rfl, .inl ⟨SqL.of hsl, fun t nt => ⟨cz, fun tp ntp => ?_⟩⟩⟩
     obtain ⟨s7, tz, gz⟩ := fin "least" (if 1 + d2 % ((st.length : Int) + 1) < 6 then 1 + d2 % ((st.length : Int) + 1) else 6) t tp H5 (.inr rfl) (by split <;> omega) (by split <;> omega) (Same.refl _) nt ntp _ rfl
     have h7 := s7 _ _ hl5
     exact ⟨l, _, _, rfl, rfl, h7, jZ (by rw [CO]; exact tl100), put _ _ s7 tz gz⟩
    ·obtain ⟨dm, hdm, m0, m6⟩ := yi (d2 / 6)
     have k1 := Et d2 (show dm ≠ 0 by omega)
     have k2 := Eo d2 m0
     refine ⟨_, rfl, .inl ⟨rfl, _, SqL.of hl5⟩, _, rfl, _, rfl, _, _, rfl, rfl, c, _, _, _, rfl, rfl, s05.seq hc, a2, cz, fun pa npa => ?_⟩
     have s6 := Same.new (o := .lst [V.int 2, V.int 3, V.int 6]) npa
     refine ⟨_, rfl, _, rfl, _, _, rfl, rfl, c, _, _, _, rfl, rfl, (s05.trans s6).seq hc, a2, _, _, rfl, rfl, (show n9 _ 6 from ⟨by decide, by decide⟩), _, _, rfl, rfl, (show (0 : Int) < 3 by decide), pa, _, _, _, rfl, rfl, SqL.of ag, hdm, _, _, rfl, rfl, m0, _, _, rfl, rfl, _, rfl, sl', _, rfl, .inl ⟨SqL.of (s6 _ _ hsl), fun t nt => ⟨cz, fun tp ntp => ?_⟩⟩⟩
     obtain ⟨s7, tz, gz⟩ := fin "most" _ t tp _ (.inl rfl) (show (1 : Int) <= 1 + d2 % dm by omega) (by omega) s6 nt ntp _ rfl
     have h7 := s7 _ _ hl5
     exact ⟨l, _, _, rfl, rfl, h7, jZ (by rw [CO]; exact tl100), put _ _ s7 tz gz⟩
  ·rintro σ Hx ⟨x, y, ts, rfl, sx, hl, tt, tl⟩
   exact ⟨_, rfl, q l ts Hx sx nl hl tt (by omega)⟩
def jt (K : PySem.W.Frag) : Sp := fun vs H Q _ => ∃ (a sa ta : Addr) (ns : List Int) (sz : List (Int × Int)) (tl : List Int), vs = [.ref a, .ref sa, .ref ta] /\ SqL K H a (ns.map V.int) /\ ns.length <= 63 /\ RowAt H sa sz /\ 0 < sz.length /\ (∀ x ∈ sz, 1 <= x.1 /\ x.1 <= 6 /\ 1 <= x.2 /\ x.2 <= 20) /\ SqL K H ta (tl.map V.int) /\ 0 < tl.length /\ (∀ x ∈ tl, 0 < x) /\
 ∀ (t l y : Addr) (rs : List Addr) (rows : eO) (bs : List Int) (ts : List (Addr × Addr × Str × Int × List Nat)) (tp : Int) (H' : Hp), Same H H' -> H t = none -> H' t = some (.tup [.ref l, .ref y]) -> H l = none -> H' l = some (.lst (rs.map V.ref)) -> BillL H' rs rows -> (∀ r ∈ rs, H r = none) -> (∃ x ∈ sz, (rows.length : Int) = x.1 /\ (bs.length : Int) = x.2) -> BillOk rows bs -> (∀ row ∈ rows, RowOk bs tp row) -> tp ∈ tl -> H y = none -> H' y = some (.lst (ts.map fun x => V.ref x.1)) -> (∀ x ∈ ts, TieT H' x /\ TieG rows.length x) -> ts.length <= 12 -> Q (.ref t) H'
theorem a8 : FnScope ["script", "sizes", "tops", "head", "count", "many", "bonds", "here", "cells", "gap", "badges", "dense", "top"] ["script", "sizes", "tops"] (au gN) := ⟨rfl, rfl, rfl, by decide +kernel, rfl, by decide +kernel, by decide +kernel⟩
theorem pI (D : Dfs K mg aF dF) (T : Txt mg) : FnOk P w K mg base br 2 (aF 28) (dF 28) ["script", "sizes", "tops"] (jt K) := by
 have Glaw_cell : FnOk P w K mg base br 1 (aF 22) (dF 22) ["script", "k"] (jo K) := pF D T
 have Glaw_entries : FnOk P w K mg base br 1 (aF 23) (dF 23) ["script", "size"] (fN K) := kK D T
 have Glaw_badges : FnOk P w K mg base br 1 (aF 25) (dF 25) ["cells", "gap", "high"] (gv K) := lG D T
 have Glaw_bill : FnOk P w K mg base br 1 (aF 26) (dF 26) ["cells", "badges", "dense", "top", "count"] (jq K) := pG D T
 have Glaw_ties : FnOk P w K mg base br 1 (aF 27) (dF 27) ["cells", "count"] (jr K) := pH D T
 refine D.law_case.fn.ok a8 (fun vs H Q E h => ?_) (fun cdv A outer s H vs Q E hr h => ?_)
 ·obtain ⟨a, sa, ta, ns, sz, tl, rfl, _⟩ := h; rfl
 ·have hu := aU hr
  obtain ⟨a, sa, ta, ns, sz, tl, rfl, hS, hl, hsz, szp, szo, htl, tlp, tlo, q⟩ := h
  refine ⟨_, (ah (hE (i₀ := 3) a8.nd rfl (Or.inl rfl) ["k", "script"] [none, some 0] rfl (bq rfl T.z_range (ae ak af)) (fun _ => az (i := 0) (bI (N := ["k", "script"]) (by decide +kernel)) rfl (Or.inl rfl)) (fun _ => bR) (fun _ => (pc D.law_cell Glaw_cell (hr.mono (by decide)) (ae (pv 1) (ae (pv 0) af)))) ((.cons (fun _ e => by cases e) (.cons (fun _ e => by cases e; exact ⟨rfl, rfl⟩) .nil))))
   (ah (mQ (aA (dS K) (pv 1) (aC bW (aA (dS K) (pv 3) ak (fun _ _ => rfl)) (aq (bX K) (by rfl) T.z_len boot_len (ae (pv 1) af))) (fun _ _ => rfl)) (BP K rfl (dU (az (i := 4) a8.nd rfl (Or.inl rfl)) (dU (az (i := 5) a8.nd rfl (Or.inl rfl)) mP))))
   (ah (aB (i := 6) a8.nd rfl (Or.inl rfl) (aA (dS K) (aM (ae ak (ae ak (ae ak (ae ak (ae ak (ae ak (ae ak (ae ak af))))))))) (aC bW (aA (dS K) (pv 3) ak (fun _ _ => rfl)) ak) (fun _ _ => rfl)))
   (ah (aB (i := 7) a8.nd rfl (Or.inl rfl) (aC gy (pv 4) (pv 5)))
   (ah (aB (i := 8) a8.nd rfl (Or.inl rfl) (pc D.law_entries Glaw_entries (hr.mono (by decide)) (ae (pv 0) (ae (aC aZ (aC aZ (pv 7) (pv 5)) (aC gy ak (pv 6))) af))))
   (ah (aB (i := 9) a8.nd rfl (Or.inl rfl) (aA (dS K) (aM (ae ak (ae ak (ae ak (ae (aC gy ak (aC uB ak ak)) af))))) (aC bW (aA (dS K) (pv 3) ak (fun _ _ => rfl)) ak) (fun _ _ => rfl)))
   (ah (aB (i := 10) a8.nd rfl (Or.inl rfl) (pc D.law_badges Glaw_badges (hr.mono (by decide)) (ae (gZ (Be K) (pv 8) (gY (pv 7)) (gY (aC aZ (pv 7) (pv 5)))) (ae (pv 9) (ae (aC bW (aC fT (aA (dS K) (pv 3) ak (fun _ _ => rfl)) ak) ak) af)))))
   (ah (aB (i := 11) a8.nd rfl (Or.inl rfl) (aA (dS K) (aM (ae ak (ae ak (ae ak (ae ak (ae ak af)))))) (aC bW (aC fT (aA (dS K) (pv 3) ak (fun _ _ => rfl)) ak) ak) (fun _ _ => rfl)))
   (ah (aB (i := 12) a8.nd rfl (Or.inl rfl) (aA (dS K) (pv 2) (aC bW (aC fT (aA (dS K) (pv 3) ak (fun _ _ => rfl)) ak) (aq (bX K) (by rfl) T.z_len boot_len (ae (pv 2) af))) (fun _ _ => rfl)))
   (ao (ay (aV (ae (pc D.law_bill Glaw_bill (hr.mono (by decide)) (ae (pv 8) (ae (pv 10) (ae (pv 11) (ae (pv 12) (ae (pv 4) af)))))) (ae (pc D.law_ties Glaw_ties (hr.mono (by decide)) (ae (gZ (Be K) (pv 8) (gY (aC aZ (pv 7) (pv 5))) mV) (ae (pv 4) af))) af)))))))))))))), ?_⟩
  refine ⟨_, rfl, by decide, by decide, ?_⟩
  refine qc (n := 4) (fun k => .int (ns.getD k 0)) (by decide) (fun i hi H2 R s2 k => ?_) fun hd H1 s1 nhd hhd => ?_
  ·have ei : (0 : Int) + (i : Int) = ((i : Nat) : Int) := by omega
   rw [ei]
   exact ⟨_, rfl, _, rfl, a, ns, i, rfl, s2.seq hS, k H2 (Same.refl _)⟩
  have hg : ∀ j : Nat, j < 4 -> nU ((CY 4).map fun k => V.int (ns.getD k 0)) (j : Int) = some (.int (ns.getD j 0)) := fun j hj => bZ (by simp [hj])
  have g0 : nU ((CY 4).map fun k => V.int (ns.getD k 0)) 0 = some (.int (ns.getD 0 0)) := hg 0 (by decide)
  have g1 : nU ((CY 4).map fun k => V.int (ns.getD k 0)) 1 = some (.int (ns.getD 1 0)) := hg 1 (by decide)
  have g2 : nU ((CY 4).map fun k => V.int (ns.getD k 0)) 2 = some (.int (ns.getD 2 0)) := hg 2 (by decide)
  generalize (CY 4).map (fun k => V.int (ns.getD k 0)) = hL at hhd g0 g1 g2
  generalize ns.getD 0 0 = d0 at g0
  generalize ns.getD 1 0 = d1 at g1
  generalize ns.getD 2 0 = d2 at g2
  clear hg
  obtain ⟨ss, hss, tss⟩ := hsz.same s1
  have ssl : ss.length = sz.length := tss.len
  obtain ⟨im, him, eim⟩ := xG d0 szp
  obtain ⟨sp, hsp⟩ : ∃ sp, ss[im]? = some sp := ⟨_, CP (by omega)⟩
  obtain ⟨z, hz, ez⟩ := bh tss hsp
  have zm := CW hz
  obtain ⟨z1, z2, z3, z4⟩ := szo z zm
  have hat : nU (ss.map V.ref) (d0 % (sz.length : Int)) = some (.ref sp) := by
   rw [eim]
   exact bZ (by rw [CU, hsp]; rfl)
  refine ⟨_, rfl, _, rfl, hd, _, _, _, rfl, rfl, SqL.of hhd, g0, _, rfl, _, sz.length, rfl, .inl ⟨_, SqL.of hss, by rw [CO, ssl]⟩, _, _, rfl, rfl, (show (0 : Int) < (sz.length : Int) by omega), sa, _, _, _, rfl, rfl, SqL.of hss, hat, sp, _, rfl, SqT.of ez, rfl, _, _, rfl, _, _, rfl, rfl, ?_⟩
  obtain ⟨cn, ec⟩ : ∃ cn : Nat, z.1 = (cn : Int) := ⟨z.1.toNat, by omega⟩
  obtain ⟨mn, em⟩ : ∃ mn : Nat, z.2 = (mn : Int) := ⟨z.2.toNat, by omega⟩
  rw [ec, em]
  have c1 : 1 <= cn := by omega
  have c6 : cn <= 6 := by omega
  have m20 : mn <= 20 := by omega
  refine ⟨cz, fun p np => ?_⟩
  obtain ⟨bd, hbd, bm⟩ := iD [0, 1, 2, 3, 1, 2, 4, 12] d1 (n := 8) rfl (by decide)
  have sp1 := Same.new (o := .lst [.int 0, .int 1, .int 2, .int 3, .int 1, .int 2, .int 4, .int 12]) np
  have s01 := s1.trans sp1
  have hhd1 := sp1 _ _ hhd
  refine ⟨_, rfl, hd, _, _, _, rfl, rfl, SqL.of hhd1, g1, _, _, rfl, rfl, (show (0 : Int) < 8 by decide), p, _, _, _, rfl, rfl, SqL.of ag, hbd, ?_⟩
  generalize aI H1 p (.lst [.int 0, .int 1, .int 2, .int 3, .int 1, .int 2, .int 4, .int 12]) = H2 at s01 hhd1
  obtain ⟨bn, eb, b12⟩ : ∃ bn : Nat, bd = (bn : Int) /\ bn <= 12 := by
   simp only [C5, DI, or_false] at bm
   exact ⟨bd.toNat, by omega, by omega⟩
  subst eb
  refine ⟨_, rfl, _, rfl, _, _, rfl, rfl, .inl ⟨by omega, by omega⟩, ?_⟩
  have h120 : cn * mn <= 120 := Nat.mul_le_mul c6 m20
  have eh : (cn : Int) * (mn : Int) = ((cn * mn : Nat) : Int) := (Int.natCast_mul ..).symm
  dsimp only
  rw [eh]
  have ecm : cn * mn <= cn * mn := C0 _
  generalize hrE : cn * mn = hr' at h120 ecm
  refine ⟨_, rfl, _, rfl, _, rfl, _, _, rfl, rfl, _, rfl, _, _, rfl, rfl, (show CMul 3 _ from .inl ⟨by decide, by decide⟩), _, _, rfl, rfl, a, ns, hr' + mn + 3 * bn, (by show [V.ref a, V.int ((hr' : Int) + mn + 3 * bn)] = _; rw [show ((hr' + mn + 3 * bn : Nat) : Int) = (hr' : Int) + mn + 3 * bn by omega]), s01.seq hS, by omega, by omega, by omega, fun cl cs H3 s3 ncl hcl lcs => ?_⟩
  have s03 := s01.trans s3
  have hhd3 := s3 _ _ hhd1
  walk_at "go"
  refine ⟨cz, fun p2 np2 => ?_⟩
  obtain ⟨gp, hgp, gm⟩ := iD [1, 3, 40, 5 * 10 ^ 16] d2 (n := 4) rfl (by decide)
  have sp2 := Same.new (o := .lst [.int 1, .int 3, .int 40, .int (5 * 10 ^ 16)]) np2
  have hhd4 := sp2 _ _ hhd3
  refine ⟨_, rfl, hd, _, _, _, rfl, rfl, SqL.of hhd4, g2, _, _, rfl, rfl, (show (0 : Int) < 4 by decide), p2, _, _, _, rfl, rfl, SqL.of ag, hgp, ?_⟩
  clear sp2 hhd4
  generalize hE4 : aI H3 p2 _ = H4
  have sp2 : Same H3 H4 := hE4 ▸ Same.new np2
  have hhd4 := sp2 _ _ hhd3
  have hcl4 := sp2 _ _ hcl
  have s04 := s03.trans sp2
  have gpb : 0 < gp /\ gp <= 50000000000000000 := by
   simp only [C5, DI, or_false] at gm
   omega
  refine ⟨_, rfl, _, rfl, _, rfl, _, rfl, _, rfl, _, _, rfl, rfl, _, rfl, cl, _, rfl, SqL.of hcl4, fun c5 nc5 => ?_⟩
  have ecut : g7 (cs.map V.int) (some (hr' : Int)) (some ((hr' : Int) + (mn : Int))) = ((cs.drop hr').take mn).map V.int := by
   rw [show (hr' : Int) + (mn : Int) = ((hr' + mn : Nat) : Int) by omega, xh, Nat.add_sub_cancel_left, List.map_take, List.map_drop]
  rw [ecut]
  have lcut : ((cs.drop hr').take mn).length = mn := by rw [DU, Ei]; omega
  have sp5 := Same.new (o := .lst (((cs.drop hr').take mn).map V.int)) nc5
  have hhd5 := sp5 _ _ hhd4
  have hcl5 := sp5 _ _ hcl4
  have s05 := s04.trans sp5
  have hc5 : aI H4 c5 (.lst (((cs.drop hr').take mn).map V.int)) c5 = some (.lst (((cs.drop hr').take mn).map V.int)) := ag
  generalize aI H4 c5 (.lst (((cs.drop hr').take mn).map V.int)) = H5 at hhd5 hcl5 s05 hc5
  generalize (cs.drop hr').take mn = cs' at lcut hc5
  refine ⟨_, rfl, _, rfl, hd, _, _, _, rfl, rfl, SqL.of hhd5, g2, _, _, rfl, rfl, (show n9 _ 4 from ⟨by decide, by decide⟩), _, _, rfl, rfl, (show (0 : Int) < 2 by decide), c5, cs', gp, _, rfl, SqL.of hc5, by omega, gpb.1, gpb.2, fun bdg bs H6 s6 nbd hbd6 lbs up b18 => ?_⟩
  rw [lcut] at lbs
  have s06 := s05.trans s6
  have hhd6 := s6 _ _ hhd5
  have hcl6 := s6 _ _ hcl5
  refine ⟨cz, fun p7 np7 => ?_⟩
  obtain ⟨dn, hdn, _⟩ := iD [3, 4, 1, 2, 4] (d2 / 8) (n := 5) rfl (by decide)
  have sp7 := Same.new (o := .lst [.int 3, .int 4, .int 1, .int 2, .int 4]) np7
  have hhd7 := sp7 _ _ hhd6
  have hcl7 := sp7 _ _ hcl6
  have hbd7 := sp7 _ _ hbd6
  have s07 := s06.trans sp7
  refine ⟨_, rfl, hd, _, _, _, rfl, rfl, SqL.of hhd7, g2, _, _, rfl, rfl, (show n9 _ 8 from ⟨by decide, by decide⟩), _, _, rfl, rfl, (show (0 : Int) < 5 by decide), p7, _, _, _, rfl, rfl, SqL.of ag, hdn, ?_⟩
  generalize aI H6 p7 (.lst [.int 3, .int 4, .int 1, .int 2, .int 4]) = H7 at hhd7 hcl7 hbd7 s07
  obtain ⟨tp, htp, tm⟩ := iD tl (d1 / 8) (n := tl.length) rfl tlp
  refine ⟨_, rfl, _, rfl, hd, _, _, _, rfl, rfl, SqL.of hhd7, g1, _, _, rfl, rfl, (show n9 _ 8 from ⟨by decide, by decide⟩), _, rfl, _, tl.length, rfl, .inl ⟨_, s07.seq htl, by rw [CO]⟩, _, _, rfl, rfl, (show (0 : Int) < (tl.length : Int) by omega), ta, _, _, _, rfl, rfl, s07.seq htl, htp, ?_⟩
  have lcs' : cn * bs.length <= cs.length := by rw [lbs, hrE]; omega
  refine ⟨_, rfl, _, rfl, _, rfl, _, rfl, _, rfl, cl, bdg, cs, bs, dn, tp, cn, rfl, SqL.of hcl7, SqL.of hbd7, up, tlo tp tm, c6, by omega, lcs', fun l rs rows H8 s8 nl hl8 bl8 lr nr ok => ?_⟩
  have hcl8 := s8 _ _ hcl7
  have s08 := s07.trans s8
  refine ⟨_, rfl, _, rfl, _, rfl, _, _, rfl, rfl, _, rfl, cl, _, rfl, SqL.of hcl8, fun c9 nc9 => ?_⟩
  have ecut9 : g7 (cs.map V.int) (some ((hr' : Int) + (mn : Int))) none = (cs.drop (hr' + mn)).map V.int := by
   rw [show (hr' : Int) + (mn : Int) = ((hr' + mn : Nat) : Int) by omega, oA, List.map_drop]
  rw [ecut9]
  have lcut9 : (cs.drop (hr' + mn)).length = 3 * bn := by rw [Ei]; omega
  have s9 := Same.new (o := .lst ((cs.drop (hr' + mn)).map V.int)) nc9
  have hc9 : aI H8 c9 (.lst ((cs.drop (hr' + mn)).map V.int)) c9 = some (.lst ((cs.drop (hr' + mn)).map V.int)) := ag
  generalize aI H8 c9 (.lst ((cs.drop (hr' + mn)).map V.int)) = H9 at s9 hc9
  refine ⟨_, rfl, c9, cs.drop (hr' + mn), cn, rfl, SqL.of hc9, by omega, c1, c6, fun y ts H10 s10 ny hy tt tl3 => ⟨cz, fun t nt => ?_⟩⟩
  have s1011 := Same.new (o := .tup [.ref l, .ref y]) nt
  have s811 := (s9.trans s10).trans s1011
  refine q t l y rs rows bs ts tp _ (s08.trans s811) ((s08.trans (s9.trans s10)).free nt) ag (s07.free nl) (s811 _ _ hl8) (bl8.same s811) (fun r hr => s07.free (nr r hr)) ⟨z, zm, by rw [ec, lr], by rw [em, lbs]⟩ ⟨fun row hr => (ok row hr).up, fun row hr x hx => ((ok row hr).inn x hx).1, fun row hr => (ok row hr).len, up, fun b hb => (b18 b hb).1⟩ ok tm ((s08.trans s9).free ny) (s1011 _ _ hy) (fun x hx => ⟨(tt x hx).1.same s1011, by rw [lr]; exact (tt x hx).2⟩) (by omega)
def fO (K : PySem.W.Frag) : Sp := fun vs H Q _ => ∃ (a : Addr) (ps : List Int), vs = [.ref a] /\ SqL K H a (ps.map V.int) /\ ps.length <= 6 /\ ∀ H', Same H H' -> Q (.int (((dd ps).length : Nat) : Int)) H'
theorem pJ : FnScope ["pattern"] ["pattern"] (au gO) := ⟨rfl, rfl, rfl, by decide +kernel, rfl, by decide +kernel, by decide +kernel⟩
theorem ju (D : Dfs K mg aF dF) (T : Txt mg) : FnOk P w K mg base br 1 (aF 29) (dF 29) ["pattern"] (fO K) := by
 refine D.law_wide.fn.ok pJ (fun vs H Q E h => ?_) (fun cdv A outer s H vs Q E hr h => ?_)
 ·obtain ⟨a, ps, rfl, _⟩ := h; rfl
 ·have hu := aU hr
  obtain ⟨a, ps, rfl, ha, h6, q⟩ := h
  refine ⟨_, (ao (ay (aq (rM w) (by rfl) T.z_len boot_len (ae (aW (j5 w K) (by rfl) T.z_set PyProof.Rows.boot_set (ae (pv 0) af)) af)))), ?_⟩
  exact ⟨_, rfl, a, ps, rfl, ha, by omega, fun S nS => ⟨S, _, rfl, ag, q _ (Same.new nS)⟩⟩
def jv (K : PySem.W.Frag) : Sp := fun vs H Q _ => ∃ (b : Nat) (pa ba : Addr) (p : List Int) (rs : List Addr) (rows : List (List (Int × Int))), vs = [.int ((b : Nat) : Int), .ref pa, .ref ba] /\ SqL K H pa (p.map V.int) /\ H ba = some (.lst (rs.map V.ref)) /\ BillL H rs rows /\ cH p /\ b < (dd p).length /\ p.length <= rows.length /\ rows.length <= 6 /\ (∀ row ∈ rows, row.length <= 20 /\ (aJ row).Nodup) /\
 ∀ l H', Same H H' -> H l = none -> H' l = some (.lst ((lA rows (gf p b)).map V.int)) -> Q (.ref l) H'
theorem pK {rows : List (List (Int × Int))} {n : Nat} (h : ∀ row ∈ rows, row.length <= n) : ∀ st, (lA rows st).length <= n := by
 intro st
 by_cases z : st = []
 ·rw [z]; exact Dk _
 ·refine rR (P := fun st => (lA rows st).length <= n) (fun s => ?_) (fun st s hne ih => by rw [i5 hne]; exact Di (DD _ _) ih) st z
  show (aJ (rows.getD s [])).length <= n
  unfold aJ
  rw [CO, CT]
  cases e : rows[s]? with
  | none => exact Dk _
  | some row => exact h row (CW e)
theorem A5 {l : List Int} {g : Int -> Bool} : (((CY l.length).filter fun j => g (l.getD j 0)).map fun j => V.int (l.getD j 0)) = (l.filter g).map V.int := AY (d := 0) (F := V.int)
theorem cw : FnScope ["block", "pattern", "bill", "found", "k", "here"] ["block", "pattern", "bill"] (au gP) := ⟨rfl, rfl, rfl, by decide +kernel, rfl, by decide +kernel, by decide +kernel⟩
theorem pL (D : Dfs K mg aF dF) (T : Txt mg) : FnOk P w K mg base br 1 (aF 30) (dF 30) ["block", "pattern", "bill"] (jv K) := by
 refine D.law_pool.fn.ok cw (fun vs H Q E h => ?_) (fun cdv A outer s H vs Q E hr h => ?_)
 ·obtain ⟨b, pa, ba, p, rs, rows, rfl, _⟩ := h; rfl
 ·have hu := aU hr
  obtain ⟨b, pa, ba, p, rs, rows, rfl, hp, hba, bl, c, hb, hl, r6, ok, q⟩ := h
  refine ⟨_, (ah (aB (i := 3) cw.nd rfl (Or.inl rfl) mO)
   (ah (aP PassesOwn.never rfl (bq rfl T.z_range (ae (aq (bX K) (by rfl) T.z_len boot_len (ae (pv 1) af)) af)) (az (i := 4) cw.nd rfl (Or.inl rfl))
    (ao (aK (aE de (aA (dS K) (pv 1) (pv 4) (fun _ _ => rfl)) (pv 0) (aG _))
     (ah (aB (i := 5) cw.nd rfl (Or.inr rfl) (be ["pair"] [none] rfl (h8 K (aA (dS K) (pv 2) (pv 4) (fun _ _ => rfl))) (fun _ => az (i := 0) (bI (N := ["pair"]) (by decide +kernel)) rfl (Or.inl rfl)) (fun _ => bR) (fun _ => (aA (dB K) (pv 0) ak (fun _ _ => rfl))) ((.cons (fun _ e => by cases e) .nil))))
     (ao (aK (aE yY (pv 3) mO (aG _))
      (ao (aB (i := 3) cw.nd rfl (Or.inl rfl) (pv 5)))
      (ao (hE (i₀ := 3) cw.nd rfl (Or.inl rfl) ["badge", "here"] [none, some 5] rfl (h8 K (pv 3)) (fun _ => az (i := 0) (bI (N := ["badge", "here"]) (by decide +kernel)) rfl (Or.inl rfl)) (fun _ => fU (aE (Cn K) (pv 0) (pv 1) (by with_unfolding_all rfl))) (fun _ => (pv 0)) ((.cons (fun _ e => by cases e) (.cons (fun _ e => by cases e; exact ⟨rfl, rfl⟩) .nil))))))))
     aD)))
   (ao (ay (pv 3))))), ?_⟩
  refine ⟨_, rfl, _, _, rfl, .inl ⟨_, hp, rfl⟩, _, rfl, jC _, by rw [CO]; omega, ?_⟩
  have e0 : (((p.map V.int).length : Nat) : Int).toNat = p.length := by rw [CO]; omega
  rw [e0]
  refine b3 (n := p.length) (fun i σ Hx => ∃ (v : V) (x y : Option V), σ = [some (.int ((b : Nat) : Int)), some (.ref pa), some (.ref ba), some v, x, y] /\ Same H Hx /\ ((lB p (b : Int) i = [] /\ v = .non) \/ (lB p (b : Int) i ≠ [] /\ ∃ l, v = .ref l /\ H l = none /\ Hx l = some (.lst ((lA rows (lB p (b : Int) i)).map V.int)))))
   ⟨.non, none, none, rfl, Same.refl _, .inl ⟨rfl, rfl⟩⟩ ?_ ?_
  ·rintro i σ Hx hi ⟨v, x, y, rfl, sx, hv⟩
   have ei : (0 : Int) + (i : Int) = ((i : Nat) : Int) := by omega
   rw [ei]
   have bs := tX p (b : Int) i
   refine ⟨_, rfl, _, rfl, pa, _, _, _, rfl, rfl, sx.seq hp, bA hi, _, rfl, rfl, _, rfl, uW (fun e => ?_) fun ne => ?_⟩
   ·rw [if_pos e] at bs
    have hrw : rows[i]? = some (rows.getD i []) := by rw [CT, CP (by omega)]; rfl
    have oki := ok _ (CW hrw)
    obtain ⟨r, er, ps, hps, tps⟩ := (bl.same sx).at hrw
    generalize hRow : rows.getD i [] = row at hrw oki tps
    have ptl := tps.len
    refine ⟨_, rfl, _, rfl, ba, _, _, _, rfl, rfl, SqL.of (sx _ _ hba), bZ (by rw [CU, er]; rfl), r, rfl, ⟨_, SqL.of hps⟩, ?_⟩
    refine bx (xs := ps.map V.ref) (fun _ => true) (fun j => .int (row.getD j (0, 0)).1) (SqL.of hps) (by rw [CO]; omega) (fun _ _ _ _ _ _ k => k _ (Same.refl _)) (fun j x hx _ H2 R s2 k => ?_) fun nw H2 s2 nnw hnw => ?_
    ·rw [CU] at hx
     obtain ⟨t, et, rfl⟩ := CV.mp hx
     obtain ⟨x, ex, tx⟩ := bh tps et
     rw [CT, ex] at k
     exact ⟨_, rfl, t, _, _, _, rfl, rfl, SqT.of (s2 _ _ tx), rfl, k H2 (Same.refl _)⟩
    rw [Dr.mpr (fun _ _ => rfl), CO, ptl, iC (g := fun x => V.int x.1) fun i x hx => by rw [CT, hx]; rfl] at hnw
    have hnw : H2 nw = some (.lst ((aJ row).map V.int)) := by rw [hnw]; unfold aJ; rw [Dq]; rfl
    have s02 := sx.trans s2
    rcases hv with ⟨h1, rfl⟩ | ⟨h1, l, rfl, nl, hl1⟩
    ·refine ⟨_, rfl, rfl, _, rfl, xj (fun _ => ⟨_, rfl, .ref nw, _, _, rfl, s02, .inr ⟨by rw [bs]; simp, nw, rfl, sx.free nnw, ?_⟩⟩) fun z => absurd rfl z⟩
     rw [bs, h1]
     show H2 nw = some (.lst ((aJ (rows.getD i [])).map V.int))
     rw [hRow]
     exact hnw
    ·refine ⟨_, rfl, rfl, _, rfl, xj (fun z => by cases z) fun _ => ?_⟩
     have hl2 := s2 _ _ hl1
     refine ⟨_, rfl, l, rfl, ⟨_, SqL.of hl2⟩, ?_⟩
     have kl := pK (fun row h => (ok row h).1) (lB p (b : Int) i)
     generalize hks : lA rows (lB p (b : Int) i) = ks at hl2 kl
     refine bx (xs := ks.map V.int) (fun j => decide (ks.getD j 0 ∈ aJ row)) (fun j => .int (ks.getD j 0)) (SqL.of hl2) (by rw [CO]; omega) (fun j x hx H3 R s3 k => ?_) (fun j x hx _ H3 R s3 k => ?_) fun nf H3 s3 nnf hnf => ?_
     ·obtain ⟨d, hd, rfl, ed⟩ := eK hx
      rw [ed] at k
      refine ⟨_, rfl, _, rfl, nw, _, rfl, .inl (SqL.of (s3 _ _ hnw)), rfl, dh _, _, rfl, ?_⟩
      rw [if_neg C4, eF]
      exact k H3 (Same.refl _)
     ·obtain ⟨d, hd, rfl, ed⟩ := eK hx
      rw [ed] at k
      exact ⟨_, rfl, k H3 (Same.refl _)⟩
     ·rw [CO, A5 (g := fun b => decide (b ∈ aJ row))] at hnf
      refine ⟨.ref nf, _, _, rfl, s02.trans s3, .inr ⟨by rw [bs]; simp, nf, rfl, s02.free nnf, ?_⟩⟩
      rw [bs, i5 h1, hks, hRow]
      exact hnf
   ·rw [if_neg ne] at bs
    rw [<- bs] at hv
    exact ⟨v, _, _, rfl, sx, hv⟩
  ·rintro σ Hx ⟨v, x, y, rfl, sx, hv⟩
   rw [vN] at hv
   rcases hv with ⟨h1, _⟩ | ⟨h1, l, rfl, nl, hl1⟩
   ·exact absurd h1 (iy c hb)
   ·exact ⟨_, rfl, q l Hx sx nl hl1⟩
def gw (K : PySem.W.Frag) : Sp := jd K
theorem ck : FnScope ["pattern", "tie", "met", "ahead", "step"] ["pattern", "tie"] (au eU) := ⟨rfl, rfl, rfl, by decide +kernel, rfl, by decide +kernel, by decide +kernel⟩
theorem lH (D : Dfs K mg aF dF) (T : Txt mg) : FnOk P w K mg base br 1 (aF 31) (dF 31) ["pattern", "tie"] (gw K) := by
 refine D.law_breaks.fn.ok ck (fun vs H Q E h => ?_) (fun cdv A outer s H vs Q E hr h => ?_)
 ·obtain ⟨a, tp, t, hs, st, wd, k, rfl, _⟩ := h; rfl
 ·have hu := aU hr
  obtain ⟨a, tp, t, hs, st, wd, k, rfl, ha, htp, ht, hwd, h6, q⟩ := h
  refine ⟨_, (ah (aB (i := 2) ck.nd rfl (Or.inl rfl) (aM af))
   (ah (aB (i := 3) ck.nd rfl (Or.inl rfl) ak)
   (ah (aP PassesOwn.never rfl (BO K (aA (dB K) (pv 1) ak (fun _ _ => rfl))) (az (i := 4) ck.nd rfl (Or.inl rfl))
    (ao (aK (aE yp (pv 4) (aq (bX K) (by rfl) T.z_len boot_len (ae (pv 0) af)) (aG _))
     (ao (aB (i := 3) ck.nd rfl (Or.inl rfl) (aC aZ (pv 3) ak)))
     (ao (aK (aE (sV K) (aA (dS K) (pv 0) (pv 4) (fun _ _ => rfl)) (pv 2) (by with_unfolding_all rfl))
      (ao (bQ (dE PySem.F.plainAttrs_list PySem.F.slot_list_append PySem.F.type_list_append aX (pv 2) (ae (aA (dS K) (pv 0) (pv 4) (fun _ _ => rfl)) af))))
      aD)))))
   (ah (aK (aE de (aA (dB K) (pv 1) ak (fun _ _ => rfl)) bf (aG _))
    (ao (ay (cU uD (aq (bX K) (by rfl) T.z_len boot_len (ae (pv 2) af)) (aA (dB K) (pv 1) ak (fun _ _ => rfl)) (aG _))))
    aD)
   (ao (ay (cU jf (aC aZ (aq (bX K) (by rfl) T.z_len boot_len (ae (pv 2) af)) (pv 3)) (aA (dB K) (pv 1) ak (fun _ _ => rfl)) (aG _)))))))), ?_⟩
  refine ⟨cz, fun m nm => ?_⟩
  have s1 := Same.new (o := .lst []) nm
  refine ⟨_, rfl, tp, _, _, _, rfl, rfl, Same.seqT s1 htp, rfl, t, rfl, ⟨_, Same.seqT s1 ht⟩, ?_⟩
  refine qW (K := K) (a := t) (xs := st.map fun (i : Nat) => V.int (i : Int)) (fun i σ Hx => ∃ (x : Option V), σ = [some (.ref a), some (.ref tp), some (.ref m), some (.int (((i - ((st.take i).filter fun j => decide (j < hs.length)).length : Nat)) : Int)), x] /\ Same H Hx /\ Hx m = some (.lst ((dd (((st.take i).filter fun j => decide (j < hs.length)).map fun i => hs.getD i 0)).map V.int)) /\ ((st.take i).filter fun j => decide (j < hs.length)).length <= i) ⟨none, rfl, s1, ag, C0 _⟩ (fun i σ Hx _ hq__ => by obtain ⟨_, _, s, _⟩ := hq__; exact Same.seqT s ht) ?_ ?_
  ·rintro i v σ Hx hi ⟨x, rfl, sx, hm, fl⟩
   obtain ⟨d, hd, rfl, ed⟩ := fB hi
   have il := (CS.mp hd).1
   have dl := cB (((st.take i).filter fun j => decide (j < hs.length)).map fun i => hs.getD i 0)
   rw [CO] at dl
   rw [bN hd, DQ]
   refine ⟨_, rfl, _, rfl, _, hs.length, rfl, .inl ⟨_, sx.seq ha, by rw [CO]⟩, _, _, rfl, rfl, _, rfl, xj (fun ge => ?_) fun ge => ?_⟩
   ·have e5 : [d].filter (fun j => decide (j < hs.length)) = [] := by
     rw [ER, if_neg (by rw [decide_eq_false (by omega)]; exact C4), Fv]
    rw [e5, Eg]
    refine ⟨_, rfl, _, _, rfl, rfl, ?_⟩
    refine ⟨some (.int (d : Int)), ?_, sx, hm, by omega⟩
    rw [show (((i + 1 - ((st.take i).filter fun j => decide (j < hs.length)).length : Nat)) : Int) = (((i - ((st.take i).filter fun j => decide (j < hs.length)).length : Nat)) : Int) + 1 by omega]
    rfl
   ·have hdl : d < hs.length := by omega
    have e5 : [d].filter (fun j => decide (j < hs.length)) = [d] := by
     rw [ER, if_pos (decide_eq_true hdl), Fv]
    rw [e5, Df, C3, Da]
    have e6 : dd (((st.take i).filter fun j => decide (j < hs.length)).map (fun i => hs.getD i 0) ++ [d].map fun i => hs.getD i 0) = b7 (dd (((st.take i).filter fun j => decide (j < hs.length)).map fun i => hs.getD i 0)) (hs.getD d 0) := ir _ _
    rw [e6]
    have e7 : i + 1 - (((st.take i).filter fun j => decide (j < hs.length)).length + 1) = i - ((st.take i).filter fun j => decide (j < hs.length)).length := by omega
    rw [e7]
    generalize ((st.take i).filter fun j => decide (j < hs.length)).length = n at fl dl
    generalize dd (((st.take i).filter fun j => decide (j < hs.length)).map fun i => hs.getD i 0) = ms at hm dl
    refine ⟨_, rfl, _, rfl, a, _, _, _, rfl, rfl, sx.seq ha, bA hdl, _, rfl, m, _, rfl, .inl (SqL.of hm), rfl, dh _, ?_⟩
    rw [if_pos rfl, eF]
    unfold b7
    refine ⟨_, rfl, ?_⟩
    by_cases z : hs.getD d 0 ∈ ms
    ·rw [decide_eq_true z, if_pos z]
     exact bE ⟨_, rfl, sx, hm, by omega⟩
    ·rw [decide_eq_false z, if_neg z]
     refine dW ⟨_, rfl, .inl ⟨rfl, _, SqL.of hm⟩, _, rfl, _, rfl, a, _, _, _, rfl, rfl, sx.seq ha, bA hdl, m, _, _, rfl, rfl, hm, jZ (by rw [CO]; omega), ?_⟩
     exact ⟨_, rfl, sx.put nm, by rw [ag, Df]; rfl, by omega⟩
  ·rintro σ Hx ⟨x, rfl, sx, hm, fl⟩
   rw [CO, Dy] at hm fl
   rw [CO, Dy]
   have q3 := q Hx sx
   refine ⟨_, rfl, tp, _, _, _, rfl, rfl, Same.seqT sx htp, rfl, rfl, _, rfl, ?_⟩
   unfold brk at q3
   rcases hwd with e | e <;> subst e
   ·refine dW ?_
    rw [if_pos rfl] at q3
    exact ⟨_, rfl, _, kO (fun i => hs.getD i 0) (st.filter fun i => decide (i < hs.length)), rfl, .inl ⟨_, SqL.of hm, by rw [CO]; rfl⟩, _, rfl, tp, _, _, _, rfl, rfl, Same.seqT sx htp, rfl, _, _, rfl, rfl, q3⟩
   ·rw [decide_eq_false (by decide)]
    refine bE ?_
    rw [if_neg (by decide)] at q3
    refine ⟨_, rfl, _, kO (fun i => hs.getD i 0) (st.filter fun i => decide (i < hs.length)), rfl, .inl ⟨_, SqL.of hm, by rw [CO]; rfl⟩, _, rfl, _, _, rfl, rfl, _, rfl, tp, _, _, _, rfl, rfl, Same.seqT sx htp, rfl, _, _, rfl, rfl, ?_⟩
    dsimp only
    rw [show (((kO (fun i => hs.getD i 0) (st.filter fun i => decide (i < hs.length)) : Nat)) : Int) + (((st.length - (st.filter fun j => decide (j < hs.length)).length : Nat)) : Int) = (((kO (fun i => hs.getD i 0) (st.filter fun i => decide (i < hs.length)) : Nat)) : Int) + (st.length : Int) - ((st.filter fun i => decide (i < hs.length)).length : Int) by omega]
    exact q3
def iN (K : PySem.W.Frag) : Sp := fun vs H Q _ => ∃ (a : Addr) (hs : List Int) (x : Addr × Addr × Str × Int × List Nat), vs = [.ref a, .ref x.1] /\ SqL K H a (hs.map V.int) /\ TieT H x /\ (∀ i ∈ x.2.2.2.2, i < hs.length) /\ ∀ H', Same H H' -> Q (.bl (B7 hs x)) H'
theorem eX : FnScope ["hands", "tie", "met", "step"] ["hands", "tie"] (au fJ) := ⟨rfl, rfl, rfl, by decide +kernel, rfl, by decide +kernel, by decide +kernel⟩
theorem nP (D : Dfs K mg aF dF) (T : Txt mg) : FnOk P w K mg base br 1 (aF 32) (dF 32) ["hands", "tie"] (iN K) := by
 refine D.law_keeps.fn.ok eX (fun vs H Q E h => ?_) (fun cdv A outer s H vs Q E hr h => ?_)
 ·obtain ⟨a, hs, x, rfl, _⟩ := h; rfl
 ·have hu := aU hr
  obtain ⟨a, hs, x, rfl, ha, te, hlt, q⟩ := h
  refine ⟨_, (ah (aB (i := 2) eX.nd rfl (Or.inl rfl) (aM af))
   (ah (aP PassesOwn.never rfl (BO K (aA (dB K) (pv 1) ak (fun _ _ => rfl))) (az (i := 3) eX.nd rfl (Or.inl rfl))
    (ao (aK (aE (sV K) (aA (dS K) (pv 0) (pv 3) (fun _ _ => rfl)) (pv 2) (by with_unfolding_all rfl))
     (ao (bQ (dE PySem.F.plainAttrs_list PySem.F.slot_list_append PySem.F.type_list_append aX (pv 2) (ae (aA (dS K) (pv 0) (pv 3) (fun _ _ => rfl)) af))))
     aD)))
   (ah (aK (aE de (aA (dB K) (pv 1) ak (fun _ _ => rfl)) bf (aG _))
    (ao (ay (cU ra (aq (bX K) (by rfl) T.z_len boot_len (ae (pv 2) af)) (aA (dB K) (pv 1) ak (fun _ _ => rfl)) (aG _))))
    aD)
   (ao (ay (cU yp (aq (bX K) (by rfl) T.z_len boot_len (ae (pv 2) af)) (aA (dB K) (pv 1) ak (fun _ _ => rfl)) (aG _))))))), ?_⟩
  obtain ⟨tp, t, wd, k, st⟩ := x
  have htp := te.tp
  have ht := te.ts
  have hwd := te.wd
  have h6 := te.sl
  dsimp only at htp ht hwd hlt h6 q
  refine ⟨cz, fun m nm => ?_⟩
  have s1 := Same.new (o := .lst []) nm
  refine ⟨_, rfl, tp, _, _, _, rfl, rfl, SqT.of (s1 _ _ htp), rfl, t, rfl, ⟨_, SqT.of (s1 _ _ ht)⟩, ?_⟩
  refine qW (K := K) (a := t) (xs := st.map fun (i : Nat) => V.int (i : Int)) (fun i σ Hx => ∃ (x : Option V), σ = [some (.ref a), some (.ref tp), some (.ref m), x] /\ Same H Hx /\ Hx m = some (.lst ((dd ((st.take i).map fun i => hs.getD i 0)).map V.int))) ⟨none, rfl, s1, ag⟩ (fun i σ Hx _ hq__ => by obtain ⟨_, _, s, _⟩ := hq__; exact SqT.of (s _ _ ht)) ?_ ?_
  ·rintro i v σ Hx hi ⟨x, rfl, sx, hm⟩
   obtain ⟨d, hd, rfl, ed⟩ := fB hi
   have hdl := hlt d (CW hd)
   have il := (CS.mp hd).1
   have es : dd ((st.take (i + 1)).map fun i => hs.getD i 0) = b7 (dd ((st.take i).map fun i => hs.getD i 0)) (hs.getD d 0) := by
    rw [bN hd, Df]
    exact ir _ _
   have dl := cB ((st.take i).map fun i => hs.getD i 0)
   rw [CO, DU] at dl
   rw [es]
   generalize dd ((st.take i).map fun i => hs.getD i 0) = ms at hm dl
   refine ⟨_, rfl, _, rfl, a, _, _, _, rfl, rfl, sx.seq ha, bA hdl, _, rfl, m, _, rfl, .inl (SqL.of hm), rfl, dh _, ?_⟩
   rw [if_pos rfl, eF]
   unfold b7
   refine ⟨_, rfl, ?_⟩
   by_cases z : hs.getD d 0 ∈ ms
   ·rw [decide_eq_true z, if_pos z]
    exact bE ⟨_, rfl, sx, hm⟩
   ·rw [decide_eq_false z, if_neg z]
    refine dW ⟨_, rfl, .inl ⟨rfl, _, SqL.of hm⟩, _, rfl, _, rfl, a, _, _, _, rfl, rfl, sx.seq ha, bA hdl, m, _, _, rfl, rfl, hm, jZ (by rw [CO]; omega), ?_⟩
    exact ⟨_, rfl, sx.put nm, by rw [ag, Df]; rfl⟩
  ·rintro σ Hx ⟨x, rfl, sx, hm⟩
   rw [CO, Dy] at hm
   have q3 : Q (.bl (kp (fun i => hs.getD i 0) wd k st)) Hx := q Hx sx
   refine ⟨_, rfl, tp, _, _, _, rfl, rfl, SqT.of (sx _ _ htp), rfl, rfl, _, rfl, ?_⟩
   unfold kp at q3
   rcases hwd with e | e <;> subst e
   ·refine dW ?_
    rw [if_pos rfl] at q3
    exact ⟨_, rfl, _, kO (fun i => hs.getD i 0) st, rfl, .inl ⟨_, SqL.of hm, by rw [CO]; rfl⟩, _, rfl, tp, _, _, _, rfl, rfl, SqT.of (sx _ _ htp), rfl, _, _, rfl, rfl, q3⟩
   ·rw [decide_eq_false (by decide)]
    refine bE ?_
    rw [if_neg (by decide)] at q3
    exact ⟨_, rfl, _, kO (fun i => hs.getD i 0) st, rfl, .inl ⟨_, SqL.of hm, by rw [CO]; rfl⟩, _, rfl, tp, _, _, _, rfl, rfl, SqT.of (sx _ _ htp), rfl, _, _, rfl, rfl, q3⟩
def jw (K : PySem.W.Frag) : Sp := fun vs H Q _ => ∃ (ha b ta : Addr) (rs : List Addr) (rows : eO) (ts : List (Addr × Addr × Str × Int × List Nat)) (hs : List Int), vs = [.ref ha, .ref b, .ref ta] /\ H ha = some (.lst (hs.map V.int)) /\ SqL K H b (rs.map V.ref) /\ BillL H rs rows /\ rows.length <= 6 /\ (∀ row ∈ rows, row.length <= 20) /\ Ties K H ta ts 100 /\ (∀ x ∈ ts, TieG rows.length x) /\ IsPlan (cF rows) (ts.map e8) hs /\ ∀ H', Same H H' -> Q (.bl true) H'
theorem fP : FnScope ["hands", "bill", "ties", "k", "tie"] ["hands", "bill", "ties"] (au gQ) := ⟨rfl, rfl, rfl, by decide +kernel, rfl, by decide +kernel, by decide +kernel⟩
theorem pM (D : Dfs K mg aF dF) (T : Txt mg) : FnOk P w K mg base br 2 (aF 33) (dF 33) ["hands", "bill", "ties"] (jw K) := by
 have Glaw_whole : FnOk P w K mg base br 1 (aF 24) (dF 24) ["found"] (cG K) := cZ D T
 have Glaw_keeps : FnOk P w K mg base br 1 (aF 32) (dF 32) ["hands", "tie"] (iN K) := nP D T
 refine D.law_plan.fn.ok fP (fun vs H Q E h => ?_) (fun cdv A outer s H vs Q E hr h => ?_)
 ·obtain ⟨ha, b, ta, rs, rows, ts, hs, rfl, _⟩ := h; rfl
 ·have hu := aU hr
  obtain ⟨ha, b, ta, rs, rows, ts, hs, rfl, hh, hb, bl, r6, r20, tt, tg, ip, q⟩ := h
  refine ⟨_, (ah (aK (PW.pt (dC (bH (bG (aq (m7 K) (by rfl) T.z_isinstance boot_isinstance (ae (pv 0) (ae (hZ T.z_list) af))))) (dM (aE jQ (aq (bX K) (by rfl) T.z_len boot_len (ae (pv 0) af)) (aq (bX K) (by rfl) T.z_len boot_len (ae (pv 1) af)) (aG _)))))
    (ao (ay bY))
    aD)
   (ah (aP PassesOwn.never rfl (bq rfl T.z_range (ae (aq (bX K) (by rfl) T.z_len boot_len (ae (pv 1) af)) af)) (az (i := 3) fP.nd rfl (Or.inl rfl))
    (ao (aK (PW.pt (dC (bH (bG (pc D.law_whole Glaw_whole (hr.mono (by decide)) (ae (aA (dS K) (pv 0) (pv 3) (fun _ _ => rfl)) af)))) (dM (aE (sV K) (aA (dS K) (pv 0) (pv 3) (fun _ _ => rfl)) (be ["pair"] [none] rfl (h8 K (aA (dS K) (pv 1) (pv 3) (fun _ _ => rfl))) (fun _ => az (i := 0) (bI (N := ["pair"]) (by decide +kernel)) rfl (Or.inl rfl)) (fun _ => bR) (fun _ => (aA (dB K) (pv 0) ak (fun _ _ => rfl))) ((.cons (fun _ e => by cases e) .nil))) (by with_unfolding_all rfl)))))
     (ao (ay bY))
     aD)))
   (ah (aP PassesOwn.never rfl (h8 K (pv 2)) (az (i := 4) fP.nd rfl (Or.inl rfl))
    (ao (aK (bH (bG (pc D.law_keeps Glaw_keeps (hr.mono (by decide)) (ae (pv 0) (ae (pv 4) af)))))
     (ao (ay bY))
     aD)))
   (ao (ay bY))))), ?_⟩
  have rl : rs.length = rows.length := bl.len
  have hl : hs.length = rows.length := by rw [ip.len, fF]
  refine ⟨_, rfl, _, _, _, true, rfl, .lst hh, rfl, _, rfl, bE ?_⟩
  refine ⟨_, rfl, _, hs.length, rfl, .inl ⟨_, SqL.of hh, by rw [CO]⟩, _, rfl, _, rows.length, rfl, .inl ⟨_, hb, by rw [CO, rl]⟩, rfl, _, rfl, vP (by rw [hl]) ?_⟩
  refine ⟨_, rfl, _, rows.length, rfl, .inl ⟨_, hb, by rw [CO, rl]⟩, _, rfl, jC _, by omega, ?_⟩
  rw [Du]
  refine b3 (n := rows.length) (fun i σ Hx => ∃ x : Option V, σ = [some (.ref ha), some (.ref b), some (.ref ta), x, none] /\ Same H Hx) ⟨none, rfl, Same.refl _⟩ ?_ ?_
  ·rintro i σ Hx hi ⟨x, rfl, sx⟩
   have ei : (0 : Int) + (i : Int) = ((i : Nat) : Int) := by omega
   rw [ei]
   obtain ⟨r, er, ps, hps, tps⟩ := (bl.same sx).at (CP hi)
   have ptl := tps.len
   have rw20 := r20 _ (Do hi)
   have mem : hs.getD i 0 ∈ aJ rows[i] := by
    have z := ip.of i (by omega)
    have e : (cF rows).getD i [] = aJ rows[i] := by
     unfold cF
     rw [CT, CU, CP hi]; rfl
    rw [e] at z
    exact z
   generalize rows[i] = row at tps ptl rw20 mem
   refine ⟨_, rfl, _, rfl, ha, _, _, _, rfl, rfl, SqL.of (sx _ _ hh), bA (by omega), _, rfl, _, rfl, bE ?_⟩
   refine ⟨_, rfl, _, rfl, ha, _, _, _, rfl, rfl, SqL.of (sx _ _ hh), bA (by omega), _, rfl, _, rfl, b, _, _, _, rfl, rfl, sx.seq hb, bZ (by rw [CU, er]; rfl), r, rfl, ⟨_, SqL.of hps⟩, ?_⟩
   refine bx (xs := ps.map V.ref) (fun _ => true) (fun j => .int (row.getD j (0, 0)).1) (SqL.of hps) (by rw [CO]; omega) (fun _ _ _ _ _ _ k => k _ (Same.refl _)) (fun j x hx _ H2 R s2 k => ?_) fun nw H2 s2 nnw hnw => ?_
   ·rw [CU] at hx
    obtain ⟨t, et, rfl⟩ := CV.mp hx
    obtain ⟨x, ex, tx⟩ := bh tps et
    rw [CT, ex] at k
    exact ⟨_, rfl, t, _, _, _, rfl, rfl, SqT.of (s2 _ _ tx), rfl, k H2 (Same.refl _)⟩
   rw [Dr.mpr (fun _ _ => rfl), CO, ptl, iC (g := fun x => V.int x.1) fun i x hx => by rw [CT, hx]; rfl] at hnw
   have hnw : H2 nw = some (.lst ((aJ row).map V.int)) := by rw [hnw]; unfold aJ; rw [Dq]; rfl
   refine ⟨nw, _, rfl, .inl (SqL.of hnw), rfl, dh _, ?_⟩
   rw [if_pos rfl, eF]
   exact ⟨_, rfl, vR mem ⟨_, rfl, sx.trans s2⟩⟩
  rintro σ Hx ⟨x, rfl, sx⟩
  refine ⟨_, rfl, ta, rfl, ⟨_, sx.seq tt.ls⟩, ?_⟩
  refine aY (K := K) (a := ta) (xs := ts.map fun x => V.ref x.1) (fun i σ Hy => ∃ y : Option V, σ = [some (.ref ha), some (.ref b), some (.ref ta), x, y] /\ Same H Hy) ⟨none, rfl, sx⟩ (fun i σ Hy _ hq__ => by obtain ⟨_, _, s⟩ := hq__; exact s.seq tt.ls) ?_ ?_
  ·rintro i v σ Hy hi ⟨y, rfl, sy⟩
   rw [CU] at hi
   obtain ⟨z, hz, rfl⟩ := CV.mp hi
   have zm := CW hz
   have kz : B7 hs z = true := ip.kp (e8 z) (C9.mpr ⟨z, zm, rfl⟩)
   refine ⟨_, rfl, _, rfl, ha, hs, z, rfl, SqL.of (sy _ _ hh), (tt.ea z zm).same sy, (fun i hi => by rw [hl]; exact (tg z zm).lt i hi), fun H3 s3 => ⟨_, rfl, ?_⟩⟩
   rw [kz]
   exact bE ⟨_, rfl, sy.trans s3⟩
  ·rintro σ Hy ⟨y, rfl, sy⟩
   exact q Hy sy
theorem uq {rows : eO} {p : List Int} {b : Nat} (c : cH p) (hb : b < (dd p).length) (x : Int) : x ∈ lA rows (gf p b) <-> x ∈ iz (cF rows) p b := by
 unfold iz
 rw [vM _ (iy c hb), fY (iy c hb)]
 have e : ∀ s, (cF rows).getD s [] = aJ (rows.getD s []) := fun s => by
  unfold cF
  rw [CT, CU, CT]
  cases rows[s]? <;> rfl
 simp only [e]
def iO (K : PySem.W.Frag) : Sp := fun vs H Q _ => ∃ (ba pa b : Addr) (p : List Int) (rs : List Addr) (rows : eO) (bs : List Nat), vs = [.ref ba, .ref pa, .ref b] /\ SqL K H pa (p.map V.int) /\ H b = some (.lst (rs.map V.ref)) /\ BillL H rs rows /\ rows.length <= 6 /\ (∀ row ∈ rows, row.length <= 20 /\ (aJ row).Nodup) /\ cH p /\ p.length <= rows.length /\ H ba = some (.lst (bs.map fun (i : Nat) => V.int (i : Int))) /\ Short (pools (cF rows) p) bs /\ ∀ H', Same H H' -> Q (.bl true) H'
theorem b5 : FnScope ["blocks", "pattern", "bill", "here", "last", "block"] ["blocks", "pattern", "bill"] (au fK) := ⟨rfl, rfl, rfl, by decide +kernel, rfl, by decide +kernel, by decide +kernel⟩
theorem nQ (D : Dfs K mg aF dF) (T : Txt mg) : FnOk P w K mg base br 2 (aF 34) (dF 34) ["blocks", "pattern", "bill"] (iO K) := by
 have Glaw_whole : FnOk P w K mg base br 1 (aF 24) (dF 24) ["found"] (cG K) := cZ D T
 have Glaw_wide : FnOk P w K mg base br 1 (aF 29) (dF 29) ["pattern"] (fO K) := ju D T
 have Glaw_pool : FnOk P w K mg base br 1 (aF 30) (dF 30) ["block", "pattern", "bill"] (jv K) := pL D T
 refine D.law_short.fn.ok b5 (fun vs H Q E h => ?_) (fun cdv A outer s H vs Q E hr h => ?_)
 ·obtain ⟨ba, pa, b, p, rs, rows, bs, rfl, _⟩ := h; rfl
 ·have hu := aU hr
  obtain ⟨ba, pa, b, p, rs, rows, bs, rfl, hp, hb, bl, r6, rok, c, hl, hba, sh, q⟩ := h
  refine ⟨_, (ah (aK (bH (bG (aq (m7 K) (by rfl) T.z_isinstance boot_isinstance (ae (pv 0) (ae (hZ T.z_list) af)))))
    (ao (ay bY))
    aD)
   (ah (aB (i := 3) b5.nd rfl (Or.inl rfl) (aM af))
   (ah (aB (i := 4) b5.nd rfl (Or.inl rfl) (Ax yX ak))
   (ah (aP PassesOwn.never rfl (h8 K (pv 0)) (az (i := 5) b5.nd rfl (Or.inl rfl))
    (ah (aK (PW.pt (dC (bH (bG (pc D.law_whole Glaw_whole (hr.mono (by decide)) (ae (pv 5) af)))) (dM (bH (oa jf jf (pv 4) (pv 5) (pc D.law_wide Glaw_wide (hr.mono (by decide)) (ae (pv 1) af)))))))
     (ao (ay bY))
     aD)
    (ah (aB (i := 3) b5.nd rfl (Or.inl rfl) (aC gA (pv 3) (pc D.law_pool Glaw_pool (hr.mono (by decide)) (ae (pv 5) (ae (pv 1) (ae (pv 2) af))))))
    (ao (aB (i := 4) b5.nd rfl (Or.inl rfl) (pv 5))))))
   (ao (ay (cU jf (aq (rM w) (by rfl) T.z_len boot_len (ae (aW (j5 w K) (by rfl) T.z_set PyProof.Rows.boot_set (ae (pv 3) af)) af)) (aq (bX K) (by rfl) T.z_len boot_len (ae (pv 0) af)) (aG _)))))))), ?_⟩
  have dl := cB p
  obtain ⟨X, hX, hq⟩ := sh.few
  have blt : ∀ b ∈ bs, b < (dd p).length := fun b hb => by
   obtain ⟨r, e, _⟩ := hq b hb
   have := (CS.mp e).1
   rw [cK] at this
   exact this
  have b6 : bs.length <= 6 := by
   have nd : bs.Nodup := sh.up.imp fun h => C6 h
   have := nd.length_le_of_subset (l₂ := CY (dd p).length) fun i hi => Ds.mpr (blt i hi)
   rw [DH] at this
   omega
  refine ⟨_, rfl, _, _, _, true, rfl, .lst hba, rfl, _, rfl, bE ?_⟩
  refine ⟨cz, fun l0 n0 => ?_⟩
  have s1 := Same.new (o := .lst []) n0
  refine ⟨_, rfl, ?_⟩
  refine ⟨_, rfl, ba, rfl, ⟨_, SqL.of (s1 _ _ hba)⟩, ?_⟩
  refine aY (K := K) (a := ba) (xs := bs.map fun (i : Nat) => V.int (i : Int)) (fun i σ Hx => ∃ (l : Addr) (hs : List Int) (la : Int) (x : Option V), σ = [some (.ref ba), some (.ref pa), some (.ref b), some (.ref l), some (.int la), x] /\ Same H Hx /\ Hx l = some (.lst (hs.map V.int)) /\ (∀ x ∈ hs, x ∈ X) /\ hs.length <= 20 * i /\ (i = 0 /\ la = -1 \/ ∃ j d, i = j + 1 /\ bs[j]? = some d /\ la = (d : Int))) ⟨l0, [], -1, none, rfl, s1, ag, (fun _ z => by cases z), Dk _, .inl ⟨rfl, rfl⟩⟩ (fun i σ Hx _ hq__ => by obtain ⟨_, _, _, _, _, s, _⟩ := hq__; exact SqL.of (s _ _ hba)) ?_ ?_
  ·rintro i v σ Hx hi ⟨l, hs, la, x, rfl, sx, hl1, hsub, hlen, hla⟩
   obtain ⟨d, hd, rfl, ed⟩ := fB hi
   have il := (CS.mp hd).1
   have dm := CW hd
   have hdl := blt d dm
   have lt : la < (d : Int) := by
    rcases hla with ⟨_, rfl⟩ | ⟨j, e, rfl, hj, rfl⟩
    ·omega
    ·obtain ⟨h1, e1⟩ := CS.mp hj
     obtain ⟨h2, e2⟩ := CS.mp hd
     have := DE.mp sh.up j (j + 1) h1 h2 (by omega)
     rw [e1, e2] at this
     omega
   refine ⟨_, rfl, (d : Int), rfl, _, rfl, bE ?_⟩
   refine ⟨_, rfl, _, rfl, _, _, rfl, rfl, _, rfl, xj (fun _ => ?_) fun z => absurd lt z⟩
   refine ⟨_, rfl, pa, p, rfl, sx.seq hp, by omega, fun H2 s2 => ⟨_, _, rfl, rfl, _, rfl, ?_⟩⟩
   rw [decide_eq_true (by omega)]
   refine bE ?_
   have s02 := sx.trans s2
   refine ⟨_, rfl, _, rfl, _, rfl, _, rfl, d, pa, b, p, rs, rows, rfl, s02.seq hp, s02 _ _ hb, bl.same s02, c, hdl, hl, r6, rok, fun po H3 s3 npo hpo => ?_⟩
   have kl := pK (fun row h => (rok row h).1) (gf p d)
   refine ⟨l, po, _, _, rfl, rfl, (s2.trans s3) _ _ hl1, hpo, wF (by rw [CO, CO]; omega), fun cc nc => ?_⟩
   refine ⟨_, rfl, cc, hs ++ lA rows (gf p d), (d : Int), some (.int (d : Int)), rfl, (s02.trans s3).to nc, by rw [ag, Df], fun x hx => ?_, by rw [C3]; omega, .inr ⟨i, d, rfl, hd, rfl⟩⟩
   rcases C7.mp hx with z | z
   ·exact hsub x z
   ·obtain ⟨r, er, hr'⟩ := hq d dm
    rw [iA hdl] at er
    cases er
    exact hr' x ((uq c hdl x).mp z)
  ·rintro σ Hx ⟨l, hs, la, x, rfl, sx, hl1, hsub, hlen, hla⟩
   rw [CO] at hlen
   have al : (dd hs).length <= X.length := (l9 hs).length_le_of_subset fun x hx => hsub x (bJ.mp hx)
   refine ⟨_, rfl, l, hs, rfl, SqL.of hl1, by omega, fun S nS => ⟨S, _, rfl, ag, ?_⟩⟩
   have s2 := sx.to (o := .ext (SX w S (dd hs))) nS
   refine ⟨_, rfl, _, bs.length, rfl, .inl ⟨_, SqL.of (s2 _ _ hba), by rw [CO]⟩, _, _, rfl, rfl, ?_⟩
   have z := q _ s2
   rw [<- decide_eq_true (p := (((dd hs).length : Nat) : Int) < ((bs.length : Nat) : Int)) (by omega)] at z
   exact z
def dR (K : PySem.W.Frag) (m : Nat) : Sp := fun vs H Q _ => ∃ (pa b ta : Addr) (v : V) (p : List Int) (rs : List Addr) (rows : eO) (ts : List (Addr × Addr × Str × Int × List Nat)) (pp : Pap), vs = [.ref pa, .ref b, .ref ta, v] /\ H pa = some (.lst (p.map V.int)) /\ H b = some (.lst (rs.map V.ref)) /\ BillL H rs rows /\ rows.length <= 6 /\ (∀ row ∈ rows, row.length <= 20 /\ (aJ row).Nodup) /\ Ties K H ta ts 100 /\ cH p /\ p.length <= rows.length /\ rows.length < p.length + m /\ PapAt H v pp /\ Shows (cF rows) (ts.map e8) p pp /\
 ∀ H', Same H H' -> Q (.bl true) H'
def iP (K : PySem.W.Frag) : Sp := dR K 7
theorem iQ : FnScope ["pattern", "bill", "ties", "paper", "k"] ["pattern", "bill", "ties", "paper"] (au fL) := ⟨rfl, rfl, rfl, by decide +kernel, rfl, by decide +kernel, by decide +kernel⟩
theorem nR (D : Dfs K mg aF dF) (T : Txt mg) : FnOk P w K mg base br 17 (aF 35) (dF 35) ["pattern", "bill", "ties", "paper"] (iP K) := by
 have Glaw_whole : FnOk P w K mg base br 1 (aF 24) (dF 24) ["found"] (cG K) := cZ D T
 have Glaw_wide : FnOk P w K mg base br 1 (aF 29) (dF 29) ["pattern"] (fO K) := ju D T
 have Glaw_breaks : FnOk P w K mg base br 1 (aF 31) (dF 31) ["pattern", "tie"] (gw K) := lH D T
 have Glaw_short : FnOk P w K mg base br 2 (aF 34) (dF 34) ["blocks", "pattern", "bill"] (iO K) := nQ D T
 have all : ∀ n, FnOk P w K mg base br (10 + n) (aF 35) (dF 35) ["pattern", "bill", "ties", "paper"] (dR K n) := by
  intro n
  induction n with
  | zero =>
   have no : ∀ vs H Q E, ¬ dR K 0 vs H Q E := fun vs H Q E h => by
    obtain ⟨pa, b, ta, v, p, rs, rows, ts, pp, _, _, _, _, _, _, _, _, h1, h2, _⟩ := h
    omega
   exact ⟨fun vs H Q E h => absurd h (no vs H Q E), fun A outer s H args us vs Q E _ _ _ _ h => absurd h (no vs H Q E)⟩
  | succ n Glaw_shows =>
   refine D.law_shows.fn.ok iQ (fun vs H Q E h => ?_) (fun cdv A outer s H vs Q E hr h => ?_)
   ·obtain ⟨pa, b, ta, v, p, rs, rows, ts, pp, rfl, _⟩ := h; rfl
   obtain ⟨pa, b, ta, v, p, rs, rows, ts, pp, rfl, hpa, hb, bl, r6, rok, tt, c, hl, hlm, pat, sh, q⟩ := h
   have rk : Nat.add 10 n = 10 + n := rfl
   refine ⟨_, (ah (aK (PW.pt (dC (bH (bG (aq (m7 K) (by rfl) T.z_isinstance boot_isinstance (ae (pv 3) (ae (oy T.z_tuple) af))))) (dM (aE jQ (aq (bX K) (by rfl) T.z_len boot_len (ae (pv 3) af)) ak (aG _)))))
    (ao (ay bY))
    aD)
   (ah (aK (aE de (aA (dB K) (pv 3) ak (fun _ _ => rfl)) bf (aG _))
    (ah (aK (PW.pt (dC (bH (bG (pc D.law_whole Glaw_whole (hr.mono (by have := rk; omega)) (ae (aA (dB K) (pv 3) ak (fun _ _ => rfl)) af)))) (dM (bH (oa ra jf ak (aA (dB K) (pv 3) ak (fun _ _ => rfl)) (aq (bX K) (by rfl) T.z_len boot_len (ae (pv 2) af)))))))
     (ao (ay bY))
     aD)
    (ao (ay (pc D.law_breaks Glaw_breaks (hr.mono (by have := rk; omega)) (ae (pv 0) (ae (aA (dS K) (pv 2) (aA (dB K) (pv 3) ak (fun _ _ => rfl)) (fun _ _ => rfl)) af))))))
    aD)
   (ah (aK (aE de (aA (dB K) (pv 3) ak (fun _ _ => rfl)) bf (aG _))
    (ao (ay (pc D.law_short Glaw_short (hr.mono (by have := rk; omega)) (ae (aA (dB K) (pv 3) ak (fun _ _ => rfl)) (ae (pv 0) (ae (pv 1) af))))))
    aD)
   (ah (aK (PW.pt (dC (aE jQ (aA (dB K) (pv 3) ak (fun _ _ => rfl)) bf (aG _)) (dC (bH (bG (aq (m7 K) (by rfl) T.z_isinstance boot_isinstance (ae (aA (dB K) (pv 3) ak (fun _ _ => rfl)) (ae (hZ T.z_list) af))))) (dM (aE de (aq (bX K) (by rfl) T.z_len boot_len (ae (pv 0) af)) (aq (bX K) (by rfl) T.z_len boot_len (ae (pv 1) af)) (aG _))))))
    (ao (ay bY))
    aD)
   (ah (aK (aE jQ (aq (bX K) (by rfl) T.z_len boot_len (ae (aA (dB K) (pv 3) ak (fun _ _ => rfl)) af)) (aC aZ (pc D.law_wide Glaw_wide (hr.mono (by have := rk; omega)) (ae (pv 0) af)) ak) (aG _))
    (ao (ay bY))
    aD)
   (ah (aP PassesOwn.never rfl (bq rfl T.z_range (ae (aq (bX K) (by rfl) T.z_len boot_len (ae (aA (dB K) (pv 3) ak (fun _ _ => rfl)) af)) af)) (az (i := 4) iQ.nd rfl (Or.inl rfl))
    (ao (aK (bH (bG (pc D.law_shows Glaw_shows hr (ae (aC gA (pv 0) (aM (ae (pv 4) af))) (ae (pv 1) (ae (pv 2) (ae (aA (dS K) (aA (dB K) (pv 3) ak (fun _ _ => rfl)) (pv 4) (fun _ _ => rfl)) af)))))))
     (ao (ay bY))
     aD)))
   (ao (ay bY)))))))), ?_⟩
   have dl := cB p
   have rl : rs.length = rows.length := bl.len
   cases sh with
   | @tie _ j t hj hbk =>
    cases pat with
    | @tie tp _ ht =>
    refine ⟨_, rfl, _, _, _, true, rfl, .tup ht, rfl, _, rfl, bE ?_⟩
    refine ⟨_, rfl, _, _, rfl, .inr ⟨_, SqT.of ht, rfl⟩, rfl, _, rfl, xi (fun h => absurd rfl h) fun _ => ?_⟩
    refine ⟨_, rfl, tp, _, _, _, rfl, rfl, SqT.of ht, rfl, rfl, _, rfl, ?_⟩
    rw [decide_eq_true rfl]
    refine dW ?_
    rw [CU] at hj
    obtain ⟨x, hx, rfl⟩ := CV.mp hj
    have jl := (CS.mp hx).1
    have te := tt.ea x (CW hx)
    refine ⟨_, rfl, tp, _, _, _, rfl, rfl, SqT.of ht, rfl, ((j : Nat) : Int), rfl, _, rfl, bE ?_⟩
    refine ⟨_, rfl, tp, _, _, _, rfl, rfl, SqT.of ht, rfl, _, _, rfl, rfl, _, rfl, xj (fun _ => ?_) fun z => absurd z (by omega)⟩
    refine ⟨_, rfl, _, ts.length, rfl, .inl ⟨_, tt.ls, by rw [CO]⟩, _, _, rfl, rfl, _, rfl, ?_⟩
    rw [decide_eq_true (by omega)]
    refine bE ?_
    refine ⟨_, rfl, _, rfl, _, rfl, tp, _, _, _, rfl, rfl, SqT.of ht, rfl, ta, _, _, _, rfl, rfl, tt.ls, bZ (by rw [CU, hx]; rfl), pa, x.1, x.2.1, p, x.2.2.2.2, x.2.2.1, x.2.2.2.1, rfl, SqL.of hpa, SqT.of te.tp, SqT.of te.ts, te.wd, te.sl, fun H1 s1 => ?_⟩
    have hbk : brk (fun i => p.getD i 0) p.length x.2.2.1 x.2.2.2.1 x.2.2.2.2 = true := hbk
    rw [hbk]
    exact q H1 s1
   | @short _ bs sh =>
    cases pat with
    | @short tp l _ ht hl' =>
    refine ⟨_, rfl, _, _, _, true, rfl, .tup ht, rfl, _, rfl, bE ?_⟩
    refine ⟨_, rfl, _, _, rfl, .inr ⟨_, SqT.of ht, rfl⟩, rfl, _, rfl, xi (fun h => absurd rfl h) fun _ => ?_⟩
    refine ⟨_, rfl, tp, _, _, _, rfl, rfl, SqT.of ht, rfl, rfl, _, rfl, ?_⟩
    rw [decide_eq_false (by decide)]
    refine bE ?_
    refine ⟨_, rfl, tp, _, _, _, rfl, rfl, SqT.of ht, rfl, rfl, _, rfl, ?_⟩
    rw [decide_eq_true rfl]
    exact dW ⟨_, rfl, tp, _, _, _, rfl, rfl, SqT.of ht, rfl, _, rfl, _, rfl, l, pa, b, p, rs, rows, bs, rfl, SqL.of hpa, hb, bl, r6, rok, c, hl, hl', sh, q⟩
   | @split _ pps lt hn hs =>
    cases pat with
    | @split tp l vs _ ht hl' hvn hat =>
    rw [fF] at lt
    refine ⟨_, rfl, _, _, _, true, rfl, .tup ht, rfl, _, rfl, bE ?_⟩
    refine ⟨_, rfl, _, _, rfl, .inr ⟨_, SqT.of ht, rfl⟩, rfl, _, rfl, xi (fun h => absurd rfl h) fun _ => ?_⟩
    refine ⟨_, rfl, tp, _, _, _, rfl, rfl, SqT.of ht, rfl, rfl, _, rfl, ?_⟩
    rw [decide_eq_false (by decide)]
    refine bE ?_
    refine ⟨_, rfl, tp, _, _, _, rfl, rfl, SqT.of ht, rfl, rfl, _, rfl, ?_⟩
    rw [decide_eq_false (by decide)]
    refine bE ?_
    refine ⟨_, rfl, tp, _, _, _, rfl, rfl, SqT.of ht, rfl, rfl, _, rfl, ?_⟩
    rw [decide_eq_true rfl]
    refine bE ?_
    refine ⟨_, rfl, tp, _, _, _, rfl, rfl, SqT.of ht, rfl, _, _, _, true, rfl, .lst hl', rfl, _, rfl, bE ?_⟩
    refine ⟨_, rfl, _, p.length, rfl, .inl ⟨_, SqL.of hpa, by rw [CO]⟩, _, rfl, _, rows.length, rfl, .inl ⟨_, SqL.of hb, by rw [CO, rl]⟩, rfl, _, rfl, uW (fun e => absurd e (by omega)) fun _ => ?_⟩
    refine ⟨_, rfl, tp, _, _, _, rfl, rfl, SqT.of ht, rfl, _, vs.length, rfl, .inl ⟨_, SqL.of hl', rfl⟩, _, rfl, pa, p, rfl, SqL.of hpa, by omega, fun H1 s1 => ⟨_, _, rfl, rfl, rfl, _, rfl, xi (fun h => absurd ?_ h) fun _ => ?_⟩⟩
    ·omega
    refine ⟨_, rfl, tp, _, _, _, rfl, rfl, SqT.of (s1 _ _ ht), rfl, _, vs.length, rfl, .inl ⟨_, SqL.of (s1 _ _ hl'), rfl⟩, _, rfl, jC _, by omega, ?_⟩
    rw [Du]
    refine b3 (n := vs.length) (fun i σ H2 => ∃ x : Option V, σ = [some (.ref pa), some (.ref b), some (.ref ta), some (.ref tp), x] /\ Same H H2) ⟨none, rfl, s1⟩ ?_ ?_
    ·rintro i σ H2 hi ⟨x, rfl, s2⟩
     have ei : (0 : Int) + (i : Int) = ((i : Nat) : Int) := by omega
     rw [ei]
     have hpa2 := s2 _ _ hpa
     have hip : i < pps.length := by omega
     refine ⟨_, rfl, _, rfl, cz, fun q1 nq1 => ?_⟩
     have s3 := Same.new (o := .lst [V.int ((i : Nat) : Int)]) nq1
     refine ⟨pa, q1, _, _, rfl, rfl, s3 _ _ hpa2, ag, wF (by simp; omega), fun r nr => ?_⟩
     have e5 : p.map V.int ++ [V.int ((i : Nat) : Int)] = (p ++ [((i : Nat) : Int)]).map V.int := by rw [Df]; rfl
     rw [e5]
     have s4 := s3.to (o := .lst ((p ++ [((i : Nat) : Int)]).map V.int)) nr
     have s04 := s2.trans s4
     refine ⟨_, rfl, _, rfl, _, rfl, tp, _, _, _, rfl, rfl, SqT.of (s04 _ _ ht), rfl, _, rfl, l, _, _, _, rfl, rfl, SqL.of (s04 _ _ hl'), bZ (CP hi), r, b, ta, vs[i], p ++ [((i : Nat) : Int)], rs, rows, ts, pps[i], rfl, ag, s04 _ _ hb, bl.same s04, r6, rok, ⟨s04.seq tt.ls, fun x hx => (tt.ea x hx).same s04, tt.ln⟩, j6 c (by omega), by simp; omega, by simp; omega, (hat i _ _ (CP hi) (CP hip)).same s04, hs i _ (CP hip), fun H5 s5 => ⟨_, rfl, bE ⟨_, rfl, s04.trans s5⟩⟩⟩
    ·rintro σ H2 ⟨x, rfl, s2⟩
     exact q H2 s2
 exact all 7
def kL (K : PySem.W.Frag) : Sp := fun vs H Q _ => ∃ (b : Addr) (rs : List Addr) (rows : eO), vs = [.ref b] /\ SqL K H b (rs.map V.ref) /\ BillL H rs rows /\ rows.length <= 6 /\ (∀ row ∈ rows, row.length <= 20) /\ ∀ (l : Addr) (ms : List Addr) (H' : Hp), Same H H' -> H l = none -> H' l = some (.lst (ms.map V.ref)) -> RowsL H' ms (cF rows) -> (∀ m ∈ ms, H m = none) -> Q (.ref l) H'
theorem gT : FnScope ["bill", "may", "pairs"] ["bill"] (au jb) := ⟨rfl, rfl, rfl, by decide +kernel, rfl, by decide +kernel, by decide +kernel⟩
theorem qT (D : Dfs K mg aF dF) (T : Txt mg) : FnOk P w K mg base br 1 (aF 36) (dF 36) ["bill"] (kL K) := by
 refine D.law_may.fn.ok gT (fun vs H Q E h => ?_) (fun cdv A outer s H vs Q E hr h => ?_)
 ·obtain ⟨b, rs, rows, rfl, _⟩ := h; rfl
 ·have hu := aU hr
  obtain ⟨b, rs, rows, rfl, hb, bl, r6, r20, q⟩ := h
  refine ⟨_, (ah (aB (i := 1) gT.nd rfl (Or.inl rfl) (aM af))
   (ah (aP PassesOwn.never rfl (h8 K (pv 0)) (az (i := 2) gT.nd rfl (Or.inl rfl))
    (ao (bQ (dE PySem.F.plainAttrs_list PySem.F.slot_list_append PySem.F.type_list_append aX (pv 1) (ae (be ["pair"] [none] rfl (h8 K (pv 2)) (fun _ => az (i := 0) (bI (N := ["pair"]) (by decide +kernel)) rfl (Or.inl rfl)) (fun _ => bR) (fun _ => (aA (dB K) (pv 0) ak (fun _ _ => rfl))) ((.cons (fun _ e => by cases e) .nil))) af)))))
   (ao (ay (pv 1))))), ?_⟩
  have rl : rs.length = rows.length := bl.len
  refine ⟨cz, fun l nl => ?_⟩
  have sn := Same.new (o := .lst []) nl
  refine ⟨_, rfl, b, rfl, ⟨_, sn.seq hb⟩, ?_⟩
  refine aY (K := K) (a := b) (xs := rs.map V.ref) (fun i σ Hx => ∃ (x : Option V) (ms : List Addr), σ = [some (.ref b), some (.ref l), x] /\ Same H Hx /\ Hx l = some (.lst (ms.map V.ref)) /\ IntsL Hx ms ((cF rows).take i) /\ (∀ m ∈ ms, H m = none /\ m ≠ l) /\ ms.length = i) ⟨none, [], rfl, sn, ag, .nil, (fun _ z => by cases z), rfl⟩ (fun i σ Hx _ hq__ => by obtain ⟨_, _, _, s, _⟩ := hq__; exact s.seq hb) ?_ ?_
  ·rintro i v σ Hx hi ⟨x, ms, rfl, sx, hl, im, fm, ml⟩
   rw [CU] at hi
   obtain ⟨r, hr', rfl⟩ := CV.mp hi
   have hil := (CS.mp hr').1
   obtain ⟨row, hrow, ps, hps, tps⟩ := (bl.same sx).get hr'
   have ptl := tps.len
   have rw20 := r20 row (CW hrow)
   refine ⟨_, rfl, .inl ⟨rfl, _, SqL.of hl⟩, _, rfl, r, rfl, ⟨_, SqL.of hps⟩, ?_⟩
   refine bx (xs := ps.map V.ref) (fun _ => true) (fun j => .int (row.getD j (0, 0)).1) (SqL.of hps) (by rw [CO]; omega) (fun _ _ _ _ _ _ k => k _ (Same.refl _)) (fun j x hx _ H2 R s2 k => ?_) fun nw H2 s2 nnw hnw => ?_
   ·rw [CU] at hx
    obtain ⟨t, et, rfl⟩ := CV.mp hx
    obtain ⟨x, ex, tx⟩ := bh tps et
    rw [CT, ex] at k
    exact ⟨_, rfl, t, _, _, _, rfl, rfl, SqT.of (s2 _ _ tx), rfl, k H2 (Same.refl _)⟩
   rw [Dr.mpr (fun _ _ => rfl), CO, ptl, iC (g := fun x => V.int x.1) fun i x hx => by rw [CT, hx]; rfl] at hnw
   have hnw : H2 nw = some (.lst ((aJ row).map V.int)) := by rw [hnw]; unfold aJ; rw [Dq]; rfl
   have hl2 := s2 _ _ hl
   have s02 := sx.trans s2
   have nwl : nw ≠ l := fun z => by rw [z, hl] at nnw; cases nnw
   refine ⟨l, _, _, rfl, rfl, hl2, jZ (by rw [CO]; omega), ?_⟩
   have ne : ∀ m ∈ ms ++ [nw], H m = none /\ m ≠ l := fun m hm => by
    rcases C7.mp hm with z | z
    ·exact fm m z
    ·rw [CZ.mp z]; exact ⟨sx.free nnw, nwl⟩
   have hmr : (cF rows)[i]? = some (aJ row) := by unfold cF; rw [CU, hrow]; rfl
   refine ⟨_, ms ++ [nw], rfl, s02.put nl, by rw [ag, Df]; rfl, ?_, ne, by rw [C3, Da, ml]⟩
   rw [bN hmr]
   exact IntsL.but (acc := l) (a9 (im.same s2) hnw) (fun m hm => (ne m hm).2) fun b o hb e => by rw [ar hb]; exact e
  ·rintro σ Hx ⟨x, ms, rfl, sx, hl, im, fm, ml⟩
   rw [CO, rl, <- fF rows, Dy] at im
   exact ⟨_, rfl, q l ms Hx sx nl hl im fun m hm => (fm m hm).1⟩
def fQ (K : PySem.W.Frag) : Sp := fun vs H Q _ => ∃ (b g : Addr) (rs : List Addr) (rows : eO) (gs : List Int), vs = [.ref b, .ref g] /\ SqL K H b (rs.map V.ref) /\ BillL H rs rows /\ rows.length <= 6 /\ (∀ row ∈ rows, row.length <= 20) /\ SqL K H g (gs.map V.int) /\ ∀ (l : Addr) (ms : List Addr) (H' : Hp), Same H H' -> H l = none -> H' l = some (.lst (ms.map V.ref)) -> BillL H' ms (wH rows gs) -> Q (.ref l) H'
theorem dA : FnScope ["bill", "some", "found", "pairs"] ["bill", "some"] (au dP) := ⟨rfl, rfl, rfl, by decide +kernel, rfl, by decide +kernel, by decide +kernel⟩
theorem kM (D : Dfs K mg aF dF) (T : Txt mg) : FnOk P w K mg base br 1 (aF 37) (dF 37) ["bill", "some"] (fQ K) := by
 refine D.law_without.fn.ok dA (fun vs H Q E h => ?_) (fun cdv A outer s H vs Q E hr h => ?_)
 ·obtain ⟨b, g, rs, rows, gs, rfl, _⟩ := h; rfl
 ·have hu := aU hr
  obtain ⟨b, g, rs, rows, gs, rfl, hb, bl, r6, r20, hg, q⟩ := h
  refine ⟨_, (ah (aB (i := 2) dA.nd rfl (Or.inl rfl) (aM af))
   (ah (aP PassesOwn.never rfl (h8 K (pv 0)) (az (i := 3) dA.nd rfl (Or.inl rfl))
    (ao (bQ (dE PySem.F.plainAttrs_list PySem.F.slot_list_append PySem.F.type_list_append aX (pv 2) (ae (be ["pair", "some"] [none, some 1] rfl (h8 K (pv 3)) (fun _ => az (i := 0) (bI (N := ["pair", "some"]) (by decide +kernel)) rfl (Or.inl rfl)) (fun _ => fU (aE (sV K) (aA (dB K) (pv 0) ak (fun _ _ => rfl)) (pv 1) (by with_unfolding_all rfl))) (fun _ => (pv 0)) ((.cons (fun _ e => by cases e) (.cons (fun _ e => by cases e; exact ⟨rfl, rfl⟩) .nil)))) af)))))
   (ao (ay (pv 2))))), ?_⟩
  have rl : rs.length = rows.length := bl.len
  refine ⟨cz, fun l nl => ?_⟩
  have sn := Same.new (o := .lst []) nl
  refine ⟨_, rfl, b, rfl, ⟨_, sn.seq hb⟩, ?_⟩
  refine aY (K := K) (a := b) (xs := rs.map V.ref) (fun i σ Hx => ∃ (x : Option V) (ms : List Addr), σ = [some (.ref b), some (.ref g), some (.ref l), x] /\ Same H Hx /\ Hx l = some (.lst (ms.map V.ref)) /\ BillL Hx ms ((wH rows gs).take i) /\ l ∉ ms /\ ms.length = i) ⟨none, [], rfl, sn, ag, .nil, (fun z => by cases z), rfl⟩ (fun i σ Hx _ hq__ => by obtain ⟨_, _, _, s, _⟩ := hq__; exact s.seq hb) ?_ ?_
  ·rintro i v σ Hx hi ⟨x, ms, rfl, sx, hl, bm, lm, ml⟩
   rw [CU] at hi
   obtain ⟨r, hr', rfl⟩ := CV.mp hi
   have hil := (CS.mp hr').1
   obtain ⟨row, hrow, ps, hps, tps⟩ := (bl.same sx).get hr'
   have ptl := tps.len
   have rw20 := r20 row (CW hrow)
   refine ⟨_, rfl, .inl ⟨rfl, _, SqL.of hl⟩, _, rfl, r, rfl, ⟨_, SqL.of hps⟩, ?_⟩
   refine bx (xs := ps.map V.ref) (fun j => !decide ((row.getD j (0, 0)).1 ∈ gs)) (fun j => .ref (ps.getD j 0)) (SqL.of hps) (by rw [CO]; omega) (fun j x hx H2 R s2 k => ?_) (fun j x hx _ H2 R s2 k => ?_) fun nw H2 s2 nnw hnw => ?_
   ·rw [CU] at hx
    obtain ⟨t, et, rfl⟩ := CV.mp hx
    obtain ⟨x, ex, tx⟩ := bh tps et
    have kk : ∀ H3, Same H2 H3 -> R (!decide ((row.getD j (0, 0)).1 ∈ gs)) H3 := k
    rw [kP ex] at kk
    refine ⟨_, rfl, t, _, _, _, rfl, rfl, SqT.of (s2 _ _ tx), rfl, _, rfl, g, _, rfl, .inl ((sx.trans s2).seq hg), rfl, dh _, ?_⟩
    rw [if_pos rfl, eF]
    exact ⟨_, rfl, kk H2 (Same.refl _)⟩
   ·rw [CU] at hx
    obtain ⟨t, et, rfl⟩ := CV.mp hx
    have kk : R (.ref (ps.getD j 0)) H2 := k H2 (Same.refl _)
    rw [kP et] at kk
    exact ⟨_, rfl, kk⟩
   obtain ⟨qs, eq, tq⟩ := pb (fun x => !decide (x.1 ∈ gs)) (tps.same s2)
   rw [CO, eq] at hnw
   have hl2 := s2 _ _ hl
   have s02 := sx.trans s2
   have nwl : nw ≠ l := fun z => by rw [z, hl] at nnw; cases nnw
   refine ⟨l, _, _, rfl, rfl, hl2, jZ (by rw [CO]; omega), ?_⟩
   have hmr : (wH rows gs)[i]? = some (Bo row gs) := by unfold wH; rw [CU, hrow]; rfl
   refine ⟨_, ms ++ [nw], rfl, s02.put nl, by rw [ag, Df]; rfl, ?_, fun z => ?_, by rw [C3, Da, ml]⟩
   ·rw [bN hmr]
    exact a9 ((bm.same s2).but hl2 lm) (RowAt.but ⟨qs, hnw, tq⟩ hl2 nwl)
   ·rcases C7.mp z with y | y
    ·exact lm y
    ·exact nwl (CZ.mp y).symm
  ·rintro σ Hx ⟨x, ms, rfl, sx, hl, bm, lm, ml⟩
   have wl : (wH rows gs).length = rows.length := CO _
   rw [CO, rl, <- wl, Dy] at bm
   exact ⟨_, rfl, q l ms Hx sx nl hl bm⟩
def kN (K : PySem.W.Frag) : Sp := fun vs H Q _ => ∃ (b : Addr) (rs : List Addr) (rows : eO) (bs : List Int), vs = [.ref b] /\ SqL K H b (rs.map V.ref) /\ BillL H rs rows /\ rows.length <= 6 /\ BillOk rows bs /\ bs.length <= 20 /\ ∀ (l : Addr) (U : List Int) (H' : Hp), Same H H' -> H l = none -> H' l = some (.lst (U.map V.int)) -> AllOf (cF rows) U -> Q (.ref l) H'
theorem eY : FnScope ["bill", "met", "pairs"] ["bill"] (au jc) := ⟨rfl, rfl, rfl, by decide +kernel, rfl, by decide +kernel, by decide +kernel⟩
theorem qU (D : Dfs K mg aF dF) (T : Txt mg) : FnOk P w K mg base br 1 (aF 38) (dF 38) ["bill"] (kN K) := by
 refine D.law_all.fn.ok eY (fun vs H Q E h => ?_) (fun cdv A outer s H vs Q E hr h => ?_)
 ·obtain ⟨b, rs, rows, bs, rfl, _⟩ := h; rfl
 ·have hu := aU hr
  obtain ⟨b, rs, rows, bs, rfl, hb, bl, r6, bo, b20, q⟩ := h
  refine ⟨_, (ah (aB (i := 1) eY.nd rfl (Or.inl rfl) (aM af))
   (ah (aP PassesOwn.never rfl (h8 K (pv 0)) (az (i := 2) eY.nd rfl (Or.inl rfl))
    (ao (aB (i := 1) eY.nd rfl (Or.inl rfl) (aC gA (pv 1) (be ["pair"] [none] rfl (h8 K (pv 2)) (fun _ => az (i := 0) (bI (N := ["pair"]) (by decide +kernel)) rfl (Or.inl rfl)) (fun _ => bR) (fun _ => (aA (dB K) (pv 0) ak (fun _ _ => rfl))) ((.cons (fun _ e => by cases e) .nil)))))))
   (ao (ay (aq (iu w) (by rfl) T.z_sorted boot_sorted (ae (aW (j5 w K) (by rfl) T.z_set PyProof.Rows.boot_set (ae (pv 1) af)) af)))))), ?_⟩
  have rl : rs.length = rows.length := bl.len
  refine ⟨cz, fun l0 n0 => ?_⟩
  have sn := Same.new (o := .lst []) n0
  refine ⟨_, rfl, b, rfl, ⟨_, sn.seq hb⟩, ?_⟩
  refine aY (K := K) (a := b) (xs := rs.map V.ref) (fun i σ Hx => ∃ (x : Option V) (l : Addr) (ms : List Int), σ = [some (.ref b), some (.ref l), x] /\ Same H Hx /\ Hx l = some (.lst (ms.map V.int)) /\ (∀ x, x ∈ ms <-> ∃ p ∈ (cF rows).take i, x ∈ p) /\ ms.length <= 20 * i) ⟨none, l0, [], rfl, sn, ag, (fun x => by simp), Dk _⟩ (fun i σ Hx _ hq__ => by obtain ⟨_, _, _, _, s, _⟩ := hq__; exact s.seq hb) ?_ ?_
  ·rintro i v σ Hx hi ⟨x, l, ms, rfl, sx, hl, mm, ml⟩
   rw [CU] at hi
   obtain ⟨r, hr', rfl⟩ := CV.mp hi
   have hil := (CS.mp hr').1
   obtain ⟨row, hrow, ps, hps, tps⟩ := (bl.same sx).get hr'
   have ptl := tps.len
   have rw20 := bo.len row (CW hrow)
   refine ⟨_, rfl, _, rfl, r, rfl, ⟨_, SqL.of hps⟩, ?_⟩
   refine bx (xs := ps.map V.ref) (fun _ => true) (fun j => .int (row.getD j (0, 0)).1) (SqL.of hps) (by rw [CO]; omega) (fun _ _ _ _ _ _ k => k _ (Same.refl _)) (fun j x hx _ H2 R s2 k => ?_) fun nw H2 s2 nnw hnw => ?_
   ·rw [CU] at hx
    obtain ⟨t, et, rfl⟩ := CV.mp hx
    obtain ⟨x, ex, tx⟩ := bh tps et
    rw [CT, ex] at k
    exact ⟨_, rfl, t, _, _, _, rfl, rfl, SqT.of (s2 _ _ tx), rfl, k H2 (Same.refl _)⟩
   rw [Dr.mpr (fun _ _ => rfl), CO, ptl, iC (g := fun x => V.int x.1) fun i x hx => by rw [CT, hx]; rfl] at hnw
   have hnw : H2 nw = some (.lst ((aJ row).map V.int)) := by rw [hnw]; unfold aJ; rw [Dq]; rfl
   have kl : (aJ row).length = row.length := CO _
   refine ⟨l, nw, _, _, rfl, rfl, s2 _ _ hl, hnw, wF (by rw [CO, CO]; omega), fun c nc => ?_⟩
   have hmr : (cF rows)[i]? = some (aJ row) := by unfold cF; rw [CU, hrow]; rfl
   refine ⟨_, c, ms ++ aJ row, rfl, (sx.trans s2).to nc, by rw [ag, Df], fun x => ?_, by rw [C3]; omega⟩
   rw [C7, mm, bN hmr]
   constructor
   ·rintro (⟨p, hp, hx⟩ | hx)
    ·exact ⟨p, Dh _ hp, hx⟩
    ·exact ⟨_, Dc _ (CZ.mpr rfl), hx⟩
   ·rintro ⟨p, hp, hx⟩
    rcases C7.mp hp with z | z
    ·exact .inl ⟨p, z, hx⟩
    ·rw [CZ.mp z] at hx; exact .inr hx
  ·rintro σ Hx ⟨x, l, ms, rfl, sx, hl, mm, ml⟩
   rw [CO] at ml
   rw [CO, rl, <- fF rows, Dy] at mm
   refine ⟨_, rfl, l, ms, rfl, SqL.of hl, by omega, fun S nS => ?_⟩
   have sub : ∀ x ∈ dd ms, x ∈ bs := fun x hx => by
    obtain ⟨p, hp, hx⟩ := (mm x).mp (bJ.mp hx)
    exact bo.msub p hp x hx
   have dl : (dd ms).length <= bs.length := (l9 ms).length_le_of_subset sub
   refine ⟨S, _, rfl, ag, by omega, fun l2 ks nl2 pm sr => ?_⟩
   have s3 := (sx.to (o := .ext (SX w S (dd ms))) nS)
   refine q l2 ks _ (s3.to nl2) (s3.free nl2) ag ⟨jL sr (pm.nodup_iff.mpr (l9 ms)), fun x => ?_⟩
   rw [pm.mem_iff, bJ, mm]
def gx (K : PySem.W.Frag) : Sp := fun vs H Q _ => ∃ (f : Addr) (ks : List Int), vs = [.ref f] /\ H f = some (.lst (ks.map V.int)) /\ ks.Pairwise (· < ·) /\ (∀ k ∈ ks, 1 <= k) /\ Q (.bl true) H
theorem cM : FnScope ["found", "last", "badge"] ["found"] (au eV) := ⟨rfl, rfl, rfl, by decide +kernel, rfl, by decide +kernel, by decide +kernel⟩
theorem lI (D : Dfs K mg aF dF) (T : Txt mg) : FnOk P w K mg base br 2 (aF 39) (dF 39) ["found"] (gx K) := by
 have Glaw_whole : FnOk P w K mg base br 1 (aF 24) (dF 24) ["found"] (cG K) := cZ D T
 refine D.law_rising.fn.ok cM (fun vs H Q E h => ?_) (fun cdv A outer s H vs Q E hr h => ?_)
 ·obtain ⟨f, ks, rfl, _⟩ := h; rfl
 ·have hu := aU hr
  obtain ⟨f, ks, rfl, hf, up, pos, q⟩ := h
  refine ⟨_, (ah (aK (bH (bG (aq (m7 K) (by rfl) T.z_isinstance boot_isinstance (ae (pv 0) (ae (hZ T.z_list) af)))))
    (ao (ay bY))
    aD)
   (ah (aB (i := 1) cM.nd rfl (Or.inl rfl) ak)
   (ah (aP PassesOwn.never rfl (h8 K (pv 0)) (az (i := 2) cM.nd rfl (Or.inl rfl))
    (ah (aK (PW.pt (dC (bH (bG (pc D.law_whole Glaw_whole (hr.mono (by decide)) (ae (pv 2) af)))) (dM (aE ra (pv 2) (pv 1) (aG _)))))
     (ao (ay bY))
     aD)
    (ao (aB (i := 1) cM.nd rfl (Or.inl rfl) (pv 2)))))
   (ao (ay bY))))), ?_⟩
  refine ⟨_, rfl, _, _, _, true, rfl, .lst hf, rfl, _, rfl, bE ?_⟩
  refine ⟨_, rfl, f, rfl, ⟨_, SqL.of hf⟩, ?_⟩
  refine aY (K := K) (a := f) (xs := ks.map V.int) (fun i σ Hx => ∃ (x : Option V) (la : Int), σ = [some (.ref f), some (.int la), x] /\ Hx = H /\ (i = 0 /\ la = 0 \/ ∃ j, i = j + 1 /\ ks[j]? = some la)) ⟨none, 0, rfl, rfl, .inl ⟨rfl, rfl⟩⟩ (fun i σ Hx _ hq__ => by obtain ⟨_, _, _, e, _⟩ := hq__; exact by rw [e]; exact SqL.of hf) ?_ ?_
  ·rintro i v σ Hx hi ⟨x, la, rfl, rfl, hla⟩
   obtain ⟨d, hd, rfl, ed⟩ := eK hi
   have lt : la < d := by
    rcases hla with ⟨_, rfl⟩ | ⟨j, rfl, hj⟩
    ·have := pos d (CW hd); omega
    ·obtain ⟨h1, e1⟩ := CS.mp hj
     obtain ⟨h2, e2⟩ := CS.mp hd
     have := DE.mp up j (j + 1) h1 h2 (by omega)
     rw [e1, e2] at this
     exact this
   refine ⟨_, rfl, d, rfl, _, rfl, bE ?_⟩
   refine ⟨_, rfl, _, rfl, _, _, rfl, rfl, _, rfl, xj (fun z => absurd z (by omega)) fun _ => ?_⟩
   exact ⟨_, rfl, _, d, rfl, rfl, .inr ⟨i, rfl, hd⟩⟩
  ·rintro σ Hx ⟨x, la, rfl, rfl, _⟩
   exact q
def jx (K : PySem.W.Frag) : Sp := fun vs H Q _ => ∃ (tf l y b pl : Addr) (pz : V) (rs : List Addr) (rows : eO) (bs U g : List Int) (pp : Pap) (as : List Addr) (Ps : List (List Int)) (ts : List (Addr × Addr × Str × Int × List Nat)), vs = [.ref tf, .ref l, .ref y] /\ H l = some (.lst (rs.map V.ref)) /\ BillL H rs rows /\ 0 < rows.length /\ rows.length <= 6 /\ BillOk rows bs /\ bs.length <= 6 /\ AllOf (cF rows) U /\ H y = some (.lst (ts.map fun x => V.ref x.1)) /\ (∀ x ∈ ts, TieT H x /\ TieG rows.length x) /\ ts.length <= 12 /\ H tf = some (.tup [.str "stops", .ref b, pz, .ref pl]) /\ H b = some (.lst (g.map V.int)) /\ g ∈ ki U /\ H pl = some (.lst (as.map V.ref)) /\ IntsL H as Ps /\ PapAt H pz pp /\ Shows (qH (cF rows) g) (ts.map e8) [] pp /\ (∀ hs ∈ Ps, IsPlan (cF rows) (ts.map e8) hs) /\ ∀ H', Same H H' -> Q (.bl true) H'
theorem fR : FnScope ["found", "bill", "ties", "badge", "hands"] ["found", "bill", "ties"] (au gR) := ⟨rfl, rfl, rfl, by decide +kernel, rfl, by decide +kernel, by decide +kernel⟩
theorem pN (D : Dfs K mg aF dF) (T : Txt mg) : FnOk P w K mg base br 18 (aF 40) (dF 40) ["found", "bill", "ties"] (jx K) := by
 have Glaw_plan : FnOk P w K mg base br 2 (aF 33) (dF 33) ["hands", "bill", "ties"] (jw K) := pM D T
 have Glaw_shows : FnOk P w K mg base br 17 (aF 35) (dF 35) ["pattern", "bill", "ties", "paper"] (iP K) := nR D T
 have Glaw_without : FnOk P w K mg base br 1 (aF 37) (dF 37) ["bill", "some"] (fQ K) := kM D T
 have Glaw_all : FnOk P w K mg base br 1 (aF 38) (dF 38) ["bill"] (kN K) := qU D T
 have Glaw_rising : FnOk P w K mg base br 2 (aF 39) (dF 39) ["found"] (gx K) := lI D T
 refine D.law_good.fn.ok fR (fun vs H Q E h => ?_) (fun cdv A outer s H vs Q E hr h => ?_)
 ·obtain ⟨tf, l, y, b, pl, pz, rs, rows, bs, U, g, pp, as, Ps, ts, rfl, _⟩ := h; rfl
 ·have hu := aU hr
  obtain ⟨tf, l, y, b, pl, pz, rs, rows, bs, U, g, pp, as, Ps, ts, rfl, hl, bl, r0, r6, bo, b6, av, hy, tt, t12, htf, hb, gm, hpl, ip, pap, sh, pn, q⟩ := h
  refine ⟨_, (ah (aK (PW.pt (dC (bH (bG (aq (m7 K) (by rfl) T.z_isinstance boot_isinstance (ae (pv 0) (ae (oy T.z_tuple) af))))) (dC (aE jQ (aq (bX K) (by rfl) T.z_len boot_len (ae (pv 0) af)) ak (aG _)) (dC (aE jQ (aA (dB K) (pv 0) ak (fun _ _ => rfl)) bf (aG _)) (dM (bH (bG (pc D.law_rising Glaw_rising (hr.mono (by decide)) (ae (aA (dB K) (pv 0) ak (fun _ _ => rfl)) af)))))))))
    (ao (ay bY))
    aD)
   (ah (aP PassesOwn.never rfl (h8 K (aA (dB K) (pv 0) ak (fun _ _ => rfl))) (az (i := 3) fR.nd rfl (Or.inl rfl))
    (ao (aK (aE (sV K) (pv 3) (pc D.law_all Glaw_all (hr.mono (by decide)) (ae (pv 1) af)) (by with_unfolding_all rfl))
     (ao (ay bY))
     aD)))
   (ah (aK (bH (bG (aq (m7 K) (by rfl) T.z_isinstance boot_isinstance (ae (aA (dB K) (pv 0) ak (fun _ _ => rfl)) (ae (hZ T.z_list) af)))))
    (ao (ay bY))
    aD)
   (ah (aP PassesOwn.never rfl (h8 K (aA (dB K) (pv 0) ak (fun _ _ => rfl))) (az (i := 4) fR.nd rfl (Or.inl rfl))
    (ao (aK (bH (bG (pc D.law_plan Glaw_plan (hr.mono (by decide)) (ae (pv 4) (ae (pv 1) (ae (pv 2) af))))))
     (ao (ay bY))
     aD)))
   (ao (ay (pc D.law_shows Glaw_shows (hr.mono (by decide)) (ae (aM af) (ae (pc D.law_without Glaw_without (hr.mono (by decide)) (ae (pv 1) (ae (aA (dB K) (pv 0) ak (fun _ _ => rfl)) af))) (ae (pv 2) (ae (aA (dB K) (pv 0) ak (fun _ _ => rfl)) af))))))))))), ?_⟩
  have r20 : ∀ row ∈ rows, row.length <= 20 := fun row hr => Di (bo.len row hr) (by omega)
  have ub := (bo.all av).2
  have u6 : U.length <= 6 := by omega
  have gpos : ∀ k ∈ g, 1 <= k := fun k hk => bo.pos k ((bo.all av).1 k (qJ u6 gm k hk))
  have tiesOk : ∀ Hx yy, Same H Hx -> Hx yy = some (.lst (ts.map fun x => V.ref x.1)) -> Ties K Hx yy ts 100 := fun Hx yy sx hyy => ⟨SqL.of hyy, fun x hx => (tt x hx).1.same sx, by omega⟩
  have tgr : ∀ x ∈ ts, TieG rows.length x := fun x hx => (tt x hx).2
  refine ⟨_, rfl, _, _, _, true, rfl, .tup htf, rfl, _, rfl, bE ?_⟩
  refine ⟨_, rfl, _, 4, rfl, .inr ⟨_, SqT.of htf, rfl⟩, rfl, _, rfl, vP rfl ?_⟩
  refine ⟨_, rfl, tf, _, _, _, rfl, rfl, SqT.of htf, rfl, rfl, _, rfl, vP rfl ?_⟩
  refine ⟨_, rfl, tf, _, _, _, rfl, rfl, SqT.of htf, rfl, b, g, rfl, hb, yI av.up u6 gm, gpos, _, rfl, bE ?_⟩
  refine ⟨_, rfl, tf, _, _, _, rfl, rfl, SqT.of htf, rfl, b, rfl, ⟨_, SqL.of hb⟩, ?_⟩
  refine aY (K := K) (a := b) (xs := g.map V.int) (fun i σ Hx => ∃ x : Option V, σ = [some (.ref tf), some (.ref l), some (.ref y), x, none] /\ Same H Hx) ⟨none, rfl, Same.refl _⟩ (fun i σ Hx _ hq__ => by obtain ⟨_, _, s⟩ := hq__; exact SqL.of (s _ _ hb)) ?_ ?_
  ·rintro i v σ Hx hi ⟨x, rfl, sx⟩
   obtain ⟨d, hd, rfl, ed⟩ := eK hi
   refine ⟨_, rfl, _, rfl, l, rs, rows, bs, rfl, SqL.of (sx _ _ hl), bl.same sx, r6, bo, by omega, fun bg U' H6 s6 nbg hbg av' => ?_⟩
   obtain rfl := AllOf.one av' av
   refine ⟨bg, _, rfl, .inl (SqL.of hbg), rfl, dh _, ?_⟩
   rw [if_pos rfl, eF]
   exact ⟨_, rfl, vR (qJ u6 gm d (CW hd)) ⟨_, rfl, sx.trans s6⟩⟩
  rintro σ H4 ⟨x0, rfl, s4⟩
  refine ⟨_, rfl, tf, _, _, _, rfl, rfl, SqT.of (s4 _ _ htf), rfl, _, _, _, true, rfl, .lst (s4 _ _ hpl), rfl, _, rfl, bE ?_⟩
  refine ⟨_, rfl, tf, _, _, _, rfl, rfl, SqT.of (s4 _ _ htf), rfl, pl, rfl, ⟨_, SqL.of (s4 _ _ hpl)⟩, ?_⟩
  refine aY (K := K) (a := pl) (xs := as.map V.ref) (fun i σ Hx => ∃ x : Option V, σ = [some (.ref tf), some (.ref l), some (.ref y), x0, x] /\ Same H Hx) ⟨none, rfl, s4⟩ (fun i σ Hx _ hq__ => by obtain ⟨_, _, s⟩ := hq__; exact SqL.of (s _ _ hpl)) ?_ ?_
  ·rintro i v σ Hx hi ⟨x, rfl, sx⟩
   rw [CU] at hi
   obtain ⟨r, hr', rfl⟩ := CV.mp hi
   obtain ⟨hs, hh, e⟩ := bh ip hr'
   exact ⟨_, rfl, _, rfl, _, rfl, r, l, y, rs, rows, ts, hs, rfl, sx _ _ e, SqL.of (sx _ _ hl), bl.same sx, r6, r20, tiesOk _ _ sx (sx _ _ hy), tgr, pn hs (CW hh), fun H5 s5 => ⟨_, rfl, bE ⟨_, rfl, sx.trans s5⟩⟩⟩
  rintro σ H8 ⟨z, rfl, s8⟩
  refine ⟨cz, fun e0 ne0 => ?_⟩
  have s9 := s8.to (o := .lst []) ne0
  have he0 : aI H8 e0 (.lst []) e0 = some (.lst []) := ag
  generalize aI H8 e0 (.lst []) = H9 at s9 he0
  refine ⟨_, rfl, _, rfl, tf, _, _, _, rfl, rfl, SqT.of (s9 _ _ htf), rfl, l, b, rs, rows, g, rfl, SqL.of (s9 _ _ hl), bl.same s9, r6, r20, SqL.of (s9 _ _ hb), fun wl wr H10 s10 nwl hwl bw => ?_⟩
  have bo2 := bo.wo g
  have wrl : (wH rows g).length = rows.length := CO _
  have sh2 := sh
  rw [<- yd] at sh2
  have s910 := s9.trans s10
  exact ⟨_, rfl, _, rfl, tf, _, _, _, rfl, rfl, SqT.of (s910 _ _ htf), rfl, e0, wl, y, pz, [], wr, wH rows g, ts, pp, rfl, s10 _ _ he0, hwl, bw, by omega, fun row hr => ⟨Di (bo2.len row hr) (by omega), mj (bo2.up row hr)⟩, tiesOk _ _ s910 (s910 _ _ hy), mh, Dk _, by simp; omega, pap.same s910, sh2, fun H' s' => q H' (s910.trans s')⟩
def nT (K : PySem.W.Frag) : Sp := fun vs H Q _ => ∃ (a : Addr) (ns : List Int), vs = [.ref a] /\ SqL K H a (ns.map V.int) /\ ns.length <= 63 /\ ∀ H', Q (.bl true) H'
theorem fS : FnScope ["script", "sizes", "bill", "ties", "handed", "bonds", "found", "hands"] ["script"] (au wx) := ⟨rfl, rfl, rfl, by decide +kernel, rfl, by decide +kernel, by decide +kernel⟩
theorem Aa (D : Dfs K mg aF dF) (T : Txt mg) : FnOk P w K mg base br 41 (aF 41) (dF 41) ["script"] (nT K) := by
 have Gneeded : FnOk P w K mg base (qz P w) 40 (aF 17) (dF 17) ["may", "ties"] (mK K) := uo D T
 have Glaw_case : FnOk P w K mg base br 2 (aF 28) (dF 28) ["script", "sizes", "tops"] (jt K) := pI D T
 have Glaw_may : FnOk P w K mg base br 1 (aF 36) (dF 36) ["bill"] (kL K) := qT D T
 have Glaw_good : FnOk P w K mg base br 18 (aF 40) (dF 40) ["found", "bill", "ties"] (jx K) := pN D T
 refine D.law.fn.ok fS (fun vs H Q E h => ?_) (fun cdv A outer s H vs Q E hr h => ?_)
 ·obtain ⟨a, ns, rfl, _⟩ := h; rfl
 ·have hu := aU hr
  obtain ⟨a, ns, rfl, hS, hl, q⟩ := h
  refine ⟨_, (ah (aB (i := 1) fS.nd rfl (Or.inl rfl) (aM (ae (aV (ae ak (ae ak af))) (ae (aV (ae ak (ae ak af))) (ae (aV (ae ak (ae ak af))) (ae (aV (ae ak (ae ak af))) (ae (aV (ae ak (ae ak af))) (ae (aV (ae ak (ae ak af))) (ae (aV (ae ak (ae ak af))) (ae (aV (ae ak (ae ak af))) (ae (aV (ae ak (ae ak af))) (ae (aV (ae ak (ae ak af))) (ae (aV (ae ak (ae ak af))) (ae (aV (ae ak (ae ak af))) af))))))))))))))
   (ah (mQ (pc D.law_case Glaw_case (hr.mono (by decide)) (ae (pv 0) (ae (pv 1) (ae (aM (ae ak af)) af)))) (BP K rfl (dU (az (i := 2) fS.nd rfl (Or.inr rfl)) (dU (az (i := 3) fS.nd rfl (Or.inl rfl)) mP))))
   (ah (aB (i := 4) fS.nd rfl (Or.inl rfl) (pc D.law_may Glaw_may (hr.mono (by decide)) (ae (pv 2) af)))
   (ah (aB (i := 5) fS.nd rfl (Or.inl rfl) (aW (yx K) (by rfl) T.z_list boot_list (ae (pv 3) af)))
   (ah (aB (i := 6) fS.nd rfl (Or.inl rfl) (Cy D.needed Gneeded (hr.mono (by decide)) (ae (pv 4) (ae (pv 5) af))))
   (ah (aK (PW.pt (dC (aE (B5 K hr.units) (pv 4) (pc D.law_may Glaw_may (hr.mono (by decide)) (ae (pv 2) af)) (aG _)) (dC (aE (B5 K hr.units) (pv 5) (pv 3) (aG _)) (dM (bH (bG (pc D.law_good Glaw_good (hr.mono (by decide)) (ae (pv 6) (ae (pv 2) (ae (pv 3) af))))))))))
    (ao (ay bY))
    aD)
   (ah (bQ (uK PySem.F.plainAttrs_list PySem.F.slot_list_clear PySem.F.type_list_clear uL (aA (dS K) (pv 4) ak (fun _ _ => rfl))))
   (ah (bQ (dE PySem.F.plainAttrs_list PySem.F.slot_list_append PySem.F.type_list_append aX (pv 5) (ae (aV (ae bf (ae ak (ae (aV (ae ak af)) af)))) af)))
   (ah (aK (bH (bG (pc D.law_good Glaw_good (hr.mono (by decide)) (ae (pv 6) (ae (pv 2) (ae (pv 3) af))))))
    (ao (ay bY))
    aD)
   (ah (aP PassesOwn.never rfl (h8 K (aA (dB K) (pv 6) ak (fun _ _ => rfl))) (az (i := 7) fS.nd rfl (Or.inl rfl))
    (ao (bQ (dE PySem.F.plainAttrs_list PySem.F.slot_list_append PySem.F.type_list_append aX (pv 7) (ae ak af)))))
   (ao (ay (cU (B4 K hr.units) (be ["hands", "bill"] [none, some 2] rfl (h8 K (aA (dB K) (pv 6) ak (fun _ _ => rfl))) (fun _ => az (i := 0) (bI (N := ["hands", "bill"]) (by decide +kernel)) rfl (Or.inl rfl)) (fun _ => fU (aE jQ (aq (bX K) (by rfl) T.z_len boot_len (ae (pv 0) af)) (aC aZ (aq (bX K) (by rfl) T.z_len boot_len (ae (pv 1) af)) ak) (aG _))) (fun _ => (pv 0)) ((.cons (fun _ e => by cases e) (.cons (fun _ e => by cases e; exact ⟨rfl, rfl⟩) .nil)))) (aM af) (aG _)))))))))))))), ?_⟩
  refine ⟨cz, fun p0 np0 => ?_⟩
  have sz0 := Same.new (o := .tup [.int 2, .int 4]) np0
  have hz0 : aI H p0 (.tup [.int 2, .int 4]) p0 = some (.tup [.int 2, .int 4]) := ag
  have sY0 := sz0
  generalize aI H p0 (.tup [.int 2, .int 4]) = HZ0 at sz0 hz0 sY0
  refine ⟨cz, fun p1 np1 => ?_⟩
  have sz1 := Same.new (o := .tup [.int 3, .int 3]) np1
  have hz1 : aI HZ0 p1 (.tup [.int 3, .int 3]) p1 = some (.tup [.int 3, .int 3]) := ag
  have sY1 := sY0.trans sz1
  generalize aI HZ0 p1 (.tup [.int 3, .int 3]) = HZ1 at sz1 hz1 sY1
  refine ⟨cz, fun p2 np2 => ?_⟩
  have sz2 := Same.new (o := .tup [.int 2, .int 6]) np2
  have hz2 : aI HZ1 p2 (.tup [.int 2, .int 6]) p2 = some (.tup [.int 2, .int 6]) := ag
  have sY2 := sY1.trans sz2
  generalize aI HZ1 p2 (.tup [.int 2, .int 6]) = HZ2 at sz2 hz2 sY2
  refine ⟨cz, fun p3 np3 => ?_⟩
  have sz3 := Same.new (o := .tup [.int 1, .int 3]) np3
  have hz3 : aI HZ2 p3 (.tup [.int 1, .int 3]) p3 = some (.tup [.int 1, .int 3]) := ag
  have sY3 := sY2.trans sz3
  generalize aI HZ2 p3 (.tup [.int 1, .int 3]) = HZ3 at sz3 hz3 sY3
  refine ⟨cz, fun p4 np4 => ?_⟩
  have sz4 := Same.new (o := .tup [.int 3, .int 5]) np4
  have hz4 : aI HZ3 p4 (.tup [.int 3, .int 5]) p4 = some (.tup [.int 3, .int 5]) := ag
  have sY4 := sY3.trans sz4
  generalize aI HZ3 p4 (.tup [.int 3, .int 5]) = HZ4 at sz4 hz4 sY4
  refine ⟨cz, fun p5 np5 => ?_⟩
  have sz5 := Same.new (o := .tup [.int 4, .int 4]) np5
  have hz5 : aI HZ4 p5 (.tup [.int 4, .int 4]) p5 = some (.tup [.int 4, .int 4]) := ag
  have sY5 := sY4.trans sz5
  generalize aI HZ4 p5 (.tup [.int 4, .int 4]) = HZ5 at sz5 hz5 sY5
  refine ⟨cz, fun p6 np6 => ?_⟩
  have sz6 := Same.new (o := .tup [.int 1, .int 1]) np6
  have hz6 : aI HZ5 p6 (.tup [.int 1, .int 1]) p6 = some (.tup [.int 1, .int 1]) := ag
  have sY6 := sY5.trans sz6
  generalize aI HZ5 p6 (.tup [.int 1, .int 1]) = HZ6 at sz6 hz6 sY6
  refine ⟨cz, fun p7 np7 => ?_⟩
  have sz7 := Same.new (o := .tup [.int 1, .int 6]) np7
  have hz7 : aI HZ6 p7 (.tup [.int 1, .int 6]) p7 = some (.tup [.int 1, .int 6]) := ag
  have sY7 := sY6.trans sz7
  generalize aI HZ6 p7 (.tup [.int 1, .int 6]) = HZ7 at sz7 hz7 sY7
  refine ⟨cz, fun p8 np8 => ?_⟩
  have sz8 := Same.new (o := .tup [.int 4, .int 2]) np8
  have hz8 : aI HZ7 p8 (.tup [.int 4, .int 2]) p8 = some (.tup [.int 4, .int 2]) := ag
  have sY8 := sY7.trans sz8
  generalize aI HZ7 p8 (.tup [.int 4, .int 2]) = HZ8 at sz8 hz8 sY8
  refine ⟨cz, fun p9 np9 => ?_⟩
  have sz9 := Same.new (o := .tup [.int 3, .int 6]) np9
  have hz9 : aI HZ8 p9 (.tup [.int 3, .int 6]) p9 = some (.tup [.int 3, .int 6]) := ag
  have sY9 := sY8.trans sz9
  generalize aI HZ8 p9 (.tup [.int 3, .int 6]) = HZ9 at sz9 hz9 sY9
  refine ⟨cz, fun p10 np10 => ?_⟩
  have sz10 := Same.new (o := .tup [.int 5, .int 3]) np10
  have hz10 : aI HZ9 p10 (.tup [.int 5, .int 3]) p10 = some (.tup [.int 5, .int 3]) := ag
  have sY10 := sY9.trans sz10
  generalize aI HZ9 p10 (.tup [.int 5, .int 3]) = HZ10 at sz10 hz10 sY10
  refine ⟨cz, fun p11 np11 => ?_⟩
  have sz11 := Same.new (o := .tup [.int 6, .int 2]) np11
  have hz11 : aI HZ10 p11 (.tup [.int 6, .int 2]) p11 = some (.tup [.int 6, .int 2]) := ag
  have sY11 := sY10.trans sz11
  generalize aI HZ10 p11 (.tup [.int 6, .int 2]) = HZ11 at sz11 hz11 sY11
  refine ⟨cz, fun sa nsa => ?_⟩
  have szL := Same.new (o := .lst [.ref p0, .ref p1, .ref p2, .ref p3, .ref p4, .ref p5, .ref p6, .ref p7, .ref p8, .ref p9, .ref p10, .ref p11]) nsa
  have hsa : aI HZ11 sa (.lst [.ref p0, .ref p1, .ref p2, .ref p3, .ref p4, .ref p5, .ref p6, .ref p7, .ref p8, .ref p9, .ref p10, .ref p11]) sa = some (.lst ([p0, p1, p2, p3, p4, p5, p6, p7, p8, p9, p10, p11].map V.ref)) := ag
  have sZ := sY11.trans szL
  generalize aI HZ11 sa (.lst [.ref p0, .ref p1, .ref p2, .ref p3, .ref p4, .ref p5, .ref p6, .ref p7, .ref p8, .ref p9, .ref p10, .ref p11]) = HZ at szL hsa sZ
  have rsz : RowAt HZ sa [(2, 4), (3, 3), (2, 6), (1, 3), (3, 5), (4, 4), (1, 1), (1, 6), (4, 2), (3, 6), (5, 3), (6, 2)] := ⟨_, hsa, (.cons (show cP HZ p0 (2, 4) from (szL _ _ (sz11 _ _ (sz10 _ _ (sz9 _ _ (sz8 _ _ (sz7 _ _ (sz6 _ _ (sz5 _ _ (sz4 _ _ (sz3 _ _ (sz2 _ _ (sz1 _ _ hz0))))))))))))) (.cons (show cP HZ p1 (3, 3) from (szL _ _ (sz11 _ _ (sz10 _ _ (sz9 _ _ (sz8 _ _ (sz7 _ _ (sz6 _ _ (sz5 _ _ (sz4 _ _ (sz3 _ _ (sz2 _ _ hz1)))))))))))) (.cons (show cP HZ p2 (2, 6) from (szL _ _ (sz11 _ _ (sz10 _ _ (sz9 _ _ (sz8 _ _ (sz7 _ _ (sz6 _ _ (sz5 _ _ (sz4 _ _ (sz3 _ _ hz2))))))))))) (.cons (show cP HZ p3 (1, 3) from (szL _ _ (sz11 _ _ (sz10 _ _ (sz9 _ _ (sz8 _ _ (sz7 _ _ (sz6 _ _ (sz5 _ _ (sz4 _ _ hz3)))))))))) (.cons (show cP HZ p4 (3, 5) from (szL _ _ (sz11 _ _ (sz10 _ _ (sz9 _ _ (sz8 _ _ (sz7 _ _ (sz6 _ _ (sz5 _ _ hz4))))))))) (.cons (show cP HZ p5 (4, 4) from (szL _ _ (sz11 _ _ (sz10 _ _ (sz9 _ _ (sz8 _ _ (sz7 _ _ (sz6 _ _ hz5)))))))) (.cons (show cP HZ p6 (1, 1) from (szL _ _ (sz11 _ _ (sz10 _ _ (sz9 _ _ (sz8 _ _ (sz7 _ _ hz6))))))) (.cons (show cP HZ p7 (1, 6) from (szL _ _ (sz11 _ _ (sz10 _ _ (sz9 _ _ (sz8 _ _ hz7)))))) (.cons (show cP HZ p8 (4, 2) from (szL _ _ (sz11 _ _ (sz10 _ _ (sz9 _ _ hz8))))) (.cons (show cP HZ p9 (3, 6) from (szL _ _ (sz11 _ _ (sz10 _ _ hz9)))) (.cons (show cP HZ p10 (5, 3) from (szL _ _ (sz11 _ _ hz10))) (.cons (show cP HZ p11 (6, 2) from (szL _ _ hz11)) .nil))))))))))))⟩
  clear hz0 sz0 hz1 sz1 hz2 sz2 hz3 sz3 hz4 sz4 hz5 sz5 hz6 sz6 hz7 sz7 hz8 sz8 hz9 sz9 hz10 sz10 hz11 sz11 szL hsa
  refine ⟨_, rfl, _, rfl, cz, fun ta nta => ?_⟩
  have sT := Same.new (o := .lst [V.int 1]) nta
  have hta : aI HZ ta (.lst [V.int 1]) ta = some (.lst ([1].map V.int)) := ag
  generalize aI HZ ta (.lst [V.int 1]) = HT at sT hta
  have s0T := sZ.trans sT
  refine ⟨a, sa, ta, ns, _, [1], rfl, s0T.seq hS, hl, rsz.same sT, by decide, by decide, SqL.of hta, by decide, by decide, fun t l y rs rows bs ts tp H1 s1 nt ht nl hl1 bl1 fr1 hex bo _ _ ny hy tt t12 => ?_⟩
  have bnd : 1 <= rows.length /\ rows.length <= 6 /\ bs.length <= 6 := by
   obtain ⟨x, hx, e1, e2⟩ := hex
   have := (show ∀ x ∈ ([(2, 4), (3, 3), (2, 6), (1, 3), (3, 5), (4, 4), (1, 1), (1, 6), (4, 2), (3, 6), (5, 3), (6, 2)] : List (Int × Int)), 1 <= x.1 /\ x.1 <= 6 /\ x.2 <= 6 by decide) x hx
   omega
  obtain ⟨r1, r6, b6⟩ := bnd
  have r20 : ∀ row ∈ rows, row.length <= 20 := fun row hr => Di (bo.len row hr) (by omega)
  have rok : ∀ row ∈ rows, row.length <= 20 /\ (aJ row).Nodup := fun row hr => ⟨r20 row hr, mj (bo.up row hr)⟩
  have mbl := fF rows
  have rl : rs.length = rows.length := bl1.len
  refine ⟨t, _, rfl, SqT.of ht, rfl, _, _, rfl, _, _, rfl, rfl, ?_⟩
  clear sT rsz s0T sZ hta hex
  obtain ⟨U, av⟩ := zZ (cF rows) bs bo.bu bo.msub
  have ub := (bo.all av).2
  have u6 : U.length <= 6 := by omega
  have tiesOk : ∀ Hx yy, Same H1 Hx -> Hx yy = some (.lst (ts.map fun x => V.ref x.1)) -> Ties K Hx yy ts 100 := fun Hx yy sx hyy => ⟨SqL.of hyy, fun x hx => (tt x hx).1.same sx, by omega⟩
  have tgr : ∀ x ∈ ts, TieG rows.length x := fun x hx => (tt x hx).2
  have tgm : ∀ x ∈ ts, TieG (cF rows).length x := fun x hx => by rw [mbl]; exact (tt x hx).2
  refine ⟨_, rfl, l, rs, rows, rfl, SqL.of hl1, bl1, r6, r20, fun m1 ms1 H2 s2 nm1 hm1 rm1 fm1 => ?_⟩
  refine ⟨_, rfl, y, _, rfl, .inl (SqL.of (s2 _ _ hy)), fun y2 ny2 => ?_⟩
  have s3 := Same.new (o := .lst (ts.map fun x => V.ref x.1)) ny2
  have hy3 : aI H2 y2 (.lst (ts.map fun x => V.ref x.1)) y2 = some (.lst (ts.map fun x => V.ref x.1)) := ag
  have ny1 := s2.free ny2
  generalize aI H2 y2 (.lst (ts.map fun x => V.ref x.1)) = H3 at s3 hy3
  have s13 := s2.trans s3
  have hm13 := s3 _ _ hm1
  have rm13 := rm1.same s3
  refine ⟨_, rfl, _, rfl, m1, y2, ms1, cF rows, bs, U, ts, rfl, ⟨SqL.of hm13, rm13.pools, bo.mup, bo.msub, by omega, by omega⟩, by omega, tiesOk _ _ s13 hy3, tgm, av, fun _ tf H4 b pl pv g pp as Ps s4 ntf td => ?_, fun z => absurd z (by omega)⟩
  have s14 := s13.trans s4
  have htf := td.ht
  have pap := PapAt.same td.pa xF
  refine ⟨_, rfl, _, rfl, l, rs, rows, rfl, SqL.of (s14 _ _ hl1), bl1.same s14, r6, r20, fun m2 ms2 H5 s5 nm2 hm2 rm2 fm2 => ?_⟩
  have s35 := s4.trans s5
  refine ⟨2, true, tF (SqL.of (s35 _ _ hm13)) (rm13.same s35).pools (SqL.of hm2) rm2.pools, by decide, rfl, _, rfl, bE ?_⟩
  have s15 := s13.trans s35
  refine ⟨_, rfl, _, rfl, 3, true, vF (SqL.of (s35 _ _ hy3)) (SqL.of (s15 _ _ hy)) (fun x hx => (tt x hx).1.same s15), by decide, rfl, _, rfl, bE ?_⟩
  refine ⟨_, rfl, _, rfl, _, rfl, tf, l, y, b, pl, pv, rs, rows, bs, U, g, pp, as, Ps, ts, rfl, s15 _ _ hl1, bl1.same s15, r1, r6, bo, b6, av, s15 _ _ hy, fun x hx => ⟨(tt x hx).1.same s15, (tt x hx).2⟩, t12, s5 _ _ htf, s5 _ _ td.hb, td.mem, s5 _ _ td.hp, td.ip.same s5, pap.same s5, td.sh, td.pn, fun H6 s6 => ⟨_, rfl, bE ?_⟩⟩
  have s46 := s5.trans s6
  have s36 := s35.trans s6
  have s16 := s15.trans s6
  have mlen : ms1.length = rows.length := by rw [Paired.length rm1, mbl]
  obtain ⟨m0, em0⟩ : ∃ m0, ms1[0]? = some m0 := ⟨_, CP (by omega)⟩
  obtain ⟨row0, _, hm0⟩ := bh rm13 em0
  have nm0 := fm1 m0 (CW em0)
  have hat : nU (ms1.map V.ref) 0 = some (.ref m0) := bZ (j := 0) (by rw [CU, em0]; rfl)
  refine ⟨_, rfl, m1, _, _, _, rfl, rfl, SqL.of (s36 _ _ hm13), hat, .inl ⟨rfl, _, SqL.of (s36 _ _ hm0)⟩, m0, _, rfl, rfl, s36 _ _ hm0, ?_⟩
  have kn7 : ∀ a o, H3 a = none -> H4 a = some o -> aI H6 m0 (.lst []) a = some o := fun a o n e => by
   rw [ar (fun z => by rw [z, hm0] at n; cases n)]
   exact s46 _ _ e
  have s17 : Same H1 (aI H6 m0 (.lst [])) := s16.put nm0
  have hy7 : aI H6 m0 (.lst []) y2 = some (.lst (ts.map fun x => V.ref x.1)) := by
   have ne : y2 ≠ m0 := fun z => by
    have e1 := s3.free (l := y2)
    rw [z] at ny2
    obtain ⟨_, _, e⟩ := bh rm1 em0
    rw [ny2] at e
    cases e
   rw [ar ne]
   exact s36 _ _ hy3
  generalize aI H6 m0 (.lst []) = H7 at kn7 s17 hy7
  refine ⟨_, rfl, .inl ⟨rfl, _, SqL.of hy7⟩, cz, fun t0 nt0 => ⟨cz, fun t1 nt1 => ?_⟩⟩
  have sA := (Same.new (o := .tup [V.int 0]) nt0).to (o := .tup [.str "most", .int 1, .ref t0]) nt1
  generalize aI (aI H7 t0 (.tup [V.int 0])) t1 (.tup [.str "most", .int 1, .ref t0]) = H8 at sA
  have hy8 := sA _ _ hy7
  refine ⟨y2, _, _, rfl, rfl, hy8, jZ (by rw [CO]; omega), ?_⟩
  have kn9 : ∀ a o, H3 a = none -> H4 a = some o -> aI H8 y2 (.lst (ts.map (fun x => V.ref x.1) ++ [V.ref t1])) a = some o := fun a o n e => by
   rw [ar (fun z => by rw [z, hy3] at n; cases n)]
   exact sA _ _ (kn7 a o n e)
  have s19 : Same H1 (aI H8 y2 (.lst (ts.map (fun x => V.ref x.1) ++ [V.ref t1]))) := (s17.trans sA).put ny1
  generalize aI H8 y2 (.lst (ts.map (fun x => V.ref x.1) ++ [V.ref t1])) = H9 at kn9 s19
  have htf9 := kn9 tf _ ntf htf
  have hb9 := kn9 b _ td.nb td.hb
  have hpl9 := kn9 pl _ td.np td.hp
  have ip9 : IntsL H9 as Ps := gE td.ip fun z hz l e => kn9 z _ (td.na z hz).1 e
  have pap9 : PapAt H9 pv pp := PapAt.same td.pa fun z o e => kn9 z o (eL e).1 (eL e).2
  refine ⟨_, rfl, _, rfl, _, rfl, tf, l, y, b, pl, pv, rs, rows, bs, U, g, pp, as, Ps, ts, rfl, s19 _ _ hl1, bl1.same s19, r1, r6, bo, b6, av, s19 _ _ hy, fun x hx => ⟨(tt x hx).1.same s19, (tt x hx).2⟩, t12, htf9, hb9, td.mem, hpl9, ip9, pap9, td.sh, td.pn, fun H10 s10 => ⟨_, rfl, bE ?_⟩⟩
  refine ⟨_, rfl, tf, _, _, _, rfl, rfl, SqT.of (s10 _ _ htf9), rfl, pl, rfl, ⟨_, SqL.of (s10 _ _ hpl9)⟩, ?_⟩
  have pll : as.length = Ps.length := Paired.length td.ip
  have s110 := s19.trans s10
  have ip10 := ip9.same s10
  have hpl10 := s10 _ _ hpl9
  have htf10 := s10 _ _ htf9
  have npt : ∀ z ∈ as, z ≠ tf := fun z hz e => by
   obtain ⟨i, hi⟩ := EG.mp hz
   obtain ⟨_, _, e'⟩ := bh ip10 hi
   rw [e, htf10] at e'
   cases e'
  refine aY (K := K) (a := pl) (xs := as.map V.ref) (fun i σ Hx => ∃ x : Option V, σ = [some (.ref a), some (.ref sa), some (.ref l), some (.ref y), some (.ref m1), some (.ref y2), some (.ref tf), x] /\ Same H1 Hx /\ Hx tf = some (.tup [.str "stops", .ref b, pv, .ref pl]) /\ Hx pl = some (.lst (as.map V.ref)) /\ ∀ j z hs, as[j]? = some z -> Ps[j]? = some hs -> Hx z = some (.lst (hs.map V.int ++ if j < i then [V.int 0] else []))) ⟨none, rfl, s110, htf10, hpl10, fun j z hs hz hh => ?_⟩ (fun i σ Hx _ hq__ => by obtain ⟨_, _, _, _, h, _⟩ := hq__; exact SqL.of h) ?_ ?_
  ·obtain ⟨hs', hh', e⟩ := bh ip10 hz
   rw [hh] at hh'
   cases hh'
   rw [if_neg (Nat.not_lt_zero _), Eg]
   exact e
  ·rintro i v σ Hx hi ⟨x, rfl, sx, htx, hpx, al⟩
   rw [CU] at hi
   obtain ⟨r, hr', rfl⟩ := CV.mp hi
   have il := (CS.mp hr').1
   have rm := CW hr'
   obtain ⟨nr3, _, nrp⟩ := td.na r rm
   have er := al i r _ hr' (CP (by omega))
   rw [if_neg (Eb _), Eg] at er
   have hl6 := (td.pn _ (Do (show i < Ps.length by omega))).len
   refine ⟨_, rfl, .inl ⟨rfl, _, SqL.of er⟩, r, _, _, rfl, rfl, er, jZ (by rw [CO]; omega), ?_⟩
   refine ⟨_, rfl, sx.put (s13.free nr3), by rw [ar (npt r rm).symm]; exact htx, by rw [ar nrp.symm]; exact hpx, fun j z hs hz hh => ?_⟩
   by_cases e : j = i
   ·subst e
    rw [hr'] at hz
    cases hz
    rw [CP (by omega)] at hh
    cases hh
    rw [ag, if_pos (Ek _)]
   ·have ne : z ≠ r := fun y => by
     subst y
     obtain ⟨h1, e1⟩ := CS.mp hz
     obtain ⟨h2, e2⟩ := CS.mp hr'
     exact e ((EL td.nd).mp (e1.trans e2.symm))
    rw [ar ne, al j z hs hz hh]
    by_cases c : j < i
    ·rw [if_pos c, if_pos (DJ c)]
    ·rw [if_neg c, if_neg (by omega)]
  ·rintro σ Hx ⟨x, rfl, sx, htx, hpx, al⟩
   rw [CO] at al
   refine ⟨_, rfl, tf, _, _, _, rfl, rfl, SqT.of htx, rfl, pl, rfl, ⟨_, SqL.of hpx⟩, ?_⟩
   refine bx (xs := as.map V.ref) (fun _ => false) (fun _ => V.non) (SqL.of hpx) (by rw [CO]; have := td.l64; omega) (fun j v hv H2 R s2 k => ?_) (fun j v hv z => by cases z) fun nw H2 s2 nnw hnw => ?_
   ·rw [CU] at hv
    obtain ⟨r, hr', rfl⟩ := CV.mp hv
    have jl := (CS.mp hr').1
    have er := al j r _ hr' (CP (by omega))
    rw [if_pos jl] at er
    have hl6 := (td.pn _ (Do (show j < Ps.length by omega))).len
    have kk : R false H2 := k H2 (Same.refl _)
    refine ⟨_, rfl, _, rows.length + 1, rfl, .inl ⟨_, SqL.of (s2 _ _ er), by rw [C3, CO, hl6, mbl]; rfl⟩, _, rfl, _, rows.length, rfl, .inl ⟨_, SqL.of ((sx.trans s2) _ _ hl1), by rw [CO, rl]⟩, _, _, rfl, rfl, rfl, _, rfl, ?_⟩
    have e : (!decide (V.int (((rows.length + 1 : Nat)) : Int) = V.int ((rows.length : Int) + 1))) = false := by
     rw [show (((rows.length + 1 : Nat)) : Int) = (rows.length : Int) + 1 by omega, decide_eq_true rfl]; rfl
    dsimp only
    rw [e]
    exact kk
   ·rw [List.filter_eq_nil_iff.mpr (fun _ _ => C4), EW] at hnw
    refine ⟨cz, fun p np => ⟨1, true, m9 (SqL.of ((Same.new np) _ _ hnw)) (SqL.of ag), by decide, rfl, q _⟩⟩
end
def Fd (K : PySem.W.Frag) (nm : Str) (st : Stmt) (f : Addr) : Prop := ∃ (od an : Option Addr) (sl : Array (Option Value)) (oc kV dc pm cd ct : Value), PySem.W.nsIn K mainGlobals nm = some (some (.ref f)) /\ K.lookup f = some ⟨oc, od, .func (PySem.W.fnOf nm nm (eE st) (cV st) (au st) .none kV dc pm an cd ct), sl⟩ /\ PySem.W.codeIn K cd nm = true /\ PySem.W.keepIn K (.ref f) = true
theorem aN {K : PySem.W.Frag} {nm : Str} {st : Stmt} {f : Addr} {h : Heap} {mg : Str -> Option Value} {ps : List Str} (X : K.In h) (G : h.Ns mainGlobals mg) (q : Fd K nm st f) (hb : ∀ (kV dc pm : Value) (an : Option Addr) (cd ct : Value) (us : List Value), us.length = ps.length -> bindArgs (PySem.W.fnOf nm nm (eE st) (cV st) (au st) .none kV dc pm an cd ct) ⟨us, []⟩ = pure (ps.zip us)) : ∃ fd, Def K mg nm st ps f fd /\ ∀ (s : Shared) (us : List Value), us.length = ps.length -> BindsTo s fd ⟨us, []⟩ (ps.zip us) := by
 obtain ⟨od, an, sl, oc, kV, dc, pm, cd, ct, a, l, c, k⟩ := q
 have F := zd (st := st) l c k
 exact ⟨_, ⟨F, F.binds hb, PySem.W.mg_of X G a⟩, fun s us hl => .of_eq (hb kV dc pm an cd ct us hl)⟩
theorem wB {F : List Value -> Prop} {x0 : Str} (h : ∀ v0, F [v0]) : ∀ us : List Value, us.length = [x0].length -> F us := fun us hl => by obtain ⟨_, rfl⟩ := Cr hl; exact h _
theorem nW {F : List Value -> Prop} {x0 x1 : Str} (h : ∀ v0 v1, F [v0, v1]) : ∀ us : List Value, us.length = [x0, x1].length -> F us := fun us hl => by obtain ⟨_, _, rfl⟩ := Cs hl; exact h _ _
theorem wI {F : List Value -> Prop} {x0 x1 x2 : Str} (h : ∀ v0 v1 v2, F [v0, v1, v2]) : ∀ us : List Value, us.length = [x0, x1, x2].length -> F us := fun us hl => by obtain ⟨_, _, _, rfl⟩ := Ct hl; exact h _ _ _
theorem Cd {F : List Value -> Prop} {x0 x1 x2 x3 : Str} (h : ∀ v0 v1 v2 v3, F [v0, v1, v2, v3]) : ∀ us : List Value, us.length = [x0, x1, x2, x3].length -> F us := fun us hl => by obtain ⟨_, _, _, _, rfl⟩ := Cu hl; exact h _ _ _ _
theorem CL {F : List Value -> Prop} {x0 x1 x2 x3 x4 : Str} (h : ∀ v0 v1 v2 v3 v4, F [v0, v1, v2, v3, v4]) : ∀ us : List Value, us.length = [x0, x1, x2, x3, x4].length -> F us := fun us hl => by obtain ⟨_, _, _, _, _, rfl⟩ := Cv hl; exact h _ _ _ _ _
theorem aO {K : PySem.W.Frag} {nm : Str} {st : Stmt} {f : Addr} {od an : Option Addr} {sl : Array (Option Value)} {oc kV dc pm cd ct : Value} (a : PySem.W.nsIn K mainGlobals nm = some (some (.ref f))) (l : K.lookup f = some ⟨oc, od, .func (PySem.W.fnOf nm nm (eE st) (cV st) (au st) .none kV dc pm an cd ct), sl⟩) (c : PySem.W.codeIn K cd nm = true) (k : PySem.W.keepIn K (.ref f) = true) : Fd K nm st f := ⟨od, an, sl, oc, kV, dc, pm, cd, ct, a, l, c, k⟩
theorem Ab {l : PySem.W.OpenLaw} {w : World} {K : PySem.W.Frag} {h : Heap} {mg : Str -> Option Value} {fa fl f0 f1 f2 f3 f4 f5 f6 f7 f8 f9 f10 f11 f12 f13 f14 f15 f16 f17 f18 f19 f20 f21 f22 f23 f24 f25 f26 f27 f28 f29 f30 f31 f32 f33 f34 f35 f36 f37 f38 f39 f40 g0 : Addr} (X : K.In h) (G : h.Ns mainGlobals mg) (hfa : mg "law" = some (.ref fa))
  (q0 : Fd K "common" kj f0)
  (q1 : Fd K "joined" km f1)
  (q2 : Fd K "without" i8 f2)
  (q3 : Fd K "choices" i9 f3)
  (q4 : Fd K "deal" qM f4)
  (q5 : Fd K "settle" ku f5)
  (q6 : Fd K "short_places" dv f6)
  (q7 : Fd K "hands_of" gH f7)
  (q8 : Fd K "width" nK f8)
  (q9 : Fd K "grown" nL f9)
  (q10 : Fd K "breaks" kA f10)
  (q11 : Fd K "first_broken" dw f11)
  (q12 : Fd K "unlike" kC f12)
  (q13 : Fd K "pools_of" gI f13)
  (q14 : Fd K "pool_of" ja f14)
  (q15 : Fd K "plan" qN f15)
  (q16 : Fd K "plan_from" fG f16)
  (q17 : Fd K "needed" kD f17)
  (q18 : Fd K "badges_of" fH f18)
  (q19 : Fd K "fewest_that_stop" cq f19)
  (q20 : Fd K "leaves_one" eP f20)
  (q21 : Fd K "has_none_of" dN f21)
  (q22 : Fd K "_law_cell" gJ f22)
  (q23 : Fd K "_law_entries" dO f23)
  (q24 : Fd K "_law_whole" fI f24)
  (q25 : Fd K "_law_badges" eQ f25)
  (q26 : Fd K "_law_bill" gL f26)
  (q27 : Fd K "_law_ties" gM f27)
  (q28 : Fd K "_law_case" gN f28)
  (q29 : Fd K "_law_wide" gO f29)
  (q30 : Fd K "_law_pool" gP f30)
  (q31 : Fd K "_law_breaks" eU f31)
  (q32 : Fd K "_law_keeps" fJ f32)
  (q33 : Fd K "_law_plan" gQ f33)
  (q34 : Fd K "_law_short" fK f34)
  (q35 : Fd K "_law_shows" fL f35)
  (q36 : Fd K "_law_may" jb f36)
  (q37 : Fd K "_law_without" dP f37)
  (q38 : Fd K "_law_all" jc f38)
  (q39 : Fd K "_law_rising" eV f39)
  (q40 : Fd K "_law_good" gR f40)
  (q41 : Fd K "law" wx fl)
  (z0 : PySem.W.nsIn K mainGlobals "all" = some none)
  (z1 : PySem.W.nsIn K mainGlobals "any" = some none)
  (z2 : PySem.W.nsIn K mainGlobals "bool" = some none)
  (z3 : PySem.W.nsIn K mainGlobals "int" = some none)
  (z4 : PySem.W.nsIn K mainGlobals "isinstance" = some none)
  (z5 : PySem.W.nsIn K mainGlobals "len" = some none)
  (z6 : PySem.W.nsIn K mainGlobals "list" = some none)
  (z7 : PySem.W.nsIn K mainGlobals "min" = some none)
  (z8 : PySem.W.nsIn K mainGlobals "range" = some none)
  (z9 : PySem.W.nsIn K mainGlobals "reversed" = some none)
  (z10 : PySem.W.nsIn K mainGlobals "set" = some none)
  (z11 : PySem.W.nsIn K mainGlobals "sorted" = some none)
  (z12 : PySem.W.nsIn K mainGlobals "tuple" = some none)
  (n_TooMany : PySem.W.nsIn K mainGlobals "TooMany" = some (some (.ref g0)))
  (e_TooMany : PySem.W.excIn K g0 [.type "ValueError", .type "Exception", .type "BaseException", .type "object"] "ValueError.__new__" = true)
  : ∃ fd : FuncData, (∀ (s : Shared) (v : Value), BindsTo s fd ⟨[v], []⟩ [("script", v)]) /\ ∀ base : Heap, K.In base -> base.Ns mainGlobals mg -> FnOk l.prog w K mg base br 41 fa fd ["script"] (nT K) := by
 obtain ⟨dl, Dl, Bl⟩ := aN (ps := ["script"]) X G q41 (fun _ _ _ _ _ _ => wB fun _ => rfl)
 have e := hfa.symm.trans Dl.at'
 cases e
 have T : Txt mg := ⟨PySem.W.mg_none_of X G z0, PySem.W.mg_none_of X G z1, PySem.W.mg_none_of X G z2, PySem.W.mg_none_of X G z3, PySem.W.mg_none_of X G z4, PySem.W.mg_none_of X G z5, PySem.W.mg_none_of X G z6, PySem.W.mg_none_of X G z7, PySem.W.mg_none_of X G z8, PySem.W.mg_none_of X G z9, PySem.W.mg_none_of X G z10, PySem.W.mg_none_of X G z11, PySem.W.mg_none_of X G z12⟩
 obtain ⟨d0, D0, -⟩ := aN (ps := ["one", "other"]) X G q0 (fun _ _ _ _ _ _ => nW fun _ _ => rfl)
 obtain ⟨d1, D1, -⟩ := aN (ps := ["one", "other"]) X G q1 (fun _ _ _ _ _ _ => nW fun _ _ => rfl)
 obtain ⟨d2, D2, -⟩ := aN (ps := ["one", "other"]) X G q2 (fun _ _ _ _ _ _ => nW fun _ _ => rfl)
 obtain ⟨d3, D3, -⟩ := aN (ps := ["numbers"]) X G q3 (fun _ _ _ _ _ _ => wB fun _ => rfl)
 obtain ⟨d4, D4, -⟩ := aN (ps := ["pools"]) X G q4 (fun _ _ _ _ _ _ => wB fun _ => rfl)
 obtain ⟨d5, D5, -⟩ := aN (ps := ["pools", "holders", "place", "asked"]) X G q5 (fun _ _ _ _ _ _ => Cd fun _ _ _ _ => rfl)
 obtain ⟨d6, D6, -⟩ := aN (ps := ["holders", "place", "asked"]) X G q6 (fun _ _ _ _ _ _ => wI fun _ _ _ => rfl)
 obtain ⟨d7, D7, -⟩ := aN (ps := ["holders", "count"]) X G q7 (fun _ _ _ _ _ _ => nW fun _ _ => rfl)
 obtain ⟨d8, D8, -⟩ := aN (ps := ["pattern"]) X G q8 (fun _ _ _ _ _ _ => wB fun _ => rfl)
 obtain ⟨d9, D9, -⟩ := aN (ps := ["pattern"]) X G q9 (fun _ _ _ _ _ _ => wB fun _ => rfl)
 obtain ⟨d10, D10, -⟩ := aN (ps := ["pattern", "tie"]) X G q10 (fun _ _ _ _ _ _ => nW fun _ _ => rfl)
 obtain ⟨d11, D11, -⟩ := aN (ps := ["pattern", "ties"]) X G q11 (fun _ _ _ _ _ _ => nW fun _ _ => rfl)
 obtain ⟨d12, D12, -⟩ := aN (ps := ["row", "steps"]) X G q12 (fun _ _ _ _ _ _ => nW fun _ _ => rfl)
 obtain ⟨d13, D13, -⟩ := aN (ps := ["pattern", "may"]) X G q13 (fun _ _ _ _ _ _ => nW fun _ _ => rfl)
 obtain ⟨d14, D14, -⟩ := aN (ps := ["block", "pattern", "may"]) X G q14 (fun _ _ _ _ _ _ => wI fun _ _ _ => rfl)
 obtain ⟨d15, D15, -⟩ := aN (ps := ["may", "ties"]) X G q15 (fun _ _ _ _ _ _ => nW fun _ _ => rfl)
 obtain ⟨d16, D16, -⟩ := aN (ps := ["pattern", "may", "ties"]) X G q16 (fun _ _ _ _ _ _ => wI fun _ _ _ => rfl)
 obtain ⟨d17, D17, -⟩ := aN (ps := ["may", "ties"]) X G q17 (fun _ _ _ _ _ _ => nW fun _ _ => rfl)
 obtain ⟨d18, D18, -⟩ := aN (ps := ["may"]) X G q18 (fun _ _ _ _ _ _ => wB fun _ => rfl)
 obtain ⟨d19, D19, -⟩ := aN (ps := ["may", "ties", "badges"]) X G q19 (fun _ _ _ _ _ _ => wI fun _ _ _ => rfl)
 obtain ⟨d20, D20, -⟩ := aN (ps := ["plans", "gone"]) X G q20 (fun _ _ _ _ _ _ => nW fun _ _ => rfl)
 obtain ⟨d21, D21, -⟩ := aN (ps := ["hands", "gone"]) X G q21 (fun _ _ _ _ _ _ => nW fun _ _ => rfl)
 obtain ⟨d22, D22, -⟩ := aN (ps := ["script", "k"]) X G q22 (fun _ _ _ _ _ _ => nW fun _ _ => rfl)
 obtain ⟨d23, D23, -⟩ := aN (ps := ["script", "size"]) X G q23 (fun _ _ _ _ _ _ => nW fun _ _ => rfl)
 obtain ⟨d24, D24, -⟩ := aN (ps := ["found"]) X G q24 (fun _ _ _ _ _ _ => wB fun _ => rfl)
 obtain ⟨d25, D25, -⟩ := aN (ps := ["cells", "gap", "high"]) X G q25 (fun _ _ _ _ _ _ => wI fun _ _ _ => rfl)
 obtain ⟨d26, D26, -⟩ := aN (ps := ["cells", "badges", "dense", "top", "count"]) X G q26 (fun _ _ _ _ _ _ => CL fun _ _ _ _ _ => rfl)
 obtain ⟨d27, D27, -⟩ := aN (ps := ["cells", "count"]) X G q27 (fun _ _ _ _ _ _ => nW fun _ _ => rfl)
 obtain ⟨d28, D28, -⟩ := aN (ps := ["script", "sizes", "tops"]) X G q28 (fun _ _ _ _ _ _ => wI fun _ _ _ => rfl)
 obtain ⟨d29, D29, -⟩ := aN (ps := ["pattern"]) X G q29 (fun _ _ _ _ _ _ => wB fun _ => rfl)
 obtain ⟨d30, D30, -⟩ := aN (ps := ["block", "pattern", "bill"]) X G q30 (fun _ _ _ _ _ _ => wI fun _ _ _ => rfl)
 obtain ⟨d31, D31, -⟩ := aN (ps := ["pattern", "tie"]) X G q31 (fun _ _ _ _ _ _ => nW fun _ _ => rfl)
 obtain ⟨d32, D32, -⟩ := aN (ps := ["hands", "tie"]) X G q32 (fun _ _ _ _ _ _ => nW fun _ _ => rfl)
 obtain ⟨d33, D33, -⟩ := aN (ps := ["hands", "bill", "ties"]) X G q33 (fun _ _ _ _ _ _ => wI fun _ _ _ => rfl)
 obtain ⟨d34, D34, -⟩ := aN (ps := ["blocks", "pattern", "bill"]) X G q34 (fun _ _ _ _ _ _ => wI fun _ _ _ => rfl)
 obtain ⟨d35, D35, -⟩ := aN (ps := ["pattern", "bill", "ties", "paper"]) X G q35 (fun _ _ _ _ _ _ => Cd fun _ _ _ _ => rfl)
 obtain ⟨d36, D36, -⟩ := aN (ps := ["bill"]) X G q36 (fun _ _ _ _ _ _ => wB fun _ => rfl)
 obtain ⟨d37, D37, -⟩ := aN (ps := ["bill", "some"]) X G q37 (fun _ _ _ _ _ _ => nW fun _ _ => rfl)
 obtain ⟨d38, D38, -⟩ := aN (ps := ["bill"]) X G q38 (fun _ _ _ _ _ _ => wB fun _ => rfl)
 obtain ⟨d39, D39, -⟩ := aN (ps := ["found"]) X G q39 (fun _ _ _ _ _ _ => wB fun _ => rfl)
 obtain ⟨d40, D40, -⟩ := aN (ps := ["found", "bill", "ties"]) X G q40 (fun _ _ _ _ _ _ => wI fun _ _ _ => rfl)
 exact ⟨dl, fun s v => Bl s [v] rfl, fun base _ _ => Aa (aF := fun i => List.getD [f0, f1, f2, f3, f4, f5, f6, f7, f8, f9, f10, f11, f12, f13, f14, f15, f16, f17, f18, f19, f20, f21, f22, f23, f24, f25, f26, f27, f28, f29, f30, f31, f32, f33, f34, f35, f36, f37, f38, f39, f40, fa, g0] i fa) (dF := fun i => List.getD [d0, d1, d2, d3, d4, d5, d6, d7, d8, d9, d10, d11, d12, d13, d14, d15, d16, d17, d18, d19, d20, d21, d22, d23, d24, d25, d26, d27, d28, d29, d30, d31, d32, d33, d34, d35, d36, d37, d38, d39, d40, dl] i dl) ⟨D0, D1, D2, D3, D4, D5, D6, D7, D8, D9, D10, D11, D12, D13, D14, D15, D16, D17, D18, D19, D20, D21, D22, D23, D24, D25, D26, D27, D28, D29, D30, D31, D32, D33, D34, D35, D36, D37, D38, D39, D40, Dl, n_TooMany, PySem.W.mg_of X G n_TooMany, e_TooMany⟩ T⟩
theorem walk {l : PySem.W.OpenLaw} {q : Program} {loose : List Str} {XP : (Str -> Option Value) -> Heap -> Prop} {YP : World -> Heap -> Prop} {d : DefRec} {K : Params -> PySem.W.Frag} (hn : l.most = some 63) (hdf : d.params.defaults = [])
  (hY : ∀ (w : World) (h : Heap), YP w h -> (K w.params).In h)
  (F : ∀ (w : World) (mg : Str -> Option Value) (fa : Addr) (h : Heap), (K w.params).In h -> h.Ns mainGlobals mg -> mg d.name = some (.ref fa) ->
   ∃ fd : FuncData, (∀ (s : Shared) (u : Value), BindsTo s fd ⟨[u], []⟩ [("script", u)]) /\ ∀ base : Heap, (K w.params).In base -> base.Ns mainGlobals mg -> FnOk l.prog w (K w.params) mg base br 41 fa fd ["script"] (nT (K w.params))) :
  PySem.W.WalkO q loose XP YP l.row.toRowW d [] (fun f vs => PySem.call f vs) :=
 L2.w9 (n := 63) (k := 41) (x := "script") (CX := fun _ => br) (sp := fun w => nT (K w.params)) hn (by decide) hdf ⟨rfl, by decide, by decide⟩ hY F (fun _ _ a ns hl _ hS => ⟨a, ns, rfl, hS, hl, fun _ => rfl⟩) fun _ _ _ _ _ z => z
end My
theorem PySem.W.Fast.tw1011594257670882615 : True := trivial
theorem PySem.W.Fast.tw10136037068533761888 : True := trivial
theorem PySem.W.Fast.tw10152943594930292987 : True := trivial
theorem PySem.W.Fast.tw102255522358318979 : True := trivial
theorem PySem.W.Fast.tw10242007275414144624 : True := trivial
theorem PySem.W.Fast.tw10288799498068955994 : True := trivial
theorem PySem.W.Fast.tw10345859425319699731 : True := trivial
theorem PySem.W.Fast.tw10461372955211599830 : True := trivial
theorem PySem.W.Fast.tw10586548458139328221 : True := trivial
theorem PySem.W.Fast.tw106385713216069156 : True := trivial
theorem PySem.W.Fast.tw10681350391589574986 : True := trivial
theorem PySem.W.Fast.tw10822390460730782910 : True := trivial
theorem PySem.W.Fast.tw10823558482381696553 : True := trivial
theorem PySem.W.Fast.tw10856048811836807366 : True := trivial
theorem PySem.W.Fast.tw10874461446593991050 : True := trivial
theorem PySem.W.Fast.tw10894716169489927990 : True := trivial
theorem PySem.W.Fast.tw10909931022607808205 : True := trivial
theorem PySem.W.Fast.tw10918968960528789839 : True := trivial
theorem PySem.W.Fast.tw10999362308940902500 : True := trivial
theorem PySem.W.Fast.tw11102426110230005553 : True := trivial
theorem PySem.W.Fast.tw11108165246233505975 : True := trivial
theorem PySem.W.Fast.tw11154614239908403845 : True := trivial
theorem PySem.W.Fast.tw11192263132051395693 : True := trivial
theorem PySem.W.Fast.tw11262476201116426703 : True := trivial
theorem PySem.W.Fast.tw11274693283878338643 : True := trivial
theorem PySem.W.Fast.tw11279308988683074470 : True := trivial
theorem PySem.W.Fast.tw1134522477374160124 : True := trivial
theorem PySem.W.Fast.tw11403350083254000559 : True := trivial
theorem PySem.W.Fast.tw11445342021117134249 : True := trivial
theorem PySem.W.Fast.tw11461101999641565597 : True := trivial
theorem PySem.W.Fast.tw11505510077767246440 : True := trivial
theorem PySem.W.Fast.tw11658975961635927632 : True := trivial
theorem PySem.W.Fast.tw1170756846144130890 : True := trivial
theorem PySem.W.Fast.tw11746296767224112510 : True := trivial
theorem PySem.W.Fast.tw11827189779912069298 : True := trivial
theorem PySem.W.Fast.tw11978815764263710293 : True := trivial
theorem PySem.W.Fast.tw1200309108681289130 : True := trivial
theorem PySem.W.Fast.tw12040002767879911899 : True := trivial
theorem PySem.W.Fast.tw12386999594665273952 : True := trivial
theorem PySem.W.Fast.tw12444116520326393994 : True := trivial
theorem PySem.W.Fast.tw1247655038988063926 : True := trivial
theorem PySem.W.Fast.tw12478104902794920224 : True := trivial
theorem PySem.W.Fast.tw12721500994474010670 : True := trivial
theorem PySem.W.Fast.tw12821793779820400698 : True := trivial
theorem PySem.W.Fast.tw13033289254556833016 : True := trivial
theorem PySem.W.Fast.tw13035752409101596005 : True := trivial
theorem PySem.W.Fast.tw1342242068763509435 : True := trivial
theorem PySem.W.Fast.tw1363463213411737857 : True := trivial
theorem PySem.W.Fast.tw13781966932430536112 : True := trivial
theorem PySem.W.Fast.tw13956925743915378982 : True := trivial
theorem PySem.W.Fast.tw14157845997637114196 : True := trivial
theorem PySem.W.Fast.tw14170332242493995633 : True := trivial
theorem PySem.W.Fast.tw14294054692087408060 : True := trivial
theorem PySem.W.Fast.tw1429674353163896268 : True := trivial
theorem PySem.W.Fast.tw14314288672835271517 : True := trivial
theorem PySem.W.Fast.tw14614376266510100263 : True := trivial
theorem PySem.W.Fast.tw14697694101080553207 : True := trivial
theorem PySem.W.Fast.tw14706640912067711076 : True := trivial
theorem PySem.W.Fast.tw14764632878343764124 : True := trivial
theorem PySem.W.Fast.tw14773489584686269699 : True := trivial
theorem PySem.W.Fast.tw14979261327435854545 : True := trivial
theorem PySem.W.Fast.tw15165547607476405040 : True := trivial
theorem PySem.W.Fast.tw1521923273156715549 : True := trivial
theorem PySem.W.Fast.tw15248024611804414819 : True := trivial
theorem PySem.W.Fast.tw15521193826874012552 : True := trivial
theorem PySem.W.Fast.tw15581670221884836847 : True := trivial
theorem PySem.W.Fast.tw15971820803008187382 : True := trivial
theorem PySem.W.Fast.tw15996503616991473172 : True := trivial
theorem PySem.W.Fast.tw16056501262971613399 : True := trivial
theorem PySem.W.Fast.tw16299179355519014283 : True := trivial
theorem PySem.W.Fast.tw1639286615938424519 : True := trivial
theorem PySem.W.Fast.tw16498375246382909545 : True := trivial
theorem PySem.W.Fast.tw16548358499864219179 : True := trivial
theorem PySem.W.Fast.tw16758290096535012298 : True := trivial
theorem PySem.W.Fast.tw16795225337873931915 : True := trivial
theorem PySem.W.Fast.tw16933655848004308310 : True := trivial
theorem PySem.W.Fast.tw16939544585429890240 : True := trivial
theorem PySem.W.Fast.tw17007095475717192294 : True := trivial
theorem PySem.W.Fast.tw17150382199456125813 : True := trivial
theorem PySem.W.Fast.tw17171903647096588921 : True := trivial
theorem PySem.W.Fast.tw17199974518969777841 : True := trivial
theorem PySem.W.Fast.tw17242311486801729054 : True := trivial
theorem PySem.W.Fast.tw17335560449272672163 : True := trivial
theorem PySem.W.Fast.tw17630589588207076431 : True := trivial
theorem PySem.W.Fast.tw17754593676371986269 : True := trivial
theorem PySem.W.Fast.tw1776372301906832394 : True := trivial
theorem PySem.W.Fast.tw17845118006668331538 : True := trivial
theorem PySem.W.Fast.tw17870199887770248317 : True := trivial
theorem PySem.W.Fast.tw17891666476270847868 : True := trivial
theorem PySem.W.Fast.tw18014812832963140987 : True := trivial
theorem PySem.W.Fast.tw18030201269796024879 : True := trivial
theorem PySem.W.Fast.tw18106440904147285013 : True := trivial
theorem PySem.W.Fast.tw18169334803791120714 : True := trivial
theorem PySem.W.Fast.tw18268446843768486079 : True := trivial
theorem PySem.W.Fast.tw1853527370938503321 : True := trivial
theorem PySem.W.Fast.tw1894280130757441933 : True := trivial
theorem PySem.W.Fast.tw1916547061080030572 : True := trivial
theorem PySem.W.Fast.tw1967599133452639277 : True := trivial
theorem PySem.W.Fast.tw2154821650638799626 : True := trivial
theorem PySem.W.Fast.tw2330867043305446162 : True := trivial
theorem PySem.W.Fast.tw2423699890036155664 : True := trivial
theorem PySem.W.Fast.tw2728129887092078634 : True := trivial
theorem PySem.W.Fast.tw2849948858357529285 : True := trivial
theorem PySem.W.Fast.tw2898512267879112151 : True := trivial
theorem PySem.W.Fast.tw2901018179188613706 : True := trivial
theorem PySem.W.Fast.tw3000106753123710714 : True := trivial
theorem PySem.W.Fast.tw3023337711354299396 : True := trivial
theorem PySem.W.Fast.tw3075997261475036286 : True := trivial
theorem PySem.W.Fast.tw326344589622694887 : True := trivial
theorem PySem.W.Fast.tw3398771474739076080 : True := trivial
theorem PySem.W.Fast.tw3649008589973625843 : True := trivial
theorem PySem.W.Fast.tw3663415362478846138 : True := trivial
theorem PySem.W.Fast.tw3734638468354600740 : True := trivial
theorem PySem.W.Fast.tw3812554458096411771 : True := trivial
theorem PySem.W.Fast.tw3999437495084861669 : True := trivial
theorem PySem.W.Fast.tw4036567955666592233 : True := trivial
theorem PySem.W.Fast.tw4134782452307831933 : True := trivial
theorem PySem.W.Fast.tw4174127917584689295 : True := trivial
theorem PySem.W.Fast.tw418671237423072036 : True := trivial
theorem PySem.W.Fast.tw4307941401067530254 : True := trivial
theorem PySem.W.Fast.tw4363639524810234493 : True := trivial
theorem PySem.W.Fast.tw437862003161525221 : True := trivial
theorem PySem.W.Fast.tw4418988082381432134 : True := trivial
theorem PySem.W.Fast.tw4497636101363570721 : True := trivial
theorem PySem.W.Fast.tw4536888955239090350 : True := trivial
theorem PySem.W.Fast.tw4746211668540290598 : True := trivial
theorem PySem.W.Fast.tw4820984317803326962 : True := trivial
theorem PySem.W.Fast.tw5002879465390077776 : True := trivial
theorem PySem.W.Fast.tw5062760459995195097 : True := trivial
theorem PySem.W.Fast.tw5181848459130405232 : True := trivial
theorem PySem.W.Fast.tw5207599349887341455 : True := trivial
theorem PySem.W.Fast.tw5362815582458674800 : True := trivial
theorem PySem.W.Fast.tw5379142518386960502 : True := trivial
theorem PySem.W.Fast.tw5427752921426877848 : True := trivial
theorem PySem.W.Fast.tw546253710089332513 : True := trivial
theorem PySem.W.Fast.tw5496173581435387172 : True := trivial
theorem PySem.W.Fast.tw5521481686107051288 : True := trivial
theorem PySem.W.Fast.tw5691338543269553736 : True := trivial
theorem PySem.W.Fast.tw5697001601365065682 : True := trivial
theorem PySem.W.Fast.tw5824353341063722733 : True := trivial
theorem PySem.W.Fast.tw58376534892429001 : True := trivial
theorem PySem.W.Fast.tw5846271636385803607 : True := trivial
theorem PySem.W.Fast.tw5989391262925437350 : True := trivial
theorem PySem.W.Fast.tw6007142602782876058 : True := trivial
theorem PySem.W.Fast.tw6104161888994607238 : True := trivial
theorem PySem.W.Fast.tw619783000053721043 : True := trivial
theorem PySem.W.Fast.tw6339453128633830469 : True := trivial
theorem PySem.W.Fast.tw6436128191712289922 : True := trivial
theorem PySem.W.Fast.tw6540071214156303667 : True := trivial
theorem PySem.W.Fast.tw6609719266150895930 : True := trivial
theorem PySem.W.Fast.tw6615459672590536449 : True := trivial
theorem PySem.W.Fast.tw6786621838440833858 : True := trivial
theorem PySem.W.Fast.tw6801101796804180709 : True := trivial
theorem PySem.W.Fast.tw6812339481900752926 : True := trivial
theorem PySem.W.Fast.tw6897929686373594544 : True := trivial
theorem PySem.W.Fast.tw7018782391674537037 : True := trivial
theorem PySem.W.Fast.tw7039761889102532605 : True := trivial
theorem PySem.W.Fast.tw7144111676560196111 : True := trivial
theorem PySem.W.Fast.tw7172148966160889476 : True := trivial
theorem PySem.W.Fast.tw7606281679324343972 : True := trivial
theorem PySem.W.Fast.tw774522103939544678 : True := trivial
theorem PySem.W.Fast.tw7813237433507957718 : True := trivial
theorem PySem.W.Fast.tw7939600624043839303 : True := trivial
theorem PySem.W.Fast.tw8022480149988187196 : True := trivial
theorem PySem.W.Fast.tw8095937042627155036 : True := trivial
theorem PySem.W.Fast.tw8378224433968769916 : True := trivial
theorem PySem.W.Fast.tw8410351509436807303 : True := trivial
theorem PySem.W.Fast.tw8552577446476454404 : True := trivial
theorem PySem.W.Fast.tw8690577296292331469 : True := trivial
theorem PySem.W.Fast.tw882999334008837785 : True := trivial
theorem PySem.W.Fast.tw900850045167295460 : True := trivial
theorem PySem.W.Fast.tw9139643194374534449 : True := trivial
theorem PySem.W.Fast.tw9171127694175879161 : True := trivial
theorem PySem.W.Fast.tw9344201374705993818 : True := trivial
theorem PySem.W.Fast.tw9364365703742219806 : True := trivial
theorem PySem.W.Fast.tw9378797368253764275 : True := trivial
theorem PySem.W.Fast.tw9391158359527000838 : True := trivial
theorem PySem.W.Fast.tw9489021257022294617 : True := trivial
theorem PySem.W.Fast.tw9572056486185366854 : True := trivial
theorem PySem.W.Fast.tw9662117031096515836 : True := trivial
theorem PySem.W.Fast.tw9747441173137679425 : True := trivial
open PySem PySem.W PyProof.Rows
set_option maxRecDepth 100000 in
set_option maxHeartbeats 0 in
theorem PySem.Challenge.cw_deskround_k41_what_stops_holds : PySem.Challenge.rw_deskround_k41_what_stops.Holds := by
 w_on; o_law; k_head; (case hw => w_witness2)
 k_fill
 refine My.walk (l := PySem.Challenge.rw_deskround_k41_what_stops) rfl rfl (fun w h Y => PySem.W.kIn_of Y) ?F
 case F =>
  intro w mg fa h KX G hmg
  refine' My.Ab KX G hmg ?q0 ?q1 ?q2 ?q3 ?q4 ?q5 ?q6 ?q7 ?q8 ?q9 ?q10 ?q11 ?q12 ?q13 ?q14 ?q15 ?q16 ?q17 ?q18 ?q19 ?q20 ?q21 ?q22 ?q23 ?q24 ?q25 ?q26 ?q27 ?q28 ?q29 ?q30 ?q31 ?q32 ?q33 ?q34 ?q35 ?q36 ?q37 ?q38 ?q39 ?q40 ?q41 ?z0 ?z1 ?z2 ?z3 ?z4 ?z5 ?z6 ?z7 ?z8 ?z9 ?z10 ?z11 ?z12 ?n_TooMany ?e_TooMany
  (case q0 => refine' My.aO ?a ?l ?c ?k; (case a => k_is); (case l => k_is); (case c => k_is); (case k => k_is))
  (case q1 => refine' My.aO ?a ?l ?c ?k; (case a => k_is); (case l => k_is); (case c => k_is); (case k => k_is))
  (case q2 => refine' My.aO ?a ?l ?c ?k; (case a => k_is); (case l => k_is); (case c => k_is); (case k => k_is))
  (case q3 => refine' My.aO ?a ?l ?c ?k; (case a => k_is); (case l => k_is); (case c => k_is); (case k => k_is))
  (case q4 => refine' My.aO ?a ?l ?c ?k; (case a => k_is); (case l => k_is); (case c => k_is); (case k => k_is))
  (case q5 => refine' My.aO ?a ?l ?c ?k; (case a => k_is); (case l => k_is); (case c => k_is); (case k => k_is))
  (case q6 => refine' My.aO ?a ?l ?c ?k; (case a => k_is); (case l => k_is); (case c => k_is); (case k => k_is))
  (case q7 => refine' My.aO ?a ?l ?c ?k; (case a => k_is); (case l => k_is); (case c => k_is); (case k => k_is))
  (case q8 => refine' My.aO ?a ?l ?c ?k; (case a => k_is); (case l => k_is); (case c => k_is); (case k => k_is))
  (case q9 => refine' My.aO ?a ?l ?c ?k; (case a => k_is); (case l => k_is); (case c => k_is); (case k => k_is))
  (case q10 => refine' My.aO ?a ?l ?c ?k; (case a => k_is); (case l => k_is); (case c => k_is); (case k => k_is))
  (case q11 => refine' My.aO ?a ?l ?c ?k; (case a => k_is); (case l => k_is); (case c => k_is); (case k => k_is))
  (case q12 => refine' My.aO ?a ?l ?c ?k; (case a => k_is); (case l => k_is); (case c => k_is); (case k => k_is))
  (case q13 => refine' My.aO ?a ?l ?c ?k; (case a => k_is); (case l => k_is); (case c => k_is); (case k => k_is))
  (case q14 => refine' My.aO ?a ?l ?c ?k; (case a => k_is); (case l => k_is); (case c => k_is); (case k => k_is))
  (case q15 => refine' My.aO ?a ?l ?c ?k; (case a => k_is); (case l => k_is); (case c => k_is); (case k => k_is))
  (case q16 => refine' My.aO ?a ?l ?c ?k; (case a => k_is); (case l => k_is); (case c => k_is); (case k => k_is))
  (case q17 => refine' My.aO ?a ?l ?c ?k; (case a => k_is); (case l => k_is); (case c => k_is); (case k => k_is))
  (case q18 => refine' My.aO ?a ?l ?c ?k; (case a => k_is); (case l => k_is); (case c => k_is); (case k => k_is))
  (case q19 => refine' My.aO ?a ?l ?c ?k; (case a => k_is); (case l => k_is); (case c => k_is); (case k => k_is))
  (case q20 => refine' My.aO ?a ?l ?c ?k; (case a => k_is); (case l => k_is); (case c => k_is); (case k => k_is))
  (case q21 => refine' My.aO ?a ?l ?c ?k; (case a => k_is); (case l => k_is); (case c => k_is); (case k => k_is))
  (case q22 => refine' My.aO ?a ?l ?c ?k; (case a => k_is); (case l => k_is); (case c => k_is); (case k => k_is))
  (case q23 => refine' My.aO ?a ?l ?c ?k; (case a => k_is); (case l => k_is); (case c => k_is); (case k => k_is))
  (case q24 => refine' My.aO ?a ?l ?c ?k; (case a => k_is); (case l => k_is); (case c => k_is); (case k => k_is))
  (case q25 => refine' My.aO ?a ?l ?c ?k; (case a => k_is); (case l => k_is); (case c => k_is); (case k => k_is))
  (case q26 => refine' My.aO ?a ?l ?c ?k; (case a => k_is); (case l => k_is); (case c => k_is); (case k => k_is))
  (case q27 => refine' My.aO ?a ?l ?c ?k; (case a => k_is); (case l => k_is); (case c => k_is); (case k => k_is))
  (case q28 => refine' My.aO ?a ?l ?c ?k; (case a => k_is); (case l => k_is); (case c => k_is); (case k => k_is))
  (case q29 => refine' My.aO ?a ?l ?c ?k; (case a => k_is); (case l => k_is); (case c => k_is); (case k => k_is))
  (case q30 => refine' My.aO ?a ?l ?c ?k; (case a => k_is); (case l => k_is); (case c => k_is); (case k => k_is))
  (case q31 => refine' My.aO ?a ?l ?c ?k; (case a => k_is); (case l => k_is); (case c => k_is); (case k => k_is))
  (case q32 => refine' My.aO ?a ?l ?c ?k; (case a => k_is); (case l => k_is); (case c => k_is); (case k => k_is))
  (case q33 => refine' My.aO ?a ?l ?c ?k; (case a => k_is); (case l => k_is); (case c => k_is); (case k => k_is))
  (case q34 => refine' My.aO ?a ?l ?c ?k; (case a => k_is); (case l => k_is); (case c => k_is); (case k => k_is))
  (case q35 => refine' My.aO ?a ?l ?c ?k; (case a => k_is); (case l => k_is); (case c => k_is); (case k => k_is))
  (case q36 => refine' My.aO ?a ?l ?c ?k; (case a => k_is); (case l => k_is); (case c => k_is); (case k => k_is))
  (case q37 => refine' My.aO ?a ?l ?c ?k; (case a => k_is); (case l => k_is); (case c => k_is); (case k => k_is))
  (case q38 => refine' My.aO ?a ?l ?c ?k; (case a => k_is); (case l => k_is); (case c => k_is); (case k => k_is))
  (case q39 => refine' My.aO ?a ?l ?c ?k; (case a => k_is); (case l => k_is); (case c => k_is); (case k => k_is))
  (case q40 => refine' My.aO ?a ?l ?c ?k; (case a => k_is); (case l => k_is); (case c => k_is); (case k => k_is))
  (case q41 => refine' My.aO ?a ?l ?c ?k; (case a => k_is); (case l => k_is); (case c => k_is); (case k => k_is))
  (case z0 => k_is); (case z1 => k_is); (case z2 => k_is); (case z3 => k_is); (case z4 => k_is); (case z5 => k_is); (case z6 => k_is); (case z7 => k_is); (case z8 => k_is); (case z9 => k_is); (case z10 => k_is); (case z11 => k_is); (case z12 => k_is)
  (case n_TooMany => k_is)
  (case e_TooMany => k_exc)
end
